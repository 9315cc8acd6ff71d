package shake_test

import (
	"go/ast"
	"go/parser"
	"go/token"
	"path/filepath"
	"slices"
	"strconv"
	"strings"
	"testing"
)

// libraryPackages are those that LANGUAGE.md allows: no clock, no random source, no file, no network, no printing.
func libraryPackages() []string {
	return strings.Fields("bytes cmp container/heap errors iter maps math math/big math/bits slices sort strconv strings sync sync/atomic unicode unicode/utf8")
}

// sources are the package's own files, without its tests.
func sources(t *testing.T) []*ast.File {
	t.Helper()
	names, err := filepath.Glob("*.go")
	if err != nil {
		t.Fatal(err)
	}
	var out []*ast.File
	for _, name := range names {
		if strings.HasSuffix(name, "_test.go") {
			continue
		}
		f, err := parser.ParseFile(token.NewFileSet(), name, nil, 0)
		if err != nil {
			t.Fatal(err)
		}
		out = append(out, f)
	}
	if len(out) == 0 {
		t.Fatal("no files")
	}
	return out
}

// layersBelow are those that the document's map lets this layer stand on.
func layersBelow() []string { return []string{"dapple/api"} }

func TestStandsOnWhatTheMapSays(t *testing.T) {
	for _, f := range sources(t) {
		for _, i := range f.Imports {
			path, err := strconv.Unquote(i.Path.Value)
			if err != nil {
				t.Fatal(err)
			}
			if !slices.Contains(layersBelow(), path) && !slices.Contains(libraryPackages(), path) {
				t.Errorf("%s is imported", path)
			}
		}
	}
}

// TestNothingIsKept: at package level stands no variable, so that no Shake can know of another one.
func TestNothingIsKept(t *testing.T) {
	for _, f := range sources(t) {
		for _, d := range f.Decls {
			if g, ok := d.(*ast.GenDecl); ok && g.Tok == token.VAR {
				t.Errorf("%s stands at package level", g.Specs[0].(*ast.ValueSpec).Names[0].Name)
			}
		}
	}
}

// structs are the package's own struct types, by their names.
func structs(t *testing.T) map[string]*ast.StructType {
	out := map[string]*ast.StructType{}
	for _, f := range sources(t) {
		ast.Inspect(f, func(n ast.Node) bool {
			if x, ok := n.(*ast.TypeSpec); ok {
				if s, ok := x.Type.(*ast.StructType); ok {
					out[x.Name.Name] = s
				}
			}
			return true
		})
	}
	return out
}

// TestThreadsStandInAnArrayOfStructs: a Shake has a field that is an array, of a struct of the package's own; and no slice, map or pointer.
func TestThreadsStandInAnArrayOfStructs(t *testing.T) {
	all := structs(t)
	if all["Shake"] == nil {
		t.Fatal("Shake is no struct")
	}
	arrays := 0
	for _, field := range all["Shake"].Fields.List {
		switch x := field.Type.(type) {
		case *ast.ArrayType:
			element, ok := x.Elt.(*ast.Ident)
			if x.Len == nil || !ok || all[element.Name] == nil {
				t.Error("it is no array of structs")
				continue
			}
			arrays++
		case *ast.MapType, *ast.StarExpr:
			t.Error("it has a map or a pointer")
		}
	}
	if arrays != 1 {
		t.Errorf("%d arrays of structs", arrays)
	}
}

// TestLeftRangesOverAnInteger: what Left goes through is a number: its range is over a name or a sum of names and numbers, with one variable at most.
func TestLeftRangesOverAnInteger(t *testing.T) {
	ranges := 0
	for _, f := range sources(t) {
		for _, d := range f.Decls {
			fn, ok := d.(*ast.FuncDecl)
			if !ok || fn.Name.Name != "Left" {
				continue
			}
			ast.Inspect(fn, func(n ast.Node) bool {
				switch x := n.(type) {
				case *ast.ForStmt:
					t.Error("Left counts by itself")
				case *ast.RangeStmt:
					if x.Value != nil {
						t.Error("Left ranges over what is no integer")
					}
					ranges++
				}
				return true
			})
		}
	}
	if ranges != 1 {
		t.Errorf("%d ranges", ranges)
	}
}
