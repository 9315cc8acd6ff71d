package graph_test

import (
	"go/ast"
	"go/parser"
	"go/token"
	"path/filepath"
	"slices"
	"strconv"
	"strings"
	"testing"
)

// libraryPackages are those that LANGUAGE.md allows: no clock, no random source, no file, no network, no printing.
func libraryPackages() []string {
	return strings.Fields("bytes cmp container/heap errors iter maps math math/big math/bits slices sort strconv strings sync sync/atomic unicode unicode/utf8")
}

// sources are the package's own files, without its tests.
func sources(t *testing.T) []*ast.File {
	t.Helper()
	names, err := filepath.Glob("*.go")
	if err != nil {
		t.Fatal(err)
	}
	var out []*ast.File
	for _, name := range names {
		if strings.HasSuffix(name, "_test.go") {
			continue
		}
		f, err := parser.ParseFile(token.NewFileSet(), name, nil, 0)
		if err != nil {
			t.Fatal(err)
		}
		out = append(out, f)
	}
	if len(out) == 0 {
		t.Fatal("no files")
	}
	return out
}

// layersBelow are those that the document's map lets this layer stand on.
func layersBelow() []string { return []string{"dapple/api", "dapple/words"} }

func TestStandsOnWhatTheMapSays(t *testing.T) {
	for _, f := range sources(t) {
		for _, i := range f.Imports {
			path, err := strconv.Unquote(i.Path.Value)
			if err != nil {
				t.Fatal(err)
			}
			if !slices.Contains(layersBelow(), path) && !slices.Contains(libraryPackages(), path) {
				t.Errorf("%s is imported", path)
			}
		}
	}
}

// TestNothingIsKept: at package level stands no variable, so that no call can tell what others were asked.
func TestNothingIsKept(t *testing.T) {
	for _, f := range sources(t) {
		for _, d := range f.Decls {
			if g, ok := d.(*ast.GenDecl); ok && g.Tok == token.VAR {
				t.Errorf("%s stands at package level", g.Specs[0].(*ast.ValueSpec).Names[0].Name)
			}
		}
	}
}

// TestRootsComeOneByOne: each call that takes roots is variadic.
func TestRootsComeOneByOne(t *testing.T) {
	var variadic []string
	for _, f := range sources(t) {
		for _, d := range f.Decls {
			fn, ok := d.(*ast.FuncDecl)
			if !ok || fn.Recv != nil || !fn.Name.IsExported() {
				continue
			}
			params := fn.Type.Params.List
			if _, ok := params[len(params)-1].Type.(*ast.Ellipsis); ok {
				variadic = append(variadic, fn.Name.Name)
			}
		}
	}
	slices.Sort(variadic)
	if want := strings.Fields("Form Order Path Reach"); !slices.Equal(variadic, want) {
		t.Errorf("%q, not %q", variadic, want)
	}
}

// TestClosures: what is done with each word that is met is one, in the walk and in what the calls hand to it.
func TestClosures(t *testing.T) {
	handed, within := 0, 0
	for _, f := range sources(t) {
		ast.Inspect(f, func(n ast.Node) bool {
			switch x := n.(type) {
			case *ast.CallExpr:
				for _, a := range x.Args {
					if _, ok := a.(*ast.FuncLit); ok {
						handed++
					}
				}
			case *ast.AssignStmt:
				for _, v := range x.Rhs {
					if _, ok := v.(*ast.FuncLit); ok {
						within++
					}
				}
			}
			return true
		})
	}
	if handed < 3 || within == 0 {
		t.Errorf("%d closures are handed on, %d are named", handed, within)
	}
}
