package code_test

import (
	"go/ast"
	"go/parser"
	"go/token"
	"path/filepath"
	"slices"
	"strconv"
	"strings"
	"testing"
)

// libraryPackages are those that LANGUAGE.md allows: no clock, no random source, no file, no network, no printing.
func libraryPackages() []string {
	return strings.Fields("bytes cmp container/heap errors iter maps math math/big math/bits slices sort strconv strings sync sync/atomic unicode unicode/utf8")
}

// sources are the package's own files, without its tests.
func sources(t *testing.T) []*ast.File {
	t.Helper()
	names, err := filepath.Glob("*.go")
	if err != nil {
		t.Fatal(err)
	}
	var out []*ast.File
	for _, name := range names {
		if strings.HasSuffix(name, "_test.go") {
			continue
		}
		f, err := parser.ParseFile(token.NewFileSet(), name, nil, 0)
		if err != nil {
			t.Fatal(err)
		}
		out = append(out, f)
	}
	if len(out) == 0 {
		t.Fatal("no files")
	}
	return out
}

// layersBelow are those that the document's map lets this layer stand on.
func layersBelow() []string { return []string{"dapple/api", "dapple/words", "dapple/lex"} }

func TestStandsOnWhatTheMapSays(t *testing.T) {
	for _, f := range sources(t) {
		for _, i := range f.Imports {
			path, err := strconv.Unquote(i.Path.Value)
			if err != nil {
				t.Fatal(err)
			}
			if !slices.Contains(layersBelow(), path) && !slices.Contains(libraryPackages(), path) {
				t.Errorf("%s is imported", path)
			}
		}
	}
}

// tables are the arrays at package level that are written out.
func tables(t *testing.T) []*ast.CompositeLit {
	var out []*ast.CompositeLit
	for _, f := range sources(t) {
		for _, d := range f.Decls {
			g, ok := d.(*ast.GenDecl)
			if !ok || g.Tok != token.VAR {
				continue
			}
			for _, spec := range g.Specs {
				literal, ok := arrayOf(spec.(*ast.ValueSpec))
				if !ok {
					t.Errorf("%s stands at package level", spec.(*ast.ValueSpec).Names[0].Name)
					continue
				}
				out = append(out, literal)
			}
		}
	}
	return out
}

// arrayOf is a variable's value, if it is an array that is written out.
func arrayOf(v *ast.ValueSpec) (*ast.CompositeLit, bool) {
	if len(v.Values) != 1 {
		return nil, false
	}
	literal, ok := v.Values[0].(*ast.CompositeLit)
	if !ok {
		return nil, false
	}
	a, ok := literal.Type.(*ast.ArrayType)
	return literal, ok && a.Len != nil
}

// TestNothingIsKept: at package level stand arrays that are written out, and no other variable, so that no call can tell what others were asked.
func TestNothingIsKept(t *testing.T) {
	if len(tables(t)) == 0 {
		t.Error("no tables")
	}
}

// TestArrayOfTexts: what instructions are called is written out by their Ops.
func TestArrayOfTexts(t *testing.T) {
	var found []string
	for _, literal := range tables(t) {
		if element, ok := literal.Type.(*ast.ArrayType).Elt.(*ast.Ident); !ok || element.Name != "string" {
			continue
		}
		for _, e := range literal.Elts {
			pair, ok := e.(*ast.KeyValueExpr)
			if !ok {
				continue
			}
			key, isOp := pair.Key.(*ast.SelectorExpr)
			value, isText := pair.Value.(*ast.BasicLit)
			if isOp && isText && strings.EqualFold("Op"+strings.Trim(value.Value, `"`), key.Sel.Name) {
				found = append(found, strings.Trim(value.Value, `"`))
			}
		}
	}
	if !slices.Equal(found, opWords()) {
		t.Errorf("%q, not %q", found, opWords())
	}
}

// TestLinesAreCutByAClosure: a function gives one out that cuts a piece off a text.
func TestLinesAreCutByAClosure(t *testing.T) {
	cuts := false
	for _, f := range sources(t) {
		ast.Inspect(f, func(n ast.Node) bool {
			if literal, ok := n.(*ast.FuncLit); ok {
				ast.Inspect(literal, func(n ast.Node) bool {
					_, ok := n.(*ast.SliceExpr)
					cuts = cuts || ok
					return true
				})
			}
			return true
		})
	}
	if !cuts {
		t.Error("no closure cuts")
	}
}
