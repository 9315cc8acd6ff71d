package forms_test

import (
	"go/ast"
	"go/parser"
	"go/token"
	"path/filepath"
	"slices"
	"strconv"
	"strings"
	"testing"
)

// libraryPackages are those that LANGUAGE.md allows: no clock, no random source, no file, no network, no printing.
func libraryPackages() []string {
	return strings.Fields("bytes cmp container/heap errors iter maps math math/big math/bits slices sort strconv strings sync sync/atomic unicode unicode/utf8")
}

// sources are the package's own files, without its tests.
func sources(t *testing.T) []*ast.File {
	t.Helper()
	names, err := filepath.Glob("*.go")
	if err != nil {
		t.Fatal(err)
	}
	var out []*ast.File
	for _, name := range names {
		if strings.HasSuffix(name, "_test.go") {
			continue
		}
		f, err := parser.ParseFile(token.NewFileSet(), name, nil, 0)
		if err != nil {
			t.Fatal(err)
		}
		out = append(out, f)
	}
	if len(out) == 0 {
		t.Fatal("no files")
	}
	return out
}

// layersBelow are those that the document's map lets this layer stand on.
func layersBelow() []string { return []string{"dapple/api", "dapple/read"} }

func TestStandsOnWhatTheMapSays(t *testing.T) {
	for _, f := range sources(t) {
		for _, i := range f.Imports {
			path, err := strconv.Unquote(i.Path.Value)
			if err != nil {
				t.Fatal(err)
			}
			if !slices.Contains(layersBelow(), path) && !slices.Contains(libraryPackages(), path) {
				t.Errorf("%s is imported", path)
			}
		}
	}
}

// functions are the package's own, by their names.
func functions(t *testing.T) map[string]*ast.FuncDecl {
	out := map[string]*ast.FuncDecl{}
	for _, f := range sources(t) {
		for _, d := range f.Decls {
			if fun, ok := d.(*ast.FuncDecl); ok {
				out[fun.Name.Name] = fun
			}
		}
	}
	return out
}

// calls tells whether a built-in function is called in a piece of code.
func calls(in ast.Node, name string) bool {
	found := false
	ast.Inspect(in, func(n ast.Node) bool {
		if c, ok := n.(*ast.CallExpr); ok {
			f, ok := c.Fun.(*ast.Ident)
			found = found || ok && f.Name == name
		}
		return true
	})
	return found
}

// TestGivenUpByPanic: deep inside, and recovered by Of itself in a deferred function.
func TestGivenUpByPanic(t *testing.T) {
	panics, recovers := false, false
	for name, fun := range functions(t) {
		if name != "Of" {
			panics = panics || calls(fun, "panic")
			continue
		}
		ast.Inspect(fun, func(n ast.Node) bool {
			if d, ok := n.(*ast.DeferStmt); ok {
				literal, ok := d.Call.Fun.(*ast.FuncLit)
				recovers = recovers || ok && calls(literal, "recover")
			}
			return true
		})
	}
	if !panics || !recovers {
		t.Errorf("a panic: %t; recovered in Of: %t", panics, recovers)
	}
}

// TestTableOfKeywords: a map that a function makes has a method expression for each of them.
func TestTableOfKeywords(t *testing.T) {
	var words []string
	for _, fun := range functions(t) {
		ast.Inspect(fun, func(n ast.Node) bool {
			literal, ok := n.(*ast.CompositeLit)
			if !ok {
				return true
			}
			if _, ok := literal.Type.(*ast.MapType); !ok {
				return true
			}
			for _, element := range literal.Elts {
				words = append(words, methodOf(t, element)...)
			}
			return true
		})
	}
	want := keywords()
	slices.Sort(want)
	slices.Sort(words)
	if !slices.Equal(words, want) {
		t.Errorf("%q, not %q", words, want)
	}
}

// methodOf is the key of a map's element whose value is a method expression: (*T).name.
func methodOf(t *testing.T, element ast.Expr) []string {
	pair, ok := element.(*ast.KeyValueExpr)
	if !ok {
		return nil
	}
	key, isText := pair.Key.(*ast.BasicLit)
	value, isSelector := pair.Value.(*ast.SelectorExpr)
	if !isText || !isSelector {
		return nil
	}
	if _, ok := value.X.(*ast.ParenExpr); !ok {
		return nil
	}
	word, err := strconv.Unquote(key.Value)
	if err != nil {
		t.Fatal(err)
	}
	return []string{word}
}

// TestNothingIsKept: at package level stand arrays that are written out, and no other variable, so that no call can tell what others were asked.
func TestNothingIsKept(t *testing.T) {
	for _, f := range sources(t) {
		for _, d := range f.Decls {
			g, ok := d.(*ast.GenDecl)
			if !ok || g.Tok != token.VAR {
				continue
			}
			for _, spec := range g.Specs {
				if v := spec.(*ast.ValueSpec); !isArray(v) {
					t.Errorf("%s stands at package level", v.Names[0].Name)
				}
			}
		}
	}
}

// isArray tells whether a variable's value is an array that is written out.
func isArray(v *ast.ValueSpec) bool {
	if len(v.Values) != 1 {
		return false
	}
	literal, ok := v.Values[0].(*ast.CompositeLit)
	if !ok {
		return false
	}
	a, ok := literal.Type.(*ast.ArrayType)
	return ok && a.Len != nil
}
