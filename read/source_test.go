package read_test

import (
	"go/ast"
	"go/parser"
	"go/token"
	"path/filepath"
	"slices"
	"strconv"
	"strings"
	"testing"
)

// libraryPackages are those that LANGUAGE.md allows: no clock, no random source, no file, no network, no printing.
func libraryPackages() []string {
	return strings.Fields("bytes cmp container/heap errors iter maps math math/big math/bits slices sort strconv strings sync sync/atomic unicode unicode/utf8")
}

// sources are the package's own files, without its tests.
func sources(t *testing.T) []*ast.File {
	t.Helper()
	names, err := filepath.Glob("*.go")
	if err != nil {
		t.Fatal(err)
	}
	var out []*ast.File
	for _, name := range names {
		if strings.HasSuffix(name, "_test.go") {
			continue
		}
		f, err := parser.ParseFile(token.NewFileSet(), name, nil, 0)
		if err != nil {
			t.Fatal(err)
		}
		out = append(out, f)
	}
	if len(out) == 0 {
		t.Fatal("no files")
	}
	return out
}

// layersBelow are those that the document's map lets this layer stand on.
func layersBelow() []string { return []string{"dapple/api", "dapple/lex"} }

func TestStandsOnWhatTheMapSays(t *testing.T) {
	for _, f := range sources(t) {
		for _, i := range f.Imports {
			path, err := strconv.Unquote(i.Path.Value)
			if err != nil {
				t.Fatal(err)
			}
			if !slices.Contains(layersBelow(), path) && !slices.Contains(libraryPackages(), path) {
				t.Errorf("%s is imported", path)
			}
		}
	}
}

// calls tells whether a built-in function is called in a piece of code.
func calls(in ast.Node, name string) bool {
	found := false
	ast.Inspect(in, func(n ast.Node) bool {
		if c, ok := n.(*ast.CallExpr); ok {
			f, ok := c.Fun.(*ast.Ident)
			found = found || ok && f.Name == name
		}
		return true
	})
	return found
}

// TestWays: what is wrong is given up by a panic, which Read itself recovers in a deferred function; Write is variadic.
func TestWays(t *testing.T) {
	panics, recovers, variadic := false, false, false
	for _, f := range sources(t) {
		panics = panics || calls(f, "panic")
		for _, d := range f.Decls {
			fun, ok := d.(*ast.FuncDecl)
			if !ok {
				continue
			}
			if fun.Name.Name == "Write" {
				_, variadic = fun.Type.Params.List[0].Type.(*ast.Ellipsis)
			}
			if fun.Name.Name != "Read" {
				continue
			}
			ast.Inspect(fun, func(n ast.Node) bool {
				if d, ok := n.(*ast.DeferStmt); ok {
					literal, ok := d.Call.Fun.(*ast.FuncLit)
					recovers = recovers || ok && calls(literal, "recover")
				}
				return true
			})
		}
	}
	if !panics || !recovers || !variadic {
		t.Errorf("a panic: %t; recovered in Read: %t; Write is variadic: %t", panics, recovers, variadic)
	}
}

// TestNothingIsKept: no variable stands at package level, so that no call can tell what others were asked.
func TestNothingIsKept(t *testing.T) {
	for _, f := range sources(t) {
		for _, d := range f.Decls {
			if g, ok := d.(*ast.GenDecl); ok && g.Tok == token.VAR {
				t.Errorf("a variable at package level in %s", f.Name.Name)
			}
		}
	}
}
