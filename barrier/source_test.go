package barrier_test

import (
	"go/ast"
	"go/parser"
	"go/token"
	"path/filepath"
	"slices"
	"strconv"
	"strings"
	"testing"
)

// libraryPackages are those that LANGUAGE.md allows: no clock, no random source, no file, no network, no printing.
func libraryPackages() []string {
	return strings.Fields("bytes cmp container/heap errors iter maps math math/big math/bits slices sort strconv strings sync sync/atomic unicode unicode/utf8")
}

// sources are the package's own files, without its tests.
func sources(t *testing.T) []*ast.File {
	t.Helper()
	names, err := filepath.Glob("*.go")
	if err != nil {
		t.Fatal(err)
	}
	var out []*ast.File
	for _, name := range names {
		if strings.HasSuffix(name, "_test.go") {
			continue
		}
		f, err := parser.ParseFile(token.NewFileSet(), name, nil, 0)
		if err != nil {
			t.Fatal(err)
		}
		out = append(out, f)
	}
	if len(out) == 0 {
		t.Fatal("no files")
	}
	return out
}

// layersBelow are those that the document's map lets this layer stand on.
func layersBelow() []string { return []string{"dapple/api", "dapple/words"} }

func TestStandsOnWhatTheMapSays(t *testing.T) {
	for _, f := range sources(t) {
		for _, i := range f.Imports {
			path, err := strconv.Unquote(i.Path.Value)
			if err != nil {
				t.Fatal(err)
			}
			if !slices.Contains(layersBelow(), path) && !slices.Contains(libraryPackages(), path) {
				t.Errorf("%s is imported", path)
			}
		}
	}
}

// TestNothingIsKept: at package level stands no variable, so that no call can tell what others were asked.
func TestNothingIsKept(t *testing.T) {
	for _, f := range sources(t) {
		for _, d := range f.Decls {
			if g, ok := d.(*ast.GenDecl); ok && g.Tok == token.VAR {
				t.Errorf("%s stands at package level", g.Specs[0].(*ast.ValueSpec).Names[0].Name)
			}
		}
	}
}

// closures are the names of what stands for a function literal in a function: it was laid there by :=.
func closures(fn *ast.FuncDecl) []string {
	var out []string
	ast.Inspect(fn, func(n ast.Node) bool {
		if x, ok := n.(*ast.AssignStmt); ok && x.Tok == token.DEFINE {
			for i, v := range x.Rhs {
				if _, ok := v.(*ast.FuncLit); ok {
					out = append(out, x.Lhs[i].(*ast.Ident).Name)
				}
			}
		}
		return true
	})
	return out
}

// handedClosures counts by the functions that a function calls the closures that it hands to them.
func handedClosures(fn *ast.FuncDecl) map[string]int {
	out := map[string]int{}
	own := closures(fn)
	ast.Inspect(fn, func(n ast.Node) bool {
		x, ok := n.(*ast.CallExpr)
		if !ok {
			return true
		}
		name, ok := x.Fun.(*ast.Ident)
		for _, a := range x.Args {
			_, isLit := a.(*ast.FuncLit)
			id, isName := a.(*ast.Ident)
			if ok && (isLit || isName && slices.Contains(own, id.Name)) {
				out[name.Name]++
			}
		}
		return true
	})
	return out
}

// TestOneWalkForTwoRules: Guarded calls one function twice, and hands what counts as a source to it as a closure each time.
func TestOneWalkForTwoRules(t *testing.T) {
	for _, f := range sources(t) {
		for _, d := range f.Decls {
			fn, ok := d.(*ast.FuncDecl)
			if !ok || fn.Name.Name != "Guarded" {
				continue
			}
			handed := handedClosures(fn)
			if len(handed) != 1 {
				t.Errorf("closures go to %v", handed)
			}
			for name, many := range handed {
				if many != 2 {
					t.Errorf("%s is handed %d closures", name, many)
				}
			}
			return
		}
	}
	t.Error("there is no Guarded")
}
