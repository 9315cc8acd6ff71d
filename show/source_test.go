package show_test

import (
	"go/ast"
	"go/parser"
	"go/token"
	"path/filepath"
	"slices"
	"strconv"
	"strings"
	"testing"
)

// libraryPackages are those that LANGUAGE.md allows: no clock, no random source, no file, no network, no printing.
func libraryPackages() []string {
	return strings.Fields("bytes cmp container/heap errors iter maps math math/big math/bits slices sort strconv strings sync sync/atomic unicode unicode/utf8")
}

// layersBelow are those that the document's map lets this layer stand on.
func layersBelow() []string {
	return []string{"dapple/api", "dapple/words", "dapple/lex", "dapple/graph"}
}

// sources are the package's own files, without its tests.
func sources(t *testing.T) []*ast.File {
	t.Helper()
	names, err := filepath.Glob("*.go")
	if err != nil {
		t.Fatal(err)
	}
	var out []*ast.File
	for _, name := range names {
		if strings.HasSuffix(name, "_test.go") {
			continue
		}
		f, err := parser.ParseFile(token.NewFileSet(), name, nil, 0)
		if err != nil {
			t.Fatal(err)
		}
		out = append(out, f)
	}
	if len(out) == 0 {
		t.Fatal("no files")
	}
	return out
}

func TestStandsOnWhatTheMapSays(t *testing.T) {
	for _, f := range sources(t) {
		for _, i := range f.Imports {
			path, err := strconv.Unquote(i.Path.Value)
			if err != nil {
				t.Fatal(err)
			}
			if !slices.Contains(layersBelow(), path) && !slices.Contains(libraryPackages(), path) {
				t.Errorf("%s is imported", path)
			}
		}
	}
}

// TestNoVariables: at package level stands none, so that no call can tell what others were asked.
func TestNoVariables(t *testing.T) {
	for _, f := range sources(t) {
		for _, d := range f.Decls {
			if g, ok := d.(*ast.GenDecl); ok && g.Tok == token.VAR {
				t.Errorf("%s stands at package level", g.Specs[0].(*ast.ValueSpec).Names[0].Name)
			}
		}
	}
}

// inFunctions hands on each node within a function, with the function's name.
func inFunctions(t *testing.T, do func(name string, n ast.Node)) {
	t.Helper()
	for _, f := range sources(t) {
		for _, d := range f.Decls {
			if fn, ok := d.(*ast.FuncDecl); ok {
				ast.Inspect(fn, func(n ast.Node) bool {
					do(fn.Name.Name, n)
					return true
				})
			}
		}
	}
}

// TestTheWriterCallsItself: and what stands in a list's tail is a loop, which does not.
func TestTheWriterCallsItself(t *testing.T) {
	calls, loops := map[string][]string{}, map[string]int{}
	inFunctions(t, func(name string, n ast.Node) {
		switch x := n.(type) {
		case *ast.CallExpr:
			if s, ok := x.Fun.(*ast.SelectorExpr); ok {
				calls[name] = append(calls[name], s.Sel.Name)
			}
		case *ast.ForStmt, *ast.RangeStmt:
			loops[name]++
		}
	})
	if !slices.Contains(calls["word"], "word") || !slices.Contains(calls["word"], "tail") {
		t.Errorf("word calls %q", calls["word"])
	}
	if loops["tail"] != 1 || slices.Contains(calls["tail"], "tail") {
		t.Errorf("tail has %d loops, and calls %q", loops["tail"], calls["tail"])
	}
}

// TestLabelsStandInAMap: from cells to labels.
func TestLabelsStandInAMap(t *testing.T) {
	found := false
	for _, f := range sources(t) {
		ast.Inspect(f, func(n ast.Node) bool {
			if m, ok := n.(*ast.MapType); ok {
				key, isName := m.Key.(*ast.Ident)
				value, isNameToo := m.Value.(*ast.Ident)
				found = found || isName && isNameToo && key.Name == "int" && value.Name == "label"
			}
			return true
		})
	}
	if !found {
		t.Error("there is none")
	}
}
