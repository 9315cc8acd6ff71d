package alloc_test

import (
	"go/ast"
	"go/parser"
	"go/token"
	"path/filepath"
	"slices"
	"strconv"
	"strings"
	"testing"
)

// libraryPackages are those that LANGUAGE.md allows: no clock, no random source, no file, no network, no printing.
func libraryPackages() []string {
	return strings.Fields("bytes cmp container/heap errors iter maps math math/big math/bits slices sort strconv strings sync sync/atomic unicode unicode/utf8")
}

// sources are the package's own files, without its tests.
func sources(t *testing.T) []*ast.File {
	t.Helper()
	names, err := filepath.Glob("*.go")
	if err != nil {
		t.Fatal(err)
	}
	var out []*ast.File
	for _, name := range names {
		if strings.HasSuffix(name, "_test.go") {
			continue
		}
		f, err := parser.ParseFile(token.NewFileSet(), name, nil, 0)
		if err != nil {
			t.Fatal(err)
		}
		out = append(out, f)
	}
	if len(out) == 0 {
		t.Fatal("no files")
	}
	return out
}

// layersBelow are those that the document's map lets this layer stand on.
func layersBelow() []string { return []string{"dapple/api", "dapple/words"} }

func TestStandsOnWhatTheMapSays(t *testing.T) {
	for _, f := range sources(t) {
		for _, i := range f.Imports {
			path, err := strconv.Unquote(i.Path.Value)
			if err != nil {
				t.Fatal(err)
			}
			if !slices.Contains(layersBelow(), path) && !slices.Contains(libraryPackages(), path) {
				t.Errorf("%s is imported", path)
			}
		}
	}
}

// TestNothingIsKept: at package level stands no variable, so that no Alloc can know of another one.
func TestNothingIsKept(t *testing.T) {
	for _, f := range sources(t) {
		for _, d := range f.Decls {
			if g, ok := d.(*ast.GenDecl); ok && g.Tok == token.VAR {
				t.Errorf("%s stands at package level", g.Specs[0].(*ast.ValueSpec).Names[0].Name)
			}
		}
	}
}

// counted are the names of the constants of each group that iota counts.
func counted(f *ast.File) [][]string {
	var out [][]string
	for _, d := range f.Decls {
		g, ok := d.(*ast.GenDecl)
		if !ok || g.Tok != token.CONST {
			continue
		}
		var names []string
		byIota := false
		ast.Inspect(g, func(n ast.Node) bool {
			if x, ok := n.(*ast.Ident); ok && x.Name == "iota" {
				byIota = true
			}
			return true
		})
		for _, s := range g.Specs {
			names = append(names, s.(*ast.ValueSpec).Names[0].Name)
		}
		if byIota {
			out = append(out, names)
		}
	}
	return out
}

// TestWhatACellIsAt: it stands as three constants that iota counts, each of which the calls use.
func TestWhatACellIsAt(t *testing.T) {
	var groups [][]string
	uses := map[string]int{}
	for _, f := range sources(t) {
		groups = append(groups, counted(f)...)
		for _, d := range f.Decls {
			if fn, ok := d.(*ast.FuncDecl); ok {
				ast.Inspect(fn, func(n ast.Node) bool {
					if x, ok := n.(*ast.Ident); ok {
						uses[x.Name]++
					}
					return true
				})
			}
		}
	}
	if len(groups) != 1 || len(groups[0]) != 3 {
		t.Fatalf("%v, not three constants in one group", groups)
	}
	for _, name := range groups[0] {
		if uses[name] == 0 {
			t.Errorf("%s is used nowhere", name)
		}
	}
}

// TestKeptSorted: nothing is sorted when it is asked for; free cells stand in a list, and are laid where they belong.
func TestKeptSorted(t *testing.T) {
	for _, f := range sources(t) {
		ast.Inspect(f, func(n ast.Node) bool {
			x, ok := n.(*ast.SelectorExpr)
			if !ok {
				return true
			}
			if p, ok := x.X.(*ast.Ident); ok && (p.Name == "sort" || p.Name == "slices" && strings.HasPrefix(x.Sel.Name, "Sort")) {
				t.Errorf("%s.%s sorts", p.Name, x.Sel.Name)
			}
			return true
		})
	}
}
