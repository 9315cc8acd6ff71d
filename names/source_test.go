package names_test

import (
	"go/ast"
	"go/parser"
	"go/token"
	"path/filepath"
	"slices"
	"strconv"
	"strings"
	"testing"
)

// libraryPackages are those that LANGUAGE.md allows: no clock, no random source, no file, no network, no printing.
func libraryPackages() []string {
	return strings.Fields("bytes cmp container/heap errors iter maps math math/big math/bits slices sort strconv strings sync sync/atomic unicode unicode/utf8")
}

// sources are the package's own files, without its tests.
func sources(t *testing.T) []*ast.File {
	t.Helper()
	names, err := filepath.Glob("*.go")
	if err != nil {
		t.Fatal(err)
	}
	var out []*ast.File
	for _, name := range names {
		if strings.HasSuffix(name, "_test.go") {
			continue
		}
		f, err := parser.ParseFile(token.NewFileSet(), name, nil, 0)
		if err != nil {
			t.Fatal(err)
		}
		out = append(out, f)
	}
	if len(out) == 0 {
		t.Fatal("no files")
	}
	return out
}

// layersBelow are those that the document's map lets this layer stand on.
func layersBelow() []string { return []string{"dapple/api", "dapple/atoms"} }

func TestStandsOnWhatTheMapSays(t *testing.T) {
	for _, f := range sources(t) {
		for _, i := range f.Imports {
			path, err := strconv.Unquote(i.Path.Value)
			if err != nil {
				t.Fatal(err)
			}
			if !slices.Contains(layersBelow(), path) && !slices.Contains(libraryPackages(), path) {
				t.Errorf("%s is imported", path)
			}
		}
	}
}

// ways are the names of packages, and of what is taken of them, and the statements and calls that the files have.
func ways(files []*ast.File) map[string]bool {
	got := map[string]bool{}
	for _, f := range files {
		ast.Inspect(f, func(n ast.Node) bool {
			switch x := n.(type) {
			case *ast.GoStmt:
				got["go"] = true
			case *ast.MapType:
				got["map"] = true
			case *ast.DeferStmt:
				got["defer"] = true
			case *ast.SelectorExpr:
				if p, ok := x.X.(*ast.Ident); ok {
					got[p.Name] = true
				}
				got[x.Sel.Name] = true
			case *ast.CallExpr:
				if f, ok := x.Fun.(*ast.Ident); ok {
					got[f.Name] = true
				}
			}
			return true
		})
	}
	return got
}

func TestWays(t *testing.T) {
	got := ways(sources(t))
	for _, way := range []string{"atomic", "CompareAndSwap", "map", "WaitGroup"} {
		if !got[way] {
			t.Error("nothing of", way)
		}
	}
	if !got["go"] && !got["Go"] {
		t.Error("no goroutines")
	}
}
