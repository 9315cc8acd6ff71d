package mark_test

import (
	"go/ast"
	"go/parser"
	"go/token"
	"path/filepath"
	"slices"
	"strconv"
	"strings"
	"testing"
)

// libraryPackages are those that LANGUAGE.md allows: no clock, no random source, no file, no network, no printing.
func libraryPackages() []string {
	return strings.Fields("bytes cmp container/heap errors iter maps math math/big math/bits slices sort strconv strings sync sync/atomic unicode unicode/utf8")
}

// sources are the package's own files, without its tests.
func sources(t *testing.T) []*ast.File {
	t.Helper()
	names, err := filepath.Glob("*.go")
	if err != nil {
		t.Fatal(err)
	}
	var out []*ast.File
	for _, name := range names {
		if strings.HasSuffix(name, "_test.go") {
			continue
		}
		f, err := parser.ParseFile(token.NewFileSet(), name, nil, 0)
		if err != nil {
			t.Fatal(err)
		}
		out = append(out, f)
	}
	if len(out) == 0 {
		t.Fatal("no files")
	}
	return out
}

// layersBelow are those that the document's map lets this layer stand on.
func layersBelow() []string {
	return []string{"dapple/api", "dapple/words", "dapple/cells", "dapple/graph"}
}

func TestStandsOnWhatTheMapSays(t *testing.T) {
	for _, f := range sources(t) {
		for _, i := range f.Imports {
			path, err := strconv.Unquote(i.Path.Value)
			if err != nil {
				t.Fatal(err)
			}
			if !slices.Contains(layersBelow(), path) && !slices.Contains(libraryPackages(), path) {
				t.Errorf("%s is imported", path)
			}
		}
	}
}

// TestNothingIsKept: at package level stands no variable, so that no Marker can know of another one.
func TestNothingIsKept(t *testing.T) {
	for _, f := range sources(t) {
		for _, d := range f.Decls {
			if g, ok := d.(*ast.GenDecl); ok && g.Tok == token.VAR {
				t.Errorf("%s stands at package level", g.Specs[0].(*ast.ValueSpec).Names[0].Name)
			}
		}
	}
}

// functions are the package's own, with its methods, by their names.
func functions(t *testing.T) map[string]*ast.FuncDecl {
	out := map[string]*ast.FuncDecl{}
	for _, f := range sources(t) {
		for _, d := range f.Decls {
			if fn, ok := d.(*ast.FuncDecl); ok {
				out[fn.Name.Name] = fn
			}
		}
	}
	return out
}

// TestWhatIsShadedIsHandedInByVariadicFunctions: Shade and Lay take as many as there are.
func TestWhatIsShadedIsHandedInByVariadicFunctions(t *testing.T) {
	all := functions(t)
	for _, name := range []string{"Shade", "Lay"} {
		fn := all[name]
		if fn == nil || len(fn.Type.Params.List) != 1 {
			t.Fatalf("%s: there is none, or it takes other things", name)
		}
		if _, ok := fn.Type.Params.List[0].Type.(*ast.Ellipsis); !ok {
			t.Errorf("%s is not variadic", name)
		}
	}
}

// TestCellsAreShadedByTheHeapsOwnCall: what is made grey is made so by the heap's Shade, whose answer is asked at once; no cell's colour is looked at ahead of it, and none is made grey by Turn.
func TestCellsAreShadedByTheHeapsOwnCall(t *testing.T) {
	asked := 0
	for _, f := range sources(t) {
		ast.Inspect(f, func(n ast.Node) bool {
			switch x := n.(type) {
			case *ast.IfStmt:
				if call, ok := x.Cond.(*ast.CallExpr); ok && called(call) == "heap.Shade" {
					asked++
				}
			case *ast.CallExpr:
				switch called(x) {
				case "heap.Head", "heap.Snapshot", "heap.Cas", "heap.Storm":
					t.Errorf("%s is called", called(x))
				case "heap.Turn":
					if to, ok := x.Args[2].(*ast.SelectorExpr); !ok || to.Sel.Name != "Black" {
						t.Error("Turn makes a cell other than black")
					}
				}
			}
			return true
		})
	}
	if asked != 1 {
		t.Errorf("the heap's Shade is asked at %d places", asked)
	}
}

// called is the name of what a call calls, with that of the field or variable whose method it is.
func called(call *ast.CallExpr) string {
	method, ok := call.Fun.(*ast.SelectorExpr)
	if !ok {
		return ""
	}
	switch of := method.X.(type) {
	case *ast.SelectorExpr:
		return of.Sel.Name + "." + method.Sel.Name
	case *ast.Ident:
		return of.Name + "." + method.Sel.Name
	}
	return ""
}
