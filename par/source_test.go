package par_test

import (
	"go/ast"
	"go/parser"
	"go/token"
	"path/filepath"
	"slices"
	"strconv"
	"strings"
	"testing"
)

// libraryPackages are those that LANGUAGE.md allows: no clock, no random source, no file, no network, no printing.
func libraryPackages() []string {
	return strings.Fields("bytes cmp container/heap errors iter maps math math/big math/bits slices sort strconv strings sync sync/atomic unicode unicode/utf8")
}

// sources are the package's own files, without its tests.
func sources(t *testing.T) []*ast.File {
	t.Helper()
	names, err := filepath.Glob("*.go")
	if err != nil {
		t.Fatal(err)
	}
	var out []*ast.File
	for _, name := range names {
		if strings.HasSuffix(name, "_test.go") {
			continue
		}
		f, err := parser.ParseFile(token.NewFileSet(), name, nil, 0)
		if err != nil {
			t.Fatal(err)
		}
		out = append(out, f)
	}
	if len(out) == 0 {
		t.Fatal("no files")
	}
	return out
}

// layersBelow are those that the document's map lets this layer stand on.
func layersBelow() []string {
	return []string{"dapple/api", "dapple/words", "dapple/atoms", "dapple/graph"}
}

func TestStandsOnWhatTheMapSays(t *testing.T) {
	for _, f := range sources(t) {
		for _, i := range f.Imports {
			path, err := strconv.Unquote(i.Path.Value)
			if err != nil {
				t.Fatal(err)
			}
			if !slices.Contains(layersBelow(), path) && !slices.Contains(libraryPackages(), path) {
				t.Errorf("%s is imported", path)
			}
		}
	}
}

// TestNothingIsKept: at package level stands no variable, so that no call can know of another one.
func TestNothingIsKept(t *testing.T) {
	for _, f := range sources(t) {
		for _, d := range f.Decls {
			if g, ok := d.(*ast.GenDecl); ok && g.Tok == token.VAR {
				t.Errorf("%s stands at package level", g.Specs[0].(*ast.ValueSpec).Names[0].Name)
			}
		}
	}
}

// functions are the package's own, with its methods, by their names.
func functions(t *testing.T) map[string]*ast.FuncDecl {
	out := map[string]*ast.FuncDecl{}
	for _, f := range sources(t) {
		for _, d := range f.Decls {
			if fn, ok := d.(*ast.FuncDecl); ok {
				out[fn.Name.Name] = fn
			}
		}
	}
	return out
}

// methodsCalled are the names of all that is called by a selector, each as often as it is.
func methodsCalled(n ast.Node) []string {
	var out []string
	ast.Inspect(n, func(n ast.Node) bool {
		if call, ok := n.(*ast.CallExpr); ok {
			if method, ok := call.Fun.(*ast.SelectorExpr); ok {
				out = append(out, method.Sel.Name)
			}
		}
		return true
	})
	return out
}

// TestColoursAreChangedByCompareAndSwap: at one place, and by nothing else.
func TestColoursAreChangedByCompareAndSwap(t *testing.T) {
	swaps := 0
	for _, f := range sources(t) {
		for _, name := range methodsCalled(f) {
			switch name {
			case "CompareAndSwap":
				swaps++
			case "Store", "Swap", "And", "Or":
				t.Errorf("%s is called", name)
			}
		}
	}
	if swaps != 1 {
		t.Errorf("CompareAndSwap is called at %d places", swaps)
	}
}

// TestWorkersAreGoroutines: there is one go statement, whose goroutines a WaitGroup joins, and both marking and sweeping go by it.
func TestWorkersAreGoroutines(t *testing.T) {
	all := functions(t)
	started := 0
	for name, fn := range all {
		ast.Inspect(fn, func(n ast.Node) bool {
			if _, ok := n.(*ast.GoStmt); ok {
				started++
				if called := methodsCalled(fn); !slices.Contains(called, "Add") || !slices.Contains(called, "Done") || !slices.Contains(called, "Wait") {
					t.Errorf("%s starts goroutines that it does not join", name)
				}
			}
			return true
		})
	}
	if started != 1 {
		t.Errorf("goroutines are started at %d places", started)
	}
	for _, name := range []string{"Mark", "Sweep"} {
		by := false
		ast.Inspect(all[name], func(n ast.Node) bool {
			if call, ok := n.(*ast.CallExpr); ok {
				if fn, ok := call.Fun.(*ast.Ident); ok && fn.Name == "byMany" {
					by = true
				}
			}
			return true
		})
		if !by {
			t.Errorf("%s does not go by many", name)
		}
	}
}

// TestGreyGoesOverAChannel: one is made, sent to, ranged over, and closed, each at one place.
func TestGreyGoesOverAChannel(t *testing.T) {
	made, sent, ranged, closed := 0, 0, 0, 0
	for _, f := range sources(t) {
		ast.Inspect(f, func(n ast.Node) bool {
			switch x := n.(type) {
			case *ast.CallExpr:
				fn, ok := x.Fun.(*ast.Ident)
				if ok && fn.Name == "close" {
					closed++
				}
				if ok && fn.Name == "make" {
					if _, ok := x.Args[0].(*ast.ChanType); ok {
						made++
					}
				}
			case *ast.SendStmt:
				sent++
			case *ast.RangeStmt:
				if over, ok := x.X.(*ast.SelectorExpr); ok && over.Sel.Name == "grey" {
					ranged++
				}
			}
			return true
		})
	}
	if made != 1 || sent != 1 || ranged != 1 || closed != 1 {
		t.Errorf("made %d, sent %d, ranged %d, closed %d", made, sent, ranged, closed)
	}
}
