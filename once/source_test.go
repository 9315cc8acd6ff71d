package once_test

import (
	"go/ast"
	"go/parser"
	"go/token"
	"path/filepath"
	"slices"
	"strconv"
	"strings"
	"testing"
)

// libraryPackages are those that LANGUAGE.md allows: no clock, no random source, no file, no network, no printing.
func libraryPackages() []string {
	return strings.Fields("bytes cmp container/heap errors iter maps math math/big math/bits slices sort strconv strings sync sync/atomic unicode unicode/utf8")
}

// sources are the package's own files, without its tests.
func sources(t *testing.T) []*ast.File {
	t.Helper()
	names, err := filepath.Glob("*.go")
	if err != nil {
		t.Fatal(err)
	}
	var out []*ast.File
	for _, name := range names {
		if strings.HasSuffix(name, "_test.go") {
			continue
		}
		f, err := parser.ParseFile(token.NewFileSet(), name, nil, 0)
		if err != nil {
			t.Fatal(err)
		}
		out = append(out, f)
	}
	if len(out) == 0 {
		t.Fatal("no files")
	}
	return out
}

// layersBelow are those that the document's map lets this layer stand on.
func layersBelow() []string {
	return []string{"dapple/api", "dapple/atoms", "dapple/names", "dapple/read", "dapple/forms", "dapple/compile"}
}

func TestStandsOnWhatTheMapSays(t *testing.T) {
	for _, f := range sources(t) {
		for _, i := range f.Imports {
			path, err := strconv.Unquote(i.Path.Value)
			if err != nil {
				t.Fatal(err)
			}
			if !slices.Contains(layersBelow(), path) && !slices.Contains(libraryPackages(), path) {
				t.Errorf("%s is imported", path)
			}
		}
	}
}

// TestNothingIsKept: at package level stands no variable, so that no object can know of another one.
func TestNothingIsKept(t *testing.T) {
	for _, f := range sources(t) {
		for _, d := range f.Decls {
			if g, ok := d.(*ast.GenDecl); ok && g.Tok == token.VAR {
				t.Errorf("%s stands at package level", g.Specs[0].(*ast.ValueSpec).Names[0].Name)
			}
		}
	}
}

// functions are the package's own, with its methods, by receiver and name.
func functions(t *testing.T) map[string]*ast.FuncDecl {
	out := map[string]*ast.FuncDecl{}
	for _, f := range sources(t) {
		for _, d := range f.Decls {
			fn, ok := d.(*ast.FuncDecl)
			if !ok {
				continue
			}
			name := fn.Name.Name
			if fn.Recv != nil {
				star, ok := fn.Recv.List[0].Type.(*ast.StarExpr)
				if !ok {
					t.Fatalf("%s is of a value", name)
				}
				name = star.X.(*ast.Ident).Name + "." + name
			}
			out[name] = fn
		}
	}
	return out
}

// called are the names of all that is called within: of a selector its last part.
func called(n ast.Node) []string {
	var out []string
	ast.Inspect(n, func(n ast.Node) bool {
		if call, ok := n.(*ast.CallExpr); ok {
			switch f := call.Fun.(type) {
			case *ast.SelectorExpr:
				out = append(out, f.Sel.Name)
			case *ast.Ident:
				out = append(out, f.Name)
			}
		}
		return true
	})
	return out
}

// withinDo are the names of all that is called in functions that are handed to a Do.
func withinDo(n ast.Node) []string {
	var out []string
	ast.Inspect(n, func(n ast.Node) bool {
		if call, ok := n.(*ast.CallExpr); ok {
			if f, ok := call.Fun.(*ast.SelectorExpr); ok && f.Sel.Name == "Do" {
				out = append(out, called(call.Args[0])...)
			}
		}
		return true
	})
	return out
}

// TestMadeBehindAOnce: forms, a future's word, and numbers are made within a Do, and nowhere else.
func TestMadeBehindAOnce(t *testing.T) {
	all := functions(t)
	for _, c := range [][2]string{{"source.read", "formsOf"}, {"Future.Set", "close"}, {"making.ask", "f"}} {
		in, what := c[0], c[1]
		if all[in] == nil {
			t.Fatalf("there is no %s", in)
		}
		if !slices.Contains(withinDo(all[in]), what) {
			t.Errorf("%s does not call %s within a Do", in, what)
		}
		for name, fn := range all {
			if name != in && slices.Contains(called(fn), what) {
				t.Errorf("%s calls %s", name, what)
			}
		}
	}
}

// TestEachStepOnce: each step of what makes a source stands at one place.
func TestEachStepOnce(t *testing.T) {
	steps := map[string]int{"Read": 0, "Of": 0, "Compile": 0}
	for _, fn := range functions(t) {
		for _, name := range called(fn) {
			if _, ok := steps[name]; ok {
				steps[name]++
			}
		}
	}
	for name, n := range steps {
		if n != 1 {
			t.Errorf("%s is called at %d places", name, n)
		}
	}
}

// TestMapBehindAMutex: the one map is asked, and written into, by a function that locks ahead of that.
func TestMapBehindAMutex(t *testing.T) {
	for name, fn := range functions(t) {
		uses := false
		ast.Inspect(fn.Body, func(n ast.Node) bool {
			if x, ok := n.(*ast.IndexExpr); ok {
				if m, ok := x.X.(*ast.SelectorExpr); ok && m.Sel.Name == "sources" {
					uses = true
				}
			}
			return true
		})
		if l := called(fn); uses && (!slices.Contains(l, "Lock") || !slices.Contains(l, "Unlock")) {
			t.Errorf("%s uses the map without its lock", name)
		}
	}
}

// TestWorkersAreGoroutines: there is one go statement, whose goroutines a WaitGroup joins, and All and Made go by it.
func TestWorkersAreGoroutines(t *testing.T) {
	all := functions(t)
	started := 0
	for name, fn := range all {
		ast.Inspect(fn, func(n ast.Node) bool {
			if _, ok := n.(*ast.GoStmt); ok {
				started++
				if l := called(fn); !slices.Contains(l, "Add") || !slices.Contains(l, "Done") || !slices.Contains(l, "Wait") {
					t.Errorf("%s starts goroutines that it does not join", name)
				}
			}
			return true
		})
	}
	if started != 1 {
		t.Errorf("goroutines are started at %d places", started)
	}
	for _, name := range []string{"Codes.All", "Made"} {
		if !slices.Contains(called(all[name]), "byMany") {
			t.Errorf("%s does not go by many", name)
		}
	}
}

// TestWordOverAChannel: who waits for a future's word receives from a channel, which is closed, and never sent to.
func TestWordOverAChannel(t *testing.T) {
	received := map[string]int{}
	for name, fn := range functions(t) {
		ast.Inspect(fn, func(n ast.Node) bool {
			switch x := n.(type) {
			case *ast.UnaryExpr:
				if x.Op == token.ARROW {
					received[name]++
				}
			case *ast.SendStmt:
				t.Errorf("%s sends", name)
			}
			return true
		})
	}
	if len(received) != 2 || received["Future.Get"] != 1 || received["Future.Is"] != 1 {
		t.Error(received)
	}
}
