package lab_test

import (
	"go/ast"
	"go/parser"
	"go/token"
	"path/filepath"
	"slices"
	"strconv"
	"strings"
	"testing"
)

// libraryPackages are those that LANGUAGE.md allows: no clock, no random source, no file, no network, no printing.
func libraryPackages() []string {
	return strings.Fields("bytes cmp container/heap errors iter maps math math/big math/bits slices sort strconv strings sync sync/atomic unicode unicode/utf8")
}

// layersBelow are those that the document's map lets this layer stand on.
func layersBelow() []string {
	return strings.Fields("dapple/api dapple/words dapple/names dapple/read dapple/forms dapple/code dapple/compile dapple/graph dapple/show dapple/barrier dapple/world dapple/baton dapple/par")
}

// sources are the package's own files, without its tests.
func sources(t *testing.T) ([]*ast.File, *token.FileSet) {
	t.Helper()
	names, err := filepath.Glob("*.go")
	if err != nil {
		t.Fatal(err)
	}
	set := token.NewFileSet()
	var out []*ast.File
	for _, name := range names {
		if strings.HasSuffix(name, "_test.go") {
			continue
		}
		f, err := parser.ParseFile(set, name, nil, 0)
		if err != nil {
			t.Fatal(err)
		}
		out = append(out, f)
	}
	if len(out) == 0 {
		t.Fatal("no files")
	}
	return out, set
}

// TestStandsOnWhatTheMapSays: and on all of it.
func TestStandsOnWhatTheMapSays(t *testing.T) {
	files, _ := sources(t)
	met := map[string]bool{}
	for _, f := range files {
		for _, i := range f.Imports {
			path, err := strconv.Unquote(i.Path.Value)
			if err != nil {
				t.Fatal(err)
			}
			met[path] = true
			if !slices.Contains(layersBelow(), path) && !slices.Contains(libraryPackages(), path) {
				t.Errorf("%s is imported", path)
			}
		}
	}
	for _, path := range layersBelow() {
		if !met[path] {
			t.Errorf("%s is not imported", path)
		}
	}
}

// TestNothingStandsAtPackageLevel: no variable, so that no script can know of another one.
func TestNothingStandsAtPackageLevel(t *testing.T) {
	files, _ := sources(t)
	for _, f := range files {
		for _, d := range f.Decls {
			if g, ok := d.(*ast.GenDecl); ok && g.Tok == token.VAR {
				t.Errorf("%s stands at package level", g.Specs[0].(*ast.ValueSpec).Names[0].Name)
			}
		}
	}
}

// functions are the package's own, with its methods, by their names.
func functions(t *testing.T) map[string]*ast.FuncDecl {
	files, set := sources(t)
	out := map[string]*ast.FuncDecl{}
	for _, f := range files {
		for _, d := range f.Decls {
			if fn, ok := d.(*ast.FuncDecl); ok {
				out[fn.Name.Name] = fn
				if n := set.Position(fn.End()).Line - set.Position(fn.Pos()).Line; n > 60 {
					t.Errorf("%s has %d lines", fn.Name.Name, n)
				}
			}
		}
	}
	return out
}

// met tells how many of a kind of thing there are within.
func met[T ast.Node](n ast.Node, is func(x T) bool) int {
	count := 0
	ast.Inspect(n, func(n ast.Node) bool {
		if x, ok := n.(T); ok && is(x) {
			count++
		}
		return true
	})
	return count
}

// calls tells whether a call is one of that name: of a selector its last part.
func calls(name string) func(c *ast.CallExpr) bool {
	return func(c *ast.CallExpr) bool {
		switch f := c.Fun.(type) {
		case *ast.SelectorExpr:
			return f.Sel.Name == name
		case *ast.Ident:
			return f.Name == name
		}
		return false
	}
}

// TestTableOfFunctions: what each command needs and does stands in a literal within a function, in fields that are functions.
func TestTableOfFunctions(t *testing.T) {
	all := functions(t)
	rows := 0
	ast.Inspect(all["commands"], func(n ast.Node) bool {
		if l, ok := n.(*ast.CompositeLit); ok && l.Type != nil {
			for _, e := range l.Elts {
				kv := e.(*ast.KeyValueExpr)
				if word, ok := kv.Key.(*ast.BasicLit); ok && len(kv.Value.(*ast.CompositeLit).Elts) == 4 && slices.ContainsFunc(shapes(), func(s shape) bool { return strconv.Quote(s.word) == word.Value }) {
					rows++
				}
			}
		}
		return true
	})
	if rows != len(shapes()) {
		t.Error(rows, "rows")
	}
	for name, fn := range all {
		words := met(fn, func(b *ast.BasicLit) bool {
			return b.Kind == token.STRING && slices.ContainsFunc(shapes(), func(s shape) bool { return strconv.Quote(s.word) == b.Value })
		})
		if switches := met(fn, func(s *ast.SwitchStmt) bool { return s.Tag != nil }); name != "commands" && words > 0 && switches > 0 {
			t.Errorf("%s switches over words", name)
		}
	}
}

// TestGivenUpByPanic: deep inside, by who reads lines; and Run alone recovers, in a deferred function.
func TestGivenUpByPanic(t *testing.T) {
	for name, fn := range functions(t) {
		if n := met(fn, calls("panic")); (n > 0) != slices.Contains([]string{"deed", "takesSource", "numbers", "caught"}, name) {
			t.Errorf("%s panics at %d places", name, n)
		}
		recovers := met(fn, calls("recover"))
		deferred := met(fn, func(d *ast.DeferStmt) bool {
			_, ok := d.Call.Fun.(*ast.FuncLit)
			return ok && met(d, calls("recover")) == 1
		})
		if want := map[bool]int{true: 1}[name == "Run"]; recovers != want || deferred != want {
			t.Errorf("%s recovers at %d places, %d of them deferred", name, recovers, deferred)
		}
		if name == "deedsOf" && met(fn, calls("recover")) > 0 {
			t.Error(name)
		}
	}
}

// TestGoroutines: Many alone begins some, one for each script, and one that closes the channel when the WaitGroup says that all
// have ended; it ranges over the channel.
func TestGoroutines(t *testing.T) {
	for name, fn := range functions(t) {
		if n := met(fn, func(*ast.GoStmt) bool { return true }); n != map[bool]int{true: 2}[name == "Many"] {
			t.Errorf("%s begins goroutines at %d places", name, n)
		}
	}
	many := functions(t)["Many"]
	sends := met(many, func(g *ast.GoStmt) bool {
		return met(g, func(*ast.SendStmt) bool { return true }) == 1 && met(g, calls("Done")) == 1
	})
	closes := met(many, func(g *ast.GoStmt) bool { return met(g, calls("Wait")) == 1 && met(g, calls("close")) == 1 })
	ranges := met(many, func(r *ast.RangeStmt) bool {
		x, ok := r.X.(*ast.Ident)
		return ok && x.Name == "answers"
	})
	if sends != 1 || closes != 1 || ranges != 1 || met(many, calls("Add")) != 1 {
		t.Error(sends, closes, ranges)
	}
}
