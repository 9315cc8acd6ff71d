package vm_test

import (
	"go/ast"
	"go/parser"
	"go/token"
	"go/types"
	"path/filepath"
	"slices"
	"strconv"
	"strings"
	"testing"
)

// libraryPackages are those that LANGUAGE.md allows: no clock, no random source, no file, no network, no printing.
func libraryPackages() []string {
	return strings.Fields("bytes cmp container/heap errors iter maps math math/big math/bits slices sort strconv strings sync sync/atomic unicode unicode/utf8")
}

// files are the package's own, without its tests.
func files(t *testing.T) []*ast.File {
	t.Helper()
	names, err := filepath.Glob("*.go")
	if err != nil {
		t.Fatal(err)
	}
	var out []*ast.File
	for _, name := range names {
		if strings.HasSuffix(name, "_test.go") {
			continue
		}
		f, err := parser.ParseFile(token.NewFileSet(), name, nil, 0)
		if err != nil {
			t.Fatal(err)
		}
		out = append(out, f)
	}
	if len(out) == 0 {
		t.Fatal("no files")
	}
	return out
}

// functions are the functions of all files, by their names.
func functions(t *testing.T) map[string]*ast.FuncDecl {
	t.Helper()
	out := map[string]*ast.FuncDecl{}
	for _, f := range files(t) {
		for _, d := range f.Decls {
			if fn, ok := d.(*ast.FuncDecl); ok {
				out[fn.Name.Name] = fn
			}
		}
	}
	return out
}

// TestStandsOnWordsAndCode: no other layer's package is imported.
func TestStandsOnWordsAndCode(t *testing.T) {
	for _, f := range files(t) {
		for _, i := range f.Imports {
			path, err := strconv.Unquote(i.Path.Value)
			if err != nil {
				t.Fatal(err)
			}
			if !slices.Contains([]string{"dapple/api", "dapple/words", "dapple/code"}, path) && !slices.Contains(libraryPackages(), path) {
				t.Errorf("%s is imported", path)
			}
		}
	}
}

// TestNothingIsKept: at package level stands no variable, so that no thread can know of another one; and no goroutine is begun.
func TestNothingIsKept(t *testing.T) {
	for _, f := range files(t) {
		for _, d := range f.Decls {
			if g, ok := d.(*ast.GenDecl); ok && g.Tok == token.VAR {
				t.Errorf("%s stands at package level", g.Specs[0].(*ast.ValueSpec).Names[0].Name)
			}
		}
		ast.Inspect(f, func(n ast.Node) bool {
			if _, ok := n.(*ast.GoStmt); ok {
				t.Error("a goroutine is begun")
			}
			return true
		})
	}
}

// TestInstructionsAreATable: what each Op does stands in a table of method expressions, each Op once.
func TestInstructionsAreATable(t *testing.T) {
	rows := map[string]string{}
	ast.Inspect(functions(t)["instructions"], func(n ast.Node) bool {
		kv, ok := n.(*ast.KeyValueExpr)
		if !ok {
			return true
		}
		sel, ok := kv.Value.(*ast.SelectorExpr)
		if !ok || types.ExprString(sel.X) != "(*step)" {
			t.Errorf("%s is no method expression", types.ExprString(kv.Value))
			return true
		}
		rows[types.ExprString(kv.Key)] = sel.Sel.Name
		return true
	})
	if len(rows) != 18 {
		t.Errorf("%d rows: %v", len(rows), rows)
	}
}

// TestStepRecovers: a step that is given up by a panic is recovered in a deferred function literal of Step, and nowhere else;
// there is one panic for that, with a value of the layer's own.
func TestStepRecovers(t *testing.T) {
	recovers, panics := 0, 0
	for name, fn := range functions(t) {
		ast.Inspect(fn, func(n ast.Node) bool {
			if d, ok := n.(*ast.DeferStmt); ok {
				if _, literal := d.Call.Fun.(*ast.FuncLit); !literal || name != "Step" {
					t.Errorf("%s defers something else", name)
				}
			}
			c, ok := n.(*ast.CallExpr)
			if !ok {
				return true
			}
			switch types.ExprString(c.Fun) {
			case "recover":
				recovers++
				if name != "Step" {
					t.Errorf("%s recovers", name)
				}
			case "panic":
				if lit, ok := c.Args[0].(*ast.CompositeLit); ok && types.ExprString(lit.Type) == "ending" {
					panics++
				} else if name != "caught" {
					t.Errorf("%s panics with something else", name)
				}
			}
			return true
		})
	}
	if recovers != 1 || panics != 1 {
		t.Errorf("%d recovers, %d panics", recovers, panics)
	}
}

// TestHeapIsAskedAsAnInterface: each method of Accesses is called, of the interface value that a step has.
func TestHeapIsAskedAsAnInterface(t *testing.T) {
	called := map[string]int{}
	for _, fn := range functions(t) {
		ast.Inspect(fn, func(n ast.Node) bool {
			if c, ok := n.(*ast.CallExpr); ok {
				if sel, ok := c.Fun.(*ast.SelectorExpr); ok && types.ExprString(sel.X) == "s.heap" {
					called[sel.Sel.Name]++
				}
			}
			return true
		})
	}
	for _, name := range strings.Fields("Load Store Cas Add Kind Alloc Global SetGlobal Spawn Join Lock Unlock") {
		if called[name] == 0 {
			t.Errorf("%s is not called", name)
		}
	}
}
