package free_test

import (
	"go/ast"
	"go/parser"
	"go/token"
	"path/filepath"
	"reflect"
	"slices"
	"strconv"
	"strings"
	"testing"

	"dapple/free"
)

// libraryPackages are those that LANGUAGE.md allows: no clock, no random source, no file, no network, no printing.
func libraryPackages() []string {
	return strings.Fields("bytes cmp container/heap errors iter maps math math/big math/bits slices sort strconv strings sync sync/atomic unicode unicode/utf8")
}

// layersBelow are those on which the document's map lets this one stand.
func layersBelow() []string {
	return strings.Fields("dapple/api dapple/words dapple/atoms dapple/cells dapple/code dapple/locks dapple/vm")
}

// sources are the package's own files, without its tests.
func sources(t *testing.T) (out []*ast.File, set *token.FileSet) {
	t.Helper()
	names, err := filepath.Glob("*.go")
	if err != nil {
		t.Fatal(err)
	}
	set = token.NewFileSet()
	for _, name := range names {
		if strings.HasSuffix(name, "_test.go") {
			continue
		}
		f, err := parser.ParseFile(set, name, nil, 0)
		if err != nil {
			t.Fatal(err)
		}
		out = append(out, f)
	}
	if len(out) == 0 {
		t.Fatal("no files")
	}
	return out, set
}

// eachFunction hands on the package's functions and methods.
func eachFunction(t *testing.T, do func(fn *ast.FuncDecl, set *token.FileSet)) {
	t.Helper()
	l, set := sources(t)
	for _, f := range l {
		for _, d := range f.Decls {
			if fn, ok := d.(*ast.FuncDecl); ok {
				do(fn, set)
			}
		}
	}
}

func TestStandsOnWhatTheMapSays(t *testing.T) {
	l, _ := sources(t)
	for _, f := range l {
		for _, i := range f.Imports {
			path, err := strconv.Unquote(i.Path.Value)
			if err != nil {
				t.Fatal(err)
			}
			if !slices.Contains(layersBelow(), path) && !slices.Contains(libraryPackages(), path) {
				t.Errorf("%s is imported", path)
			}
		}
	}
}

// TestNothingIsKept: at package level stands no variable, so that no run can know of another one.
func TestNothingIsKept(t *testing.T) {
	l, _ := sources(t)
	for _, f := range l {
		for _, d := range f.Decls {
			if g, ok := d.(*ast.GenDecl); ok && g.Tok == token.VAR {
				t.Errorf("%s stands at package level", g.Specs[0].(*ast.ValueSpec).Names[0].Name)
			}
		}
	}
}

// TestSmallFunctions: none has more than 60 lines.
func TestSmallFunctions(t *testing.T) {
	eachFunction(t, func(fn *ast.FuncDecl, set *token.FileSet) {
		if set.Position(fn.End()).Line-set.Position(fn.Pos()).Line > 60 {
			t.Errorf("%s is long", fn.Name.Name)
		}
	})
}

// TestFace: all that can be seen is Run, and an Outcome with the chapter's fields.
func TestFace(t *testing.T) {
	l, _ := sources(t)
	for _, f := range l {
		for name := range f.Scope.Objects {
			if ast.IsExported(name) && name != "Run" && name != "Outcome" {
				t.Errorf("%s can be seen", name)
			}
		}
	}
	o := reflect.TypeFor[free.Outcome]()
	var fields []string
	for i := range o.NumField() {
		fields = append(fields, o.Field(i).Name)
	}
	if got := strings.Join(fields, " "); got != "Ended Globals Heap Threads Steps" || o.NumMethod() != 0 {
		t.Error(got, o.NumMethod())
	}
}

// calls are the names of all that a function calls.
func calls(fn *ast.FuncDecl) []string {
	var out []string
	ast.Inspect(fn, func(n ast.Node) bool {
		if call, ok := n.(*ast.CallExpr); ok {
			switch f := call.Fun.(type) {
			case *ast.SelectorExpr:
				out = append(out, f.Sel.Name)
			case *ast.Ident:
				out = append(out, f.Name)
			}
		}
		return true
	})
	return out
}

// TestThreadsAreGoroutines: there is one go statement, a thread's; its goroutine is counted ahead of it, and told off when it ends; and
// Run waits for all.
func TestThreadsAreGoroutines(t *testing.T) {
	started, waits := 0, 0
	eachFunction(t, func(fn *ast.FuncDecl, _ *token.FileSet) {
		called := calls(fn)
		if slices.Contains(called, "Wait") && fn.Name.Name == "Run" {
			waits++
		}
		ast.Inspect(fn, func(n ast.Node) bool {
			switch n.(type) {
			case *ast.GoStmt:
				started++
				if !slices.Contains(called, "Add") || !slices.Contains(called, "Done") {
					t.Errorf("%s starts goroutines that nobody joins", fn.Name.Name)
				}
			case *ast.SelectStmt:
				t.Errorf("%s selects", fn.Name.Name)
			}
			return true
		})
	})
	if started != 1 || waits != 1 {
		t.Errorf("started at %d places, waited for at %d", started, waits)
	}
}

// TestBookUnderTheMutex: who unlocks, locks first, and lets the mutex go in a deferred call; the heap and globals are changed without
// it, by calls that are atomic.
func TestBookUnderTheMutex(t *testing.T) {
	locked := 0
	eachFunction(t, func(fn *ast.FuncDecl, _ *token.FileSet) {
		takes, gives := 0, 0
		ast.Inspect(fn, func(n ast.Node) bool {
			call, ok := n.(*ast.CallExpr)
			if !ok {
				if d, ok := n.(*ast.DeferStmt); ok && onMutex(d.Call, "Unlock") {
					gives++
				}
				return true
			}
			if onMutex(call, "Lock") {
				takes++
			}
			return true
		})
		if takes != gives || takes > 1 {
			t.Errorf("%s takes the mutex %d times, and gives it %d times", fn.Name.Name, takes, gives)
		}
		locked += takes
		if takes > 0 && slices.Contains(strings.Fields("Load Store Cas Add Kind Alloc Global SetGlobal"), fn.Name.Name) {
			t.Errorf("%s takes the mutex", fn.Name.Name)
		}
	})
	if locked == 0 {
		t.Error("nobody takes the mutex")
	}
}

// onMutex tells whether a call is that method of the mutex.
func onMutex(call *ast.CallExpr, method string) bool {
	f, ok := call.Fun.(*ast.SelectorExpr)
	if !ok || f.Sel.Name != method {
		return false
	}
	on, ok := f.X.(*ast.SelectorExpr)
	return ok && on.Sel.Name == "mutex"
}
