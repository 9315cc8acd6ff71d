package compile_test

import (
	"fmt"
	"math/rand"
	"slices"
	"strconv"
	"strings"
	"testing"

	"dapple/api"
	"dapple/names"
	"dapple/words"
)

// What forms mean is worked out twice: from the forms themselves, as a reader would, with variables by their names; and from the
// code, instruction by instruction, by the tables of chapters 8 and 18. Both tell what they do, and must tell the same.

// value is a word that is no reference, a *pair, a *box, a *closure or a *function.
type value any

type pair struct{ a, b value }

type box struct{ v value }

// teller keeps what was done, and how much more may be.
type teller struct {
	told    []string
	fuel    int
	results []value // of threads that were begun, each of which goes to its end at once
}

// outOfFuel is what a run is given up with that does not end.
type outOfFuel struct{}

func (w *teller) burn() {
	if w.fuel--; w.fuel < 0 {
		panic(outOfFuel{})
	}
}

func (w *teller) tell(what string, l ...value) {
	for _, v := range l {
		what += " " + shown(v, 4)
	}
	w.told = append(w.told, what)
}

// numbered is what has the number of a procedure.
type numbered interface{ number() int }

// shown tells a value, not too deep.
func shown(v value, depth int) string {
	if depth == 0 {
		return ".."
	}
	switch x := v.(type) {
	case api.Word:
		tag, n, _ := words.Of(x)
		return strings.Fields("? nil #f #t none int symbol prim")[tag] + strconv.FormatInt(n, 10)
	case *pair:
		return "(" + shown(x.a, depth-1) + " . " + shown(x.b, depth-1) + ")"
	case *box:
		return "[" + shown(x.v, depth-1) + "]"
	case numbered:
		return "#" + strconv.Itoa(x.number())
	}
	return fmt.Sprint(v)
}

// word is the one of a tag and a number.
func word(tag api.Tag, n int64) api.Word {
	w, e := words.Make(tag, n)
	if e != api.OK {
		panic(e)
	}
	return w
}

func truth(b bool) api.Word {
	if b {
		return word(api.TagTrue, 0)
	}
	return word(api.TagFalse, 0)
}

var none = word(api.TagNone, 0)

// asWord is a value as one, if it is one; else a word that is none.
func asWord(v value) api.Word {
	w, _ := v.(api.Word)
	return w
}

// asInt is a number of the language; else it is given up.
func asInt(v value) int64 {
	tag, n, ok := words.Of(asWord(v))
	if !ok || tag != api.TagInt {
		panic(api.ErrWordKind)
	}
	return n
}

func asPair(v value) *pair {
	p, ok := v.(*pair)
	if !ok {
		panic(api.ErrWordKind)
	}
	return p
}

func asBox(v value) *box {
	b, ok := v.(*box)
	if !ok {
		panic(api.ErrWordKind)
	}
	return b
}

// sure is a word, or it is given up.
func sure(w api.Word, e api.Errno) value {
	if e != api.OK {
		panic(e)
	}
	return w
}

// prim does what a primitive does.
func (w *teller) prim(name string, l ...value) value {
	w.tell(name, l...)
	switch name {
	case "cons":
		return &pair{l[0], l[1]}
	case "car":
		return asPair(l[0]).a
	case "cdr":
		return asPair(l[0]).b
	case "set-car!":
		asPair(l[0]).a = l[1]
		return none
	case "set-cdr!":
		asPair(l[0]).b = l[1]
		return none
	case "box":
		return &box{l[0]}
	case "unbox":
		return asBox(l[0]).v
	case "set-box!":
		asBox(l[0]).v = l[1]
		return none
	case "cas":
		b := asBox(l[0])
		did := b.v == l[1]
		if did {
			b.v = l[2]
		}
		return truth(did)
	case "add":
		b := asBox(l[0])
		b.v = sure(words.Add(asWord(b.v), asWord(l[1])))
		return b.v
	case "eq?":
		return truth(l[0] == l[1])
	case "null?":
		return truth(l[0] == word(api.TagNil, 0))
	case "pair?":
		_, ok := l[0].(*pair)
		return truth(ok)
	case "int?":
		tag, _, _ := words.Of(asWord(l[0]))
		return truth(tag == api.TagInt)
	case "not":
		return truth(l[0] == truth(false))
	case "error":
		panic(api.ErrVMRaised)
	}
	a, b := asWord(l[0]), asWord(l[1])
	switch name {
	case "+":
		return sure(words.Add(a, b))
	case "-":
		return sure(words.Sub(a, b))
	case "*":
		return sure(words.Mul(a, b))
	case "quotient":
		return sure(words.Quo(a, b))
	case "remainder":
		return sure(words.Rem(a, b))
	}
	less, e := words.Less(a, b)
	if e != api.OK {
		panic(e)
	}
	return truth(less)
}

// spawned lets a thread go to its end, and is its number.
func (w *teller) spawned(run func() value) value {
	w.results = append(w.results, none)
	number := len(w.results)
	w.results[number-1] = run()
	return word(api.TagInt, int64(number))
}

// joined is a thread's result.
func (w *teller) joined(v value) value {
	n := asInt(v)
	if n < 1 || n > int64(len(w.results)) {
		panic(api.ErrLocksNone)
	}
	w.tell("join", v)
	return w.results[n-1]
}

// locked tells of a lock, which nobody else wants.
func (w *teller) locked(what string, v value) value {
	asInt(v)
	w.tell(what, v)
	return none
}

// set is a value that a variable has: none is as good as unset.
func set(v value) value {
	if v == nil || v == none {
		panic(api.ErrVMUnset)
	}
	return v
}

// ended is what a run tells, with its value or its error at the end; false, if it goes on for longer.
func ended(w *teller, run func() value) (told []string, e api.Errno, ok bool) {
	defer func() {
		switch x := recover().(type) {
		case nil:
		case api.Errno:
			w.tell("error " + strconv.Itoa(int(x)))
			told, e, ok = w.told, x, true
		case outOfFuel:
			told, e, ok = w.told, api.OK, false
		default:
			panic(x)
		}
	}()
	w.tell("value", run())
	return w.told, api.OK, true
}

// reader works out forms as they stand there.
type reader struct {
	teller
	table   *names.Table
	globals map[string]value
	numbers map[string]int // of procedures, by paths
}

// around is variables by their names, within others.
type around struct {
	vars map[string]*value
	out  *around
}

// find is a variable; nil, if it is a global.
func (a *around) find(name string) *value {
	for ; a != nil; a = a.out {
		if v, ok := a.vars[name]; ok {
			return v
		}
	}
	return nil
}

// function is a lambda with what is around it.
type function struct {
	path string
	f    api.Form
	env  *around
	n    int
}

func (f *function) number() int { return f.n }

// calls is a function with these arguments.
func (r *reader) calls(head value, l []value) value {
	f, ok := head.(*function)
	if !ok {
		panic(api.ErrVMCall)
	}
	if len(l) != len(f.f.Names) {
		panic(api.ErrVMArgs)
	}
	r.tell("call", append([]value{head}, l...)...)
	env := &around{map[string]*value{}, f.env}
	for i, name := range f.f.Names {
		env.vars[name] = &l[i]
	}
	return r.row(f.path, f.f, bodyOf(f.f), env)
}

// row is the last value of a form's Kids from one on.
func (r *reader) row(path string, f api.Form, from int, env *around) value {
	var last value = none
	for i := from; i < len(f.Kids); i++ {
		last = r.kid(path, f, i, env)
	}
	return last
}

func (r *reader) kid(path string, f api.Form, i int, env *around) value {
	return r.eval(path+"."+strconv.Itoa(i), f.Kids[i], env)
}

// eval is a form's value.
func (r *reader) eval(path string, f api.Form, env *around) value {
	r.burn()
	kid := func(i int) value { return r.kid(path, f, i, env) }
	kids := func(from, to int) []value {
		var l []value
		for i := from; i < to; i++ {
			l = append(l, kid(i))
		}
		return l
	}
	switch f.Kind {
	case api.FormQuote:
		return r.quoted(f.Datum)
	case api.FormName:
		if i := slices.Index(primWords, f.Text); i >= 0 {
			return word(api.TagPrim, int64(i+1))
		}
		if v := env.find(f.Text); v != nil {
			return set(*v)
		}
		r.tell("get " + f.Text)
		return set(r.globals[f.Text])
	case api.FormIf:
		if kid(0) != truth(false) {
			return kid(1)
		}
		if len(f.Kids) == 3 {
			return kid(2)
		}
		return none
	case api.FormLambda:
		r.tell("closure " + strconv.Itoa(r.numbers[path]))
		return &function{path, f, env, r.numbers[path]}
	case api.FormDefine, api.FormSet:
		v := kid(0)
		if place := env.find(f.Text); place != nil {
			r.tell("set", v)
			*place = v
			return none
		}
		r.tell("set "+f.Text, v)
		r.globals[f.Text] = v
		return none
	case api.FormBegin:
		return r.row(path, f, 0, env)
	case api.FormLet:
		r.tell("closure " + strconv.Itoa(r.numbers[path]))
		return r.calls(&function{path, f, env, r.numbers[path]}, kids(0, len(f.Names)))
	case api.FormWhile:
		for kid(0) != truth(false) {
			kids(1, len(f.Kids))
		}
		return none
	case api.FormCall:
		if isPrimCall(f) {
			return r.prim(f.Kids[0].Text, kids(1, len(f.Kids))...)
		}
		l := kids(0, len(f.Kids))
		return r.calls(l[0], l[1:])
	case api.FormSpawn:
		head := kid(0)
		if _, ok := head.(*function); !ok {
			panic(api.ErrVMCall)
		}
		return r.spawned(func() value { return r.calls(head, nil) })
	case api.FormJoin:
		return r.joined(kid(0))
	case api.FormLock:
		return r.locked("lock", kid(0))
	case api.FormUnlock:
		return r.locked("unlock", kid(0))
	}
	r.tell("yield")
	return none
}

// quoted is a datum as a value, new each time.
func (r *reader) quoted(d api.Datum) value {
	r.burn()
	switch d.Kind {
	case api.DatumInt:
		return word(api.TagInt, d.N)
	case api.DatumSymbol:
		n, ok := r.table.Find(d.Text)
		if !ok {
			panic("no symbol " + d.Text)
		}
		return word(api.TagSymbol, int64(n))
	case api.DatumFalse, api.DatumTrue:
		return truth(d.Kind == api.DatumTrue)
	}
	// A cons is told when both its words are there: elements from the left, pairs from the right.
	var l []value
	for _, kid := range d.Kids {
		l = append(l, r.quoted(kid))
	}
	if !d.Dot {
		l = append(l, word(api.TagNil, 0))
	}
	last := l[len(l)-1]
	for i := len(l) - 2; i >= 0; i-- {
		last = r.prim("cons", l[i], last)
	}
	return last
}

// meaning is what forms tell, worked out as they stand there.
func meaning(n *names.Table, fuel int, l ...api.Form) ([]string, api.Errno, bool) {
	p := &plain{procs: []string{""}}
	for i, f := range l {
		p.findProcs("."+strconv.Itoa(i), f)
	}
	r := &reader{teller: teller{fuel: fuel}, table: n, globals: map[string]value{}, numbers: map[string]int{}}
	for number, path := range p.procs {
		r.numbers[path] = number
	}
	return ended(&r.teller, func() value { return r.row("", api.Form{Kids: l}, 0, nil) })
}

// machine goes through code.
type machine struct {
	teller
	code    api.Code
	globals []value
	most    int // frames that there were at one time
	tall    int // words of the stack
}

// closure is a procedure with its environment.
type closure struct {
	proc int
	env  value
}

func (c *closure) number() int { return c.proc }

// frame is a procedure that is gone through, its place, its environment, and the height at which it began.
type frame struct {
	proc, place, from int
	env               value
}

// thread is frames and a stack.
type thread struct {
	frames []frame
	stack  []value
}

func (t *thread) push(v value) { t.stack = append(t.stack, v) }

// take are so many from the top, the top one last.
func (t *thread) take(n int) []value {
	from := len(t.stack) - n
	if from < t.frames[len(t.frames)-1].from {
		panic("a stack has too little")
	}
	l := slices.Clone(t.stack[from:])
	t.stack = t.stack[:from]
	return l
}

func (t *thread) pop() value { return t.take(1)[0] }

// place is the pair of the environment so many places up.
func (t *thread) place(up int) *pair {
	at := t.frames[len(t.frames)-1].env
	for range up {
		at = inner(at).b
	}
	return inner(at)
}

func inner(v value) *pair {
	p, ok := v.(*pair)
	if !ok {
		panic(api.ErrVMUnset)
	}
	return p
}

// begun is the frame of a closure that is called.
func (m *machine) begun(head value, l []value, from int) frame {
	c, ok := head.(*closure)
	if !ok {
		panic(api.ErrVMCall)
	}
	if len(l) != m.code.Procs[c.proc].Params {
		panic(api.ErrVMArgs)
	}
	m.tell("call", append([]value{head}, l...)...)
	env := c.env
	for _, v := range l {
		env = &pair{v, env}
	}
	return frame{proc: c.proc, env: env, from: from}
}

// run goes through a thread to its end.
func (m *machine) run(first frame) value {
	t := &thread{frames: []frame{first}}
	for {
		m.burn()
		f := &t.frames[len(t.frames)-1]
		i := m.code.Procs[f.proc].Code[f.place]
		f.place++
		switch i.Op {
		case api.OpCall:
			l := t.take(i.A + 1)
			t.frames = append(t.frames, m.begun(l[0], l[1:], len(t.stack)))
		case api.OpTail:
			l := t.take(i.A + 1)
			t.stack = t.stack[:f.from]
			*f = m.begun(l[0], l[1:], f.from)
		case api.OpReturn:
			v := t.pop()
			t.stack = t.stack[:f.from]
			t.frames = t.frames[:len(t.frames)-1]
			if len(t.frames) == 0 {
				return v
			}
			t.push(v)
		case api.OpJump:
			f.place = i.A
		case api.OpBranch:
			if t.pop() == truth(false) {
				f.place = i.A
			}
		case api.OpPop:
			t.pop()
		default:
			t.push(m.pushed(t, f, i))
		}
		m.most, m.tall = max(m.most, len(t.frames)), max(m.tall, len(t.stack))
	}
}

// pushed is what an instruction pushes that goes on at the next one.
func (m *machine) pushed(t *thread, f *frame, i api.Instr) value {
	switch i.Op {
	case api.OpConst:
		return m.code.Consts[i.A]
	case api.OpVar:
		return set(t.place(i.A).a)
	case api.OpSetVar:
		v := t.pop()
		m.tell("set", v)
		t.place(i.A).a = v
		return none
	case api.OpGlobal:
		m.tell("get " + m.code.Globals[i.A])
		return set(m.globals[i.A])
	case api.OpSetGlobal:
		v := t.pop()
		m.tell("set "+m.code.Globals[i.A], v)
		m.globals[i.A] = v
		return none
	case api.OpClosure:
		m.tell("closure " + strconv.Itoa(i.A))
		return &closure{i.A, f.env}
	case api.OpPrim:
		return m.prim(primWords[i.A-1], t.take(primTakes[i.A-1])...)
	case api.OpSpawn:
		head := t.pop()
		if _, ok := head.(*closure); !ok {
			panic(api.ErrVMCall)
		}
		return m.spawned(func() value { return m.run(m.begun(head, nil, 0)) })
	case api.OpJoin:
		return m.joined(t.pop())
	case api.OpLock:
		return m.locked("lock", t.pop())
	case api.OpUnlock:
		return m.locked("unlock", t.pop())
	case api.OpYield:
		m.tell("yield")
		return none
	}
	panic("no instruction")
}

// newMachine is one for code, with globals that are unset.
func newMachine(c api.Code, fuel int) *machine {
	return &machine{teller: teller{fuel: fuel}, code: c, globals: make([]value, len(c.Globals))}
}

// meansTheSame holds what the code of forms does against what they mean; false, if that takes too long.
func meansTheSame(t testing.TB, l ...api.Form) (api.Errno, bool) {
	t.Helper()
	const fuel = 1500
	n := table(t)
	c := compiled(t, n, l...)
	want, e, ok := meaning(n, fuel, l...)
	most := 20 * fuel
	if !ok { // it need not go on for longer either
		most = fuel
	}
	m := newMachine(c, most)
	got, _, did := ended(&m.teller, func() value { return m.run(frame{env: word(api.TagNil, 0)}) })
	if !ok { // as far as both went
		least := min(len(got), len(want))
		got, want = got[:least], want[:least]
	}
	if at := firstUnlike(got, want); at >= 0 || ok && !did {
		t.Fatalf("%s:\n%s\nmeans %q and does %q from %d on", textOf(l...), short(listing(n, c)), from(want, at), from(got, at), at)
	}
	return e, ok
}

// firstUnlike is where two lists are not the same; -1, if they are.
func firstUnlike(a, b []string) int {
	for i := range max(len(a), len(b)) {
		if i >= len(a) || i >= len(b) || a[i] != b[i] {
			return i
		}
	}
	return -1
}

// from is a piece of a list, from a place on.
func from(l []string, at int) []string { return l[min(max(at, 0), len(l)):min(max(at, 0)+3, len(l))] }

// TestMeans: what some programs answer, as a reader would have it.
func TestMeans(t *testing.T) {
	for _, c := range []struct{ s, want string }{
		{"", "none0"},
		{"5", "int5"},
		{"1 2 3", "int3"},
		{"(define x 5) x", "int5"},
		{"(define x 5)", "none0"},
		{"(if #f 1)", "none0"},
		{"(if '() 1 2)", "int1"},
		{"(if 0 1 2)", "int1"},
		{"(if #f 1 2)", "int2"},
		{"(car (cons 1 2))", "int1"},
		{"(cons '(1 . 2) '(3))", "((int1 . int2) . (int3 . nil0))"},
		{"'((1 2) . 3)", "((int1 . (int2 . nil0)) . int3)"},
		{"((lambda (x y) (- x y)) 7 2)", "int5"},
		{"(let ((x 7) (y 2)) (- x y))", "int5"},
		{"(let ((x 1)) (let ((x (+ x 1)) (y x)) (cons x y)))", "(int2 . int1)"},
		{"(define x 1) (let ((x 2)) (set! x 3)) x", "int1"},
		{"(define x 1) (let ((y 2)) (set! x (+ x y))) x", "int3"},
		{"(define add1 (lambda (n) (lambda (m) (+ n m)))) ((add1 3) 4)", "int7"},
		{"(define c (let ((n 0)) (lambda () (set! n (+ n 1)) n))) (c) (c) (c)", "int3"},
		{"(define two (let ((n 0)) (cons (lambda () (set! n (+ n 1))) (lambda () n)))) ((car two)) ((car two)) ((cdr two))", "int2"},
		{"(define fact (lambda (n) (if (< n 2) 1 (* n (fact (- n 1)))))) (fact 10)", "int3628800"},
		{"(define fib (lambda (n) (if (< n 2) n (+ (fib (- n 1)) (fib (- n 2)))))) (fib 7)", "int13"},
		{"(define rev (lambda (l done) (if (null? l) done (rev (cdr l) (cons (car l) done))))) (rev '(1 2) '())", "(int2 . (int1 . nil0))"},
		{"(define even (lambda (n) (if (eq? n 0) #t (odd (- n 1))))) (define odd (lambda (n) (if (eq? n 0) #f (even (- n 1))))) (even 11)", "#f0"},
		{"(let ((i 0) (s 0)) (while (< i 5) (set! s (+ s i)) (set! i (+ i 1))) s)", "int10"},
		{"(let ((i 3)) (while (< 0 i) (set! i (- i 1))))", "none0"},
		{"(while #f (error 1))", "none0"},
		// Arguments are worked out from the left.
		{"(define l '()) (define p (lambda (x) (set! l (cons x l)) x)) (+ (p 1) (p 2)) ((begin (p 5) p) (p 3)) (car (cdr (cdr l)))", "int5"},
		{"(define n 0) (define next (lambda () (set! n (+ n 1)) n)) (cons (next) (cons (next) (next)))", "(int1 . (int2 . int3))"},
		{"(define n 0) (define next (lambda () (set! n (+ n 1)) n)) (let ((a (next)) (b (next))) (cons a b))", "(int1 . int2)"},
		// A lambda sees variables as they are at the moment.
		{"(let ((x 1)) (let ((f (lambda () x))) (set! x 2) (f)))", "int2"},
		{"(define x 1) (define f (lambda () x)) (set! x 2) (f)", "int2"},
		{"(define mk (lambda (x) (lambda () (set! x (* x 2)) x))) (define a (mk 1)) (define b (mk 10)) (a) (a) (b) (cons (a) (b))", "(int8 . int40)"},
		// A quoted list is new each time.
		{"(define f (lambda () '(1 2))) (set-car! (f) 9) (f)", "(int1 . (int2 . nil0))"},
		{"(define f (lambda () '(1 2))) (eq? (f) (f))", "#f0"},
		{"(define f (lambda () 'a)) (eq? (f) (f))", "#t0"},
		{"(let ((b (box 1))) (add b 4) (cas b 5 7) (set-box! b (+ (unbox b) 1)) (unbox b))", "int8"},
		{"(join (spawn (lambda () (+ 1 2))))", "int3"},
		{"(lock 0) (unlock 0)", "none0"},
		{"(yield)", "none0"},
		{"(begin 1 (begin 2 3))", "int3"},
		{"(lambda () 1)", "#1"},
		{"car", "prim2"},
		{"(let ((f (lambda (x) (if x (begin 1 (let ((y 5)) (+ y x))) 3)))) (cons (f 1) (f #f)))", "(int6 . int3)"},
		{"(let ((a 1)) (let ((b 2) (c 3)) (let () (lambda () a)) (lambda (d e f) a)))", "#5"},
		{"((let ((a 1)) (let ((b 2) (c 3)) (lambda (d e f) (+ a (* 10 (+ b (* 10 (+ c (* 10 (+ d (* 10 (+ e (* 10 f))))))))))))) 4 5 6)", "int654321"},
		{"((lambda (x) ((lambda (x) (set! x (* x 2))) x) x) 4)", "int4"},
		{"(not (not 1))", "#t0"},
	} {
		l := formsOf(t, c.s)
		if _, ok := meansTheSame(t, l...); !ok {
			t.Errorf("%s goes on", c.s)
		}
		n := table(t)
		compiled(t, n, l...) // so that symbols have their numbers
		told, _, _ := meaning(n, 3000, l...)
		if got := told[len(told)-1]; got != "value "+c.want {
			t.Errorf("%s: %s, not %s", c.s, got, c.want)
		}
	}
	for s, want := range map[string]api.Errno{
		"x": api.ErrVMUnset, "(f)": api.ErrVMUnset, "(1)": api.ErrVMCall, "(car 1)": api.ErrWordKind, "('car '(1))": api.ErrVMCall,
		"((begin car) '(1))": api.ErrVMCall, "((lambda (x) x))": api.ErrVMArgs, "((lambda () 1) 2)": api.ErrVMArgs,
		"(error 1)": api.ErrVMRaised, "(+ 1 #t)": api.ErrWordKind, "(quotient 1 0)": api.ErrWordZero,
		"(let ((x (if #f 1))) x)": api.ErrVMUnset, "(let ((x (yield))) (set! x 1) x)": api.OK, "(define x (yield)) x": api.ErrVMUnset,
		"(spawn 1)": api.ErrVMCall, "(spawn (lambda (x) x))": api.ErrVMArgs, "(join 7)": api.ErrLocksNone, "(join #f)": api.ErrWordKind, "(lock car)": api.ErrWordKind,
	} {
		if e, ok := meansTheSame(t, formsOf(t, s)...); e != want || !ok {
			t.Errorf("%s: %d, not %d", s, e, want)
		}
	}
}

// TestLoops: calls in tail place take no frame, however long they go on.
func TestLoops(t *testing.T) {
	for _, s := range []string{
		"(define f (lambda (n) (if (< n 1) 'done (f (- n 1))))) (f 5000)",
		"(define f (lambda (n) (if (< 0 n) (f (- n 1)) 'done))) (f 5000)",
		"(define f (lambda (n) (if (< 0 n) (f (- n 1))))) (f 5000)",
		"(define f (lambda (n) n (begin n (begin (if (not (< n 1)) (f (- n 1)) 'done))))) (f 5000)",
		"(define f (lambda (n) (let ((m (- n 1))) (if (< n 1) 'done (f m))))) (f 5000)",
		"(define f (lambda (n) (let () (let ((m (- n 1))) m (begin (if (< n 1) 'done (let () (f m)))))))) (f 5000)",
		"(define even (lambda (n) (if (eq? n 0) #t (odd (- n 1))))) (define odd (lambda (n) (if (eq? n 0) #f (even (- n 1))))) (even 5000)",
		"(define f (lambda (k n) (if (< n 1) (k n) (k (- n 1))))) (define k (lambda (n) (if (< n 1) 'done (f k n)))) (f k 5000)",
		"((lambda (f) (f f 5000)) (lambda (f n) (if (< n 1) 'done (f f (- n 1)))))",
	} {
		n := table(t)
		m := newMachine(compiled(t, n, formsOf(t, s)...), 1<<22)
		if _, e, ok := ended(&m.teller, func() value { return m.run(frame{env: word(api.TagNil, 0)}) }); e != api.OK || !ok {
			t.Errorf("%s: %d, %v", s, e, ok)
		}
		if m.most > 2 || m.tall > 8 {
			t.Errorf("%s: %d frames, %d words", s, m.most, m.tall)
		}
	}
	// Others take one.
	n := table(t)
	m := newMachine(compiled(t, n, formsOf(t, "(define f (lambda (n) (if (< n 1) 0 (+ 1 (f (- n 1)))))) (f 500)")...), 1<<20)
	if m.run(frame{env: word(api.TagNil, 0)}); m.most != 502 {
		t.Errorf("%d frames", m.most)
	}
}

// TestDrawnMeanings: programs that mostly go on to their end.
func TestDrawnMeanings(t *testing.T) {
	r := rand.New(rand.NewSource(90))
	fine, wrong, long := 0, 0, 0
	for range 3000 {
		switch e, ok := meansTheSame(t, drawnProgram(t, r)...); {
		case !ok:
			long++
		case e == api.OK:
			fine++
		default:
			wrong++
		}
	}
	if fine < 1500 || wrong < 100 || long < 20 {
		t.Errorf("%d ended, %d by errors, %d go on", fine, wrong, long)
	}
}

// TestDrawnFormsMean: whatever forms.
func TestDrawnFormsMean(t *testing.T) {
	r := rand.New(rand.NewSource(91))
	prelude := formsOf(t, "(define x 1) (define y '(1 2)) (define z (box 3)) (define f (lambda () 5)) (define g (lambda (a) a)) (define a (lambda (x y) y)) (define b #f)")
	fine, wrong := 0, 0
	for range 5000 {
		l := slices.Concat(prelude[:r.Intn(len(prelude)+1)], drawnForms(r, 4, 4))
		if e, ok := meansTheSame(t, l...); ok && e == api.OK {
			fine++
		} else if ok {
			wrong++
		}
	}
	if fine < 500 || wrong < 500 {
		t.Errorf("%d ended, %d by errors", fine, wrong)
	}
}

// draws draws programs: texts of forms whose values are mostly as they must be.
type draws struct {
	*rand.Rand
	ints, funs []string // names of variables at hand
}

func (d draws) pick(l ...string) string { return l[d.Intn(len(l))] }

// number is a form whose value is an integer.
func (d draws) number(depth int) string {
	if depth <= 0 {
		if len(d.ints) > 0 && d.Intn(3) > 0 {
			return d.pick(d.ints...)
		}
		return strconv.Itoa(d.Intn(9) - 2)
	}
	n := func() string { return d.number(depth - 1 - d.Intn(2)) }
	switch d.Intn(14) {
	case 0, 1:
		return "(" + d.pick("+", "-", "*") + " " + n() + " " + n() + ")"
	case 2, 3:
		return "(if " + d.truth(depth-1) + " " + n() + " " + n() + ")"
	case 4, 5:
		return d.let(depth, func(in draws) string { return in.number(depth - 1) })
	case 6:
		return "(begin " + d.effect(depth-1) + " " + n() + ")"
	case 7:
		if len(d.funs) > 0 {
			return "(" + d.pick(d.funs...) + " " + n() + ")"
		}
		return "((lambda (v) " + d.with([]string{"v"}, nil).number(depth-1) + ") " + n() + ")"
	case 8:
		name := d.pick("u", "v", "w")
		in := d.with([]string{name}, nil)
		return "((lambda (" + name + ") " + in.effect(depth-1) + " " + in.number(depth-1) + ") " + n() + ")"
	case 9:
		return "(car (cons " + n() + " " + n() + "))"
	case 10:
		return "(car (cdr " + d.pick("'(1 2 3)", "'((a) 7)", "(cons "+n()+" (cons "+n()+" '()))") + "))"
	case 11:
		return "(" + d.pick("quotient", "remainder") + " " + n() + " " + n() + ")"
	case 12:
		return "(join (spawn (lambda () " + n() + ")))"
	}
	return "(unbox (box " + n() + "))"
}

// truth is a form that an if may ask.
func (d draws) truth(depth int) string {
	n := func() string { return d.number(depth - 1) }
	return d.pick("(< "+n()+" "+n()+")", "(eq? "+n()+" "+n()+")", "(not (< "+n()+" 3))", "(null? '())", "#f", n())
}

// effect is a form that is there for what it does.
func (d draws) effect(depth int) string {
	name := d.pick("ga", "gb")
	if len(d.ints) > 0 {
		name = d.pick(d.ints...)
	}
	switch d.Intn(5) {
	case 0:
		return "(let ((i " + strconv.Itoa(d.Intn(4)) + ")) (while (< 0 i) (set! i (- i 1)) (set! " + name + " " + d.number(depth-1) + ")))"
	case 1:
		return "(if " + d.truth(depth-1) + " (set! " + name + " " + d.number(depth-1) + "))"
	case 2:
		return "(yield)"
	}
	return "(set! " + name + " " + d.number(depth-1) + ")"
}

// let binds one to three names, of which some may be bound already, or functions.
func (d draws) let(depth int, body func(draws) string) string {
	var bindings, ints, funs []string
	for _, name := range strings.Fields("u v w k")[d.Intn(3):] {
		if name == "k" && d.Intn(2) == 0 {
			in := d.with([]string{"u"}, nil)
			bindings = append(bindings, "(k (lambda (u) "+in.effect(depth-2)+" "+in.number(depth-2)+"))")
			funs = append(funs, name)
		} else if name != "k" {
			bindings = append(bindings, "("+name+" "+d.number(depth-2)+")")
			ints = append(ints, name)
		}
	}
	return "(let (" + strings.Join(bindings, " ") + ") " + body(d.with(ints, funs)) + ")"
}

// with is where names more are bound: others of the same names are not at hand.
func (d draws) with(ints, funs []string) draws {
	hidden := slices.Concat(ints, funs)
	keep := func(l, more []string) []string {
		out := slices.Clone(more)
		for _, s := range l {
			if !slices.Contains(hidden, s) {
				out = append(out, s)
			}
		}
		return out
	}
	return draws{d.Rand, keep(d.ints, ints), keep(d.funs, funs)}
}

// drawnProgram is defines, and what is done with them.
func drawnProgram(t testing.TB, r *rand.Rand) []api.Form {
	t.Helper()
	d := draws{Rand: r}
	s := "(define ga " + d.number(2) + ") "
	d = d.with([]string{"ga"}, nil)
	s += "(define gb " + d.number(2) + ") "
	d = d.with([]string{"gb"}, nil)
	in := d.with([]string{"n"}, nil)
	s += "(define f (lambda (n) " + in.effect(2) + " " + in.number(2+r.Intn(2)) + ")) "
	loop := d.with([]string{"n", "acc"}, []string{"f"})
	s += "(define loop (lambda (n acc) (if (< n 1) acc (loop (- n 1) " + loop.number(2) + ")))) "
	d = d.with(nil, []string{"f"})
	if r.Intn(30) == 0 { // it goes on and on
		s += "(define f (lambda (n) (f (+ n 0)))) (f 1) "
	}
	for range r.Intn(3) {
		s += d.effect(3) + " "
	}
	s += "(loop " + strconv.Itoa(r.Intn(5)) + " " + d.number(2) + ") "
	return formsOf(t, s+"(cons ga (cons gb "+d.number(3+r.Intn(2))+"))")
}
