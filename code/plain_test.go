package code_test

import (
	"math/big"
	"math/rand"
	"regexp"
	"slices"
	"strings"
	"testing"

	"dapple/api"
	"dapple/code"
	"dapple/words"
)

// plainSymbol is chapter 5 once more: whether all of s is a symbol's word.
func plainSymbol(s string) bool {
	return len(s) <= 32 && symbolBytes.MatchString(s) && !noSymbol.MatchString(s)
}

// plainConst tells whether a word may be a constant, by its bits.
func plainConst(w api.Word) bool {
	tag, n := w%16, int64(w)>>4
	switch api.Tag(tag) {
	case api.TagNil, api.TagFalse, api.TagTrue, api.TagNone:
		return n == 0
	case api.TagInt:
		return true
	case api.TagSymbol:
		return 0 <= n && n <= 2147483647
	case api.TagPrim:
		return 1 <= n && n <= 22
	}
	return false
}

// plainCheck is the chapter once more: all that is wrong, in Check's order, of which the first is told.
func plainCheck(c api.Code) verdict {
	if len(c.Procs) > 256 || len(c.Consts) > 1024 || len(c.Globals) > 64 {
		return much(0, 0)
	}
	sorted := slices.Sorted(slices.Values(c.Globals))
	if len(c.Procs) == 0 || len(slices.Compact(sorted)) < len(c.Globals) {
		return noCode(0, 0)
	}
	for _, w := range c.Consts {
		if !plainConst(w) {
			return noCode(0, 0)
		}
	}
	for _, name := range c.Globals {
		if !plainSymbol(name) {
			return noCode(0, 0)
		}
	}
	for number, p := range c.Procs {
		if e, place := plainProc(c, p); e != api.OK {
			return verdict{e, number, place}
		}
	}
	return mayBe
}

func plainProc(c api.Code, p api.Proc) (api.Errno, int) {
	n := len(p.Code)
	if n > 4096 {
		return api.ErrMuch, 0
	}
	if p.Params < 0 || p.Params > 256 || n == 0 {
		return api.ErrCodeForm, 0
	}
	for place, i := range p.Code {
		if !plainInstr(c, n, i) {
			return api.ErrCodeForm, place
		}
	}
	if op := opWords()[p.Code[n-1].Op-1]; op != "return" && op != "tail" && op != "jump" {
		return api.ErrCodeForm, n - 1
	}
	if wrong := slices.Index(plainWrong(p.Code), true); wrong >= 0 {
		return api.ErrCodeForm, wrong
	}
	return api.OK, 0
}

// plainInstr tells whether an instruction may be in a procedure of n of them.
func plainInstr(c api.Code, n int, i api.Instr) bool {
	if i.Op == 0 || int(i.Op) > len(opWords()) {
		return false
	}
	switch opWords()[i.Op-1] {
	case "const":
		return 0 <= i.A && i.A < len(c.Consts)
	case "global", "setglobal":
		return 0 <= i.A && i.A < len(c.Globals)
	case "closure":
		return 0 <= i.A && i.A < len(c.Procs)
	case "var", "setvar", "call", "tail":
		return 0 <= i.A && i.A <= 256
	case "jump", "branch":
		return 0 <= i.A && i.A < n
	case "prim":
		return 1 <= i.A && i.A <= 22
	}
	return i.A == 0
}

// plainWrong tells of each place whether it is wrong: by all ways of up to so many steps that what two of them differ in has come to every place to which it comes at all. (One that leads to where two ways part their depths, and one from there on, go to no place twice.)
func plainWrong(instrs []api.Instr) []bool {
	type state struct{ place, depth int }
	n := len(instrs)
	came := make([]map[int]struct{}, n)
	for i := range came {
		came[i] = map[int]struct{}{}
	}
	now := map[state]struct{}{{0, 0}: {}}
	for range 2*n + 2 {
		next := map[state]struct{}{}
		for s := range now {
			came[s.place][s.depth] = struct{}{}
			i := instrs[s.place]
			op := opWords()[i.Op-1]
			takes, puts := effect(op, i.A)
			behind := s.depth - takes + puts
			if op == "jump" || op == "branch" {
				next[state{i.A, behind}] = struct{}{}
			}
			if op != "jump" && op != "return" && op != "tail" {
				next[state{s.place + 1, behind}] = struct{}{}
			}
		}
		now = next
	}
	wrong := make([]bool, n)
	for place, i := range instrs {
		takes, _ := effect(opWords()[i.Op-1], i.A)
		wrong[place] = len(came[place]) != 1
		for depth := range came[place] {
			wrong[place] = wrong[place] || depth < takes || depth > 255
		}
	}
	return wrong
}

// Symbols and lines once more, as patterns.
var (
	symbolBytes = regexp.MustCompile(`^[!#$%&*-:<-~+]+\z`)
	noSymbol    = regexp.MustCompile(`^([0-9#]|-[0-9]|\.\z)`)

	constLine  = regexp.MustCompile(`^const (nil|false|true|none)\n\z|^const (int|symbol|prim) (-?[1-9][0-9]*|0)\n\z`)
	globalLine = regexp.MustCompile(`^global ([^\n]*)\n\z`)
	procLine   = regexp.MustCompile(`^proc ([1-9][0-9]*|0)\n\z`)
	instrLine  = regexp.MustCompile(`^ (pop|return|spawn|join|lock|unlock|yield)\n\z|^ (const|var|setvar|global|setglobal|closure|jump|branch|call|tail|prim) ([1-9][0-9]*|0)\n\z`)
)

// plainParse is Parse once more.
func plainParse(s string) (api.Code, api.Errno, int) {
	var c api.Code
	kinds := ""
	lines := strings.SplitAfter(s, "\n")
	if last := len(lines) - 1; lines[last] == "" {
		lines = lines[:last]
	}
	for i, line := range lines {
		kind, ok := plainLine(&c, line)
		kinds += kind
		if !ok || outOfOrder(kinds) != 0 {
			return api.Code{}, api.ErrCodeText, i + 1
		}
	}
	if v := plainCheck(c); v.e != api.OK {
		return api.Code{}, v.e, 0
	}
	return c, api.OK, 0
}

// plainLine lays down what a line says, and tells its letter; false, if it is none.
func plainLine(c *api.Code, line string) (string, bool) {
	if m := constLine.FindStringSubmatch(line); m != nil {
		n, ok := plainNumber(m[3], -1<<59, 1<<59-1)
		tag := slices.Index(strings.Fields("nil false true none int symbol prim"), m[1]+m[2]) + 1
		w := api.Word(n*16 + int64(tag))
		c.Consts = append(c.Consts, w)
		return "c", ok && plainConst(w)
	}
	if m := globalLine.FindStringSubmatch(strings.ToValidUTF8(line, "\uffff")); m != nil {
		c.Globals = append(c.Globals, strings.TrimSuffix(strings.TrimPrefix(line, "global "), "\n"))
		return "g", true
	}
	if m := procLine.FindStringSubmatch(line); m != nil {
		n, ok := plainNumber(m[1], 0, 2147483647)
		c.Procs = append(c.Procs, api.Proc{Params: int(n)})
		return "p", ok
	}
	if m := instrLine.FindStringSubmatch(line); m != nil {
		n, ok := plainNumber(m[3], 0, 2147483647)
		if last := len(c.Procs) - 1; last >= 0 {
			c.Procs[last].Code = append(c.Procs[last].Code, api.Instr{Op: api.Op(slices.Index(opWords(), m[1]+m[2]) + 1), A: int(n)})
		}
		return "i", ok
	}
	return "", false
}

// plainNumber is what digits say, within bounds; 0, if there are none.
func plainNumber(digits string, least, most int64) (int64, bool) {
	if digits == "" {
		return 0, true
	}
	n, _ := new(big.Int).SetString(digits, 10)
	if n.Cmp(big.NewInt(least)) < 0 || n.Cmp(big.NewInt(most)) > 0 {
		return 0, false
	}
	return n.Int64(), true
}

// samePlainText holds Parse of a text against the chapter's words, and answers the error.
func samePlainText(t testing.TB, s string) api.Errno {
	t.Helper()
	want, e, line := plainParse(s)
	c, got, at := code.Parse(s)
	if got != e || at != line || !same(c, want) || !code.Same(c, want) {
		t.Errorf("Parse of %q: %s, %d, %d; not %s, %d, %d", short(s), short(dump(c)), got, at, short(dump(want)), e, line)
	}
	if e != api.OK {
		return e
	}
	if again, e := code.Text(c); again != s || e != api.OK {
		t.Errorf("Text of what Parse reads of %q: %q, %d", short(s), short(again), e)
	}
	return e
}

// pool are words, names that may be and that may not.
func pool() ([]api.Word, []api.Word, []string, []string) {
	return goodConsts(), badConsts(),
		strings.Fields("a b c x y z car if - + ... a.b +1 set-car! proc const global yield"),
		[]string{"", "1", "-7", ".", "#t", "a b", " a", "a(", "\x00", "\n", "a\nb", "é", strings.Repeat("x", 33)}
}

// builder draws a procedure that may be: what it lays down keeps one depth at each place.
type builder struct {
	r      *rand.Rand
	c      api.Code // of whose constants, globals and procedures there are so many
	instrs []api.Instr
}

func (b *builder) lay(op api.Op, a int) { b.instrs = append(b.instrs, api.Instr{Op: op, A: a}) }

// leaf lays down what pushes one word.
func (b *builder) leaf() {
	switch k := b.r.Intn(5); {
	case k == 0 && len(b.c.Consts) > 0:
		b.lay(api.OpConst, b.r.Intn(len(b.c.Consts)))
	case k == 1 && len(b.c.Globals) > 0:
		b.lay(api.OpGlobal, b.r.Intn(len(b.c.Globals)))
	case k == 2:
		b.lay(api.OpClosure, b.r.Intn(len(b.c.Procs)))
	case k == 3:
		b.lay(api.OpVar, []int{0, 1, 2, 255, 256}[b.r.Intn(5)])
	default:
		b.lay(api.OpYield, 0)
	}
}

// value lays down instructions that push one word in the end.
func (b *builder) value(deep int) {
	if deep == 0 {
		b.leaf()
		return
	}
	switch b.r.Intn(7) {
	case 0:
		b.leaf()
	case 1:
		b.value(deep - 1)
		op := []api.Op{api.OpSetVar, api.OpSpawn, api.OpJoin, api.OpLock, api.OpUnlock, api.OpSetGlobal}[b.r.Intn(6)]
		if op != api.OpSetGlobal || len(b.c.Globals) > 0 {
			a := 0
			if op == api.OpSetGlobal {
				a = b.r.Intn(len(b.c.Globals))
			}
			b.lay(op, a)
		}
	case 2:
		prim := b.r.Intn(22) + 1
		b.values(primArguments()[prim-1], deep)
		b.lay(api.OpPrim, prim)
	case 3:
		n := b.r.Intn(4)
		b.values(n+1, deep)
		b.lay(api.OpCall, n)
	case 4:
		b.value(deep - 1)
		b.lay(api.OpPop, 0)
		b.value(deep - 1)
	case 5:
		b.fork(deep)
	case 6:
		b.loop(deep)
	}
}

func (b *builder) values(n, deep int) {
	for range n {
		b.value(deep - 1)
	}
}

// fork is one of two values.
func (b *builder) fork(deep int) {
	b.value(deep - 1)
	branch := len(b.instrs)
	b.lay(api.OpBranch, 0)
	b.value(deep - 1)
	jump := len(b.instrs)
	b.lay(api.OpJump, 0)
	b.instrs[branch].A = len(b.instrs)
	b.value(deep - 1)
	b.instrs[jump].A = len(b.instrs)
}

// loop goes back till a value is false, and pushes one then.
func (b *builder) loop(deep int) {
	back := len(b.instrs)
	b.value(deep - 1)
	branch := len(b.instrs)
	b.lay(api.OpBranch, 0)
	b.value(deep - 1)
	b.lay(api.OpPop, 0)
	b.lay(api.OpJump, back)
	b.instrs[branch].A = len(b.instrs)
	b.value(deep - 1)
}

// end lays down what ends a procedure.
func (b *builder) end(deep int) {
	switch b.r.Intn(5) {
	case 0:
		n := b.r.Intn(3)
		b.values(n+1, deep)
		b.lay(api.OpTail, n)
	case 1:
		b.value(deep)
		b.lay(api.OpPop, 0)
		b.lay(api.OpJump, 0)
	case 2:
		b.value(deep - 1)
		branch := len(b.instrs)
		b.lay(api.OpBranch, 0)
		b.end(1)
		b.instrs[branch].A = len(b.instrs)
		b.end(1)
	default:
		b.value(deep)
		b.lay(api.OpReturn, 0)
	}
}

// drawnProc is a procedure that may be, in that code.
func drawnProc(r *rand.Rand, c api.Code) api.Proc {
	b := builder{r: r, c: c}
	b.end(1 + r.Intn(3))
	return api.Proc{Params: []int{0, 0, 1, 2, 255, 256}[r.Intn(6)], Code: b.instrs}
}

// drawnCode is code that may be.
func drawnCode(r *rand.Rand) api.Code {
	good, _, names, _ := pool()
	var c api.Code
	for range r.Intn(5) {
		c.Consts = append(c.Consts, good[r.Intn(len(good))])
	}
	for _, at := range r.Perm(len(names))[:r.Intn(4)] {
		c.Globals = append(c.Globals, names[at])
	}
	c.Procs = make([]api.Proc, 1+r.Intn(3))
	for i := range c.Procs {
		c.Procs[i] = drawnProc(r, c)
	}
	return c
}

// spoilt is code with one thing changed, in memory of its own; it may still be.
func spoilt(r *rand.Rand, c api.Code) api.Code {
	c = copied(c)
	good, bad, names, noNames := pool()
	switch r.Intn(12) {
	case 0:
		c.Consts = append(c.Consts, append(good, bad...)[r.Intn(len(good)+len(bad))])
	case 1:
		c.Globals = append(c.Globals, append(names, noNames...)[r.Intn(len(names)+len(noNames))])
	case 2:
		if len(c.Globals) > 0 {
			c.Globals = append(c.Globals, c.Globals[r.Intn(len(c.Globals))])
		}
	case 3:
		if n := len(c.Consts); n > 0 {
			c.Consts = c.Consts[:r.Intn(n)]
		}
	case 4:
		if n := len(c.Procs); n > 0 {
			c.Procs = c.Procs[:r.Intn(n)]
		}
	default:
		if len(c.Procs) > 0 {
			spoilProc(r, &c.Procs[r.Intn(len(c.Procs))])
		}
	}
	return c
}

func spoilProc(r *rand.Rand, p *api.Proc) {
	if len(p.Code) == 0 {
		return
	}
	at := r.Intn(len(p.Code))
	switch r.Intn(8) {
	case 0:
		p.Params = []int{-1, 0, 1, 256, 257, 1 << 31}[r.Intn(6)]
	case 1:
		p.Code = slices.Delete(p.Code, at, at+1)
	case 2:
		p.Code = slices.Insert(p.Code, at, drawnInstr(r, len(p.Code)))
	case 3:
		p.Code[at].A = []int{-1, 0, 1, 2, 3, 22, 23, 255, 256, 257, len(p.Code) - 1, len(p.Code)}[r.Intn(12)]
	case 4:
		p.Code[at].Op = api.Op(r.Intn(20))
	case 5:
		p.Code = p.Code[:at]
	default:
		p.Code[at] = drawnInstr(r, len(p.Code))
	}
}

// drawnInstr is one for a procedure of n instructions, with few words to take.
func drawnInstr(r *rand.Rand, n int) api.Instr {
	op := api.Op(1 + r.Intn(18))
	a := 0
	switch opWords()[op-1] {
	case "jump", "branch":
		a = r.Intn(n)
	case "call", "tail", "var", "setvar":
		a = r.Intn(3)
	case "prim":
		a = 1 + r.Intn(22)
	}
	return api.Instr{Op: op, A: a}
}

// TestPlainOfSmallProcedures: all of up to four instructions, of those that tell ways and depths.
func TestPlainOfSmallProcedures(t *testing.T) {
	fine := 0
	for n := 1; n <= 4; n++ {
		all := asm("yield; pop; return; tail 1; call 1; prim 1")
		for at := range n {
			all = append(all, api.Instr{Op: api.OpJump, A: at}, api.Instr{Op: api.OpBranch, A: at})
		}
		instrs := make([]api.Instr, n)
		var row func(at int)
		row = func(at int) {
			if at < n {
				for _, i := range all {
					instrs[at] = i
					row(at + 1)
				}
				return
			}
			c := api.Code{Procs: []api.Proc{{Code: instrs}}}
			want := plainCheck(c)
			if e, number, place := code.Check(c); (verdict{e, number, place}) != want {
				t.Fatalf("%s: %d, %d, %d; not %v", dump(c), e, number, place, want)
			}
			if want == mayBe {
				fine++
			}
		}
		row(0)
	}
	if fine < 100 {
		t.Errorf("only %d may be", fine)
	}
}

// TestPlainOfDrawnProcedures: rows of instructions of any kind, of which most may not be, by a place that is any.
func TestPlainOfDrawnProcedures(t *testing.T) {
	r := rand.New(rand.NewSource(82))
	places := map[int]int{}
	for range 30000 {
		n := 2 + r.Intn(9)
		var instrs []api.Instr
		for range n - 1 {
			i := drawnInstr(r, n)
			if r.Intn(3) == 0 {
				i = api.Instr{Op: api.OpYield}
			}
			instrs = append(instrs, i)
		}
		instrs = append(instrs, []api.Instr{{Op: api.OpReturn}, {Op: api.OpTail}, {Op: api.OpJump, A: r.Intn(n)}}[r.Intn(3)])
		c := api.Code{Consts: []api.Word{1}, Globals: []string{"x"}, Procs: []api.Proc{{Code: instrs}}}
		want := plainCheck(c)
		if e, number, place := code.Check(c); (verdict{e, number, place}) != want {
			t.Fatalf("%s: %d, %d, %d; not %v", dump(c), e, number, place, want)
		}
		if want == mayBe {
			places[-1]++
		} else {
			places[want.place]++
		}
	}
	for place := -1; place < 7; place++ {
		if places[place] < 50 {
			t.Errorf("only %d at %d", places[place], place)
		}
	}
}

// TestPlainOfDrawnCode: code that may be, and with things changed in it.
func TestPlainOfDrawnCode(t *testing.T) {
	r := rand.New(rand.NewSource(83))
	tally := map[verdict]int{}
	for range 8000 {
		c := drawnCode(r)
		checks(t, c, mayBe)
		for range r.Intn(4) {
			c = spoilt(r, c)
			want := plainCheck(c)
			checks(t, c, want)
			want.place = min(want.place, 3)
			tally[want]++
		}
	}
	for _, v := range []verdict{mayBe, noCode(0, 0), noCode(0, 1), noCode(0, 3), noCode(1, 0), noCode(1, 3), noCode(2, 0), noCode(2, 3)} {
		if tally[v] < 50 {
			t.Errorf("only %d are %v", tally[v], v)
		}
	}
}

// TestPlainOfDrawnTexts: texts of code, with bytes and lines changed, left out, put in.
func TestPlainOfDrawnTexts(t *testing.T) {
	r := rand.New(rand.NewSource(84))
	tally := map[api.Errno]int{}
	for range 10000 {
		s, e := code.Text(drawnCode(r))
		if e != api.OK {
			t.Fatal(e)
		}
		for range 1 + r.Intn(2) {
			s = changed(r, s)
			tally[samePlainText(t, s)]++
		}
	}
	for _, e := range []api.Errno{api.OK, api.ErrCodeForm, api.ErrCodeText} {
		if tally[e] < 500 {
			t.Errorf("only %d have the error %d", tally[e], e)
		}
	}
}

// changed is a text with a byte or a line changed.
func changed(r *rand.Rand, s string) string {
	if s == "" {
		return "\n"
	}
	const some = "\n\n  0123456789-+abcdefglnoprstuvx\x00\r\t\xff"
	at := r.Intn(len(s))
	b := string(some[r.Intn(len(some))])
	lines := strings.SplitAfter(s, "\n")
	one, two := r.Intn(len(lines)), r.Intn(len(lines))
	switch r.Intn(7) {
	case 0:
		return s[:at] + s[at+1:]
	case 1:
		return s[:at] + b + s[at:]
	case 2:
		return s[:at] + b + s[at+1:]
	case 3:
		lines[one], lines[two] = lines[two], lines[one]
	case 4:
		lines = slices.Delete(lines, one, one+1)
	case 5:
		lines = slices.Insert(lines, one, lines[two])
	case 6:
		all := strings.Split("const nil,const int 7,const symbol 0,const prim 9,global q,global ,proc 0,proc 256,proc 257, const 0, var 256, setvar 0, global 0, setglobal 0, closure 0, pop, jump 0, branch 0, call 0, tail 0, return, prim 2, spawn, join, lock, unlock, yield", ",")
		lines = slices.Insert(lines, one, all[r.Intn(len(all))]+"\n")
	}
	return strings.Join(lines, "")
}

// TestPlainModel: what the words of chapters 1 and 5 are once more is what those layers say.
func TestPlainModel(t *testing.T) {
	for _, w := range append(goodConsts(), badConsts()...) {
		tag, _, ok := words.Of(w)
		if plainConst(w) != (ok && tag != api.TagRef) {
			t.Errorf("%x", w)
		}
	}
	good, _, names, noNames := pool()
	if len(good) == 0 {
		t.Error("no constants")
	}
	for _, name := range names {
		if !plainSymbol(name) {
			t.Errorf("%q is no symbol", name)
		}
	}
	for _, name := range noNames {
		if plainSymbol(name) {
			t.Errorf("%q is a symbol", name)
		}
	}
}

func FuzzPlain(f *testing.F) {
	f.Add(sampleText)
	f.Add(small("const false", "const true", "const none", "const int -12", "const symbol 3", "const prim 22", "global a", "global b"))
	f.Add("proc 2\n yield\n branch 5\n closure 0\n var 0\n tail 1\n jump 0\n")
	f.Add("proc 0\n yield\n yield\n prim 1\n spawn\n join\n lock\n unlock\n setvar 1\n pop\n jump 0\n")
	r := rand.New(rand.NewSource(85))
	for range 20 {
		s, _ := code.Text(drawnCode(r))
		f.Add(s)
	}
	f.Fuzz(func(t *testing.T, s string) {
		if len(s) < 2000 {
			samePlainText(t, s)
		}
	})
}
