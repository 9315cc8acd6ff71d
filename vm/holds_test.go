package vm_test

import (
	"math/rand"
	"slices"
	"testing"

	"dapple/api"
	"dapple/vm"
	"dapple/words"
)

// others lets another one tell of cells that have other numbers: each bit of the mask is turned.
type others struct {
	teller vm.Accesses
	mask   int
}

// turned is a word whose reference, if it is one, is to the other number.
func (o others) turned(w api.Word) api.Word {
	if cell, ok := words.Cell(w); ok {
		return words.Ref(cell ^ o.mask)
	}
	return w
}

func (o others) all(l []int) []int {
	var out []int
	for _, cell := range l {
		out = append(out, cell^o.mask)
	}
	return out
}

func (o others) Load(cell, field int) api.Word {
	return o.turned(o.teller.Load(cell^o.mask, field))
}

func (o others) Store(cell, field int, w api.Word) (api.Word, []int) {
	old, shaded := o.teller.Store(cell^o.mask, field, o.turned(w))
	return o.turned(old), o.all(shaded)
}

func (o others) Cas(cell int, old, next api.Word) (api.Word, bool, []int) {
	was, did, shaded := o.teller.Cas(cell^o.mask, o.turned(old), o.turned(next))
	return o.turned(was), did, o.all(shaded)
}

func (o others) Add(cell int, n api.Word) (api.Word, api.Errno) {
	sum, e := o.teller.Add(cell^o.mask, o.turned(n))
	return o.turned(sum), e
}

func (o others) Kind(cell int) api.Kind { return o.teller.Kind(cell ^ o.mask) }

func (o others) Alloc(k api.Kind, a, b api.Word) (int, bool, []int) {
	cell, got, shaded := o.teller.Alloc(k, o.turned(a), o.turned(b))
	if !got {
		return 0, false, nil
	}
	return cell ^ o.mask, true, o.all(shaded)
}

func (o others) Global(i int) api.Word { return o.turned(o.teller.Global(i)) }

func (o others) SetGlobal(i int, w api.Word) (api.Word, []int) {
	old, shaded := o.teller.SetGlobal(i, o.turned(w))
	return o.turned(old), o.all(shaded)
}

func (o others) Spawn(proc int, env api.Word) (int, api.Errno) {
	return o.teller.Spawn(proc, o.turned(env))
}

func (o others) Join(thread int) (api.Word, bool, api.Errno) {
	w, now, e := o.teller.Join(thread)
	return o.turned(w), now, e
}

func (o others) Lock(n int) (bool, api.Errno) { return o.teller.Lock(n) }
func (o others) Unlock(n int) api.Errno       { return o.teller.Unlock(n) }

// hasCell tells whether an event speaks of a cell.
func hasCell(w api.What) bool { return w >= api.StepLoad && w <= api.StepAlloc }

// event is one whose cells have the other numbers.
func (o others) event(x api.Event) api.Event {
	if hasCell(x.What) {
		x.Cell ^= o.mask
	}
	x.Old, x.New, x.Shaded = o.turned(x.Old), o.turned(x.New), o.all(x.Shaded)
	return x
}

func (o others) words(l []api.Word) []api.Word {
	var out []api.Word
	for _, w := range l {
		out = append(out, o.turned(w))
	}
	return out
}

// TestCellsNumbersAreNotSeen: a thread that is told of cells with other numbers does the same, with those numbers.
func TestCellsNumbersAreNotSeen(t *testing.T) {
	named := 0
	for seed := range int64(2500) {
		r := rand.New(rand.NewSource(seed))
		c := drawnCode(r, 1+r.Intn(5), 1+r.Intn(40))
		one, other := sources(r.Int63(), len(c.Procs))
		o := others{other, r.Intn(1 << 31)}
		env := words.Ref(4 * r.Intn(2))
		x, _ := vm.New(c, 0, env)
		y, _ := vm.New(c, 0, o.turned(env))
		for range 200 {
			a, b := x.Step(one), y.Step(o)
			if !same(o.event(a), b) || !slices.Equal(o.words(x.Roots()), y.Roots()) {
				t.Fatalf("seed %d: %+v, not %+v; roots %v, %v", seed, a, b, x.Roots(), y.Roots())
			}
			if ended := x.Ended(); y.Ended() != (api.Ended{Ended: ended.Ended, Word: o.turned(ended.Word), Err: ended.Err}) {
				t.Fatal(seed, ended, y.Ended())
			}
			if a.What == 0 {
				break
			}
			if hasCell(a.What) {
				named++
			}
		}
	}
	if named < 10000 {
		t.Error(named, "steps spoke of cells")
	}
}

// answer is what was told.
type answer struct {
	name   string
	w      api.Word
	yes    bool
	shaded []int
	n      int
	e      api.Errno
	kind   api.Kind
}

// tape lets another one tell, and keeps what it told; without one it tells that again, whatever it is asked.
type tape struct {
	teller vm.Accesses
	told   []answer
	at     int
}

// next is what is told: by the teller, or as it was.
func (p *tape) next(name string, ask func() answer) answer {
	if p.teller != nil {
		a := ask()
		a.name = name
		p.told = append(p.told, a)
		return a
	}
	if p.at >= len(p.told) {
		return answer{}
	}
	p.at++
	return p.told[p.at-1]
}

func (p *tape) Load(cell, field int) api.Word {
	return p.next("Load", func() answer { return answer{w: p.teller.Load(cell, field)} }).w
}

func (p *tape) Store(cell, field int, w api.Word) (api.Word, []int) {
	a := p.next("Store", func() (a answer) { a.w, a.shaded = p.teller.Store(cell, field, w); return })
	return a.w, a.shaded
}

func (p *tape) Cas(cell int, old, next api.Word) (api.Word, bool, []int) {
	a := p.next("Cas", func() (a answer) { a.w, a.yes, a.shaded = p.teller.Cas(cell, old, next); return })
	return a.w, a.yes, a.shaded
}

func (p *tape) Add(cell int, n api.Word) (api.Word, api.Errno) {
	a := p.next("Add", func() (a answer) { a.w, a.e = p.teller.Add(cell, n); return })
	return a.w, a.e
}

func (p *tape) Kind(cell int) api.Kind {
	return p.next("Kind", func() answer { return answer{kind: p.teller.Kind(cell)} }).kind
}

func (p *tape) Alloc(k api.Kind, x, y api.Word) (int, bool, []int) {
	a := p.next("Alloc", func() (a answer) { a.n, a.yes, a.shaded = p.teller.Alloc(k, x, y); return })
	return a.n, a.yes, a.shaded
}

func (p *tape) Global(i int) api.Word {
	return p.next("Global", func() answer { return answer{w: p.teller.Global(i)} }).w
}

func (p *tape) SetGlobal(i int, w api.Word) (api.Word, []int) {
	a := p.next("SetGlobal", func() (a answer) { a.w, a.shaded = p.teller.SetGlobal(i, w); return })
	return a.w, a.shaded
}

func (p *tape) Spawn(proc int, env api.Word) (int, api.Errno) {
	a := p.next("Spawn", func() (a answer) { a.n, a.e = p.teller.Spawn(proc, env); return })
	return a.n, a.e
}

func (p *tape) Join(thread int) (api.Word, bool, api.Errno) {
	a := p.next("Join", func() (a answer) { a.w, a.yes, a.e = p.teller.Join(thread); return })
	return a.w, a.yes, a.e
}

func (p *tape) Lock(n int) (bool, api.Errno) {
	a := p.next("Lock", func() (a answer) { a.yes, a.e = p.teller.Lock(n); return })
	return a.yes, a.e
}

func (p *tape) Unlock(n int) api.Errno {
	return p.next("Unlock", func() answer { return answer{e: p.teller.Unlock(n)} }).e
}

// says sees that an event says what its access told.
func says(x api.Event, a answer) bool {
	if x.Err != api.OK {
		unset := x.Err == api.ErrVMUnset && a.w == nothing() && (x.What == api.StepLoad || x.What == api.StepGlobal)
		return x.Old == 0 && x.New == 0 && (x.Err == a.e || unset)
	}
	switch x.What {
	case api.StepLoad:
		return a.name == "Load" && x.Old == a.w && x.New == a.w
	case api.StepGlobal:
		return a.name == "Global" && x.Old == a.w && x.New == a.w
	case api.StepStore:
		return a.name == "Store" && x.Old == a.w && slices.Equal(x.Shaded, a.shaded)
	case api.StepSetGlobal:
		return a.name == "SetGlobal" && x.Old == a.w && slices.Equal(x.Shaded, a.shaded)
	case api.StepCas:
		return a.name == "Cas" && x.Old == a.w && x.Yes == a.yes && slices.Equal(x.Shaded, a.shaded)
	case api.StepAdd:
		return a.name == "Add" && x.New == a.w
	case api.StepAlloc:
		return a.name == "Alloc" && a.yes && x.Cell == a.n && slices.Equal(x.Shaded, a.shaded)
	case api.StepWait:
		return a.name == "Alloc" && !a.yes
	case api.StepSpawn:
		return a.name == "Spawn" && x.Other == a.n
	case api.StepJoin:
		return a.name == "Join" && a.yes && x.New == a.w
	case api.StepWaitJoin:
		return a.name == "Join" && !a.yes
	case api.StepLock:
		return a.name == "Lock" && a.yes
	case api.StepWaitLock:
		return a.name == "Lock" && !a.yes
	}
	return x.What == api.StepUnlock && a.name == "Unlock"
}

// TestToldTheSame: a step hangs on the thread, and on what is told, alone: another thread that is told the same does the
// same, whoever tells it, also if it is asked for its roots in between; and an access's event says what it told.
func TestToldTheSame(t *testing.T) {
	accesses := 0
	for seed := range int64(2500) {
		r := rand.New(rand.NewSource(seed))
		c := drawnCode(r, 1+r.Intn(5), 1+r.Intn(40))
		one, _ := sources(r.Int63(), len(c.Procs))
		first := &tape{teller: one}
		x, _ := vm.New(c, 0, words.Ref(0))
		var events []api.Event
		var roots [][]api.Word
		for range 200 {
			e := x.Step(first)
			if isAccess(e.What) {
				accesses++
				if !says(e, first.told[len(first.told)-1]) {
					t.Fatalf("seed %d: %+v, told %+v", seed, e, first.told[len(first.told)-1])
				}
			}
			events, roots = append(events, e), append(roots, x.Roots())
		}
		y, _ := vm.New(c, 0, words.Ref(0))
		again := &tape{told: first.told}
		for i, want := range events {
			if got := y.Step(again); !same(got, want) {
				t.Fatalf("seed %d: %+v, not %+v", seed, got, want)
			}
			if i%3 == 0 && !slices.Equal(y.Roots(), roots[i]) {
				t.Fatal(seed, y.Roots(), roots[i])
			}
		}
		if x.Ended() != y.Ended() || again.at != len(first.told) {
			t.Fatal(seed, x.Ended(), y.Ended())
		}
	}
	if accesses < 20000 {
		t.Error(accesses, "accesses")
	}
}

// TestBounds: whatever is told, also what no heap would: nothing panics, and there are never more words and frames than may be.
func TestBounds(t *testing.T) {
	most := 0
	for seed := range int64(1500) {
		r := rand.New(rand.NewSource(seed))
		c := drawnCode(r, 1+r.Intn(6), 1+r.Intn(200))
		if seed%3 == 0 {
			c = deepCode(r)
		}
		x, _ := vm.New(c, 0, api.Word(r.Uint64()))
		h := &nonsense{r, len(c.Procs)}
		for range 400 {
			x.Step(h)
			if r.Intn(9) == 0 {
				x.Refuse()
			}
			n := len(x.Roots())
			if most = max(most, n); n > 256+64+2 {
				t.Fatal(seed, n, "roots")
			}
		}
	}
	if most < 150 {
		t.Error(most, "roots at most")
	}
}

// nonsense tells whatever its types allow; mostly closures of procedures that there are, so that threads go deep.
type nonsense struct {
	*rand.Rand
	procs int
}

func (x *nonsense) word() api.Word {
	switch x.Intn(5) {
	case 0:
		return api.Word(x.Uint64())
	case 1:
		return words.Ref(x.Intn(1 << 31))
	case 2:
		return tagged(api.Tag(1+x.Intn(4)), 0)
	}
	return number(int64(x.Intn(x.procs)))
}

func (x *nonsense) flip() bool { return x.Intn(2) == 0 }

func (x *nonsense) err() api.Errno {
	if x.Intn(30) != 0 {
		return api.OK
	}
	return api.Errno(x.Uint64())
}

func (x *nonsense) shaded() []int { return make([]int, x.Intn(3), 9) }

// number is one that may be a cell's, mostly.
func (x *nonsense) number() int {
	if x.Intn(16) == 0 {
		return int(x.Uint64())
	}
	return x.Intn(1 << 31)
}

func (x *nonsense) Load(int, int) api.Word {
	if x.Intn(16) == 0 {
		return x.word()
	}
	return number(int64(x.Intn(x.procs)))
}
func (x *nonsense) Store(int, int, api.Word) (api.Word, []int) { return x.word(), x.shaded() }
func (x *nonsense) Cas(int, api.Word, api.Word) (api.Word, bool, []int) {
	return x.word(), x.flip(), x.shaded()
}
func (x *nonsense) Add(int, api.Word) (api.Word, api.Errno) { return x.word(), x.err() }
func (x *nonsense) Kind(int) api.Kind {
	if x.Intn(30) == 0 {
		return api.Kind(x.Intn(256))
	}
	return api.KindClosure
}
func (x *nonsense) Alloc(api.Kind, api.Word, api.Word) (int, bool, []int) {
	return x.number(), x.flip(), x.shaded()
}
func (x *nonsense) Global(int) api.Word                       { return x.word() }
func (x *nonsense) SetGlobal(int, api.Word) (api.Word, []int) { return x.word(), x.shaded() }
func (x *nonsense) Spawn(int, api.Word) (int, api.Errno)      { return x.number(), x.err() }
func (x *nonsense) Join(int) (api.Word, bool, api.Errno)      { return x.word(), x.flip(), x.err() }
func (x *nonsense) Lock(int) (bool, api.Errno)                { return x.flip(), x.err() }
func (x *nonsense) Unlock(int) api.Errno                      { return x.err() }
