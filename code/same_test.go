package code_test

import (
	"math/rand"
	"slices"
	"testing"

	"dapple/api"
	"dapple/code"
	"dapple/words"
)

// sameBoth holds Same of two, in both orders.
func sameBoth(t *testing.T, a, b api.Code, want bool) {
	t.Helper()
	if code.Same(a, b) != want || code.Same(b, a) != want {
		t.Errorf("Same of %s and %s is not %t", short(dump(a)), short(dump(b)), want)
	}
}

// changes are those of one field of the sample, of one list's length, or of an order.
func changes() map[string]func(c *api.Code) {
	return map[string]func(c *api.Code){
		"a constant":                 func(c *api.Code) { c.Consts[0] = word(api.TagInt, 6) },
		"the last constant":          func(c *api.Code) { c.Consts[1] = word(api.TagFalse, 0) },
		"a constant that is no word": func(c *api.Code) { c.Consts[1] = 0 },
		"a high bit of a constant":   func(c *api.Code) { c.Consts[0] ^= 1 << 63 },
		"a constant less":            func(c *api.Code) { c.Consts = c.Consts[:1] },
		"a constant more":            func(c *api.Code) { c.Consts = append(c.Consts, 0) },
		"no constants":               func(c *api.Code) { c.Consts = nil },
		"constants the other way":    func(c *api.Code) { slices.Reverse(c.Consts) },
		"a global":                   func(c *api.Code) { c.Globals[0] = "y" },
		"a global of another length": func(c *api.Code) { c.Globals[0] = "xx" },
		"a global that is no symbol": func(c *api.Code) { c.Globals[0] = "" },
		"a global's case":            func(c *api.Code) { c.Globals[0] = "X" },
		"a global more":              func(c *api.Code) { c.Globals = append(c.Globals, "") },
		"no globals":                 func(c *api.Code) { c.Globals = nil },
		"Params":                     func(c *api.Code) { c.Procs[0].Params = 1 },
		"Params below 0":             func(c *api.Code) { c.Procs[0].Params = -1 },
		"the last one's Params":      func(c *api.Code) { c.Procs[1].Params = 257 },
		"an Op":                      func(c *api.Code) { c.Procs[0].Code[0].Op = api.OpVar },
		"an Op that is none":         func(c *api.Code) { c.Procs[1].Code[1].Op = 0 },
		"an A":                       func(c *api.Code) { c.Procs[0].Code[0].A = 1 },
		"an A that is not asked":     func(c *api.Code) { c.Procs[0].Code[2].A = 1 },
		"the last A":                 func(c *api.Code) { c.Procs[1].Code[1].A = -1 },
		"a high bit of an A":         func(c *api.Code) { c.Procs[1].Code[0].A = 1 << 32 },
		"an instruction less":        func(c *api.Code) { c.Procs[0].Code = c.Procs[0].Code[:2] },
		"an instruction more":        func(c *api.Code) { c.Procs[1].Code = append(c.Procs[1].Code, api.Instr{}) },
		"no instructions":            func(c *api.Code) { c.Procs[1].Code = nil },
		"instructions the other way": func(c *api.Code) { slices.Reverse(c.Procs[0].Code) },
		"a procedure less":           func(c *api.Code) { c.Procs = c.Procs[:1] },
		"a procedure more":           func(c *api.Code) { c.Procs = append(c.Procs, api.Proc{}) },
		"no procedures":              func(c *api.Code) { c.Procs = nil },
		"procedures the other way":   func(c *api.Code) { slices.Reverse(c.Procs) },
		"an instruction's procedure": func(c *api.Code) {
			c.Procs[1].Code = append([]api.Instr{c.Procs[0].Code[2]}, c.Procs[1].Code...)
			c.Procs[0].Code = c.Procs[0].Code[:2]
		},
		"an empty procedure ahead": func(c *api.Code) { c.Procs = append([]api.Proc{{}}, c.Procs...) },
	}
}

// TestSameInAllFields: any two of these differ, and each is the same as itself in other memory, whether it may be or not.
func TestSameInAllFields(t *testing.T) {
	all := []api.Code{sample(), {}}
	for _, change := range changes() {
		c := sample()
		change(&c)
		all = append(all, c)
	}
	for i, a := range all {
		for j, b := range all {
			sameBoth(t, a, copied(b), i == j)
		}
	}
}

// TestSameOfNothing: a list that is nil and one that is empty are the same thing.
func TestSameOfNothing(t *testing.T) {
	empty := api.Code{Consts: []api.Word{}, Procs: []api.Proc{}, Globals: []string{}}
	sameBoth(t, api.Code{}, api.Code{}, true)
	sameBoth(t, api.Code{}, empty, true)
	sameBoth(t, api.Code{Procs: []api.Proc{{}}}, api.Code{Procs: []api.Proc{{Code: []api.Instr{}}}, Globals: []string{}}, true)
	sameBoth(t, api.Code{Procs: []api.Proc{{}}}, empty, false)
	checks(t, empty, noCode(0, 0))
	checks(t, api.Code{Consts: []api.Word{}, Procs: []api.Proc{{Code: []api.Instr{}}}}, noCode(0, 0))
	c := api.Code{Procs: []api.Proc{proc(0, "jump 0")}}
	sameBoth(t, c, api.Code{Consts: []api.Word{}, Procs: c.Procs, Globals: []string{}}, true)
	checks(t, api.Code{Consts: []api.Word{}, Procs: c.Procs, Globals: []string{}}, mayBe)
}

// TestSameOfWhatMayNotBe: beyond the limits, with references, with Ops that are none.
func TestSameOfWhatMayNotBe(t *testing.T) {
	c := api.Code{
		Consts:  slices.Repeat([]api.Word{words.Ref(1), 0}, 1000),
		Globals: slices.Repeat([]string{"7", "", "\n"}, 100),
		Procs:   slices.Repeat([]api.Proc{{Params: -1, Code: slices.Repeat([]api.Instr{{Op: 99, A: -5}}, 5000)}}, 300),
	}
	sameBoth(t, c, copied(c), true)
	d := copied(c)
	d.Procs[299].Code[4999].A = -4
	sameBoth(t, c, d, false)
	d = copied(c)
	d.Globals[299] = ""
	sameBoth(t, c, d, false)
	d = copied(c)
	d.Consts[1999] = 1
	sameBoth(t, c, d, false)
}

// TestSameOfDrawn: just if a text of all fields is.
func TestSameOfDrawn(t *testing.T) {
	r := rand.New(rand.NewSource(81))
	equal := 0
	for range 20000 {
		a := drawnCode(r)
		b := copied(a)
		for range r.Intn(3) {
			b = spoilt(r, b)
		}
		if same(a, b) {
			equal++
		}
		sameBoth(t, a, b, same(a, b))
	}
	if equal < 5000 || equal > 15000 {
		t.Errorf("%d are the same", equal)
	}
}
