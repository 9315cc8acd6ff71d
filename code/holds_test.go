package code_test

import (
	"math/rand"
	"strings"
	"testing"

	"dapple/api"
	"dapple/code"
)

// TestParseOfText: is the code, whatever is drawn that may be.
func TestParseOfText(t *testing.T) {
	r := rand.New(rand.NewSource(86))
	fine := 0
	for range 8000 {
		c := drawnCode(r)
		for range r.Intn(3) {
			c = spoilt(r, c)
		}
		s, e := code.Text(c)
		if e != api.OK {
			continue
		}
		fine++
		if d, e, line := code.Parse(s); e != api.OK || line != 0 || !code.Same(c, d) || !same(c, d) {
			t.Errorf("%s: %s, %d, %d", dump(c), dump(d), e, line)
		}
	}
	if fine < 3000 {
		t.Errorf("only %d may be", fine)
	}
}

// TestTextOfParse: is the text, whatever is read.
func TestTextOfParse(t *testing.T) {
	r := rand.New(rand.NewSource(87))
	fine := 0
	for range 8000 {
		s, _ := code.Text(drawnCode(r))
		s = changed(r, s)
		c, e, _ := code.Parse(s)
		if e != api.OK {
			continue
		}
		fine++
		if again, e := code.Text(c); again != s || e != api.OK {
			t.Errorf("%q: %q, %d", s, again, e)
		}
	}
	if fine < 400 {
		t.Errorf("only %d are read", fine)
	}
}

// TestOneByteAnother: such a text is read as other code, or not at all.
func TestOneByteAnother(t *testing.T) {
	texts := []string{sampleText, small("const int -10", "const symbol 1", "const prim 10", "global abc", "global a-c"), "global g\nproc 1\n yield\n branch 4\n var 1\n return\n global 0\n return\n"}
	r := rand.New(rand.NewSource(88))
	for range 15 {
		s, _ := code.Text(drawnCode(r))
		texts = append(texts, s)
	}
	other := 0
	for _, s := range texts {
		c, e, _ := code.Parse(s)
		if e != api.OK {
			t.Fatalf("%q: %d", s, e)
		}
		for at := range len(s) {
			for b := range 256 {
				if byte(b) == s[at] || at > 400 {
					continue
				}
				d, e, line := code.Parse(s[:at] + string([]byte{byte(b)}) + s[at+1:])
				if code.Same(c, d) {
					t.Fatalf("%q with the byte %x at %d is the same", s, b, at)
				}
				if e == api.OK {
					other++
				} else if (e == api.ErrCodeText) != (line > 0) {
					t.Fatalf("%q with the byte %x at %d: %d, line %d", s, b, at, e, line)
				}
			}
		}
	}
	if other < 300 {
		t.Errorf("only %d are read", other)
	}
}

// TestOneProcedureMore: behind the others, it does no harm.
func TestOneProcedureMore(t *testing.T) {
	r := rand.New(rand.NewSource(89))
	for range 4000 {
		c := drawnCode(r)
		c.Procs = append(c.Procs, drawnProc(r, c))
		checks(t, c, mayBe)
		// It may name itself, too.
		c.Procs = append(c.Procs, api.Proc{})
		c.Procs[len(c.Procs)-1] = drawnProc(r, c)
		checks(t, c, mayBe)
	}
	c := sample()
	for len(c.Procs) < 256 {
		c.Procs = append(c.Procs, drawnProc(r, c))
		if e, _, _ := code.Check(c); e != api.OK {
			t.Fatalf("with %d procedures: %d", len(c.Procs), e)
		}
	}
	c.Procs = append(c.Procs, drawnProc(r, c))
	checks(t, c, much(0, 0))
}

// TestOneConstantMore: likewise.
func TestOneConstantMore(t *testing.T) {
	r := rand.New(rand.NewSource(90))
	good, bad, _, _ := pool()
	for range 4000 {
		c := drawnCode(r)
		with := copied(c)
		with.Consts = append(with.Consts, good[r.Intn(len(good))])
		checks(t, with, mayBe)
		with.Consts[len(c.Consts)] = bad[r.Intn(len(bad))]
		checks(t, with, noCode(0, 0))
	}
	c := sample()
	for len(c.Consts) < 1024 {
		c.Consts = append(c.Consts, good[len(c.Consts)%len(good)])
		if e, _, _ := code.Check(c); e != api.OK {
			t.Fatalf("with %d constants: %d", len(c.Consts), e)
		}
	}
	c.Consts = append(c.Consts, 1)
	checks(t, c, much(0, 0))
}

// TestWaysKeepOneDepth: whoever goes through a procedure that Check takes, comes to each place with one depth, which is enough and not too much.
func TestWaysKeepOneDepth(t *testing.T) {
	r := rand.New(rand.NewSource(91))
	fine := 0
	for range 6000 {
		c := drawnCode(r)
		for range r.Intn(4) {
			c = spoilt(r, c)
		}
		if e, _, _ := code.Check(c); e != api.OK {
			continue
		}
		fine++
		for _, p := range c.Procs {
			depths := make([]int, len(p.Code))
			for i := range depths {
				depths[i] = -1
			}
			for range 20 {
				goAWay(t, r, p.Code, depths)
			}
		}
	}
	if fine < 2000 {
		t.Errorf("only %d may be", fine)
	}
}

// goAWay goes one drawn way, up to some length.
func goAWay(t *testing.T, r *rand.Rand, instrs []api.Instr, depths []int) {
	place, depth := 0, 0
	for range 200 {
		i := instrs[place]
		op := opWords()[i.Op-1]
		takes, puts := effect(op, i.A)
		if depth < takes || depth > 255 || depths[place] >= 0 && depths[place] != depth {
			t.Fatalf("%v: the depth %d at %d, where there was %d", instrs, depth, place, depths[place])
		}
		depths[place] = depth
		depth += puts - takes
		place++
		switch {
		case op == "return" || op == "tail":
			return
		case op == "jump" || op == "branch" && r.Intn(2) == 0:
			place = i.A
		}
	}
}

// TestTextsOfUnlikeCode: are unlike.
func TestTextsOfUnlikeCode(t *testing.T) {
	r := rand.New(rand.NewSource(92))
	codes := map[string]string{}
	for range 5000 {
		c := drawnCode(r)
		s, _ := code.Text(c)
		if d, known := codes[s]; known && d != dump(c) {
			t.Errorf("%q is the text of %s and of %s", s, d, dump(c))
		}
		codes[s] = dump(c)
	}
	if len(codes) < 2000 {
		t.Errorf("only %d texts", len(codes))
	}
}

// TestLinesOfAText: one for each constant, each global, each procedure and each of its instructions, in that order, each with its 0a.
func TestLinesOfAText(t *testing.T) {
	r := rand.New(rand.NewSource(93))
	for range 2000 {
		c := drawnCode(r)
		s, _ := code.Text(c)
		want := strings.Repeat("c", len(c.Consts)) + strings.Repeat("g", len(c.Globals))
		for _, p := range c.Procs {
			want += "p" + strings.Repeat(" ", len(p.Code))
		}
		got := ""
		for line := range strings.Lines(s) {
			if !strings.HasSuffix(line, "\n") {
				t.Errorf("%q has no 0a", line)
			}
			got += line[:1]
		}
		if got != want {
			t.Errorf("%s: %q", dump(c), s)
		}
	}
}
