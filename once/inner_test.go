package once

import (
	"testing"
	"time"

	"dapple/api"
)

// TestWhatIsThereIsNotWaitedFor: who asks for a source that is made is answered while others compile.
func TestWhatIsThereIsNotWaitedFor(t *testing.T) {
	c := New()
	c.Get("'a")
	c.Get("(")
	c.compiling.Lock()
	defer c.compiling.Unlock()
	told := make(chan api.Errno, 2)
	go func() {
		_, e, _ := c.Get("'a")
		told <- e
		_, e, _ = c.Get("(")
		told <- e
	}()
	for _, want := range []api.Errno{api.OK, api.ErrReadForm} {
		select {
		case e := <-told:
			if e != want {
				t.Error(e)
			}
		case <-time.After(10 * time.Second):
			t.Fatal("it waits")
		}
	}
}

// TestReadBeside: sources are read while others compile, also those of All.
func TestReadBeside(t *testing.T) {
	c := New()
	c.compiling.Lock()
	told := make(chan api.Errno, 2)
	go func() {
		_, e, _ := c.Get("'a 'b")
		told <- e
	}()
	go func() {
		_, errs := c.All(3, "'c", "1 (if)")
		told <- errs[0]
	}()
	isRead := func(text string) bool {
		s := c.find(text)
		s.read()
		return !s.made.Is() && (len(s.forms) > 0 || s.err != api.OK)
	}
	for _, text := range []string{"'a 'b", "'c", "1 (if)"} {
		if !isRead(text) {
			t.Error("not read:", text)
		}
	}
	c.compiling.Unlock()
	for range 2 {
		if e := <-told; e != api.OK {
			t.Error(e)
		}
	}
	if c.Made() != 3 || len(c.Names()) != 3 {
		t.Error(c.Made(), c.Names())
	}
}

// TestFormsAreNotKept: of a source that is made there are no forms any more.
func TestFormsAreNotKept(t *testing.T) {
	c := New()
	c.All(2, "'a", "1 (if)", "(", "")
	for text, s := range c.sources {
		if !s.made.Is() || s.forms != nil {
			t.Errorf("%q has forms", text)
		}
	}
	if len(c.sources) != 4 {
		t.Error(len(c.sources))
	}
}
