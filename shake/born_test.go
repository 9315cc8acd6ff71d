package shake_test

import (
	"testing"

	"dapple/api"
)

// TestNew: there is no thread, and no cycle.
func TestNew(t *testing.T) {
	d := newDesk(t, 0)
	d.scanned()
	d.asked()
	d.left(0)
	d.mayNotEnd()
	d.mayNotAsk(numbers()...)
	d.mayNotLay(numbers()...)
	d.bearsNone(api.ErrShakeForm, noParents(0)...)
	d.begins()
	d.mayNotBegin()
}

// TestNumbersRise: from 1 on to 8, of whatever parent, out of a cycle and in one.
func TestNumbersRise(t *testing.T) {
	for _, inCycle := range []bool{false, true} {
		for first := range 8 {
			d := newDesk(t, 0)
			if inCycle {
				d.begins()
			}
			for thread := 1; thread <= 8; thread++ {
				d.bearsNone(api.ErrShakeForm, noParents(thread-1)...)
				d.born((first+thread)%thread, thread)
			}
			d.bearsNone(api.ErrMuch, numbers()...)
			d.scanned(upTo(8)...)
			d.left(0)
		}
	}
}

// TestMuchAheadOfForm: of eight threads nobody is born, of a parent that is none too: ErrMuch, at each moment of a cycle.
func TestMuchAheadOfForm(t *testing.T) {
	d := newDesk(t, 8)
	d.bearsNone(api.ErrMuch, numbers()...)
	d.begins()
	d.bearsNone(api.ErrMuch, numbers()...)
	d.asks(3)
	d.bearsNone(api.ErrMuch, numbers()...)
	d.lays(upTo(8)...)
	d.bearsNone(api.ErrMuch, numbers()...)
	d.ends()
	d.bearsNone(api.ErrMuch, numbers()...)
	d = newDesk(t, 7)
	d.bearsNone(api.ErrShakeForm, noParents(7)...)
	d.born(7, 8)
	d.bearsNone(api.ErrMuch, numbers()...)
}

// TestBornOutOfACycle: it counts as scanned, as all do, and is to be laid in the next cycle.
func TestBornOutOfACycle(t *testing.T) {
	for parent := range 4 {
		d := newDesk(t, 3)
		d.born(parent, 4)
		d.scanned(1, 2, 3, 4)
		d.asked()
		d.left(0)
		d.mayNotAsk(4)
		d.mayNotLay(4)
		d.begins()
		d.scanned()
		d.lays(1, 2, 3)
		d.left(4)
		d.mayNotEnd()
		d.lays(4)
		d.ends()
	}
}

// TestBornOfNobody: in a cycle it is scanned, however many others are not; in the next one it is as all are.
func TestBornOfNobody(t *testing.T) {
	for threads := range 8 {
		d := begun(t, threads)
		d.born(0, threads+1)
		d.scanned(threads + 1)
		d.asked()
		d.mayNotAsk(threads + 1)
		d.mayNotLay(threads + 1)
		d.lays(upTo(threads)...)
		d.left(0)
		d.ends()
		d.begins()
		d.scanned()
		d.asks(threads + 1)
		d.lays(threads + 1)
		d.scanned(threads + 1)
	}
}

// TestBornOfOneThatIsScanned: it is, too, at once and for the whole cycle.
func TestBornOfOneThatIsScanned(t *testing.T) {
	for parent := 1; parent <= 3; parent++ {
		for _, asked := range []bool{false, true} {
			d := begun(t, 3)
			if asked {
				d.asks(parent)
			}
			d.lays(parent)
			d.born(parent, 4)
			d.scanned(parent, 4)
			d.asked()
			d.mayNotAsk(4)
			d.mayNotLay(4)
			d.born(4, 5)
			d.scanned(parent, 4, 5)
		}
	}
}

// TestBornOfOneThatIsNotScanned: nor is it, nor has it been asked, though its parent was; it is asked and laid by itself.
func TestBornOfOneThatIsNotScanned(t *testing.T) {
	for parent := 1; parent <= 3; parent++ {
		for _, asked := range []bool{false, true} {
			d := begun(t, 3)
			if asked {
				d.asks(parent)
			}
			d.born(parent, 4)
			d.scanned()
			if d.s.Asked(4) || d.s.Asked(parent) != asked {
				t.Errorf("asked is %v", which(d.s.Asked))
			}
			d.lays(1, 2, 3)
			d.left(4)
			d.scanned(1, 2, 3)
			d.asked()
			d.mayNotEnd()
			d.asks(4)
			d.asked(4)
			d.lays(4)
			d.left(0)
			d.ends()
		}
	}
}

// TestOnceBornItStandsByItself: what comes of its parent later is nothing to it, nor the other way.
func TestOnceBornItStandsByItself(t *testing.T) {
	d := begun(t, 1)
	d.born(1, 2)
	d.lays(1)
	d.scanned(1)
	d.born(2, 3)
	d.born(1, 4)
	d.scanned(1, 4)
	d.asks(3)
	d.asked(3)
	d.lays(2)
	d.born(2, 5)
	d.born(3, 6)
	d.scanned(1, 2, 4, 5)
	d.asked(3)
	d.lays(6)
	d.left(3)
	d.born(6, 7)
	d.scanned(1, 2, 4, 5, 6, 7)
	d.lays(3)
	d.left(0)
}

// TestARowOfParents: of one that is not scanned a whole row comes, none of which is.
func TestARowOfParents(t *testing.T) {
	d := begun(t, 1)
	for thread := 2; thread <= 8; thread++ {
		d.born(thread-1, thread)
		d.scanned()
		d.left(1)
	}
	for thread := 1; thread <= 8; thread++ {
		d.left(thread)
		d.mayNotEnd()
		d.lays(thread)
	}
	d.ends()
}
