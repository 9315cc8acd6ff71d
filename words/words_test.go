package words_test

import (
	"math"
	"math/big"
	"testing"

	"dapple/api"
	"dapple/words"
)

const (
	leastInt    = -1 << 59
	greatestInt = 1<<59 - 1
)

// tagRow is a row of the document's table of tags, written out anew.
type tagRow struct {
	tag             api.Tag
	least, greatest int64
}

func tagRows() []tagRow {
	return []tagRow{
		{1, 0, 0},
		{2, 0, 0},
		{3, 0, 0},
		{4, 0, 0},
		{5, -576460752303423488, 576460752303423487},
		{6, 0, 2147483647},
		{7, 1, 22},
		{8, 0, 2147483647},
	}
}

// someNumbers are numbers at and around all edges: of each tag, of 60 bits, of 64 bits, and some that wrap to others when they are laid 4 bits up.
func someNumbers() []int64 {
	out := []int64{math.MinInt64, math.MinInt64 + 1, math.MaxInt64 - 1, math.MaxInt64}
	for _, edge := range []int64{0, 5, 22, 1 << 20, 1 << 31, -1 << 31, 1 << 32, 1 << 58, 1 << 59, -1 << 59, 1 << 60, -1 << 60, 1<<60 + 22, 1 << 61, 1 << 62} {
		out = append(out, edge-2, edge-1, edge, edge+1, edge+2)
	}
	return out
}

// laid is 16 n + t modulo 2 to the 64, by numbers without bounds.
func laid(t api.Tag, n int64) api.Word {
	w := new(big.Int).Mul(big.NewInt(16), big.NewInt(n))
	w.Add(w, big.NewInt(int64(t)))
	w.Mod(w, new(big.Int).Lsh(big.NewInt(1), 64))
	return api.Word(w.Uint64())
}

// allWords are all words of someNumbers, by their rows.
func allWords() []api.Word {
	var out []api.Word
	for _, row := range tagRows() {
		for _, n := range someNumbers() {
			if row.least <= n && n <= row.greatest {
				out = append(out, laid(row.tag, n))
			}
		}
	}
	return out
}

// noWords are values of api.Word that are none.
func noWords() []api.Word {
	out := []api.Word{0, 16, 17, 18, 19, 20, 32, math.MaxUint64, 1 << 63, 1<<63 | 1, 1<<63 | 2}
	for _, row := range tagRows() {
		if row.tag != 5 { // all numbers of 60 bits are numbers of TagInt
			out = append(out, laid(row.tag, row.least-1), laid(row.tag, row.greatest+1), laid(row.tag, leastInt), laid(row.tag, greatestInt))
		}
	}
	for _, t := range []api.Tag{0, 9, 10, 11, 12, 13, 14, 15} {
		for _, n := range []int64{-1, 0, 1, 5, leastInt, greatestInt} {
			out = append(out, laid(t, n))
		}
	}
	return out
}

func TestErrorNumbers(t *testing.T) {
	if api.ErrWordKind != 10 || api.ErrWordOver != 11 || api.ErrWordZero != 12 {
		t.Errorf("%d, %d, %d", api.ErrWordKind, api.ErrWordOver, api.ErrWordZero)
	}
}

func TestMakeExamples(t *testing.T) {
	for _, c := range []struct {
		tag  api.Tag
		n    int64
		want api.Word
		e    api.Errno
	}{
		{api.TagNil, 0, 1, api.OK},
		{api.TagFalse, 0, 2, api.OK},
		{api.TagTrue, 0, 3, api.OK},
		{api.TagNone, 0, 4, api.OK},
		{api.TagInt, 0, 5, api.OK},
		{api.TagInt, 5, 85, api.OK},
		{api.TagInt, -1, 0xfffffffffffffff5, api.OK},
		{api.TagInt, leastInt, 0x8000000000000005, api.OK},
		{api.TagInt, greatestInt, 0x7ffffffffffffff5, api.OK},
		{api.TagSymbol, 6, 102, api.OK},
		{api.TagSymbol, 2147483647, 0x7fffffff6, api.OK},
		{api.TagPrim, 1, 0x17, api.OK},
		{api.TagPrim, 22, 0x167, api.OK},
		{api.TagRef, 0, 8, api.OK},
		{api.TagRef, 2147483647, 0x7fffffff8, api.OK},
		{api.TagNil, 1, 0, api.ErrWordOver},
		{api.TagNil, -1, 0, api.ErrWordOver},
		{api.TagPrim, 0, 0, api.ErrWordOver},
		{api.TagPrim, 23, 0, api.ErrWordOver},
		{9, 0, 0, api.ErrWordKind},
	} {
		if w, e := words.Make(c.tag, c.n); w != c.want || e != c.e {
			t.Errorf("Make(%d, %d): %x, %d, want %x, %d", c.tag, c.n, w, e, c.want, c.e)
		}
	}
}

func TestMakeAtAllEdges(t *testing.T) {
	for _, row := range tagRows() {
		numbers := append(someNumbers(), row.least-1, row.least, row.least+1, row.greatest-1, row.greatest, row.greatest+1)
		for _, n := range numbers {
			want, wantErr := laid(row.tag, n), api.OK
			if n < row.least || n > row.greatest {
				want, wantErr = 0, api.ErrWordOver
			}
			if w, e := words.Make(row.tag, n); w != want || e != wantErr {
				t.Errorf("Make(%d, %d): %x, %d, want %x, %d", row.tag, n, w, e, want, wantErr)
			}
		}
	}
}

// A tag that is none is told of ahead of a number that is none.
func TestMakeOfNoTag(t *testing.T) {
	for tag := 0; tag < 256; tag++ {
		if 1 <= tag && tag <= 8 {
			continue
		}
		for _, n := range someNumbers() {
			if w, e := words.Make(api.Tag(tag), n); w != 0 || e != api.ErrWordKind {
				t.Errorf("Make(%d, %d): %x, %d", tag, n, w, e)
			}
		}
	}
}

func TestThereAndBack(t *testing.T) {
	for _, row := range tagRows() {
		for _, n := range append(someNumbers(), row.least, row.greatest) {
			w, e := words.Make(row.tag, n)
			if e != api.OK {
				continue
			}
			tag, m, ok := words.Of(w)
			if tag != row.tag || m != n || !ok {
				t.Errorf("Of(Make(%d, %d)): %d, %d, %v", row.tag, n, tag, m, ok)
			}
		}
	}
	for _, w := range allWords() {
		tag, n, ok := words.Of(w)
		if !ok {
			t.Errorf("Of(%x): none", w)
			continue
		}
		if v, e := words.Make(tag, n); v != w || e != api.OK {
			t.Errorf("Make(Of(%x)): %x, %d", w, v, e)
		}
	}
}

func TestOfNoWord(t *testing.T) {
	for _, w := range noWords() {
		if tag, n, ok := words.Of(w); tag != 0 || n != 0 || ok {
			t.Errorf("Of(%x): %d, %d, %v", w, tag, n, ok)
		}
	}
}

func TestOfSmallValues(t *testing.T) {
	for v := api.Word(0); v < 1024; v++ {
		tag, n := api.Tag(v%16), int64(v/16)
		want := false
		for _, row := range tagRows() {
			want = want || row.tag == tag && row.least <= n && n <= row.greatest
		}
		if !want {
			tag, n = 0, 0
		}
		if gotTag, got, ok := words.Of(v); gotTag != tag || got != n || ok != want {
			t.Errorf("Of(%d): %d, %d, %v, want %d, %d, %v", v, gotTag, got, ok, tag, n, want)
		}
	}
}

func TestSameWordsHaveSameTagsAndNumbers(t *testing.T) {
	type what struct {
		tag api.Tag
		n   int64
	}
	made := map[api.Word]what{}
	for _, row := range tagRows() {
		for _, n := range someNumbers() {
			w, e := words.Make(row.tag, n)
			if e != api.OK {
				continue
			}
			is := what{row.tag, n}
			if was, ok := made[w]; ok && was != is {
				t.Errorf("%x is the word of %v and of %v", w, was, is)
			}
			made[w] = is
		}
	}
}

func TestInt(t *testing.T) {
	for _, n := range someNumbers() {
		want, wantErr := laid(5, n), api.OK
		if n < leastInt || n > greatestInt {
			want, wantErr = 0, api.ErrWordOver
		}
		if w, e := words.Int(n); w != want || e != wantErr {
			t.Errorf("Int(%d): %x, %d, want %x, %d", n, w, e, want, wantErr)
		}
	}
}

func TestRefAndCell(t *testing.T) {
	for _, n := range append(someNumbers(), 3, 4095, 2147483647, 2147483648) {
		cell := int(n)
		if int64(cell) != n {
			continue // this machine's int has no such number
		}
		want, wantCell, wantOk := laid(8, n), cell, true
		if n < 0 || n > 2147483647 {
			want, wantCell, wantOk = 0, 0, false
		}
		w := words.Ref(cell)
		if w != want {
			t.Errorf("Ref(%d): %x, want %x", cell, w, want)
		}
		if c, ok := words.Cell(w); c != wantCell || ok != wantOk {
			t.Errorf("Cell(Ref(%d)): %d, %v", cell, c, ok)
		}
	}
}

func TestCellOfOtherThings(t *testing.T) {
	for _, w := range append(allWords(), noWords()...) {
		if tag, _, ok := words.Of(w); ok && tag == api.TagRef {
			continue
		}
		if c, ok := words.Cell(w); c != 0 || ok {
			t.Errorf("Cell(%x): %d, %v", w, c, ok)
		}
	}
}

func TestTrue(t *testing.T) {
	for _, w := range append(allWords(), noWords()...) {
		if got, want := words.True(w), w != 2; got != want {
			t.Errorf("True(%x): %v", w, got)
		}
	}
}
