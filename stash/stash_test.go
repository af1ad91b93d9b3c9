package stash_test

import (
	"bytes"
	"math"
	"slices"
	"testing"

	"oubliette/api"
	"oubliette/bucket"
	"oubliette/stash"
)

// Ids that no block has; some of them are one that may be, but for their higher bytes.
var wrongIDs = []int{-1, -2, api.MaxBlocks, api.MaxBlocks + 1, 127, 128, 255, 256, 259, 1 << 32, 1<<32 + 3, -256, math.MinInt, math.MinInt + 3, math.MaxInt - 1, math.MaxInt}

// Lengths that no Data has.
var wrongLengths = []int{0, 1, api.RowLen - 1, api.RowLen + 1, api.RowLen + 2, 2 * api.RowLen, 1 << 16}

// of makes a block whose bytes are not all alike, so that none can be lost or moved unseen.
func of(id, seed int) bucket.Block {
	data := make([]byte, api.RowLen)
	for i := range data {
		data[i] = byte(seed + 7*i)
	}
	return bucket.Block{ID: id, Data: data}
}

// row is n blocks with different ids, not in their order.
func row(n int) []bucket.Block {
	l := make([]bucket.Block, n)
	for i := range l {
		l[i] = of((i*37+63)%api.MaxBlocks, 11*i)
	}
	return l
}

// wrong are blocks that may not be: first those of wrong ids, then those of this id whose Data may not be.
func wrong(id int) []bucket.Block {
	var l []bucket.Block
	for _, n := range wrongIDs {
		l = append(l, of(n, 1))
	}
	l = append(l, bucket.Block{ID: id}, bucket.Block{ID: id, Data: make([]byte, api.RowLen-1, api.RowLen)})
	for _, n := range wrongLengths {
		l = append(l, bucket.Block{ID: id, Data: make([]byte, n)})
	}
	return l
}

// rising is a copy of the list, by id.
func rising(l []bucket.Block) []bucket.Block {
	sorted := slices.Clone(l)
	slices.SortFunc(sorted, func(a, b bucket.Block) int { return a.ID - b.ID })
	return sorted
}

// wantHeld holds all that a stash tells against the blocks it should have, which rise by id.
func wantHeld(t *testing.T, what string, s *stash.Stash, most int, want ...bucket.Block) {
	t.Helper()
	if s.Len() != len(want) || s.Most() != most {
		t.Errorf("%s: Len, Most: %d, %d; want %d, %d", what, s.Len(), s.Most(), len(want), most)
	}
	if got := s.All(); !bucket.Same(got, want) {
		t.Errorf("%s: All: %v; want %v", what, got, want)
	}
	held := make([]bool, api.MaxBlocks)
	ids := make([]int, len(want))
	for i, block := range want {
		held[block.ID], ids[i] = true, block.ID
		if data, ok := s.Get(block.ID); !ok || !bytes.Equal(data, block.Data) {
			t.Errorf("%s: Get(%d): %v, %t; want %v", what, block.ID, data, ok, block.Data)
		}
	}
	if got := s.IDs(); !slices.Equal(got, ids) {
		t.Errorf("%s: IDs: %v; want %v", what, got, ids)
	}
	for id, is := range held {
		if s.Has(id) != is {
			t.Errorf("%s: Has(%d): %t", what, id, !is)
		}
		if _, ok := s.Get(id); ok != is {
			t.Errorf("%s: Get(%d): %t", what, id, ok)
		}
	}
}

func wantPut(t *testing.T, s *stash.Stash, b bucket.Block, want bool) {
	t.Helper()
	if got := s.Put(b); got != want {
		t.Errorf("Put(%v): %t", b, got)
	}
}

func wantTaken(t *testing.T, s *stash.Stash, want bucket.Block) {
	t.Helper()
	if b, ok := s.Take(want.ID); !ok || !bucket.Same([]bucket.Block{b}, []bucket.Block{want}) {
		t.Errorf("Take(%d): %v, %t; want %v", want.ID, b, ok, want)
	}
}

// wantNone asks for a block that is not there.
func wantNone(t *testing.T, s *stash.Stash, id int) {
	t.Helper()
	if data, ok := s.Get(id); ok || len(data) != 0 {
		t.Errorf("Get(%d): %v, %t", id, data, ok)
	}
	if b, ok := s.Take(id); ok || b.ID != 0 || len(b.Data) != 0 {
		t.Errorf("Take(%d): %v, %t", id, b, ok)
	}
	if s.Has(id) {
		t.Errorf("Has(%d)", id)
	}
}

// P10.1: New

func TestNewOfNothing(t *testing.T) {
	wantHeld(t, "without an argument", stash.New(), 0)
	wantHeld(t, "of an empty list", stash.New([]bucket.Block{}...), 0)
}

func TestNewPutsEach(t *testing.T) {
	for n := range api.MaxBlocks + 1 {
		wantHeld(t, "new", stash.New(row(n)...), n, rising(row(n))...)
	}
	wantHeld(t, "both ends", stash.New(of(63, 1), of(0, 2)), 2, of(0, 2), of(63, 1))
}

func TestNewPutsInOrder(t *testing.T) {
	wantHeld(t, "the last one holds", stash.New(of(7, 1), of(3, 2), of(7, 3)), 2, of(3, 2), of(7, 3))
	wantHeld(t, "the other way", stash.New(of(7, 3), of(3, 2), of(7, 1)), 2, of(3, 2), of(7, 1))
	wantHeld(t, "all twice", stash.New(append(row(api.MaxBlocks), row(3)...)...), api.MaxBlocks, rising(row(api.MaxBlocks))...)
}

// What may not be is passed over, and what stands behind it is Put all the same.
func TestNewPassesOverWhatMayNotBe(t *testing.T) {
	for _, b := range wrong(5) {
		wantHeld(t, "alone", stash.New(b), 0)
		wantHeld(t, "between", stash.New(of(9, 1), b, of(5, 2)), 2, of(5, 2), of(9, 1))
		wantHeld(t, "behind one of its id", stash.New(of(5, 1), b), 1, of(5, 1))
	}
	wantHeld(t, "all of them", stash.New(wrong(5)...), 0)
}

// P10.1: Put

func TestExample(t *testing.T) {
	s := stash.New()
	s.Put(of(4, 1))
	s.Put(of(4, 1))
	if s.Len() != 1 {
		t.Errorf("Len: %d", s.Len())
	}
}

func TestPutOfEveryID(t *testing.T) {
	for id := range api.MaxBlocks {
		s := stash.New()
		wantPut(t, s, of(id, id), true)
		wantHeld(t, "one", s, 1, of(id, id))
	}
	zeros := bucket.Block{ID: 0, Data: make([]byte, api.RowLen)}
	s := stash.New()
	wantPut(t, s, zeros, true)
	wantHeld(t, "zeros are a block", s, 1, zeros)
}

func TestPutInPlaceOfOneOfItsID(t *testing.T) {
	s := stash.New(of(2, 1), of(5, 2), of(9, 3))
	wantPut(t, s, of(5, 4), true)
	wantHeld(t, "the middle one", s, 3, of(2, 1), of(5, 4), of(9, 3))
	wantPut(t, s, of(2, 5), true)
	wantPut(t, s, of(9, 6), true)
	wantHeld(t, "both ends", s, 3, of(2, 5), of(5, 4), of(9, 6))
	wantPut(t, s, of(9, 6), true)
	wantPut(t, s, of(5, 2), true)
	wantHeld(t, "again", s, 3, of(2, 5), of(5, 2), of(9, 6))
}

func TestPutOfWhatMayNotBeChangesNothing(t *testing.T) {
	s := stash.New(of(3, 1), of(5, 2))
	for _, b := range wrong(5) {
		wantPut(t, s, b, false)
	}
	for _, b := range wrong(4) {
		wantPut(t, s, b, false)
	}
	wantHeld(t, "two", s, 2, of(3, 1), of(5, 2))
	empty := stash.New()
	for _, b := range wrong(0) {
		wantPut(t, empty, b, false)
	}
	wantHeld(t, "empty", empty, 0)
}

// P10.1: Get, Take, Has

func TestTakeIsGone(t *testing.T) {
	s := stash.New(of(2, 1), of(5, 2), of(9, 3))
	wantTaken(t, s, of(5, 2))
	wantHeld(t, "the middle one", s, 3, of(2, 1), of(9, 3))
	wantNone(t, s, 5)
	wantTaken(t, s, of(2, 1))
	wantHeld(t, "the first one", s, 3, of(9, 3))
	wantTaken(t, s, of(9, 3))
	wantHeld(t, "the last one", s, 3)
	for _, id := range []int{2, 5, 9} {
		wantNone(t, s, id)
	}
	wantPut(t, s, of(5, 4), true)
	wantHeld(t, "put again", s, 3, of(5, 4))
	wantTaken(t, s, of(5, 4))
}

func TestGetTakesNothing(t *testing.T) {
	s := stash.New(of(2, 1), of(5, 2))
	for range 3 {
		s.Get(2)
		s.Get(5)
	}
	wantHeld(t, "asked", s, 2, of(2, 1), of(5, 2))
}

// Block 0 is there, so that a zero id passes for no block.
func TestNoneOfAnID(t *testing.T) {
	lists := [][]bucket.Block{nil, {of(0, 1)}, {of(0, 1), of(3, 2)}, {of(0, 1), of(3, 2), of(63, 3)}, row(api.MaxBlocks)}
	for _, l := range lists {
		s := stash.New(l...)
		for _, id := range wrongIDs {
			wantNone(t, s, id)
		}
		for id := range api.MaxBlocks {
			if !slices.ContainsFunc(l, func(b bucket.Block) bool { return b.ID == id }) {
				wantNone(t, s, id)
			}
		}
		wantHeld(t, "asked for none", s, len(l), rising(l)...)
	}
}

// P10.1: Most

func TestMostIsTheGreatestLen(t *testing.T) {
	s := stash.New(of(1, 1), of(2, 2))
	wantTaken(t, s, of(1, 1))
	wantHeld(t, "one less", s, 2, of(2, 2))
	wantPut(t, s, of(3, 3), true)
	wantHeld(t, "as many again", s, 2, of(2, 2), of(3, 3))
	wantPut(t, s, of(3, 4), true)
	wantHeld(t, "one of an id that is there", s, 2, of(2, 2), of(3, 4))
	wantPut(t, s, of(4, 5), true)
	wantHeld(t, "one more", s, 3, of(2, 2), of(3, 4), of(4, 5))
	for _, b := range s.All() {
		s.Take(b.ID)
	}
	wantHeld(t, "emptied", s, 3)
	wantHeld(t, "another one", stash.New(s.All()...), 0)
}

// P10.2

func TestPutNeitherChangesNorKeeps(t *testing.T) {
	junk := bytes.Repeat([]byte{201}, 2*api.RowLen)
	memory := append(slices.Clone(of(5, 1).Data), junk...)
	data := memory[:api.RowLen]
	s := stash.New(of(5, 9), of(6, 9))
	wantPut(t, s, bucket.Block{ID: 5, Data: data}, true)
	wantPut(t, s, bucket.Block{ID: 7, Data: data}, true)
	got, _ := s.Get(5)
	taken, _ := s.Take(7)
	wantPut(t, s, bucket.Block{ID: 7, Data: data}, true)
	scribble(got, 99)
	scribble(taken.Data, 99)
	scribble(s.All()[2].Data, 99)
	wantPut(t, s, of(5, 1), true)
	if !bytes.Equal(data, of(5, 1).Data) || !bytes.Equal(memory[api.RowLen:], junk) {
		t.Errorf("changed: %v", memory)
	}
	scribble(memory, 99)
	wantHeld(t, "written over", s, 3, of(5, 1), of(6, 9), of(7, 1))
}

func TestNewNeitherChangesNorKeeps(t *testing.T) {
	// More lie behind the length than are handed in.
	memory := row(9)
	s := stash.New(memory[:6]...)
	s.Put(of(63, 77))
	for _, b := range rising(row(6))[:3] {
		s.Take(b.ID)
	}
	s.Put(of(1, 78))
	if !bucket.Same(memory, row(9)) {
		t.Errorf("changed: %v", memory)
	}
	held := s.All()
	for _, b := range memory {
		scribble(b.Data, 99)
	}
	scribble(memory, of(50, 99))
	if !bucket.Same(s.All(), held) || s.Len() != 4 {
		t.Errorf("kept: %v", s.All())
	}
}

func TestDataHandedOutIsNewMemory(t *testing.T) {
	s := stash.New(row(5)...)
	all, other := s.All(), s.All()
	first, _ := s.Get(all[1].ID)
	second, _ := s.Get(all[1].ID)
	for _, b := range other {
		scribble(b.Data, 99)
	}
	scribble(second, 98)
	want := rising(row(5))
	if !bucket.Same(all, want) || !bytes.Equal(first, want[1].Data) {
		t.Errorf("one shows in another: %v, %v", all, first)
	}
	wantHeld(t, "scribbled", s, 5, want...)
	for at := range 5 {
		l := s.All()
		scribble(l[at].Data, 97)
		if !bucket.Same(l[:at], want[:at]) || !bucket.Same(l[at+1:], want[at+1:]) {
			t.Errorf("block %d shows in the same answer: %v", at, l)
		}
	}
	wantHeld(t, "one by one", s, 5, want...)
}

func TestListsHandedOutAreNewMemory(t *testing.T) {
	s := stash.New(row(5)...)
	all, ids := s.All(), s.IDs()
	scribble(s.All(), of(60, 99))
	scribble(s.IDs(), 99)
	want := rising(row(5))
	wantHeld(t, "scribbled", s, 5, want...)
	s.Take(want[0].ID)
	s.Put(bucket.Block{ID: want[2].ID, Data: of(0, 88).Data})
	if !bucket.Same(all, want) {
		t.Errorf("the stash shows in an elder list: %v", all)
	}
	for i, b := range want {
		if ids[i] != b.ID {
			t.Errorf("the stash shows in elder ids: %v", ids)
		}
	}
	empty := stash.New()
	scribble(empty.All(), of(1, 99))
	scribble(empty.IDs(), 99)
	wantHeld(t, "empty", empty, 0)
}

func TestTakenIsTheCallersAlone(t *testing.T) {
	s := stash.New(of(2, 1), of(5, 2), of(9, 3))
	got, _ := s.Get(5)
	all := s.All()
	taken, _ := s.Take(5)
	scribble(taken.Data, 99)
	if !bytes.Equal(got, of(5, 2).Data) || !bucket.Same(all, []bucket.Block{of(2, 1), of(5, 2), of(9, 3)}) {
		t.Errorf("what was taken shows in elder answers: %v, %v", got, all)
	}
	wantHeld(t, "scribbled", s, 3, of(2, 1), of(9, 3))
	wantPut(t, s, of(5, 4), true)
	scribble(taken.Data, 98)
	wantHeld(t, "put again", s, 3, of(2, 1), of(5, 4), of(9, 3))
	kept, _ := s.Take(9)
	wantPut(t, s, of(9, 6), true)
	wantPut(t, s, of(10, 7), true)
	if !bytes.Equal(kept.Data, of(9, 3).Data) {
		t.Errorf("the stash writes into what was taken: %v", kept)
	}
}

func TestStashesAreApart(t *testing.T) {
	l := row(4)
	a, b := stash.New(l...), stash.New(l...)
	c := stash.New(a.All()...)
	a.Take(l[0].ID)
	b.Put(bucket.Block{ID: l[1].ID, Data: of(0, 88).Data})
	changed := row(4)
	changed[1].Data = of(0, 88).Data
	wantHeld(t, "a", a, 4, rising(row(4)[1:])...)
	wantHeld(t, "b", b, 4, rising(changed)...)
	wantHeld(t, "c", c, 4, rising(row(4))...)
}

// P10.3, and all of P10.1 over many steps: an array by id stands beside the stash.
func TestManySteps(t *testing.T) {
	s := stash.New()
	held := make([][]byte, api.MaxBlocks)
	most := 0
	for step := range 3000 {
		// Ids run past both ends, so that some are refused; there are times of filling and of emptying.
		id, filling := step*29%(api.MaxBlocks+8)-4, step/200%2 == 0
		may := id >= 0 && id < api.MaxBlocks
		switch {
		case filling:
			wantPut(t, s, of(id, step), may)
			if may {
				held[id] = of(id, step).Data
			}
		case may && held[id] != nil:
			wantTaken(t, s, bucket.Block{ID: id, Data: held[id]})
			held[id] = nil
		default:
			wantNone(t, s, id)
		}
		var want []bucket.Block
		for id, data := range held {
			if data != nil {
				want = append(want, bucket.Block{ID: id, Data: data})
			}
		}
		most = max(most, len(want))
		wantHeld(t, "step", s, most, want...)
	}
	if most != api.MaxBlocks {
		t.Errorf("it was never full: %d", most)
	}
}

// scribble writes over a list, its spare room too.
func scribble[T any](list []T, junk T) {
	whole := list[:cap(list)]
	for i := range whole {
		whole[i] = junk
	}
	_ = append(list, junk, junk, junk)
}
