package pos_test

import (
	"math"
	"slices"
	"testing"

	"oubliette/pos"
)

func at(leaf, tag int) pos.Place { return pos.Place{Leaf: leaf, Tag: tag} }

func to(id, leaf, tag int) pos.Change { return pos.Change{ID: id, Place: at(leaf, tag)} }

// Places to which no block can be Set.
var wrongPlaces = []pos.Place{at(-1, 0), at(0, -1), at(-1, -1), at(-1, 7), at(7, -1), at(math.MinInt, 0), at(0, math.MinInt), at(math.MinInt, math.MaxInt), at(math.MaxInt, math.MinInt)}

// wrongIDs are no blocks of a map of this length, those at its ends first.
func wrongIDs(length int) []int {
	return []int{-1, length, length + 1, -2, -length, -length - 1, 1 << 32, math.MinInt, math.MinInt + 1, math.MaxInt - 1, math.MaxInt}
}

func wantAll(t *testing.T, what string, m *pos.Map, want ...pos.Place) {
	t.Helper()
	if got := m.All(); !slices.Equal(got, want) {
		t.Errorf("%s: All: %v; want %v", what, got, want)
	}
	if m.Len() != len(want) {
		t.Errorf("%s: Len: %d; want %d", what, m.Len(), len(want))
	}
	for id, place := range want {
		if got, ok := m.Get(id); !ok || got != place {
			t.Errorf("%s: Get(%d): %v, %t; want %v", what, id, got, ok, place)
		}
	}
}

func wantChanges(t *testing.T, what string, m *pos.Map, want ...pos.Change) {
	t.Helper()
	if got := m.Changes(); !slices.Equal(got, want) {
		t.Errorf("%s: Changes: %v; want %v", what, got, want)
	}
}

func wantSet(t *testing.T, m *pos.Map, id int, p pos.Place, want bool) {
	t.Helper()
	if got := m.Set(id, p); got != want {
		t.Errorf("Set(%d, %v): %t", id, p, got)
	}
}

func wantApply(t *testing.T, m *pos.Map, want bool, l ...pos.Change) {
	t.Helper()
	if got := m.Apply(l...); got != want {
		t.Errorf("Apply(%v): %t", l, got)
	}
}

// P8.1

func TestNewMaps(t *testing.T) {
	lists := [][]pos.Place{
		nil,
		{},
		{at(0, 0)},
		{at(3, 1)},
		{at(3, 1), at(3, 1), at(0, 0)},
		{at(5, 2), at(4, 1), at(3, 0), at(math.MaxInt, math.MaxInt)},
	}
	for _, places := range lists {
		m := pos.New(places...)
		wantAll(t, "new", m, places...)
		wantChanges(t, "new", m)
	}
	wantAll(t, "without an argument", pos.New())
}

// New says nothing of places that could not be Set: the blocks are at these.
func TestNewMapsAtPlacesBelowZero(t *testing.T) {
	m := pos.New(wrongPlaces...)
	wantAll(t, "below 0", m, wrongPlaces...)
	wantChanges(t, "below 0", m)
}

func TestNewMapOfManyBlocks(t *testing.T) {
	places := make([]pos.Place, 1000)
	for id := range places {
		places[id] = at(id*7%64, id)
	}
	m := pos.New(places...)
	wantSet(t, m, 999, at(1, 1000), true)
	wantSet(t, m, 1000, at(1, 1000), false)
	places[999] = at(1, 1000)
	wantAll(t, "many", m, places...)
	wantChanges(t, "many", m, to(999, 1, 1000))
}

func TestGetOfNoBlock(t *testing.T) {
	for length := range 4 {
		// Places that are not zero, so that none of them could pass for nothing.
		m := pos.New(slices.Repeat([]pos.Place{at(8, 9)}, length)...)
		for _, id := range wrongIDs(length) {
			if p, ok := m.Get(id); ok || p != at(0, 0) {
				t.Errorf("of %d: Get(%d): %v, %t", length, id, p, ok)
			}
		}
	}
}

func TestSetMovesOneBlock(t *testing.T) {
	m := pos.New(at(1, 0), at(2, 1), at(3, 2))
	wantSet(t, m, 1, at(7, 3), true)
	wantAll(t, "the middle one", m, at(1, 0), at(7, 3), at(3, 2))
	wantSet(t, m, 0, at(0, 0), true)
	wantAll(t, "the first one", m, at(0, 0), at(7, 3), at(3, 2))
	wantSet(t, m, 2, at(math.MaxInt, math.MaxInt), true)
	wantAll(t, "the last one", m, at(0, 0), at(7, 3), at(math.MaxInt, math.MaxInt))
	wantSet(t, m, 1, at(6, 5), true)
	wantSet(t, m, 1, at(6, 4), true)
	wantAll(t, "again", m, at(0, 0), at(6, 4), at(math.MaxInt, math.MaxInt))
}

func TestSetMendsAPlaceBelowZero(t *testing.T) {
	m := pos.New(at(-1, -1))
	wantSet(t, m, 0, at(-1, -1), false)
	wantSet(t, m, 0, at(2, 0), true)
	wantAll(t, "mended", m, at(2, 0))
}

func TestSetOfWhatMayNotBeChangesNothing(t *testing.T) {
	m := pos.New(at(1, 0), at(2, 1))
	wrong := func(what string, changes ...pos.Change) {
		t.Helper()
		for _, id := range wrongIDs(2) {
			wantSet(t, m, id, at(0, 0), false)
			wantSet(t, m, id, at(-1, -1), false)
		}
		for _, p := range wrongPlaces {
			wantSet(t, m, 0, p, false)
			wantSet(t, m, 1, p, false)
		}
		wantAll(t, what, m, at(1, 0), at(2, 1))
		wantChanges(t, what, m, changes...)
	}
	wrong("nothing changed")
	wantSet(t, m, 1, at(2, 1), true)
	wrong("one changed", to(1, 2, 1))
	m.Settle()
	wrong("settled")
}

func TestMapWithoutBlocks(t *testing.T) {
	m := pos.New()
	wantSet(t, m, 0, at(0, 0), false)
	wantSet(t, m, -1, at(0, 0), false)
	wantApply(t, m, true)
	wantApply(t, m, false, to(0, 0, 0))
	m.Settle()
	wantAll(t, "empty", m)
	wantChanges(t, "empty", m)
}

// P8.2: Changes, Settle

func TestExample(t *testing.T) {
	m := pos.New(at(1, 0), at(2, 1))
	m.Set(1, at(3, 2))
	wantChanges(t, "example", m, to(1, 3, 2))
}

func TestChangesRiseByIDAndTellTheLastPlace(t *testing.T) {
	m := pos.New(at(0, 0), at(0, 1), at(0, 2), at(0, 3), at(0, 4))
	m.Set(4, at(1, 5))
	m.Set(0, at(2, 6))
	m.Set(3, at(3, 7))
	wantChanges(t, "three", m, to(0, 2, 6), to(3, 3, 7), to(4, 1, 5))
	m.Set(4, at(4, 8))
	m.Set(1, at(5, 9))
	m.Set(4, at(6, 10))
	wantChanges(t, "four", m, to(0, 2, 6), to(1, 5, 9), to(3, 3, 7), to(4, 6, 10))
	wantChanges(t, "asked again", m, to(0, 2, 6), to(1, 5, 9), to(3, 3, 7), to(4, 6, 10))
}

func TestSetToTheSamePlaceIsAChange(t *testing.T) {
	m := pos.New(at(1, 0), at(2, 1))
	m.Set(0, at(1, 0))
	wantChanges(t, "where it was", m, to(0, 1, 0))
	m.Set(1, at(5, 5))
	m.Set(1, at(2, 1))
	wantChanges(t, "there and back", m, to(0, 1, 0), to(1, 2, 1))
}

func TestChangesHaveTheFieldsOfTheirPlace(t *testing.T) {
	m := pos.New(at(0, 0))
	m.Set(0, at(5, 6))
	c := m.Changes()[0]
	if c.ID != 0 || c.Leaf != 5 || c.Tag != 6 || c.Place != at(5, 6) {
		t.Errorf("%v", c)
	}
}

func TestSettle(t *testing.T) {
	m := pos.New(at(1, 0), at(2, 1), at(3, 2))
	m.Settle()
	wantChanges(t, "of a new map", m)
	m.Set(2, at(4, 3))
	m.Set(0, at(5, 4))
	m.Settle()
	wantChanges(t, "settled", m)
	wantAll(t, "settled", m, at(5, 4), at(2, 1), at(4, 3))
	m.Settle()
	wantChanges(t, "settled twice", m)
	m.Set(0, at(5, 4))
	wantChanges(t, "behind it", m, to(0, 5, 4))
	m.Set(1, at(6, 5))
	wantChanges(t, "behind it", m, to(0, 5, 4), to(1, 6, 5))
	wantAll(t, "behind it", m, at(5, 4), at(6, 5), at(4, 3))
}

// P8.2: Apply

func TestApplySetsInOrder(t *testing.T) {
	m := pos.New(at(1, 0), at(2, 1), at(3, 2))
	wantApply(t, m, true)
	wantApply(t, m, true, []pos.Change{}...)
	wantAll(t, "of nothing", m, at(1, 0), at(2, 1), at(3, 2))
	wantApply(t, m, true, to(2, 9, 9), to(0, 8, 8))
	wantAll(t, "falling ids", m, at(8, 8), at(2, 1), at(9, 9))
	wantApply(t, m, true, to(1, 7, 7), to(2, 0, 0), to(1, 6, 6), to(1, 5, 9))
	wantAll(t, "the last one holds", m, at(8, 8), at(5, 9), at(0, 0))
	wantApply(t, m, true, to(0, math.MaxInt, math.MaxInt))
	wantAll(t, "the greatest", m, at(math.MaxInt, math.MaxInt), at(5, 9), at(0, 0))
	wantChanges(t, "no change", m)
}

func TestApplyCountsAsNoChange(t *testing.T) {
	m := pos.New(at(1, 0), at(2, 1), at(3, 2))
	wantApply(t, m, true, to(0, 1, 0), to(1, 4, 4))
	wantChanges(t, "of a new map", m)
	m.Set(2, at(5, 5))
	wantApply(t, m, true, to(0, 6, 6))
	wantChanges(t, "beside one that was Set", m, to(2, 5, 5))
	// It was Set and stays a change; where it is now is where Apply moved it.
	wantApply(t, m, true, to(2, 7, 7))
	wantChanges(t, "of one that was Set", m, to(2, 7, 7))
	m.Settle()
	wantApply(t, m, true, to(2, 8, 8))
	wantChanges(t, "settled", m)
	m.Set(2, at(9, 9))
	wantChanges(t, "Set behind it", m, to(2, 9, 9))
	wantAll(t, "in the end", m, at(6, 6), at(4, 4), at(9, 9))
}

func TestApplyOfWhatMayNotBeSetsNothing(t *testing.T) {
	m := pos.New(at(1, 0), at(2, 1))
	m.Set(1, at(3, 2))
	var wrong []pos.Change
	for _, id := range wrongIDs(2) {
		wrong = append(wrong, to(id, 0, 0))
	}
	for _, p := range wrongPlaces {
		wrong = append(wrong, pos.Change{ID: 0, Place: p}, pos.Change{ID: 1, Place: p})
	}
	for _, c := range wrong {
		wantApply(t, m, false, c)
		wantApply(t, m, false, c, to(0, 7, 7))
		wantApply(t, m, false, to(0, 7, 7), c)
		wantApply(t, m, false, to(1, 6, 6), c, to(0, 7, 7))
		// One that a later one would mend is wrong all the same.
		wantApply(t, m, false, to(0, 7, 7), c, to(0, 8, 8), to(1, 8, 8))
		wantAll(t, "nothing is set", m, at(1, 0), at(3, 2))
		wantChanges(t, "nothing is set", m, to(1, 3, 2))
	}
}

// P8.3

func TestPlacesHandedInAreNeitherChangedNorKept(t *testing.T) {
	memory := []pos.Place{at(1, 0), at(2, 1), at(40, 40), at(41, 41)}
	want := slices.Clone(memory)
	m := pos.New(memory[:2]...)
	m.Set(0, at(3, 2))
	m.Apply(to(1, 4, 3))
	wantSet(t, m, 2, at(5, 4), false)
	if !slices.Equal(memory, want) {
		t.Errorf("changed: %v", memory)
	}
	clear(memory)
	wantAll(t, "cleared", m, at(3, 2), at(4, 3))
	empty := pos.New(memory[:0]...)
	scribble(empty.All(), at(99, 99))
	if !slices.Equal(memory, make([]pos.Place, 4)) {
		t.Errorf("changed by way of an empty list: %v", memory)
	}
}

func TestChangesHandedInAreNeitherChangedNorKept(t *testing.T) {
	memory := []pos.Change{to(1, 5, 5), to(0, 6, 6), to(1, 7, 7), to(0, -1, -1)}
	want := slices.Clone(memory)
	m := pos.New(at(1, 0), at(2, 1))
	// The last one, which may not be, lies behind the length.
	wantApply(t, m, true, memory[:3]...)
	m.Set(1, at(8, 8))
	if !slices.Equal(memory, want) {
		t.Errorf("changed: %v", memory)
	}
	clear(memory)
	wantAll(t, "cleared", m, at(6, 6), at(8, 8))
	wantChanges(t, "cleared", m, to(1, 8, 8))
}

func TestListsHandedOutAreNewMemory(t *testing.T) {
	m := pos.New(at(1, 0), at(2, 1), at(3, 2))
	for id := range 3 {
		m.Set(id, at(id+4, id+5))
	}
	places, changes := m.All(), m.Changes()
	scribble(m.All(), at(99, 99))
	scribble(m.Changes(), to(99, 99, 99))
	want := []pos.Place{at(4, 5), at(5, 6), at(6, 7)}
	if !slices.Equal(places, want) || !slices.Equal(changes, []pos.Change{to(0, 4, 5), to(1, 5, 6), to(2, 6, 7)}) {
		t.Errorf("one list shows in another: %v, %v", places, changes)
	}
	wantAll(t, "scribbled", m, want...)
	wantChanges(t, "scribbled", m, to(0, 4, 5), to(1, 5, 6), to(2, 6, 7))
	m.Set(0, at(9, 9))
	m.Settle()
	if places[0] != at(4, 5) || changes[0] != to(0, 4, 5) {
		t.Errorf("the map shows in an elder list: %v, %v", places, changes)
	}
}

func TestMapsAreApart(t *testing.T) {
	places := []pos.Place{at(1, 0), at(2, 1)}
	a, b := pos.New(places...), pos.New(places...)
	c := pos.New(a.All()...)
	a.Set(0, at(7, 7))
	b.Apply(to(1, 8, 8))
	wantAll(t, "a", a, at(7, 7), at(2, 1))
	wantAll(t, "b", b, at(1, 0), at(8, 8))
	wantAll(t, "c", c, places...)
	wantChanges(t, "b", b)
	b.Settle()
	wantChanges(t, "a", a, to(0, 7, 7))
}

// P8.4

func TestElderMapWithTheChangesIsTheSame(t *testing.T) {
	const blocks = 9
	places := make([]pos.Place, blocks)
	for id := range places {
		places[id] = at(id%4, id)
	}
	m, elder := pos.New(places...), pos.New(places...)
	changed := make([]bool, blocks)
	for step := range 2000 {
		// Ids and leaves run past both ends, so that some are refused.
		id, p := step*7%13-2, at(step*5%11-1, step%17-1)
		may := id >= 0 && id < blocks && p.Leaf >= 0 && p.Tag >= 0
		wantSet(t, m, id, p, may)
		if may {
			places[id], changed[id] = p, true
		}
		if step%23 != 0 {
			continue
		}
		var want []pos.Change
		for id, place := range places {
			if changed[id] {
				want = append(want, pos.Change{ID: id, Place: place})
			}
		}
		wantChanges(t, "the changes", m, want...)
		wantApply(t, elder, true, m.Changes()...)
		wantAll(t, "the map", m, places...)
		wantAll(t, "the elder", elder, places...)
		wantChanges(t, "the elder", elder)
		m.Settle()
		clear(changed)
	}
}

// scribble writes over a list, its spare room too.
func scribble[T any](list []T, junk T) {
	whole := list[:cap(list)]
	for i := range whole {
		whole[i] = junk
	}
	_ = append(list, junk, junk, junk)
}
