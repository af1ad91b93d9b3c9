package evict_test

import (
	"math"
	"slices"
	"testing"

	"oubliette/api"
	"oubliette/evict"
	"oubliette/tree"
)

// Heights that no tree has.
var wrongHeights = []int{-1, -2, -64, math.MinInt, math.MinInt + 1, api.MaxHeight + 1, 8, 31, 32, 62, 63, 64, 65, 1 << 32, math.MaxInt}

// Sizes that no bucket has.
var wrongSizes = []int{0, -1, -2, api.MaxZ + 1, 8, 255, 256, 257, 1 << 32, 1<<32 + 1, math.MinInt, math.MinInt + 1, math.MaxInt}

// wrongLeaves are no leaves of this height, those at its ends first.
func wrongLeaves(height int) []int {
	return []int{-1, 1 << height, 1<<height + 1, -2, 2 << height, 127, 1 << 32, math.MinInt, math.MinInt + 1, math.MaxInt}
}

// of makes items of ids and leaves, by turns.
func of(l ...int) []evict.Item {
	var items []evict.Item
	for i := 0; i < len(l); i += 2 {
		items = append(items, evict.Item{ID: l[i], Leaf: l[i+1]})
	}
	return items
}

func in(bucket int, ids ...int) evict.Fill { return evict.Fill{Bucket: bucket, IDs: ids} }

// row is n items of different ids, not in their order, below 0 too, on all leaves of this height.
func row(height, n int) []evict.Item {
	items := make([]evict.Item, n)
	for i := range items {
		items[i] = evict.Item{ID: (i*37+63)%101 - 50, Leaf: (i*i + 3*i) % (1 << height)}
	}
	return items
}

// climbed is the leaf's path, found from below: each bucket's upper one is that below which it stands.
func climbed(height, leaf int) []int {
	path := []int{1<<height - 1 + leaf}
	for path[0] != 0 {
		path = slices.Insert(path, 0, (path[0]-1)/2)
	}
	return path
}

// planned is the plan as the document's words make it, one item after the other: on each level from the deepest on, of each bucket the item of the least id that is left.
func planned(height, z int, leaves []int, items []evict.Item) ([]evict.Fill, []int) {
	room := map[int][]int{}
	left := map[int]int{}
	for _, item := range items {
		left[item.ID] = item.Leaf
	}
	for level := height; level >= 0; level-- {
		for bucket := 1<<level - 1; bucket < 2<<level-1; bucket++ {
			if !slices.ContainsFunc(leaves, func(leaf int) bool { return climbed(height, leaf)[level] == bucket }) {
				continue
			}
			room[bucket] = nil
			for range z {
				least, found := 0, false
				for id, leaf := range left {
					if climbed(height, leaf)[level] == bucket && (!found || id < least) {
						least, found = id, true
					}
				}
				if found {
					room[bucket] = append(room[bucket], least)
					delete(left, least)
				}
			}
		}
	}
	var fills []evict.Fill
	for bucket := range 2<<height - 1 {
		if ids, is := room[bucket]; is {
			fills = append(fills, in(bucket, ids...))
		}
	}
	var ids []int
	for id := range left {
		ids = append(ids, id)
	}
	slices.Sort(ids)
	return fills, ids
}

func same(a, b []evict.Fill) bool {
	return slices.EqualFunc(a, b, func(x, y evict.Fill) bool { return x.Bucket == y.Bucket && slices.Equal(x.IDs, y.IDs) })
}

func wantPlan(t *testing.T, height, z int, leaves []int, items []evict.Item, left []int, fills ...evict.Fill) {
	t.Helper()
	gotFills, gotLeft := evict.Plan(height, z, leaves, items...)
	if !same(gotFills, fills) || !slices.Equal(gotLeft, left) {
		t.Errorf("Plan(%d, %d, %v, %v): %v, %v; want %v, %v", height, z, leaves, items, gotFills, gotLeft, fills, left)
	}
}

func wantNoPlan(t *testing.T, height, z int, leaves []int, items ...evict.Item) {
	t.Helper()
	wantPlan(t, height, z, leaves, items, nil)
}

func wantDeepest(t *testing.T, height int, leaves []int, leaf, want int) {
	t.Helper()
	if got := evict.Deepest(height, leaves, leaf); got != want {
		t.Errorf("Deepest(%d, %v, %d): %d; want %d", height, leaves, leaf, got, want)
	}
}

func wantHeld(t *testing.T, want int, l ...evict.Fill) {
	t.Helper()
	if got := evict.Held(l...); got != want {
		t.Errorf("Held(%v): %d; want %d", l, got, want)
	}
}

// P11.1

func TestExample(t *testing.T) {
	wantPlan(t, 1, 1, []int{0}, of(3, 0, 5, 1), nil, in(0, 5), in(1, 3))
}

func TestDeepestFirst(t *testing.T) {
	wantPlan(t, 2, 1, []int{1}, of(8, 1), nil, in(0), in(1), in(4, 8))
	wantPlan(t, 2, 1, []int{1}, of(8, 1, 6, 1), nil, in(0), in(1, 8), in(4, 6))
	wantPlan(t, 2, 1, []int{1}, of(8, 1, 6, 1, 7, 1), nil, in(0, 8), in(1, 7), in(4, 6))
	wantPlan(t, 2, 1, []int{1}, of(8, 1, 6, 1, 7, 1, 5, 1), []int{8}, in(0, 7), in(1, 6), in(4, 5))
	wantPlan(t, 2, 4, []int{1}, of(8, 1, 6, 1, 7, 1, 5, 1), nil, in(0), in(1), in(4, 5, 6, 7, 8))
	// A lesser id that can lie less deep leaves the room below to the others.
	wantPlan(t, 2, 1, []int{1}, of(1, 2, 2, 0, 3, 1), nil, in(0, 1), in(1, 2), in(4, 3))
}

func TestLeastIDsFirst(t *testing.T) {
	// On the way up, an item that found no room below stands in the row of ids with the others.
	wantPlan(t, 1, 2, []int{0}, of(9, 0, 2, 1, 4, 0, 7, 0, 3, 1), []int{9}, in(0, 2, 3), in(1, 4, 7))
	wantPlan(t, 1, 2, []int{0}, of(9, 1, 2, 0, 4, 0, 7, 0, 8, 1), []int{9}, in(0, 7, 8), in(1, 2, 4))
	wantPlan(t, 0, 3, []int{0}, of(5, 0, -5, 0, 0, 0, 6, 0), []int{6}, in(0, -5, 0, 5))
}

func TestOnlyOnTheirPaths(t *testing.T) {
	wantPlan(t, 2, 2, []int{0}, of(1, 0, 2, 1, 3, 2, 4, 3, 5, 3), []int{5}, in(0, 3, 4), in(1, 2), in(3, 1))
	wantPlan(t, 2, 1, []int{3}, of(1, 0, 2, 1, 3, 2), []int{2}, in(0, 1), in(2, 3), in(6))
	wantPlan(t, 2, 1, []int{3, 0}, of(1, 0, 2, 1, 3, 2, 4, 3), nil, in(0), in(1, 2), in(2, 3), in(3, 1), in(6, 4))
}

func TestLeavesInAnyOrderAndTwice(t *testing.T) {
	for _, leaves := range [][]int{{0, 3}, {3, 0}, {3, 3, 0}, {0, 3, 0, 3, 3}} {
		wantPlan(t, 2, 1, leaves, of(4, 3, 2, 1), nil, in(0), in(1, 2), in(2), in(3), in(6, 4))
	}
}

func TestEmptyBuckets(t *testing.T) {
	for _, items := range [][]evict.Item{nil, {}} {
		wantPlan(t, 0, 1, []int{0}, items, nil, in(0))
		wantPlan(t, 2, 4, []int{2, 0}, items, nil, in(0), in(1), in(2), in(3), in(5))
	}
	every := make([]evict.Fill, tree.Buckets(api.MaxHeight))
	leaves := make([]int, tree.Leaves(api.MaxHeight))
	for bucket := range every {
		every[bucket].Bucket = bucket
	}
	for leaf := range leaves {
		leaves[leaf] = leaf
	}
	wantPlan(t, api.MaxHeight, api.MaxZ, leaves, nil, nil, every...)
}

func TestWithoutLeavesAllAreLeft(t *testing.T) {
	for _, leaves := range [][]int{nil, {}} {
		wantPlan(t, 2, 1, leaves, nil, nil)
		wantPlan(t, 2, 1, leaves, of(7, 1, 2, 0, -3, 3), []int{-3, 2, 7})
		wantPlan(t, 0, api.MaxZ, leaves, of(7, 0, 2, 0), []int{2, 7})
	}
}

// The document names no bound for ids; differences of the farthest would wrap.
func TestIDsOfAnySize(t *testing.T) {
	farthest := of(math.MaxInt, 0, math.MinInt, 0, 0, 0, math.MaxInt-1, 0, math.MinInt+1, 0, -1, 0)
	wantPlan(t, 0, 2, []int{0}, farthest, []int{-1, 0, math.MaxInt - 1, math.MaxInt}, in(0, math.MinInt, math.MinInt+1))
	wantPlan(t, 0, 2, nil, farthest, []int{math.MinInt, math.MinInt + 1, -1, 0, math.MaxInt - 1, math.MaxInt})
	// Their lower four bytes are the same.
	wantPlan(t, 0, 2, []int{0}, of(3, 0, 1<<32+3, 0, -1<<32+3, 0), []int{1<<32 + 3}, in(0, -1<<32+3, 3))
}

func TestSizesThatMayBe(t *testing.T) {
	items := of(5, 0, 4, 0, 3, 0, 2, 0, 1, 0)
	wantPlan(t, 0, 1, []int{0}, items, []int{2, 3, 4, 5}, in(0, 1))
	wantPlan(t, 0, 2, []int{0}, items, []int{3, 4, 5}, in(0, 1, 2))
	wantPlan(t, 0, 3, []int{0}, items, []int{4, 5}, in(0, 1, 2, 3))
	wantPlan(t, 0, 4, []int{0}, items, []int{5}, in(0, 1, 2, 3, 4))
}

func TestNoPlanOfAHeightThatMayNotBe(t *testing.T) {
	for _, height := range wrongHeights {
		wantNoPlan(t, height, 1, nil)
		wantNoPlan(t, height, 1, nil, of(1, 0)...)
		wantNoPlan(t, height, 1, []int{0})
		wantNoPlan(t, height, 1, []int{0}, of(1, 0)...)
	}
}

func TestNoPlanOfASizeThatMayNotBe(t *testing.T) {
	for _, z := range wrongSizes {
		wantNoPlan(t, 1, z, nil)
		wantNoPlan(t, 1, z, nil, of(1, 0)...)
		wantNoPlan(t, 1, z, []int{0})
		wantNoPlan(t, 1, z, []int{0}, of(1, 0)...)
	}
}

func TestNoPlanOfWhatIsNoLeaf(t *testing.T) {
	for height := range api.MaxHeight + 1 {
		for _, leaf := range wrongLeaves(height) {
			for _, leaves := range [][]int{{leaf}, {leaf, 0}, {0, leaf}, {0, leaf, 0}} {
				wantNoPlan(t, height, 1, leaves)
				wantNoPlan(t, height, 1, leaves, of(1, 0, 2, 0)...)
			}
			for _, items := range [][]evict.Item{of(1, leaf), of(1, leaf, 2, 0), of(1, 0, 2, leaf), of(1, 0, 3, leaf, 2, 0)} {
				wantNoPlan(t, height, 1, nil, items...)
				wantNoPlan(t, height, 1, []int{0}, items...)
			}
		}
	}
}

func TestNoPlanOfOneIDTwice(t *testing.T) {
	for _, id := range []int{0, 1, -1, 63, 64, math.MinInt, math.MaxInt} {
		for _, items := range [][]evict.Item{of(id, 0, id, 0), of(id, 0, id, 1), of(id, 1, 5, 0, id, 0), of(7, 0, id, 0, 5, 0, -7, 1, id, 1), of(id, 1, id, 1, id, 1)} {
			wantNoPlan(t, 1, 4, nil, items...)
			wantNoPlan(t, 1, 4, []int{0}, items...)
			wantNoPlan(t, 1, 4, []int{0, 1}, items...)
		}
	}
	many := row(6, 101)
	many[100].ID = many[0].ID
	wantNoPlan(t, 6, 4, []int{0, 9}, many...)
}

func TestPlanOfVeryMany(t *testing.T) {
	const n = 1 << 17
	leaves, items, left := make([]int, n), make([]evict.Item, n), make([]int, n)
	for i := range n {
		leaves[i] = i % 2
		items[i] = evict.Item{ID: n - 1 - i}
		left[i] = i
	}
	fills := []evict.Fill{in(0, 8, 9, 10, 11), in(1, 4, 5, 6, 7), in(3, 0, 1, 2, 3), in(4)}
	gotFills, gotLeft := evict.Plan(2, 4, leaves, items...)
	if !same(gotFills, fills) || !slices.Equal(gotLeft, left[12:]) {
		t.Errorf("%v, and %d left", gotFills, len(gotLeft))
	}
	leaves[n-1] = 4
	wantNone(t, leaves, items)
	leaves[n-1], items[n-1].Leaf = 1, -1
	wantNone(t, leaves, items)
	items[n-1] = items[0]
	wantNone(t, leaves, items)
}

// wantNone is as wantNoPlan of height 2, but doesn't tell what was handed in.
func wantNone(t *testing.T, leaves []int, items []evict.Item) {
	t.Helper()
	if fills, left := evict.Plan(2, 4, leaves, items...); len(fills) != 0 || len(left) != 0 {
		t.Errorf("%v, and %d left", fills, len(left))
	}
}

// P11.2

func TestDeepestWrittenOut(t *testing.T) {
	wantDeepest(t, 0, []int{0}, 0, 0)
	wantDeepest(t, 1, []int{0}, 1, 0)
	wantDeepest(t, 1, []int{0}, 0, 1)
	wantDeepest(t, 2, []int{0, 3}, 1, 1)
	wantDeepest(t, 2, []int{3, 0}, 1, 1)
	wantDeepest(t, 2, []int{0, 3, 0}, 3, 2)
	wantDeepest(t, 3, []int{7, 4, 0}, 6, 2)
	wantDeepest(t, 3, []int{3, 2, 1}, 6, 0)
	wantDeepest(t, 6, []int{63}, 0, 0)
	wantDeepest(t, 6, []int{0, 63, 17}, 62, 5)
}

func TestDeepestOfEveryThree(t *testing.T) {
	for height := range 5 {
		n := 1 << height
		for leaf := range n {
			path := climbed(height, leaf)
			for a := range n {
				for b := range n {
					want := height
					for path[want] != climbed(height, a)[want] && path[want] != climbed(height, b)[want] {
						want--
					}
					wantDeepest(t, height, []int{a, b}, leaf, want)
				}
			}
		}
	}
}

func TestDeepestWithoutLeaves(t *testing.T) {
	for height := range api.MaxHeight + 1 {
		for _, leaves := range [][]int{nil, {}} {
			wantDeepest(t, height, leaves, 0, -1)
			wantDeepest(t, height, leaves, 1<<height-1, -1)
			wantDeepest(t, height, leaves, 1<<height, -1)
			wantDeepest(t, height, leaves, -1, -1)
		}
	}
}

func TestDeepestOfWhatMayNotBe(t *testing.T) {
	for _, height := range wrongHeights {
		wantDeepest(t, height, nil, 0, -1)
		wantDeepest(t, height, []int{0}, 0, -1)
		wantDeepest(t, height, []int{0, 1, 0}, 1, -1)
	}
	for height := range api.MaxHeight + 1 {
		for _, leaf := range wrongLeaves(height) {
			wantDeepest(t, height, []int{0}, leaf, -1)
			wantDeepest(t, height, []int{leaf}, leaf, -1)
			wantDeepest(t, height, []int{leaf}, 0, -1)
			wantDeepest(t, height, []int{leaf, 0}, 0, -1)
			wantDeepest(t, height, []int{0, leaf}, 0, -1)
			wantDeepest(t, height, []int{0, leaf, 0}, 0, -1)
		}
	}
}

func TestHeld(t *testing.T) {
	wantHeld(t, 0)
	wantHeld(t, 0, []evict.Fill{}...)
	wantHeld(t, 0, in(0), in(3), evict.Fill{Bucket: 5, IDs: []int{}})
	wantHeld(t, 1, in(9, 0))
	wantHeld(t, 3, in(0, 1, 2), in(1), in(2, 3))
	// It is the ids that are there, whether any Plan would answer them or not.
	wantHeld(t, 9, in(-1, 7, 7), in(7, 7), in(7, 7), in(math.MaxInt, 1, 2, 3, 4, -5))
	wantHeld(t, 2, evict.Fill{IDs: []int{1, 2, 3, 4}[:2]})
}

// P11.3

func TestNothingHandedInIsChangedOrReadBehindItsLength(t *testing.T) {
	// Behind the lengths lies what would be no plan.
	leaves, items := []int{3, 0, 3, 99}, append(row(2, 9), of(1, 99, 1, 99)...)
	wereLeaves, wereItems := slices.Clone(leaves), slices.Clone(items)
	fills, left := planned(2, 2, wereLeaves[:3], wereItems[:9])
	wantPlan(t, 2, 2, leaves[:3], items[:9], left, fills...)
	wantPlan(t, 2, 2, leaves[:0], items[:0], nil)
	wantNoPlan(t, 2, 2, leaves, items[:9]...)
	wantNoPlan(t, 2, 2, leaves[:3], items...)
	wantDeepest(t, 2, leaves[:3], 1, 1)
	wantDeepest(t, 2, leaves[:0], 1, -1)
	l := []evict.Fill{in(3, 5, 4), in(1, 9), in(2, 8)}
	wantHeld(t, 3, l[:2]...)
	if !slices.Equal(leaves, wereLeaves) || !slices.Equal(items, wereItems) || !same(l, []evict.Fill{in(3, 5, 4), in(1, 9), in(2, 8)}) {
		t.Errorf("changed: %v, %v, %v", leaves, items, l)
	}
}

func TestNothingHandedInIsKept(t *testing.T) {
	leaves, items := []int{3, 0, 3}, row(2, 30)
	fills, left := evict.Plan(2, 3, leaves, items...)
	scribble(leaves, 2)
	scribble(items, evict.Item{ID: 1000, Leaf: 2})
	wantFills, wantLeft := planned(2, 3, []int{3, 0, 3}, row(2, 30))
	if !same(fills, wantFills) || !slices.Equal(left, wantLeft) {
		t.Errorf("kept: %v, %v", fills, left)
	}
	leaves, items = []int{3, 0, 3}, row(2, 30)
	fills, left = evict.Plan(2, 3, leaves, items...)
	scribbleAll(fills, left)
	if !slices.Equal(leaves, []int{3, 0, 3}) || !slices.Equal(items, row(2, 30)) {
		t.Errorf("the answer is what was handed in: %v, %v", leaves, items)
	}
}

func TestListsHandedOutAreNewMemory(t *testing.T) {
	leaves, items := []int{3, 0}, row(2, 30)
	wantFills, wantLeft := planned(2, 3, leaves, items)
	fills, left := evict.Plan(2, 3, leaves, items...)
	scribbleAll(evict.Plan(2, 3, leaves, items...))
	if !same(fills, wantFills) || !slices.Equal(left, wantLeft) {
		t.Errorf("one answer shows in another: %v, %v", fills, left)
	}
	for at := range fills {
		fills, left := evict.Plan(2, 3, leaves, items...)
		scribble(fills[at].IDs, 1000)
		if !same(fills[:at], wantFills[:at]) || !same(fills[at+1:], wantFills[at+1:]) || !slices.Equal(left, wantLeft) {
			t.Errorf("bucket %d shows in the same answer: %v, %v", fills[at].Bucket, fills, left)
		}
	}
	scribble(left, 1000)
	if !same(fills, wantFills) {
		t.Errorf("those left show in the buckets: %v", fills)
	}
	wantPlan(t, 2, 3, leaves, items, wantLeft, wantFills...)
}

func TestEmptyListsHandedOutAreNewMemory(t *testing.T) {
	for range 3 {
		fills, left := evict.Plan(2, 3, []int{0, 3})
		scribble(fills[2].IDs, 1000)
		scribble(left, 1000)
		if want := []evict.Fill{in(0), in(1), in(2), in(3), in(6)}; !same(fills, want) {
			t.Errorf("an empty bucket shows in another: %v", fills)
		}
		scribbleAll(evict.Plan(2, 0, []int{0}))
		scribbleAll(evict.Plan(2, 1, nil))
	}
}

// P11.4, and all of P11.1 over many plans: the document's words stand beside it.
func TestManyPlans(t *testing.T) {
	full, left := 0, 0
	for step := range 1500 {
		height, z := step%(api.MaxHeight+1), 1+step/7%api.MaxZ
		n := 1 << height
		leaves := make([]int, step/28%6)
		for i := range leaves {
			leaves[i] = (step*13 + i*i*29 + step/5*i) % n
		}
		items := row(height, step*31%41)
		for i := range items {
			items[i].Leaf = (items[i].Leaf + step*i) % n
		}
		wantFills, wantLeft := planned(height, z, leaves, items)
		wantPlan(t, height, z, leaves, items, wantLeft, wantFills...)
		wantEachPlaced(t, height, z, leaves, items)
		if len(wantLeft) > 0 {
			left++
		} else if len(leaves) > 0 {
			full++
		}
	}
	if full < 100 || left < 100 {
		t.Errorf("too few of a kind: all placed %d times, some left %d times", full, left)
	}
}

// wantEachPlaced asks P11.4 of a plan: each item is in one bucket of its path, or left, and finds no room there.
func wantEachPlaced(t *testing.T, height, z int, leaves []int, items []evict.Item) {
	t.Helper()
	fills, left := evict.Plan(height, z, leaves, items...)
	if evict.Held(fills...)+len(left) != len(items) {
		t.Errorf("of %d items: %v, %v", len(items), fills, left)
	}
	for _, item := range items {
		path, places := climbed(height, item.Leaf), 0
		for _, f := range fills {
			if slices.Contains(f.IDs, item.ID) && slices.Contains(path, f.Bucket) {
				places++
			}
			if slices.Contains(left, item.ID) && slices.Contains(path, f.Bucket) && len(f.IDs) != z {
				t.Errorf("%v is left, but bucket %d has room", item, f.Bucket)
			}
		}
		if slices.Contains(left, item.ID) {
			places++
		}
		if places != 1 {
			t.Errorf("%v has %d places: %v, %v", item, places, fills, left)
		}
	}
}

func scribbleAll(fills []evict.Fill, left []int) {
	for _, f := range fills {
		scribble(f.IDs, 1000)
	}
	scribble(fills, in(1000, 1000))
	scribble(left, 1000)
}

// scribble writes over a list, its spare room too.
func scribble[T any](list []T, junk T) {
	whole := list[:cap(list)]
	for i := range whole {
		whole[i] = junk
	}
	_ = append(list, junk, junk, junk)
}
