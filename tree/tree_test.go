package tree_test

import (
	"math"
	"slices"
	"testing"

	"oubliette/api"
	"oubliette/tree"
)

// Heights that no tree has; shifts by some of them would wrap.
var wrongHeights = []int{-1, -2, -64, math.MinInt, math.MinInt + 1, api.MaxHeight + 1, 8, 31, 32, 61, 62, 63, 64, 65, math.MaxInt}

// wrongLeaves are no leaves of this height, those at its ends first.
func wrongLeaves(height int) []int {
	return []int{-1, 1 << height, 1<<height + 1, -2, 2 << height, 127, 1 << 32, math.MinInt, math.MinInt + 1, math.MaxInt}
}

// climbed is the leaf's path, found from below: each bucket's upper one is that below which it stands.
func climbed(height, leaf int) []int {
	path := []int{1<<height - 1 + leaf}
	for path[0] != 0 {
		path = slices.Insert(path, 0, (path[0]-1)/2)
	}
	return path
}

// gathered is all of the climbed paths, rising, each bucket once.
func gathered(height int, leaves ...int) []int {
	var all []int
	for _, leaf := range leaves {
		all = append(all, climbed(height, leaf)...)
	}
	slices.Sort(all)
	return slices.Compact(all)
}

func wantPath(t *testing.T, height, leaf int, want ...int) {
	t.Helper()
	if got := tree.Path(height, leaf); !slices.Equal(got, want) {
		t.Errorf("Path(%d, %d): %v; want %v", height, leaf, got, want)
	}
}

func wantLevel(t *testing.T, bucket, want int) {
	t.Helper()
	if got := tree.Level(bucket); got != want {
		t.Errorf("Level(%d): %d; want %d", bucket, got, want)
	}
}

func wantOn(t *testing.T, height, bucket, leaf int, want bool) {
	t.Helper()
	if got := tree.On(height, bucket, leaf); got != want {
		t.Errorf("On(%d, %d, %d): %t", height, bucket, leaf, got)
	}
}

func wantShared(t *testing.T, height, a, b, want int) {
	t.Helper()
	if got := tree.Shared(height, a, b); got != want {
		t.Errorf("Shared(%d, %d, %d): %d; want %d", height, a, b, got, want)
	}
}

func wantUnion(t *testing.T, want []int, height int, leaves ...int) {
	t.Helper()
	if got := tree.Union(height, leaves...); !slices.Equal(got, want) {
		t.Errorf("Union(%d, %v): %v; want %v", height, leaves, got, want)
	}
}

// P7.1: May, Buckets, Leaves

func TestHeights(t *testing.T) {
	buckets := []int{1, 3, 7, 15, 31, 63, 127}
	leaves := []int{1, 2, 4, 8, 16, 32, 64}
	if len(buckets) != api.MaxHeight+1 {
		t.Fatalf("heights up to %d", api.MaxHeight)
	}
	for height := range buckets {
		if !tree.May(height) || tree.Buckets(height) != buckets[height] || tree.Leaves(height) != leaves[height] {
			t.Errorf("height %d: %t, %d, %d", height, tree.May(height), tree.Buckets(height), tree.Leaves(height))
		}
	}
}

func TestHeightsThatMayNotBe(t *testing.T) {
	for _, height := range wrongHeights {
		if tree.May(height) || tree.Buckets(height) != 0 || tree.Leaves(height) != 0 {
			t.Errorf("height %d: %t, %d, %d", height, tree.May(height), tree.Buckets(height), tree.Leaves(height))
		}
		for _, leaf := range []int{0, 1, -1, 63, 64, math.MaxInt, math.MinInt} {
			wantPath(t, height, leaf)
			wantOn(t, height, 0, leaf, false)
			wantOn(t, height, leaf, 0, false)
			wantShared(t, height, leaf, leaf, -1)
			wantShared(t, height, leaf, 0, -1)
			wantUnion(t, nil, height, leaf)
		}
		wantUnion(t, nil, height)
		wantUnion(t, nil, height, 0, 0, 1)
	}
}

// P7.1: Path

func TestExample(t *testing.T) {
	wantPath(t, 2, 1, 0, 1, 4)
	wantShared(t, 2, 1, 2, 0)
}

func TestPathsWrittenOut(t *testing.T) {
	wantPath(t, 0, 0, 0)
	wantPath(t, 1, 0, 0, 1)
	wantPath(t, 1, 1, 0, 2)
	wantPath(t, 2, 0, 0, 1, 3)
	wantPath(t, 2, 2, 0, 2, 5)
	wantPath(t, 2, 3, 0, 2, 6)
	wantPath(t, 3, 5, 0, 2, 5, 12)
	wantPath(t, 6, 0, 0, 1, 3, 7, 15, 31, 63)
	wantPath(t, 6, 31, 0, 1, 4, 10, 22, 46, 94)
	wantPath(t, 6, 32, 0, 2, 5, 11, 23, 47, 95)
	wantPath(t, 6, 63, 0, 2, 6, 14, 30, 62, 126)
}

func TestEveryPath(t *testing.T) {
	for height := range api.MaxHeight + 1 {
		for leaf := range tree.Leaves(height) {
			wantPath(t, height, leaf, climbed(height, leaf)...)
		}
	}
}

func TestPathsOfNoLeaf(t *testing.T) {
	for height := range api.MaxHeight + 1 {
		for _, leaf := range wrongLeaves(height) {
			wantPath(t, height, leaf)
		}
	}
}

// P7.1: Level

func TestLevels(t *testing.T) {
	wantLevel(t, 0, 0)
	for level := range 63 {
		wantLevel(t, 1<<level-1, level)
		wantLevel(t, 2*(1<<level-1), level)
	}
	wantLevel(t, 126, 6)
	wantLevel(t, 127, 7)
	wantLevel(t, math.MaxInt-1, 62)
	wantLevel(t, math.MaxInt, 63)
}

func TestLevelsAreThePlacesOnPaths(t *testing.T) {
	for leaf := range tree.Leaves(api.MaxHeight) {
		for level, bucket := range climbed(api.MaxHeight, leaf) {
			wantLevel(t, bucket, level)
		}
	}
}

func TestLevelsOfNoBucket(t *testing.T) {
	for _, bucket := range []int{-1, -2, -3, -127, math.MinInt, math.MinInt + 1} {
		wantLevel(t, bucket, -1)
	}
}

// P7.1: On

func TestOnOfEveryBucketAndLeaf(t *testing.T) {
	for height := range api.MaxHeight + 1 {
		for leaf := range tree.Leaves(height) {
			path := climbed(height, leaf)
			// Past the end stand buckets below the leaf, which a taller tree would have on its path.
			for bucket := -3; bucket < 4<<height; bucket++ {
				wantOn(t, height, bucket, leaf, slices.Contains(path, bucket))
			}
		}
	}
}

func TestOnOfNoBucket(t *testing.T) {
	for height := range api.MaxHeight + 1 {
		for leaf := range tree.Leaves(height) {
			for _, bucket := range []int{-1, 2<<height - 1, math.MinInt, math.MinInt + 1, 1 << 32, math.MaxInt - 1, math.MaxInt} {
				wantOn(t, height, bucket, leaf, false)
			}
		}
	}
}

func TestOnOfNoLeaf(t *testing.T) {
	for height := range api.MaxHeight + 1 {
		for _, leaf := range wrongLeaves(height) {
			for bucket := -1; bucket <= tree.Buckets(height); bucket++ {
				wantOn(t, height, bucket, leaf, false)
			}
			wantOn(t, height, math.MaxInt, leaf, false)
		}
	}
}

// P7.1: Shared

func TestSharedWrittenOut(t *testing.T) {
	wantShared(t, 0, 0, 0, 0)
	wantShared(t, 1, 0, 1, 0)
	wantShared(t, 1, 1, 1, 1)
	wantShared(t, 2, 0, 1, 1)
	wantShared(t, 2, 2, 3, 1)
	wantShared(t, 3, 4, 7, 1)
	wantShared(t, 3, 7, 6, 2)
	wantShared(t, 3, 3, 4, 0)
	wantShared(t, 6, 0, 63, 0)
	wantShared(t, 6, 62, 63, 5)
	wantShared(t, 6, 63, 63, 6)
}

func TestSharedOfNoLeaf(t *testing.T) {
	for height := range api.MaxHeight + 1 {
		for _, leaf := range wrongLeaves(height) {
			wantShared(t, height, leaf, 0, -1)
			wantShared(t, height, 0, leaf, -1)
			wantShared(t, height, leaf, leaf, -1)
		}
	}
}

// P7.1: Union

func TestUnionsWrittenOut(t *testing.T) {
	wantUnion(t, []int{0}, 0, 0)
	wantUnion(t, []int{0}, 0, 0, 0, 0)
	wantUnion(t, []int{0, 2, 6}, 2, 3)
	wantUnion(t, []int{0, 1, 2, 3, 6}, 2, 3, 0, 3)
	wantUnion(t, []int{0, 1, 3, 4}, 2, 1, 0)
	wantUnion(t, []int{0, 1, 2, 3, 4, 5, 6}, 2, 2, 0, 3, 1)
	wantUnion(t, []int{0, 1, 2, 4, 5, 10, 11}, 3, 4, 3)
}

func TestUnionsWithoutLeaves(t *testing.T) {
	for height := range api.MaxHeight + 1 {
		wantUnion(t, nil, height)
		wantUnion(t, nil, height, []int{}...)
	}
}

func TestUnionsWithOneThatIsNoLeaf(t *testing.T) {
	for height := range api.MaxHeight + 1 {
		for _, leaf := range wrongLeaves(height) {
			wantUnion(t, nil, height, leaf)
			wantUnion(t, nil, height, leaf, 0)
			wantUnion(t, nil, height, 0, leaf)
			wantUnion(t, nil, height, 0, leaf, 0)
		}
	}
}

func TestUnionOfVeryManyLeaves(t *testing.T) {
	leaves := make([]int, 1<<18)
	for i := range leaves {
		leaves[i] = i * 7 % 64
	}
	all := make([]int, tree.Buckets(api.MaxHeight))
	for bucket := range all {
		all[bucket] = bucket
	}
	if got := tree.Union(api.MaxHeight, leaves...); !slices.Equal(got, all) {
		t.Errorf("%v", got)
	}
	leaves[len(leaves)-1] = 64
	if got := tree.Union(api.MaxHeight, leaves...); len(got) != 0 {
		t.Errorf("the last is no leaf: %v", got)
	}
}

// P7.2

func TestPathsAreTheSameUpToSharedAndApartBelow(t *testing.T) {
	for height := range api.MaxHeight + 1 {
		for a := range tree.Leaves(height) {
			for b := range tree.Leaves(height) {
				p, q := climbed(height, a), climbed(height, b)
				shared := 0
				for shared < height && p[shared+1] == q[shared+1] {
					shared++
				}
				wantShared(t, height, a, b, shared)
			}
		}
	}
}

func TestUnionIsAllOfThePaths(t *testing.T) {
	for height := range api.MaxHeight + 1 {
		n := tree.Leaves(height)
		for a := range n {
			wantUnion(t, climbed(height, a), height, a)
			for b := range n {
				wantUnion(t, gathered(height, a, b), height, a, b)
				wantUnion(t, gathered(height, a, b, (a+b)%n), height, b, a, (a+b)%n, b)
			}
		}
	}
}

// P0.4

func TestLeavesHandedInAreNotChangedNorReadBehindTheirLength(t *testing.T) {
	memory := []int{3, 0, 3, 2, 99}
	wantUnion(t, []int{0, 1, 2, 3, 6}, 2, memory[:3]...)
	if want := []int{3, 0, 3, 2, 99}; !slices.Equal(memory, want) {
		t.Errorf("changed: %v", memory)
	}
}

func TestListsHandedOutAreNewMemory(t *testing.T) {
	p, q := tree.Path(2, 1), tree.Path(2, 1)
	scribble(p)
	if !slices.Equal(q, []int{0, 1, 4}) {
		t.Errorf("one path shows in another: %v", q)
	}
	wantPath(t, 2, 1, 0, 1, 4)
	leaves := []int{0, 1}
	u, v := tree.Union(2, leaves...), tree.Union(2, leaves...)
	scribble(u)
	if !slices.Equal(v, []int{0, 1, 3, 4}) || !slices.Equal(leaves, []int{0, 1}) {
		t.Errorf("one union shows in another, or in its leaves: %v, %v", v, leaves)
	}
	wantUnion(t, []int{0, 1, 3, 4}, 2, leaves...)
}

// scribble writes over a list, its spare room too.
func scribble(list []int) {
	whole := list[:cap(list)]
	for i := range whole {
		whole[i] = 99
	}
	_ = append(list, 98, 97, 96)
}
