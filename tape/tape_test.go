package tape_test

import (
	"bytes"
	"math"
	"slices"
	"testing"

	"oubliette/api"
	"oubliette/tape"
)

const maxDraw = 1 << 20

// counter is what Leaves and Pads have of the Reel by promotion.
type counter interface {
	Drawn() int
	Left() int
}

func wantCounts(t *testing.T, what string, c counter, drawn, left int) {
	t.Helper()
	if c.Drawn() != drawn || c.Left() != left {
		t.Errorf("%s: drawn %d, left %d; want %d, %d", what, c.Drawn(), c.Left(), drawn, left)
	}
}

func wantLeaf(t *testing.T, l *tape.Leaves, height, leaf, tag int) {
	t.Helper()
	gotLeaf, gotTag := l.Draw(height)
	if gotLeaf != leaf || gotTag != tag {
		t.Errorf("Draw(%d): %d, %d; want %d, %d", height, gotLeaf, gotTag, leaf, tag)
	}
}

func wantBytes(t *testing.T, p *tape.Pads, n int, want ...byte) {
	t.Helper()
	if got := p.Draw(n); !bytes.Equal(got, want) {
		t.Errorf("Draw(%d): %v; want %v", n, got, want)
	}
}

// P1.1

func TestNewTapesHaveNothingDrawn(t *testing.T) {
	wantCounts(t, "no leaves", tape.NewLeaves(), 0, 0)
	wantCounts(t, "nil leaves", tape.NewLeaves([]int(nil)...), 0, 0)
	wantCounts(t, "three leaves", tape.NewLeaves(4, -1, 0), 0, 3)
	wantCounts(t, "no pads", tape.NewPads(), 0, 0)
	wantCounts(t, "nil pads", tape.NewPads([]byte(nil)...), 0, 0)
	wantCounts(t, "three pads", tape.NewPads(4, 255, 0), 0, 3)
}

func TestLeavesAreCounted(t *testing.T) {
	l := tape.NewLeaves(4, -1)
	for drawn, left := range []int{2, 1, 0, 0, 0} {
		wantCounts(t, "leaves", l, drawn, left)
		l.Draw(3)
	}
}

func TestPadsAreCounted(t *testing.T) {
	p := tape.NewPads(1, 2, 3, 4)
	p.Draw(1)
	wantCounts(t, "one", p, 1, 3)
	p.Draw(2)
	wantCounts(t, "two more", p, 3, 1)
	p.Draw(2)
	wantCounts(t, "across the end", p, 5, 0)
	p.Draw(3)
	wantCounts(t, "behind the end", p, 8, 0)
	p.Draw(maxDraw)
	wantCounts(t, "far behind the end", p, 8+maxDraw, 0)
}

func TestPadsDrawnToTheVeryEnd(t *testing.T) {
	p := tape.NewPads(1, 2)
	wantBytes(t, p, 2, 1, 2)
	wantCounts(t, "at the end", p, 2, 0)
	wantBytes(t, p, 1, 0)
	wantCounts(t, "behind the end", p, 3, 0)
}

func TestTapesAreCountedApart(t *testing.T) {
	numbers := []int{1, 2, 3}
	a, b := tape.NewLeaves(numbers...), tape.NewLeaves(numbers...)
	a.Draw(2)
	a.Draw(2)
	wantCounts(t, "drawn from", a, 2, 1)
	wantCounts(t, "the other", b, 0, 3)
	wantLeaf(t, b, 2, 1, 0)
}

func TestReelIsHadByPromotion(t *testing.T) {
	l, p := tape.NewLeaves(1, 2), tape.NewPads(1, 2, 3)
	l.Draw(0)
	p.Draw(2)
	wantCounts(t, "the Reel of leaves", &l.Reel, 1, 1)
	wantCounts(t, "the Reel of pads", &p.Reel, 2, 1)
}

// P1.2: Leaves.Draw

func TestExample(t *testing.T) {
	l := tape.NewLeaves(5, 2)
	wantLeaf(t, l, 1, 1, 0)
	wantLeaf(t, l, 2, 2, 1)
	wantLeaf(t, l, 2, 0, 2)
}

func TestLeavesAreModuloEachHeight(t *testing.T) {
	numbers := []int{0, 1, 2, 31, 32, 63, 64, 100, math.MaxInt}
	for height := range api.MaxHeight + 1 {
		l := tape.NewLeaves(numbers...)
		for tag, n := range numbers {
			wantLeaf(t, l, height, n&(1<<height-1), tag)
		}
	}
}

func TestNumbersBelowZeroAreLeafZero(t *testing.T) {
	l := tape.NewLeaves(-1, -3, -64, math.MinInt, math.MinInt+1, 7)
	for tag := range 5 {
		wantLeaf(t, l, api.MaxHeight, 0, tag)
	}
	wantLeaf(t, l, api.MaxHeight, 7, 5)
}

func TestLeavesBehindTheEndAreZeroAndTagged(t *testing.T) {
	l := tape.NewLeaves(63)
	wantLeaf(t, l, 6, 63, 0)
	for tag := 1; tag < 100; tag++ {
		wantLeaf(t, l, tag%(api.MaxHeight+1), 0, tag)
	}
	wantLeaf(t, tape.NewLeaves(), 6, 0, 0)
}

func TestHeightsThatMayNotBeDrawNothing(t *testing.T) {
	l := tape.NewLeaves(5, 6)
	wrong := []int{-1, -2, math.MinInt, api.MaxHeight + 1, 62, 63, 64, 65, math.MaxInt}
	for _, height := range wrong {
		wantLeaf(t, l, height, 0, -1)
		wantCounts(t, "ahead of the first", l, 0, 2)
	}
	wantLeaf(t, l, 3, 5, 0)
	wantLeaf(t, l, -1, 0, -1)
	wantLeaf(t, l, 3, 6, 1)
	wantLeaf(t, l, api.MaxHeight+1, 0, -1)
	wantCounts(t, "at the end", l, 2, 0)
	wantLeaf(t, l, 3, 0, 2)
}

// P1.2: Pads.Draw

func TestPadsAreDrawnInOrder(t *testing.T) {
	p := tape.NewPads(1, 255, 0, 4, 5, 6)
	wantBytes(t, p, 1, 1)
	wantBytes(t, p, 3, 255, 0, 4)
	wantBytes(t, p, 4, 5, 6, 0, 0)
	wantBytes(t, p, 2, 0, 0)
	wantBytes(t, tape.NewPads(), 2, 0, 0)
}

func TestCountsThatMayNotBeDrawNothing(t *testing.T) {
	p := tape.NewPads(1, 2)
	wrong := []int{0, -1, math.MinInt, maxDraw + 1, math.MaxInt}
	for _, n := range wrong {
		wantBytes(t, p, n)
		wantCounts(t, "nothing drawn", p, 0, 2)
	}
	wantBytes(t, p, 3, 1, 2, 0)
	for _, n := range wrong {
		wantBytes(t, p, n)
		wantCounts(t, "behind the end", p, 3, 0)
	}
}

func TestTheMostBytesOfOneDraw(t *testing.T) {
	pads := make([]byte, maxDraw+1)
	for i := range pads {
		pads[i] = byte(i%251 + 1)
	}
	p := tape.NewPads(pads...)
	if got := p.Draw(maxDraw); !bytes.Equal(got, pads[:maxDraw]) {
		t.Errorf("%d bytes, not those of the tape", len(got))
	}
	wantCounts(t, "all but one", p, maxDraw, 1)
	got := p.Draw(maxDraw)
	if len(got) != maxDraw || got[0] != pads[maxDraw] || bytes.Count(got, []byte{0}) != maxDraw-1 {
		t.Errorf("%d bytes, not the last one and zeros", len(got))
	}
	wantCounts(t, "behind the end", p, 2*maxDraw, 0)
}

// P1.4

func TestDrawnAtOnceOrOneByOne(t *testing.T) {
	pads := []byte{9, 8, 7, 6, 5, 4, 3}
	for n := 1; n <= len(pads)+3; n++ {
		once := tape.NewPads(pads...).Draw(n)
		single := tape.NewPads(pads...)
		var joined []byte
		for range n {
			joined = append(joined, single.Draw(1)...)
		}
		if !bytes.Equal(once, joined) {
			t.Errorf("%d: at once %v, one by one %v", n, once, joined)
		}
	}
}

// P1.3

func TestLeavesHandedInAreNeitherChangedNorKept(t *testing.T) {
	memory := []int{5, -7, 3, 40, 41}
	want := slices.Clone(memory)
	l := tape.NewLeaves(memory[:3]...)
	wantLeaf(t, l, 6, 5, 0)
	wantLeaf(t, l, 6, 0, 1)
	if !slices.Equal(memory, want) {
		t.Errorf("changed: %v", memory)
	}
	clear(memory)
	wantLeaf(t, l, 6, 3, 2)
	wantLeaf(t, l, 6, 0, 3)
}

func TestPadsHandedInAreNeitherChangedNorKept(t *testing.T) {
	memory := []byte{1, 2, 3, 40, 41}
	want := slices.Clone(memory)
	p := tape.NewPads(memory[:3]...)
	drawn := p.Draw(2)
	clear(drawn)
	if !bytes.Equal(memory, want) {
		t.Errorf("changed: %v", memory)
	}
	clear(memory)
	wantBytes(t, p, 3, 3, 0, 0)
}

func TestPadsHandedOutAreNewMemory(t *testing.T) {
	p := tape.NewPads(1, 2, 3, 4, 5, 6)
	a, b := p.Draw(2), p.Draw(2)
	scribble(a)
	if !bytes.Equal(b, []byte{3, 4}) {
		t.Errorf("one draw shows in the next: %v", b)
	}
	scribble(b)
	wantBytes(t, p, 3, 5, 6, 0)
	scribble(p.Draw(2))
	wantBytes(t, p, 2, 0, 0)
}

// scribble writes over a list, its spare room too.
func scribble(list []byte) {
	whole := list[:cap(list)]
	for i := range whole {
		whole[i] = 99
	}
	_ = append(list, 98, 97, 96)
}
