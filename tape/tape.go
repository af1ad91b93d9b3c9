// Package tape: what is drawn (chapter 1).
package tape

import (
	"slices"

	"oubliette/api"
)

// maxDraw bounds the bytes of one draw, so that no number asks for endless memory.
const maxDraw = 1 << 20

// Reel counts what is drawn of a tape, whatever the tape is made of.
type Reel struct {
	length int
	drawn  int
}

// Drawn tells how many were drawn in all, those behind the tape's end too.
func (r *Reel) Drawn() int { return r.drawn }

// Left tells how many of the tape's were not drawn.
func (r *Reel) Left() int { return max(r.length-r.drawn, 0) }

// advance draws n and answers how many were drawn ahead of them.
func (r *Reel) advance(n int) int {
	ahead := r.drawn
	r.drawn += n
	return ahead
}

// Leaves is a tape of numbers.
type Leaves struct {
	Reel
	numbers []int
}

// NewLeaves makes a tape of these numbers.
func NewLeaves(leaves ...int) *Leaves {
	return &Leaves{Reel: Reel{length: len(leaves)}, numbers: slices.Clone(leaves)}
}

// Draw answers the next leaf of a tree of this height, and its tag; 0 and -1 of a height that may not be.
func (l *Leaves) Draw(height int) (int, int) {
	if height < 0 || height > api.MaxHeight {
		return 0, -1
	}
	tag := l.advance(1)
	return l.number(tag) % (1 << height), tag
}

// number is 0 below 0 too: Go's remainder of such a number would be no leaf.
func (l *Leaves) number(place int) int {
	if place >= len(l.numbers) {
		return 0
	}
	return max(l.numbers[place], 0)
}

// Pads is a tape of bytes.
type Pads struct {
	Reel
	bytes []byte
}

// NewPads makes a tape of these bytes.
func NewPads(pads ...byte) *Pads {
	return &Pads{Reel: Reel{length: len(pads)}, bytes: slices.Clone(pads)}
}

// Draw answers the next n bytes; none of an n below 1 or above 2^20.
func (p *Pads) Draw(n int) []byte {
	if n < 1 || n > maxDraw {
		return nil
	}
	drawn := make([]byte, n)
	// The start may lie behind the end, where no slice begins; what is not copied stays 0.
	start := min(p.advance(n), len(p.bytes))
	copy(drawn, p.bytes[start:])
	return drawn
}
