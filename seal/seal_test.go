package seal_test

import (
	"bytes"
	"fmt"
	"math"
	"slices"
	"testing"

	"oubliette/api"
	"oubliette/nonce"
	"oubliette/seal"
	"oubliette/tape"
)

const maxLength = 4000

var wrongLengths = []int{0, -1, -4000, math.MinInt, maxLength + 1, 1 << 20, math.MaxInt}

// Nonces that no cell is sealed with: those of generation 0, and those that may not be.
var unsealable = []nonce.Nonce{
	{}, {Count: 1}, {Count: nonce.Most}, {Gen: -1}, {Gen: -1, Count: -1}, {Gen: 1, Count: -1}, {Gen: math.MinInt}, {Gen: 1, Count: math.MinInt},
	{Gen: nonce.Most + 1}, {Gen: 1, Count: nonce.Most + 1}, {Gen: math.MaxInt, Count: math.MaxInt}, {Count: -1}, {Count: nonce.Most + 1},
}

// Nonces at the ends of what may be sealed.
var sealable = []nonce.Nonce{
	{Gen: 1}, {Gen: 1, Count: 1}, {Gen: 2}, {Gen: 1, Count: nonce.Most}, {Gen: nonce.Most}, {Gen: nonce.Most, Count: nonce.Most},
}

func made(t *testing.T, length int, pads ...byte) *seal.Oracle {
	t.Helper()
	o, e := seal.New(tape.NewPads(pads...), length)
	if o == nil || e != api.OK {
		t.Fatalf("New of length %d: error %d", length, e)
	}
	return o
}

// counted has the numbers from 1 on, so that no byte of it is 0.
func counted(n int) []byte {
	b := make([]byte, n)
	for i := range b {
		b[i] = byte(i%255 + 1)
	}
	return b
}

// brief keeps what a failing test tells of long texts readable.
func brief(b []byte) string {
	if len(b) > 20 {
		return fmt.Sprintf("%v and %d more", b[:20], len(b)-20)
	}
	return fmt.Sprint(b)
}

func wantDrawn(t *testing.T, o *seal.Oracle, want int) {
	t.Helper()
	if o.Drawn() != want {
		t.Errorf("drawn %d; want %d", o.Drawn(), want)
	}
}

func wantPad(t *testing.T, o *seal.Oracle, n nonce.Nonce, want ...byte) {
	t.Helper()
	if got := o.Pad(n); !bytes.Equal(got, want) || !o.Known(n) {
		t.Errorf("Pad(%v): %s, known %t; want %s", n, brief(got), o.Known(n), brief(want))
	}
}

func wantSealed(t *testing.T, o *seal.Oracle, n nonce.Nonce, text, body []byte) []byte {
	t.Helper()
	cell, e := o.Seal(n, text)
	if !bytes.Equal(cell, append(n.Bytes(), body...)) || e != api.OK || !o.Known(n) {
		t.Errorf("Seal(%v, %s): %s, %d; want %s behind the nonce", n, brief(text), brief(cell), e, brief(body))
	}
	return cell
}

// wantNotSealed asks that the error leaves all as it was.
func wantNotSealed(t *testing.T, o *seal.Oracle, n nonce.Nonce, text []byte, want api.Errno) {
	t.Helper()
	drawn, plain, known := o.Drawn(), o.Plain(), o.Known(n)
	if cell, e := o.Seal(n, text); len(cell) != 0 || e != want {
		t.Errorf("Seal(%v, %d bytes): %s, %d; want error %d", n, len(text), brief(cell), e, want)
	}
	if o.Drawn() != drawn || !bytes.Equal(o.Plain(), plain) || o.Known(n) != known {
		t.Errorf("Seal(%v, %d bytes) erred, and changed something", n, len(text))
	}
}

// wantOpened asks that opening draws nothing, and seals nothing.
func wantOpened(t *testing.T, o *seal.Oracle, cell, want []byte, wantErr api.Errno) {
	t.Helper()
	drawn, plain := o.Drawn(), o.Plain()
	if text, e := o.Open(cell); !bytes.Equal(text, want) || e != wantErr {
		t.Errorf("Open(%s): %s, %d; want %s, %d", brief(cell), brief(text), e, brief(want), wantErr)
	}
	if o.Drawn() != drawn || !bytes.Equal(o.Plain(), plain) {
		t.Errorf("Open(%s) changed something", brief(cell))
	}
}

// P6.1

func TestNewWithinBounds(t *testing.T) {
	for _, length := range []int{1, 2, 37, maxLength - 1, maxLength} {
		o := made(t, length, 5, 6, 7)
		if o.Length() != length || o.Drawn() != 0 || o.Left() != 3 || len(o.Plain()) != 0 {
			t.Errorf("length %d: %d, drawn %d, left %d, plain %v", length, o.Length(), o.Drawn(), o.Left(), o.Plain())
		}
		for _, n := range slices.Concat(sealable, unsealable) {
			if o.Known(n) {
				t.Errorf("%v is known of a new oracle", n)
			}
		}
		wantDrawn(t, o, 0)
	}
}

func TestNewOutOfBounds(t *testing.T) {
	for _, length := range wrongLengths {
		p := tape.NewPads(1, 2)
		if o, e := seal.New(p, length); o != nil || e != api.ErrRange || p.Drawn() != 0 {
			t.Errorf("New of length %d: %v, %d", length, o, e)
		}
	}
}

func TestPadsAreDrawnOnceEach(t *testing.T) {
	o := made(t, 2, 1, 2, 3, 4, 5)
	a, b, c, d := nonce.Nonce{Gen: 1}, nonce.Nonce{Gen: 1, Count: 1}, nonce.Nonce{Gen: 2}, nonce.Nonce{Gen: 9}
	wantPad(t, o, b, 1, 2)
	wantDrawn(t, o, 2)
	if o.Known(a) || o.Known(c) {
		t.Error("the pad of one nonce makes another known")
	}
	wantPad(t, o, a, 3, 4)
	wantPad(t, o, b, 1, 2)
	wantDrawn(t, o, 4)
	wantPad(t, o, c, 5, 0)
	wantPad(t, o, d, 0, 0)
	wantDrawn(t, o, 8)
	for range 3 {
		wantPad(t, o, d, 0, 0)
		wantPad(t, o, a, 3, 4)
		wantPad(t, o, c, 5, 0)
	}
	wantDrawn(t, o, 8)
	if len(o.Plain()) != 0 {
		t.Errorf("a pad was sealed: %v", o.Plain())
	}
}

func TestEveryNonceHasAPad(t *testing.T) {
	all := slices.Concat(sealable, unsealable)
	o := made(t, 1, counted(len(all))...)
	for range 2 {
		for i, n := range all {
			wantPad(t, o, n, byte(i+1))
		}
	}
	wantDrawn(t, o, len(all))
}

func TestKnownDrawsNothing(t *testing.T) {
	o := made(t, 1, 7)
	n := nonce.Nonce{Gen: 3}
	for range 3 {
		if o.Known(n) {
			t.Error("known by being asked for")
		}
	}
	wantDrawn(t, o, 0)
	wantPad(t, o, n, 7)
}

func TestTheLongestPad(t *testing.T) {
	tapeOf := counted(maxLength + 1)
	o := made(t, maxLength, tapeOf...)
	wantPad(t, o, nonce.Nonce{Gen: 1}, tapeOf[:maxLength]...)
	want := make([]byte, maxLength)
	want[0] = tapeOf[maxLength]
	wantPad(t, o, nonce.Nonce{Gen: 2}, want...)
}

func TestTheTapeIsKeptAndHadByPromotion(t *testing.T) {
	p := tape.NewPads(1, 2, 3, 4, 5, 6, 7)
	o, _ := seal.New(p, 2)
	wantPad(t, o, nonce.Nonce{Gen: 1}, 1, 2)
	if p.Drawn() != 2 || p.Left() != 5 || o.Left() != 5 || o.Pads != p {
		t.Errorf("the tape: drawn %d, left %d", p.Drawn(), p.Left())
	}
	if got := p.Draw(1); !bytes.Equal(got, []byte{3}) {
		t.Errorf("the tape's next: %v", got)
	}
	if got := o.Draw(2); !bytes.Equal(got, []byte{4, 5}) {
		t.Errorf("the oracle's next: %v", got)
	}
	wantPad(t, o, nonce.Nonce{Gen: 2}, 6, 7)
	if p.Drawn() != 7 || o.Drawn() != 7 {
		t.Errorf("drawn %d and %d", p.Drawn(), o.Drawn())
	}
}

func TestOraclesOfOneTapeHavePadsApart(t *testing.T) {
	p := tape.NewPads(1, 2, 3)
	a, _ := seal.New(p, 1)
	b, _ := seal.New(p, 2)
	n := nonce.Nonce{Gen: 1}
	wantPad(t, a, n, 1)
	if b.Known(n) {
		t.Error("known of the other oracle")
	}
	wantPad(t, b, n, 2, 3)
	wantPad(t, a, n, 1)
}

// P6.2: Seal

func TestExample(t *testing.T) {
	o := made(t, 3)
	wantSealed(t, o, nonce.Nonce{Gen: 1, Count: 2}, []byte{7, 8, 9}, []byte{7, 8, 9})
}

func TestSealXorsThePad(t *testing.T) {
	o := made(t, 3, 1, 2, 3, 255, 255, 255, 7)
	wantSealed(t, o, nonce.Nonce{Gen: 1}, []byte{8, 8, 8}, []byte{9, 10, 11})
	wantDrawn(t, o, 3)
	wantPad(t, o, nonce.Nonce{Gen: 1}, 1, 2, 3)
	wantSealed(t, o, nonce.Nonce{Gen: 1, Count: 1}, []byte{0, 255, 15}, []byte{255, 0, 240})
	wantSealed(t, o, nonce.Nonce{Gen: 2}, []byte{7, 1, 2}, []byte{0, 1, 2})
	wantDrawn(t, o, 9)
}

func TestSealAtTheEnds(t *testing.T) {
	for _, length := range []int{1, maxLength} {
		pads := counted(length * len(sealable))
		o := made(t, length, pads...)
		for i, n := range sealable {
			text := bytes.Repeat([]byte{byte(i)}, length)
			wantSealed(t, o, n, text, seal.Xor(text, pads[i*length:]))
		}
		wantDrawn(t, o, len(pads))
	}
}

func TestSealOfNoncesThatMayNotBe(t *testing.T) {
	o := made(t, 2, 1, 2, 3, 4)
	for range 2 {
		for _, n := range unsealable {
			for _, text := range [][]byte{{5, 6}, nil, {5}, {5, 6, 7}} {
				wantNotSealed(t, o, n, text, api.ErrRange)
			}
		}
		// Their pads make them known: the range is named first all the same.
		for _, n := range unsealable {
			o.Pad(n)
		}
	}
}

func TestSealOfOtherLengths(t *testing.T) {
	o := made(t, 2, 1, 2, 3, 4)
	known := nonce.Nonce{Gen: 8}
	o.Pad(known)
	for _, n := range append(sealable, known) {
		for _, length := range []int{0, 1, 3, 14, maxLength} {
			wantNotSealed(t, o, n, make([]byte, length), api.ErrForm)
		}
		wantNotSealed(t, o, n, nil, api.ErrForm)
	}
}

func TestSealOfKnownNonces(t *testing.T) {
	o := made(t, 2, 1, 2, 3, 4)
	wantSealed(t, o, sealable[0], []byte{5, 6}, []byte{4, 4})
	o.Pad(sealable[1])
	for _, n := range sealable[:2] {
		wantNotSealed(t, o, n, []byte{5, 6}, api.ErrState)
		wantNotSealed(t, o, n, []byte{0, 0}, api.ErrState)
	}
	wantPad(t, o, sealable[0], 1, 2)
	wantPad(t, o, sealable[1], 3, 4)
	wantSealed(t, o, sealable[2], []byte{5, 6}, []byte{5, 6})
}

// P6.2: Open

func TestOpenWhatWasSealed(t *testing.T) {
	o := made(t, 3, counted(30)...)
	var cells [][]byte
	for i, n := range sealable {
		cell, _ := o.Seal(n, []byte{byte(i), 0, 255})
		cells = append(cells, cell)
	}
	for range 2 {
		for i, cell := range cells {
			wantOpened(t, o, cell, []byte{byte(i), 0, 255}, api.OK)
		}
	}
}

func TestOpenOfOtherLengths(t *testing.T) {
	o := made(t, 3, 1, 2, 3)
	cell := wantSealed(t, o, nonce.Nonce{Gen: 1}, []byte{4, 5, 6}, []byte{5, 7, 5})
	for length := range len(cell) {
		wantOpened(t, o, cell[:length], nil, api.ErrForm)
		wantOpened(t, o, make([]byte, length), nil, api.ErrForm)
	}
	wantOpened(t, o, nil, nil, api.ErrForm)
	wantOpened(t, o, append(slices.Clone(cell), 0), nil, api.ErrForm)
	wantOpened(t, o, make([]byte, 16), nil, api.ErrForm)
	wantOpened(t, o, make([]byte, maxLength+nonce.Len), nil, api.ErrForm)
}

func TestOpenOfNoncesThatMayNotBe(t *testing.T) {
	o := made(t, 2, 1, 2)
	wantOpened(t, o, bytes.Repeat([]byte{255}, 14), nil, api.ErrForm)
	// One more than Most in the generation, then in the count, beside one that may be.
	wantOpened(t, o, []byte{1, 0, 0, 0, 0, 1, 0, 0, 0, 0, 0, 0, 8, 8}, nil, api.ErrForm)
	wantOpened(t, o, []byte{0, 0, 0, 0, 0, 1, 1, 0, 0, 0, 0, 1, 8, 8}, nil, api.ErrForm)
	wantOpened(t, o, []byte{0, 0, 0, 0, 0, 0, 1, 0, 0, 0, 0, 1, 8, 8}, nil, api.ErrForm)
	// All ones in either number would be -1 in a slab.
	o.Pad(nonce.Nonce{Gen: -1})
	o.Pad(nonce.Nonce{Gen: 1, Count: -1})
	wantOpened(t, o, []byte{255, 255, 255, 255, 255, 255, 0, 0, 0, 0, 0, 0, 8, 8}, nil, api.ErrForm)
	wantOpened(t, o, []byte{0, 0, 0, 0, 0, 1, 255, 255, 255, 255, 255, 255, 8, 8}, nil, api.ErrForm)
}

func TestOpenOfGenerationZeroIsZeros(t *testing.T) {
	for _, length := range []int{1, 2, maxLength} {
		o := made(t, length, 5, 6, 7)
		for range 2 {
			for _, count := range []int{0, 1, 7, nonce.Most} {
				n := nonce.Nonce{Count: count}
				wantOpened(t, o, append(n.Bytes(), counted(length)...), make([]byte, length), api.OK)
				wantOpened(t, o, append(n.Bytes(), make([]byte, length)...), make([]byte, length), api.OK)
			}
			// A pad of generation 0 counts for nothing.
			o.Pad(nonce.Nonce{})
			o.Pad(nonce.Nonce{Count: 7})
		}
	}
}

func TestOpenOfNoncesThatAreNotKnown(t *testing.T) {
	o := made(t, 2, 1, 2, 3, 4)
	wantSealed(t, o, nonce.Nonce{Gen: 1, Count: 3}, []byte{0, 0}, []byte{1, 2})
	for _, n := range sealable {
		for range 2 {
			wantOpened(t, o, append(n.Bytes(), 1, 2), nil, api.ErrNone)
			if o.Known(n) {
				t.Errorf("%v is known by being opened", n)
			}
		}
	}
}

func TestOpenUnderAPadThatSealedNothing(t *testing.T) {
	o := made(t, 3, 4, 5, 6)
	n := nonce.Nonce{Gen: 2, Count: 9}
	o.Pad(n)
	wantOpened(t, o, append(n.Bytes(), 4, 5, 6), []byte{0, 0, 0}, api.OK)
	wantOpened(t, o, append(n.Bytes(), 5, 5, 6), []byte{1, 0, 0}, api.OK)
}

// P6.2: Plain

func TestPlainHasWhatWasSealedInItsOrder(t *testing.T) {
	o := made(t, 2, 9, 9, 9, 9, 9, 9)
	o.Seal(nonce.Nonce{Gen: 3}, []byte{1, 2})
	o.Seal(nonce.Nonce{Gen: 3}, []byte{3, 4})
	o.Seal(nonce.Nonce{}, []byte{5, 6})
	o.Seal(nonce.Nonce{Gen: 4}, []byte{7})
	o.Pad(nonce.Nonce{Gen: 5})
	o.Open(append(nonce.Nonce{Gen: 5}.Bytes(), 1, 1))
	o.Seal(nonce.Nonce{Gen: 1}, []byte{0, 0})
	o.Seal(nonce.Nonce{Gen: 2}, []byte{1, 2})
	if got := o.Plain(); !bytes.Equal(got, []byte{1, 2, 0, 0, 1, 2}) {
		t.Errorf("%v", got)
	}
}

// P6.3

func TestXor(t *testing.T) {
	for _, c := range []struct {
		a      []byte
		others [][]byte
		want   []byte
	}{
		{nil, nil, nil},
		{nil, [][]byte{{1, 2}}, nil},
		{[]byte{1, 2, 3}, nil, []byte{1, 2, 3}},
		{[]byte{1, 2, 3}, [][]byte{nil, {}}, []byte{1, 2, 3}},
		{[]byte{1, 2, 3}, [][]byte{{1}}, []byte{0, 2, 3}},
		{[]byte{1, 2, 3}, [][]byte{{255, 255, 255, 255, 255}}, []byte{254, 253, 252}},
		{[]byte{1, 2, 3}, [][]byte{{1, 2, 3, 4}, {7, 7}}, []byte{7, 7, 0}},
		{[]byte{1, 2, 3}, [][]byte{{4, 4, 4}, {4, 4, 4}}, []byte{1, 2, 3}},
		{[]byte{170}, [][]byte{{85}, {1}, {2}, {4}}, []byte{248}},
	} {
		if got := seal.Xor(c.a, c.others...); !bytes.Equal(got, c.want) {
			t.Errorf("Xor(%v, %v): %v; want %v", c.a, c.others, got, c.want)
		}
	}
}

func TestXorOfLongTexts(t *testing.T) {
	long := counted(1 << 20)
	got := seal.Xor(long, long, long, long[1:])
	for i, b := range got {
		want := long[i]
		if i+1 < len(long) {
			want ^= long[i+1]
		}
		if b != want {
			t.Fatalf("byte %d: %d; want %d", i, b, want)
		}
	}
	if len(got) != len(long) {
		t.Errorf("%d bytes", len(got))
	}
}

// P6.4

// scribble writes over a list, its spare room too.
func scribble(list []byte) {
	whole := list[:cap(list)]
	for i := range whole {
		whole[i] = 99
	}
	_ = append(list, 98, 97, 96)
}

func wantMemory(t *testing.T, memory []byte, want ...byte) {
	t.Helper()
	if !bytes.Equal(memory, want) {
		t.Errorf("changed: %v; want %v", memory, want)
	}
}

func TestWhatIsSealedIsNeitherChangedNorKept(t *testing.T) {
	o := made(t, 2, 1, 2, 3, 4)
	memory := []byte{5, 6, 40, 41}
	cell, _ := o.Seal(nonce.Nonce{Gen: 1}, memory[:2])
	wantMemory(t, memory, 5, 6, 40, 41)
	clear(memory)
	if !bytes.Equal(o.Plain(), []byte{5, 6}) {
		t.Errorf("kept: %v", o.Plain())
	}
	wantOpened(t, o, cell, []byte{5, 6}, api.OK)
	o.Seal(nonce.Nonce{Gen: 2}, []byte{7, 8})
	wantMemory(t, memory, 0, 0, 0, 0)
}

func TestWhatIsOpenedIsNeitherChangedNorKept(t *testing.T) {
	o := made(t, 2, 1, 2, 3, 4)
	n := nonce.Nonce{Gen: 1}
	o.Pad(n)
	memory := append(n.Bytes(), 5, 6, 40, 41)
	want := slices.Clone(memory)
	text, _ := o.Open(memory[:14])
	other, _ := o.Open(memory[:14])
	scribble(text)
	wantMemory(t, memory, want...)
	clear(memory)
	if !bytes.Equal(other, []byte{4, 4}) {
		t.Errorf("kept, or shared: %v", other)
	}
	wantPad(t, o, n, 1, 2)
}

func TestZerosAreNewMemory(t *testing.T) {
	o := made(t, 3, 1, 2, 3)
	first, _ := o.Open(make([]byte, 15))
	second, _ := o.Open(make([]byte, 15))
	scribble(first)
	wantMemory(t, second, 0, 0, 0)
	wantOpened(t, o, make([]byte, 15), []byte{0, 0, 0}, api.OK)
}

func TestWhatSealAnswersIsNewMemory(t *testing.T) {
	o := made(t, 2, 1, 2, 3, 4)
	n := nonce.Nonce{Gen: 1}
	cell, _ := o.Seal(n, []byte{5, 6})
	kept := slices.Clone(cell)
	scribble(cell)
	wantPad(t, o, n, 1, 2)
	wantOpened(t, o, kept, []byte{5, 6}, api.OK)
	wantMemory(t, o.Plain(), 5, 6)
}

func TestPadsAndPlainAreNewMemory(t *testing.T) {
	o := made(t, 2, 1, 2, 3, 4)
	a, b := nonce.Nonce{Gen: 1}, nonce.Nonce{Gen: 2}
	scribble(o.Pad(a))
	wantPad(t, o, a, 1, 2)
	wantPad(t, o, b, 3, 4)
	first, second := o.Pad(a), o.Pad(a)
	scribble(first)
	wantMemory(t, second, 1, 2)
	o.Seal(nonce.Nonce{Gen: 3}, []byte{5, 6})
	plain, again := o.Plain(), o.Plain()
	scribble(plain)
	wantMemory(t, again, 5, 6)
	o.Seal(nonce.Nonce{Gen: 4}, []byte{7, 8})
	wantMemory(t, again, 5, 6)
	_ = append(again, 50, 51)
	wantMemory(t, o.Plain(), 5, 6, 7, 8)
}

func TestXorIsNewMemory(t *testing.T) {
	a, other := []byte{1, 2, 40, 41}, []byte{3, 4, 42, 43}
	others := [][]byte{other[:2], nil}
	got := seal.Xor(a[:2], others...)
	wantMemory(t, got, 2, 6)
	scribble(got)
	scribble(seal.Xor(a[:2]))
	wantMemory(t, a, 1, 2, 40, 41)
	wantMemory(t, other, 3, 4, 42, 43)
	if len(others) != 2 || !bytes.Equal(others[0], []byte{3, 4}) || others[1] != nil {
		t.Errorf("changed: %v", others)
	}
	none := seal.Xor(a[:0], other)
	_ = append(none, 77)
	wantMemory(t, a, 1, 2, 40, 41)
}

// P6.5

func TestAnotherTextHasAnotherPadForTheSameCell(t *testing.T) {
	n, text, other := nonce.Nonce{Gen: 6, Count: 1}, []byte{1, 2, 3, 4}, []byte{200, 0, 3, 255}
	pad := []byte{9, 8, 7, 6}
	cell, _ := made(t, 4, pad...).Seal(n, text)
	o := made(t, 4, seal.Xor(pad, text, other)...)
	same := wantSealed(t, o, n, other, cell[nonce.Len:])
	wantOpened(t, o, same, other, api.OK)
}
