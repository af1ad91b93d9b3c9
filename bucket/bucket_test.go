package bucket_test

import (
	"bytes"
	"math"
	"slices"
	"testing"

	"oubliette/api"
	"oubliette/bucket"
)

const place = 1 + api.RowLen

// Sizes of a bucket that may not be.
var wrongSizes = []int{0, -1, -4, api.MaxZ + 1, api.MaxZ + 2, 1 << 32, 1<<32 + 1, math.MinInt, math.MinInt + 1, math.MaxInt - 1, math.MaxInt}

// Ids that no block has; some of them are one that may be, but for their higher bytes.
var wrongIDs = []int{-1, -2, api.MaxBlocks, api.MaxBlocks + 1, 127, 128, 253, 254, 255, 256, 257, 1 << 32, -256, math.MinInt, math.MaxInt}

// Lengths that no Data has.
var wrongLengths = []int{0, 1, api.RowLen - 1, api.RowLen + 1, place + 1, 2 * api.RowLen, 2 * place}

// of makes a block whose bytes are not all alike, so that none can be lost or moved unseen.
func of(id, seed int) bucket.Block {
	data := make([]byte, api.RowLen)
	for i := range data {
		data[i] = byte(seed + 7*i)
	}
	return bucket.Block{ID: id, Data: data}
}

// flat makes a block of one byte again and again.
func flat(id int, b byte) bucket.Block {
	return bucket.Block{ID: id, Data: bytes.Repeat([]byte{b}, api.RowLen)}
}

func list(l ...bucket.Block) []bucket.Block { return l }

// equal holds blocks against each other without asking Same.
func equal(a, b []bucket.Block) bool {
	if len(a) != len(b) {
		return false
	}
	for i := range a {
		if a[i].ID != b[i].ID || string(a[i].Data) != string(b[i].Data) {
			return false
		}
	}
	return true
}

// text is the bucket's, byte by byte.
func text(z int, l ...bucket.Block) []byte {
	b := make([]byte, z*place)
	for i, block := range l {
		b[i*place] = byte(block.ID + 1)
		copy(b[i*place+1:], block.Data)
	}
	return b
}

// row is n blocks with different ids, not in their order.
func row(n int) []bucket.Block {
	l := make([]bucket.Block, n)
	for i := range l {
		l[i] = of((i*37+63)%api.MaxBlocks, 11*i)
	}
	return l
}

func wantMay(t *testing.T, want bool, l ...bucket.Block) {
	t.Helper()
	if got := bucket.May(l...); got != want {
		t.Errorf("May(%v): %t", l, got)
	}
}

func wantText(t *testing.T, want []byte, z int, l ...bucket.Block) {
	t.Helper()
	if b, e := bucket.Encode(z, l...); e != api.OK || !bytes.Equal(b, want) {
		t.Errorf("Encode(%d, %v): %v, %d; want %v", z, l, b, e, want)
	}
}

func wantNoText(t *testing.T, want api.Errno, z int, l ...bucket.Block) {
	t.Helper()
	if b, e := bucket.Encode(z, l...); e != want || len(b) != 0 {
		t.Errorf("Encode(%d, %v): %v, %d; want error %d", z, l, b, e, want)
	}
}

func wantBlocks(t *testing.T, z int, b []byte, want ...bucket.Block) {
	t.Helper()
	if l, e := bucket.Decode(z, b); e != api.OK || !equal(l, want) {
		t.Errorf("Decode(%d, %v): %v, %d; want %v", z, b, l, e, want)
	}
}

func wantNoBlocks(t *testing.T, want api.Errno, z int, b []byte) {
	t.Helper()
	if l, e := bucket.Decode(z, b); e != want || len(l) != 0 {
		t.Errorf("Decode(%d, %v): %v, %d; want error %d", z, b, l, e, want)
	}
}

func wantSame(t *testing.T, want bool, a, b []bucket.Block) {
	t.Helper()
	if bucket.Same(a, b) != want || bucket.Same(b, a) != want {
		t.Errorf("Same(%v, %v): %t, the other way %t; want %t", a, b, bucket.Same(a, b), bucket.Same(b, a), want)
	}
}

// P9.1: May

func TestMayOfEveryID(t *testing.T) {
	wantMay(t, true)
	wantMay(t, true, []bucket.Block{}...)
	for id := range api.MaxBlocks {
		wantMay(t, true, of(id, id))
	}
	wantMay(t, true, row(api.MaxBlocks)...)
	wantMay(t, true, flat(63, 0), flat(0, 255), flat(1, 0))
}

func TestMayNotOfWrongIDs(t *testing.T) {
	for _, id := range wrongIDs {
		wantMay(t, false, of(id, 1))
		wantMay(t, false, of(3, 1), of(id, 1), of(5, 1))
		wantMay(t, false, append(row(api.MaxBlocks), of(id, 1))...)
	}
}

func TestMayNotOfTwoAlike(t *testing.T) {
	for id := range api.MaxBlocks {
		wantMay(t, false, of(id, 1), of(id, 1))
		wantMay(t, false, of(id, 1), of((id+1)%api.MaxBlocks, 1), of(id, 2))
		// There are only so many ids: whichever comes once more is twice there.
		wantMay(t, false, append(row(api.MaxBlocks), of(id, 2))...)
	}
}

func TestMayNotOfWrongLengths(t *testing.T) {
	wantMay(t, false, bucket.Block{ID: 3})
	for _, n := range wrongLengths {
		wrong := bucket.Block{ID: 3, Data: make([]byte, n)}
		wantMay(t, false, wrong)
		wantMay(t, false, wrong, of(4, 1))
		wantMay(t, false, of(4, 1), of(5, 1), wrong)
	}
	// What counts is the length, not the room.
	wantMay(t, false, bucket.Block{ID: 3, Data: make([]byte, api.RowLen-1, api.RowLen)})
	wantMay(t, true, bucket.Block{ID: 3, Data: make([]byte, api.RowLen, api.RowLen+1)})
}

// P9.1: Length

func TestLength(t *testing.T) {
	for z, want := range []int{0, 38, 76, 114, 152, 0} {
		if got := bucket.Length(z); got != want {
			t.Errorf("Length(%d): %d; want %d", z, got, want)
		}
	}
	for _, z := range wrongSizes {
		if got := bucket.Length(z); got != 0 {
			t.Errorf("Length(%d): %d; want 0", z, got)
		}
	}
}

// P9.1: Encode

func TestExample(t *testing.T) {
	wantText(t, make([]byte, 38), 1)
}

func TestEncodeByHand(t *testing.T) {
	b, e := bucket.Encode(3, flat(5, 7), flat(0, 0))
	if e != api.OK || len(b) != 114 {
		t.Fatalf("%v, %d", b, e)
	}
	for i, got := range b {
		want := byte(0)
		switch {
		case i == 0:
			want = 6
		case i < 38:
			want = 7
		case i == 38:
			want = 1
		}
		if got != want {
			t.Errorf("byte %d: %d; want %d", i, got, want)
		}
	}
}

func TestEncodeOfEachSize(t *testing.T) {
	for z := 1; z <= api.MaxZ; z++ {
		for n := 0; n <= z; n++ {
			wantText(t, text(z, row(n)...), z, row(n)...)
		}
	}
	for id := range api.MaxBlocks {
		wantText(t, text(1, of(id, id)), 1, of(id, id))
	}
}

func TestEncodeKeepsTheOrder(t *testing.T) {
	a, b, c := of(9, 1), of(2, 2), of(40, 3)
	for _, l := range [][]bucket.Block{{a, b, c}, {c, b, a}, {b, a, c}, {c, a, b}} {
		wantText(t, text(3, l...), 3, l...)
		wantText(t, text(4, l...), 4, l...)
	}
}

func TestEncodeOfWrongSizes(t *testing.T) {
	for _, z := range wrongSizes {
		wantNoText(t, api.ErrRange, z)
		wantNoText(t, api.ErrRange, z, of(1, 1))
		wantNoText(t, api.ErrRange, z, row(api.MaxBlocks)...)
	}
}

func TestEncodeOfWhatMayNotBe(t *testing.T) {
	var wrong [][]bucket.Block
	for _, id := range wrongIDs {
		wrong = append(wrong, list(of(id, 1)), list(of(1, 1), of(id, 1)))
	}
	for _, n := range wrongLengths {
		short := bucket.Block{ID: 1, Data: make([]byte, n)}
		wrong = append(wrong, list(short), list(of(2, 1), short))
	}
	wrong = append(wrong, list(of(1, 1), of(1, 1)), list(of(1, 1), of(2, 1), of(1, 2)))
	for _, l := range wrong {
		// Where they are too many as well, ErrRange is named first.
		for z := 1; z <= api.MaxZ; z++ {
			wantNoText(t, api.ErrRange, z, l...)
		}
		wantNoText(t, api.ErrRange, 1, append(list(of(60, 1), of(61, 1), of(62, 1)), l...)...)
	}
}

func TestEncodeOfTooMany(t *testing.T) {
	for z := 1; z <= api.MaxZ; z++ {
		for n := z + 1; n <= api.MaxBlocks; n++ {
			wantNoText(t, api.ErrFull, z, row(n)...)
		}
		wantNoText(t, api.ErrFull, z, flat(0, 0), flat(1, 0), flat(2, 0), flat(3, 0), flat(4, 0))
	}
}

// P9.1: Decode

func TestDecodeByHand(t *testing.T) {
	b := make([]byte, 114)
	b[0], b[1], b[37], b[38] = 64, 8, 9, 1
	first := flat(63, 0)
	first.Data[0], first.Data[36] = 8, 9
	wantBlocks(t, 3, b, first, flat(0, 0))
	wantBlocks(t, 1, make([]byte, 38))
	wantBlocks(t, 4, make([]byte, 152))
}

func TestDecodeOfWrongSizes(t *testing.T) {
	for _, z := range wrongSizes {
		for _, b := range [][]byte{nil, {}, {0}, text(1), text(4, row(4)...), make([]byte, 5*place), {255}} {
			wantNoBlocks(t, api.ErrRange, z, b)
		}
	}
}

func TestDecodeOfWrongLengths(t *testing.T) {
	for z := 1; z <= api.MaxZ; z++ {
		for n := range 6 * place {
			b := make([]byte, n)
			if n == z*place {
				wantBlocks(t, z, b)
				continue
			}
			wantNoBlocks(t, api.ErrForm, z, b)
			copy(b, text(z, row(z)...))
			wantNoBlocks(t, api.ErrForm, z, b)
		}
		wantNoBlocks(t, api.ErrForm, z, nil)
	}
}

func TestDecodeOfWrongIDs(t *testing.T) {
	for number := range 256 {
		alone, second := text(1, of(0, 1)), text(3, of(9, 1), of(0, 2))
		alone[0], second[place] = byte(number), byte(number)
		if number >= 1 && number <= api.MaxBlocks {
			wantBlocks(t, 1, alone, of(number-1, 1))
			if number != 10 {
				wantBlocks(t, 3, second, of(9, 1), of(number-1, 2))
			}
			continue
		}
		wantNoBlocks(t, api.ErrForm, 1, alone)
		wantNoBlocks(t, api.ErrForm, 3, second)
	}
}

func TestDecodeOfTwoAlike(t *testing.T) {
	for _, id := range []int{0, 1, 31, 63} {
		other := (id + 1) % api.MaxBlocks
		wantNoBlocks(t, api.ErrForm, 2, text(2, of(id, 1), of(id, 1)))
		wantNoBlocks(t, api.ErrForm, 3, text(3, of(id, 1), of(id, 2)))
		wantNoBlocks(t, api.ErrForm, 4, text(4, of(id, 1), of(other, 1), of(other, 2), of(id, 2)))
		wantNoBlocks(t, api.ErrForm, 4, text(4, of(id, 1), of(other, 1), of(other+1, 2), of(id, 2)))
	}
}

func TestDecodeOfAnythingBehindTheLast(t *testing.T) {
	for z := 1; z <= api.MaxZ; z++ {
		for n := range z {
			for i := n * place; i < z*place; i++ {
				b := text(z, row(n)...)
				b[i] = 1
				// There a 1 is a block more, and not another form of the same ones.
				if i == n*place {
					wantBlocks(t, z, b, append(row(n), flat(0, 0))...)
					continue
				}
				wantNoBlocks(t, api.ErrForm, z, b)
			}
		}
	}
}

func TestDecodeOfAGap(t *testing.T) {
	gap := bucket.Block{ID: -1, Data: make([]byte, api.RowLen)}
	wantNoBlocks(t, api.ErrForm, 2, text(2, gap, of(5, 1)))
	wantNoBlocks(t, api.ErrForm, 3, text(3, of(5, 1), gap, of(6, 1)))
	wantNoBlocks(t, api.ErrForm, 3, text(3, of(5, 1), gap, flat(0, 0)))
	wantNoBlocks(t, api.ErrForm, 4, text(4, gap, gap, gap, of(6, 1)))
	// What lies behind a gap is asked even where it would not be May.
	wantNoBlocks(t, api.ErrForm, 3, text(3, of(5, 1), gap, of(99, 1)))
}

// P9.1: Same

func TestSame(t *testing.T) {
	wantSame(t, true, nil, nil)
	wantSame(t, true, nil, []bucket.Block{})
	for n := range api.MaxZ + 2 {
		wantSame(t, true, row(n), row(n))
		wantSame(t, false, row(n), row(n+1))
	}
	wantSame(t, false, nil, list(bucket.Block{}))
	wantSame(t, false, list(of(1, 1), of(2, 2)), list(of(2, 2), of(1, 1)))
	wantSame(t, false, list(of(1, 1), of(2, 2)), list(of(1, 2), of(2, 1)))
	for i := range api.RowLen {
		other := row(3)
		other[2].Data[i]++
		wantSame(t, false, row(3), other)
	}
	for i := range 3 {
		other := row(3)
		other[i].ID ^= 1
		wantSame(t, false, row(3), other)
	}
}

func TestSameOfBlocksThatMayNotBe(t *testing.T) {
	wantSame(t, true, list(bucket.Block{ID: 1}), list(bucket.Block{ID: 1, Data: []byte{}}))
	wantSame(t, true, list(of(math.MinInt, 1), of(7, 1), of(7, 1)), list(of(math.MinInt, 1), of(7, 1), of(7, 1)))
	wantSame(t, false, list(of(64, 1)), list(of(320, 1)))
	wantSame(t, false, list(of(-1, 1)), list(of(-2, 1)))
	long := flat(1, 0)
	long.Data = append(long.Data, 0)
	wantSame(t, false, list(flat(1, 0)), list(long))
	wantSame(t, false, list(bucket.Block{ID: 1}), list(flat(1, 0)))
}

// P9.2

// roomy is a copy of b that has junk behind its length.
func roomy(b []byte) []byte {
	whole := append(slices.Clone(b), bytes.Repeat([]byte{201}, 2*place)...)
	return whole[:len(b)]
}

func TestEncodeNeitherChangesNorKeeps(t *testing.T) {
	memory := row(4)
	for i := range memory {
		memory[i].Data = roomy(memory[i].Data)
	}
	b, _ := bucket.Encode(3, memory[:2]...)
	bucket.Encode(1, memory...)
	bucket.May(memory[:3]...)
	bucket.Same(memory[:2], memory[:3])
	if !equal(memory, row(4)) {
		t.Errorf("changed: %v", memory)
	}
	for _, block := range memory {
		behind := block.Data[api.RowLen : api.RowLen+2*place]
		if !bytes.Equal(behind, bytes.Repeat([]byte{201}, 2*place)) {
			t.Errorf("changed behind its length: %v", behind)
		}
		scribble(block.Data, 99)
	}
	if !bytes.Equal(b, text(3, row(2)...)) {
		t.Errorf("kept: %v", b)
	}
}

func TestDecodeNeitherChangesNorKeeps(t *testing.T) {
	b := roomy(text(3, row(2)...))
	memory := b[:len(b)+place]
	want := slices.Clone(memory)
	l, _ := bucket.Decode(3, b)
	bucket.Decode(2, b)
	bucket.Decode(4, b)
	if !bytes.Equal(memory, want) {
		t.Errorf("changed: %v", memory)
	}
	scribble(b, 99)
	if !equal(l, row(2)) {
		t.Errorf("kept: %v", l)
	}
}

func TestTextsHandedOutAreNewMemory(t *testing.T) {
	l := row(2)
	for _, z := range []int{2, 3} {
		first, _ := bucket.Encode(z, l...)
		second, _ := bucket.Encode(z, l...)
		scribble(second, 99)
		if !bytes.Equal(first, text(z, l...)) || !equal(l, row(2)) {
			t.Errorf("one text shows in another: %v, %v", first, l)
		}
	}
	empty, _ := bucket.Encode(1)
	scribble(empty, 99)
	wantText(t, make([]byte, place), 1)
}

func TestBlocksHandedOutAreNewMemory(t *testing.T) {
	b := text(4, row(4)...)
	for at := range 4 {
		l, _ := bucket.Decode(4, b)
		other, _ := bucket.Decode(4, b)
		scribble(l[at].Data, 99)
		scribble(other, bucket.Block{ID: 99})
		for i, block := range row(4) {
			if i != at && !equal(l[i:i+1], list(block)) {
				t.Errorf("block %d shows in block %d", at, i)
			}
		}
		if !bytes.Equal(b, text(4, row(4)...)) {
			t.Errorf("block %d shows in the text", at)
		}
		wantBlocks(t, 4, b, row(4)...)
	}
}

// P9.3

func TestDecodeOfEncode(t *testing.T) {
	for z := 1; z <= api.MaxZ; z++ {
		for step := range 300 {
			var l []bucket.Block
			for i := range step % (z + 1) {
				l = append(l, of((step*5+i*13)%api.MaxBlocks, step*3+i))
			}
			b, e := bucket.Encode(z, l...)
			if e != api.OK || len(b) != bucket.Length(z) {
				t.Fatalf("Encode(%d, %v): %d bytes, %d", z, l, len(b), e)
			}
			wantBlocks(t, z, b, l...)
		}
	}
}

// Whatever Decode takes, Encode writes again, byte by byte; the rest is ErrForm.
func TestEncodeOfDecode(t *testing.T) {
	taken := 0
	for z := 1; z <= api.MaxZ; z++ {
		for n := 0; n <= z; n++ {
			for i := range z * place {
				for _, junk := range []byte{0, 1, 2, 64, 65, 128, 255} {
					b := text(z, row(n)...)
					b[i] = junk
					l, e := bucket.Decode(z, b)
					if e == api.OK {
						taken++
						wantText(t, b, z, l...)
					} else if e != api.ErrForm || len(l) != 0 {
						t.Errorf("Decode(%d, %v): %v, %d", z, b, l, e)
					}
				}
			}
		}
	}
	if taken == 0 {
		t.Error("none was taken")
	}
}

// scribble writes over a list, its spare room too.
func scribble[T any](list []T, junk T) {
	whole := list[:cap(list)]
	for i := range whole {
		whole[i] = junk
	}
	_ = append(list, junk, junk, junk)
}
