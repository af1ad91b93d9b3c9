package vers_test

import (
	"bytes"
	"math"
	"slices"
	"testing"

	"oubliette/api"
	"oubliette/vers"
)

// most is how many buckets the greatest tree has, as a plain number.
const most = 127

// Numbers of bits that may not be; some of them might, but for their higher bytes.
var wrongLengths = []int{0, -1, -2, -8, -127, 128, 129, 135, 136, 255, 256, 257, 1 << 16, 1 << 32, 1<<32 + 11, math.MinInt, math.MinInt + 11, math.MaxInt - 6, math.MaxInt}

// wrongBuckets are none of n bits, those at its ends first.
func wrongBuckets(n int) []int {
	return []int{-1, n, n + 1, n + 7, n + 8, -2, -8, -n, 127, 128, 255, 256, 256 + n - 1, 1 << 32, 1<<32 + n - 1, math.MinInt, math.MinInt + 1, math.MaxInt - 1, math.MaxInt}
}

// with makes n bits, of which these are 1.
func with(t *testing.T, n int, live ...int) *vers.Bits {
	t.Helper()
	v := vers.New(n)
	if v == nil {
		t.Fatalf("New(%d): nil", n)
	}
	wantFlip(t, v, true, live...)
	return v
}

// laid is Bytes of n bits, of which these are 1, put together in the document's words.
func laid(n int, live ...int) []byte {
	var b []byte
	for first := 0; first < n; first += 8 {
		sum := 0
		for i := range 8 {
			if slices.Contains(live, first+i) {
				sum += []int{1, 2, 4, 8, 16, 32, 64, 128}[i]
			}
		}
		b = append(b, byte(sum))
	}
	return b
}

// every is the buckets below n of each so many.
func every(n, so int) []int {
	var l []int
	for bucket := 0; bucket < n; bucket += so {
		l = append(l, bucket)
	}
	return l
}

// wantBits holds all that it tells against the n bits it should have, of which these are 1.
func wantBits(t *testing.T, what string, v *vers.Bits, n int, live ...int) {
	t.Helper()
	if v == nil {
		t.Fatalf("%s: nil; want %d bits", what, n)
	}
	if got := v.Len(); got != n {
		t.Errorf("%s: Len: %d; want %d", what, got, n)
	}
	for bucket := range n {
		want := 0
		if slices.Contains(live, bucket) {
			want = 1
		}
		if got := v.Live(bucket); got != want {
			t.Errorf("%s: Live(%d): %d; want %d", what, bucket, got, want)
		}
	}
	if got := v.Bytes(); !bytes.Equal(got, laid(n, live...)) {
		t.Errorf("%s: Bytes: %v; want %v", what, got, laid(n, live...))
	}
}

func wantFlip(t *testing.T, v *vers.Bits, want bool, buckets ...int) {
	t.Helper()
	if got := v.Flip(buckets...); got != want {
		t.Errorf("Flip(%v): %t", buckets, got)
	}
}

// wantNoBits asks Parse for an error, and for nothing beside it.
func wantNoBits(t *testing.T, n int, b []byte, want api.Errno) {
	t.Helper()
	if v, e := vers.Parse(n, b); v != nil || e != want {
		t.Errorf("Parse(%d, %v): %v, %d; want %d", n, b, v, e, want)
	}
}

func wantParsed(t *testing.T, n int, b []byte, live ...int) {
	t.Helper()
	v, e := vers.Parse(n, b)
	if e != api.OK {
		t.Errorf("Parse(%d, %v): %d", n, b, e)
		return
	}
	wantBits(t, "parsed", v, n, live...)
}

// P12.1: New, Len

func TestNewIsAllZeros(t *testing.T) {
	if most != 1<<(api.MaxHeight+1)-1 {
		t.Fatal("the greatest tree is another one")
	}
	for n := 1; n <= most; n++ {
		wantBits(t, "new", vers.New(n), n)
	}
}

func TestNewOfWhatMayNotBe(t *testing.T) {
	for _, n := range wrongLengths {
		if v := vers.New(n); v != nil {
			t.Errorf("New(%d): %v", n, v)
		}
	}
}

// P12.1: Live

func TestLiveOfNoBucket(t *testing.T) {
	for n := 1; n <= most; n++ {
		zeros, ones := with(t, n), with(t, n, every(n, 1)...)
		for _, bucket := range wrongBuckets(n) {
			if bucket >= 0 && bucket < n {
				continue
			}
			if zeros.Live(bucket) != -1 || ones.Live(bucket) != -1 {
				t.Errorf("of %d: Live(%d): %d, %d", n, bucket, zeros.Live(bucket), ones.Live(bucket))
			}
		}
	}
}

// P12.1: Flip

func TestExample(t *testing.T) {
	v := vers.New(3)
	v.Flip(2)
	if !bytes.Equal(v.Bytes(), []byte{0x04}) {
		t.Errorf("Bytes: %v", v.Bytes())
	}
}

func TestFlipOfEachBucketAlone(t *testing.T) {
	for n := 1; n <= most; n++ {
		for bucket := range n {
			zeros := with(t, n)
			wantFlip(t, zeros, true, bucket)
			wantBits(t, "one is 1", zeros, n, bucket)
			ones := with(t, n, every(n, 1)...)
			wantFlip(t, ones, true, bucket)
			wantBits(t, "one is 0", ones, n, slices.DeleteFunc(every(n, 1), func(b int) bool { return b == bucket })...)
		}
	}
}

func TestFlipOfMany(t *testing.T) {
	for n := 1; n <= most; n++ {
		v := with(t, n)
		wantFlip(t, v, true, every(n, 1)...)
		wantBits(t, "all", v, n, every(n, 1)...)
		wantFlip(t, v, true, every(n, 1)...)
		wantBits(t, "all back", v, n)
		wantFlip(t, v, true, every(n, 3)...)
		wantBits(t, "each third", v, n, every(n, 3)...)
	}
	v := with(t, 11, 1, 2)
	wantFlip(t, v, true, 10, 2, 0)
	wantBits(t, "not in their order", v, 11, 0, 1, 10)
}

func TestFlipOfNothing(t *testing.T) {
	v := with(t, 11, 3)
	wantFlip(t, v, true)
	wantFlip(t, v, true, []int{}...)
	wantBits(t, "flipped nothing", v, 11, 3)
}

func TestFlipOfOneNamedTwiceTurnsItOnce(t *testing.T) {
	v := with(t, 11)
	wantFlip(t, v, true, 4, 4)
	wantBits(t, "twice", v, 11, 4)
	wantFlip(t, v, true, 9, 4, 9, 0, 4, 9)
	wantBits(t, "between others", v, 11, 0, 9)
	wantFlip(t, v, true, 0, 0, 0, 10, 10, 10, 10)
	wantBits(t, "thrice, and four times", v, 11, 9, 10)
	wantFlip(t, v, true, slices.Repeat([]int{10, 3, 9}, 1000)...)
	wantBits(t, "a thousand times", v, 11, 3)
}

func TestFlipOfNoBucketTurnsNothing(t *testing.T) {
	for _, n := range []int{1, 3, 7, 8, 9, 11, 16, 63, 64, 65, 126, 127} {
		live := every(n, 2)
		v := with(t, n, live...)
		for _, none := range wrongBuckets(n) {
			if none >= 0 && none < n {
				continue
			}
			wantFlip(t, v, false, none)
			wantFlip(t, v, false, none, 0)
			wantFlip(t, v, false, 0, n-1, none)
			wantFlip(t, v, false, n-1, none, 0)
			wantFlip(t, v, false, append(every(n, 1), none)...)
			wantFlip(t, v, false, none, none)
		}
		wantBits(t, "asked for none", v, n, live...)
		wantFlip(t, v, true, 0)
		wantBits(t, "then for one", v, n, live[1:]...)
	}
}

// P12.1: Copy

func TestCopy(t *testing.T) {
	for n := 1; n <= most; n++ {
		wantBits(t, "zeros", with(t, n).Copy(), n)
		wantBits(t, "each third", with(t, n, every(n, 3)...).Copy(), n, every(n, 3)...)
		wantBits(t, "all", with(t, n, every(n, 1)...).Copy(), n, every(n, 1)...)
	}
}

func TestCopyIsANewOne(t *testing.T) {
	for n := 1; n <= most; n++ {
		v := with(t, n)
		c := v.Copy()
		d := c.Copy()
		wantFlip(t, v, true, every(n, 2)...)
		wantFlip(t, d, true, n-1)
		wantBits(t, "the first", v, n, every(n, 2)...)
		wantBits(t, "its copy", c, n)
		wantBits(t, "the copy's copy", d, n, n-1)
		wantFlip(t, c, true, every(n, 1)...)
		wantBits(t, "the first, again", v, n, every(n, 2)...)
		wantBits(t, "its copy, flipped", c, n, every(n, 1)...)
		wantBits(t, "the copy's copy, again", d, n, n-1)
		wantFlip(t, c, false, n)
	}
}

// P12.2: Bytes

func TestBytesWrittenOut(t *testing.T) {
	cases := []struct {
		n    int
		live []int
		want []byte
	}{
		{1, nil, []byte{0}},
		{1, []int{0}, []byte{1}},
		{7, []int{6}, []byte{64}},
		{8, nil, []byte{0}},
		{8, []int{7}, []byte{128}},
		{8, []int{0, 1, 2, 3, 4, 5, 6, 7}, []byte{255}},
		{9, []int{8}, []byte{0, 1}},
		{11, []int{0, 2, 10}, []byte{5, 4}},
		{15, []int{0, 14}, []byte{1, 64}},
		{16, []int{15}, []byte{0, 128}},
		{17, []int{7, 8, 16}, []byte{128, 1, 1}},
		{127, []int{126, 64, 63, 1}, []byte{2, 0, 0, 0, 0, 0, 0, 128, 1, 0, 0, 0, 0, 0, 0, 64}},
	}
	for _, c := range cases {
		if got := with(t, c.n, c.live...).Bytes(); !bytes.Equal(got, c.want) {
			t.Errorf("of %d, %v: Bytes: %v; want %v", c.n, c.live, got, c.want)
		}
		wantParsed(t, c.n, c.want, c.live...)
	}
}

// P12.2: Parse

func TestParseOfEveryByte(t *testing.T) {
	for n := 1; n <= 8; n++ {
		for b := range 256 {
			if b >= 1<<n {
				wantNoBits(t, n, []byte{byte(b)}, api.ErrForm)
				continue
			}
			live := slices.DeleteFunc(every(n, 1), func(bucket int) bool { return b/(1<<bucket)%2 == 0 })
			wantParsed(t, n, []byte{byte(b)}, live...)
		}
	}
}

func TestParseOfABitBehindTheLast(t *testing.T) {
	for n := 1; n <= most; n++ {
		whole := (n + 7) / 8 * 8
		for _, live := range [][]int{nil, every(n, 2), every(n, 1)} {
			wantParsed(t, n, laid(n, live...), live...)
			for bit := n; bit < whole; bit++ {
				wantNoBits(t, n, laid(whole, append(slices.Clone(live), bit)...), api.ErrForm)
			}
		}
	}
}

func TestParseOfAnotherLength(t *testing.T) {
	for n := 1; n <= most; n++ {
		right := (n + 7) / 8
		for length := range 40 {
			if length != right {
				wantNoBits(t, n, make([]byte, length), api.ErrForm)
			}
		}
		full := laid(n, every(n, 1)...)
		wantNoBits(t, n, append(full, 0), api.ErrForm)
		wantNoBits(t, n, append([]byte{0}, full...), api.ErrForm)
		wantNoBits(t, n, full[:right-1], api.ErrForm)
		wantNoBits(t, n, nil, api.ErrForm)
		wantNoBits(t, n, make([]byte, 1<<16), api.ErrForm)
		wantNoBits(t, n, make([]byte, 256+right), api.ErrForm)
	}
}

// ErrRange is named first: whatever the bytes are, it is told.
func TestParseOfANumberThatMayNotBe(t *testing.T) {
	for _, n := range wrongLengths {
		for _, b := range [][]byte{nil, {}, {0}, {255}, {0, 0}, make([]byte, 16), make([]byte, 17), bytes.Repeat([]byte{255}, 16)} {
			wantNoBits(t, n, b, api.ErrRange)
		}
	}
}

func TestParsedIsFlippedAsAnyOther(t *testing.T) {
	v, e := vers.Parse(11, []byte{5, 4})
	if e != api.OK {
		t.Fatal(e)
	}
	wantFlip(t, v, true, 0, 9, 9)
	wantFlip(t, v, false, 1, 11)
	wantBits(t, "flipped", v, 11, 2, 9, 10)
	wantBits(t, "its copy", v.Copy(), 11, 2, 9, 10)
}

// P12.3

func TestBytesHandedInAreNeitherChangedNorKept(t *testing.T) {
	memory := []byte{5, 4, 201, 202, 203}
	v, e := vers.Parse(11, memory[:2])
	if e != api.OK {
		t.Fatal(e)
	}
	c := v.Copy()
	wantFlip(t, v, true, every(11, 1)...)
	wantFlip(t, c, true, 0)
	scribble(v.Bytes(), 99)
	scribble(c.Bytes(), 99)
	if !bytes.Equal(memory, []byte{5, 4, 201, 202, 203}) {
		t.Errorf("changed: %v", memory)
	}
	scribble(memory, 99)
	wantBits(t, "written over", v, 11, 1, 3, 4, 5, 6, 7, 8, 9)
	wantBits(t, "its copy", c, 11, 2, 10)
	// The second byte lies there, but behind the length.
	wantNoBits(t, 11, []byte{5, 4}[:1], api.ErrForm)
}

func TestBucketsHandedInAreNeitherChangedNorKept(t *testing.T) {
	// Not in their order, and some of them twice. Behind the length lies 77, which is no bucket, and room for as many again.
	whole := []int{9, 9, 2, 9, 0, 0, 77, -5, 3, 4, 78, 6, 79}
	memory := slices.Clone(whole)
	v := with(t, 11)
	wantFlip(t, v, true, memory[:6]...)
	wantBits(t, "flipped", v, 11, 0, 2, 9)
	wantFlip(t, v, false, memory[:7]...)
	if !slices.Equal(memory, whole) {
		t.Errorf("changed: %v", memory)
	}
	scribble(memory, 4)
	wantBits(t, "written over", v, 11, 0, 2, 9)
	wantFlip(t, v, true, 1)
	wantBits(t, "flipped again", v, 11, 0, 1, 2, 9)
}

func TestBytesHandedOutAreNewMemory(t *testing.T) {
	for n := 1; n <= most; n++ {
		live := every(n, 3)
		v := with(t, n, live...)
		first, c := v.Bytes(), v.Copy()
		scribble(v.Bytes(), 99)
		scribble(c.Bytes(), 98)
		if !bytes.Equal(first, laid(n, live...)) {
			t.Errorf("one shows in another: %v", first)
		}
		wantFlip(t, v, true, every(n, 1)...)
		if !bytes.Equal(first, laid(n, live...)) {
			t.Errorf("a flip shows in what was handed out: %v", first)
		}
		wantBits(t, "the copy", c, n, live...)
		wantFlip(t, v, true, every(n, 1)...)
		wantBits(t, "scribbled", v, n, live...)
	}
}

func TestBitsAreApart(t *testing.T) {
	b := []byte{5, 4}
	v, w := with(t, 11), with(t, 11)
	x, _ := vers.Parse(11, b)
	y, _ := vers.Parse(11, b)
	wantFlip(t, v, true, 3)
	wantFlip(t, x, true, 3)
	wantBits(t, "v", v, 11, 3)
	wantBits(t, "w", w, 11)
	wantBits(t, "x", x, 11, 0, 2, 3, 10)
	wantBits(t, "y", y, 11, 0, 2, 10)
}

// P12.4

func TestParseOfBytesIsTheSame(t *testing.T) {
	for n := 1; n <= most; n++ {
		v := with(t, n)
		for step := range 40 {
			wantFlip(t, v, true, step*step%n, step*29%n, (step*31+5)%n)
			x, e := vers.Parse(n, v.Bytes())
			if e != api.OK || x.Len() != n || !bytes.Equal(x.Bytes(), v.Bytes()) {
				t.Fatalf("Parse(%d, %v): %d", n, v.Bytes(), e)
			}
			for bucket := range n {
				if x.Live(bucket) != v.Live(bucket) {
					t.Errorf("of %v: Live(%d): %d", v.Bytes(), bucket, x.Live(bucket))
				}
			}
		}
	}
}

func TestWhatIsTurnedTwiceIsAsItWas(t *testing.T) {
	for n := 1; n <= most; n++ {
		live := every(n, 2)
		v := with(t, n, live...)
		for so := 1; so < n+2; so++ {
			wantFlip(t, v, true, every(n, so)...)
			wantFlip(t, v, true, every(n, so)...)
		}
		wantBits(t, "twice", v, n, live...)
	}
}

// P12.1 over many steps: an array stands beside the bits.
func TestManySteps(t *testing.T) {
	const n = 31
	v := with(t, n)
	var bits [n]int
	for step := range 3000 {
		// Buckets run past both ends, so that some calls are refused; some buckets are named twice.
		var named []int
		for i := range step % 7 {
			named = append(named, (step*step+i*step*13)%(n+2)-1)
		}
		may := true
		for _, bucket := range named {
			may = may && bucket >= 0 && bucket < n
		}
		wantFlip(t, v, may, named...)
		for bucket := range n {
			if may && slices.Contains(named, bucket) {
				bits[bucket] = 1 - bits[bucket]
			}
		}
		var live []int
		for bucket, bit := range bits {
			if bit == 1 {
				live = append(live, bucket)
			}
		}
		wantBits(t, "step", v, n, live...)
		if step%17 == 0 {
			v = v.Copy()
		}
	}
}

// scribble writes over the list, its spare room too, and appends to it.
func scribble[T any](list []T, junk T) {
	whole := list[:cap(list)]
	for i := range whole {
		whole[i] = junk
	}
	_ = append(list, junk, junk, junk)
}
