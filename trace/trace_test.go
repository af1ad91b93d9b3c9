package trace_test

import (
	"bytes"
	"math"
	"slices"
	"testing"

	"oubliette/api"
	"oubliette/cells"
	"oubliette/trace"
)

// Addresses that no store here has.
var outside = []int{-1, -2, math.MinInt, 3, 4, 1 << 16, math.MaxInt}

func stored(t *testing.T, n, size int) *cells.Store {
	t.Helper()
	s, e := cells.New(n, size)
	if s == nil || e != api.OK {
		t.Fatalf("New(%d, %d): %d", n, size, e)
	}
	return s
}

// made has three cells of two bytes.
func made(t *testing.T) *trace.Recorder {
	t.Helper()
	return trace.Over(stored(t, 3, 2))
}

func read(addr int, b ...byte) trace.Op  { return trace.Op{Kind: 1, Addr: addr, Data: b} }
func write(addr int, b ...byte) trace.Op { return trace.Op{Kind: 2, Addr: addr, Data: b} }
func synced() trace.Op                   { return trace.Op{Kind: 3} }

// alike is written here again, so that what the package tells of traces isn't judged by itself.
func alike(a, b []trace.Op) bool {
	return slices.EqualFunc(a, b, func(x, y trace.Op) bool {
		return x.Kind == y.Kind && x.Addr == y.Addr && bytes.Equal(x.Data, y.Data)
	})
}

func wantTrace(t *testing.T, what string, r *trace.Recorder, want ...trace.Op) {
	t.Helper()
	if got := r.Trace(); !alike(got, want) {
		t.Errorf("%s: %v; want %v", what, got, want)
	}
	if r.Mark() != len(want) {
		t.Errorf("%s: Mark %d; want %d", what, r.Mark(), len(want))
	}
}

func wantRead(t *testing.T, r *trace.Recorder, addr int, e api.Errno, want ...byte) {
	t.Helper()
	b, got := r.Read(addr)
	if got != e || !bytes.Equal(b, want) {
		t.Errorf("Read(%d): %v, %d; want %v, %d", addr, b, got, want, e)
	}
}

func wantWrite(t *testing.T, r *trace.Recorder, addr int, e api.Errno, b ...byte) {
	t.Helper()
	if got := r.Write(addr, b); got != e {
		t.Errorf("Write(%d, %v): %d; want %d", addr, b, got, e)
	}
}

func wantSync(t *testing.T, r *trace.Recorder, e api.Errno) {
	t.Helper()
	if got := r.Sync(); got != e {
		t.Errorf("Sync: %d; want %d", got, e)
	}
}

// P3.1

func TestKinds(t *testing.T) {
	if trace.ReadOp != 1 || trace.WriteOp != 2 || trace.SyncOp != 3 {
		t.Errorf("%d, %d, %d", trace.ReadOp, trace.WriteOp, trace.SyncOp)
	}
}

func TestExample(t *testing.T) {
	r := trace.Over(stored(t, 2, 1))
	r.Write(0, []byte{7})
	r.Sync()
	wantTrace(t, "the example", r, write(0, 7), synced())
}

func TestNothingIsRecordedAtFirst(t *testing.T) {
	wantTrace(t, "a new store", made(t))
	s := stored(t, 3, 2)
	s.Write(1, []byte{1, 2})
	s.Sync()
	r := trace.Over(s)
	wantTrace(t, "a store that was used", r)
	wantRead(t, r, 1, api.OK, 1, 2)
	wantTrace(t, "its first", r, read(1, 1, 2))
}

func TestOperationsAreDoneAndRecordedInOrder(t *testing.T) {
	r := made(t)
	wantRead(t, r, 2, api.OK, 0, 0)
	wantWrite(t, r, 2, api.OK, 1, 2)
	wantRead(t, r, 2, api.OK, 1, 2)
	wantWrite(t, r, 0, api.OK, 3, 4)
	if r.Flight() != 2 {
		t.Errorf("%d in flight", r.Flight())
	}
	wantSync(t, r, api.OK)
	wantSync(t, r, api.OK)
	wantWrite(t, r, 2, api.OK, 1, 2)
	wantTrace(t, "all", r, read(2, 0, 0), write(2, 1, 2), read(2, 1, 2), write(0, 3, 4), synced(), synced(), write(2, 1, 2))
	if r.Flight() != 1 || r.Ops() != 7 {
		t.Errorf("%d in flight, %d operations", r.Flight(), r.Ops())
	}
}

func TestWhatErrsIsNotRecorded(t *testing.T) {
	r := made(t)
	wantWrite(t, r, 1, api.OK, 1, 2)
	for _, addr := range outside {
		wantRead(t, r, addr, api.ErrRange)
		wantWrite(t, r, addr, api.ErrRange, 3, 4)
		wantWrite(t, r, addr, api.ErrRange)
	}
	for _, b := range [][]byte{nil, {}, {3}, {3, 4, 5}} {
		wantWrite(t, r, 1, api.ErrForm, b...)
	}
	wantTrace(t, "wrong ones", r, write(1, 1, 2))
	if r.Ops() != 1+3*len(outside)+4 {
		t.Errorf("the store began %d", r.Ops())
	}
}

func TestWhatFindsTheStoreDownIsNotRecorded(t *testing.T) {
	r := made(t)
	wantWrite(t, r, 1, api.OK, 1, 2)
	r.Crash(true)
	wantRead(t, r, 1, api.ErrDown)
	wantWrite(t, r, 1, api.ErrDown, 3, 4)
	wantSync(t, r, api.ErrDown)
	wantTrace(t, "down", r, write(1, 1, 2))
	r.Reboot()
	wantRead(t, r, 1, api.OK, 1, 2)
	wantTrace(t, "up again", r, write(1, 1, 2), read(1, 1, 2))
}

func TestTheArmedOneIsNotRecorded(t *testing.T) {
	for i, act := range []func(r *trace.Recorder) api.Errno{
		func(r *trace.Recorder) api.Errno { _, e := r.Read(0); return e },
		func(r *trace.Recorder) api.Errno { return r.Write(0, []byte{3, 4}) },
		func(r *trace.Recorder) api.Errno { return r.Sync() },
	} {
		r := made(t)
		r.Arm(2, true)
		wantWrite(t, r, 1, api.OK, 1, 2)
		if e := act(r); e != api.ErrDown || r.Up() {
			t.Errorf("case %d: %d", i, e)
		}
		wantTrace(t, "armed", r, write(1, 1, 2))
	}
}

// promoted is what a Recorder has of the store as it stands.
type promoted interface {
	Arm(after int, keep ...bool) bool
	Crash(keep ...bool) bool
	Reboot() bool
	Up() bool
	Flight() int
	Ops() int
	Cells() int
	Size() int
	Peek(addr int) []byte
}

func TestAllElseIsPromotedAndNotRecorded(t *testing.T) {
	r := made(t)
	r.Write(2, []byte{1, 2})
	var p promoted = r
	if p.Flight() != 1 || p.Ops() != 1 || p.Cells() != 3 || p.Size() != 2 || !p.Up() {
		t.Errorf("%d, %d, %d, %d, %t", p.Flight(), p.Ops(), p.Cells(), p.Size(), p.Up())
	}
	if !bytes.Equal(p.Peek(2), []byte{1, 2}) || len(p.Peek(3)) > 0 {
		t.Errorf("Peek: %v, %v", p.Peek(2), p.Peek(3))
	}
	if p.Arm(0) || !p.Arm(1) || p.Reboot() || !p.Crash() || p.Crash() || p.Up() || !p.Reboot() {
		t.Error("falls")
	}
	if !bytes.Equal(p.Peek(2), []byte{0, 0}) {
		t.Errorf("Peek behind the fall: %v", p.Peek(2))
	}
	wantTrace(t, "what a crash took back stays recorded", r, write(2, 1, 2))
}

func TestTheStoreIsKeptAndItsOwnOperationsAreNotRecorded(t *testing.T) {
	s := stored(t, 3, 2)
	r := trace.Over(s)
	if r.Store != s {
		t.Fatal("another store")
	}
	s.Write(0, []byte{1, 2})
	r.Store.Read(0)
	r.Store.Sync()
	wantTrace(t, "beside the recorder", r)
	wantWrite(t, r, 1, api.OK, 3, 4)
	if !bytes.Equal(s.Peek(1), []byte{3, 4}) || s.Ops() != 4 || s.Flight() != 1 {
		t.Errorf("%v, %d, %d", s.Peek(1), s.Ops(), s.Flight())
	}
}

func TestRecordersOfOneStoreAreApart(t *testing.T) {
	s := stored(t, 3, 2)
	a, b := trace.Over(s), trace.Over(s)
	wantWrite(t, a, 0, api.OK, 1, 2)
	wantRead(t, b, 0, api.OK, 1, 2)
	wantSync(t, a, api.OK)
	wantTrace(t, "the one", a, write(0, 1, 2), synced())
	wantTrace(t, "the other", b, read(0, 1, 2))
}

// P3.2

func TestTraceIsToldAgainAndGrows(t *testing.T) {
	r := made(t)
	var want []trace.Op
	for i := range 100 {
		b := []byte{byte(i), byte(i + 1)}
		r.Write(i%3, b)
		want = append(want, write(i%3, b...))
		wantTrace(t, "grown", r, want...)
		wantTrace(t, "told again", r, want...)
	}
}

// apart differ from one another, each pair of them.
func apart() []trace.Op {
	return []trace.Op{
		{}, {Kind: 1}, {Kind: 2}, {Kind: 3}, {Kind: -1}, {Kind: math.MinInt}, {Kind: math.MaxInt},
		{Addr: 1}, {Addr: -1}, {Addr: math.MinInt}, {Addr: math.MaxInt},
		{Data: []byte{0}}, {Data: []byte{0, 0}}, {Data: []byte{1}}, {Data: []byte{0, 1}}, {Data: []byte{1, 0}},
		{Kind: 1, Addr: 1}, {Kind: 1, Addr: 1, Data: []byte{1}}, {Kind: 2, Addr: 1, Data: []byte{1}},
		{Kind: 1, Addr: 2, Data: []byte{1}}, {Kind: 1, Addr: 1, Data: []byte{255}},
	}
}

func TestSame(t *testing.T) {
	left, right := apart(), apart()
	for i, a := range left {
		for j, b := range right {
			if trace.Same(a, b) != (i == j) {
				t.Errorf("Same(%v, %v): %t", a, b, i != j)
			}
		}
	}
	if !trace.Same(trace.Op{Data: []byte{}}, trace.Op{}) || !trace.Same(trace.Op{}, trace.Op{Data: []byte{}}) {
		t.Error("nil and the empty list are the same")
	}
	roomy := []byte{1, 2, 3}
	if !trace.Same(write(0, roomy[:1]...), write(0, 1)) {
		t.Error("what lies behind the length is not read")
	}
}

func wantHeld(t *testing.T, a, b []trace.Op, equal bool, common int) {
	t.Helper()
	if trace.Equal(a, b) != equal || trace.Equal(b, a) != equal {
		t.Errorf("Equal(%v, %v): not %t", a, b, equal)
	}
	if x, y := trace.Common(a, b), trace.Common(b, a); x != common || y != common {
		t.Errorf("Common(%v, %v): %d, %d; want %d", a, b, x, y, common)
	}
}

func TestEqualAndCommonOfFronts(t *testing.T) {
	a, b := apart(), apart()
	for i := range len(a) + 1 {
		for j := range len(b) + 1 {
			wantHeld(t, a[:i], b[:j], i == j, min(i, j))
		}
	}
	wantHeld(t, nil, nil, true, 0)
	wantHeld(t, nil, []trace.Op{}, true, 0)
	wantHeld(t, nil, a, false, 0)
}

func TestEqualAndCommonWhereOneDiffers(t *testing.T) {
	a := apart()
	for i := range a {
		b := apart()
		b[i].Kind += 100
		wantHeld(t, a, b, false, i)
		b = apart()
		b[i].Addr -= 100
		wantHeld(t, a, b, false, i)
		b = apart()
		b[i].Data = append(b[i].Data, 0)
		wantHeld(t, a, b, false, i)
	}
}

func TestCommonEndsAtTheFirstThatDiffers(t *testing.T) {
	a := []trace.Op{synced(), read(1, 1), synced(), synced()}
	b := []trace.Op{synced(), read(1, 2), synced(), synced()}
	wantHeld(t, a, b, false, 1)
	wantHeld(t, a[1:], b[1:], false, 0)
	wantHeld(t, a[2:], b[2:], true, 2)
}

func TestCount(t *testing.T) {
	l := []trace.Op{read(0, 1), write(0, 1), synced(), read(1, 2), {Kind: 7}, {}, read(0, 1), {Kind: -1}, {Kind: math.MinInt}}
	for _, c := range []struct {
		kinds []int
		want  int
	}{
		{nil, 9}, {[]int{}, 9}, {[]int{1}, 3}, {[]int{2}, 1}, {[]int{3}, 1}, {[]int{7}, 1}, {[]int{0}, 1}, {[]int{-1}, 1},
		{[]int{math.MinInt}, 1}, {[]int{math.MaxInt}, 0}, {[]int{4}, 0}, {[]int{1, 3}, 4}, {[]int{3, 1}, 4},
		{[]int{1, 1, 1}, 3}, {[]int{4, 1, 4}, 3}, {[]int{1, 2, 3}, 5}, {[]int{1, 2, 3, 7, 0, -1, math.MinInt}, 9},
	} {
		if got := trace.Count(l, c.kinds...); got != c.want {
			t.Errorf("Count(%v): %d; want %d", c.kinds, got, c.want)
		}
	}
	if trace.Count(nil) != 0 || trace.Count(nil, 1) != 0 || trace.Count([]trace.Op{}, 0) != 0 {
		t.Error("of none")
	}
}

// P3.3

func TestWhatIsWrittenIsNeitherChangedNorKept(t *testing.T) {
	r := made(t)
	memory := []byte{1, 2, 40, 41}
	wantWrite(t, r, 0, api.OK, memory[:2]...)
	r.Write(1, memory[:2])
	scribble(r.Trace()[1].Data)
	if !bytes.Equal(memory, []byte{1, 2, 40, 41}) {
		t.Errorf("changed: %v", memory)
	}
	clear(memory)
	wantTrace(t, "kept", r, write(0, 1, 2), write(1, 1, 2))
	if !bytes.Equal(r.Peek(1), []byte{1, 2}) {
		t.Errorf("the cell: %v", r.Peek(1))
	}
}

func TestWhatIsReadIsNewMemory(t *testing.T) {
	r := made(t)
	r.Write(0, []byte{1, 2})
	first, _ := r.Read(0)
	second, _ := r.Read(0)
	scribble(first)
	if !bytes.Equal(second, []byte{1, 2}) {
		t.Errorf("the one shows in the other: %v", second)
	}
	told := r.Trace()
	scribble(second)
	if !alike(told, []trace.Op{write(0, 1, 2), read(0, 1, 2), read(0, 1, 2)}) {
		t.Errorf("shown in a trace: %v", told)
	}
	wantTrace(t, "read", r, write(0, 1, 2), read(0, 1, 2), read(0, 1, 2))
	if !bytes.Equal(r.Peek(0), []byte{1, 2}) {
		t.Errorf("the cell: %v", r.Peek(0))
	}
}

func TestTracesToldAreNewMemory(t *testing.T) {
	r := made(t)
	r.Write(0, []byte{1, 2})
	r.Sync()
	r.Read(0)
	want := []trace.Op{write(0, 1, 2), synced(), read(0, 1, 2)}
	first, second := r.Trace(), r.Trace()
	scribble(first[0].Data)
	scribble(first[1].Data)
	if !alike(first[1:], want[1:]) {
		t.Errorf("one operation's bytes show in another's: %v", first)
	}
	for i := range first[:cap(first)] {
		first[:cap(first)][i] = trace.Op{Kind: 9}
	}
	_ = append(first, write(2, 9))
	if !alike(second, want) {
		t.Errorf("one trace shows in another: %v", second)
	}
	wantTrace(t, "told", r, want...)
	r.Sync()
	if !alike(second, want) {
		t.Errorf("a later operation shows in a trace: %v", second)
	}
	wantTrace(t, "grown", r, append(want, synced())...)
}

// scribble writes over a list, its spare room too.
func scribble(list []byte) {
	whole := list[:cap(list)]
	for i := range whole {
		whole[i] = 99
	}
	_ = append(list, 98, 97, 96)
}

func TestTracesHandedInAreNotChanged(t *testing.T) {
	a, b, kinds := apart(), apart(), []int{3, 1, 3, 2}
	short := a[:len(a)-1]
	trace.Same(a[15], b[16])
	trace.Equal(short, b)
	trace.Common(b, short)
	trace.Count(short, kinds[:3]...)
	if !alike(a, apart()) || !alike(b, apart()) || !slices.Equal(kinds, []int{3, 1, 3, 2}) {
		t.Errorf("changed: %v, %v, %v", a, b, kinds)
	}
}

// P3.4

func again(r *trace.Recorder, l []trace.Op) {
	for _, o := range l {
		switch o.Kind {
		case trace.ReadOp:
			r.Read(o.Addr)
		case trace.WriteOp:
			r.Write(o.Addr, o.Data)
		case trace.SyncOp:
			r.Sync()
		}
	}
}

func TestDoneAgainIsRecordedTheSame(t *testing.T) {
	r := made(t)
	n := uint32(1)
	for range 500 {
		n = n*1664525 + 1013904223
		addr, b := int(n>>8%5)-1, byte(n>>16)
		switch n >> 28 % 4 {
		case 0:
			r.Read(addr)
		case 1:
			r.Sync()
		default:
			r.Write(addr, []byte{b, b + 1})
		}
	}
	other := made(t)
	again(other, r.Trace())
	if r.Mark() == 0 || r.Mark() == r.Ops() {
		t.Fatalf("%d of %d recorded", r.Mark(), r.Ops())
	}
	wantTrace(t, "done again", other, r.Trace()...)
}
