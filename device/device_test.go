package device_test

import (
	"fmt"
	"math"
	"slices"
	"strings"
	"testing"

	"factotum/api"
	"factotum/device"
)

// zeros is a sector that was never written.
var zeros = strings.Repeat("\x00", 64)

// filled is s, and 0s behind it up to a sector's size.
func filled(s string) string { return s + zeros[len(s):] }

// full is a sector of one byte, over and over.
func full(c string) string { return strings.Repeat(c, 64) }

// sizes are numbers of sectors that are asked for, and those that there are then.
var sizes = []struct{ n, want int }{
	{math.MinInt, 0}, {-4096, 0}, {-1, 0}, {0, 0}, {1, 1}, {2, 2}, {63, 63}, {4095, 4095}, {4096, 4096}, {4097, 4096}, {1 << 20, 4096}, {1 << 40, 4096}, {math.MaxInt, 4096},
}

// wantErr says that a call didn't answer what it should.
func wantErr(t *testing.T, what string, got, want api.Errno) {
	t.Helper()
	if got != want {
		t.Errorf("%s: %d, not %d", what, got, want)
	}
}

// wantRead says that a sector doesn't read as these bytes.
func wantRead(t *testing.T, d *device.Device, i int, want string) {
	t.Helper()
	if got := d.Read(i); got != want {
		t.Errorf("sector %d: %q, not %q", i, got, want)
	}
}

// wantState says that a device doesn't tell this of its calls and unsure sectors.
func wantState(t *testing.T, d *device.Device, calls int, unsure ...int) {
	t.Helper()
	if d.Calls() != calls || !slices.Equal(d.Unsure(), unsure) {
		t.Errorf("%d calls and %v unsure, not %d and %v", d.Calls(), d.Unsure(), calls, unsure)
	}
}

// written is a device of so many sectors in which these are written one behind the other, and sure.
func written(t *testing.T, n int, l ...string) *device.Device {
	t.Helper()
	d := device.New(n)
	writeAll(t, d, l...)
	wantErr(t, "Sync", d.Sync(), api.OK)
	return d
}

func writeAll(t *testing.T, d *device.Device, l ...string) {
	t.Helper()
	for i, s := range l {
		wantErr(t, "Write", d.Write(i, s), api.OK)
	}
}

func TestNewOfEachSize(t *testing.T) {
	for _, x := range sizes {
		d := device.New(x.n)
		if d.Size() != x.want {
			t.Errorf("New of %d: %d sectors, not %d", x.n, d.Size(), x.want)
		}
		wantState(t, d, 0)
		for _, i := range []int{0, x.want / 2, x.want - 1} {
			if i >= 0 && i < x.want {
				wantRead(t, d, i, zeros)
			}
		}
		for _, i := range []int{math.MinInt, -1, x.want, x.want + 1, 4096, math.MaxInt} {
			wantRead(t, d, i, "")
		}
		wantErr(t, "Sync", d.Sync(), api.OK)
		d.Crash([]bool{true}, 0, 32)
		if d.Size() != x.want {
			t.Errorf("New of %d: %d sectors behind a crash", x.n, d.Size())
		}
		wantState(t, d, 1)
	}
}

func TestWriteToEachSector(t *testing.T) {
	for _, x := range sizes {
		d := device.New(x.n)
		calls := 0
		for _, i := range []int{math.MinInt, -4096, -1, 0, 1, x.want - 1, x.want, x.want + 1, 4095, 4096, math.MaxInt} {
			want := api.ErrIndex
			if i >= 0 && i < x.want {
				want = api.OK
			}
			wantErr(t, fmt.Sprintf("Write to %d of %d", i, x.want), d.Write(i, "ab"), want)
			calls++
			if d.Calls() != calls {
				t.Errorf("%d calls, not %d", d.Calls(), calls)
			}
			if want == api.OK {
				wantRead(t, d, i, filled("ab"))
			} else {
				wantRead(t, d, i, "")
			}
		}
	}
}

func TestSectorsDontTouchEachOther(t *testing.T) {
	d := device.New(4096)
	for i := range 4096 {
		wantErr(t, "Write", d.Write(i, fmt.Sprint("sector ", i)), api.OK)
	}
	for range 2 {
		for i := range 4096 {
			wantRead(t, d, i, filled(fmt.Sprint("sector ", i)))
		}
		wantErr(t, "Sync", d.Sync(), api.OK)
	}
	wantState(t, d, 4098)
}

func TestWriteOfEachLength(t *testing.T) {
	for n := range 65 {
		s := strings.Repeat("a\x00\xff", 22)[:n]
		d := written(t, 3, full("x"), full("y"), full("z"))
		wantErr(t, "Write", d.Write(1, s), api.OK)
		for range 2 {
			wantRead(t, d, 0, full("x"))
			wantRead(t, d, 1, filled(s))
			wantRead(t, d, 2, full("z"))
			wantErr(t, "Sync", d.Sync(), api.OK)
		}
	}
	for _, n := range []int{65, 66, 127, 128, 256, 320, 1 << 16} {
		d := written(t, 2, "a", "b")
		wantErr(t, "Write", d.Write(1, strings.Repeat("q", n)), api.ErrLong)
		wantRead(t, d, 1, filled("b"))
		wantState(t, d, 4)
	}
}

// A shorter text leaves nothing of the one ahead of it, be that sure or not.
func TestWriteReplacesTheWholeSector(t *testing.T) {
	d := device.New(1)
	for _, s := range []string{full("a"), "b", "", full("c"), "dd"} {
		wantErr(t, "Write", d.Write(0, s), api.OK)
		wantRead(t, d, 0, filled(s))
	}
	wantState(t, d, 5, 0)
	d.Crash(nil, -1, 0)
	wantRead(t, d, 0, zeros)
}

// R1: ErrCrash is told ahead of ErrIndex, and that ahead of ErrLong.
func TestWhichErrorIsTold(t *testing.T) {
	long := full("q") + "q"
	for _, x := range []struct {
		i    int
		s    string
		want api.Errno
	}{
		{0, "q", api.OK}, {0, full("q"), api.OK}, {0, long, api.ErrLong}, {2, "q", api.ErrIndex}, {2, long, api.ErrIndex}, {-1, "q", api.ErrIndex}, {-1, long, api.ErrIndex}, {math.MaxInt, long, api.ErrIndex}, {math.MinInt, long, api.ErrIndex},
	} {
		d := written(t, 2, "a", "b")
		d.Stop(0)
		wantErr(t, "Write to what stands still", d.Write(x.i, x.s), api.ErrCrash)
		wantState(t, d, 4)
		d.Stop(-1)
		wantErr(t, "Write", d.Write(x.i, x.s), x.want)
		if x.want != api.OK {
			wantState(t, d, 5)
			wantRead(t, d, 0, filled("a"))
		}
		wantRead(t, d, 1, filled("b"))
	}
}

// R3: what is refused changes nothing, but that it counts.
func TestWhatIsRefusedChangesNothing(t *testing.T) {
	d := written(t, 3, "a", "b", "c")
	writeAll(t, d, "A", "B")
	refused := func() {
		d.Write(3, "q")
		d.Write(-1, "q")
		d.Write(0, full("q")+"q")
		d.Write(2, full("q")+"q")
		d.Stop(0)
		d.Write(0, "q")
		d.Write(2, "q")
		d.Sync()
		d.Stop(-1)
	}
	refused()
	wantState(t, d, 13, 0, 1)
	for i, s := range []string{"A", "B", "c"} {
		wantRead(t, d, i, filled(s))
	}
	d.Crash([]bool{false, true}, -1, 0)
	for i, s := range []string{"a", "B", "c"} {
		wantRead(t, d, i, filled(s))
	}
}

func TestEachChangingCallCounts(t *testing.T) {
	d := device.New(2)
	want := 0
	count := func(what string, e, wantE api.Errno) {
		t.Helper()
		want++
		wantErr(t, what, e, wantE)
		if d.Calls() != want {
			t.Errorf("%s: %d calls, not %d", what, d.Calls(), want)
		}
	}
	count("Write", d.Write(0, "a"), api.OK)
	count("Write of the same", d.Write(0, "a"), api.OK)
	count("Write of nothing", d.Write(1, ""), api.OK)
	count("Write past the last", d.Write(2, "a"), api.ErrIndex)
	count("Write of too much", d.Write(1, full("a")+"a"), api.ErrLong)
	count("Sync", d.Sync(), api.OK)
	count("Sync of nothing", d.Sync(), api.OK)
	d.Stop(0)
	count("Write to what stands still", d.Write(0, "b"), api.ErrCrash)
	count("Sync of what stands still", d.Sync(), api.ErrCrash)
	d.Read(0)
	d.Read(9)
	d.Size()
	d.Calls()
	d.Unsure()
	d.Stop(5)
	d.Stop(-1)
	d.Crash(nil, 0, 0)
	d.Crash([]bool{true}, -1, 0)
	if d.Calls() != want {
		t.Errorf("calls that change no sector count: %d, not %d", d.Calls(), want)
	}
	count("Sync behind a crash", d.Sync(), api.OK)
}

func TestUnsureIsInOrder(t *testing.T) {
	d := device.New(4096)
	var l []int
	for k := range 500 {
		i := k * 2741 % 4096
		l = append(l, i)
		d.Write(i, "a")
		d.Write(l[k/2], "b")
	}
	slices.Sort(l)
	wantState(t, d, 1000, l...)
	wantErr(t, "Sync", d.Sync(), api.OK)
	wantState(t, d, 1001)
}

// What was written as it was sure already is unsure all the same, and has its place among the others.
func TestWriteOfWhatIsSureIsUnsure(t *testing.T) {
	d := written(t, 3, "a", "b", "c")
	writeAll(t, d, "a", "B", "C")
	wantState(t, d, 7, 0, 1, 2)
	d.Crash([]bool{false, true, false}, 2, 64)
	for i, s := range []string{"a", "B", "C"} {
		wantRead(t, d, i, filled(s))
	}
	fresh := device.New(2)
	wantErr(t, "Write", fresh.Write(0, ""), api.OK)
	wantErr(t, "Write", fresh.Write(1, "x"), api.OK)
	wantState(t, fresh, 2, 0, 1)
	fresh.Crash([]bool{false, true}, -1, 0)
	wantRead(t, fresh, 1, filled("x"))
}

// stopAt are numbers that Stop is given, with how many calls go well ahead of the first that doesn't (-1: all do).
var stopAt = []struct{ n, well int }{
	{math.MinInt, -1}, {-1 << 40, -1}, {-2, -1}, {-1, -1}, {0, 0}, {1, 1}, {2, 2}, {7, 7}, {1 << 20, -1}, {1<<40 - 1, -1}, {1 << 40, -1}, {1<<40 + 1, -1}, {1 << 62, -1}, {math.MaxInt - 1, -1}, {math.MaxInt, -1},
}

// goOn makes twelve changing calls, and says whether those behind the first so many, and no others, found that the device stands still.
func goOn(t *testing.T, d *device.Device, well int) {
	t.Helper()
	for k := range 12 {
		want := api.OK
		if well >= 0 && k >= well {
			want = api.ErrCrash
		}
		if k%3 == 2 {
			wantErr(t, fmt.Sprint("call ", k), d.Sync(), want)
		} else {
			wantErr(t, fmt.Sprint("call ", k), d.Write(0, fmt.Sprint(k)), want)
		}
	}
}

func TestStopOfEachNumber(t *testing.T) {
	for _, x := range stopAt {
		for _, ahead := range []int{0, 1, 5} {
			d := device.New(1)
			for range ahead {
				d.Write(9, "a")
			}
			d.Stop(x.n)
			goOn(t, d, x.well)
			if d.Calls() != ahead+12 {
				t.Errorf("Stop of %d: %d calls", x.n, d.Calls())
			}
		}
	}
}

func TestStopSaidTwice(t *testing.T) {
	for _, x := range stopAt {
		for _, y := range stopAt {
			for _, between := range []int{0, 1, 3} {
				d := device.New(1)
				d.Stop(x.n)
				for range between {
					d.Sync()
				}
				d.Stop(y.n)
				goOn(t, d, y.well)
			}
		}
	}
}

// A stop that is far away comes all the same.
func TestStopFarAway(t *testing.T) {
	const far = 1 << 20
	d := device.New(1)
	d.Stop(far)
	for k := range far {
		if e := d.Sync(); e != api.OK {
			t.Fatalf("call %d: %d", k, e)
		}
	}
	wantErr(t, "the call that was told", d.Sync(), api.ErrCrash)
	wantErr(t, "the one behind it", d.Write(0, "a"), api.ErrCrash)
	wantState(t, d, far+2)
}

// A refused call is a changing call too: it brings the stop nearer.
func TestRefusedCallsCountTowardsTheStop(t *testing.T) {
	d := device.New(1)
	d.Stop(3)
	wantErr(t, "Write past the last", d.Write(1, "a"), api.ErrIndex)
	wantErr(t, "Write of too much", d.Write(0, full("a")+"a"), api.ErrLong)
	wantErr(t, "Write", d.Write(0, "a"), api.OK)
	wantErr(t, "the third call", d.Sync(), api.ErrCrash)
	wantState(t, d, 4, 0)
}

// What stands still is read as it was.
func TestReadOfWhatStandsStill(t *testing.T) {
	d := written(t, 2, "a", "b")
	wantErr(t, "Write", d.Write(0, "A"), api.OK)
	d.Stop(0)
	wantErr(t, "Write", d.Write(0, "q"), api.ErrCrash)
	wantErr(t, "Write", d.Write(1, "q"), api.ErrCrash)
	wantErr(t, "Sync", d.Sync(), api.ErrCrash)
	wantRead(t, d, 0, filled("A"))
	wantRead(t, d, 1, filled("b"))
	wantRead(t, d, 2, "")
	wantState(t, d, 7, 0)
	if d.Size() != 2 {
		t.Errorf("%d sectors", d.Size())
	}
}

func TestNothingStandsStillBehindACrash(t *testing.T) {
	for _, x := range stopAt {
		for _, between := range []int{0, 1, 9} {
			d := device.New(1)
			d.Stop(x.n)
			for range between {
				d.Sync()
			}
			d.Crash(nil, -1, 0)
			goOn(t, d, -1)
			d.Stop(2)
			goOn(t, d, 2)
		}
	}
}

// crashed is a device of four sectors, of which 0, 2 and 3 aren't sure, behind this crash.
func crashed(t *testing.T, keep []bool, torn, cut int) *device.Device {
	t.Helper()
	d := written(t, 4, "aaaa", "bbbb", full("c"), "dddd")
	d.Write(3, "DD")
	d.Write(0, full("A"))
	d.Write(2, "CC")
	wantState(t, d, 8, 0, 2, 3)
	d.Crash(keep, torn, cut)
	wantState(t, d, 8)
	if d.Size() != 4 {
		t.Errorf("%d sectors behind a crash", d.Size())
	}
	return d
}

// wantSectors says that a device's first sectors, behind whatever later crash, don't read as these.
func wantSectors(t *testing.T, what string, d *device.Device, l ...string) {
	t.Helper()
	for range 2 {
		for i, s := range l {
			if got := d.Read(i); got != filled(s) {
				t.Errorf("%s: sector %d: %q, not %q", what, i, got, filled(s))
			}
		}
		d.Crash(nil, 0, 0)
	}
}

func TestCrashOfEachKeep(t *testing.T) {
	for _, x := range []struct {
		keep []bool
		want [3]bool
	}{
		{nil, [3]bool{}},
		{[]bool{}, [3]bool{}},
		{[]bool{false}, [3]bool{}},
		{[]bool{true}, [3]bool{true, true, true}},
		{[]bool{true, false}, [3]bool{true, false, true}},
		{[]bool{false, true}, [3]bool{false, true, false}},
		{[]bool{true, false, false}, [3]bool{true, false, false}},
		{[]bool{false, true, false}, [3]bool{false, true, false}},
		{[]bool{false, false, true}, [3]bool{false, false, true}},
		{[]bool{false, false, true, true, true}, [3]bool{false, false, true}},
		{[]bool{false, false, false, true}, [3]bool{}},
	} {
		want := []string{"aaaa", "bbbb", full("c"), "dddd"}
		for k, i := range []int{0, 2, 3} {
			if x.want[k] {
				want[i] = []string{full("A"), "", "CC", "DD"}[i]
			}
		}
		for _, torn := range []int{math.MinInt, -1, 3, 4, math.MaxInt} {
			d := crashed(t, x.keep, torn, 32)
			wantSectors(t, fmt.Sprint(x.keep, torn), d, want...)
		}
	}
}

func TestCrashThatTears(t *testing.T) {
	sure := []string{filled("aaaa"), full("c"), filled("dddd")}
	last := []string{full("A"), filled("CC"), filled("DD")}
	for _, keep := range [][]bool{nil, {false}, {true}} {
		for torn := range 3 {
			for _, cut := range []int{math.MinInt, -1, 0, 1, 2, 3, 4, 5, 63, 64, 65, 128, math.MaxInt} {
				n := max(0, min(64, cut))
				got := slices.Clone(sure)
				if len(keep) > 0 && keep[0] {
					got = slices.Clone(last)
				}
				got[torn] = last[torn][:n] + sure[torn][n:]
				d := crashed(t, keep, torn, cut)
				wantSectors(t, fmt.Sprint(keep, torn, cut), d, got[0], "bbbb", got[1], got[2])
			}
		}
	}
}

// The k-th sector's keep is counted over all unsure ones, the torn one too.
func TestTheTornSectorHasItsPlace(t *testing.T) {
	d := crashed(t, []bool{true, false}, 0, 1)
	wantSectors(t, "torn at 0", d, "Aaaa", "bbbb", full("c"), "DD")
	d = crashed(t, []bool{true, false}, 1, 1)
	wantSectors(t, "torn at 1", d, full("A"), "bbbb", "C"+full("c")[1:], "DD")
}

// What a crash left is sure: it is what the next one goes back to.
func TestWhatACrashLeftIsSure(t *testing.T) {
	d := written(t, 2, "aaaa", "bbbb")
	writeAll(t, d, "AAAA", "BBBB")
	d.Crash([]bool{true}, 1, 2)
	wantState(t, d, 5)
	writeAll(t, d, "xxxx", "yyyy")
	wantState(t, d, 7, 0, 1)
	d.Crash(nil, 0, 3)
	wantSectors(t, "twice", d, "xxxA", "BBbb")
}

func TestExample(t *testing.T) {
	d := device.New(1)
	d.Write(0, "a")
	d.Sync()
	d.Write(0, "b")
	d.Crash(nil, -1, 0)
	wantRead(t, d, 0, filled("a"))
}

// R7: a device that isn't there.
func TestNil(t *testing.T) {
	var d *device.Device
	for _, i := range []int{math.MinInt, -1, 0, 1, math.MaxInt} {
		for _, s := range []string{"", "a", full("a"), full("a") + "a"} {
			wantErr(t, "Write", d.Write(i, s), api.ErrArg)
		}
		if s := d.Read(i); s != "" {
			t.Errorf("Read: %q", s)
		}
		d.Stop(i)
		d.Crash([]bool{true}, i, i)
		d.Crash(nil, i, i)
	}
	wantErr(t, "Sync", d.Sync(), api.ErrArg)
	if d.Size() != 0 || d.Calls() != 0 || len(d.Unsure()) != 0 {
		t.Error(d.Size(), d.Calls(), d.Unsure())
	}
}

// R4: nothing that is handed in is changed or kept, and what is answered is the caller's own.
func TestMemory(t *testing.T) {
	d := device.New(3)
	writeAll(t, d, "a", "b", "c")
	l := d.Unsure()
	l[0], l[1], l[2] = 9, 9, 9
	wantState(t, d, 3, 0, 1, 2)
	before := d.Read(0)
	keep := []bool{true, false, true}
	d.Crash(keep, 2, 0)
	if !slices.Equal(keep, []bool{true, false, true}) {
		t.Error("keep is changed")
	}
	keep[0], keep[1] = false, true
	wantSectors(t, "behind", d, "a", "", "")
	d.Write(0, "x")
	d.Sync()
	if before != filled("a") {
		t.Errorf("an answer has changed: %q", before)
	}
}

// R6: devices know nothing of each other.
func TestDevicesAreApart(t *testing.T) {
	a, b := device.New(1), device.New(1)
	a.Write(0, "a")
	a.Stop(0)
	wantErr(t, "Write", b.Write(0, "b"), api.OK)
	wantRead(t, a, 0, filled("a"))
	wantRead(t, b, 0, filled("b"))
	b.Crash(nil, -1, 0)
	wantErr(t, "Sync", a.Sync(), api.ErrCrash)
	wantState(t, a, 2, 0)
	wantState(t, b, 1)
}
