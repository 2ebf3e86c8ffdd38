package device_test

import (
	"fmt"
	"math"
	"slices"
	"testing"

	"factotum/api"
	"factotum/device"
)

// draws is a row of numbers that look drawn, the same ones each time.
type draws uint64

func (d *draws) next() uint64 {
	*d = *d*6364136223846793005 + 1442695040888963407
	x := uint64(*d)
	return (x ^ x>>29) * 0xbf58476d1ce4e5b9 >> 16
}

func (d *draws) below(n int) int { return int(d.next() % uint64(n)) }

// pick is one of the list.
func pick[T any](d *draws, l ...T) T { return l[d.below(len(l))] }

// text is of few bytes, so that sectors are the same now and then.
func (d *draws) text() string {
	b := make([]byte, pick(d, 0, 1, 2, 3, 32, 63, 64, 64, 65, 200))
	for i := range b {
		b[i] = "ab\x00"[d.below(3)]
	}
	return string(b)
}

// flags are a keep, of any length up to past all sectors.
func (d *draws) flags() []bool {
	if d.below(4) == 0 {
		return nil
	}
	l := make([]bool, d.below(9))
	for i := range l {
		l[i] = d.below(2) == 0
	}
	return l
}

// model is a second reading of the chapter: all that ever was written, sector by sector, byte by byte.
type model struct {
	sure, last []string
	unsure     []bool
	calls      int
	toStop     int // how many calls go well till it stands still; below 0: never
}

func newModel(n int) *model {
	m := &model{toStop: -1, unsure: make([]bool, n)}
	for range n {
		m.sure = append(m.sure, zeros)
		m.last = append(m.last, zeros)
	}
	return m
}

// call is a changing call's beginning: whether it finds that the device stands still.
func (m *model) call() bool {
	m.calls++
	if m.toStop == 0 {
		return true
	}
	if m.toStop > 0 {
		m.toStop--
	}
	return false
}

func (m *model) write(i int, s string) api.Errno {
	switch {
	case m.call():
		return api.ErrCrash
	case i < 0 || i >= len(m.sure):
		return api.ErrIndex
	case len(s) > 64:
		return api.ErrLong
	}
	m.last[i] = filled(s)
	m.unsure[i] = true
	return api.OK
}

func (m *model) sync() api.Errno {
	if m.call() {
		return api.ErrCrash
	}
	m.sure = slices.Clone(m.last)
	m.unsure = make([]bool, len(m.sure))
	return api.OK
}

func (m *model) stop(n int) {
	m.toStop = n
	if n > 1<<40 {
		m.toStop = -1
	}
}

func (m *model) crash(keep []bool, torn, cut int) {
	k := 0
	for i, u := range m.unsure {
		if !u {
			continue
		}
		b := []byte(m.sure[i])
		for at := range b {
			stays := len(keep) > 0 && keep[k%len(keep)]
			if k == torn {
				stays = at < cut
			}
			if stays {
				b[at] = m.last[i][at]
			}
		}
		m.sure[i] = string(b)
		k++
	}
	m.last = slices.Clone(m.sure)
	m.unsure = make([]bool, len(m.sure))
	m.toStop = -1
}

func (m *model) list() []int {
	var l []int
	for i, u := range m.unsure {
		if u {
			l = append(l, i)
		}
	}
	return l
}

// act does one drawn call to both, and tells which.
func act(t *testing.T, w *draws, d *device.Device, m *model) string {
	t.Helper()
	numbers := []int{math.MinInt, -2, -1, 0, 0, 1, 1, 2, 3, 4, 5, 6, 7, 32, 63, 64, 65, 1<<40 - 1, 1 << 40, 1<<40 + 1, math.MaxInt}
	switch k := w.below(20); {
	case k < 12:
		i, s := w.below(len(m.sure)+3)-1, w.text()
		wantErr(t, "Write", d.Write(i, s), m.write(i, s))
		return fmt.Sprintf("Write(%d, %q)", i, s)
	case k < 15:
		wantErr(t, "Sync", d.Sync(), m.sync())
		return "Sync()"
	case k < 17:
		n := pick(w, numbers...)
		d.Stop(n)
		m.stop(n)
		return fmt.Sprintf("Stop(%d)", n)
	case k < 18:
		i := pick(w, numbers...)
		wantErr(t, "Write", d.Write(i, "a"), m.write(i, "a"))
		return fmt.Sprintf("Write(%d)", i)
	default:
		keep, torn, cut := w.flags(), pick(w, numbers...), pick(w, numbers...)
		d.Crash(keep, torn, cut)
		m.crash(keep, torn, cut)
		return fmt.Sprintf("Crash(%v, %d, %d)", keep, torn, cut)
	}
}

// P4.1: in whatever row the calls come, each answers as the chapter says.
func TestRowsOfCalls(t *testing.T) {
	w := draws(1)
	for range 1500 {
		n := w.below(7)
		d, m := device.New(n), newModel(n)
		var row []string
		for range 60 {
			row = append(row, act(t, &w, d, m))
			if d.Size() != n || d.Calls() != m.calls || !slices.Equal(d.Unsure(), m.list()) {
				t.Errorf("%d sectors, %d calls, %v unsure; not %d, %d, %v", d.Size(), d.Calls(), d.Unsure(), n, m.calls, m.list())
			}
			for i := range n {
				wantRead(t, d, i, m.last[i])
			}
			wantRead(t, d, -1, "")
			wantRead(t, d, n, "")
			if t.Failed() {
				t.Fatalf("behind %v", row)
			}
		}
	}
}

// mixed says whether each byte of s is that of a or that of b.
func mixed(s, a, b string) bool {
	if len(s) != len(a) {
		return false
	}
	for i := range len(s) {
		if s[i] != a[i] && s[i] != b[i] {
			return false
		}
	}
	return true
}

// P4.2: of whatever crash, held against nothing but what was read ahead of it.
func TestWhatACrashMayLeave(t *testing.T) {
	w := draws(2)
	numbers := []int{math.MinInt, -1, 0, 1, 2, 3, 4, 5, 31, 64, 65, math.MaxInt}
	for range 4000 {
		n := 1 + w.below(8)
		d := device.New(n)
		sure := slices.Repeat([]string{zeros}, n)
		for range 1 + w.below(4) {
			for range w.below(6) {
				d.Write(w.below(n), w.text())
			}
			if w.below(3) == 0 {
				d.Stop(w.below(3))
			}
			if w.below(2) == 0 && d.Sync() == api.OK {
				sure = readAll(d)
			}
			for range w.below(6) {
				d.Write(w.below(n), w.text())
			}
			last, unsure := readAll(d), d.Unsure()
			d.Crash(w.flags(), pick(&w, numbers...), pick(&w, numbers...))
			left := readAll(d)
			for i := range n {
				if !slices.Contains(unsure, i) && left[i] != sure[i] {
					t.Fatalf("sector %d was sure as %q, and is %q", i, sure[i], left[i])
				}
				if !mixed(left[i], sure[i], last[i]) {
					t.Fatalf("sector %d was sure as %q, written as %q, and is %q", i, sure[i], last[i], left[i])
				}
			}
			sure = left
		}
	}
}

func readAll(d *device.Device) []string {
	var l []string
	for i := range d.Size() {
		l = append(l, d.Read(i))
	}
	return l
}

// P4.2: what is sure, and isn't written again, no crash touches, however often.
func TestWhatIsSureStays(t *testing.T) {
	w := draws(3)
	d := device.New(64)
	for i := range 64 {
		d.Write(i, fmt.Sprint("sure ", i))
	}
	wantErr(t, "Sync", d.Sync(), api.OK)
	for k := range 2000 {
		for range w.below(5) {
			d.Write(32+w.below(32), w.text())
		}
		if k%7 == 0 {
			d.Sync()
		}
		if k%5 == 0 {
			d.Stop(w.below(4))
		}
		d.Crash(w.flags(), w.below(8)-2, w.below(70)-3)
		for i := range 32 {
			if got := d.Read(i); got != filled(fmt.Sprint("sure ", i)) {
				t.Fatalf("sector %d behind %d crashes: %q", i, k+1, got)
			}
		}
	}
}

// W0: whatever the arguments, each call ends, on a device that New didn't make too.
func TestNoCallPanics(t *testing.T) {
	numbers := []int{math.MinInt, math.MinInt + 1, -4097, -1, 0, 1, 2, 63, 64, 65, 4095, 4096, 4097, 1 << 40, 1<<40 + 1, math.MaxInt - 1, math.MaxInt}
	devices := []*device.Device{nil, new(device.Device)}
	for _, n := range numbers {
		devices = append(devices, device.New(n))
	}
	w := draws(4)
	for range 20000 {
		d := pick(&w, devices...)
		d.Write(pick(&w, numbers...), w.text())
		d.Write(w.below(4096), w.text())
		d.Read(pick(&w, numbers...))
		d.Size()
		d.Calls()
		if w.below(8) == 0 {
			d.Unsure()
			d.Sync()
			d.Stop(pick(&w, numbers...))
		}
		if w.below(8) == 0 {
			d.Crash(w.flags(), pick(&w, numbers...), pick(&w, numbers...))
		}
	}
}
