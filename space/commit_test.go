package space_test

import (
	"fmt"
	"math"
	"slices"
	"testing"

	"factotum/api"
	"factotum/cache"
	"factotum/pager"
	"factotum/space"
)

func TestCommitOfNone(t *testing.T) {
	b := newBench(t, 5, 2)
	b.put(3, page("three"))
	b.put(0, bits(3)+head("h"))
	was, calls, commits := b.stored(), b.d.Calls(), b.p.Commits()
	w := b.begin()
	wantErr(t, "Commit of a new work", w.Commit(), api.OK)
	wantNothing(t, "over", w, api.ErrState)
	w = b.begin()
	wantTake(t, "one", w, 1, api.OK)
	wantErr(t, "Write", w.Write(1, page("x")), api.OK)
	wantErr(t, "Write", w.Write(3, page("three")), api.OK)
	wantErr(t, "Drop", w.Drop(1), api.OK)
	wantErr(t, "Commit of what is as it was", w.Commit(), api.OK)
	wantNothing(t, "over", w, api.ErrState)
	if b.p.Commits() != commits || b.d.Calls() != calls {
		t.Errorf("%d commits, %d calls, of nothing", b.p.Commits()-commits, b.d.Calls()-calls)
	}
	b.wantStored("of nothing", was)
}

func TestCommit(t *testing.T) {
	for _, size := range []int{0, 1, 2, 64} {
		b := newBench(t, 6, size)
		b.fill("old")
		b.put(0, bits(1, 2, 3)+head("h"))
		was, commits := b.stored(), b.p.Commits()
		w := b.begin()
		wantErr(t, "Write", w.Write(2, page("two")), api.OK)
		wantErr(t, "Drop", w.Drop(3), api.OK)
		wantTake(t, "three", w, 3, api.OK)
		wantTake(t, "four", w, 4, api.OK)
		wantErr(t, "Write", w.Write(4, page("four")), api.OK)
		wantErr(t, "Drop", w.Drop(1), api.OK)
		wantErr(t, "SetHead", w.SetHead("new"), api.OK)
		wantChanged(t, "ahead", w, 0, 2, 3, 4)
		b.wantStored("ahead of the commit", was)
		wantErr(t, "Commit", w.Commit(), api.OK)
		if b.p.Commits() != commits+1 {
			t.Errorf("%d commits", b.p.Commits()-commits)
		}
		b.wantStored("behind it", []string{bits(2, 3, 4) + withZeros("new", 236), page("old1"), page("two"), zeros, page("four"), page("old5")})
		wantNothing(t, "over", w, api.ErrState)
		b.wantStored("over", []string{bits(2, 3, 4) + withZeros("new", 236), page("old1"), page("two"), zeros, page("four"), page("old5")})
		w = b.begin()
		wantUsed(t, "another", w, 4)
		wantChanged(t, "another", w)
		wantPage(t, "another", w, 1, "", api.ErrIndex)
		wantPage(t, "another", w, 2, page("two"), api.OK)
		wantPage(t, "another", w, 3, zeros, api.OK)
	}
}

// TestCommitOfManyPages: 31 changed pages are committed together; with 32 the work goes on, and can be committed when it has changed fewer.
func TestCommitOfManyPages(t *testing.T) {
	b := newBench(t, 40, 16)
	w := b.begin()
	for n := 1; n < 32; n++ {
		wantTake(t, "many", w, n, api.OK)
		wantErr(t, "Write", w.Write(n, page(fmt.Sprint("m", n))), api.OK)
	}
	k := w.Save()
	wantChanged(t, "32", w, upTo(0, 31)...)
	was, calls, before := b.stored(), b.d.Calls(), b.look(w)
	wantErr(t, "Commit of 32", w.Commit(), api.ErrLong)
	wantErr(t, "Commit of 32, again", w.Commit(), api.ErrLong)
	wantLook(t, "behind a commit of 32", b.look(w), before)
	b.wantStored("behind a commit of 32", was)
	wantTake(t, "33", w, 32, api.OK)
	wantErr(t, "Write", w.Write(32, page("m32")), api.OK)
	wantErr(t, "Commit of 33", w.Commit(), api.ErrLong)
	if b.d.Calls() != calls {
		t.Error("commits of too many called the device")
	}
	wantErr(t, "Back: notes stay, too", w.Back(k), api.OK)
	wantLook(t, "back", b.look(w), before)
	wantErr(t, "Write", w.Write(17, zeros), api.OK)
	wantChanged(t, "31", w, slices.Concat(upTo(0, 16), upTo(18, 31))...)
	wantErr(t, "Commit of 31", w.Commit(), api.OK)
	wantNothing(t, "over", w, api.ErrState)
	want := []string{bits(upTo(1, 31)...) + zeros[20:]}
	for n := 1; n < 40; n++ {
		s := page(fmt.Sprint("m", n))
		if n == 17 || n > 31 {
			s = zeros
		}
		want = append(want, s)
	}
	b.wantStored("31", want)
}

// TestCommitThatCrashes stands still at each call of a commit: the work is over, the cache reads what it read ahead, and behind the crash all has happened or nothing.
func TestCommitThatCrashes(t *testing.T) {
	const changes = 3
	for at := range 8*changes + 7 {
		what := fmt.Sprint("call ", at)
		b := newBench(t, 4, 2)
		b.fill("old")
		b.put(0, bits(1)+head("h"))
		was := b.stored()
		w, other, third := b.begin(), b.begin(), b.begin()
		wantErr(t, what, w.Write(1, page("one")), api.OK)
		wantTake(t, what, w, 2, api.OK)
		wantChanged(t, what, w, 0, 1, 2)
		wantErr(t, what, other.Write(1, page("other")), api.OK)
		b.d.Stop(at)
		wantErr(t, what, w.Commit(), api.ErrCrash)
		wantNothing(t, what, w, api.ErrState)
		b.wantStored(what, was)
		// The pager commits nothing more, whoever asks.
		wantErr(t, what+", of another", other.Commit(), api.ErrState)
		wantNothing(t, what+", of another", other, api.ErrState)
		wantErr(t, what+", of none", third.Commit(), api.ErrState)
		wantNothing(t, what+", of none", third, api.ErrState)
		b.wantStored(what, was)
		b.d.Crash([]bool{at%2 == 0, at%3 == 0}, at%5, at)
		p, e := pager.Open(b.d, 4)
		wantErr(t, what, e, api.OK)
		s, _ := p.Read(0)
		two, _ := p.Read(2)
		if one, _ := p.Read(1); s == was[0] && (one != was[1] || two != was[2]) || s != was[0] && (s != bits(1, 2)+head("h") || one != page("one") || two != zeros) {
			t.Errorf("%s: behind the crash: %.12q, %.12q, %.12q", what, s, one, two)
		}
	}
}

// TestWorkOnADeadPager: work may still begin, and reads what the cache reads; only its commit isn't made, ErrState ahead of ErrLong.
func TestWorkOnADeadPager(t *testing.T) {
	b := newBench(t, 40, 2)
	b.put(0, bits(1)+head("h"))
	b.d.Stop(0)
	w := b.begin()
	wantErr(t, "SetHead", w.SetHead("x"), api.OK)
	wantErr(t, "Commit", w.Commit(), api.ErrCrash)
	w = b.begin()
	wantHead(t, "behind it", w, head("h"))
	wantUsed(t, "behind it", w, 2)
	for n := 2; n < 40; n++ {
		wantTake(t, "behind it", w, n, api.OK)
		wantErr(t, "Write", w.Write(n, page("x")), api.OK)
	}
	wantErr(t, "Commit of 39", w.Commit(), api.ErrState)
	wantNothing(t, "over", w, api.ErrState)
}

func TestSaveAndBack(t *testing.T) {
	b := newBench(t, 6, 2)
	b.fill("old")
	b.put(0, bits(1, 2)+head("h"))
	w := b.begin()
	for _, k := range []int{math.MinInt, -1, 0, 1, math.MaxInt} {
		wantErr(t, fmt.Sprint("Back of ", k, ", none was noted"), w.Back(k), api.ErrIndex)
	}
	var looks []look
	note := func(want int) {
		t.Helper()
		looks = append(looks[:want], b.look(w))
		if k := w.Save(); k != want {
			t.Errorf("Save is %d, not %d", k, want)
		}
	}
	note(0)
	wantErr(t, "Write", w.Write(1, page("a")), api.OK)
	wantErr(t, "SetHead", w.SetHead("a"), api.OK)
	note(1)
	wantErr(t, "Drop", w.Drop(1), api.OK)
	wantTake(t, "1 again", w, 1, api.OK)
	wantTake(t, "3", w, 3, api.OK)
	wantErr(t, "Write", w.Write(3, page("b")), api.OK)
	note(2)
	note(3)
	wantErr(t, "Drop", w.Drop(3), api.OK)
	wantErr(t, "Drop", w.Drop(2), api.OK)
	note(4)
	wantErr(t, "Write", w.Write(1, page("c")), api.OK)
	for _, k := range []int{math.MinInt, -5, -1, 5, 6, math.MaxInt} {
		before := b.look(w)
		wantErr(t, fmt.Sprint("Back of ", k), w.Back(k), api.ErrIndex)
		wantLook(t, fmt.Sprint("Back of ", k), b.look(w), before)
	}
	back := func(k int) {
		t.Helper()
		wantErr(t, fmt.Sprint("Back of ", k), w.Back(k), api.OK)
		wantLook(t, fmt.Sprint("Back of ", k), b.look(w), looks[k])
	}
	back(4)
	back(4)
	back(2)
	for _, k := range []int{3, 4, 5} {
		wantErr(t, fmt.Sprint("Back of ", k, ", which is gone"), w.Back(k), api.ErrIndex)
	}
	wantLook(t, "notes that are gone", b.look(w), looks[2])
	wantErr(t, "Write", w.Write(3, page("d")), api.OK)
	wantErr(t, "SetHead", w.SetHead(""), api.OK)
	back(2)
	wantErr(t, "SetHead", w.SetHead("e"), api.OK)
	note(3)
	wantErr(t, "Write", w.Write(2, page("f")), api.OK)
	back(3)
	wantErr(t, "Back of 4, which is gone", w.Back(4), api.ErrIndex)
	back(0)
	wantErr(t, "Back of 1, which is gone", w.Back(1), api.ErrIndex)
	wantChanged(t, "all is as at first", w)
	wantErr(t, "Write", w.Write(2, page("g")), api.OK)
	note(1)
	back(0)
	back(0)
	wantErr(t, "Commit", w.Commit(), api.OK)
}

// TestNotesAreAWorksOwn: notes are of one work, and begin anew with the next.
func TestNotesAreAWorksOwn(t *testing.T) {
	b := newBench(t, 4, 2)
	v, w := b.begin(), b.begin()
	for k := range 3 {
		if n := v.Save(); n != k {
			t.Errorf("Save is %d, not %d", n, k)
		}
	}
	wantErr(t, "Back of another work's note", w.Back(0), api.ErrIndex)
	if n := w.Save(); n != 0 {
		t.Errorf("Save is %d, not 0", n)
	}
	wantErr(t, "Commit", v.Commit(), api.OK)
	wantErr(t, "Back", w.Back(0), api.OK)
	if n := b.begin().Save(); n != 0 {
		t.Errorf("Save of a new work is %d, not 0", n)
	}
}

// TestManyNotes: notes and ways back, one within the other.
func TestManyNotes(t *testing.T) {
	b := newBench(t, 3, 2)
	w := b.begin()
	wantTake(t, "one", w, 1, api.OK)
	const notes = 20000
	for k := range notes {
		if n := w.Save(); n != k {
			t.Fatalf("Save is %d, not %d", n, k)
		}
		w.Write(1, page(fmt.Sprint(k)))
	}
	for k := notes - 1; k > 0; k -= 37 {
		wantErr(t, "Back", w.Back(k), api.OK)
		wantPage(t, fmt.Sprint("back to ", k), w, 1, page(fmt.Sprint(k-1)), api.OK)
	}
	wantErr(t, "Back", w.Back(0), api.OK)
	wantPage(t, "back to 0", w, 1, zeros, api.OK)
}

// TestTwoWorks: what a work changes is its own till it is committed, and what another one commits doesn't change it.
func TestTwoWorks(t *testing.T) {
	for _, size := range []int{0, 1, 16} {
		b := newBench(t, 6, size)
		b.fill("old")
		b.put(0, bits(1, 2)+head("h"))
		v, w := b.begin(), b.begin()
		wantTake(t, "the one", v, 3, api.OK)
		wantErr(t, "the one", v.Write(3, page("v3")), api.OK)
		wantErr(t, "the one", v.Write(1, page("v1")), api.OK)
		wantErr(t, "the one", v.SetHead("v"), api.OK)
		wantUsed(t, "the other", w, 3)
		wantPage(t, "the other", w, 1, page("old1"), api.OK)
		wantPage(t, "the other", w, 3, "", api.ErrIndex)
		wantHead(t, "the other", w, head("h"))
		wantErr(t, "the other", w.Write(2, page("w2")), api.OK)
		k := w.Save()
		wantTake(t, "the other", w, 3, api.OK)
		wantErr(t, "the other", w.Write(3, page("w3")), api.OK)
		wantErr(t, "the one", v.Commit(), api.OK)
		wantNothing(t, "the one", v, api.ErrState)
		committed := []string{bits(1, 2, 3) + withZeros("v", 236), page("v1"), page("old2"), page("v3"), page("old4"), page("old5")}
		b.wantStored("the one", committed)

		wantUsed(t, "the other, behind", w, 4)
		wantHead(t, "the other, behind", w, head("h"))
		for n, s := range []string{page("old1"), page("w2"), page("w3")} {
			wantPage(t, "the other, behind", w, n+1, s, api.OK)
		}
		wantChanged(t, "the other: what isn't what the cache reads now", w, 0, 1, 2, 3)
		wantErr(t, "the other", w.Back(k), api.OK)
		wantUsed(t, "the other, back", w, 3)
		wantPage(t, "the other, back", w, 1, page("old1"), api.OK)
		wantPage(t, "the other, back", w, 2, page("w2"), api.OK)
		wantPage(t, "the other, back", w, 3, "", api.ErrIndex)
		wantTake(t, "the other, back", w, 3, api.OK)
		wantPage(t, "the other, back", w, 3, zeros, api.OK)

		third := b.begin()
		wantTake(t, "one that begins behind the commit", third, 4, api.OK)
		wantPage(t, "one that begins behind the commit", third, 3, page("v3"), api.OK)
		b.wantStored("nothing more was committed", committed)
		wantErr(t, "the other", w.Commit(), api.OK)
		b.wantStored("the other", []string{bits(1, 2, 3) + head("h"), page("old1"), page("w2"), zeros, page("old4"), page("old5")})
	}
}

// TestOpenedAgain: what was committed is there for who opens the device again, what wasn't isn't.
func TestOpenedAgain(t *testing.T) {
	b := newBench(t, 9, 2)
	w := b.begin()
	for n := 1; n < 9; n++ {
		wantTake(t, "all", w, n, api.OK)
	}
	wantErr(t, "Write", w.Write(8, page("eight")), api.OK)
	wantErr(t, "Drop", w.Drop(7), api.OK)
	wantErr(t, "Commit", w.Commit(), api.OK)
	w = b.begin()
	wantTake(t, "not committed", w, 7, api.OK)
	b.d.Crash(nil, 0, 0)
	p, e := pager.Open(b.d, 9)
	wantErr(t, "Open", e, api.OK)
	w, e = space.Begin(cache.New(p, 2))
	wantErr(t, "Begin", e, api.OK)
	wantUsed(t, "opened again", w, 8)
	wantPage(t, "opened again", w, 8, page("eight"), api.OK)
	wantTake(t, "opened again", w, 7, api.OK)
}
