package timers

// timer is a number that is set for a time.
type timer struct {
	till int64
	id   int
	// place is where it waits: who is set again, or dropped, is moved from there.
	place int
}

// ahead says whether x is due ahead of y.
func (x *timer) ahead(y *timer) bool {
	if x.till != y.till {
		return x.till < y.till
	}
	return x.id < y.id
}

// waiting is timers as container/heap keeps them, the first one at 0.
type waiting []*timer

func (w waiting) Len() int { return len(w) }

func (w waiting) Less(i, j int) bool { return w[i].ahead(w[j]) }

func (w waiting) Swap(i, j int) {
	w[i], w[j] = w[j], w[i]
	w[i].place, w[j].place = i, j
}

// Push puts a timer behind the last one.
func (w *waiting) Push(x any) {
	y := x.(*timer)
	y.place = len(*w)
	*w = append(*w, y)
}

// Pop takes the last one.
func (w *waiting) Pop() any {
	last := len(*w) - 1
	x := (*w)[last]
	// Else what is gone would be kept behind the list's end.
	(*w)[last] = nil
	*w = (*w)[:last]
	return x
}
