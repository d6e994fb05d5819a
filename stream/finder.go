package stream

// maxTries bounds how many places are held against one, so that no text takes long.
const maxTries = 64

// start is the first bytes of a repetition.
type start [minLength]byte

// finder finds where the bytes of a text came before. No place of a text of MaxStream bytes is too far back.
type finder struct {
	text   string
	latest map[start]int // the place, from 1 on, at which these bytes were passed last
	before []int         // of each place, the one (from 1 on) ahead of it that begins alike, or 0
}

func newFinder(text string) *finder {
	return &finder{text: text, latest: map[start]int{}, before: make([]int, len(text))}
}

func (f *finder) startAt(at int) start {
	return start{f.text[at], f.text[at+1], f.text[at+2]}
}

// pass notes the places from at to end, so that they are found from now on.
func (f *finder) pass(at, end int) {
	for ; at < end && at+minLength <= len(f.text); at++ {
		s := f.startAt(at)
		f.before[at] = f.latest[s]
		f.latest[s] = at + 1
	}
}

// longest tells how many bytes from at on came before, and how far back; none, if there are fewer than a repetition has.
func (f *finder) longest(at int) (length, back int) {
	if at+minLength > len(f.text) {
		return 0, 0
	}
	place := f.latest[f.startAt(at)]
	for range maxTries {
		if place == 0 || length == maxLength {
			break
		}
		from := place - 1
		if n := f.alike(from, at); n > length {
			length, back = n, at-from
		}
		place = f.before[from]
	}
	return length, back
}

// alike tells how many bytes are the same from both places on, as far as a repetition can go.
func (f *finder) alike(from, at int) int {
	n := 0
	for n < maxLength && at+n < len(f.text) && f.text[from+n] == f.text[at+n] {
		n++
	}
	return n
}
