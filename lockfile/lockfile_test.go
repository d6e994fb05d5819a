package lockfile

import (
	"slices"
	"strings"
	"testing"

	"bindery/api"
)

var digest = strings.Repeat("0123456789abcdef", 4)

func locked(name string) api.Locked { return api.Locked{Name: name, Version: "1", Digest: digest} }

func TestThereAndBack(t *testing.T) {
	l := []api.Locked{locked("a"), locked("ab"), {Name: "b", Version: "v1.0-rc_2", Digest: strings.Repeat("f", 64)}}
	want := "a 1 " + digest + "\nab 1 " + digest + "\nb v1.0-rc_2 " + strings.Repeat("f", 64) + "\n"
	s, no, at := Print(l)
	if s != want || no != api.OK || at != 0 {
		t.Errorf("Print(%v) = %q, %d, %d", l, s, no, at)
	}
	if back, no, at := Read(s); !slices.Equal(back, l) || no != api.OK || at != 0 {
		t.Errorf("Read(%q) = %v, %d, %d", s, back, no, at)
	}
}

func TestReadTellsTheFirstWrongLine(t *testing.T) {
	a, b := "a 1 "+digest+"\n", "b 1 "+digest+"\n"
	for _, c := range []struct {
		s  string
		at int
	}{
		{"\n", 1}, {a[:len(a)-1], 1}, {" " + a, 1}, {a + a, 2}, {b + a, 2}, {a + b + "\n", 3}, {a + "x\n" + b + "y\n", 2}, {a + b[:len(b)-1], 2},
	} {
		if l, no, at := Read(c.s); l != nil || no != api.ErrLine || at != c.at {
			t.Errorf("Read(%q) = %v, %d, %d, want %d", c.s, l, no, at, c.at)
		}
	}
}

// A line is read by its first two spaces: what is too much or missing makes a part that may not be.
func TestReadLineOfWrongLines(t *testing.T) {
	for _, line := range []string{"", " ", "  ", "   ", "a", "a 1", "a 1 ", "a  1 " + digest, " a 1 " + digest, "a 1  " + digest, "a 1 " + digest + " ", "a 1 " + digest + " x"} {
		if m := readLine(line); mayFollow(nil, m) {
			t.Errorf("%q is no line: %v", line, m)
		}
	}
}

func TestMayFollow(t *testing.T) {
	var ahead []api.Locked
	for i := range api.MaxLocked {
		m := locked(string(rune('a' + i)))
		if !mayFollow(ahead, m) {
			t.Errorf("%v may follow %v", m, ahead)
		}
		ahead = append(ahead, m)
		if mayFollow(ahead, m) || mayFollow(ahead, locked("A")) {
			t.Errorf("names rise")
		}
	}
	if mayFollow(ahead, locked("z")) {
		t.Errorf("there may be no eleventh")
	}
	for _, m := range []api.Locked{{}, locked(""), locked(".."), {Name: "a", Digest: digest}, {Name: "a", Version: "1"}, {Name: "a", Version: "1", Digest: digest[1:]}} {
		if mayFollow(nil, m) {
			t.Errorf("%v may not be", m)
		}
	}
}
