package place

import (
	"slices"
	"testing"

	"bindery/api"
	"bindery/sum"
)

func TestStanding(t *testing.T) {
	digest := sum.Of("fx")
	good := sum.Text(sum.Of("dfn/" + string(digest[:])))
	disk := []api.Entry{
		{Path: "vendor/a/n", Body: "x"}, {Path: "vendor", Dir: true}, {Path: "vendor/a", Dir: true},
		{Path: "vendor/b", Body: "x"}, {Path: "vendor/c", Dir: true}, {Path: "vendor/c/n", Body: "y"}, {Path: "d", Dir: true}, {Path: "d/n", Body: "x"},
	}
	was := slices.Clone(disk)
	modules := []api.Locked{{Name: "a", Digest: good}, {Name: "b", Digest: good}, {Name: "c", Digest: good}, {Name: "d", Digest: good}}
	if got, want := Standing(disk, modules), []int{api.Good, api.Wrong, api.Wrong, api.Absent}; !slices.Equal(got, want) || !slices.Equal(disk, was) {
		t.Errorf("%v, want %v", got, want)
	}
	if got := Standing(disk, nil); len(got) != 0 {
		t.Errorf("%v", got)
	}
}

func TestHasDigestOfTooMuch(t *testing.T) {
	if !hasDigest(nil, sum.Text(sum.Of("d"))) || hasDigest(nil, "") {
		t.Errorf("of nothing it is the sum of d")
	}
	if hasDigest(make([]api.Entry, api.MaxEntries+1), "") {
		t.Errorf("what is no tree has no digest")
	}
}
