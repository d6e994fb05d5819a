package bindery_test

import (
	"math/rand"
	"slices"
	"strings"
	"sync"
	"testing"

	"bindery/api"
	"bindery/bindery"
)

// checkRecover plays the acts, and looks behind each of them.
func checkRecover(t *testing.T, disk ...api.Entry) {
	t.Helper()
	guarded(t, disk, func(disk []api.Entry) {
		t.Helper()
		acts, no := bindery.Recover(disk)
		if !modelIsDisk(disk) {
			if len(acts) != 0 || no != api.ErrTree {
				t.Errorf("P13: Recover(%s) = %v, %d, want %d", brief(disk), acts, no, api.ErrTree)
			}
			return
		}
		if no != api.OK {
			t.Fatalf("P13: Recover(%s) = %v, %d", brief(disk), acts, no)
		}
		rest := without(disk, "stage")
		last := play(t, disk, acts, func(now []api.Entry) {
			if !slices.Equal(without(now, "stage"), rest) {
				t.Fatalf("P13: outside of stage there was %s, and is %s", brief(rest), brief(without(now, "stage")))
			}
		})
		if len(last) != len(rest) {
			t.Errorf("P13: behind %v there is %s", acts, brief(standsAt(last, "stage")))
		}
	})
}

func TestRecoverOfAllThatMayBeAtStage(t *testing.T) {
	r := rand.New(rand.NewSource(130))
	for _, stage := range stages() {
		checkRecover(t, stage...)
		checkRecover(t, append(slices.Clone(stage), some...)...)
		checkRecover(t, append(moved("vendor/a", some...), stage...)...)
		for range 20 {
			checkRecover(t, shuffled(r, append(moved("vendor/a", some...), stage...))...)
		}
	}
}

func TestRecoverInEveryOrder(t *testing.T) {
	allOrders(moved("stage/a", file("a", ""), dir("b"), file("b/a", ""), dir("b/b")), func(disk []api.Entry) { checkRecover(t, disk...) })
}

func TestRecoverHasNoActsIfNothingIsAtStage(t *testing.T) {
	for _, disk := range [][]api.Entry{
		nil, some, rows(200), moved("vendor/a", some...), moved("vendor/stage", some...), moved("a/stage", some...), {file("vendor", "")},
		moved("stage.", some...), moved("stages", some...), moved("stag", some...), moved("Stage", some...), moved("stage-", some...), {file("stages", "x"), dir("stage_")},
	} {
		checkRecover(t, disk...)
		if acts, no := bindery.Recover(disk); len(acts) != 0 || no != api.OK {
			t.Errorf("P13: Recover(%s) = %v, %d", brief(disk), acts, no)
		}
	}
}

// What has a name like stage stays as it is.
func TestRecoverOfNamesLikeStage(t *testing.T) {
	like := slices.Concat(moved("stage.", some...), moved("stages", some...), moved("Stage", some...), moved("stage0", some...), []api.Entry{file("stag", "x"), dir("stage-"), file("stage-/stage", "x")})
	for _, stage := range stages() {
		checkRecover(t, append(slices.Clone(like), stage...)...)
	}
}

func TestRecoverOfADiskAsGreatAsMayBe(t *testing.T) {
	checkRecover(t, moved("stage", rows(198)...)...)
	checkRecover(t, moved("stage", rows(199)...)...)
	checkRecover(t, moved("stage", rows(200)...)...)
	checkRecover(t, moved("stage", filled(rows(199), 40000)...)...)
	checkRecover(t, moved("stage", filled(rows(1), 40001)...)...)
	checkRecover(t, file("stage", strings.Repeat("x", 40000)))
	checkRecover(t, file("stage", strings.Repeat("x", 40001)))
	checkRecover(t, append(moved("stage", filled(rows(99), 20000)...), filled(rows(100), 20000)...)...)
	checkRecover(t, append(rows(199), dir("stage"))...)
	checkRecover(t, append(rows(200), dir("stage"))...)
}

func TestRecoverOfADiskThatIsNone(t *testing.T) {
	for _, l := range [][]api.Entry{
		{file("x/y", "")}, {file("stage/y", "")}, {file("stage", ""), file("stage/y", "")}, {dir("stage"), dir("stage")}, {dir("stage"), file("stage", "")}, {{Path: "stage", Dir: true, Body: "x"}},
		{file("", "")}, {dir("stage"), file("stage/", "")}, {dir("stage"), dir("stage/..")}, {dir("stage"), file("stage/seventeen_bytes17", "")}, make([]api.Entry, 1000000),
	} {
		checkRecover(t, l...)
		if acts, no := bindery.Recover(l); len(acts) != 0 || no != api.ErrTree {
			t.Errorf("P13: Recover(%s) = %v, %d, want %d", brief(l), acts, no, api.ErrTree)
		}
		// What is wrong may also stand last.
		checkRecover(t, append(rows(150), l...)...)
	}
}

// A crash may come while it recovers, too.
func TestRecoverBehindACrash(t *testing.T) {
	for _, stage := range stages() {
		disk := append(moved("vendor/a", some...), stage...)
		acts, _ := bindery.Recover(disk)
		play(t, disk, acts, func(disk []api.Entry) { checkRecover(t, disk...) })
	}
}

func TestRecoverOfChance(t *testing.T) {
	r := rand.New(rand.NewSource(131))
	count := map[bool]int{}
	for range 1000 {
		disk, _ := someDisk(r)
		disk = shuffled(r, append(disk, moved("stage", fitting("stage", someTree(r, r.Intn(40)))...)...))
		if r.Intn(4) == 0 {
			disk = spoil(r, disk)
		}
		count[modelIsDisk(disk)]++
		checkRecover(t, disk...)
	}
	if count[true] < 100 || count[false] < 100 {
		t.Errorf("too few of a kind: %v", count)
	}
}

func TestRecoverAnswersNewMemory(t *testing.T) {
	disk := moved("stage", some...)
	first, _ := bindery.Recover(disk)
	second, _ := bindery.Recover(disk)
	was := slices.Clone(second)
	first = first[:cap(first)]
	for i := range first {
		first[i] = api.Act{Kind: 77}
	}
	if !slices.Equal(second, was) {
		t.Errorf("P2: %v is changed by writing into another list", second)
	}
	checkRecover(t, disk...)
	none, _ := bindery.Recover(nil)
	_ = append(none, api.Act{Kind: 77})
	checkRecover(t)
}

func TestRecoverHangsOnItsArgumentAlone(t *testing.T) {
	disk := moved("stage", some...)
	want, _ := bindery.Recover(disk)
	bindery.Recover(moved("stage", rows(5)...))
	if again, _ := bindery.Recover(disk); !slices.Equal(again, want) {
		t.Errorf("P2: %v, and again %v", want, again)
	}
	var group sync.WaitGroup
	for k := range 16 {
		group.Go(func() {
			checkRecover(t, moved("stage", rows(k)...)...)
			// All of them read this one.
			if again, no := bindery.Recover(disk); !slices.Equal(again, want) || no != api.OK {
				t.Errorf("P2: %v, and again %v, %d", want, again, no)
			}
		})
	}
	group.Wait()
}
