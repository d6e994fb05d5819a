package bindery_test

import (
	"crypto/sha256"
	"encoding/hex"
	"strings"
	"sync"
	"testing"

	"bindery/bindery"
)

func libSum(s string) string {
	sum := sha256.Sum256([]byte(s))
	return hex.EncodeToString(sum[:])
}

func checkSum(t *testing.T, what, s string) {
	t.Helper()
	if got, want := bindery.Sum(s), libSum(s); got != want {
		t.Errorf("P3: Sum of %s = %q, want %q", what, got, want)
	}
}

// The answers stand here as the standard's examples print them, so that this does not lean on the library.
func TestSumOfKnownTexts(t *testing.T) {
	known := []struct{ name, text, want string }{
		{"nothing", "", "e3b0c44298fc1c149afbf4c8996fb92427ae41e4649b934ca495991b7852b855"},
		{"example 1", "abc", "ba7816bf8f01cfea414140de5dae2223b00361a396177a9cb410ff61f20015ad"},
		{"56 letters", "abcdbcdecdefdefgefghfghighijhijkijkljklmklmnlmnomnopnopq",
			"248d6a61d20638b8e5c026930c3e6039a33ce45964ff2167f6ecedd419db06c1"},
		{"112 letters", "abcdefghbcdefghicdefghijdefghijkefghijklfghijklmghijklmn" +
			"hijklmnoijklmnopjklmnopqklmnopqrlmnopqrsmnopqrstnopqrstu",
			"cf5b16a778af8380036ce59e7b0492370b249b11e8f07a51afac45037afee9d1"},
		{"a million a", strings.Repeat("a", 1000000),
			"cdc76e5c9914fb9281a1c7e284d73e67f1809a48a497200e046d39ccc7112cd0"},
	}
	for _, k := range known {
		if got := bindery.Sum(k.text); got != k.want {
			t.Errorf("P3: Sum of %s = %q, want %q", k.name, got, k.want)
		}
	}
}

func TestSumAroundBlocksAndPadding(t *testing.T) {
	for _, n := range []int{1, 54, 55, 56, 57, 62, 63, 64, 65, 118, 119, 120, 121, 127, 128, 129, 183, 184, 191, 192, 193} {
		checkSum(t, "letters", strings.Repeat("q", n))
		checkSum(t, "zero bytes", strings.Repeat("\x00", n))
		checkSum(t, "bytes like the padding", strings.Repeat("\x80", n))
	}
}

func TestSumOfBytesThatAreNoLetters(t *testing.T) {
	all := make([]byte, 256)
	for i := range all {
		all[i] = byte(i)
	}
	checkSum(t, "all bytes", string(all))
	checkSum(t, "broken UTF-8", "\xff\xfe\xc3(\xed\xa0\x80\xf4\x90\x80\x80")
	checkSum(t, "UTF-8", "größe, 木, \u2028")
	checkSum(t, "line feeds", "a\r\n\n\x00b\n")
}

// Within a block these differ by the padding alone: no two of them may have one sum.
func TestSumTellsLengthsApart(t *testing.T) {
	seen := map[string]int{}
	for n := range 200 {
		got := bindery.Sum("x" + strings.Repeat("\x00", n))
		if before, ok := seen[got]; ok {
			t.Errorf("P3: %d and %d zeros have one sum", before, n)
		}
		seen[got] = n
	}
}

func TestSumOfLongText(t *testing.T) {
	var b strings.Builder
	for i := range 300000 {
		b.WriteByte(byte(i * i >> 3))
		b.WriteByte(byte(i >> 8))
	}
	checkSum(t, "600000 bytes", b.String())
	checkSum(t, "600001 bytes", b.String()+"!")
}

func TestSumIsSixtyFourSmallDigits(t *testing.T) {
	for n := range 100 {
		got := bindery.Sum(strings.Repeat("z", n))
		if len(got) != 64 || strings.Trim(got, "0123456789abcdef") != "" {
			t.Errorf("P3: Sum of %d z = %q", n, got)
		}
	}
}

func TestSumHangsOnItsArgumentAlone(t *testing.T) {
	first := bindery.Sum("first")
	bindery.Sum(strings.Repeat("between", 50))
	if again := bindery.Sum("first"); again != first {
		t.Errorf("P2: Sum(first) = %q, then %q", first, again)
	}
}

func TestSumAtTheSameTime(t *testing.T) {
	var group sync.WaitGroup
	for n := range 32 {
		group.Go(func() { checkSum(t, "texts at the same time", strings.Repeat("p", 40*n)) })
	}
	group.Wait()
}
