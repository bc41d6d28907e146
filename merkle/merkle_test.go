package merkle_test

import (
	"encoding/hex"
	"math"
	"math/rand"
	"slices"
	"strings"
	"testing"
	"unsafe"

	"palaver/merkle"
	"palaver/sha"
)

var counts = []int{1, 2, 4, 8, 16}

var noCounts = []int{0, 3, 5, 6, 7, 9, 10, 11, 12, 13, 14, 15, 17, 18, 24, 31, 32, 33, 64, 256}

func hexOf(s string) string {
	return hex.EncodeToString([]byte(s))
}

// letters is the leaves a, b, c ..
func letters(n int) []string {
	out := make([]string, n)
	for i := range out {
		out[i] = string([]byte{byte('a' + i%26)})
	}
	return out
}

// someTexts has texts of many lengths, empty and like ones among them.
func someTexts(random *rand.Rand, n int) []string {
	out := make([]string, n)
	for i := range out {
		b := make([]byte, random.Intn(40))
		random.Read(b)
		out[i] = string(b[:random.Intn(len(b)+1)])
	}
	return out
}

// rootOf is the root, by halves, as the chapter tells it.
func rootOf(leaves []string) string {
	if len(leaves) == 1 {
		return leaves[0]
	}
	half := len(leaves) / 2
	return sha.Tag(4, rootOf(leaves[:half]), rootOf(leaves[half:]))
}

// pathOf is the path, by halves, from above on and turned round.
func pathOf(leaves []string, i int) []string {
	var path []string
	for len(leaves) > 1 {
		half := len(leaves) / 2
		if i < half {
			path = append(path, rootOf(leaves[half:]))
			leaves = leaves[:half]
		} else {
			path = append(path, rootOf(leaves[:half]))
			leaves = leaves[half:]
			i -= half
		}
	}
	slices.Reverse(path)
	return path
}

// P4.1
func TestRootKnown(t *testing.T) {
	cases := []struct {
		count int
		want  string
	}{
		{1, "61"},
		{2, "563d27b1a1965797bc31654ed64401410627c78b49c47fc4cb1d61a9289c8c3b"},
		{4, "2b083274f807489cb70f1469cd870011849bea5198542af6a642f11c0958a5f7"},
		{8, "eda92166a79539eedf83377e537aa791e02e556a5556c429ff520f5a24e99242"},
		{16, "cd0b5833f386be0c78bb908e56a26c87f38cf5eec8fa6cca2eb2ca7f23b83379"},
	}
	for _, c := range cases {
		if got, ok := merkle.Root(letters(c.count)); hexOf(got) != c.want || !ok {
			t.Errorf("of %d leaves: %s, %v, want %s", c.count, hexOf(got), ok, c.want)
		}
	}
}

// P4.1
func TestTwoLeaves(t *testing.T) {
	leaves := []string{"a", "b"}
	if got, ok := merkle.Root(leaves); got != sha.Tag(4, "a", "b") || !ok {
		t.Errorf("the root: %s, %v", hexOf(got), ok)
	}
	if got, ok := merkle.Path(leaves, 1); !slices.Equal(got, []string{"a"}) || !ok {
		t.Errorf("the path of 1: %q, %v", got, ok)
	}
	if got, ok := merkle.Path(leaves, 0); !slices.Equal(got, []string{"b"}) || !ok {
		t.Errorf("the path of 0: %q, %v", got, ok)
	}
}

// P4.1
func TestRootAndPath(t *testing.T) {
	random := rand.New(rand.NewSource(41))
	for _, n := range counts {
		for _, leaves := range [][]string{letters(n), make([]string, n), someTexts(random, n), someTexts(random, n)} {
			if got, ok := merkle.Root(leaves); got != rootOf(leaves) || !ok {
				t.Errorf("the root of %q: %s, %v", leaves, hexOf(got), ok)
			}
			for i := range leaves {
				if got, ok := merkle.Path(leaves, i); !slices.Equal(got, pathOf(leaves, i)) || !ok {
					t.Errorf("the path of %d in %q: %q, %v", i, leaves, got, ok)
				}
			}
		}
	}
}

// P4.1
func TestNoLeaves(t *testing.T) {
	for _, n := range noCounts {
		leaves := letters(n)
		if got, ok := merkle.Root(leaves); got != "" || ok {
			t.Errorf("the root of %d: %q, %v", n, got, ok)
		}
		for _, i := range []int{-1, 0, 1, n - 1, n} {
			if got, ok := merkle.Path(leaves, i); len(got) != 0 || ok {
				t.Errorf("the path of %d among %d: %q, %v", i, n, got, ok)
			}
		}
	}
	if got, ok := merkle.Root(nil); got != "" || ok {
		t.Errorf("the root of none: %q, %v", got, ok)
	}
	if got, ok := merkle.Path(nil, 0); len(got) != 0 || ok {
		t.Errorf("a path of none: %q, %v", got, ok)
	}
}

// P4.1
func TestNoLeafOfThatNumber(t *testing.T) {
	for _, n := range counts {
		for _, i := range []int{-1, -n, n, n + 1, 2 * n, 1 << 32, math.MinInt, math.MaxInt} {
			if got, ok := merkle.Path(letters(n), i); len(got) != 0 || ok {
				t.Errorf("the path of %d among %d: %q, %v", i, n, got, ok)
			}
		}
	}
}

// P4.2
func TestFold(t *testing.T) {
	tag := func(a, b string) string { return sha.Tag(4, a, b) }
	cases := []struct {
		i    int
		path []string
		want string
	}{
		{0, nil, "x"},
		{0, []string{}, "x"},
		{0, []string{"a"}, tag("x", "a")},
		{1, []string{"a"}, tag("a", "x")},
		{0, []string{"a", "b"}, tag(tag("x", "a"), "b")},
		{1, []string{"a", "b"}, tag(tag("a", "x"), "b")},
		{2, []string{"a", "b"}, tag("b", tag("x", "a"))},
		{3, []string{"a", "b"}, tag("b", tag("a", "x"))},
		{4, []string{"a", "b", "c"}, tag("c", tag(tag("x", "a"), "b"))},
		{6, []string{"a", "", "c"}, tag("c", tag("", tag("x", "a")))},
		{10, []string{"a", "b", "c", "d"}, tag("d", tag(tag("b", tag("x", "a")), "c"))},
		{15, []string{"a", "b", "c", "d"}, tag("d", tag("c", tag("b", tag("a", "x"))))},
	}
	for _, c := range cases {
		if got, ok := merkle.Fold("x", c.i, c.path); got != c.want || !ok {
			t.Errorf("Fold(x, %d, %q): %s, %v, want %s", c.i, c.path, hexOf(got), ok, hexOf(c.want))
		}
	}
}

// P4.2
func TestFoldOfNone(t *testing.T) {
	for n := range 5 {
		path := letters(n)
		for _, i := range []int{-1, -2, 1 << n, 1<<n + 1, 16, 1 << 32, math.MinInt, math.MaxInt} {
			if got, ok := merkle.Fold("x", i, path); got != "" || ok {
				t.Errorf("the number %d, %d steps: %q, %v", i, n, got, ok)
			}
		}
		if _, ok := merkle.Fold("x", 1<<n-1, path); !ok {
			t.Errorf("the last number of %d steps isn't one", n)
		}
	}
	for _, n := range []int{5, 6, 31, 32, 63, 64, 65, 1000} {
		for _, i := range []int{math.MinInt, -1, 0, 1, 15, 16, 31, math.MaxInt} {
			if got, ok := merkle.Fold("x", i, letters(n)); got != "" || ok {
				t.Errorf("the number %d, %d steps: %q, %v", i, n, got, ok)
			}
		}
	}
}

// P4.3
func TestPathLeadsToRoot(t *testing.T) {
	random := rand.New(rand.NewSource(43))
	for _, n := range counts {
		for range 10 {
			leaves := someTexts(random, n)
			root, _ := merkle.Root(leaves)
			for i, leaf := range leaves {
				path, isLeaf := merkle.Path(leaves, i)
				got, ok := merkle.Fold(leaf, i, path)
				if !isLeaf || !ok || got != root || 1<<len(path) != n {
					t.Errorf("%d of %q leads to %s, %v, behind %d steps", i, leaves, hexOf(got), ok, len(path))
				}
			}
		}
	}
}

// P4.3: with other leaves, numbers and steps a path leads elsewhere, as no two unlike inputs with one digest are known.
func TestOthersLeadElsewhere(t *testing.T) {
	for _, n := range counts {
		leaves := letters(n)
		root, _ := merkle.Root(leaves)
		for i := range leaves {
			path, _ := merkle.Path(leaves, i)
			for j := range n {
				for _, leaf := range append(letters(n), "", "other", root) {
					got, ok := merkle.Fold(leaf, j, path)
					same := leaf == leaves[i] && j == i || n == 1 && leaf == root
					if !ok || (got == root) != same {
						t.Errorf("%q at %d by the path of %d among %d: %s, %v", leaf, j, i, n, hexOf(got), ok)
					}
				}
			}
			checkTurned(t, leaves[i], i, path, root)
		}
	}
}

func checkTurned(t *testing.T, leaf string, i int, path []string, root string) {
	t.Helper()
	for step := range path {
		turned := slices.Clone(path)
		turned[step] += "x"
		if got, ok := merkle.Fold(leaf, i, turned); got == root || !ok {
			t.Errorf("with the step %d of %d turned: %s, %v", step, len(path), hexOf(got), ok)
		}
	}
}

// P4.3: the roots of unlike leaves are unlike, in another order too.
func TestRootsAreUnlike(t *testing.T) {
	for _, n := range counts[1:] {
		leaves := letters(n)
		root, _ := merkle.Root(leaves)
		for i := range n - 1 {
			other := slices.Clone(leaves)
			other[i], other[i+1] = other[i+1], other[i]
			if got, ok := merkle.Root(other); got == root || !ok {
				t.Errorf("%q: %s, %v", other, hexOf(got), ok)
			}
		}
	}
}

// DOC.md's rule 4: what is handed in isn't changed, nor its spare room.
func TestHandedInIsUnchanged(t *testing.T) {
	for n := range 18 {
		room := append(letters(n), "spare", "room")
		want := slices.Clone(room)
		merkle.Root(room[:n])
		for i := range n {
			merkle.Path(room[:n], i)
			merkle.Fold("x", i, room[:n])
		}
		if !slices.Equal(room, want) {
			t.Errorf("changed to %q", room)
		}
	}
}

// DOC.md's rule 4: what is answered is new memory.
func TestAnswersAreNewMemory(t *testing.T) {
	leaf, beside := strings.Repeat("x", 40), strings.Repeat("y", 40)
	root, _ := merkle.Root([]string{leaf})
	path, _ := merkle.Path([]string{leaf, beside}, 0)
	folded, _ := merkle.Fold(leaf, 0, nil)
	if root != leaf || folded != leaf || !slices.Equal(path, []string{beside}) {
		t.Fatal("other texts than those handed in")
	}
	if unsafe.StringData(root) == unsafe.StringData(leaf) || unsafe.StringData(folded) == unsafe.StringData(leaf) || unsafe.StringData(path[0]) == unsafe.StringData(beside) {
		t.Error("an answer is the memory of what was handed in")
	}
}
