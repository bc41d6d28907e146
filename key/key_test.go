package key_test

import (
	"encoding/hex"
	"math"
	"runtime"
	"slices"
	"strings"
	"sync"
	"sync/atomic"
	"testing"
	"unsafe"

	"palaver/api"
	"palaver/key"
	"palaver/sha"
	"palaver/wots"
)

var heights = []int{0, 1, 2, 3, 4}

var noHeights = []int{-1, 5, 6, 8, 16, 31, 32, 63, 64, 256, -2, math.MinInt, math.MaxInt}

var someMessages = []string{"", "m", "n", "\x00", "\xff\x00", strings.Repeat("m", 32), strings.Repeat("long", 20000)}

func hexOf(s string) string {
	return hex.EncodeToString([]byte(s))
}

func short(n int) string {
	return string([]byte{byte(n >> 8), byte(n)})
}

// leavesOf is a key's leaves, as the chapter tells it.
func leavesOf(seed string, height int) []string {
	out := make([]string, 1<<height)
	for i := range out {
		out[i], _ = wots.Public(seed, i)
	}
	return out
}

// rootOf is the root of leaves, by halves.
func rootOf(leaves []string) string {
	if len(leaves) == 1 {
		return leaves[0]
	}
	half := len(leaves) / 2
	return sha.Tag(4, rootOf(leaves[:half]), rootOf(leaves[half:]))
}

// pathOf is a leaf's path as bytes: what stands beside it is, step by step, the other half of as many leaves.
func pathOf(leaves []string, leaf int) string {
	path := ""
	for size := 1; size < len(leaves); size *= 2 {
		beside := leaf/size ^ 1
		path += rootOf(leaves[beside*size : beside*size+size])
	}
	return path
}

func publicOf(height int, root string) string {
	return sha.Tag(5, string([]byte{byte(height)}), root)
}

// signatureOf is a message's signature by a leaf, as the chapter tells it.
func signatureOf(seed string, leaves []string, leaf int, msg string) string {
	values, _ := wots.Sign(seed, leaf, sha.Tag(6, msg))
	return short(leaf) + strings.Join(values, "") + pathOf(leaves, leaf)
}

// checkCounts holds a key against how many of its leaves are used, and how many aren't.
func checkCounts(t *testing.T, k *key.Key, used, left int) {
	t.Helper()
	if k.Used() != used || k.Left() != left {
		t.Errorf("%d used, %d left, want %d and %d", k.Used(), k.Left(), used, left)
	}
}

// checkSpent asks more than once, as a spent key must stay so.
func checkSpent(t *testing.T, k *key.Key, count int) {
	t.Helper()
	for _, msg := range []string{"m", "m", "", "other"} {
		if sig, e := k.Sign(msg); sig != "" || e != api.ErrSpent {
			t.Errorf("a spent key: %d bytes, %d", len(sig), e)
		}
		checkCounts(t, k, count, 0)
	}
}

// P5.1
func TestPublicKnown(t *testing.T) {
	cases := []struct {
		seed   string
		height int
		want   string
	}{
		{"seed", 0, "fa0a9f5ee275ab7aac9002582ca161eabcfc818f123b298e8ea4b54fc3db00e3"},
		{"seed", 1, "3f0ba88efff2c374f8dd2062fe36704f9eadb7ee66d602d8eb100740db4abaff"},
		{"seed", 2, "77735da0770079fa48306d1d08699d6e746c2c6ecc353e33775e46c677326b22"},
		{"seed", 3, "9054ac0d6c125355296f64fdec79d313b032b5998abd819e373fcca117eafdda"},
		{"seed", 4, "a3801a0f5ab506edb32058a7360ee264cf177c2ec74548b08ea65bb6816119ec"},
		{"", 0, "cc8644fd2b98822766f7c1ef754efda0952e4a4f7c31974d95a9106896ce6313"},
		{"", 4, "7653379dc550c7fadb7884bd3d1d650fea5605a650e156e6fe1ca0ef9f966ab7"},
		{"\x00\xff", 2, "377e43598d3dca646528c7e8d73f7304c521dcc7b870c245e9b23e14f67162d5"},
	}
	for _, c := range cases {
		k := key.New(c.seed, c.height, 0)
		for range 2 {
			if got := hexOf(k.Public()); got != c.want {
				t.Errorf("the public of %q, %d: %s, want %s", c.seed, c.height, got, c.want)
			}
		}
	}
}

// P5.1: the public is that of the seed and the height, however many leaves are used.
func TestPublic(t *testing.T) {
	for _, seed := range []string{"", "s", "\x00", strings.Repeat("long", 2000)} {
		for _, height := range heights[:4] {
			want := publicOf(height, rootOf(leavesOf(seed, height)))
			for _, used := range []int{0, 1, 1 << height} {
				if got := key.New(seed, height, used).Public(); got != want {
					t.Errorf("a seed of %d bytes, height %d, %d used: %s, want %s", len(seed), height, used, hexOf(got), hexOf(want))
				}
			}
		}
	}
}

// P5.1
func TestUsedAndLeft(t *testing.T) {
	for _, height := range heights {
		count := 1 << height
		for used := range count + 1 {
			k := key.New("seed", height, used)
			if k == nil {
				t.Errorf("height %d, %d used: no key", height, used)
				continue
			}
			checkCounts(t, k, used, count-used)
		}
	}
}

// P5.1
func TestNoKeyOfThatHeight(t *testing.T) {
	for _, height := range noHeights {
		for _, used := range []int{0, 1, 16, 17, 32, -1, height, math.MinInt, math.MaxInt} {
			if key.New("seed", height, used) != nil {
				t.Errorf("a key of the height %d, %d used", height, used)
			}
		}
	}
}

// P5.1
func TestNoKeyWithSoManyLeaves(t *testing.T) {
	for _, height := range heights {
		count := 1 << height
		for _, used := range []int{-1, -count, count + 1, 2*count + 1, 1 << 32, 1<<32 + 1, math.MinInt, math.MaxInt} {
			if key.New("seed", height, used) != nil {
				t.Errorf("a key of the height %d, %d used", height, used)
			}
		}
	}
}

// P5.1
func TestNilKey(t *testing.T) {
	var k *key.Key
	for range 2 {
		if k.Public() != "" {
			t.Errorf("its public: %s", hexOf(k.Public()))
		}
		checkCounts(t, k, 0, 0)
		for _, msg := range someMessages {
			if sig, e := k.Sign(msg); sig != "" || e != api.ErrArg {
				t.Errorf("Sign: %d bytes, %d", len(sig), e)
			}
		}
	}
}

// P5.1
func TestSignKnown(t *testing.T) {
	cases := []struct {
		seed         string
		height, leaf int
		msg          string
		size         int
		want         string
	}{
		{"seed", 0, 0, "m", 2146, "c7063f5b1a54e2abd00c54f2db01c486ec4ebd65aa540b6d579ac9edc8ab6983"},
		{"seed", 1, 1, "", 2178, "9da5649c69d9efac3a065c72e99a227a19aa27f23ff849e1c368b5746a7db309"},
		{"seed", 2, 2, "m", 2210, "f2154c3168d66ff9d671807e8d062bb8823caea7ff390060a44ab0a5ad9d5779"},
		{"", 3, 5, "\x00", 2242, "647495d4c82ddab1226725bbe220eaa4b9e45ea65c8465b301b82b90417918af"},
		{"seed", 4, 15, "m", 2274, "8ea54b36c2e73a92b70d6b96ffce1f1c0e20672e0573d01b3e7d7ffda348b27e"},
		{"seed", 4, 0, strings.Repeat("long", 20000), 2274, "7945a65bf8f7b40948bcd62955f268602cf4d2ef75ee7d93f7c216d718a212ea"},
	}
	for _, c := range cases {
		sig, e := key.New(c.seed, c.height, c.leaf).Sign(c.msg)
		if e != api.OK || len(sig) != c.size || hexOf(sha.Sum(sig)) != c.want {
			t.Errorf("height %d, leaf %d: %d bytes of the digest %s, %d, want %d of %s", c.height, c.leaf, len(sig), hexOf(sha.Sum(sig)), e, c.size, c.want)
		}
	}
}

// P5.1: each leaf once, in order, from the first one that isn't used on; then none, and it stays so.
func TestSign(t *testing.T) {
	for _, height := range heights {
		count := 1 << height
		leaves := leavesOf("s", height)
		for _, used := range slices.Compact([]int{0, count / 2, count - 1, count}) {
			k := key.New("s", height, used)
			for leaf := used; leaf < count; leaf++ {
				checkCounts(t, k, leaf, count-leaf)
				msg := someMessages[leaf%len(someMessages)]
				if sig, e := k.Sign(msg); sig != signatureOf("s", leaves, leaf, msg) || e != api.OK {
					t.Errorf("height %d, leaf %d: %d bytes, %d", height, leaf, len(sig), e)
				}
			}
			checkSpent(t, k, count)
			if k.Public() != publicOf(height, rootOf(leaves)) {
				t.Errorf("height %d: another public behind the last leaf", height)
			}
		}
	}
}

// P5.1, P5.2: the chapter's example.
func TestExample(t *testing.T) {
	k := key.New("seed", 0, 0)
	sig, e := k.Sign("m")
	if len(sig) != 2146 || e != api.OK || !key.Verify(k.Public(), "m", sig) {
		t.Errorf("the first one: %d bytes, %d", len(sig), e)
	}
	checkSpent(t, k, 1)
}

// P5.1: what is asked of a key, and in which order, changes nothing of what it signs.
func TestAskedAheadOfSigning(t *testing.T) {
	asked, other := key.New("seed", 2, 1), key.New("seed", 2, 0)
	asked.Public()
	asked.Used()
	asked.Left()
	other.Sign("another one")
	for range 3 {
		a, e := asked.Sign("m")
		b, f := other.Sign("m")
		if a != b || e != api.OK || f != api.OK {
			t.Errorf("unlike signatures, %d, %d", e, f)
		}
	}
	if asked.Public() != other.Public() {
		t.Error("unlike publics")
	}
}

// P5.1: keys of one seed have leaves of their own.
func TestKeysAreApart(t *testing.T) {
	a, b := key.New("seed", 1, 0), key.New("seed", 1, 0)
	a.Sign("m")
	a.Sign("m")
	checkSpent(t, a, 2)
	checkCounts(t, b, 0, 2)
}

// P5.1, P5.3: calls at the same time are given a leaf each, and no more calls than there are leaves.
func TestSignAtTheSameTime(t *testing.T) {
	const calls = 24
	k := key.New("seed", 4, 3)
	sigs, errs, publics := make([]string, calls), make([]api.Errno, calls), make([]string, calls)
	var all sync.WaitGroup
	for i := range calls {
		all.Go(func() {
			sigs[i], errs[i] = k.Sign("m")
			publics[i] = k.Public()
		})
	}
	all.Wait()
	var given []int
	for i, sig := range sigs {
		if publics[i] != k.Public() {
			t.Errorf("call %d: another public", i)
		}
		if errs[i] == api.ErrSpent && sig == "" {
			continue
		}
		leaf, ok := key.Leaf(sig)
		if errs[i] != api.OK || !ok || !key.Verify(k.Public(), "m", sig) {
			t.Errorf("call %d: %d bytes, %d", i, len(sig), errs[i])
		}
		given = append(given, leaf)
	}
	slices.Sort(given)
	if want := []int{3, 4, 5, 6, 7, 8, 9, 10, 11, 12, 13, 14, 15}; !slices.Equal(given, want) {
		t.Errorf("the leaves %v, want %v", given, want)
	}
	checkSpent(t, k, 16)
}

// P5.3: of calls that begin together only one is given the one leaf, as often as it is tried.
func TestOneLeafForManyCalls(t *testing.T) {
	const calls, rounds = 4, 1000
	for range rounds {
		k := key.New("seed", 0, 0)
		errs := make([]api.Errno, calls)
		var ready atomic.Int32
		var all sync.WaitGroup
		for i := range calls {
			all.Go(func() {
				// Whoever is woken by a channel comes too late: so they look out for one another.
				ready.Add(1)
				for turn := 0; ready.Load() < calls; turn++ {
					if turn > 10000 {
						runtime.Gosched()
					}
				}
				_, errs[i] = k.Sign("m")
			})
		}
		all.Wait()
		slices.Sort(errs)
		want := append([]api.Errno{api.OK}, slices.Repeat([]api.Errno{api.ErrSpent}, calls-1)...)
		if !slices.Equal(errs, want) || k.Used() != 1 {
			t.Fatalf("%v, %d used, want %v", errs, k.Used(), want)
		}
	}
}

// The chapter's ways: the tree is made when it is asked for first, once. How much memory is taken tells it.
func TestTreeIsMadeOnce(t *testing.T) {
	const few = 20
	var k *key.Key
	if n := testing.AllocsPerRun(1, func() { k = key.New("seed", 4, 0); k.Used(); k.Left() }); n > few {
		t.Errorf("a new key takes memory %v times", n)
	}
	if n := testing.AllocsPerRun(1, func() { key.New("seed", 4, 0).Public() }); n < 1000 {
		t.Errorf("the first public takes memory %v times: nothing was made", n)
	}
	k.Public()
	if n := testing.AllocsPerRun(1, func() { k.Public() }); n > few {
		t.Errorf("the second public takes memory %v times", n)
	}
}

// DOC.md's rule 4: what is handed in isn't kept.
func TestSeedIsNotKept(t *testing.T) {
	seed := []byte("a seed that its owner writes over")
	k := key.New(unsafe.String(&seed[0], len(seed)), 1, 0)
	want := key.New(string(seed), 1, 0)
	clear(seed)
	if k.Public() != want.Public() {
		t.Error("the seed is the memory that was handed in")
	}
}

// DOC.md's rule 4: what is answered is new memory.
func TestPublicIsNewMemory(t *testing.T) {
	k := key.New("seed", 0, 0)
	if unsafe.StringData(k.Public()) == unsafe.StringData(k.Public()) {
		t.Error("two answers are one memory")
	}
}
