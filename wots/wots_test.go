package wots_test

import (
	"encoding/hex"
	"math"
	"math/rand"
	"slices"
	"strings"
	"testing"
	"unsafe"

	"palaver/sha"
	"palaver/wots"
)

const (
	firstLeaf = 0
	lastLeaf  = 65535
	lastChain = 66
)

var (
	zeros = strings.Repeat("\x00", 32)
	ones  = strings.Repeat("\xff", 32)
)

var noDigests = []string{"", "d", zeros[1:], ones[1:], zeros + "\x00", ones + "\xff", zeros + zeros, strings.Repeat("62", 32)}

var noLeaves = []int{firstLeaf - 1, lastLeaf + 1, -lastLeaf, 1 << 17, 1 << 32, math.MinInt, math.MaxInt}

var someLeaves = []int{firstLeaf, 1, 255, 256, 258, 65534, lastLeaf}

func hexOf(s string) string {
	return hex.EncodeToString([]byte(s))
}

func short(n int) string {
	return string([]byte{byte(n >> 8), byte(n)})
}

// steps goes on a chain as the chapter tells it.
func steps(k int, x string, n int) string {
	for range n {
		x = sha.Tag(1, string([]byte{byte(k)}), x)
	}
	return x
}

func secretOf(seed string, leaf, k int) string {
	return sha.Tag(2, seed, short(leaf), string([]byte{byte(k)}))
}

// chainsOf is each chain's value behind its steps.
func chainsOf(from func(k int) string, count func(k int) int) []string {
	out := make([]string, 67)
	for k := range out {
		out[k] = steps(k, from(k), count(k))
	}
	return out
}

// digitsOf reads the digits off the digest's hexadecimal form, which is another way than the program's.
func digitsOf(d string) []int {
	var out []int
	lack := 0
	for _, c := range hexOf(d) {
		n := strings.IndexRune("0123456789abcdef", c)
		out = append(out, n)
		lack += 15 - n
	}
	return append(out, lack/256, lack/16%16, lack%16)
}

func someDigest(random *rand.Rand) string {
	b := make([]byte, 32)
	random.Read(b)
	return string(b)
}

// someDigests has the edges, digests that differ in one digit from these, and some others.
func someDigests() []string {
	random := rand.New(rand.NewSource(31))
	out := []string{zeros, ones, "\x10" + zeros[1:], zeros[1:] + "\x01", "\xef" + ones[1:], ones[1:] + "\xfe", "\xf0" + zeros[1:], sha.Sum("m"), sha.Sum("")}
	for range 12 {
		out = append(out, someDigest(random))
	}
	return out
}

// P3.1
func TestDigitsKnown(t *testing.T) {
	cases := []struct {
		name, digest string
		body         []int
		sum          []int
	}{
		{"all 00", zeros, slices.Repeat([]int{0}, 64), []int{3, 12, 0}},
		{"all ff", ones, slices.Repeat([]int{15}, 64), []int{0, 0, 0}},
		{"all 1e", strings.Repeat("\x1e", 32), slices.Repeat([]int{1, 14}, 32), []int{1, 14, 0}},
		{"ff but for the last, fe", ones[1:] + "\xfe", append(slices.Repeat([]int{15}, 63), 14), []int{0, 0, 1}},
		{"ff but for the first, ef", "\xef" + ones[1:], append([]int{14}, slices.Repeat([]int{15}, 63)...), []int{0, 0, 1}},
		{"00 but for the first, 1f", "\x1f" + zeros[1:], append([]int{1, 15}, slices.Repeat([]int{0}, 62)...), []int{3, 11, 0}},
		{
			"of m", sha.Sum("m"),
			[]int{6, 2, 12, 6, 6, 10, 7, 10, 5, 13, 13, 7, 0, 12, 3, 1, 4, 6, 6, 1, 8, 0, 6, 3, 12, 3, 4, 4, 14, 5, 3, 1,
				14, 6, 13, 4, 11, 5, 9, 14, 3, 7, 9, 8, 0, 8, 4, 4, 3, 12, 14, 9, 6, 2, 11, 3, 10, 11, 13, 6, 3, 12, 5, 10},
			[]int{2, 0, 6},
		},
	}
	for _, c := range cases {
		want := slices.Concat(c.body, c.sum)
		if got, ok := wots.Digits(c.digest); !slices.Equal(got, want) || !ok {
			t.Errorf("%s: %v, %v, want %v", c.name, got, ok, want)
		}
	}
}

// P3.1
func TestDigits(t *testing.T) {
	for _, d := range someDigests() {
		got, ok := wots.Digits(d)
		if !ok || len(got) != wots.Chains || !slices.Equal(got, digitsOf(d)) {
			t.Errorf("Digits of %s: %v, %v", hexOf(d), got, ok)
		}
	}
}

// P3.1
func TestDigitsOfNone(t *testing.T) {
	for _, d := range noDigests {
		if got, ok := wots.Digits(d); len(got) != 0 || ok {
			t.Errorf("Digits of %d bytes: %v, %v", len(d), got, ok)
		}
	}
}

// P3.1
func TestChainKnown(t *testing.T) {
	cases := []struct {
		k    int
		x    string
		n    int
		want string
	}{
		{1, "x", 1, "3eb56163f9577d5fcae889f5ba37badc508c066394630f50495d167da07bb7a1"},
		{66, "", 15, "46f89526947216adc1d5a68566a4614399ddf259c7e6a93365e8364e85757fa0"},
		{255, "abc", 1000, "9f49e03b99e1ee9344148a2a945e730fdddec1d2277674ae9c5161f042f7c292"},
	}
	for _, c := range cases {
		if got := hexOf(wots.Chain(c.k, c.x, c.n)); got != c.want {
			t.Errorf("Chain(%d, %q, %d): %s, want %s", c.k, c.x, c.n, got, c.want)
		}
	}
}

// P3.1
func TestChainSteps(t *testing.T) {
	for _, x := range []string{"", "x", zeros, strings.Repeat("long", 1000)} {
		for _, n := range []int{0, 1, 2, 14, 15, 16, 999, 1000} {
			if wots.Chain(5, x, n) != steps(5, x, n) {
				t.Errorf("%d steps from a text of %d bytes on", n, len(x))
			}
		}
		for _, n := range []int{-1, -2, -1000, math.MinInt} {
			if got := wots.Chain(5, x, n); got != x {
				t.Errorf("%d steps: %q, want the text itself", n, got)
			}
		}
		for _, n := range []int{1001, 1002, 1 << 32, math.MaxInt} {
			if wots.Chain(5, x, n) != steps(5, x, 1000) {
				t.Errorf("%d steps aren't as 1000", n)
			}
		}
	}
}

// P3.1
func TestChainNumbers(t *testing.T) {
	for k := range 256 {
		if wots.Chain(k, "x", 2) != steps(k, "x", 2) {
			t.Errorf("the chain %d", k)
		}
	}
	beyond := []struct{ k, as int }{
		{256, 0}, {257, 1}, {322, 66}, {511, 255}, {512, 0}, {1<<32 + 9, 9}, {math.MaxInt, 255},
		{-1, 255}, {-66, 190}, {-255, 1}, {-256, 0}, {-257, 255}, {math.MinInt, 0}, {math.MinInt + 3, 3},
	}
	for _, c := range beyond {
		if wots.Chain(c.k, "x", 3) != steps(c.as, "x", 3) {
			t.Errorf("the chain %d isn't as %d", c.k, c.as)
		}
		if got := wots.Chain(c.k, "x", 0); got != "x" {
			t.Errorf("no step on the chain %d: %q", c.k, got)
		}
	}
}

// DOC.md's rule 4: what is answered is new memory, where no step was made too.
func TestChainIsNewMemory(t *testing.T) {
	x := strings.Repeat("x", 40)
	for _, n := range []int{0, -1} {
		if unsafe.StringData(wots.Chain(1, x, n)) == unsafe.StringData(x) {
			t.Errorf("%d steps: the answer is the text's own memory", n)
		}
	}
}

// P3.1
func TestSecretKnown(t *testing.T) {
	cases := []struct {
		seed    string
		leaf, k int
		want    string
	}{
		{"seed", 0, 0, "8ee5a4d86af53b3bdde10dbce02dad6dc8f6fb9377d19b55337071a55bb76973"},
		{"seed", 65535, 66, "db17a9942abbc989bd949a5fa7f85d5675993ed5ac455d5085e56e23e44c9cb3"},
		{"", 258, 7, "8d8ce58611f5023d00c511601ef36b5169311900df20804106b4ee219fb7b98e"},
	}
	for _, c := range cases {
		if got, ok := wots.Secret(c.seed, c.leaf, c.k); hexOf(got) != c.want || !ok {
			t.Errorf("Secret(%q, %d, %d): %s, %v, want %s", c.seed, c.leaf, c.k, hexOf(got), ok, c.want)
		}
	}
}

// P3.1
func TestSecret(t *testing.T) {
	for _, seed := range []string{"", "seed", "\x00\xff", strings.Repeat("long", 20000)} {
		for _, leaf := range someLeaves {
			for _, k := range []int{0, 1, 33, lastChain} {
				if got, ok := wots.Secret(seed, leaf, k); got != secretOf(seed, leaf, k) || !ok {
					t.Errorf("a seed of %d bytes, leaf %d, chain %d: %s, %v", len(seed), leaf, k, hexOf(got), ok)
				}
			}
		}
	}
}

// P3.1
func TestSecretOfNone(t *testing.T) {
	noChains := []int{-1, lastChain + 1, 255, 256, 322, -190, math.MinInt, math.MaxInt}
	for _, leaf := range someLeaves {
		for _, k := range noChains {
			if got, ok := wots.Secret("seed", leaf, k); got != "" || ok {
				t.Errorf("leaf %d, chain %d: %q, %v", leaf, k, got, ok)
			}
		}
	}
	for _, leaf := range noLeaves {
		for _, k := range append(noChains, 0, lastChain) {
			if got, ok := wots.Secret("seed", leaf, k); got != "" || ok {
				t.Errorf("leaf %d, chain %d: %q, %v", leaf, k, got, ok)
			}
		}
	}
}

// P3.2
func TestPublicKnown(t *testing.T) {
	cases := []struct {
		seed string
		leaf int
		want string
	}{
		{"seed", 0, "0a0c529b9e159028fc073741560c1faf1864ff986f1d5a36529901799f027bed"},
		{"seed", 65535, "2f3ea6cfa2477cd468d639e39c73d2d50b336e90b2a105d88336275e52b30ecd"},
		{"", 258, "c5ee25124e144644fc92df355a11916c8010769b5dfd94288bdf17d6d77bf3d6"},
	}
	for _, c := range cases {
		if got, ok := wots.Public(c.seed, c.leaf); hexOf(got) != c.want || !ok {
			t.Errorf("Public(%q, %d): %s, %v, want %s", c.seed, c.leaf, hexOf(got), ok, c.want)
		}
	}
}

// P3.2
func TestPublic(t *testing.T) {
	for _, leaf := range someLeaves {
		ends := chainsOf(func(k int) string { return secretOf("s", leaf, k) }, func(int) int { return 15 })
		if got, ok := wots.Public("s", leaf); got != sha.Tag(3, ends...) || !ok {
			t.Errorf("leaf %d: %s, %v", leaf, hexOf(got), ok)
		}
	}
}

// P3.2
func TestSignKnown(t *testing.T) {
	got, ok := wots.Sign("seed", 3, sha.Sum("m"))
	if !ok || len(got) != 67 {
		t.Fatalf("%d values, %v", len(got), ok)
	}
	if hexOf(got[0]) != "040b6785e60d1a5f693d116f6466609d9487e7271e83546e1cd7271ac370577f" {
		t.Errorf("the first value: %s", hexOf(got[0]))
	}
	if hexOf(got[66]) != "c8af2b5d1f9f70c5527f2bc8dc8d95ff6787c2211c7772e67b8b083785f98fe3" {
		t.Errorf("the last value: %s", hexOf(got[66]))
	}
	if sum := hexOf(sha.Sum(strings.Join(got, ""))); sum != "d1643a46f64ec5235113e0a3d58ed18d0e442bbbd21dfdf72b2299c7740d61e8" {
		t.Errorf("the digest of all values: %s", sum)
	}
}

// P3.2
func TestSign(t *testing.T) {
	for i, d := range someDigests() {
		leaf := someLeaves[i%len(someLeaves)]
		digits := digitsOf(d)
		want := chainsOf(func(k int) string { return secretOf("s", leaf, k) }, func(k int) int { return digits[k] })
		if got, ok := wots.Sign("s", leaf, d); !slices.Equal(got, want) || !ok {
			t.Errorf("leaf %d, digest %s: %d values, %v", leaf, hexOf(d), len(got), ok)
		}
	}
}

// P3.2
func TestNoKey(t *testing.T) {
	for _, leaf := range noLeaves {
		if got, ok := wots.Public("seed", leaf); got != "" || ok {
			t.Errorf("Public of the leaf %d: %q, %v", leaf, got, ok)
		}
		for _, d := range append(noDigests, zeros) {
			if got, ok := wots.Sign("seed", leaf, d); len(got) != 0 || ok {
				t.Errorf("Sign by the leaf %d of %d bytes: %q, %v", leaf, len(d), got, ok)
			}
		}
	}
	for _, leaf := range someLeaves {
		for _, d := range noDigests {
			if got, ok := wots.Sign("seed", leaf, d); len(got) != 0 || ok {
				t.Errorf("Sign by the leaf %d of %d bytes: %q, %v", leaf, len(d), got, ok)
			}
		}
	}
}

// P3.3: the values may be any texts.
func TestRecoverKnown(t *testing.T) {
	numbers := strings.Fields("0 1 2 3 4 5 6 7 8 9 10 11 12 13 14 15 16 17 18 19 20 21 22 23 24 25 26 27 28 29 30 31 32 33 " +
		"34 35 36 37 38 39 40 41 42 43 44 45 46 47 48 49 50 51 52 53 54 55 56 57 58 59 60 61 62 63 64 65 66")
	cases := []struct {
		name, digest string
		values       []string
		want         string
	}{
		{"empty texts", zeros, make([]string, 67), "55c941e0d79642b9903ece43b0e0333dcedec31da8b5fc70d315f48f43d863a1"},
		{"numbers", ones, numbers, "1a95c3010cf1d1e700496dbd71f5293a372fbf54f0b3e64bbbb18c92999b9876"},
	}
	for _, c := range cases {
		if got, ok := wots.Recover(c.digest, c.values); hexOf(got) != c.want || !ok {
			t.Errorf("%s: %s, %v, want %s", c.name, hexOf(got), ok, c.want)
		}
	}
}

// P3.3
func TestRecover(t *testing.T) {
	random := rand.New(rand.NewSource(33))
	for _, d := range someDigests() {
		values := make([]string, 67)
		for k := range values {
			values[k] = someDigest(random)[:random.Intn(33)]
		}
		digits := digitsOf(d)
		ends := chainsOf(func(k int) string { return values[k] }, func(k int) int { return 15 - digits[k] })
		if got, ok := wots.Recover(d, values); got != sha.Tag(3, ends...) || !ok {
			t.Errorf("digest %s: %s, %v", hexOf(d), hexOf(got), ok)
		}
	}
}

// P3.3
func TestRecoverOfNone(t *testing.T) {
	d := sha.Sum("m")
	sig, _ := wots.Sign("seed", 3, d)
	lists := [][]string{nil, {}, {""}, sig[:66], sig[1:], append(slices.Clone(sig), ""), append(slices.Clone(sig), sig[66]), slices.Concat(sig, sig)}
	for _, values := range lists {
		for _, digest := range append(noDigests, d, zeros, ones) {
			if got, ok := wots.Recover(digest, values); got != "" || ok {
				t.Errorf("%d bytes, %d values: %q, %v", len(digest), len(values), got, ok)
			}
		}
	}
	for _, digest := range noDigests {
		if got, ok := wots.Recover(digest, sig); got != "" || ok {
			t.Errorf("%d bytes, 67 values: %q, %v", len(digest), got, ok)
		}
	}
}

// P3.4
func TestSignedIsRecovered(t *testing.T) {
	for i, d := range someDigests() {
		leaf := someLeaves[i%len(someLeaves)]
		seed := strings.Repeat("s", i)
		public, isKey := wots.Public(seed, leaf)
		sig, signed := wots.Sign(seed, leaf, d)
		got, recovered := wots.Recover(d, sig)
		if !isKey || !signed || !recovered || got != public {
			t.Errorf("a seed of %d bytes, leaf %d, digest %s: %s isn't %s", i, leaf, hexOf(d), hexOf(got), hexOf(public))
		}
	}
}

// P3.4: a signature leads to its public for no other digest, nor with a value turned or two of them exchanged.
func TestOthersAreNotRecovered(t *testing.T) {
	d := sha.Sum("m")
	public, _ := wots.Public("seed", 3)
	sig, _ := wots.Sign("seed", 3, d)
	for _, other := range someDigests() {
		if got, _ := wots.Recover(other, sig); got == public && other != d {
			t.Errorf("the signature leads to the public for %s too", hexOf(other))
		}
	}
	for k := range sig {
		turned := slices.Clone(sig)
		turned[k] = turned[k][:31] + string([]byte{turned[k][31] ^ 1})
		if got, ok := wots.Recover(d, turned); got == public || !ok {
			t.Errorf("with the value %d turned: %s, %v", k, hexOf(got), ok)
		}
	}
	swapped := slices.Clone(sig)
	swapped[0], swapped[1] = swapped[1], swapped[0]
	if got, _ := wots.Recover(d, swapped); got == public {
		t.Error("two values may be exchanged")
	}
}

// P3.4: keys of other seeds, other leaves, and their chains, are others.
func TestKeysAreUnlike(t *testing.T) {
	seen := make(map[string]int)
	count := 0
	for _, seed := range []string{"", "s", "s\x00", "t"} {
		for _, leaf := range someLeaves {
			public, _ := wots.Public(seed, leaf)
			seen[public]++
			count++
			for k := range wots.Chains {
				secret, _ := wots.Secret(seed, leaf, k)
				seen[secret]++
				count++
			}
		}
	}
	if len(seen) != count {
		t.Errorf("%d publics and secrets, %d unlike ones", count, len(seen))
	}
}

func hasLower(a, b []int) bool {
	for k := range a {
		if a[k] < b[k] {
			return true
		}
	}
	return false
}

// P3.4
func TestEachHasALowerDigit(t *testing.T) {
	random := rand.New(rand.NewSource(34))
	digests := someDigests()
	for range 200 {
		near := []byte(someDigest(random))
		digests = append(digests, string(near))
		near[random.Intn(32)] ^= 1 << random.Intn(8)
		digests = append(digests, string(near))
	}
	for _, a := range digests {
		for _, b := range digests {
			of, other, ok := digitsPair(a, b)
			if !ok || a != b && !hasLower(of, other) {
				t.Fatalf("%s has no digit below that of %s", hexOf(a), hexOf(b))
			}
		}
	}
}

func digitsPair(a, b string) ([]int, []int, bool) {
	of, isOne := wots.Digits(a)
	other, isOther := wots.Digits(b)
	return of, other, isOne && isOther && len(of) == 67 && len(other) == 67
}

// DOC.md's rules 4 and 6: what is handed in isn't changed, nor its spare room; answers are apart, and the same each time.
func TestHandedInIsUnchanged(t *testing.T) {
	d := sha.Sum("m")
	sig, _ := wots.Sign("seed", 3, d)
	room := append(slices.Clone(sig), "spare")
	first, _ := wots.Recover(d, room[:67])
	if !slices.Equal(room, append(slices.Clone(sig), "spare")) {
		t.Error("Recover changes its values")
	}
	digits, _ := wots.Digits(d)
	digits[0]++
	sig[0] = ""
	again, _ := wots.Sign("seed", 3, d)
	second, _ := wots.Recover(d, again)
	if fresh, _ := wots.Digits(d); !slices.Equal(fresh, digitsOf(d)) || !slices.Equal(again, room[:67]) || first != second {
		t.Error("a later answer is another one")
	}
}
