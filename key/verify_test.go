package key_test

import (
	"math/rand"
	"slices"
	"strings"
	"testing"

	"palaver/key"
	"palaver/merkle"
	"palaver/sha"
	"palaver/wots"
)

const (
	valuesFrom = 2
	pathFrom   = 2 + 32*67
)

func sizeOf(height int) int {
	return 2 + 32*(67+height)
}

// signed is a key's public, and its signature of a message by a leaf.
func signed(seed string, height, leaf int, msg string) (string, string) {
	k := key.New(seed, height, leaf)
	sig, _ := k.Sign(msg)
	return k.Public(), sig
}

// turned is a text with the bits of one of its bytes turned.
func turned(s string, place int, bits byte) string {
	b := []byte(s)
	b[place] ^= bits
	return string(b)
}

// madeUp is a signature of any bytes, and the public under which it is right, as the chapter tells it.
func madeUp(random *rand.Rand, height, leaf int, msg string) (string, string) {
	digests := make([]string, 67+height)
	for i := range digests {
		b := make([]byte, 32)
		random.Read(b)
		digests[i] = string(b)
	}
	oneTime, _ := wots.Recover(sha.Tag(6, msg), digests[:67])
	root, _ := merkle.Fold(oneTime, leaf, digests[67:])
	return publicOf(height, root), short(leaf) + strings.Join(digests, "")
}

// P5.2, P5.3: what is signed is verified, and its leaf is told.
func TestSignedIsVerified(t *testing.T) {
	for _, height := range heights {
		for _, used := range []int{0, 1<<height - 1} {
			k := key.New("seed", height, used)
			for leaf := used; k.Left() > 0; leaf++ {
				msg := someMessages[leaf%len(someMessages)]
				sig, _ := k.Sign(msg)
				if !key.Verify(k.Public(), msg, sig) {
					t.Errorf("height %d, leaf %d: not verified", height, leaf)
				}
				if got, ok := key.Leaf(sig); got != leaf || !ok {
					t.Errorf("height %d, leaf %d: %d, %v", height, leaf, got, ok)
				}
			}
		}
	}
}

// P5.3: the public is that of another key of that seed and height too.
func TestVerifiedByAnotherKeysPublic(t *testing.T) {
	_, sig := signed("seed", 2, 3, "m")
	if !key.Verify(key.New("seed", 2, 0).Public(), "m", sig) || !key.Verify(key.New("seed", 2, 4).Public(), "m", sig) {
		t.Error("not verified with the public of that seed and height")
	}
}

// P5.2: right is what leads to the public, whoever made it.
func TestMadeUpIsVerified(t *testing.T) {
	random := rand.New(rand.NewSource(52))
	for _, height := range heights {
		for leaf := range 1 << height {
			public, sig := madeUp(random, height, leaf, "m")
			if !key.Verify(public, "m", sig) {
				t.Errorf("height %d, leaf %d: not verified", height, leaf)
			}
			if key.Verify(public, "n", sig) || key.Verify(sha.Sum(public), "m", sig) {
				t.Errorf("height %d, leaf %d: verified for another message or public", height, leaf)
			}
		}
	}
}

// P5.2
func TestLeafOfEachSize(t *testing.T) {
	sizes := []int{2146, 2178, 2210, 2242, 2274}
	for size := range 2400 {
		height := slices.Index(sizes, size)
		for leaf := range 17 {
			want := 0
			isOne := height >= 0 && leaf < 1<<height
			if isOne {
				want = leaf
			}
			sig := (short(leaf) + strings.Repeat("\xff", 2400))[:size]
			if got, ok := key.Leaf(sig); got != want || ok != isOne {
				t.Errorf("%d bytes, leaf %d: %d, %v, want %d, %v", size, leaf, got, ok, want, isOne)
			}
		}
	}
	for _, size := range []int{2275, 2306, 4292, 65535, 1 << 20} {
		if got, ok := key.Leaf(strings.Repeat("\x00", size)); got != 0 || ok {
			t.Errorf("%d bytes: %d, %v", size, got, ok)
		}
	}
}

// P5.2: a leaf of 2 to the power of the height or more isn't one.
func TestNoLeafOfThatHeight(t *testing.T) {
	for _, height := range heights {
		public, sig := signed("seed", height, 0, "m")
		count := 1 << height
		for _, leaf := range []int{count, count + 1, 2 * count, 16, 17, 32, 255, 256, 257, 4096, 32768, 65535} {
			other := short(leaf) + sig[2:]
			if got, ok := key.Leaf(other); got != 0 || ok {
				t.Errorf("height %d, leaf %d: %d, %v", height, leaf, got, ok)
			}
			// No path leads from there to anything: so a public of an empty root is none of it either.
			if key.Verify(public, "m", other) || key.Verify(publicOf(height, ""), "m", other) {
				t.Errorf("height %d, leaf %d: verified", height, leaf)
			}
		}
		if _, ok := key.Leaf(short(count-1) + sig[2:]); !ok {
			t.Errorf("height %d: the last leaf isn't one", height)
		}
	}
}

// P5.2: of other lengths than a signature may have none is verified, a signature's own bytes among them or not.
func TestVerifyOfOtherSizes(t *testing.T) {
	for _, height := range heights {
		public, sig := signed("seed", height, 0, "m")
		others := []string{
			"", "\x00", sig[:1], sig[:2], sig[:34], sig[1:], sig[2:], sig[:len(sig)-1], sig + "\x00", "\x00" + sig,
			sig[:len(sig)-32], sig[:len(sig)-33], sig[:len(sig)-31], sig + sig[len(sig)-32:], sig + sig[len(sig)-31:],
			sig + sig, sig + strings.Repeat("\x00", 32*(5-height)), sig[:pathFrom-32], sig[:2] + sig[34:],
		}
		for _, other := range others {
			if key.Verify(public, "m", other) {
				t.Errorf("height %d: verified with %d bytes", height, len(other))
			}
			if got, ok := key.Leaf(other); ok && !slices.ContainsFunc(heights, func(h int) bool { return len(other) == sizeOf(h) }) || got != 0 {
				t.Errorf("height %d: a leaf, %d, of %d bytes", height, got, len(other))
			}
		}
	}
}

// P5.2: five steps lead to a root, but no signature has so many.
func TestNoSignatureOfTheHeightFive(t *testing.T) {
	digests := slices.Repeat([]string{strings.Repeat("d", 32)}, 67+5)
	root, _ := wots.Recover(sha.Tag(6, "m"), digests[:67])
	for _, beside := range digests[67:] {
		root = sha.Tag(4, root, beside)
	}
	sig := short(0) + strings.Join(digests, "")
	if _, ok := key.Leaf(sig); ok || key.Verify(publicOf(5, root), "m", sig) {
		t.Error("a signature of the height 5")
	}
}

// P5.2, P5.3
func TestOtherPublics(t *testing.T) {
	for _, height := range heights {
		public, sig := signed("seed", height, 0, "m")
		root := rootOf(leavesOf("seed", height))
		others := []string{
			"", "p", root, public[:31], public[1:], public + "\x00", public + public, hexOf(public),
			publicOf(height+1, root), publicOf(height+4, root), sha.Tag(5, root), sha.Tag(4, string([]byte{byte(height)}), root),
			key.New("other", height, 0).Public(), key.New("", height, 0).Public(),
		}
		for _, other := range heights {
			if other != height {
				others = append(others, key.New("seed", other, 0).Public())
			}
		}
		for place := range public {
			others = append(others, turned(public, place, 1))
		}
		for i, other := range others {
			if key.Verify(other, "m", sig) {
				t.Errorf("height %d: verified under the public %d, %s", height, i, hexOf(other))
			}
		}
	}
}

// P5.2, P5.3
func TestOtherMessages(t *testing.T) {
	for i, msg := range someMessages {
		height := heights[i%len(heights)]
		public, sig := signed("seed", height, 0, msg)
		for _, other := range append(someMessages, msg+"\x00", "\x00"+msg, msg+msg+"x", sha.Sum(msg), sha.Tag(6, msg), hexOf(msg)+"x") {
			if key.Verify(public, other, sig) != (other == msg) {
				t.Errorf("height %d, signed %d bytes: wrong of %d bytes", height, len(msg), len(other))
			}
		}
	}
}

// P5.3: a byte of a value, of the path or of the leaf's number that is turned.
func TestTurned(t *testing.T) {
	for _, height := range []int{0, 1, 3} {
		public, sig := signed("seed", height, 1<<height/2, "m")
		for place := range sig {
			if key.Verify(public, "m", turned(sig, place, 1<<(place%8))) {
				t.Errorf("height %d: verified with the byte %d turned", height, place)
			}
		}
		if !key.Verify(public, "m", sig) {
			t.Errorf("height %d: not verified as it was", height)
		}
	}
}

// P5.3: at another leaf's number, with another leaf's values or path.
func TestExchanged(t *testing.T) {
	k := key.New("seed", 3, 0)
	sigs := make([]string, 8)
	for i := range sigs {
		sigs[i], _ = k.Sign("m")
	}
	for i, a := range sigs {
		for j, b := range sigs {
			for _, sig := range []string{
				a[:valuesFrom] + b[valuesFrom:],
				a[:valuesFrom] + b[valuesFrom:pathFrom] + a[pathFrom:],
				a[:pathFrom] + b[pathFrom:],
			} {
				if key.Verify(k.Public(), "m", sig) != (i == j) {
					t.Errorf("wrong of %d with what is %d's", i, j)
				}
			}
		}
	}
	a := sigs[5]
	if key.Verify(k.Public(), "m", a[:2]+a[34:66]+a[2:34]+a[66:]) || key.Verify(k.Public(), "m", a[:pathFrom]+a[pathFrom+32:pathFrom+64]+a[pathFrom:pathFrom+32]+a[pathFrom+64:]) {
		t.Error("verified with two values or two steps exchanged")
	}
}

// P5.3
func TestNoLeafSignsTwice(t *testing.T) {
	for _, height := range heights {
		k := key.New("seed", height, 0)
		seen := make([]bool, 1<<height)
		for range 1<<height + 3 {
			sig, _ := k.Sign("m")
			leaf, ok := key.Leaf(sig)
			if ok && seen[leaf] {
				t.Errorf("height %d: the leaf %d signs twice", height, leaf)
			}
			if ok {
				seen[leaf] = true
			}
		}
		if slices.Contains(seen, false) {
			t.Errorf("height %d: a leaf signs nothing: %v", height, seen)
		}
	}
}

// P5.3: unlike seeds and heights have unlike publics.
func TestPublicsAreUnlike(t *testing.T) {
	seen := make(map[string]string)
	for _, seed := range []string{"", "seed", "seee", "seed\x00", "\x00"} {
		for _, height := range heights {
			public := key.New(seed, height, 0).Public()
			name := seed + short(height)
			if first, ok := seen[public]; ok {
				t.Errorf("%q and %q have one public", first, name)
			}
			seen[public] = name
		}
	}
}
