package bloom_test

import (
	"math/big"
	"math/rand"
	"strings"
	"testing"

	"palaver/bloom"
)

// The model tells the chapter's words another way: by great numbers, and by a bool for each bit.

func modelSize(n int) int {
	for _, size := range []int{64, 128, 256, 512, 1024, 2048} {
		if big.NewInt(int64(size)).Cmp(new(big.Int).Mul(big.NewInt(10), big.NewInt(int64(n)))) >= 0 {
			return size
		}
	}
	return 4096
}

func modelPlaces(id string, m int) []int {
	if len(id) != 32 || m < 1 || m > 4096 {
		return nil
	}
	place := new(big.Int).SetBytes([]byte(id[:4]))
	step := new(big.Int).SetBytes([]byte(id[4:8]))
	step.SetBit(step, 0, 1)
	var out []int
	for range 4 {
		out = append(out, int(new(big.Int).Mod(place, big.NewInt(int64(m))).Int64()))
		place.Add(place, step)
	}
	return out
}

func modelMake(ids []string) string {
	var right []string
	for _, id := range ids {
		if len(id) == 32 {
			right = append(right, id)
		}
	}
	set := make([]bool, modelSize(len(right)))
	for _, id := range right {
		for _, place := range modelPlaces(id, len(set)) {
			set[place] = true
		}
	}
	var out strings.Builder
	for at := 0; at < len(set); at += 8 {
		b, worth := 0, 1
		for _, on := range set[at : at+8] {
			if on {
				b += worth
			}
			worth *= 2
		}
		out.WriteByte(byte(b))
	}
	return out.String()
}

func modelHas(bits, id string) bool {
	// A text's lowest bits come first: so as a number it is turned round.
	turned := []byte(bits)
	for i, j := 0, len(turned)-1; i < j; i, j = i+1, j-1 {
		turned[i], turned[j] = turned[j], turned[i]
	}
	all := new(big.Int).SetBytes(turned)
	places := modelPlaces(id, 8*len(bits))
	count := 0
	for _, place := range places {
		count += int(all.Bit(place))
	}
	return count == 4
}

// P14.1, P14.2
func TestBloomIsAsItsModel(t *testing.T) {
	r := rand.New(rand.NewSource(145))
	for range 3000 {
		ids := randomIds(r, r.Intn(1+r.Intn(60)))
		bits := bloom.Make(ids)
		if want := modelMake(ids); bits != want {
			t.Fatalf("Make(%x): %x, not %x", ids, bits, want)
		}
		if r.Intn(3) == 0 {
			bits = bits[r.Intn(len(bits)):]
		}
		for _, id := range append(randomIds(r, 10), ids...) {
			checkHas(t, bits, id, modelHas(bits, id))
		}
		id, m := randomId(r), r.Intn(4100)-1
		checkPlaces(t, id, m, modelPlaces(id, m)...)
		n := r.Intn(1<<r.Intn(62)) - 3
		checkSize(t, n, modelSize(n))
	}
}

func randomIds(r *rand.Rand, n int) []string {
	var out []string
	for range n {
		out = append(out, randomId(r))
	}
	return out
}

func randomId(r *rand.Rand) string {
	out := make([]byte, 32)
	r.Read(out)
	switch r.Intn(10) {
	case 0:
		out = out[:r.Intn(32)]
	case 1:
		out = append(out, 0)
	case 2:
		// Few unlike ones, so that some fall together.
		clear(out)
		out[3], out[7] = byte(r.Intn(8)), byte(r.Intn(4))
	}
	return string(out)
}
