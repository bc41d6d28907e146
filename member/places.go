package member

import (
	"math/bits"

	"palaver/api"
)

const wordBits = 64

// places is some places of a list of entries, a bit for each.
type places [(api.MaxEvents + wordBits - 1) / wordBits]uint64

func (p *places) has(i int) bool {
	return p[i/wordBits]>>(i%wordBits)&1 == 1
}

func (p *places) put(i int) {
	p[i/wordBits] |= 1 << (i % wordBits)
}

func (p *places) putAll(other places) {
	for i := range p {
		p[i] |= other[i]
	}
}

// both is what is in the one and in the other.
func (p places) both(other places) places {
	for i := range p {
		p[i] &= other[i]
	}
	return p
}

func (p *places) count() int {
	n := 0
	for _, word := range p {
		n += bits.OnesCount64(word)
	}
	return n
}
