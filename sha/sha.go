// Package sha is layer 2: see shared/doc/02-sha.md.
package sha

import "palaver/octets"

// Sum is the digest of bytes.
func Sum(s string) string {
	state := first
	var b block
	rest := s
	for len(rest) >= blockSize {
		copy(b[:], rest)
		mix(&state, &b)
		rest = rest[blockSize:]
	}
	mixLast(&state, rest, uint64(len(s))*8)
	return digest(&state)
}

// Input is what a tag and texts are as bytes.
func Input(tag int, parts ...string) string {
	head, _ := octets.Byte(tag & 255)
	size := len(head)
	for _, part := range parts {
		size += 4 + len(part)
	}
	out := make([]byte, 0, size)
	out = append(out, head...)
	for _, part := range parts {
		// Of a text that is too long for a long nothing is promised: so the bool tells nothing here.
		length, _ := octets.Long(len(part))
		out = append(out, length...)
		out = append(out, part...)
	}
	return string(out)
}

// Tag is the digest of a tag and texts.
func Tag(tag int, parts ...string) string {
	return Sum(Input(tag, parts...))
}

// Clash is two unlike texts that have one digest.
func Clash(texts []string) (int, int, bool) {
	return clashBy(texts, Sum)
}

// clashBy takes the digest as a function, as no two unlike texts with one digest of SHA-256 are known to try it with.
func clashBy(texts []string, sum func(string) string) (int, int, bool) {
	low, high, found := 0, 0, false
	places := make(map[string]int)
	for i, text := range texts {
		d := sum(text)
		place, seen := places[d]
		if !seen {
			places[d] = i
			continue
		}
		// The first text of a digest stands in each digest's lowest clash, so it is enough to look at that one;
		// a lower first one may still come with another digest.
		if texts[place] != text && (!found || place < low) {
			low, high, found = place, i, true
		}
	}
	return low, high, found
}
