package store_test

import (
	"math/rand"
	"slices"
	"strings"
	"testing"

	"palaver/api"
	"palaver/disk"
	"palaver/store"
)

// model is a store told another way: its records, of which the state is looked up from their end on.
type model []string

func (m model) state() store.State {
	var s store.State
	var texts []string
	done := 0
	for _, rec := range slices.Backward(m) {
		switch rest := rec[1:]; rec[0] {
		case 'R':
			if s.Room == "" {
				s.Room = rest
			}
		case 'E':
			s.Events = slices.Insert(s.Events, 0, rest)
		case 'K':
			s.Used = max(s.Used, int(rest[0])*256+int(rest[1]))
		case 'Q':
			texts = slices.Insert(texts, 0, rest)
		case 'D':
			done++
		}
	}
	s.Queue = texts[done:]
	return s
}

// chosen is one call, chosen by chance, with the record that it lays and what is wrong with it by the model.
func chosen(r *rand.Rand, m model) (do func(*store.Store) api.Errno, record string, wrong api.Errno) {
	now := m.state()
	switch r.Intn(10) {
	case 0:
		room := strings.Repeat(string(rune('a'+r.Intn(3))), 31+r.Intn(3))
		if len(room) != 32 {
			wrong = api.ErrArg
		} else if now.Room != "" {
			wrong = api.ErrTwice
		}
		return func(s *store.Store) api.Errno { return s.Enter(room) }, "R" + room, wrong
	case 1, 2, 3:
		b := strings.Repeat(string(rune('a'+r.Intn(26))), r.Intn(2000))
		if r.Intn(20) == 0 {
			b, wrong = strings.Repeat("b", 65535), api.ErrLong
		}
		return func(s *store.Store) api.Errno { return s.Event(b) }, "E" + b, wrong
	case 4, 5:
		used := now.Used - 2 + r.Intn(6)
		if r.Intn(20) == 0 {
			used = 65536
		}
		if used <= now.Used || used > 65535 {
			wrong = api.ErrArg
		}
		return func(s *store.Store) api.Errno { return s.Spend(used) }, "K" + string([]byte{byte(used >> 8), byte(used)}), wrong
	case 6, 7:
		text := strings.Repeat("q", r.Intn(210))
		if len(text) > 200 {
			wrong = api.ErrLong
		} else if len(now.Queue) >= 4 {
			wrong = api.ErrBusy
		}
		return func(s *store.Store) api.Errno { return s.Queue(text) }, "Q" + text, wrong
	}
	if len(now.Queue) == 0 {
		wrong = api.ErrNone
	}
	return (*store.Store).Done, "D", wrong
}

// P11.1, P11.2, P11.3: any calls, one behind another, with crashes between, and at any operation.
func TestAnyCalls(t *testing.T) {
	for seed := range int64(300) {
		r := rand.New(rand.NewSource(seed))
		d := disk.New(8000 + r.Intn(40000))
		var m model
		for range 6 {
			m = untilCrash(t, r, d, m)
			if t.Failed() {
				t.Fatalf("with the seed %d", seed)
			}
		}
	}
}

// untilCrash opens a store as the model tells it, and answers the model of what is there behind a crash.
func untilCrash(t *testing.T, r *rand.Rand, d *disk.Disk, m model) model {
	t.Helper()
	s := checkOpen(t, d, m.state())
	d.Arm(r.Intn(60))
	under := m
	for range r.Intn(40) {
		do, record, wrong := chosen(r, m)
		got := do(s)
		next := append(slices.Clip(m), record)
		switch {
		case wrong != api.OK:
			check(t, record[:1], got, wrong)
		case got == api.OK:
			m, under = next, next
		default:
			check(t, record[:1], got, api.ErrDisk)
			if !d.On() && len(under) == len(m) {
				under = next
			}
		}
		checkState(t, s, m.state())
	}
	var keep []int
	for range r.Intn(16) {
		keep = append(keep, r.Intn(2100)-10)
	}
	d.Crash(keep)
	again, errno := store.Open(d)
	check(t, "Open", errno, api.OK)
	if got := again.State(); same(got, m.state()) {
		return m
	}
	checkState(t, again, under.state())
	return under
}

// P11.3: each call under way at each of its operations, whatever is kept of it.
func TestCrash(t *testing.T) {
	before := model{"Ea", "K\x00\x01", "Qa"}
	for _, a := range acts() {
		size := len(sealed(a.record))
		for n := range 3 {
			for kept := -1; kept < size+2; kept++ {
				d := laid(t, before...)
				s := checkOpen(t, d, before.state())
				d.Arm(n)
				errno := a.do(s)
				d.Crash([]int{kept})
				after := append(slices.Clip(before), a.record)
				if n < 2 {
					check(t, a.name, errno, api.ErrDisk)
				}
				if n == 2 {
					check(t, a.name, errno, api.OK)
				}
				if n == 2 || n == 1 && kept >= size {
					checkOpen(t, d, after.state())
				} else {
					checkOpen(t, d, before.state())
				}
			}
		}
	}
}
