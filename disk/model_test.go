package disk_test

import (
	"math/rand"
	"slices"
	"strings"
	"testing"

	"palaver/api"
	"palaver/disk"
)

// model is a disk told another way: a list of files in order, each with its safe bytes and the others apart.
type model struct {
	room  int
	files []modelFile
	off   bool
	until int // below 0, if it isn't armed
}

type modelFile struct{ name, safe, loose string }

func (m *model) used() int {
	n := 0
	for _, f := range m.files {
		n += len(f.safe + f.loose)
	}
	return n
}

func (m *model) find(name string) (int, bool) {
	return slices.BinarySearchFunc(m.files, name, func(f modelFile, name string) int { return strings.Compare(f.name, name) })
}

func (m *model) operate(name string, do func(at int, there bool) api.Errno) api.Errno {
	if m.until == 0 {
		m.off, m.until = true, -1
	}
	if m.off {
		return api.ErrDisk
	}
	if m.until > 0 {
		m.until--
	}
	if len(name) < 1 || len(name) > 32 {
		return api.ErrArg
	}
	return do(m.find(name))
}

func (m *model) append(name, data string) api.Errno {
	return m.operate(name, func(at int, there bool) api.Errno {
		if m.used()+len(data) > m.room {
			return api.ErrDisk
		}
		if !there {
			m.files = slices.Insert(m.files, at, modelFile{name: name})
		}
		m.files[at].loose += data
		return api.OK
	})
}

func (m *model) sync(name string) api.Errno {
	return m.operate(name, func(at int, there bool) api.Errno {
		if !there {
			return api.ErrNone
		}
		f := &m.files[at]
		f.safe, f.loose = f.safe+f.loose, ""
		return api.OK
	})
}

func (m *model) cut(name string, n int) api.Errno {
	return m.operate(name, func(at int, there bool) api.Errno {
		if !there {
			return api.ErrNone
		}
		f := &m.files[at]
		all := f.safe + f.loose
		if n < 0 || len(all) < n {
			return api.ErrArg
		}
		f.safe, f.loose = all[:n], ""
		return api.OK
	})
}

func (m *model) crash(keep []int) {
	for i := range m.files {
		f := &m.files[i]
		for n := 0; f.loose != "" && i < len(keep) && n < keep[i]; n++ {
			f.safe, f.loose = f.safe+f.loose[:1], f.loose[1:]
		}
		f.loose = ""
	}
	m.off, m.until = false, -1
}

// step does one thing, chosen by chance, to a disk and to its model.
func step(t *testing.T, r *rand.Rand, d *disk.Disk, m *model) {
	t.Helper()
	names := []string{"a", "b", "aa", "\x00", "\xff", strings.Repeat("n", 32), "", strings.Repeat("n", 33)}
	name := names[r.Intn(len(names))]
	switch r.Intn(12) {
	case 0, 1, 2, 3:
		data := "0123456789abcdef"[:r.Intn(17)]
		check(t, "Append", d.Append(name, data), m.append(name, data))
	case 4, 5, 6:
		check(t, "Sync", d.Sync(name), m.sync(name))
	case 7, 8:
		n := r.Intn(22) - 2
		check(t, "Cut", d.Cut(name, n), m.cut(name, n))
	case 9:
		n := r.Intn(16) - 1
		if d.Arm(n); !m.off {
			m.until = max(n, 0)
		}
	default:
		var keep []int
		for range r.Intn(9) {
			keep = append(keep, r.Intn(20)-3)
		}
		if m.off || r.Intn(3) == 0 {
			d.Crash(keep)
			m.crash(keep)
		}
	}
}

func checkAsModel(t *testing.T, d *disk.Disk, m *model) {
	t.Helper()
	checkOn(t, d, !m.off)
	checkUsed(t, d, m.used())
	var names []string
	for _, f := range m.files {
		names = append(names, f.name)
		if m.off {
			checkNoRead(t, d, f.name, api.ErrDisk)
		} else {
			checkRead(t, d, f.name, f.safe+f.loose)
		}
	}
	checkNames(t, d, names...)
}

// P9.1, P9.2, P9.3: any calls, one behind another.
func TestAnyCalls(t *testing.T) {
	for seed := range int64(300) {
		r := rand.New(rand.NewSource(seed))
		room := r.Intn(120)
		d, m := disk.New(room), &model{room: room, until: -1}
		for range 200 {
			step(t, r, d, m)
			checkAsModel(t, d, m)
			if t.Failed() {
				t.Fatalf("with the seed %d", seed)
			}
		}
	}
}
