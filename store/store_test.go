package store_test

import (
	"encoding/binary"
	"encoding/hex"
	"fmt"
	"hash/crc32"
	"math"
	"slices"
	"strings"
	"testing"
	"unsafe"

	"palaver/api"
	"palaver/disk"
	"palaver/store"
)

const maxRoom = 1 << 22

var errnoNames = []string{"OK", "ErrArg", "ErrForm", "ErrLong", "ErrSign", "ErrSpent", "ErrDisk", "ErrDenied", "ErrBusy", "ErrMissing", "ErrNone", "ErrTwice", "ErrOff"}

func nameOf(errno api.Errno) string {
	if errno < 0 || int(errno) >= len(errnoNames) {
		return "another number"
	}
	return errnoNames[errno]
}

func check(t *testing.T, what string, got, want api.Errno) {
	t.Helper()
	if got != want {
		t.Errorf("%s: %s, not %s", what, nameOf(got), nameOf(want))
	}
}

// sealed is records as they stand in a segment, told by the library's own sums.
func sealed(records ...string) string {
	var out []byte
	for _, rec := range records {
		out = binary.BigEndian.AppendUint32(out, uint32(len(rec)))
		out = binary.BigEndian.AppendUint32(out, crc32.ChecksumIEEE([]byte(rec)))
		out = append(out, rec...)
	}
	return string(out)
}

// laid is a disk with these records in the store's first segment.
func laid(t *testing.T, records ...string) *disk.Disk {
	t.Helper()
	d := disk.New(maxRoom)
	check(t, "the disk's Append", d.Append("room.0", sealed(records...)), api.OK)
	check(t, "the disk's Sync", d.Sync("room.0"), api.OK)
	return d
}

func same(a, b store.State) bool {
	return a.Room == b.Room && slices.Equal(a.Events, b.Events) && a.Used == b.Used && slices.Equal(a.Queue, b.Queue)
}

func told(s store.State) string {
	return fmt.Sprintf("{%q, %d events %.100q, used %d, %d texts %.100q}", s.Room, len(s.Events), s.Events, s.Used, len(s.Queue), s.Queue)
}

func checkState(t *testing.T, s *store.Store, want store.State) {
	t.Helper()
	if got := s.State(); !same(got, want) {
		t.Errorf("State: %s, not %s", told(got), told(want))
	}
}

func checkOpen(t *testing.T, d *disk.Disk, want store.State) *store.Store {
	t.Helper()
	s, errno := store.Open(d)
	if errno != api.OK || s == nil {
		t.Fatalf("Open: %v, %s", s != nil, nameOf(errno))
	}
	checkState(t, s, want)
	return s
}

func checkNoOpen(t *testing.T, d *disk.Disk, want api.Errno) {
	t.Helper()
	if s, errno := store.Open(d); s != nil || errno != want {
		t.Errorf("Open: %v, %s; not %s", s != nil, nameOf(errno), nameOf(want))
	}
}

// checkLaid holds the disk's only file against the records that it should have.
func checkLaid(t *testing.T, d *disk.Disk, records ...string) {
	t.Helper()
	if got, errno := d.Read("room.0"); errno != api.OK || got != sealed(records...) {
		t.Errorf("room.0: %.300q, %s; not %.300q", got, nameOf(errno), records)
	}
	if names := d.Names(); len(names) != 1 {
		t.Errorf("the disk's names: %q", names)
	}
}

func id(first byte) string {
	return string(first) + strings.Repeat("i", 31)
}

// P11.1: no disk, one without a store, one that is off.
func TestOpen(t *testing.T) {
	checkNoOpen(t, nil, api.ErrArg)
	d := disk.New(maxRoom)
	d.Arm(0)
	checkOpen(t, d, store.State{})
	if names := d.Names(); len(names) != 0 || !d.On() {
		t.Errorf("the disk: %q, on: %v", names, d.On())
	}
	check(t, "the disk's Sync", d.Sync("x"), api.ErrDisk)
	checkNoOpen(t, d, api.ErrDisk)
	checkOpen(t, disk.New(0), store.State{})
}

// P11.1: a log that must be cut, and can't be.
func TestOpenSpoilt(t *testing.T) {
	d := laid(t, "Ea", "Eb")
	check(t, "the disk's Append", d.Append("room.0", "torn"), api.OK)
	check(t, "the disk's Append", d.Append("room.1", sealed("Ec")), api.OK)
	d.Arm(1)
	checkNoOpen(t, d, api.ErrDisk)
	d.Crash(nil)
	check(t, "the disk's Append", d.Append("room.0", "torn"), api.OK)
	checkOpen(t, d, store.State{Events: []string{"a", "b"}})
	if got, _ := d.Read("room.0"); got != sealed("Ea", "Eb") {
		t.Errorf("room.0: %q", got)
	}
}

// P11.1: the records that may be, and what state they make.
func TestOpenRecords(t *testing.T) {
	long := strings.Repeat("q", 65534)
	for what, c := range map[string]struct {
		records []string
		want    store.State
	}{
		"a room":                {[]string{"R" + id('a')}, store.State{Room: id('a')}},
		"two rooms":             {[]string{"R" + id('b'), "R" + id('a')}, store.State{Room: id('a')}},
		"a room of zeroes":      {[]string{"R" + strings.Repeat("\x00", 32)}, store.State{Room: strings.Repeat("\x00", 32)}},
		"an event":              {[]string{"Eab"}, store.State{Events: []string{"ab"}}},
		"an empty event":        {[]string{"E"}, store.State{Events: []string{""}}},
		"events":                {[]string{"Eb", "Ea", "E", "Eb", "ED", "EE"}, store.State{Events: []string{"b", "a", "", "b", "D", "E"}}},
		"a long event":          {[]string{"E" + long}, store.State{Events: []string{long}}},
		"a number":              {[]string{"K\x01\x02"}, store.State{Used: 258}},
		"the number 0":          {[]string{"K\x00\x00"}, store.State{}},
		"the greatest number":   {[]string{"K\xff\xff"}, store.State{Used: 65535}},
		"numbers that rise":     {[]string{"K\x00\x02", "K\x00\x03", "K\x01\x00"}, store.State{Used: 256}},
		"numbers that fall":     {[]string{"K\x01\x00", "K\x00\xff", "K\x00\x01"}, store.State{Used: 256}},
		"numbers up and down":   {[]string{"K\x00\x03", "K\x00\x07", "K\x00\x07", "K\x00\x05"}, store.State{Used: 7}},
		"a text":                {[]string{"Qtext"}, store.State{Queue: []string{"text"}}},
		"an empty text":         {[]string{"Q"}, store.State{Queue: []string{""}}},
		"a long text":           {[]string{"Q" + long}, store.State{Queue: []string{long}}},
		"texts":                 {[]string{"Qb", "Qa", "Q", "Qb", "QD", "Qf"}, store.State{Queue: []string{"b", "a", "", "b", "D", "f"}}},
		"a text that is done":   {[]string{"Qa", "D"}, store.State{}},
		"the first is done":     {[]string{"Qa", "Qb", "Qc", "D"}, store.State{Queue: []string{"b", "c"}}},
		"the chapter's example": {[]string{"Qa", "Qb", "D"}, store.State{Queue: []string{"b"}}},
		"done, and more":        {[]string{"Qa", "D", "Qb", "Qc", "D", "D", "Q", "Qd"}, store.State{Queue: []string{"", "d"}}},
		"all kinds":             {[]string{"Qa", "K\x00\x01", "R" + id('a'), "Ea", "D", "Qb", "K\x00\x02", "Eb"}, store.State{Room: id('a'), Events: []string{"a", "b"}, Used: 2, Queue: []string{"b"}}},
	} {
		t.Run(what, func(t *testing.T) {
			d := laid(t, c.records...)
			checkOpen(t, d, c.want)
			checkLaid(t, d, c.records...)
			checkOpen(t, d, c.want)
		})
	}
}

// P11.1: the records that may not be, first, amid others and last.
func TestOpenForm(t *testing.T) {
	for _, bad := range []string{
		"", "R", "R" + id('a')[1:], "R" + id('a') + "x", "R" + id('a') + id('b'), "K", "K\x00", "K\x00\x01\x02", "K\x00\x01\x00\x02",
		"Dx", "D\x00", "DD", "r" + id('a'), "e", "k\x00\x01", "q", "d", "A", "S", "\x00", "\xff", " E", "\x00E", "0", strings.Repeat("x", 65535),
	} {
		good := []string{"R" + id('a'), "Qa", "K\x00\x01"}
		for at := range len(good) + 1 {
			records := slices.Insert(slices.Clone(good), at, bad)
			d := laid(t, records...)
			checkNoOpen(t, d, api.ErrForm)
			checkLaid(t, d, records...)
		}
	}
}

// P11.1: a D when nothing waits.
func TestOpenDone(t *testing.T) {
	for _, records := range [][]string{{"D"}, {"Ea", "D", "Qa"}, {"Qa", "D", "D"}, {"Qa", "D", "Qb", "D", "D", "Qc"}, {"Qa", "Qb", "D", "D", "D"}} {
		checkNoOpen(t, laid(t, records...), api.ErrForm)
	}
}

// P11.1: a record that may not be, behind one that is spoilt, is cut off with it.
func TestOpenFormCut(t *testing.T) {
	d := laid(t, "Ea")
	check(t, "the disk's Append", d.Append("room.0", "torn"+sealed("bad")), api.OK)
	checkOpen(t, d, store.State{Events: []string{"a"}})
}

// P11.1: records of several segments, and other logs beside them.
func TestOpenSegments(t *testing.T) {
	d := laid(t, "Ea", "Qa")
	for _, f := range [][2]string{{"room.1", sealed("Eb", "D")}, {"room.2", sealed("Qb")}, {"room.4", sealed("bad")}, {"roo.0", sealed("bad")}, {"room", "x"}} {
		check(t, "the disk's Append", d.Append(f[0], f[1]), api.OK)
	}
	s := checkOpen(t, d, store.State{Events: []string{"a", "b"}, Queue: []string{"b"}})
	check(t, "Event", s.Event("c"), api.OK)
	if got, _ := d.Read("room.2"); got != sealed("Qb", "Ec") {
		t.Errorf("room.2: %q", got)
	}
}

// P11.1: a store that is nil.
func TestNil(t *testing.T) {
	var s *store.Store
	checkState(t, s, store.State{})
	for _, room := range []string{"", id('a'), id('a') + "x"} {
		check(t, "Enter", s.Enter(room), api.ErrArg)
	}
	for _, n := range []int{0, 1, 201, 65535} {
		check(t, "Event", s.Event(strings.Repeat("e", n)), api.ErrArg)
		check(t, "Queue", s.Queue(strings.Repeat("e", n)), api.ErrArg)
		check(t, "Spend", s.Spend(n), api.ErrArg)
	}
	check(t, "Done", s.Done(), api.ErrArg)
}

// P11.2: the bytes that are laid, by each call, and the state behind it.
func TestLaid(t *testing.T) {
	d := disk.New(maxRoom)
	s := checkOpen(t, d, store.State{})
	room := ""
	for i := range 32 {
		room += string(rune(i))
	}
	check(t, "Enter", s.Enter(room), api.OK)
	checkState(t, s, store.State{Room: room})
	check(t, "Event", s.Event("ab"), api.OK)
	checkState(t, s, store.State{Room: room, Events: []string{"ab"}})
	check(t, "Spend", s.Spend(258), api.OK)
	checkState(t, s, store.State{Room: room, Events: []string{"ab"}, Used: 258})
	check(t, "Queue", s.Queue("a"), api.OK)
	checkState(t, s, store.State{Room: room, Events: []string{"ab"}, Used: 258, Queue: []string{"a"}})
	check(t, "Done", s.Done(), api.OK)
	checkState(t, s, store.State{Room: room, Events: []string{"ab"}, Used: 258})
	want := "0000002197b031b452000102030405060708090a0b0c0d0e0f101112131415161718191a1b1c1d1e1f" +
		"00000003564accab456162" + "00000003749beb5e4b0102" + "00000002d8cc2f245161" + "00000001a3b36a0444"
	if got, _ := d.Read("room.0"); hex.EncodeToString([]byte(got)) != want {
		t.Errorf("room.0: %x", got)
	}
	d.Crash(nil)
	checkOpen(t, d, store.State{Room: room, Events: []string{"ab"}, Used: 258})
}

// P11.2: ids of 31, 32 and 33 bytes, and a second room.
func TestEnter(t *testing.T) {
	d := disk.New(maxRoom)
	s := checkOpen(t, d, store.State{})
	wrong := []string{"", "a", id('a')[1:], id('a') + "x", id('a') + id('b'), strings.Repeat("x", 70000)}
	for _, room := range wrong {
		check(t, "Enter", s.Enter(room), api.ErrArg)
		checkState(t, s, store.State{})
	}
	check(t, "Enter", s.Enter(id('a')), api.OK)
	check(t, "Enter", s.Enter(id('a')), api.ErrTwice)
	check(t, "Enter", s.Enter(id('b')), api.ErrTwice)
	for _, room := range wrong {
		check(t, "Enter", s.Enter(room), api.ErrArg)
	}
	checkState(t, s, store.State{Room: id('a')})
	checkLaid(t, d, "R"+id('a'))
	s = checkOpen(t, d, store.State{Room: id('a')})
	check(t, "Enter", s.Enter(id('b')), api.ErrTwice)
}

// P11.2: events of no bytes, of 65534 and of more; repeats.
func TestEvent(t *testing.T) {
	d := disk.New(maxRoom)
	s := checkOpen(t, d, store.State{})
	long := strings.Repeat("\xff\x00", 32767)
	check(t, "Event", s.Event(""), api.OK)
	check(t, "Event", s.Event("a"), api.OK)
	check(t, "Event", s.Event("a"), api.OK)
	check(t, "Event", s.Event(long), api.OK)
	want := store.State{Events: []string{"", "a", "a", long}}
	for _, more := range []string{"x", "xy", long} {
		check(t, "Event", s.Event(long+more), api.ErrLong)
		checkState(t, s, want)
	}
	checkLaid(t, d, "E", "Ea", "Ea", "E"+long)
	s = checkOpen(t, d, want)
	check(t, "Event", s.Event("b"), api.OK)
	checkOpen(t, d, store.State{Events: []string{"", "a", "a", long, "b"}})
}

// P11.2: numbers below 0, the state's own and about it, 65535 and more.
func TestSpend(t *testing.T) {
	d := disk.New(maxRoom)
	s := checkOpen(t, d, store.State{})
	records := []string{}
	used := 0
	for _, next := range []int{1, 2, 255, 256, 1000, 65534, 65535} {
		for _, n := range []int{math.MinInt, -65536, -1, 0, used - 1, used, 65536, 65537, 65536 + 65535, 1 << 32, 1<<32 + 65535, math.MaxInt} {
			check(t, "Spend", s.Spend(n), api.ErrArg)
			checkState(t, s, store.State{Used: used})
		}
		check(t, "Spend", s.Spend(next), api.OK)
		used = next
		checkState(t, s, store.State{Used: used})
		records = append(records, "K"+string([]byte{byte(next >> 8), byte(next)}))
		checkLaid(t, d, records...)
		s = checkOpen(t, d, store.State{Used: used})
	}
	check(t, "Spend", s.Spend(65535), api.ErrArg)
	check(t, "Spend", s.Spend(65536), api.ErrArg)
}

// P11.2: texts of 0, 200 and 201 bytes, a fourth and a fifth; Done of one, of all, of nothing.
func TestQueue(t *testing.T) {
	d := disk.New(maxRoom)
	s := checkOpen(t, d, store.State{})
	check(t, "Done", s.Done(), api.ErrNone)
	body := strings.Repeat("q", 200)
	texts := []string{"", body, "D", ""}
	for i, text := range texts {
		check(t, "Queue", s.Queue(body+"q"), api.ErrLong)
		check(t, "Queue", s.Queue(strings.Repeat("q", 70000)), api.ErrLong)
		checkState(t, s, store.State{Queue: texts[:i]})
		check(t, "Queue", s.Queue(text), api.OK)
		checkState(t, s, store.State{Queue: texts[:i+1]})
	}
	for _, text := range []string{"", "fifth", body} {
		check(t, "Queue", s.Queue(text), api.ErrBusy)
	}
	check(t, "Queue", s.Queue(body+"q"), api.ErrLong)
	checkState(t, s, store.State{Queue: texts})
	checkLaid(t, d, "Q", "Q"+body, "QD", "Q")
	s = checkOpen(t, d, store.State{Queue: texts})
	check(t, "Queue", s.Queue("fifth"), api.ErrBusy)

	check(t, "Done", s.Done(), api.OK)
	checkState(t, s, store.State{Queue: texts[1:]})
	check(t, "Queue", s.Queue("fifth"), api.OK)
	check(t, "Queue", s.Queue("sixth"), api.ErrBusy)
	texts = append(texts, "fifth")
	for i := 1; i < len(texts); i++ {
		checkState(t, s, store.State{Queue: texts[i:]})
		checkOpen(t, d, store.State{Queue: texts[i:]})
		check(t, "Done", s.Done(), api.OK)
	}
	for range 2 {
		checkState(t, s, store.State{})
		check(t, "Done", s.Done(), api.ErrNone)
	}
	checkLaid(t, d, "Q", "Q"+body, "QD", "Q", "D", "Qfifth", "D", "D", "D", "D")
	s = checkOpen(t, d, store.State{})
	check(t, "Done", s.Done(), api.ErrNone)
}

// P11.2: more wait than may, since a disk says so: no more may until they are done.
func TestQueueMany(t *testing.T) {
	d := laid(t, "Qa", "Qb", "Qc", "Qd", "Qe", "Qf")
	s := checkOpen(t, d, store.State{Queue: []string{"a", "b", "c", "d", "e", "f"}})
	for range 3 {
		check(t, "Queue", s.Queue("g"), api.ErrBusy)
		check(t, "Done", s.Done(), api.OK)
	}
	check(t, "Queue", s.Queue("g"), api.OK)
	checkOpen(t, d, store.State{Queue: []string{"d", "e", "f", "g"}})
}

// act is a call that would be OK, told with the record that it lays.
type act struct {
	name, record string
	do           func(s *store.Store) api.Errno
}

func acts() []act {
	return []act{
		{"Enter", "R" + id('b'), func(s *store.Store) api.Errno { return s.Enter(id('b')) }},
		{"Event", "Enew", func(s *store.Store) api.Errno { return s.Event("new") }},
		{"Spend", "K\x00\x09", func(s *store.Store) api.Errno { return s.Spend(9) }},
		{"Queue", "Qnew", func(s *store.Store) api.Errno { return s.Queue("new") }},
		{"Done", "D", func(s *store.Store) api.Errno { return s.Done() }},
	}
}

// P11.2: each call on a disk that has no room for it, and has room for it by a byte.
func TestFull(t *testing.T) {
	before := []string{"Ea", "K\x00\x01", "Qa"}
	was := store.State{Events: []string{"a"}, Used: 1, Queue: []string{"a"}}
	for _, a := range acts() {
		size := len(sealed(before...)) + len(sealed(a.record))
		d := disk.New(size - 1)
		check(t, "the disk's Append", d.Append("room.0", sealed(before...)), api.OK)
		s := checkOpen(t, d, was)
		for range 2 {
			check(t, a.name, a.do(s), api.ErrDisk)
			checkState(t, s, was)
			checkLaid(t, d, before...)
		}
		checkOpen(t, d, was)
		if len(a.record) > 1 {
			check(t, "Done", s.Done(), api.OK)
			checkOpen(t, d, store.State{Events: was.Events, Used: was.Used})
		}
		d = disk.New(size)
		check(t, "the disk's Append", d.Append("room.0", sealed(before...)), api.OK)
		s = checkOpen(t, d, was)
		check(t, a.name, a.do(s), api.OK)
		checkLaid(t, d, append(slices.Clip(before), a.record)...)
	}
}

// P11.2: each call on a disk that goes off by it, or is off; the state is as it was, and what is wrong else is told first.
func TestOff(t *testing.T) {
	was := store.State{Events: []string{"a"}, Used: 1, Queue: []string{"a"}}
	for _, a := range acts() {
		for n := range 2 {
			d := laid(t, "Ea", "K\x00\x01", "Qa")
			s := checkOpen(t, d, was)
			d.Arm(n)
			for range 2 {
				check(t, a.name, a.do(s), api.ErrDisk)
				checkState(t, s, was)
			}
			for _, b := range acts() {
				check(t, b.name, b.do(s), api.ErrDisk)
				checkState(t, s, was)
			}
			check(t, "Enter", s.Enter(""), api.ErrArg)
			check(t, "Event", s.Event(strings.Repeat("e", 65535)), api.ErrLong)
			check(t, "Spend", s.Spend(1), api.ErrArg)
			check(t, "Queue", s.Queue(strings.Repeat("q", 201)), api.ErrLong)
			d.Crash(nil)
			checkOpen(t, d, was)
			if n == 0 {
				continue
			}
			d = laid(t, "Ea", "K\x00\x01", "Qa")
			s = checkOpen(t, d, was)
			d.Arm(n)
			check(t, a.name, a.do(s), api.ErrDisk)
			d.Crash([]int{100})
			checkLaid(t, d, "Ea", "K\x00\x01", "Qa", a.record)
		}
	}
}

// P11.2: what is wrong with a call is told ahead of a disk that is off, also by the state.
func TestErrorsInOrder(t *testing.T) {
	d := laid(t, "R"+id('a'), "K\x00\x07", "Qa", "Qb", "Qc", "Qd")
	s := checkOpen(t, d, store.State{Room: id('a'), Used: 7, Queue: []string{"a", "b", "c", "d"}})
	empty := checkOpen(t, disk.New(0), store.State{})
	d.Arm(0)
	for range 2 {
		check(t, "Enter", s.Enter(id('b')), api.ErrTwice)
		check(t, "Enter", s.Enter(id('b')[1:]), api.ErrArg)
		check(t, "Spend", s.Spend(7), api.ErrArg)
		check(t, "Spend", s.Spend(65536), api.ErrArg)
		check(t, "Queue", s.Queue("e"), api.ErrBusy)
		check(t, "Queue", s.Queue(strings.Repeat("q", 201)), api.ErrLong)
		check(t, "Event", s.Event("e"), api.ErrDisk)
		check(t, "Event", s.Event(strings.Repeat("e", 65535)), api.ErrLong)
		check(t, "Done", empty.Done(), api.ErrNone)
		check(t, "Event", empty.Event(strings.Repeat("e", 65535)), api.ErrLong)
		check(t, "Event", empty.Event(""), api.ErrDisk)
	}
}

// P11.2: a call that is wrong lays nothing, and takes none of the disk's operations.
func TestWrongLaysNothing(t *testing.T) {
	d := laid(t, "R"+id('a'), "K\x00\x07")
	s := checkOpen(t, d, store.State{Room: id('a'), Used: 7})
	d.Arm(2)
	check(t, "Enter", s.Enter(""), api.ErrArg)
	check(t, "Enter", s.Enter(id('a')), api.ErrTwice)
	check(t, "Event", s.Event(strings.Repeat("e", 65535)), api.ErrLong)
	check(t, "Spend", s.Spend(7), api.ErrArg)
	check(t, "Queue", s.Queue(strings.Repeat("q", 201)), api.ErrLong)
	check(t, "Done", s.Done(), api.ErrNone)
	check(t, "Event", s.Event("e"), api.OK)
	check(t, "Event", s.Event("e"), api.ErrDisk)
}

// P11.1: a state that its asker spoils.
func TestStateIsNew(t *testing.T) {
	d := laid(t, "R"+id('a'), "Ea", "Eb", "Qa", "Qb")
	want := store.State{Room: id('a'), Events: []string{"a", "b"}, Queue: []string{"a", "b"}}
	s := checkOpen(t, d, want)
	x, y := s.State(), s.State()
	for _, two := range [][2]string{{x.Room, y.Room}, {x.Events[0], y.Events[0]}, {x.Events[1], y.Events[1]}, {x.Queue[0], y.Queue[0]}, {x.Queue[1], y.Queue[1]}} {
		if unsafe.StringData(two[0]) == unsafe.StringData(two[1]) {
			t.Errorf("%q is the same memory twice", two[0])
		}
	}
	for _, list := range [][]string{x.Events, x.Queue} {
		list = append(list, "spoilt")
		for i := range list {
			list[i] = "spoilt"
		}
		list = list[:cap(list)]
		clear(list)
	}
	clear(x.Events)
	clear(x.Queue)
	checkState(t, s, want)
	check(t, "Event", s.Event("c"), api.OK)
	check(t, "Done", s.Done(), api.OK)
	if !same(y, want) {
		t.Errorf("a state that was told has become %s", told(y))
	}
	x = s.State()
	_ = append(x.Events[:0], "spoilt", "spoilt", "spoilt")
	_ = append(x.Queue[:0], "spoilt")
	checkState(t, s, store.State{Room: id('a'), Events: []string{"a", "b", "c"}, Queue: []string{"b"}})
}

// Rule 4: nothing that is handed in is kept.
func TestNothingKept(t *testing.T) {
	s := checkOpen(t, disk.New(maxRoom), store.State{})
	b := []byte(strings.Repeat("x", 32))
	text := unsafe.String(&b[0], len(b))
	check(t, "Enter", s.Enter(text), api.OK)
	check(t, "Event", s.Event(text), api.OK)
	check(t, "Queue", s.Queue(text), api.OK)
	copy(b, "spoilt")
	x := strings.Repeat("x", 32)
	checkState(t, s, store.State{Room: x, Events: []string{x}, Queue: []string{x}})
}

// Rule 5: stores whose disk was crashed, or written by another, don't panic.
func TestNoPanic(t *testing.T) {
	d := laid(t, "Qa", "Qb")
	s, _ := store.Open(d)
	other, _ := store.Open(d)
	for range 3 {
		s.Done()
		other.Done()
	}
	d.Crash(nil)
	for _, a := range acts() {
		a.do(s)
		a.do(other)
		a.do(new(store.Store))
	}
	s.State()
	other.State()
	new(store.Store).State()
	// Both have done what the other had: so more is done than waited.
	checkNoOpen(t, d, api.ErrForm)
}
