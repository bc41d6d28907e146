package log_test

import (
	"encoding/binary"
	"encoding/hex"
	"hash/crc32"
	"slices"
	"strconv"
	"strings"
	"testing"
	"time"
	"unsafe"

	"palaver/api"
	"palaver/disk"
	"palaver/log"
)

const maxRoom = 1 << 22

var errnoNames = []string{"OK", "ErrArg", "ErrForm", "ErrLong", "ErrSign", "ErrSpent", "ErrDisk", "ErrDenied", "ErrBusy", "ErrMissing", "ErrNone", "ErrTwice", "ErrOff"}

func nameOf(errno api.Errno) string {
	if errno < 0 || int(errno) >= len(errnoNames) {
		return "another number"
	}
	return errnoNames[errno]
}

func check(t *testing.T, what string, got, want api.Errno) {
	t.Helper()
	if got != want {
		t.Errorf("%s: %s, not %s", what, nameOf(got), nameOf(want))
	}
}

// sealed is records as they stand in a segment, told by the library's own sums.
func sealed(records ...string) string {
	var out []byte
	for _, rec := range records {
		out = binary.BigEndian.AppendUint32(out, uint32(len(rec)))
		out = binary.BigEndian.AppendUint32(out, crc32.ChecksumIEEE([]byte(rec)))
		out = append(out, rec...)
	}
	return string(out)
}

// filled is a segment of one record that has so many bytes.
func filled(size int) string {
	return sealed(strings.Repeat("f", size-8))
}

// laid is a disk with files, each told by its name and its bytes, all of them safe.
func laid(t *testing.T, files ...[2]string) *disk.Disk {
	t.Helper()
	d := disk.New(maxRoom)
	for _, f := range files {
		check(t, "the disk's Append", d.Append(f[0], f[1]), api.OK)
		check(t, "the disk's Sync", d.Sync(f[0]), api.OK)
	}
	return d
}

func checkFiles(t *testing.T, d *disk.Disk, want ...[2]string) {
	t.Helper()
	var names []string
	for _, f := range want {
		names = append(names, f[0])
		if got, errno := d.Read(f[0]); errno != api.OK || got != f[1] {
			t.Errorf("%q has %.60q (%d bytes), %s; not %.60q (%d bytes)", f[0], got, len(got), nameOf(errno), f[1], len(f[1]))
		}
	}
	slices.Sort(names)
	if got := d.Names(); !slices.Equal(got, names) {
		t.Errorf("the disk's names: %q, not %q", got, names)
	}
}

func checkCount(t *testing.T, l *log.Log, want int) {
	t.Helper()
	if got := l.Count(); got != want {
		t.Errorf("Count: %d, not %d", got, want)
	}
}

func checkOn(t *testing.T, d *disk.Disk, want bool) {
	t.Helper()
	if d.On() != want {
		t.Errorf("the disk is on: %v", d.On())
	}
}

func checkOpen(t *testing.T, d *disk.Disk, name string, want ...string) *log.Log {
	t.Helper()
	l, records, errno := log.Open(d, name)
	if errno != api.OK || l == nil {
		t.Fatalf("Open(%q): %v, %s", name, l != nil, nameOf(errno))
	}
	if !slices.Equal(records, want) {
		t.Errorf("Open(%q): %d records %.200q, not %d %.200q", name, len(records), records, len(want), want)
	}
	checkCount(t, l, len(want))
	return l
}

func checkNoOpen(t *testing.T, d *disk.Disk, name string, want api.Errno) {
	t.Helper()
	l, records, errno := log.Open(d, name)
	if errno != want || l != nil || len(records) != 0 {
		t.Errorf("Open(%q): %v, %.200q, %s; not %s", name, l != nil, records, nameOf(errno), nameOf(want))
	}
}

// P10.1: no disk, and names of 0, 1, 28 and 29 bytes.
func TestOpenArg(t *testing.T) {
	checkNoOpen(t, nil, "l", api.ErrArg)
	checkNoOpen(t, nil, "", api.ErrArg)
	d := laid(t, [2]string{".0", sealed("a") + "torn"}, [2]string{strings.Repeat("n", 29) + ".0", "torn"})
	files := [][2]string{{".0", sealed("a") + "torn"}, {strings.Repeat("n", 29) + ".0", "torn"}}
	for _, name := range []string{"", strings.Repeat("n", 29), strings.Repeat("n", 70000)} {
		checkNoOpen(t, d, name, api.ErrArg)
		checkFiles(t, d, files...)
	}
	for _, name := range []string{"l", "\x00", "\xff", ".", strings.Repeat("n", 27), strings.Repeat("n", 28)} {
		l := checkOpen(t, d, name)
		check(t, "Append", l.Append("a"), api.OK)
		checkOpen(t, d, name, "a")
		files = append(files, [2]string{name + ".0", sealed("a")})
		checkFiles(t, d, files...)
	}
}

// P10.1: which error is named first.
func TestOpenArgBeforeDisk(t *testing.T) {
	d := laid(t)
	d.Arm(0)
	check(t, "the disk's Sync", d.Sync("x"), api.ErrDisk)
	checkNoOpen(t, d, "", api.ErrArg)
	checkNoOpen(t, d, strings.Repeat("n", 29), api.ErrArg)
	checkNoOpen(t, d, strings.Repeat("n", 28), api.ErrDisk)
}

// P10.1: which files are segments, and in which order.
func TestOpenSegments(t *testing.T) {
	var many [][2]string
	var inOrder []string
	for i := range 112 {
		rec := strconv.Itoa(i)
		many = append(many, [2]string{"l." + rec, sealed(rec, "")})
		inOrder = append(inOrder, rec, "")
	}
	for what, c := range map[string]struct {
		files [][2]string
		want  []string
	}{
		"no file":           {nil, nil},
		"no segment":        {[][2]string{{"k.0", sealed("a")}}, nil},
		"an empty one":      {[][2]string{{"l.0", ""}}, nil},
		"one":               {[][2]string{{"l.0", sealed("a", "b")}}, []string{"a", "b"}},
		"an empty record":   {[][2]string{{"l.0", sealed("", "", "b")}}, []string{"", "", "b"}},
		"several":           {[][2]string{{"l.0", sealed("a")}, {"l.1", sealed("b", "c")}, {"l.2", sealed("d")}}, []string{"a", "b", "c", "d"}},
		"empty ones":        {[][2]string{{"l.0", ""}, {"l.1", sealed("b")}, {"l.2", ""}, {"l.3", sealed("d")}, {"l.4", ""}}, []string{"b", "d"}},
		"a gap":             {[][2]string{{"l.0", sealed("a")}, {"l.2", sealed("c")}}, []string{"a"}},
		"a gap, spoilt":     {[][2]string{{"l.0", sealed("a")}, {"l.2", "torn"}}, []string{"a"}},
		"a gap at 0":        {[][2]string{{"l.1", sealed("b")}, {"l.2", sealed("c")}}, nil},
		"two gaps":          {[][2]string{{"l.0", ""}, {"l.1", sealed("b")}, {"l.3", sealed("d")}, {"l.5", ""}}, []string{"b"}},
		"other names":       {[][2]string{{"l", "x"}, {"l.", "x"}, {"l0", "x"}, {".0", "x"}, {"L.0", "x"}, {"l.0.0", "x"}, {"ll.0", "x"}}, nil},
		"other numbers":     {[][2]string{{"l.0", sealed("a")}, {"l.00", "x"}, {"l.01", "x"}, {"l.+1", "x"}, {"l.1 ", "x"}, {"l.-1", "x"}, {"l.0x1", "x"}}, []string{"a"}},
		"more than ten":     {many[:12], inOrder[:24]},
		"more than hundred": {many, inOrder},
		"great ones":        {[][2]string{{"l.0", sealed(strings.Repeat("a", 65535), "b")}, {"l.1", filled(4096)}, {"l.2", filled(5000)}}, []string{strings.Repeat("a", 65535), "b", strings.Repeat("f", 4088), strings.Repeat("f", 4992)}},
	} {
		t.Run(what, func(t *testing.T) {
			d := laid(t, c.files...)
			d.Arm(0)
			checkOpen(t, d, "l", c.want...)
			checkOn(t, d, true)
			checkFiles(t, d, c.files...)
			d.Crash(nil)
			checkOpen(t, d, "l", c.want...)
		})
	}
}

// P10.1: bytes count as they stand, safe or not, and Open makes none safe.
func TestOpenLooseBytes(t *testing.T) {
	d := laid(t, [2]string{"l.0", sealed("a")})
	check(t, "the disk's Append", d.Append("l.0", sealed("b")), api.OK)
	checkOpen(t, d, "l", "a", "b")
	d.Crash(nil)
	checkOpen(t, d, "l", "a")
}

// P10.1: a beginning of a record, of each length; the chapter's example.
func TestOpenTorn(t *testing.T) {
	for _, torn := range []string{sealed("the last record"), sealed(""), sealed(strings.Repeat("\x00", 20))} {
		for n := range len(torn) {
			for _, ahead := range [][]string{nil, {"a"}, {"a", "", "b"}} {
				d := laid(t, [2]string{"l.0", sealed(ahead...) + torn[:n]})
				l := checkOpen(t, d, "l", ahead...)
				checkFiles(t, d, [2]string{"l.0", sealed(ahead...)})
				d.Crash(nil)
				checkFiles(t, d, [2]string{"l.0", sealed(ahead...)})
				l = checkOpen(t, d, "l", ahead...)
				check(t, "Append", l.Append("new"), api.OK)
				checkOpen(t, d, "l", append(slices.Clip(ahead), "new")...)
			}
		}
	}
}

// P10.1: a beginning of a long record, and lengths that may not be.
func TestOpenTornLong(t *testing.T) {
	long := sealed(strings.Repeat("x", 65535))
	tooLong := sealed(strings.Repeat("x", 65536))
	for _, torn := range []string{long[:len(long)-1], long[1:], tooLong, tooLong + "x", "\xff\xff\xff\xff" + long, "\x80\x00\x00\x00" + long, sealed("a")[1:]} {
		d := laid(t, [2]string{"l.0", sealed("a") + torn + sealed("b")}, [2]string{"l.1", sealed("c")})
		checkOpen(t, d, "l", "a")
		checkFiles(t, d, [2]string{"l.0", sealed("a")}, [2]string{"l.1", ""})
	}
}

// P10.1: a spoilt byte anywhere, with segments behind it.
func TestOpenSpoilt(t *testing.T) {
	first, good := sealed("zero"), []string{"one", "two!", "", "three"}
	text := sealed(good...)
	ends := []int{0, 11, 23, 31, 44}
	for at := range len(text) {
		for bit := range 8 {
			spoilt := []byte(text)
			spoilt[at] ^= 1 << bit
			d := laid(t, [2]string{"l.0", first}, [2]string{"l.1", string(spoilt)}, [2]string{"l.2", sealed("four")}, [2]string{"l.3", ""}, [2]string{"l.4", "x"}, [2]string{"l.6", "x"})
			left := 0
			for ends[left+1] <= at {
				left++
			}
			want := append([]string{"zero"}, good[:left]...)
			checkOpen(t, d, "l", want...)
			files := [][2]string{{"l.0", first}, {"l.1", text[:ends[left]]}, {"l.2", ""}, {"l.3", ""}, {"l.4", ""}, {"l.6", "x"}}
			checkFiles(t, d, files...)
			d.Crash(nil)
			checkFiles(t, d, files...)
			checkOpen(t, d, "l", want...)
		}
	}
}

// P10.1: more than one segment is spoilt: the first counts.
func TestOpenSpoiltTwice(t *testing.T) {
	d := laid(t, [2]string{"l.0", sealed("a")}, [2]string{"l.1", sealed("b") + "x"}, [2]string{"l.2", sealed("c") + "x"}, [2]string{"l.3", sealed("d")})
	l := checkOpen(t, d, "l", "a", "b")
	checkFiles(t, d, [2]string{"l.0", sealed("a")}, [2]string{"l.1", sealed("b")}, [2]string{"l.2", ""}, [2]string{"l.3", ""})
	check(t, "Append", l.Append("new"), api.OK)
	checkFiles(t, d, [2]string{"l.0", sealed("a")}, [2]string{"l.1", sealed("b")}, [2]string{"l.2", ""}, [2]string{"l.3", sealed("new")})
	checkOpen(t, d, "l", "a", "b", "new")
}

// P10.1: a disk that is off, and one that goes off at each of Open's own operations.
func TestOpenOff(t *testing.T) {
	d := laid(t)
	d.Arm(0)
	checkOpen(t, d, "l")
	check(t, "the disk's Sync", d.Sync("x"), api.ErrDisk)
	checkNoOpen(t, d, "l", api.ErrDisk)

	before := [][2]string{{"l.0", sealed("a")}, {"l.1", sealed("b") + "x"}, {"l.2", sealed("c")}, {"l.3", ""}, {"l.4", "x"}}
	after := [][2]string{{"l.0", sealed("a")}, {"l.1", sealed("b")}, {"l.2", ""}, {"l.3", ""}, {"l.4", ""}}
	// What a second Open tells, when the first has cut so many of the four.
	left := [][]string{{"a", "b"}, {"a", "b", "c"}, {"a", "b"}, {"a", "b"}}
	for n, want := range left {
		d := laid(t, before...)
		d.Arm(n)
		checkNoOpen(t, d, "l", api.ErrDisk)
		checkOn(t, d, false)
		checkNoOpen(t, d, "l", api.ErrDisk)
		d.Crash(nil)
		cut := slices.Concat(before[:1], after[1:n+1], before[n+1:])
		checkFiles(t, d, cut...)
		checkOpen(t, d, "l", want...)
	}
	d = laid(t, before...)
	d.Arm(len(left))
	checkOpen(t, d, "l", "a", "b")
	checkOn(t, d, true)
	checkFiles(t, d, after...)
}

// P10.1, P10.2: a disk that has no room.
func TestNoRoom(t *testing.T) {
	d := disk.New(0)
	l := checkOpen(t, d, "l")
	for range 3 {
		check(t, "Append", l.Append(""), api.ErrDisk)
		checkCount(t, l, 0)
	}
	checkOn(t, d, true)
	checkFiles(t, d)

	d = disk.New(20)
	check(t, "the disk's Append", d.Append("l.0", sealed("a")+"tornbehinda"), api.OK)
	l = checkOpen(t, d, "l", "a")
	check(t, "Append", l.Append("1234"), api.ErrDisk)
	check(t, "Append", l.Append("123"), api.OK)
	checkOpen(t, d, "l", "a", "123")
}

// P10.1: as many records as a disk has room for.
func TestOpenMany(t *testing.T) {
	d := laid(t, [2]string{"l.0", strings.Repeat(sealed(""), maxRoom/8)})
	start := time.Now()
	checkOpen(t, d, "l", make([]string, maxRoom/8)...)
	if took := time.Since(start); took > 10*time.Second {
		t.Errorf("Open: %v", took)
	}
}

// P10.2: a log that is nil.
func TestNil(t *testing.T) {
	var l *log.Log
	for _, rec := range []string{"", "a", strings.Repeat("x", 65536)} {
		check(t, "Append", l.Append(rec), api.ErrArg)
	}
	checkCount(t, l, 0)
}

// P10.2: the bytes that are laid; the chapter's example.
func TestAppend(t *testing.T) {
	d := laid(t)
	l := checkOpen(t, d, "l")
	check(t, "Append", l.Append("a"), api.OK)
	checkCount(t, l, 1)
	check(t, "Append", l.Append("b"), api.OK)
	checkCount(t, l, 2)
	if got, _ := d.Read("l.0"); hex.EncodeToString([]byte(got)) != "00000001e8b7be43610000000171beeff962" {
		t.Errorf("l.0: %x", got)
	}
	l = checkOpen(t, d, "l", "a", "b")
	check(t, "Append", l.Append(""), api.OK)
	checkCount(t, l, 3)
	if got, _ := d.Read("l.0"); hex.EncodeToString([]byte(got)) != "00000001e8b7be43610000000171beeff9620000000000000000" {
		t.Errorf("l.0: %x", got)
	}
	d.Crash(nil)
	checkOpen(t, d, "l", "a", "b", "")
}

// P10.2: records of 65535 bytes and of more.
func TestAppendLong(t *testing.T) {
	d := laid(t)
	l := checkOpen(t, d, "l")
	long := strings.Repeat("\xff\x00", 32768)
	check(t, "Append", l.Append(long[:65535]), api.OK)
	for _, rec := range []string{long, long + "x", strings.Repeat("x", 1<<20)} {
		check(t, "Append", l.Append(rec), api.ErrLong)
		checkCount(t, l, 1)
	}
	checkFiles(t, d, [2]string{"l.0", sealed(long[:65535])})
	check(t, "Append", l.Append("b"), api.OK)
	checkFiles(t, d, [2]string{"l.0", sealed(long[:65535])}, [2]string{"l.1", sealed("b")})
	checkOpen(t, d, "l", long[:65535], "b")
}

// P10.2: a record counts no operation that isn't done: one too long, none; another, two.
func TestAppendOperations(t *testing.T) {
	d := laid(t)
	l := checkOpen(t, d, "l")
	d.Arm(4)
	check(t, "Append", l.Append(strings.Repeat("x", 65536)), api.ErrLong)
	check(t, "Append", l.Append("a"), api.OK)
	check(t, "Append", l.Append("b"), api.OK)
	checkOn(t, d, true)
	check(t, "Append", l.Append("c"), api.ErrDisk)
	checkOn(t, d, false)
	checkCount(t, l, 2)
}

// P10.2: where a next segment begins, of logs that go on and of logs that are opened.
func TestAppendSegment(t *testing.T) {
	for _, size := range []int{8, 4094, 4095, 4096, 4097, 65543} {
		full := size >= log.Segment
		for _, opened := range []bool{false, true} {
			d := laid(t)
			l := checkOpen(t, d, "l")
			check(t, "Append", l.Append(strings.Repeat("f", size-8)), api.OK)
			if opened {
				l = checkOpen(t, d, "l", strings.Repeat("f", size-8))
			}
			check(t, "Append", l.Append("a"), api.OK)
			check(t, "Append", l.Append("b"), api.OK)
			switch {
			case full:
				checkFiles(t, d, [2]string{"l.0", filled(size)}, [2]string{"l.1", sealed("a", "b")})
			case size+9 >= log.Segment:
				checkFiles(t, d, [2]string{"l.0", filled(size) + sealed("a")}, [2]string{"l.1", sealed("b")})
			default:
				checkFiles(t, d, [2]string{"l.0", filled(size) + sealed("a", "b")})
			}
			checkOpen(t, d, "l", strings.Repeat("f", size-8), "a", "b")
		}
	}
	if log.Segment != 4096 {
		t.Errorf("Segment: %d", log.Segment)
	}
}

// P10.2: which segment is the last one, when a log is opened.
func TestAppendLast(t *testing.T) {
	full := filled(4096)
	for what, c := range map[string]struct {
		files [][2]string
		want  string
	}{
		"none":                   {nil, "l.0"},
		"an empty one":           {[][2]string{{"l.0", ""}}, "l.0"},
		"one":                    {[][2]string{{"l.0", sealed("a")}}, "l.0"},
		"a full one":             {[][2]string{{"l.0", full}}, "l.1"},
		"an empty one behind":    {[][2]string{{"l.0", full}, {"l.1", ""}}, "l.1"},
		"small ones":             {[][2]string{{"l.0", sealed("a")}, {"l.1", sealed("b")}, {"l.2", sealed("c")}}, "l.2"},
		"empty ones":             {[][2]string{{"l.0", ""}, {"l.1", ""}, {"l.2", ""}}, "l.2"},
		"full ones, a small one": {[][2]string{{"l.0", full}, {"l.1", full}, {"l.2", sealed("c")}}, "l.2"},
		"small ones, a full one": {[][2]string{{"l.0", sealed("a")}, {"l.1", ""}, {"l.2", full}}, "l.3"},
		"a gap":                  {[][2]string{{"l.0", sealed("a")}, {"l.2", sealed("c")}}, "l.0"},
		"a gap behind a full":    {[][2]string{{"l.0", full}, {"l.2", sealed("c")}}, "l.1"},
		"a gap at 0":             {[][2]string{{"l.1", full}}, "l.0"},
		"full ones, cut":         {[][2]string{{"l.0", full}, {"l.1", full + "x"}, {"l.2", full}}, "l.2"},
		"a full one, cut":        {[][2]string{{"l.0", sealed("a") + "x" + full}}, "l.0"},
		"full still, cut":        {[][2]string{{"l.0", full + "x"}}, "l.1"},
	} {
		t.Run(what, func(t *testing.T) {
			d := laid(t, c.files...)
			l, records, errno := log.Open(d, "l")
			check(t, "Open", errno, api.OK)
			before, _ := d.Read(c.want)
			check(t, "Append", l.Append("new"), api.OK)
			if after, _ := d.Read(c.want); after != before+sealed("new") {
				t.Errorf("%s: %.60q, not %.60q behind %.60q", c.want, after, sealed("new"), before)
			}
			checkCount(t, l, len(records)+1)
		})
	}
}

// P10.2: many segments, on and on.
func TestAppendManySegments(t *testing.T) {
	d := laid(t)
	l := checkOpen(t, d, "l")
	var files [][2]string
	var all []string
	for i := range 130 {
		rec := strings.Repeat(string(rune('a'+i%26)), 1000+i)
		check(t, "Append", l.Append(rec), api.OK)
		if len(files) == 0 || len(files[len(files)-1][1]) >= 4096 {
			files = append(files, [2]string{"l." + strconv.Itoa(len(files))})
		}
		files[len(files)-1][1] += sealed(rec)
		all = append(all, rec)
		checkCount(t, l, len(all))
		if i%9 == 0 {
			l = checkOpen(t, d, "l", all...)
		}
	}
	checkFiles(t, d, files...)
	if len(files) < 25 {
		t.Errorf("%d segments", len(files))
	}
}

// P10.2: an error of the disk's that isn't one of its power: no name has room for the thousandth number.
func TestAppendName(t *testing.T) {
	name := strings.Repeat("n", 28)
	full := filled(4096)
	d := disk.New(maxRoom)
	for i := range 1000 {
		check(t, "the disk's Append", d.Append(name+"."+strconv.Itoa(i), full), api.OK)
	}
	l, records, errno := log.Open(d, name)
	check(t, "Open", errno, api.OK)
	for range 3 {
		check(t, "Append", l.Append("a"), api.ErrArg)
		checkCount(t, l, len(records))
	}
	check(t, "the disk's Cut", d.Cut(name+".999", 0), api.OK)
	check(t, "Append", l.Append("a"), api.OK)
	if got, _ := d.Read(name + ".999"); got != sealed("a") {
		t.Errorf("the last segment: %q", got)
	}
}

// P10.2: no room, and a smaller record behind it.
func TestAppendFull(t *testing.T) {
	for _, first := range []string{"a", strings.Repeat("f", 4088)} {
		d := disk.New(len(sealed(first)) + 30)
		l := checkOpen(t, d, "l")
		check(t, "Append", l.Append(first), api.OK)
		for range 3 {
			check(t, "Append", l.Append(strings.Repeat("x", 23)), api.ErrDisk)
			checkCount(t, l, 1)
			checkFiles(t, d, [2]string{"l.0", sealed(first)})
		}
		check(t, "Append", l.Append("small"), api.OK)
		checkCount(t, l, 2)
		check(t, "Append", l.Append("12345678901"), api.ErrDisk)
		check(t, "Append", l.Append("123456789"), api.OK)
		checkCount(t, l, 3)
		if d.Used() != len(sealed(first))+30 {
			t.Errorf("Used: %d", d.Used())
		}
		check(t, "Append", l.Append(""), api.ErrDisk)
		d.Crash(nil)
		checkOpen(t, d, "l", first, "small", "123456789")
	}
}

// P10.2: a disk that goes off at the append or at the sync, and what is answered behind that.
func TestAppendOff(t *testing.T) {
	for _, first := range []string{"a", strings.Repeat("f", 4088)} {
		for n := range 2 {
			d := laid(t)
			l := checkOpen(t, d, "l")
			check(t, "Append", l.Append(first), api.OK)
			d.Arm(n)
			for range 3 {
				check(t, "Append", l.Append("lost"), api.ErrDisk)
				checkCount(t, l, 1)
				checkOn(t, d, false)
				check(t, "Append", l.Append(strings.Repeat("x", 65536)), api.ErrLong)
				checkCount(t, l, 1)
			}
			d.Crash(nil)
			// Of such a log nothing is promised any more; but it is broken, and lays nothing.
			check(t, "Append", l.Append("late"), api.ErrDisk)
			check(t, "Append", l.Append(strings.Repeat("x", 65536)), api.ErrLong)
			checkOpen(t, d, "l", first)
		}
	}
}

// P10.2: one operation that fails for want of power is enough to break a log.
func TestBroken(t *testing.T) {
	for n := range 2 {
		d := laid(t)
		l := checkOpen(t, d, "l")
		d.Arm(n)
		check(t, "Append", l.Append("lost"), api.ErrDisk)
		d.Crash(nil)
		check(t, "Append", l.Append("late"), api.ErrDisk)
		checkCount(t, l, 0)
		checkOpen(t, d, "l")
	}
}

// P10.2: the disk went off by an operation that isn't the log's.
func TestAppendOffBefore(t *testing.T) {
	d := laid(t)
	l := checkOpen(t, d, "l")
	d.Arm(0)
	check(t, "the disk's Append", d.Append("x", "x"), api.ErrDisk)
	check(t, "Append", l.Append("a"), api.ErrDisk)
	checkCount(t, l, 0)
}

// P10.1, P10.2: logs of unlike names on one disk.
func TestTwoLogs(t *testing.T) {
	d := laid(t)
	names := []string{"l", "ll", "l.0", "L"}
	logs := make([]*log.Log, len(names))
	want := make([][]string, len(names))
	for i, name := range names {
		logs[i] = checkOpen(t, d, name)
	}
	for n := range 40 {
		i := n * 7 % len(names)
		rec := names[i] + strconv.Itoa(n) + strings.Repeat("x", n*30)
		check(t, "Append", logs[i].Append(rec), api.OK)
		want[i] = append(want[i], rec)
		for k := range names {
			checkCount(t, logs[k], len(want[k]))
		}
	}
	check(t, "the disk's Append", d.Append("ll.0", "torn"), api.OK)
	for i, name := range names {
		if name != "ll" {
			checkOpen(t, d, name, want[i]...)
		}
	}
	if _, records, _ := log.Open(d, "ll"); len(records) == 0 || len(records) >= len(want[1]) {
		t.Errorf("ll: %d records of %d", len(records), len(want[1]))
	}
}

// Rule 4: neither the name nor a record is kept.
func TestNothingKept(t *testing.T) {
	d := laid(t)
	name := []byte("name")
	l := checkOpen(t, d, unsafe.String(&name[0], len(name)))
	copy(name, "spoilt")
	rec := []byte("record")
	check(t, "Append", l.Append(unsafe.String(&rec[0], len(rec))), api.OK)
	copy(rec, "spoilt")
	check(t, "Append", l.Append(unsafe.String(&rec[0], len(rec))), api.OK)
	checkFiles(t, d, [2]string{"name.0", sealed("record", "spoilt")})
}

// Rule 4: what is answered is new memory.
func TestNewMemory(t *testing.T) {
	d := laid(t, [2]string{"l.0", sealed("one", "two")})
	_, a, _ := log.Open(d, "l")
	_, b, _ := log.Open(d, "l")
	for i := range a {
		if unsafe.StringData(a[i]) == unsafe.StringData(b[i]) {
			t.Errorf("record %d is the same memory twice", i)
		}
	}
	a[0], a[1] = "spoilt", "spoilt"
	checkOpen(t, d, "l", "one", "two")
}

// Rule 5: logs whose disk was crashed, or written by another of that name, don't panic.
func TestNoPanic(t *testing.T) {
	d := laid(t, [2]string{"l.0", filled(4096)})
	l, _, _ := log.Open(d, "l")
	other, _, _ := log.Open(d, "l")
	l.Append("a")
	other.Append("b")
	d.Crash([]int{1, 2})
	l.Append("c")
	check(t, "the disk's Cut", d.Cut("l.0", 0), api.OK)
	check(t, "the disk's Cut", d.Cut("l.1", 3), api.OK)
	l.Append("d")
	other.Append("e")
	l.Count()
	new(log.Log).Append("f")
	new(log.Log).Count()
	if _, _, errno := log.Open(d, "l"); errno != api.OK {
		t.Errorf("Open: %s", nameOf(errno))
	}
}
