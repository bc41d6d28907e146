package disk_test

import (
	"math"
	"slices"
	"strings"
	"testing"
	"unsafe"

	"palaver/api"
	"palaver/disk"
)

const maxRoom = 1 << 22

var errnoNames = []string{"OK", "ErrArg", "ErrForm", "ErrLong", "ErrSign", "ErrSpent", "ErrDisk", "ErrDenied", "ErrBusy", "ErrMissing", "ErrNone", "ErrTwice", "ErrOff"}

func nameOf(errno api.Errno) string {
	if errno < 0 || int(errno) >= len(errnoNames) {
		return "another number"
	}
	return errnoNames[errno]
}

func check(t *testing.T, what string, got, want api.Errno) {
	t.Helper()
	if got != want {
		t.Errorf("%s: %s, not %s", what, nameOf(got), nameOf(want))
	}
}

func checkRead(t *testing.T, d *disk.Disk, name, want string) {
	t.Helper()
	if got, errno := d.Read(name); errno != api.OK || got != want {
		t.Errorf("Read(%q): %.40q, %s; not %.40q", name, got, nameOf(errno), want)
	}
}

func checkNoRead(t *testing.T, d *disk.Disk, name string, want api.Errno) {
	t.Helper()
	if got, errno := d.Read(name); errno != want || got != "" {
		t.Errorf("Read(%q): %.40q, %s; not %s", name, got, nameOf(errno), nameOf(want))
	}
}

func checkNames(t *testing.T, d *disk.Disk, want ...string) {
	t.Helper()
	if got := d.Names(); !slices.Equal(got, want) {
		t.Errorf("Names: %q, not %q", got, want)
	}
}

func checkUsed(t *testing.T, d *disk.Disk, want int) {
	t.Helper()
	if got := d.Used(); got != want {
		t.Errorf("Used: %d, not %d", got, want)
	}
}

func checkOn(t *testing.T, d *disk.Disk, want bool) {
	t.Helper()
	if got := d.On(); got != want {
		t.Errorf("On: %v", got)
	}
}

// laid is a disk with files, each told by its name, its safe bytes and the others.
func laid(t *testing.T, room int, files ...[3]string) *disk.Disk {
	t.Helper()
	d := disk.New(room)
	for _, f := range files {
		check(t, "Append", d.Append(f[0], f[1]), api.OK)
		check(t, "Sync", d.Sync(f[0]), api.OK)
		check(t, "Append", d.Append(f[0], f[2]), api.OK)
	}
	return d
}

// off is a disk as laid, but off.
func off(t *testing.T, room int, files ...[3]string) *disk.Disk {
	t.Helper()
	d := laid(t, room, files...)
	d.Arm(0)
	check(t, "the operation by which it goes off", d.Append("a", ""), api.ErrDisk)
	checkOn(t, d, false)
	return d
}

// P9.1
func TestNewIsEmptyAndOn(t *testing.T) {
	for _, room := range []int{0, 1, 10, maxRoom - 1, maxRoom} {
		d := disk.New(room)
		if d == nil {
			t.Fatalf("New(%d): nil", room)
		}
		checkOn(t, d, true)
		checkUsed(t, d, 0)
		checkNames(t, d)
		checkNoRead(t, d, "a", api.ErrNone)
	}
}

// P9.1
func TestNewIsNotArmed(t *testing.T) {
	d := disk.New(10)
	for range 1000 {
		check(t, "Append", d.Append("a", ""), api.OK)
	}
	checkOn(t, d, true)
}

// P9.1
func TestNewRefusesRooms(t *testing.T) {
	for _, room := range []int{-1, -2, -maxRoom, math.MinInt, maxRoom + 1, maxRoom + 2, 1 << 32, math.MaxInt} {
		if d := disk.New(room); d != nil {
			t.Errorf("New(%d): a disk", room)
		}
	}
}

// P9.1
func TestNilDisk(t *testing.T) {
	var d *disk.Disk
	for range 2 {
		for _, name := range []string{"a", "", strings.Repeat("a", 33)} {
			check(t, "Append", d.Append(name, "x"), api.ErrArg)
			check(t, "Append of nothing", d.Append(name, ""), api.ErrArg)
			check(t, "Sync", d.Sync(name), api.ErrArg)
			check(t, "Cut", d.Cut(name, 0), api.ErrArg)
			check(t, "Cut at -1", d.Cut(name, -1), api.ErrArg)
			checkNoRead(t, d, name, api.ErrArg)
		}
		checkNames(t, d)
		checkUsed(t, d, 0)
		checkOn(t, d, false)
		d.Arm(-1)
		d.Arm(0)
		d.Arm(3)
		d.Crash(nil)
		d.Crash([]int{1, 2})
	}
}

// P9.1: safe bytes, and the others.
func TestReadIsAllBytes(t *testing.T) {
	d := laid(t, 100, [3]string{"a", "safe", "loose"}, [3]string{"b", "", "loose"}, [3]string{"c", "safe", ""}, [3]string{"d", "", ""})
	checkRead(t, d, "a", "safeloose")
	checkRead(t, d, "b", "loose")
	checkRead(t, d, "c", "safe")
	checkRead(t, d, "d", "")
	checkUsed(t, d, 18)
}

// P9.1
func TestReadOfAFileThatIsNotThere(t *testing.T) {
	d := laid(t, 100, [3]string{"a", "x", ""})
	for _, name := range []string{"b", "", "aa", "A", "a\x00", strings.Repeat("a", 32), strings.Repeat("a", 33)} {
		checkNoRead(t, d, name, api.ErrNone)
	}
	checkNames(t, d, "a")
}

// P9.1: rising as bytes do.
func TestNamesRise(t *testing.T) {
	names := []string{"b", "a", "ab", "aa", "B", "\xff", "\x00", "a\x00", "\xc3\xa9", "z", "10", "9", strings.Repeat("m", 32), "\x00\x00"}
	want := slices.Sorted(slices.Values(names))
	for range 5 {
		d := disk.New(100)
		for i, name := range names {
			d.Append(name, strings.Repeat("x", i%3))
		}
		checkNames(t, d, want...)
		d.Crash(nil)
		checkNames(t, d, want...)
		names = append(names[3:], names[:3]...)
	}
}

// P9.1
func TestNamesOfManyFiles(t *testing.T) {
	d := disk.New(1000)
	var want []string
	for i := range 1000 {
		name := string([]byte{byte(i * 7 % 1000 >> 8), byte(i * 7 % 1000)})
		check(t, "Append", d.Append(name, "x"), api.OK)
		want = append(want, name)
	}
	slices.Sort(want)
	checkNames(t, d, want...)
	checkUsed(t, d, 1000)
	check(t, "Append", d.Append("a", "x"), api.ErrDisk)
}

// P9.2: of each operation.
func TestNamesThatMayBe(t *testing.T) {
	for _, name := range []string{"a", "\x00", "\xff", " ", "ab", strings.Repeat("n", 31), strings.Repeat("n", 32), strings.Repeat("\x00", 32)} {
		d := disk.New(10)
		check(t, "Append", d.Append(name, "xyz"), api.OK)
		check(t, "Sync", d.Sync(name), api.OK)
		check(t, "Cut", d.Cut(name, 2), api.OK)
		checkRead(t, d, name, "xy")
		checkNames(t, d, name)
	}
}

// P9.2: of each operation; ahead of what else is wrong with it.
func TestNamesThatMayNotBe(t *testing.T) {
	for _, name := range []string{"", strings.Repeat("n", 33), strings.Repeat("n", 34), strings.Repeat("\x00", 33), strings.Repeat("n", 1000)} {
		d := laid(t, 10, [3]string{"a", "xy", "z"})
		check(t, "Append", d.Append(name, "x"), api.ErrArg)
		check(t, "Append of nothing", d.Append(name, ""), api.ErrArg)
		check(t, "Append of too much", d.Append(name, strings.Repeat("x", 11)), api.ErrArg)
		check(t, "Sync", d.Sync(name), api.ErrArg)
		check(t, "Cut", d.Cut(name, 0), api.ErrArg)
		check(t, "Cut at -1", d.Cut(name, -1), api.ErrArg)
		checkNoRead(t, d, name, api.ErrNone)
		checkNames(t, d, "a")
		checkRead(t, d, "a", "xyz")
		checkUsed(t, d, 3)
	}
}

// P9.2
func TestAppendPutsBehind(t *testing.T) {
	d := disk.New(1000)
	want := ""
	for _, data := range []string{"x", "", "yz", "\x00\xff", "", strings.Repeat("m", 100), "end"} {
		check(t, "Append", d.Append("a", data), api.OK)
		want += data
		checkRead(t, d, "a", want)
		checkUsed(t, d, len(want))
		checkNoRead(t, d, "b", api.ErrNone)
	}
}

// P9.2
func TestAppendOfNoBytesMakesTheFile(t *testing.T) {
	for _, room := range []int{0, 1, maxRoom} {
		d := disk.New(room)
		check(t, "Append", d.Append("a", ""), api.OK)
		checkRead(t, d, "a", "")
		checkNames(t, d, "a")
		checkUsed(t, d, 0)
		check(t, "Sync", d.Sync("a"), api.OK)
		check(t, "Cut", d.Cut("a", 0), api.OK)
	}
}

// P9.2: of one file, and of several that share it.
func TestAppendToTheRoom(t *testing.T) {
	for _, room := range []int{0, 1, 2, 10, 4096, maxRoom} {
		d := disk.New(room)
		check(t, "Append of one more", d.Append("a", strings.Repeat("x", room+1)), api.ErrDisk)
		checkNames(t, d)
		checkNoRead(t, d, "a", api.ErrNone)
		all := strings.Repeat("x", room)
		check(t, "Append of all", d.Append("a", all), api.OK)
		checkUsed(t, d, room)
		for _, name := range []string{"a", "b"} {
			check(t, "Append behind all", d.Append(name, "y"), api.ErrDisk)
			check(t, "Append of much behind all", d.Append(name, strings.Repeat("y", room+1)), api.ErrDisk)
		}
		checkNames(t, d, "a")
		check(t, "Append of nothing", d.Append("b", ""), api.OK)
		checkRead(t, d, "a", all)
		checkNames(t, d, "a", "b")
		checkUsed(t, d, room)
	}
}

// P9.2
func TestAppendToWhatRoomIsLeft(t *testing.T) {
	d := laid(t, 10, [3]string{"a", "xy", "zw"})
	check(t, "Append of one more", d.Append("b", "1234567"), api.ErrDisk)
	check(t, "Append of one more", d.Append("a", "1234567"), api.ErrDisk)
	checkRead(t, d, "a", "xyzw")
	checkUsed(t, d, 4)
	check(t, "Append", d.Append("b", "12345"), api.OK)
	check(t, "Append of one more", d.Append("a", "12"), api.ErrDisk)
	check(t, "Append", d.Append("a", "1"), api.OK)
	checkRead(t, d, "a", "xyzw1")
	checkRead(t, d, "b", "12345")
	checkUsed(t, d, 10)
}

// P9.2, P9.3: what is cut off or lost leaves room.
func TestRoomComesBack(t *testing.T) {
	d := laid(t, 10, [3]string{"a", "12345", "67890"})
	check(t, "Cut", d.Cut("a", 7), api.OK)
	checkUsed(t, d, 7)
	check(t, "Append of one more", d.Append("b", "wxyz"), api.ErrDisk)
	check(t, "Append", d.Append("b", "xyz"), api.OK)
	d.Crash([]int{9, 1})
	checkUsed(t, d, 8)
	check(t, "Append of one more", d.Append("c", "123"), api.ErrDisk)
	check(t, "Append", d.Append("c", "12"), api.OK)
	checkUsed(t, d, 10)
}

// P9.2: only what was synced is safe.
func TestSyncMakesAllSafe(t *testing.T) {
	d := disk.New(100)
	d.Append("a", "one")
	d.Append("b", "other")
	check(t, "Sync", d.Sync("a"), api.OK)
	checkRead(t, d, "a", "one")
	checkUsed(t, d, 8)
	d.Append("a", "two")
	check(t, "Sync", d.Sync("a"), api.OK)
	check(t, "Sync again", d.Sync("a"), api.OK)
	d.Append("a", "three")
	d.Crash(nil)
	checkRead(t, d, "a", "onetwo")
	checkRead(t, d, "b", "")
}

// P9.2: and none is made.
func TestOperationsOnAFileThatIsNotThere(t *testing.T) {
	d := laid(t, 10, [3]string{"a", "xy", "z"})
	for _, name := range []string{"b", "aa", "A", strings.Repeat("a", 32)} {
		check(t, "Sync", d.Sync(name), api.ErrNone)
		for _, n := range []int{0, 1, -1, math.MinInt, math.MaxInt} {
			check(t, "Cut", d.Cut(name, n), api.ErrNone)
		}
	}
	checkNames(t, d, "a")
	checkRead(t, d, "a", "xyz")
	d.Crash(nil)
	checkRead(t, d, "a", "xy")
}

// P9.2
func TestCutWithinTheFile(t *testing.T) {
	for n := range 7 {
		d := laid(t, 100, [3]string{"a", "saf", "els"}, [3]string{"b", "12", "3"})
		check(t, "Cut", d.Cut("a", n), api.OK)
		checkRead(t, d, "a", "safels"[:n])
		checkRead(t, d, "b", "123")
		checkUsed(t, d, n+3)
		check(t, "Append", d.Append("a", "new"), api.OK)
		checkRead(t, d, "a", "safels"[:n]+"new")
		d.Crash([]int{1})
		checkRead(t, d, "a", "safels"[:n]+"n")
		checkRead(t, d, "b", "12")
		checkUsed(t, d, n+3)
	}
}

// P9.2: what a cut leaves is safe, though none of it was.
func TestCutMakesSafe(t *testing.T) {
	for n := range 4 {
		d := laid(t, 100, [3]string{"a", "", "xyz"})
		check(t, "Cut", d.Cut("a", n), api.OK)
		d.Crash(nil)
		checkRead(t, d, "a", "xyz"[:n])
		checkNames(t, d, "a")
	}
}

// P9.2
func TestCutOutsideTheFile(t *testing.T) {
	d := laid(t, 100, [3]string{"a", "xy", "z"}, [3]string{"b", "", ""}, [3]string{"c", "long enough", ""})
	for _, n := range []int{-1, -3, 4, 5, 100, math.MinInt, math.MaxInt} {
		check(t, "Cut", d.Cut("a", n), api.ErrArg)
	}
	check(t, "Cut of an empty file at 1", d.Cut("b", 1), api.ErrArg)
	check(t, "Cut of an empty file at -1", d.Cut("b", -1), api.ErrArg)
	checkRead(t, d, "a", "xyz")
	checkUsed(t, d, 14)
	d.Crash(nil)
	checkRead(t, d, "a", "xy")
}

// P9.2: a disk goes off by the operation behind those.
func TestArmLetsSomeOperationsBeDone(t *testing.T) {
	for _, n := range []int{math.MinInt, -7, -1, 0, 1, 2, 5, 100} {
		d := disk.New(1000)
		d.Append("a", "x")
		d.Arm(n)
		for i := range max(n, 0) {
			checkOn(t, d, true)
			check(t, "Append", d.Append("a", "y"), api.OK)
			checkUsed(t, d, i+2)
		}
		checkOn(t, d, true)
		check(t, "Append", d.Append("a", "z"), api.ErrDisk)
		checkOn(t, d, false)
		checkUsed(t, d, max(n, 0)+1)
		check(t, "Append", d.Append("a", "z"), api.ErrDisk)
		d.Crash([]int{math.MaxInt})
		checkRead(t, d, "a", "x"+strings.Repeat("y", max(n, 0)))
	}
}

func TestArmWithTheGreatestNumber(t *testing.T) {
	d := disk.New(10)
	d.Arm(math.MaxInt)
	for range 100 {
		check(t, "Append", d.Append("a", ""), api.OK)
	}
	checkOn(t, d, true)
}

// operations are those of a disk whose file a has the safe byte x, y behind it, and room for one byte more.
var operations = []struct {
	what  string
	do    func(d *disk.Disk) api.Errno
	errno api.Errno
}{
	{"Append", func(d *disk.Disk) api.Errno { return d.Append("a", "z") }, api.OK},
	{"Append of nothing", func(d *disk.Disk) api.Errno { return d.Append("a", "") }, api.OK},
	{"Append to a new file", func(d *disk.Disk) api.Errno { return d.Append("b", "") }, api.OK},
	{"Append to no name", func(d *disk.Disk) api.Errno { return d.Append("", "z") }, api.ErrArg},
	{"Append to a long name", func(d *disk.Disk) api.Errno { return d.Append(strings.Repeat("n", 33), "z") }, api.ErrArg},
	{"Append of too much", func(d *disk.Disk) api.Errno { return d.Append("a", "zz") }, api.ErrDisk},
	{"Append of too much to a new file", func(d *disk.Disk) api.Errno { return d.Append("b", "zz") }, api.ErrDisk},
	{"Sync", func(d *disk.Disk) api.Errno { return d.Sync("a") }, api.OK},
	{"Sync of no name", func(d *disk.Disk) api.Errno { return d.Sync("") }, api.ErrArg},
	{"Sync of no file", func(d *disk.Disk) api.Errno { return d.Sync("c") }, api.ErrNone},
	{"Cut", func(d *disk.Disk) api.Errno { return d.Cut("a", 0) }, api.OK},
	{"Cut of no name", func(d *disk.Disk) api.Errno { return d.Cut("", 0) }, api.ErrArg},
	{"Cut of no file", func(d *disk.Disk) api.Errno { return d.Cut("c", 0) }, api.ErrNone},
	{"Cut at -1", func(d *disk.Disk) api.Errno { return d.Cut("a", -1) }, api.ErrArg},
	{"Cut behind the end", func(d *disk.Disk) api.Errno { return d.Cut("a", 3) }, api.ErrArg},
}

func forOperations(t *testing.T) *disk.Disk {
	t.Helper()
	return laid(t, 3, [3]string{"a", "x", "y"})
}

// checkUntouched holds a disk that is on against what forOperations laid: what is there, and what of it is safe.
func checkUntouched(t *testing.T, d *disk.Disk, what string) {
	t.Helper()
	got, errno := d.Read("a")
	if errno != api.OK || got != "xy" || d.Used() != 2 || !slices.Equal(d.Names(), []string{"a"}) {
		t.Errorf("%s: the disk has %q, a is %q", what, d.Names(), got)
	}
	d.Crash(nil)
	if got, _ := d.Read("a"); got != "x" {
		t.Errorf("%s: then %q was safe", what, got)
	}
}

// P9.2, rule 3
func TestOperationsThatFailChangeNothing(t *testing.T) {
	for _, o := range operations {
		d := forOperations(t)
		check(t, o.what, o.do(d), o.errno)
		checkOn(t, d, true)
		if o.errno != api.OK {
			checkUntouched(t, d, o.what)
		}
	}
}

// P9.2: each counts, whatever it answers, but for being off.
func TestEachOperationCounts(t *testing.T) {
	for _, first := range operations {
		for _, second := range operations {
			d := forOperations(t)
			d.Arm(1)
			check(t, first.what, first.do(d), first.errno)
			checkOn(t, d, true)
			check(t, second.what+" behind "+first.what, second.do(d), api.ErrDisk)
			checkOn(t, d, false)
		}
	}
}

// P9.2: that by which the disk goes off isn't done, and the answer is that of being off, whatever else is wrong.
func TestTheOperationThatGoesOffIsNotDone(t *testing.T) {
	for _, o := range operations {
		d := forOperations(t)
		d.Arm(0)
		check(t, o.what, o.do(d), api.ErrDisk)
		checkOn(t, d, false)
		checkUsed(t, d, 2)
		checkNames(t, d, "a")
		d.Crash([]int{9, 9, 9})
		checkRead(t, d, "a", "xy")
		checkNames(t, d, "a")

		d = forOperations(t)
		d.Arm(0)
		check(t, o.what, o.do(d), api.ErrDisk)
		d.Crash(nil)
		checkRead(t, d, "a", "x")
	}
}

// P9.2: what isn't an operation doesn't count.
func TestOtherCallsDoNotCount(t *testing.T) {
	d := forOperations(t)
	d.Arm(1)
	for range 5 {
		checkRead(t, d, "a", "xy")
		checkNoRead(t, d, "b", api.ErrNone)
		checkNoRead(t, d, "", api.ErrNone)
		checkNames(t, d, "a")
		checkUsed(t, d, 2)
		checkOn(t, d, true)
	}
	check(t, "Sync", d.Sync("a"), api.OK)
	checkRead(t, d, "a", "xy")
	checkOn(t, d, true)
	check(t, "Sync", d.Sync("a"), api.ErrDisk)
	checkOn(t, d, false)
}

// P9.2: the number that was told last holds.
func TestArmAgain(t *testing.T) {
	for _, c := range [][2]int{{0, 2}, {5, 1}, {1, 0}, {3, -1}, {-1, 3}} {
		d := forOperations(t)
		d.Arm(c[0])
		d.Arm(c[1])
		for range max(c[1], 0) {
			check(t, "Sync", d.Sync("a"), api.OK)
		}
		check(t, "Sync", d.Sync("a"), api.ErrDisk)
		checkOn(t, d, false)
	}
}

// P9.1, P9.2
func TestADiskThatIsOff(t *testing.T) {
	d := off(t, 3, [3]string{"a", "x", "y"})
	for range 3 {
		for _, o := range operations {
			check(t, o.what, o.do(d), api.ErrDisk)
		}
		for _, name := range []string{"a", "b", "", strings.Repeat("n", 33)} {
			checkNoRead(t, d, name, api.ErrDisk)
		}
		checkOn(t, d, false)
		checkNames(t, d, "a")
		checkUsed(t, d, 2)
	}
	d.Crash([]int{1})
	checkOn(t, d, true)
	checkUntouchedButSafe(t, d)
}

func checkUntouchedButSafe(t *testing.T, d *disk.Disk) {
	t.Helper()
	for range 2 {
		checkRead(t, d, "a", "xy")
		checkNames(t, d, "a")
		checkUsed(t, d, 2)
		d.Crash(nil)
	}
}

// P9.2, P9.3: arming doesn't put a disk on, and a crash takes it away.
func TestArmOfADiskThatIsOff(t *testing.T) {
	for _, n := range []int{-1, 0, 1, 5} {
		d := off(t, 3, [3]string{"a", "x", "y"})
		d.Arm(n)
		for range 8 {
			checkOn(t, d, false)
			check(t, "Append", d.Append("a", "z"), api.ErrDisk)
			checkNoRead(t, d, "a", api.ErrDisk)
		}
		d.Crash([]int{1})
		for range 8 {
			check(t, "Sync", d.Sync("a"), api.OK)
		}
		checkUntouchedButSafe(t, d)
	}
}

// P9.3, the chapter's example
func TestCrashLosesWhatIsNotSafe(t *testing.T) {
	d := disk.New(10)
	d.Append("a", "xy")
	d.Sync("a")
	d.Append("a", "z")
	d.Crash(nil)
	checkRead(t, d, "a", "xy")
	checkUsed(t, d, 2)
	checkOn(t, d, true)
}

// P9.3
func TestCrashKeepsAsManyAsItIsTold(t *testing.T) {
	for _, c := range []struct {
		keep int
		want string
	}{
		{math.MinInt, "safe"}, {-3, "safe"}, {-1, "safe"}, {0, "safe"}, {1, "safee"}, {2, "safeel"}, {3, "safeels"},
		{4, "safeelse"}, {5, "safeelse"}, {100, "safeelse"}, {1 << 32, "safeelse"}, {math.MaxInt - 1, "safeelse"}, {math.MaxInt, "safeelse"},
	} {
		d := laid(t, 100, [3]string{"a", "safe", "else"})
		d.Crash([]int{c.keep})
		checkRead(t, d, "a", c.want)
		checkUsed(t, d, len(c.want))
		d.Crash(nil)
		checkRead(t, d, "a", c.want)
	}
}

// P9.3: each file takes one number, the first name the first, whether it has bytes that aren't safe or none.
func TestCrashOfSeveralFiles(t *testing.T) {
	for _, c := range []struct {
		keep []int
		want [4]string
	}{
		{nil, [4]string{"A", "B", "", ""}},
		{[]int{}, [4]string{"A", "B", "", ""}},
		{[]int{1}, [4]string{"A1", "B", "", ""}},
		{[]int{2, 2}, [4]string{"A12", "B", "", ""}},
		{[]int{0, 0, 3}, [4]string{"A", "B", "123", ""}},
		{[]int{3, 1, 2}, [4]string{"A123", "B", "12", ""}},
		{[]int{-1, 9, 9, 9}, [4]string{"A", "B", "1234", ""}},
		{[]int{9, 9, 9, 9}, [4]string{"A1234", "B", "1234", ""}},
		{[]int{1, 0, 1, 0, 9, 9}, [4]string{"A1", "B", "1", ""}},
		{[]int{0, 1, 0, 1, 2, 3}, [4]string{"A", "B", "", ""}},
	} {
		d := laid(t, 100, [3]string{"c", "", "1234"}, [3]string{"d", "", ""}, [3]string{"a", "A", "1234"}, [3]string{"b", "B", ""})
		d.Crash(c.keep)
		used := 0
		for i, name := range []string{"a", "b", "c", "d"} {
			checkRead(t, d, name, c.want[i])
			used += len(c.want[i])
		}
		checkUsed(t, d, used)
		checkNames(t, d, "a", "b", "c", "d")
	}
}

// P9.3: of many files, whose order no map tells.
func TestCrashOfManyFiles(t *testing.T) {
	for range 5 {
		d := disk.New(10000)
		var keep []int
		for i := range 200 {
			check(t, "Append", d.Append(string([]byte{byte(i * 37 % 200)}), "1234567890"), api.OK)
			keep = append(keep, i%12-1)
		}
		d.Crash(keep)
		for i := range 200 {
			checkRead(t, d, string([]byte{byte(i)}), "1234567890"[:min(max(i%12-1, 0), 10)])
		}
	}
}

// P9.3
func TestCrashDisarms(t *testing.T) {
	for _, n := range []int{-1, 0, 1, 3} {
		d := forOperations(t)
		d.Arm(n)
		d.Crash([]int{1})
		checkOn(t, d, true)
		for range 8 {
			check(t, "Sync", d.Sync("a"), api.OK)
		}
		checkUntouchedButSafe(t, d)
	}
}

// P9.3: a disk that was crashed is armed anew as one that is new.
func TestArmBehindACrash(t *testing.T) {
	d := off(t, 3, [3]string{"a", "x", "y"})
	d.Crash(nil)
	d.Arm(1)
	check(t, "Append", d.Append("a", "z"), api.OK)
	check(t, "Append", d.Append("a", "w"), api.ErrDisk)
	checkOn(t, d, false)
	d.Crash([]int{9})
	checkRead(t, d, "a", "xz")
}

// P9.3: what a crash kept the next doesn't lose.
func TestACrashBehindACrash(t *testing.T) {
	d := laid(t, 100, [3]string{"a", "safe", "else"}, [3]string{"b", "", "12"})
	d.Crash([]int{2, 1})
	d.Crash(nil)
	checkRead(t, d, "a", "safeel")
	checkRead(t, d, "b", "1")
	check(t, "Append", d.Append("a", "more"), api.OK)
	d.Crash([]int{1})
	checkRead(t, d, "a", "safeelm")
	d.Crash([]int{9, 9})
	checkRead(t, d, "a", "safeelm")
	checkRead(t, d, "b", "1")
	checkUsed(t, d, 8)
}

// P9.3: it is there, empty, and goes on being so.
func TestAFileWithoutAByteThatIsKept(t *testing.T) {
	d := laid(t, 10, [3]string{"a", "", "xy"}, [3]string{"b", "", ""})
	for range 3 {
		d.Crash([]int{0, 0})
		checkRead(t, d, "a", "")
		checkRead(t, d, "b", "")
		checkNames(t, d, "a", "b")
		checkUsed(t, d, 0)
	}
	check(t, "Sync", d.Sync("a"), api.OK)
	check(t, "Cut", d.Cut("a", 0), api.OK)
	check(t, "Append", d.Append("a", "new"), api.OK)
	checkRead(t, d, "a", "new")
}

// P9.3
func TestCrashOfAnEmptyDisk(t *testing.T) {
	d := disk.New(1)
	d.Crash([]int{1, 2, 3})
	checkOn(t, d, true)
	checkNames(t, d)
	checkUsed(t, d, 0)
	check(t, "Append", d.Append("a", "x"), api.OK)
}

// Rule 6: disks share nothing.
func TestDisksAreApart(t *testing.T) {
	one, other := disk.New(10), disk.New(10)
	one.Append("a", "x")
	one.Arm(0)
	one.Sync("a")
	checkOn(t, one, false)
	checkOn(t, other, true)
	checkNames(t, other)
	check(t, "Append", other.Append("a", "yz"), api.OK)
	one.Crash([]int{9})
	checkRead(t, one, "a", "x")
	checkRead(t, other, "a", "yz")
}

// handed is a text whose bytes the test may change later.
func handed(s string) (string, []byte) {
	bytes := []byte(s)
	return unsafe.String(&bytes[0], len(bytes)), bytes
}

func spoil(bytes []byte) {
	for i := range bytes {
		bytes[i] = '!'
	}
}

// Rule 4: what is handed in isn't kept.
func TestHandedInIsNotKept(t *testing.T) {
	d := disk.New(100)
	for range 2 {
		name, nameBytes := handed("a name of some length")
		data, dataBytes := handed("some data")
		check(t, "Append", d.Append(name, data), api.OK)
		spoil(nameBytes)
		spoil(dataBytes)
	}
	checkNames(t, d, "a name of some length")
	checkRead(t, d, "a name of some length", "some datasome data")
	for _, do := range []func(name string) api.Errno{d.Sync, func(name string) api.Errno { return d.Cut(name, 9) }} {
		name, nameBytes := handed("a name of some length")
		check(t, "an operation", do(name), api.OK)
		spoil(nameBytes)
		checkNames(t, d, "a name of some length")
	}
	d.Crash(nil)
	checkRead(t, d, "a name of some length", "some data")
}

// Rule 4: a list that is handed in isn't changed, nor its spare room, nor kept.
func TestTheListOfACrashIsNotTouched(t *testing.T) {
	d := laid(t, 100, [3]string{"a", "", "xyz"}, [3]string{"b", "", "xyz"}, [3]string{"c", "", "xyz"})
	whole := []int{9, -1, 7, 8}
	keep := whole[:2]
	d.Crash(keep)
	if !slices.Equal(whole, []int{9, -1, 7, 8}) {
		t.Errorf("the list is %v then", whole)
	}
	checkRead(t, d, "a", "xyz")
	checkRead(t, d, "b", "")
	checkRead(t, d, "c", "")
	clear(whole)
	d.Append("b", "new")
	d.Crash([]int{0, 1})
	checkRead(t, d, "a", "xyz")
	checkRead(t, d, "b", "n")
}

// Rule 4: an answer that its asker spoils.
func TestAnswersAreNewMemory(t *testing.T) {
	d := laid(t, 100, [3]string{"first name", "some", "bytes"}, [3]string{"other name", "", ""})
	for range 2 {
		names := d.Names()
		for i, name := range names {
			spoil(unsafe.Slice(unsafe.StringData(name), len(name)))
			names[i] = "spoilt"
		}
		names = append(names, "more")
		clear(names)
		read, _ := d.Read("first name")
		spoil(unsafe.Slice(unsafe.StringData(read), len(read)))
		checkNames(t, d, "first name", "other name")
		checkRead(t, d, "first name", "somebytes")
	}
	before, _ := d.Read("first name")
	check(t, "Cut", d.Cut("first name", 2), api.OK)
	check(t, "Append", d.Append("first name", "xyzxyzxyz"), api.OK)
	if before != "somebytes" {
		t.Errorf("what was read is %q now", before)
	}
}
