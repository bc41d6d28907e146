package log_test

import (
	"math/rand"
	"slices"
	"strings"
	"testing"

	"palaver/api"
	"palaver/disk"
	"palaver/log"
)

// appendAll appends records until the disk goes off, and tells how many were OK.
func appendAll(t *testing.T, l *log.Log, records []string) int {
	t.Helper()
	for i, rec := range records {
		if errno := l.Append(rec); errno != api.OK {
			check(t, "Append", errno, api.ErrDisk)
			return i
		}
	}
	return len(records)
}

// checkLasted opens a log behind a crash: what was OK is there, and at most one more.
func checkLasted(t *testing.T, d *disk.Disk, ok int, records []string) []string {
	t.Helper()
	_, got, errno := log.Open(d, "l")
	check(t, "Open", errno, api.OK)
	if len(got) < ok || len(got) > ok+1 || len(got) > len(records) || !slices.Equal(got, records[:len(got)]) {
		t.Errorf("%d records were OK; there are %d: %.100q", ok, len(got), got)
	}
	return got
}

// P10.3: a crash at any operation, whatever is kept.
func TestCrash(t *testing.T) {
	records := []string{"first", "", strings.Repeat("x", 4060), "yy", strings.Repeat("z", 4096), "behind", "at last"}
	files := 4
	keeps := []int{-1, 4067, 4068, 4069, 4103, 4104, 1 << 20}
	for kept := range 20 {
		keeps = append(keeps, kept)
	}
	for n := range 2*len(records) + 1 {
		for _, kept := range keeps {
			d := laid(t)
			l := checkOpen(t, d, "l")
			d.Arm(n)
			ok := appendAll(t, l, records)
			if ok != n/2 {
				t.Errorf("%d operations: %d records were OK", n, ok)
			}
			checkCount(t, l, ok)
			d.Crash(slices.Repeat([]int{kept}, files))
			got := checkLasted(t, d, ok, records)
			if n%2 == 1 && kept == 1<<20 && len(got) != ok+1 {
				t.Errorf("%d operations, all kept: %d records", n, len(got))
			}
			// And on it goes, from where it stands.
			l = checkOpen(t, d, "l", got...)
			if appendAll(t, l, records[len(got):]) != len(records)-len(got) {
				t.Errorf("%d operations, %d kept: no more records", n, kept)
			}
			d.Crash(nil)
			checkOpen(t, d, "l", records...)
		}
	}
}

// P10.3: many crashes, also while a log is being opened, with another log beside it.
func TestCrashes(t *testing.T) {
	for seed := range int64(300) {
		r := rand.New(rand.NewSource(seed))
		d := disk.New(40000)
		var lasted, beside []string
		for range 12 {
			d.Arm(r.Intn(40))
			if r.Intn(4) == 0 {
				d.Arm(r.Intn(2))
			}
			lasted = crashOnce(t, r, d, lasted, &beside)
			if t.Failed() {
				t.Fatalf("with the seed %d", seed)
			}
		}
	}
}

// crashOnce opens two logs, appends until the disk goes off, or a while, and lets the power go.
func crashOnce(t *testing.T, r *rand.Rand, d *disk.Disk, lasted []string, beside *[]string) []string {
	t.Helper()
	var under []string
	l, _, errno := log.Open(d, "l")
	other, got, otherErrno := log.Open(d, "k")
	if otherErrno == api.OK {
		*beside = got
	}
	for range r.Intn(30) {
		if errno != api.OK || otherErrno != api.OK {
			break
		}
		rec := strings.Repeat(string(rune('a'+r.Intn(26))), r.Intn(1200))
		if errno = l.Append(rec); errno == api.OK {
			lasted = append(lasted, rec)
		} else if under = []string{rec}; d.On() {
			// No room: nothing of it may be seen.
			under, errno = nil, api.OK
		}
		if other.Append("beside") == api.OK {
			*beside = append(*beside, "beside")
		}
	}
	var keep []int
	for range r.Intn(20) {
		keep = append(keep, r.Intn(1300)-20)
	}
	d.Crash(keep)
	checkOpened(t, d, "k", *beside, []string{"beside"})
	return checkOpened(t, d, "l", lasted, under)
}

func checkOpened(t *testing.T, d *disk.Disk, name string, ok, under []string) []string {
	t.Helper()
	_, got, errno := log.Open(d, name)
	check(t, "Open", errno, api.OK)
	if !slices.Equal(got, ok) && !slices.Equal(got, slices.Concat(ok, under)) {
		t.Errorf("Open(%q): %d records, not %d, and perhaps %d", name, len(got), len(ok), len(under))
	}
	return got
}
