package days_test

import (
	"math"
	"testing"
	"time"

	"soffit/api"
	"soffit/days"
)

func TestLeap(t *testing.T) {
	for year, want := range map[int]bool{
		1: false, 4: true, 100: false, 400: true, 1900: false, 2000: true, 2023: false, 2024: true, 0: true,
		-4: true, -100: false, -400: true, -1: false, 12000: true, math.MinInt: true, math.MaxInt: false,
	} {
		if days.Leap(year) != want {
			t.Errorf("Leap(%d) is not %v", year, want)
		}
	}
}

func TestEveryDay(t *testing.T) {
	at := time.Date(1, 1, 1, 0, 0, 0, 0, time.UTC)
	for n := api.MinDay; n <= api.MaxDay; n++ {
		y, m, d, e := days.Date(n)
		if e != api.OK || y != at.Year() || m != int(at.Month()) || d != at.Day() {
			t.Fatalf("Date(%d): %d-%d-%d, %d", n, y, m, d, e)
		}
		if k, e := days.Day(y, m, d); k != n || e != api.OK {
			t.Fatalf("Day(%d, %d, %d): %d, %d", y, m, d, k, e)
		}
		if n%97 == 0 || n > api.MaxDay-400 || n < 400 {
			s, e := days.Text(n)
			if s != at.Format("2006-01-02") || e != api.OK {
				t.Fatalf("Text(%d): %q, %d", n, s, e)
			}
			if k, e := days.Parse(s); k != n || e != api.OK {
				t.Fatalf("Parse(%q): %d, %d", s, k, e)
			}
		}
		at = at.AddDate(0, 0, 1)
	}
}

func TestEdges(t *testing.T) {
	for _, c := range []struct{ y, m, d, n int }{{1, 1, 1, 0}, {9999, 12, 31, api.MaxDay}, {2000, 1, 1, 730119}} {
		if n, e := days.Day(c.y, c.m, c.d); n != c.n || e != api.OK {
			t.Errorf("%v: %d, %d", c, n, e)
		}
	}
	if s, _ := days.Text(0); s != "0001-01-01" {
		t.Errorf("day 0: %s", s)
	}
	if s, _ := days.Text(api.MaxDay); s != "9999-12-31" {
		t.Errorf("the last day: %s", s)
	}
}

func TestRanges(t *testing.T) {
	for _, c := range [][3]int{
		{0, 1, 1}, {10000, 1, 1}, {-1, 1, 1}, {2000, 0, 1}, {2000, 13, 1}, {2000, 1, 0}, {2000, 1, 32}, {2000, 4, 31},
		{2023, 2, 29}, {1900, 2, 29}, {2024, 2, 30}, {math.MinInt, 1, 1}, {2000, math.MaxInt, 1}, {2000, 1, math.MinInt},
	} {
		if n, e := days.Day(c[0], c[1], c[2]); n != 0 || e != api.ErrRange {
			t.Errorf("%v: %d, %d", c, n, e)
		}
	}
	for _, n := range []int{-1, api.MaxDay + 1, math.MinInt, math.MaxInt} {
		if y, m, d, e := days.Date(n); y != 0 || m != 0 || d != 0 || e != api.ErrRange {
			t.Errorf("Date(%d): %d-%d-%d, %d", n, y, m, d, e)
		}
		if s, e := days.Text(n); s != "" || e != api.ErrRange {
			t.Errorf("Text(%d): %q, %d", n, s, e)
		}
	}
}

func TestParseErrors(t *testing.T) {
	for s, want := range map[string]api.Errno{
		"": api.ErrText, "2000-1-1": api.ErrText, "2000-01-1": api.ErrText, "2000/01/01": api.ErrText, "2000-01/01": api.ErrText, "2000/01-01": api.ErrText, "2000-01-010": api.ErrText, "200-001-01": api.ErrText,
		"02000-01-01": api.ErrText, "2000-01-011": api.ErrText, " 2000-01-01": api.ErrText, "2000-01-0x": api.ErrText,
		"-200-01-01": api.ErrText, "2000-0a-01": api.ErrText, "20 0-01-01": api.ErrText, "2000-01-01\n": api.ErrText, "2000-+1-01": api.ErrText,
		"0000-01-01": api.ErrRange, "2000-00-01": api.ErrRange, "2000-13-01": api.ErrRange, "2023-02-29": api.ErrRange, "2000-01-00": api.ErrRange,
	} {
		if n, e := days.Parse(s); n != 0 || e != want {
			t.Errorf("Parse(%q): %d, %d", s, n, e)
		}
	}
	if n, e := days.Parse("2024-02-29"); n != 738944 || e != api.OK {
		t.Errorf("a leap day: %d, %d", n, e)
	}
}
