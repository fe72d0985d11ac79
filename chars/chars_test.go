package chars_test

import (
	"strings"
	"testing"
	"unicode/utf8"

	"soffit/api"
	"soffit/chars"
)

func TestBad(t *testing.T) {
	for s, want := range map[string]int{
		"": -1, "abc": -1, "\t\n\r ~": -1, "\x00": 0, "a\x08": 1, "a\x0b": 1, "\x0c": 0, "\x1f": 0, "\x7f": -1, "\u0080": -1,
		"\ud7ff": -1, "\ue000": -1, "\ufffd": -1, "\ufffe": 0, "é\uffff": 2, "\U00010000": -1, "\U0010ffff": -1,
		"a\xff": 1, "\xc0\x80": 0, "\xe0\x80\x80": 0, "ab\xed\xa0\x80": 2, "\xf4\x90\x80\x80": 0, "\xc3": 0, "x\xe2\x82": 1,
		"\ufffd\xff": 3, "\x80": 0, "\xf0\x82\x82\xac": 0, "é\x01\x02": 2, "\xc1\xbf": 0,
	} {
		if got := chars.Bad(s); got != want {
			t.Errorf("Bad(%q): %d, want %d", s, got, want)
		}
		if chars.Good(s) != (want == -1) {
			t.Errorf("Good(%q)", s)
		}
	}
}

func TestEveryCharacter(t *testing.T) {
	for r := rune(0); r <= utf8.MaxRune; r++ {
		want := r == 9 || r == 10 || r == 13 || r >= 32 && r <= 0xd7ff || r >= 0xe000 && r <= 0xfffd || r >= 0x10000
		s := string(r)
		if r >= 0xd800 && r < 0xe000 {
			continue // string(r) would be another character
		}
		if chars.Good(s) != want {
			t.Fatalf("%x", r)
		}
		if !want {
			continue
		}
		e, err := chars.Escape(s)
		if err != api.OK || strings.ContainsAny(e, "<>\"'\t\n\r") {
			t.Fatalf("%x: %q, %d", r, e, err)
		}
		if u, at, err := chars.Unescape(e); u != s || at != 0 || err != api.OK {
			t.Fatalf("%x: %q, %d, %d", r, u, at, err)
		}
	}
}

func TestName(t *testing.T) {
	for s, want := range map[string]bool{
		"a": true, "Z9_": true, "z": true, "A": true, "mazAZ09": true, "_": true, "_0": true, "": false, "0a": false, "a-b": false, "a b": false, "é": false, "a.": false,
		"aé": false, "a\xff": false, "@": false, "[": false, "`": false, "{": false, "a/": false, "a:": false,
		strings.Repeat("a", 32): true, strings.Repeat("a", 33): false,
	} {
		if chars.Name(s) != want {
			t.Errorf("Name(%q) is not %v", s, want)
		}
	}
}

func TestEscape(t *testing.T) {
	for s, want := range map[string]string{
		"": "", "plain é": "plain é", "&<>\"'\t\n\r": "&amp;&lt;&gt;&quot;&apos;&#9;&#10;&#13;", "&amp;": "&amp;amp;", "\ufffd": "\ufffd",
	} {
		if got, e := chars.Escape(s); got != want || e != api.OK {
			t.Errorf("Escape(%q): %q, %d", s, got, e)
		}
	}
	for _, s := range []string{"a\x00", "\xff", "&\ufffe"} {
		if got, e := chars.Escape(s); got != "" || e != api.ErrChar {
			t.Errorf("Escape(%q): %q, %d", s, got, e)
		}
	}
}

func TestUnescape(t *testing.T) {
	for s, want := range map[string]string{
		"": "", "a>b\"'": "a>b\"'", "&amp;lt;": "&lt;", "&lt;&gt;&quot;&apos;&amp;": "<>\"'&", "&#65;&#x41;&#x0000004a;&#00000066;": "AAJB",
		"&#9;&#10;&#13;": "\t\n\r", "&#xAF;&#xaf;&#xFA;&#xfa;&#x90;": "¯¯úú\u0090", "&#xFFFD;&#xfffd;": "\ufffd\ufffd", "\ufffd": "\ufffd", "&#x10FFFF;": "\U0010ffff", "é&#233;": "éé",
	} {
		if got, at, e := chars.Unescape(s); got != want || at != 0 || e != api.OK {
			t.Errorf("Unescape(%q): %q, %d, %d", s, got, at, e)
		}
	}
	for _, c := range []struct {
		s  string
		at int
		e  api.Errno
	}{
		{"a<", 1, api.ErrChar}, {"é<&", 2, api.ErrChar}, {"&<", 0, api.ErrName}, {"\x01", 0, api.ErrChar}, {"&amp;\xff", 5, api.ErrChar},
		{"&", 0, api.ErrName}, {"&amp", 0, api.ErrName}, {"x&AMP;", 1, api.ErrName}, {"&;", 0, api.ErrName}, {"&#;", 0, api.ErrName},
		{"&#x;", 0, api.ErrName}, {"&#X41;", 0, api.ErrName}, {"&#4a;", 0, api.ErrName}, {"&#x4g;", 0, api.ErrName}, {"&# 65;", 0, api.ErrName},
		{"&#000000065;", 0, api.ErrName}, {"&#x000000041;", 0, api.ErrName}, {"&#0;", 0, api.ErrName}, {"&#xD800;", 0, api.ErrName},
		{"&#xFFFE;", 0, api.ErrName}, {"&#x110000;", 0, api.ErrName}, {"&#xFFFFFFFF;", 0, api.ErrName}, {"&#99999999;", 0, api.ErrName},
		{"&lt;&nbsp;<", 4, api.ErrName}, {"&#-1;", 0, api.ErrName}, {"&a\xffmp;", 0, api.ErrName}, {"&amp ;", 0, api.ErrName}, {"&#x41\xff", 0, api.ErrName},
	} {
		if got, at, e := chars.Unescape(c.s); got != "" || at != c.at || e != c.e {
			t.Errorf("Unescape(%q): %q, %d, %d", c.s, got, at, e)
		}
	}
}
