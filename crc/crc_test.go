package crc_test

import (
	"hash/crc32"
	"strings"
	"testing"

	"downpour/api"
	"downpour/crc"
	"downpour/sample"
)

// more is the tests' own, bit by bit.
func more(c uint32, s string) uint32 {
	x := 1<<32 - 1 - c
	for i := range len(s) {
		x ^= uint32(s[i])
		for range 8 {
			odd := x%2 == 1
			x /= 2
			if odd {
				x ^= 2197175160
			}
		}
	}
	return 1<<32 - 1 - x
}

func TestSum(t *testing.T) {
	for s, want := range map[string]uint32{
		"123456789":                 3808858755,
		"":                          0,
		"a":                         0xC1D04330,
		strings.Repeat("\x00", 32):  0x8A9136AA,
		strings.Repeat("\xff", 32):  0x62A8AB43,
		"The quick brown fox jumps": more(0, "The quick brown fox jumps"),
	} {
		if got := crc.Sum(s); got != want {
			t.Errorf("%q %#x", s, got)
		}
	}
	castagnoli := crc32.MakeTable(crc32.Castagnoli)
	s := sample.Seed(1)
	for n := range 300 {
		text := s.Text(n)
		if got := crc.Sum(text); got != more(0, text) || got != crc32.Checksum([]byte(text), castagnoli) {
			t.Fatal(n, got)
		}
	}
	for b := range 256 {
		if text := string([]byte{byte(b)}); crc.Sum(text) != more(0, text) {
			t.Error(b)
		}
	}
}

func TestMore(t *testing.T) {
	s := sample.Seed(2)
	for n := range 100 {
		c, a, b := uint32(s.Below(1<<31))*2+uint32(n%2), s.Text(n), s.Text(s.Below(50))
		if got := crc.More(c, a); got != more(c, a) {
			t.Fatal(c, n, got)
		}
		if crc.More(c, "") != c {
			t.Fatal("no bytes change a sum", c)
		}
		if crc.More(crc.Sum(a), b) != crc.Sum(a+b) {
			t.Fatal("one behind the other", n)
		}
	}
	for _, c := range []uint32{0, 1, 1 << 31, 1<<32 - 1} {
		if got := crc.More(c, "xyz"); got != more(c, "xyz") {
			t.Error(c, got)
		}
	}
}

func TestSeal(t *testing.T) {
	if got := crc.Seal("123456789"); got != "123456789\x83\x92\x06\xe3" {
		t.Errorf("%q", got)
	}
	if got := crc.Seal(""); got != "\x00\x00\x00\x00" {
		t.Errorf("%q", got)
	}
	s := sample.Seed(3)
	for n := range 100 {
		text := s.Text(n)
		sealed := crc.Seal(text)
		c := more(0, text)
		if sealed != text+string([]byte{byte(c), byte(c >> 8), byte(c >> 16), byte(c >> 24)}) {
			t.Fatalf("%q %q", text, sealed)
		}
		if got, e := crc.Open(sealed); e != api.OK || got != text {
			t.Fatalf("%q %q %d", text, got, e)
		}
	}
}

func TestOpenWrong(t *testing.T) {
	for _, s := range []string{"", "\x00", "\x00\x00", "\x00\x00\x00", "abc", "abcd", "\x01\x00\x00\x00", "\x00\x00\x00\x00\x00", "123456789\xe3\x06\x92\x83", "123456789\x83\x92\x06", "123456789\x83\x92\x06\xe3\x00"} {
		if got, e := crc.Open(s); e != api.ErrMalformed || got != "" {
			t.Errorf("%q %q %d", s, got, e)
		}
	}
}

func flipped(s string, bits ...int) string {
	b := []byte(s)
	for _, i := range bits {
		b[i/8] ^= 1 << (i % 8)
	}
	return string(b)
}

func TestOpenChanged(t *testing.T) {
	s := sample.Seed(4)
	for _, n := range []int{0, 1, 5, 40} {
		sealed := crc.Seal(s.Text(n))
		all := 8 * len(sealed)
		for i := range all {
			if got, e := crc.Open(flipped(sealed, i)); e != api.ErrMalformed || got != "" {
				t.Fatal("one bit", n, i, e)
			}
			bits := []int{i}
			for j := i + 1; j < min(i+32, all); j++ {
				if s.Below(2) == 1 {
					bits = append(bits, j)
				}
			}
			if got, e := crc.Open(flipped(sealed, bits...)); e != api.ErrMalformed || got != "" {
				t.Fatal("several within 32", n, bits, e)
			}
		}
	}
}
