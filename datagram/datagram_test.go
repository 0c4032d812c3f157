package datagram_test

import (
	"math"
	"strings"
	"testing"

	"downpour/api"
	"downpour/crc"
	"downpour/datagram"
	"downpour/sample"
)

func of(object, id uint64, k, size int, data string) api.Datagram {
	return api.Datagram{Object: object, K: k, Size: size, Symbol: api.Symbol{Id: id, Data: data}}
}

func good() []api.Datagram {
	s := sample.Seed(1)
	l := []api.Datagram{
		of(0, 0, 1, 0, ""),
		of(0x0102030405060708, 0x1112131415161718, 10, 3, "abc"),
		of(math.MaxUint64, math.MaxUint64, 64, 64, strings.Repeat("\xff", 64)),
		of(1<<63, 1, 64, 0, ""),
		of(1, 1<<63, 1, 64, strings.Repeat("\x00", 64)),
		of(5, 6, 2, 4, "ä\x00\n"),
	}
	for range 50 {
		n := s.Below(65)
		l = append(l, of(uint64(s.Below(1<<30)), uint64(s.Below(1<<30))<<33, 1+s.Below(64), n, s.Text(n)))
	}
	return l
}

// bad may not be, each for one fault alone.
func bad() []api.Datagram {
	return []api.Datagram{
		of(1, 1, 0, 0, ""),
		of(1, 1, -1, 0, ""),
		of(1, 1, 65, 0, ""),
		of(1, 1, 256+1, 0, ""),
		of(1, 1, math.MinInt, 1, "a"),
		of(1, 1, math.MaxInt, 1, "a"),
		of(1, 1, 1, -1, ""),
		of(1, 1, 1, 65, strings.Repeat("a", 65)),
		of(1, 1, 1, 256, strings.Repeat("a", 256)),
		of(1, 1, 1, math.MinInt, ""),
		of(1, 1, 1, math.MaxInt, ""),
		of(1, 1, 1, 0, "a"),
		of(1, 1, 1, 1, ""),
		of(1, 1, 1, 2, "abc"),
		{},
	}
}

func TestRight(t *testing.T) {
	for i, d := range good() {
		if !datagram.Right(d) {
			t.Error(i, d)
		}
	}
	for i, d := range bad() {
		if datagram.Right(d) {
			t.Error(i, d)
		}
		if s, e := datagram.Put(d); e != api.ErrArg || s != "" {
			t.Error(i, s, e)
		}
	}
}

func TestPut(t *testing.T) {
	want := crc.Seal("D\x01\x01\x02\x03\x04\x05\x06\x07\x08\x11\x12\x13\x14\x15\x16\x17\x18\x0a\x03abc")
	if s, e := datagram.Put(of(0x0102030405060708, 0x1112131415161718, 10, 3, "abc")); e != api.OK || s != want {
		t.Errorf("%q %d", s, e)
	}
	if s, e := datagram.Put(of(9, 8, 7, 0, "")); e != api.OK || len(s) != 24 {
		t.Errorf("%q %d", s, e)
	}
}

func TestGet(t *testing.T) {
	for i, d := range good() {
		s, e := datagram.Put(d)
		if e != api.OK || len(s) != 24+d.Size {
			t.Fatal(i, len(s), e)
		}
		got, e := datagram.Get(s)
		if e != api.OK || got != d {
			t.Fatal(i, got, e)
		}
		if again, e := datagram.Put(got); e != api.OK || again != s {
			t.Fatal(i, e)
		}
	}
}

func refused(t *testing.T, what string, s string) {
	t.Helper()
	if d, e := datagram.Get(s); e != api.ErrMalformed || d != (api.Datagram{}) {
		t.Error(what, d, e)
	}
}

func TestGetWrong(t *testing.T) {
	head := "D\x01" + strings.Repeat("\x00", 16)
	refused(t, "none", "")
	refused(t, "no seal", head+"\x01\x00")
	refused(t, "a seal alone", crc.Seal(""))
	for name, text := range map[string]string{
		"another mark":       "E" + head[1:] + "\x01\x00",
		"a small mark":       "d" + head[1:] + "\x01\x00",
		"version 0":          "D\x00" + head[2:] + "\x01\x00",
		"version 2":          "D\x02" + head[2:] + "\x01\x00",
		"K 0":                head + "\x00\x00",
		"K 65":               head + "\x41\x00",
		"K 255":              head + "\xff\x00",
		"Size 65":            head + "\x01\x41" + strings.Repeat("a", 65),
		"Size 255":           head + "\x01\xff" + strings.Repeat("a", 255),
		"a byte more":        head + "\x01\x02abc",
		"a byte less":        head + "\x01\x02a",
		"no Data":            head + "\x01\x02",
		"Data of Size 0":     head + "\x01\x00a",
		"cut behind K":       head + "\x01",
		"cut ahead of K":     head,
		"cut within numbers": head[:9],
		"a mark alone":       "D",
	} {
		refused(t, name, crc.Seal(text))
	}
	if _, e := datagram.Get(crc.Seal(head + "\x01\x00")); e != api.OK {
		t.Error(e)
	}
}

func TestGetChanged(t *testing.T) {
	for _, d := range good()[:8] {
		s, _ := datagram.Put(d)
		for i := range 8 * len(s) {
			b := []byte(s)
			b[i/8] ^= 1 << (i % 8)
			refused(t, "one bit", string(b))
		}
		for n := range len(s) {
			refused(t, "cut", s[:n])
		}
		refused(t, "longer", s+"\x00")
		refused(t, "doubled", s+s)
		refused(t, "sealed again", crc.Seal(s))
	}
}
