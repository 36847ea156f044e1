package seal_test

import (
	"encoding/binary"
	"fmt"
	"hash/fnv"
	"math"
	"strings"
	"testing"

	"flitting/api"
	"flitting/seal"
)

func want[T comparable](t *testing.T, what string, got, wanted T) {
	t.Helper()
	if got != wanted {
		t.Errorf("%s: %#v, not %#v", what, got, wanted)
	}
}

// opened is what Open tells of bytes, as a text.
func opened(b string) string {
	body, is := seal.Open(b)
	return fmt.Sprintf("%q %t", body, is)
}

const (
	nothing = `"" false`
	empty   = `"" true`
)

// texts are bytes of many lengths and kinds.
func texts() []string {
	l := []string{"", "a", "foobar", "\x00", "\x00\x00", "\xff", "\x80\x00\x7f", "\xe2\x82\xac", strings.Repeat("\xff", 300)}
	var all strings.Builder
	for k := range 256 {
		all.WriteByte(byte(k))
		l = append(l, all.String())
	}
	return l
}

// numbers are those around the edges of each byte.
func numbers() []int {
	l := []int{258, 0x04030201, 0xfedcba98, 1e9}
	for k := range 33 {
		l = append(l, 1<<k-1, 1<<k, 1<<k+1)
	}
	return l
}

func TestP301Sum(t *testing.T) {
	for b, sum := range map[string]uint32{
		"": 2166136261, "a": 0xe40c292c, "b": 0xe70c2de5, "foobar": 0xbf9cf968,
		"\x00": 0x050c5d1f, "\xff": 0x7a0b824e, "chongo was here!\n": 0xd49930d5,
	} {
		want(t, fmt.Sprintf("Sum(%q)", b), seal.Sum(b), sum)
	}
	for _, b := range texts() {
		h := fnv.New32a()
		h.Write([]byte(b))
		want(t, fmt.Sprintf("Sum(%q)", b), seal.Sum(b), h.Sum32())
	}
	if seal.Sum("ab") == seal.Sum("ba") {
		t.Error("Sum does not see in what order the bytes are")
	}
	long := strings.Repeat("0123456789abcdef", 1<<16)
	h := fnv.New32a()
	h.Write([]byte(long))
	want(t, "Sum of many bytes", seal.Sum(long), h.Sum32())
}

func TestP301Put(t *testing.T) {
	want(t, "Put(258, 4)", seal.Put(258, 4), "\x02\x01\x00\x00")
	want(t, "Put(0, 1)", seal.Put(0, 1), "\x00")
	want(t, "the highest number", seal.Put(api.Wrap-1, 8), "\xff\xff\xff\xff\x00\x00\x00\x00")
	want(t, "higher bytes are left out", seal.Put(0x04030201, 3), "\x01\x02\x03")
	want(t, "all of them", seal.Put(256, 1), "\x00")
	for _, v := range numbers() {
		if v >= api.Wrap {
			continue
		}
		whole := string(binary.LittleEndian.AppendUint64(nil, uint64(v)))
		for n := 1; n <= 8; n++ {
			want(t, fmt.Sprintf("Put(%d, %d)", v, n), fmt.Sprintf("%q", seal.Put(v, n)), fmt.Sprintf("%q", whole[:n]))
		}
	}
}

func TestP301PutRefuses(t *testing.T) {
	for _, v := range []int{-1, -256, math.MinInt, api.Wrap, api.Wrap + 1, 1 << 40, math.MaxInt} {
		for n := -1; n <= 9; n++ {
			want(t, fmt.Sprintf("Put(%d, %d)", v, n), seal.Put(v, n), "")
		}
	}
	for _, n := range []int{0, -1, 9, 10, 16, 256, 257, math.MinInt, math.MaxInt, 1<<32 + 4} {
		for _, v := range []int{0, 1, api.Wrap - 1} {
			want(t, fmt.Sprintf("Put(%d, %d)", v, n), seal.Put(v, n), "")
		}
	}
}

func TestP301Get(t *testing.T) {
	want(t, "the example", seal.Get(seal.Put(258, 4)), 258)
	want(t, "of nothing", seal.Get(""), 0)
	for k, v := range []int{1, 0x0201, 0x030201, 0x04030201, 0x0504030201, 0x060504030201, 0x07060504030201} {
		want(t, fmt.Sprint("of bytes: ", k+1), seal.Get("\x01\x02\x03\x04\x05\x06\x07"[:k+1]), v)
	}
	for n := range 8 {
		want(t, fmt.Sprint("the highest one of bytes: ", n), seal.Get(strings.Repeat("\xff", n)), 1<<(8*n)-1)
		want(t, fmt.Sprint("zeros: ", n), seal.Get(strings.Repeat("\x00", n)), 0)
	}
}

func TestP301GetOfMany(t *testing.T) {
	seven := "\x01\x02\x03\x04\x05\x06\x87"
	for _, more := range []string{"\x00", "\x01", "\x7f", "\x80", "\xff", "\xff\xff", strings.Repeat("\xff", 1000)} {
		want(t, fmt.Sprintf("with %d more", len(more)), seal.Get(seven+more), 0x87060504030201)
	}
}

func TestP301GetsBack(t *testing.T) {
	for _, v := range numbers() {
		if v >= api.Wrap {
			continue
		}
		for n := 1; n <= 8; n++ {
			back := v
			if n < 4 {
				back = v & (1<<(8*n) - 1)
			}
			want(t, fmt.Sprintf("Get of Put(%d, %d)", v, n), seal.Get(seal.Put(v, n)), back)
		}
	}
}

func TestP302Seal(t *testing.T) {
	want(t, "Seal(ab, 10)", seal.Seal("ab", 10), "ab\x00\x00\x00\x00"+seal.Put(int(seal.Sum("ab\x00\x00\x00\x00")), 4))
	want(t, "of nothing", seal.Seal("", 4), "\xc5\x9d\x1c\x81")
	for _, n := range []int{4, 5, 8, 31, 32, 96, 199, 200} {
		for length := range n - 3 {
			b := strings.Repeat("x\xff\x00", n)[:length]
			body := b + strings.Repeat("\x00", n-4-length)
			sum := binary.LittleEndian.AppendUint32(nil, seal.Sum(body))
			want(t, fmt.Sprintf("Seal(%q, %d)", b, n), seal.Seal(b, n), body+string(sum))
		}
	}
}

func TestP302SealRefuses(t *testing.T) {
	for _, n := range []int{3, 2, 1, 0, -1, -4, math.MinInt, 201, 202, 1 << 20, math.MaxInt} {
		want(t, fmt.Sprintf("Seal of nothing in %d", n), seal.Seal("", n), "")
		want(t, fmt.Sprintf("Seal of a byte in %d", n), seal.Seal("a", n), "")
	}
	for n := 4; n <= 200; n++ {
		want(t, fmt.Sprintf("what just fits in %d", n), len(seal.Seal(strings.Repeat("a", n-4), n)), n)
		want(t, fmt.Sprintf("one byte too many in %d", n), seal.Seal(strings.Repeat("a", n-3), n), "")
		want(t, fmt.Sprintf("as many as %d", n), seal.Seal(strings.Repeat("a", n), n), "")
	}
	want(t, "far too many", seal.Seal(strings.Repeat("a", 1000), 200), "")
}

func TestP302Open(t *testing.T) {
	for _, n := range []int{4, 5, 8, 31, 32, 96, 199, 200} {
		for length := range n - 3 {
			b := strings.Repeat("\x00y\x80", n)[:length]
			whole := b + strings.Repeat("\x00", n-4-length)
			want(t, fmt.Sprintf("Open of Seal(%q, %d)", b, n), opened(seal.Seal(b, n)), fmt.Sprintf("%q true", whole))
		}
	}
	want(t, "of a sum alone", opened("\xc5\x9d\x1c\x81"), empty)
	// Open asks for the sum alone: it may be of more than Seal makes.
	long := strings.Repeat("abc", 1000)
	want(t, "more than Seal makes", opened(long+seal.Put(int(seal.Sum(long)), 4)), fmt.Sprintf("%q true", long))
}

func TestP302OpenRefuses(t *testing.T) {
	for _, b := range []string{"", "\x00", "ab", "abc", "\xc5\x9d\x1c"} {
		want(t, fmt.Sprintf("fewer than four: %q", b), opened(b), nothing)
	}
	for _, b := range []string{"\x00\x00\x00\x00", "\xff\xff\xff\xff", "\x81\x1c\x9d\xc5", "abcd", strings.Repeat("\x00", 32), strings.Repeat("\x00", 200)} {
		want(t, fmt.Sprintf("another sum: %q", b), opened(b), nothing)
	}
	whole := seal.Seal("abc", 32)
	want(t, "one byte more", opened(whole+"\x00"), nothing)
	want(t, "one byte more ahead", opened("\x00"+whole), nothing)
	for n := range whole {
		want(t, fmt.Sprint("cut to ", n), opened(whole[:n]), nothing)
		if n > 0 {
			want(t, fmt.Sprint("without the first ", n), opened(whole[n:]), nothing)
		}
	}
}

func TestP303OneByteTurned(t *testing.T) {
	for _, b := range []string{"", "a", "FLIT", "\x00\xff\x00\xff", strings.Repeat("\xff", 28), strings.Repeat("ab\x00", 65)} {
		for _, n := range []int{4, 5, 8, 32, 96, 200} {
			whole := seal.Seal(b, n)
			for k := range whole {
				turned := []byte(whole)
				for by := 1; by < 256; by++ {
					turned[k] = whole[k] ^ byte(by)
					if got := opened(string(turned)); got != nothing {
						t.Fatalf("Seal(%q, %d), byte %d turned by %d: %s", b, n, k, by, got)
					}
				}
			}
		}
	}
}
