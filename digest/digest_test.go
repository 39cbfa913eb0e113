package digest

import (
	"encoding/binary"
	"fmt"
	"math"
	"math/big"
	"math/rand"
	"slices"
	"strconv"
	"strings"
	"testing"
	"time"
	"unsafe"
)

// sumOf is the checksum of b, computed with integers of unlimited size.
func sumOf(b []byte) uint64 {
	whole := new(big.Int).Lsh(big.NewInt(1), 64)
	h, _ := new(big.Int).SetString("9E3779B97F4A7C15", 16)
	by, _ := new(big.Int).SetString("FF51AFD7ED558CCD", 16)
	for _, x := range b {
		low := new(big.Int).And(h, big.NewInt(255))
		h.Sub(h, low)
		h.Add(h, low.Xor(low, big.NewInt(int64(x))))
		// 2^13 times as much: what is above 64 bits then goes to the lower end.
		h.Lsh(h, 13)
		upper, lower := new(big.Int).DivMod(h, whole, new(big.Int))
		h.Mul(lower.Add(lower, upper), by)
		h.Mod(h, whole)
	}
	return h.Xor(h, new(big.Int).Rsh(h, 29)).Uint64()
}

// checkSum holds Sum(b) against sumOf(b).
func checkSum(t *testing.T, b []byte) {
	t.Helper()
	if got, want := Sum(b), sumOf(b); got != want {
		t.Errorf("Sum(%x): %016x, not %016x", b, got, want)
	}
}

// P9.1: the sums of some bytes, computed by another program.
func TestSumTable(t *testing.T) {
	var all []byte
	for i := range 256 {
		all = append(all, byte(i))
	}
	for _, c := range []struct {
		b    []byte
		want uint64
	}{
		{nil, 0x9e3779bd8ef1b1de},
		{[]byte{}, 0x9e3779bd8ef1b1de},
		{[]byte{0}, 0xdfc7b168da85b6ff},
		{[]byte{0, 0}, 0xefa481267234cc90},
		{[]byte{255}, 0xc99cc075a56c5e11},
		{[]byte("a"), 0xe7ebd3c133e403be},
		{[]byte("b"), 0x89dcccc26f611bbf},
		{[]byte("ab"), 0x1df3ebc0f62d4c99},
		{[]byte("ba"), 0x45ea3e3fbdcc81d3},
		{[]byte("abc"), 0xf5c140ae0d61226b},
		{[]byte("left-pad"), 0x86c3dbfc6b12de3a},
		{[]byte("\u00e9"), 0x75fa56d709024be5},
		{[]byte("linchpin lock\nplatform linux x86_64 -\n"), 0x108cf1baabeeed9c},
		{all, 0xdee63cbd2f4c542c},
		{make([]byte, 1000), 0x5e1f018a6390651d},
	} {
		if got := Sum(c.b); got != c.want {
			t.Errorf("Sum(%q): %016x, not %016x", c.b, got, c.want)
		}
		checkSum(t, c.b)
	}
}

// P9.1: the sums of all slices of up to two bytes, and of others of all lengths up
// to 200, against a second computation.
func TestSumAgainstSecond(t *testing.T) {
	for i := range 256 {
		checkSum(t, []byte{byte(i)})
		for j := range 256 {
			checkSum(t, []byte{byte(i), byte(j)})
		}
	}
	r := rand.New(rand.NewSource(1))
	for n := range 200 {
		for range 10 {
			b := make([]byte, n)
			r.Read(b)
			checkSum(t, b)
			checkSum(t, slices.Repeat([]byte{byte(n)}, n))
		}
	}
}

// P9.1: a Sum is made of all bytes and of nothing else, also not of how many there
// are or of where they lie.
func TestSumOfPart(t *testing.T) {
	r := rand.New(rand.NewSource(2))
	whole := make([]byte, 100)
	r.Read(whole)
	for from := range whole {
		for to := from; to <= len(whole); to++ {
			part := whole[from:to]
			if Sum(part) != Sum(slices.Clone(part)) {
				t.Errorf("Sum(whole[%d:%d]) is not that of its copy", from, to)
			}
		}
	}
	seen := map[uint64]int{}
	for n := range 2000 {
		h := Sum(make([]byte, n))
		if m, is := seen[h]; is {
			t.Errorf("%d and %d bytes 0 have one Sum", m, n)
		}
		seen[h] = n
	}
}

// checkText checks that the Text of n is s and that Read returns n for it.
func checkText(t *testing.T, n uint64, s string) {
	t.Helper()
	if got := Text(n); got != s {
		t.Errorf("Text(%#x): %q, not %q", n, got, s)
	}
	if got, is := Read(s); got != n || !is {
		t.Errorf("Read(%q): %#x, %v", s, got, is)
	}
}

// P9.1: the texts of some numbers.
func TestTextTable(t *testing.T) {
	for _, c := range []struct {
		n uint64
		s string
	}{
		{0, "0000000000000000"},
		{1, "0000000000000001"},
		{9, "0000000000000009"},
		{10, "000000000000000a"},
		{15, "000000000000000f"},
		{16, "0000000000000010"},
		{255, "00000000000000ff"},
		{math.MaxInt64, "7fffffffffffffff"},
		{math.MaxInt64 + 1, "8000000000000000"},
		{math.MaxUint64 - 1, "fffffffffffffffe"},
		{math.MaxUint64, "ffffffffffffffff"},
		{0x0123456789abcdef, "0123456789abcdef"},
		{0xfedcba9876543210, "fedcba9876543210"},
		{0x9E3779B97F4A7C15, "9e3779b97f4a7c15"},
	} {
		checkText(t, c.n, c.s)
	}
}

// P9.1: every digit at every place, before and behind zeros and before and behind
// others.
func TestTextDigits(t *testing.T) {
	const digits = "0123456789abcdef"
	for place := range 16 {
		for d := range 16 {
			for _, other := range []int{0, 7, 15} {
				l := slices.Repeat([]byte{digits[other]}, 16)
				l[place] = digits[d]
				var n uint64
				for i := range 16 {
					n *= 16
					if i == place {
						n += uint64(d)
					} else {
						n += uint64(other)
					}
				}
				checkText(t, n, string(l))
			}
		}
	}
}

// P9.1: random numbers, and those that lie next to a power of two.
func TestTextAgainstSecond(t *testing.T) {
	for i := range 64 {
		for d := range uint64(3) {
			n := uint64(1)<<i + d - 1
			checkText(t, n, fmt.Sprintf("%016x", n))
		}
	}
	r := rand.New(rand.NewSource(3))
	for range 20000 {
		n := r.Uint64() >> r.Intn(64)
		checkText(t, n, fmt.Sprintf("%016x", n))
	}
}

// read is a second Read: by its words, the number whose Text is s.
func read(s string) (uint64, bool) {
	n, err := strconv.ParseUint(s, 16, 64)
	if err != nil || fmt.Sprintf("%016x", n) != s {
		return 0, false
	}
	return n, true
}

// checkRead holds Read(s) against read(s) and reports what that says.
func checkRead(t *testing.T, s string) bool {
	t.Helper()
	want, is := read(s)
	if n, got := Read(s); n != want || got != is {
		t.Errorf("Read(%q): %#x, %v, not %#x, %v", s, n, got, want, is)
	}
	return is
}

// P9.1: strings that are no Texts.
func TestReadNone(t *testing.T) {
	for _, s := range []string{
		"", "0", "1", "f", "00000000", "000000000000000", "00000000000000000", "fffffffffffffffff", "10000000000000000",
		"123456789abcdef", "00123456789abcdef", "0000000000000000 ", " 0000000000000000", "000000000000000 ", " 000000000000000",
		"0000000000000000\n", "000000000000000\n", "\x00000000000000000", "000000000000000\x00", "000000000000000\xff",
		"0x00000000000000", "0x0000000000000000", "0X00000000000000", "0X0000000000000000", "x000000000000000", "#000000000000000",
		"+000000000000000", "-000000000000000", "-000000000000001", "0000_0000_0000_0", "0_00000000000000", "00000000.0000000", "0000000000000e+1",
		"FFFFFFFFFFFFFFFF", "DEADBEEF01234567", "deadBeef01234567", "000000000000000A", "A000000000000000", "fffffffffffffffF",
		"000000000000000g", "g000000000000000", "000000000000000/", "000000000000000:", "000000000000000`", "000000000000000@",
		"0000000\u00e90000000",       // 16 bytes
		"0000000000\uff110000000000", // 23 bytes, a digit of another kind
		"000000\uff1100000000",       // 17 bytes
		"000000\uff110000000",        // 16 bytes
		"00000000\u0660000000",       // 16 bytes
		"\u00e9\u00e9\u00e9\u00e9\u00e9\u00e9\u00e9\u00e9",
		strings.Repeat("\u00e9", 16),
		strings.Repeat("\xff", 16),
		strings.Repeat("\xb0", 16), // '0' with the bit of 128
		strings.Repeat("\x00", 16),
		strings.Repeat("z", 16),
		"0000000000000000" + "0000000000000000",
	} {
		if n, is := Read(s); n != 0 || is {
			t.Errorf("Read(%q): %#x, %v", s, n, is)
		}
		if checkRead(t, s) {
			t.Errorf("%q is read", s)
		}
	}
}

// P9.1: every byte of a Text changed into every other, or left out, or with every
// other ahead of it.
func TestReadEveryByte(t *testing.T) {
	for _, s := range []string{"0000000000000000", "ffffffffffffffff", "0123456789abcdef", "fedcba9876543210", "8000000000000001"} {
		found := 0
		for i := range len(s) + 1 {
			if i < len(s) {
				checkRead(t, s[:i]+s[i+1:])
			}
			for x := range 256 {
				checkRead(t, s[:i]+string([]byte{byte(x)})+s[i:])
				if i < len(s) && checkRead(t, s[:i]+string([]byte{byte(x)})+s[i+1:]) {
					found++
				}
			}
		}
		if found != 16*16 {
			t.Errorf("%d of the changed %q are read", found, s)
		}
	}
}

// P9.1: strings of every length, of pieces that a number may be written with.
func TestReadAgainstSecond(t *testing.T) {
	pieces := []string{"0", "00", "1", "7", "9", "a", "c", "f", "A", "F", "g", "x", "0x", "_", "+", "-", " ", "\n", "\x00", "\xff", "\u00e9"}
	r := rand.New(rand.NewSource(4))
	found := 0
	for range 50000 {
		choice := pieces[:8]
		if r.Intn(2) == 0 {
			choice = pieces
		}
		n := r.Intn(24)
		if r.Intn(2) == 0 {
			n = 16
		}
		var s string
		for len(s) < n {
			s += choice[r.Intn(len(choice))]
		}
		if checkRead(t, s) {
			found++
		}
	}
	if found < 1000 {
		t.Errorf("only %d are read", found)
	}
}

// bytesOf are the bytes of the numbers of l, each with its most significant byte first.
func bytesOf(l ...uint64) []byte {
	var b []byte
	for _, n := range l {
		b = binary.BigEndian.AppendUint64(b, n)
	}
	return b
}

// checkPair holds Pair(a, b) against a second computation.
func checkPair(t *testing.T, a, b uint64) {
	t.Helper()
	if got, want := Pair(a, b), sumOf(bytesOf(a, b)); got != want {
		t.Errorf("Pair(%#x, %#x): %016x, not %016x", a, b, got, want)
	}
	if Pair(a, b) != Sum(bytesOf(a, b)) {
		t.Errorf("Pair(%#x, %#x) is not the Sum of the bytes", a, b)
	}
}

// P9.2: the pairs of some numbers, computed by another program.
func TestPairTable(t *testing.T) {
	for _, c := range []struct{ a, b, want uint64 }{
		{0, 0, 0x9e367dcdf4922829},
		{1, 0, 0xaf5a3c4d15149bbf},
		{0, 1, 0xd4317b751730bdfc},
		{math.MaxUint64, math.MaxUint64, 0xedf4e204db04511d},
		{0x0102030405060708, 0x090a0b0c0d0e0f10, 0xfa85eda7d4673103},
		{0x090a0b0c0d0e0f10, 0x0102030405060708, 0x6ca2bfbc9a9b73b8},
		{1 << 63, 0, 0x6bdec67a25e307de},
		{0, 1 << 63, 0x8399b7f0c674aec6},
	} {
		if got := Pair(c.a, c.b); got != c.want {
			t.Errorf("Pair(%#x, %#x): %016x, not %016x", c.a, c.b, got, c.want)
		}
		checkPair(t, c.a, c.b)
	}
	if got, want := Pair(0x6162636465666768, 0x696a6b6c6d6e6f70), Sum([]byte("abcdefghijklmnop")); got != want {
		t.Errorf("the Pair of the numbers of \"abcdefghijklmnop\": %016x, not %016x", got, want)
	}
}

// P9.2: every bit of both numbers, and random numbers.
func TestPairAgainstSecond(t *testing.T) {
	r := rand.New(rand.NewSource(5))
	for i := range 64 {
		a, b := r.Uint64(), r.Uint64()
		checkPair(t, 1<<i, 0)
		checkPair(t, 0, 1<<i)
		checkPair(t, 1<<i, 1<<i)
		checkPair(t, a^1<<i, b)
		checkPair(t, a, b^1<<i)
	}
	for range 3000 {
		checkPair(t, r.Uint64()>>r.Intn(64), r.Uint64()>>r.Intn(64))
	}
}

// P9.2: the roots of some lists, computed by another program.
func TestRootTable(t *testing.T) {
	const most = math.MaxUint64
	for _, c := range []struct {
		l    []uint64
		want uint64
	}{
		{nil, 0x9e3779bd8ef1b1de},
		{[]uint64{}, 0x9e3779bd8ef1b1de},
		{[]uint64{0}, 0x67a46c84d23578ed},
		{[]uint64{1}, 0x9d9f6a364c54ed47},
		{[]uint64{0, 0}, 0x1be30f071dbbe32b},
		{[]uint64{1, 2}, 0x8efe33b6e164d763},
		{[]uint64{2, 1}, 0xab2ef7eb6cd485b9},
		{[]uint64{1, 2, 3}, 0xce3d17baf6e54184},
		{[]uint64{most}, 0xb037efa5a46a98c2},
		{[]uint64{most, 0, most}, 0x86d1da9484ed0f1e},
		{[]uint64{1 << 63, 1 << 32, 1 << 31}, 0xc1098f5193cf1de9},
	} {
		if got := Root(c.l); got != c.want {
			t.Errorf("Root(%#x): %016x, not %016x", c.l, got, c.want)
		}
	}
}

// P9.2: the root of a list is the Pair of that of all but its last number and of the
// last number.
func TestRootSteps(t *testing.T) {
	r := rand.New(rand.NewSource(6))
	for range 200 {
		var l []uint64
		want := sumOf(nil)
		for range r.Intn(80) {
			n := r.Uint64() >> r.Intn(64)
			l = append(l, n)
			was := want
			want = sumOf(bytesOf(was, n))
			if got := Root(l); got != want || got != Pair(was, n) {
				t.Fatalf("Root(%#x): %016x, not %016x", l, got, want)
			}
		}
	}
}

// P9.3: slices of one length that differ in one byte only have different Sums: all
// bytes at all places.
func TestOneByte(t *testing.T) {
	r := rand.New(rand.NewSource(7))
	var all [][]byte
	for n := range 40 {
		b := make([]byte, n)
		all = append(all, slices.Clone(b), slices.Repeat([]byte{255}, n))
		for range 3 {
			r.Read(b)
			all = append(all, slices.Clone(b))
		}
	}
	for _, b := range all {
		for i := range b {
			checkOneByte(t, b, i)
		}
	}
	long := make([]byte, 10000)
	r.Read(long)
	for range 50 {
		checkOneByte(t, long, r.Intn(len(long)))
	}
}

// checkOneByte checks that no two values of byte i of b give one Sum.
func checkOneByte(t *testing.T, b []byte, i int) {
	t.Helper()
	b = slices.Clone(b)
	seen := map[uint64]int{}
	for x := range 256 {
		b[i] = byte(x)
		h := Sum(b)
		if y, is := seen[h]; is {
			t.Fatalf("%d bytes, with %d and %d at %d, have the Sum %016x", len(b), y, x, i, h)
		}
		seen[h] = x
	}
}

// R4 for P9.1 and P9.2: arguments stay as they are, with what lies behind them.
func TestArguments(t *testing.T) {
	r := rand.New(rand.NewSource(8))
	for n := range 40 {
		b := make([]byte, n+4)
		r.Read(b)
		was := slices.Clone(b)
		if Sum(b[:n]) != Sum(b[:n]) || !slices.Equal(b, was) {
			t.Errorf("Sum of %d bytes changed them: %x, not %x", n, b, was)
		}
		var l []uint64
		for range n + 4 {
			l = append(l, r.Uint64())
		}
		old := slices.Clone(l)
		if Root(l[:n]) != Root(l[:n]) || !slices.Equal(l, old) {
			t.Errorf("Root of %d numbers changed them: %x, not %x", n, l, old)
		}
	}
}

// R4 for P9.1: each Text is new memory.
func TestTextMemory(t *testing.T) {
	for _, n := range []uint64{0, 1, math.MaxUint64, 0x0123456789abcdef} {
		if a, b := Text(n), Text(n); unsafe.StringData(a) == unsafe.StringData(b) {
			t.Errorf("two calls of Text(%#x) returned one string", n)
		}
	}
}

// R5 for P9.1 and P9.2: several goroutines may call the functions at the same time.
func TestTogether(t *testing.T) {
	b := make([]byte, 1000)
	rand.New(rand.NewSource(9)).Read(b)
	sum, root := Sum(b), Root([]uint64{1, 2, 3})
	wrong := make(chan string)
	for range 8 {
		go func() {
			var told string
			for range 200 {
				n, is := Read(Text(sum))
				if Sum(b) != sum || n != sum || !is || Root([]uint64{1, 2, 3}) != root {
					told = "a result depends on other calls"
				}
			}
			wrong <- told
		}()
	}
	for range 8 {
		if told := <-wrong; told != "" {
			t.Error(told)
		}
	}
}

// R1 for P9.1 and P9.2: arguments of any length take no longer than that explains.
func TestLong(t *testing.T) {
	start := time.Now()
	b := make([]byte, 1<<26)
	b[len(b)-1] = 1
	if Sum(b) == Sum(b[:len(b)-1]) {
		t.Errorf("a last byte does not count")
	}
	l := make([]uint64, 1<<22)
	if Root(l) == Root(l[1:]) {
		t.Errorf("a first number does not count")
	}
	for _, x := range []string{"0", "f", "g", "A", "0x", "\x00", "\xff"} {
		if n, is := Read(strings.Repeat(x, 1<<24)); n != 0 || is {
			t.Errorf("Read of many %q: %#x, %v", x, n, is)
		}
	}
	if d := time.Since(start); d > 20*time.Second {
		t.Errorf("that took %v", d)
	}
}
