package frame_test

import (
	"encoding/binary"
	"fmt"
	"hash/crc32"
	"math"
	"math/rand"
	"slices"
	"strings"
	"testing"

	"postroom/api"
	"postroom/frame"
)

const most = 2000

var castagnoli = crc32.MakeTable(crc32.Castagnoli)

func number(n uint64) string { return string(binary.AppendUvarint(nil, n)) }

func sum(s string) string {
	return string(binary.LittleEndian.AppendUint32(nil, crc32.Checksum([]byte(s), castagnoli)))
}

// written is a frame's bytes by the words, whatever the body is.
func written(seq uint64, body string) string {
	return number(uint64(len(body))) + number(seq) + sum(number(seq)+body) + body
}

func of(seq uint64, body string) frame.Frame {
	return frame.Frame{Seq: seq, Body: body, Size: len(written(seq, body))}
}

// beginning finds the frame that s begins with by trying each length and each size of the number.
func beginning(s string) (frame.Frame, bool) {
	for many := range most + 1 {
		front := number(uint64(many))
		if !strings.HasPrefix(s, front) {
			continue
		}
		for size := 1; size <= min(binary.MaxVarintLen64, len(s)-len(front)-4-many); size++ {
			seq, _ := binary.Uvarint([]byte(s[len(front):][:size]))
			body := s[len(front)+size+4:][:many]
			if f := written(seq, body); strings.HasPrefix(s, f) {
				return frame.Frame{Seq: seq, Body: body, Size: len(f)}, true
			}
		}
	}
	return frame.Frame{}, false
}

func rightNumbers() []uint64 {
	out := []uint64{0, 5, 300, math.MaxUint64}
	for i := 7; i < 64; i += 7 { // where a number has a byte more
		out = append(out, 1<<i-1, 1<<i)
	}
	return out
}

func rightBodies() []string {
	all := make([]byte, 256)
	for i := range all {
		all[i] = byte(i)
	}
	return []string{
		"", "a", "ab", "\x00", "\x00\x00\x00\x00", "\xff", "\x80", "\xff\xff\xff\xff", "é", string(all),
		strings.Repeat("x", 127), strings.Repeat("x", 128), strings.Repeat("\x00", most-1), strings.Repeat("y", most),
		written(5, "ab"), written(5, "ab") + written(6, ""), // frames within one
	}
}

func mustPut(t *testing.T, seq uint64, body string) string {
	t.Helper()
	s, e := frame.Put(seq, body)
	if e != api.OK {
		t.Fatalf("Put(%d, %.20q): %v", seq, body, e)
	}
	return s
}

// told is short, as bodies may be long, and no text.
func told(l ...frame.Frame) string {
	var out strings.Builder
	for _, f := range l {
		fmt.Fprintf(&out, "{%d %.20q %d}", f.Seq, f.Body, f.Size)
	}
	return fmt.Sprintf("%.200s", out.String())
}

func noFirst(t *testing.T, s string) {
	t.Helper()
	if f, e := frame.First(s); f != (frame.Frame{}) || e != api.ErrForm {
		t.Errorf("First(%.40q): %s, %v", s, told(f), e)
	}
	if l, n := frame.Scan(s); len(l) != 0 || n != 0 {
		t.Errorf("Scan(%.40q): %s, %d", s, told(l...), n)
	}
}

func isFirst(t *testing.T, s string, want frame.Frame) {
	t.Helper()
	if f, e := frame.First(s); f != want || e != api.OK {
		t.Errorf("First(%.40q): %s, %v, not %s", s, told(f), e, told(want))
	}
}

func scans(t *testing.T, s string, size int, want ...frame.Frame) {
	t.Helper()
	if l, n := frame.Scan(s); !slices.Equal(l, want) || n != size {
		t.Errorf("Scan(%.40q): %s, %d, not %s, %d", s, told(l...), n, told(want...), size)
	}
}

func TestF1PutWrittenOut(t *testing.T) {
	for _, c := range []struct {
		seq  uint64
		body string
		s    string
	}{
		{5, "ab", "\x02\x05\xfa\xcb\x38\x48ab"},
		{'1', "23456789", "\x08\x31\x83\x92\x06\xe323456789"}, // of which 0xE3069283 is the sum
		{0, "", "\x00\x00\x51\x53\x7d\x52"},
	} {
		if s := mustPut(t, c.seq, c.body); s != c.s || written(c.seq, c.body) != c.s {
			t.Errorf("Put(%d, %q) = %q, not %q", c.seq, c.body, s, c.s)
		}
	}
}

func TestF1PutIsAsTheWordsSay(t *testing.T) {
	for _, seq := range rightNumbers() {
		for _, body := range rightBodies() {
			if s := mustPut(t, seq, body); s != written(seq, body) {
				t.Errorf("Put(%d, %.20q) = %.40q", seq, body, s)
			}
		}
	}
	for size := range most + 1 {
		body := strings.Repeat("z", size)
		if s := mustPut(t, 9, body); s != written(9, body) {
			t.Errorf("Put of %d bytes", size)
		}
	}
}

func TestF1LongBody(t *testing.T) {
	if api.MaxBody != most {
		t.Error(api.MaxBody)
	}
	for _, size := range []int{most + 1, most + 2, 2 * most, 1 << 14, 1 << 16, 1<<16 + 1, 1 << 20} {
		body := strings.Repeat("y", size)
		for _, seq := range []uint64{0, 1, math.MaxUint64} {
			if s, e := frame.Put(seq, body); s != "" || e != api.ErrLong {
				t.Errorf("Put of %d bytes: %.20q, %v", size, s, e)
			}
			if n := frame.Size(seq, body); n != 0 {
				t.Errorf("Size of %d bytes: %d", size, n)
			}
			noFirst(t, written(seq, body))
		}
	}
}

func TestF1SizeIsWhatPutTells(t *testing.T) {
	for _, seq := range rightNumbers() {
		for _, body := range rightBodies() {
			if n := frame.Size(seq, body); n != len(mustPut(t, seq, body)) || n != len(written(seq, body)) {
				t.Errorf("Size(%d, %.20q) = %d", seq, body, n)
			}
		}
	}
	for _, c := range []struct {
		seq  uint64
		many int
		size int
	}{
		{0, 0, 6}, {127, 0, 6}, {128, 0, 7}, {0, 127, 1 + 1 + 4 + 127}, {0, 128, 2 + 1 + 4 + 128},
		{math.MaxUint64, 0, 1 + 10 + 4}, {math.MaxUint64, most, 2 + 10 + 4 + most}, {0, most, 2 + 1 + 4 + most}, {0, most + 1, 0},
	} {
		if n := frame.Size(c.seq, strings.Repeat("b", c.many)); n != c.size {
			t.Errorf("Size(%d, %d bytes) = %d, not %d", c.seq, c.many, n, c.size)
		}
	}
}

func TestF1FirstLeavesWhatIsBehind(t *testing.T) {
	behind := []string{"", "\x00", "\xff", "zz", strings.Repeat("\x80", 20), written(5, "ab"), written(5, "ab")[:7], written(0, "")}
	for _, seq := range rightNumbers() {
		for _, body := range rightBodies() {
			for _, rest := range behind {
				isFirst(t, mustPut(t, seq, body)+rest, of(seq, body))
			}
		}
	}
}

func TestF1FirstCutOff(t *testing.T) {
	noFirst(t, "")
	for _, seq := range rightNumbers() {
		for _, body := range []string{"", "a", "ab", "\x00\x00", strings.Repeat("x", 128)} {
			s := mustPut(t, seq, body)
			for i := range s {
				noFirst(t, s[:i])
			}
		}
	}
	s := mustPut(t, math.MaxUint64, strings.Repeat("\x00", most))
	for i := range s {
		noFirst(t, s[:i])
	}
}

// noNumbers are bytes that are no number's: more groups than n needs, than any has, or cut off.
func noNumbers(n uint64) []string {
	s := number(n)
	last := len(s) - 1
	longer := s[:last] + string([]byte{s[last] | 0x80})
	return []string{
		longer + "\x00", longer + "\x80\x00", longer + "\x80\x80\x80\x00",
		"\xff\xff\xff\xff\xff\xff\xff\xff\xff\x02", "\xff\xff\xff\xff\xff\xff\xff\xff\xff\x81\x01", strings.Repeat("\x80", 20) + "\x01",
	}
}

func TestF1FirstOfNoNumber(t *testing.T) {
	for _, seq := range []uint64{0, 5, 127, 128, 1 << 21} {
		for _, body := range []string{"", "ab", strings.Repeat("x", 128), strings.Repeat("x", most)} {
			isFirst(t, number(uint64(len(body)))+number(seq)+sum(number(seq)+body)+body, of(seq, body))
			for _, none := range noNumbers(uint64(len(body))) {
				noFirst(t, none+number(seq)+sum(number(seq)+body)+body)
			}
			for _, none := range noNumbers(seq) {
				// the sum is right by either: of the bytes that stand there, and of the number's own
				noFirst(t, number(uint64(len(body)))+none+sum(none+body)+body)
				noFirst(t, number(uint64(len(body)))+none+sum(number(seq)+body)+body)
			}
		}
	}
}

func TestF1FirstOfALongLength(t *testing.T) {
	behind := strings.Repeat("\x00", 3*most)
	for _, many := range []uint64{most + 1, most + 2, 1 << 14, 1 << 16, 1<<31 - 1, 1 << 31, 1 << 32, 1<<63 - 1, 1 << 63, 1<<63 + 2, math.MaxUint64 - 3, math.MaxUint64} {
		noFirst(t, number(many))
		noFirst(t, number(many)+behind)
		noFirst(t, number(many)+written(5, "ab")[1:])
		body := behind[:min(many, uint64(len(behind)))]
		noFirst(t, number(many)+number(5)+sum(number(5)+body)+body)
	}
	for _, low := range []uint64{1 << 32, 1 << 63} { // the length of "ab", if some bits of it were lost
		noFirst(t, number(low+2)+written(5, "ab")[1:])
	}
}

func TestF1FirstOfAnotherLength(t *testing.T) {
	const body = "\x00\x00ab\x00\x00"
	s := written(5, body)[1:]
	for many := range uint64(40) {
		if many != uint64(len(body)) {
			noFirst(t, number(many)+s)
			noFirst(t, number(many)+s+strings.Repeat("\x00", 50))
		}
	}
}

func TestF1FirstOfAnotherSum(t *testing.T) {
	of := func(s string) string { return number(2) + number(5) + s + "ab" }
	right := sum("\x05ab")
	isFirst(t, of(right), frame.Frame{Seq: 5, Body: "ab", Size: 8})
	turned := []byte(right)
	slices.Reverse(turned)
	flipped := []byte(right)
	for i := range flipped {
		flipped[i] ^= 0xff
	}
	for _, wrong := range []string{
		"\x00\x00\x00\x00", "\xff\xff\xff\xff", string(turned), string(flipped),
		sum("ab"), sum("ab\x05"), sum("\x02\x05ab"), sum("\x05\x02ab"), sum("\x05"), sum("\x05ab\x00"), sum("\x05\x00\x00\x00\x00\x00\x00\x00ab"), sum(""),
	} {
		noFirst(t, of(wrong))
		noFirst(t, of(wrong)+written(5, "ab"))
	}
	for i := range 4 { // each byte of it counts
		for b := range 256 {
			wrong := []byte(right)
			if wrong[i] != byte(b) {
				wrong[i] = byte(b)
				noFirst(t, of(string(wrong)))
			}
		}
	}
}

// The sum is of the number too: a body is not found under another one.
func TestF1FirstOfAnotherNumber(t *testing.T) {
	s := written(5, "ab")
	for seq := range uint64(200) {
		if seq != 5 {
			noFirst(t, s[:1]+number(seq)+s[2:])
		}
	}
}

func TestF2ScanOfNone(t *testing.T) {
	scans(t, "", 0)
	s := written(5, "ab")
	for i := 1; i < len(s); i++ {
		scans(t, s[i:], 0) // begins in the midst of one
		scans(t, s[i:]+s, 0)
		scans(t, s[:i], 0)
		scans(t, s[:i]+s, 0)
	}
	for b := 1; b < 256; b++ {
		scans(t, string([]byte{byte(b)})+s, 0)
	}
}

func TestF2ScanOneBehindTheOther(t *testing.T) {
	a, b, c := written(1, "x"), written(7, ""), written(3, "abc")
	x, y, z := of(1, "x"), of(7, ""), of(3, "abc")
	scans(t, a, 7, x)
	scans(t, b, 6, y)
	scans(t, a+b+c, 22, x, y, z)
	scans(t, c+b+a, 22, z, y, x) // numbers need not rise
	scans(t, c+c+c, 27, z, z, z)
	scans(t, b+b, 12, y, y)
	var all string
	var want []frame.Frame
	for _, seq := range rightNumbers() {
		for _, body := range rightBodies() {
			scans(t, mustPut(t, seq, body), len(written(seq, body)), of(seq, body))
			all += mustPut(t, seq, body)
			want = append(want, of(seq, body))
			scans(t, all, len(all), want...)
		}
	}
}

// A body that holds frames is one body, and frames behind what is none are not looked for.
func TestF2ScanTellsNoMore(t *testing.T) {
	a, b := written(1, "x"), written(7, "ab")
	inner := written(9, a+b)
	scans(t, inner+a, len(inner)+len(a), of(9, a+b), of(1, "x"))
	noneBehind := []string{
		"\x00", "\x01", "\x80", "\xff", "zz", strings.Repeat("\x00", 50), strings.Repeat("\xff", 50), number(most+1) + strings.Repeat("\x00", 3000), written(2, strings.Repeat("x", most+1)),
		b[:len(b)-1], b[1:], "\x82\x00" + b[1:], b[:1] + "\x87\x00" + b[2:], b[:6] + "xb", b[:2] + "\x00\x00\x00\x00" + b[6:],
	}
	for _, none := range noneBehind {
		scans(t, none, 0)
		scans(t, a+none, len(a), of(1, "x"))
		scans(t, a+b+none, len(a+b), of(1, "x"), of(7, "ab"))
		scans(t, a+none+b, len(a), of(1, "x"))
		scans(t, a+none+b+a, len(a), of(1, "x"))
	}
}

func TestF3CutOffSomewhere(t *testing.T) {
	var s string
	var all []frame.Frame
	for i, body := range []string{"x", "", "abc", strings.Repeat("\x00", 130), "", written(1, "x"), "\xff\xff"} {
		seq := uint64(i) * 100
		s += mustPut(t, seq, body)
		all = append(all, of(seq, body))
	}
	whole, size := 0, 0
	for i := range len(s) + 1 {
		if whole < len(all) && i == size+all[whole].Size {
			size += all[whole].Size
			whole++
		}
		scans(t, s[:i], size, all[:whole]...)
	}
	if whole != len(all) || size != len(s) {
		t.Error(whole, size)
	}
}

func turned(s string, bit int) string {
	b := []byte(s)
	b[bit/8] ^= 1 << (bit % 8)
	return string(b)
}

func TestF3OneBitTurned(t *testing.T) {
	ahead, behind := written(8, "ahead"), written(9, "behind")
	for _, seq := range []uint64{0, 5, 127, 128, math.MaxUint64} {
		for _, body := range []string{"", "a", "ab", "\x00\x00\x00", strings.Repeat("x", 128)} {
			s := mustPut(t, seq, body)
			sumAt := len(number(uint64(len(body)))) + len(number(seq))
			for bit := 8 * sumAt; bit < 8*len(s); bit++ {
				noFirst(t, turned(s, bit))
				scans(t, ahead+turned(s, bit)+behind, len(ahead), of(8, "ahead"))
			}
		}
	}
}

func TestF3OneBitTurnedOfTheLongest(t *testing.T) {
	s := mustPut(t, 5, strings.Repeat("\xff", most))
	for bit := 8 * 3; bit < 8*len(s); bit++ {
		if f, e := frame.First(turned(s, bit)); f != (frame.Frame{}) || e != api.ErrForm {
			t.Errorf("bit %d: %v", bit, e)
		}
	}
}

func TestWhatWasPutIsFirst(t *testing.T) {
	r := rand.New(rand.NewSource(6))
	for range 2000 {
		body := make([]byte, r.Intn(1+most>>r.Intn(11)))
		r.Read(body)
		seq := r.Uint64() >> r.Intn(64)
		s := mustPut(t, seq, string(body))
		if s != written(seq, string(body)) {
			t.Fatalf("Put(%d, %q) = %q", seq, body, s)
		}
		isFirst(t, s, of(seq, string(body)))
	}
}

// checkScan holds First and Scan against what is found by trying.
func checkScan(t *testing.T, s string) {
	t.Helper()
	var want []frame.Frame
	size := 0
	for {
		f, is := beginning(s[size:])
		if !is {
			noFirst(t, s[size:])
			break
		}
		isFirst(t, s[size:], f)
		if put, e := frame.Put(f.Seq, f.Body); e != api.OK || put != s[size:][:f.Size] {
			t.Errorf("%s is put as %.40q, %v", told(f), put, e)
		}
		want = append(want, f)
		size += f.Size
	}
	scans(t, s, size, want...)
}

// Of frames by chance, whole and damaged: a byte is another one, is gone, or is there twice.
func TestScanByTrying(t *testing.T) {
	r := rand.New(rand.NewSource(7))
	for range 500 {
		var s string
		for range r.Intn(5) {
			body := make([]byte, r.Intn(6))
			r.Read(body)
			s += written(r.Uint64()>>r.Intn(64), string(body))
		}
		checkScan(t, s)
		if s == "" {
			continue
		}
		i := r.Intn(len(s))
		checkScan(t, s[:i]+string([]byte{byte(r.Intn(256))})+s[i+1:])
		checkScan(t, s[:i]+s[i+1:])
		checkScan(t, s[:i+1]+s[i:])
	}
}

func FuzzScan(f *testing.F) {
	f.Add("")
	f.Add(written(5, "ab") + written(300, "") + "\x00")
	f.Fuzz(checkScan)
}

// Lists that are answered are new, and nothing is kept from call to call.
func TestListsAreNew(t *testing.T) {
	s := written(1, "x") + written(2, "y") + "z"
	first, _ := frame.Scan(s)
	for i := range first {
		first[i] = frame.Frame{Seq: 77, Body: "written into"}
	}
	_ = append(first, frame.Frame{Seq: 78})
	scans(t, s, 14, of(1, "x"), of(2, "y"))
	noFirst(t, "z")
	scans(t, s, 14, of(1, "x"), of(2, "y"))
}
