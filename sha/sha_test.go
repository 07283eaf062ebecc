package sha_test

import (
	"bytes"
	"crypto/sha256"
	"encoding/hex"
	"slices"
	"strings"
	"testing"

	"newsreel/api"
	"newsreel/sample"
	"newsreel/sha"
)

// known: bytes and their digests, as they are told elsewhere.
var known = []struct{ b, digest string }{
	{"", "e3b0c44298fc1c149afbf4c8996fb92427ae41e4649b934ca495991b7852b855"},
	{"a", "ca978112ca1bbdcafac231b39a23dc4da786eff8147c4e72b9807785afee48bb"},
	{"abc", "ba7816bf8f01cfea414140de5dae2223b00361a396177a9cb410ff61f20015ad"},
	{
		"abcdbcdecdefdefgefghfghighijhijkijkljklmklmnlmnomnopnopq",
		"248d6a61d20638b8e5c026930c3e6039a33ce45964ff2167f6ecedd419db06c1",
	},
	{
		"abcdefghbcdefghicdefghijdefghijkefghijklfghijklmghijklmnhijklmnoijklmnopjklmnopqklmnopqrlmnopqrsmnopqrstnopqrstu",
		"cf5b16a778af8380036ce59e7b0492370b249b11e8f07a51afac45037afee9d1",
	},
	{
		"The quick brown fox jumps over the lazy dog",
		"d7a8fbb307d7809469ca9abcb0082e4f8d5651e46d3cdb762d02d0bf37c9e592",
	},
	{
		strings.Repeat("a", 1000000),
		"cdc76e5c9914fb9281a1c7e284d73e67f1809a48a497200e046d39ccc7112cd0",
	},
}

// edges: how many bytes there are about the end of a block, and about the last
// place where their number still has room behind them.
var edges = []int{0, 1, 3, 4, 54, 55, 56, 57, 62, 63, 64, 65, 66, 118, 119, 120, 121, 127, 128, 129, 183, 184, 191, 192, 193}

// digest: the digest of b, by another hand.
func digest(b []byte) api.Id {
	return sha256.Sum256(b)
}

// P3.1: Sum is the digest of the standard.
func TestSum(t *testing.T) {
	for _, x := range known {
		if got := sha.Sum([]byte(x.b)); hex.EncodeToString(got[:]) != x.digest {
			t.Errorf("Sum of %.20q, %d bytes: %x, not %s", x.b, len(x.b), got, x.digest)
		}
	}
	for n := range 400 {
		for _, b := range [][]byte{sample.Bytes(n, 1), make([]byte, n), bytes.Repeat([]byte{255}, n)} {
			if got := sha.Sum(b); got != digest(b) {
				t.Errorf("Sum of %d bytes: %x, not %x", n, got, digest(b))
			}
		}
	}
	for _, n := range []int{1<<13 - 1, 1 << 13, 1<<16 + 1, 1<<21 + 5} {
		b := sample.Bytes(n, 2)
		if got := sha.Sum(b); got != digest(b) {
			t.Errorf("Sum of %d bytes: %x, not %x", n, got, digest(b))
		}
	}
}

// P3.1: each bit of a block, and of the one behind it, is in the digest.
func TestSumOfEachBit(t *testing.T) {
	seen := map[api.Id]int{sha.Sum(make([]byte, 130)): -1}
	for bit := range 8 * 130 {
		b := make([]byte, 130)
		b[bit/8] = 1 << (bit % 8)
		x := sha.Sum(b)
		if x != digest(b) {
			t.Errorf("Sum with bit %d set: %x, not %x", bit, x, digest(b))
		}
		if other, is := seen[x]; is {
			t.Errorf("Sum with bit %d set is that with bit %d", bit, other)
		}
		seen[x] = bit
	}
}

// P3.1: of no parts, and of parts in which there is nothing, Sum is that of nothing.
func TestSumOfNothing(t *testing.T) {
	empty := sha.New()
	empty.Write(nil)
	empty.Write([]byte{})
	for i, x := range []api.Id{
		sha.Sum(),
		sha.Sum([][]byte{}...),
		sha.Sum([][]byte(nil)...),
		sha.Sum(nil),
		sha.Sum([]byte{}),
		sha.Sum(nil, nil),
		sha.Sum(nil, []byte{}, nil, []byte{}),
		sha.New().Sum(),
		empty.Sum(),
	} {
		if hex.EncodeToString(x[:]) != known[0].digest {
			t.Errorf("Sum of nothing, the %dth way: %x", i, x)
		}
	}
}

// P3.1: the length stands in 64 bits: of more than 2^32 bits the upper ones count.
func TestManyBytes(t *testing.T) {
	part := sample.Bytes(1<<20, 3)
	h, want := sha.New(), sha256.New()
	for range 1<<9 + 1 {
		h.Write(part)
		want.Write(part)
	}
	if x := h.Sum(); !bytes.Equal(x[:], want.Sum(nil)) {
		t.Errorf("Sum of 2^29 bytes and more: %x, not %x", x, want.Sum(nil))
	}
}

// P3.1: Sum tells what was written so far, each time it is asked; more may be
// written then.
func TestWrite(t *testing.T) {
	b := sample.Bytes(500, 4)
	for _, step := range []int{1, 2, 31, 54, 55, 56, 57, 63, 64, 65, 119, 120, 127, 128, 129, 499, 500} {
		h := sha.New()
		for at := 0; at < len(b); at += step {
			end := min(at+step, len(b))
			h.Write(b[at:end])
			for range 3 {
				if x := h.Sum(); x != digest(b[:end]) {
					t.Fatalf("Sum of %d bytes, written by %d: %x, not %x", end, step, x, digest(b[:end]))
				}
			}
		}
	}
}

// P3.1: whether Sum was asked on the way makes no difference to what comes then.
func TestSumOnTheWay(t *testing.T) {
	for _, n := range edges {
		for _, more := range edges {
			b := sample.Bytes(n+more, 5)
			asked, still := sha.New(), sha.New()
			asked.Write(b[:n])
			still.Write(b[:n])
			if x := asked.Sum(); x != digest(b[:n]) {
				t.Errorf("Sum of %d bytes: %x, not %x", n, x, digest(b[:n]))
			}
			asked.Write(b[n:])
			still.Write(b[n:])
			if x, y := asked.Sum(), still.Sum(); x != digest(b) || y != digest(b) {
				t.Errorf("Sum of %d bytes and %d more: asked on the way %x, not asked %x, not %x", n, more, x, y, digest(b))
			}
		}
	}
}

// P3.1, rule 8: two hashes have nothing in common, by turns or one behind another.
func TestHashesApart(t *testing.T) {
	a, b := sample.Bytes(300, 6), sample.Bytes(300, 7)
	x, y, nothing := sha.New(), sha.New(), sha.New()
	for at := 0; at < 300; at += 25 {
		x.Write(a[at : at+25])
		if got := y.Sum(); got != digest(b[:at]) {
			t.Errorf("Sum of %d bytes, another one written to: %x", at, got)
		}
		y.Write(b[at : at+25])
		if got := x.Sum(); got != digest(a[:at+25]) {
			t.Errorf("Sum of %d bytes, another one written to: %x", at+25, got)
		}
		if got := sha.Sum(b[at:], a[:at]); got != digest(slices.Concat(b[at:], a[:at])) {
			t.Errorf("Sum of parts, hashes beside it: %x", got)
		}
	}
	if got := nothing.Sum(); got != digest(nil) {
		t.Errorf("Sum of nothing, others written to: %x", got)
	}
	if got := sha.New().Sum(); got != digest(nil) {
		t.Errorf("Sum of a new one, others written to: %x", got)
	}
}

// P3.3: wherever bytes are cut, Sum of the parts is that of the whole.
func TestParts(t *testing.T) {
	b := sample.Bytes(140, 8)
	want := digest(b)
	for i := range len(b) + 1 {
		for k := i; k <= len(b); k++ {
			if x := sha.Sum(b[:i], b[i:k], b[k:]); x != want {
				t.Fatalf("Sum of parts, cut at %d and %d: %x, not %x", i, k, x, want)
			}
			h := sha.New()
			h.Write(b[:i])
			h.Write(b[i:k])
			h.Write(b[k:])
			if x := h.Sum(); x != want {
				t.Fatalf("Write of parts, cut at %d and %d: %x, not %x", i, k, x, want)
			}
		}
		if x := sha.Sum(nil, b[:i], []byte{}, nil, b[i:], nil); x != want {
			t.Errorf("Sum of parts, cut at %d, nothing between them: %x, not %x", i, x, want)
		}
	}
}

// P3.3: each byte by itself, and parts that grow; in another order they are others.
func TestManyParts(t *testing.T) {
	for _, n := range edges {
		b := sample.Bytes(n, 9)
		var each [][]byte
		for i := range b {
			each = append(each, b[i:i+1])
		}
		if x := sha.Sum(each...); x != digest(b) {
			t.Errorf("Sum of %d bytes, each by itself: %x, not %x", n, x, digest(b))
		}
		slices.Reverse(each)
		back := bytes.Clone(b)
		slices.Reverse(back)
		if x := sha.Sum(each...); x != digest(back) || n > 1 && x == digest(b) {
			t.Errorf("Sum of %d bytes, the last first: %x, not %x", n, x, digest(back))
		}
	}
	h := sha.New()
	var all []byte
	for n := range 200 {
		part := sample.Bytes(n, uint32(n))
		all = append(all, part...)
		h.Write(part)
		if x := h.Sum(); x != digest(all) {
			t.Fatalf("Sum of parts of up to %d bytes: %x, not %x", n, x, digest(all))
		}
	}
}

// P3.2: Text is 64 digits, small letters; Parse is the way back.
func TestText(t *testing.T) {
	rising := api.Id{}
	for i := range rising {
		rising[i] = byte(i * 8)
	}
	for _, x := range []struct {
		id   api.Id
		text string
	}{
		{api.Id{}, strings.Repeat("0", 64)},
		{api.Id{0: 1}, "01" + strings.Repeat("0", 62)},
		{api.Id{0: 0x10}, "1" + strings.Repeat("0", 63)},
		{api.Id{31: 0xaf}, strings.Repeat("0", 62) + "af"},
		{rising, "0008101820283038404850586068707880889098a0a8b0b8c0c8d0d8e0e8f0f8"},
		{digest([]byte("abc")), known[2].digest},
		{api.Id(bytes.Repeat([]byte{255}, 32)), strings.Repeat("f", 64)},
	} {
		if s := sha.Text(x.id); s != x.text {
			t.Errorf("Text of %v: %q, not %q", x.id, s, x.text)
		}
		if id, is := sha.Parse(x.text); !is || id != x.id {
			t.Errorf("Parse of %q: %v, %v", x.text, id, is)
		}
	}
}

// P3.2: each byte at each place, there and back.
func TestTextOfEachByte(t *testing.T) {
	for at := range 32 {
		for c := range 256 {
			id := digest([]byte{byte(at)})
			id[at] = byte(c)
			s := sha.Text(id)
			if s != hex.EncodeToString(id[:]) {
				t.Fatalf("Text of %v: %q", id, s)
			}
			if back, is := sha.Parse(s); !is || back != id {
				t.Fatalf("Parse of %q: %v, %v", s, back, is)
			}
		}
	}
}

// refused: that s is no digest's text, and that nothing is answered beside false.
func refused(t *testing.T, s string) {
	t.Helper()
	if id, is := sha.Parse(s); is || id != (api.Id{}) {
		t.Errorf("Parse of %q: %v, %v", s, id, is)
	}
}

// P3.2: what is shorter or longer is no digest's text.
func TestParseOfOtherLengths(t *testing.T) {
	long := strings.Repeat(known[2].digest, 3)
	for n := range len(long) + 1 {
		if n != 64 {
			refused(t, long[:n])
		}
	}
	text := known[2].digest
	for _, s := range []string{"0", " ", "\n", "\x00", "é"} {
		refused(t, s)
		refused(t, text+s)
		refused(t, s+text)
	}
	refused(t, "0x"+text)
	refused(t, "0x"+text[2:])
}

// P3.2: at each place there is one of sixteen bytes, and no other one.
func TestParseOfOtherSigns(t *testing.T) {
	text := strings.Repeat("5b", 32)
	for at := range text {
		for c := range 256 {
			b := []byte(text)
			b[at] = byte(c)
			if '0' <= c && c <= '9' || 'a' <= c && c <= 'f' {
				if id, is := sha.Parse(string(b)); !is || sha.Text(id) != string(b) {
					t.Fatalf("Parse of %q: %v, %v", b, id, is)
				}
			} else {
				refused(t, string(b))
			}
		}
	}
	refused(t, strings.ToUpper(text))
	refused(t, strings.Repeat("g", 64))
	refused(t, strings.Repeat("é", 32))
	refused(t, text[:62]+"é")
	refused(t, strings.Repeat("５", 21)+"0")
	refused(t, "+"+text[1:])
	refused(t, text[:32]+"_"+text[33:])
}

// P3.2: Less goes by the first byte that differs, bytes without a sign.
func TestLess(t *testing.T) {
	rising := []api.Id{
		{}, {31: 1}, {31: 127}, {31: 128}, {31: 255}, {30: 1}, {30: 1, 31: 255}, {30: 2},
		{15: 1, 16: 255}, {15: 2}, {1: 1}, {1: 255}, {0: 1}, {0: 1, 31: 1}, {0: 127, 1: 255}, {0: 128}, {0: 255},
		api.Id(bytes.Repeat([]byte{255}, 32)),
	}
	for i, a := range rising {
		for k, b := range rising {
			if less := sha.Less(a, b); less != (i < k) {
				t.Errorf("Less of %x and %x: %v", a, b, less)
			}
		}
	}
}

// P3.2: whichever byte it is by which two differ, the bytes behind it don't count;
// no digest is less than itself.
func TestLessAtEachByte(t *testing.T) {
	for at := range 32 {
		low := digest([]byte{byte(at)})
		high := low
		low[at], high[at] = 0x7f, 0x80
		for i := at + 1; i < 32; i++ {
			low[i], high[i] = 255, 0
		}
		if !sha.Less(low, high) || sha.Less(high, low) || sha.Less(low, low) || sha.Less(high, high) {
			t.Errorf("Less of two that differ from byte %d on", at)
		}
	}
	for n := range 100 {
		a, b := digest(sample.Bytes(n, 10)), digest(sample.Bytes(n, 11))
		if sha.Less(a, a) || sha.Less(a, b) != (sha.Text(a) < sha.Text(b)) {
			t.Errorf("Less of %x and %x", a, b)
		}
		last := a
		last[31]++
		if sha.Less(a, last) != (a[31] < last[31]) || sha.Less(last, a) != (last[31] < a[31]) {
			t.Errorf("Less of %x and %x", a, last)
		}
	}
}

// Rule 3: what is handed in stays, the room behind it too.
func TestNothingChanged(t *testing.T) {
	for _, n := range edges {
		room := sample.Bytes(n+70, 12)
		kept := bytes.Clone(room)
		h := sha.New()
		h.Write(room[:n])
		h.Sum()
		h.Write(room[:n/2])
		h.Sum()
		sha.Sum(room[:n], room[:n/2], nil)
		if !bytes.Equal(room, kept) {
			t.Errorf("%d bytes were handed in, and are %x now, not %x", n, room, kept)
		}
	}
	parts := [][]byte{sample.Bytes(3, 1), nil, sample.Bytes(70, 2), sample.Bytes(4, 3)}
	want := [][]byte{sample.Bytes(3, 1), nil, sample.Bytes(70, 2), sample.Bytes(4, 3)}
	sha.Sum(parts[:3]...)
	if !slices.EqualFunc(parts, want, bytes.Equal) {
		t.Errorf("Sum changed its parts to %x", parts)
	}
	a, b := digest(nil), digest([]byte{1})
	sha.Text(a)
	sha.Less(a, b)
	if a != digest(nil) || b != digest([]byte{1}) {
		t.Error("Text or Less changed a digest")
	}
}

// Rule 3: what is handed in isn't kept: that it changes later on changes no digest.
func TestNothingKept(t *testing.T) {
	for _, n := range edges {
		for _, more := range []int{0, 1, 63, 64, 65} {
			room := sample.Bytes(n+more, 13)
			want := digest(room)
			h := sha.New()
			h.Write(room[:n])
			clear(room[:n])
			h.Write(room[n:])
			clear(room)
			if x := h.Sum(); x != want {
				t.Errorf("Sum of %d and %d bytes, cleared then: %x, not %x", n, more, x, want)
			}
		}
	}
}

// Rule 3: what is answered is new: changing it changes no other answer.
func TestAnswersAreNew(t *testing.T) {
	h := sha.New()
	h.Write([]byte("abc"))
	x := h.Sum()
	x[0]++
	if y := h.Sum(); sha.Text(y) != known[2].digest {
		t.Errorf("Sum, an earlier answer changed: %x", y)
	}
	a, b := sha.New(), sha.New()
	a.Write([]byte("abc"))
	if y := b.Sum(); y != digest(nil) || a == b {
		t.Errorf("New, an earlier answer written to: %x", y)
	}
}

// P3.1, P3.2, P3.3, of whatever bytes there are, wherever they are cut.
func FuzzSum(f *testing.F) {
	for _, x := range known[:6] {
		f.Add([]byte(x.b), uint16(3), x.digest)
	}
	f.Fuzz(func(t *testing.T, b []byte, cut uint16, s string) {
		want := digest(b)
		at := int(cut) % (len(b) + 1)
		h := sha.New()
		h.Write(b[:at])
		if x := h.Sum(); x != digest(b[:at]) {
			t.Fatalf("Sum of %x: %x", b[:at], x)
		}
		h.Write(b[at:])
		if x, y := h.Sum(), sha.Sum(b[:at], b[at:]); x != want || y != want {
			t.Fatalf("Sum of %x, cut at %d: %x and %x, not %x", b, at, x, y, want)
		}
		if id, is := sha.Parse(s); is && sha.Text(id) != s {
			t.Fatalf("Parse of %q: %v, whose Text is %q", s, id, sha.Text(id))
		} else if !is && id != (api.Id{}) {
			t.Fatalf("Parse of %q: %v beside false", s, id)
		}
		if id, is := sha.Parse(sha.Text(want)); !is || id != want {
			t.Fatalf("Parse of the Text of %x: %x, %v", want, id, is)
		}
	})
}
