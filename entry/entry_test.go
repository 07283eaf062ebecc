package entry_test

import (
	"bytes"
	"crypto/sha256"
	"encoding/binary"
	"encoding/hex"
	"fmt"
	"math"
	"slices"
	"strings"
	"testing"
	"unsafe"

	"newsreel/addr"
	"newsreel/api"
	"newsreel/entry"
	"newsreel/sample"
	"newsreel/text"
)

func rep(s string, n int) string { return strings.Repeat(s, n) }

// long: an address of n bytes in its form.
func long(n int) string { return "http://a/" + rep("x", n-len("http://a/")) }

// cleaned: Clean of e, by another hand: what is wrong is told for each field, and the
// first in order counts.
func cleaned(e api.Entry) (api.Entry, api.Errno) {
	var feed, link, guid, at api.Errno
	e.Feed, feed = addr.Parse(e.Feed)
	if e.Link != "" {
		e.Link, link = addr.Parse(e.Link)
	}
	e.Title, e.Body = text.Cut(e.Title, 120), text.Cut(e.Body, 400)
	e.Guid = text.Clean(e.Guid)
	if e.Guid == "" && e.Link == "" {
		e.Guid = e.Title
	} else if e.Guid == "" {
		e.Guid = e.Link
	}
	if e.Guid == "" {
		guid = api.ErrEmpty
	} else if len([]rune(e.Guid)) > 200 {
		guid = api.ErrBig
	}
	if uint64(e.At) >= 1<<48 {
		at = api.ErrRange
	}
	for _, errno := range []api.Errno{feed, link, guid, at} {
		if errno != api.OK {
			return api.Entry{}, errno
		}
	}
	return e, api.OK
}

// put: texts and a number as bytes, by another hand; they need be none of an entry's.
func put(at uint64, l ...string) []byte {
	var b []byte
	for _, s := range l {
		b = append(binary.AppendUvarint(b, uint64(len(s))), s...)
	}
	return binary.AppendUvarint(b, at)
}

// written: Bytes of e, by another hand, whether e is Right or not.
func written(e api.Entry) []byte {
	return put(uint64(e.At), e.Feed, e.Guid, e.Title, e.Link, e.Body)
}

// taken: num.Take of b, by another hand.
func taken(b []byte) (uint64, int, api.Errno) {
	v, n := binary.Uvarint(b[:min(len(b), 10)])
	switch {
	case n == 0 && len(b) < 10:
		return 0, 0, api.ErrShort
	case n <= 0, n > 1 && b[n-1] == 0:
		return 0, 0, api.ErrForm
	}
	return v, n, api.OK
}

// read: Read of b, by another hand.
func read(b []byte) (api.Entry, api.Errno) {
	var l []string
	rest := b
	for len(l) < 5 {
		size, n, errno := taken(rest)
		if errno != api.OK {
			return api.Entry{}, errno
		}
		rest = rest[n:]
		if size > uint64(len(rest)) {
			return api.Entry{}, api.ErrShort
		}
		l = append(l, string(rest[:size]))
		rest = rest[size:]
	}
	at, n, errno := taken(rest)
	if errno != api.OK {
		return api.Entry{}, errno
	}
	e := api.Entry{Feed: l[0], Guid: l[1], Title: l[2], Link: l[3], Body: l[4], At: int64(at)}
	if c, errno := cleaned(e); errno != api.OK || c != e || n != len(rest) {
		return api.Entry{}, api.ErrForm
	}
	return e, api.OK
}

// check: what all calls answer of e is want and errno.
func check(t *testing.T, e, want api.Entry, errno api.Errno) {
	t.Helper()
	got, n := entry.Clean(e)
	if got != want || n != errno {
		t.Errorf("Clean of %#v: %#v, %d, not %#v, %d", e, got, n, want, errno)
	}
	if right := errno == api.OK && e == want; right {
		checkRight(t, e)
	} else {
		checkWrong(t, e)
	}
	if errno == api.OK {
		if again, n := entry.Clean(want); again != want || n != api.OK {
			t.Errorf("Clean of %#v, which is Clean of %#v: %#v, %d", want, e, again, n)
		}
		checkRight(t, want)
	}
}

// checkRight: e is Right, and is read from what is written of it.
func checkRight(t *testing.T, e api.Entry) {
	t.Helper()
	if !entry.Right(e) {
		t.Errorf("Right of %#v: false", e)
	}
	b := entry.Bytes(e)
	if !bytes.Equal(b, written(e)) {
		t.Errorf("Bytes of %#v: %v", e, b)
	}
	if id := entry.Id(e); id != sha256.Sum256(written(e)) {
		t.Errorf("Id of %#v: %x", e, id)
	}
	if again, errno := entry.Read(b); again != e || errno != api.OK {
		t.Errorf("Read of Bytes of %#v: %#v, %d", e, again, errno)
	}
}

// checkWrong: e isn't Right, has no bytes and no name, and isn't read.
func checkWrong(t *testing.T, e api.Entry) {
	t.Helper()
	if entry.Right(e) {
		t.Errorf("Right of %#v: true", e)
	}
	if b := entry.Bytes(e); len(b) != 0 {
		t.Errorf("Bytes of %#v: %v", e, b)
	}
	if id := entry.Id(e); id != (api.Id{}) {
		t.Errorf("Id of %#v: %x", e, id)
	}
	checkRead(t, written(e), api.Entry{}, api.ErrForm)
}

// checkRead: what Read answers of b is want and errno, and no other bytes are want.
func checkRead(t *testing.T, b []byte, want api.Entry, errno api.Errno) {
	t.Helper()
	e, n := entry.Read(b)
	if e != want || n != errno {
		t.Errorf("Read of %q: %#v, %d, not %#v, %d", b, e, n, want, errno)
	}
	if n == api.OK && !bytes.Equal(entry.Bytes(e), b) {
		t.Errorf("Bytes of Read of %q: %q", b, entry.Bytes(e))
	}
}

// P6.1: entries as they come.
func TestClean(t *testing.T) {
	check(t,
		api.Entry{Feed: "HTTP://News.Example.com:80/feed#top", Guid: " tag:1 \n 2 ", Title: "\tÅngström,  1 x! ", Link: "https://b/x/../é?%7e", Body: "a\r\nb\x00c\u00a0", At: 1700000000000},
		api.Entry{Feed: "http://news.example.com/feed", Guid: "tag:1 2", Title: "Ångström, 1 x!", Link: "https://b/%C3%A9?~", Body: "a bc", At: 1700000000000}, api.OK)
	full := api.Entry{Feed: "http://a/", Guid: "g", Title: "T", Link: "https://b/x", Body: "B b", At: 5}
	check(t, full, full, api.OK)
	check(t, api.Entry{Feed: "http://a", Guid: "g"}, api.Entry{Feed: "http://a/", Guid: "g"}, api.OK)
	// A Guid that looks like an address is a text all the same.
	check(t, api.Entry{Feed: "http://a/", Guid: "HTTP://B:80#x", Link: "HTTP://B:80#x"}, api.Entry{Feed: "http://a/", Guid: "HTTP://B:80#x", Link: "http://b/"}, api.OK)
	check(t, api.Entry{}, api.Entry{}, api.ErrAddr)
}

// P6.1: Feed and Link: no address, one whose form is too long, one that isn't in its
// form, none at all; the Feed is told first.
func TestAddresses(t *testing.T) {
	for _, x := range []struct {
		s, form    string
		feed, link api.Errno
	}{
		{"http://a/", "http://a/", api.OK, api.OK},
		{"HTTPS://A.b:443", "https://a.b/", api.OK, api.OK},
		{"http://a/x/./y/..?é#k", "http://a/x/?%C3%A9", api.OK, api.OK},
		{long(200), long(200), api.OK, api.OK},
		{long(200) + "#" + rep("x", 99), long(200), api.OK, api.OK},
		{"http://a:80/" + rep("%41", 191), "http://a/" + rep("A", 191), api.OK, api.OK},
		{"", "", api.ErrAddr, api.OK},
		{" ", "", api.ErrAddr, api.ErrAddr},
		{"x", "", api.ErrAddr, api.ErrAddr},
		{" http://a/", "", api.ErrAddr, api.ErrAddr},
		{"http://a/ ", "", api.ErrAddr, api.ErrAddr},
		{"ftp://a/", "", api.ErrAddr, api.ErrAddr},
		{"http://a/\xff", "", api.ErrAddr, api.ErrAddr},
		{"\x00", "", api.ErrAddr, api.ErrAddr},
		{long(300) + "%", "", api.ErrAddr, api.ErrAddr},
		{long(201), "", api.ErrBig, api.ErrBig},
		{"http://a/" + rep("é", 33), "", api.ErrBig, api.ErrBig},
	} {
		want := api.Entry{Feed: x.form, Guid: "g", At: 7}
		if x.feed != api.OK {
			want = api.Entry{}
		}
		check(t, api.Entry{Feed: x.s, Guid: "g", At: 7}, want, x.feed)
		want = api.Entry{Feed: "http://f/", Guid: "g", Link: x.form, At: 7}
		if x.link != api.OK {
			want = api.Entry{}
		}
		check(t, api.Entry{Feed: "http://f", Guid: "g", Link: x.s, At: 7}, want, x.link)
		// Whatever the Link is: what is wrong with the Feed is told.
		check(t, api.Entry{Feed: "x", Guid: "g", Link: x.s}, api.Entry{}, api.ErrAddr)
		check(t, api.Entry{Feed: long(201), Guid: "g", Link: x.s}, api.Entry{}, api.ErrBig)
	}
}

// P6.1: what an entry is named by: Guid, else Link, else Title; each of them filled,
// empty, or with nothing that counts, in all ways.
func TestGuid(t *testing.T) {
	for _, g := range [][2]string{{"", ""}, {" ", ""}, {"\t\r\n\u00a0\u3000", ""}, {"\x00\x7f\u0080", ""}, {" \x01 ", ""}, {"g", "g"}, {" g\t\ti ", "g i"}, {"\xff", "\ufffd"}, {"\x01g", "g"}} {
		for _, l := range [][2]string{{"", ""}, {"http://b/", "http://b/"}, {"HTTP://B:80/x/..#k", "http://b/"}} {
			for _, s := range [][2]string{{"", ""}, {"\u2028 ", ""}, {"\x1f", ""}, {"T", "T"}, {" T\n t ", "T t"}, {"\xc3", "\ufffd"}} {
				e := api.Entry{Feed: "http://a/", Guid: g[0], Title: s[0], Link: l[0], Body: "b"}
				want := api.Entry{Feed: "http://a/", Guid: g[1], Title: s[1], Link: l[1], Body: "b"}
				switch {
				case g[1] != "":
				case l[1] != "":
					want.Guid = l[1]
				case s[1] != "":
					want.Guid = s[1]
				default:
					check(t, e, api.Entry{}, api.ErrEmpty)
					e.At = -1
					check(t, e, api.Entry{}, api.ErrEmpty)
					continue
				}
				check(t, e, want, api.OK)
			}
		}
	}
	// Body names nothing.
	check(t, api.Entry{Feed: "http://a/", Body: "b"}, api.Entry{}, api.ErrEmpty)
	// Title and Link are taken as they are once they are clean and cut.
	check(t, api.Entry{Feed: "http://a/", Title: rep("é", 300)}, api.Entry{Feed: "http://a/", Guid: rep("é", 120), Title: rep("é", 120)}, api.OK)
	check(t, api.Entry{Feed: "http://a/", Title: rep("x", 119) + "  y"}, api.Entry{Feed: "http://a/", Guid: rep("x", 119), Title: rep("x", 119)}, api.OK)
	check(t, api.Entry{Feed: "http://a/", Link: long(200)}, api.Entry{Feed: "http://a/", Guid: long(200), Link: long(200)}, api.OK)
	check(t, api.Entry{Feed: "http://a/", Link: long(201), Title: "T"}, api.Entry{}, api.ErrBig)
	check(t, api.Entry{Feed: "http://a/", Link: "x", Title: "T"}, api.Entry{}, api.ErrAddr)
}

// P6.1: Title and Body are cut at so many runes; a Guid of more is too long.
func TestLimits(t *testing.T) {
	for _, r := range []string{"x", "é", "語", "\U0001f600", "\ufffd", "\xff"} {
		told := strings.ToValidUTF8(r, "\ufffd")
		for _, n := range []int{1, 119, 120, 121, 199, 200, 201, 399, 400, 401, 1000} {
			named := api.Entry{Feed: "http://a/", Guid: "g"}
			e, want := named, named
			e.Title, want.Title = rep(r, n), rep(told, min(n, 120))
			check(t, e, want, api.OK)
			e, want = named, named
			e.Body, want.Body = rep(r, n), rep(told, min(n, 400))
			check(t, e, want, api.OK)
			e, want = named, named
			e.Guid, want.Guid = rep(r, n), rep(told, n)
			if n > 200 {
				check(t, e, api.Entry{}, api.ErrBig)
			} else {
				check(t, e, want, api.OK)
			}
		}
	}
}

// P6.1: white and bare runes at the cut, and around it.
func TestWhiteAtLimits(t *testing.T) {
	for _, white := range []string{" ", "\t\n", "\u3000\x01\u3000"} {
		for _, most := range []int{120, 200, 400} {
			full := rep("é", most)
			for _, y := range [][2]string{
				{full + white, full},
				{white + full, full},
				{white + full + white, full},
				{full + "\x00\u0085", full},
				{rep("é\x7f", most), full},
				{full[2:] + white, full[2:]},
				{full[4:] + white + "y", full[4:] + " y"},
				{"é" + white + full[4:], "é " + full[4:]},
				{rep("é"+white, most/2), rep("é ", most/2-1) + "é"},
			} {
				checkAtLimit(t, most, y[0], y[1], false)
			}
			for _, y := range [][2]string{
				{full + white + "y", full},
				{full[2:] + white + "y", full[2:]},
				{full[2:] + "y" + white + "y", full[2:] + "y"},
				{full[4:] + white + "yy", full[4:] + " y"},
				{white + full + "y", full},
				{rep("é"+white, most/2+1), rep("é ", most/2-1) + "é"},
			} {
				checkAtLimit(t, most, y[0], y[1], true)
			}
		}
	}
}

// checkAtLimit: s in the field of which that is the limit is told as told, unless it is
// a Guid that goes beyond it.
func checkAtLimit(t *testing.T, most int, s, told string, beyond bool) {
	t.Helper()
	e := api.Entry{Feed: "http://a/", Guid: "g", At: 1}
	want := e
	switch most {
	case api.MaxTitle:
		e.Title, want.Title = s, told
	case api.MaxBody:
		e.Body, want.Body = s, told
	case api.MaxGuid:
		e.Guid, want.Guid = s, told
		if beyond {
			check(t, e, api.Entry{}, api.ErrBig)
			return
		}
	}
	check(t, e, want, api.OK)
}

// P6.1: At, from 0 to MaxPhys.
func TestAt(t *testing.T) {
	for _, at := range []int64{0, 1, 127, 128, 1 << 32, api.MaxPhys - 1, api.MaxPhys} {
		e := api.Entry{Feed: "http://a/", Guid: "g", At: at}
		check(t, e, e, api.OK)
	}
	for _, at := range []int64{-1, -2, -api.MaxPhys, math.MinInt64, math.MinInt64 + 1, api.MaxPhys + 1, api.MaxPhys + 2, 1 << 62, math.MaxInt64} {
		check(t, api.Entry{Feed: "http://a/", Guid: "g", At: at}, api.Entry{}, api.ErrRange)
	}
}

// mixed: entries of all ways in which their fields are right, not clean, and wrong.
func mixed() []api.Entry {
	var l []api.Entry
	for _, feed := range []string{"http://a/", "HTTP://A", "x", long(201)} {
		for _, link := range []string{"", "http://b/", "http://b:80", "x", long(201)} {
			for _, guid := range []string{"", " ", "g", " g", rep("é", 200), rep("é", 201), rep("\xff", 201)} {
				for _, title := range []string{"", "\x00", "T", rep("t", 121)} {
					for _, body := range []string{"", "b ", rep("b", 401)} {
						for _, at := range []int64{0, -1, api.MaxPhys + 1} {
							l = append(l, api.Entry{Feed: feed, Guid: guid, Title: title, Link: link, Body: body, At: at})
						}
					}
				}
			}
		}
	}
	return l
}

// P6.1, P6.3: any number of faults at once, for the order in which they are told; Clean
// of what Clean answers is that.
func TestOrder(t *testing.T) {
	seen := map[api.Errno]int{}
	for _, e := range mixed() {
		want, errno := cleaned(e)
		check(t, e, want, errno)
		seen[errno]++
	}
	for _, errno := range []api.Errno{api.OK, api.ErrAddr, api.ErrBig, api.ErrEmpty, api.ErrRange} {
		if seen[errno] == 0 {
			t.Errorf("no entry with %d was tried", errno)
		}
	}
	for _, x := range []struct {
		e     api.Entry
		errno api.Errno
	}{
		{api.Entry{Feed: "x", Link: long(201), At: -1}, api.ErrAddr},
		{api.Entry{Feed: long(201), Link: "x", At: -1}, api.ErrBig},
		{api.Entry{Feed: "http://a/", Link: "x", Guid: rep("g", 201), At: -1}, api.ErrAddr},
		{api.Entry{Feed: "http://a/", Link: long(201), At: -1}, api.ErrBig},
		{api.Entry{Feed: "http://a/", At: -1}, api.ErrEmpty},
		{api.Entry{Feed: "http://a/", Guid: rep("g", 201), At: -1}, api.ErrBig},
		{api.Entry{Feed: "http://a/", Guid: rep("g", 200), At: -1}, api.ErrRange},
	} {
		check(t, x.e, api.Entry{}, x.errno)
	}
}

// P6.2: Bytes and Id, written out.
func TestBytes(t *testing.T) {
	e := api.Entry{Feed: "http://a/", Guid: "g", Title: "Té", Link: "https://b/x", Body: rep("b", 130), At: 300}
	b := slices.Concat(
		[]byte{9}, []byte("http://a/"),
		[]byte{1, 'g'},
		[]byte{3, 'T', 0xc3, 0xa9},
		[]byte{11}, []byte("https://b/x"),
		[]byte{130, 1}, bytes.Repeat([]byte("b"), 130),
		[]byte{172, 2})
	if got := entry.Bytes(e); !bytes.Equal(got, b) {
		t.Errorf("Bytes: %v", got)
	}
	checkRead(t, b, e, api.OK)
	e = api.Entry{Feed: "http://a/", Guid: "g"}
	b = []byte{9, 'h', 't', 't', 'p', ':', '/', '/', 'a', '/', 1, 'g', 0, 0, 0, 0}
	if got := entry.Bytes(e); !bytes.Equal(got, b) {
		t.Errorf("Bytes: %v", got)
	}
	checkRead(t, b, e, api.OK)
	const digest = "3add07ffb2c8ed0c2f466866ab1b584bc42c75b34b26942d17acfb8b7ca50714"
	if id := entry.Id(e); hex.EncodeToString(id[:]) != digest {
		t.Errorf("Id: %x", id)
	}
	// The longest entry there is: each text as long as it may be, in runes of four bytes.
	e = api.Entry{Feed: long(200), Guid: rep("\U0001f600", 200), Title: rep("\U0001f600", 120), Link: long(200), Body: rep("\U0001f600", 400), At: api.MaxPhys}
	check(t, e, e, api.OK)
	if n := len(entry.Bytes(e)); n != 2+200+2+800+2+480+2+200+2+1600+7 {
		t.Errorf("Bytes of the longest entry: %d of them", n)
	}
}

// some: entries that are Right, of short and long texts.
func some() []api.Entry {
	return []api.Entry{
		{Feed: "http://a/", Guid: "g", Title: "T t", Link: "https://b/x", Body: "é", At: 300},
		{Feed: "http://a/", Guid: "g"},
		{Feed: "http://a/", Guid: "g", At: api.MaxPhys},
		{Feed: long(200), Guid: rep("\U0001f600", 200), Title: rep("é", 120), Link: long(199), Body: rep("語", 400), At: 1 << 40},
	}
}

// P6.2: each beginning of an entry's bytes, those bytes and more, each byte of them
// changed.
func TestReadParts(t *testing.T) {
	for _, e := range some() {
		b := entry.Bytes(e)
		checkRead(t, b, e, api.OK)
		for k := range b {
			checkRead(t, b[:k], api.Entry{}, api.ErrShort)
		}
		for c := range 256 {
			checkRead(t, append(bytes.Clone(b), byte(c)), api.Entry{}, api.ErrForm)
		}
		checkRead(t, append(bytes.Clone(b), b...), api.Entry{}, api.ErrForm)
		if len(b) > 300 {
			continue
		}
		for k := range b {
			for c := range 256 {
				changed := bytes.Clone(b)
				changed[k] = byte(c)
				want, errno := read(changed)
				checkRead(t, changed, want, errno)
			}
		}
	}
}

// P6.2: at each place where a number is read: one that isn't so written, one that ends
// too early, one that is greater than what is left.
func TestReadNumbers(t *testing.T) {
	l := []string{"http://a/", "g", "T", "http://b/", "b"}
	for k := range 6 {
		front := put(0, l[:k]...)
		front = front[:len(front)-1]
		tail := slices.Concat(bytes.Repeat([]byte{0}, 5-k), []byte{0})
		for _, x := range []struct {
			b     []byte
			errno api.Errno
		}{
			{nil, api.ErrShort},
			{[]byte{128}, api.ErrShort},
			{bytes.Repeat([]byte{255}, 9), api.ErrShort},
			{bytes.Repeat([]byte{255}, 10), api.ErrForm},
			{bytes.Repeat([]byte{255}, 11), api.ErrForm},
			{append(bytes.Repeat([]byte{255}, 9), 2), api.ErrForm},
			{append(bytes.Repeat([]byte{128}, 9), 0), api.ErrForm},
			{[]byte{128, 0}, api.ErrForm},
			{[]byte{129, 0}, api.ErrForm},
			{[]byte{129, 128, 0}, api.ErrForm},
		} {
			b := slices.Concat(front, x.b)
			checkRead(t, b, api.Entry{}, x.errno)
			if x.errno == api.ErrForm {
				checkRead(t, slices.Concat(b, tail), api.Entry{}, x.errno)
			}
		}
		// The greatest numbers, and those that are one more than there are bytes.
		short := api.ErrShort
		if k == 5 {
			short = api.ErrForm // of At: it is above MaxPhys
		}
		for _, v := range []uint64{1 << 48, 1 << 62, 1<<63 - 1, 1 << 63, 1<<63 + 1, math.MaxUint64 - 9, math.MaxUint64} {
			checkRead(t, binary.AppendUvarint(bytes.Clone(front), v), api.Entry{}, short)
			checkRead(t, append(binary.AppendUvarint(bytes.Clone(front), v), tail...), api.Entry{}, short)
		}
		for n := range 300 {
			if k == 5 {
				break
			}
			b := append(binary.AppendUvarint(bytes.Clone(front), uint64(n+1)), rep("x", n)...)
			checkRead(t, b, api.Entry{}, api.ErrShort)
		}
	}
}

// P6.2: an At above MaxPhys, texts that make no Right entry; what is met first.
func TestReadWrong(t *testing.T) {
	for _, at := range []uint64{api.MaxPhys + 1, 1 << 49, 1<<63 - 1, 1 << 63, math.MaxUint64, math.MaxUint64 - 1} {
		checkRead(t, put(at, "http://a/", "g", "", "", ""), api.Entry{}, api.ErrForm)
		checkRead(t, append(put(at, "http://a/", "g", "", "", ""), 0), api.Entry{}, api.ErrForm)
	}
	for _, l := range [][]string{
		{"", "", "", "", ""}, {"", "g", "", "", ""}, {"x", "g", "", "", ""}, {"http://a", "g", "", "", ""}, {"HTTP://a/", "g", "", "", ""}, {long(201), "g", "", "", ""}, {"http://a/\xff", "g", "", "", ""},
		{"http://a/", "", "", "", ""}, {"http://a/", "", "T", "", ""}, {"http://a/", "", "", "http://b/", ""}, {"http://a/", " ", "", "", ""}, {"http://a/", " g", "", "", ""}, {"http://a/", "g\x00", "", "", ""}, {"http://a/", "\xff", "", "", ""}, {"http://a/", rep("g", 201), "", "", ""},
		{"http://a/", "g", " ", "", ""}, {"http://a/", "g", "T ", "", ""}, {"http://a/", "g", "T\tt", "", ""}, {"http://a/", "g", "\xc3", "", ""}, {"http://a/", "g", rep("é", 121), "", ""},
		{"http://a/", "g", "", "x", ""}, {"http://a/", "g", "", "http://b", ""}, {"http://a/", "g", "", long(201), ""}, {"http://a/", "g", "", " ", ""},
		{"http://a/", "g", "", "", " "}, {"http://a/", "g", "", "", "b  b"}, {"http://a/", "g", "", "", "\u3000"}, {"http://a/", "g", "", "", "\xe2\x82"}, {"http://a/", "g", "", "", rep("é", 401)},
	} {
		b := put(5, l...)
		checkRead(t, b, api.Entry{}, api.ErrForm)
		checkRead(t, append(bytes.Clone(b), 0), api.Entry{}, api.ErrForm)
		// Whether the entry is Right is told only once there is all of it.
		for k := range b {
			checkRead(t, b[:k], api.Entry{}, api.ErrShort)
		}
	}
	// A number that isn't so written comes ahead of an end that is too early, and of At.
	checkRead(t, []byte{128, 0, 200}, api.Entry{}, api.ErrForm)
	checkRead(t, []byte{1, 'x', 128, 0}, api.Entry{}, api.ErrForm)
	checkRead(t, []byte{1, 'x', 5, 128, 0}, api.Entry{}, api.ErrShort)
	checkRead(t, []byte{0, 0, 0, 0, 0}, api.Entry{}, api.ErrShort)
	checkRead(t, []byte{0, 0, 0, 0, 0, 0}, api.Entry{}, api.ErrForm)
	checkRead(t, nil, api.Entry{}, api.ErrShort)
	checkRead(t, []byte{}, api.Entry{}, api.ErrShort)
}

// P6.2: bytes of all kinds.
func TestReadAny(t *testing.T) {
	for n := range 5 {
		for v := range 1 << (4 * n) {
			b := make([]byte, n)
			for i := range b {
				b[i] = []byte{0, 1, 2, 3, 4, 5, 6, 127, 128, 129, 254, 255, 'a', 'h', ' ', '/'}[v>>(4*i)&15]
			}
			want, errno := read(b)
			checkRead(t, b, want, errno)
		}
	}
	for seed := range uint32(20000) {
		b := sample.Bytes(int(seed%40), seed)
		want, errno := read(b)
		checkRead(t, b, want, errno)
	}
}

// P6.3: an entry that came to devices in other words is the same on all of them, and no
// two that are unlike are.
func TestId(t *testing.T) {
	e := api.Entry{Feed: "http://a/x", Guid: "g h", Title: "T t", Link: "http://b/", Body: "B b", At: 9}
	for _, other := range []api.Entry{
		{Feed: "HTTP://A:80/x#k", Guid: " g h", Title: "T\tt", Link: "http://B", Body: "\x00B b", At: 9},
		{Feed: "http://a/y/../x", Guid: "g\u3000h", Title: "T t ", Link: "http://b:80/.", Body: "B\n\nb", At: 9},
	} {
		clean, errno := entry.Clean(other)
		if errno != api.OK || entry.Id(clean) != entry.Id(e) {
			t.Errorf("Id of Clean of %#v: %x", other, entry.Id(clean))
		}
	}
	seen := map[api.Id]api.Entry{}
	for _, e := range []api.Entry{
		e,
		{Feed: "http://a/y", Guid: "g h", Title: "T t", Link: "http://b/", Body: "B b", At: 9},
		{Feed: "http://a/x", Guid: "g", Title: "T t", Link: "http://b/", Body: "B b", At: 9},
		{Feed: "http://a/x", Guid: "g h", Title: "t t", Link: "http://b/", Body: "B b", At: 9},
		{Feed: "http://a/x", Guid: "g h", Title: "T t", Link: "", Body: "B b", At: 9},
		{Feed: "http://a/x", Guid: "g h", Title: "T t", Link: "http://b/", Body: "", At: 9},
		{Feed: "http://a/x", Guid: "g h", Title: "T t", Link: "http://b/", Body: "B b", At: 8},
		// The same bytes, parted otherwise.
		{Feed: "http://a/", Guid: "xg h", Title: "T t", Link: "http://b/", Body: "B b", At: 9},
		{Feed: "http://a/x", Guid: "g", Title: "hT t", Link: "http://b/", Body: "B b", At: 9},
		{Feed: "http://a/x", Guid: "g h", Title: "T thttp://b/", Link: "", Body: "B b", At: 9},
		{Feed: "http://a/x", Guid: "g h", Title: "T t", Link: "http://b/B", Body: "b", At: 9},
		{Feed: "http://a/x", Guid: "g h", Title: "", Link: "http://b/", Body: "T tB b", At: 9},
	} {
		checkRight(t, e)
		id := entry.Id(e)
		if other, is := seen[id]; is || id == (api.Id{}) {
			t.Errorf("Id of %#v is that of %#v: %x", e, other, id)
		}
		seen[id] = e
		if again := entry.Id(e); again != id {
			t.Errorf("Id of %#v: %x, then %x", e, id, again)
		}
	}
}

// overlap: whether a and b lie in the same memory, at least in part.
func overlap(a, b string) bool {
	if a == "" || b == "" {
		return false
	}
	x, y := uintptr(unsafe.Pointer(unsafe.StringData(a))), uintptr(unsafe.Pointer(unsafe.StringData(b)))
	return x < y+uintptr(len(b)) && y < x+uintptr(len(a))
}

// inRoom: e, with all its texts in one room that is the caller's.
func inRoom(e api.Entry) (api.Entry, []byte) {
	room := []byte(e.Feed + e.Guid + e.Title + e.Link + e.Body + " AND MORE")
	rest := room
	for _, s := range []*string{&e.Feed, &e.Guid, &e.Title, &e.Link, &e.Body} {
		*s = unsafe.String(&rest[0], len(*s))
		rest = rest[len(*s):]
	}
	return e, room
}

// Rule 3: what is handed in stays, with what lies behind it, and what Clean and Bytes
// answer is new memory.
func TestNothingChanged(t *testing.T) {
	for _, x := range append(mixed(), some()...) {
		e, room := inRoom(x)
		was := string(room)
		clean, errno := entry.Clean(e)
		entry.Right(e)
		b := entry.Bytes(e)
		id := entry.Id(e)
		if string(room) != was || e != x {
			t.Fatalf("%#v was handed in, and is %q now", x, room)
		}
		all := unsafe.String(&room[0], len(room))
		for _, s := range []string{clean.Feed, clean.Guid, clean.Title, clean.Link, clean.Body, string(id[:])} {
			if overlap(s, all) {
				t.Fatalf("%q was answered of %#v, and lies in it", s, x)
			}
		}
		kept, bytesKept := fmt.Sprintf("%#v", clean), string(b)
		clear(room)
		if fmt.Sprintf("%#v", clean) != kept || string(b) != bytesKept {
			t.Fatalf("what was answered of %#v (%d) changed with it", x, errno)
		}
	}
}

// Rule 3: what is read stays, with what lies behind it, and what Read answers is new
// memory; so is each list that Bytes answers.
func TestNothingShared(t *testing.T) {
	for _, e := range some() {
		b := entry.Bytes(e)
		again := entry.Bytes(e)
		clear(again[:cap(again)])
		if !bytes.Equal(b, written(e)) {
			t.Errorf("Bytes of %#v changed with another answer", e)
		}
		room := append(bytes.Clone(b), "AND MORE"...)
		for k := range b {
			entry.Read(room[:k])
		}
		got, errno := entry.Read(room[:len(b)])
		if string(room) != string(b)+"AND MORE" {
			t.Errorf("%q was handed in, and is %q now", b, room)
		}
		clear(room)
		if got != e || errno != api.OK {
			t.Errorf("what was read of %q changed with it: %#v", b, got)
		}
	}
}

func FuzzClean(f *testing.F) {
	for _, e := range some() {
		f.Add(e.Feed, e.Guid, e.Title, e.Link, e.Body, e.At)
	}
	f.Add("HTTP://A:80", " \x01", "\xff \t", "", "b\u3000", int64(-1))
	f.Add("x", "", "", "", "", int64(math.MaxInt64))
	f.Fuzz(func(t *testing.T, feed, guid, title, link, body string, at int64) {
		for _, feed := range []string{feed, "http://a/"} {
			for _, link := range []string{link, ""} {
				e := api.Entry{Feed: feed, Guid: guid, Title: title, Link: link, Body: body, At: at}
				want, errno := cleaned(e)
				check(t, e, want, errno)
			}
		}
	})
}

func FuzzRead(f *testing.F) {
	for _, e := range some() {
		f.Add(written(e))
	}
	f.Add([]byte{1, 'x', 5, 128, 0})
	f.Fuzz(func(t *testing.T, b []byte) {
		for _, b := range [][]byte{b, append([]byte("\x09http://a/\x01g"), b...)} {
			want, errno := read(b)
			checkRead(t, b, want, errno)
		}
	})
}
