package addr_test

import (
	"fmt"
	"regexp"
	"slices"
	"strings"
	"testing"
	"unicode/utf8"
	"unsafe"

	"newsreel/addr"
	"newsreel/api"
)

const (
	// free: the runes that are told as they are, by their digits or not.
	free = "abcdefghijklmnopqrstuvwxyzABCDEFGHIJKLMNOPQRSTUVWXYZ0123456789-._~"
	// kept: those that are told as they are written, beside these.
	kept = "!$&'()*+,;=:@/"
)

var (
	label  = `[A-Za-z0-9](?:[A-Za-z0-9-]{0,61}[A-Za-z0-9])?`
	whole  = regexp.MustCompile(`(?s)^([Hh][Tt][Tt][Pp][Ss]?)://(` + label + `(?:\.` + label + `)*)(?::([1-9][0-9]{0,4}))?(/[^?#]*)?(\?[^#]*)?(?:#.*)?$`)
	inPart = regexp.MustCompile(`^(?:[a-zA-Z0-9._~!$&'()*+,;=:@/?-]|%[0-9a-fA-F][0-9a-fA-F]|[^\x00-\x7f])*$`)
	digits = regexp.MustCompile(`%[0-9a-fA-F][0-9a-fA-F]`)
)

// parsed: Parse of s, by another hand.
func parsed(s string) (string, api.Errno) {
	l := whole.FindStringSubmatch(s)
	if l == nil || len(l[2]) > 100 || len(l[3]) == 5 && l[3] > "65535" {
		return "", api.ErrAddr
	}
	for _, part := range l[4:] {
		if !utf8.ValidString(part) || !inPart.MatchString(part) {
			return "", api.ErrAddr
		}
	}
	form := strings.ToLower(l[1] + "://" + l[2])
	usual := map[string]string{"http": "80", "https": "443"}[strings.ToLower(l[1])]
	if l[3] != "" && l[3] != usual {
		form += ":" + l[3]
	}
	form += settled(plain(l[4])) + plain(l[5])
	if len(form) > api.MaxAddr {
		return "", api.ErrBig
	}
	return form, api.OK
}

// plain: what stands for the runes of a part, by another hand.
func plain(part string) string {
	part = digits.ReplaceAllStringFunc(part, func(s string) string {
		var b byte
		fmt.Sscanf(s, "%%%02x", &b)
		if strings.ContainsRune(free, rune(b)) {
			return string(rune(b))
		}
		return strings.ToUpper(s)
	})
	var form strings.Builder
	for _, b := range []byte(part) {
		if b < 128 {
			form.WriteByte(b)
		} else {
			fmt.Fprintf(&form, "%%%02X", b)
		}
	}
	return form.String()
}

// settled: the path without "." and "..", by another hand.
func settled(path string) string {
	dots := func(s string) bool { return s == "." || s == ".." }
	l := strings.Split(strings.TrimPrefix(path, "/"), "/")
	if dots(l[len(l)-1]) {
		l = append(l, "")
	}
	for i := slices.IndexFunc(l, dots); i >= 0; i = slices.IndexFunc(l, dots) {
		from := i
		if l[i] == ".." {
			from = max(0, i-1)
		}
		l = slices.Delete(l, from, i+1)
	}
	return "/" + strings.Join(l, "/")
}

// check: what all calls answer of s is form and want.
func check(t *testing.T, s, form string, want api.Errno) {
	t.Helper()
	got, e := addr.Parse(s)
	if got != form || e != want {
		t.Errorf("Parse of %q: %q, %d, not %q, %d", s, got, e, form, want)
	}
	right := want == api.OK && s == form
	if is := addr.Right(s); is != right {
		t.Errorf("Right of %q: %v", s, is)
	}
	host := ""
	if right {
		host = strings.Split(form, "/")[2]
	}
	if got := addr.Host(s); got != host {
		t.Errorf("Host of %q: %q, not %q", s, got, host)
	}
	if want != api.OK {
		return
	}
	if again, e := addr.Parse(got); again != got || e != api.OK || !addr.Right(got) {
		t.Errorf("Parse of %q, which is Parse of %q: %q, %d", got, s, again, e)
	}
}

// forms: each s has that form.
func forms(t *testing.T, l ...[2]string) {
	t.Helper()
	for _, x := range l {
		check(t, x[0], x[1], api.OK)
	}
}

// none: no s is an address.
func none(t *testing.T, l ...string) {
	t.Helper()
	for _, s := range l {
		check(t, s, "", api.ErrAddr)
	}
}

// P5.1: addresses as they come.
func TestParse(t *testing.T) {
	forms(t,
		[2]string{"HTTP://A.b:80/x/../ü?%7e#k", "http://a.b/%C3%BC?~"},
		[2]string{"http://example.com/feed.xml", "http://example.com/feed.xml"},
		[2]string{"https://News.Example.com:8443/a/b/?c=d&e=f#top", "https://news.example.com:8443/a/b/?c=d&e=f"},
		[2]string{"https://example.com", "https://example.com/"},
	)
}

// P5.1: the scheme.
func TestScheme(t *testing.T) {
	forms(t,
		[2]string{"http://a/", "http://a/"},
		[2]string{"https://a/", "https://a/"},
		[2]string{"HTTP://a/", "http://a/"},
		[2]string{"HTTPS://a/", "https://a/"},
		[2]string{"hTtPs://a/", "https://a/"},
		[2]string{"http://http/", "http://http/"},
		[2]string{"http://a/http://b", "http://a/http://b"},
	)
	none(t, "", " ", "a", "a.b", "/", "//", "//a", "://", "://a", ":a", "?", "#", "/a", "?a", "#a",
		"ftp://a/", "httpss://a/", "htt://a/", "ttp://a/", "feed://a/", "http:a", "http:/a", "http//a", "http;//a", "http:\\\\a",
		"http", "https", "http:", "http:/", "http://", "https://", "http:///", "http:////a",
		" http://a/", "http ://a/", "http: //a/", "http:// a/", "\xffhttp://a/", "\ufeffhttp://a/", "x http://a/",
		"httpſ://a/", "http\u212a://a/", "ｈttp://a/", "httpé://a/",
		"ht?tp://a/", "?http://a/", "ht#tp://a/", "#http://a/", "http?://a/", "http#://a/", "http:?//a", "http:/#/a", "http/://a/", "http:http://a/", "a://http://b/",
		"http://a\x00/", "HTTP:", "hTTp:/")
}

// P5.1: the host.
func TestHost(t *testing.T) {
	long := strings.Repeat("a", 63)
	hundred := strings.Repeat("Ab.", 33) + "c"
	forms(t,
		[2]string{"http://EXAMPLE.Com/", "http://example.com/"},
		[2]string{"http://AZ.az.09/", "http://az.az.09/"},
		[2]string{"http://a/", "http://a/"},
		[2]string{"http://Z/", "http://z/"},
		[2]string{"http://0/", "http://0/"},
		[2]string{"http://127.0.0.1/", "http://127.0.0.1/"},
		[2]string{"http://a-b/", "http://a-b/"},
		[2]string{"http://a--b.c-9/", "http://a--b.c-9/"},
		[2]string{"http://xn--bcher-kva.example/", "http://xn--bcher-kva.example/"},
		[2]string{"http://a.b.c.d.e.f/", "http://a.b.c.d.e.f/"},
		[2]string{"http://" + long + "/", "http://" + long + "/"},
		[2]string{"http://x." + long, "http://x." + long + "/"},
		[2]string{"http://" + hundred + "/", "http://" + strings.ToLower(hundred) + "/"},
		[2]string{"http://" + long + "." + strings.Repeat("b", 36) + ":65535?", "http://" + long + "." + strings.Repeat("b", 36) + ":65535/?"},
	)
	none(t, "http:///", "http://?", "http://#", "http://:80", "http:///a", "http://?a", "http://#a", "http://:80/a",
		"http://.", "http://./", "http://..", "http://.a/", "http://a./", "http://a..b/", "http://a.b./", "http://.:80/", "http://a.:80/", "http://a.?", "http://a.#",
		"http://"+long+"a/", "http://x."+long+"a/", "http://"+long+"a.x/", "http://"+hundred+"d/", "http://"+hundred+"d", "http://"+hundred+"d:80", "http://"+hundred+".d/",
		"http://-/", "http://--/", "http://-a/", "http://a-/", "http://a.-b/", "http://a-.b/", "http://a.b-/", "http://-a.b/", "http://a.-/", "http://a-:80/",
		"http://a_b/", "http://a b/", "http://a%62/", "http://%61/", "http://u@a/", "http://u:p@a/", "http://[::1]/", "http://a,b/", "http://*.a/", "http://a~/", "http://a!/", "http://a\\b/", "http://a;b", "http://a&b",
		"http://é/", "http://a\u0130/", "http://\u212a/", "http://a\ufffd/", "http://a。b/", "http://\xff/", "http://a\xff/", "http://a\xc3", "http://\x80a/", "http://a\n", "http://a ", "http://a\x00", "http://a\x7f/")
}

// P5.1: each byte in a host, alone, first, in the middle and last.
func TestEachByteInHost(t *testing.T) {
	for c := range 256 {
		b := string([]byte{byte(c)})
		switch {
		case strings.Contains("abcdefghijklmnopqrstuvwxyz0123456789ABCDEFGHIJKLMNOPQRSTUVWXYZ", b):
			for _, s := range []string{b, b + "x", "x" + b, "x" + b + "x", "x." + b + ".x"} {
				check(t, "http://"+s+"/", "http://"+strings.ToLower(s)+"/", api.OK)
			}
		case b == "-":
			check(t, "http://x-x/", "http://x-x/", api.OK)
			none(t, "http://-/", "http://-x/", "http://x-/", "http://x.-.x/")
		case b == ".":
			check(t, "http://x.x/", "http://x.x/", api.OK)
			none(t, "http://./", "http://.x/", "http://x./", "http://x...x/")
		case b == "/":
			check(t, "http://x/x/", "http://x/x/", api.OK)
			check(t, "http://x//", "http://x//", api.OK)
			none(t, "http:////", "http:///x/")
		case b == "?":
			check(t, "http://x?x/", "http://x/?x/", api.OK)
			check(t, "http://x?/", "http://x/?/", api.OK)
			none(t, "http://?/", "http://?x/")
		case b == "#":
			check(t, "http://x#x/", "http://x/", api.OK)
			none(t, "http://#/", "http://#x/")
		default:
			none(t, "http://"+b+"/", "http://"+b+"x/", "http://x"+b+"/", "http://x"+b+"x/", "http://x."+b+".x/", "http://x"+b)
		}
	}
}

// P5.1: the port.
func TestPort(t *testing.T) {
	for n := range 70000 {
		for _, scheme := range []string{"http", "https"} {
			s := fmt.Sprintf("%s://a:%d", scheme, n)
			usual := scheme == "http" && n == 80 || scheme == "https" && n == 443
			switch {
			case usual:
				check(t, s, scheme+"://a/", api.OK)
			case n >= 1 && n <= 65535:
				check(t, s, s+"/", api.OK)
			default:
				check(t, s, "", api.ErrAddr)
			}
		}
	}
	forms(t,
		[2]string{"http://a:80/", "http://a/"},
		[2]string{"http://a:80?80", "http://a/?80"},
		[2]string{"http://a:80#80", "http://a/"},
		[2]string{"HTTP://A:80", "http://a/"},
		[2]string{"https://a:80/", "https://a:80/"},
		[2]string{"https://a:443/", "https://a/"},
		[2]string{"HTTPS://A:443", "https://a/"},
		[2]string{"http://a:443/", "http://a:443/"},
		[2]string{"http://a:8/", "http://a:8/"},
		[2]string{"http://a:8", "http://a:8/"},
		[2]string{"http://a:8?b", "http://a:8/?b"},
		[2]string{"http://a:8#b", "http://a:8/"},
		[2]string{"http://a:8/:9", "http://a:8/:9"},
		[2]string{"http://a/:", "http://a/:"},
		[2]string{"http://a?:0", "http://a/?:0"},
		[2]string{"http://a#:0", "http://a/"},
		[2]string{"http://80:80", "http://80/"},
	)
	none(t, "http://a:", "http://a:/", "http://a:?", "http://a:#", "http://a:0", "http://a:00", "http://a:08", "http://a:080/", "http://a:00080/", "https://a:0443/",
		"http://a:65536/", "http://a:70000/", "http://a:99999/", "http://a:100000/", "http://a:123456/", "http://a:000080/", "http://a:800000/", "http://a:18446744073709551617/", "http://a:18446744073709551696/", "http://a:"+strings.Repeat("1", 300),
		"http://a:x/", "http://a:8x/", "http://a:x8/", "http://a:+8/", "http://a:-8/", "http://a: 8/", "http://a:8 /", "http://a:8.0/", "http://a:8_0/", "http://a:0x8/", "http://a:1e3/", "http://a:8:/", "http://a:8:9/", "http://a::8/", "http://a:8-/",
		"http://a:%38/", "http://a:８/", "http://a:\u0668/", "http://a:\xff/", "http://a:8\xff/", "http://a:8\x00", "http://a:8@b/", "http://:8@b/", "http://a:b@c/")
}

// P5.1: each byte in a port that isn't its first digit.
func TestEachByteInPort(t *testing.T) {
	for c := range 256 {
		s := "http://a:9" + string([]byte{byte(c)})
		switch {
		case c >= '0' && c <= '9':
			check(t, s, s+"/", api.OK)
		case c == '/':
			check(t, s, s, api.OK)
		case c == '?':
			check(t, s, "http://a:9/?", api.OK)
		case c == '#':
			check(t, s, "http://a:9/", api.OK)
		default:
			check(t, s, "", api.ErrAddr)
		}
	}
}

// P5.1: where the path, the query, and what is left out begin and end.
func TestParts(t *testing.T) {
	forms(t,
		[2]string{"http://a", "http://a/"},
		[2]string{"http://a/", "http://a/"},
		[2]string{"http://a/b", "http://a/b"},
		[2]string{"http://a:9", "http://a:9/"},
		[2]string{"http://a?", "http://a/?"},
		[2]string{"http://a/?", "http://a/?"},
		[2]string{"http://a/b?", "http://a/b?"},
		[2]string{"http://a?b", "http://a/?b"},
		[2]string{"http://a??", "http://a/??"},
		[2]string{"http://a/?b?c/d", "http://a/?b?c/d"},
		[2]string{"http://a??/?/", "http://a/??/?/"},
		[2]string{"http://a/?/../b/./c", "http://a/?/../b/./c"},
		[2]string{"http://a/b/..?.", "http://a/?."},
		[2]string{"http://a/b?..", "http://a/b?.."},
		[2]string{"http://a#", "http://a/"},
		[2]string{"http://a#b", "http://a/"},
		[2]string{"http://a:9#b", "http://a:9/"},
		[2]string{"http://a:80#b", "http://a/"},
		[2]string{"http://a/#b", "http://a/"},
		[2]string{"http://a/b#c", "http://a/b"},
		[2]string{"http://a/b?#c", "http://a/b?"},
		[2]string{"http://a/b?c#d", "http://a/b?c"},
		[2]string{"http://a##", "http://a/"},
		[2]string{"http://a/b#c#d", "http://a/b"},
		[2]string{"http://a/b?c#d#e", "http://a/b?c"},
		[2]string{"http://a#?b", "http://a/"},
		[2]string{"http://a#/b", "http://a/"},
		[2]string{"http://a#:0", "http://a/"},
		[2]string{"http://a/b#?c", "http://a/b"},
		[2]string{"http://a/b#/../c", "http://a/b"},
		[2]string{"http://a# \x00%\xff[é://", "http://a/"},
		[2]string{"http://a/#%", "http://a/"},
		[2]string{"http://a/#%4", "http://a/"},
		[2]string{"http://a/?#\xff", "http://a/?"},
		[2]string{"http://a/..#..", "http://a/"},
	)
	// A path that doesn't begin with "/" would be part of the host or the port.
	none(t, "http://a\\b", "http://a:8b", "http://a:8.", "http://a;b", "http://a=b", "http://a%2Fb", "http://a:8%2F", "http://a:8&b/")
}

// P5.2: each byte in the path and in the query, as it stands.
func TestEachByte(t *testing.T) {
	for c := range 256 {
		b := string([]byte{byte(c)})
		for _, x := range [][2]string{{"", ""}, {"x", "x"}, {"x", ""}, {"", "x"}} {
			for _, ahead := range []string{"http://a/y", "http://a/y?z"} {
				s := ahead + x[0] + b + x[1]
				switch {
				case b == "#":
					check(t, s, ahead+x[0], api.OK)
				case b == "%" || !strings.Contains(free+kept+"?", b):
					check(t, s, "", api.ErrAddr)
				default:
					check(t, s, s, api.OK)
				}
			}
		}
	}
}

// P5.2: each byte in the path and in the query by its two digits, great and small.
func TestEachByteByDigits(t *testing.T) {
	for c := range 256 {
		b := string(rune(c))
		told := fmt.Sprintf("%%%02X", c)
		if strings.Contains(free, b) {
			told = b
		}
		small, great := fmt.Sprintf("%02x", c), fmt.Sprintf("%02X", c)
		for _, two := range []string{small, great, small[:1] + great[1:], great[:1] + small[1:]} {
			for _, ahead := range []string{"http://a/y", "http://a/?z"} {
				for _, x := range [][2]string{{"", ""}, {"x", "x"}, {"41", "41"}, {"%41", "%61"}} {
					s := ahead + x[0] + "%" + two + x[1]
					form := ahead + strings.ReplaceAll(x[0], "%41", "A") + told + strings.ReplaceAll(x[1], "%61", "a")
					check(t, s, form, api.OK)
				}
			}
		}
	}
}

// P5.2: a "%" that hasn't two digits behind it.
func TestDigits(t *testing.T) {
	for _, ahead := range []string{"http://a/", "http://a/x", "http://a/?", "http://a?x", "http://a/%41"} {
		for _, s := range []string{"%", "%4", "%f", "%%", "%%41", "%4%", "%4%41", "%x", "%g1", "%1g", "%G1", "%1G", "%-1", "%+1", "% 1", "%1 ", "%0x", "%:0", "%/0", "%0/", "%0:", "%@0", "%`0", "%é", "%1é", "%４1", "%\xff1", "%1\xff", "%4\x00", "%u0041"} {
			none(t, ahead+s, ahead+s+"x", ahead+s+"#x", ahead+s+"/x")
		}
		none(t, ahead+"%#41", ahead+"%4#1", ahead+"%?41", ahead+"%4?1")
	}
	forms(t,
		[2]string{"http://a/%2541", "http://a/%2541"},
		[2]string{"http://a/%25%34%31", "http://a/%2541"},
		[2]string{"http://a/%252e%252e/x", "http://a/%252e%252e/x"},
		[2]string{"http://a/%c3%BC", "http://a/%C3%BC"},
		[2]string{"http://a/%c3", "http://a/%C3"},
		[2]string{"http://a/%ff%fe", "http://a/%FF%FE"},
		[2]string{"http://a/%3f%23?%3f%23", "http://a/%3F%23?%3F%23"},
		[2]string{"http://a/%21%24%26%27%28%29%2a%2b%2c%3b%3d%3a%40", "http://a/%21%24%26%27%28%29%2A%2B%2C%3B%3D%3A%40"},
	)
}

// P5.2: each rune, in the path and in the query.
func TestEachRune(t *testing.T) {
	for r := rune(128); r <= utf8.MaxRune; r++ {
		if !utf8.ValidRune(r) {
			continue
		}
		// Each of them up to the end of the runes of two bytes, then some of them.
		if r > 0x1000 && r < 0xff00 && r%97 != 0 || r > 0x10100 && r%997 != 0 {
			continue
		}
		told := ""
		for _, b := range []byte(string(r)) {
			told += fmt.Sprintf("%%%02X", b)
		}
		check(t, "http://a/"+string(r), "http://a/"+told, api.OK)
		check(t, "http://a/x?"+string(r)+"x", "http://a/x?"+told+"x", api.OK)
	}
	forms(t,
		[2]string{"http://a/éx", "http://a/%C3%A9x"},
		[2]string{"http://a/xéx", "http://a/x%C3%A9x"},
		[2]string{"http://a/xé", "http://a/x%C3%A9"},
		[2]string{"http://a/\u0080\u07ff", "http://a/%C2%80%DF%BF"},
		[2]string{"http://a/\u0800\ud7ff\ue000\uffff", "http://a/%E0%A0%80%ED%9F%BF%EE%80%80%EF%BF%BF"},
		[2]string{"http://a/\U00010000\U0010ffff", "http://a/%F0%90%80%80%F4%8F%BF%BF"},
		[2]string{"http://a/\ufffd", "http://a/%EF%BF%BD"},
		[2]string{"http://a/\ufffd\ufffdx?\ufffd", "http://a/%EF%BF%BD%EF%BF%BDx?%EF%BF%BD"},
		[2]string{"http://a/．．/x", "http://a/%EF%BC%8E%EF%BC%8E/x"},
		[2]string{"http://a/\u2028?\u00a0", "http://a/%E2%80%A8?%C2%A0"},
		[2]string{"http://a/e\u0301", "http://a/e%CC%81"},
	)
}

// P5.2: bytes that are none of UTF-8.
func TestNoRunes(t *testing.T) {
	bad := []string{"\xff", "\xfe", "\x80", "\xbf", "\xc2", "\xc3", "\xe2", "\xe2\x82", "\xf0\x9f\x98", "\xf0\x9f", "\xc0\xaf", "\xc1\xbf", "\xe0\x80\xaf", "\xed\xa0\x80", "\xed\xbf\xbf", "\xf4\x90\x80\x80", "\xf5\x80\x80\x80", "\xef\xbf", "\xbf\xbd", "\xffü", "\ufffd\xff", "\xff\ufffd", "ü\xc3"}
	for _, b := range bad {
		for _, ahead := range []string{"http://a/", "http://a?", "http://a/ü?é"} {
			none(t, ahead+b, ahead+b+"x", ahead+"x"+b, ahead+"x"+b+"x", ahead+b+"#", ahead+b+"/x", ahead+"x/"+b)
			check(t, ahead+"x#"+b, plainFront(ahead)+"x", api.OK)
		}
		none(t, "http://a/"+b+"?x", "http://a/"+b+"/..")
	}
}

// plainFront: the form of an address's beginning.
func plainFront(s string) string {
	return strings.NewReplacer("http://a?", "http://a/?", "ü", "%C3%BC", "é", "%C3%A9").Replace(s)
}

// P5.2: the path's segments.
func TestSegments(t *testing.T) {
	for _, x := range [][2]string{
		{"", "/"}, {"/", "/"}, {"/b", "/b"}, {"/b/", "/b/"}, {"/b/c", "/b/c"},
		{"/.", "/"}, {"/./", "/"}, {"/./b", "/b"}, {"/b/./c", "/b/c"}, {"/b/.", "/b/"}, {"/b/./", "/b/"}, {"/././.", "/"}, {"/b/./.", "/b/"}, {"/./.b", "/.b"},
		{"/..", "/"}, {"/../", "/"}, {"/../b", "/b"}, {"/b/../c", "/c"}, {"/b/..", "/"}, {"/b/../", "/"}, {"/b/c/..", "/b/"}, {"/b/c/../", "/b/"}, {"/b/c/../d", "/b/d"},
		{"/b/c/../..", "/"}, {"/b/c/../../", "/"}, {"/b/c/../../d", "/d"}, {"/b/c/d/../../e", "/b/e"}, {"/b/../c/../d", "/d"}, {"/b/./../c", "/c"}, {"/b/../.", "/"}, {"/b/./..", "/"}, {"/b/c/./..", "/b/"}, {"/b/c/../.", "/b/"},
		{"/../..", "/"}, {"/../../b", "/b"}, {"/b/../..", "/"}, {"/b/../../c", "/c"}, {"/b/../../../c/d", "/c/d"}, {"/b/c/../../../../d/..", "/"}, {"/../b/..", "/"}, {"/./../.", "/"}, {"/.././..", "/"},
		{"//", "//"}, {"///", "///"}, {"//b", "//b"}, {"/b//", "/b//"}, {"/b//c", "/b//c"}, {"//..", "/"}, {"//../", "/"}, {"///..", "//"}, {"//../b", "/b"}, {"///../b", "//b"}, {"/b//..", "/b/"}, {"/b//../c", "/b/c"}, {"/b//../../c", "/c"}, {"/..//", "//"}, {"/..//b", "//b"}, {"/.//", "//"}, {"/.//b", "//b"}, {"//.", "//"}, {"//./b", "//b"}, {"/b/..//c", "//c"}, {"/b/../..//", "//"},
		{"/%2e", "/"}, {"/%2E%2e", "/"}, {"/b/%2e%2E/c", "/c"}, {"/b/.%2e", "/"}, {"/b/%2e./c", "/c"}, {"/b/%2e/c", "/b/c"}, {"/b/c/%2E%2E", "/b/"}, {"/b/%2e%2e%2e", "/b/..."},
		{"/...", "/..."}, {"/b/.../c", "/b/.../c"}, {"/.b", "/.b"}, {"/b.", "/b."}, {"/..b/c", "/..b/c"}, {"/b../c", "/b../c"}, {"/b/..c/.d./e", "/b/..c/.d./e"}, {"/....", "/...."},
		{"/b%2F../c", "/b%2F../c"}, {"/b/..%2fc", "/b/..%2Fc"}, {"/%2f/..", "/"}, {"/b%2fc/../d", "/d"}, {"/é/..", "/"}, {"/x/é/../y", "/x/y"}, {"/..;b/.;c", "/..;b/.;c"},
	} {
		for _, behind := range []string{"", "?", "?..", "?b/../c/.", "?%2e%2E/."} {
			told := strings.NewReplacer("%2e", ".", "%2E", ".").Replace(behind)
			check(t, "http://a"+x[0]+behind, "http://a"+x[1]+told, api.OK)
			check(t, "HTTPS://a:9"+x[0]+behind+"#/..", "https://a:9"+x[1]+told, api.OK)
		}
	}
}

// P5.1: MaxAddr is of the form, and an address that is none is told first.
func TestBig(t *testing.T) {
	rep := strings.Repeat
	for _, x := range []struct {
		s    string
		form string
	}{
		{"http://a/" + rep("x", 191), "http://a/" + rep("x", 191)},
		{"https://a/" + rep("x", 190), "https://a/" + rep("x", 190)},
		{"http://a:81/" + rep("x", 188), "http://a:81/" + rep("x", 188)},
		{"http://a:80/" + rep("x", 191), "http://a/" + rep("x", 191)},
		{"http://a?" + rep("x", 190), "http://a/?" + rep("x", 190)},
		{"http://a/" + rep("x", 191) + "#" + rep("x", 999), "http://a/" + rep("x", 191)},
		{"http://a/" + rep("%41", 191), "http://a/" + rep("A", 191)},
		{"http://a/?" + rep("%7E", 190), "http://a/?" + rep("~", 190)},
		{"http://a/xx" + rep("%ab", 63), "http://a/xx" + rep("%AB", 63)},
		{"http://a/xxxxx" + rep("é", 31), "http://a/xxxxx" + rep("%C3%A9", 31)},
		{"http://a/" + rep("x/../", 1000), "http://a/"},
		{"http://a/" + rep("./", 1000), "http://a/"},
		{"http://a/" + rep("../", 1000) + "b", "http://a/b"},
		{"http://a/" + rep("x/", 1000) + rep("../", 1000) + "b", "http://a/b"},
		{"http://a/" + rep("/", 1000) + rep("../", 1000), "http://a/"},
		{"http://a/" + rep("x", 1000) + "/../b", "http://a/b"},
		{"http://a/b/" + rep("é", 1000) + "/..", "http://a/b/"},
	} {
		check(t, x.s, x.form, api.OK)
	}
	for _, s := range []string{
		"http://a/" + rep("x", 192), "http://a/" + rep("x", 99999), "https://a/" + rep("x", 191), "http://a:81/" + rep("x", 189), "http://a:80/" + rep("x", 192),
		"http://a?" + rep("x", 191), "http://a/?" + rep("x", 191), "http://a/" + rep("x", 191) + "?", "http://a/" + rep("x", 192) + "#",
		"http://a/xxx" + rep("%ab", 63), "http://a/xxxxxx" + rep("é", 31), "http://a/" + rep("\U0001f600", 16), "http://a/" + rep("%41", 192), "http://a/" + rep("/", 192),
		"http://" + rep("a.", 49) + "bc:65535/" + rep("x", 87), "http://a/" + rep("x", 100) + "?" + rep("x", 91), "http://a/../" + rep("x", 192),
	} {
		check(t, s, "", api.ErrBig)
		none(t, s[:7]+" "+s[7:], s[:4]+"x"+s[4:], s[:7]+":0"+s[7:])
		if !strings.Contains(s, "#") {
			none(t, s+" ", s+"%", s+"\xff")
		}
	}
	check(t, "http://"+rep("a.", 49)+"bc:65535/"+rep("x", 86), "http://"+rep("a.", 49)+"bc:65535/"+rep("x", 86), api.OK)
}

// P5.3: Right and Host.
func TestRightAndHost(t *testing.T) {
	for _, x := range [][2]string{
		{"http://a/", "a"}, {"https://a.b-c.d9/", "a.b-c.d9"}, {"http://a:8/", "a:8"}, {"http://a:443/", "a:443"}, {"https://a:80/x", "a:80"}, {"http://a:65535/x/y:9?z", "a:65535"},
		{"http://a/?", "a"}, {"http://a/?http://b/", "a"}, {"http://a/http://b/", "a"}, {"http://a//b", "a"}, {"http://a/%C3%BC", "a"}, {"http://a/...", "a"}, {"http://http:9/", "http:9"},
	} {
		if !addr.Right(x[0]) || addr.Host(x[0]) != x[1] {
			t.Errorf("Right and Host of %q: %v, %q", x[0], addr.Right(x[0]), addr.Host(x[0]))
		}
	}
	for _, s := range []string{
		"", "a", "http://", "http://a", "http://a:8", "http://a?", "http://a?b", "HTTP://a/", "http://A/", "http://a:80/", "https://a:443/", "http://a/#", "http://a/#b", "http://a/é", "http://a/%c3", "http://a/%41",
		"http://a/.", "http://a/..", "http://a/./b", "http://a/b/../c", "http://a/?%7e", "ftp://a/", "http://a/ ", "http://a:0/", "http://a/" + strings.Repeat("x", 192), "\xff",
	} {
		if addr.Right(s) || addr.Host(s) != "" {
			t.Errorf("Right and Host of %q: %v, %q", s, addr.Right(s), addr.Host(s))
		}
	}
}

// P5.3: Less, of texts that each come ahead of the next, addresses or not.
func TestLess(t *testing.T) {
	rising := []string{
		"", "\x00", "HTTP://a/", "http", "http://a", "http://a-b/", "http://a.b/", "http://a/", "http://a/%C3", "http://a/?", "http://a/?b", "http://a/B", "http://a/b", "http://a/b/", "http://a/bc",
		"http://a:8/", "http://b/", "https://a/", "z", "é", "\ufffd", "\U0001f600", "\xff", "\xff\x00",
	}
	for i, a := range rising {
		for k, b := range rising {
			if is := addr.Less(a, b); is != (i < k) {
				t.Errorf("Less of %q and %q: %v", a, b, is)
			}
		}
	}
}

// texts: all texts of up to n of the pieces.
func texts(n int, pieces ...string) []string {
	all := []string{""}
	last := all
	for range n {
		var next []string
		for _, s := range last {
			for _, p := range pieces {
				next = append(next, s+p)
			}
		}
		all = append(all, next...)
		last = next
	}
	return all
}

// P5.1, P5.2, P5.4: all texts of few pieces, against another hand.
func TestTexts(t *testing.T) {
	var l []string
	for _, s := range texts(4, "http", "S", "://", ":", "/", "?", "#", "a", "-", ".", "80", "0") {
		l = append(l, s, "http://"+s)
	}
	for _, s := range texts(4, "/", ".", "%2e", "%2F", "%", "4", "x", "?", "#", ":", "é", "\ufffd", "\xff", " ") {
		l = append(l, "http://a/"+s)
	}
	for _, s := range texts(8, "/", ".", "b") {
		l = append(l, "http://a/"+s)
	}
	for _, s := range l {
		form, e := parsed(s)
		check(t, s, form, e)
	}
}

// overlap: whether a and b lie in the same memory, at least in part.
func overlap(a, b string) bool {
	if a == "" || b == "" {
		return false
	}
	x, y := uintptr(unsafe.Pointer(unsafe.StringData(a))), uintptr(unsafe.Pointer(unsafe.StringData(b)))
	return x < y+uintptr(len(b)) && y < x+uintptr(len(a))
}

// Rule 3: what is handed in stays, with what lies behind it, and what is answered is
// new memory.
func TestNothingChanged(t *testing.T) {
	for _, kept := range []string{"http://a/", "https://a.b:9/x/y?z", "HTTP://A:80/x/../é%c3?%7e#K", "http://a/./", "http://A", "none", "http://a/%", "http://a/\xff", "http://a/" + strings.Repeat("x", 300)} {
		room := []byte(kept + "/../%41 AND MORE")
		s := unsafe.String(&room[0], len(kept))
		form, _ := addr.Parse(s)
		host := addr.Host(s)
		addr.Right(s)
		addr.Less(s, form)
		addr.Less(form, s)
		if string(room) != kept+"/../%41 AND MORE" {
			t.Errorf("%q was handed in, and is %q now", kept, room)
		}
		if overlap(form, s) || overlap(host, s) {
			t.Errorf("of %q %q and %q were answered, which lie in it", s, form, host)
		}
		was := strings.Clone(form + host)
		clear(room)
		if form+host != was {
			t.Errorf("what was answered of %q changed with it", kept)
		}
	}
}

func FuzzParse(f *testing.F) {
	for _, s := range []string{"HTTP://A.b:80/x/../ü?%7e#k", "https://a-b.c:443//./..?%2e\xff", "http://a/%C3%BC\ufffd", "http://a:65536", "http://" + strings.Repeat("a.", 50) + "b/" + strings.Repeat("é", 40)} {
		f.Add(s)
	}
	f.Fuzz(func(t *testing.T, s string) {
		for _, s := range []string{s, "http://a/" + s, "https://" + s + "/b?c"} {
			form, e := parsed(s)
			check(t, s, form, e)
		}
	})
}
