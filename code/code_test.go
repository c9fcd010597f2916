package code_test

import (
	"cmp"
	"encoding/binary"
	"math"
	"slices"
	"strings"
	"testing"

	"tripwire/api"
	"tripwire/code"
	"tripwire/value"
)

func boolean(n int) api.Value { return api.Value{Kind: api.Bool, N: n} }

func number(n int) api.Value { return api.Value{Kind: api.Int, N: n} }

func text(s string) api.Value { return api.Value{Kind: api.Text, S: s} }

// over lists all texts of at most size bytes, each of them one of letters.
func over(letters string, size int) []string {
	l := []string{""}
	for from := 0; size > 0; size-- {
		to := len(l)
		for _, s := range l[from:to] {
			for i := range len(letters) {
				l = append(l, s+letters[i:i+1])
			}
		}
		from = to
	}
	return l
}

// some lists right values of all kinds, at their edges.
func some() []api.Value {
	l := []api.Value{{}, boolean(0), boolean(1)}
	for _, n := range []int{0, 1, 2, 255, 256, 257, 1 << 31, 1 << 32, 1 << 40, 1 << 62, math.MaxInt - 1, math.MaxInt} {
		l = append(l, number(n), number(-n-1))
	}
	for _, s := range over("\x00\x01\x02az\xfe\xff", 3) {
		l = append(l, text(s))
	}
	for _, s := range []string{"a", "\x00", "\x01", "\xff", "\x80"} {
		full := strings.Repeat(s, api.MaxText)
		l = append(l, text(full), text(full[1:]), text(full[1:]+"\x00"), text("\x00"+full[1:]))
	}
	return append(l, text("\xc3\xa4"), text("\x00\x01\x00\xff\x00\x01"), text("12345678"))
}

// wrong lists values that aren't right, whatever may be amiss with them.
func wrong() []api.Value {
	long := strings.Repeat("x", api.MaxText+1)
	return []api.Value{
		{N: 1}, {N: -1}, {S: "a"}, {S: "\x00"},
		{Kind: api.Bool, N: 2}, {Kind: api.Bool, N: -1}, {Kind: api.Bool, N: 256}, {Kind: api.Bool, N: 257},
		{Kind: api.Bool, N: 1, S: "a"}, {Kind: api.Bool, S: "\x00"},
		{Kind: api.Int, S: "a"}, {Kind: api.Int, N: 7, S: "\x00"},
		{Kind: api.Text, N: 1}, {Kind: api.Text, N: -1, S: "a"}, {Kind: api.Text, S: long},
		{Kind: api.Text, S: strings.Repeat("\x00", 25)}, {Kind: api.Text, S: strings.Repeat("x", 5000)},
		{Kind: -1}, {Kind: 4}, {Kind: 255}, {Kind: 256}, {Kind: 257, N: 1}, {Kind: 258}, {Kind: 259, S: "a"},
		{Kind: math.MinInt}, {Kind: math.MaxInt},
	}
}

// told is the key of a right value as the chapter tells it, byte by byte.
func told(v api.Value) string {
	b := []byte{byte(v.Kind)}
	switch v.Kind {
	case 1:
		b = append(b, byte(v.N))
	case 2:
		b = binary.BigEndian.AppendUint64(b, uint64(v.N)+1<<63)
	case 3:
		for i := range len(v.S) {
			b = append(b, v.S[i])
			if v.S[i] == 0 {
				b = append(b, 0xff)
			}
		}
		b = append(b, 0, 1)
	}
	return string(b)
}

func wantKey(t *testing.T, v api.Value, want string, errno api.Errno) {
	t.Helper()
	if s, e := code.Key(v); s != want || e != errno {
		t.Errorf("Key of %#v: % x and %d, not % x and %d", v, s, e, want, errno)
	}
}

func TestKeyBytes(t *testing.T) {
	for _, x := range []struct {
		v    api.Value
		want string
	}{
		{api.Value{}, "\x00"}, {boolean(0), "\x01\x00"}, {boolean(1), "\x01\x01"},
		{number(0), "\x02\x80\x00\x00\x00\x00\x00\x00\x00"},
		{number(1), "\x02\x80\x00\x00\x00\x00\x00\x00\x01"},
		{number(-1), "\x02\x7f\xff\xff\xff\xff\xff\xff\xff"},
		{number(-2), "\x02\x7f\xff\xff\xff\xff\xff\xff\xfe"},
		{number(math.MinInt), "\x02\x00\x00\x00\x00\x00\x00\x00\x00"},
		{number(math.MaxInt), "\x02\xff\xff\xff\xff\xff\xff\xff\xff"},
		{number(0x0123456789abcdef), "\x02\x81\x23\x45\x67\x89\xab\xcd\xef"},
		{number(-0x0123456789abcdef), "\x02\x7e\xdc\xba\x98\x76\x54\x32\x11"},
		{text(""), "\x03\x00\x01"}, {text("a"), "\x03a\x00\x01"}, {text("ab"), "\x03ab\x00\x01"},
		{text("\x00"), "\x03\x00\xff\x00\x01"}, {text("\x01"), "\x03\x01\x00\x01"}, {text("\xff"), "\x03\xff\x00\x01"},
		{text("\x00a"), "\x03\x00\xffa\x00\x01"}, {text("a\x00b"), "\x03a\x00\xffb\x00\x01"},
		{text("a\x00"), "\x03a\x00\xff\x00\x01"}, {text("\x00\x00"), "\x03\x00\xff\x00\xff\x00\x01"},
		{text("\x01a"), "\x03\x01a\x00\x01"}, {text("a\x01b"), "\x03a\x01b\x00\x01"}, {text("a\x01"), "\x03a\x01\x00\x01"},
		{text("\xffa"), "\x03\xffa\x00\x01"}, {text("a\xffb"), "\x03a\xffb\x00\x01"}, {text("a\xff"), "\x03a\xff\x00\x01"},
		{text("\x00\x01"), "\x03\x00\xff\x01\x00\x01"}, {text("\x00\xff"), "\x03\x00\xff\xff\x00\x01"},
		{text("\xff\x00"), "\x03\xff\x00\xff\x00\x01"}, {text("\x01\x00"), "\x03\x01\x00\xff\x00\x01"},
		{text("\xc3\xa4"), "\x03\xc3\xa4\x00\x01"},
		{text(strings.Repeat("x", 24)), "\x03" + strings.Repeat("x", 24) + "\x00\x01"},
		{text(strings.Repeat("\x00", 24)), "\x03" + strings.Repeat("\x00\xff", 24) + "\x00\x01"},
	} {
		wantKey(t, x.v, x.want, api.OK)
	}
}

func TestKey(t *testing.T) {
	for _, v := range some() {
		wantKey(t, v, told(v), api.OK)
	}
	for c := range 256 {
		wantKey(t, text(string([]byte{byte(c)})), told(text(string([]byte{byte(c)}))), api.OK)
	}
	for bit := range 64 {
		n := 1 << bit
		for _, m := range []int{n, -n, n - 1, n + 1, ^n} {
			wantKey(t, number(m), told(number(m)), api.OK)
		}
	}
	for _, v := range wrong() {
		wantKey(t, v, "", api.ErrArg)
	}
}

func wantRead(t *testing.T, s string, v api.Value, rest string) {
	t.Helper()
	if w, r, e := code.Read(s); w != v || r != rest || e != api.OK {
		t.Errorf("Read of % x: %#v, % x and %d, not %#v and % x", s, w, r, e, v, rest)
	}
}

func wantNoRead(t *testing.T, s string) {
	t.Helper()
	if v, rest, e := code.Read(s); v != (api.Value{}) || rest != "" || e != api.ErrForm {
		t.Errorf("Read of % x: %#v, % x and %d", s, v, rest, e)
	}
}

func TestReadOfKeys(t *testing.T) {
	tails := []string{"", "\x00", "\x01", "\x02", "\x03", "\x04", "\xff", "\x00\x01", "\xff\x00\x01", "more",
		told(text("a")), told(number(-1)), strings.Repeat("\x00\xff", 3000)}
	for _, v := range some() {
		for _, tail := range tails {
			wantRead(t, told(v)+tail, v, tail)
		}
	}
	for c := range 256 {
		wantRead(t, told(text(string([]byte{byte(c)})))+"x", text(string([]byte{byte(c)})), "x")
	}
}

func TestReadOfWhatIsCutShort(t *testing.T) {
	for _, v := range some() {
		for i := range len(told(v)) {
			wantNoRead(t, told(v)[:i])
		}
	}
}

func TestReadOfNoKey(t *testing.T) {
	wantNoRead(t, "")
	for _, tail := range []string{"", "\x00", "\x00\x01", "\xff", "12345678", "a\x00\x01", strings.Repeat("x", 5000)} {
		for c := 2; c < 256; c++ {
			wantNoRead(t, string([]byte{1, byte(c)})+tail)
		}
		for c := 4; c < 256; c++ {
			wantNoRead(t, string([]byte{byte(c)})+tail)
		}
		for c := range 256 {
			if bad := string([]byte{0, byte(c)}); c != 1 && c != 0xff {
				wantNoRead(t, "\x03"+bad+tail)
				wantNoRead(t, "\x03a"+bad+tail)
				wantNoRead(t, "\x03\x00\xff"+bad+tail)
				wantNoRead(t, "\x03"+strings.Repeat("a", 24)+bad+tail)
			}
		}
	}
}

func TestReadOfLongTexts(t *testing.T) {
	for _, c := range []string{"a", "\x00", "\x01", "\xff"} {
		wantRead(t, told(text(strings.Repeat(c, 24)))+"\x00\x01", text(strings.Repeat(c, 24)), "\x00\x01")
		for _, n := range []int{25, 26, 48, 300, 100000} {
			wantNoRead(t, told(text(strings.Repeat(c, n))))
		}
	}
	wantNoRead(t, told(text(strings.Repeat("a", 24)+"\x00")))
	wantNoRead(t, told(text("\x00"+strings.Repeat("a", 24))))
	wantNoRead(t, "\x03"+strings.Repeat("a", 100000))
	wantNoRead(t, "\x03"+strings.Repeat("\x00", 100000))
	wantNoRead(t, "\x03"+strings.Repeat("\x00\xff", 100000))
}

// letters are the bytes that mean something in a key, and some that don't.
const letters = "\x00\x01\x02\x03a\xfe\xff"

// short has the values whose keys are short and of letters, by those keys.
func short() map[string]api.Value {
	m := map[string]api.Value{told(api.Value{}): {}, told(boolean(0)): boolean(0), told(boolean(1)): boolean(1)}
	for _, s := range over(letters, 3) {
		m[told(text(s))] = text(s)
	}
	return m
}

// search looks for a key that s begins with, without reading it.
func search(m map[string]api.Value, s string) (api.Value, string, bool) {
	for i := range len(s) + 1 {
		if v, ok := m[s[:i]]; ok {
			return v, s[i:], true
		}
	}
	return api.Value{}, "", false
}

func TestReadOfAllShortTexts(t *testing.T) {
	keys := short()
	for _, s := range over(letters, 6) {
		if v, rest, ok := search(keys, s); ok {
			wantRead(t, s, v, rest)
		} else {
			wantNoRead(t, s)
		}
	}
}

func TestReadOfNumbers(t *testing.T) {
	for _, s := range over("\x00\x7f\x80\xff", 8) {
		if len(s) < 8 {
			wantNoRead(t, "\x02"+s)
			continue
		}
		n := int(binary.BigEndian.Uint64([]byte(s)) - 1<<63)
		wantRead(t, "\x02"+s, number(n), "")
		wantKey(t, number(n), "\x02"+s, api.OK)
	}
}

func TestWhatIsReadIsWrittenSo(t *testing.T) {
	for _, s := range append(over(letters, 6), "\x02\x80\x00\x00\x00\x00\x00\x00\x01x", "\x03\x00\xff\x00\xffa\x00\x01x") {
		v, rest, e := code.Read(s)
		if e != api.OK {
			continue
		}
		if key, f := code.Key(v); f != api.OK || key+rest != s {
			t.Errorf("% x is read as %#v with % x behind it, which is written % x", s, v, rest, key)
		}
	}
}

func keyOf(t *testing.T, v api.Value) string {
	t.Helper()
	s, e := code.Key(v)
	if e != api.OK {
		t.Fatalf("%#v has no key: %d", v, e)
	}
	return s
}

func TestKeysStandAsValues(t *testing.T) {
	l := some()
	keys := make([]string, len(l))
	for i, v := range l {
		keys[i] = keyOf(t, v)
	}
	for i, a := range l {
		for k, b := range l {
			if g, want := cmp.Compare(keys[i], keys[k]), value.Order(a, b); g != want {
				t.Fatalf("%#v to %#v: %d, their keys % x to % x: %d", a, b, want, keys[i], keys[k], g)
			}
			if a != b && strings.HasPrefix(keys[i], keys[k]) {
				t.Fatalf("the key of %#v, % x, begins with the key of %#v, % x", a, keys[i], b, keys[k])
			}
		}
	}
}

// rows lists all rows of size values out of l.
func rows(l []api.Value, size int) [][]api.Value {
	m := [][]api.Value{{}}
	for range size {
		var longer [][]api.Value
		for _, r := range m {
			for _, v := range l {
				longer = append(longer, append(slices.Clone(r), v))
			}
		}
		m = longer
	}
	return m
}

func rowOf(t *testing.T, l []api.Value) string {
	t.Helper()
	s, e := code.Row(l)
	if e != api.OK {
		t.Fatalf("%#v has no bytes: %d", l, e)
	}
	return s
}

// few lists some values whose keys come near to one another.
func few() []api.Value {
	return []api.Value{text(""), text("\x00"), {}, boolean(1), number(-1), text("\x01"), number(256), text("\x00\x01"),
		boolean(0), text("\xff"), text("a"), text("a\x00"), number(0), text("ab")}
}

func TestRowsStandAsTheirValues(t *testing.T) {
	for size, n := range []int{1: 14, 2: 14, 3: 7, 4: 4, 5: 3, 6: 2} {
		l := rows(few()[:n], size)
		for _, a := range l {
			for _, b := range l {
				s, r := rowOf(t, a), rowOf(t, b)
				want := slices.CompareFunc(a, b, value.Order)
				if g := cmp.Compare(s, r); g != want {
					t.Fatalf("%#v to %#v: %d, their bytes % x to % x: %d", a, b, want, s, r, g)
				}
				if want != 0 && strings.HasPrefix(s, r) {
					t.Fatalf("the bytes of %#v, % x, begin with those of %#v, % x", a, s, b, r)
				}
			}
		}
	}
}

// changed lists l with the value at one place, each in turn, taken to be another one of few.
func changed(l []api.Value) [][]api.Value {
	var m [][]api.Value
	for i := range l {
		for _, v := range few() {
			r := slices.Clone(l)
			r[i] = v
			m = append(m, r)
		}
	}
	return m
}

func TestFullRowsStandAsTheirValues(t *testing.T) {
	l := changed(few()[:api.MaxCols])
	for _, a := range l {
		for _, b := range l {
			if g, want := cmp.Compare(rowOf(t, a), rowOf(t, b)), slices.CompareFunc(a, b, value.Order); g != want {
				t.Fatalf("%#v to %#v: %d, their bytes: %d", a, b, want, g)
			}
		}
	}
}

func wantRow(t *testing.T, l []api.Value, want string, errno api.Errno) {
	t.Helper()
	kept := slices.Clone(l)
	if s, e := code.Row(l); s != want || e != errno {
		t.Errorf("Row of %#v: % x and %d, not % x and %d", l, s, e, want, errno)
	}
	if !slices.Equal(l, kept) {
		t.Errorf("Row wrote into %#v: %#v", kept, l)
	}
}

func wantUnrow(t *testing.T, s string, want []api.Value) {
	t.Helper()
	if l, e := code.Unrow(s); !slices.Equal(l, want) || e != api.OK {
		t.Errorf("Unrow of % x: %#v and %d, not %#v", s, l, e, want)
	}
}

func wantNoUnrow(t *testing.T, s string) {
	t.Helper()
	if l, e := code.Unrow(s); len(l) != 0 || e != api.ErrForm {
		t.Errorf("Unrow of % x: %#v and %d", s, l, e)
	}
}

func TestRowOfNoValues(t *testing.T) {
	wantRow(t, nil, "", api.OK)
	wantRow(t, []api.Value{}, "", api.OK)
	wantUnrow(t, "", nil)
}

func TestRowAndBack(t *testing.T) {
	l := some()
	for size := 1; size <= 6; size++ {
		for i := range len(l) - size {
			bytes := ""
			for _, v := range l[i : i+size] {
				bytes += told(v)
			}
			wantRow(t, l[i:i+size], bytes, api.OK)
			wantUnrow(t, bytes, l[i:i+size])
		}
		same := make([]api.Value, size)
		wantRow(t, same, strings.Repeat("\x00", size), api.OK)
		wantUnrow(t, strings.Repeat("\x00", size), same)
	}
	wantRow(t, []api.Value{number(1), {}, text("a")}, "\x02\x80\x00\x00\x00\x00\x00\x00\x01\x00\x03a\x00\x01", api.OK)
}

func TestRowOfTooManyValues(t *testing.T) {
	for _, size := range []int{7, 8, 12, 256, 262, 5000} {
		wantRow(t, make([]api.Value, size), "", api.ErrArg)
	}
	wantRow(t, some()[:7], "", api.ErrArg)
	wantRow(t, append(wrong()[:1], some()[:6]...), "", api.ErrArg)
}

func TestRowOfWrongValues(t *testing.T) {
	for _, v := range wrong() {
		for size := 1; size <= 6; size++ {
			for i := range size {
				l := slices.Clone(few()[:size])
				l[i] = v
				wantRow(t, l, "", api.ErrArg)
			}
		}
	}
}

// sixes lists rows of six values.
func sixes() [][]api.Value {
	return [][]api.Value{few()[:6], few()[6:12], some()[:6], some()[20:26], make([]api.Value, 6)}
}

// Where a row's bytes are cut between two keys, they are a shorter row's; else they are nobody's.
func TestUnrowOfWhatIsCutShort(t *testing.T) {
	for _, l := range sixes() {
		ends := map[int]int{0: 0}
		s := ""
		for i, v := range l {
			s += told(v)
			ends[len(s)] = i + 1
		}
		for i := range len(s) + 1 {
			if n, ok := ends[i]; ok {
				wantUnrow(t, s[:i], l[:n])
			} else {
				wantNoUnrow(t, s[:i])
			}
		}
	}
}

func TestUnrowOfWhatHasMoreBehindIt(t *testing.T) {
	for _, l := range sixes() {
		s := ""
		for _, v := range l {
			for _, tail := range []string{"\x04", "\xff", "\x01", "\x01\x02", "\x02more", "\x03", "\x03a", "\x03a\x00\x02", "a"} {
				wantNoUnrow(t, s+tail)
			}
			s += told(v)
		}
		for _, v := range some() {
			wantNoUnrow(t, s+told(v))
			wantNoUnrow(t, told(v)+s)
		}
		wantNoUnrow(t, s+s)
		wantNoUnrow(t, s+"\x04")
	}
	wantNoUnrow(t, strings.Repeat("\x00", 7))
	wantNoUnrow(t, strings.Repeat("\x00", 100000))
	wantNoUnrow(t, "\x00"+told(text(strings.Repeat("a", 25))))
	wantNoUnrow(t, told(text(strings.Repeat("a", 25)))+"\x00")
}

func TestUnrowOfAllShortTexts(t *testing.T) {
	keys := short()
	for _, s := range over(letters, 6) {
		var want []api.Value
		v, rest, ok := search(keys, s)
		for ; ok; v, rest, ok = search(keys, rest) {
			want = append(want, v)
			if rest == "" {
				break
			}
		}
		if !ok && s != "" {
			wantNoUnrow(t, s)
			continue
		}
		wantUnrow(t, s, want)
		wantRow(t, want, s, api.OK)
	}
}

func TestUnrowAnswersNewLists(t *testing.T) {
	s := rowOf(t, few()[:4])
	a, _ := code.Unrow(s)
	for i := range a {
		a[i] = text("other")
	}
	wantUnrow(t, s, few()[:4])
}

func TestID(t *testing.T) {
	for _, x := range []struct {
		n    int
		want string
	}{
		{0, "\x00\x00\x00\x00\x00\x00\x00\x00"}, {1, "\x00\x00\x00\x00\x00\x00\x00\x01"},
		{255, "\x00\x00\x00\x00\x00\x00\x00\xff"}, {256, "\x00\x00\x00\x00\x00\x00\x01\x00"},
		{0x123456789a, "\x00\x00\x00\x12\x34\x56\x78\x9a"}, {1<<40 - 1, "\x00\x00\x00\xff\xff\xff\xff\xff"},
		{1 << 40, "\x00\x00\x01\x00\x00\x00\x00\x00"},
	} {
		if s, e := code.ID(x.n); s != x.want || e != api.OK {
			t.Errorf("ID of %d: % x and %d", x.n, s, e)
		}
		if n, e := code.Unid(x.want); n != x.n || e != api.OK {
			t.Errorf("Unid of % x: %d and %d", x.want, n, e)
		}
	}
	for _, n := range []int{-1, -2, -256, math.MinInt, 1<<40 + 1, 1 << 41, 1 << 56, 1<<62 + 1, math.MaxInt} {
		if s, e := code.ID(n); s != "" || e != api.ErrArg {
			t.Errorf("ID of %d: % x and %d", n, s, e)
		}
	}
}

func TestIDsStandAsNumbers(t *testing.T) {
	l := []int{0, 1 << 40}
	for bit := range 40 {
		l = append(l, 1<<bit, 1<<bit+1, 1<<40-1<<bit)
	}
	for _, m := range l {
		for _, n := range l {
			s, e := code.ID(m)
			r, f := code.ID(n)
			if e != api.OK || f != api.OK || cmp.Compare(s, r) != cmp.Compare(m, n) {
				t.Errorf("%d and %d: % x and % x", m, n, s, r)
			}
		}
		s, _ := code.ID(m)
		if n, e := code.Unid(s); n != m || e != api.OK {
			t.Errorf("%d is written % x and read %d and %d", m, s, n, e)
		}
	}
}

func TestUnidOfNoKey(t *testing.T) {
	for _, s := range []string{
		"", "\x00", "1", "\x00\x00\x00\x00\x00\x00\x00", "\x00\x00\x00\x00\x00\x00\x00\x00\x00",
		"\x00\x00\x00\x00\x00\x00\x01\x02\x00", "\x00\x00\x00\x00\x00\x01\x02",
		"\x00\x00\x01\x00\x00\x00\x00\x01", "\x00\x00\x01\x00\x00\x00\x01\x00", "\x00\x00\x02\x00\x00\x00\x00\x00",
		"\x00\x01\x00\x00\x00\x00\x00\x00", "\x01\x00\x00\x00\x00\x00\x00\x00", "\x80\x00\x00\x00\x00\x00\x00\x00",
		"\x80\x00\x00\x00\x00\x00\x00\x01", "\x7f\xff\xff\xff\xff\xff\xff\xff", "\xff\xff\xff\xff\xff\xff\xff\xff",
		"12345678", strings.Repeat("\x00", 16), strings.Repeat("\x00", 5000),
	} {
		if n, e := code.Unid(s); n != 0 || e != api.ErrForm {
			t.Errorf("Unid of % x: %d and %d", s, n, e)
		}
	}
}

func TestUnidAsIDWrites(t *testing.T) {
	for _, s := range over("\x00\x01\x80\xff", 8) {
		n, e := code.Unid(s)
		if e != api.OK {
			if n != 0 || e != api.ErrForm || len(s) == 8 && s <= "\x00\x00\x01\x00\x00\x00\x00\x00" {
				t.Errorf("Unid of % x: %d and %d", s, n, e)
			}
			continue
		}
		if r, f := code.ID(n); r != s || f != api.OK {
			t.Errorf("% x is read %d and written % x and %d", s, n, r, f)
		}
	}
}

func TestNext(t *testing.T) {
	for s, want := range map[string]string{
		"": "", "\xff": "", "\xff\xff": "", strings.Repeat("\xff", 5000): "", "a": "b", "ab": "ac", "\x00": "\x01",
		"a\x00": "a\x01", "\x00\x00": "\x00\x01", "\x7f": "\x80", "\x80": "\x81", "\xfe": "\xff", "a\xfe": "a\xff",
		"a\xff": "b", "a\xff\xff": "b", "a\xffb": "a\xffc", "\xffa": "\xffb", "\xffa\xff": "\xffb", "\xff\x00": "\xff\x01",
		"\xfe\xff": "\xff", "\xff\xfe\xff": "\xff\xff", "\x00\xff": "\x01", "a\x7f": "a\x80", "a\xc3\xa4": "a\xc3\xa5",
		"\xc3\xbf": "\xc3\xc0", "\xc3\xff": "\xc4", "a\x00" + strings.Repeat("\xff", 3000): "a\x01",
	} {
		if g := code.Next(s); g != want {
			t.Errorf("Next of % x: % x, not % x", s, g, want)
		}
	}
	for c := range 255 {
		s, want := string([]byte{'x', byte(c)}), string([]byte{'x', byte(c + 1)})
		if g := code.Next(s); g != want {
			t.Errorf("Next of % x: % x", s, g)
		}
	}
}

// TestNextIsTheLeast holds Next against all texts of some bytes: just those that aren't below it are above all that
// begin with s, which are above all that end with more bytes ff than the text has bytes.
func TestNextIsTheLeast(t *testing.T) {
	l := over("\x00\x01ab\x7f\x80\xfe\xff", 3)
	for _, s := range over("\x00a\x7f\xfe\xff", 3) {
		next := code.Next(s)
		greatest := s + "\xff\xff\xff\xff"
		for _, r := range l {
			if above := r > greatest; above != (next != "" && r >= next) {
				t.Fatalf("Next of % x: % x, but % x is above all that begin so: %v", s, next, r, above)
			}
		}
	}
}

func TestNothingPanics(t *testing.T) {
	for _, v := range append(some(), wrong()...) {
		code.Key(v)
		code.Row([]api.Value{v, {}, v})
	}
	for _, s := range over("\x00\x01\x02\x03\x04\x7f\x80\xff", 5) {
		for _, tail := range []string{"", "\x00\x00\x00\x00\x00", "\xff\xff\xff\xff\xff", "\x00\xff\x00\xff\x00"} {
			code.Read(s + tail)
			code.Unrow(s + tail)
			code.Unid(s + tail)
			code.Next(s + tail)
		}
	}
}
