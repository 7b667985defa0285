package encode_test

import (
	"bytes"
	"encoding/binary"
	"encoding/hex"
	"io"
	"math"
	"math/rand/v2"
	"reflect"
	"slices"
	"strconv"
	"strings"
	"testing"

	"specie/api"
	"specie/encode"
)

func number(n int) api.Item { return api.Item{Kind: api.ItemInt, N: n} }

func text(s string) api.Item { return api.Item{Kind: api.ItemBytes, B: []byte(s)} }

func list(l ...api.Item) api.Item { return api.Item{Kind: api.ItemList, L: l} }

// nested puts an item into so many lists of one item.
func nested(i api.Item, lists int) api.Item {
	for range lists {
		i = list(i)
	}
	return i
}

// many returns a list that has an item so many times.
func many(i api.Item, n int) api.Item { return list(slices.Repeat([]api.Item{i}, n)...) }

// wide returns a valid item of 1000^8 integers, whose lists share their items.
func wide(n int) api.Item {
	i := number(n)
	for range 8 {
		i = many(i, api.MaxList)
	}
	return i
}

// numbers returns the least and the greatest ints, and others.
func numbers() []int {
	l := []int{0, math.MaxInt, math.MinInt, math.MaxInt - 1, math.MinInt + 1}
	for shift := range 63 {
		n := 1 << shift
		l = append(l, n, -n, n-1, 1-n, n+1, -n-1)
	}
	return append(l, 0x0102030405060708, -0x0102030405060708)
}

// items returns valid items that differ.
func items() []api.Item {
	l := []api.Item{
		text(""), text("\x00"), text("\x00\x00"), text("\x05"), text("\x50"), text("\xff"), text("a"), text("ab"), text("b"), text("()"), text(" "), text("x"),
		text("\x01\x00\x00\x00\x00\x00\x00\x00\x00"), text("\x02\x00\x00\x00\x00"), text("\x03\x00\x00\x00\x00"), text(strings.Repeat("z", 255)), text(strings.Repeat("z", 256)), text(strings.Repeat("z", 257)),
		list(), list(list()), list(list(), list()), list(list(list())), list(list(list()), list()), list(list(), list(list())), list(list(list(), list())),
		list(number(-1), text("\x05")), list(text("\x05"), number(-1)), list(list(number(-1)), text("\x05")), list(number(-1), list(text("\x05"))), list(list(number(-1), text("\x05"))),
		list(number(1)), list(number(1), number(2)), list(number(12)), list(number(1), list(number(2))), list(list(number(1)), number(2)), list(number(1), number(2), number(3)),
		list(number(0)), list(number(0), number(0)), list(number(1), number(-1)), list(text("")), list(text(""), text("")), list(text("\x01\x02")), list(text("\x01"), text("\x02")),
		many(number(7), 255), many(number(7), 256), many(list(), 256), many(text(""), 257), many(number(0), api.MaxList), many(list(), api.MaxList), many(text("ab"), api.MaxList-1),
	}
	for _, n := range numbers() {
		if !slices.ContainsFunc(l, func(i api.Item) bool { return i.Kind == api.ItemInt && i.N == n }) {
			l = append(l, number(n))
		}
	}
	for lists := 2; lists <= 8; lists++ {
		l = append(l, nested(number(0), lists), nested(text("deep"), lists))
	}
	return append(l, nested(list(), 7))
}

// some returns an item without a pattern, which may be too deep, or have a field that it should not have.
func some(source *rand.Rand) api.Item {
	i := part(source)
	if source.IntN(4) == 0 {
		i = nested(i, source.IntN(9))
	}
	return i
}

func part(source *rand.Rand) api.Item {
	i := api.Item{Kind: 1 + source.IntN(3)}
	switch {
	case i.Kind == api.ItemInt:
		i.N = int(source.Uint64()) >> source.IntN(64)
	case i.Kind == api.ItemBytes:
		for range source.IntN(5) {
			i.B = append(i.B, byte(source.IntN(4)))
		}
	default:
		for range source.IntN(5) {
			i.L = append(i.L, part(source))
		}
	}
	switch source.IntN(100) {
	case 0:
		i.Kind = source.IntN(6) - 1
	case 1:
		i.N = 1
	case 2:
		i.B = []byte{0}
	case 3:
		i.L = []api.Item{number(0)}
	}
	return i
}

// valid, depth, encoded, and written follow the definitions of the chapter, one by one.
func valid(i api.Item) bool {
	right := i.Kind == 1 && len(i.B)+len(i.L) == 0 || i.Kind == 2 && i.N == 0 && len(i.L) == 0 || i.Kind == 3 && i.N == 0 && len(i.B) == 0
	for _, x := range i.L {
		right = right && valid(x)
	}
	return right && len(i.L) <= 1000 && depth(i) <= 8
}

func depth(i api.Item) int {
	if i.Kind != 3 {
		return 0
	}
	d := 0
	for _, x := range i.L {
		d = max(d, depth(x))
	}
	return d + 1
}

func encoded(i api.Item) []byte {
	var b bytes.Buffer
	b.WriteByte(byte(i.Kind))
	switch i.Kind {
	case 1:
		binary.Write(&b, binary.BigEndian, int64(i.N))
	case 2:
		binary.Write(&b, binary.BigEndian, uint32(len(i.B)))
		b.Write(i.B)
	case 3:
		binary.Write(&b, binary.BigEndian, uint32(len(i.L)))
		for _, x := range i.L {
			b.Write(encoded(x))
		}
	}
	return b.Bytes()
}

func written(i api.Item) string {
	switch i.Kind {
	case 1:
		return strconv.Itoa(i.N)
	case 2:
		return "x" + hex.EncodeToString(i.B)
	}
	var l []string
	for _, x := range i.L {
		l = append(l, written(x))
	}
	return "(" + strings.Join(l, " ") + ")"
}

// read decodes an item as the chapter says it.
func read(b *bytes.Reader, level int) (api.Item, api.Errno) {
	kind, err := b.ReadByte()
	if err != nil {
		return api.Item{}, api.ErrEnd
	}
	if kind < 1 || kind > 3 || kind == 3 && level == 8 {
		return api.Item{}, api.ErrForm
	}
	if kind == 1 {
		var n int64
		if binary.Read(b, binary.BigEndian, &n) != nil {
			return api.Item{}, api.ErrEnd
		}
		return number(int(n)), api.OK
	}
	var n uint32
	if binary.Read(b, binary.BigEndian, &n) != nil || kind == 2 && int(n) > b.Len() {
		return api.Item{}, api.ErrEnd
	}
	if kind == 2 {
		s := make([]byte, n)
		io.ReadFull(b, s)
		return text(string(s)), api.OK
	}
	if n > 1000 {
		return api.Item{}, api.ErrForm
	}
	var l []api.Item
	for range n {
		x, e := read(b, level+1)
		if e != api.OK {
			return api.Item{}, e
		}
		l = append(l, x)
	}
	return list(l...), api.OK
}

// decoded is read, with the errors before and after it.
func decoded(b []byte) (api.Item, api.Errno) {
	if len(b) > 16384 {
		return api.Item{}, api.ErrFull
	}
	r := bytes.NewReader(b)
	i, e := read(r, 0)
	if e == api.OK && r.Len() > 0 {
		return api.Item{}, api.ErrForm
	}
	return i, e
}

// short cuts what would fill the screen.
func short(b []byte) string {
	if len(b) > 80 {
		return hex.EncodeToString(b[:60]) + ".. (" + strconv.Itoa(len(b)) + " bytes)"
	}
	return hex.EncodeToString(b)
}

// invalid returns items that are not valid.
func invalid() []api.Item {
	l := []api.Item{
		{}, {Kind: -1}, {Kind: 4}, {Kind: 257}, {Kind: 259}, {Kind: math.MaxInt}, {Kind: math.MinInt}, {N: 1}, {B: []byte{1}}, {L: []api.Item{number(1)}},
		{Kind: 1, B: []byte{0}}, {Kind: 1, N: 5, B: []byte("a")}, {Kind: 1, L: []api.Item{number(1)}}, {Kind: 1, N: 5, L: []api.Item{{}}},
		{Kind: 2, N: 1}, {Kind: 2, N: -1, B: []byte("a")}, {Kind: 2, L: []api.Item{number(1)}}, {Kind: 2, B: []byte("a"), L: []api.Item{list()}},
		{Kind: 3, N: 1}, {Kind: 3, N: math.MinInt}, {Kind: 3, B: []byte{0}}, {Kind: 3, N: 1, L: []api.Item{number(1)}}, {Kind: 3, B: []byte{0}, L: []api.Item{number(1)}},
		many(number(1), 1001), many(list(), 1001), many(text("ab"), 5000), list(number(1), many(number(1), 1001)), nested(many(number(1), 1001), 7),
		nested(number(0), 9), nested(list(), 8), nested(list(), 100), nested(list(number(1), list()), 7), list(nested(number(0), 7), nested(number(0), 8)),
	}
	for _, x := range l[:23] {
		// however deep it is, and wherever in a list
		l = append(l, list(x), nested(x, 8), list(number(1), x), list(x, number(1)), list(list(list(), x, text("a"))))
	}
	// the same list is met where it may lie, and where it is too deep
	shared := list(number(1), text("a"))
	l = append(l, list(shared, nested(shared, 7), nested(shared, 8)), list(nested(shared, 8), shared))
	// a list that begins like one before it
	three := []api.Item{number(1), text("a"), {}}
	return append(l, list(list(three[:1]...), list(three[:2]...), list(three...)), list(list(three...), list(three[:2]...)))
}

// P7.1
func TestValid(t *testing.T) {
	for _, i := range items() {
		if !encode.Valid(i) {
			t.Error(written(i), "is not valid")
		}
	}
	for n, i := range invalid() {
		if encode.Valid(i) {
			t.Error(n, "is valid")
		}
	}
	for _, i := range []api.Item{
		{Kind: 1, B: []byte{}, L: []api.Item{}}, {Kind: 2, L: []api.Item{}}, {Kind: 2, B: []byte{}}, {Kind: 3, B: []byte{}, L: []api.Item{}}, {Kind: 2, B: make([]byte, 1<<20)},
		many(number(1), 1000), nested(many(number(1), 1000), 7), many(many(text("ab"), 1000), 100), list(nested(number(0), 7), nested(text("a"), 7), nested(list(), 6)),
	} {
		if !encode.Valid(i) {
			t.Error("kind", i.Kind, "is not valid:", len(i.B), "bytes,", len(i.L), "items")
		}
	}
}

// P7.1: items without a pattern.
func TestValidSome(t *testing.T) {
	source := rand.New(rand.NewPCG(7, 1))
	count := map[bool]int{}
	for range 40000 {
		i := some(source)
		count[valid(i)]++
		if encode.Valid(i) != valid(i) {
			t.Error(written(i), !valid(i))
		}
	}
	if count[true] < 1000 || count[false] < 1000 {
		t.Error("the test has too few of a kind:", count)
	}
}

// P7.1: the encodings of the chapter, and others that were written down by hand.
func TestWrittenEncodings(t *testing.T) {
	for want, i := range map[string]api.Item{
		"0300000002" + "01ffffffffffffffff" + "0200000001" + "05": list(number(-1), text("\x05")),
		"010000000000000000": number(0), "010000000000000001": number(1), "010102030405060708": number(0x0102030405060708), "017fffffffffffffff": number(math.MaxInt),
		"018000000000000000": number(math.MinInt), "01fffffffffffffffe": number(-2), "01ffffffffffffff00": number(-256), "010000000080000000": number(1 << 31), "01ffffffff80000000": number(-1 << 31),
		"0200000000": text(""), "0200000003" + "00ff80": text("\x00\xff\x80"), "0200000100" + strings.Repeat("61", 256): text(strings.Repeat("a", 256)),
		"0300000000": list(), "0300000001" + "0300000000": list(list()), "03000003e8" + strings.Repeat("0200000000", 1000): many(text(""), 1000),
		"0300000002" + "0300000001" + "010000000000000003" + "0200000001" + "09": list(list(number(3)), text("\t")),
	} {
		if b, e := encode.Encode(i); e != api.OK || hex.EncodeToString(b) != want {
			t.Error(short(b), e, "not", want)
		}
	}
}

// P7.1, P7.2, P7.6: encodings, and what is decoded from them.
func TestEncodings(t *testing.T) {
	source := rand.New(rand.NewPCG(7, 2))
	l := items()
	for len(l) < 5000 {
		if i := some(source); valid(i) {
			l = append(l, i)
		}
	}
	for _, i := range l {
		b, e := encode.Encode(i)
		if e != api.OK || !bytes.Equal(b, encoded(i)) {
			t.Error(short(b), e, "not", short(encoded(i)))
		}
		if x, e := encode.Decode(b); e != api.OK || !valid(x) || !bytes.Equal(encoded(x), b) || !encode.Equal(x, i) {
			t.Error(short(b), "is decoded as", x, e)
		}
	}
}

// P7.1: the encoding of a string of n bytes has n + 5 bytes, and 5 more in a list.
func TestLongEncodings(t *testing.T) {
	for _, n := range []int{api.MaxBytes - 20, api.MaxBytes - 16, api.MaxBytes - 15, api.MaxBytes - 14, api.MaxBytes - 11, api.MaxBytes - 10, api.MaxBytes - 9, api.MaxBytes - 6, api.MaxBytes - 5, api.MaxBytes - 4, api.MaxBytes, api.MaxBytes + 1, 1 << 20} {
		s := text(strings.Repeat("s", n))
		for _, i := range []api.Item{s, list(s), list(list(s)), list(list(), s), list(s, list()), list(s, text("")), list(list(list()), s)} {
			b, e := encode.Encode(i)
			if want := encoded(i); len(want) > 16384 && (e != api.ErrFull || len(b) > 0) || len(want) <= 16384 && (e != api.OK || !bytes.Equal(b, want)) {
				t.Error(len(b), e, "not", len(want))
			}
		}
	}
	// 17 lists take 5 bytes each, so that there is room for 1811 integers of 9 bytes
	for n, want := range map[int]api.Errno{1810: api.OK, 1811: api.OK, 1812: api.ErrFull} {
		i := list(slices.Repeat([]api.Item{list()}, 14)...)
		i.L = append(i.L, many(number(1), 905), many(number(2), n-905))
		if b, e := encode.Encode(i); e != want || e == api.OK && !bytes.Equal(b, encoded(i)) || e != api.OK && len(b) > 0 {
			t.Error(n, len(b), e, "not", want)
		}
	}
}

// P7.1: ErrArg comes before ErrFull.
func TestEncodeErrors(t *testing.T) {
	for n, i := range invalid() {
		if b, e := encode.Encode(i); e != api.ErrArg || len(b) > 0 {
			t.Error(n, short(b), e)
		}
		for _, x := range []api.Item{list(i, text(strings.Repeat("a", 20000))), list(text(strings.Repeat("a", 20000)), i)} {
			if b, e := encode.Encode(x); e != api.ErrArg || len(b) > 0 {
				t.Error(n, short(b), e)
			}
		}
	}
	if b, e := encode.Encode(many(many(number(1), 1000), 1000)); e != api.ErrFull || len(b) > 0 {
		t.Error(short(b), e)
	}
}

// P7.2: errors, in the order in which they are met.
func TestDecodeErrors(t *testing.T) {
	deep := strings.Repeat("0300000001", 8)
	for b, want := range map[string]api.Errno{
		"": api.ErrEnd, "00": api.ErrForm, "04": api.ErrForm, "ff": api.ErrForm, "81": api.ErrForm, "0000000000": api.ErrForm,
		"01": api.ErrEnd, "0100": api.ErrEnd, "0100000000000000": api.ErrEnd, "010000000000000000": api.OK, "01000000000000000000": api.ErrForm, "01000000000000000001": api.ErrForm,
		"02": api.ErrEnd, "02000000": api.ErrEnd, "0200000000": api.OK, "020000000000": api.ErrForm, "0200000001": api.ErrEnd, "020000000105": api.OK, "02000000010500": api.ErrForm,
		"020000000207": api.ErrEnd, "02ffffffff07": api.ErrEnd, "02800000000707": api.ErrEnd, "020000000a07": api.ErrEnd, "0201000000": api.ErrEnd, "0200010000": api.ErrEnd,
		"03": api.ErrEnd, "03000000": api.ErrEnd, "0300000000": api.OK, "030000000000": api.ErrForm, "0300000001": api.ErrEnd, "03000000010200000000": api.OK, "030000000102000000": api.ErrEnd,
		"030000000107": api.ErrForm, "0300000001020000000003": api.ErrForm, "03000000020200000000": api.ErrEnd, "0300000002020000000004": api.ErrForm,
		"03000003e8": api.ErrEnd, "03000003e9": api.ErrForm, "03ffffffff": api.ErrForm, "0380000000": api.ErrForm, "0300010000": api.ErrForm, "0301000000": api.ErrForm, "030000ffff00": api.ErrForm,
		// an error of a later item comes later, and one after the item last of all
		"03000000020100": api.ErrEnd, "030000000207" + "02": api.ErrForm, "0300000002" + "0200000009" + "00": api.ErrEnd, "0300000002" + "03000003e9" + "07": api.ErrForm, "0300000002" + "03000003e8" + "07": api.ErrForm,
		"0300000001" + "0200000000" + "03ffffffff": api.ErrForm, "0300000002" + "0200000000" + "03ffff": api.ErrEnd,
		// what is within 8 lists is no list, whatever follows it
		deep: api.ErrEnd, deep + "03": api.ErrForm, deep + "0300": api.ErrForm, deep + "0300000000": api.ErrForm, deep + "0300000001": api.ErrForm, deep + "03ffffffff": api.ErrForm, deep + "04": api.ErrForm,
		deep + "0200000000": api.OK, deep + "020000000000": api.ErrForm, deep + "010000000000000007": api.OK, deep + "01": api.ErrEnd, deep + "020000000100": api.OK,
		deep[:70] + "0300000000": api.OK, deep[:70] + "0300000002" + "0200000000" + "03": api.ErrForm, deep[:70] + "03": api.ErrEnd, deep[:70] + "03000003e9": api.ErrForm,
		deep[10:] + "0200000000" + "01": api.ErrForm, "0300000002" + deep[10:] + "0200000000" + "0200000000": api.OK, "0300000002" + deep[10:] + "0200000000" + deep[10:] + "03": api.ErrForm,
	} {
		x, err := hex.DecodeString(b)
		if err != nil {
			t.Fatal(b)
		}
		if i, e := encode.Decode(x); e != want || e != api.OK && !reflect.DeepEqual(i, api.Item{}) || e == api.OK && !valid(i) {
			t.Error(b, i, e, "not", want)
		}
	}
}

// P7.2: the limit of bytes comes before all other errors, and not too early.
func TestDecodeLongBytes(t *testing.T) {
	s, _ := encode.Encode(text(strings.Repeat("s", api.MaxBytes-5)))
	for _, b := range [][]byte{s, make([]byte, api.MaxBytes), bytes.Repeat([]byte{1}, api.MaxBytes), bytes.Repeat([]byte{2}, api.MaxBytes), bytes.Repeat([]byte{3}, api.MaxBytes)} {
		i, e := encode.Decode(b)
		if x, want := decoded(b); e != want || !reflect.DeepEqual(i, x) {
			t.Error(short(b), e, "not", want)
		}
		for _, more := range []int{1, 2, 1 << 20} {
			if i, e := encode.Decode(append(bytes.Clone(b), make([]byte, more)...)); e != api.ErrFull || !reflect.DeepEqual(i, api.Item{}) {
				t.Error(short(b), more, e)
			}
		}
	}
	// a whole item, as long as may be, and one that would be longer by one byte
	for n, want := range map[int]api.Errno{api.MaxBytes - 5: api.OK, api.MaxBytes - 4: api.ErrFull} {
		if i, e := encode.Decode(encoded(text(strings.Repeat("s", n)))); e != want || len(i.B) != n && e == api.OK {
			t.Error(n, len(i.B), e)
		}
	}
}

// P7.2, P7.6: bytes that are encodings but for a few changes.
func TestDecodeSome(t *testing.T) {
	source := rand.New(rand.NewPCG(7, 3))
	count := map[api.Errno]int{}
	for range 60000 {
		b := encoded(some(source))
		for range source.IntN(3) {
			at := source.IntN(len(b))
			switch source.IntN(4) {
			case 0:
				b[at] = byte(source.IntN(5))
			case 1:
				b = append(b, byte(source.IntN(4)))
			case 2:
				b = slices.Delete(b, at, min(len(b), at+1+source.IntN(3)))
			case 3:
				b = b[:at]
			}
			if len(b) == 0 {
				break
			}
		}
		i, e := encode.Decode(b)
		x, want := decoded(b)
		count[want]++
		if e != want || !bytes.Equal(encoded(i), encoded(x)) || i.Kind != x.Kind {
			t.Error(short(b), i, e, "not", x, want)
		}
		if again, f := encode.Encode(i); e == api.OK && (f != api.OK || !bytes.Equal(again, b)) {
			t.Error(short(b), "is encoded as", short(again), f)
		}
	}
	if count[api.OK] < 1000 || count[api.ErrEnd] < 1000 || count[api.ErrForm] < 1000 {
		t.Error("the test has too few of a kind:", count)
	}
}

// P7.2, P7.6: no beginning of an encoding is one, and nothing that follows it belongs to it.
func TestBeginnings(t *testing.T) {
	for _, i := range items() {
		b := encoded(i)
		for n := 0; n < len(b); n += 1 + len(b)/400 {
			if x, e := encode.Decode(b[:n]); e != api.ErrEnd || !reflect.DeepEqual(x, api.Item{}) {
				t.Error(short(b), n, x, e)
			}
		}
		for _, more := range []string{"\x00", "\x01", "\x02\x00\x00\x00\x00", "\x03\x00\x00\x00\x00", "\xff"} {
			if x, e := encode.Decode(append(bytes.Clone(b), more...)); e != api.ErrForm || !reflect.DeepEqual(x, api.Item{}) {
				t.Error(short(b), more, x, e)
			}
		}
	}
}

// P7.3, P7.6: different items are not equal, and have different encodings, none of which is the beginning of the other one, and different strings.
func TestDifferentItems(t *testing.T) {
	l := items()
	var codes [][]byte
	var texts []string
	for _, i := range l {
		b, e := encode.Encode(i)
		s, f := encode.Text(i)
		if e != api.OK || f != api.OK {
			t.Fatal(written(i), e, f)
		}
		codes, texts = append(codes, b), append(texts, s)
	}
	for n := range l {
		for m := range l {
			if encode.Equal(l[n], l[m]) != (n == m) {
				t.Error(texts[n], texts[m], "equal:", n != m)
			}
			if n != m && (bytes.HasPrefix(codes[n], codes[m]) || texts[n] == texts[m]) {
				t.Error(texts[n], texts[m])
			}
		}
	}
}

// P7.3
func TestEqual(t *testing.T) {
	empty := []api.Item{}
	for n, c := range []struct {
		a, b api.Item
		want bool
	}{
		{number(0), api.Item{Kind: 1, B: []byte{}, L: empty}, true}, {text(""), api.Item{Kind: 2, L: empty}, true}, {list(), api.Item{Kind: 3, B: []byte{}, L: empty}, true},
		{list(list()), list(api.Item{Kind: 3, L: empty}), true}, {nested(text("a"), 8), nested(text("a"), 8), true}, {nested(text("a"), 8), nested(text("b"), 8), false}, {nested(text("a"), 8), nested(text("a"), 7), false},
		{number(0), text(""), false}, {text(""), list(), false}, {list(), number(0), false}, {number(1), list(number(1)), false},
		// their encodings are longer than any that Encode returns
		{text(strings.Repeat("a", 20000)), text(strings.Repeat("a", 20000)), true}, {text(strings.Repeat("a", 20000)), text(strings.Repeat("a", 19999) + "b"), false},
		{many(many(number(1), 1000), 300), many(many(number(1), 1000), 300), true}, {many(many(number(1), 1000), 300), many(many(number(1), 1000), 299), false},
		{list(many(number(1), 1000), many(number(1), 999)), list(many(number(1), 999), many(number(1), 1000)), false},
	} {
		if encode.Equal(c.a, c.b) != c.want || encode.Equal(c.b, c.a) != c.want {
			t.Error(n, "not", c.want)
		}
	}
	for n, i := range invalid() {
		if encode.Equal(i, i) || encode.Equal(i, number(0)) || encode.Equal(list(), i) {
			t.Error(n)
		}
	}
	// lists that begin like those before them
	l, m := []api.Item{number(1), number(2), number(3)}, []api.Item{number(1), number(2), number(4)}
	if !encode.Equal(list(list(l[:2]...), list(l...)), list(list(m[:2]...), list(l...))) || encode.Equal(list(list(l[:2]...), list(l...)), list(list(m[:2]...), list(m...))) {
		t.Error("lists with the same beginnings")
	}
	if encode.Equal(list(list(l...), list(l[:2]...)), list(list(l...), list(l...))) {
		t.Error("lists of the same items")
	}
}

// P7.3: items without a pattern, with a copy that differs in one place, if at all.
func TestEqualSome(t *testing.T) {
	source := rand.New(rand.NewPCG(7, 4))
	var l []api.Item
	for len(l) < 300 {
		if i := some(source); valid(list(i)) && len(encoded(i)) < 60 {
			l = append(l, i)
		}
	}
	count := map[bool]int{}
	for _, a := range l {
		for _, b := range l {
			want := bytes.Equal(encoded(a), encoded(b))
			count[want]++
			if encode.Equal(a, b) != want || encode.Equal(list(a, b, a), list(a, a, a)) != want || encode.Equal(list(a, a, a), list(a, b, a)) != want {
				t.Error(written(a), written(b), !want)
			}
		}
	}
	if count[true] < 1000 || count[false] < 1000 {
		t.Error("the test has too few of a kind:", count)
	}
}

// P7.3, P7.4
func TestInts(t *testing.T) {
	for _, n := range []int{0, 1, 2, 3, 999, 1000} {
		l := slices.Repeat(numbers(), 3)[:n]
		i := encode.Ints(l)
		if !valid(i) || i.Kind != 3 || len(i.L) != n {
			t.Error(n, len(i.L))
		}
		for at, x := range i.L {
			if !reflect.DeepEqual(x, number(l[at])) {
				t.Error(n, at, x)
			}
		}
		if back, e := encode.Numbers(i); e != api.OK || !slices.Equal(back, l) {
			t.Error(n, back, e)
		}
	}
	if i := encode.Ints(nil); i.Kind != 3 || i.N != 0 || len(i.B)+len(i.L) > 0 {
		t.Error(i)
	}
	for _, n := range []int{1001, 1002, 5000} {
		i := encode.Ints(make([]int, n))
		if encode.Valid(i) || i.Kind != 3 || len(i.L) != n || !reflect.DeepEqual(i.L[n-1], number(0)) {
			t.Error(n, len(i.L))
		}
		if l, e := encode.Numbers(i); e != api.ErrArg || len(l) > 0 {
			t.Error(n, len(l), e)
		}
	}
}

// P7.4
func TestNumber(t *testing.T) {
	for _, n := range numbers() {
		if x, e := encode.Number(number(n)); x != n || e != api.OK {
			t.Error(n, x, e)
		}
	}
	for _, i := range []api.Item{text(""), text("1"), text("\x00\x00\x00\x00\x00\x00\x00\x01"), list(), list(number(1)), nested(number(1), 8), text(strings.Repeat("a", 20000)), many(number(1), 1000)} {
		if x, e := encode.Number(i); x != 0 || e != api.ErrForm {
			t.Error(written(i), x, e)
		}
	}
	for n, i := range invalid() {
		if x, e := encode.Number(i); x != 0 || e != api.ErrArg {
			t.Error(n, x, e)
		}
	}
}

// P7.4
func TestNumbers(t *testing.T) {
	for _, i := range []api.Item{list(), {Kind: 3, L: []api.Item{}}} {
		if l, e := encode.Numbers(i); len(l) > 0 || e != api.OK {
			t.Error(l, e)
		}
	}
	if l, e := encode.Numbers(list(number(3), number(-1), number(3), number(math.MinInt))); !slices.Equal(l, []int{3, -1, 3, math.MinInt}) || e != api.OK {
		t.Error(l, e)
	}
	for _, i := range []api.Item{
		number(0), number(1), text(""), text("1"), list(text("")), list(text("1")), list(list()), list(list(number(1))), list(number(1), text("2")), list(text("1"), number(2)), list(number(1), list(), number(2)),
		list(append(many(number(1), 999).L, text(""))...), nested(number(1), 2), nested(number(1), 8),
	} {
		if l, e := encode.Numbers(i); len(l) > 0 || e != api.ErrForm {
			t.Error(written(i), l, e)
		}
	}
	for n, i := range invalid() {
		for _, x := range []api.Item{i, list(number(1), i), list(text(""), i)} {
			if l, e := encode.Numbers(x); len(l) > 0 || e != api.ErrArg {
				t.Error(n, l, e)
			}
		}
	}
}

// P7.5
func TestText(t *testing.T) {
	for want, i := range map[string]api.Item{
		"(-1 x05)": list(number(-1), text("\x05")), "0": number(0), "7": number(7), "-7": number(-7), "9223372036854775807": number(math.MaxInt), "-9223372036854775808": number(math.MinInt),
		"x": text(""), "x00": text("\x00"), "x0aa0ff10": text("\n\xa0\xff\x10"), "x616263": text("abc"), "()": list(), "(())": list(list()), "(() ())": list(list(), list()), "(x x)": list(text(""), text("")),
		"(1 (2 (3 x) ()) -4)": list(number(1), list(number(2), list(number(3), text("")), list()), number(-4)), "((((((((1))))))))": nested(number(1), 8), "((((((((x))))))))": nested(text(""), 8),
	} {
		if s, e := encode.Text(i); s != want || e != api.OK {
			t.Error(s, e, "not", want)
		}
	}
	source := rand.New(rand.NewPCG(7, 5))
	l := append(items(), text(strings.Repeat("ab", 20000)), many(many(number(-12), 1000), 20))
	for len(l) < 3000 {
		if i := some(source); valid(i) {
			l = append(l, i)
		}
	}
	for n, i := range l {
		if s, e := encode.Text(i); s != written(i) || e != api.OK {
			t.Error(n, short([]byte(s)), e)
		}
	}
	for n, i := range invalid() {
		if s, e := encode.Text(i); s != "" || e != api.ErrArg {
			t.Error(n, s, e)
		}
	}
}

// P1: items that share their lists are many, but no function has to walk them all.
func TestItemsThatShare(t *testing.T) {
	i, same, other := wide(1), wide(1), wide(2)
	deep := list(wide(1))
	if !encode.Valid(i) || encode.Valid(deep) || encode.Valid(list(i.L[0], i, number(1))) {
		t.Error("valid")
	}
	if b, e := encode.Encode(i); e != api.ErrFull || len(b) > 0 {
		t.Error(len(b), e)
	}
	if b, e := encode.Encode(deep); e != api.ErrArg || len(b) > 0 {
		t.Error(len(b), e)
	}
	if !encode.Equal(i, i) || !encode.Equal(i, same) || encode.Equal(i, other) || encode.Equal(deep, deep) {
		t.Error("equal")
	}
	if n, e := encode.Number(i); n != 0 || e != api.ErrForm {
		t.Error(n, e)
	}
	if l, e := encode.Numbers(i); len(l) > 0 || e != api.ErrForm {
		t.Error(l, e)
	}
	if s, e := encode.Text(deep); s != "" || e != api.ErrArg {
		t.Error(len(s), e)
	}
}

// P1: an item that contains itself has no depth, and is not valid.
func TestItemsThatContainThemselves(t *testing.T) {
	l, m, n := make([]api.Item, 1), make([]api.Item, 1000), make([]api.Item, 3)
	l[0] = list(l...)
	for i := range m {
		m[i] = list(m...)
	}
	n[0], n[1], n[2] = list(list(), number(1)), many(list(number(2)), 1000), list(n...)
	for at, i := range []api.Item{list(l...), list(m...), list(n...), list(m[:1]...), list(number(1), list(l...)), list(l[0], m[0], n[0])} {
		if encode.Valid(i) || encode.Equal(i, i) || encode.Equal(i, list()) {
			t.Error(at)
		}
		if b, e := encode.Encode(i); e != api.ErrArg || len(b) > 0 {
			t.Error(at, len(b), e)
		}
		if x, e := encode.Number(i); e != api.ErrArg || x != 0 {
			t.Error(at, x, e)
		}
		if x, e := encode.Numbers(i); e != api.ErrArg || len(x) > 0 {
			t.Error(at, len(x), e)
		}
		if s, e := encode.Text(i); e != api.ErrArg || s != "" {
			t.Error(at, len(s), e)
		}
	}
}

// fill writes over all that belongs to an item, up to the capacities.
func fill(i api.Item) {
	for _, x := range i.L {
		fill(x)
	}
	for at := range cap(i.B) {
		i.B[:cap(i.B)][at] = 0xee
	}
	for at := range cap(i.L) {
		i.L[:cap(i.L)][at] = number(99)
	}
}

// without returns the items of a list but for one.
func without(l []api.Item, at int) []api.Item { return slices.Delete(slices.Clone(l), at, at+1) }

// Results share no memory with arguments, and parts of a result none with each other.
func TestNoMemoryIsShared(t *testing.T) {
	i := list(text("abc"), text("abc"), list(number(1), text("")), list(number(1), text("")), text("abc"))
	code := encoded(i)
	b, _ := encode.Encode(i)
	x, _ := encode.Decode(b)
	l := []int{1, 2, 3}
	ints := encode.Ints(l)
	back, _ := encode.Numbers(ints)
	for at := range b[:cap(b)] {
		b[:cap(b)][at] = 0xdd
	}
	if !bytes.Equal(encoded(x), code) || !bytes.Equal(encoded(i), code) {
		t.Error("the bytes are shared")
	}
	fill(i)
	if !bytes.Equal(encoded(x), code) {
		t.Error("the item is shared")
	}
	l[0] = 7
	ints.L[1].N = 7
	if !slices.Equal(back, []int{1, 2, 3}) || ints.L[0].N != 1 || l[1] != 2 {
		t.Error("the numbers are shared", back, ints, l)
	}
	for at := range 5 {
		x, _ := encode.Decode(code)
		want := encoded(list(without(x.L, at)...))
		fill(x.L[at])
		if !bytes.Equal(encoded(list(without(x.L, at)...)), want) {
			t.Error(at, "is shared")
		}
	}
}

// Arguments are kept, also what lies behind their ends.
func TestArgumentsAreKept(t *testing.T) {
	b := []byte("abcdef")
	l := []api.Item{number(1), {Kind: 2, B: b[:2]}, {Kind: 3, L: []api.Item{number(2), text("x")}[:1]}, number(4), number(5)}
	i := api.Item{Kind: 3, L: l[:3]}
	code := append(encoded(i), 1, 2, 3)
	ints := []int{5, 6, 7, 8}
	encode.Valid(i)
	encode.Encode(i)
	encode.Equal(i, i)
	encode.Text(i)
	encode.Number(i)
	encode.Numbers(i)
	encode.Numbers(api.Item{Kind: 3, L: l[:1]})
	if x, e := encode.Decode(code[:len(code)-3]); e != api.OK || !encode.Equal(x, i) {
		t.Error(x, e)
	}
	encode.Ints(ints[:2])
	if string(b) != "abcdef" || !slices.Equal(ints, []int{5, 6, 7, 8}) {
		t.Error(b, ints)
	}
	want := []api.Item{number(1), text("ab"), list(number(2)), number(4), number(5)}
	if !reflect.DeepEqual(l, want) || !reflect.DeepEqual(l[2].L[:2], []api.Item{number(2), text("x")}) {
		t.Error(l)
	}
	if !bytes.Equal(code, append(encoded(i), 1, 2, 3)) {
		t.Error(code)
	}
}
