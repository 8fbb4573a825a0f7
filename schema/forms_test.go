package schema_test

import (
	"bytes"
	"slices"
	"strings"
	"testing"

	"arrayarchive/api"
	"arrayarchive/schema"
)

const richText = `group /
dim t 3 open
dim x 200
var t i32 ( t ) ( 8 ) none ""
var temp i16 ( t x ) ( 1 300 ) -1 "K" round(0,5) delta(2,) shuffle(8,1/2) pack(0,)
vattr long "a \"b\" \\ c"
vattr range -1/3 200
group /a
dim x 2
dim y 0 open
attr empty ""
var one i8 ( ) ( ) 127 ""
var w num ( x t ) ( 2 2 ) 1/2 "km/h"
var x i64 ( x y ) ( 1 1 ) none ""
group /a/b
var deep num ( y x t ) ( 1 1024 4 ) none "" dict(1,)
group /a/b/c
group /a_b
dim t 1
var t i8 ( t ) ( 1 ) 0 ""
`

// P3.5

func TestPrint(t *testing.T) {
	if got, errno := schema.Print(rich()); got != richText || errno != api.OK {
		t.Errorf("Print: error %d\n%s", errno, got)
	}
	if got, errno := schema.Print(schema.Empty()); got != "group /\n" || errno != api.OK {
		t.Errorf("Print of Empty: %q, error %d", got, errno)
	}
}

func TestParse(t *testing.T) {
	if s, errno := schema.Parse(richText); !schema.Equal(s, rich()) || errno != api.OK {
		t.Errorf("Parse: error %d, %v", errno, s)
	}
	if s, errno := schema.Parse("group /\n"); !schema.Equal(s, schema.Empty()) || errno != api.OK {
		t.Errorf("Parse of the text of Empty: error %d, %v", errno, s)
	}
}

// Each of these texts of attributes is one word.
func TestQuotes(t *testing.T) {
	for _, c := range [][2]string{{``, `""`}, {` `, `" "`}, {`  a  `, `"  a  "`}, {`"`, `"\""`}, {`\`, `"\\"`}, {`\"`, `"\\\""`}, {`"" `, `"\"\" "`}, {`\\ `, `"\\\\ "`}, {`a\" b`, `"a\\\" b"`}, {`) ( none`, `") ( none"`}, {`1`, `"1"`}, {`~`, `"~"`}} {
		s := schema.Empty()
		s.Groups[0].Attrs = []api.Attr{{Name: "a", Kind: api.AttrText, Text: c[0]}}
		want := "group /\nattr a " + c[1] + "\n"
		if got, errno := schema.Print(s); got != want || errno != api.OK {
			t.Errorf("Print of %q: %q, error %d", c[0], got, errno)
		}
		if back, errno := schema.Parse(want); !schema.Equal(back, s) || errno != api.OK {
			t.Errorf("Parse of %q: %v, error %d", want, back, errno)
		}
	}
}

// Lines that cannot stand behind the lines `group /`, `dim t 3`, or in place of them.
func TestParseErrors(t *testing.T) {
	for _, line := range []string{
		"", " ", "x", "group", "group ", "group /", "group a", "group /A", "group /a/b", "group  /a", "group /a ", " group /a", "group /a open", "Group /a", "group\t/a", "group /a\r",
		"dim", "dim z", "dim z 1 ", "dim z 1 close", "dim z 1 open open", "dim z 1 open ", "dim z -1", "dim z +1", "dim z 01", "dim z 1025", "dim z 1.0", "dim z x", "dim z 99999999999999999999", "dim  z 1", "dim z  1", "dim t 3", "dim Z 1", "dim \"z\" 1",
		"attr", "attr a", "attr a ", "attr a 01", "attr a 1  2", "attr a 1 ", "attr a \"", "attr a \"a", "attr a a\"", "attr a a", "attr a 'a'", "attr a \"a\" ", "attr a \"a\" 1", "attr a 1 \"a\"", "attr a \"a\"\"b\"", "attr a \"a\"b", "attr a \"\\\"", "attr a \"a\\b\"", "attr a \"\\n\"", "attr a \"\t\"", "attr a \"\u00e9\"", "attr A 1", "attr  a 1", "attr a" + strings.Repeat(" 1", 33), "attr a \"" + strings.Repeat("a", 201) + "\"", "vattr a 1",
		"var", "var v", "var v i8", "var v i8 (", "var v i8 ( )", "var v i8 ( ) ( )", "var v i8 ( ) ( ) 0", "var v i8 ( ) ( ) 0 ", "var v i8 () () 0 \"\"", "var v i8 (  ) (  ) 0 \"\"", "var v i8 (t) (1) 0 \"\"", "var v i8 ( t ) ( ) 0 \"\"", "var v i8 ( ) ( 1 ) 0 \"\"", "var v i8 ( t ) ( 01 ) 0 \"\"", "var v i8 ( t ) ( 0 ) 0 \"\"", "var v i8 ( t ) ( x ) 0 \"\"", "var v i8 ( q ) ( 1 ) 0 \"\"", "var v i8 ( t t ) ( 1 1 ) 0 \"\"", "var v i8 ( t ( 1 ) 0 \"\"", "var v i8 t ( 1 ) 0 \"\"", "var v i8 t ) ( 1 ) 0 \"\"",
		"var v i9 ( ) ( ) 0 \"\"", "var v 1 ( ) ( ) 0 \"\"", "var v  ( ) ( ) 0 \"\"", "var v I8 ( ) ( ) 0 \"\"", "var v i8 ( ) ( )  \"\"", "var v i8 ( ) ( ) missing \"\"", "var v i8 ( ) ( ) 00 \"\"", "var v i8 ( ) ( ) 128 \"\"", "var v i8 ( ) ( ) none K", "var v i8 ( ) ( ) none \"", "var v i8 ( ) ( ) none \"K", "var v i8 ( ) ( ) none \"kelvin\"", "var v i8 ( ) ( ) none \"\\K\"", "var v i8 ( ) ( ) 0 \"\" ", "var v i8 ( ) ( ) 0  \"\"",
		"var v i8 ( ) ( ) 0 \"\" round", "var v i8 ( ) ( ) 0 \"\" round()", "var v i8 ( ) ( ) 0 \"\" round(0)", "var v i8 ( ) ( ) 0 \"\" round(,)", "var v i8 ( ) ( ) 0 \"\" round(0,", "var v i8 ( ) ( ) 0 \"\" round(0,0)", "var v i8 ( ) ( ) 0 \"\" round(0,-1)", "var v i8 ( ) ( ) 0 \"\" round(0,1))", "var v i8 ( ) ( ) 0 \"\" round(0,1,2)", "var v i8 ( ) ( ) 0 \"\" round(00,)", "var v i8 ( ) ( ) 0 \"\" round(9,)", "var v i8 ( ) ( ) 0 \"\" round(-1,)", "var v i8 ( ) ( ) 0 \"\" round (0,)", "var v i8 ( ) ( ) 0 \"\" round( 0,)", "var v i8 ( ) ( ) 0 \"\" rounds(0,)", "var v i8 ( ) ( ) 0 \"\" (0,)", "var v i8 ( ) ( ) 0 \"\" 1(0,)", "var v i8 ( ) ( ) 0 \"\"round(0,)", "var v i8 ( ) ( ) 0 \"\"" + strings.Repeat(" pack(0,)", 5),
		"var V i8 ( ) ( ) 0 \"\"",
	} {
		for _, text := range []string{"group /\ndim t 3\n" + line + "\n", line + "\ngroup /\n", "group /\n" + line + "\ndim t 3\n"} {
			if s, errno := schema.Parse(text); errno != api.ErrSyntax || !isEmpty(s) {
				t.Errorf("Parse(%.60q): %v, error %d", text, s, errno)
			}
		}
	}
}

// checkText checks that a text is parsed as a schema whose text it is, or not at all.
func checkText(t *testing.T, text string) bool {
	t.Helper()
	s, errno := schema.Parse(text)
	if errno != api.OK {
		if errno != api.ErrSyntax || !isEmpty(s) {
			t.Errorf("Parse(%q): %v, error %d", text, s, errno)
		}
		return false
	}
	if again, e := schema.Print(s); again != text || e != api.OK {
		t.Errorf("Print of Parse: error %d, %q, not %q", e, again, text)
	}
	return true
}

// The order of lines is that of the schema.
func TestParseOrder(t *testing.T) {
	lines := strings.SplitAfter(richText, "\n")
	lines = lines[:len(lines)-1]
	for i := range lines {
		checkText(t, strings.Join(slices.Delete(slices.Clone(lines), i, i+1), ""))
		for j := range i {
			l := slices.Clone(lines)
			l[i], l[j] = l[j], l[i]
			checkText(t, strings.Join(l, ""))
		}
	}
	for _, text := range []string{
		"group /\nattr a 1\ndim t 3\n", "group /\nvar v i8 ( ) ( ) 0 \"\"\ndim t 3\n", "group /\nvar v i8 ( ) ( ) 0 \"\"\nattr a 1\n", "group /\ndim x 3\ndim t 3\n", "group /\nattr b 1\nattr a 1\n", "group /\nvar v i8 ( ) ( ) 0 \"\"\nvar a i8 ( ) ( ) 0 \"\"\n", "group /\nvar v i8 ( ) ( ) 0 \"\"\nvattr b 1\nvattr a 1\n", "group /\nvattr a 1\nvar v i8 ( ) ( ) 0 \"\"\n", "group /\ngroup /b\ngroup /a\n", "group /a\ngroup /\n", "group /\nvar v i8 ( ) ( ) 0 \"\"\ngroup /a\nvattr a 1\n",
	} {
		if s, errno := schema.Parse(text); errno != api.ErrSyntax || !isEmpty(s) {
			t.Errorf("Parse(%q): error %d", text, errno)
		}
	}
}

func TestParseOfOtherTexts(t *testing.T) {
	for _, text := range []string{"", "\n", "group /", richText[1:], richText + "\n", richText + " ", "\n" + richText, strings.TrimSuffix(richText, "\n"), strings.ReplaceAll(richText, "\n", "\r\n"), richText + richText, strings.Repeat("group /\n", 1<<17), strings.Repeat("\n", 1<<20), strings.Repeat(" ", 1<<20), strings.Repeat("\"", 1<<20), "group /\nattr a" + strings.Repeat(" 1", 1<<19) + "\n", "group /\nattr a \"" + strings.Repeat("\\", 1<<20)} {
		if s, errno := schema.Parse(text); errno != api.ErrSyntax || !isEmpty(s) {
			t.Errorf("Parse(%.60q): error %d", text, errno)
		}
	}
}

// The longest text there is: full lists of everything in every group.
func TestLongestText(t *testing.T) {
	var s api.Schema
	texts, nums := attrs(16), attrs(16)
	for i := range texts {
		texts[i].Text = strings.Repeat(`"`, 200)
		nums[i] = api.Attr{Name: nums[i].Name, Kind: api.AttrNums, Nums: slices.Repeat([]string{"-1/" + strings.Repeat("7", 40)}, 32)}
	}
	for i := range 16 {
		g := api.Group{Path: "/", Dims: dims(16), Vars: vars(24), Attrs: texts}
		if i > 0 {
			g.Path = numbered("/", i)
		}
		for j := range g.Vars {
			g.Vars[j].Attrs = nums
		}
		s.Groups = append(s.Groups, g)
	}
	text, errno := schema.Print(s)
	if back, e := schema.Parse(text); errno != api.OK || e != api.OK || !schema.Equal(back, s) {
		t.Errorf("the longest text: errors %d, %d", errno, e)
	}
	b, errno := schema.Encode(s, 1)
	if back, version, e := schema.Decode(b); errno != api.OK || e != api.OK || version != 1 || !schema.Equal(back, s) {
		t.Errorf("the longest encoding: errors %d, %d", errno, e)
	}
}

// P3.6

// richBytes returns the encoding of rich, as the chapter says, by hand.
func richBytes() []byte {
	var l [][]byte
	add := func(parts ...any) {
		for _, p := range parts {
			switch x := p.(type) {
			case int:
				l = append(l, []byte{byte(x)})
			case string:
				l = append(l, []byte{byte(len(x))}, []byte(x))
			}
		}
	}
	add(0x41, 0x41, 2, 5)
	add("/", 2, "t", 3, 1, "x", 0xC8, 0x01, 0)
	add(0, 2)
	add("t", 3, 1, "t", 8, "", "", 0, 0)
	add("temp", 2, 2, "t", 1, "x", 0xAC, 0x02, "-1", "K", 4, 1, 0, "5", 2, 2, "", 3, 8, "1/2", 5, 0, "")
	add(2, "long", 1, `a "b" \ c`, "range", 2, 2, "-1/3", "200")
	add("/a", 2, "x", 2, 0, "y", 0, 1)
	add(1, "empty", 1, "", 3)
	add("one", 1, 0, "127", "", 0, 0)
	add("w", 5, 2, "x", 2, "t", 2, "1/2", "km/h", 0, 0)
	add("x", 4, 2, "x", 1, "y", 1, "", "", 0, 0)
	add("/a/b", 0, 0, 1)
	add("deep", 5, 3, "y", 1, "x", 0x80, 0x08, "t", 4, "", "", 1, 4, 1, "", 0)
	add("/a/b/c", 0, 0, 0)
	add("/a_b", 1, "t", 1, 0, 0, 1)
	add("t", 1, 1, "t", 1, "0", "", 0, 0)
	return bytes.Join(l, nil)
}

func TestEncode(t *testing.T) {
	if b, errno := schema.Encode(rich(), 2); !bytes.Equal(b, richBytes()) || errno != api.OK {
		t.Errorf("Encode: error %d\n%x\n%x", errno, b, richBytes())
	}
	if s, version, errno := schema.Decode(richBytes()); !schema.Equal(s, rich()) || version != 2 || errno != api.OK {
		t.Errorf("Decode: error %d, version %d, %v", errno, version, s)
	}
	for version, want := range map[int][]byte{1: {0x41, 0x41, 1, 1, 1, 0x2F, 0, 0, 0}, 2: {0x41, 0x41, 2, 1, 1, 0x2F, 0, 0, 0}} {
		if b, errno := schema.Encode(schema.Empty(), version); !bytes.Equal(b, want) || errno != api.OK {
			t.Errorf("Encode of Empty in version %d: %x, error %d", version, b, errno)
		}
		if s, v, errno := schema.Decode(want); !schema.Equal(s, schema.Empty()) || v != version || errno != api.OK {
			t.Errorf("Decode of %x: %v, version %d, error %d", want, s, v, errno)
		}
	}
}

func TestEncodeNumbers(t *testing.T) {
	for n := range api.MaxSize + 1 {
		s := api.Schema{Groups: []api.Group{{Path: "/", Dims: []api.Dim{{Name: "t", Size: n}}}}}
		want := append([]byte("AA\x02\x01\x01/\x01\x01t"), byte(n%128))
		if n >= 128 {
			want[len(want)-1] += 128
			want = append(want, byte(n/128))
		}
		want = append(want, 0, 0, 0)
		if b, errno := schema.Encode(s, 2); !bytes.Equal(b, want) || errno != api.OK {
			t.Errorf("Encode of the size %d: %x, error %d", n, b, errno)
		}
		if back, _, errno := schema.Decode(want); !schema.Equal(back, s) || errno != api.OK {
			t.Errorf("Decode of the size %d: %v, error %d", n, back, errno)
		}
	}
}

func TestEncodeVersionOne(t *testing.T) {
	s := api.Schema{Groups: []api.Group{{Path: "/", Dims: []api.Dim{{Name: "t", Size: 128}}, Vars: []api.Var{{Name: "v", Type: api.TypeI8, Dims: []string{"t"}, Chunks: []int{127}, Fill: "-1", Attrs: []api.Attr{attr("a")}}}}}}
	want := []byte("AA\x01\x01\x01/\x01\x01t\x80\x01\x00\x00\x01\x01v\x01\x01\x01t\x7f\x02-1\x01\x01a\x01\x04text")
	if b, errno := schema.Encode(s, 1); !bytes.Equal(b, want) || errno != api.OK {
		t.Errorf("Encode: %q, error %d", b, errno)
	}
	if back, version, errno := schema.Decode(want); !schema.Equal(back, s) || version != 1 || errno != api.OK {
		t.Errorf("Decode: %v, version %d, error %d", back, version, errno)
	}
	for name, edit := range map[string]func(v *api.Var){"a unit": func(v *api.Var) { v.Unit = "1" }, "a stage": func(v *api.Var) { v.Stages = []api.Stage{{Kind: api.StageDict}} }} {
		v := s.Groups[0].Vars[0]
		edit(&v)
		other := api.Schema{Groups: []api.Group{{Path: "/"}, {Path: "/a", Dims: s.Groups[0].Dims, Vars: []api.Var{v}}}}
		if b, errno := schema.Encode(other, 1); len(b) != 0 || errno != api.ErrVersion {
			t.Errorf("%s: %q, error %d", name, b, errno)
		}
	}
}

func TestEncodeVersions(t *testing.T) {
	for _, version := range []int{0, 3, -1, 257, 258, -254, 1 << 40} {
		if b, errno := schema.Encode(schema.Empty(), version); len(b) != 0 || errno != api.ErrVersion {
			t.Errorf("version %d: %x, error %d", version, b, errno)
		}
	}
}

func TestDecodeErrors(t *testing.T) {
	right := richBytes()
	bad := [][]byte{nil, {}, []byte("A"), []byte("AA"), []byte("AA\x02"), []byte("AA\x01"), append(slices.Clone(right), 0), append(slices.Clone(right), right...), bytes.Repeat([]byte{0xFF}, 1<<20), append([]byte("AA\x02"), bytes.Repeat([]byte{0xFF}, 1<<20)...), make([]byte, 1<<20)}
	for i := range right {
		bad = append(bad, right[:i])
	}
	for _, version := range []byte{0, 1, 3, 0x82, 0xFF} {
		b := slices.Clone(right)
		b[2] = version
		bad = append(bad, b)
	}
	for _, b := range []string{
		"AB\x02\x01\x01/\x00\x00\x00", "BA\x02\x01\x01/\x00\x00\x00", "aa\x02\x01\x01/\x00\x00\x00", "AA\x03\x01\x01/\x00\x00\x00", "AA\x00\x01\x01/\x00\x00\x00",
		"AA\x02\x00", "AA\x02\x81\x00\x01/\x00\x00\x00", "AA\x02\x01\x81\x00/\x00\x00\x00", "AA\x02\x01\x01/\x80\x00\x00\x00", "AA\x02\x01\x01/\x00\x80\x00\x00", "AA\x02\x01\x01/\x00\x00\x80\x00", "AA\x02\x81\x80\x00\x01/\x00\x00\x00",
		"AA\x02\x01\x01a\x00\x00\x00", "AA\x02\x01\x02/a\x00\x00\x00", "AA\x02\x02\x01/\x00\x00\x00\x01/\x00\x00\x00", "AA\x02\x01\x01/\x00\x00\x00\x00", "AA\x02\x01\x7f/",
		"AA\x02\x01\x01/\x01\x01t\x03\x02\x00\x00", "AA\x02\x01\x01/\x01\x01t\x03\x80\x00\x00\x00", "AA\x02\x01\x01/\x01\x01t\x81\x08\x00\x00\x00", "AA\x02\x01\x01/\x01\x01T\x01\x00\x00\x00", "AA\x02\x01\x01/\x01\x00\x01\x00\x00\x00", "AA\x02\x01\x01/\x00\x01\x01a\x03\x00\x00", "AA\x02\x01\x01/\x00\x01\x01a\x02\x00\x00", "AA\x02\x01\x01/\x00\x01\x01a\x02\x01\x0201\x00",
		"AA\x02\x01\x01/\x01\x01t\xff\xff\xff\xff\xff\xff\xff\xff\xff\x01\x00\x00\x00", "AA\x02\xff\xff\xff\xff\xff\xff\xff\xff\x7f", "AA\x02\x01\x81\x80\x80\x80\x80\x80\x80\x80\x80\x80\x80\x00/\x00\x00\x00", "AA\x02\x01\xff\xff\xff\xff\xff\xff\xff\xff\xff\x01/\x00\x00\x00",
	} {
		bad = append(bad, []byte(b))
	}
	for _, b := range bad {
		if s, version, errno := schema.Decode(b); errno != api.ErrBytes || version != 0 || !isEmpty(s) {
			t.Errorf("Decode(%.40q): %v, version %d, error %d", b, s, version, errno)
		}
	}
}

func TestDecodeKeepsNothing(t *testing.T) {
	b := richBytes()
	s, _, _ := schema.Decode(b)
	if !bytes.Equal(b, richBytes()) {
		t.Error("Decode changes its argument")
	}
	clear(b)
	if !schema.Equal(s, rich()) {
		t.Error("Decode keeps its argument")
	}
}
