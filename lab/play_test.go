package lab_test

import (
	"fmt"
	"strings"
	"testing"

	"arrayarchive/api"
	"arrayarchive/lab"
)

// P10.8

// play carries out a script, in which each line stands in front of its answer, behind a `->`.
func play(t *testing.T, script string) {
	t.Helper()
	var lines, want []string
	for _, step := range strings.Split(strings.TrimSpace(script), "\n") {
		line, answer, _ := strings.Cut(step, " -> ")
		lines, want = append(lines, line), append(want, answer)
	}
	answers, errno := lab.Play(200, lines)
	if errno != api.OK || len(answers) != len(want) {
		t.Fatalf("Play: %d answers, error %d, want %d", len(answers), errno, len(want))
	}
	for i, answer := range answers {
		if answer != want[i] {
			t.Errorf("line %d, %q: %q, want %q", i, lines[i], answer, want[i])
		}
	}
}

// begin makes a variable v over t with the elements 3 and 4.
const begin = `
dim / t 2 open -> ok
var / v i16 ( t ) ( 2 ) 0 "" -> ok
write / v 0:2:1 3,4 -> ok`

func TestExamples(t *testing.T) {
	play(t, begin+`
value sum(/v, t) -> - - 7
derive / s - sum(/v, t) -> ok
write / v 0:1:1 5 -> ok
stale -> /:s
refresh -> /:s
read / s -> - 9
write / v 0:1:1 3 -> ok
stale -> /:s
write / v 0:1:1 5 -> ok
stale -> -
grow / t 1 -> ok
derive / n - count(/v, t) -> ok
grow / t 1 -> ok
stale -> /:n
current / n -> no
current / s -> yes
`)
}

func TestChangeLines(t *testing.T) {
	play(t, `
group /a -> ok
group /a/b -> ok
group /a -> error 32
group / -> error 32
group /x/y -> error 31
group /a/b/c/d -> error 31
group x -> error 102
group /A -> error 102
group /a/ -> error 102
group /a/b/c/d/e -> error 102
group -> error 102
group  -> error 102
group /c /d -> error 102
group /c  -> error 102
dim / t 3 -> ok
dim /a t 0 open -> ok
dim /a x 0004 open -> ok
dim /a y 000000005 open -> ok
dim /a z 0000000005 open -> error 102
dim /a z 1025 -> error 4
dim /a z 999999999 -> error 4
dim /a z -1 -> error 102
dim /a z +1 -> error 102
dim /a z 1.0 -> error 102
dim /a z -> error 102
dim /a z 1 closed -> error 102
dim /a z 1 open open -> error 102
dim /a z 1  -> error 102
dim /a z 1 open  -> error 102
dim /a Z 1 -> error 6
dim /q z 1 -> error 31
grow / t 1 -> error 34
grow /a x 01 -> ok
grow /a x 0 -> ok
grow /a q 1 -> error 31
grow /a x 1020 -> error 4
grow /a x -> error 102
grow /a x 1 1 -> error 102
grow a x 1 -> error 102
grow /a  1 -> error 102
var /a v i8 ( x ) ( 1 ) none "" -> ok
read /a v -> 5 _,_,_,_,_
name /a v w -> ok
name /a v w -> error 31
name /a w w -> error 32
name /a w W -> error 6
name /a w -> error 102
name /a w  -> error 102
name /a w x y -> error 102
read /a w -> 5 _,_,_,_,_
drop /a v -> error 31
drop /a w w -> error 102
drop /a -> error 102
drop w w -> error 102
drop /a w -> ok
read /a w -> error 31
generation -> 12
`)
}

func TestVarLines(t *testing.T) {
	play(t, `
dim / t 2 open -> ok
var / v num ( ) ( ) none "" -> ok
var / w i16 ( t ) ( 2 ) -1 "K" round(0,5) delta(2,) -> ok
var /a w i16 ( t ) ( 2 ) -1 "K" -> error 31
var / w i16 ( t ) ( 2 ) -1 "K" -> error 32
var / x i16 ( t ) ( 2 ) -1 "K"  -> error 3
var / x i16 ( t ) ( 2 ) -1  "K" -> error 3
var /  x i16 ( t ) ( 2 ) -1 "K" -> error 3
var / x i16 (t) ( 2 ) -1 "K" -> error 3
var / x i16 ( t ) ( 02 ) -1 "K" -> error 3
var / x i16 ( t ) ( 0 ) -1 "K" -> error 3
var / x i16 ( t ) ( ) -1 "K" -> error 3
var / x i16 ( T ) ( 2 ) -1 "K" -> error 3
var / x i16 ( t t ) ( 2 2 ) -1 "K" -> error 3
var / x i16 ( a b c d e ) ( 1 1 1 1 1 ) -1 "K" -> error 3
var / x i16 ( a b c d ) ( 1 1 1 1 ) -1 "K" -> error 30
var / x i16 ( t ) ( 1025 ) -1 "K" -> error 3
var / x i16 ( d c b a ) ( 9 9 9 9 ) -1 "K" -> error 3
var / x i16 ( t ) ( 2 ) 40000 "K" -> error 3
var / x i16 ( t ) ( 2 ) 1/2 "K" -> error 3
var / x num ( t ) ( 2 ) 2/4 "K" -> error 3
var / x num ( t ) ( 2 )  "K" -> error 3
var / x i16 ( t ) ( 2 ) -1 "x" -> error 3
var / x i16 ( t ) ( 2 ) -1 K -> error 3
var / x i16 ( t ) ( 2 ) -1 -> error 3
var / x i16 ( t ) ( 2 ) -1 "K" round(0,05) -> error 3
var / x i16 ( t ) ( 2 ) -1 "K" round(0,-5) -> error 3
var / x i16 ( t ) ( 2 ) -1 "K" delta(9,) -> error 3
var / x i16 ( t ) ( 2 ) -1 "K" delta(2) -> error 3
var / x i16 ( t ) ( 2 ) -1 "K" delta(,) -> error 3
var / x i16 ( t ) ( 2 ) -1 "K" sort(2,) -> error 3
var / x i16 ( t ) ( 2 ) -1 "K" dict(0,) dict(0,) dict(0,) dict(0,) dict(0,) -> error 3
var / x i16 ( t ) ( 2 ) -1 "K" delta(0,) -> error 40
var / x i16 ( t ) ( 2 ) -1 "K" dict(0,) round(0,1) -> error 40
var / x i8 ( t ) ( 2 ) 127 "K" round(0,128) -> error 41
var / X i16 ( t ) ( 2 ) -1 "K" -> error 3
var / x i17 ( t ) ( 2 ) -1 "K" -> error 3
var / x I16 ( t ) ( 2 ) -1 "K" -> error 3
var / x i16 ( u ) ( 2 ) -1 "K" -> error 30
var / x -> error 3
var / "" -> error 3
var /  -> error 102
var / -> error 102
var  -> error 102
var -> error 102
var x x i16 ( t ) ( 2 ) -1 "K" -> error 102
var x i16 ( t ) ( 2 ) -1 "K" -> error 102
var / x i16 ( t ) ( 2 ) -1 "K" -> ok
read / x -> 2 -1,-1
read / w -> 2 0,0
`)
}

// What a line with a line feed has is more than a line of Print.
func TestVarLineFeeds(t *testing.T) {
	lines := []string{
		"var / v num ( ) ( ) none \"\"\n",
		"var / v num ( ) ( ) none \"\"\nvattr a \"x\"",
		"var / v num ( ) ( ) none \"\"\nvar w num ( ) ( ) none \"\"",
		"var / v num ( ) ( ) none \"\"\ngroup /a",
		"var / v num ( a\nvar ) ( ) none \"\"",
		"var / \nvar v num ( ) ( ) none \"\"",
		"var / v num ( a 0\ndim b ) ( 1 1 ) none \"\"",
		"var / v\tnum ( ) ( ) none \"\"",
	}
	answers, errno := lab.Play(30, lines)
	checkErrno(t, "Play", errno, api.OK)
	for i, answer := range answers {
		if answer != "error 3" {
			t.Errorf("%q: %q", lines[i], answer)
		}
	}
}

// Each line that Line makes of a variable is one of a script.
func TestVarLinesOfLine(t *testing.T) {
	r := newRandom(3)
	for range 40 {
		lines := []string{"dim / t 2", "dim / x 2", "dim / group 2", "dim / dim 2", "dim / b2 2", "dim / abcdefghijklmnop 2"}
		v := someVariable(r)
		lines = append(lines, "var "+lab.Line("/", v), "count / "+v.Name)
		answers, errno := lab.Play(100, lines)
		checkErrno(t, "Play", errno, api.OK)
		if a := answers[6]; a == "ok" && answers[7] != "0" || a != "ok" && a != "error 40" && a != "error 41" {
			t.Errorf("%q: %q", lines[6], answers)
		}
	}
}

func TestAttrLines(t *testing.T) {
	play(t, begin+`
attr / v a text -> ok
attr / v a  two  spaces  -> ok
attr / v a  -> ok
attr / v a -> error 102
attr / v -> error 102
attr / v  text -> error 102
attr /  a text -> error 102
attr v v a text -> error 102
attr / v A text -> error 6
attr / w a text -> error 31
attr /a v a text -> error 31
attr / v b `+strings.Repeat("x", 200)+` -> ok
attr / v b `+strings.Repeat("x", 201)+` -> error 30
attr / v b é -> error 30
dim / month 2 -> ok
value cycle(sum, /v, t, month) -> error 72
var / t i32 ( t ) ( 1 ) 0 "" -> ok
attr / t calendar noleap -> ok
write / t 0:2:1 0,31 -> ok
value cycle(sum, /v, t, month) -> month 2 3,4
derive / m 1 cycle(sum, /v, t, month) -> ok
attr / t calendar 360day -> ok
stale -> -
write / t 0:2:1 0,30 -> ok
stale -> -
attr / t calendar noleap -> ok
stale -> /:m
refresh -> -
attr / t calendar none -> ok
value cycle(sum, /v, t, month) -> error 72
`)
	// The text of the attribute is kept as it stands in the line.
	answers, errno := lab.Play(60, []string{"var / v num ( ) ( ) 0 \"\"", "attr / v a  1 2 ", "attr / v b \"quoted\""})
	if errno != api.OK || strings.Join(answers, " ") != "ok ok ok" {
		t.Errorf("answers %q, error %d", answers, errno)
	}
}

func TestWriteLines(t *testing.T) {
	play(t, begin+`
var / x num ( ) ( ) none "" -> ok
dim / s 3 -> ok
var / m i8 ( t s ) ( 1 1 ) none "" -> ok
write / x - 7/3 -> ok
read / x -> - 7/3
write / x - _ -> ok
read / x -> - _
write / x - - -> error 60
write / x - 1,2 -> error 60
write / x 0:1:1 1 -> error 61
write / m 0:2:1,0:2:2 1,2,_,0.5e -> error 3
write / m 0:2:1,0:2:2 1,2,_,0.5 -> error 41
write / m 0:2:1,0:2:2 1,2,_,8/2 -> ok
read / m -> 2x3 1,_,2,_,_,4
write / m 0:2:1,3:0:1 - -> ok
write / m 2:0:9,999999999:999999999:999999999 - -> error 61
write / m 1:1:00000001,002:1:1 -05 -> ok
read / m -> 2x3 1,_,2,_,_,-5
write / m 0:999999999:1,0:999999999:1 1 -> error 60
write / m 0:1:1 1 -> error 61
write / m - 1 -> error 61
write / m 0:1:1,0:1:1,0:1:1 1 -> error 61
write / m 0:1:0,0:1:1 1 -> error 61
write / m 0:1:1,0:1:1, 1 -> error 102
write / m ,0:1:1 1 -> error 102
write / m 0:1:1;0:1:1 1 -> error 102
write / m 0:1:1:1,0:1:1 1 -> error 102
write / m 0:1,0:1:1 1 -> error 102
write / m 0::1,0:1:1 1 -> error 102
write / m 0:-1:1,0:1:1 1 -> error 102
write / m 0:1:1000000000,0:1:1 1 -> error 102
write / m 0:1:1,- 1 -> error 102
write / m 0:1:1,0:1:1  1 -> error 102
write / m 0:1:1,0:1:1 1 2 -> error 102
write / m 0:1:1,0:1:1 1  -> error 102
write / m 0:1:1,0:1:1 -> error 102
write / m 0:1:1,0:1:1  -> error 102
write / none 0:1:1 x -> error 3
write / none 0:1:1 1,2 -> error 60
write / none 0:1:1 1 -> error 31
write /a m 0:1:1 1 -> error 31
write m m 0:1:1 x -> error 102
write / m 0:x:1 x -> error 102
derive / d - 1 -> ok
write / d - 1 -> error 100
write / d 0:1:1 1 -> error 100
write / d 0:1:1 1,1 -> error 60
`)
}

// A slab whose number of elements is beyond an integer has more of them than there are values.
func TestWriteOfHugeSlab(t *testing.T) {
	cut := "0:134217728:1" // 2^27
	lines := []string{
		"write / v " + strings.Repeat(cut+",", 6) + cut + " 1",
		"write / v " + strings.Repeat(cut+",", 6) + cut + " -",
		"write / v " + strings.Repeat(cut+",", 6) + "0:0:1 -",
		"write / v " + strings.Repeat(cut+",", 6) + "0:0:1 1",
		"write / v 0:0:1," + strings.Repeat(cut+",", 6) + cut + " -",
	}
	answers, errno := lab.Play(30, lines)
	if got := strings.Join(answers, " "); got != "error 60 error 60 error 31 error 60 error 31" || errno != api.OK {
		t.Errorf("answers %q, error %d", answers, errno)
	}
}

func TestReadLines(t *testing.T) {
	play(t, begin+`
dim / none 0 -> ok
var / n i8 ( t none ) ( 1 1 ) 5 "" -> ok
read / n -> 2x0 -
read / v -> 2 3,4
read / V -> error 31
read /a v -> error 31
read v v -> error 102
read / v v -> error 102
read / -> error 102
read /  -> error 102
read -> error 102
read / v  -> error 102
 read / v -> error 102
Read / v -> error 102
read  / v -> error 102
value /v -> t 2 3,4
value  /v  -> t 2 3,4
value /v + /n -> t,none 2x0 -
value slice(/n,t,0,1,1) -> t,none 1x0 -
value 1/3 -> - - 1/3
value 1/0 -> - - _
value   -> error 3
value  -> error 102
value -> error 102
value /v+ -> error 3
value /w -> error 31
value 1 + to(1, "m") -> error 11
value `+strings.Repeat("1", 41)+` -> error 70
count / v -> 1
count / n -> 0
count / V -> error 31
count / v v -> error 102
count v -> error 102
generation -> 6
generation  -> error 102
generation 1 -> error 102
`)
}

func TestDeriveLines(t *testing.T) {
	play(t, begin+`
derive / a 2 /v -> ok
derive / b 0001 /v * /a + 1 -> ok
derive / c - sum(/b, t) -> ok
dim / x 3 -> ok
var / y i8 ( x ) ( 1 ) 1 "" -> ok
derive / d 2x1 /v * /y -> ok
derive / e 2x1 /v -> error 30
derive / e 1x /v -> error 102
derive / e x1 /v -> error 102
derive / e 1,1 /v -> error 102
derive / e 1X1 /v -> error 102
derive / e 0x1 /v * /y -> error 30
derive / e 1000000000 /v -> error 102
derive / e -1 /v -> error 102
derive / e -x1 /v -> error 102
derive / e  /v -> error 102
derive / e 2 /v + -> error 3
derive / e 2 -> error 102
derive / e 2  -> error 102
derive / e 2   -> error 3
derive / e 2  /v  -> ok
derive / E 2 /v -> error 6
derive / v 2 /v -> error 32
derive /q f 2 /v -> error 31
derive q f 2 /v -> error 102
read / d -> 2x3 3,3,3,4,4,4
stale -> -
current / a -> yes
current / v -> error 100
current / f -> error 31
current / a b -> error 102
current / -> error 102
write / v 0:1:1 2 -> ok
stale -> /:a /:b /:d /:e
refresh -> /:a /:b /:c /:d /:e
read / b -> 2 5,17
read / c -> - 22
refresh -> -
stale  -> error 102
stale / -> error 102
refresh 1 -> error 102
group /q -> ok
derive /q z 1 /a -> ok
write / v 0:2:1 _,_ -> ok
refresh -> /:a /:b /:c /:d /:e /q:z
read /q z -> 2 _,_
`)
}

func TestPowerLines(t *testing.T) {
	play(t, begin+`
derive / s - sum(/v, t) -> ok
generation -> 5
arm 1 -> ok
arm 0 -> ok
write / v 0:1:1 4 -> ok
arm 0001 -> ok
refresh -> error 50
stale -> error 50
refresh -> error 50
current / s -> error 50
read / v -> error 50
value 1 -> error 50
value + -> error 50
count / v -> error 50
group /a -> error 50
write / none - 1 -> error 50
write / none - 1,2 -> error 60
write / none - x -> error 3
var / x -> error 3
var / v num ( ) ( ) none "" -> error 50
derive / s - 1 -> error 50
generation -> 0
what -> error 102
stale x -> error 102
arm 1 -> ok
arm x -> error 102
arm -> error 102
arm -1 -> error 102
arm 1 1 -> error 102
crash -> error 102
crash  -> error 102
crash 2 -> error 102
crash 1- -> error 102
crash -- -> error 102
crash 1 1 -> error 102
crash 0,1 -> error 102
read / v -> error 50
crash 0000 -> ok
stale -> /:s
generation -> 6
refresh -> /:s
crash - -> ok
crash 1 -> ok
read / s -> - 8
generation -> 7
`)
}

// The disk may go down at each write of a commit; what BITS say remains.
func TestPowerOfCommit(t *testing.T) {
	for _, bits := range []string{"-", "1", "01", "11111111", "0000001"} {
		old, new := 0, 0
		for k := 1; k < 12; k++ {
			answers, errno := lab.Play(60, []string{"var / x num ( ) ( ) none \"\"", "write / x - 1", fmt.Sprint("arm ", k), "write / x - 2", "crash " + bits, "read / x", "generation"})
			checkErrno(t, "Play", errno, api.OK)
			switch got := strings.Join(answers, ","); got {
			case "ok,ok,ok,error 50,ok,- 1,3":
				old++
			case "ok,ok,ok,error 50,ok,- 2,4":
				if bits == "-" {
					t.Errorf("armed with %d, nothing remains: %s", k, got)
				}
				new++
			case "ok,ok,ok,ok,ok,- 2,4":
			default:
				t.Errorf("armed with %d, %s: %s", k, bits, got)
			}
		}
		if old == 0 || bits == "11111111" && new == 0 {
			t.Errorf("%s: %d times the content before, %d times the one behind", bits, old, new)
		}
	}
}

func TestPlayErrors(t *testing.T) {
	long := strings.Repeat("x", 1001)
	for _, c := range []struct {
		blocks int
		lines  []string
		want   api.Errno
	}{
		{3, []string{long}, api.ErrArg},
		{-1, nil, api.ErrArg},
		{0, nil, api.ErrArg},
		{1025, make([]string, 101), api.ErrArg},
		{4, []string{long}, api.ErrFull},
		{5, make([]string, 101), api.ErrFull},
		{6, []string{long}, api.ErrLimit},
		{6, make([]string, 101), api.ErrLimit},
		{6, []string{"generation", long}, api.ErrLimit},
		{1024, append(make([]string, 100), ""), api.ErrLimit},
	} {
		l, errno := lab.Play(c.blocks, c.lines)
		if len(l) > 0 || errno != c.want {
			t.Errorf("Play with %d blocks: %q, error %d, want %d", c.blocks, l, errno, c.want)
		}
	}
	for _, c := range []struct {
		blocks int
		lines  []string
		want   string
	}{
		{6, nil, ""},
		{6, []string{}, ""},
		{6, []string{"generation"}, "1"},
		{1024, make([]string, 100), strings.Repeat("error 102,", 99) + "error 102"},
		{8, []string{long[:1000], "attr / v a " + strings.Repeat("x", 989)}, "error 102,error 31"},
		{7, []string{"group /a", "group /b", "generation"}, "error 52,error 52,1"},
	} {
		l, errno := lab.Play(c.blocks, c.lines)
		if got := strings.Join(l, ","); got != c.want || errno != api.OK {
			t.Errorf("Play with %d blocks: %q, error %d, want %q", c.blocks, got, errno, c.want)
		}
	}
}

// Bytes of any kind are no command.
func TestOtherLines(t *testing.T) {
	lines := []string{"", " ", "  ", "\x00", "stale\n", "stale\t", "\nstale", "STALE", "stal", "stales", "-", "error 102", "ok", "read\t/ v", "é", "\xff", "crash\xff", "crash \xff", "crash 1\xff", "group /\xff", "dim / t ١", "arm ١", "arm 1\n", "arm 0x1", "arm 1e1", "arm 1_0", "count /", "help", "open", "change", "order", "info / v", "upgrade", "value", "#", "stale;"}
	answers, errno := lab.Play(30, lines)
	checkErrno(t, "Play", errno, api.OK)
	for i, answer := range answers {
		if answer != "error 102" {
			t.Errorf("%q: %q", lines[i], answer)
		}
	}
}
