package prism

import (
	"fmt"
	"math/rand"
	"regexp"
	"strconv"
	"strings"
	"testing"

	"prism/api"
)

// plays checks what Play answers to a script.
func plays(t *testing.T, c api.Config, text, want string) {
	t.Helper()
	if got, e := Play(c, text); got != want || e != api.OK {
		t.Errorf("P11: Play(%v, %.80q) = %.200q, %d, want %.200q, 0", c, text, got, e, want)
	}
}

// playsNot checks that Play answers an error, and nothing beside it.
func playsNot(t *testing.T, c api.Config, text string, want api.Errno) {
	t.Helper()
	if got, e := Play(c, text); got != "" || e != want {
		t.Errorf("P11: Play(%v, %.80q) = %.200q, %d, want nothing, %d", c, text, got, e, want)
	}
}

// The table of the document's section 'Examples'.
func TestPlayExamples(t *testing.T) {
	for _, c := range []struct {
		conf       []int
		text, want string
	}{
		{[]int{0, 0, 0, 1, 1, 0, 0, 1}, "i;i;s0,0;s0,0;s0,0;s0,0;s0,0;q0;i;l", "0;!4;1;12;19;20;!5;20,0,0;1;1:1,0"},
		{[]int{0, 1, 1, 1, 1, 0, 0, 2}, "i;r12,0;q0;r1,0;q0;l", "0;1;19,1,0;0;20,0,0;2:1,0|3:0,0"},
		{[]int{0, 1, 1, 1, 1, 0, 0, 2}, "i;r13,0;i;r13,0;i;r13,0;q0;q1;q2;l", "0;0;1;0;2;0;20,0,0;20,0,1;20,0,2;2:2,0|3:1,0"},
		{[]int{0, 1, 1, 1, 1, 1, 0, 2}, "i;i;r9,0;q0;q1;r5,0;q0;q1", "0;1;2;0,3,0;12,2,0;0;20,0,1;20,0,0"},
		{[]int{0, 1, 1, 1, 1, 1, 0, 2}, "i;r5,0;i;s1,0;s1,0;s1,0;s1,0;s1,0;s0,0;s0,0;q0;q1", "0;1;1;1;3;4;8;0;7;0;0,2,0;0,3,0"},
		{[]int{1, 1, 1, 1, 1, 1, 0, 2}, "p-7;r5,0;g;s1,9;s1,9;s1,9;s1,9;s1,9;q1;r4,0;q0;q1;l", "0;1;1;1;3;4;8;19;19,1,-7;0;20,0,0;20,0,-7;2:0,0|3:0,0"},
		{[]int{1, 0, 0, 2, 1, 0, 0, 4}, "p5;p6;p7;r9,0;q2;l;g;r9,0;q3;l", "0;1;2;1;13,1,0;1:3,0,5,6;3;0;20,0,5;1:3,1,6,7"},
		{[]int{1, 1, 0, 1, 1, 0, 0, 3}, "p5;p6;r9,0;u1;s2,0;s2,0;s2,0;q2;l;f1;r9,0;q3;l", "0;1;0;2;16;17;20;20,0,1;2:1,0,5|3:1,0,6;3;0;20,0,1;1:2,0,5,6"},
		{[]int{1, 1, 1, 1, 1, 0, 1, 3}, "g;r20,0;f1;f2;r9,0;q0;q1", "0;1;1;!2;1;14,3,0;20,0,3"},
		{[]int{1, 1, 1, 1, 1, 0, 1, 3}, "g;f1;r30,0;q0;q1", "0;1;1;14,1,0;20,0,1"},
		{[]int{0, 2, 1, 1, 1, 0, 0, 2}, "f2;r9,0;q0;f1;r9,0;q1;f1;r9,0;q2;l", "0;0;20,0,2;1;0;20,0,1;2;0;20,0,2;1:0,0"},
		{[]int{0, 2, 2, 1, 1, 0, 0, 2}, "f1;r9,0;q0;u4;u3;r9,0;q1", "0;0;20,0,4;!2;1;0;20,0,2"},
	} {
		plays(t, conf(c.conf...), c.text, c.want)
	}
	playsNot(t, conf(0, 0, 0, 1, 1, 0, 0, 1), "i0", api.ErrText)
}

// Each bound of a configuration, beside texts that are scripts and that are not.
func TestPlayConfig(t *testing.T) {
	for i, b := range bounds {
		for _, k := range append(far(), b.least-2, b.least-1, b.least, b.most, b.most+1, b.most+2) {
			n := []int{1, 3, 2, 2, 2, 2, 2, 2}
			n[i] = k
			if b.least <= k && k <= b.most {
				plays(t, conf(n...), "", "")
				plays(t, conf(n...), "q0", "!5")
				playsNot(t, conf(n...), "x", api.ErrText)
				continue
			}
			for _, text := range []string{"", "q0", "l", "x", ";", "i;", strings.Repeat("l;", 300) + "l", strings.Repeat("x", 100000)} {
				playsNot(t, conf(n...), text, api.ErrConfig)
			}
		}
	}
	playsNot(t, api.Config{}, "", api.ErrConfig)
	playsNot(t, conf(2, 5, 5, 5, 5, 9, 17, 17), "i0", api.ErrConfig)
}

// Texts of up to 600 bytes, and longer ones, which would be scripts but for that.
func TestPlayLength(t *testing.T) {
	c := conf(0, 0, 0, 1, 1, 0, 0, 1)
	many := strings.Repeat("l;", 299)
	answers := strings.Repeat("1:0,0;", 299)
	plays(t, c, many+"l", answers+"1:0,0")
	plays(t, c, many+"q0", answers+"!5")
	for _, text := range []string{many + "q00", many + "l;l", many + "q0;l", many + many + "l", strings.Repeat("l;", 1<<22) + "l"} {
		playsNot(t, c, text, api.ErrText)
	}
	for _, text := range []string{many + "l;", many + "lx", strings.Repeat("i", 600), strings.Repeat("i", 601), strings.Repeat(";", 600), strings.Repeat("\x00", 1<<22)} {
		playsNot(t, c, text, api.ErrText)
	}
}

func TestPlayNoCommands(t *testing.T) {
	for kind := 0; kind <= 1; kind++ {
		for depth := 0; depth <= 4; depth++ {
			plays(t, conf(kind, depth, depth, 1, 1, 0, 0, 1), "", "")
		}
	}
}

// Each command by itself, and what is there behind it; worked out by hand.
func TestPlayEachCommand(t *testing.T) {
	for _, c := range []struct {
		conf       []int
		text, want string
	}{
		{[]int{0, 1, 1, 1, 1, 0, 0, 2}, "i", "0"},
		{[]int{0, 1, 1, 1, 1, 0, 0, 2}, "i;q0;i;q1", "0;0,1,0;1;0,1,0"},
		{[]int{1, 1, 1, 1, 1, 0, 0, 2}, "g", "0"},
		{[]int{1, 1, 1, 1, 1, 0, 0, 2}, "p3;q0", "0;0,1,0"},
		{[]int{1, 0, 0, 4, 1, 0, 0, 2}, "p3;r4,0;q0;l;p-3;r5,0;l", "0;1;19,1,0;1:1,0,3;1;0;1:2,0,3,-3"},
		{[]int{1, 0, 0, 4, 1, 0, 0, 2}, "p-3;r5,0;g;s1,0;s1,0;s1,0;s1,0;q1;s1,0;q1;l", "0;0;1;1;12;14;19;19,1,-3;20;20,0,-3;1:1,1"},
		{[]int{1, 2, 2, 1, 1, 0, 0, 2}, "f1;q0;f2;q1", "0;15,1,0;1;0,1,0"},
		{[]int{1, 2, 1, 1, 1, 0, 0, 2}, "u1;q0;u3;q1", "0;15,1,0;1;0,1,0"},
		{[]int{0, 2, 1, 1, 1, 0, 0, 2}, "u2;r9,0;q0;l;f2;r9,0;q1;l", "0;0;20,0,1;3:0,0|4:0,0|5:0,0;1;0;20,0,1;2:0,0|3:0,0"},
		{[]int{0, 0, 0, 1, 1, 0, 0, 2}, "i;i;s1,0;q0;q1;s1,5;q1;s1,7;q1;l", "0;1;1;0,1,0;1,1,0;12;12,1,0;19;19,1,0;1:1,0"},
		{[]int{0, 0, 0, 1, 1, 0, 0, 3}, "i;i;i;r1,0;r0,0;r2,0;q2;r1,0;r1,0", "0;1;2;3;3;3;19,1,2;0;0"},
		{[]int{0, 0, 0, 1, 1, 0, 0, 1}, "r0,0;r100,0", "0;0"},
		{[]int{0, 0, 0, 1, 1, 0, 0, 1}, "l", "1:0,0"},
		{[]int{0, 3, 3, 1, 1, 0, 0, 1}, "l", "8:0,0|9:0,0|10:0,0|11:0,0|12:0,0|13:0,0|14:0,0|15:0,0"},
		{[]int{1, 1, 1, 1, 1, 0, 0, 2}, "g;r20,0;l;q0", "0;1;2:0,0|3:0,1;14,3,0"},
	} {
		plays(t, conf(c.conf...), c.text, c.want)
	}
}

// The draw of a Step comes from the script, and picks the slot: two Incs of the
// one number come to the one slot, others do not.
func TestPlayDraws(t *testing.T) {
	c := conf(0, 1, 1, 1, 4, 8, 0, 16)
	// Behind this the root has the width 2: the second finds its slot taken.
	wider := "i;i;s0,0;s0,0;s0,0;s0,0;s1,0;s1,0;s1,0;s1,0;s0,0;s1,0;s1,0;"
	told := "0;1;1;3;4;5;1;3;4;5;6;9;11;"
	plays(t, c, wider+"i;s2,0;s2,0;s2,2;s2,0", told+"2;1;3;4;8")
	plays(t, c, wider+"i;s2,1;s2,1;s2,3;s2,0", told+"2;1;3;4;5")
	plays(t, c, wider+"i;s2,1;s2,1;s2,999998;s2,1", told+"2;1;3;4;8")
	plays(t, c, wider+"i;s2,0;s2,0;s2,999999;s2,0", told+"2;1;3;4;5")
	// Of a Rest it is the draw, the round and the process's number together.
	plays(t, c, wider+"i;s2,0;s2,0;r1,0;s2,0", told+"2;1;3;3;8")
	plays(t, c, wider+"i;s2,0;s2,0;r1,999999;s2,0", told+"2;1;3;3;5")
	plays(t, c, wider+"i;s2,0;r2,0;s2,0", told+"2;1;3;5")
	plays(t, c, wider+"i;s2,0;r2,13;s2,0", told+"2;1;3;8")
}

// Numbers at their ends, and with noughts ahead.
func TestPlayNumbers(t *testing.T) {
	for _, c := range []struct{ text, val string }{
		{"p0", "0"}, {"p-0", "0"}, {"p000000", "0"}, {"p-000000", "0"}, {"p00", "0"},
		{"p1", "1"}, {"p-1", "-1"}, {"p01", "1"}, {"p-01", "-1"}, {"p000001", "1"}, {"p-000001", "-1"}, {"p000010", "10"},
		{"p999999", "999999"}, {"p-999999", "-999999"}, {"p099999", "99999"}, {"p-100000", "-100000"},
		{"p1234", "1234"}, {"p567890", "567890"}, {"p-9876", "-9876"},
	} {
		plays(t, conf(1, 0, 0, 1, 1, 0, 0, 2), c.text+";q0;r5,0;l;g;r5,0;q1", "0;0,1,0;0;1:1,0,"+c.val+";1;0;20,0,"+c.val)
	}
	c := conf(0, 2, 2, 1, 1, 0, 0, 2)
	plays(t, c, "f000001;q000000;s000000,000000;s0,999999;r000000,999999;r000100,000000", "0;15,1,0;16;17;1;0")
	plays(t, c, "u03;q00;f999999;u999999;s999999,999999;q999999;r999999,999999;r100,999999", "0;0,1,0;!2;!2;!5;!5;!6;0")
}

// Each error that a command can answer: the script goes on behind it, and the
// tree is as it was.
func TestPlayErrors(t *testing.T) {
	for _, c := range []struct {
		conf       []int
		text, want string
	}{
		{[]int{0, 0, 0, 1, 1, 0, 0, 1}, "p1;g;p-1;f0;f1;u0;u1;i;q0", "!2;!2;!2;!2;!2;!2;!2;0;0,1,0"},
		{[]int{1, 0, 0, 1, 1, 0, 0, 1}, "i;f1;u1;p1;q0", "!2;!2;!2;0;0,1,0"},
		{[]int{1, 1, 1, 1, 1, 0, 0, 1}, "f0;f2;f3;u0;u2;f000002;f999999;i;f1;q0", "!2;!2;!2;!2;!2;!2;!2;!2;0;15,1,0"},
		{[]int{0, 4, 0, 1, 1, 0, 0, 2}, "f16;u16;u31;f15;u15;f15", "!2;!2;!2;0;1;!4"},
		{[]int{0, 1, 1, 1, 1, 0, 0, 1}, "i;i;f1;u1;f2;p1;g;q1;q0", "0;!4;!4;!4;!2;!2;!2;!5;0,1,0"},
		{[]int{1, 1, 1, 1, 1, 0, 0, 2}, "p1;g;p2;g;f1;u1;i;r40,0;p2", "0;1;!4;!4;!4;!4;!2;0;2"},
		{[]int{0, 0, 0, 1, 1, 0, 0, 1}, "s0,0;q0;s1,0;q1;l;i;s1,0;q1;s0,0;q0", "!5;!5;!5;!5;1:0,0;0;!5;!5;1;1,1,0"},
		{[]int{0, 0, 0, 1, 1, 0, 0, 1}, "i;r4,0;s0,0;q0;s0,0;l;i;s1,0", "0;0;!5;20,0,0;!5;1:1,0;1;1"},
		{[]int{0, 0, 0, 1, 1, 0, 0, 1}, "i;r101,0;r101,999999;r200,1;r999999,0;q0;l;r1,0;q0", "0;!6;!6;!6;!6;0,1,0;1:0,0;1;1,1,0"},
		{[]int{0, 0, 0, 1, 1, 0, 0, 1}, "r101,0;r100,0;i;r100,0;r101,0", "!6;0;0;0;!6"},
	} {
		plays(t, conf(c.conf...), c.text, c.want)
	}
}

// As many Spawns as may be, and more, in one text. (A pool's take too many bytes.)
func TestPlaySpent(t *testing.T) {
	text, want := "", ""
	for p := range 256 {
		text += "i;"
		want += strconv.Itoa(p) + ";"
		if p%16 == 15 && p < 255 {
			text += "r4,0;"
			want += "0;"
		}
	}
	flat := conf(0, 1, 0, 1, 1, 0, 0, 16)
	plays(t, flat, text+"i;f1;u1;f0;l", want+"!3;!3;!3;!2;1:240,0")
	plays(t, flat, text+"i;r4,0;i;l", want+"!3;0;!3;1:256,0")
	plays(t, flat, text+"q255;q256", want+"0,1,0;!5")
	plays(t, flat, text+"r9,0;q255", want+"0;20,0,255")
	// Many Spawns that are refused are none.
	plays(t, conf(0, 0, 0, 1, 1, 0, 0, 1), strings.Repeat("i;", 299)+"g", "0;"+strings.Repeat("!4;", 298)+"!2")
	plays(t, conf(1, 0, 0, 1, 1, 0, 0, 1), strings.Repeat("i;", 299)+"g", strings.Repeat("!2;", 299)+"0")
}

// faults are texts that are no script, and no part of one that has a `;` at each
// end of it.
var faults = []string{
	";", ";;", "i;", ";i", "i;;i", ";i;", "i;i;", // commands that are empty
	"x", "I", "G", "P1", "L", "0", "-1", ",", ":", "|", "!", "!5", "a", "z", "h", "j", "k", "m", "o", "t", "v", "e", "i|i", "i:i", // no command
	"i0", "i1", "ii", "ig", "il", "i,", "i-", "g0", "gg", "g-1", "l1", "l0", "ll", "l,", "i,i", "i i", // bytes behind a command
	"p1p2", "p1,", "p1,2", "p1-", "p1-1", "p1i", "f1f1", "f1,", "f1,1", "u1,2", "u1u", "q1,", "q1,2", "q0q", "s1,2,", "s1,2,3", "s1,2s", "r1,2,", "r1,2,3", "r1,2-",
	"p", "p-", "p--1", "f", "u", "q", "s", "s,", "s1", "s1,", "s,1", "s1;2", "s1,;2", "r", "r,", "r1", "r1,", "r,1", "r1;2", "r1:2", "s1.2", "s1,,2", // numbers that lack
	"p1000000", "p0000000", "p-0000000", "p-0000001", "p1234567", "f0000001", "u0000001", "q0000000", "s0000000,0", "s0,0000000", "r0000001,0", "r1,0000000", "p12345678901234567890", "q18446744073709551616", "s0,99999999999999999999", // seven digits and more
	"f-1", "f-0", "u-1", "q-0", "q-1", "s-1,0", "s0,-1", "s0,-0", "r-1,0", "r1,-1", "r-0,0", "-p1", "-i", "p-1-", "p-1-1", "p-0-", // a `-` where none may stand
	" ", " i", "i ", "i ;i", "i; i", "p 1", "p- 1", "p -1", "p1 ", "s1, 2", "s1 ,2", "s 1,2", "s1,2 ", "r1,2\n", "i\n", "i\r", "i\t", "\ti", "i\v", "\n", "i;\ni", // blanks
	"p+1", "p-+1", "p+-1", "f+1", "q+0", "s+1,0", "s1,+0", "r+1,0", "p1e3", "p0x1", "p1_0", "p1.0", "p1.", "p.1", "p'1", "pa", "p/", "p:", "f/", "q:", // signs
	"\x00", "i\x00", "\x00i", "p1\x00", "p\x001", "\x7f", "\x80", "\xb1", "p\xb1", "p1\xff", "\xe9", "\u0661", "p\u0661", "p\uff11", "\uff49", "i\uff1bi", "p\u22121", "\u2028", "i\u00a0", "\ufeffi", "p1\u0301", "\xffi", "s1\uff0c2", // no ASCII
}

// A fault is one of the whole text, wherever it lies: alone, in the midst, at
// the very end; nothing comes out.
func TestPlayFaults(t *testing.T) {
	for kind := 0; kind <= 1; kind++ {
		c := conf(kind, 1, 1, 1, 1, 0, 0, 2)
		for _, fault := range faults {
			playsNot(t, c, fault, api.ErrText)
			playsNot(t, c, "i;g;p1;"+fault, api.ErrText)
			playsNot(t, c, fault+";l;r100,0", api.ErrText)
			playsNot(t, c, "q0;s0,0;"+fault+";f1;u1", api.ErrText)
			long := strings.Repeat("l;", 285)
			playsNot(t, c, long+fault, api.ErrText)
		}
	}
}

// A whole script, and a fault at its very end: no answer comes out, not even of
// what stands ahead.
func TestPlayFaultAtTheEnd(t *testing.T) {
	c := conf(1, 1, 0, 1, 1, 0, 0, 3)
	script := "p5;p6;r9,0;u1;s2,0;s2,0;s2,0;q2;l;f1;r9,0;q3;l"
	plays(t, c, script, "0;1;0;2;16;17;20;20,0,1;2:1,0,5|3:1,0,6;3;0;20,0,1;1:2,0,5,6")
	for b := range 256 {
		playsNot(t, c, script+string([]byte{byte(b)}), api.ErrText)
	}
	for _, end := range []string{";x", ";p", ";p-", ";s0,", ";s0", ";q1234567", ";r1,-1", ";i0"} {
		playsNot(t, c, script+end, api.ErrText)
	}
}

// scriptForm is what the document says of scripts, but for their length.
var scriptForm = func() *regexp.Regexp {
	number := `[0-9]{1,6}`
	command := `([igl]|p-?` + number + `|[fuq]` + number + `|[sr]` + number + `,` + number + `)`
	return regexp.MustCompile(`\A(` + command + `(;` + command + `)*)?\z`)
}()

// byCalls is what a script must answer, found by calls of a tree.
func byCalls(t *testing.T, c api.Config, text string) string {
	t.Helper()
	x, _ := New(c)
	var answers []string
	for _, part := range strings.FieldsFunc(text, func(r rune) bool { return r == ';' }) {
		var n [2]int
		for i, s := range strings.Split(part[1:], ",") {
			n[i], _ = strconv.Atoi(s)
		}
		answers = append(answers, byCall(t, x, part[0], n))
	}
	return strings.Join(answers, ";")
}

// byCall is what a command of a script must answer.
func byCall(t *testing.T, x *Tree, letter byte, n [2]int) string {
	t.Helper()
	var k int
	var q api.Proc
	var e api.Errno
	switch letter {
	case 'i':
		k, e = x.Spawn(api.Op{Kind: 0})
	case 'p':
		k, e = x.Spawn(api.Op{Kind: 1, Val: n[0]})
	case 'g':
		k, e = x.Spawn(api.Op{Kind: 2})
	case 'f':
		k, e = x.Spawn(api.Op{Kind: 3, Node: n[0]})
	case 'u':
		k, e = x.Spawn(api.Op{Kind: 4, Node: n[0]})
	case 's':
		k, e = x.Step(n[0], n[1])
	case 'r':
		k, e = x.Rest(n[0], n[1])
	case 'q':
		q, e = x.Proc(n[0])
	case 'l':
		return byNodes(x)
	default:
		t.Fatalf("the test knows no command %q", letter)
	}
	switch {
	case e != api.OK:
		return fmt.Sprintf("!%d", e)
	case letter == 'q':
		return fmt.Sprintf("%d,%d,%d", q.Phase, q.Node, q.Val)
	}
	return fmt.Sprint(k)
}

// byNodes is what the list of the leaves must be.
func byNodes(x *Tree) string {
	var all []string
	for _, n := range x.Nodes() {
		if n.Inner {
			continue
		}
		list := append([]int{n.Puts, n.Gets}, n.Items...)
		all = append(all, fmt.Sprintf("%d:%s", n.Num, strings.ReplaceAll(strings.Trim(fmt.Sprint(list), "[]"), " ", ",")))
	}
	return strings.Join(all, "|")
}

// playsOrNot checks what Play answers to any text, and tells whether it is a
// script.
func playsOrNot(t *testing.T, c api.Config, text string) bool {
	t.Helper()
	if len(text) <= 600 && scriptForm.MatchString(text) {
		plays(t, c, text, byCalls(t, c, text))
		return true
	}
	playsNot(t, c, text, api.ErrText)
	return false
}

// Every text of one byte and of two, and every text of up to five of some bytes.
func TestPlayShortTexts(t *testing.T) {
	c := conf(1, 1, 1, 1, 1, 0, 0, 2)
	for a := range 256 {
		playsOrNot(t, c, string([]byte{byte(a)}))
		for b := range 256 {
			playsOrNot(t, c, string([]byte{byte(a), byte(b)}))
		}
	}
	if scripts := textsFrom(t, c, "", 5); scripts < 100 {
		t.Errorf("only %d of the texts are scripts", scripts)
	}
}

// textsFrom plays all texts that go on from this one by so many bytes or fewer,
// and tells how many of them are scripts.
func textsFrom(t *testing.T, c api.Config, text string, more int) int {
	t.Helper()
	scripts := 0
	if playsOrNot(t, c, text) {
		scripts = 1
	}
	if more > 0 {
		for _, b := range "ipqs-09,; " {
			scripts += textsFrom(t, c, text+string(b), more-1)
		}
	}
	return scripts
}

// Each byte in the place of each byte of a script, and between each two.
func TestPlayEachByteElsewhere(t *testing.T) {
	c := conf(1, 1, 1, 1, 1, 0, 0, 3)
	text := "p-12;g;f1;s0,3;r2,10;u1;q1;i;l"
	for i := range text {
		playsOrNot(t, c, text[:i])
		playsOrNot(t, c, text[i:])
		playsOrNot(t, c, text[:i]+text[i+1:])
		for b := range 256 {
			s := string([]byte{byte(b)})
			playsOrNot(t, c, text[:i]+s+text[i+1:])
			playsOrNot(t, c, text[:i]+s+text[i:])
		}
	}
}

// someNumber is a number of a script, drawn from r, most often below most.
func someNumber(r *rand.Rand, most int) string {
	n := r.Intn(most)
	if r.Intn(20) == 0 {
		n = r.Intn(1000000)
	}
	return fmt.Sprintf("%0*d", r.Intn(7), n)
}

// someCommand is a command of a script, drawn from r.
func someCommand(r *rand.Rand) string {
	letter := string("iiigggpppfusssrrrql"[r.Intn(19)])
	switch letter {
	case "p":
		return "p" + strings.Repeat("-", r.Intn(2)) + someNumber(r, 4)
	case "f", "u":
		return letter + someNumber(r, 9)
	case "q":
		return "q" + someNumber(r, 12)
	case "s":
		return "s" + someNumber(r, 12) + "," + someNumber(r, 30)
	case "r":
		return "r" + someNumber(r, 30) + "," + someNumber(r, 30)
	}
	return letter
}

// Scripts drawn from a fixed seed; and the same with bytes put in, left out and
// changed, so that some are scripts still and most are not.
func TestPlayIsCalls(t *testing.T) {
	for seed := range 600 {
		r := rand.New(rand.NewSource(int64(seed)))
		c := conf(someConfig(r, seed%2)...)
		var list []string
		for range r.Intn(80) {
			list = append(list, someCommand(r))
		}
		text := strings.Join(list, ";")
		if len(text) <= 600 && !playsOrNot(t, c, text) {
			t.Fatalf("the test takes %q for no script", text)
		}
		for range 20 {
			i := r.Intn(len(text) + 1)
			s := string("igpfusrql-,;0123456789 +\x00\xff"[r.Intn(26)])
			playsOrNot(t, c, text[:i]+s+text[i:])
			playsOrNot(t, c, text[:i]+text[min(i+1, len(text)):])
			playsOrNot(t, c, text[:i]+s+text[min(i+1, len(text)):])
		}
	}
}

// What a script answers hangs on itself alone, not on what was played ahead of
// it, nor on other trees (P2); and it leaves them alone.
func TestPlayIsAlone(t *testing.T) {
	c := conf(1, 2, 1, 1, 3, 2, 1, 8)
	script := "p1;p2;g;u2;p3;r7,2;l;f1;s0,1;r9,5;q3;g;r30,0;l;q5"
	want := byCalls(t, c, script)
	x := begin(t, 1, 2, 1, 1, 3, 2, 1, 8)
	spawn(t, x, put(4), 0)
	rest(t, x, 3, 1, 1)
	ahead := look(x)
	for range 3 {
		plays(t, c, script, want)
		playsNot(t, c, script+";", api.ErrText)
		playsNot(t, api.Config{}, script, api.ErrConfig)
		plays(t, conf(1, 2, 2, 2, 1, 0, 0, 16), "g;p7;u3;r50,0;l", "0;1;2;0;4:0,0|5:1,1|6:0,0|7:0,0")
	}
	same(t, "P2", look(x), ahead)
}
