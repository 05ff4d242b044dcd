package asm_test

import (
	"strconv"
	"strings"
	"testing"

	"posthorse/api"
	"posthorse/code"
)

// P21.2: texts without instructions, and with names alone.
func TestNoInstructions(t *testing.T) {
	parses(t, "", nil)
	parses(t, "a:\n", nil)
	parses(t, "a:\nb:\nexit:\n", nil)
}

// P21.2: names of places: several of one place, of none that is jumped to, ahead of the jump and behind it, of the end; operations and registers may be names, too.
func TestNames(t *testing.T) {
	jump := func(to int) code.Ins { return code.Ins{Op: code.Jump, Imm: to} }
	parses(t, "a:\njump a\n", []code.Ins{jump(0)})
	parses(t, "jump a\na:\n", []code.Ins{jump(1)})
	parses(t, "a:\nb:\njump b\nc:\njump a\njump c\n", []code.Ins{jump(0), jump(0), jump(1)})
	parses(t, "jump jump\nr0:\njump r0\njump:\njump exit\nexit:\n", []code.Ins{jump(2), jump(1), jump(3)})
	parses(t, "jeq r1 r2 r3\nr3:\n", []code.Ins{{Op: code.JumpEq, D: 1, S: 2, Imm: 1}})
	for _, name := range []string{"a", "z", "a0", "z9", "aa", "abcdefgh", "a1234567", "zz0zz9zz"} {
		parses(t, "exit\n"+name+":\njump "+name+"\n", []code.Ins{{Op: code.Exit}, jump(1)})
	}
}

// P21.2: names that aren't right, of places and of jumps.
func TestWrongNames(t *testing.T) {
	for _, name := range []string{"", " ", "0", "9a", "A", "aB", "a_", "a-b", "abcdefghi", "a12345678", "a b", " a", "a ", "ä", "aä", "a:", ":", "`", "{", "a/", "a;", "\x00", "a\x00", "a\r", "a\t", "\xffa", strings.Repeat("a", 1000)} {
		wrongLine(t, name+":", api.ErrForm)
		wrongLine(t, "jump "+name, api.ErrForm)
		wrongLine(t, "jlt r0 r1 "+name, api.ErrForm)
	}
}

// P21.2: lines that are neither a name and a colon nor an instruction's words.
func TestWrongForm(t *testing.T) {
	for _, line := range []string{
		"", " ", "  ", "\t", "\r", "\x00", "\xff", "a", "x1", "SET r0 1", "Exit", "exit:x", "x: exit", "a :", "sett r0 1", "se r0 1", "load3 r0 r0 0",
		" exit", "exit ", "exit\r", "exit\t", "exit exit", "exit 0", "exit r0", "end 0", "end ", "end:end",
		"set", "set ", "set r0", "set r0 ", "set r0 1 ", "set  r0 1", "set r0  1", " set r0 1", "set\tr0 1", "set r0 1 1", "set r0 r1", "set 1 r0", "set r0 r0 1", "set r0,1", "set r0 a",
		"set r 1", "set r8 1", "set r9 1", "set r00 1", "set r07 1", "set r-1 1", "set r-0 1", "set r+1 1", "set R0 1", "set 0 1", "set rr 1", "set ra 1", "set r0r0 1", "set r١ 1",
		"move r0", "move r0 0", "move r0 r1 0", "move r0 r1 r2", "add r0 r8", "sub r8 r0", "addi r0", "muli r0 r0", "clamp 0",
		"load r0 0", "load r0 r1", "load r0 r1 r2", "load r0 r1 0 0", "load2 r0 0 r1", "loadk 0 r0 r1", "loads r0", "stores r0 r1",
		"jump", "jump ", "jump 5", "jump -1", "jump a a", "jump r0 a", "jeq", "jeq a", "jeq r0 a", "jeq r0 r1", "jne r0 r1 5", "jlt r0 r1 a b", "jle r0 5 a",
		"loop", "loop r0", "loop a", "loop 1 1", "call", "call r1", "call 1 1", "Jumpeq r0 r1 a", "jumpeq r0 r1 a",
	} {
		wrongLine(t, line, api.ErrForm)
	}
}

// P21.2: how numbers are written, and how far they go.
func TestNumbers(t *testing.T) {
	for _, n := range []int{0, 1, -1, 9, 10, -10, 100, 2147483647, -2147483648} {
		parses(t, "set r1 "+strconv.Itoa(n)+"\n", []code.Ins{{D: 1, Imm: n}})
	}
	for _, s := range []string{"", "-", "+", "+1", "-0", "00", "01", "-01", "--1", "1-", "0x1", "1e3", "1.0", "1_0", "1,0", "0b1", "a", "1a", "١", "1\x00",
		"9007199254740993", "-9007199254740993", "9223372036854775807", "-9223372036854775808", "9223372036854775808", "18446744073709551616", strings.Repeat("9", 1000), "-" + strings.Repeat("9", 1000), strings.Repeat("0", 1000)} {
		wrongLine(t, "set r1 "+s, api.ErrForm)
		wrongLine(t, "load r1 r2 "+s, api.ErrForm)
		wrongLine(t, "loop "+s, api.ErrForm)
		wrongLine(t, "call "+s, api.ErrForm)
	}
	for _, s := range []string{"2147483648", "-2147483649", "9007199254740991", "9007199254740992", "-9007199254740992"} {
		wrongLine(t, "set r1 "+s, api.ErrReject)
		wrongLine(t, "load2 r1 r2 "+s, api.ErrReject)
		wrongLine(t, "loop "+s, api.ErrReject)
		wrongLine(t, "call "+s, api.ErrReject)
	}
}

// P21.2: instructions that aren't right.
func TestReject(t *testing.T) {
	for _, line := range []string{"clamp r0 -1", "clamp r0 2147483648", "loop 0", "loop -1", "loop 65", "call 0", "call 4", "call -1", "stores r0 r1 2147483648"} {
		wrongLine(t, line, api.ErrReject)
	}
}

// P21.2: a line without a newline behind, whatever else it is.
func TestNewline(t *testing.T) {
	for _, line := range []string{"exit", "a:", "x", "set r0", "loop 0", "jump nowhere", " "} {
		wrong(t, line, 1, api.ErrForm)
		wrong(t, "a:\nexit\n"+line, 3, api.ErrForm)
	}
	_, full := exits(api.MaxCode)
	wrong(t, full+"exit", api.MaxCode+1, api.ErrForm)
}

// P21.2: a name twice, of the same place, too.
func TestExists(t *testing.T) {
	wrong(t, "a:\na:\n", 2, api.ErrExists)
	wrong(t, "a:\nb:\nexit\nb:\na:\n", 4, api.ErrExists)
	wrong(t, "jump a\na:\nexit\na:\nloop 0\n", 4, api.ErrExists)
	wrong(t, "a:\na:", 2, api.ErrForm)
	parses(t, "a:\naa:\na1:\na0:\n", nil)
}

// P21.2: the instruction MaxCode + 1; names aren't instructions.
func TestLong(t *testing.T) {
	l, full := exits(api.MaxCode)
	names := strings.Repeat("exit\n", 3) + "a:\nb:\n" + full[15:] + "c:\nd:\n"
	parses(t, full, l)
	parses(t, names, l)
	wrong(t, full+"exit\n", 129, api.ErrLong)
	wrong(t, names+"exit\n", 133, api.ErrLong)
	wrong(t, full+"exit\nx\n", 129, api.ErrLong)
	wrong(t, full+full, 129, api.ErrLong)
	wrong(t, full+"jump nowhere\n", 129, api.ErrLong)
	// What is named ahead of it is told ahead of it.
	wrong(t, full+"x\n", 129, api.ErrForm)
	wrong(t, full+"loop 0\n", 129, api.ErrReject)
	wrong(t, full+"x:\nx:\n", 130, api.ErrExists)
}

// P21.2: of lines that are wrong the first one is told.
func TestFirst(t *testing.T) {
	lines := []struct {
		line string
		err  error
	}{{"x", api.ErrForm}, {"y:", api.ErrExists}, {"loop 0", api.ErrReject}}
	for _, a := range lines {
		for _, b := range lines {
			wrong(t, "y:\n"+a.line+"\n"+b.line+"\n", 2, a.err)
			wrong(t, "y:\njump nowhere\n"+a.line+"\nexit\n"+b.line+"\n", 3, a.err)
		}
	}
}

// P21.2: jumps to names that there aren't: told when all lines are right else, at the first such jump.
func TestNone(t *testing.T) {
	wrong(t, "jump a\n", 1, api.ErrNone)
	wrong(t, "a:\njump b\n", 2, api.ErrNone)
	wrong(t, "a:\njump a\njne r0 r1 b\njump c\n", 3, api.ErrNone)
	wrong(t, "b:\njump a\nexit\njump b\njump c\n", 2, api.ErrNone)
	wrong(t, "jump aa\na:\nexit\n", 1, api.ErrNone)
	_, full := exits(api.MaxCode - 1)
	wrong(t, full+"jle r0 r1 end\n", 128, api.ErrNone)
}

// P21.2: jumps to a place that may not be an Imm, which is the end of a program as long as it may be.
func TestFar(t *testing.T) {
	l, full := exits(api.MaxCode - 1)
	parses(t, full+"out:\njump out\n", append(l, code.Ins{Op: code.Jump, Imm: 127}))
	parses(t, "jump out\n"+full[5:]+"out:\n", append([]code.Ins{{Op: code.Jump, Imm: 127}}, l[1:]...))
	parses(t, full+"exit\nout:\n", append(l, code.Ins{Op: code.Exit}))
	wrong(t, full+"jump out\nout:\n", 128, api.ErrReject)
	wrong(t, "jump out\n"+full+"out:\n", 1, api.ErrReject)
	wrong(t, "a:\njump a\njeq r0 r1 out\njump out\n"+full[10:]+"out:\n", 3, api.ErrReject)
	// A name that there isn't is told ahead of it, wherever the two stand.
	wrong(t, "jump out\njump a\n"+full[5:]+"out:\n", 2, api.ErrNone)
	wrong(t, "jump a\njump out\n"+full[5:]+"out:\n", 1, api.ErrNone)
	// And it stands behind what is wrong in a line.
	wrong(t, "jump out\n"+full+"out:\nout:\n", 130, api.ErrExists)
}
