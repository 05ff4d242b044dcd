package code_test

import (
	"math"
	"testing"

	"posthorse/api"
	"posthorse/code"
)

// form of an operation, from the document's table: whether it has D, S, and from which number to which one its Imm is.
type form struct {
	op         int
	d, s       bool
	least, top int
}

const (
	low  = -1 << 31
	high = 1<<31 - 1
)

// forms of all operations, by their numbers.
var forms = []form{
	{code.Set, true, false, low, high},
	{code.Move, true, true, 0, 0},
	{code.Add, true, true, 0, 0},
	{code.Sub, true, true, 0, 0},
	{code.AddI, true, false, low, high},
	{code.MulI, true, false, low, high},
	{code.Clamp, true, false, 0, high},
	{code.Load, true, true, low, high},
	{code.Load2, true, true, low, high},
	{code.LoadK, true, true, low, high},
	{code.LoadS, true, true, low, high},
	{code.StoreS, true, true, low, high},
	{code.Jump, false, false, 0, 127},
	{code.JumpEq, true, true, 0, 127},
	{code.JumpNe, true, true, 0, 127},
	{code.JumpLt, true, true, 0, 127},
	{code.JumpLe, true, true, 0, 127},
	{code.Loop, false, false, 1, 64},
	{code.End, false, false, 0, 0},
	{code.Call, false, false, 1, 3},
	{code.Exit, false, false, 0, 0},
}

// Numbers at and about the edges of registers and of Imm.
var (
	edgeRegisters = []int{math.MinInt, -256, -1, 0, 1, 6, 7, 8, 255, 256, math.MaxInt}
	edgeImms      = []int{math.MinInt, -1 << 32, low - 1, low, low + 1, -128, -1, 0, 1, 2, 3, 4, 63, 64, 65, 126, 127, 128, 255, high - 1, high, high + 1, 1 << 32, math.MaxInt}
)

// right, as the document's table says.
func right(f form, x code.Ins) bool {
	register := func(has bool, r int) bool { return r == 0 || has && r > 0 && r < 8 }
	return register(f.d, x.D) && register(f.s, x.S) && x.Imm >= f.least && x.Imm <= f.top
}

// edges: all instructions of an operation with numbers at the edges.
func edges(op int, each func(x code.Ins)) {
	for _, d := range edgeRegisters {
		for _, s := range edgeRegisters {
			for _, imm := range edgeImms {
				each(code.Ins{Op: op, D: d, S: s, Imm: imm})
			}
		}
	}
}

// The operations have the document's numbers, and the limits are the document's.
func TestNumbers(t *testing.T) {
	for i, f := range forms {
		if f.op != i {
			t.Errorf("operation %d has the number %d", i, f.op)
		}
	}
	if len(forms) != 21 || code.Registers != 8 || code.Greatest != 1<<40 {
		t.Error(len(forms), code.Registers, code.Greatest)
	}
}

// P17.1: Right, of every operation.
func TestRight(t *testing.T) {
	for _, f := range forms {
		count := 0
		edges(f.op, func(x code.Ins) {
			want := right(f, x)
			if want {
				count++
			}
			if code.Right(x) != want {
				t.Errorf("Right(%+v) = %v", x, !want)
			}
		})
		if count == 0 {
			t.Error("none is right", f.op)
		}
	}
}

// P17.1: Right, of what is no operation.
func TestRightNone(t *testing.T) {
	for _, op := range []int{math.MinInt, -21, -1, 21, 22, 255, 256, 256 + code.Exit, math.MaxInt} {
		edges(op, func(x code.Ins) {
			if code.Right(x) {
				t.Errorf("%+v is right", x)
			}
		})
	}
}

// P17.1: Right, of all that is small.
func TestRightSmall(t *testing.T) {
	for _, f := range forms {
		for d := -1; d <= 8; d++ {
			for s := -1; s <= 8; s++ {
				for imm := -2; imm <= 130; imm++ {
					x := code.Ins{Op: f.op, D: d, S: s, Imm: imm}
					if code.Right(x) != right(f, x) {
						t.Errorf("Right(%+v) = %v", x, code.Right(x))
					}
				}
			}
		}
	}
}

// P17.1: of Jump and the like Imm is below MaxCode, whatever that is.
func TestRightJump(t *testing.T) {
	for op := code.Jump; op <= code.JumpLe; op++ {
		if !code.Right(code.Ins{Op: op, Imm: api.MaxCode - 1}) || code.Right(code.Ins{Op: op, Imm: api.MaxCode}) {
			t.Error(op)
		}
	}
}

// P17.1: Jumps.
func TestJumps(t *testing.T) {
	jumps := map[int]bool{12: true, 13: true, 14: true, 15: true, 16: true}
	for op := -300; op <= 300; op++ {
		if code.Jumps(op) != jumps[op] {
			t.Error(op)
		}
	}
	for _, op := range []int{math.MinInt, math.MaxInt, 1<<32 + 12, -1<<32 + 12} {
		if code.Jumps(op) {
			t.Error(op)
		}
	}
}
