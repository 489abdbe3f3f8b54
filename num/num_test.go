package num

import (
	"math"
	"math/big"
	"strings"
	"testing"

	"dawdler/api"
)

const (
	least = math.MinInt64
	most  = math.MaxInt64
)

// numbers are those at which something changes: around 0, around powers of 2 and their opposites, around the root of 2^63, and some without a pattern (the same ones every time).
func numbers() []int {
	l := []int{0, 3, -3, 7, -7, 10, -10, 3037000499, 3037000500, -3037000499, -3037000500, least / 3, most / 3}
	for _, k := range []int{0, 1, 2, 15, 16, 30, 31, 32, 33, 47, 61, 62} {
		for d := -1; d <= 1; d++ {
			l = append(l, 1<<k+d, -(1<<k)+d)
		}
	}
	l = append(l, least, least+1, least+2, most, most-1, most-2)
	seed := uint64(1)
	for i := range 40 {
		seed = seed*6364136223846793005 + 1442695040888963407
		l = append(l, int(seed)>>(i%5*13))
	}
	return l
}

// wrongs are texts that are no operation, and no comparison.
func wrongs() []string {
	return []string{
		"", " ", "=", ">", "<=", ">=", "!=", "%", "^", "&", "|", "->", "<-", "--", "++", "**", "//", "===", "<<",
		"+ ", " +", "+\n", "+\x00", "\x00", "\xff", "/\xff", "<\x00", "==\n", "0", "add", "−", "×", "÷",
		strings.Repeat("+", 100000), "+" + strings.Repeat(" ", 100000),
	}
}

// exact is what an operation makes of two numbers, however great that is; none of a division by 0.
func exact(op string, a, b int) *big.Int {
	x, y := big.NewInt(int64(a)), big.NewInt(int64(b))
	switch op {
	case "+":
		return x.Add(x, y)
	case "-":
		return x.Sub(x, y)
	case "*":
		return x.Mul(x, y)
	}
	if b == 0 {
		return nil
	}
	return x.Quo(x, y)
}

// P1.1: what the document asks, held against numbers without a bound.
func TestDoIsExact(t *testing.T) {
	for _, op := range []string{"+", "-", "*", "/"} {
		for _, a := range numbers() {
			for _, b := range numbers() {
				want, e := 0, api.OK
				if z := exact(op, a, b); z == nil {
					e = api.ErrZero
				} else if !z.IsInt64() {
					e = api.ErrOver
				} else {
					want = int(z.Int64())
				}
				if n, f := Do(op, a, b); n != want || f != e {
					t.Errorf("Do(%q, %d, %d) = %d, %d; want %d, %d", op, a, b, n, int(f), want, int(e))
				}
			}
		}
	}
}

type doCase struct {
	op   string
	a, b int
	n    int
	e    api.Errno
}

func checkDo(t *testing.T, l []doCase) {
	t.Helper()
	for _, c := range l {
		if n, e := Do(c.op, c.a, c.b); n != c.n || e != c.e {
			t.Errorf("Do(%q, %d, %d) = %d, %d; want %d, %d", c.op, c.a, c.b, n, int(e), c.n, int(c.e))
		}
	}
}

// P1.1: sums and differences, up to both ends and one beyond.
func TestDoSums(t *testing.T) {
	checkDo(t, []doCase{
		{"+", 2, 3, 5, api.OK}, {"+", -2, -3, -5, api.OK}, {"+", 0, 0, 0, api.OK},
		{"+", most, 0, most, api.OK}, {"+", least, 0, least, api.OK}, {"+", most, least, -1, api.OK},
		{"+", most - 1, 1, most, api.OK}, {"+", least + 1, -1, least, api.OK},
		{"+", most, 1, 0, api.ErrOver}, {"+", 1, most, 0, api.ErrOver}, {"+", least, -1, 0, api.ErrOver}, {"+", -1, least, 0, api.ErrOver},
		{"+", most, most, 0, api.ErrOver}, {"+", least, least, 0, api.ErrOver},
		{"-", 2, 3, -1, api.OK}, {"-", 3, 2, 1, api.OK}, {"-", -1, least, most, api.OK},
		{"-", least, least, 0, api.OK}, {"-", most, most, 0, api.OK}, {"-", 0, most, -most, api.OK},
		{"-", 0, least, 0, api.ErrOver}, {"-", least, 1, 0, api.ErrOver}, {"-", most, -1, 0, api.ErrOver},
		{"-", most, least, 0, api.ErrOver}, {"-", least, most, 0, api.ErrOver},
	})
}

// P1.1: products, up to both ends and one beyond.
func TestDoProducts(t *testing.T) {
	checkDo(t, []doCase{
		{"*", 3, -4, -12, api.OK}, {"*", -3, -4, 12, api.OK}, {"*", 0, least, 0, api.OK}, {"*", most, 0, 0, api.OK},
		{"*", 1, least, least, api.OK}, {"*", 1 << 62, -2, least, api.OK}, {"*", -1 << 32, 1 << 31, least, api.OK},
		{"*", most, -1, -most, api.OK}, {"*", 3037000499, 3037000499, 9223372030926249001, api.OK},
		{"*", least, -1, 0, api.ErrOver}, {"*", -1, least, 0, api.ErrOver}, {"*", 1 << 62, 2, 0, api.ErrOver},
		{"*", 1 << 32, 1 << 31, 0, api.ErrOver}, {"*", 3037000500, 3037000500, 0, api.ErrOver},
		{"*", 1 << 32, 1 << 32, 0, api.ErrOver}, {"*", least, least, 0, api.ErrOver}, {"*", least, most, 0, api.ErrOver},
		{"*", least, 2, 0, api.ErrOver}, {"*", most, most, 0, api.ErrOver},
	})
}

// P1.1: quotients go towards 0; there is none by 0, and of one alone it is too great.
func TestDoQuotients(t *testing.T) {
	checkDo(t, []doCase{
		{"/", 7, 2, 3, api.OK}, {"/", -7, 2, -3, api.OK}, {"/", 7, -2, -3, api.OK}, {"/", -7, -2, 3, api.OK},
		{"/", 6, 2, 3, api.OK}, {"/", -6, 2, -3, api.OK}, {"/", 1, 2, 0, api.OK}, {"/", -1, 2, 0, api.OK}, {"/", 1, -2, 0, api.OK},
		{"/", 0, -1, 0, api.OK}, {"/", 5, -1, -5, api.OK}, {"/", -5, -1, 5, api.OK},
		{"/", least, 1, least, api.OK}, {"/", least, 2, -1 << 62, api.OK}, {"/", least, -2, 1 << 62, api.OK},
		{"/", least, least, 1, api.OK}, {"/", most, least, 0, api.OK}, {"/", least, most, -1, api.OK},
		{"/", most, -1, -most, api.OK}, {"/", least + 1, -1, most, api.OK},
		{"/", least, -1, 0, api.ErrOver},
		{"/", 5, 0, 0, api.ErrZero}, {"/", 0, 0, 0, api.ErrZero}, {"/", -5, 0, 0, api.ErrZero}, {"/", least, 0, 0, api.ErrZero}, {"/", most, 0, 0, api.ErrZero},
	})
}

// P1.1: any other op is ErrArg, and 0, whatever the numbers are.
func TestDoWrong(t *testing.T) {
	for _, op := range append(wrongs(), "==", "<") {
		checkDo(t, []doCase{
			{op, 1, 1, 0, api.ErrArg}, {op, 5, 0, 0, api.ErrArg}, {op, least, -1, 0, api.ErrArg}, {op, most, most, 0, api.ErrArg},
		})
	}
}

// P1.2: a is b, a is less; just one of less, alike and greater holds.
func TestHolds(t *testing.T) {
	for _, a := range numbers() {
		for _, b := range numbers() {
			order := big.NewInt(int64(a)).Cmp(big.NewInt(int64(b)))
			if is, e := Holds("==", a, b); is != (order == 0) || e != api.OK {
				t.Errorf("Holds(==, %d, %d) = %v, %d", a, b, is, int(e))
			}
			if is, e := Holds("<", a, b); is != (order < 0) || e != api.OK {
				t.Errorf("Holds(<, %d, %d) = %v, %d", a, b, is, int(e))
			}
		}
	}
}

// P1.2: any other op is ErrArg, and false, of numbers of which both comparisons' answers differ.
func TestHoldsWrong(t *testing.T) {
	for _, op := range append(wrongs(), "+", "-", "*", "/") {
		for _, c := range [][2]int{{1, 1}, {1, 2}, {2, 1}, {least, most}, {0, 0}} {
			if is, e := Holds(op, c[0], c[1]); is || e != api.ErrArg {
				t.Errorf("Holds(%q, %d, %d) = %v, %d", op, c[0], c[1], is, int(e))
			}
		}
	}
}

// P1.2: whose an op is.
func TestIs(t *testing.T) {
	for _, op := range []string{"+", "-", "*", "/"} {
		if does, holds := Is(op); !does || holds {
			t.Errorf("Is(%q) = %v, %v", op, does, holds)
		}
	}
	for _, op := range []string{"==", "<"} {
		if does, holds := Is(op); does || !holds {
			t.Errorf("Is(%q) = %v, %v", op, does, holds)
		}
	}
	for _, op := range wrongs() {
		if does, holds := Is(op); does || holds {
			t.Errorf("Is(%q) = %v, %v", op, does, holds)
		}
	}
}

// P1.2: Is says just which ops Do and Holds take.
func TestIsAgrees(t *testing.T) {
	for _, op := range append(wrongs(), "+", "-", "*", "/", "==", "<") {
		does, holds := Is(op)
		if _, e := Do(op, 1, 1); (e != api.ErrArg) != does {
			t.Errorf("Is(%q) says %v of Do, which answers %d", op, does, int(e))
		}
		if _, e := Holds(op, 1, 1); (e != api.ErrArg) != holds {
			t.Errorf("Is(%q) says %v of Holds, which answers %d", op, holds, int(e))
		}
	}
}

// P1.3: what is added is taken away again, and what is taken away is added again.
func TestAddedIsTakenAway(t *testing.T) {
	for _, way := range [][2]string{{"+", "-"}, {"-", "+"}} {
		for _, a := range numbers() {
			for _, b := range numbers() {
				n, e := Do(way[0], a, b)
				if e != api.OK {
					continue
				}
				if back, e := Do(way[1], n, b); back != a || e != api.OK {
					t.Errorf("%d %s %d %s %d = %d, %d", a, way[0], b, way[1], b, back, int(e))
				}
			}
		}
	}
}

// P1.3: what a quotient is of, and what is left, make the number; what is left is less than what was divided by, and of the number's sign.
func TestQuotientAndRest(t *testing.T) {
	for _, a := range numbers() {
		for _, b := range numbers() {
			q, e := Do("/", a, b)
			if e != api.OK {
				continue
			}
			of, e1 := Do("*", q, b)
			left, e2 := Do("-", a, of)
			whole, e3 := Do("+", of, left)
			if e1 != api.OK || e2 != api.OK || e3 != api.OK || whole != a {
				t.Errorf("%d / %d: %d and %d make %d (%d, %d, %d)", a, b, of, left, whole, int(e1), int(e2), int(e3))
			}
			less := new(big.Int).Abs(big.NewInt(int64(left))).Cmp(new(big.Int).Abs(big.NewInt(int64(b)))) < 0
			if !less || left < 0 && a > 0 || left > 0 && a < 0 {
				t.Errorf("%d / %d leaves %d", a, b, left)
			}
		}
	}
}
