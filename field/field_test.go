package field

import "testing"

// double multiplies by 2 as the document says it.
func double(a byte) byte {
	if a >= 128 {
		return a<<1 ^ 29
	}
	return a << 1
}

// slow multiplies as the document says it: the sum of a times each power of 2 that b has.
func slow(a, b byte) byte {
	var sum byte
	for ; b > 0; b >>= 1 {
		if b&1 == 1 {
			sum ^= a
		}
		a = double(a)
	}
	return sum
}

func TestTimesExamples(t *testing.T) {
	for _, c := range [][3]byte{{2, 128, 29}, {3, 7, 9}, {2, 142, 1}, {0, 0, 0}, {0, 255, 0}, {1, 255, 255}} {
		if got := Times(c[0], c[1]); got != c[2] {
			t.Errorf("%d times %d = %d, want %d", c[0], c[1], got, c[2])
		}
	}
}

func TestTimesOfAllPairs(t *testing.T) {
	for a := range 256 {
		for b := range 256 {
			if got, want := Times(byte(a), byte(b)), slow(byte(a), byte(b)); got != want {
				t.Fatalf("%d times %d = %d, want %d", a, b, got, want)
			}
		}
	}
}

func TestInverse(t *testing.T) {
	if got := Inverse(0); got != 0 {
		t.Errorf("inverse of 0 = %d", got)
	}
	for a := 1; a < 256; a++ {
		if got := slow(byte(a), Inverse(byte(a))); got != 1 {
			t.Errorf("%d times its inverse %d = %d", a, Inverse(byte(a)), got)
		}
	}
}

func TestPower(t *testing.T) {
	want := byte(1)
	for c := range len(powers) {
		if got := Power(c); got != want {
			t.Errorf("2 to the power %d = %d, want %d", c, got, want)
		}
		want = double(want)
	}
}
