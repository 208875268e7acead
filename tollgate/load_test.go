package tollgate

import (
	"math/big"
	"strconv"
	"strings"
	"testing"

	"tollgate/api"
)

// texts are what Save writes of some clusters: of a new one, of one amid everything, of the greatest numbers.
func texts(t *testing.T) []string {
	t.Helper()
	most := api.Tenant{Rate: api.MaxRate, Burst: api.MaxBurst}
	great := newCluster(t, api.MaxLease, api.MaxBurst/2, []api.Tenant{most, most, most, most})
	wantOK(t, great.Pass(api.MaxTime))
	wantVerdict(t, great, 1, api.Granted)
	wantAsk(t, great, 1, 2, 1, api.Admit)
	wantAsk(t, great, 1, 3, api.MaxBurst/4, api.Admit)
	small := newCluster(t, 1, 0, []api.Tenant{{Rate: 0, Burst: 1}})
	return []string{midway(t).Save(), newCluster(t, 10, 3, two()).Save(), small.Save(), great.Save()}
}

func wantErrText(t *testing.T, text string) {
	t.Helper()
	c, e := Load(text)
	if c != nil || e != api.ErrText {
		t.Errorf("P15: Load(%.200q) = %v, %d, want ErrText", text, c, e)
	}
}

// wantEither says that Load makes nothing of a text, or a cluster whose calls come back and that can be saved behind each of them; it answers which.
func wantEither(t *testing.T, text string) *Cluster {
	t.Helper()
	c, e := Load(text)
	if c == nil {
		wantError(t, "P15: Load("+strconv.Quote(text)+"), and no cluster", e, api.ErrText)
		return nil
	}
	wantError(t, "P15: Load("+strconv.Quote(text)+"), and a cluster", e, api.OK)
	if saved := c.Save(); saved != text {
		t.Errorf("P15: Load(%q) is saved as %q", text, saved)
	}
	begun := *c
	for _, number := range scrambled(uint64(len(text)), 40) {
		step(c, number)
		c = again(t, c)
	}
	return &begun
}

func TestP15CutShortAndTooLong(t *testing.T) {
	for _, text := range texts(t) {
		for i := range text {
			wantErrText(t, text[:i])
			wantEither(t, text[i+1:])
		}
		for _, more := range []string{"0", ";", "0;", "1;", " ", "\n", "\x00", "-", "x", text, strings.Repeat("0;", 5000)} {
			wantErrText(t, text+more)
		}
		for _, ahead := range []string{" ", "+", "-", "\n", "\x00", "0", ";", "\xff"} {
			wantErrText(t, ahead+text)
		}
		wantErrText(t, strings.ReplaceAll(text, ";", "; "))
		wantErrText(t, strings.ReplaceAll(text, ";", ","))
		wantErrText(t, strings.ReplaceAll(text, ";", ""))
		wantErrText(t, strings.ReplaceAll(text, ";", ";;"))
	}
}

func TestP15NoTextAtAll(t *testing.T) {
	for _, text := range []string{
		"", " ", "x", ";", ",", "-", "0", "1", "0;", "1;", "-1;", "\x00", "\xff\xfe", "９;", "tollgate", "null", "{}",
		strings.Repeat(";", 5000), strings.Repeat("0", 5000), strings.Repeat("9", 5000), strings.Repeat("0;", 5000),
		strings.Repeat("1;", 5000), strings.Repeat("-1;", 50), strings.Repeat("9;", 50), strings.Repeat("\x00", 5000),
		"18446744073709551617;3;1;2;10;0;0;0;0;0;7;1;0;0;0;0;7;1;0;0;0;0;",
	} {
		wantErrText(t, text)
	}
	for n := range 50 {
		for _, number := range []string{"0;", "1;", "2;", "3;", "4;"} {
			wantEither(t, strings.Repeat(number, n))
		}
	}
}

func TestP1AndP15AByteTurned(t *testing.T) {
	loaded := 0
	for _, text := range texts(t) {
		for i := range text {
			for turned := range 256 {
				c := wantEither(t, text[:i]+string([]byte{byte(turned)})+text[i+1:])
				if c == nil {
					continue
				}
				loaded++
				if loaded%50 == 0 {
					wantHarmless(t, c)
				}
			}
			wantEither(t, text[:i]+text[i+1:])
			wantEither(t, text[:i]+text[i:i+1]+text[i:])
		}
	}
	if loaded < 500 {
		t.Errorf("only %d of the texts make a cluster", loaded)
	}
}

// wrongWritings are ways to write a number that Save does not use, and numbers that no int holds: two of them look like this one when they run over.
func wrongWritings(number string) []string {
	var n, over, twice big.Int
	n.SetString(number, 10)
	over.Lsh(big.NewInt(1), 64)
	twice.Lsh(big.NewInt(1), 65)
	return []string{
		"", "0" + number, "00" + number, "+" + number, "-" + number, " " + number, number + " ", "0x" + number,
		number + ".", number + "e0", number + ";", number + "\x00", "٣", "1" + strings.Repeat("0", 400),
		over.Add(&over, &n).String(), twice.Add(&twice, &n).String(),
	}
}

func TestP1AndP15ANumberTurned(t *testing.T) {
	loaded := 0
	for _, text := range texts(t) {
		numbers := strings.Split(strings.TrimSuffix(text, ";"), ";")
		for i, was := range numbers {
			for _, n := range append(odd, 6, 7, 9, 10, 11, 17, 18, 26, 27, 28, api.MaxTime+api.MaxLease, api.MaxTime+api.MaxLease+1) {
				numbers[i] = strconv.Itoa(n)
				c := wantEither(t, strings.Join(numbers, ";")+";")
				if c == nil {
					continue
				}
				loaded++
				if loaded%5 == 0 {
					wantHarmless(t, c)
				}
			}
			for _, written := range wrongWritings(was) {
				numbers[i] = written
				wantErrText(t, strings.Join(numbers, ";")+";")
			}
			numbers[i] = was
		}
	}
	if loaded < 100 {
		t.Errorf("only %d of the texts make a cluster", loaded)
	}
}

// The bounds of each number, the others being as they are: _ stands for it.
func TestP15Bounds(t *testing.T) {
	for _, s := range []struct {
		text        string
		least, most int
	}{
		{"_;3;1;2;10;0;0;0;0;0;0;1;0;0;0;0;0;1;0;0;0;0;", 1, api.MaxLease},
		{"1;_;2;2;10;0;5;0;0;0;0;0;0;0;0;0;0;0;", 0, 5},
		{"1;_;1;2;1000000;0;0;0;0;0;0;0;0;0;", 0, api.MaxBurst},
		{"1;0;1;_;1;0;0;0;0;0;0;0;0;0;", 0, api.MaxRate},
		{"1;0;1;0;_;0;0;0;0;0;0;0;0;0;", 1, api.MaxBurst},
		{"1;1;1;0;_;0;0;0;0;0;0;0;0;0;", 1, api.MaxBurst},
		{"1;7;2;0;9;0;_;0;0;0;0;0;0;0;0;0;0;0;", 7, api.MaxBurst},
		{"1;0;1;0;1;_;0;0;0;0;0;0;0;0;", 0, api.MaxTime},
		{"1;0;1;0;1;0;_;0;0;0;0;0;0;0;", api.Up, api.Down},
		{"1;0;1;0;1;0;0;_;0;0;0;0;0;0;", api.Up, api.Down},
		{"1;0;1;0;1;0;0;0;_;0;0;0;0;0;", api.Up, api.Down},
		{"1;0;1;0;1;0;0;0;0;_;0;0;0;0;", 0, 0},
		{"10;3;1;2;10;17;0;0;0;_;27;2;0;0;0;0;0;", 1, 2},
		{"10;3;1;2;10;17;0;0;0;1;_;2;0;0;0;0;0;", 10, 27},
		{"10;3;1;2;10;17;0;0;0;2;19;_;0;0;0;0;0;", 1, 19},
		{"10;3;1;2;10;17;0;0;0;2;19;2;_;0;0;0;0;", 0, 1},
		{"1;0;1;0;9;1000000000000;0;0;0;1;_;1;0;0;0;0;0;", 1, api.MaxTime + 1},
		{"1;0;1;0;9;1000000000000;0;0;0;1;1000000000001;_;0;0;0;0;0;", 1, api.MaxTime + 1},
		{"10;3;1;2;10;17;0;0;0;2;19;2;0;_;0;0;0;", 0, 7},
		{"10;3;1;2;10;17;0;0;0;2;19;2;0;0;0;_;0;", 0, 7},
		{"10;3;2;2;10;0;5;17;0;0;0;2;19;2;0;0;_;0;0;0;0;", 0, 2},
		{"10;3;1;2;10;17;0;0;0;2;19;2;0;0;0;0;_;", 0, 0},
		{"10;3;1;2;10;17;0;0;0;2;19;2;0;0;_;0;0;0;0;0;0;", 1, 1},
		{"10;3;1;2;10;17;0;0;0;2;19;2;0;0;1;_;0;0;0;0;0;", 0, 19},
		{"10;3;1;2;10;17;0;0;0;2;19;2;0;0;1;0;_;0;0;0;0;", 0, 2},
		{"10;3;1;2;10;17;0;0;0;2;19;2;0;0;1;0;0;_;0;0;0;", 0, 1},
		{"10;3;1;2;10;17;0;0;0;2;19;2;0;0;1;0;0;0;_;0;0;", 0, 3},
		{"10;3;2;2;10;0;5;17;0;0;0;2;19;2;0;0;0;1;0;0;0;0;_;0;0;0;", 0, 3},
		{"10;3;1;2;10;17;0;0;0;2;19;2;0;0;0;0;1;_;0;0;0;", 0, 19},
		{"10;3;1;2;10;17;0;0;0;2;19;2;0;0;0;0;1;0;_;0;0;", 0, 2},
		{"10;3;1;2;10;17;0;0;0;2;19;2;0;0;0;0;1;0;0;_;0;", 0, 1},
		{"10;3;1;2;10;17;0;0;0;2;19;2;0;0;0;0;1;0;0;0;_;", 0, 3},
	} {
		for _, n := range []int{s.least, s.most} {
			text := strings.Replace(s.text, "_", strconv.Itoa(n), 1)
			if wantEither(t, text) == nil {
				t.Errorf("P15: Load(%q) makes no cluster", text)
			}
		}
		for _, n := range append(odd, s.least-1, s.most+1, s.most+2, s.most*10, s.most*10+9) {
			if n < s.least || n > s.most {
				wantErrText(t, strings.Replace(s.text, "_", strconv.Itoa(n), 1))
			}
		}
	}
}

// The number of tenants goes along with how many numbers there are.
func TestP15HowManyTenants(t *testing.T) {
	for n := range 7 {
		text := "1;0;" + strconv.Itoa(n) + ";" + strings.Repeat("0;1;", n) + "0;0;0;0;0;" +
			strings.Repeat(strings.Repeat("1;", n)+"1;0;0;0;"+strings.Repeat("0;", n), 2)
		if n < 1 || n > api.MaxTenants {
			wantErrText(t, text)
			continue
		}
		c := wantEither(t, text)
		if c == nil || *c != *newCluster(t, 1, 0, []api.Tenant{{Burst: 1}, {Burst: 1}, {Burst: 1}, {Burst: 1}}[:n]) {
			t.Errorf("P15: Load(%q) = %v", text, c)
		}
	}
}

// Texts of numbers within bounds that no calls lead to: what is saved of such clusters can be loaded all the same, however they go on.
func TestP15NoCallLeadsOutOfTheBounds(t *testing.T) {
	for _, text := range []string{
		"1;2;2;1;9;2;6;5;0;0;0;1;6;6;0;7;4;1;6;6;1;2;2;7;4;1;6;6;1;2;2;",   // both nodes have the lease and act alone
		"1;2;2;1;9;2;6;5;0;0;0;2;6;6;1;0;0;1;6;1;1;2;2;7;4;1;6;6;0;2;2;",   // a lease of an old epoch
		"3;0;2;1;9;2;6;5;1;0;1;2;8;8;1;9;6;1;8;0;0;0;0;9;6;0;",             // as many epochs as the until, and who has the lease is not the holder
		"1000;0;2;1;9;2;6;0;0;0;0;1;1000;1000;0;9;6;1;1000;9;0;0;0;9;6;0;", // a thousand epochs at the time 0
		"1;0;2;1;9;2;6;999999999000;0;0;0;1;999999999001;999999999001;0;9;6;1;0;0;0;0;0;9;6;1;0;0;0;0;0;",
	} {
		if wantEither(t, text) == nil {
			t.Fatalf("P15: Load(%q) makes no cluster", text)
		}
		for seed := range 20 {
			c, e := Load(text)
			wantOK(t, e)
			for _, number := range scrambled(uint64(seed), 400) {
				step(c, number)
				c = again(t, c)
			}
		}
	}
}
