package value_test

import (
	"strconv"
	"strings"
	"testing"

	"farandole/api"
	"farandole/value"
)

// parses tests Parse by its definition, and that what it accepts is the notation of the value.
func parses(t *testing.T, s string) {
	t.Helper()
	v, e := value.Parse(s)
	want, wantError := parse(s)
	if v != want || e != wantError {
		t.Fatalf("%q: %+v %s, want %+v %s", s, v, e.Name(), want, wantError.Name())
	}
	if e == api.OK && (!value.Valid(v) || value.Show(v) != s) {
		t.Fatalf("%q: %+v, shown as %q", s, v, value.Show(v))
	}
}

// returns tests that the notation of a valid value leads back to it.
func returns(t *testing.T, v api.Value) {
	t.Helper()
	s := value.Show(v)
	if s != show(v) {
		t.Fatalf("%+v: %q, want %q", v, s, show(v))
	}
	if got, e := value.Parse(s); got != v || e != api.OK {
		t.Fatalf("%+v: %q, and back %+v %s", v, s, got, e.Name())
	}
	for _, behind := range []string{" ", "0", `"`, `\`, ",", "a", "\n", "\x00"} {
		parses(t, s+behind)
		parses(t, behind+s)
	}
}

// P15.1: Show returns the notation of a valid value, and ? for any other one.
func TestShow(t *testing.T) {
	for _, v := range corners() {
		if got, want := value.Show(v), show(v); got != want {
			t.Errorf("%+v: %q, want %q", v, got, want)
		}
	}
	for s, v := range map[string]api.Value{"0": num(0), "-1": num(-1), "1000": num(1000), "-1000": num(-1000), `""`: text(""), `"a"`: text("a"), `"\""`: text(`"`), `"\\"`: text(`\`), `"\\\""`: text(`\"`), `"\\n"`: text(`\n`), `"'"`: text("'"), `"?"`: text("?"), `"-1"`: text("-1"), `"\"\""`: text(`""`), "?": num(1001)} {
		if got := value.Show(v); got != s {
			t.Errorf("%+v: %q, want %q", v, got, s)
		}
	}
}

// P15.5: all integers and their notations.
func TestIntegers(t *testing.T) {
	for n := -1000; n <= 1000; n++ {
		returns(t, num(n))
	}
	for n := -12000; n <= 12000; n++ {
		s := strconv.Itoa(n)
		parses(t, s)
		parses(t, "+"+s)
		parses(t, "-"+s)
		parses(t, "0"+s)
		parses(t, " "+s)
		parses(t, s+" ")
		parses(t, s+".0")
		parses(t, `"`+s+`"`)
	}
}

// P15.1: ErrRange for all other integers, however many digits they have; ErrSyntax for what is none.
func TestLargeIntegers(t *testing.T) {
	for _, s := range []string{"1001", "9999", "10000", "2147483647", "2147483648", "4294967296", "4294967297", "9223372036854775807", "9223372036854775808", "18446744073709551615", "18446744073709551616", "18446744073709551617", strings.Repeat("9", 1000), "1" + strings.Repeat("0", 100000)} {
		for _, sign := range []string{"", "-"} {
			if v, e := value.Parse(sign + s); v != (api.Value{}) || e != api.ErrRange {
				t.Errorf("%s%.30s: %+v %s", sign, s, v, e.Name())
			}
		}
		for _, none := range []string{"0" + s, "-0" + s, "--" + s, "+" + s, s + " ", s + "a", s + "-", s + `"`, s + ".0", s + "e3", s + ",", s + ", 1", "0x" + s, s + "_0", s + "\n"} {
			if v, e := value.Parse(none); v != (api.Value{}) || e != api.ErrSyntax {
				t.Errorf("%.30s: %+v %s", none, v, e.Name())
			}
		}
	}
	for _, s := range []string{"", "-", "--", "-0", "00", "-00", "01", "-01", "+0", "+1", "1_0", "0x1", "0b1", "0o7", "1e2", "1.", ".1", "1-", "1-1", "- 1", "−1", "١", "NaN", "Inf", "nil", "?", "int", "a", "(1)", "()"} {
		if v, e := value.Parse(s); v != (api.Value{}) || e != api.ErrSyntax {
			t.Errorf("%q: %+v %s", s, v, e.Name())
		}
	}
}

// P15.5: texts of all bytes, and of all pairs of bytes, and their notations.
func TestTexts(t *testing.T) {
	for a := range 256 {
		for b := range 256 {
			s := string([]byte{byte(a), byte(b)})
			parses(t, s)
			parses(t, `"`+s+`"`)
			parses(t, `"`+s)
			parses(t, s+`"`)
			parses(t, `"\`+s+`"`)
			if isValue(text(s)) {
				returns(t, text(s))
				returns(t, text(s[:1]))
			}
		}
	}
	m := newMaker(6)
	for range 20000 {
		returns(t, text(m.printable(m.Intn(41))))
	}
}

// P15.1: ErrRange for texts of more than 40 bytes; a backslash ahead of a byte is none of them. ErrSyntax for what is no text, however long.
func TestLongTexts(t *testing.T) {
	for n, e := range map[int]api.Errno{39: api.OK, 40: api.OK, 41: api.ErrRange, 42: api.ErrRange, 80: api.ErrRange, 81: api.ErrRange, 100000: api.ErrRange} {
		for part, c := range map[string]string{"a": "a", " ": " ", "~": "~", `\"`: `"`, `\\`: `\`} {
			s := strings.Repeat(part, n)
			v, got := value.Parse(`"` + s + `"`)
			if got != e || e == api.OK && v != text(strings.Repeat(c, n)) || e != api.OK && v != (api.Value{}) {
				t.Errorf("%d of %q: %+v %s", n, part, v, got.Name())
			}
			for _, none := range []string{s, `"` + s, s + `"`, `"` + s + `\"`, `"` + s + `"a`, `"` + s + `" `, `"` + s + "\x1f\"", `"` + s + "\x7f\"", `"` + s + `é"`, `"` + s + `\n"`, `"` + s + `""`, `"` + s + `"a"`, `'` + s + `'`, ` "` + s + `"`, `-"` + s + `"`} {
				if v, got := value.Parse(none); v != (api.Value{}) || got != api.ErrSyntax {
					t.Errorf("%.60q: %+v %s", none, v, got.Name())
				}
			}
		}
	}
}

// P15.5: all strings of up to 5 bytes of which notations consist.
func TestShortStrings(t *testing.T) {
	for n := range 6 {
		eachString([]string{`"`, `\`, "-", "0", "1", "9", "a", " ", "?", ",", "\x1f"}, n, func(s string) { parses(t, s) })
	}
	for n := range 9 {
		eachString([]string{`"`, `\`, "a"}, n, func(s string) { parses(t, `"`+s) })
		eachString([]string{"-", "0", "1"}, n, func(s string) { parses(t, s) })
	}
}

// P15.5: random notations, and some that are changed.
func TestNotations(t *testing.T) {
	m := newMaker(7)
	counts := map[api.Errno]int{}
	for range 100000 {
		s := m.notation()
		if m.some(2) {
			s = m.changed(s)
		}
		parses(t, s)
		_, e := value.Parse(s)
		counts[e]++
	}
	if counts[api.OK] < 1000 || counts[api.ErrSyntax] < 1000 || counts[api.ErrRange] < 1000 {
		t.Error(counts)
	}
}
