package quoted_test

import (
	"testing"

	"manifold/api"
	"manifold/quoted"
)

func TestEscape(t *testing.T) {
	for s, want := range map[string]string{`\"a`: `"`, `\\n`: `\`, `\n`: "\n", `\r`: "\r", `\t"`: "\t", `\u{0}`: "\x00", `\u{e9}x`: "é", `\u{00E9}}`: "é", `\u{10FFFF}`: "\U0010FFFF"} {
		meant, size, e := quoted.Escape(s)
		if again, _, _ := quoted.Escape(s[:max(size, 0)]); meant != want || again != want || e != api.OK {
			t.Errorf("Escape(%q) = %q, %d, %d", s, meant, size, e)
		}
		if _, _, e := quoted.Escape(s[:size-1]); e != api.ErrSyntax {
			t.Errorf("Escape(%q): %d", s[:size-1], e)
		}
	}
	for s, want := range map[string]api.Errno{"": api.ErrSyntax, `\`: api.ErrSyntax, `\q`: api.ErrSyntax, `\u`: api.ErrSyntax, `\u{}`: api.ErrSyntax, `\u{g}`: api.ErrSyntax, `\u{1234567}`: api.ErrSyntax, `\u{41 }`: api.ErrSyntax, `\u{d800}`: api.ErrText, `\u{110000}`: api.ErrText} {
		if meant, size, e := quoted.Escape(s); meant != "" || size != 0 || e != want {
			t.Errorf("Escape(%q) = %q, %d, %d, want %d", s, meant, size, e, want)
		}
	}
}

func TestBytes(t *testing.T) {
	for s, want := range map[string]struct {
		meant string
		at    int
		e     api.Errno
	}{`"`: {"", 0, api.OK}, `00fF"1`: {"\x00\xFF", 4, api.OK}, `""`: {"", 0, api.OK}, "": {"", 0, api.ErrTruncated}, "0": {"", 1, api.ErrTruncated}, "0a": {"", 2, api.ErrTruncated}, `0"`: {"", 1, api.ErrSyntax}, "0g": {"", 1, api.ErrSyntax}, ` "`: {"", 0, api.ErrSyntax}} {
		if meant, at, e := quoted.Bytes(s); meant != want.meant || at != want.at || e != want.e {
			t.Errorf("Bytes(%q) = %q, %d, %d", s, meant, at, e)
		}
	}
}

func TestIsControl(t *testing.T) {
	for c := range 256 {
		if want := c < 32 || c == 127; quoted.IsControl(byte(c)) != want {
			t.Errorf("IsControl(%d)", c)
		}
	}
}
