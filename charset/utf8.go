package charset

// What all bytes of an encoding but the first one look like: 10xxxxxx.
const (
	followMask = 0xC0
	followByte = 0x80
	followBits = 6
)

// forms are the forms of encodings, by their number of bytes less 1: the bits by which their first bytes are recognized, what these bits are, and the least code point that needs as many bytes.
var forms = [4]struct {
	mask, first byte
	least       int
}{
	{0x80, 0x00, 0},
	{0xE0, 0xC0, 0x80},
	{0xF0, 0xE0, 0x800},
	{0xF8, 0xF0, 0x10000},
}

func isPoint(n int) bool {
	return n >= 0 && n <= MaxPoint && (n < FirstSurrogate || n > LastSurrogate)
}

func isFollowing(b byte) bool { return b&followMask == followByte }

// decode returns the code point whose encoding begins at a byte offset in s, and its number of bytes, or 0 if none begins there.
func decode(s string, at int) (point, size int) {
	for i := range forms {
		if s[at]&forms[i].mask == forms[i].first {
			return decodeForm(s, at, i)
		}
	}
	return 0, 0
}

// decodeForm is decode for an encoding whose form is known from its first byte.
func decodeForm(s string, at, form int) (point, size int) {
	if len(s)-at <= form {
		return 0, 0
	}
	point = int(s[at] &^ forms[form].mask)
	for i := at + 1; i <= at+form; i++ {
		if !isFollowing(s[i]) {
			return 0, 0
		}
		point = point<<followBits | int(s[i]&^followMask)
	}
	if point < forms[form].least || !isPoint(point) {
		return 0, 0
	}
	return point, form + 1
}

// encode appends the encoding of a code point to text.
func encode(text []byte, point int) []byte {
	following := len(forms) - 1
	for point < forms[following].least {
		following--
	}
	text = append(text, forms[following].first|byte(point>>(followBits*following)))
	for following > 0 {
		following--
		text = append(text, followByte|byte(point>>(followBits*following))&^followMask)
	}
	return text
}
