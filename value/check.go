package value

import (
	"unicode/utf8"

	"manifold/api"
)

// Check returns the first error of a value.
func Check(v api.Value) api.Errno {
	rules := kindRules()
	visited := 0
	for level, x := range preorder(v) {
		switch {
		case visited == api.MaxNodes:
			return api.ErrLimit
		case level > api.MaxDepth:
			return api.ErrDepth
		case IsNull(x):
			return api.ErrAbsent
		case x.Kind < api.Bool || x.Kind > api.Variant:
			return api.ErrKind
		case !IsNull(unused(x)):
			return api.ErrFormat
		}
		if e := rules[x.Kind](x); e != api.OK {
			return e
		}
		visited++
	}
	return api.OK
}

// unused returns what a value has apart from what its kind uses: Null, if it is as it should be.
func unused(v api.Value) api.Value {
	switch v.Kind {
	case api.Bool, api.Int, api.Date, api.Time:
		v.Int = 0
	case api.Decimal:
		v.Int, v.Scale = 0, 0
	case api.Text, api.Bytes:
		v.Text = ""
	case api.List:
		v.List = nil
	case api.Record:
		v.Fields = nil
	case api.Variant:
		v.Text, v.List = "", nil
	}
	v.Kind = api.Null
	return v
}

// kindRules returns the rule of each kind for a value alone, without its parts.
func kindRules() [api.Variant + 1]func(v api.Value) api.Errno {
	return [...]func(v api.Value) api.Errno{
		api.Bool:    checkBool,
		api.Int:     checkInt,
		api.Decimal: checkDecimal,
		api.Text:    checkText,
		api.Bytes:   checkBytes,
		api.Date:    checkDate,
		api.Time:    checkTime,
		api.List:    checkList,
		api.Record:  checkRecord,
		api.Variant: checkVariant,
	}
}

// inRange returns the error of a number that has to be from least to most.
func inRange(n, least, most int) api.Errno {
	if n < least || n > most {
		return api.ErrRange
	}
	return api.OK
}

func checkBool(v api.Value) api.Errno { return inRange(v.Int, 0, 1) }
func checkInt(v api.Value) api.Errno  { return inRange(v.Int, -api.MaxNumber, api.MaxNumber) }
func checkDate(v api.Value) api.Errno { return inRange(v.Int, MinDate, MaxDate) }
func checkTime(v api.Value) api.Errno { return inRange(v.Int, MinTime, MaxTime) }

func checkDecimal(v api.Value) api.Errno {
	if e := checkInt(v); e != api.OK {
		return e
	}
	return inRange(v.Scale, 0, api.MaxScale)
}

func checkBytes(v api.Value) api.Errno {
	if len(v.Text) > api.MaxText {
		return api.ErrLong
	}
	return api.OK
}

func checkText(v api.Value) api.Errno {
	if e := checkBytes(v); e != api.OK {
		return e
	}
	if !utf8.ValidString(v.Text) {
		return api.ErrText
	}
	return api.OK
}

func checkList(v api.Value) api.Errno {
	if len(v.List) > api.MaxList {
		return api.ErrLimit
	}
	return api.OK
}

func checkRecord(v api.Value) api.Errno {
	if len(v.Fields) > api.MaxFields {
		return api.ErrLimit
	}
	// No name is empty, so that every name may stand first.
	before := ""
	for _, f := range v.Fields {
		switch {
		case !IsName(f.Name):
			return api.ErrName
		case f.Name == before:
			return api.ErrDuplicate
		case f.Name < before:
			return api.ErrOrder
		}
		before = f.Name
	}
	return api.OK
}

func checkVariant(v api.Value) api.Errno {
	switch {
	case !IsName(v.Text):
		return api.ErrName
	case len(v.List) == 0:
		return api.ErrShort
	case len(v.List) > 1:
		return api.ErrFormat
	}
	return api.OK
}
