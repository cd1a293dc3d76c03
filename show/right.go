package show

import (
	"whittle/api"
	"whittle/parse"
)

// isRightItem: may an item be written?
func isRightItem(it api.Item) bool {
	useless := it
	useless.Kind = 0
	is := false
	switch it.Kind {
	case api.ItemDef, api.ItemToken:
		useless.Name, useless.Re = "", api.Re{}
		is = isName(it.Name) && isRight(it.Re)
	case api.ItemMap:
		useless.Name, useless.Map = "", api.Map{}
		is = isName(it.Name) && isRightMap(it.Map, api.MaxTree)
	case api.ItemRule:
		useless.Re, useless.Out, useless.By = api.Re{}, "", ""
		is = isRight(it.Re) && isTo(it.Out, it.By) && isAround(it)
		// A rule that is not Around has no use for what would stand there.
		if it.Around {
			useless.Around, useless.Left, useless.Right = false, api.Re{}, api.Re{}
		}
	}
	return is && isEmptyItem(useless)
}

// isTo: may factors become this text, or what this map makes of them?
func isTo(out, by string) bool {
	if by == "" {
		return len(out) <= api.MaxText
	}
	return out == "" && isName(by)
}

// isAround: may a rule stand between what it says, if it says so?
func isAround(it api.Item) bool {
	return !it.Around || isRight(it.Left) && isRight(it.Right)
}

// isRightMap: may a map be written, in which so many stand one in the other at most?
func isRightMap(m api.Map, most int) bool {
	if most == 0 {
		return false
	}
	useless := m
	useless.Kind = 0
	is := false
	switch m.Kind {
	case api.MapSame:
		useless.Re = api.Re{}
		is = isPlain(m.Re)
	case api.MapOut:
		useless.Re, useless.Out = api.Re{}, ""
		is = isPlain(m.Re) && len(m.Out) <= api.MaxText
	case api.MapCat, api.MapAlt:
		useless.Parts = nil
		is = len(m.Parts) >= 2
	case api.MapRep:
		useless.Parts, useless.Min, useless.Max = nil, 0, 0
		is = len(m.Parts) == 1 && isOften(m.Min, m.Max)
	}
	return is && isEmptyMap(useless) && areRightMaps(m.Parts, most-1)
}

// areRightMaps: may they be written, all of them?
func areRightMaps(l []api.Map, most int) bool {
	for _, m := range l {
		if !isRightMap(m, most) {
			return false
		}
	}
	return true
}

// isOften: may a map stand so often at least, and at most?
func isOften(least, most int) bool {
	return least == 0 && most == noBound || least == 1 && most == noBound || least == 0 && most == 1
}

// isPlain: is an expression right, and one that has no parts?
func isPlain(r api.Re) bool {
	switch r.Kind {
	case api.ReText, api.ReSet, api.ReName:
		return isRight(r)
	}
	return false
}

// isRight: is an expression right?
func isRight(r api.Re) bool { return parse.Check(r) == api.OK }

// isName: may it be a NAME? An expression that is one tells.
func isName(s string) bool { return isRight(api.Re{Kind: api.ReName, Text: s}) }

// isEmptyItem: is all of it 0 or empty?
func isEmptyItem(it api.Item) bool {
	bare := it.Kind == 0 && it.Name == "" && it.Out == "" && it.By == "" && !it.Around
	return bare && isEmpty(it.Re) && isEmptyMap(it.Map) && isEmpty(it.Left) && isEmpty(it.Right)
}

// isEmptyMap: is all of it 0 or empty?
func isEmptyMap(m api.Map) bool {
	return m.Kind == 0 && isEmpty(m.Re) && m.Out == "" && len(m.Parts) == 0 && m.Min == 0 && m.Max == 0
}

// isEmpty: is all of it 0 or empty?
func isEmpty(r api.Re) bool {
	return r.Kind == 0 && r.Text == "" && r.Set == api.Set{} && len(r.Parts) == 0 && r.Min == 0 && r.Max == 0
}
