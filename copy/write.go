package copy

import (
	"strconv"
	"strings"

	"florilegium/api"
	"florilegium/prop"
)

// kindWords has the words of the kinds, from Insert on.
var kindWords = [...]string{"insert", "move", "remove", "type", "erase", "set"}

// OpsText writes operations.
func OpsText(l []Op) (string, api.Errno) {
	if bad := checkOps(l); bad != api.OK {
		return "", bad
	}
	var lines strings.Builder
	for _, o := range l {
		lines.WriteString(lineOf(o))
		if lines.Len() > api.MaxBody {
			return "", api.ErrLarge
		}
	}
	return lines.String(), api.OK
}

// lineOf gives the line of a right operation.
func lineOf(o Op) string {
	words := append(stampWords(o.Stamp), kindWords[o.Kind-Insert], strconv.Itoa(o.Id))
	switch o.Kind {
	case Insert:
		words = append(words, strconv.Itoa(o.Parent), strconv.Itoa(o.Left), quoted(o.Octets))
	case Move:
		words = append(words, strconv.Itoa(o.Parent), strconv.Itoa(o.Left))
	case Type:
		words = append(append(words, spotWords(o.After)...), quoted(o.Octets))
	case Erase:
		for _, spot := range o.Spots {
			words = append(words, spotWords(spot)...)
		}
	case SetProp:
		written, _ := prop.Text(o.Value)
		words = append(words, o.Name, written)
	}
	return strings.Join(words, " ") + "\n"
}

func stampWords(s Stamp) []string {
	return []string{strconv.Itoa(s.Time), strconv.Itoa(s.Copy)}
}

func spotWords(s Spot) []string {
	return append(stampWords(s.Stamp), strconv.Itoa(s.At))
}

func quoted(octets string) string {
	written, _ := prop.Text(api.Value{Kind: api.String, Text: octets})
	return written
}
