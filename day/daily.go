package day

import (
	"slices"

	"florilegium/api"
	"florilegium/prop"
	"florilegium/tree"
)

// Title gives the title of a day's page.
func Title(day int) (string, api.Errno) {
	return prop.DateText(day)
}

// Daily gives the page of a day.
func Daily(base []api.Block, day int) (int, api.Errno) {
	if bad := tree.Check(base); bad != api.OK {
		return 0, bad
	}
	title, bad := Title(day)
	if bad != api.OK {
		return 0, bad
	}
	for _, block := range base {
		if isPage(block) && block.Text == title {
			return block.Id, api.OK
		}
	}
	return 0, api.ErrNone
}

// Dailies gives the days that have a page.
func Dailies(base []api.Block) ([]int, api.Errno) {
	if bad := tree.Check(base); bad != api.OK {
		return nil, bad
	}
	var days []int
	for _, block := range base {
		if day, bad := prop.ReadDate(block.Text); isPage(block) && bad == api.OK {
			days = append(days, day)
		}
	}
	slices.Sort(days)
	return slices.Compact(days), api.OK
}

// isPage asks whether a block of a right base is a page.
func isPage(block api.Block) bool {
	return block.Id != 0 && block.Parent == 0
}
