package card

import (
	"florilegium/api"
)

// firstSteps has the Step of each grade after one that was 0.
var firstSteps = [Easy + 1]int{Hard: 1, Good: 2, Easy: 4}

// easeChanges has by how much each grade changes the Ease.
var easeChanges = [Easy + 1]int{Again: -20, Hard: -15, Easy: 15}

// stepsOn gives the Step that each grade on a day leads to, also where it is above MaxStep.
func stepsOn(x State, day int) [Easy + 1]int {
	if x.Step == 0 {
		return firstSteps
	}
	days := min(max(day-x.Last, x.Step), x.Step+30)
	hard := max(x.Step+1, 12*days/10)
	good := max(hard+1, x.Ease*days/100)
	easy := max(good+1, 13*x.Ease*days/1000)
	return [Easy + 1]int{Hard: hard, Good: good, Easy: easy}
}

// graded gives a right state after a grade on a day that is not before the last one.
func graded(x State, grade, day int) State {
	steps := stepsOn(x, day)
	if grade == Again && x.Step > 0 {
		x.Lapses = min(x.Lapses+1, MaxReviews)
	}
	x.Step = min(steps[grade], MaxStep)
	x.Ease = min(max(x.Ease+easeChanges[grade], MinEase), MaxEase)
	wait := max(x.Step, 1) // what was forgotten is asked on the next day
	x.Due = min(day+wait, api.MaxDay)
	x.Last = day
	x.Times = min(x.Times+1, MaxReviews)
	x.Buried = never
	return x
}

// Grade gives a state after a grade on a day.
func Grade(x State, grade, day int) (State, api.Errno) {
	if bad := CheckState(x); bad != api.OK {
		return State{}, bad
	}
	if !isGrade(grade) {
		return State{}, api.ErrKind
	}
	if !isDay(day) {
		return State{}, api.ErrRange
	}
	if day < x.Last {
		return State{}, api.ErrOrder
	}
	return graded(x, grade, day), api.OK
}

func isGrade(n int) bool {
	return isFrom(n, Again, Easy)
}

// Chances gives for each grade on a day when a card would be due.
func Chances(x State, day int) ([]int, api.Errno) {
	var dues []int
	for grade := Again; grade <= Easy; grade++ {
		after, bad := Grade(x, grade, day)
		if bad != api.OK {
			return nil, bad
		}
		dues = append(dues, after.Due)
	}
	return dues, api.OK
}

// Replay gives the state of a card after some reviews. The int is the position of the one with an error.
func Replay(block, no int, l []Review) (State, int, api.Errno) {
	x, bad := New(block, no)
	if bad != api.OK {
		return State{}, 0, bad
	}
	if len(l) > MaxReviews {
		return State{}, 0, api.ErrLarge
	}
	for at, review := range l {
		if review.id() != x.id() {
			continue
		}
		x, bad = Grade(x, review.Grade, review.Day)
		if bad != api.OK {
			return State{}, at, bad
		}
	}
	return x, 0, api.OK
}
