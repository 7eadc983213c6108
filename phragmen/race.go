package phragmen

import (
	"slices"

	"psephos/api"
	"psephos/graph"
	"psephos/ratio"
)

// runner is a supported candidate that is not elected.
type runner struct {
	candidate int
	approvers []int // their places in the snapshot
	stake     uint64
}

// race is an election under way.
type race struct {
	voters  []api.Voter
	runners []runner // in ascending order of candidates
	elected []Seat
	// latest has for each voter the place of the latest seat whose candidate
	// it approves, and -1 if there is none. That seat's score is its load, so
	// there are never more loads than seats.
	latest []int
}

// committee elects that many of the supported candidates.
func committee(s api.Snapshot, seats int) []Seat {
	r := begun(s)
	for range seats {
		r.elect()
	}
	return r.elected
}

func begun(s api.Snapshot) *race {
	r := &race{voters: s.Voters, latest: slices.Repeat([]int{-1}, len(s.Voters))}
	for _, c := range graph.Supported(s) {
		r.runners = append(r.runners, running(s, c))
	}
	return r
}

func running(s api.Snapshot, candidate int) runner {
	who := runner{candidate: candidate}
	numbers := graph.Approvers(s, candidate)
	for place, v := range s.Voters {
		if slices.Contains(numbers, v.ID) {
			who.approvers = append(who.approvers, place)
			who.stake += v.Stake
		}
	}
	return who
}

// elect elects the candidate with the least score, of several the first one. It
// takes a race in which there is one that is not elected.
func (r *race) elect() {
	best, least := 0, r.score(r.runners[0])
	for i, who := range r.runners[1:] {
		if score := r.score(who); ratio.Cmp(score, least) < 0 {
			best, least = i+1, score
		}
	}
	winner := r.runners[best]
	for _, place := range winner.approvers {
		r.latest[place] = len(r.elected)
	}
	r.elected = append(r.elected, Seat{Candidate: winner.candidate, Score: least})
	r.runners = slices.Delete(r.runners, best, best+1)
}

func (r *race) score(who runner) ratio.Ratio {
	sum := number(1)
	for i, stake := range r.loaded(who) {
		if stake > 0 {
			sum = plus(sum, times(number(stake), r.elected[i].Score))
		}
	}
	return over(sum, number(who.stake))
}

// loaded returns for each seat the stakes, together, of those approvers of a
// candidate whose load is the score of that seat.
func (r *race) loaded(who runner) []uint64 {
	stakes := make([]uint64, len(r.elected))
	for _, place := range who.approvers {
		if seat := r.latest[place]; seat >= 0 {
			stakes[seat] += r.voters[place].Stake
		}
	}
	return stakes
}

// The errors of layer 2 are not told below, because none comes up in an
// election. A score is at most the number of its seat, and its denominator
// divides the product of the stakes, less than 2^64 each, that the approvers of
// its own candidate and of the at most seven elected before it have: so nothing
// has anywhere near api.MaxLimbs limbs. No score is less than a load, which is
// an earlier score. And neither the approvers' stakes nor the load of a voter
// that gives anything are 0.

func number(n uint64) ratio.Ratio {
	a, _ := ratio.Of(n, 1)
	return a
}

func plus(a, b ratio.Ratio) ratio.Ratio {
	sum, _ := ratio.Add(a, b)
	return sum
}

func minus(a, b ratio.Ratio) ratio.Ratio {
	difference, _ := ratio.Sub(a, b)
	return difference
}

func times(a, b ratio.Ratio) ratio.Ratio {
	product, _ := ratio.Mul(a, b)
	return product
}

func over(a, b ratio.Ratio) ratio.Ratio {
	quotient, _ := ratio.Div(a, b)
	return quotient
}
