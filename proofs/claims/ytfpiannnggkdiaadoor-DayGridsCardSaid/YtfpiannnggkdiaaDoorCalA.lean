/- The calendar in plain numbers: years, months, dates, weeks; what the reference reckons. -/
namespace Go.Proofs.YtfpiannnggkdiaaDoor.Cal

def lys (y : Int) : Int := y / 4 - y / 100 + y / 400
def ys (y : Int) : Int := 365 * (y - 2001) + lys (y - 1) - lys 2000
def leapB (y : Int) : Bool := decide (y % 4 = 0 ∧ (y % 100 ≠ 0 ∨ y % 400 = 0))
def lp (y : Int) : Int := if leapB y = true then 1 else 0
def cum (y m : Int) : Int := if m ≤ 2 then 31 * (m - 1) else 59 + lp y + (153 * (m - 3) + 2) / 5
def ml (y m : Int) : Int := cum y (m + 1) - cum y m

theorem lp_01 (y : Int) : 0 ≤ lp y ∧ lp y ≤ 1 := by unfold lp; split <;> omega
theorem lp_true {y : Int} (h : leapB y = true) : lp y = 1 := by unfold lp; rw [if_pos h]
theorem lp_false {y : Int} (h : leapB y = false) : lp y = 0 := by unfold lp; rw [if_neg (by simp [h])]
theorem leap_iff (y : Int) : leapB y = true ↔ (y % 4 = 0 ∧ (y % 100 ≠ 0 ∨ y % 400 = 0)) := by unfold leapB; simp
theorem leap_not (y : Int) : leapB y = false ↔ ¬ (y % 4 = 0 ∧ (y % 100 ≠ 0 ∨ y % 400 = 0)) := by unfold leapB; simp

theorem lys_succ (y : Int) : lys (y + 1) = lys y + lp (y + 1) := by
  cases h : leapB (y + 1)
  · rw [lp_false h]; rw [leap_not] at h; unfold lys; omega
  · rw [lp_true h]; rw [leap_iff] at h; unfold lys; omega
theorem ys_succ (y : Int) : ys (y + 1) = ys y + 365 + lp y := by
  have := lys_succ (y - 1)
  rw [show y - 1 + 1 = y by omega] at this
  unfold ys
  rw [show y + 1 - 1 = y by omega, this]; omega
theorem ys_mono (a b : Int) (h : a ≤ b) : ys a ≤ ys b := by unfold ys lys; omega
theorem ys_mono' (a b : Int) (h : a < b) : ys (a + 1) ≤ ys b := ys_mono _ _ (by omega)
theorem ys_lo (y : Int) (h : 2001 ≤ y) : 365 * (y - 2001) ≤ ys y := by unfold ys lys; omega
theorem ys_guess (d : Int) (h : 0 ≤ d) : ys (2001 + d / 366) ≤ d := by unfold ys lys; omega
theorem ys_2001 : ys 2001 = 0 := by decide
theorem ys_bd (y : Int) (h : 2001 ≤ y) (h2 : y ≤ 12000) : 0 ≤ ys y ∧ ys y ≤ 366 * (y - 2001) := by unfold ys lys; omega

def YearIs (d y : Int) : Prop := 2001 ≤ y ∧ ys y ≤ d ∧ d < ys (y + 1)
theorem YearIs.unique {d a b : Int} (h : YearIs d a) (g : YearIs d b) : a = b := by
  obtain ⟨_, h1, h2⟩ := h
  obtain ⟨_, g1, g2⟩ := g
  rcases Int.lt_trichotomy a b with h | h | h
  · have := ys_mono' _ _ h; omega
  · exact h
  · have := ys_mono' _ _ h; omega

theorem ml_cases (y m : Int) (h1 : 1 ≤ m) (h2 : m ≤ 12) :
    ml y m = if m = 2 then 28 + lp y else if m = 4 ∨ m = 6 ∨ m = 9 ∨ m = 11 then 30 else 31 := by
  unfold ml cum
  have := lp_01 y
  rcases (by omega : m = 1 ∨ m = 2 ∨ m = 3 ∨ m = 4 ∨ m = 5 ∨ m = 6 ∨ m = 7 ∨ m = 8 ∨ m = 9 ∨ m = 10 ∨ m = 11 ∨ m = 12) with rfl | rfl | rfl | rfl | rfl | rfl | rfl | rfl | rfl | rfl | rfl | rfl <;> simp <;> omega
theorem ml_bd (y m : Int) (h1 : 1 ≤ m) (h2 : m ≤ 12) : 28 ≤ ml y m ∧ ml y m ≤ 31 := by
  rw [ml_cases y m h1 h2]; have := lp_01 y; split; omega; split <;> omega
theorem cum_succ (y m : Int) : cum y (m + 1) = cum y m + ml y m := by unfold ml; omega
theorem cum_one (y : Int) : cum y 1 = 0 := by simp [cum]
theorem cum_13 (y : Int) : cum y 13 = 365 + lp y := by simp [cum]; omega
theorem cum_mono (y a b : Int) (h0 : 1 ≤ a) (h : a ≤ b) : cum y a ≤ cum y b := by
  unfold cum; have := lp_01 y; split <;> split <;> omega
theorem cum_bd (y m : Int) (h1 : 1 ≤ m) (h2 : m ≤ 13) : 0 ≤ cum y m ∧ cum y m ≤ 366 := by
  have a := cum_mono y 1 m (by omega) h1
  have b := cum_mono y m 13 h1 h2
  rw [cum_one] at a; rw [cum_13] at b; have := lp_01 y; omega

/-- y, m, n are the date of day d. -/
def DateIs (d y m n : Int) : Prop := YearIs d y ∧ 1 ≤ m ∧ m ≤ 12 ∧ 1 ≤ n ∧ n ≤ ml y m ∧ d = ys y + cum y m + n - 1

theorem date_mk {y m n : Int} (hy : 2001 ≤ y) (h1 : 1 ≤ m) (h2 : m ≤ 12) (h3 : 1 ≤ n) (h4 : n ≤ ml y m) : DateIs (ys y + cum y m + n - 1) y m n := by
  refine ⟨⟨hy, ?_, ?_⟩, h1, h2, h3, h4, rfl⟩
  · have := cum_bd y m h1 (by omega); omega
  · have a := cum_mono y (m + 1) 13 (by omega) (by omega)
    rw [cum_13, cum_succ] at a
    rw [ys_succ]; omega

theorem DateIs.unique {d y m n a b c : Int} (h : DateIs d y m n) (g : DateIs d a b c) : y = a ∧ m = b ∧ n = c := by
  obtain ⟨hy, h1, h2, h3, h4, h5⟩ := h
  obtain ⟨gy, g1, g2, g3, g4, g5⟩ := g
  obtain rfl := hy.unique gy
  have hm : m = b := by
    rcases Int.lt_trichotomy m b with h | h | h
    · have := cum_mono y (m + 1) b (by omega) (by omega); rw [cum_succ] at this; omega
    · exact h
    · have := cum_mono y (b + 1) m (by omega) (by omega); rw [cum_succ] at this; omega
  subst hm
  exact ⟨rfl, rfl, by omega⟩

/-- The day after. -/
theorem DateIs.next {d y m n : Int} (h : DateIs d y m n) :
    (n < ml y m ∧ DateIs (d + 1) y m (n + 1)) ∨ (28 ≤ n ∧ m < 12 ∧ DateIs (d + 1) y (m + 1) 1) ∨ (28 ≤ n ∧ m = 12 ∧ DateIs (d + 1) (y + 1) 1 1) := by
  obtain ⟨hy, h1, h2, h3, h4, h5⟩ := h
  have bd := ml_bd y m h1 h2
  have hy1 := hy.1
  by_cases hl : n < ml y m
  · left
    have := date_mk (y := y) (m := m) (n := n + 1) hy1 h1 h2 (by omega) (by omega)
    rw [show ys y + cum y m + (n + 1) - 1 = d + 1 by omega] at this
    exact ⟨hl, this⟩
  · right
    by_cases hm : m < 12
    · left
      have b2 := ml_bd y (m + 1) (by omega) (by omega)
      have := date_mk (y := y) (m := m + 1) (n := 1) hy1 (by omega) (by omega) (by omega) (by omega)
      rw [cum_succ, show ys y + (cum y m + ml y m) + 1 - 1 = d + 1 by omega] at this
      exact ⟨by omega, hm, this⟩
    · right
      obtain rfl : m = 12 := by omega
      have b2 := ml_bd (y + 1) 1 (by omega) (by omega)
      have := date_mk (y := y + 1) (m := 1) (n := 1) (by omega) (by omega) (by omega) (by omega) (by omega)
      have c := cum_succ y 12
      rw [show (12 : Int) + 1 = 13 by rfl, cum_13] at c
      rw [cum_one, ys_succ, show ys y + 365 + lp y + 0 + 1 - 1 = d + 1 by omega] at this
      exact ⟨by omega, rfl, this⟩

/-- Thursday of the week. -/
def thu (d : Int) : Int := d - d % 7 + 3
theorem thu_same {d : Int} (h : d % 7 ≠ 6) : thu (d + 1) = thu d := by unfold thu; omega
theorem thu_next {d : Int} (h : d % 7 = 6) : thu (d + 1) = thu d + 7 := by unfold thu; omega

theorem week_step {t a b : Int} (ha : YearIs t a) (hb : YearIs (t + 7) b) :
    (a = b ∧ (t + 7 - ys b) / 7 + 1 = (t - ys a) / 7 + 1 + 1) ∨ (b = a + 1 ∧ (t + 7 - ys b) / 7 + 1 = 1 ∧ 52 ≤ (t - ys a) / 7 + 1) := by
  obtain ⟨a0, a1, a2⟩ := ha
  obtain ⟨b0, b1, b2⟩ := hb
  have l := lp_01 a
  have l1 := lp_01 (a + 1)
  have s := ys_succ a
  have s1 := ys_succ (a + 1)
  rcases Int.lt_trichotomy a b with h | h | h
  · right
    have hb : b = a + 1 := by
      rcases Int.lt_or_le (a + 1) b with h' | h'
      · have := ys_mono' _ _ h'; omega
      · omega
    subst hb
    refine ⟨rfl, by omega, by omega⟩
  · left; subst h; exact ⟨rfl, by omega⟩
  · have := ys_mono' _ _ h; omega
theorem era_split (e : Int) (h0 : 0 ≤ e) (h1 : e < 146097) : ∃ c q s : Int, 0 ≤ c ∧ c ≤ 3 ∧ 0 ≤ q ∧ q ≤ 24 ∧ 0 ≤ s ∧ s ≤ 1460 ∧ e = 36524 * c + 1461 * q + s ∧ (s = 1460 → q = 24 → c = 3) := by
  by_cases h : e = 146096
  · exact ⟨3, 24, 1460, by omega, by omega, by omega, by omega, by omega, by omega, by omega, by omega⟩
  · refine ⟨e / 36524, (e % 36524) / 1461, e % 36524 % 1461, by omega, by omega, by omega, by omega, by omega, by omega, by omega, by omega⟩
theorem era_year (e c q s : Int) (hc0 : 0 ≤ c) (hc : c ≤ 3) (hq0 : 0 ≤ q) (hq : q ≤ 24) (hs0 : 0 ≤ s) (hs : s ≤ 1460) (he : e = 36524 * c + 1461 * q + s) (hx : s = 1460 → q = 24 → c = 3) :
    (e - e / 1460 + e / 36524 - e / 146096) / 365 = 100 * c + 4 * q + (if s = 1460 then 3 else s / 365) := by
  have e1 : e / 1460 = 25 * c + q + (if 1460 ≤ 24 * c + q + s then 1 else 0) := by split <;> omega
  by_cases hb : e = 146096
  · have : s = 1460 := by omega
    have : q = 24 := by omega
    have : c = 3 := by omega
    subst_vars; decide
  · have e2 : e / 36524 = c := by omega
    have e3 : e / 146096 = 0 := by omega
    rw [e1, e2, e3]
    split <;> split <;> omega
theorem era_f (c q z : Int) (hq0 : 0 ≤ q) (hq : q ≤ 24) (hz0 : 0 ≤ z) (hz : z ≤ 3) :
    365 * (100 * c + 4 * q + z) + (100 * c + 4 * q + z) / 4 - (100 * c + 4 * q + z) / 100 = 36524 * c + 1461 * q + 365 * z := by omega
theorem era (e y : Int) (h0 : 0 ≤ e) (h1 : e < 146097) (hy : y = (e - e / 1460 + e / 36524 - e / 146096) / 365) :
    0 ≤ e - (365 * y + y / 4 - y / 100) ∧ 0 ≤ y ∧ y < 400 ∧ (e - (365 * y + y / 4 - y / 100) ≤ 364 ∨ (e - (365 * y + y / 4 - y / 100) = 365 ∧ (y + 1) % 4 = 0 ∧ ((y + 1) % 100 ≠ 0 ∨ (y + 1) % 400 = 0))) := by
  obtain ⟨c, q, s, a0, a1, a2, a3, a4, a5, a6, a7⟩ := era_split e h0 h1
  rw [era_year e c q s a0 a1 a2 a3 a4 a5 a6 a7] at hy
  by_cases hs : s = 1460
  · rw [if_pos hs] at hy
    have f := era_f c q 3 a2 a3 (by omega) (by omega)
    rw [← hy] at f
    rw [f]; omega
  · rw [if_neg hs] at hy
    have f := era_f c q (s / 365) a2 a3 (by omega) (by omega)
    rw [← hy] at f
    rw [f]; omega

theorem parts_date (d row y k m n : Int) (h0 : 0 ≤ d) (hr : row = (d + 730791) / 146097)
    (hy : y = ((d + 730791 - 146097 * row) - (d + 730791 - 146097 * row) / 1460 + (d + 730791 - 146097 * row) / 36524 - (d + 730791 - 146097 * row) / 146096) / 365)
    (hk : k = d + 730791 - 146097 * row - (365 * y + y / 4 - y / 100)) (hm : m = (5 * k + 2) / 153) (hn : n = k - (153 * m + 2) / 5 + 1) :
    0 ≤ k ∧ k ≤ 365 ∧ 0 ≤ y ∧ y < 400 ∧ (m ≤ 9 → DateIs d (400 * row + y) (m + 3) n) ∧ (10 ≤ m → DateIs d (400 * row + y + 1) (m - 9) n) := by
  obtain ⟨k0, y0, y1, k1⟩ := era (d + 730791 - 146097 * row) y (by omega) (by omega) hy
  rw [← hk] at k0 k1
  clear hy
  have hr5 : 5 ≤ row := by omega
  have hl : lp (400 * row + y + 1) = 1 ∨ (lp (400 * row + y + 1) = 0 ∧ k ≤ 364) := by
    cases h : leapB (400 * row + y + 1)
    · right
      rw [lp_false h]
      rw [leap_not] at h
      refine ⟨rfl, ?_⟩
      rcases k1 with k1 | ⟨_, k2, k3⟩
      · exact k1
      · exfalso; apply h; refine ⟨by omega, ?_⟩; rcases k3 with k3 | k3
        · left; omega
        · right; omega
    · left; exact lp_true h
  have hd : d = ys (400 * row + y) + 59 + lp (400 * row + y) + k := by
    have e1 : ys (400 * row + y) + lp (400 * row + y) = 365 * (400 * row + y - 2001) + lys (400 * row + y) - lys 2000 := by
      have := lys_succ (400 * row + y - 1)
      rw [show 400 * row + y - 1 + 1 = 400 * row + y by omega] at this
      unfold ys; rw [this]; omega
    have e2 : lys (400 * row + y) = 97 * row + y / 4 - y / 100 + y / 400 := by
      have a1 : (400 * row + y) / 4 = 100 * row + y / 4 := by omega
      have a2 : (400 * row + y) / 100 = 4 * row + y / 100 := by omega
      have a3 : (400 * row + y) / 400 = row + y / 400 := by omega
      unfold lys; rw [a1, a2, a3]; omega
    have e3 : lys 2000 = 485 := by decide
    rw [e3, e2] at e1
    omega
  have k2 : k ≤ 365 := by omega
  refine ⟨k0, k2, y0, y1, fun h9 => ?_, fun h10 => ?_⟩
  · have hyy : 2001 ≤ 400 * row + y := by
      by_cases hc : 2001 ≤ 400 * row + y
      · exact hc
      · exfalso
        have : 400 * row + y ≤ 2000 := by omega
        have m1 := ys_mono _ _ this
        have b := lp_01 (400 * row + y)
        have e3 : ys 2000 = -366 := by decide
        omega
    have b := lp_01 (400 * row + y)
    have hml : ml (400 * row + y) (m + 3) = (153 * (m + 1) + 2) / 5 - (153 * m + 2) / 5 := by
      unfold ml cum; rw [if_neg (by omega), if_neg (by omega)]; 
      rw [show m + 3 - 3 = m by omega, show m + 3 + 1 - 3 = m + 1 by omega]; omega
    have hcum : cum (400 * row + y) (m + 3) = 59 + lp (400 * row + y) + (153 * m + 2) / 5 := by
      unfold cum; rw [if_neg (by omega), show m + 3 - 3 = m by omega]
    have g := date_mk (y := 400 * row + y) (m := m + 3) (n := n) hyy (by omega) (by omega) (by omega) (by rw [hml]; omega)
    rw [hcum] at g
    have e : ys (400 * row + y) + (59 + lp (400 * row + y) + (153 * m + 2) / 5) + n - 1 = d := by omega
    rw [e] at g; exact g
  · have hyy : 2001 ≤ 400 * row + y + 1 := by
      by_cases hc : 2001 ≤ 400 * row + y + 1
      · exact hc
      · exfalso
        have : 400 * row + y + 1 ≤ 2000 := by omega
        have m1 := ys_mono _ _ this
        have b := lp_01 (400 * row + y)
        have s := ys_succ (400 * row + y)
        have e3 : ys 2000 = -366 := by decide
        omega
    have s := ys_succ (400 * row + y)
    have hml : ml (400 * row + y + 1) (m - 9) = if m = 10 then 31 else 28 + lp (400 * row + y + 1) := by
      rw [ml_cases _ _ (by omega) (by omega)]
      rcases (by omega : m = 10 ∨ m = 11) with rfl | rfl <;> simp
    have hcum : cum (400 * row + y + 1) (m - 9) = 31 * (m - 10) := by
      unfold cum; rw [if_pos (by omega)]; omega
    have g := date_mk (y := 400 * row + y + 1) (m := m - 9) (n := n) hyy (by omega) (by omega) (by omega) (by rw [hml]; split <;> omega)
    rw [hcum] at g
    have e : ys (400 * row + y + 1) + 31 * (m - 10) + n - 1 = d := by
      have x : (153 * m + 2) / 5 = 306 + 31 * (m - 10) := by rcases (by omega : m = 10 ∨ m = 11) with h | h <;> rw [h] <;> rfl
      omega
    rw [e] at g; exact g

/-- The reference's day of a year, a month that may be beyond the year, and a number. -/
def refDay (y m n : Int) : Int := ys (y + (m - 1) / 12) + cum (y + (m - 1) / 12) (m - 12 * ((m - 1) / 12)) + n - 1

/-- What Months gives. -/
def monY (y m k : Int) : Int := 2001 + ((y - 2001) * 12 + m - 1 + k) / 12
def monM (y m k : Int) : Int := ((y - 2001) * 12 + m - 1 + k) % 12 + 1
def monD (y m n k : Int) : Int := ys (monY y m k) + cum (monY y m k) (monM y m k) + min n (ml (monY y m k) (monM y m k)) - 1
def monOk (y m n k : Int) : Bool := decide (0 ≤ (y - 2001) * 12 + m - 1 + k ∧ (y - 2001) * 12 + m - 1 + k ≤ 3287 ∧ monD y m n k ≤ 100000)

theorem mon_year (y m k : Int) : y + (m + k - 1) / 12 = monY y m k := by unfold monY; omega
theorem mon_month (y m k : Int) : m + k - 12 * ((m + k - 1) / 12) = monM y m k := by unfold monM; omega
theorem monM_bd (y m k : Int) : 1 ≤ monM y m k ∧ monM y m k ≤ 12 := by unfold monM; omega
theorem ref_first (y m k n : Int) : refDay y (m + k) n = ys (monY y m k) + cum (monY y m k) (monM y m k) + n - 1 := by
  unfold refDay; rw [mon_year, mon_month]
theorem ref_next (y m k : Int) : refDay y (m + k + 1) 1 - refDay y (m + k) 1 = ml (monY y m k) (monM y m k) := by
  have H := ref_first y m k 1
  rw [H]
  clear H
  have bd := monM_bd y m k
  by_cases h : monM y m k = 12
  · have e1 : y + (m + k + 1 - 1) / 12 = monY y m k + 1 := by unfold monM at h; unfold monY; omega
    have e2 : m + k + 1 - 12 * ((m + k + 1 - 1) / 12) = 1 := by unfold monM at h; omega
    unfold refDay
    rw [e1, e2, h, cum_one, ys_succ]
    unfold ml
    rw [show (12 : Int) + 1 = 13 by rfl, cum_13]; omega
  · have e1 : y + (m + k + 1 - 1) / 12 = monY y m k := by unfold monM at h; unfold monY; omega
    have e2 : m + k + 1 - 12 * ((m + k + 1 - 1) / 12) = monM y m k + 1 := by unfold monM at h ⊢; omega
    unfold refDay
    rw [e1, e2, cum_succ]; omega
theorem ref_out (y m n k : Int) (hn : 1 ≤ n) (h : (y - 2001) * 12 + m - 1 + k < 0 ∨ 3287 < (y - 2001) * 12 + m - 1 + k) : monD y m n k < 0 ∨ 100000 < monD y m n k := by
  have bd := monM_bd y m k
  have mb := ml_bd (monY y m k) (monM y m k) bd.1 bd.2
  have c := cum_bd (monY y m k) (monM y m k) bd.1 (by omega)
  have hm : min n (ml (monY y m k) (monM y m k)) ≤ ml (monY y m k) (monM y m k) := Int.min_le_right _ _
  have hm1 : 1 ≤ min n (ml (monY y m k) (monM y m k)) := by rw [Int.le_min]; omega
  rcases h with h | h
  · left
    have hy : monY y m k + 1 ≤ 2001 := by unfold monY; omega
    have a := ys_mono _ _ hy
    rw [ys_2001, ys_succ] at a
    have b := cum_mono (monY y m k) (monM y m k + 1) 13 (by omega) (by omega)
    rw [cum_succ, cum_13] at b
    unfold monD; omega
  · right
    have hy : 2275 ≤ monY y m k := by unfold monY; omega
    have a := ys_mono _ _ hy
    have e : ys 2275 = 100076 := by decide
    unfold monD; omega

/-- A number beyond the month is of the next one. -/
theorem over {y m n : Int} (hy : 2001 ≤ y) (h1 : 1 ≤ m) (h2 : m ≤ 12) (h3 : ml y m < n) (h4 : n ≤ 31) : ∃ a b, DateIs (ys y + cum y m + n - 1) a b (n - ml y m) := by
  have bd := ml_bd y m h1 h2
  by_cases hm : m < 12
  · have b2 := ml_bd y (m + 1) (by omega) (by omega)
    have := date_mk (y := y) (m := m + 1) (n := n - ml y m) hy (by omega) (by omega) (by omega) (by omega)
    rw [cum_succ, show ys y + (cum y m + ml y m) + (n - ml y m) - 1 = ys y + cum y m + n - 1 by omega] at this
    exact ⟨_, _, this⟩
  · obtain rfl : m = 12 := by omega
    have b2 := ml_bd (y + 1) 1 (by omega) (by omega)
    have := date_mk (y := y + 1) (m := 1) (n := n - ml y 12) (by omega) (by omega) (by omega) (by omega) (by omega)
    have c := cum_succ y 12
    rw [show (12 : Int) + 1 = 13 by rfl, cum_13] at c
    rw [cum_one, ys_succ, show ys y + 365 + lp y + 0 + (n - ml y 12) - 1 = ys y + cum y 12 + n - 1 by omega] at this
    exact ⟨_, _, this⟩
theorem refDay_in (y m n : Int) (h1 : 1 ≤ m) (h2 : m ≤ 12) : refDay y m n = ys y + cum y m + n - 1 := by
  unfold refDay
  have e : (m - 1) / 12 = 0 := by omega
  rw [e]; simp
end Go.Proofs.YtfpiannnggkdiaaDoor.Cal
