/- What fading by a list comes to. -/
import Derived.Test.YtdccjlaneobldaaDoorOftenNo
namespace Go.Proofs.YtdccjlaneobldaaDoor
open Go.RowKit Go.Shelf Rnd

/-- How many of l go, the entries behind them, and the error of the first that doesn't. -/
def allR (c r : Int) : List Nat → List Nat → Int → Nat × List Nat × Int
  | [], xs, _ => (0, xs, 0)
  | b :: l, xs, t => if oE c xs r t b 1 = 0 then ((allR c r l (fadeL b xs) (t + 1)).1 + 1, (allR c r l (fadeL b xs) (t + 1)).2) else (0, xs, oE c xs r t b 1)

def aK (c : Int) (xs : List Nat) (r t : Int) (l : List Nat) : Int := if checkB c xs r t = true then ((allR c r l xs t).1 : Int) else 0
def aL (c : Int) (xs : List Nat) (r t : Int) (l : List Nat) : List Nat := if checkB c xs r t = true then (allR c r l xs t).2.1 else []
def aE (c : Int) (xs : List Nat) (r t : Int) (l : List Nat) : Int := if checkB c xs r t = true then (allR c r l xs t).2.2 else 1
def aC (c : Int) (xs : List Nat) (r t : Int) (_l : List Nat) : Int := if checkB c xs r t = true then c else 0
def aR (c : Int) (xs : List Nat) (r t : Int) (_l : List Nat) : Int := if checkB c xs r t = true then r else 0
def aT (c : Int) (xs : List Nat) (r t : Int) (l : List Nat) : Int := if checkB c xs r t = true then t + ((allR c r l xs t).1 : Int) else 0

/-- Behind the first i: what is left to do comes to the whole. -/
def Mid (c r : Int) (l xs : List Nat) (t : Int) (i : Nat) (ys : List Nat) : Prop :=
  okF ys ∧ checkB c ys r (t + i) = true ∧ ys.length = xs.length ∧ allR c r l xs t = (i + (allR c r (l.drop i) ys (t + i)).1, (allR c r (l.drop i) ys (t + i)).2)

theorem Mid.start {c r t : Int} {l xs : List Nat} (ho : okF xs) (h : checkB c xs r t = true) : Mid c r l xs t 0 xs := by
  refine ⟨ho, by simpa using h, rfl, ?_⟩
  simp
theorem Mid.step {c r t : Int} {l xs ys : List Nat} {i : Nat} (h : Mid c r l xs t i ys) (hi : i < l.length) (he : oE c ys r (t + i) (l[i]?.getD 0) 1 = 0) : Mid c r l xs t (i + 1) (fadeL (l[i]?.getD 0) ys) := by
  obtain ⟨h1, h2, h3, h4⟩ := h
  obtain ⟨e1, e2, e3, e4⟩ := oE_zero he
  have ht := check_turns h2
  have hg : l[i]?.getD 0 = l[i] := by simp [hi]
  have hd : l.drop i = l[i] :: l.drop (i + 1) := List.drop_eq_getElem_cons hi
  have hc : ((i + 1 : Nat) : Int) = (i : Int) + 1 := by omega
  refine ⟨fade_ok h1 (check_all h2) e3, check_fade h1 h2 e3 (by omega) (by omega), by rw [fadeL_length, h3], ?_⟩
  rw [h4, hd, hg]
  rw [hg] at he
  simp only [allR]
  rw [if_pos he, hc, ← Int.add_assoc]
  simp only [Prod.mk.injEq, and_true]
  omega
theorem Mid.stop {c r t : Int} {l xs ys : List Nat} {i : Nat} (h : Mid c r l xs t i ys) (hi : i < l.length) (he : oE c ys r (t + i) (l[i]?.getD 0) 1 ≠ 0) : allR c r l xs t = (i, ys, oE c ys r (t + i) (l[i]?.getD 0) 1) := by
  obtain ⟨h1, h2, h3, h4⟩ := h
  have hg : l[i]?.getD 0 = l[i] := by simp [hi]
  have hd : l.drop i = l[i] :: l.drop (i + 1) := List.drop_eq_getElem_cons hi
  rw [h4, hd, hg]
  rw [hg] at he
  simp only [allR]
  rw [if_neg he]
  simp
theorem Mid.done {c r t : Int} {l xs ys : List Nat} (h : Mid c r l xs t l.length ys) : allR c r l xs t = (l.length, ys, 0) := by
  obtain ⟨h1, h2, h3, h4⟩ := h
  rw [h4, List.drop_length]
  simp [allR]
theorem a_yes {c r t E : Int} {l xs ys : List Nat} {i : Nat} (hc : checkB c xs r t = true) (h : allR c r l xs t = (i, ys, E)) : aC c xs r t l = c ∧ aR c xs r t l = r ∧ aT c xs r t l = t + i ∧ aK c xs r t l = i ∧ aL c xs r t l = ys ∧ aE c xs r t l = E := by
  unfold aC aR aT aK aL aE
  rw [h]
  simp [hc]
theorem a_no {c r t : Int} {l xs : List Nat} (hc : checkB c xs r t = false) : aC c xs r t l = 0 ∧ aR c xs r t l = 0 ∧ aT c xs r t l = 0 ∧ aK c xs r t l = 0 ∧ aL c xs r t l = [] ∧ aE c xs r t l = 1 := by
  unfold aC aR aT aK aL aE
  simp [hc]

/-- What a call that answers a factor, a count and an error comes to, of fading by a list. -/
def AllC (f : Nat) (args : Array Value) (w : World) (c : Int) (xs : List Nat) (r t : Int) (l : List Nat) : Prop :=
  Calls Tryd.prog f args w fun e w' => (∃ a len cap, e = .returned (.tuple #[fv (aC c xs r t l) (.slice a len cap) (aR c xs r t l) (aT c xs r t l), .int .i64 (aK c xs r t l), .int .i64 (aE c xs r t l)]) ∧ Fls w' (.slice a len cap) (aL c xs r t l)) ∧ Below w.heap.size w w'
end Go.Proofs.YtdccjlaneobldaaDoor
