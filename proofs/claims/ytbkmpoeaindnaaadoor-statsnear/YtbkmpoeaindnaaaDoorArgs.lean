/- A law's arguments: factors, lists of floats, arrays of integers. -/
import Derived.Lib.SmallJoins
import Derived.Deep.Slices
import Derived.ProofKit
import Derived.OpenShut
import Derived.ChangeOld
import Derived.Below
import Derived.Test.YtbkmpoeaindnaaaDoorBase
namespace Go.Proofs.YtbkmpoeaindnaaaDoor
open Go.ChangeShapes Go.WideShapes Go.ChangeAt Go.RowKit Go.Shelf

/-- What a walk is told of a list that came in: its length fits; if it is not too long, its floats are known. -/
def Arg (W : World) (sv : Value) : Prop := ∃ a len cap, sv = .slice a len cap ∧ len ≤ 9223372036854775807 ∧ (len ≤ 1000 → ∃ xs, Fls W sv xs ∧ xs.length = len)

theorem arg_nil (W : World) : Arg W (.slice none 0 0) := ⟨none, 0, 0, rfl, by omega, fun _ => ⟨[], Fls.nil _, rfl⟩⟩

theorem trod_floatk {H : Type} {enc : TypeId × Value → H} {P : Program} {w : World} {base : Nat} {spare : Nat → Bool} {held : Bool} {fuel t : Nat} {cs : List Value} {x : DataW H × List MemPlace} {k : FloatKind}
    (ht : P.underlying t = some (.float k)) (h : DataW.trod enc P w base spare held fuel t cs = some x) : ∃ n, cs = [.float k n] ∧ x = (.lit (.float k n), []) ∧ (Lit.float k n).wf = true := by
  cases fuel with
  | zero => simp [DataW.trod] at h
  | succ n =>
    unfold DataW.trod at h
    rw [ht] at h
    split at h <;> simp_all
theorem trod_float {H : Type} {enc : TypeId × Value → H} {P : Program} {w : World} {base : Nat} {spare : Nat → Bool} {held : Bool} {fuel t : Nat} {cs : List Value} {x : DataW H × List MemPlace}
    (ht : P.underlying t = some (.float .f64)) (h : DataW.trod enc P w base spare held fuel t cs = some x) : ∃ n, cs = [fl n] ∧ n < 18446744073709551616 := by
  obtain ⟨n, h1, _, h2⟩ := trod_floatk ht h
  exact ⟨n, h1, by simpa [Lit.wf] using h2⟩

theorem spot_of_cell {W : World} {p : Addr} {v : Value} (h : W.cell? p = some v) : p.spot = none := by
  unfold World.cell? at h
  split at h
  · split at h
    · cases h
    · next h' => simpa using h'
  · cases h

set_option maxRecDepth 100000 in
theorem arg_trod {H : Type} {enc : TypeId × Value → H} {W : World} {base : Nat} {spare : Nat → Bool} {held : Bool} {fuel : Nat} {v : Value} {x : DataW H × List MemPlace}
    (h : DataW.trod enc Tryd.prog W base spare held fuel 22 [v] = some x) : Arg W v := by
  rcases Go.Deep.open_slice1 Tryd.underlying22 (by kernel_rfl) h with ⟨hcs, _⟩ | ⟨a, len, cap, m, n, V, D, Pl, hcs, hb, hl, hm, hmm, hx, hel⟩
  · simp at hcs
    subst hcs
    exact arg_nil _
  · simp at hcs
    subst hcs
    have hlm : len ≤ m := by rw [hmm]; split <;> omega
    refine ⟨some a, len, cap, rfl, by unfold maxLen at hm; omega, fun h1 => ?_⟩
    have each : ∀ i, i < len → ∃ k, W.cell? (a.add i) = some (fl k) ∧ k < 18446744073709551616 := by
      intro i hi
      obtain ⟨h2, h3⟩ := hel i (by omega)
      obtain ⟨k, h4, h5⟩ := trod_float Tryd.underlying26 h3
      simp at h4
      rw [h4] at h2
      exact ⟨k, h2, h5⟩
    obtain ⟨f, hf⟩ := Go.Deep.choose_lt each
    rcases Nat.eq_zero_or_pos len with h0 | h0
    · subst h0
      exact ⟨[], Fls.empty _ _ _, rfl⟩
    · have hs : a.spot = none := by
        have := spot_of_cell (hf 0 h0).1
        simpa [Addr.add] using this
      obtain ⟨b, off, sp⟩ := a
      simp only at hs
      subst hs
      have hlen : ((List.range len).map f).length = len := by simp
      refine ⟨(List.range len).map f, ⟨?_, by omega, .inr ⟨b, off, cap, by rw [hlen], by omega, ?_⟩⟩, hlen⟩
      · intro k hk
        obtain ⟨i, hi, rfl⟩ := List.mem_map.1 hk
        exact (hf i (by simpa using hi)).2
      · intro j hj
        rw [hlen] at hj
        have h2 : ({ block := b, off := off, spot := none } : Addr).add j = ⟨b, off + j, none⟩ := by
          unfold Addr.add; split
          · next h => subst h; rfl
          · rfl
        have := (hf j hj).1
        rw [h2] at this
        rw [this]
        simp [hj]

set_option maxRecDepth 100000 in
theorem open_slice {H : Type} {enc : TypeId × Value → H} {W : World} {r : Reach} {b0 base : Nat} {spare : Nat → Bool} {held : Bool} {v : Value} {d : DataW H} {p : List MemPlace}
    (hv : Value.okWide Tryd.prog W r b0 22 v) (h : DataW.Trod enc Tryd.prog W base spare held 22 v d p) : Arg W v := by
  obtain ⟨a, len, cap, rfl⟩ := okWide_slice Tryd.underlying22 hv
  obtain ⟨fuel, hf⟩ := h
  exact arg_trod (by simpa [Value.cells] using hf)

theorem Tryd.cellsFac : Tryd.prog.cellsOf 24 = 4 := by kernel_rfl

set_option maxRecDepth 100000 in
theorem open_factor {H : Type} {enc : TypeId × Value → H} {W : World} {r : Reach} {b0 base : Nat} {spare : Nat → Bool} {held : Bool} {v : Value} {d : DataW H} {p : List MemPlace}
    (hv : Value.okWide Tryd.prog W r b0 24 v) (h : DataW.Trod enc Tryd.prog W base spare held 24 v d p) : ∃ c sv m t, v = .agg #[.int .i64 c, sv, .int .i64 m, .int .i64 t] ∧ Arg W sv := by
  obtain ⟨v0, v1, v2, v3, y0, y1, y2, y3, n, rfl, _, _, h0, h1, h2, h3⟩ := Go.Joins.open_agg4 Tryd.underlying24 (by kernel_rfl) Tryd.cellsFac hv h
  obtain ⟨c, e0, _, _⟩ := DataW.trod_int Tryd.underlying3 h0
  obtain ⟨m, e2, _, _⟩ := DataW.trod_int Tryd.underlying3 h2
  obtain ⟨t, e3, _, _⟩ := DataW.trod_int Tryd.underlying3 h3
  simp at e0 e2 e3
  subst e0 e2 e3
  exact ⟨c, v1, m, t, rfl, arg_trod h1⟩
end Go.Proofs.YtbkmpoeaindnaaaDoor
