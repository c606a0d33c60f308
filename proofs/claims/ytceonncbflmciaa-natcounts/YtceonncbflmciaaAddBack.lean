/- (*digits).addBack. -/
import Derived.Deep.RegionWith
import Derived.Test.YtceonncbflmciaaGuess
namespace Go.Proofs.Ytceonncbflmciaa
open Go.RowKit Go.Shelf

theorem grow_set (W : World) (g j : Nat) (u : Value) : W.grownBy (W.setCell ⟨g, j, none⟩ u) (some g) :=
  ⟨rfl, rfl, rfl, ((Below.refl 0 W).setCell (p := ⟨g, j, none⟩) (Nat.zero_le _) u).size, fun k _ hne => Below.heap_setCell W ⟨g, j, none⟩ u k (fun e => hne (by rw [e]))⟩
theorem grow_drew {W W' : World} {r : Option Nat} (h : W.grownBy W' r) : W.grownBy W'.drew r := ⟨h.os, h.tape, h.output, h.size, h.block⟩
theorem grow_below {W W' : World} {g n : Nat} (h : W.grownBy W' (some g)) (hn : n ≤ W.heap.size) (hg : n ≤ g) : Below n W W' := (Below.refl _ W).grown h hn (fun k e => by cases e; exact hg)

theorem addB_step {L M N : List Nat} {k c y m : Nat} (hl : L.length = k) (hm : M[k]?.getD 0 = m) (hy : N[k]?.getD 0 = y) (hv : val L + 4294967296 ^ k * c = val (M.take k) + val (N.take k)) :
    val (L ++ [(m + y + c) % 4294967296]) + 4294967296 ^ (k + 1) * ((m + y + c) / 4294967296) = val (M.take (k + 1)) + val (N.take (k + 1)) := by
  rw [val_snoc, val_take_succ, val_take_succ, hl, hm, hy, Nat.pow_succ, Nat.add_assoc, Nat.mul_assoc, ← Nat.mul_add, Nat.mod_add_div, Nat.mul_add, Nat.mul_add]
  omega
def lowS (m y c : Nat) : Nat := (m + y + c) % 4294967296
def carS (m y c : Nat) : Nat := (m + y + c) / 4294967296
theorem add32_d (x y c : Nat) (hx : x < 4294967296) (hy : y < 4294967296) (hc : c ≤ 1) (w : World) :
    Calls Try.prog 55 #[.int .u32 (x : Int), .int .u32 (y : Int), .int .u32 (c : Int)] w fun e w' => e = .returned (.tuple #[.int .u32 (lowS x y c : Int), .int .u32 (carS x y c : Int)]) ∧ w' = w := add32_c x y c hx hy hc w

set_option maxRecDepth 100000 in
set_option maxHeartbeats 4000000 in
/-- d.addBack(n): n is added, what does not fit is dropped. -/
theorem addBack_c (w : World) (B n₀ g len cap c2 : Nat) (P M Q N : List Nat) (vn : Value) (hB : Boxed w B 43 (.slice (some ⟨g, P.length, none⟩) M.length c2)) (ho : Own w n₀ (.slice (some ⟨g, 0, none⟩) len cap) (P ++ M ++ Q))
    (hM : M.length = N.length + 1) (hN : Digs w vn N) (hNb : ∀ b off cap, vn = .slice (some ⟨b, off, none⟩) N.length cap → 0 < N.length → b < n₀) :
    Calls Try.prog 54 #[.pointer (some ⟨B, 0, none⟩), vn] w fun e w' => e = .returned (.tuple #[]) ∧
      (∃ M' c', M'.length = M.length ∧ val M' + 4294967296 ^ (N.length + 1) * c' = val M + val N ∧ Own w' n₀ (.slice (some ⟨g, 0, none⟩) len cap) (P ++ M' ++ Q) ∧ Boxed w' B 43 (.slice (some ⟨g, P.length, none⟩) M.length c2)) ∧ w.grownBy w' (some g) := by
  obtain ⟨an, cn, rfl, hcn⟩ := hN.shape
  have hng := ho.base_le
  have hBg := ho.box_ne hB
  have hNl := hN.2.1
  have hHM : Hid (M.length = N.length + 1) := hM
  rw [hM] at hB
  rw [hM]
  go_enter Try.func54, Try.ntmps54
  clear hM
  go_wp2_with fail
  go_loopw [4, 9] (fun tc ti wr => ∃ (k c : Nat) (L : List Nat), k ≤ N.length ∧ ti = .int .i64 (k : Int) ∧ tc = .int .u32 (c : Int) ∧ c ≤ 1 ∧ L.length = k ∧ val L + 4294967296 ^ k * c = val (M.take k) + val (N.take k) ∧ Boxed wr B 43 (.slice (some ⟨g, P.length, none⟩) (N.length + 1) c2) ∧ Own wr n₀ (.slice (some ⟨g, 0, none⟩) len cap) (P ++ (L ++ M.drop k) ++ Q) ∧ w.grownBy wr (some g))
    (fun _ ti _ => N.length - (intOf ti).toNat)
  case atStart => exact ⟨0, 0, [], Nat.zero_le _, rfl, rfl, by omega, rfl, by simp [val], hB, by simpa using ho, World.grownBy.refl _ _⟩
  case round =>
    obtain ⟨k, c, L, hk, rfl, rfl, hc, hL, hval, hBr, hor, hbr⟩ := hrel
    have HV : Hid (val L + 4294967296 ^ k * c = val (M.take k) + val (N.take k)) := hval
    obtain ⟨m, hm⟩ : ∃ m, M[k]?.getD 0 = m := ⟨_, rfl⟩
    have hkM : k < M.length := by rw [hHM.out]; omega
    have hdrop : M.drop k = m :: M.drop (k + 1) := by rw [List.drop_eq_getElem_cons hkM, ← hm]; simp [hkM]
    rw [hdrop] at hor
    have hms : m < 4294967296 := hor.1 m (by simp)
    have hcell := hor.cellAt (P.length + L.length) (by simp)
    rw [get_mid] at hcell
    have hfr := hor.frozenAt (P.length + L.length)
    rw [hL] at hcell hfr
    have HL : Hid (L.length = k) := hL
    have HM : Hid (M[k]?.getD 0 = m) := hm
    have cB := hBr.cell
    clear hm hval hL hdrop hkM
    by_cases hkl : k < N.length
    · obtain ⟨b1, o1, c1, e1, hb1, hc1⟩ := hN.cell (by omega)
      obtain ⟨rfl, rfl⟩ : an = some ⟨b1, o1, none⟩ ∧ cn = c1 := by simpa using e1
      have hb2 := hNb b1 o1 cn rfl (by omega)
      have hy1 := hbr.cell (a := ⟨b1, o1 + k, none⟩) (hc1 k hkl) (by simp; omega)
      obtain ⟨y, hy⟩ : ∃ y, N[k]?.getD 0 = y := ⟨_, rfl⟩
      have hys : y < 4294967296 := by rw [← hy]; exact small_getD hN.1 k
      rw [hy] at hy1
      have HY : Hid (N[k]?.getD 0 = y) := hy
      clear hy hc1 e1
      have hv2 := addB_step HL.out HM.out HY.out HV.out
      have hdl : lowS m y c < 4294967296 := Nat.mod_lt _ (by omega)
      have hbl : carS m y c ≤ 1 := by unfold carS; omega
      have hst := hor.store (P.length + k) (lowS m y c) hdl
      rw [← HL.out, set_mid] at hst
      rw [HL.out] at hst
      have HFIN : Hid (val (L ++ [lowS m y c]) + 4294967296 ^ (k + 1) * carS m y c = val (M.take (k + 1)) + val (N.take (k + 1))) := hv2
      have HST : Hid (Own (wr.setCell ⟨g, P.length + k, none⟩ (.int .u32 (lowS m y c : Int))) n₀ (.slice (some ⟨g, 0, none⟩) len cap) (P ++ ((L ++ [lowS m y c]) ++ M.drop (k + 1)) ++ Q)) := hst
      have HBX : Hid (Boxed (wr.setCell ⟨g, P.length + k, none⟩ (.int .u32 (lowS m y c : Int))) B 43 (.slice (some ⟨g, P.length, none⟩) (N.length + 1) c2)) := boxed_setOther hBr hBg
      have HBL : Hid (w.grownBy (wr.setCell ⟨g, P.length + k, none⟩ (.int .u32 (lowS m y c : Int))) (some g)) := hbr.trans (grow_set _ _ _ _)
      have hcall := fun wx => add32_d m y c hms hys hc wx
      clear hv2 hst hor hBr hbr hdl
      obtain ⟨d, hd⟩ : ∃ d, lowS m y c = d := ⟨_, rfl⟩
      obtain ⟨c', hc'⟩ : ∃ c', carS m y c = c' := ⟨_, rfl⟩
      rw [hd, hc'] at HFIN
      rw [hd] at HST HBX HBL
      rw [hc'] at hbl
      simp only [hd, hc'] at hcall
      have HCALL : Hid (∀ wx, Calls Try.prog 55 #[.int .u32 (m : Int), .int .u32 (y : Int), .int .u32 (c : Int)] wx fun e w' => e = .returned (.tuple #[.int .u32 (d : Int), .int .u32 (c' : Int)]) ∧ w' = wx) := hcall
      clear hcall hd hc'
      go_wp2
      go_region_with (go_at_call 55; refine (HCALL.out _).mono ?_; rintro e w5 ⟨rfl, rfl⟩)
      all_goals go_wp2
      all_goals exact ⟨⟨k + 1, c', L ++ [d], by omega, by go_num, rfl, hbl, by rw [List.length_append, HL.out]; rfl, HFIN.out, HBX.out, HST.out, grow_drew HBL.out⟩, by simp [intOf]; omega⟩
    · obtain rfl : k = N.length := by omega
      have hd2 : M.drop (N.length + 1) = [] := List.drop_eq_nil_of_le (by rw [hHM.out]; omega)
      have hv := HV.out
      have hMt := val_take_succ M N.length
      rw [List.take_of_length_le (by rw [hHM.out]; omega), HM.out] at hMt
      rw [List.take_length] at hv
      obtain ⟨t, ht⟩ : ∃ t, m + c = t := ⟨_, rfl⟩
      have hst := hor.store (P.length + N.length) (t % 4294967296) (Nat.mod_lt _ (by omega))
      rw [← HL.out, set_mid] at hst
      rw [HL.out, hd2, List.append_nil] at hst
      have hfin : val (L ++ [t % 4294967296]) + 4294967296 ^ (N.length + 1) * (t / 4294967296) = val M + val N := by
        rw [val_snoc, HL.out, Nat.pow_succ, Nat.add_assoc, Nat.mul_assoc, ← Nat.mul_add, Nat.mod_add_div, ← ht, Nat.mul_add, hMt]
        omega
      have HFIN : Hid (val (L ++ [t % 4294967296]) + 4294967296 ^ (N.length + 1) * (t / 4294967296) = val M + val N) := hfin
      have HST : Hid (Own (wr.setCell ⟨g, P.length + N.length, none⟩ (.int .u32 ((t % 4294967296 : Nat) : Int))) n₀ (.slice (some ⟨g, 0, none⟩) len cap) (P ++ (L ++ [t % 4294967296]) ++ Q)) := hst
      have HTT : Hid ((m : Int) + (c : Int) = (t : Int)) := by show _ = _; omega
      clear hfin hst hv hMt ht hd2
      go_wp2
      go_end0
      rw [HTT.out, int_mod]
      exact ⟨rfl, ⟨L ++ [t % 4294967296], t / 4294967296, by rw [List.length_append, HL.out]; rfl, HFIN.out, HST.out, boxed_setOther hBr hBg⟩, hbr.trans (grow_set _ _ _ _)⟩
end Go.Proofs.Ytceonncbflmciaa
