/- (*digits).addTimes and nat.Mul. -/
import Derived.Laws.OwnMore
import Derived.Test.YtceonncbflmciaaSub
namespace Go.Proofs.Ytceonncbflmciaa
open Go.RowKit Go.Shelf

theorem Own.cellAt {W : World} {n₀ g n cap : Nat} {ds : List Nat} (h : Own W n₀ (.slice (some ⟨g, 0, none⟩) n cap) ds) (j : Nat) (hj : j < ds.length) : W.cell? ⟨g, j, none⟩ = some (.int .u32 ((ds[j]?.getD 0 : Nat) : Int)) := by
  obtain ⟨a, c, e, _⟩ := h.digs.shape
  obtain ⟨_, rfl, _⟩ : _ ∧ n = ds.length ∧ _ := by simpa using e
  have := h.2.2.cellAt j (by omega)
  rw [this]; simp [hj]
theorem Own.frozenAt {W : World} {n₀ g n cap : Nat} {ds : List Nat} (h : Own W n₀ (.slice (some ⟨g, 0, none⟩) n cap) ds) (j : Nat) : W.frozen? ⟨g, j, none⟩ = false := by
  obtain ⟨a, c, e, _⟩ := h.digs.shape
  obtain ⟨_, rfl, _⟩ : _ ∧ n = ds.length ∧ _ := by simpa using e
  exact h.2.2.frozenAt j
theorem Own.base_le {W : World} {n₀ g n cap : Nat} {ds : List Nat} (h : Own W n₀ (.slice (some ⟨g, 0, none⟩) n cap) ds) : n₀ ≤ g := by
  obtain ⟨_, _, _, ⟨e, _⟩ | ⟨g', _, _, e, hb, _⟩⟩ := h
  · simp at e
  · simp at e; omega
theorem Own.len_le {W : World} {n₀ g n cap : Nat} {ds : List Nat} (h : Own W n₀ (.slice (some ⟨g, 0, none⟩) n cap) ds) : n = ds.length ∧ ds.length ≤ cap := by
  obtain ⟨a, c, e, hc⟩ := h.digs.shape
  obtain ⟨_, rfl, rfl⟩ : _ ∧ n = ds.length ∧ cap = c := by simpa using e
  exact ⟨rfl, hc⟩
/-- A digit is set. -/
theorem Own.store {W : World} {n₀ g n cap : Nat} {ds : List Nat} (h : Own W n₀ (.slice (some ⟨g, 0, none⟩) n cap) ds) (j d : Nat) (hd : d < 4294967296) :
    Own (W.setCell ⟨g, j, none⟩ (.int .u32 (d : Int))) n₀ (.slice (some ⟨g, 0, none⟩) n cap) (ds.set j d) := by
  obtain ⟨rfl, _⟩ := h.len_le
  refine ⟨small_set h.1 _ _ hd, by rw [List.length_set]; exact h.2.1, ?_⟩
  have := (h.2.2.stored j (dv d)).1
  rw [List.length_set, List.map_set]
  exact this
theorem Own.box_ne {W : World} {n₀ g n cap B : Nat} {v : Value} {ds : List Nat} (h : Own W n₀ (.slice (some ⟨g, 0, none⟩) n cap) ds) (hB : Boxed W B 43 v) : B ≠ g := by
  have := hB.not_row (by decide) h.2.2
  simpa [Value.ownBlock] using this
theorem boxed_setOther {W : World} {B t g j : Nat} {v u : Value} (hB : Boxed W B t v) (hne : B ≠ g) : Boxed (W.setCell ⟨g, j, none⟩ u) B t v := (Below.heap_setCell _ _ _ _ hne).trans hB

theorem set_mid (P L M Q : List Nat) (m d : Nat) : (P ++ (L ++ m :: M) ++ Q).set (P.length + L.length) d = P ++ ((L ++ [d]) ++ M) ++ Q := by
  rw [List.append_assoc, List.append_assoc, List.set_append_right _ _ (by omega), List.set_append_right _ _ (by omega)]
  simp
theorem get_mid (P L M Q : List Nat) (m : Nat) : (P ++ (L ++ m :: M) ++ Q)[P.length + L.length]?.getD 0 = m := by
  rw [List.append_assoc, List.append_assoc, List.getElem?_append_right (by omega), List.getElem?_append_right (by omega)]
  simp

theorem mulStep {L M N : List Nat} {k c x y m : Nat} (hl : L.length = k) (hm : M[k]?.getD 0 = m) (hy : N[k]?.getD 0 = y) (hv : val L + 4294967296 ^ k * c = val (M.take k) + x * val (N.take k)) :
    val (L ++ [(c + (x * y + m)) % 4294967296]) + 4294967296 ^ (k + 1) * ((c + (x * y + m)) / 4294967296) = val (M.take (k + 1)) + x * val (N.take (k + 1)) := by
  rw [val_snoc, val_take_succ, val_take_succ, hl, hm, hy, Nat.pow_succ, Nat.add_assoc, Nat.mul_assoc, ← Nat.mul_add, Nat.mod_add_div]
  rw [Nat.mul_add, Nat.mul_add, Nat.mul_add, ← Nat.mul_assoc x, Nat.mul_comm x (4294967296 ^ k), Nat.mul_assoc]
  omega

theorem mul_bound (x y : Nat) (hx : x < 4294967296) (hy : y < 4294967296) : x * y ≤ 18446744065119617025 := by
  have := Nat.mul_le_mul (show x ≤ 4294967295 by omega) (show y ≤ 4294967295 by omega)
  omega

theorem mul_int (x y : Nat) (hx : x < 4294967296) (hy : y < 4294967296) : (x : Int) * (y : Int) ≤ 18446744065119617025 ∧ (0 : Int) ≤ (x : Int) * (y : Int) := by
  have := mul_bound x y hx hy
  rw [← Int.natCast_mul]
  omega
theorem sum_int (c x y m s : Nat) (h : s = c + (x * y + m)) : (c : Int) + ((x : Int) * (y : Int) + (m : Int)) = (s : Int) := by
  rw [h]; simp
theorem int_mod (s : Nat) : (s : Int) % 4294967296 = ((s % 4294967296 : Nat) : Int) := by omega
theorem int_div (s : Nat) : (s : Int) / 4294967296 = ((s / 4294967296 : Nat) : Int) := by omega

set_option maxRecDepth 100000 in
set_option maxHeartbeats 4000000 in
/-- d.addTimes(at, x, n): x times n is added to the digits from at on; the digit on top of those is 0 ahead of it. -/
theorem addTimes_c (w : World) (B n₀ g len cap x : Nat) (P M Q N : List Nat) (vn : Value) (hx : x < 4294967296) (hB : Boxed w B 43 (.slice (some ⟨g, 0, none⟩) len cap)) (ho : Own w n₀ (.slice (some ⟨g, 0, none⟩) len cap) (P ++ M ++ Q))
    (hM : M.length = N.length + 1) (hN : Digs w vn N) (hNb : ∀ b off cap, vn = .slice (some ⟨b, off, none⟩) N.length cap → 0 < N.length → b < n₀) :
    Calls Try.prog 36 #[.pointer (some ⟨B, 0, none⟩), .int .i64 (P.length : Int), .int .u32 (x : Int), vn] w fun e w' => e = .returned (.tuple #[]) ∧
      (∃ M', M'.length = M.length ∧ (M[N.length]?.getD 0 = 0 → val M' = val M + x * val N) ∧ Own w' n₀ (.slice (some ⟨g, 0, none⟩) len cap) (P ++ M' ++ Q) ∧ Boxed w' B 43 (.slice (some ⟨g, 0, none⟩) len cap)) ∧ Below n₀ w w' := by
  obtain ⟨an, cn, rfl, hcn⟩ := hN.shape
  obtain ⟨hlen, hcap⟩ := ho.len_le
  have hlim := ho.2.1
  have hl1 : (P ++ M ++ Q).length = P.length + M.length + Q.length := by rw [List.length_append, List.length_append]
  have hng := ho.base_le
  have hBc := hB.cell
  have hBg := ho.box_ne hB
  have hNl := hN.2.1
  have hle1 : P.length + N.length + 1 ≤ len := by omega
  have hle2 : len ≤ cap := by omega
  have hle3 : len ≤ 1000000 := by omega
  have hHM : Hid (M.length = N.length + 1) := hM
  clear hlen hcap hlim hl1 hM
  go_enter Try.func36, Try.ntmps36
  go_wp2_with fail
  go_loopw [9, 24] (fun c i wr => ∃ (k cc : Nat) (L : List Nat), k ≤ N.length ∧ i = .int .i64 (k : Int) ∧ c = .int .u64 (cc : Int) ∧ cc < 4294967296 ∧ L.length = k ∧ val L + 4294967296 ^ k * cc = val (M.take k) + x * val (N.take k) ∧ Boxed wr B 43 (.slice (some ⟨g, 0, none⟩) len cap) ∧ Own wr n₀ (.slice (some ⟨g, 0, none⟩) len cap) (P ++ (L ++ M.drop k) ++ Q) ∧ Below n₀ w wr)
    (fun _ i _ => N.length - (intOf i).toNat)
  case atStart => exact ⟨0, 0, [], Nat.zero_le _, rfl, rfl, by omega, rfl, by simp [val], hB, by simpa using ho, Below.refl _ _⟩
  case round =>
    obtain ⟨k, cc, L, hk, rfl, rfl, hcc, hL, hval, hBr, hor, hbr⟩ := hrel
    have HV : Hid (val L + 4294967296 ^ k * cc = val (M.take k) + x * val (N.take k)) := hval
    obtain ⟨m, hm⟩ : ∃ m, M[k]?.getD 0 = m := ⟨_, rfl⟩
    have hkM : k < M.length := by rw [hHM.out]; omega
    have hdrop : M.drop k = m :: M.drop (k + 1) := by rw [List.drop_eq_getElem_cons hkM, ← hm]; simp [hkM]
    rw [hdrop] at hor
    have hms : m < 4294967296 := hor.1 m (by simp)
    have hcell := hor.cellAt (P.length + L.length) (by simp)
    rw [get_mid] at hcell
    have hfr := hor.frozenAt (P.length + L.length)
    rw [hL] at hcell hfr
    have HL : Hid (L.length = k) := hL
    have HM : Hid (M[k]?.getD 0 = m) := hm
    clear hm hval hL hdrop
    by_cases hkl : k < N.length
    · obtain ⟨b1, o1, c1, e1, hb1, hc1⟩ := hN.cell (by omega)
      obtain ⟨rfl, rfl⟩ : an = some ⟨b1, o1, none⟩ ∧ cn = c1 := by simpa using e1
      have hb2 := hNb b1 o1 cn rfl (by omega)
      have hy1 := (hbr.cell (p := ⟨b1, o1 + k, none⟩) hb2).trans (hc1 k hkl)
      obtain ⟨y, hy⟩ : ∃ y, N[k]?.getD 0 = y := ⟨_, rfl⟩
      have hys : y < 4294967296 := by rw [← hy]; exact small_getD hN.1 k
      rw [hy] at hy1
      have HY : Hid (N[k]?.getD 0 = y) := hy
      obtain ⟨hp1, hp0⟩ := mul_int x y hx hys
      clear hy hc1 e1
      go_wp2
      obtain ⟨t, ht⟩ : ∃ t, t = cc + (x * y + m) := ⟨_, rfl⟩
      rw [sum_int cc x y m t ht, int_mod, int_div]
      have htb : t / 4294967296 < 4294967296 := by have := mul_bound x y hx hys; omega
      have hst := hor.store (P.length + k) (t % 4294967296) (Nat.mod_lt _ (by omega))
      rw [← HL.out, set_mid] at hst
      rw [HL.out] at hst
      exact ⟨⟨k + 1, t / 4294967296, L ++ [t % 4294967296], by omega, by go_num, rfl, htb, by rw [List.length_append, HL.out]; rfl, by rw [ht]; exact mulStep HL.out HM.out HY.out HV.out, boxed_setOther hBr hBg, hst, hbr.setCell (p := ⟨g, P.length + k, none⟩) hng _⟩, by simp [intOf]; omega⟩
    · obtain rfl : k = N.length := by omega
      have hd2 : M.drop (N.length + 1) = [] := List.drop_eq_nil_of_le (by rw [hHM.out]; omega)
      go_wp2
      go_end0
      have hst := hor.store (P.length + N.length) cc hcc
      rw [← HL.out, set_mid] at hst
      rw [HL.out, hd2, List.append_nil] at hst
      refine ⟨rfl, ⟨L ++ [cc], by rw [List.length_append, HL.out, hHM.out]; rfl, ?_, hst, boxed_setOther hBr hBg⟩, hbr.setCell (p := ⟨g, P.length + N.length, none⟩) hng _⟩
      intro h0
      have hv := HV.out
      have hMt := val_take_succ M N.length
      rw [List.take_of_length_le (by rw [hHM.out]; omega), h0] at hMt
      rw [List.take_length] at hv
      rw [val_snoc, HL.out, hv, hMt]
      omega

/-- 'd := make(digits, n)', d in a box: n zeros. -/
theorem made_full {w w1 : World} {n g : Nat} (hn : n ≤ 1000000) (ho : w1.ownsRow w.heap.size 42 1 (.slice (some ⟨g, 0, none⟩) n n) n (madeCells (Value.int .u32 0).cells (n * 1)).toList) (hg : w.grownBy w1 none) :
    Own (w1.alloc (.cells #[.slice (some ⟨g, 0, none⟩) n n] 43)) w.heap.size (.slice (some ⟨g, 0, none⟩) n n) (List.replicate n 0) ∧ Boxed (w1.alloc (.cells #[.slice (some ⟨g, 0, none⟩) n n] 43)) w1.heap.size 43 (.slice (some ⟨g, 0, none⟩) n n) ∧ Below w.heap.size w (w1.alloc (.cells #[.slice (some ⟨g, 0, none⟩) n n] 43)) ∧ w.heap.size ≤ w1.heap.size := by
  have hb : Below w.heap.size w w1 := (Below.refl _ w).grown hg (Nat.le_refl _) (fun k e => by cases e)
  refine ⟨⟨small_replicate n, by simpa using hn, ?_⟩, Boxed.new _ _ _, hb.alloc hb.size _, hb.size⟩
  have h2 := ho.alloc (.cells #[.slice (some ⟨g, 0, none⟩) n n] 43)
  rw [show (madeCells (Value.int IntKind.u32 0).cells (n * 1)).toList = (List.replicate n 0).map dv by rw [show (Value.int IntKind.u32 0).cells = #[Value.int .u32 0] from rfl, toList_madeCells_one]; simp [dv]] at h2
  simpa using h2

theorem three_parts (ds : List Nat) (k n : Nat) : ds = ds.take k ++ (ds.drop k).take n ++ ds.drop (k + n) := by
  rw [List.append_assoc, ← List.drop_drop, List.take_append_drop, List.take_append_drop]

theorem mul_round {X Y ds M' : List Nat} {k x : Nat} (hkl : k + Y.length + 1 ≤ ds.length) (hx : X[k]?.getD 0 = x) (hv : val ds = val (X.take k) * val Y) (hz : ∀ j : Nat, k + Y.length ≤ j → ds[j]?.getD 0 = 0)
    (hl : M'.length = ((ds.drop k).take (Y.length + 1)).length) (hM : ((ds.drop k).take (Y.length + 1))[Y.length]?.getD 0 = 0 → val M' = val ((ds.drop k).take (Y.length + 1)) + x * val Y) :
    (ds.take k ++ M' ++ ds.drop (k + (Y.length + 1))).length = ds.length ∧ val (ds.take k ++ M' ++ ds.drop (k + (Y.length + 1))) = val (X.take (k + 1)) * val Y ∧ ∀ j : Nat, k + 1 + Y.length ≤ j → (ds.take k ++ M' ++ ds.drop (k + (Y.length + 1)))[j]?.getD 0 = 0 := by
  have hM2 := hM (by rw [getD_take, if_pos (by omega), getD_drop]; exact hz _ (Nat.le_refl _))
  have hlM : M'.length = Y.length + 1 := by rw [hl]; simp; omega
  have hlt : (ds.take k).length = k := by simp; omega
  refine ⟨by simp; omega, ?_, ?_⟩
  · have h3 := three_parts ds k (Y.length + 1)
    have h4 : val ds = val (ds.take k) + 4294967296 ^ k * (val ((ds.drop k).take (Y.length + 1)) + 4294967296 ^ (Y.length + 1) * val (ds.drop (k + (Y.length + 1)))) := by
      conv => lhs; rw [h3, List.append_assoc, val_append, val_append, hlt]
      simp [show min (Y.length + 1) (ds.length - k) = Y.length + 1 from by omega]
    rw [List.append_assoc, val_append, val_append, hlt, hlM, hM2, val_take_succ X, hx, Nat.add_mul, ← hv, h4]
    rw [Nat.mul_add, Nat.mul_add, Nat.mul_add, Nat.mul_assoc (4294967296 ^ k) x]
    omega
  · intro j hj
    rw [List.getElem?_append_right (by simp; omega), getD_drop]
    rw [show k + (Y.length + 1) + (j - (List.take k ds ++ M').length) = j by simp; omega]
    exact hz j (by omega)

set_option maxRecDepth 100000 in
set_option maxHeartbeats 4000000 in
theorem mul_c (va vb : Value) (A B : List Nat) (w : World) (hA : Digs w va A) (hB : Digs w vb B) (hla : A.length ≤ 100000) (hlb : B.length ≤ 100000) :
    Calls Try.prog 14 #[va, vb] w fun e w' => (∃ v, e = .returned v ∧ Num w' w.heap.size v (val A * val B)) ∧ Below w.heap.size w w' := by
  obtain ⟨i0, hi, hz0, hz1, hz2⟩ := info_parts Try.info42
  obtain ⟨aa, ca, rfl, hca⟩ := hA.shape
  obtain ⟨ab, cb, rfl, hcb⟩ := hB.shape
  have hX := hA.trim'
  have hY := hB.trim'
  have hlx : (trimL A).length ≤ 100000 := by rw [length_trimL]; have := sizeL_le A; omega
  have hly : (trimL B).length ≤ 100000 := by rw [length_trimL]; have := sizeL_le B; omega
  have HN : Hid (val (trimL A) * val (trimL B) = val A * val B) := by show _ = _; rw [val_trimL, val_trimL]
  generalize val A * val B = N at *
  go_enter Try.func14, Try.ntmps14
  go_wp2_with fail
  refine (trim_d _ _ _ _ hA).mono ?_
  rintro e w1 ⟨rfl, hb1⟩
  go_wp2_with fail
  refine (trim_d _ _ _ _ (hB.below hb1 (Nat.le_refl _))).mono ?_
  rintro e w2 ⟨rfl, hb2⟩
  have hbw : Below w.heap.size w w2 := hb1.trans (hb2.mono hb1.size)
  clear hb1 hb2
  generalize trimL A = X at *
  generalize trimL B = Y at *
  go_wp2_with (at_make; refine wpList_make_full _ rfl _ _ 43 rfl w2.heap.size 42 i0 (.int .u32 0) 1 Try.underlying43 hi hz0 hz1 _ _ _ _ (X.length + Y.length) rfl rfl (by omega) (by omega) (by rw [hz2]; omega) (by unfold maxLen; omega) (Nat.le_refl _) ?_; intro w3 hown hgrow)
  obtain ⟨ho, hBx, hbel, hsz⟩ := made_full (by omega) hown hgrow
  clear hown hgrow
  have hs0 := hbw.size
  have hYb : ∀ b off cap, Value.slice ab Y.length cb = .slice (some ⟨b, off, none⟩) Y.length cap → 0 < Y.length → b < w2.heap.size := fun b off cap e h => Nat.lt_of_lt_of_le (hY.blk b off cap e h) hs0
  generalize hw4 : w3.alloc (.cells #[.slice (some ⟨w2.heap.size, 0, none⟩) (X.length + Y.length) (X.length + Y.length)] 43) = w4 at *
  go_loopw [20] (fun i wr => ∃ (k : Nat) (ds : List Nat), k ≤ X.length ∧ i = .int .i64 (k : Int) ∧ ds.length = X.length + Y.length ∧ val ds = val (X.take k) * val Y ∧ (∀ j : Nat, k + Y.length ≤ j → ds[j]?.getD 0 = 0) ∧ Boxed wr w3.heap.size 43 (.slice (some ⟨w2.heap.size, 0, none⟩) (X.length + Y.length) (X.length + Y.length)) ∧ Own wr w2.heap.size (.slice (some ⟨w2.heap.size, 0, none⟩) (X.length + Y.length) (X.length + Y.length)) ds ∧ Below w2.heap.size w2 wr)
    (fun i _ => X.length - (intOf i).toNat)
  case atStart => exact ⟨0, _, Nat.zero_le _, rfl, by simp, by simp [val, val_replicate], fun j _ => by rw [List.getElem?_replicate]; split <;> rfl, hBx, ho, hbel⟩
  case round =>
    obtain ⟨k, ds, hk, rfl, hdl, hval, hz, hBr, hor, hbr⟩ := hrel
    have HV : Hid (val ds = val (X.take k) * val Y) := hval
    have HD : Hid (ds.length = X.length + Y.length) := hdl
    have HZ : Hid (∀ j : Nat, k + Y.length ≤ j → ds[j]?.getD 0 = 0) := hz
    clear hval hdl hz
    by_cases hkl : k < X.length
    · obtain ⟨b1, o1, c1, e1, hb1, hc1⟩ := hX.cell (by omega)
      obtain ⟨rfl, rfl⟩ : aa = some ⟨b1, o1, none⟩ ∧ ca = c1 := by simpa using e1
      have hx1 := (hbr.cell (p := ⟨b1, o1 + k, none⟩) (by simp; omega)).trans ((hbw.cell (p := ⟨b1, o1 + k, none⟩) hb1).trans (hc1 k hkl))
      obtain ⟨x, hx⟩ : ∃ x, X[k]?.getD 0 = x := ⟨_, rfl⟩
      have hxs : x < 4294967296 := by rw [← hx]; exact small_getD hX.1 k
      rw [hx] at hx1
      have HX : Hid (X[k]?.getD 0 = x) := hx
      have hkd : k + Y.length + 1 ≤ ds.length := by rw [HD.out]; omega
      have htk : (ds.take k).length = k := by simp; omega
      have hor3 := hor
      rw [three_parts ds k (Y.length + 1)] at hor3
      have hYr := (hY.below hbw (Nat.le_refl _)).below hbr (Nat.le_refl _)
      clear hx hc1 e1 hor
      go_wp2_with fail
      have hat := addTimes_c wr w3.heap.size w2.heap.size w2.heap.size (X.length + Y.length) (X.length + Y.length) x _ _ _ Y _ hxs hBr hor3 (by simp; omega) hYr hYb
      rw [htk] at hat
      refine hat.mono ?_
      rintro e w5 ⟨rfl, ⟨M', hM1, hM2, ho5, hB5⟩, hb5⟩
      obtain ⟨r1, r2, r3⟩ := mul_round hkd HX.out HV.out HZ.out hM1 hM2
      go_wp2
      go_roundw
      case rel => exact ⟨k + 1, _, by omega, by go_num, r1.trans HD.out, r2, r3, hB5, ho5, hbr.trans hb5⟩
      case measure => simp [intOf]; omega
    · obtain rfl : k = X.length := by omega
      go_wp2_with fail
      refine (number_c _ w3.heap.size w2.heap.size _ _ hBr hor).mono ?_
      rintro e w6 ⟨⟨v6, rfl, ho6⟩, hb6⟩
      go_wp2
      go_ret
      have hs5 := hbr.size
      have hv := HV.out
      rw [List.take_length] at hv
      exact ⟨⟨_, rfl, (ho6.num (N := N) (hv.trans HN.out)).mono hs0⟩, (hbw.trans (hbr.mono hs0)).trans (hb6.mono (by omega))⟩
end Go.Proofs.Ytceonncbflmciaa
