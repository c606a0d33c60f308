/- Dyads: as values, in boxes, and what number they are. -/
import Derived.Laws.ResultCell
import Derived.Deep.OwnRows
import Derived.Test.YtbkmpoeaindnaaaDoorNatTwo
import Derived.Deep.RegionHeld3
namespace Go.Proofs.YtbkmpoeaindnaaaDoor.N
open Go.RowKit Go.Shelf

abbrev dyv (neg : Bool) (nv : Value) (e : Int) : Value := .agg #[.bool neg, nv, .int .i64 e]
abbrev dcells (neg : Bool) (nv : Value) (e : Int) : Obj := .cells #[.bool neg, nv, .int .i64 e] 46
/-- A dyad in a box. -/
def DBox (W : World) (B : Nat) (neg : Bool) (nv : Value) (e : Int) : Prop := W.heap[B]? = some (dcells neg nv e)
theorem DBox.lt {W : World} {B : Nat} {neg : Bool} {nv : Value} {e : Int} (h : DBox W B neg nv e) : B < W.heap.size := (Array.getElem?_eq_some_iff.1 h).1
theorem DBox.below {W W' : World} {B n : Nat} {neg : Bool} {nv : Value} {e : Int} (h : DBox W B neg nv e) (hb : Below n W W') (hn : B < n) : DBox W' B neg nv e := (hb.block B hn).trans h
theorem DBox.c0 {W : World} {B : Nat} {neg : Bool} {nv : Value} {e : Int} (h : DBox W B neg nv e) : W.cell? ⟨B, 0, none⟩ = some (.bool neg) := by simp [World.cell?, show W.heap[B]? = _ from h]
theorem DBox.c1 {W : World} {B : Nat} {neg : Bool} {nv : Value} {e : Int} (h : DBox W B neg nv e) : W.cell? ⟨B, 1, none⟩ = some nv := by simp [World.cell?, show W.heap[B]? = _ from h]
theorem DBox.c2 {W : World} {B : Nat} {neg : Bool} {nv : Value} {e : Int} (h : DBox W B neg nv e) : W.cell? ⟨B, 2, none⟩ = some (.int .i64 e) := by simp [World.cell?, show W.heap[B]? = _ from h]
theorem DBox.fz {W : World} {B : Nat} {neg : Bool} {nv : Value} {e : Int} (h : DBox W B neg nv e) (k : Nat) : W.frozen? ⟨B, k, none⟩ = false := by simp [World.frozen?, show W.heap[B]? = _ from h]
theorem DBox.new (w : World) (neg : Bool) (nv : Value) (e : Int) : DBox (w.alloc (dcells neg nv e)) w.heap.size neg nv e := Go.Deep.blk_alloc_new _ _
/-- A dyad stored over another one. -/
def putD (W : World) (B : Nat) (neg : Bool) (nv : Value) (e : Int) : World := ((W.setCell ⟨B, 0, none⟩ (.bool neg)).setCell ⟨B, 1, none⟩ nv).setCell ⟨B, 2, none⟩ (.int .i64 e)
theorem putD_blk (W : World) {B b : Nat} (h : b ≠ B) (neg : Bool) (nv : Value) (e : Int) : (putD W B neg nv e).heap[b]? = W.heap[b]? := by
  unfold putD
  rw [Go.Deep.blk_setCell_other _ _ _ _ h, Go.Deep.blk_setCell_other _ _ _ _ h, Go.Deep.blk_setCell_other _ _ _ _ h]
theorem DBox.put {W : World} {B : Nat} {neg : Bool} {nv : Value} {e : Int} (h : DBox W B neg nv e) (neg' : Bool) (nv' : Value) (e' : Int) : DBox (putD W B neg' nv' e') B neg' nv' e' := by
  obtain ⟨hlt, hk⟩ := Array.getElem?_eq_some_iff.1 h
  have h1 : (W.setCell ⟨B, 0, none⟩ (.bool neg')).heap[B]? = some (dcells neg' nv e) := by
    show (W.heap.modify B _)[B]? = _
    rw [Array.getElem?_eq_getElem (by rw [Array.size_modify]; exact hlt), Array.getElem_modify_self, hk]
    rfl
  have h2 : ((W.setCell ⟨B, 0, none⟩ (.bool neg')).setCell ⟨B, 1, none⟩ nv').heap[B]? = some (dcells neg' nv' e) := by
    obtain ⟨hlt2, hk2⟩ := Array.getElem?_eq_some_iff.1 h1
    show ((W.setCell ⟨B, 0, none⟩ (.bool neg')).heap.modify B _)[B]? = _
    rw [Array.getElem?_eq_getElem (by rw [Array.size_modify]; exact hlt2), Array.getElem_modify_self, hk2]
    rfl
  obtain ⟨hlt3, hk3⟩ := Array.getElem?_eq_some_iff.1 h2
  show (((W.setCell ⟨B, 0, none⟩ (.bool neg')).setCell ⟨B, 1, none⟩ nv').heap.modify B _)[B]? = _
  rw [Array.getElem?_eq_getElem (by rw [Array.size_modify]; exact hlt3), Array.getElem_modify_self, hk3]
  rfl
theorem putD_below {W0 W : World} {B n : Nat} (h : Below n W0 W) (hB : n ≤ B) (neg : Bool) (nv : Value) (e : Int) : Below n W0 (putD W B neg nv e) := ((h.setCell (p := ⟨B, 0, none⟩) hB _).setCell (p := ⟨B, 1, none⟩) hB _).setCell (p := ⟨B, 2, none⟩) hB _
theorem DBox.putO {W : World} {B C : Nat} {neg : Bool} {nv : Value} {e : Int} (h : DBox W C neg nv e) (hn : C ≠ B) (neg' : Bool) (nv' : Value) (e' : Int) : DBox (putD W B neg' nv' e') C neg nv e := (putD_blk W hn _ _ _).trans h
/-- A digit never lies in a dyad's box. -/
theorem digs_ne {W : World} {B b off : Nat} {neg : Bool} {a : Option Addr} {len cap : Nat} {e : Int} (hb : DBox W B neg (.slice a len cap) e) {x : Int} (h : W.cell? ⟨b, off, none⟩ = some (.int .u32 x)) : b ≠ B := by
  rintro rfl
  have hb' : W.heap[b]? = some (dcells neg (.slice a len cap) e) := hb
  simp only [World.cell?, hb'] at h
  match off with
  | 0 => simp at h
  | 1 => simp at h
  | 2 => simp at h
  | n + 3 => simp at h
theorem Digs.keep {W W' : World} {v : Value} {ds : List Nat} (h : Digs W v ds) {B : Nat} {neg : Bool} {a : Option Addr} {len cap : Nat} {e : Int} (hb : DBox W B neg (.slice a len cap) e) (hk : ∀ b, b ≠ B → W'.heap[b]? = W.heap[b]?) : Digs W' v ds := by
  obtain ⟨h1, h2, h3⟩ := h
  refine ⟨h1, h2, ?_⟩
  rcases h3 with h3 | ⟨b, off, cap', e', hc, hj⟩
  · exact .inl h3
  · refine .inr ⟨b, off, cap', e', hc, fun j hl => ?_⟩
    have hx := hj j hl
    have hne := digs_ne hb hx
    have : W'.cell? ⟨b, off + j, none⟩ = W.cell? ⟨b, off + j, none⟩ := by simp only [World.cell?, hk b hne]
    rw [this]
    exact hx
theorem Digs.putD {W : World} {v : Value} {ds : List Nat} (h : Digs W v ds) {B : Nat} {neg : Bool} {a : Option Addr} {len cap : Nat} {e : Int} (hb : DBox W B neg (.slice a len cap) e) (neg' : Bool) (nv' : Value) (e' : Int) : Digs (putD W B neg' nv' e') v ds :=
  h.keep hb (fun _ hn => putD_blk W hn _ _ _)

/-- Greater than what is counted with here: 2^19200. -/
def bigK : Nat := 600
def BIG : Nat := 4294967296 ^ bigK
theorem bigK_eq : bigK = 600 := rfl
theorem big_eq : BIG = 2 ^ (32 * bigK) := B_pow bigK
/-- With a sign, or without. -/
def sgn (neg : Bool) (n : Nat) : Int := if neg then -(n : Int) else (n : Int)
theorem sgn_abs (neg : Bool) (n : Nat) : (sgn neg n).natAbs = n := by
  unfold sgn
  split <;> omega
/-- A dyad's number: z times 2^g. -/
def Dy (W : World) (neg : Bool) (nv : Value) (e z g : Int) : Prop :=
  ∃ ds, Digs W nv ds ∧ norm ds ∧ ((ds = [] ∧ neg = false ∧ e = 0 ∧ z = 0) ∨ (val ds % 2 = 1 ∧ -20000 ≤ e ∧ e ≤ 20000 ∧ g ≤ e ∧ z = sgn neg (val ds * 2 ^ (e - g).toNat)))
theorem Dy.below {W W' : World} {neg : Bool} {nv : Value} {e z g : Int} {n : Nat} (h : Dy W neg nv e z g) (hb : Below n W W') (hn : W.heap.size ≤ n) : Dy W' neg nv e z g := by
  obtain ⟨ds, h1, h2⟩ := h
  exact ⟨ds, h1.below hb hn, h2⟩
theorem Dy.keep {W W' : World} {neg : Bool} {nv : Value} {e z g : Int} (h : Dy W neg nv e z g) {B : Nat} {neg' : Bool} {a : Option Addr} {len cap : Nat} {e' : Int} (hb : DBox W B neg' (.slice a len cap) e') (hk : ∀ b, b ≠ B → W'.heap[b]? = W.heap[b]?) : Dy W' neg nv e z g := by
  obtain ⟨ds, h1, h2⟩ := h
  exact ⟨ds, h1.keep hb hk, h2⟩
theorem Dy.shape {W : World} {neg : Bool} {nv : Value} {e z g : Int} (h : Dy W neg nv e z g) : ∃ a len cap, nv = .slice a len cap := by
  obtain ⟨ds, h1, _⟩ := h
  obtain ⟨a, cap, h, _⟩ := h1.shape
  exact ⟨a, _, cap, h⟩
theorem Dy.zero (W : World) (g : Int) : Dy W false (.slice none 0 0) 0 0 g := ⟨[], Digs.nil _, norm_nil, .inl ⟨rfl, rfl, rfl, rfl⟩⟩
/-- A call answers a dyad of such a number. -/
def DyR (e : Ending) (W : World) (z g : Int) : Prop := ∃ neg nv ex, e = .returned (dyv neg nv ex) ∧ Dy W neg nv ex z g
theorem pow_pos2 (k : Nat) : 0 < 2 ^ k := Nat.pow_pos (by omega)
/-- A number that is not too great has few digits. -/
theorem len_big {ds : List Nat} (hn : norm ds) (h : val ds < BIG) : ds.length ≤ 600 := by
  have := len_of_lt (k := bigK) hn h
  have := bigK_eq
  omega
theorem val_le_abs {n k : Nat} : n ≤ n * 2 ^ k := Nat.le_mul_of_pos_right _ (pow_pos2 k)
theorem Dy.few {W : World} {neg : Bool} {nv : Value} {e z g : Int} (h : Dy W neg nv e z g) (hz : z.natAbs < BIG) : ∃ ds, Digs W nv ds ∧ norm ds ∧ ds.length ≤ 600 ∧ val ds ≤ z.natAbs ∧ ((ds = [] ∧ neg = false ∧ e = 0 ∧ z = 0) ∨ (val ds % 2 = 1 ∧ -20000 ≤ e ∧ e ≤ 20000 ∧ g ≤ e ∧ z = sgn neg (val ds * 2 ^ (e - g).toNat))) := by
  obtain ⟨ds, h1, h2, h3⟩ := h
  have hle : val ds ≤ z.natAbs := by
    rcases h3 with ⟨rfl, _⟩ | ⟨_, _, _, _, rfl⟩
    · exact Nat.zero_le _
    · rw [sgn_abs]; exact val_le_abs
  exact ⟨ds, h1, h2, len_big h2 (Nat.lt_of_le_of_lt hle hz), hle, h3⟩
/-- An exponent is not too great where the number isn't. -/
theorem exp_lt {n k : Nat} (h0 : 0 < n) (h : n * 2 ^ k < BIG) : k < 19200 := by
  rw [big_eq] at h
  have h1 : 2 ^ k < 2 ^ (32 * bigK) := Nat.lt_of_le_of_lt (Nat.le_mul_of_pos_left _ h0) h
  have h2 := (Nat.pow_lt_pow_iff_right (show 1 < 2 by omega)).1 h1
  have := bigK_eq
  omega
end Go.Proofs.YtbkmpoeaindnaaaDoor.N

/- levellingref03.Norm. -/
namespace Go.Proofs.YtbkmpoeaindnaaaDoor.N
open Go.RowKit Go.Shelf

theorem results_dcell {fn : Func} {p : Tmp} {ty : TypeId} (h : fn.results = #[.cell p ty]) (tmps : Array Value) (P : Program) (w : World) :
    (results fn tmps).run P w = ((asAddr (tmps.getD p undef)).run P w).andThen fun a w₁ => (loadVar ty a).run P w₁ := by
  simp only [results, h]
  simp [Sem.run_bind, Result.andThen]
theorem dy_results {fn : Func} {p : Tmp} (hfn : fn.results = #[.cell p 46]) {W : World} {B : Nat} {neg : Bool} {nv : Value} {e : Int} (h : DBox W B neg nv e) {tmps : Array Value} (h4 : tmps.getD p undef = .pointer (some ⟨B, 0, none⟩)) :
    (results fn tmps).run Tryd.prog W = .ok (dyv neg nv e) W := by
  have k0 := h.c0
  have k1 := h.c1
  have k2 := h.c2
  rw [results_dcell hfn, h4]
  simp [go_sem, k0, k1, k2]

theorem half_step {n k d : Nat} (h : n % 2 ^ d = 0) : n / 2 ^ d * 2 ^ (k + d) = n * 2 ^ k := by
  have h1 : n / 2 ^ d * 2 ^ d = n := Nat.div_mul_cancel (Nat.dvd_of_mod_eq_zero h)
  rw [Nat.pow_add, Nat.mul_comm (2 ^ k), ← Nat.mul_assoc, h1]

/-- What is known on the way. -/
structure Sn (w W : World) (tv : Value) (X Y : List Nat) (k : Nat) : Prop where
  be : Below w.heap.size w W
  bx : DBox W w.heap.size false (.slice none 0 0) 0
  dg : Digs W tv Y
  nm : norm Y
  ps : 0 < val Y
  vl : val Y * 2 ^ k = val X

set_option maxRecDepth 100000 in
set_option maxHeartbeats 8000000 in
theorem rnorm_c (neg : Bool) (nv : Value) (ds : List Nat) (exp g : Int) (w : World) (hD : Digs w nv ds) (hg0 : g ≤ 0) (hg : -20000 ≤ g) (hge : g ≤ exp) (hz : val ds * 2 ^ (exp - g).toNat < BIG) :
    Calls Tryd.prog 46 #[.bool neg, nv, .int .i64 exp] w fun e w' => DyR e w' (sgn neg (val ds * 2 ^ (exp - g).toNat)) g ∧ Below w.heap.size w w' := by
  have hB : Below w.heap.size w (w.alloc (dcells false (.slice none 0 0) 0)) := (Below.refl _ w).alloc (Nat.le_refl _) _
  have X0 := DBox.new w false (.slice none 0 0) 0
  have nX := norm_trimL ds
  rw [← val_trimL ds] at hz ⊢
  obtain ⟨X, HX⟩ : ∃ X, Hid (trimL ds = X) := ⟨_, rfl⟩
  rw [HX.out] at hz nX ⊢
  have HZ : Hid (val X * 2 ^ (exp - g).toNat < BIG) := hz
  have HNX : Hid (norm X) := nX
  clear hz nX
  go_enter Tryd.func46, Tryd.ntmps46
  go_wp2_with fail
  refine (rtrim_c _ ds _ (hD.below hB (Nat.le_refl _))).mono ?_
  rintro e w1 ⟨⟨tv, rfl, hX⟩, hb1⟩
  have B1 := hB.trans (hb1.mono hB.size)
  have X1 := X0.below hb1 X0.lt
  rw [HX.out] at hX
  clear hb1 X0 hB hD HX
  by_cases h0 : X = []
  · subst h0
    obtain ⟨a1, c1, e1, _⟩ := hX.shape
    subst e1
    have r0 := X1.c0
    have r1 := X1.c1
    have r2 := X1.c2
    have z0 := X1.fz 0
    have z1 := X1.fz 1
    have z2 := X1.fz 2
    have b7 := X1.put false (.slice none 0 0) 0
    have hB7 := putD_below B1 (B := w.heap.size) (Nat.le_refl _) false (.slice none 0 0) 0
    unfold putD at b7 hB7
    have HE : Hid (sgn neg (val [] * 2 ^ (exp - g).toNat) = 0) := by show _ = _; simp [val, sgn]
    go_wp2_with fail
    exact bodyPost_ret_by (v := dyv false (.slice none 0 0) 0) (dy_results rfl b7 rfl) rfl ⟨⟨false, _, 0, rfl, by rw [HE.out]; exact Dy.zero _ _⟩, hB7⟩
  · have hpos : 0 < X.length := List.length_pos_iff.2 h0
    have hvp : 0 < val X := by
      have := val_ge HNX.out hpos
      have h2 : 0 < 4294967296 ^ (X.length - 1) := Nat.pow_pos (by omega)
      omega
    obtain ⟨k0, hk0⟩ : ∃ k0, (exp - g).toNat = k0 := ⟨_, rfl⟩
    have HK0 : Hid ((exp - g).toNat = k0) := hk0
    have HEXP : Hid (exp = g + k0) := by show _ = _; omega
    have hlt0 : k0 < 19200 := by
      have := HZ.out
      rw [HK0.out] at this
      exact exp_lt hvp this
    clear hk0
    have hx1 : -20000 ≤ exp := by have := HEXP.out; omega
    have hx2 : exp ≤ 19200 := by have := HEXP.out; omega
    obtain ⟨a1, c1, e1, _⟩ := hX.shape
    subst e1
    have hl0 : ((X.length : Int) == 0) = false := by simp; omega
    have S : Sn w w1 (.slice a1 X.length c1) X X 0 := ⟨B1, X1, hX, HNX.out, hvp, by simp⟩
    clear hX B1 X1
    go_wp2_with fail
    go_loopw [2, 7] (fun ex tv wr => ∃ (k : Nat) (Y : List Nat), ex = .int .i64 (exp + k) ∧ Sn w wr tv X Y k) (fun ex _ _ => (40000 - intOf ex).toNat)
    case atStart => exact ⟨0, X, by simp, S⟩
    case round =>
      clear S
      obtain ⟨k, Y, rfl, S⟩ := hrel
      have hkk : k + k0 < 19200 := by
        have h1 := HZ.out
        rw [HK0.out, ← S.vl, Nat.mul_assoc, ← Nat.pow_add] at h1
        exact exp_lt S.ps h1
      have hkx : exp + k ≤ 19200 := by have := HEXP.out; omega
      have hYl : 0 < Y.length := by
        rcases Nat.eq_zero_or_pos Y.length with h | h
        · have := S.ps
          rw [List.length_eq_zero_iff.1 h] at this
          simp [val] at this
        · exact h
      obtain ⟨b, off, cap, e, hbl, hcs⟩ := S.dg.cell hYl
      subst e
      have hc0 := hcs 0 hYl
      rw [Nat.add_zero] at hc0
      have hmod := head_mod Y S.dg.1
      obtain ⟨d, hd⟩ : ∃ d, Y[0]?.getD 0 = d := ⟨_, rfl⟩
      rw [hd] at hc0 hmod
      have HM : Hid (d = val Y % 4294967296) := hmod
      have hdl : d < 4294967296 := by rw [hmod]; exact Nat.mod_lt _ (by decide)
      have hl1 : (0 : Int) < (Y.length : Int) := by omega
      have hYf : Y.length ≤ 600 := len_big S.nm (by
        refine Nat.lt_of_le_of_lt ?_ HZ.out
        rw [← S.vl, Nat.mul_assoc]
        exact Nat.le_mul_of_pos_right _ (Nat.mul_pos (pow_pos2 _) (pow_pos2 _)))
      clear hcs hd hmod
      have step : ∀ (q : Nat) (wr' : World) (v' : Value), 0 < q → q ≤ 32 → val Y % 2 ^ q = 0 → Res wr' v' (val Y / 2 ^ q) → Below wr.heap.size wr wr' → ∃ Z, Sn w wr' v' X Z (k + q) := by
        rintro q wr' v' _ hq hm ⟨Z, z1, z2, z3⟩ hb
        refine ⟨Z, S.be.trans (hb.mono S.be.size), S.bx.below hb S.bx.lt, z1, z2, ?_, ?_⟩
        · rw [z3]
          refine Nat.div_pos ?_ (pow_pos2 _)
          exact Nat.le_of_dvd S.ps (Nat.dvd_of_mod_eq_zero hm)
        · rw [z3, half_step hm, S.vl]
      by_cases hev : d % 2 = 0
      · have hev' : ((d : Int) % 2 == 0) = true := by simp; omega
        by_cases hd0 : d = 0
        · have hd0' : ((d : Int) == 0) = true := by simp [hd0]
          have HMZ : Hid (val Y % 2 ^ 32 = 0) := by show _ = _; have := HM.out; rw [hd0] at this; exact this.symm
          subst hd0
          go_wp2_with fail
          refine (rshr_c _ Y 32 _ S.dg (by omega) (by omega)).mono ?_
          rintro e w3 ⟨⟨v', rfl, hR⟩, hb⟩
          obtain ⟨Z, SZ⟩ := step 32 w3 v' (by omega) (by omega) HMZ.out hR hb
          clear step
          have h3 : IntKind.i64.wrap (exp + k + 32) = exp + k + 32 := by rw [IntKind.wrap_i64]; omega
          go_wp2_with fail
          go_roundw
          case rel => exact ⟨k + 32, Z, by go_num, SZ⟩
          case measure => simp [intOf]; omega
        · have hd0' : ((d : Int) == 0) = false := by simp [hd0]
          have HMZ : Hid (val Y % 2 ^ 1 = 0) := by show _ = _; have := HM.out; omega
          go_wp2_with fail
          refine (rshr_c _ Y 1 _ S.dg (by omega) (by omega)).mono ?_
          rintro e w3 ⟨⟨v', rfl, hR⟩, hb⟩
          obtain ⟨Z, SZ⟩ := step 1 w3 v' (by omega) (by omega) HMZ.out hR hb
          clear step
          have h3 : IntKind.i64.wrap (exp + k + 1) = exp + k + 1 := by rw [IntKind.wrap_i64]; omega
          go_wp2_with fail
          go_roundw
          case rel => exact ⟨k + 1, Z, by go_num, SZ⟩
          case measure => simp [intOf]; omega
      · have hev' : ((d : Int) % 2 == 0) = false := by simp; omega
        have r0 := S.bx.c0
        have r1 := S.bx.c1
        have r2 := S.bx.c2
        have z0 := S.bx.fz 0
        have z1 := S.bx.fz 1
        have z2 := S.bx.fz 2
        have b7 := S.bx.put neg (.slice (some ⟨b, off, none⟩) Y.length cap) (exp + k)
        have hB7 := putD_below S.be (B := w.heap.size) (Nat.le_refl _) neg (.slice (some ⟨b, off, none⟩) Y.length cap) (exp + k)
        have hD7 := S.dg.putD S.bx neg (.slice (some ⟨b, off, none⟩) Y.length cap) (exp + k)
        unfold putD at b7 hB7 hD7
        have HO : Hid (val Y % 2 = 1) := by show _ = _; have := HM.out; omega
        have HN : Hid (norm Y) := S.nm
        have HVL : Hid (val X * 2 ^ (exp - g).toNat = val Y * 2 ^ (exp + k - g).toNat) := by
          show _ = _
          rw [← S.vl, Nat.mul_assoc, ← Nat.pow_add]
          congr 2
          omega
        have e1 : ¬ exp + (k : Int) < -20000 := by omega
        have e2 : ¬ (20000 : Int) < exp + (k : Int) := by omega
        go_wp2_with fail
        exact bodyPost_ret_by (v := dyv neg (.slice (some ⟨b, off, none⟩) Y.length cap) (exp + k)) (dy_results rfl b7 rfl) rfl ⟨⟨neg, _, _, rfl, Y, hD7, HN.out, .inr ⟨HO.out, by omega, by omega, by omega, by rw [HVL.out]⟩⟩, hB7⟩
end Go.Proofs.YtbkmpoeaindnaaaDoor.N

/- levellingref02.Check, levellingref03.Check, .May, .Neg, .Abs, at dyads. -/
namespace Go.Proofs.YtbkmpoeaindnaaaDoor.N
open Go.RowKit Go.Shelf

set_option maxHeartbeats 1000000 in
theorem rck2_c (nv : Value) (ds : List Nat) (w : World) (hD : Digs w nv ds) (hn : norm ds) : Calls Tryd.prog 79 #[nv] w fun e w' => e = .returned (.bool true) ∧ w' = w := by
  have hl := hD.2.1
  by_cases h0 : ds.length = 0
  · obtain ⟨a, cap, rfl, hcap⟩ := hD.shape
    have h0' : ((ds.length : Int) == 0) = true := by simp [h0]
    go_enter Tryd.func79, Tryd.ntmps79
    go_wp2
    go_ret
    exact ⟨rfl, rfl⟩
  · have ht := sizeL_top ds (by rw [hn]; omega)
    rw [show sizeL ds = ds.length from hn] at ht
    obtain ⟨b, off, cap, rfl, hb, hcs⟩ := hD.cell (by omega)
    have h0' : ((ds.length : Int) == 0) = false := by simp [h0]
    have hc := hcs (ds.length - 1) (by omega)
    obtain ⟨d, hd⟩ : ∃ d, ds[ds.length - 1]?.getD 0 = d := ⟨_, rfl⟩
    rw [hd] at hc ht
    have hd' : ((d : Int) != 0) = true := by simp; omega
    have e1 : ((ds.length : Int) - 1) = ((ds.length - 1 : Nat) : Int) := by omega
    have e2 : ((ds.length : Int) - 1).toNat = ds.length - 1 := by omega
    have e3 : (0 : Int) ≤ (ds.length : Int) - 1 := by omega
    clear hcs hd ht hn e1
    go_enter Tryd.func79, Tryd.ntmps79
    go_wp2
    go_ret
    exact ⟨rfl, rfl⟩

set_option maxRecDepth 100000 in
set_option maxHeartbeats 2000000 in
theorem rdck_c (neg : Bool) (nv : Value) (e z g : Int) (w : World) (hD : Dy w neg nv e z g) : Calls Tryd.prog 72 #[dyv neg nv e] w fun r w' => r = .returned (.bool true) ∧ Below w.heap.size w w' := by
  obtain ⟨ds, h1, h2, h3⟩ := hD
  have hB : Below w.heap.size w (w.alloc (dcells neg nv e)) := (Below.refl _ w).alloc (Nat.le_refl _) _
  rcases h3 with ⟨rfl, rfl, rfl, _⟩ | ⟨ho, he1, he2, _, _⟩
  · obtain ⟨a, cap, rfl, hcap⟩ := h1.shape
    clear h1 h2
    go_enter Tryd.func72, Tryd.ntmps72
    go_wp2
    go_ret
    exact ⟨rfl, hB⟩
  · have hl : 0 < ds.length := by
      rcases Nat.eq_zero_or_pos ds.length with h | h
      · rw [List.length_eq_zero_iff.1 h] at ho
        simp [val] at ho
      · exact h
    have hlm := h1.2.1
    have k := rck2_c nv ds _ (h1.below hB (Nat.le_refl _)) h2
    have hm := head_mod ds h1.1
    obtain ⟨b, off, cap, rfl, hb, hcs⟩ := h1.cell hl
    have X := DBox.new w neg (.slice (some ⟨b, off, none⟩) ds.length cap) e
    have hc0 := (hB.cell (p := ⟨b, off, none⟩) hb).trans (hcs 0 hl)
    obtain ⟨d, hd⟩ : ∃ d, ds[0]?.getD 0 = d := ⟨_, rfl⟩
    rw [hd] at hc0 hm
    have hq : d % 2 = 1 := by omega
    have hd1 : ((d : Int) % 2 == 1) = true := by rw [beq_iff_eq]; omega
    clear hq
    have hl0 : ((ds.length : Int) == 0) = false := by rw [beq_eq_false_iff_ne]; omega
    have hl1 : (0 : Int) < (ds.length : Int) := by omega
    have x1 := X.c1
    have x2 := X.c2
    clear hcs hd hm h1 h2 ho X
    go_enter Tryd.func72, Tryd.ntmps72
    go_wp2_with fail
    refine k.mono ?_
    rintro r w1 ⟨rfl, rfl⟩
    go_wp2
    go_ret
    exact ⟨rfl, hB⟩

set_option maxRecDepth 100000 in
set_option maxHeartbeats 2000000 in
theorem rdmay_c (neg : Bool) (nv : Value) (e z g : Int) (w : World) (hD : Dy w neg nv e z g) : Calls Tryd.prog 48 #[dyv neg nv e] w fun r w' => r = .returned (dyv neg nv e) ∧ Below w.heap.size w w' := by
  have hB : Below w.heap.size w ((w.alloc (dcells neg nv e)).alloc (dcells false (.slice none 0 0) 0)) := ((Below.refl _ w).alloc (Nat.le_refl _) _).alloc (by simp) _
  have b0 : DBox ((w.alloc (dcells neg nv e)).alloc (dcells false (.slice none 0 0) 0)) w.heap.size neg nv e := (DBox.new w _ _ _).below ((Below.refl _ _).alloc (Nat.le_refl _) _) (by simp)
  have r0 : DBox ((w.alloc (dcells neg nv e)).alloc (dcells false (.slice none 0 0) 0)) (w.heap.size + 1) false (.slice none 0 0) 0 := by
    have h := DBox.new (w.alloc (dcells neg nv e)) false (.slice none 0 0) 0
    rw [World.size_alloc] at h; exact h
  obtain ⟨a, len, cap, rfl⟩ := hD.shape
  go_enter Tryd.func48, Tryd.ntmps48
  go_wp2_with fail
  refine (rdck_c neg _ e z g _ (hD.below hB (Nat.le_refl _))).mono ?_
  rintro r w1 ⟨rfl, hb⟩
  have b1 := b0.below hb b0.lt
  have r1 := r0.below hb r0.lt
  have B1 := hB.trans (hb.mono hB.size)
  have x0 := b1.c0
  have x1 := b1.c1
  have x2 := b1.c2
  have y0 := r1.c0
  have y1 := r1.c1
  have y2 := r1.c2
  have z0 := r1.fz 0
  have z1 := r1.fz 1
  have z2 := r1.fz 2
  have b7 := r1.put neg (.slice a len cap) e
  have hB7 := putD_below B1 (B := w.heap.size + 1) (by omega) neg (.slice a len cap) e
  unfold putD at b7 hB7
  go_wp2_with fail
  exact bodyPost_ret_by (v := dyv neg (.slice a len cap) e) (dy_results rfl b7 rfl) rfl ⟨rfl, hB7⟩

/-- What a dyad's number is, over its digits. -/
theorem Dy.parts {W : World} {neg : Bool} {nv : Value} {e z g : Int} (h : Dy W neg nv e z g) (hg0 : g ≤ 0) (hz : z.natAbs < BIG) :
    ∃ ds, Digs W nv ds ∧ norm ds ∧ ds.length ≤ 600 ∧ g ≤ e ∧ -20000 ≤ e ∧ e ≤ 20000 ∧ z = sgn neg (val ds * 2 ^ (e - g).toNat) ∧ val ds * 2 ^ (e - g).toNat < BIG ∧ (val ds = 0 → neg = false ∧ e = 0) := by
  obtain ⟨ds, h1, h2, h3, _, h5⟩ := h.few hz
  rcases h5 with ⟨rfl, rfl, rfl, rfl⟩ | ⟨ho, he1, he2, hge, rfl⟩
  · refine ⟨[], h1, h2, h3, hg0, by omega, by omega, by simp [val, sgn], ?_, fun _ => ⟨rfl, rfl⟩⟩
    simp only [val, Nat.zero_mul]
    exact Nat.lt_of_le_of_lt (Nat.zero_le _) hz
  · rw [sgn_abs] at hz
    exact ⟨ds, h1, h2, h3, hge, he1, he2, rfl, hz, fun h => by omega⟩

set_option maxRecDepth 100000 in
set_option maxHeartbeats 2000000 in
theorem rneg_c (neg : Bool) (nv : Value) (e z g : Int) (w : World) (hD : Dy w neg nv e z g) (hg0 : g ≤ 0) (hg : -20000 ≤ g) (hz : z.natAbs < BIG) : Calls Tryd.prog 54 #[dyv neg nv e] w fun r w' => DyR r w' (-z) g ∧ Below w.heap.size w w' := by
  have hB : Below w.heap.size w ((w.alloc (dcells neg nv e)).alloc (dcells false (.slice none 0 0) 0)) := ((Below.refl _ w).alloc (Nat.le_refl _) _).alloc (by simp) _
  have b0 : DBox ((w.alloc (dcells neg nv e)).alloc (dcells false (.slice none 0 0) 0)) w.heap.size neg nv e := (DBox.new w _ _ _).below ((Below.refl _ _).alloc (Nat.le_refl _) _) (by simp)
  have r0 : DBox ((w.alloc (dcells neg nv e)).alloc (dcells false (.slice none 0 0) 0)) (w.heap.size + 1) false (.slice none 0 0) 0 := by
    have h := DBox.new (w.alloc (dcells neg nv e)) false (.slice none 0 0) 0
    rw [World.size_alloc] at h; exact h
  obtain ⟨ds, d1, d2, d3, d4, d5, d6, d7, d8, _⟩ := hD.parts hg0 hz
  have HZ : Hid (sgn (!neg) (val ds * 2 ^ (e - g).toNat) = -z) := by
    show _ = _
    rw [d7]
    unfold sgn
    cases neg <;> simp
  obtain ⟨a, len, cap, rfl⟩ := hD.shape
  go_enter Tryd.func54, Tryd.ntmps54
  go_wp2_with fail
  refine (rdmay_c neg _ e z g _ (hD.below hB (Nat.le_refl _))).mono ?_
  rintro r w1 ⟨rfl, hb⟩
  have b1 := b0.below hb b0.lt
  have r1 := r0.below hb r0.lt
  have B1 := hB.trans (hb.mono hB.size)
  have x0 := b1.c0
  have x1 := b1.c1
  have x2 := b1.c2
  have z0 := b1.fz 0
  have z1 := b1.fz 1
  have z2 := b1.fz 2
  have b2 := b1.put neg (.slice a len cap) e
  have r2 := r1.putO (B := w.heap.size) (by omega) neg (.slice a len cap) e
  have B2 := putD_below B1 (B := w.heap.size) (Nat.le_refl _) neg (.slice a len cap) e
  unfold putD at b2 r2 B2
  clear hb b0 r0 b1 r1 B1 hB
  have y0 := b2.c0
  have y1 := b2.c1
  have y2 := b2.c2
  have hK := rnorm_c (!neg) _ ds e g _ (d1.below B2 (Nat.le_refl _)) hg0 hg d4 d8
  rw [HZ.out] at hK
  clear d7 d8
  go_wp2_with fail
  refine hK.mono ?_
  rintro r w3 ⟨⟨neg', nv', ex', rfl, hR⟩, hb⟩
  have r3 := r2.below hb r2.lt
  have B3 := B2.trans (hb.mono B2.size)
  have q0 := r3.c0
  have q1 := r3.c1
  have q2 := r3.c2
  have p0 := r3.fz 0
  have p1 := r3.fz 1
  have p2 := r3.fz 2
  have b7 := r3.put neg' nv' ex'
  have hB7 := putD_below B3 (B := w.heap.size + 1) (by omega) neg' nv' ex'
  have hR7 := hR.keep r3 (fun _ hn => putD_blk w3 hn neg' nv' ex')
  unfold putD at b7 hB7 hR7
  obtain ⟨a', len', cap', rfl⟩ := hR.shape
  go_wp2_with fail
  exact bodyPost_ret_by (v := dyv neg' (.slice a' len' cap') ex') (dy_results rfl b7 rfl) rfl ⟨⟨neg', _, ex', rfl, hR7⟩, hB7⟩

set_option maxRecDepth 100000 in
set_option maxHeartbeats 2000000 in
theorem rabs_c (neg : Bool) (nv : Value) (e z g : Int) (w : World) (hD : Dy w neg nv e z g) (hg0 : g ≤ 0) (hg : -20000 ≤ g) (hz : z.natAbs < BIG) : Calls Tryd.prog 28 #[dyv neg nv e] w fun r w' => DyR r w' (z.natAbs : Int) g ∧ Below w.heap.size w w' := by
  have hB : Below w.heap.size w ((w.alloc (dcells neg nv e)).alloc (dcells false (.slice none 0 0) 0)) := ((Below.refl _ w).alloc (Nat.le_refl _) _).alloc (by simp) _
  have b0 : DBox ((w.alloc (dcells neg nv e)).alloc (dcells false (.slice none 0 0) 0)) w.heap.size neg nv e := (DBox.new w _ _ _).below ((Below.refl _ _).alloc (Nat.le_refl _) _) (by simp)
  have r0 : DBox ((w.alloc (dcells neg nv e)).alloc (dcells false (.slice none 0 0) 0)) (w.heap.size + 1) false (.slice none 0 0) 0 := by
    have h := DBox.new (w.alloc (dcells neg nv e)) false (.slice none 0 0) 0
    rw [World.size_alloc] at h; exact h
  obtain ⟨ds, d1, d2, d3, d4, d5, d6, d7, d8, _⟩ := hD.parts hg0 hz
  have HZ : Hid (sgn false (val ds * 2 ^ (e - g).toNat) = (z.natAbs : Int)) := by
    show _ = _
    rw [d7, sgn_abs]
    rfl
  obtain ⟨a, len, cap, rfl⟩ := hD.shape
  go_enter Tryd.func28, Tryd.ntmps28
  go_wp2_with fail
  refine (rdmay_c neg _ e z g _ (hD.below hB (Nat.le_refl _))).mono ?_
  rintro r w1 ⟨rfl, hb⟩
  have b1 := b0.below hb b0.lt
  have r1 := r0.below hb r0.lt
  have B1 := hB.trans (hb.mono hB.size)
  have x0 := b1.c0
  have x1 := b1.c1
  have x2 := b1.c2
  have z0 := b1.fz 0
  have z1 := b1.fz 1
  have z2 := b1.fz 2
  have b2 := b1.put neg (.slice a len cap) e
  have r2 := r1.putO (B := w.heap.size) (by omega) neg (.slice a len cap) e
  have B2 := putD_below B1 (B := w.heap.size) (Nat.le_refl _) neg (.slice a len cap) e
  unfold putD at b2 r2 B2
  clear hb b0 r0 b1 r1 B1 hB
  have y0 := b2.c0
  have y1 := b2.c1
  have y2 := b2.c2
  have hK := rnorm_c false _ ds e g _ (d1.below B2 (Nat.le_refl _)) hg0 hg d4 d8
  rw [HZ.out] at hK
  clear d7 d8
  go_wp2_with fail
  refine hK.mono ?_
  rintro r w3 ⟨⟨neg', nv', ex', rfl, hR⟩, hb⟩
  have r3 := r2.below hb r2.lt
  have B3 := B2.trans (hb.mono B2.size)
  have q0 := r3.c0
  have q1 := r3.c1
  have q2 := r3.c2
  have p0 := r3.fz 0
  have p1 := r3.fz 1
  have p2 := r3.fz 2
  have b7 := r3.put neg' nv' ex'
  have hB7 := putD_below B3 (B := w.heap.size + 1) (by omega) neg' nv' ex'
  have hR7 := hR.keep r3 (fun _ hn => putD_blk w3 hn neg' nv' ex')
  unfold putD at b7 hB7 hR7
  obtain ⟨a', len', cap', rfl⟩ := hR.shape
  go_wp2_with fail
  exact bodyPost_ret_by (v := dyv neg' (.slice a' len' cap') ex') (dy_results rfl b7 rfl) rfl ⟨⟨neg', _, ex', rfl, hR7⟩, hB7⟩
end Go.Proofs.YtbkmpoeaindnaaaDoor.N

/- levellingref03.Mul. -/
namespace Go.Proofs.YtbkmpoeaindnaaaDoor.N
open Go.RowKit Go.Shelf

theorem sgn_mul (a b : Bool) (n m : Nat) : sgn (a != b) (n * m) = sgn a n * sgn b m := by
  unfold sgn
  cases a <;> cases b <;> simp [Int.natCast_mul, Int.neg_mul, Int.mul_neg]
theorem pow_add_toNat {x y : Int} (hx : 0 ≤ x) (hy : 0 ≤ y) : 2 ^ (x + y).toNat = 2 ^ x.toNat * 2 ^ y.toNat := by
  rw [← Nat.pow_add]
  congr 1
  omega

/-- Two dyads in boxes, and a third box. -/
structure S3 (w W : World) (n1 : Bool) (v1 : Value) (e1 : Int) (n2 : Bool) (v2 : Value) (e2 : Int) : Prop where
  be : Below w.heap.size w W
  ba : DBox W w.heap.size n1 v1 e1
  bb : DBox W (w.heap.size + 1) n2 v2 e2
  br : DBox W (w.heap.size + 1 + 1) false (.slice none 0 0) 0
theorem S3.below {w W W' : World} {n1 n2 : Bool} {v1 v2 : Value} {e1 e2 : Int} (h : S3 w W n1 v1 e1 n2 v2 e2) (hb : Below W.heap.size W W') : S3 w W' n1 v1 e1 n2 v2 e2 :=
  ⟨h.be.trans (hb.mono h.be.size), h.ba.below hb h.ba.lt, h.bb.below hb h.bb.lt, h.br.below hb h.br.lt⟩
theorem S3.new (w : World) (n1 : Bool) (v1 : Value) (e1 : Int) (n2 : Bool) (v2 : Value) (e2 : Int) : S3 w (((w.alloc (dcells n1 v1 e1)).alloc (dcells n2 v2 e2)).alloc (dcells false (.slice none 0 0) 0)) n1 v1 e1 n2 v2 e2 := by
  refine ⟨(((Below.refl _ w).alloc (Nat.le_refl _) _).alloc (by simp) _).alloc (by simp; omega) _, ?_, ?_, ?_⟩
  · exact (DBox.new w _ _ _).below (((Below.refl _ _).alloc (Nat.le_refl _) _).alloc (by simp) _) (by simp)
  · have h := DBox.new (w.alloc (dcells n1 v1 e1)) n2 v2 e2
    rw [World.size_alloc] at h
    exact h.below ((Below.refl _ _).alloc (Nat.le_refl _) _) h.lt
  · have h := DBox.new ((w.alloc (dcells n1 v1 e1)).alloc (dcells n2 v2 e2)) false (.slice none 0 0) 0
    rw [World.size_alloc, World.size_alloc] at h
    exact h
theorem S3.putA {w W : World} {n1 n2 : Bool} {v1 v2 : Value} {e1 e2 : Int} (h : S3 w W n1 v1 e1 n2 v2 e2) : S3 w (putD W w.heap.size n1 v1 e1) n1 v1 e1 n2 v2 e2 :=
  ⟨putD_below h.be (Nat.le_refl _) _ _ _, h.ba.put _ _ _, h.bb.putO (by omega) _ _ _, h.br.putO (by omega) _ _ _⟩
theorem S3.putB {w W : World} {n1 n2 : Bool} {v1 v2 : Value} {e1 e2 : Int} (h : S3 w W n1 v1 e1 n2 v2 e2) : S3 w (putD W (w.heap.size + 1) n2 v2 e2) n1 v1 e1 n2 v2 e2 :=
  ⟨putD_below h.be (by omega) _ _ _, h.ba.putO (by omega) _ _ _, h.bb.put _ _ _, h.br.putO (by omega) _ _ _⟩

set_option maxRecDepth 100000 in
set_option maxHeartbeats 8000000 in
theorem rdmul_c (n1 n2 : Bool) (v1 v2 : Value) (e1 e2 z1 z2 g1 g2 : Int) (w : World) (h1 : Dy w n1 v1 e1 z1 g1) (h2 : Dy w n2 v2 e2 z2 g2) (hg1 : g1 ≤ 0) (hg2 : g2 ≤ 0) (hg : -20000 ≤ g1 + g2) (hz1 : z1.natAbs < BIG) (hz2 : z2.natAbs < BIG) (hz : (z1 * z2).natAbs < BIG) :
    Calls Tryd.prog 23 #[dyv n1 v1 e1, dyv n2 v2 e2] w fun r w' => DyR r w' (z1 * z2) (g1 + g2) ∧ Below w.heap.size w w' := by
  have S := S3.new w n1 v1 e1 n2 v2 e2
  obtain ⟨A, a1, a2, a3, a4, a5, a6, a7, a8, _⟩ := h1.parts hg1 hz1
  obtain ⟨B, b1, b2, b3, b4, b5, b6, b7, b8, _⟩ := h2.parts hg2 hz2
  have HZ : Hid (sgn (n1 != n2) (val A * val B * 2 ^ (e1 + e2 - (g1 + g2)).toNat) = z1 * z2) := by
    show _ = _
    rw [a7, b7, ← sgn_mul]
    congr 1
    rw [show e1 + e2 - (g1 + g2) = (e1 - g1) + (e2 - g2) by omega, pow_add_toNat (by omega) (by omega)]
    grind
  have HB : Hid (val A * val B * 2 ^ (e1 + e2 - (g1 + g2)).toNat < BIG) := by
    show _ < _
    have := HZ.out
    have h := sgn_abs (n1 != n2) (val A * val B * 2 ^ (e1 + e2 - (g1 + g2)).toNat)
    rw [this] at h
    rw [← h]
    exact hz
  clear hz a7 a8 b7 b8
  obtain ⟨aa, la, ca, rfl⟩ := h1.shape
  obtain ⟨ab, lb, cb, rfl⟩ := h2.shape
  go_enter Tryd.func23, Tryd.ntmps23
  go_wp2_with fail
  refine (rdmay_c n1 _ e1 z1 g1 _ (h1.below S.be (Nat.le_refl _))).mono ?_
  rintro r w1 ⟨rfl, hb⟩
  replace S := S.below hb
  have x0 := S.ba.c0
  have x1 := S.ba.c1
  have x2 := S.ba.c2
  have f0 := S.ba.fz 0
  have f1 := S.ba.fz 1
  have f2 := S.ba.fz 2
  have T := S.putA
  unfold putD at T
  clear hb S
  have y0 := T.bb.c0
  have y1 := T.bb.c1
  have y2 := T.bb.c2
  go_wp2_with fail
  clear x0 x1 x2 f0 f1 f2
  refine (rdmay_c n2 _ e2 z2 g2 _ (h2.below T.be (Nat.le_refl _))).mono ?_
  rintro r w2 ⟨rfl, hb⟩
  replace T := T.below hb
  clear hb y0 y1 y2
  have x0 := T.bb.c0
  have x1 := T.bb.c1
  have x2 := T.bb.c2
  have f0 := T.bb.fz 0
  have f1 := T.bb.fz 1
  have f2 := T.bb.fz 2
  have U := T.putB
  unfold putD at U
  clear T
  go_wp2_with fail
  clear x0 x1 x2 f0 f1 f2
  generalize ((w2.setCell ⟨w.heap.size + 1, 0, none⟩ (.bool n2)).setCell ⟨w.heap.size + 1, 1, none⟩ (.slice ab lb cb)).setCell ⟨w.heap.size + 1, 2, none⟩ (.int .i64 e2) = V at *
  have bD : Below V.heap.size V V.drew := (Below.refl _ _).drew
  have UD := U.below bD
  have hw : IntKind.i64.wrap (e1 + e2) = e1 + e2 := by rw [IntKind.wrap_i64]; omega
  have kM := rmul_c _ _ A B V.drew (a1.below UD.be (Nat.le_refl _)) (b1.below UD.be (Nat.le_refl _)) (by omega) (by omega)
  have kN : ∀ w' v, Below V.heap.size V w' → Res w' v (val A * val B) → Calls Tryd.prog 46 #[.bool (!n1 == n2), v, .int .i64 (e1 + e2)] w' fun r w'' => DyR r w'' (z1 * z2) (g1 + g2) ∧ Below V.heap.size V w'' := by
    rintro w' v hb ⟨C, c1, c2, c3⟩
    have h := rnorm_c (n1 != n2) v C (e1 + e2) (g1 + g2) w' c1 (by omega) hg (by omega) (by rw [c3]; exact HB.out)
    rw [c3, HZ.out] at h
    exact h.mono fun r w'' ⟨k1, k2⟩ => ⟨k1, hb.trans (k2.mono hb.size)⟩
  have mk : ∀ w', Below V.heap.size V w' → (w'.cell? ⟨w.heap.size, 0, none⟩ = some (.bool n1) ∧ w'.cell? ⟨w.heap.size, 1, none⟩ = some (.slice aa la ca) ∧ w'.cell? ⟨w.heap.size, 2, none⟩ = some (.int .i64 e1) ∧ w'.cell? ⟨w.heap.size + 1, 0, none⟩ = some (.bool n2) ∧ w'.cell? ⟨w.heap.size + 1, 1, none⟩ = some (.slice ab lb cb) ∧ w'.cell? ⟨w.heap.size + 1, 2, none⟩ = some (.int .i64 e2)) := fun w' hw => by
    have p := U.below hw
    exact ⟨p.ba.c0, p.ba.c1, p.ba.c2, p.bb.c0, p.bb.c1, p.bb.c2⟩
  have mk2 : ∀ w' n v e, Below V.heap.size V w' → (fun w' : World => w'.cell? ⟨w.heap.size, 0, none⟩ = some (.bool n1) ∧ w'.cell? ⟨w.heap.size, 1, none⟩ = some (.slice aa la ca) ∧ w'.cell? ⟨w.heap.size, 2, none⟩ = some (.int .i64 e1) ∧ w'.cell? ⟨w.heap.size + 1, 0, none⟩ = some (.bool n2) ∧ w'.cell? ⟨w.heap.size + 1, 1, none⟩ = some (.slice ab lb cb) ∧ w'.cell? ⟨w.heap.size + 1, 2, none⟩ = some (.int .i64 e2)) (((w'.setCell ⟨w.heap.size + 1 + 1, 0, none⟩ (.bool n)).setCell ⟨w.heap.size + 1 + 1, 1, none⟩ v).setCell ⟨w.heap.size + 1 + 1, 2, none⟩ (.int .i64 e)) := fun w' n v e hw => by
    have p := U.below hw
    have pa := p.ba.putO (B := w.heap.size + 1 + 1) (by omega) n v e
    have pb := p.bb.putO (B := w.heap.size + 1 + 1) (by omega) n v e
    unfold putD at pa pb
    exact ⟨pa.c0, pa.c1, pa.c2, pb.c0, pb.c1, pb.c2⟩
  go_region_held3 (fun w' => w'.cell? ⟨w.heap.size, 0, none⟩ = some (.bool n1) ∧ w'.cell? ⟨w.heap.size, 1, none⟩ = some (.slice aa la ca) ∧ w'.cell? ⟨w.heap.size, 2, none⟩ = some (.int .i64 e1) ∧ w'.cell? ⟨w.heap.size + 1, 0, none⟩ = some (.bool n2) ∧ w'.cell? ⟨w.heap.size + 1, 1, none⟩ = some (.slice ab lb cb) ∧ w'.cell? ⟨w.heap.size + 1, 2, none⟩ = some (.int .i64 e2)) (first | exact mk _ (by assumption) | exact mk2 _ _ _ _ (by assumption))
    ((first | (go_at_call 52; refine kM.mono ?_; rintro r w4 ⟨⟨v4, rfl, hR4⟩, hb4⟩; have hb5 : Below V.heap.size V w4 := bD.trans hb4) | (go_at_call 46; refine (kN w4 v4 hb5 hR4).mono ?_; rintro r w6 ⟨⟨n6, v6, x6, rfl, hR6⟩, hb6⟩; obtain ⟨a6, l6, c6, rfl⟩ := hR6.shape; have p6 := (U.below hb6).br; have q0 := p6.c0; have q1 := p6.c1; have q2 := p6.c2; have t0 := p6.fz 0; have t1 := p6.fz 1; have t2 := p6.fz 2)))
  have p7 := p6.put n6 (.slice a6 l6 c6) x6
  have hR7 := hR6.keep p6 (fun _ hn => putD_blk w6 hn n6 (.slice a6 l6 c6) x6)
  have hB7 := putD_below (U.below hb6).be (B := w.heap.size + 1 + 1) (by omega) n6 (.slice a6 l6 c6) x6
  unfold putD at p7 hR7 hB7
  go_wp2_with fail
  exact bodyPost_ret_by (v := dyv n6 (.slice a6 l6 c6) x6) (dy_results rfl p7 rfl) rfl ⟨⟨n6, _, x6, rfl, hR7⟩, hB7⟩
end Go.Proofs.YtbkmpoeaindnaaaDoor.N

/- levellingref03.Add. -/
namespace Go.Proofs.YtbkmpoeaindnaaaDoor.N
open Go.RowKit Go.Shelf

theorem sgn_add (a : Bool) (n m : Nat) : sgn a n + sgn a m = sgn a (n + m) := by
  unfold sgn
  cases a <;> simp <;> omega
theorem sgn_sub {a b : Bool} (h : a ≠ b) {n m : Nat} (hm : m ≤ n) : sgn a n + sgn b m = sgn a (n - m) := by
  unfold sgn
  cases a <;> cases b <;> simp at h ⊢ <;> omega
theorem sgn_comm {a b : Bool} (h : a ≠ b) {n m : Nat} (hm : n ≤ m) : sgn a n + sgn b m = sgn b (m - n) := by
  unfold sgn
  cases a <;> cases b <;> simp at h ⊢ <;> omega
/-- Units: what is shifted by e1 - e, times 2^(e - g). -/
theorem shift_units {n : Nat} {e1 e g : Int} (h1 : e ≤ e1) (h2 : g ≤ e) : n * 2 ^ (e1 - e).toNat * 2 ^ (e - g).toNat = n * 2 ^ (e1 - g).toNat := by
  rw [Nat.mul_assoc, ← Nat.pow_add]
  congr 2
  omega

set_option maxRecDepth 100000 in
set_option maxHeartbeats 16000000 in
theorem rdadd_c (n1 n2 : Bool) (v1 v2 : Value) (e1 e2 z1 z2 g : Int) (w : World) (h1 : Dy w n1 v1 e1 z1 g) (h2 : Dy w n2 v2 e2 z2 g) (hg0 : g ≤ 0) (hg : -20000 ≤ g) (hz1 : z1.natAbs < BIG) (hz2 : z2.natAbs < BIG) (hz : (z1 + z2).natAbs < BIG) :
    Calls Tryd.prog 22 #[dyv n1 v1 e1, dyv n2 v2 e2] w fun r w' => DyR r w' (z1 + z2) g ∧ Below w.heap.size w w' := by
  have S := S3.new w n1 v1 e1 n2 v2 e2
  obtain ⟨A, a1, a2, a3, a4, a5, a6, a7, a8, _⟩ := h1.parts hg0 hz1
  obtain ⟨B, b1, b2, b3, b4, b5, b6, b7, b8, _⟩ := h2.parts hg0 hz2
  obtain ⟨e, he⟩ : ∃ e, min e1 e2 = e := ⟨_, rfl⟩
  have m1 : e ≤ e1 := by omega
  have m2 : e ≤ e2 := by omega
  have m3 : g ≤ e := by omega
  obtain ⟨k1, hk1⟩ : ∃ k1 : Nat, e1 - e = (k1 : Int) := ⟨(e1 - e).toNat, by omega⟩
  obtain ⟨k2, hk2⟩ : ∃ k2 : Nat, e2 - e = (k2 : Int) := ⟨(e2 - e).toNat, by omega⟩
  have u1 : val A * 2 ^ k1 * 2 ^ (e - g).toNat = val A * 2 ^ (e1 - g).toNat := by
    have h := shift_units (n := val A) m1 m3
    rwa [hk1, Int.toNat_natCast] at h
  have u2 : val B * 2 ^ k2 * 2 ^ (e - g).toNat = val B * 2 ^ (e2 - g).toNat := by
    have h := shift_units (n := val B) m2 m3
    rwa [hk2, Int.toNat_natCast] at h
  rw [← u1] at a7 a8
  rw [← u2] at b7 b8
  have l1 : k1 ≤ 40000 := by omega
  have l2 : k2 ≤ 40000 := by omega
  have he2 : -20000 ≤ e ∧ e ≤ 20000 := by omega
  have kN : ∀ W v n m, Res W v m → m * 2 ^ (e - g).toNat < BIG → sgn n (m * 2 ^ (e - g).toNat) = z1 + z2 → Calls Tryd.prog 46 #[.bool n, v, .int .i64 e] W fun r w' => DyR r w' (z1 + z2) g ∧ Below W.heap.size W w' := by
    rintro W v n m ⟨C, c1, c2, rfl⟩ hm hs
    have h := rnorm_c n v C e g W c1 hg0 hg m3 hm
    rwa [hs] at h
  have kX : ∀ W v, Digs W v A → Calls Tryd.prog 49 #[v, .int .i64 (e1 - e)] W fun r w' => (∃ v', r = .returned v' ∧ Res w' v' (val A * 2 ^ k1)) ∧ Below W.heap.size W w' := by
    intro W v h
    rw [hk1]
    exact rshl_c v A k1 W h (by omega) (by omega)
  have kY : ∀ W v, Digs W v B → Calls Tryd.prog 49 #[v, .int .i64 (e2 - e)] W fun r w' => (∃ v', r = .returned v' ∧ Res w' v' (val B * 2 ^ k2)) ∧ Below W.heap.size W w' := by
    intro W v h
    rw [hk2]
    exact rshl_c v B k2 W h (by omega) (by omega)
  obtain ⟨X, hX⟩ : ∃ X, val A * 2 ^ k1 = X := ⟨_, rfl⟩
  obtain ⟨Y, hY⟩ : ∃ Y, val B * 2 ^ k2 = Y := ⟨_, rfl⟩
  rw [hX] at a7 a8 kX
  rw [hY] at b7 b8 kY
  have hlX : X < BIG := Nat.lt_of_le_of_lt val_le_abs a8
  have hlY : Y < BIG := Nat.lt_of_le_of_lt val_le_abs b8
  obtain ⟨P, hP⟩ : ∃ P, 2 ^ (e - g).toNat = P := ⟨_, rfl⟩
  rw [hP] at a7 a8 b7 b8 kN
  have hPp : 0 < P := by rw [← hP]; exact pow_pos2 _
  have kE : n1 = n2 → (X + Y) * P < BIG ∧ sgn n1 ((X + Y) * P) = z1 + z2 := by
    rintro rfl
    have h : sgn n1 ((X + Y) * P) = z1 + z2 := by rw [a7, b7, sgn_add, Nat.add_mul]
    refine ⟨?_, h⟩
    rw [← h, sgn_abs] at hz
    exact hz
  have kF : n1 ≠ n2 → Y ≤ X → (X - Y) * P < BIG ∧ sgn n1 ((X - Y) * P) = z1 + z2 := by
    intro hn hle
    have h : sgn n1 ((X - Y) * P) = z1 + z2 := by rw [a7, b7, sgn_sub hn (Nat.mul_le_mul_right _ hle), Nat.sub_mul]
    refine ⟨?_, h⟩
    rw [← h, sgn_abs] at hz
    exact hz
  have kG : n1 ≠ n2 → X ≤ Y → (Y - X) * P < BIG ∧ sgn n2 ((Y - X) * P) = z1 + z2 := by
    intro hn hle
    have h : sgn n2 ((Y - X) * P) = z1 + z2 := by rw [a7, b7, sgn_comm hn (Nat.mul_le_mul_right _ hle), Nat.sub_mul]
    refine ⟨?_, h⟩
    rw [← h, sgn_abs] at hz
    exact hz
  have HEFG : Hid ((n1 = n2 → (X + Y) * P < BIG ∧ sgn n1 ((X + Y) * P) = z1 + z2) ∧ (n1 ≠ n2 → Y ≤ X → (X - Y) * P < BIG ∧ sgn n1 ((X - Y) * P) = z1 + z2) ∧ (n1 ≠ n2 → X ≤ Y → (Y - X) * P < BIG ∧ sgn n2 ((Y - X) * P) = z1 + z2)) := ⟨kE, kF, kG⟩
  have HLXY : Hid (X < BIG ∧ Y < BIG) := ⟨hlX, hlY⟩
  have hc : (e1 ≤ e2 ∧ e = e1) ∨ (¬ e1 ≤ e2 ∧ e = e2) := by omega
  clear kE kF kG hlX hlY hX hY hP a7 a8 b7 b8 u1 u2 m1 m2 m3 he hz hk1 hk2 he2
  obtain ⟨aa, la, ca, rfl⟩ := h1.shape
  obtain ⟨ab, lb, cb, rfl⟩ := h2.shape
  go_enter Tryd.func22, Tryd.ntmps22
  go_wp2_with fail
  refine (rdmay_c n1 _ e1 z1 g _ (h1.below S.be (Nat.le_refl _))).mono ?_
  rintro r w1 ⟨rfl, hb⟩
  replace S := S.below hb
  have x0 := S.ba.c0
  have x1 := S.ba.c1
  have x2 := S.ba.c2
  have f0 := S.ba.fz 0
  have f1 := S.ba.fz 1
  have f2 := S.ba.fz 2
  have T := S.putA
  unfold putD at T
  clear hb S
  have y0 := T.bb.c0
  have y1 := T.bb.c1
  have y2 := T.bb.c2
  go_wp2_with fail
  clear x0 x1 x2 f0 f1 f2
  refine (rdmay_c n2 _ e2 z2 g _ (h2.below T.be (Nat.le_refl _))).mono ?_
  rintro r w2 ⟨rfl, hb⟩
  replace T := T.below hb
  clear hb y0 y1 y2
  have x0 := T.bb.c0
  have x1 := T.bb.c1
  have x2 := T.bb.c2
  have f0 := T.bb.fz 0
  have f1 := T.bb.fz 1
  have f2 := T.bb.fz 2
  have U := T.putB
  unfold putD at U
  clear T
  have y0 := U.ba.c0
  have y1 := U.ba.c1
  have y2 := U.ba.c2
  have y5 := U.bb.c2
  rcases hc with ⟨hle, rfl⟩ | ⟨hle, rfl⟩
  all_goals
    try rw [Int.sub_self] at kX
    try rw [Int.sub_self] at kY
    go_wp2_with fail
    refine (kX _ _ (a1.below U.be (Nat.le_refl _))).mono ?_
    rintro r w3 ⟨⟨v3, rfl, X3⟩, hb⟩
    have U3 := U.below hb
    clear hb U y0 y1 y2 y5 x0 x1 x2 f0 f1 f2 kX
    have y1 := U3.bb.c1
    have y2 := U3.bb.c2
    go_wp2_with fail
    refine (kY _ _ (b1.below U3.be (Nat.le_refl _))).mono ?_
    rintro r w4 ⟨⟨v4, rfl, Y4⟩, hb⟩
    have U4 := U3.below hb
    obtain ⟨XD, xd1, xd2, xd3⟩ := X3
    obtain ⟨YD, yd1, yd2, yd3⟩ := Y4
    replace xd1 := xd1.below hb (Nat.le_refl _)
    have lx := len_big xd2 (by rw [xd3]; exact HLXY.out.1)
    have ly := len_big yd2 (by rw [yd3]; exact HLXY.out.2)
    clear hb U3 y1 y2 kY
    have y0 := U4.ba.c0
    have y3 := U4.bb.c0
    by_cases hn : n1 = n2
    · have HKH : Hid ((X + Y) * P < BIG ∧ sgn n1 ((X + Y) * P) = z1 + z2) := HEFG.out.1 hn
      subst hn
      have bD : Below w4.heap.size w4 w4.drew := (Below.refl _ _).drew
      have UD := U4.below bD
      have kA := radd_c v3 v4 XD YD w4.drew (xd1.below bD (Nat.le_refl _)) (yd1.below bD (Nat.le_refl _)) (by omega) (by omega)
      rw [xd3, yd3] at kA
      have mk : ∀ w', Below w4.heap.size w4 w' → w'.cell? ⟨w.heap.size, 0, none⟩ = some (.bool n1) := fun w' hw => (U4.below hw).ba.c0
      have mk2 : ∀ w' n v e, Below w4.heap.size w4 w' → (((w'.setCell ⟨w.heap.size + 1 + 1, 0, none⟩ (.bool n)).setCell ⟨w.heap.size + 1 + 1, 1, none⟩ v).setCell ⟨w.heap.size + 1 + 1, 2, none⟩ (.int .i64 e)).cell? ⟨w.heap.size, 0, none⟩ = some (.bool n1) := fun w' n v e hw => by
        have pa := (U4.below hw).ba.putO (B := w.heap.size + 1 + 1) (by omega) n v e
        unfold putD at pa
        exact pa.c0
      go_wp2_with fail
      go_region_held3 (fun w' => w'.cell? ⟨w.heap.size, 0, none⟩ = some (.bool n1)) (first | exact mk _ (by assumption) | exact mk2 _ _ _ _ (by assumption))
        ((first | (go_at_call 50; refine kA.mono ?_; rintro r w5 ⟨⟨v5, rfl, hR5⟩, hb5'⟩; have hb5 : Below w4.heap.size w4 w5 := bD.trans hb5') | (go_at_call 46; refine (kN w5 v5 n1 (X + Y) hR5 HKH.out.1 HKH.out.2).mono ?_; rintro r w6 ⟨⟨n6, v6, x6, rfl, hR6⟩, hb6'⟩; have hb6 : Below w4.heap.size w4 w6 := hb5.trans (hb6'.mono hb5.size); obtain ⟨a6, l6, c6, rfl⟩ := hR6.shape; have p6 := (U4.below hb6).br; have q0 := p6.c0; have q1 := p6.c1; have q2 := p6.c2; have t0 := p6.fz 0; have t1 := p6.fz 1; have t2 := p6.fz 2)))
      have p7 := p6.put n6 (.slice a6 l6 c6) x6
      have hR7 := hR6.keep p6 (fun _ hn => putD_blk w6 hn n6 (.slice a6 l6 c6) x6)
      have hB7 := putD_below (U4.below hb6).be (B := w.heap.size + 1 + 1) (by omega) n6 (.slice a6 l6 c6) x6
      unfold putD at p7 hR7 hB7
      go_wp2_with fail
      exact bodyPost_ret_by (v := dyv n6 (.slice a6 l6 c6) x6) (dy_results rfl p7 rfl) rfl ⟨⟨n6, _, x6, rfl, hR7⟩, hB7⟩
    · have hn' : (n1 == n2) = false := by simp [hn]
      have kF := HEFG.out.2.1 hn
      have kG := HEFG.out.2.2 hn
      have HF : Hid (Y ≤ X → (X - Y) * P < BIG ∧ sgn n1 ((X - Y) * P) = z1 + z2) := kF
      have HG : Hid (X ≤ Y → (Y - X) * P < BIG ∧ sgn n2 ((Y - X) * P) = z1 + z2) := kG
      clear kF kG
      by_cases hxy : Y ≤ X
      · have kS := rsub_yes v3 v4 XD YD w4 xd1 yd1 (by omega) (by omega) (by rw [xd3, yd3]; exact hxy)
        rw [xd3, yd3] at kS
        go_wp2_with fail
        refine kS.mono ?_
        rintro r w5 ⟨⟨v5, rfl, hR5⟩, hb⟩
        have U5 := U4.below hb
        clear hb kS y0 y3
        have y0 := U5.ba.c0
        go_wp2_with fail
        refine (kN w5 v5 n1 (X - Y) hR5 (HF.out hxy).1 (HF.out hxy).2).mono ?_
        rintro r w6 ⟨⟨n6, v6, x6, rfl, hR6⟩, hb6⟩
        have U6 := U5.below hb6
        obtain ⟨a6, l6, c6, rfl⟩ := hR6.shape
        have q0 := U6.br.c0
        have q1 := U6.br.c1
        have q2 := U6.br.c2
        have t0 := U6.br.fz 0
        have t1 := U6.br.fz 1
        have t2 := U6.br.fz 2
        have p7 := U6.br.put n6 (.slice a6 l6 c6) x6
        have hR7 := hR6.keep U6.br (fun _ hn => putD_blk w6 hn n6 (.slice a6 l6 c6) x6)
        have hB7 := putD_below U6.be (B := w.heap.size + 1 + 1) (by omega) n6 (.slice a6 l6 c6) x6
        unfold putD at p7 hR7 hB7
        go_wp2_with fail
        exact bodyPost_ret_by (v := dyv n6 (.slice a6 l6 c6) x6) (dy_results rfl p7 rfl) rfl ⟨⟨n6, _, x6, rfl, hR7⟩, hB7⟩
      · have kS := rsub_no v3 v4 XD YD w4 xd1 yd1 (by rw [xd3, yd3]; omega)
        go_wp2_with fail
        refine kS.mono ?_
        rintro r w5 ⟨rfl, hb⟩
        have U5 := U4.below hb
        have kT := rsub_yes v4 v3 YD XD w5 (yd1.below hb (Nat.le_refl _)) (xd1.below hb (Nat.le_refl _)) (by omega) (by omega) (by rw [xd3, yd3]; omega)
        rw [xd3, yd3] at kT
        clear hb kS y0 y3
        go_wp2_with fail
        refine kT.mono ?_
        rintro r w7 ⟨⟨v7, rfl, hR5⟩, hb⟩
        have U7 := U5.below hb
        clear hb kT
        have y0 := U7.bb.c0
        go_wp2_with fail
        refine (kN w7 v7 n2 (Y - X) hR5 (HG.out (by omega)).1 (HG.out (by omega)).2).mono ?_
        rintro r w6 ⟨⟨n6, v6, x6, rfl, hR6⟩, hb6⟩
        have U6 := U7.below hb6
        obtain ⟨a6, l6, c6, rfl⟩ := hR6.shape
        have q0 := U6.br.c0
        have q1 := U6.br.c1
        have q2 := U6.br.c2
        have t0 := U6.br.fz 0
        have t1 := U6.br.fz 1
        have t2 := U6.br.fz 2
        have p7 := U6.br.put n6 (.slice a6 l6 c6) x6
        have hR7 := hR6.keep U6.br (fun _ hn => putD_blk w6 hn n6 (.slice a6 l6 c6) x6)
        have hB7 := putD_below U6.be (B := w.heap.size + 1 + 1) (by omega) n6 (.slice a6 l6 c6) x6
        unfold putD at p7 hR7 hB7
        go_wp2_with fail
        exact bodyPost_ret_by (v := dyv n6 (.slice a6 l6 c6) x6) (dy_results rfl p7 rfl) rfl ⟨⟨n6, _, x6, rfl, hR7⟩, hB7⟩
end Go.Proofs.YtbkmpoeaindnaaaDoor.N

/- levellingref03.Cmp, of two that are not below 0. -/
namespace Go.Proofs.YtbkmpoeaindnaaaDoor.N
open Go.RowKit Go.Shelf

theorem Dy.nonneg {W : World} {neg : Bool} {nv : Value} {e z g : Int} (h : Dy W neg nv e z g) (hz : 0 ≤ z) : neg = false := by
  obtain ⟨ds, h1, h2, ⟨_, h, _⟩ | ⟨ho, _, _, _, rfl⟩⟩ := h
  · exact h
  · cases neg with
    | false => rfl
    | true =>
      exfalso
      unfold sgn at hz
      rw [if_pos rfl] at hz
      have h3 : 0 < val ds * 2 ^ (e - g).toNat := Nat.mul_pos (by omega) (pow_pos2 _)
      omega
theorem Res.below {W W' : World} {v : Value} {N n : Nat} (h : Res W v N) (hb : Below n W W') (hn : W.heap.size ≤ n) : Res W' v N := by
  obtain ⟨ds, h1, h2⟩ := h
  exact ⟨ds, h1.below hb hn, h2⟩
theorem ordN_mul {x y p : Nat} (hp : 0 < p) : ordN (x * p) (y * p) = ordN x y := by
  rcases Nat.lt_trichotomy x y with h | h | h
  · rw [ordN_lt h, ordN_lt (Nat.mul_lt_mul_of_pos_right h hp)]
  · rw [h, ordN_eq, ordN_eq]
  · rw [ordN_gt h, ordN_gt (Nat.mul_lt_mul_of_pos_right h hp)]

set_option maxRecDepth 100000 in
set_option maxHeartbeats 16000000 in
theorem rdcmp_c (n1 n2 : Bool) (v1 v2 : Value) (e1 e2 z1 z2 g : Int) (w : World) (h1 : Dy w n1 v1 e1 z1 g) (h2 : Dy w n2 v2 e2 z2 g) (hg0 : g ≤ 0) (hz1 : z1.natAbs < BIG) (hz2 : z2.natAbs < BIG) (p1 : 0 ≤ z1) (p2 : 0 ≤ z2) :
    Calls Tryd.prog 27 #[dyv n1 v1 e1, dyv n2 v2 e2] w fun r w' => r = .returned (.int .i64 (ordN z1.natAbs z2.natAbs)) ∧ Below w.heap.size w w' := by
  obtain rfl := h1.nonneg p1
  obtain rfl := h2.nonneg p2
  obtain ⟨A, a1, a2, a3, a4, a5, a6, a7, a8, _⟩ := h1.parts hg0 hz1
  obtain ⟨B, b1, b2, b3, b4, b5, b6, b7, b8, _⟩ := h2.parts hg0 hz2
  obtain ⟨e, he⟩ : ∃ e, min e1 e2 = e := ⟨_, rfl⟩
  have m1 : e ≤ e1 := by omega
  have m2 : e ≤ e2 := by omega
  have m3 : g ≤ e := by omega
  obtain ⟨k1, hk1⟩ : ∃ k1 : Nat, e1 - e = (k1 : Int) := ⟨(e1 - e).toNat, by omega⟩
  obtain ⟨k2, hk2⟩ : ∃ k2 : Nat, e2 - e = (k2 : Int) := ⟨(e2 - e).toNat, by omega⟩
  have u1 : val A * 2 ^ k1 * 2 ^ (e - g).toNat = val A * 2 ^ (e1 - g).toNat := by
    have h := shift_units (n := val A) m1 m3
    rwa [hk1, Int.toNat_natCast] at h
  have u2 : val B * 2 ^ k2 * 2 ^ (e - g).toNat = val B * 2 ^ (e2 - g).toNat := by
    have h := shift_units (n := val B) m2 m3
    rwa [hk2, Int.toNat_natCast] at h
  have HO : Hid (ordN (val A * 2 ^ k1) (val B * 2 ^ k2) = ordN z1.natAbs z2.natAbs) := by
    show _ = _
    rw [a7, b7, sgn_abs, sgn_abs, ← u1, ← u2, ordN_mul (pow_pos2 _)]
  have l1 : k1 ≤ 40000 := by omega
  have l2 : k2 ≤ 40000 := by omega
  have he2 : -20000 ≤ e ∧ e ≤ 20000 := by omega
  obtain ⟨aa, la, ca, rfl⟩ := h1.shape
  obtain ⟨ab, lb, cb, rfl⟩ := h2.shape
  have kX : ∀ (V W : World) v, Below V.heap.size V W → Digs W v A → Calls Tryd.prog 49 #[v, .int .i64 (e1 - e)] W fun r w' => (∃ v', r = .returned v' ∧ Res w' v' (val A * 2 ^ k1)) ∧ Below V.heap.size V w' ∧ Below W.heap.size W w' := by
    intro V W v hb h
    rw [hk1]
    exact (rshl_c v A k1 W h (by omega) (by omega)).mono fun r w' ⟨q1, q2⟩ => ⟨q1, hb.trans (q2.mono hb.size), q2⟩
  have kY : ∀ (V W : World) v, Below V.heap.size V W → Digs W v B → Calls Tryd.prog 49 #[v, .int .i64 (e2 - e)] W fun r w' => (∃ v', r = .returned v' ∧ Res w' v' (val B * 2 ^ k2)) ∧ Below V.heap.size V w' ∧ Below W.heap.size W w' := by
    intro V W v hb h
    rw [hk2]
    exact (rshl_c v B k2 W h (by omega) (by omega)).mono fun r w' ⟨q1, q2⟩ => ⟨q1, hb.trans (q2.mono hb.size), q2⟩
  have kC : ∀ (V W : World) v v', Below V.heap.size V W → Res W v (val A * 2 ^ k1) → Res W v' (val B * 2 ^ k2) → Calls Tryd.prog 53 #[v, v'] W fun r w' => r = .returned (.int .i64 (ordN z1.natAbs z2.natAbs)) ∧ Below V.heap.size V w' := by
    rintro V W v v' hb ⟨C, c1, c2, c3⟩ ⟨D, d1, d2, d3⟩
    have h := rcmp_c v v' C D W c1 d1
    rw [c3, d3, HO.out] at h
    exact h.mono fun r w' ⟨q1, q2⟩ => ⟨q1, hb.trans (q2.mono hb.size)⟩
  generalize ordN z1.natAbs z2.natAbs = o at *
  have hw0 : IntKind.i64.wrap 0 = 0 := by decide
  have hw1 : IntKind.i64.wrap (e2 - e1) = e2 - e1 := by rw [IntKind.wrap_i64]; omega
  have hw2 : IntKind.i64.wrap (e1 - e2) = e1 - e2 := by rw [IntKind.wrap_i64]; omega
  have hc : (e1 ≤ e2 ∧ e1 = e) ∨ (¬ e1 ≤ e2 ∧ e2 = e) := by omega
  clear u1 u2 m1 m2 m3 he hk1 hk2 he2 HO a7 a8 b7 b8
  have S : S3 w (((w.alloc (dcells false (.slice aa la ca) e1)).alloc (dcells false (.slice ab lb cb) e2)).alloc (dcells false (.slice none 0 0) 0)) false (.slice aa la ca) e1 false (.slice ab lb cb) e2 := S3.new w _ _ _ _ _ _
  have hB : Below w.heap.size w ((w.alloc (dcells false (.slice aa la ca) e1)).alloc (dcells false (.slice ab lb cb) e2)) := ((Below.refl _ w).alloc (Nat.le_refl _) _).alloc (by simp) _
  have A0 : DBox ((w.alloc (dcells false (.slice aa la ca) e1)).alloc (dcells false (.slice ab lb cb) e2)) w.heap.size false (.slice aa la ca) e1 := (DBox.new w _ _ _).below ((Below.refl _ _).alloc (Nat.le_refl _) _) (by simp)
  have B0 : DBox ((w.alloc (dcells false (.slice aa la ca) e1)).alloc (dcells false (.slice ab lb cb) e2)) (w.heap.size + 1) false (.slice ab lb cb) e2 := by
    have h := DBox.new (w.alloc (dcells false (.slice aa la ca) e1)) false (.slice ab lb cb) e2
    rw [World.size_alloc] at h
    exact h
  clear S
  go_enter Tryd.func27, Tryd.ntmps27
  go_wp2_with fail
  refine (rdmay_c false _ e1 z1 g _ (h1.below hB (Nat.le_refl _))).mono ?_
  rintro r w1 ⟨rfl, hb⟩
  have A1 := A0.below hb A0.lt
  have B1 := B0.below hb B0.lt
  have E1 := hB.trans (hb.mono hB.size)
  have x0 := A1.c0
  have x1 := A1.c1
  have x2 := A1.c2
  have f0 := A1.fz 0
  have f1 := A1.fz 1
  have f2 := A1.fz 2
  have A2 := A1.put false (.slice aa la ca) e1
  have B2 := B1.putO (B := w.heap.size) (by omega) false (.slice aa la ca) e1
  have E2 := putD_below E1 (B := w.heap.size) (Nat.le_refl _) false (.slice aa la ca) e1
  unfold putD at A2 B2 E2
  clear hb A0 B0 A1 B1 E1 hB
  have y0 := B2.c0
  have y1 := B2.c1
  have y2 := B2.c2
  go_wp2_with fail
  clear x0 x1 x2 f0 f1 f2
  refine (rdmay_c false _ e2 z2 g _ (h2.below E2 (Nat.le_refl _))).mono ?_
  rintro r w2 ⟨rfl, hb⟩
  have A3 := A2.below hb A2.lt
  have B3 := B2.below hb B2.lt
  have E3 := E2.trans (hb.mono E2.size)
  clear hb y0 y1 y2 A2 B2 E2
  have x0 := B3.c0
  have x1 := B3.c1
  have x2 := B3.c2
  have f0 := B3.fz 0
  have f1 := B3.fz 1
  have f2 := B3.fz 2
  have A4 := A3.putO (B := w.heap.size + 1) (by omega) false (.slice ab lb cb) e2
  have B4 := B3.put false (.slice ab lb cb) e2
  have E4 := putD_below E3 (B := w.heap.size + 1) (by omega) false (.slice ab lb cb) e2
  unfold putD at A4 B4 E4
  clear A3 B3 E3
  have y0 := A4.c0
  have y1 := A4.c1
  have y2 := A4.c2
  have t0 := B4.c0
  have t1 := B4.c1
  have t2 := B4.c2
  rcases hc with ⟨hle, rfl⟩ | ⟨hle, rfl⟩
  all_goals
    try rw [Int.sub_self] at kX
    try rw [Int.sub_self] at kY
    go_wp2_with fail
    clear x0 x1 x2 f0 f1 f2 y0 y1 y2 t0 t1 t2
    generalize ((w2.setCell ⟨w.heap.size + 1, 0, none⟩ (.bool false)).setCell ⟨w.heap.size + 1, 1, none⟩ (.slice ab lb cb)).setCell ⟨w.heap.size + 1, 2, none⟩ (.int .i64 e2) = V at *
    have bD : Below V.heap.size V V.drew := (Below.refl _ _).drew
    have mk : ∀ w', Below V.heap.size V w' → (w'.cell? ⟨w.heap.size, 1, none⟩ = some (.slice aa la ca) ∧ w'.cell? ⟨w.heap.size, 2, none⟩ = some (.int .i64 e1) ∧ w'.cell? ⟨w.heap.size + 1, 1, none⟩ = some (.slice ab lb cb) ∧ w'.cell? ⟨w.heap.size + 1, 2, none⟩ = some (.int .i64 e2)) := fun w' hw => by
      have p := A4.below hw A4.lt
      have q := B4.below hw B4.lt
      exact ⟨p.c1, p.c2, q.c1, q.c2⟩
    have dA : ∀ w', Below V.heap.size V w' → Digs w' (.slice aa la ca) A := fun w' hw => (a1.below E4 (Nat.le_refl _)).below hw (Nat.le_refl _)
    have dB : ∀ w', Below V.heap.size V w' → Digs w' (.slice ab lb cb) B := fun w' hw => (b1.below E4 (Nat.le_refl _)).below hw (Nat.le_refl _)
    go_region_held3 (fun w' => w'.cell? ⟨w.heap.size, 1, none⟩ = some (.slice aa la ca) ∧ w'.cell? ⟨w.heap.size, 2, none⟩ = some (.int .i64 e1) ∧ w'.cell? ⟨w.heap.size + 1, 1, none⟩ = some (.slice ab lb cb) ∧ w'.cell? ⟨w.heap.size + 1, 2, none⟩ = some (.int .i64 e2)) (exact mk _ (by assumption))
      ((first
        | (go_at_call 49; with_reducible refine (kX V V.drew _ bD (dA _ bD)).mono ?_; rintro r wX ⟨⟨vX, rfl, rX⟩, hbX, hbX'⟩)
        | (go_at_call 49; with_reducible refine (kY V V.drew _ bD (dB _ bD)).mono ?_; rintro r wY ⟨⟨vY, rfl, rY⟩, hbY, hbY'⟩)
        | (go_at_call 49; with_reducible refine (kY V wX _ hbX (dB _ hbX)).mono ?_; rintro r wY ⟨⟨vY, rfl, rY⟩, hbY, hbY'⟩; have rX2 := rX.below hbY' (Nat.le_refl _))
        | (go_at_call 49; with_reducible refine (kX V wY _ hbY (dA _ hbY)).mono ?_; rintro r wX ⟨⟨vX, rfl, rX⟩, hbX, hbX'⟩; have rY2 := rY.below hbX' (Nat.le_refl _))
        | (go_at_call 53; with_reducible refine (kC V wY vX vY hbY rX2 rY).mono ?_; rintro r w6 ⟨rfl, hb6⟩)
        | (go_at_call 53; with_reducible refine (kC V wX vX vY hbX rX rY2).mono ?_; rintro r w6 ⟨rfl, hb6⟩)))
    all_goals
      have y0 := (A4.below hb6 A4.lt).c0
      go_wp2
      go_ret
      exact ⟨rfl, E4.trans (hb6.mono E4.size)⟩
end Go.Proofs.YtbkmpoeaindnaaaDoor.N

/- levellingref03.Sub, .Cmp (of two that are not below 0). -/
namespace Go.Proofs.YtbkmpoeaindnaaaDoor.N
open Go.RowKit Go.Shelf

set_option maxRecDepth 100000 in
set_option maxHeartbeats 8000000 in
theorem rdsub_c (n1 n2 : Bool) (v1 v2 : Value) (e1 e2 z1 z2 g : Int) (w : World) (h1 : Dy w n1 v1 e1 z1 g) (h2 : Dy w n2 v2 e2 z2 g) (hg0 : g ≤ 0) (hg : -20000 ≤ g) (hz1 : z1.natAbs < BIG) (hz2 : z2.natAbs < BIG) (hz : (z1 - z2).natAbs < BIG) :
    Calls Tryd.prog 29 #[dyv n1 v1 e1, dyv n2 v2 e2] w fun r w' => DyR r w' (z1 - z2) g ∧ Below w.heap.size w w' := by
  have U := S3.new w n1 v1 e1 n2 v2 e2
  obtain ⟨aa, la, ca, rfl⟩ := h1.shape
  obtain ⟨ab, lb, cb, rfl⟩ := h2.shape
  go_enter Tryd.func29, Tryd.ntmps29
  go_wp2_with fail
  generalize ((w.alloc (dcells n1 (.slice aa la ca) e1)).alloc (dcells n2 (.slice ab lb cb) e2)).alloc (dcells false (.slice none 0 0) 0) = V at *
  have bD : Below V.heap.size V V.drew := (Below.refl _ _).drew
  have UD := U.below bD
  have kN := rneg_c n2 _ e2 z2 g V.drew (h2.below UD.be (Nat.le_refl _)) hg0 hg hz2
  have kA : ∀ w' n v e, Below V.heap.size V w' → Dy w' n v e (-z2) g → Calls Tryd.prog 22 #[dyv n1 (.slice aa la ca) e1, dyv n v e] w' fun r w'' => DyR r w'' (z1 - z2) g ∧ Below V.heap.size V w'' := by
    intro w' n v e hb hd
    have hb2 := (U.below hb).be
    have h := rdadd_c n1 n _ v e1 e z1 (-z2) g w' (h1.below hb2 (Nat.le_refl _)) hd hg0 hg hz1 (by rw [Int.natAbs_neg]; exact hz2) (by rw [← Int.sub_eq_add_neg]; exact hz)
    rw [← Int.sub_eq_add_neg] at h
    exact h.mono fun r w'' ⟨k1, k2⟩ => ⟨k1, hb.trans (k2.mono hb.size)⟩
  have mk : ∀ w', Below V.heap.size V w' → (w'.cell? ⟨w.heap.size, 0, none⟩ = some (.bool n1) ∧ w'.cell? ⟨w.heap.size, 1, none⟩ = some (.slice aa la ca) ∧ w'.cell? ⟨w.heap.size, 2, none⟩ = some (.int .i64 e1) ∧ w'.cell? ⟨w.heap.size + 1, 0, none⟩ = some (.bool n2) ∧ w'.cell? ⟨w.heap.size + 1, 1, none⟩ = some (.slice ab lb cb) ∧ w'.cell? ⟨w.heap.size + 1, 2, none⟩ = some (.int .i64 e2)) := fun w' hw => by
    have p := U.below hw
    exact ⟨p.ba.c0, p.ba.c1, p.ba.c2, p.bb.c0, p.bb.c1, p.bb.c2⟩
  have mk2 : ∀ w' n v e, Below V.heap.size V w' → (fun w' : World => w'.cell? ⟨w.heap.size, 0, none⟩ = some (.bool n1) ∧ w'.cell? ⟨w.heap.size, 1, none⟩ = some (.slice aa la ca) ∧ w'.cell? ⟨w.heap.size, 2, none⟩ = some (.int .i64 e1) ∧ w'.cell? ⟨w.heap.size + 1, 0, none⟩ = some (.bool n2) ∧ w'.cell? ⟨w.heap.size + 1, 1, none⟩ = some (.slice ab lb cb) ∧ w'.cell? ⟨w.heap.size + 1, 2, none⟩ = some (.int .i64 e2)) (((w'.setCell ⟨w.heap.size + 1 + 1, 0, none⟩ (.bool n)).setCell ⟨w.heap.size + 1 + 1, 1, none⟩ v).setCell ⟨w.heap.size + 1 + 1, 2, none⟩ (.int .i64 e)) := fun w' n v e hw => by
    have p := U.below hw
    have pa := p.ba.putO (B := w.heap.size + 1 + 1) (by omega) n v e
    have pb := p.bb.putO (B := w.heap.size + 1 + 1) (by omega) n v e
    unfold putD at pa pb
    exact ⟨pa.c0, pa.c1, pa.c2, pb.c0, pb.c1, pb.c2⟩
  go_region_held3 (fun w' => w'.cell? ⟨w.heap.size, 0, none⟩ = some (.bool n1) ∧ w'.cell? ⟨w.heap.size, 1, none⟩ = some (.slice aa la ca) ∧ w'.cell? ⟨w.heap.size, 2, none⟩ = some (.int .i64 e1) ∧ w'.cell? ⟨w.heap.size + 1, 0, none⟩ = some (.bool n2) ∧ w'.cell? ⟨w.heap.size + 1, 1, none⟩ = some (.slice ab lb cb) ∧ w'.cell? ⟨w.heap.size + 1, 2, none⟩ = some (.int .i64 e2)) (first | exact mk _ (by assumption) | exact mk2 _ _ _ _ (by assumption))
    ((first | (go_at_call 54; refine kN.mono ?_; rintro r w4 ⟨⟨n4, v4, x4, rfl, hR4⟩, hb4⟩; have hb5 : Below V.heap.size V w4 := bD.trans hb4) | (go_at_call 22; refine (kA w4 n4 v4 x4 hb5 hR4).mono ?_; rintro r w6 ⟨⟨n6, v6, x6, rfl, hR6⟩, hb6⟩; obtain ⟨a6, l6, c6, rfl⟩ := hR6.shape; have p6 := (U.below hb6).br; have q0 := p6.c0; have q1 := p6.c1; have q2 := p6.c2; have t0 := p6.fz 0; have t1 := p6.fz 1; have t2 := p6.fz 2)))
  have p7 := p6.put n6 (.slice a6 l6 c6) x6
  have hR7 := hR6.keep p6 (fun _ hn => putD_blk w6 hn n6 (.slice a6 l6 c6) x6)
  have hB7 := putD_below (U.below hb6).be (B := w.heap.size + 1 + 1) (by omega) n6 (.slice a6 l6 c6) x6
  unfold putD at p7 hR7 hB7
  go_wp2_with fail
  exact bodyPost_ret_by (v := dyv n6 (.slice a6 l6 c6) x6) (dy_results rfl p7 rfl) rfl ⟨⟨n6, _, x6, rfl, hR7⟩, hB7⟩
end Go.Proofs.YtbkmpoeaindnaaaDoor.N
