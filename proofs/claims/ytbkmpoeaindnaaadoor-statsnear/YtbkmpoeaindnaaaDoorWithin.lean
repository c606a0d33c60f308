/- levellingref04.Within at a square, one unit: the float is near to the dyad. -/
import Derived.Deep.RegionHeld3
import Derived.Test.YtbkmpoeaindnaaaDoorDyThree
import Derived.Test.YtbkmpoeaindnaaaDoorSMath
namespace Go.Proofs.YtbkmpoeaindnaaaDoor.N
open Go.RowKit Go.Shelf

set_option maxRecDepth 100000 in
set_option maxHeartbeats 16000000 in
theorem rwithin_c (x N u : Nat) (nd : Bool) (vd : Value) (ed : Int) (w : World) (hx : x < 9218868437227405312) (hd : Dy w nd vd ed (N : Int) (-2148)) (hN : N < 2 ^ u) (hu : u ≤ 4200) (hu2 : 3200 ≤ u)
    (hle : (((Rnd.uv x * Rnd.pw 1074 : Nat) : Int) - (N : Int)).natAbs * Rnd.pw 53 ≤ N * 1 * 1 + Rnd.pw 1126) :
    Calls Tryd.prog 30 #[fl x, dyv nd vd ed, .int .i64 1] w fun e w' => e = .returned (.bool true) ∧ Below w.heap.size w w' := by
  obtain ⟨ad, ld, kd, rfl⟩ := hd.shape
  have eK := bigK_eq
  have kx : ∀ W, Calls Tryd.prog 21 #[fl x] W fun r w' => DyT r w' ((Rnd.uv x : Nat) : Int) (-1074) ∧ Below W.heap.size W w' := fun W => by
    have h := rdfrom_c x (by omega) (by rw [Rnd.inf_eq]; omega) W
    rw [Rnd.sv_nat (by omega)] at h
    exact h
  have xl : Rnd.uv x < 2 ^ u := uv_small3 hx (by omega)
  generalize Rnd.uv x = s at *
  have b1 : N * 1 < 2 ^ u := by rw [Nat.mul_one]; exact hN
  have b2 : N * 1 * 1 < 2 ^ u := by rw [Nat.mul_one]; exact b1
  have b3 := add_lt_pow b2 (pw_lt (k := 1126) (n := u) (by omega))
  have b4 := mul_lt_pow xl (pw_lt (k := 1074) (n := 1075) (by decide))
  have b5 : (((s * Rnd.pw 1074 : Nat) : Int) - (N : Int)).natAbs * Rnd.pw 53 < BIG := Nat.lt_of_le_of_lt hle (lt_big b3 (by omega))
  have b6 : (((s * Rnd.pw 1074 : Nat) : Int) - (N : Int)).natAbs < BIG := Nat.lt_of_le_of_lt (Nat.le_mul_of_pos_right _ (pow_pos2 53)) b5
  have p53 : 2 ^ ((-53 : Int) - (-53)).toNat = 1 := by decide
  have p1075 := pow_pw (k := -1075) (g := -2201) (n := 1126) (by decide)
  have ka : ∀ W n v e, Dy W n v e (N : Int) (-2148) → Calls Tryd.prog 28 #[dyv n v e] W fun r w' => DyR r w' (N : Int) (-2148) ∧ Below W.heap.size W w' := fun W n v e h => by
    have k := rabs_c n v e _ (-2148) W h (by decide) (by decide) (by rw [Int.natAbs_natCast]; exact lt_big hN (by omega))
    rw [Int.natAbs_natCast] at k
    exact k
  have kt : ∀ W n v e, Dy W n v e (N : Int) (-2148) → Calls Tryd.prog 24 #[dyv n v e, .int .i64 1] W fun r w' => DyR r w' ((N * 1 : Nat) : Int) (-2148) ∧ Below W.heap.size W w' := fun W n v e h => by
    have k := rtimes_c n v e N (-2148) 1 W h (by decide) (by decide) (by decide) (by rw [Int.natAbs_natCast]; exact lt_big hN (by omega)) (by rw [← Int.natCast_mul, Int.natAbs_natCast]; exact lt_big b1 (by omega))
    rw [← Int.natCast_mul] at k
    exact k
  have kp : ∀ W, Calls Tryd.prog 25 #[.int .i64 (-53)] W fun r w' => DyR r w' ((1 : Nat) : Int) (-53) ∧ Below W.heap.size W w' := fun W => by
    have k := rpow4_c (-53) (-53) W (by decide) (by decide) (by decide) (by rw [p53]; exact one_big)
    rw [p53] at k
    exact k
  have kq : ∀ W, Calls Tryd.prog 25 #[.int .i64 (-1075)] W fun r w' => DyR r w' ((Rnd.pw 1126 : Nat) : Int) (-2201) ∧ Below W.heap.size W w' := fun W => by
    have k := rpow4_c (-1075) (-2201) W (by decide) (by decide) (by decide) (by rw [p1075]; exact pw_big (by decide))
    rw [p1075] at k
    exact k
  have km : ∀ W n v e n' v' e', Dy W n v e ((N * 1 : Nat) : Int) (-2148) → Dy W n' v' e' ((1 : Nat) : Int) (-53) → Calls Tryd.prog 23 #[dyv n v e, dyv n' v' e'] W fun r w' => DyR r w' ((N * 1 * 1 : Nat) : Int) (-2201) ∧ Below W.heap.size W w' := fun W n v e n' v' e' h h' => by
    have k := rdmul_c n n' v v' e e' _ _ (-2148) (-53) W h h' (by decide) (by decide) (by decide) (by rw [Int.natAbs_natCast]; exact lt_big b1 (by omega)) (by rw [Int.natAbs_natCast]; exact one_big) (by rw [← Int.natCast_mul, Int.natAbs_natCast]; exact lt_big b2 (by omega))
    rw [← Int.natCast_mul] at k
    exact k
  have kad : ∀ W n v e n' v' e', Dy W n v e ((N * 1 * 1 : Nat) : Int) (-2201) → Dy W n' v' e' ((Rnd.pw 1126 : Nat) : Int) (-2201) → Calls Tryd.prog 22 #[dyv n v e, dyv n' v' e'] W fun r w' => DyR r w' ((N * 1 * 1 + Rnd.pw 1126 : Nat) : Int) (-2201) ∧ Below W.heap.size W w' := fun W n v e n' v' e' h h' => by
    have k := rdadd_c n n' v v' e e' _ _ (-2201) W h h' (by decide) (by decide) (by rw [Int.natAbs_natCast]; exact lt_big b2 (by omega)) (by rw [Int.natAbs_natCast]; exact pw_big (by decide)) (by rw [← Int.natCast_add, Int.natAbs_natCast]; exact lt_big b3 (by omega))
    rw [← Int.natCast_add] at k
    exact k
  have ks : ∀ W n v e n' v' e', Dy W n v e (s : Int) (-1074) → Dy W n' v' e' (N : Int) (-2148) → Calls Tryd.prog 29 #[dyv n v e, dyv n' v' e'] W fun r w' => DyR r w' (((s * Rnd.pw 1074 : Nat) : Int) - (N : Int)) (-2148) ∧ Below W.heap.size W w' := fun W n v e n' v' e' h h' => by
    have h2 := h.unit (g' := -2148) (by decide)
    have e1 : 2 ^ ((-1074 : Int) - (-2148)).toNat = Rnd.pw 1074 := pow_pw (by decide)
    rw [e1, ← Int.natCast_mul] at h2
    exact rdsub_c n n' v v' e e' _ _ (-2148) W h2 h' (by decide) (by decide) (by rw [Int.natAbs_natCast]; exact lt_big b4 (by omega)) (by rw [Int.natAbs_natCast]; exact lt_big hN (by omega)) b6
  have kab : ∀ W n v e, Dy W n v e (((s * Rnd.pw 1074 : Nat) : Int) - (N : Int)) (-2148) → Calls Tryd.prog 28 #[dyv n v e] W fun r w' => DyR r w' (((((s * Rnd.pw 1074 : Nat) : Int) - (N : Int)).natAbs : Nat) : Int) (-2148) ∧ Below W.heap.size W w' := fun W n v e h => rabs_c n v e _ (-2148) W h (by decide) (by decide) b6
  have kc : ∀ W n v e n' v' e', Dy W n v e (((((s * Rnd.pw 1074 : Nat) : Int) - (N : Int)).natAbs : Nat) : Int) (-2148) → Dy W n' v' e' ((N * 1 * 1 + Rnd.pw 1126 : Nat) : Int) (-2201) → Calls Tryd.prog 27 #[dyv n v e, dyv n' v' e'] W fun r w' => (∃ o : Int, r = .returned (.int .i64 o) ∧ o ≤ 0) ∧ Below W.heap.size W w' := fun W n v e n' v' e' h h' => by
    have h2 := h.unit (g' := -2201) (by decide)
    have e1 : 2 ^ ((-2148 : Int) - (-2201)).toNat = Rnd.pw 53 := pow_pw (by decide)
    rw [e1, ← Int.natCast_mul] at h2
    refine (rdcmp_c n n' v v' e e' _ _ (-2201) W h2 h' (by decide) (by rw [Int.natAbs_natCast]; exact b5) (by rw [Int.natAbs_natCast]; exact lt_big b3 (by omega)) (by omega) (by omega)).mono ?_
    rintro r w' ⟨rfl, hb⟩
    rw [Int.natAbs_natCast, Int.natAbs_natCast]
    exact ⟨⟨_, rfl, ordN_le hle⟩, hb⟩
  generalize ((((s * Rnd.pw 1074 : Nat) : Int) - (N : Int)).natAbs : Nat) = q1 at *
  generalize ((s * Rnd.pw 1074 : Nat) : Int) - (N : Int) = q2 at *
  generalize N * 1 * 1 + Rnd.pw 1126 = q4 at *
  generalize N * 1 * 1 = q5 at *
  generalize N * 1 = q6 at *
  generalize Rnd.pw 1126 = q8 at *
  clear b1 b2 b3 b4 b5 b6 eK p53 p1075 xl hN hle hu hu2
  have B : Below w.heap.size w (w.alloc (dcells nd (.slice ad ld kd) ed)) := (Below.refl _ w).alloc (Nat.le_refl _) _
  have X0 := DX.new hd
  go_enter Tryd.func30, Tryd.ntmps30
  go_wp2_with fail
  refine (kx _).mono ?_
  rintro e w3 ⟨⟨n3, u3, e3, rfl, D3⟩, hb⟩
  obtain ⟨a3, l3, k3, rfl⟩ := D3.shape
  have bb := (Below.refl w3.heap.size w3).alloc (Nat.le_refl _) (dcells n3 (.slice a3 l3 k3) e3)
  replace B := (B.trans (hb.mono B.size)).trans (bb.mono (Nat.le_trans B.size hb.size))
  replace X0 := (X0.below hb).below bb
  have X3 := DX.new D3
  clear hb D3 bb
  have d0 := X0.x.c0
  have d1 := X0.x.c1
  have d2 := X0.x.c2
  go_wp2_with fail
  refine (ka _ _ _ _ X0.d).mono ?_
  rintro e w4 ⟨⟨n4, u4, e4, rfl, D4⟩, hb⟩
  replace B := B.trans (hb.mono B.size)
  replace X0 := X0.below hb
  replace X3 := X3.below hb
  clear hb d0 d1 d2
  go_wp2_with fail
  refine (kt _ _ _ _ D4).mono ?_
  rintro e w5 ⟨⟨n5, u5, e5, rfl, D5⟩, hb⟩
  replace B := B.trans (hb.mono B.size)
  replace X0 := X0.below hb
  replace X3 := X3.below hb
  clear hb D4
  go_wp2_with fail
  refine (kp _).mono ?_
  rintro e w6 ⟨⟨n6, u6, e6, rfl, D6⟩, hb⟩
  replace B := B.trans (hb.mono B.size)
  replace X0 := X0.below hb
  replace X3 := X3.below hb
  replace D5 := D5.below hb (Nat.le_refl _)
  clear hb
  go_wp2_with fail
  refine (km _ _ _ _ _ _ _ D5 D6).mono ?_
  rintro e w7 ⟨⟨n7, u7, e7, rfl, D7⟩, hb⟩
  replace B := B.trans (hb.mono B.size)
  replace X0 := X0.below hb
  replace X3 := X3.below hb
  clear hb D5 D6
  go_wp2_with fail
  refine (kq _).mono ?_
  rintro e w8 ⟨⟨n8, u8, e8, rfl, D8⟩, hb⟩
  replace B := B.trans (hb.mono B.size)
  replace X0 := X0.below hb
  replace X3 := X3.below hb
  replace D7 := D7.below hb (Nat.le_refl _)
  clear hb
  go_wp2_with fail
  refine (kad _ _ _ _ _ _ _ D7 D8).mono ?_
  rintro e w9 ⟨⟨n9, u9, e9, rfl, D9⟩, hb⟩
  obtain ⟨a9, l9, k9, rfl⟩ := D9.shape
  have bb := (Below.refl w9.heap.size w9).alloc (Nat.le_refl _) (dcells n9 (.slice a9 l9 k9) e9)
  replace B := (B.trans (hb.mono B.size)).trans (bb.mono (Nat.le_trans B.size hb.size))
  replace X0 := (X0.below hb).below bb
  replace X3 := (X3.below hb).below bb
  have X9 := DX.new D9
  clear hb D7 D8 D9 bb
  go_wp2_with fail
  generalize w3.heap.size = P3 at *
  generalize w9.heap.size = P9 at *
  generalize w9.alloc (dcells n9 (.slice a9 l9 k9) e9) = Z at *
  have bD : Below Z.heap.size Z Z.drew := (Below.refl _ _).drew
  have kM := ks Z.drew n3 _ e3 _ _ _ (X3.below bD).d (X0.below bD).d
  have kAb : ∀ w' n v e, Below Z.heap.size Z w' → Dy w' n v e q2 (-2148) → Calls Tryd.prog 28 #[dyv n v e] w' fun r w'' => DyR r w'' (q1 : Int) (-2148) ∧ Below Z.heap.size Z w'' := fun w' n v e hw hd =>
    (kab w' n v e hd).mono fun r w'' ⟨o1, o2⟩ => ⟨o1, hw.trans (o2.mono hw.size)⟩
  have kCm : ∀ w' n v e, Below Z.heap.size Z w' → Dy w' n v e (q1 : Int) (-2148) → Calls Tryd.prog 27 #[dyv n v e, dyv n9 (.slice a9 l9 k9) e9] w' fun r w'' => (∃ o : Int, r = .returned (.int .i64 o) ∧ o ≤ 0) ∧ Below Z.heap.size Z w'' := fun w' n v e hw hd =>
    (kc w' n v e _ _ _ hd (X9.below hw).d).mono fun r w'' ⟨o1, o2⟩ => ⟨o1, hw.trans (o2.mono hw.size)⟩
  have mk : ∀ w', Below Z.heap.size Z w' → (w'.cell? ⟨P3, 0, none⟩ = some (.bool n3) ∧ w'.cell? ⟨P3, 1, none⟩ = some (.slice a3 l3 k3) ∧ w'.cell? ⟨P3, 2, none⟩ = some (.int .i64 e3) ∧ w'.cell? ⟨w.heap.size, 0, none⟩ = some (.bool nd) ∧ w'.cell? ⟨w.heap.size, 1, none⟩ = some (.slice ad ld kd) ∧ w'.cell? ⟨w.heap.size, 2, none⟩ = some (.int .i64 ed) ∧ w'.cell? ⟨P9, 0, none⟩ = some (.bool n9) ∧ w'.cell? ⟨P9, 1, none⟩ = some (.slice a9 l9 k9) ∧ w'.cell? ⟨P9, 2, none⟩ = some (.int .i64 e9)) := fun w' hw => by
    have p := (X3.below hw).x
    have q := (X0.below hw).x
    have r := (X9.below hw).x
    exact ⟨p.c0, p.c1, p.c2, q.c0, q.c1, q.c2, r.c0, r.c1, r.c2⟩
  clear kx ka kt kp kq km kad ks kab kc
  go_region_held3 (fun w' => w'.cell? ⟨P3, 0, none⟩ = some (.bool n3) ∧ w'.cell? ⟨P3, 1, none⟩ = some (.slice a3 l3 k3) ∧ w'.cell? ⟨P3, 2, none⟩ = some (.int .i64 e3) ∧ w'.cell? ⟨w.heap.size, 0, none⟩ = some (.bool nd) ∧ w'.cell? ⟨w.heap.size, 1, none⟩ = some (.slice ad ld kd) ∧ w'.cell? ⟨w.heap.size, 2, none⟩ = some (.int .i64 ed) ∧ w'.cell? ⟨P9, 0, none⟩ = some (.bool n9) ∧ w'.cell? ⟨P9, 1, none⟩ = some (.slice a9 l9 k9) ∧ w'.cell? ⟨P9, 2, none⟩ = some (.int .i64 e9)) (exact mk _ (by assumption))
    ((first | (go_at_call 29; (with_reducible refine kM.mono ?_); rintro r wB ⟨⟨nB, vB, xB, rfl, hB⟩, hbB'⟩; have hbB : Below Z.heap.size Z wB := bD.trans hbB') | (go_at_call 28; (with_reducible refine (kAb wB nB vB xB hbB hB).mono ?_); rintro r wC ⟨⟨nC, vC, xC, rfl, hC⟩, hbC⟩) | (go_at_call 27; (with_reducible refine (kCm wC nC vC xC hbC hC).mono ?_); rintro r wD ⟨⟨o, rfl, ho⟩, hbD⟩)))
  all_goals
    go_wp2_with fail
    go_ret
    exact ⟨rfl, B.trans (hbD.mono B.size)⟩
end Go.Proofs.YtbkmpoeaindnaaaDoor.N
