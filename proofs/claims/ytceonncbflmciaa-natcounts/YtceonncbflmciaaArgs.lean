/- A law's arguments: slices of uint32 as digits; nat.Root at any number. -/
import Derived.Test.YtceonncbflmciaaLive
import Derived.ProofKit
import Derived.OpenShut
import Derived.ShutString
import Derived.ChangeOld
import Derived.Below
namespace Go.Proofs.Ytceonncbflmciaa
open Go.RowKit Go.Shelf

/-- What a walk is told of an argument: if it is not too long, it holds digits. -/
def Arg (W : World) (a : Option Addr) (len cap : Nat) : Prop := len ≤ 1000000 → ∃ ds, Digs W (.slice a len cap) ds ∧ ds.length = len

theorem arg_nil (W : World) : Arg W none 0 0 := fun _ => ⟨[], Digs.nil _, rfl⟩

theorem okWide_spot {P : Program} {w : World} {r : Reach} {base : Nat} {t e : TypeId} {x : Addr} {len cap : Nat} (ht : P.underlying t = some (.slice e)) (h : Value.okWide P w r base t (.slice (some x) len cap)) : x.spot = none := by
  simp only [Value.okWide, ht, Cell.okWide] at h
  simp_all [Cell.ok, World.has]

theorem arg_row {W : World} {x : Addr} {len cap : Nat} {zs : List Int} (hs : x.spot = none) (hl : len ≤ cap) (hz : zs.length = cap) (hc : ∀ i, i < zs.length → W.cell? (x.add i) = some (.int .u32 (zs.getD i 0))) (hw : ∀ n ∈ zs, (Lit.int .u32 n).wf = true) : Arg W (some x) len cap := by
  intro hm
  obtain ⟨b, off, spot⟩ := x
  simp only at hs
  subst hs
  have hr : ∀ n ∈ zs, 0 ≤ n ∧ n < 4294967296 := by
    intro n hn
    have := hw n hn
    simp only [Lit.wf, Bool.and_eq_true, decide_eq_true_eq, show IntKind.u32.min = 0 from rfl, show IntKind.u32.max = 4294967295 from rfl] at this
    omega
  have hlen : ((zs.take len).map Int.toNat).length = len := by simp; omega
  refine ⟨(zs.take len).map Int.toNat, ⟨?_, by omega, .inr ⟨b, off, cap, by rw [hlen], by omega, ?_⟩⟩, hlen⟩
  · intro d hd
    obtain ⟨n, hn, rfl⟩ := List.mem_map.1 hd
    have := hr n (List.mem_of_mem_take hn)
    omega
  · intro j hj
    rw [hlen] at hj
    have h1 := hc j (by omega)
    have h2 : ({ block := b, off := off, spot := none } : Addr).add j = ⟨b, off + j, none⟩ := by
      unfold Addr.add; split
      · next h => subst h; rfl
      · rfl
    rw [h2] at h1
    rw [h1]
    have h3 : j < zs.length := by omega
    have h4 := hr zs[j] (List.getElem_mem h3)
    simp [hj, h3]
    omega

theorem root_any (va : Value) (A : List Nat) (w : World) (hA : Digs w va A) (hla : A.length ≤ 50000) :
    Calls Try.prog 20 #[va] w fun e w' => (∃ v R, e = .returned v ∧ Num w' w.heap.size v R ∧ R * R ≤ val A ∧ val A < (R + 1) * (R + 1)) ∧ Below w.heap.size w w' := by
  rcases Nat.eq_zero_or_pos (val A) with h | h
  · refine (root_no va A w hA h).mono ?_
    rintro e w' ⟨rfl, hb⟩
    exact ⟨⟨_, 0, rfl, Num.nil _ _, by omega, by omega⟩, hb⟩
  · exact root_c va A w hA hla h
end Go.Proofs.Ytceonncbflmciaa
