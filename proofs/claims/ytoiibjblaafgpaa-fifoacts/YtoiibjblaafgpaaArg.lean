/-
  From what a statement tells of its slices to the words of the walks.
-/
import Derived.Test.YtoiibjblaafgpaaMem
import Derived.OpenShut
namespace Go.Proofs.Ytoiibjblaafgpaa
open Go.RowKit
set_option maxRecDepth 100000
set_option linter.unusedVariables false

/-- What is told of a slice of integers that came in. -/
def Came (k : IntKind) (w : World) (a : Option Addr) (len cap : Nat) (zs : List Int) : Prop :=
  (a = none ∧ len = 0 ∧ cap = 0 ∧ zs = []) ∨
  ∃ x, a = some x ∧ len ≤ cap ∧ cap ≤ maxLen ∧ zs.length = cap ∧ (∀ i, i < zs.length → w.cell? (x.add i) = some (.int k (zs.getD i 0))) ∧ ∀ n ∈ zs, (Lit.int k n).wf = true

theorem came_cells {k : IntKind} {w : World} {x : Addr} {zs : List Int} (h : ∀ i, i < zs.length → w.cell? (x.add i) = some (.int k (zs.getD i 0))) (hn : 0 < zs.length) :
    ∃ b off, x = ⟨b, off, none⟩ ∧ b < w.heap.size ∧ ∀ i, i < zs.length → w.cell? ⟨b, off + i, none⟩ = some (.int k (zs.getD i 0)) := by
  obtain ⟨b, off, spot⟩ := x
  have hc := h 0 hn
  have hspot : spot = none := by simpa [Addr.add] using World.cell?_spot hc
  subst hspot
  have e : ∀ i, (⟨b, off, none⟩ : Addr).add i = ⟨b, off + i, none⟩ := fun i => Addr.add_lit ..
  have hc0 := hc
  rw [e] at hc0
  exact ⟨b, off, rfl, World.block_lt_of_cell? w _ hc0, fun i hi => by rw [← e]; exact h i hi⟩

theorem came8 {w : World} {a : Option Addr} {len cap : Nat} {zs : List Int} (h : Came .u8 w a len cap zs) :
    ∃ bs : List Nat, Rd w w.heap.size a len (U8 bs) ∧ (∀ b ∈ bs, b < 256) ∧ len ≤ cap ∧ cap ≤ 9223372036854775807 ∧ (a = none → len = 0 ∧ cap = 0) := by
  rcases h with ⟨rfl, rfl, rfl, rfl⟩ | ⟨x, rfl, hl, hm, hz, hcell, hwz⟩
  · exact ⟨[], ⟨rfl, fun h => absurd h (by omega)⟩, by simp, by omega, by omega, fun _ => ⟨rfl, rfl⟩⟩
  · have hb : ∀ n ∈ zs, 0 ≤ n ∧ n ≤ 255 := fun n hn => bounds_u8 (hwz n hn)
    refine ⟨(zs.take len).map Int.toNat, ⟨by simp [U8]; omega, fun h0 => ?_⟩, ?_, hl, by unfold maxLen at hm; omega, by simp⟩
    · obtain ⟨b, off, rfl, hlt, hc⟩ := came_cells hcell (by omega)
      refine ⟨b, off, rfl, hlt, fun i u hu => ?_⟩
      have hi : i < len := by
        have := (List.getElem?_eq_some_iff.1 hu).1
        simp [U8] at this
        omega
      rw [hc i (by omega)]
      have hin : i < zs.length := by omega
      have := hb zs[i] (List.getElem_mem hin)
      have e : (U8 ((zs.take len).map Int.toNat))[i]? = some (.int .u8 (zs[i].toNat : Int)) := by simp [U8, hi, hin]
      rw [e] at hu
      injection hu with hu
      rw [← hu, Int.toNat_of_nonneg this.1]
      simp [List.getD, hin]
    · intro b hb'
      obtain ⟨z, hz', rfl⟩ := List.mem_map.1 hb'
      have := hb z (List.mem_of_mem_take hz')
      omega

theorem came64 {w : World} {a : Option Addr} {len cap : Nat} {zs : List Int} (h : Came .i64 w a len cap zs) :
    ∃ ys : List Int, Rd w w.heap.size a len (I64 ys) ∧ (∀ z ∈ ys, -9223372036854775808 ≤ z ∧ z ≤ 9223372036854775807) ∧ len ≤ cap ∧ cap ≤ 9223372036854775807 ∧ (a = none → len = 0 ∧ cap = 0) := by
  rcases h with ⟨rfl, rfl, rfl, rfl⟩ | ⟨x, rfl, hl, hm, hz, hcell, hwz⟩
  · exact ⟨[], ⟨rfl, fun h => absurd h (by omega)⟩, by simp, by omega, by omega, fun _ => ⟨rfl, rfl⟩⟩
  · refine ⟨zs.take len, ⟨by simp [I64]; omega, fun h0 => ?_⟩, ?_, hl, by unfold maxLen at hm; omega, by simp⟩
    · obtain ⟨b, off, rfl, hlt, hc⟩ := came_cells hcell (by omega)
      refine ⟨b, off, rfl, hlt, fun i u hu => ?_⟩
      have hi : i < len := by
        have := (List.getElem?_eq_some_iff.1 hu).1
        simp [I64] at this
        omega
      rw [hc i (by omega)]
      have hin : i < zs.length := by omega
      have e : (I64 (zs.take len))[i]? = some (.int .i64 zs[i]) := by simp [I64, hi, hin]
      rw [e] at hu
      injection hu with hu
      rw [← hu]
      simp [List.getD, hin]
    · intro z hz'
      exact bounds_i64 (hwz z (List.mem_of_mem_take hz'))
theorem wf_u8 {a : Int} (h : (Lit.int .u8 a).wf = true) : ∃ m : Nat, m < 256 ∧ a = (m : Int) := by
  simp [Lit.wf, IntKind.min, IntKind.max, IntKind.signed, IntKind.bits] at h
  exact ⟨a.toNat, by omega, by omega⟩
theorem wf_i64 {a : Int} (h : (Lit.int .i64 a).wf = true) : -9223372036854775808 ≤ a ∧ a ≤ 9223372036854775807 := by
  simp [Lit.wf, IntKind.min, IntKind.max, IntKind.signed, IntKind.bits] at h
  omega
end Go.Proofs.Ytoiibjblaafgpaa
