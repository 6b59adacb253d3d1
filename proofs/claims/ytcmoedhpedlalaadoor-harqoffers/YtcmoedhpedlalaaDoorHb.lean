/-
  Layer 17: a Process as a block; begin, read.
-/
import Derived.Test.YtcmoedhpedlalaaDoorUb
import Derived.Test.YtcmoedhpedlalaaDoorNg
import Derived.Test.YtcmoedhpedlalaaDoorHa
namespace Go.Proofs.YtcmoedhpedlalaaDoor
open Go.RowKit
set_option maxRecDepth 100000
set_option linter.unusedVariables false
set_option linter.unusedSimpArgs false

/-- A Process's cells. -/
def PR (n came : Nat) (done : Bool) (B : Value) : Array Value := #[.int .i64 (n : Int), .int .i64 (came : Int), .bool done, B]
theorem infoPB : (Tryd.prog.info? 68).map (·.size) = some 1 := by kernel_rfl
theorem infoBo : (Tryd.prog.info? 4).map (·.size) = some 1 := by kernel_rfl
theorem Kp.upd {w w1 w2 : World} {g : Nat} {o : Option Nat} {t : TypeId} {cs : Array Value} (h : Kp w w1 g o) (h2 : Upd w1 w2 g t cs) : Kp w w2 g o :=
  ⟨h2.os.trans h.os, h2.tape.trans h.tape, h2.output.trans h.output, by rw [h2.size]; exact h.size, fun k hk h1 h3 => (h2.oth k h1).trans (h.block k hk h1 h3)⟩
theorem BufS.of_heap {w w' : World} {gB n : Nat} {row : List (Nat × List Nat)} {S : Value} (h : BufS w gB n row S) (h1 : w'.heap[gB]? = w.heap[gB]?) (h2 : ∀ k, S.ownBlock = some k → w'.heap[k]? = w.heap[k]?) : BufS w' gB n row S :=
  ⟨h1.trans h.blk, by
    rcases h.sums with h3 | ⟨gs, h3, h4, h5⟩
    · exact .inl h3
    · exact .inr ⟨gs, h3, h4, (h2 gs (by rw [h3]; rfl)).trans h5⟩⟩
set_option maxHeartbeats 400000 in
/-- (*Process).begin. -/
theorem beginH (gP n0 c0 n : Nat) (d : Bool) (B : Value) (w : World) (hb : Blk w gP 89 (PR n0 c0 d B)) (hn : n ≤ 64) :
    Calls Tryd.prog 52 #[.pointer (some ⟨gP, 0, none⟩), .int .i64 (n : Int)] w fun e w' => e = .returned (.tuple #[]) ∧ Blk w' gP 89 (PR n 0 d (.pointer (some ⟨w.heap.size, 0, none⟩))) ∧ BufS w' w.heap.size (8 * (n + 4)) [] (.slice none 0 0) ∧ Kp w w' gP none := by
  have C := Lib.hid (fun W => newC (8 * (n + 4)) W (by omega))
  rw [show ((8 * (n + 4) : Nat) : Int) = 8 * ((n : Int) + 4) by omega] at C
  have lP := hb.lt
  have HK : Hid (Kp w w gP none) := Kp.of_below (Below.refl _ _)
  go_enter Tryd.func52, Tryd.ntmps52
  go_upto_region 1 with (refine at_cell rfl 3 _ _ rfl gP 0 (.int .i64 (n : Int)) rfl rfl 89 (PR n0 c0 d B) hb (show 0 < 4 by omega) info3one rfl ?_; intro w1 h1)
  have q1 : Blk w1 gP 89 (PR n c0 d B) := h1.row
  have HK1 := Lib.hid (HK.out.upd h1)
  have hs1 := Lib.hid h1.size
  clear h1 hb HK
  go_upto_region 2 with (refine at_cell rfl 3 _ _ rfl gP 1 (.int .i64 0) rfl rfl 89 (PR n c0 d B) q1 (show 1 < 4 by omega) info3one rfl ?_; intro w2 h2)
  have q2 : Blk w2 gP 89 (PR n 0 d B) := h2.row
  have HK2 := Lib.hid (HK1.out.upd h2)
  have hs2 : Hid (w2.heap.size = w.heap.size) := h2.size.trans hs1.out
  clear h2 q1 HK1 hs1
  go_wp2_with (first
    | (go_at_call 44; refine (C.out w2).mono ?_; rintro e w3 ⟨rfl, B3, b3, s3⟩; have q3 := q2.after b3)
    | (refine at_cell rfl 68 _ _ rfl gP 3 (.pointer (some ⟨w2.heap.size, 0, none⟩)) rfl rfl 89 (PR n 0 d B) q3 (show 3 < 4 by omega) infoPB rfl ?_; intro w4 h4))
  refine bodyPost_end (v := .tuple #[]) (results_none rfl _ _ _) rfl ?_
  have q4 : Blk w4 gP 89 (PR n 0 d (.pointer (some ⟨w2.heap.size, 0, none⟩))) := h4.row
  have hne : w2.heap.size ≠ gP := by have := hs2.out; omega
  have B4 : BufS w4 w2.heap.size (8 * (n + 4)) [] (.slice none 0 0) := B3.of_heap (h4.oth _ hne) (fun k hk => by cases hk)
  rw [hs2.out] at q4 B4
  exact ⟨rfl, q4, B4, (HK2.out.trans (Kp.of_below b3) (.inl rfl)).upd h4⟩
open Classical in
/-- The message of which a version alone tells. -/
noncomputable def alo (p : List Nat) (v N : Nat) : Option (List Nat) := if (∀ j, N ≤ j → j < (Cv.al p v (N + 6)).length → (Cv.al p v (N + 6)).getD j 0 = 0) then opn ((Cv.al p v (N + 6)).take N) else none
/-- What is read of all that came, or else of the last version alone. -/
noncomputable def rdx (N : Nat) (row : List (Nat × List Nat)) (v : Nat) (p : List Nat) : Option (List Nat) := match opn (Cv.rb (Cv.softs (N + 6) row) N 0 0) with
  | some m => some m
  | none => alo p v N
set_option maxHeartbeats 1000000 in
/-- (*Process).read. -/
theorem readH (gP gB n N came v T c b off : Nat) (d : Bool) (row : List (Nat × List Nat)) (p : List Nat) (S : Value) (w : World) (hP : Blk w gP 89 (PR n came d (.pointer (some ⟨gB, 0, none⟩)))) (hB : BufS w gB N row S) (hN : N ≤ 4000) (hrl : row.length ≤ 31) (hv : v < 4) (hT : T = N + 6) (hr : Rd w w.heap.size (some ⟨b, off, none⟩) T (U8 p)) (hp : ∀ x ∈ p, x ≤ 1) (hTp : Taps w) :
    Calls Tryd.prog 53 #[.pointer (some ⟨gP, 0, none⟩), .int .i64 (v : Int), .slice (some ⟨b, off, none⟩) T c] w (ReadO w (rdx N row v p)) := by
  have CD := Lib.hid (bdecode gB N row S w hB (by omega) hrl hTp)
  have k3 : w.cell? ⟨gP, 3, none⟩ = some (.pointer (some ⟨gB, 0, none⟩)) := hP.cell 3
  have HB1 := Lib.hid (Cv.rb_bit (Cv.softs (N + 6) row) N 0 0)
  have HB2 : Hid (∀ x ∈ (Cv.al p v (N + 6)).take N, x ≤ 1) := fun x hx => Cv.al_bit p hp v (N + 6) x (List.mem_of_mem_take hx)
  have HX : Hid (rdx N row v p = match opn (Cv.rb (Cv.softs (N + 6) row) N 0 0) with | some m => some m | none => alo p v N) := rfl
  have HL1 := Lib.hid (Cv.rb_length (Cv.softs (N + 6) row) N 0 0)
  have CA := Lib.hid (fun (W : World) (hW : Below w.heap.size w W) => vAlone (some ⟨b, off, none⟩) T c v p W ((hr.below hW).up hW.size) hp (by omega) (by omega) hv (hTp.after hW))
  rw [hT, Nat.add_sub_cancel] at CA
  have HA1 : Hid ((∀ j, N ≤ j → j < (Cv.al p v (N + 6)).length → (Cv.al p v (N + 6)).getD j 0 = 0) → alo p v N = opn ((Cv.al p v (N + 6)).take N)) := fun h => if_pos h
  have HA2 : Hid ((∃ j, N ≤ j ∧ j < (Cv.al p v (N + 6)).length ∧ (Cv.al p v (N + 6)).getD j 0 ≠ 0) → alo p v N = none) := fun ⟨j, h1, h2, h3⟩ => if_neg fun h => h3 (h j h1 h2)
  generalize Cv.rb (Cv.softs (N + 6) row) N 0 0 = l at *
  generalize Cv.al p v (N + 6) = la at *
  generalize alo p v N = r2 at *
  generalize rdx N row v p = r at *
  rw [← hT] at CA
  have CO := Lib.hid (fun (A : Option Addr) (n c : Nat) (w : World) (hr : Rd w w.heap.size A n (U8 l)) (hn : n ≤ 65536) => openH A n c l w hr HB1.out hn)
  have CO2 := Lib.hid (fun (A : Option Addr) (n c : Nat) (w : World) (hr : Rd w w.heap.size A n (U8 (la.take N))) (hn : n ≤ 65536) => openH A n c (la.take N) w hr HB2.out hn)
  clear hP hB hr hp hTp HB1 HB2 hT
  go_enter Tryd.func53, Tryd.ntmps53
  go_upto_region 2 with (go_at_call 38; refine CD.out.mono ?_; rintro e w1 ⟨A1, n1, c1, rfl, own1, b1⟩)
  have hn1 : n1 ≤ 65536 := by have := own1.rd.len8; have := HL1.out; omega
  have K1 := Lib.hid (CO.out A1 n1 c1 w1 own1.rd hn1)
  go_upto_region 3 with (go_at_call 87; refine K1.out.mono ?_; rintro e w2 ⟨ho, b2⟩; rcases ho with ⟨m, ho1, A2, n2, c2, rfl, own2⟩ | ⟨ho1, rfl⟩)
  · have HX2 := HX.out
    rw [ho1] at HX2
    have HX3 := Lib.hid HX2
    clear HX2 ho1
    go_wp2
    go_ret2
    exact ⟨.inl ⟨m, HX3.out, A2, n2, c2, rfl, own2.down b1.size⟩, Below.then_ b1 b2⟩
  · have HX2 := HX.out
    rw [ho1] at HX2
    have HX3 : Hid (r = r2) := HX2
    have bw2 := Below.then_ b1 b2
    have K2 := Lib.hid (CA.out w2 bw2)
    clear HX2 ho1
    go_upto_region 6 with (go_at_call 88; refine K2.out.mono ?_; rintro e w3 ⟨ha, b3⟩; rcases ha with ⟨ha1, g, rfl, rd3⟩ | ⟨ha1, rfl⟩)
    · have HE : Hid (r = opn (la.take N)) := HX3.out.trans (HA1.out ha1)
      have K3 := Lib.hid (CO2.out (some ⟨g, 0, none⟩) N N w3 rd3 (by omega))
      have bw3 := Below.then_ bw2 b3
      clear ha1
      go_wp2_with (go_at_call 87; refine K3.out.mono ?_; intro e w4 ho4; rw [← HE.out] at ho4; have ho5 := Lib.hid (ho4.then_ bw3); obtain ⟨ho, b4⟩ := ho4; clear b4; rcases ho with ⟨m, ho1, A2, n2, c2, rfl, own2⟩ | ⟨ho1, rfl⟩)
      · go_ret2
        exact ho5.out
      · go_ret2
        exact ho5.out
    · have HE : Hid (r = none) := HX3.out.trans (HA2.out ha1)
      clear ha1
      go_wp2
      go_ret2
      exact ⟨.inr ⟨HE.out, rfl⟩, Below.then_ bw2 b3⟩
end Go.Proofs.YtcmoedhpedlalaaDoor
