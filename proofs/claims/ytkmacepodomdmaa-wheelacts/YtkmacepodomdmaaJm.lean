/-
  Layer 19 (what is due at which tick): Drop, Now, Len; calls of no wheel.
-/
import Derived.Test.YtkmacepodomdmaaJl
namespace Go.Proofs.Ytkmacepodomdmaa
open Go.RowKit
set_option maxRecDepth 100000
set_option linter.unusedVariables false
set_option linter.unusedSimpArgs false
set_option maxRecDepth 100000

set_option maxHeartbeats 400000 in
theorem wNow (w : World) (P : Nat → Prop) (gW now : Nat) (L : List (Nat × Nat)) (h : WS w P gW now L) :
    Calls Try.prog 27 #[.pointer (some ⟨gW, 0, none⟩)] w fun e w' => e = .returned (.int .i64 (now : Int)) ∧ w = w' := by
  obtain ⟨m, q, hm⟩ := h.blk
  have c0 : w.cell? ⟨gW, 0, none⟩ = some (.int .i64 (now : Int)) := (q.cell 0).trans rfl
  clear q hm h
  go_enter Try.func27, Try.ntmps27
  go_wp2
  go_ret
  exact ⟨rfl, rfl⟩
set_option maxHeartbeats 400000 in
theorem wLen (w : World) (P : Nat → Prop) (gW now : Nat) (L : List (Nat × Nat)) (h : WS w P gW now L) :
    Calls Try.prog 28 #[.pointer (some ⟨gW, 0, none⟩)] w fun e w' => e = .returned (.int .i64 (L.length : Int)) ∧ w = w' := by
  obtain ⟨m, q, hm⟩ := h.blk
  have c1 : w.cell? ⟨gW, 1, none⟩ = some (.map m) := (q.cell 1).trans rfl
  clear q h
  rcases hm with ⟨rfl, rfl⟩ | ⟨gM, rfl, hPM, hne, hMp⟩
  · have hl := fun ty => Maps.len_nil (w := w) Try.underlying104 ty
    go_enter Try.func28, Try.ntmps28
    go_wp2
    go_ret
    exact ⟨rfl, rfl⟩
  · obtain ⟨D, hD, hown⟩ := hMp
    have e := hD.size
    obtain ⟨n, hn⟩ : ∃ n, L.length = n := ⟨_, rfl⟩
    rw [hn] at e hown ⊢
    have he := Lib.hid e
    clear hD e hn
    go_enter Try.func28, Try.ntmps28
    go_wp2_with (at_len; refine wpList_len_own _ rfl _ 104 rfl 30 3 Try.underlying104 _ gM n D rfl hown ?_)
    go_ret
    exact ⟨by first | rfl | (rw [he.out]; rfl), rfl⟩
set_option maxHeartbeats 1000000 in
theorem wDrop (w : World) (P : Nat → Prop) (gW now a : Nat) (L : List (Nat × Nat)) (h : WS w P gW now L) (ha : a < 65536) (r : Int) (hr : r = if inL L a = true then 0 else 9) :
    Calls Try.prog 25 #[.pointer (some ⟨gW, 0, none⟩), .int .u16 (a : Int)] w fun e w' =>
      e = .returned (.int .i64 r) ∧ Kr w w' P ∧ WS w' P gW now (dropL L a) := by
  have HR := Lib.hid hr
  clear hr
  have H := Lib.hid h
  obtain ⟨m, q, hm⟩ := h.blk
  have c1 : w.cell? ⟨gW, 1, none⟩ = some (.map m) := (q.cell 1).trans rfl
  have hkey : keyOf Try.prog 30 (.int .u16 (a : Int)) = some (ky a) := Maps.keyOf_int_mk Try.underlying30 (wf16 ha)
  have HQ := Lib.hid q
  clear h q
  rcases hm with ⟨rfl, rfl⟩ | ⟨gM, rfl, hPM, hne, hMp⟩
  · have hrun := Maps.look_nil (w := w) true kNum Try.underlying104 (zeroInt _) hkey
    go_enter Try.func25, Try.ntmps25
    go_wp2
    go_ret
    exact ⟨by rw [HR.out]; rfl, Kr.of_below (Below.refl _ _), H.out⟩
  · obtain ⟨D, hD, hown⟩ := hMp
    have HD := Lib.hid hD
    have HNE := Lib.hid hne
    have HPM := Lib.hid hPM
    obtain ⟨n, hn⟩ : ∃ n, L.length = n := ⟨_, rfl⟩
    rw [hn] at hown
    obtain ⟨b, hb⟩ : ∃ b, Maps.has D (ky a) = b := ⟨_, rfl⟩
    have HB : Hid (inL L a = b) := by show _ = _; rw [← hb]; exact (hD.has a).symm
    have hb' : Maps.has D (.int .u16 (a : Int)) = b := hb
    clear hD hne hPM hn
    cases b
    · go_enter Try.func25, Try.ntmps25
      go_wp2_with (first | (at_lookup; refine wpList_lookup_own_ok_int _ rfl _ _ 104 rfl 30 3 .i64 kNum Try.underlying104 Try.underlying3 (zeroInt _) gM n D rfl hown _ _ rfl hkey ?_; intro c hat hwc; rw [show Maps.has D (ky a) = _ from hb]) | go_in)
      go_ret
      refine ⟨by rw [HR.out, HB.out]; rfl, Kr.of_below (Below.refl _ _), ?_⟩
      rw [drop_none_of HB.out]; exact H.out
    · go_enter Try.func25, Try.ntmps25
      go_wp2_with (first | (at_lookup; refine wpList_lookup_own_ok_int _ rfl _ _ 104 rfl 30 3 .i64 kNum Try.underlying104 Try.underlying3 (zeroInt _) gM n D rfl hown _ _ rfl hkey ?_; intro c hat hwc; rw [show Maps.has D (ky a) = _ from hb]) | (at_delete; refine wpList_delete_own _ rfl _ _ 104 30 rfl 3 kNum Try.underlying104 _ gM n D rfl hown _ _ rfl hkey ?_; intro w1 hown1 hturn1) | go_in)
      go_ret
      have hg := hturn1.grown
      refine ⟨by rw [HR.out, HB.out]; rfl, ⟨hg.os, hg.tape, hg.output, hg.size, fun k hk hp => hg.block k hk (fun e => hp (by injection e with e; rw [e]; exact HPM.out))⟩, ⟨⟨some gM, HQ.out.grown hg (fun e => HNE.out (by injection e)), .inr ⟨gM, rfl, HPM.out, HNE.out, MpL.of (HD.out.drop a) hown1⟩⟩, H.out.mine, fun k hk => Nat.lt_of_lt_of_le (H.out.lt k hk) hg.size⟩⟩

set_option maxHeartbeats 400000 in
theorem wSetNo (w : World) (gW : Nat) (a inn : Int) (hin : ¬ (1 ≤ inn ∧ inn ≤ 1000)) :
    Calls Try.prog 24 #[.pointer (some ⟨gW, 0, none⟩), .int .u16 a, .int .i64 inn] w fun e w' => e = .returned (.int .i64 1) ∧ w = w' := by
  by_cases h : inn < 1
  · clear hin
    go_enter Try.func24, Try.ntmps24
    go_wp2
    go_ret
    exact ⟨rfl, rfl⟩
  · have h2 : inn > 1000 := by omega
    clear hin
    go_enter Try.func24, Try.ntmps24
    go_wp2
    go_ret
    exact ⟨rfl, rfl⟩
set_option maxHeartbeats 400000 in
theorem wSetNil (w : World) (a inn : Int) : Calls Try.prog 24 #[.pointer none, .int .u16 a, .int .i64 inn] w fun e w' => e = .returned (.int .i64 1) ∧ w = w' := by
  have hn := nilWheel
  go_enter Try.func24, Try.ntmps24
  go_wp2
  go_ret
  exact ⟨rfl, rfl⟩
set_option maxHeartbeats 400000 in
theorem wDropNil (w : World) (a : Int) : Calls Try.prog 25 #[.pointer none, .int .u16 a] w fun e w' => e = .returned (.int .i64 1) ∧ w = w' := by
  have hn := nilWheel
  go_enter Try.func25, Try.ntmps25
  go_wp2
  go_ret
  exact ⟨rfl, rfl⟩
set_option maxHeartbeats 400000 in
theorem wTickNil (w : World) : Calls Try.prog 26 #[.pointer none] w fun e w' => e = .returned (.slice none 0 0) ∧ w = w' := by
  have hn := nilWheel
  go_enter Try.func26, Try.ntmps26
  go_wp2
  go_ret
  exact ⟨rfl, rfl⟩
set_option maxHeartbeats 400000 in
theorem wNowNil (w : World) : Calls Try.prog 27 #[.pointer none] w fun e w' => e = .returned (.int .i64 0) ∧ w = w' := by
  have hn := nilWheel
  go_enter Try.func27, Try.ntmps27
  go_wp2
  go_ret
  exact ⟨rfl, rfl⟩
set_option maxHeartbeats 400000 in
theorem wLenNil (w : World) : Calls Try.prog 28 #[.pointer none] w fun e w' => e = .returned (.int .i64 0) ∧ w = w' := by
  have hn := nilWheel
  go_enter Try.func28, Try.ntmps28
  go_wp2
  go_ret
  exact ⟨rfl, rfl⟩
set_option maxHeartbeats 400000 in
theorem wNoneC (w : World) : Calls Try.prog 23 #[] w fun e w' => e = .returned (.pointer none) ∧ w = w' := by
  go_enter Try.func23, Try.ntmps23
  go_wp2
  go_ret
  exact ⟨rfl, rfl⟩
end Go.Proofs.Ytkmacepodomdmaa
