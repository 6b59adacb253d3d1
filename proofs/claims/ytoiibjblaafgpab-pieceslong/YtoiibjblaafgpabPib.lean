/-
  Layer 34: piece, Split, either way; a text of so many bytes.
-/
import Derived.Test.YtoiibjblaafgpabPia
namespace Go.Proofs.Ytoiibjblaafgpab
open Go.RowKit
set_option linter.unusedVariables false
set_option linter.unusedSimpArgs false
set_option maxRecDepth 100000

theorem or64 : ∀ x, x < 64 → x ||| 64 = x + 64 := by decide
theorem or128 : ∀ x, x < 128 → x ||| 128 = x + 128 := by decide +kernel
theorem infoSl8 : (Try.prog.info? 22).map (fun i => (i.zero, i.size, i.bytes)) = some (some (.slice none 0 0), 1, 24) := by kernel_rfl
/-- A new slice of bytes. -/
def New8 (w : World) (bs : List Nat) (e : Ending) (w' : World) : Prop := ∃ A c, e = .returned (.slice A bs.length c) ∧ Own w' w.heap.size 5 A bs.length c (U8 bs) ∧ Below w.heap.size w w'
set_option maxHeartbeats 1000000 in
theorem pieceC (i l : Nat) (A : Option Addr) (n c : Nat) (ps : List Nat) (w : World) (hr : Rd w w.heap.size A n (U8 ps)) (hnone : A = none → n = 0 ∧ c = 0) (hl : l = 0 ∨ l = 64) (hn : n ≤ 64) :
    Calls Try.prog 20 #[.int .i64 (i : Int), .slice A n c, .int .u8 (l : Int)] w (New8 w (hd i l :: ps)) := by
  obtain ⟨i0, hi0, hz0, hz1, hz2⟩ := info_parts info5
  have HLN := Lib.hid hr.len8
  have t1 : ((i : Int).tmod 64) = ((i % 64 : Nat) : Int) := by simp [Int.tmod]
  have t1' : ((i : Int) % 64) = ((i % 64 : Nat) : Int) := by simp
  have hm : i % 64 < 64 := Nat.mod_lt _ (by omega)
  have HD : Hid (hd i l = i % 64 + l + (if i = 0 then 128 else 0)) := rfl
  obtain ⟨m, hmm⟩ : ∃ m, m = i % 64 := ⟨_, rfl⟩
  rw [← hmm] at t1 t1' hm HD
  have o1 : bits BinOp.or IntKind.u8 (m : Int) (l : Int) = ((m + l : Nat) : Int) := by
    rcases hl with rfl | rfl
    · have := u8_or_nat m 0 (by omega) (by omega)
      simpa using this
    · have := u8_or_nat m 64 (by omega) (by omega)
      rw [or64 m hm] at this
      simpa using this
  have wm : IntKind.u8.wrap (m : Int) = (m : Int) := IntWalk.u8_in _ (by omega)
  have fin : ∀ (h : Nat) (w1 : World), h < 256 → h = hd i l → Own (w1.alloc (.cells #[.int .u8 (h : Int)] 5)) w1.heap.size 5 (some ⟨w1.heap.size, 0, none⟩) 1 1 [.int .u8 (h : Int)] := fun h w1 _ _ => ⟨⟨by simp, .inr ⟨w1.heap.size, 1, _, rfl, Nat.le_refl _, heap_alloc_new w1 _, Nat.le_refl _, by unfold maxLen; omega, by simp, by simp⟩⟩⟩
  by_cases h0 : i = 0
  · have d0 : ((i : Int) == 0) = true := by simp [h0]
    have hm0 : m = 0 := by rw [hmm, h0]
    have o2 : bits BinOp.or IntKind.u8 ((m + l : Nat) : Int) 128 = ((m + l + 128 : Nat) : Int) := by
      have h1 : m + l < 128 := by rcases hl with rfl | rfl <;> omega
      have := u8_or_nat (m + l) 128 (by omega) (by omega)
      rw [or128 _ h1] at this
      simpa using this
    rw [if_pos h0] at HD
    have hlt : m + l + 128 < 256 := by rcases hl with rfl | rfl <;> omega
    obtain ⟨h, hh⟩ : ∃ h, h = m + l + 128 := ⟨_, rfl⟩
    rw [← hh] at o2 hlt HD
    have HF := Lib.hid (fin h w hlt HD.out.symm)
    have HE : Hid (Value.int .u8 (h : Int) :: U8 ps = U8 (hd i l :: ps)) := by unfold Hid; rw [HD.out]; rfl
    obtain ⟨k, hk⟩ : ∃ k, k = m + l := ⟨_, rfl⟩
    rw [← hk] at o1 o2
    clear h0 hmm hm0 hh hk fin HD
    have bel0 : Below w.heap.size w (w.alloc (.cells #[.int .u8 (h : Int)] 5)) := (Below.refl _ _).alloc (Nat.le_refl _) _
    go_enter Try.func20, Try.ntmps20
    go_wp2_with (at_builtin; refine wpList_app _ rfl _ _ 22 rfl w.heap.size 5 i0 _ 1 Try.underlying22 hi0 hz0 hz1 hz2 rfl _ 1 1 [.int .u8 (h : Int)] rfl HF.out w.heap.size A n c (U8 ps) rfl (hr.below bel0) hnone (U8_one ps) (by omega) (by unfold maxLen; omega) bel0.size ?_; intro A5 c5 w5 hown5 hgrow5)
    go_ret
    refine ⟨A5, c5, ?_, hown5.to (by have := HLN.out; simp; omega) HE.out, bel0.grown hgrow5 bel0.size (fun j hj => by simp [Value.ownBlock] at hj; omega)⟩
    rw [show (hd i l :: ps).length = 1 + n by have := HLN.out; simp; omega]
    rfl
  · have d0 : ((i : Int) == 0) = false := by simp [h0]
    rw [if_neg h0, Nat.add_zero] at HD
    have hlt : m + l < 256 := by rcases hl with rfl | rfl <;> omega
    obtain ⟨h, hh⟩ : ∃ h, h = m + l := ⟨_, rfl⟩
    rw [← hh] at o1 hlt HD
    have HF := Lib.hid (fin h w hlt HD.out.symm)
    have HE : Hid (Value.int .u8 (h : Int) :: U8 ps = U8 (hd i l :: ps)) := by unfold Hid; rw [HD.out]; rfl
    clear h0 hmm hh fin HD
    have bel0 : Below w.heap.size w (w.alloc (.cells #[.int .u8 (h : Int)] 5)) := (Below.refl _ _).alloc (Nat.le_refl _) _
    go_enter Try.func20, Try.ntmps20
    go_wp2_with (at_builtin; refine wpList_app _ rfl _ _ 22 rfl w.heap.size 5 i0 _ 1 Try.underlying22 hi0 hz0 hz1 hz2 rfl _ 1 1 [.int .u8 (h : Int)] rfl HF.out w.heap.size A n c (U8 ps) rfl (hr.below bel0) hnone (U8_one ps) (by omega) (by unfold maxLen; omega) bel0.size ?_; intro A5 c5 w5 hown5 hgrow5)
    go_ret
    refine ⟨A5, c5, ?_, hown5.to (by have := HLN.out; simp; omega) HE.out, bel0.grown hgrow5 bel0.size (fun j hj => by simp [Value.ownBlock] at hj; omega)⟩
    rw [show (hd i l :: ps).length = 1 + n by have := HLN.out; simp; omega]
    rfl
theorem Rd.from8_ {w : World} {B : Nat} {b off n : Nat} {bs : List Nat} (h : Rd w B (some ⟨b, off, none⟩) n (U8 bs)) (m : Nat) (hm : m ≤ n) (hn : 0 < n) : Rd w B (some ⟨b, off + m, none⟩) (n - m) (U8 (bs.drop m)) := by
  obtain ⟨b', off', e, hlt, hc⟩ := h.at_ hn
  injection e with e
  injection e with e1 e2
  subst e1 e2
  refine ⟨by rw [U8_length, List.length_drop, ← h.len8], fun _ => ⟨b, off + m, rfl, hlt, fun i u hu => ?_⟩⟩
  rw [Nat.add_assoc]
  refine hc (m + i) u ?_
  rw [← hu]
  simp [U8]
/-- What Split gives: its blocks are all new. -/
def SplitOk (w : World) (bs : List Nat) (A : Option Addr) (c : Nat) (w' : World) : Prop := Mrow w' 22 (fun k => w.heap.size ≤ k ∧ k < w'.heap.size) A (lst bs.length + 1) c (msgs bs) ∧ Below w.heap.size w w'
/-- One message more, behind a call that made it. -/
theorem mrow_push {w wr w1 w3 : World} {A1 A2 A3 : Option Addr} {i c1 c2 c3 : Nat} {ms : List (List Nat)} {hs : List Value} {bs : List Nat} (h1 : Mrow wr 22 (fun k => w.heap.size ≤ k ∧ k < wr.heap.size) A1 i c1 ms) (hle : w.heap.size ≤ wr.heap.size)
    (hhs : Own wr 0 22 A1 i c1 hs) (hms : ∀ j, j < i → Msg wr (fun k => w.heap.size ≤ k ∧ k < wr.heap.size) (hs.getD j undef) (ms.getD j [])) (b1 : Below wr.heap.size wr w1)
    (o2 : Own w1 wr.heap.size 5 A2 bs.length c2 (U8 bs)) (o3 : Own w3 0 22 A3 (i + 1) c3 (hs ++ [.slice A2 bs.length c2])) (g3 : w1.grownBy w3 (Value.slice A1 i c1).ownBlock) (l3 : blk A3 = blk A1 ∨ ∃ k, blk A3 = some k ∧ w1.heap.size ≤ k) :
    Mrow w3 22 (fun k => w.heap.size ≤ k ∧ k < w3.heap.size) A3 (i + 1) c3 (ms ++ [bs]) := by
  rw [blk_own] at g3
  have hs1 := b1.size
  have hs3 := g3.size
  have h13 : ∀ k, k < wr.heap.size → blk A1 ≠ some k → w3.heap[k]? = wr.heap[k]? := fun k hk hne => (g3.block k (by omega) (fun e => hne e.symm)).trans (b1.block k hk)
  have hn2 : ∀ k, blk A2 = some k → blk A1 ≠ some k := fun k hk e => by
    have := (o2.blkLt k hk).1
    have := (hhs.blkLt k e).2
    omega
  refine Mrow.snoc h1.len o3 (fun j hj => ?_) ⟨⟨A2, c2, rfl, ?_, fun k hk => ?_⟩⟩ (fun k hk => ?_)
  · obtain ⟨B, d, e, ob, hR⟩ := (hms j hj).at_
    refine ⟨⟨B, d, e, ob.heap (fun k hk => ?_), fun k hk => ?_⟩⟩
    · refine h13 k (ob.blkLt k hk).2 (ob.ne_ty hhs (by decide) k hk)
    · have := hR k hk; omega
  · refine (o2.down (Nat.zero_le _)).heap (fun k hk => ?_)
    exact g3.block k (o2.blkLt k hk).2 (fun e => hn2 k hk e.symm)
  · have := o2.blkLt k hk; omega
  · have := (o3.blkLt k hk).2
    rcases l3 with e | ⟨j, e, hj⟩
    · rw [e] at hk
      have := h1.blks k hk
      omega
    · rw [e] at hk
      injection hk with hk
      omega
/-- A slice's length. -/
def lenOf : Value → Nat
  | .slice _ n _ => n
  | _ => 0
set_option maxHeartbeats 2000000 in
/-- pieces.Split. -/
theorem pSplit (A : Option Addr) (n c : Nat) (bs : List Nat) (w : World) (hr : Rd w w.heap.size A n (U8 bs)) (hnone : A = none → n = 0 ∧ c = 0) (hnc : n ≤ c) (hc : c ≤ 9223372036854775807) (hn : n ≤ 65536) :
    Calls Try.prog 9 #[.slice A n c] w fun e w' => ∃ A' c', e = .returned (.tuple #[.slice A' (lst bs.length + 1) c', .int .i64 0]) ∧ SplitOk w bs A' c' w' := by
  obtain ⟨j0, hj0, hy0, hy1, hy2⟩ := info_parts infoSl8
  have HN := Lib.hid hr.len8
  have d0 : decide ((n : Int) > 65536) = false := by simp; omega
  have d0' : decide ((65536 : Int) < (n : Int)) = false := by simp; omega
  have hsl : ∀ (A : Option Addr) (n c : Nat), (Value.slice A n c).oneCell' = true := fun _ _ _ => rfl
  have HSL := Lib.hid hsl
  clear hsl
  go_enter Try.func9, Try.ntmps9
  go_wp2
  go_loopw [4, 5] (fun s4 s5 wr => ∃ (i : Nat) (A1 : Option Addr) (c1 : Nat) (A5 : Option Addr) (n5 c5 : Nat), s4 = .slice A1 i c1 ∧ s5 = .slice A5 n5 c5 ∧ Hid (n5 + 63 * i = n) ∧ (A5 = none → n5 = 0 ∧ c5 = 0) ∧ n5 ≤ c5 ∧ c5 ≤ c ∧ i ≤ 2000 ∧ Hid (i = 0 ∨ 63 * i < n) ∧
    Rd w w.heap.size A5 n5 (U8 (bs.drop (63 * i))) ∧ Mrow wr 22 (fun k => w.heap.size ≤ k ∧ k < wr.heap.size) A1 i c1 (msk bs i) ∧ Below w.heap.size w wr) (fun _ s5 _ => lenOf s5)
  case atStart => exact ⟨0, none, 0, A, n, c, rfl, rfl, by unfold Hid; omega, hnone, hnc, Nat.le_refl _, by omega, .inl rfl, hr, Mrow.nil _ _ _, Below.refl _ _⟩
  case round =>
    obtain ⟨i, A1, c1, A5, n5, c5, rfl, rfl, HI, hno5, h5c, hc5, hi2, HL, r5w, m1, bw⟩ := hrel
    have r5 := (r5w.below bw).up bw.size
    obtain ⟨hs, oh, hl, hm⟩ := m1.at_
    have HM := Lib.hid hm
    have hsz := bw.size
    by_cases hlt : 63 < n5
    · have d1 : decide ((n5 : Int) > 63) = true := by simp; omega
      have d1' : decide ((63 : Int) < (n5 : Int)) = true := by simp; omega
      have hA5 : ∃ b off, A5 = some ⟨b, off, none⟩ := by obtain ⟨b, off, e, _⟩ := r5.at_ (by omega); exact ⟨b, off, e⟩
      obtain ⟨b, off, rfl⟩ := hA5
      have hi3 : i + 1 ≤ 2000 := by have := HI.out; omega
      have HE : Hid (hd i 0 :: (bs.drop (63 * i)).take 63 = mg bs i) := (mg_mid bs i (lst_lt.2 (by rw [← HN.out]; have := HI.out; omega))).symm
      have hpl : ((bs.drop (63 * i)).take 63).length = 63 := by
        rw [List.length_take, ← r5.len8]; omega
      have CP := pieceC i 0 (some ⟨b, off, none⟩) 63 c5 ((bs.drop (63 * i)).take 63) wr (r5.cut8 63 (by omega)) (fun e => by cases e) (.inl rfl) (by omega)
      rw [HE.out] at CP
      have HML : Hid ((mg bs i).length = 64) := by unfold Hid; rw [← HE.out, List.length_cons, hpl]
      have HCP := Lib.hid CP
      have HR := Lib.hid (r5w.from8_ 63 (by omega) (by omega))
      rw [List.drop_drop] at HR
      have HI1 : Hid (n5 - 63 + 63 * (i + 1) = n) := by have := HI.out; unfold Hid; omega
      have HL1 : Hid (i + 1 = 0 ∨ 63 * (i + 1) < n) := by have := HI.out; unfold Hid; omega
      have H63 : Hid (63 * i + 63 = 63 * (i + 1)) := by unfold Hid; omega
      obtain ⟨n6, hn6⟩ : ∃ n6, n6 = n5 - 63 := ⟨_, rfl⟩
      obtain ⟨c6, hc6⟩ : ∃ c6, c6 = c5 - 63 := ⟨_, rfl⟩
      have en6 : n5 - 63 = n6 := hn6.symm
      have ec6 : c5 - 63 = c6 := hc6.symm
      have h5c6 : n6 ≤ c6 := by omega
      have hc6c : c6 ≤ c := by omega
      have hn65 : n6 < n5 := by omega
      have HO := Lib.hid oh
      have HMr := Lib.hid m1
      rw [← hn6] at HI1 HR
      clear CP hpl hn6 hc6 m1 oh hl
      go_wp2_with (first | (go_at_call 20; refine HCP.out.mono ?_; rintro e w1 ⟨A2, c2, rfl, o2, b2⟩) | (at_builtin; refine app1 w1 rfl _ _ 24 22 rfl j0 _ 24 Try.underlying24 hj0 hy0 hy1 hy2 rfl 0 A1 i c1 hs (.slice A2 (mg bs i).length c2) (HSL.out _ _ _) rfl (HO.out.below b2 (Nat.le_refl _)) rfl (by omega) (by unfold maxLen; omega) (Nat.zero_le _) ?_; intro A3 c3 w3 o3 g3 l3))
      have hM3 := mrow_push HMr.out hsz HO.out HM.out b2 o2 o3 g3 l3
      rw [← msk_succ] at hM3
      have bw3 : Below w.heap.size w w3 := (bw.trans (b2.mono hsz)).grown g3 (Nat.le_trans hsz b2.size) (fun k hk => by rw [blk_own] at hk; exact (HMr.out.blks k hk).1)
      go_roundw
      case rel =>
        refine ⟨i + 1, A3, c3, some ⟨b, off + 63, none⟩, n6, c6, rfl, rfl, HI1, (fun e => by cases e), h5c6, hc6c, hi3, HL1, ?_, hM3, bw3⟩
        have := HR.out
        rw [H63.out] at this
        exact this
      case measure => simp [lenOf]; omega
    · have d1 : decide ((n5 : Int) > 63) = false := by simp; omega
      have d1' : decide ((63 : Int) < (n5 : Int)) = false := by simp; omega
      have HLST : Hid (lst bs.length = i) := lst_of (by rw [← HN.out]; exact HL.out) (by rw [← HN.out]; have := HI.out; omega)
      have HE : Hid (hd i 64 :: bs.drop (63 * i) = mg bs i) := by
        have := mg_last bs
        rw [HLST.out] at this
        exact this.symm
      have CP := pieceC i 64 A5 n5 c5 (bs.drop (63 * i)) wr r5 hno5 (.inr rfl) (by omega)
      rw [HE.out] at CP
      have HCP := Lib.hid CP
      have HO := Lib.hid oh
      have HMr := Lib.hid m1
      clear CP m1 oh hl
      go_wp2_with (first | (go_at_call 20; refine HCP.out.mono ?_; rintro e w1 ⟨A2, c2, rfl, o2, b2⟩) | (at_builtin; refine app1 w1 rfl _ _ 24 22 rfl j0 _ 24 Try.underlying24 hj0 hy0 hy1 hy2 rfl 0 A1 i c1 hs (.slice A2 (mg bs i).length c2) (HSL.out _ _ _) rfl (HO.out.below b2 (Nat.le_refl _)) rfl (by omega) (by unfold maxLen; omega) (Nat.zero_le _) ?_; intro A3 c3 w3 o3 g3 l3))
      have hM3 := mrow_push HMr.out hsz HO.out HM.out b2 o2 o3 g3 l3
      rw [← msk_succ] at hM3
      have bw3 : Below w.heap.size w w3 := (bw.trans (b2.mono hsz)).grown g3 (Nat.le_trans hsz b2.size) (fun k hk => by rw [blk_own] at hk; exact (HMr.out.blks k hk).1)
      go_ret2
      refine ⟨A3, c3, by rw [HLST.out]; rfl, ?_, bw3⟩
      unfold msgs
      rw [HLST.out]
      exact hM3
set_option maxHeartbeats 400000 in
theorem pSplitNo (A : Option Addr) (n c : Nat) (w : World) (hn : 65536 < n) : Calls Try.prog 9 #[.slice A n c] w fun e w' => e = .returned (.tuple #[.slice none 0 0, .int .i64 7]) ∧ w = w' := by
  have d0 : decide ((n : Int) > 65536) = true := by simp; omega
  have d0' : decide ((65536 : Int) < (n : Int)) = true := by simp; omega
  go_enter Try.func9, Try.ntmps9
  go_wp2
  go_ret2
  exact ⟨rfl, rfl⟩
/-- A text of so many bytes. -/
def TextOk (w : World) (m : Nat) (e : Ending) (w' : World) : Prop := ∃ (bs : List Nat) (A : Option Addr), e = .returned (.slice A m m) ∧ bs.length = m ∧ (∀ b ∈ bs, b < 256) ∧ Own w' w.heap.size 5 A m m (U8 bs) ∧ A ≠ none ∧ Below w.heap.size w w'
set_option maxHeartbeats 1000000 in
theorem textC (seed : Nat) (x : Int) (m : Nat) (w : World) (hs : seed < 256) (hm : ((x % 18446744073709551616) % 300) = (m : Int)) : Calls Try.prog 8 #[.int .u8 (seed : Int), .int .i64 x] w (TextOk w m) := by
  obtain ⟨i0, hi0, hz0, hz1, hz2⟩ := info_parts info5
  obtain ⟨u, hu, hu2⟩ := wrap_u64 x
  have hu3 : (u : Int) % 300 = (m : Int) := by
    rw [← hm, ← hu2, IntKind.wrap_u64]
  have hm3 : m < 300 := by omega
  clear hm
  go_enter Try.func8, Try.ntmps8
  go_wp2_with (at_make; refine wpList_make_full _ rfl _ _ 22 rfl w.heap.size 5 i0 (.int .u8 0) 1 Try.underlying22 hi0 hz0 hz1 .i64 .i64 _ _ m rfl rfl (by first | rfl | omega) (by first | rfl | omega) (by rw [hz2]; omega) (by unfold maxLen; omega) (Nat.le_refl _) ?_; intro w3 hown3 hgrow3)
  have bel3 : Below w.heap.size w w3 := (Below.refl _ _).grown hgrow3 (Nat.le_refl _) (fun k h => by cases h)
  have o3 : Own w3 w.heap.size 5 (some ⟨w.heap.size, 0, none⟩) m m (U8 (List.replicate m 0)) := by rw [made8] at hown3; exact ⟨hown3⟩
  obtain ⟨g, hg⟩ : ∃ g, g = w.heap.size := ⟨_, rfl⟩
  have HG := Lib.hid hg
  rw [← hg] at o3 bel3
  rw [← hg]
  clear hown3 hgrow3 hg hi0 hz0 hz1 hz2
  go_loopw [6] (fun s6 wr => ∃ (k : Nat) (T : List Nat), s6 = .int .i64 (k : Int) ∧ k ≤ m ∧ Hid (T.length = m) ∧ Hid (∀ b ∈ T, b < 256) ∧ Own wr g 5 (some ⟨g, 0, none⟩) m m (U8 T) ∧ Below g w wr) (fun s6 _ => m - (intOf s6).toNat)
  case atStart => exact ⟨0, _, rfl, by omega, by simp [Hid], fun b hb => by rw [List.eq_of_mem_replicate hb]; omega, o3, bel3⟩
  case round =>
    clear o3 bel3
    obtain ⟨k, T, rfl, hk, HL, HB, o, bel⟩ := hrel
    by_cases hlt : k < m
    · have d1 : decide ((k : Int) < (m : Int)) = true := by simp; omega
      obtain ⟨g', eg, _, hgl, kc, kf, kset⟩ := o.slot k hlt
      injection eg with eg
      injection eg with eg
      subst eg
      obtain ⟨q, hq⟩ : ∃ q, q = k * k := ⟨_, rfl⟩
      have eq1 : (k : Int) * (k : Int) = (q : Int) := by rw [hq]; simp
      have hq2 : q ≤ 90000 := by rw [hq]; exact Nat.mul_le_mul (show k ≤ 300 by omega) (show k ≤ 300 by omega)
      obtain ⟨b1, hb1, hb2⟩ : ∃ b1 : Nat, IntKind.u8.wrap (q : Int) = (b1 : Int) ∧ b1 < 256 := ⟨q % 256, by rw [IntKind.wrap_u8]; simp, Nat.mod_lt _ (by omega)⟩
      obtain ⟨b2, hb3, hb4⟩ : ∃ b2 : Nat, IntKind.u8.wrap ((seed : Int) + (b1 : Int)) = (b2 : Int) ∧ b2 < 256 := ⟨(seed + b1) % 256, by rw [IntKind.wrap_u8]; simp, Nat.mod_lt _ (by omega)⟩
      have hcell : (wr.cell? ⟨g, k, none⟩) = some (.int .u8 ((T.getD k 0 : Nat) : Int)) := by rw [kc, U8_get _ _ (by rw [HL.out]; exact hlt)]
      have f1 : (k : Int) < (m : Int) := by omega
      have HK := Lib.hid (kset (.int .u8 (b2 : Int)))
      rw [U8_set] at HK
      have HB2 : Hid (∀ b ∈ T.set k b2, b < 256) := fun b hb => by
        rcases List.mem_or_eq_of_mem_set hb with h | h
        · exact HB.out b h
        · omega
      have HL2 : Hid ((T.set k b2).length = m) := by unfold Hid; rw [List.length_set]; exact HL.out
      have wq : IntKind.i64.wrap ((k : Int) * (k : Int)) = (q : Int) := by rw [eq1]; exact IntWalk.i64_in _ (by omega)
      clear hq kset kc
      go_wp2
      go_roundw
      case rel => exact ⟨k + 1, _, by go_num, by omega, HL2, HB2, HK.out, bel.setCell (Nat.le_refl _) _⟩
      case measure => simp [intOf] <;> omega
    · have d1 : decide ((k : Int) < (m : Int)) = false := by simp; omega
      go_wp2
      go_ret
      refine ⟨T, _, rfl, HL.out, HB.out, ?_, by simp, ?_⟩
      · rw [← HG.out]; exact o
      · rw [← HG.out]; exact bel
end Go.Proofs.Ytoiibjblaafgpab
