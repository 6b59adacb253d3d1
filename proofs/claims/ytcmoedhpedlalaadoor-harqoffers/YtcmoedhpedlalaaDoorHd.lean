/-
  Layer 17: what is read; the reference's Version; what came, its cells; a version with some bits turned; the statements' first test.
-/
import Derived.Test.YtcmoedhpedlalaaDoorHc
import Derived.Test.YtcmoedhpedlalaaDoorYc
import Derived.Test.YtcmoedhpedlalaaDoorUd
import Derived.Deep.DeepCutAuto
namespace Go.Proofs.YtcmoedhpedlalaaDoor
open Go.RowKit
set_option maxRecDepth 100000
set_option linter.unusedVariables false
set_option linter.unusedSimpArgs false

/-- A message's bits, with its sum. -/
def mls (m : List Nat) : List Nat := Bm.ofBytes (Crc.close32 m)
/-- A version of a message. -/
def vm (m : List Nat) (v : Nat) : List Nat := Cv.pick (Cv.code (mls m)) v
theorem mls_length (m : List Nat) : (mls m).length = 8 * (m.length + 4) := by unfold mls; rw [Bm.ofBytes_length, Crc.close32_length]
theorem mls_bit (m : List Nat) : ∀ x ∈ mls m, x ≤ 1 := Bm.ofBytes_bit _
theorem vm_length (m : List Nat) (v : Nat) : (vm m v).length = 8 * (m.length + 4) + 6 := by unfold vm; rw [Cv.pick_length, Cv.code_length, mls_length]; omega
theorem vm_bit (m : List Nat) (v : Nat) : ∀ x ∈ vm m v, x ≤ 1 := Cv.pick_bit _ (Cv.code_bit _ (mls_bit m)) v
theorem opn_mls (m : List Nat) (hm : ∀ b ∈ m, b < 256) : opn (mls m) = some m := by
  unfold opn mls
  rw [Bm.toBytes_ofBytes _ (Crc.close32_lt m hm), ok32_close _ (Crc.close32_lt m hm) (by rw [Crc.close32_length]; omega), Crc.close32_take]
  simp
theorem opn_len {l x : List Nat} {k : Nat} (h : opn l = some x) (hl : l.length = 8 * (k + 4)) : x.length = k := by
  unfold opn at h
  by_cases hok : Crc.ok32 (Bm.toBytes l) = true
  · rw [if_pos hok] at h
    injection h with h
    rw [← h, List.length_take, Bm.toBytes_length, hl]
    omega
  · rw [if_neg hok] at h; cases h
theorem opn_lt {l x : List Nat} (h : opn l = some x) (hl : ∀ b ∈ l, b ≤ 1) : ∀ b ∈ x, b < 256 := by
  unfold opn at h
  by_cases hok : Crc.ok32 (Bm.toBytes l) = true
  · rw [if_pos hok] at h
    injection h with h
    rw [← h]
    exact fun b hb => toBytes_lt l hl b (List.mem_of_mem_take hb)
  · rw [if_neg hok] at h; cases h
theorem alo_vm (m : List Nat) (hm : ∀ b ∈ m, b < 256) (v : Nat) : alo (vm m v) v (8 * (m.length + 4)) = some m := by
  have h := Cv.al_code (mls m) v
  rw [mls_length] at h
  have hl := mls_length m
  unfold alo
  have e : Cv.al (vm m v) v (8 * (m.length + 4) + 6) = mls m ++ Cv.z6 := h
  rw [e, if_pos, List.take_left' hl, opn_mls m hm]
  intro j h1 h2
  have hj : (mls m ++ Cv.z6).getD j 0 = Cv.z6.getD (j - (mls m).length) 0 := by
    simp only [List.getD]
    rw [List.getElem?_append_right (by omega)]
  rw [hj]
  have h3 : j - (mls m).length < 6 := by
    rw [List.length_append] at h2
    have : Cv.z6.length = 6 := rfl
    omega
  generalize j - (mls m).length = i at *
  have : i = 0 ∨ i = 1 ∨ i = 2 ∨ i = 3 ∨ i = 4 ∨ i = 5 := by omega
  rcases this with rfl | rfl | rfl | rfl | rfl | rfl <;> rfl
theorem rdx_len {N k v : Nat} {row : List (Nat × List Nat)} {p x : List Nat} (h : rdx N row v p = some x) (hN : N = 8 * (k + 4)) : x.length = k := by
  unfold rdx at h
  split at h
  · injection h with h
    subst h
    rename_i h1
    exact opn_len h1 (by rw [Cv.rb_length, hN])
  · unfold alo at h
    split at h
    · exact opn_len h (by rw [List.length_take, Cv.al_length, hN]; omega)
    · cases h
theorem rdx_lt {N v : Nat} {row : List (Nat × List Nat)} {p x : List Nat} (h : rdx N row v p = some x) (hp : ∀ b ∈ p, b ≤ 1) : ∀ b ∈ x, b < 256 := by
  unfold rdx at h
  split at h
  · injection h with h
    subst h
    rename_i h1
    exact opn_lt h1 (Cv.rb_bit _ _ _ _)
  · unfold alo at h
    split at h
    · exact opn_lt h (fun b hb => Cv.al_bit p hp v _ b (List.mem_of_mem_take hb))
    · cases h
/-- A whole version is read at once. -/
theorem rdx_vm (m : List Nat) (hm : ∀ b ∈ m, b < 256) (v : Nat) (row : List (Nat × List Nat)) : ∃ x, rdx (8 * (m.length + 4)) row v (vm m v) = some x := by
  unfold rdx
  split
  · exact ⟨_, rfl⟩
  · exact ⟨m, alo_vm m hm v⟩
/-- The best list is read. -/
theorem rdx_best (m : List Nat) (hm : ∀ b ∈ m, b < 256) (v N : Nat) (row : List (Nat × List Nat)) (p : List Nat) (hN : N = 8 * (m.length + 4)) (h : Cv.Best (Cv.tot (Cv.softs ((mls m).length + 6) row)) (mls m).length (mls m)) : rdx N row v p = some m := by
  have e : Cv.rb (Cv.softs (N + 6) row) N 0 0 = mls m := by
    rw [hN, ← mls_length m]
    exact (Cv.rb_best _ _).uniq h
  unfold rdx
  rw [e, opn_mls m hm]
theorem rdx_whole (m : List Nat) (hm : ∀ b ∈ m, b < 256) (v N : Nat) (p : List Nat) (hv : v < 4) (hN : N = 8 * (m.length + 4)) : rdx N ([] ++ [(v, vm m v)]) v p = some m :=
  rdx_best m hm v N _ p hN (Cv.row_whole (mls m) (mls_bit m) _ (by simp) (fun r hr => by simp at hr; subst hr; exact ⟨hv, rfl⟩))
set_option maxHeartbeats 400000 in
/-- The reference's Version. -/
theorem refVer17 (A : Option Addr) (n c v : Nat) (m : List Nat) (w : World) (hr : Rd w w.heap.size A n (U8 m)) (hm : ∀ b ∈ m, b < 256) (hnone : A = none → n = 0 ∧ c = 0) (hn : n ≤ 70) (hv : v < 4) :
    Calls Tryd.prog 22 #[.slice A n c, .int .i64 (v : Int)] w (Made w (vm m v)) := by
  have HN := Lib.hid hr.len8
  have C1 := Lib.hid (refCloseC A n c m w hr hm hnone (by omega))
  have C2 := Lib.hid (fun (A : Option Addr) (n c : Nat) (w : World) (hr : Rd w w.heap.size A n (U8 (Crc.close32 m))) (hn : n ≤ 65536) => r1OfC A n c _ w hr (Crc.close32_lt m hm) hn)
  have C3 := Lib.hid (fun (A : Option Addr) (n c : Nat) (w : World) (hr : Rd w w.heap.size A n (U8 (Bm.ofBytes (Crc.close32 m)))) (hn : n ≤ 65536) => refCode A n c _ w hr (mls_bit m) hn)
  have C4 := Lib.hid (fun (A : Option Addr) (n c : Nat) (w : World) (hr : Rd w w.heap.size A n (U8 (Cv.code (Bm.ofBytes (Crc.close32 m))))) (h4 : n = 4 * (8 * (m.length + 4) + 6)) => refPick A n c (8 * (m.length + 4) + 6) v _ w hr h4 (by rw [← HN.out]; omega) hv)
  have L1 := Lib.hid (Crc.close32_length m)
  have L2 : Hid ((Bm.ofBytes (Crc.close32 m)).length = 8 * (m.length + 4)) := mls_length m
  have L3 : Hid ((Cv.code (Bm.ofBytes (Crc.close32 m))).length = 4 * (8 * (m.length + 4) + 6)) := by unfold Hid; rw [Cv.code_length, L2.out]
  have HV : Hid (vm m v = Cv.pick (Cv.code (Bm.ofBytes (Crc.close32 m))) v) := rfl
  rw [HV.out]
  have hml : m.length ≤ 70 := by rw [← HN.out]; exact hn
  generalize Cv.pick (Cv.code (Bm.ofBytes (Crc.close32 m))) v = x4 at *
  generalize Cv.code (Bm.ofBytes (Crc.close32 m)) = x3 at *
  generalize Bm.ofBytes (Crc.close32 m) = x2 at *
  generalize Crc.close32 m = x1 at *
  generalize m.length = k at *
  clear hr hm hnone HV
  go_enter Tryd.func22, Tryd.ntmps22
  go_wp2_with (first
    | (go_at_call 62; refine C1.out.mono ?_; rintro e w1 ⟨A1, n1, c1, rfl, own1, b1⟩)
    | (go_at_call 61; refine (C2.out A1 n1 c1 w1 own1.rd (by rw [own1.rd.len8, L1.out]; omega)).mono ?_; rintro e w2 ⟨A2, n2, c2, rfl, own2, b2⟩)
    | (go_at_call 34; refine (C3.out A2 n2 c2 w2 own2.rd (by rw [own2.rd.len8, L2.out]; omega)).mono ?_; rintro e w3 ⟨A3, n3, c3, rfl, own3, b3⟩)
    | (go_at_call 60; refine (C4.out A3 n3 c3 w3 own3.rd (by rw [own3.rd.len8, L3.out])).mono ?_; rintro e w4 ⟨A4, n4, c4, rfl, own4, b4⟩))
  go_ret
  have b12 := Below.then_ b1 b2
  have b13 := Below.then_ b12 b3
  exact ⟨A4, n4, c4, rfl, own4.down b13.size, Below.then_ b13 b4⟩
/-- What came, as a value. -/
structure CH7 where
  r : Bool
  v : Int
  aA : Option Addr
  aL : Nat
  aC : Nat
  rA : Option Addr
  rL : Nat
  rC : Nat
  ys : List Int
  n : Int
  bs : List Nat
instance : Inhabited CH7 := ⟨⟨false, 0, none, 0, 0, none, 0, 0, [], 0, []⟩⟩
/-- Its cells. -/
def CH7.cells (e : CH7) : Array Value := #[.bool e.r, .int .i64 e.v, .slice e.aA e.aL e.aC, .slice e.rA e.rL e.rC, .int .i64 e.n]
theorem CH7.one (e : CH7) : e.cells.all (·.oneCell') = true := by simp [CH7.cells, Value.oneCell']
/-- What it reads as. -/
structure CH7.ok (w : World) (B : Nat) (e : CH7) : Prop where
  at_ : Rd w B e.aA e.aL (I64 e.ys)
  ab : e.aL ≤ 9223372036854775807
  raw : Rd w B e.rA e.rL (U8 e.bs)
  r256 : ∀ b ∈ e.bs, b < 256
  rc : e.rL ≤ e.rC
  rc2 : e.rC ≤ 9223372036854775807
  rnone : e.rA = none → e.rL = 0 ∧ e.rC = 0
  vin : -9223372036854775808 ≤ e.v ∧ e.v ≤ 9223372036854775807
  nin : -9223372036854775808 ≤ e.n ∧ e.n ≤ 9223372036854775807
theorem CH7.ok.below {w w' : World} {B : Nat} {e : CH7} (h : e.ok w B) (hb : Below B w w') : e.ok w' B := ⟨h.at_.below hb, h.ab, h.raw.below hb, h.r256, h.rc, h.rc2, h.rnone, h.vin, h.nin⟩
/-- A row of what came. -/
structure CH7Row (w : World) (B : Nat) (A : Option Addr) (n : Nat) (es : Nat → CH7) : Prop where
  at_ : 0 < n → ∃ b off, A = some ⟨b, off, none⟩ ∧ b < B ∧ ∀ i, i < n → ∀ j u, (es i).cells[j]? = some u → w.cell? ⟨b, off + 5 * i + j, none⟩ = some u
  ok : ∀ i, i < n → (es i).ok w B
theorem CH7Row.below {w w' : World} {B : Nat} {A : Option Addr} {n : Nat} {es : Nat → CH7} (h : CH7Row w B A n es) (hb : Below B w w') : CH7Row w' B A n es :=
  ⟨fun hn => by
    obtain ⟨b, off, e, hlt, hc⟩ := h.at_ hn
    exact ⟨b, off, e, hlt, fun i hi j u hu => (hb.cell (p := ⟨b, off + 5 * i + j, none⟩) hlt).trans (hc i hi j u hu)⟩, fun i hi => (h.ok i hi).below hb⟩
/-- What body gives. -/
def bd (m : List Nat) (v : Nat) (e : CH7) : List Nat := Bm.trn (vm m v) (atl e.ys (8 * (m.length + 4) + 6) (min e.aL 200))
theorem bd_length (m : List Nat) (v : Nat) (e : CH7) : (bd m v e).length = 8 * (m.length + 4) + 6 := by unfold bd; rw [Bm.trn_length, vm_length]
theorem bd_bit (m : List Nat) (v : Nat) (e : CH7) : ∀ x ∈ bd m v e, x ≤ 1 := fun x hx => by
  have := Bm.trn_lt 1 (by omega) (vm m v) (atl e.ys (8 * (m.length + 4) + 6) (min e.aL 200)) (fun y hy => by have := vm_bit m v y hy; omega) x hx
  omega
set_option maxHeartbeats 1000000 in
set_option maxRecDepth 100000 in
/-- (Came).body. -/
theorem bodyC (e0 : CH7) (A : Option Addr) (n c v : Nat) (l : List Nat) (w : World) (he : e0.ok w w.heap.size) (hr : Rd w w.heap.size A n (U8 l)) (hl : ∀ x ∈ l, x < 256) (hnone : A = none → n = 0 ∧ c = 0) (hn : n ≤ 70) (hv : v < 4) :
    Calls Tryd.prog 20 #[.agg e0.cells, .slice A n c, .int .i64 (v : Int)] w (Made w (bd l v e0)) := by
  have HN := Lib.hid hr.len8
  have CC := Lib.hid (fun (W : World) (h : Below w.heap.size w W) => refVer17 A n c v l W ((hr.below h).up h.size) hl hnone hn hv)
  have HPL : Hid ((vm l v).length = 8 * (n + 4) + 6) := by unfold Hid; rw [vm_length, ← hr.len8]
  have HPB := Lib.hid (vm_bit l v)
  have HRT : Hid (bd l v e0 = Bm.trn (vm l v) (atl e0.ys (8 * (n + 4) + 6) (min e0.aL 200))) := by unfold Hid bd; rw [← hr.len8]
  have HC2 : Hid (e0.cells[2]? = some (.slice e0.aA e0.aL e0.aC)) := rfl
  rw [HRT.out]
  have HY := Lib.hid he.at_.len64
  have rA := he.at_
  have hab := he.ab
  clear hr hl he HRT hnone
  generalize e0.cells = E at *
  generalize e0.aA = aA at *
  generalize e0.aL = aL at *
  generalize e0.aC = aC at *
  generalize e0.ys = ys at *
  generalize vm l v = p at *
  obtain ⟨T, hT⟩ : ∃ T, T = 8 * (n + 4) + 6 := ⟨_, rfl⟩
  rw [← hT] at HPL
  rw [← hT]
  have hT6 : 6 ≤ T := by omega
  have hT7 : T ≤ 5000 := by omega
  clear hT
  obtain ⟨m, hm⟩ : ∃ m, m = min aL 200 := ⟨_, rfl⟩
  rw [← hm]
  have hm1 : m ≤ aL := by omega
  have hm2 : m ≤ 200 := by omega
  have hm3 : ∀ i, i < m → i < aL ∧ i < 200 := fun i hi => by omega
  have hm4 : ∀ i, ¬ i < m → ¬ (i < aL ∧ i < 200) := fun i hi => by omega
  have HM3 := Lib.hid hm3
  have HM4 := Lib.hid hm4
  clear hm hm3 hm4
  go_enter Tryd.func20, Tryd.ntmps20
  go_upto_region 1 with (refine at_box rfl 37 _ rfl E rfl ?_; intro w1 h1)
  have q1 := h1.row
  have b1 := h1.bel
  go_upto_region 2 with (go_at_call 22; refine (CC.out w1 b1).mono ?_; rintro e w3 ⟨A3, n3, c3, rfl, own3, b13⟩)
  have q3 := q1.after b13
  have bw3 := Below.then_ b1 b13
  have hn3 : n3 = T := by rw [own3.rd.len8, HPL.out]
  subst hn3
  have r3 := own3.rd
  have kA : w3.cell? ⟨w.heap.size, 2, none⟩ = some (.slice aA aL aC) := (q3.cell 2).trans HC2.out
  have lg := q3.lt
  obtain ⟨g3, hg3⟩ : ∃ g, g = w.heap.size := ⟨_, rfl⟩
  rw [← hg3] at kA lg
  rw [← hg3]
  have HG3 := Lib.hid hg3
  clear h1 q1 b1 b13 own3 q3 hg3 CC
  have e64 : IntKind.u64.wrap (n3 : Int) = (n3 : Int) := by rw [IntKind.wrap_u64]; omega
  have hT0 : ((n3 : Int) == 0) = false := by simp; omega
  have hT1 : ¬ (n3 : Int) = 0 := by omega
  go_wp2
  go_loopw [8, 9] (fun s x wr => ∃ i : Nat, i ≤ m ∧ x = .int .i64 i ∧ ∃ A1 c1, s = .slice A1 i c1 ∧ Own wr w3.heap.size 3 A1 i c1 (I64 (atl ys n3 i)) ∧ Below w3.heap.size w3 wr) (fun _ x _ => m - (intOf x).toNat)
  case atStart => exact ⟨0, Nat.zero_le _, rfl, none, 0, rfl, Own.nil _ _ _, Below.refl _ _⟩
  case round =>
    obtain ⟨i, hi, rfl, A1, c1, rfl, own, bel⟩ := hrel
    have kAr := (bel.cell (p := ⟨g3, 2, none⟩) lg).trans kA
    have hsz := bel.size
    by_cases hlt : i < m
    · obtain ⟨hi1, hi2⟩ := HM3.out i hlt
      obtain ⟨b, off, hA, hb, kz⟩ := (rA.below (bw3.trans (bel.mono bw3.size))).cell64 i hi1
      subst hA
      have HS := Lib.hid (atl_succ ys n3 i (by rw [← HY.out]; exact hi1))
      generalize ys.getD i 0 = z at *
      have f1 := wrap_u64_of z
      obtain ⟨r, hr⟩ : ∃ r, r = (z % 18446744073709551616).toNat % n3 := ⟨_, rfl⟩
      have f2 : (((z % 18446744073709551616).toNat : Nat) : Int) % (n3 : Int) = (r : Int) := by rw [hr]; omega
      have hrT : r < n3 := by rw [hr]; exact Nat.mod_lt _ (by omega)
      have hub : (z % 18446744073709551616).toNat < 18446744073709551616 := by omega
      rw [← hr] at HS
      generalize (z % 18446744073709551616).toNat = uz at *
      have g1 : (i : Int) < (aL : Int) := by omega
      have d1 : decide ((i : Int) < (aL : Int)) = true := by simp; omega
      have d2 : decide ((i : Int) < 200) = true := by simp; omega
      clear hr
      go_wp2_with (at_builtin; refine app64 _ rfl _ _ rfl w3.heap.size _ _ _ _ (r : Int) rfl own rfl (by omega) hsz ?_; intro A4 c4 w4 own4 gr4)
      go_roundw
      case rel => exact ⟨i + 1, by omega, by go_num, A4, c4, rfl, by rw [HS.out]; exact own4, bel.grown gr4 hsz (fun j hj => (own.block j hj).1)⟩
      case measure => simp [intOf] <;> omega
    · have hno := HM4.out i hlt
      have hmi : Hid (i = m) := by unfold Hid; omega
      have CT := Lib.hid (refTurn A3 A1 n3 c3 i c1 p (atl ys n3 i) wr ((r3.below bel).up hsz) own.rd (bit256 HPB.out) (by omega) (by omega))
      rw [hmi.out] at CT
      by_cases ha : i < aL
      · have d1 : decide ((i : Int) < (aL : Int)) = true := by simp; omega
        have d2 : decide ((i : Int) < 200) = false := by simp; omega
        have CT2 : Hid (Calls Tryd.prog 55 #[.slice A3 n3 c3, .slice A1 i c1] wr (Made wr (Bm.trn p (atl ys n3 m)))) := by unfold Hid; rw [hmi.out]; exact CT.out
        clear hno CT
        go_wp2_with (go_at_call 55; refine CT2.out.mono ?_; rintro e w5 ⟨A5, n5, c5, rfl, own5, b5⟩)
        go_ret
        exact ⟨A5, n5, c5, rfl, own5.down (Nat.le_trans bw3.size hsz), Below.then_ (Below.then_ bw3 bel) b5⟩
      · have d1 : decide ((i : Int) < (aL : Int)) = false := by simp; omega
        have CT2 : Hid (Calls Tryd.prog 55 #[.slice A3 n3 c3, .slice A1 i c1] wr (Made wr (Bm.trn p (atl ys n3 m)))) := by unfold Hid; rw [hmi.out]; exact CT.out
        clear hno CT
        go_wp2_with (go_at_call 55; refine CT2.out.mono ?_; rintro e w5 ⟨A5, n5, c5, rfl, own5, b5⟩)
        go_ret
        exact ⟨A5, n5, c5, rfl, own5.down (Nat.le_trans bw3.size hsz), Below.then_ (Below.then_ bw3 bel) b5⟩
end Go.Proofs.YtcmoedhpedlalaaDoor
