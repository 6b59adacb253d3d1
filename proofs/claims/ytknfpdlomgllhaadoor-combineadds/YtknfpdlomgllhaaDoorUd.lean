/-
  Layer 13: what came: its cells; a version of a list, with some bits turned.
-/
import Derived.Test.YtknfpdlomgllhaaDoorUc
import Derived.Deep.DeepCutAuto
namespace Go.Proofs.YtknfpdlomgllhaaDoor
open Go.RowKit
set_option maxRecDepth 100000
set_option linter.unusedVariables false
set_option linter.unusedSimpArgs false

/-- What came, as a value. -/
structure CE where
  r : Bool
  v : Int
  aA : Option Addr
  aL : Nat
  aC : Nat
  rA : Option Addr
  rL : Nat
  rC : Nat
  ys : List Int
  bs : List Nat
instance : Inhabited CE := ⟨⟨false, 0, none, 0, 0, none, 0, 0, [], []⟩⟩
/-- Its cells. -/
def CE.cells (e : CE) : Array Value := #[.bool e.r, .int .i64 e.v, .slice e.aA e.aL e.aC, .slice e.rA e.rL e.rC]
theorem CE.one (e : CE) : e.cells.all (·.oneCell') = true := by simp [CE.cells, Value.oneCell']
/-- What it reads as. -/
structure CE.ok (w : World) (B : Nat) (e : CE) : Prop where
  at_ : Rd w B e.aA e.aL (I64 e.ys)
  ab : e.aL ≤ 9223372036854775807
  raw : Rd w B e.rA e.rL (U8 e.bs)
  r256 : ∀ b ∈ e.bs, b < 256
  rc : e.rL ≤ e.rC
  rc2 : e.rC ≤ 9223372036854775807
  rnone : e.rA = none → e.rL = 0 ∧ e.rC = 0
theorem CE.ok.below {w w' : World} {B : Nat} {e : CE} (h : e.ok w B) (hb : Below B w w') : e.ok w' B := ⟨h.at_.below hb, h.ab, h.raw.below hb, h.r256, h.rc, h.rc2, h.rnone⟩
/-- A row of what came. -/
structure CRow (w : World) (B : Nat) (A : Option Addr) (n : Nat) (es : Nat → CE) : Prop where
  at_ : 0 < n → ∃ b off, A = some ⟨b, off, none⟩ ∧ b < B ∧ ∀ i, i < n → ∀ j u, (es i).cells[j]? = some u → w.cell? ⟨b, off + 4 * i + j, none⟩ = some u
  ok : ∀ i, i < n → (es i).ok w B
theorem CRow.below {w w' : World} {B : Nat} {A : Option Addr} {n : Nat} {es : Nat → CE} (h : CRow w B A n es) (hb : Below B w w') : CRow w' B A n es :=
  ⟨fun hn => by
    obtain ⟨b, off, e, hlt, hc⟩ := h.at_ hn
    exact ⟨b, off, e, hlt, fun i hi j u hu => (hb.cell (p := ⟨b, off + 4 * i + j, none⟩) hlt).trans (hc i hi j u hu)⟩, fun i hi => (h.ok i hi).below hb⟩
/-- The places that are turned. -/
def atl (ys : List Int) (T k : Nat) : List Int := (ys.take k).map fun z => (((z % 18446744073709551616).toNat % T : Nat) : Int)
theorem atl_succ (ys : List Int) (T k : Nat) (h : k < ys.length) : atl ys T (k + 1) = atl ys T k ++ [(((ys.getD k 0 % 18446744073709551616).toNat % T : Nat) : Int)] := by
  unfold atl
  rw [List.take_succ_eq_append_getElem h, List.map_append, Bm.getD_lt _ _ _ h]
  rfl
theorem wrap_u64_of (a : Int) : IntKind.u64.wrap a = (((a % 18446744073709551616).toNat : Nat) : Int) := by
  have h : IntKind.u64.wrap a = a % 18446744073709551616 := IntKind.wrap_u64 a
  rw [h]; omega
/-- What part gives. -/
def ptU (l : List Nat) (v : Nat) (e : CE) : List Nat := Bm.trn (Cv.pick (Cv.code l) v) (atl e.ys (l.length + 6) (min e.aL 30))
theorem ptU_length (l : List Nat) (v : Nat) (e : CE) : (ptU l v e).length = l.length + 6 := by unfold ptU; rw [Bm.trn_length, Cv.pick_length, Cv.code_length]; omega
theorem ptU_bit (l : List Nat) (hl : ∀ x ∈ l, x ≤ 1) (v : Nat) (e : CE) : ∀ x ∈ ptU l v e, x ≤ 1 := fun x hx => by
  have := Bm.trn_lt 1 (by omega) (Cv.pick (Cv.code l) v) (atl e.ys (l.length + 6) (min e.aL 30)) (fun y hy => by have := Cv.pick_bit _ (Cv.code_bit l hl) v y hy; omega) x hx
  omega
theorem infoCame : (Tryd.prog.info? 48).map (·.size) = some 4 := by kernel_rfl
set_option maxHeartbeats 1000000 in
set_option maxRecDepth 100000 in
/-- (Came).part. -/
theorem partC (e0 : CE) (A : Option Addr) (n c v : Nat) (l : List Nat) (w : World) (he : e0.ok w w.heap.size) (hr : Rd w w.heap.size A n (U8 l)) (hl : ∀ x ∈ l, x ≤ 1) (hn : n ≤ 4096) (hv : v < 4) :
    Calls Tryd.prog 24 #[.agg e0.cells, .slice A n c, .int .i64 (v : Int)] w (Made w (ptU l v e0)) := by
  have HN := Lib.hid hr.len8
  have HCL : Hid ((Cv.code l).length = 4 * (n + 6)) := by unfold Hid; rw [Cv.code_length, ← hr.len8]
  have CC := Lib.hid (fun (W : World) (h : Below w.heap.size w W) => refCode A n c l W ((hr.below h).up h.size) hl (by omega))
  have CP := Lib.hid (fun (Ac : Option Addr) (nc cc : Nat) (W : World) (h : Rd W W.heap.size Ac nc (U8 (Cv.code l))) => refPick Ac nc cc (n + 6) v (Cv.code l) W h (by rw [h.len8, HCL.out]) (by omega) hv)
  have HPL : Hid ((Cv.pick (Cv.code l) v).length = n + 6) := by unfold Hid; rw [Cv.pick_length, HCL.out]; omega
  have HPB := Lib.hid (Cv.pick_bit _ (Cv.code_bit l hl) v)
  have HRT : Hid (ptU l v e0 = Bm.trn (Cv.pick (Cv.code l) v) (atl e0.ys (n + 6) (min e0.aL 30))) := by unfold Hid ptU; rw [← hr.len8]
  have HC2 : Hid (e0.cells[2]? = some (.slice e0.aA e0.aL e0.aC)) := rfl
  rw [HRT.out]
  have HY := Lib.hid he.at_.len64
  have rA := he.at_
  have hab := he.ab
  clear hr hl he HRT
  generalize e0.cells = E at *
  generalize e0.aA = aA at *
  generalize e0.aL = aL at *
  generalize e0.aC = aC at *
  generalize e0.ys = ys at *
  generalize Cv.pick (Cv.code l) v = p at *
  generalize Cv.code l = cd at *
  obtain ⟨T, hT⟩ : ∃ T, T = n + 6 := ⟨_, rfl⟩
  rw [← hT] at HPL
  rw [← hT]
  have hT6 : 6 ≤ T := by omega
  have hT7 : T ≤ 5000 := by omega
  clear hT
  obtain ⟨m, hm⟩ : ∃ m, m = min aL 30 := ⟨_, rfl⟩
  rw [← hm]
  have hm1 : m ≤ aL := by omega
  have hm2 : m ≤ 30 := by omega
  have hm3 : ∀ i, i < m → i < aL ∧ i < 30 := fun i hi => by omega
  have hm4 : ∀ i, ¬ i < m → ¬ (i < aL ∧ i < 30) := fun i hi => by omega
  have HM3 := Lib.hid hm3
  have HM4 := Lib.hid hm4
  clear hm hm3 hm4
  go_enter Tryd.func24, Tryd.ntmps24
  go_upto_region 1 with (refine at_box rfl 48 _ rfl E rfl ?_; intro w1 h1)
  have q1 := h1.row
  have b1 := h1.bel
  go_upto_region 2 with (first | (go_at_call 12; refine (CC.out w1 b1).mono ?_; rintro e w2 ⟨A2, n2, c2, rfl, own2, b2⟩) | (go_at_call 54; refine (CP.out A2 n2 c2 w2 own2.rd).mono ?_; rintro e w3 ⟨A3, n3, c3, rfl, own3, b3⟩))
  have b13 := Below.then_ b2 b3
  have q3 := q1.after b13
  have bw3 := Below.then_ b1 b13
  have hn3 : n3 = T := by rw [own3.rd.len8, HPL.out]
  subst hn3
  have r3 := own3.rd
  have kA : w3.cell? ⟨w.heap.size, 2, none⟩ = some (.slice aA aL aC) := (q3.cell 2).trans HC2.out
  have lg := q3.lt
  obtain ⟨g3, hg3⟩ : ∃ g, g = w.heap.size := ⟨_, rfl⟩
  rw [← hg3] at kA lg
  rw [← hg3]
  have HG3 := Lib.hid hg3
  clear h1 q1 b1 b2 b3 b13 own2 own3 q3 hg3 CC CP
  have e64 : IntKind.u64.wrap (n3 : Int) = (n3 : Int) := by rw [IntKind.wrap_u64]; omega
  have hT0 : ((n3 : Int) == 0) = false := by simp; omega
  have hT1 : ¬ (n3 : Int) = 0 := by omega
  go_wp2
  go_loopw [8, 9] (fun s x wr => ∃ i : Nat, i ≤ m ∧ x = .int .i64 i ∧ ∃ A1 c1, s = .slice A1 i c1 ∧ Own wr w3.heap.size 3 A1 i c1 (I64 (atl ys n3 i)) ∧ Below w3.heap.size w3 wr) (fun _ x _ => m - (intOf x).toNat)
  case atStart => exact ⟨0, Nat.zero_le _, rfl, none, 0, rfl, Own.nil _ _ _, Below.refl _ _⟩
  case round =>
    obtain ⟨i, hi, rfl, A1, c1, rfl, own, bel⟩ := hrel
    have kAr := (bel.cell (p := ⟨g3, 2, none⟩) lg).trans kA
    have hsz := bel.size
    by_cases hlt : i < m
    · obtain ⟨hi1, hi2⟩ := HM3.out i hlt
      obtain ⟨b, off, hA, hb, kz⟩ := (rA.below (bw3.trans (bel.mono bw3.size))).cell64 i hi1
      subst hA
      have HS := Lib.hid (atl_succ ys n3 i (by rw [← HY.out]; exact hi1))
      generalize ys.getD i 0 = z at *
      have f1 := wrap_u64_of z
      obtain ⟨r, hr⟩ : ∃ r, r = (z % 18446744073709551616).toNat % n3 := ⟨_, rfl⟩
      have f2 : (((z % 18446744073709551616).toNat : Nat) : Int) % (n3 : Int) = (r : Int) := by rw [hr]; omega
      have hrT : r < n3 := by rw [hr]; exact Nat.mod_lt _ (by omega)
      have hub : (z % 18446744073709551616).toNat < 18446744073709551616 := by omega
      rw [← hr] at HS
      generalize (z % 18446744073709551616).toNat = uz at *
      have g1 : (i : Int) < (aL : Int) := by omega
      have d1 : decide ((i : Int) < (aL : Int)) = true := by simp; omega
      have d2 : decide ((i : Int) < 30) = true := by simp; omega
      clear hr
      go_wp2_with (at_builtin; refine app64 _ rfl _ _ rfl w3.heap.size _ _ _ _ (r : Int) rfl own rfl (by omega) hsz ?_; intro A4 c4 w4 own4 gr4)
      go_roundw
      case rel => exact ⟨i + 1, by omega, by go_num, A4, c4, rfl, by rw [HS.out]; exact own4, bel.grown gr4 hsz (fun j hj => (own.block j hj).1)⟩
      case measure => simp [intOf] <;> omega
    · have hno := HM4.out i hlt
      have hmi : Hid (i = m) := by unfold Hid; omega
      have CT := Lib.hid (refTurn A3 A1 n3 c3 i c1 p (atl ys n3 i) wr ((r3.below bel).up hsz) own.rd (bit256 HPB.out) (by omega) (by omega))
      rw [hmi.out] at CT
      by_cases ha : i < aL
      · have d1 : decide ((i : Int) < (aL : Int)) = true := by simp; omega
        have d2 : decide ((i : Int) < 30) = false := by simp; omega
        have CT2 : Hid (Calls Tryd.prog 60 #[.slice A3 n3 c3, .slice A1 i c1] wr (Made wr (Bm.trn p (atl ys n3 m)))) := by unfold Hid; rw [hmi.out]; exact CT.out
        clear hno CT
        go_wp2_with (go_at_call 60; refine CT2.out.mono ?_; rintro e w5 ⟨A5, n5, c5, rfl, own5, b5⟩)
        go_ret
        exact ⟨A5, n5, c5, rfl, own5.down (Nat.le_trans bw3.size hsz), Below.then_ (Below.then_ bw3 bel) b5⟩
      · have d1 : decide ((i : Int) < (aL : Int)) = false := by simp; omega
        have CT2 : Hid (Calls Tryd.prog 60 #[.slice A3 n3 c3, .slice A1 i c1] wr (Made wr (Bm.trn p (atl ys n3 m)))) := by unfold Hid; rw [hmi.out]; exact CT.out
        clear hno CT
        go_wp2_with (go_at_call 60; refine CT2.out.mono ?_; rintro e w5 ⟨A5, n5, c5, rfl, own5, b5⟩)
        go_ret
        exact ⟨A5, n5, c5, rfl, own5.down (Nat.le_trans bw3.size hsz), Below.then_ (Below.then_ bw3 bel) b5⟩
end Go.Proofs.YtknfpdlomgllhaaDoor
