/-
  The walks of layer 1's statements BitsApart and BitsTurns.
-/
import Derived.Test.YtcddbcknjcedfaaBd
namespace Go.Proofs.Ytcddbcknjcedfaa
open Go.RowKit
set_option linter.unusedVariables false

theorem below_drawn {B : Nat} {w : World} (m : Nat) : Below B w (w.drewN m) := ⟨rfl, rfl, rfl, Nat.le_refl _, fun _ _ => rfl⟩

/-- Are two counts the same? -/
def okv (n m : Nat) : Bool := decide (n = m)
/-- How far apart; 0 if the lengths are unlike. -/
def apv (n m : Nat) (xs bs : List Nat) : Nat := if n = m then Bm.ap xs bs else 0
theorem okv_eq (n m : Nat) : ((n : Int) == (m : Int)) = okv n m := by unfold okv; rw [Bool.eq_iff_iff]; simp; omega

theorem apartAny (A A2 : Option Addr) (n n2 c c2 : Nat) (xs bs : List Nat) (w : World) (hra : Rd w w.heap.size A n (U8 xs)) (hrb : Rd w w.heap.size A2 n2 (U8 bs)) (ha : ∀ b ∈ xs, b ≤ 1) (hb : ∀ b ∈ bs, b ≤ 1) (hn : n ≤ 65536) :
    Calls Try.prog 24 #[.slice A n c, .slice A2 n2 c2] w fun e w' => e = .returned (.tuple #[.int .i64 (apv n n2 xs bs : Nat), .bool (okv n n2)]) ∧ Below w.heap.size w w' := by
  unfold apv okv
  by_cases h : n = n2
  · subst h
    rw [if_pos rfl, decide_eq_true rfl]
    refine (apart A A2 n c c2 xs bs w hra hrb (fun b h => by have := ha b h; omega) (fun b h => by have := hb b h; omega) hn).mono ?_
    rintro e w' ⟨he, m, rfl⟩
    exact ⟨he, below_drawn m⟩
  · rw [if_neg h, decide_eq_false h]
    refine (apart_ne A A2 n n2 c c2 w h).mono ?_
    rintro e w' ⟨he, rfl⟩
    exact ⟨he, Below.refl _ _⟩

theorem Own.rdOf {w w' : World} {base : Nat} {e : TypeId} {A : Option Addr} {n c : Nat} {xs : List Value} (h : Own w base e A n c xs) (hb : Below w.heap.size w w') : Rd w' w'.heap.size A n xs :=
  (h.rd.below hb).up hb.size
theorem Below.then_ {w w1 w2 : World} (h : Below w.heap.size w w1) (h2 : Below w1.heap.size w1 w2) : Below w.heap.size w w2 := h.trans (h2.mono h.size)

set_option maxHeartbeats 2000000 in
/-- BitsApart. -/
theorem walk5 (A1 A2 A3 : Option Addr) (n1 n2 n3 c1 c2 c3 : Nat) (xs ys zs : List Nat) (w : World) (h1 : Rd w w.heap.size A1 n1 (U8 xs)) (h2 : Rd w w.heap.size A2 n2 (U8 ys)) (h3 : Rd w w.heap.size A3 n3 (U8 zs))
    (b1 : ∀ b ∈ xs, b < 256) (b2 : ∀ b ∈ ys, b < 256) (b3 : ∀ b ∈ zs, b < 256) (m1 : n1 ≤ 9223372036854775807) (m2 : n2 ≤ 9223372036854775807) (m3 : n3 ≤ 9223372036854775807) :
    Calls Try.prog 5 #[.slice A1 n1 c1, .slice A2 n2 c2, .slice A3 n3 c3] w fun e w' => e = .returned (.bool true) ∧ Below w.heap.size w w' := by
  go_enter Try.func5, Try.ntmps5
  go_wp2_with fail
  refine (fewC A1 n1 c1 100 xs _ h1 b1 (by omega) m1).mono ?_
  rintro e wa ⟨Aa, na, ca, rfl, owa, bea⟩
  go_wp2_with fail
  refine (fewC A2 n2 c2 100 ys _ ((h2.below bea).up bea.size) b2 (by omega) m2).mono ?_
  rintro e wb ⟨Ab, nb, cb, rfl, owb, beb⟩
  go_wp2_with fail
  refine (fewC A3 n3 c3 100 zs _ (((h3.below bea).up bea.size).below beb |>.up beb.size) b3 (by omega) m3).mono ?_
  rintro e wc ⟨Ac, nc, cc, rfl, owc, bec⟩
  have la := owa.rd.len8
  have lb := owb.rd.len8
  have lc := owc.rd.len8
  have ra := owa.rdOf (Below.then_ beb bec)
  have rb := owb.rdOf bec
  have rc := owc.rdOf (Below.refl _ _)
  have be := Below.then_ (Below.then_ bea beb) bec
  have ba := Bm.few_bit xs 100
  have bb := Bm.few_bit ys 100
  have bc := Bm.few_bit zs 100
  have na' : na ≤ 100 := by rw [la, Bm.few_length]; omega
  have nb' : nb ≤ 100 := by rw [lb, Bm.few_length]; omega
  have nc' : nc ≤ 100 := by rw [lc, Bm.few_length]; omega
  generalize Bm.few xs 100 = fx at *
  generalize Bm.few ys 100 = fy at *
  generalize Bm.few zs 100 = fz at *
  clear owa owb owc bea beb bec h1 h2 h3 b1 b2 b3
  have LA := Lib.hid la
  have LB := Lib.hid lb
  have BA := Lib.hid ba
  have BB := Lib.hid bb
  have BC := Lib.hid bc
  clear la lb lc ba bb bc
  go_wp2_with fail
  refine (apartAny Aa Ab na nb ca cb fx fy _ ra rb BA.out BB.out (by omega)).mono ?_
  rintro e w1 ⟨rfl, be1⟩
  have ra1 := (ra.below be1).up be1.size
  have rb1 := (rb.below be1).up be1.size
  have rc1 := (rc.below be1).up be1.size
  go_wp2_with fail
  refine (apartAny Ab Ac nb nc cb cc fy fz _ rb1 rc1 BB.out BC.out (by omega)).mono ?_
  rintro e w2 ⟨rfl, be2⟩
  have ra2 := (ra1.below be2).up be2.size
  have rb2 := (rb1.below be2).up be2.size
  have rc2 := (rc1.below be2).up be2.size
  go_wp2_with fail
  refine (apartAny Aa Ac na nc ca cc fx fz _ ra2 rc2 BA.out BC.out (by omega)).mono ?_
  rintro e w3 ⟨rfl, be3⟩
  have ra3 := (ra2.below be3).up be3.size
  have rb3 := (rb2.below be3).up be3.size
  have bel3 := Below.then_ (Below.then_ (Below.then_ be be1) be2) be3
  clear ra rb rc ra1 rb1 rc1 ra2 rb2 rc2 be be1 be2 be3
  go_wp2_with fail
  refine (tells _).mono ?_
  rintro e w4 ⟨rfl, be4⟩
  have ra4 := (ra3.below be4).up be4.size
  have rb4 := (rb3.below be4).up be4.size
  have bel4 := Below.then_ bel3 be4
  clear ra3 rb3 bel3 be4
  have e1 := okv_eq na nb
  have e2 := okv_eq nb nc
  have e3 := okv_eq na nc
  by_cases h12 : na = nb
  · by_cases h23 : nb = nc
    · obtain rfl := h12
      obtain rfl := h23
      have k1 : okv na na = true := by simp [okv]
      have k2 : apv na na fx fy = Bm.ap fx fy := by simp [apv]
      have k3 : apv na na fy fz = Bm.ap fy fz := by simp [apv]
      have k4 : apv na na fx fz = Bm.ap fx fz := by simp [apv]
      have t := Bm.ap_tri fx fy fz (by rw [← LA.out, ← LB.out])
      have l1 : Bm.ap fx fy ≤ 100 := by have : Bm.ap fx fy ≤ fx.length := Bm.cnt_le _ _; rw [← LA.out] at this; omega
      have l2 : Bm.ap fy fz ≤ 100 := by have : Bm.ap fy fz ≤ fy.length := Bm.cnt_le _ _; rw [← LB.out] at this; omega
      have C := Lib.hid (refApart Aa Ab na ca cb fx fy w4 ra4 rb4 (fun b h => by have := BA.out b h; omega) (fun b h => by have := BB.out b h; omega) (by omega))
      generalize Bm.ap fx fy = p at *
      generalize Bm.ap fy fz = q at *
      generalize Bm.ap fx fz = r at *
      have t2 : decide ((r : Int) ≤ (p : Int) + (q : Int)) = true := by simp; omega
      clear e1 e2 e3 ra4 rb4
      rw [k1, k2, k3, k4]
      clear k1 k2 k3 k4
      go_wp2_with fail
      refine C.out.mono ?_
      rintro e w5 ⟨rfl, m, rfl⟩
      go_wp2_with fail
      go_ret
      exact ⟨rfl, Below.then_ bel4 (below_drawn m)⟩
    · obtain rfl := h12
      have k1 : okv na na = true := by simp [okv]
      have k2 : okv na nc = false := by simp [okv, h23]
      clear ra4 rb4
      rw [k2] at e2 e3
      rw [k1] at e1
      rw [k1, k2]
      clear k1 k2
      go_wp2_with fail
      go_ret
      exact ⟨rfl, bel4⟩
  · have k1 : okv na nb = false := by simp [okv, h12]
    have k2 : apv na nb fx fy = 0 := by simp [apv, h12]
    clear ra4 rb4
    rw [k1] at e1
    rw [k1, k2]
    clear k1 k2
    go_wp2_with fail
    go_ret
    exact ⟨rfl, bel4⟩

theorem bit256 {l : List Nat} (h : ∀ b ∈ l, b ≤ 1) : ∀ b ∈ l, b < 256 := fun b hb => by have := h b hb; omega
theorem Rd.cut64 {w : World} {B : Nat} {A : Option Addr} {n : Nat} {zs : List Int} (h : Rd w B A n (I64 zs)) (k : Nat) (hk : k ≤ n) : Rd w B A k (I64 (zs.take k)) := by
  refine ⟨?_, fun h0 => ?_⟩
  · have := h.len
    rw [I64_length] at *
    rw [List.length_take]; omega
  · obtain ⟨b, off, e, hlt, hc⟩ := h.at_ (by omega)
    refine ⟨b, off, e, hlt, fun i u hu => hc i u ?_⟩
    unfold I64 at *
    rw [List.map_take, List.getElem?_take] at hu
    split at hu
    · exact hu
    · cases hu

set_option maxHeartbeats 2000000 in
/-- BitsTurns. -/
theorem walk6 (A1 A2 : Option Addr) (n1 n2 c1 c2 : Nat) (xs : List Nat) (zs : List Int) (w : World) (h1 : Rd w w.heap.size A1 n1 (U8 xs)) (h2 : Rd w w.heap.size A2 n2 (I64 zs))
    (b1 : ∀ b ∈ xs, b < 256) (m1 : n1 ≤ 9223372036854775807) (m2 : n2 ≤ c2) (m3 : c2 ≤ 9223372036854775807) :
    Calls Try.prog 6 #[.slice A1 n1 c1, .slice A2 n2 c2] w fun e w' => e = .returned (.bool true) ∧ Below w.heap.size w w' := by
  go_enter Try.func6, Try.ntmps6
  go_wp2_with fail
  refine (fewC A1 n1 c1 100 xs _ h1 b1 (by omega) m1).mono ?_
  rintro e wa ⟨Aa, na, ca, rfl, owa, bea⟩
  have na' : na ≤ 100 := by rw [owa.rd.len8, Bm.few_length]; omega
  have ba := Bm.few_bit xs 100
  generalize Bm.few xs 100 = fl at *
  obtain ⟨k, hk, hk2, hcase⟩ : ∃ k : Nat, k ≤ 20 ∧ k ≤ n2 ∧ ((n2 = k ∧ n2 ≤ 20) ∨ (k = 20 ∧ 20 < n2)) := ⟨min n2 20, by omega, by omega, by omega⟩
  have rz := ((h2.cut64 k hk2).below bea).up bea.size
  clear h1 h2 b1
  generalize zs.take k = ys at *
  have T1 := Lib.hid (Bm.trn_twice fl ys)
  rcases hcase with ⟨rfl, h20⟩ | ⟨rfl, h20⟩
  all_goals
    go_wp2_with fail
    refine (turn _ _ _ _ _ _ fl ys _ (owa.rdOf (Below.refl _ _)) owa.none_ rz (bit256 ba) (by omega) (by omega)).mono ?_
    rintro e wb ⟨Ab, nb, cb, rfl, owb, beb⟩
    have nb' : nb ≤ 100 := by rw [owb.rd.len8, Bm.trn_length, ← owa.rd.len8]; exact na'
    go_wp2_with fail
    refine (turn _ _ _ _ _ _ (Bm.trn fl ys) ys _ (owb.rdOf (Below.refl _ _)) owb.none_ ((rz.below beb).up beb.size) (lt256 (bit256 ba) ys) (by omega) (by omega)).mono ?_
    rintro e wc ⟨Ac, nc, cc, rfl, owc, bec⟩
    rw [T1.out] at owc
    have la := Lib.hid owa.rd.len8
    have owa2 := (owa.below beb (Nat.le_refl _)).below bec (Nat.le_refl _)
    have bel := Below.then_ (Below.then_ bea beb) bec
    have W1 := Lib.hid (Bm.wt_all fl ba)
    have W2 := Lib.hid (Bm.ap_all fl)
    have W3 := Bm.wt_le fl
    have W4 := Bm.wt_le (Bm.trn fl (Bm.allTo fl.length))
    rw [Bm.trn_length] at W4
    have BA := Lib.hid ba
    clear ba owa owb bea beb bec rz T1
    go_wp2
    go_loopw [6, 7] (fun l i wr => ∃ j : Nat, j ≤ na ∧ i = .int .i64 j ∧ ∃ Ad cd, l = .slice Ad j cd ∧ Own wr wc.heap.size 3 Ad j cd (I64 (Bm.allTo j)) ∧ Below wc.heap.size wc wr) (fun _ i _ => na - (intOf i).toNat)
    case atStart => exact ⟨0, Nat.zero_le _, rfl, none, 0, rfl, Own.nil _ _ _, Below.refl _ _⟩
    case round =>
      obtain ⟨j, hj, rfl, Ad, cd, rfl, owd, bed⟩ := hrel
      have hsz := bed.size
      by_cases hlt : j < na
      · go_wp2_with (at_builtin; refine app64 _ rfl _ _ rfl wc.heap.size _ _ _ _ _ rfl owd rfl (by omega) hsz ?_; intro A3 c3 w3 hown3 hgrow3)
        go_roundw
        case rel =>
          exact ⟨j + 1, by omega, by go_num, A3, c3, rfl, by rw [Bm.allTo_succ]; exact hown3, bed.grown hgrow3 hsz (fun j hj => (owd.block j hj).1)⟩
        case measure => simp [intOf] <;> omega
      · have hja : j = na := by omega
        subst hja
        clear hlt hj hsz
        have owl := owa2.below bed (Nat.le_refl _)
        have owt := owc.below bed (Nat.le_refl _)
        have bel2 := Below.then_ bel bed
        have hall : Bm.allTo j = Bm.allTo fl.length := by rw [la.out]
        rw [hall] at owd
        have rd := owd.rdOf (Below.refl _ _)
        clear hall
        clear owa2 owc bel bed owd
        go_wp2_with fail
        refine (turn _ _ _ _ _ _ fl (Bm.allTo fl.length) _ (owl.rdOf (Below.refl _ _)) owl.none_ rd (bit256 BA.out) (by omega) (by omega)).mono ?_
        rintro e we ⟨Ae, ne, ce, rfl, owe, bee⟩
        have lu : ne = j := by rw [owe.rd.len8, Bm.trn_length, ← la.out]
        subst lu
        have bel3 := Below.then_ bel2 bee
        have owl3 := owl.below bee (Nat.le_refl _)
        have owt3 := owt.below bee (Nat.le_refl _)
        clear owl owt bel2 bee rd
        go_wp2_with fail
        refine (apart _ _ _ _ _ fl (Bm.trn fl (Bm.allTo fl.length)) _ (owl3.rdOf (Below.refl _ _)) (owe.rdOf (Below.refl _ _)) (bit256 BA.out) (lt256 (bit256 BA.out) _) (by omega)).mono ?_
        rintro e wf ⟨rfl, q, rfl⟩
        rw [W2.out, ← la.out]
        go_wp2_with fail
        refine (tells _).mono ?_
        rintro e wg ⟨rfl, beg⟩
        have bg : Below we.heap.size we wg := (below_drawn q).trans beg
        have owl4 := owl3.below bg (Nat.le_refl _)
        have owt4 := owt3.below bg (Nat.le_refl _)
        have owe4 := owe.below bg (Nat.le_refl _)
        have bel4 := Below.then_ bel3 bg
        have cv1 := owl4.conv wg (Below.refl _ _)
        have cv2 := owt4.conv wg (Below.refl _ _)
        generalize str fl = sl at *
        have C1 := Lib.hid (weight _ _ ce _ wg (owe4.rdOf (Below.refl _ _)) (lt256 (bit256 BA.out) _) (by omega))
        have C2 := Lib.hid (weight _ _ ca _ wg (owl4.rdOf (Below.refl _ _)) (bit256 BA.out) (by omega))
        have hw : Bm.wt (Bm.trn fl (Bm.allTo fl.length)) + Bm.wt fl = ne := by rw [W1.out, la.out]
        have l1 : Bm.wt fl ≤ ne := by omega
        have l2 : Bm.wt (Bm.trn fl (Bm.allTo fl.length)) ≤ ne := by omega
        generalize Bm.wt (Bm.trn fl (Bm.allTo fl.length)) = p at *
        generalize Bm.wt fl = p2 at *
        have t1 : ((p : Int) == (ne : Int) - (p2 : Int)) = true := by simp; omega
        clear hw owl3 owt3 owe bel3 bg beg owl4 owt4 owe4 W1 W2 W3 W4
        go_wp2_with fail
        refine C1.out.mono ?_
        rintro e w9 ⟨rfl, rfl⟩
        go_wp2_with fail
        refine C2.out.mono ?_
        rintro e w9 ⟨rfl, rfl⟩
        go_wp2_with fail
        go_ret
        exact ⟨rfl, bel4⟩
end Go.Proofs.Ytcddbcknjcedfaa
