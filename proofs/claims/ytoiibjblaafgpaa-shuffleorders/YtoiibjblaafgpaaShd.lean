/-
  The walks of ShuffleSquare, ShuffleOrders.
-/
import Derived.Test.YtoiibjblaafgpaaShc
namespace Go.Proofs.Ytoiibjblaafgpaa
open Go.RowKit
set_option maxRecDepth 100000
set_option linter.unusedVariables false
set_option linter.unusedSimpArgs false
set_option maxRecDepth 100000

theorem colN_full (r wide c : Nat) (hc : c < wide) : Sh.colN (r * wide) wide c = r := by
  unfold Sh.colN
  refine Nat.div_eq_of_lt_le (by omega) ?_
  rw [Nat.succ_mul]; omega
theorem wd_full (r wide : Nat) (hr : 1 ≤ r) : wd (r * wide) r = wide := by
  unfold wd
  refine Nat.div_eq_of_lt_le ?_ ?_
  · rw [Nat.mul_comm]; omega
  · rw [Nat.succ_mul, Nat.mul_comm wide r]; omega
theorem cols_full (r wide : Nat) (hr : 1 ≤ r) : ∀ m, m ≤ wide → Sh.cols (r * wide) wide m = (List.range (m * r)).map fun k => k % r * wide + k / r
  | 0, _ => by simp [Sh.cols]
  | m + 1, hm => by
    rw [Sh.cols_succ, cols_full r wide hr m (by omega), Nat.succ_mul, List.range_add, List.map_append]
    congr 1
    unfold Sh.col
    rw [colN_full r wide m (by omega), List.map_map]
    refine List.map_congr_left (fun x hx => ?_)
    rw [List.mem_range] at hx
    show x * wide + m = (m * r + x) % r * wide + (m * r + x) / r
    rw [Nat.mul_comm m r, Nat.mul_add_mod, Nat.mod_eq_of_lt hx, Nat.mul_add_div (by omega), Nat.div_eq_of_lt hx, Nat.add_zero]
theorem ordl_full (r wide k : Nat) (hr : 1 ≤ r) (hk : k < r * wide) : (Sh.ordl (r * wide) wide).getD k 0 = k % r * wide + k / r := by
  unfold Sh.ordl
  rw [cols_full r wide hr wide (Nat.le_refl _)]
  rw [Bm.getD_lt _ _ _ (by rw [List.length_map, List.length_range, Nat.mul_comm]; exact hk), List.getElem_map, List.getElem_range]
set_option maxHeartbeats 1000000 in
/-- ShuffleSquare: the walk. -/
theorem shuffleSquare (x y : Int) (w : World) : Calls Try.prog 8 #[.int .i64 x, .int .i64 y] w fun e w' => e = .returned (.bool true) ∧ Below w.heap.size w w' := by
  obtain ⟨u, hu, hu2⟩ := wrap_u64 x
  obtain ⟨v, hv, hv2⟩ := wrap_u64 y
  obtain ⟨r, hr1, hr2, hr3⟩ : ∃ r : Nat, 2 ≤ r ∧ r ≤ 21 ∧ 2 + (u : Int) % 20 = (r : Int) := ⟨2 + u % 20, by omega, by omega, by omega⟩
  obtain ⟨d, hd1, hd2, hd3⟩ : ∃ d : Nat, 2 ≤ d ∧ d ≤ 21 ∧ 2 + (v : Int) % 20 = (d : Int) := ⟨2 + v % 20, by omega, by omega, by omega⟩
  have HG := Lib.hid (fun k hk => ordl_full r d k (by omega) hk)
  have HQ := Lib.hid (fun k (hk : k < r * d) => (show k / r < d from Nat.div_lt_of_lt_mul hk))
  have hn2 : r * d ≤ 21 * 21 := Nat.mul_le_mul hr2 hd2
  have CO := shOrder (r * d) r w (by omega) (by omega)
  rw [wd_full r d (by omega)] at CO
  have em : (r : Int) * (d : Int) = ((r * d : Nat) : Int) := by simp
  generalize Sh.ordl (r * d) d = O at *
  generalize r * d = n at *
  have CO' := Lib.hid CO
  have CS := Lib.hid shuffles
  clear CO
  go_enter Try.func8, Try.ntmps8
  go_wp2_with (first | (go_at_call 39; refine CO'.out.mono ?_; rintro e w1 ⟨A, c, rfl, own, b1⟩) | (go_at_call 41; refine (CS.out _).mono ?_; rintro e w2 ⟨rfl, b2⟩))
  have b12 := Below.then_ b1 b2
  have rd := own.rdOf b2
  clear own b1 CO' CS
  go_loopw [9] (fun x wr => ∃ k : Nat, k ≤ n ∧ x = .int .i64 (k : Int) ∧ Below w2.heap.size w2 wr) (fun x _ => n - (intOf x).toNat)
  case atStart => exact ⟨0, by omega, rfl, Below.refl _ _⟩
  case round =>
    obtain ⟨k, hk, rfl, bel⟩ := hrel
    by_cases hlt : k < n
    · have d1 : decide ((k : Int) < (n : Int)) = true := by simp; omega
      obtain ⟨b, off, hA, hlb, kc⟩ := (rd.below bel).cellN k hlt
      subst hA
      rw [HG.out k hlt] at kc
      have hq := HQ.out k hlt
      have hm : k % r < r := Nat.mod_lt _ (by omega)
      have hp : k % r * d ≤ 21 * 21 := Nat.mul_le_mul (by omega) (by omega)
      have t1 : ((k : Int).tmod (r : Int)) = ((k % r : Nat) : Int) := by simp [Int.tmod]
      have t1' : ((k : Int) % (r : Int)) = ((k % r : Nat) : Int) := by simp
      have t2 : ((k : Int).tdiv (r : Int)) = ((k / r : Nat) : Int) := by simp [Int.tdiv]
      have t2' : ((k : Int) / (r : Int)) = ((k / r : Nat) : Int) := by simp
      have t3 : ((k % r : Nat) : Int) * (d : Int) = ((k % r * d : Nat) : Int) := by simp
      generalize k / r = q at *
      generalize k % r * d = p at *
      generalize k % r = m at *
      obtain ⟨s, hs⟩ : ∃ s, s = p + q := ⟨_, rfl⟩
      have t4 : (p : Int) + (q : Int) = (s : Int) := by omega
      rw [← hs] at kc
      have hs2 : s ≤ 1000 := by omega
      have tn : ((s : Int) != (s : Int)) = false := by simp
      have f1 : (k : Int) < (n : Int) := by omega
      have hr0 : ¬ (r : Int) = 0 := by omega
      have w3 : IntKind.i64.wrap ((m : Int) * (d : Int)) = (p : Int) := by rw [t3]; exact IntWalk.i64_in _ (by omega)
      have w4 : IntKind.i64.wrap ((p : Int) + (q : Int)) = (s : Int) := by rw [t4]; exact IntWalk.i64_in _ (by omega)
      clear hs
      go_upto_region 9 with fail
      go_quiet (fail)
      go_wp2
      go_roundw
      case rel => exact ⟨k + 1, by omega, by go_num, bel.trans (below_drawn _)⟩
      case measure => simp [intOf] <;> omega
    · have d1 : decide ((k : Int) < (n : Int)) = false := by simp; omega
      go_wp2
      go_ret
      exact ⟨rfl, Below.then_ b12 bel⟩
/-- Which places have been seen. -/
def sb (n : Nat) (O : List Nat) (k : Nat) : List Bool := (List.range n).map fun p => decide (p ∈ O.take k)
theorem sb_length (n : Nat) (O : List Nat) (k : Nat) : (sb n O k).length = n := by simp [sb]
def BB (l : List Bool) : Array Value := (l.map fun b => Value.bool b).toArray
theorem BB_size (l : List Bool) : (BB l).size = l.length := by simp [BB]
theorem sb_zero (n : Nat) (O : List Nat) : sb n O 0 = List.replicate n false := by
  refine List.ext_getElem (by simp [sb]) (fun i h1 h2 => by simp [sb])
theorem sb_at {n : Nat} {O : List Nat} (ho : Sh.Ord n O) (k : Nat) (hk : k < n) : (BB (sb n O k))[O.getD k 0]? = some (.bool false) ∧ (BB (sb n O k)).setIfInBounds (O.getD k 0) (.bool true) = BB (sb n O (k + 1)) := by
  have hp := ho.lt k hk
  have hnot : O.getD k 0 ∉ O.take k := by
    intro h
    obtain ⟨j, hj, e⟩ := List.getElem_of_mem h
    rw [List.length_take, ho.len] at hj
    rw [List.getElem_take] at e
    have hjk := ho.inj j k (by omega) hk (by rw [Bm.getD_lt _ _ _ (by rw [ho.len]; omega)]; exact e)
    omega
  have htk : O.take (k + 1) = O.take k ++ [O.getD k 0] := by
    rw [List.take_succ_eq_append_getElem (by rw [ho.len]; exact hk), Bm.getD_lt _ _ _ (by rw [ho.len]; exact hk)]
  generalize O.getD k 0 = p at *
  constructor
  · simp [BB, sb, hp, hnot]
  · unfold BB
    rw [List.setIfInBounds_toArray]
    congr 1
    refine List.ext_getElem (by simp [sb]) (fun i h1 h2 => ?_)
    rw [List.getElem_set]
    simp only [sb, List.getElem_map, List.getElem_range, htk]
    by_cases h : p = i
    · rw [if_pos h]; simp [h]
    · rw [if_neg h]
      congr 1
      apply decide_eq_decide.2
      simp [fun e : i = p => h e.symm]
      exact fun e => absurd e.symm h
theorem mkBB (n : Nat) : (madeCells (Value.bool false).cells (n * 1)) = BB (List.replicate n false) := by
  apply Array.ext'
  show (madeCells #[Value.bool false] (n * 1)).toList = _
  rw [toList_madeCells_one, Nat.mul_one]
  simp [BB]
theorem infoB4 : (Try.prog.info? 4).map (fun i => (i.zero, i.size, i.bytes)) = some (some (.bool false), 1, 1) := by kernel_rfl
theorem infoB4one : (Try.prog.info? 4).map (·.size) = some 1 := by kernel_rfl
theorem apr33_eq {n rows : Nat} {O A A' : List Nat} (ho : Sh.Ord n O) (h : 2 ≤ n → Sh.Wh n O A) (h' : 2 ≤ n → Sh.Wh n O A') : apr33 n rows A = apr33 n rows A' := by
  unfold apr33
  by_cases h2 : n < 2
  · rw [if_pos h2, if_pos h2]
  · rw [if_neg h2, if_neg h2, (h (by omega)).tk.uniq (h' (by omega)).tk ho]
set_option maxHeartbeats 1000000 in
theorem shApartNo (n rows : Int) (w : World) (h : n < 0 ∨ 65536 < n ∨ rows < 1 ∨ 64 < rows) : Calls Try.prog 40 #[.int .i64 n, .int .i64 rows] w fun e w' => e = .returned (.tuple #[.int .i64 0, .int .i64 1]) ∧ w = w' := by
  have CO := Lib.hid (shOrderNo n rows w h)
  clear h
  go_enter Try.func40, Try.ntmps40
  go_wp2_with (go_at_call 39; refine CO.out.mono ?_; rintro e w1 ⟨rfl, rfl⟩)
  go_ret2
  exact ⟨rfl, rfl⟩
set_option maxHeartbeats 2000000 in
/-- ShuffleOrders: the walk. -/
theorem shuffleOrders (x rows : Int) (w : World) (hx : -9223372036854775808 ≤ x ∧ x ≤ 9223372036854775807) : Calls Try.prog 6 #[.int .i64 x, .int .i64 rows] w fun e w' => e = .returned (.bool true) ∧ Below w.heap.size w w' := by
  obtain ⟨i0, hi0, hz0, hz1, hz2⟩ := info_parts infoB4
  obtain ⟨bb, hbb⟩ : ∃ bb, bb = decide (300 < x ∧ x ≤ 65536) := ⟨_, rfl⟩
  have CS := Lib.hid shuffles
  go_enter Try.func6, Try.ntmps6
  go_upto_region 1 with fail
  go_cut [17] (fun s17 wc => s17 = .bool bb ∧ w = wc)
  case first =>
    by_cases h1 : 300 < x
    · have d1 : decide (300 < x) = true := by simp; omega
      have d1' : decide (x > 300) = true := by simp; omega
      have d2 : decide (x ≤ 65536) = bb := by rw [hbb, decide_eq_decide]; omega
      clear hbb
      go_wp2_with fail
      go_meet
      case rel => exact ⟨rfl, rfl⟩
    · have d1 : decide (300 < x) = false := by simp; omega
      have d1' : decide (x > 300) = false := by simp; omega
      obtain rfl : bb = false := by rw [hbb]; simp; omega
      clear hbb
      go_wp2_with fail
      go_meet
      case rel => exact ⟨rfl, rfl⟩
  obtain ⟨rfl, rfl⟩ := hcut
  go_upto_if 17 with fail
  go_cut [0] (fun s0 wc => ∃ n : Int, s0 = .int .i64 n ∧ (n ≤ 300 ∨ 65536 < n) ∧ w = wc)
  case first =>
    cases bb with
    | true =>
      have h1 : 300 < x ∧ x ≤ 65536 := by simpa using hbb.symm
      obtain ⟨N, rfl⟩ : ∃ N : Nat, x = (N : Int) := ⟨x.toNat, by omega⟩
      have t1 : ((N : Int).tmod 300) = ((N % 300 : Nat) : Int) := by simp [Int.tmod]
      clear hbb
      go_wp2_with fail
      go_meet
      case rel => exact ⟨((N % 300 : Nat) : Int), by first | rfl | (rw [← t1]; rfl) | simp, .inl (by omega), rfl⟩
    | false =>
      have h1 : ¬ (300 < x ∧ x ≤ 65536) := by simpa using hbb.symm
      clear hbb
      go_wp2_with fail
      go_meet
      case rel => exact ⟨x, rfl, by omega, rfl⟩
  obtain ⟨n, rfl, hn, rfl⟩ := hcut
  clear hbb hx
  by_cases hok : 0 ≤ n ∧ n ≤ 65536 ∧ 1 ≤ rows ∧ rows ≤ 64
  · obtain ⟨N, rfl⟩ : ∃ N : Nat, n = (N : Int) := ⟨n.toNat, by omega⟩
    obtain ⟨R, rfl⟩ : ∃ R : Nat, rows = (R : Int) := ⟨rows.toNat, by omega⟩
    have hN : N ≤ 300 := by omega
    have hR : 1 ≤ R ∧ R ≤ 64 := by omega
    have C1 := Lib.hid (fun W => shOrder N R W (by omega) hR)
    have C2 := Lib.hid (fun W => shApart N R W (by omega) hR)
    have C3 := Lib.hid (fun W => refRight33 N R W (by omega) hR)
    have C4 := Lib.hid (fun W => refOrder33 N R W (by omega) hR)
    have C5 := Lib.hid (fun W => refApart33 N R W (by omega) hR)
    have HO := Lib.hid (ord_all N R hR.1)
    generalize Sh.ordl N (wd N R) = O at *
    clear hok hn
    go_upto_region 10 with (first | (go_at_call 39; refine (C1.out _).mono ?_; rintro e w1 ⟨A1, c1, rfl, own1, b1⟩) | (go_at_call 40; refine (C2.out _).mono ?_; rintro e w2 ⟨⟨P1, hP1, rfl⟩, b2⟩) | (go_at_call 41; refine (CS.out _).mono ?_; rintro e w3 ⟨rfl, b3⟩) | (go_at_call 42; refine (C3.out _).mono ?_; rintro e w' ⟨rfl, rfl⟩) | (go_at_call 43; refine (C4.out _).mono ?_; rintro e w4 ⟨A4, c4, rfl, own4, b4⟩))
    have C5' : Hid (∀ W, Calls Try.prog 44 #[.int .i64 (N : Int), .int .i64 (R : Int)] W fun e w' => e = .returned (.int .i64 ((apr33 N R P1 : Nat) : Int)) ∧ Below W.heap.size W w') := fun W => (C5.out W).mono (by
      rintro e w' ⟨⟨P2, hP2, rfl⟩, hb⟩
      exact ⟨by rw [apr33_eq HO.out hP2 hP1], hb⟩)
    clear hP1 C5
    generalize apr33 N R P1 = a at *
    have t0 : ((a : Int) != (a : Int)) = false := by simp
    have bw4 := Below.then_ (Below.then_ (Below.then_ b1 b2) b3) b4
    have r14 := (((own1.rdOf b2).below b3).up b3.size)
    have r1 := r14.below b4
    have r1u := r1.up b4.size
    have r4 := own4.rd
    clear own1 own4 b1 b2 b3 b4 r14 r1 C1 C2 C3 C4 CS
    go_upto_region 12 with (go_at_call 44; refine (C5'.out _).mono ?_; rintro e w5 ⟨rfl, b5⟩)
    have bw5 := Below.then_ bw4 b5
    have r15 := (r1u.below b5).up b5.size
    have r45 := (r4.below b5).up b5.size
    clear C5' b5 bw4 r1u r4
    go_wp2_with (at_make; refine wpList_make_full _ rfl _ _ 67 rfl w5.heap.size 4 i0 (.bool false) 1 Try.underlying67 hi0 hz0 hz1 .i64 .i64 _ _ N rfl rfl (by first | rfl | omega) (by first | rfl | omega) (by rw [hz2]; omega) (by unfold maxLen; omega) (Nat.le_refl _) ?_; intro w6 hown6 hgrow6)
    have bel6 : Below w5.heap.size w5 w6 := (Below.refl _ _).grown hgrow6 (Nat.le_refl _) (fun k h => by cases h)
    have q6 : Blk w6 w5.heap.size 4 (BB (sb N O 0)) := by
      have h : Own w6 w5.heap.size 4 (some ⟨w5.heap.size, 0, none⟩) N N (madeCells (Value.bool false).cells (N * 1)).toList := ⟨hown6⟩
      have h2 := h.whole_
      rw [mkBB] at h2
      rw [sb_zero]
      exact h2
    obtain ⟨g, hg⟩ : ∃ g, g = w5.heap.size := ⟨_, rfl⟩
    have HG : Hid (w.heap.size ≤ g) := by rw [hg]; exact bw5.size
    rw [← hg] at q6 r15 r45 bel6
    rw [← hg]
    clear hown6 hgrow6 hi0 hz0 hz1 hz2 hg
    go_loopw [11] (fun x wr => ∃ k : Nat, k ≤ N ∧ x = .int .i64 (k : Int) ∧ Blk wr g 4 (BB (sb N O k)) ∧ Below g w5 wr) (fun x _ => N - (intOf x).toNat)
    case atStart => exact ⟨0, by omega, rfl, q6, bel6⟩
    case round =>
      clear q6 bel6
      obtain ⟨k, hk, rfl, q, bel⟩ := hrel
      by_cases hlt : k < N
      · have d1 : decide ((k : Int) < (N : Int)) = true := by simp; omega
        obtain ⟨b, off, hA, hlb, kc⟩ := (r15.below bel).cellN k hlt
        subst hA
        obtain ⟨b', off', hA, hlb', kc'⟩ := (r45.below bel).cellN k hlt
        subst hA
        obtain ⟨hat1, hat2⟩ := sb_at HO.out k hlt
        have hpn := HO.out.lt k hlt
        obtain ⟨p, hp⟩ : ∃ p, p = O.getD k 0 := ⟨_, rfl⟩
        rw [← hp] at kc kc' hat1 hat2 hpn
        clear hp
        have kp := (q.cell p).trans hat1
        have sz : p < (BB (sb N O k)).size := by rw [BB_size, sb_length]; exact hpn
        have HAT := Lib.hid hat2
        have t1 : ((p : Int) != (p : Int)) = false := by simp
        have f1 : (k : Int) < (N : Int) := by omega
        have f2 : (p : Int) < (N : Int) := by omega
        clear hat1 hat2
        go_upto_region 16 with fail
        go_quiet (fail)
        go_wp2_with (refine at_cell rfl 4 _ _ rfl g p (.bool true) rfl rfl 4 (BB (sb N O k)) q sz infoB4one rfl ?_; intro w7 h7)
        go_roundw
        case rel => exact ⟨k + 1, by omega, by go_num, by rw [← HAT.out]; exact h7.row, (bel.trans (below_drawn _)).trans (h7.below (Nat.le_refl _))⟩
        case measure => simp [intOf] <;> omega
      · have d1 : decide ((k : Int) < (N : Int)) = false := by simp; omega
        go_wp2
        go_ret
        exact ⟨rfl, bw5.trans (bel.mono HG.out)⟩
  · have hno : n < 0 ∨ 65536 < n ∨ rows < 1 ∨ 64 < rows := by omega
    have C1 := Lib.hid (fun W => shOrderNo n rows W hno)
    have C2 := Lib.hid (fun W => shApartNo n rows W hno)
    have C3 := Lib.hid (fun W => refRight33No n rows W hno)
    clear hok hn hno
    go_wp2_with (first | (go_at_call 39; refine (C1.out _).mono ?_; rintro e w1 ⟨rfl, rfl⟩) | (go_at_call 40; refine (C2.out _).mono ?_; rintro e w2 ⟨rfl, rfl⟩) | (go_at_call 41; refine (CS.out _).mono ?_; rintro e w3 ⟨rfl, b3⟩) | (go_at_call 42; refine (C3.out _).mono ?_; rintro e w' ⟨rfl, rfl⟩))
    go_ret
    exact ⟨rfl, b3⟩
end Go.Proofs.Ytoiibjblaafgpaa
