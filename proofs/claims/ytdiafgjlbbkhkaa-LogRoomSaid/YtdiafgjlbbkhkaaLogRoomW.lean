/- LogRoom: plain facts, the walk. -/
import Derived.Test.YtdiafgjlbbkhkaaLogQ
import Derived.Test.YtdiafgjlbbkhkaaDskX
namespace Go.Proofs.Ytdiafgjlbbkhkaa
open Go.RowKit Go.Maps

theorem doneOps_armed (o : List DOp) (M : DM) : (doneOps o M).armed = M.armed := by
  induction o generalizing M with
  | nil => rfl
  | cons x r ih => exact (ih _).trans (doneOp_size M x).2.2.1
/-- A disk on which no power goes, with so many steps at most. -/
structure Calmly (M : DM) (n k : Nat) : Prop where
  armed : M.armed = false
  size : M.size = n
  steps : M.steps ≤ 70 * k
  left : M.left = 0
theorem Calmly.append {M : DM} {n k : Nat} (h : Calmly M n k) (L : LG) (d : List UInt8) : Calmly (appR L M d).2.1 n (k + 1) := by
  unfold appR
  split
  · exact ⟨h.armed, h.size, by have := h.steps; show M.steps ≤ _; omega, h.left⟩
  · split
    · exact ⟨h.armed, h.size, by have := h.steps; show M.steps ≤ _; omega, h.left⟩
    · rename_i h1 _
      have hf := runOps_facts (appOps L.first L.recs L.next d) M
      have hl : (appOps L.first L.recs L.next d).length ≤ 70 := by rw [appOps_len]; unfold secs; omega
      have h2 : Calmly (runOps (appOps L.first L.recs L.next d) M).2 n (k + 1) := by
        refine ⟨?_, hf.1.trans h.size, by have := hf.2.1; have := h.steps; omega, by have := hf.2.2.1; have := h.left; omega⟩
        rw [runOps_alive h.armed]
        exact (doneOps_armed _ _).trans h.armed
      split
      · exact h2
      · exact h2
theorem Calmly.fit {M : DM} {n k T : Nat} (h : Calmly M n k) (hn : n ≤ 80) (hk : k ≤ 100) (hT : T ≤ 100000) : Fit M T 70 := ⟨by rw [h.size]; omega, by have := h.steps; omega, by rw [h.left]; omega, by omega⟩
theorem Calmly.new (n : Nat) : Calmly (DM.new n) n 0 := ⟨rfl, rfl, Nat.le_refl _, rfl⟩
theorem new_scan (n behind first : Nat) : scan (DM.new n).get behind first none = [] := scan_none (fun _ => hdr_zero)
theorem new_dirty (n : Nat) (L : LG) : L.dirty (DM.new n) = [] := by
  unfold LG.dirty dirtyL
  apply List.filter_eq_nil_iff.2
  intro i _
  show ¬ (!(zero64 == zero64)) = true
  simp
theorem new_ops (n first behind : Nat) : openOps (DM.new n) first behind = [] := by unfold openOps; rw [new_scan, if_pos (new_dirty n _)]
/-- With the room told, an Append of just so many bytes is done, and of one more refused. -/
theorem room_yes {L : LG} {M : DM} {n : Nat} {d : List UInt8} (ha : M.armed = false) (hr : L.room = (n : Int)) (hd : d.length = n) : (appR L M d).1 = 0 ∧ (appR L M d).2.2 = L.add L.next d := by
  have h4 : ¬ 4000 < d.length := by
    unfold LG.room at hr
    split at hr <;> omega
  unfold appR
  rw [if_neg h4, if_neg (by omega), if_pos (by rw [runOps_alive ha])]
  exact ⟨rfl, rfl⟩
theorem room_no {L : LG} {M : DM} {d : List UInt8} (hr : L.room < (d.length : Int)) (hd : d.length ≤ 4000) : (appR L M d).1 = 5 ∧ (appR L M d).2.2 = L := by
  unfold appR
  rw [if_neg (by omega), if_pos hr]
  exact ⟨rfl, rfl⟩
theorem room_no' {L : LG} {M : DM} {d : List UInt8} (hr : L.room < (d.length : Int)) (hd : d.length ≤ 4000) : appR L M d = (5, M, L) := by
  unfold appR
  rw [if_neg (by omega), if_pos hr]
theorem room_long' {L : LG} {M : DM} {d : List UInt8} (hd : 4000 < d.length) : appR L M d = (3, M, L) := by
  unfold appR
  rw [if_pos hd]
theorem room_long {L : LG} {M : DM} {d : List UInt8} (hd : 4000 < d.length) : (appR L M d).1 = 3 ∧ (appR L M d).2.2 = L := by
  unfold appR
  rw [if_pos hd]
  exact ⟨rfl, rfl⟩
theorem room_after {L : LG} {n : Nat} {d : List UInt8} (hr : L.room = (n : Int)) (hd : d.length = n) (hk : L.Ok) : n = 4000 ∨ (L.add L.next d).room = -1 := by
  by_cases h : n = 4000
  · exact .inl h
  · right
    have he := L.add_endd L.next d
    unfold LG.room at hr ⊢
    split at hr
    · omega
    · rename_i hx
      have h1 : ((L.behind - L.endd - 1 : Nat) : Int) * 64 = n := by omega
      have h2 := hk.endd
      have hx2 : (L.add L.next d).endd = (L.add L.next d).behind := by
        rw [he]
        show _ = L.behind
        unfold secs
        omega
      exact if_pos (.inl hx2)
theorem room_range (L : LG) : L.room = -1 ∨ ∃ n : Nat, L.room = (n : Int) ∧ n ≤ 4000 := by
  unfold LG.room
  split
  · exact .inl rfl
  · right
    exact ⟨(min (((L.behind - L.endd - 1 : Nat) : Int) * 64) 4000).toNat, by omega, by omega⟩

theorem Logged.below {w w' : World} {base q p bs bw T T' B : Nat} {L L' : LG} {v : Value} {M M' : DM} (h : LogD w base q p bs bw T L v M) (hl : Logged w w' base q p bs bw T' v M' L') (hB : B ≤ w.heap.size) (hp : B ≤ p ∧ B ≤ bs ∧ B ≤ bw ∧ B ≤ q) : Below B w w' := by
  obtain ⟨v', _, hf⟩ := hl
  refine hf.below hB (fun x hx => ?_)
  have := h.log.lt
  rcases List.mem_append.1 hx with h1 | h1
  · simp at h1; omega
  · have := own_ge h.log.row x h1; omega
set_option maxRecDepth 100000 in
set_option maxHeartbeats 4000000 in
theorem logRoom_out (m n k : Int) (A : Option Addr) (rows : List RowB) (c : Nat) (w : World) (h : m < 1 ∨ 80 < m) :
    Calls Try.prog 10 #[.agg #[.int .i64 m, .int .i64 n, .int .i64 k], .slice A rows.length c] w fun e w' => e = .returned (.bool true) ∧ Below w.heap.size w w' := by
  have hB0 : Below w.heap.size w (w.alloc (.cells #[.int .i64 m, .int .i64 n, .int .i64 k] 50)) := (Below.refl _ _).alloc (Nat.le_refl _) _
  have g5 := heap_alloc_new w (.cells #[.int .i64 m, .int .i64 n, .int .i64 k] 50)
  have H1 := Lib.hid (fun W => logAwake_any W)
  have HB0 := Lib.hid (And.intro hB0 g5)
  have hcase : m < 1 ∨ (¬ m < 1 ∧ 80 < m) := by omega
  clear hB0 g5 h
  rcases hcase with h1 | ⟨h1, h2⟩
  all_goals
    go_enter Try.func10, Try.ntmps10
    go_upto_region 1 with go_in
    generalize w.alloc (.cells #[.int .i64 m, .int .i64 n, .int .i64 k] 50) = W0 at HB0 ⊢
    go_upto_region 2 with (first
      | (go_at_call 26; (refine (H1.out W0).mono ?_); rintro e w1 ⟨rfl, hb1⟩; have gb := (hb1.block w.heap.size (heap_lt HB0.out.2)).trans HB0.out.2; have c0 := cell_of_row w1 w.heap.size 0 _ _ _ gb; have HB1 := Lib.hid (HB0.out.1.trans (lower' hb1 HB0.out.1.size)); clear hb1 gb)
      | go_in)
    go_wp2_with (first
      | (go_at_call 26; (refine (H1.out w1).mono ?_); rintro e w2 ⟨rfl, hb2⟩; have HB2 := Lib.hid hb2; clear hb2)
      | go_in)
    go_ret
    exact ⟨rfl, HB1.out.trans (lower' HB2.out HB1.out.size)⟩

theorem open_new {w : World} {p bs bw m : Nat} (hm : m ≤ 80) (hD : DiskM w p bs bw (DM.new m) 0) (first count : Nat) (hc : 2 ≤ count) (hfit : first + count ≤ m) :
    Calls Try.prog 27 #[.pointer (some ⟨p, 0, none⟩), .int .i64 (first : Int), .int .i64 (count : Int)] w fun e w' => ∃ q A c v, e = .returned (.tuple #[.pointer (some ⟨q, 0, none⟩), .slice A 0 c, .int .i64 0]) ∧ w.heap.size ≤ q ∧ LogD w' (q + 1) q p bs bw 4097 (LG.of first (first + count) []) v (DM.new m) ∧ Fr w w' [p, bs, bw] := by
  refine (open_any hD first count hc hfit ⟨by show m ≤ _; omega, by show 0 + 4097 ≤ _; omega, by show 0 ≤ _; omega, by omega⟩).mono ?_
  rintro e w' ⟨h1, _, h3⟩
  rw [new_ops] at h1
  obtain ⟨q, u, v, rfl, h4, h5, h6⟩ := h1 rfl
  rw [new_scan] at h5 h6
  obtain ⟨R, hR1, hR2, _⟩ := h5.ex
  have hR : R = [] := by cases R with
    | nil => rfl
    | cons a b => simp at hR1
  subst hR
  obtain ⟨A, c, rfl, _, _, _⟩ := own_shape hR2
  refine ⟨q, A, c, v, rfl, h4, ?_, h3⟩
  have h7 := h6
  rw [Nat.zero_add] at h7
  exact h7
set_option maxRecDepth 100000 in
set_option maxHeartbeats 4000000 in
theorem logRoom_in (m : Nat) (n k : Int) (A : Option Addr) (rows : List RowB) (c : Nat) (w : World) (h1 : 1 ≤ m) (h2 : m ≤ 80) (hk : -9223372036854775808 ≤ k ∧ k ≤ 9223372036854775807) (hr : Rd w w.heap.size A (rows.map RowB.v)) (hrows : ∀ r ∈ rows, r.ok w w.heap.size) :
    Calls Try.prog 10 #[.agg #[.int .i64 (m : Int), .int .i64 n, .int .i64 k], .slice A rows.length c] w fun e w' => e = .returned (.bool true) ∧ Below w.heap.size w w' := by
  have hB0 : Below w.heap.size w (w.alloc (.cells #[.int .i64 (m : Int), .int .i64 n, .int .i64 k] 50)) := (Below.refl _ _).alloc (Nat.le_refl _) _
  have g5 := heap_alloc_new w (.cells #[.int .i64 (m : Int), .int .i64 n, .int .i64 k] 50)
  have s5 := alloc1_size w (.cells #[.int .i64 (m : Int), .int .i64 n, .int .i64 k] 50)
  have H1 := Lib.hid (fun W => logAwake_any W)
  have HB0 := Lib.hid (And.intro hB0 (And.intro g5 s5))
  have HR := Lib.hid (And.intro hr hrows)
  have HM := Lib.hid (And.intro h1 (And.intro h2 hk))
  have m1 : ¬ (m : Int) < 1 := by omega
  have m2 : ¬ 80 < (m : Int) := by omega
  clear hB0 g5 s5 h1 h2 hr hrows hk
  go_enter Try.func10, Try.ntmps10
  go_upto_region 1 with go_in
  generalize w.alloc (.cells #[.int .i64 (m : Int), .int .i64 n, .int .i64 k] 50) = W0 at HB0 ⊢
  go_upto_region 3 with (first
    | (go_at_call 26; (refine (H1.out W0).mono ?_); rintro e w1 ⟨rfl, hb1⟩; have gb := (hb1.block w.heap.size (heap_lt HB0.out.2.1)).trans HB0.out.2.1; have c0 := cell_of_row w1 w.heap.size 0 _ _ _ gb; have HB1 := Lib.hid (And.intro hb1 gb); clear hb1 gb)
    | go_in)
  go_upto_region 6 with (first
    | (go_at_call 17; (refine (newM m w1 HM.out.1 (by have := HM.out.2.1; omega)).mono ?_); rintro e w2 ⟨rfl, hD, hF⟩)
    | go_in)
  have gb2 := (hF.block w.heap.size (heap_lt HB1.out.2) (by simp)).trans HB1.out.2
  have d1 := cell_of_row w2 w.heap.size 1 _ _ _ gb2
  have d2 := cell_of_row w2 w.heap.size 2 _ _ _ gb2
  have hB2 : Below W0.heap.size W0 w2 := HB1.out.1.trans (hF.below HB1.out.1.size (by simp))
  have H2 := Lib.hid (And.intro hD (And.intro hB2 HB1.out.1.size))
  clear hD hF gb2 hB2 c0
  by_cases hbad : openBad m n k
  · have ho := open_bad H2.out.1 n k HM.out.2.2 (by show m ≤ _; have := HM.out.2.1; omega) hbad
    have HO := Lib.hid ho
    clear ho hbad
    go_wp2_with (first
      | (go_at_call 27; (with_reducible refine HO.out.mono ?_); rintro e w3 ⟨rfl, rfl⟩)
      | go_in)
    go_ret
    exact ⟨rfl, HB0.out.1.trans (lower' H2.out.2.1 (by have := HB0.out.2.2; omega))⟩
  · obtain ⟨first, rfl⟩ : ∃ f : Nat, n = f := ⟨n.toNat, by unfold openBad at hbad; omega⟩
    obtain ⟨count, rfl⟩ : ∃ f : Nat, k = f := ⟨k.toNat, by unfold openBad at hbad; omega⟩
    have ho := open_new HM.out.2.1 H2.out.1 first count (by unfold openBad at hbad; omega) (by unfold openBad at hbad; omega)
    have HO := Lib.hid ho
    clear ho hbad
    go_upto_region 9 with (first
      | (go_at_call 27; (with_reducible refine HO.out.mono ?_); rintro e w3 ⟨q, A3, c3, v3, rfl, hq, hL, hF3⟩)
      | go_in)
    have hz := H2.out.2.2
    have hB3 : Below W0.heap.size W0 w3 := H2.out.2.1.trans (hF3.below H2.out.2.1.size (by simp; omega))
    have hqz : W0.heap.size ≤ q := Nat.le_trans H2.out.2.1.size hq
    have H3 := Lib.hid (And.intro hL (And.intro hB3 (And.intro hqz hz)))
    clear hL hF3 hB3 hq hqz hz d1 d2
    go_wp2_with go_in
    go_loopw [9] (fun i wr => ∃ (k T : Nat) (L : LG) (v : Value) (M : DM), k ≤ rows.length ∧ k ≤ 10 ∧ i = .int .i64 (k : Int) ∧ LogD wr (q + 1) q (w1.heap.size + 2) w1.heap.size (w1.heap.size + 1) T L v M ∧ Calmly M m k ∧ T ≤ 4097 + 70 * k ∧ Below W0.heap.size W0 wr)
      (fun i _ => rows.length - (intOf i).toNat)
    case atStart => exact ⟨0, _, _, _, _, by omega, by omega, rfl, H3.out.1, Calmly.new m, by omega, H3.out.2.1⟩
    case round =>
      obtain ⟨k, T, L, v, M, hk, hk10, rfl, hL, hC, hT, hb⟩ := hrel
      by_cases hgo : k < rows.length ∧ k < 10
      · obtain ⟨hkl, hk9⟩ := hgo
        have hkI : (k : Int) < (rows.length : Int) := by omega
        have hkJ : (k : Int) < 10 := by omega
        obtain ⟨r, hre⟩ : ∃ r, r = rows[k] := ⟨_, rfl⟩
        have hbw : Below w.heap.size w wr := HB0.out.1.trans (lower' hb (by have := HB0.out.2.2; omega))
        have hro : r.ok wr w.heap.size := by rw [hre]; exact (HR.out.2 _ (List.getElem_mem hkl)).below hbw (Nat.le_refl _)
        obtain ⟨ab, ao, rfl, hab, hcell⟩ := HR.out.1.get (k := k) (by simpa using hkl)
        have hrow : wr.cell? ⟨ab, ao + k, none⟩ = some (.slice r.A r.l.length r.c) := by
          have h := hcell
          simp only [List.getElem_map, ← hre] at h
          rw [show (Value.slice r.A r.l.length r.c) = r.v from rfl, ← h]
          exact hbw.cell (p := ⟨ab, ao + k, none⟩) hab
        clear hre hcell hbw
        obtain ⟨rA, rl, rc⟩ := r
        have hlc : (rl.length : Int) ≤ (rc : Int) := by have h : rl.length ≤ rc := hro.2.1; omega
        have hcb : (rc : Int) ≤ 140737488351232 := by have h : rc ≤ 140737488351232 := hro.2.2; omega
        have hd4 : (rl.take 400).length = (min (rl.length : Int) 400).toNat := by rw [List.length_take]; omega
        have hap := append_any (hL.kept (w' := wr.drew) (Below.refl _ _).drew) rA (rl.take 400) rc w.heap.size (by rw [u8s_take]; exact (hro.1.take 400).drew) (Nat.le_trans (by have := HB0.out.2.2; omega) hb.size) (fun hne a ha => by
          obtain ⟨b', o', e', hb', _⟩ := hro.1 (by intro e; apply hne; have := congrArg List.length e; rw [u8s_len] at this; simp at this; simp [this])
          rw [ha] at e'; cases e'
          have h3 := H3.out.2.2.2
          have h5 := HB0.out.2.2
          show b' ≠ _ ∧ b' ≠ _ ∧ b' ≠ _
          omega) (by rw [List.length_take]; omega) (by have := hro.2.1; have := hro.2.2; show rc ≤ _; omega) (hC.fit HM.out.2.1 (by omega) (by omega))
        rw [hd4] at hap
        have hcalm := hC.append L (rl.take 400)
        have HAP := Lib.hid hap
        have HX := Lib.hid (And.intro hL (And.intro hcalm (And.intro hT (And.intro hb hkl))))
        clear hd4 hap hcalm hL hC hT hb hkl hro
        go_upto_region 12 with go_in
        go_region_with (go_at_call 29; (with_reducible refine HAP.out.mono ?_); rintro e w5 ⟨rfl, hlg⟩)
        all_goals
          have HLG := Lib.hid hlg
          clear hlg
          go_wp2_with go_in
          obtain ⟨v5, hl5, hf5⟩ := HLG.out
          have hx := HX.out
          have h3 := H3.out.2.2
          have hbF : Below W0.heap.size wr.drew w5 := Logged.below (hx.1.kept (w' := wr.drew) (Below.refl _ _).drew) HLG.out hx.2.2.2.1.size (by omega)
          exact ⟨⟨k + 1, _, _, v5, _, hx.2.2.2.2, by omega, by simp, hl5, hx.2.1, by omega, hx.2.2.2.1.drew.trans hbF⟩, by simp [intOf]; have := hx.2.2.2.2; omega⟩
      · have hLd := hL
        have hbd := hb
        have hx' : (¬ (k : Int) < (rows.length : Int)) ∨ ((k : Int) < (rows.length : Int) ∧ ¬ (k : Int) < 10) := by omega
        have hroom := room_any hLd.log
        have hT2 : T ≤ 5000 := by omega
        clear hL hb hgo hT
        rcases room_range L with hrm | ⟨n, hrm, hn4⟩
        · rw [hrm] at hroom
          have hapn : ∀ (w5 : World), Below wr.heap.size wr w5 → Calls Try.prog 29 #[.pointer (some ⟨q, 0, none⟩), .slice none 0 0] w5 fun e w' => e = .returned (.int .i64 (appR L M []).1) ∧ Logged w5 w' (q + 1) q (w1.heap.size + 2) w1.heap.size (w1.heap.size + 1) (T + 70) v (appR L M []).2.1 (appR L M []).2.2 := fun w5 hb5 => append_any (hLd.kept hb5) none [] 0 0 (fun h => absurd rfl h) (Nat.zero_le _) (fun h => absurd rfl h) (Nat.le_refl _) (by omega) (hC.fit HM.out.2.1 (by omega) (by omega))
          rw [(room_no (M := M) (d := []) (by rw [hrm]; simp) (by simp)).1] at hapn
          have HR2 := Lib.hid hroom
          have HAN := Lib.hid hapn
          have HX := Lib.hid (And.intro hLd hbd)
          clear hroom hapn hLd hbd hrm hT2 hC
          rcases hx' with k1 | ⟨k1, k2⟩
          all_goals
            go_wp2_with (first
              | (go_at_call 38; (with_reducible refine HR2.out.mono ?_); rintro e w5 ⟨rfl, hb5⟩; have HB5 := Lib.hid hb5; have HA2 := Lib.hid (HAN.out w5 hb5); clear hb5)
              | (go_at_call 29; (with_reducible refine HA2.out.mono ?_); rintro e w6 ⟨rfl, hlg⟩; have HLG := Lib.hid hlg; clear hlg)
              | go_in)
            go_ret
            have hx := HX.out
            have h3 := H3.out.2.2
            have h0 := HB0.out.2.2
            have hbF : Below W0.heap.size w5 w6 := Logged.below (hx.1.kept HB5.out) HLG.out (Nat.le_trans hx.2.size HB5.out.size) (by omega)
            exact ⟨rfl, HB0.out.1.trans (lower' (hx.2.trans ((lower' HB5.out hx.2.size).trans hbF)) (by omega))⟩
        · rw [hrm] at hroom
          have hd3 : (List.replicate n (0 : UInt8)).length = n := List.length_replicate
          have hy := room_yes (d := List.replicate n 0) hC.armed hrm hd3
          have hao := room_after (d := List.replicate n 0) hrm hd3 hLd.log.ok
          have hfit : ∀ T', T' ≤ 10000 → Fit M T' 70 := fun T' h => hC.fit HM.out.2.1 (by omega) (by omega)
          have c1 : n < 4000 → ∀ (w5 : World) (v5 : Value) (T5 : Nat), T5 ≤ 10000 → LogD w5 (q + 1) q (w1.heap.size + 2) w1.heap.size (w1.heap.size + 1) T5 L v5 M → Calls Try.prog 29 #[.pointer (some ⟨q, 0, none⟩), .slice (some ⟨w5.heap.size, 0, none⟩) (n + 1) (n + 1)] (w5.alloc (.cells (u8s (List.replicate (n + 1) 0)).toArray 5)) fun e w' => e = .returned (.int .i64 5) ∧ Logged w5 w' (q + 1) q (w1.heap.size + 2) w1.heap.size (w1.heap.size + 1) (T5 + 70) v5 M L := fun hlt w5 v5 T5 hT5 h => by
            have ha := append_new h (List.replicate (n + 1) 0) (n := n + 1) List.length_replicate (by omega) (hfit _ hT5) (0, 0)
            rw [room_no' (by rw [hrm, List.length_replicate]; omega) (by rw [List.length_replicate]; omega)] at ha
            exact ha
          obtain ⟨Z2, hZ2⟩ : ∃ Z : List UInt8, Z = List.replicate 4001 0 := ⟨_, rfl⟩
          obtain ⟨Z3, hZ3⟩ : ∃ Z : List UInt8, Z = List.replicate n 0 := ⟨_, rfl⟩
          have c2 : ∀ (w5 : World) (v5 : Value) (T5 : Nat), T5 ≤ 10000 → LogD w5 (q + 1) q (w1.heap.size + 2) w1.heap.size (w1.heap.size + 1) T5 L v5 M → Calls Try.prog 29 #[.pointer (some ⟨q, 0, none⟩), .slice (some ⟨w5.heap.size, 0, none⟩) 4001 4001] (w5.alloc (.cells (u8s Z2).toArray 5)) fun e w' => e = .returned (.int .i64 3) ∧ Logged w5 w' (q + 1) q (w1.heap.size + 2) w1.heap.size (w1.heap.size + 1) (T5 + 70) v5 M L := fun w5 v5 T5 hT5 h => by
            subst hZ2
            have ha := append_new h (List.replicate 4001 0) (n := 4001) List.length_replicate (by omega) (hfit _ hT5) (0, 0)
            rw [room_long' (by rw [List.length_replicate]; omega)] at ha
            exact ha
          have c3 : ∀ (w5 : World) (v5 : Value) (T5 : Nat), T5 ≤ 10000 → LogD w5 (q + 1) q (w1.heap.size + 2) w1.heap.size (w1.heap.size + 1) T5 L v5 M → Calls Try.prog 29 #[.pointer (some ⟨q, 0, none⟩), .slice (some ⟨w5.heap.size, 0, none⟩) n n] (w5.alloc (.cells (u8s Z3).toArray 5)) fun e w' => e = .returned (.int .i64 0) ∧ ∃ M', Logged w5 w' (q + 1) q (w1.heap.size + 2) w1.heap.size (w1.heap.size + 1) (T5 + 70) v5 M' (L.add L.next Z3) := fun w5 v5 T5 hT5 h => by
            subst hZ3
            have ha := append_new h (List.replicate n 0) (n := n) hd3 (by omega) (hfit _ hT5) (0, 0)
            rw [hy.1, hy.2] at ha
            exact ha.mono fun e w' h => ⟨h.1, _, h.2⟩
          have mk1 : ∀ W : World, (Instr.makeSlice 36 (.int .i64 ((n : Int) + 1)) (.int .i64 ((n : Int) + 1))).run Try.prog W = .ok (.slice (some ⟨W.heap.size, 0, none⟩) (n + 1) (n + 1)) (W.alloc (.cells (u8s (List.replicate (n + 1) 0)).toArray 5)) := fun W => makeBytes (n + 1) (by omega) W
          have mk2 : ∀ W : World, (Instr.makeSlice 36 (.int .i64 4001) (.int .i64 4001)).run Try.prog W = .ok (.slice (some ⟨W.heap.size, 0, none⟩) 4001 4001) (W.alloc (.cells (u8s Z2).toArray 5)) := fun W => hZ2 ▸ makeBytes 4001 (by omega) W
          have mk3 : ∀ W : World, (Instr.makeSlice 36 (.int .i64 (n : Int)) (.int .i64 (n : Int))).run Try.prog W = .ok (.slice (some ⟨W.heap.size, 0, none⟩) n n) (W.alloc (.cells (u8s Z3).toArray 5)) := fun W => hZ3 ▸ makeBytes n (by omega) W
          have nx0 := hLd.log.ok.pos
          have nx1 := hLd.log.ok.next
          obtain ⟨x, hx⟩ : ∃ x, x = L.next := ⟨_, rfl⟩
          have cn : ∀ (w5 : World) (v5 : Value) (T5 : Nat), LogD w5 (q + 1) q (w1.heap.size + 2) w1.heap.size (w1.heap.size + 1) T5 L v5 M → Calls Try.prog 37 #[.pointer (some ⟨q, 0, none⟩)] w5 fun e w' => e = .returned (.int .i64 (x : Int)) ∧ w5 = w' := fun w5 v5 T5 h => hx ▸ next_any h.log
          have cn2 : ∀ (w5 : World) (v5 : Value) (T5 : Nat) (M5 : DM), LogD w5 (q + 1) q (w1.heap.size + 2) w1.heap.size (w1.heap.size + 1) T5 (L.add L.next Z3) v5 M5 → Calls Try.prog 37 #[.pointer (some ⟨q, 0, none⟩)] w5 fun e w' => e = .returned (.int .i64 ((x : Int) + 1)) ∧ w5 = w' := fun w5 v5 T5 M5 h => by rw [hx]; exact next_any h.log
          have cr2 := fun (hne : ¬ n = 4000) (w5 : World) (v5 : Value) (T5 : Nat) (M5 : DM) (h : LogD w5 (q + 1) q (w1.heap.size + 2) w1.heap.size (w1.heap.size + 1) T5 (L.add L.next Z3) v5 M5) => (show (L.add L.next Z3).room = -1 from hZ3 ▸ hao.resolve_left hne) ▸ room_any h.log
          have x0 : (1 : Int) ≤ (x : Int) := by omega
          have x1 : (x : Int) ≤ 4611686018427387905 := by omega
          have n0 : ¬ (n : Int) < 0 := by omega
          have n1 : (n : Int) ≤ 4000 := by omega
          have hst : ∀ (wa wb : World) (Ta Tb : Nat) (La Lb : LG) (va : Value) (Ma Mb : DM), LogD wa (q + 1) q (w1.heap.size + 2) w1.heap.size (w1.heap.size + 1) Ta La va Ma → Logged wa wb (q + 1) q (w1.heap.size + 2) w1.heap.size (w1.heap.size + 1) Tb va Mb Lb → Below W0.heap.size W0 wa → Below W0.heap.size W0 wb := fun _ _ _ _ _ _ _ _ _ h1 h2 h3 => h3.trans (Logged.below h1 h2 h3.size (by have := H3.out.2.2; omega))
          have hfin : ∀ (wb : World), Below W0.heap.size W0 wb → Below w.heap.size w wb := fun _ h => HB0.out.1.trans (lower' h (by have := HB0.out.2.2; omega))
          have HR2 := Lib.hid hroom
          have HC1 := Lib.hid c1
          have HC2 := Lib.hid c2
          have HC3 := Lib.hid c3
          have HK := Lib.hid (And.intro mk1 (And.intro mk2 mk3))
          have HN1 := Lib.hid cn
          have HN2 := Lib.hid cn2
          have HRR := Lib.hid cr2
          have HX := Lib.hid (And.intro hLd hbd)
          have HST := Lib.hid hst
          have HFI := Lib.hid hfin
          clear hroom c1 c2 c3 mk1 mk2 mk3 cn cn2 cr2 hLd hbd hrm hC hy hao hfit hd3 nx0 nx1 hx hst hfin hZ2 hZ3
          by_cases hlt : n < 4000
          · have n2 : (n : Int) < 4000 := by omega
            have n3 : ¬ (n : Int) = 4000 := by omega
            have m1 := HK.out.1
            have m2 := HK.out.2.1
            have m3 := HK.out.2.2
            rcases hx' with k1 | ⟨k1, k2⟩
            all_goals
              go_wp2_with (first
                | (go_at_call 38; (with_reducible refine HR2.out.mono ?_); rintro e w5 ⟨rfl, hb5⟩; have HB5 := Lib.hid (HX.out.1.kept hb5); have HW5 := Lib.hid (HX.out.2.trans (lower' hb5 HX.out.2.size)); have HA1 := Lib.hid (HC1.out hlt w5 _ _ (by omega) HB5.out); clear hb5 HR2)
                | (go_at_call 29; (with_reducible refine HA1.out.mono ?_); rintro e w6 ⟨rfl, v6, hl6, hf6⟩; have HW6 := Lib.hid (HST.out _ _ _ _ _ _ _ _ _ HB5.out ⟨v6, hl6, hf6⟩ HW5.out); have HB6 := Lib.hid hl6; clear hl6 hf6 HA1; have HA2 := Lib.hid (HC2.out w6 _ _ (by omega) HB6.out))
                | (go_at_call 29; (with_reducible refine HA2.out.mono ?_); rintro e w7 ⟨rfl, v7, hl7, hf7⟩; have HW7 := Lib.hid (HST.out _ _ _ _ _ _ _ _ _ HB6.out ⟨v7, hl7, hf7⟩ HW6.out); have HB7 := Lib.hid hl7; clear hl7 hf7 HA2; have HNX := Lib.hid (HN1.out _ _ _ HB7.out); have HA3 := Lib.hid (HC3.out w7 _ _ (by omega) HB7.out))
                | (go_at_call 37; (with_reducible refine HNX.out.mono ?_); rintro e w8 ⟨rfl, rfl⟩; clear HNX)
                | (go_at_call 29; (with_reducible refine HA3.out.mono ?_); rintro e w9 ⟨rfl, M9, v9, hl9, hf9⟩; have HW9 := Lib.hid (HST.out _ _ _ _ _ _ _ _ _ HB7.out ⟨v9, hl9, hf9⟩ HW7.out); have HB9 := Lib.hid hl9; clear hl9 hf9 HA3; have HNY := Lib.hid (HN2.out _ _ _ _ HB9.out); have HRZ := Lib.hid (HRR.out (by omega) _ _ _ _ HB9.out))
                | (go_at_call 37; (with_reducible refine HNY.out.mono ?_); rintro e w10 ⟨rfl, rfl⟩; clear HNY)
                | (go_at_call 38; (with_reducible refine HRZ.out.mono ?_); rintro e w11 ⟨rfl, hb11⟩; have HW11 := Lib.hid (HW9.out.trans (lower' hb11 HW9.out.size)); clear hb11)
                | go_in)
              go_ret
              exact ⟨rfl, HFI.out _ HW11.out⟩
          · obtain rfl : n = 4000 := by omega
            have hr4 : Calls Try.prog 38 #[.pointer (some ⟨q, 0, none⟩)] wr fun e w' => e = .returned (.int .i64 4000) ∧ Below wr.heap.size wr w' := HR2.out
            have m2 := HK.out.2.1
            have m3 : ∀ W : World, (Instr.makeSlice 36 (.int .i64 4000) (.int .i64 4000)).run Try.prog W = .ok (.slice (some ⟨W.heap.size, 0, none⟩) 4000 4000) (W.alloc (.cells (u8s Z3).toArray 5)) := HK.out.2.2
            have HR4 := Lib.hid hr4
            clear hr4 HR2 n0 n1 hn4 hlt
            rcases hx' with k1 | ⟨k1, k2⟩
            all_goals
              go_wp2_with (first
                | (go_at_call 38; (with_reducible refine HR4.out.mono ?_); rintro e w5 ⟨rfl, hb5⟩; have HB5 := Lib.hid (HX.out.1.kept hb5); have HW5 := Lib.hid (HX.out.2.trans (lower' hb5 HX.out.2.size)); have HW6 := Lib.hid HW5.out; have HB6 := Lib.hid HB5.out; have HA2 := Lib.hid (HC2.out w5 _ _ (by omega) HB5.out); clear hb5 HR4)
                | (go_at_call 29; (with_reducible refine HA2.out.mono ?_); rintro e w7 ⟨rfl, v7, hl7, hf7⟩; have HW7 := Lib.hid (HST.out _ _ _ _ _ _ _ _ _ HB6.out ⟨v7, hl7, hf7⟩ HW6.out); have HB7 := Lib.hid hl7; clear hl7 hf7 HA2; have HNX := Lib.hid (HN1.out _ _ _ HB7.out); have HA3 := Lib.hid (HC3.out w7 _ _ (by omega) HB7.out))
                | (go_at_call 37; (with_reducible refine HNX.out.mono ?_); rintro e w8 ⟨rfl, rfl⟩; clear HNX)
                | (go_at_call 29; (with_reducible refine HA3.out.mono ?_); rintro e w9 ⟨rfl, M9, v9, hl9, hf9⟩; have HW9 := Lib.hid (HST.out _ _ _ _ _ _ _ _ _ HB7.out ⟨v9, hl9, hf9⟩ HW7.out); have HB9 := Lib.hid hl9; clear hl9 hf9 HA3; have HNY := Lib.hid (HN2.out _ _ _ _ HB9.out))
                | (go_at_call 37; (with_reducible refine HNY.out.mono ?_); rintro e w10 ⟨rfl, rfl⟩; clear HNY)
                | go_in)
              go_ret
              exact ⟨rfl, HFI.out _ HW9.out⟩
theorem logRoom_walk (m n k : Int) (A : Option Addr) (rows : List RowB) (c : Nat) (w : World) (hk : -9223372036854775808 ≤ k ∧ k ≤ 9223372036854775807) (hr : Rd w w.heap.size A (rows.map RowB.v)) (hrows : ∀ r ∈ rows, r.ok w w.heap.size) :
    Calls Try.prog 10 #[.agg #[.int .i64 m, .int .i64 n, .int .i64 k], .slice A rows.length c] w fun e w' => e = .returned (.bool true) ∧ Below w.heap.size w w' := by
  by_cases h : m < 1 ∨ 80 < m
  · exact logRoom_out m n k A rows c w h
  · obtain ⟨j, rfl⟩ : ∃ j : Nat, m = j := ⟨m.toNat, by omega⟩
    exact logRoom_in j n k A rows c w (by omega) (by omega) hk hr hrows
end Go.Proofs.Ytdiafgjlbbkhkaa
