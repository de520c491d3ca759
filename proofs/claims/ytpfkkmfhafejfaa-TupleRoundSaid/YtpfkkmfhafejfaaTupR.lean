/- The law's few and Own. -/
import Derived.Test.YtpfkkmfhafejfaaTupQ
namespace Go.Proofs.Ytpfkkmfhafejfaa
open Go.RowKit Go.Maps

/-- A list of whatever length. -/
structure LV.Raw (w : World) (x : LV) : Prop where
  rd : Rd w w.heap.size x.A (vals x.ts)
  tup : ∀ t ∈ x.ts, Rd w w.heap.size t.A (intsV t.l) ∧ t.l.length ≤ t.c
  cap : x.ts.length ≤ x.c
def fewL (x : LV) : Bool := decide (x.ts.length ≤ 40) && x.ts.all fun t => decide (t.l.length ≤ 40)
def fewB (ls : List LV) : Bool := ls.all fewL
theorem LV.Raw.ok {w : World} {x : LV} (h : x.Raw w) (hf : fewL x = true) : x.Ok w ∧ x.ts.length ≤ 40 := by
  unfold fewL at hf
  rw [Bool.and_eq_true, decide_eq_true_eq, List.all_eq_true] at hf
  refine ⟨⟨h.rd, fun t ht => ?_, h.cap, by omega⟩, hf.1⟩
  have h1 := h.tup t ht
  have h2 := hf.2 t ht
  rw [decide_eq_true_eq] at h2
  exact ⟨h1.1, h1.2, by omega⟩
theorem LV.Raw.below {w w' : World} {x : LV} (h : x.Raw w) (hb : Below w.heap.size w w') : x.Raw w' :=
  ⟨(h.rd.below hb (Nat.le_refl _)).more hb.size, fun t ht => ⟨((h.tup t ht).1.below hb (Nat.le_refl _)).more hb.size, (h.tup t ht).2⟩, h.cap⟩
theorem LV.Raw.cell {w : World} {x : LV} (h : x.Raw w) {k : Nat} (hk : k < x.ts.length) : ∃ b o, x.A = some ⟨b, o, none⟩ ∧ b < w.heap.size ∧ w.cell? ⟨b, o + k, none⟩ = some (.slice x.ts[k].A x.ts[k].l.length x.ts[k].c) := by
  obtain ⟨b, o, e, hb, hc⟩ := h.rd.get (k := k) (by rw [vals_len]; exact hk)
  refine ⟨b, o, e, hb, hc.trans ?_⟩
  simp [vals, TV.val]
set_option maxRecDepth 100000 in
set_option maxHeartbeats 2000000 in
/-- few. -/
theorem few_any (A : Option Addr) (c : Nat) (ls : List LV) (w : World) (hr : Rd w w.heap.size A (ls.map LV.val)) (hs : ls.length ≤ 1000) (h : ∀ x ∈ ls, x.Raw w) :
    Calls Try.prog 10 #[.slice A ls.length c] w fun e w' => e = .returned (.bool (fewB ls)) ∧ w = w' := by
  obtain ⟨R, hR⟩ : ∃ R, R = fewB ls := ⟨_, rfl⟩
  rw [← hR]
  have HA := Lib.hid (And.intro hR (And.intro hr h))
  clear h hR hr
  go_enter Try.func10, Try.ntmps10
  go_wp2_with (fail)
  go_loop [9] (fun i => ∃ k : Nat, k ≤ ls.length ∧ i = .int .i64 k ∧ Hid (R = fewB (ls.drop k))) (fun i => ls.length - (intOf i).toNat)
  case atStart => exact ⟨0, by omega, rfl, HA.out.1⟩
  case round =>
    obtain ⟨k, hk, rfl, hrel⟩ := hrel
    by_cases hlt : k < ls.length
    · obtain ⟨b, o, rfl, _, c0⟩ := HA.out.2.1.get (k := k) (by rw [List.length_map]; exact hlt)
      have hd : ls.drop k = ls[k] :: ls.drop (k + 1) := List.drop_eq_getElem_cons hlt
      have hL := HA.out.2.2 _ (List.getElem_mem hlt)
      have hrk := hrel.out
      rw [hd] at hrk
      rw [List.getElem_map] at c0
      unfold LV.val at c0
      clear hrel hd
      generalize ls[k] = x at c0 hL hrk
      have HL := Lib.hid hL
      have HK := Lib.hid hrk
      clear hL hrk
      obtain ⟨n, hn⟩ : ∃ n, n = x.ts.length := ⟨_, rfl⟩
      rw [← hn] at c0
      have HN := Lib.hid hn
      clear hn
      by_cases hbig : 40 < n
      · have hI : (40 : Int) < (n : Int) := by omega
        have hf : R = false := by
          rw [HK.out]
          have h40 : decide (x.ts.length ≤ 40) = false := decide_eq_false (by rw [← HN.out]; omega)
          unfold fewB fewL
          rw [List.all_cons, h40]
          rfl
        have HF := Lib.hid hf
        clear hf
        go_wp2_with (fail)
        go_ret
        exact ⟨by rw [HF.out]; rfl, rfl⟩
      · have hI : ¬ (40 : Int) < (n : Int) := by omega
        go_wp2_with (fail)
        go_loop [18] (fun i => ∃ j : Nat, j ≤ n ∧ i = .int .i64 j ∧ Hid (∀ i, (hi : i < x.ts.length) → i < j → x.ts[i].l.length ≤ 40)) (fun i => n - (intOf i).toNat)
        case atStart => exact ⟨0, by omega, rfl, Lib.hid fun i _ h => absurd h (Nat.not_lt_zero _)⟩
        case round =>
          obtain ⟨j, hj, rfl, HJ⟩ := hrel
          by_cases hjn : j < n
          · have hjx : j < x.ts.length := by rw [← HN.out]; exact hjn
            obtain ⟨b', o', hxa, _, c1⟩ := HL.out.cell hjx
            obtain ⟨m, hm⟩ : ∃ m, m = x.ts[j].l.length := ⟨_, rfl⟩
            have hjI : (j : Int) < (n : Int) := by omega
            rw [hxa]
            rw [← hm] at c1
            by_cases hmb : 40 < m
            · have hI2 : (40 : Int) < (m : Int) := by omega
              have hf : R = false := by
                rw [HK.out]
                have : (x.ts.all fun t => decide (t.l.length ≤ 40)) = false := by
                  rw [List.all_eq_false]
                  exact ⟨x.ts[j], List.getElem_mem hjx, by rw [← hm]; simp; omega⟩
                unfold fewB fewL
                rw [List.all_cons, this, Bool.and_false]
                rfl
              have HF := Lib.hid hf
              clear hf hm
              go_wp2_with (fail)
              go_ret
              exact ⟨by rw [HF.out]; rfl, rfl⟩
            · have hI2 : ¬ (40 : Int) < (m : Int) := by omega
              have hnx : Hid (∀ i, (hi : i < x.ts.length) → i < j + 1 → x.ts[i].l.length ≤ 40) := Lib.hid fun i hi h => by
                by_cases e : i = j
                · subst e; omega
                · exact HJ.out i hi (by omega)
              clear hm
              go_wp2_with (fail)
              go_round
              case rel => exact ⟨j + 1, by omega, by go_num, hnx⟩
              case measure => simp [intOf]; omega
          · have hjI : ¬ (j : Int) < (n : Int) := by omega
            have hnx : Hid (R = fewB (ls.drop (k + 1))) := Lib.hid (by
              rw [HK.out]
              have h1 : fewL x = true := by
                unfold fewL
                rw [Bool.and_eq_true, decide_eq_true_eq, List.all_eq_true]
                refine ⟨by rw [← HN.out]; omega, fun t ht => ?_⟩
                obtain ⟨i, hi, rfl⟩ := List.getElem_of_mem ht
                rw [decide_eq_true_eq]
                exact HJ.out i hi (by have := HN.out; omega)
              unfold fewB
              rw [List.all_cons, h1, Bool.true_and])
            go_wp2_with (fail)
            go_round
            case rel => exact ⟨k + 1, by omega, by go_num, hnx⟩
            case measure => simp [intOf]; omega
    · have g0 : ¬ (k : Int) < (ls.length : Int) := by omega
      have hrk := hrel.out
      rw [List.drop_of_length_le (Nat.not_lt.1 hlt)] at hrk
      have HR : Hid (R = true) := Lib.hid hrk
      clear hrk hrel
      go_wp2_with (fail)
      go_ret
      exact ⟨by rw [HR.out]; rfl, rfl⟩
/-- append of a tuple onto an empty one just made. -/
theorem run_appI0 (W : World) (x : TV) (hx : x.Ok W) :
    ∃ u : TV, ∃ w', (Builtin.append_ #[24, 24] 24 #[.slice (some ⟨W.heap.size, 0, none⟩) 0 0, .slice x.A x.l.length x.c]).run Try.prog (W.alloc (.cells #[] 3)) = .ok (.slice u.A u.l.length u.c) w' ∧ u.l = x.l ∧ OwnI w' W.heap.size u ∧ Below W.heap.size W w' := by
  obtain ⟨i0, hi, hz0, hz1, hz2⟩ := info_parts infoInt
  have hb1 : Below W.heap.size W (W.alloc (.cells #[] 3)) := (Below.refl _ _).alloc (Nat.le_refl _) _
  have h0 : (W.alloc (.cells #[] 3)).ownsRow W.heap.size 3 1 (.slice (some ⟨W.heap.size, 0, none⟩) 0 0) 0 [] := own_lit0 W (Nat.le_refl _)
  obtain ⟨v', w', h1, h2, h3, _⟩ := run_appR (P := Try.prog) (W.alloc (.cells #[] 3)) W.heap.size 24 24 3 i0 _ 1 8 Try.underlying24 hi hz0 hz1 hz2 rfl (by omega) _ 0 [] h0 (W.alloc (.cells #[] 3)).heap.size x.A x.l.length x.c (intsV x.l) (by rw [intsV_len]; omega) (hx.below hb1).rd (intsV_one _) (by have := hx.sm; omega) (by omega) hb1.size
  rw [Nat.zero_add, List.nil_append] at h2
  obtain ⟨A, c, rfl, _, _, _⟩ := own_shape h2
  exact ⟨⟨A, x.l, c⟩, w', h1, rfl, h2, append0_below h3⟩
/-- Own's state behind k tuples. -/
structure OwAt (w wr : World) (ts us : List TV) (k : Nat) (out : Value) : Prop where
  len : us.length = k
  row : OwnT wr w.heap.size out us
  eq : tus us = (tus ts).take k
  tup : ∀ u ∈ us, OwnI wr w.heap.size u
  off : us.Pairwise Off
  below : Below w.heap.size w wr
theorem OwAt.next {w wr w5 w6 : World} {ts us : List TV} {k : Nat} {u : TV} {out out' : Value} (h : OwAt w wr ts us k out) (hk : k < ts.length) (hu : u.l = ts[k].l) (ho : OwnI w5 wr.heap.size u) (hb : Below wr.heap.size wr w5)
    (hr : OwnT w6 w.heap.size out' (us ++ [u])) (hg : (w5.alloc (.cells #[.slice u.A u.l.length u.c] 24)).grownBy w6 out.ownBlock) : OwAt w w6 ts (us ++ [u]) (k + 1) out' := by
  have hsz := h.below.size
  have hr5 := own_below h.row hb (Nat.le_refl _)
  have hb6 : Below w5.heap.size w5 (w5.alloc (.cells #[.slice u.A u.l.length u.c] 24)) := (Below.refl _ _).alloc (Nat.le_refl _) _
  have hr6 := own_below hr5 hb6 (Nat.le_refl _)
  have hfr : Fr (w5.alloc (.cells #[.slice u.A u.l.length u.c] 24)) w6 out.ownBlock.toList := by
    rcases ho' : out.ownBlock with _ | g
    · rw [ho'] at hg; exact Fr.of_grown0 hg _
    · rw [ho'] at hg; exact Fr.of_grown hg
  have hapart : ∀ t : TV, OwnI (w5.alloc (.cells #[.slice u.A u.l.length u.c] 24)) w.heap.size t → ∀ a, t.A = some a → a.block ∉ out.ownBlock.toList := fun t ht a ha hm =>
    own_apart ht hr6 (by decide) a.block (by unfold TV.val; rw [ha]; simp [Value.ownBlock]) hm
  have tu : OwnI (w5.alloc (.cells #[.slice u.A u.l.length u.c] 24)) w.heap.size u := own_mono (OwnI.below ho hb6) hsz
  have tt : ∀ t ∈ us, OwnI (w5.alloc (.cells #[.slice u.A u.l.length u.c] 24)) w.heap.size t := fun t ht => ((h.tup t ht).below hb).below hb6
  refine ⟨by rw [List.length_append, h.len]; rfl, hr, ?_, fun t ht => ?_, ?_, ?_⟩
  · rw [tus_app, h.eq, List.take_succ_eq_append_getElem (by rw [tus_len]; exact hk), tus_at ts k hk]
    show _ ++ [u.l] = _
    rw [hu]
  · rcases List.mem_append.1 ht with ht | ht
    · exact (tt t ht).fr hfr (hapart t (tt t ht))
    · rw [List.mem_singleton.1 ht]
      exact tu.fr hfr (hapart u tu)
  · rw [List.pairwise_append]
    refine ⟨h.off, List.pairwise_singleton _ _, fun x hx y hy a b ha hb' e => ?_⟩
    rw [List.mem_singleton.1 hy] at hb'
    have h1 := OwnI.lo ho b hb'
    have h2 := (h.tup x hx).lo a ha
    omega
  · refine (h.below.trans (lower hb hsz)).trans ((lower hb6 (Nat.le_trans hsz hb.size)).trans (hfr.below (Nat.le_trans (Nat.le_trans hsz hb.size) hb6.size) fun x hx => ?_))
    exact own_ge h.row x hx
set_option maxRecDepth 100000 in
set_option maxHeartbeats 2000000 in
/-- Own. -/
theorem own10_any (x : LV) (w : World) (hx : x.Ok w) : Calls Try.prog 11 #[.slice x.A x.ts.length x.c] w (CoL w (tus x.ts)) := by
  have hs := hx.sm
  have HA := Lib.hid hx
  clear hx
  go_enter Try.func11, Try.ntmps11
  go_wp2_with (fail)
  go_loopw [3, 8] (fun out i wr => ∃ (k : Nat) (us : List TV), k ≤ x.ts.length ∧ i = .int .i64 k ∧ Hid (OwAt w wr x.ts us k out)) (fun _ i _ => x.ts.length - (intOf i).toNat)
  case atStart => exact ⟨0, [], by omega, rfl, Lib.hid ⟨rfl, World.ownsRow_nil w _ _ _, rfl, fun _ h => (nomatch h), .nil, Below.refl _ _⟩⟩
  case round =>
    obtain ⟨k, us, hk, rfl, HC⟩ := hrel
    by_cases hlt : k < x.ts.length
    · obtain ⟨xb, xo, hxa, hxl, hxc⟩ := HA.out.cell hlt
      have hxc' : wr.cell? ⟨xb, xo + k, none⟩ = _ := (HC.out.below.cell (p := ⟨xb, xo + k, none⟩) hxl).trans hxc
      have hok : x.ts[k].Ok wr := (HA.out.at hlt).below HC.out.below
      obtain ⟨u, w5, hrun, hul, hown, hb⟩ := run_appI0 wr x.ts[k] hok
      have hnx := fun out' w6 hr hg => HC.out.next (out' := out') (w6 := w6) hlt hul hown hb hr hg
      have hr5 : OwnT w5 w.heap.size u3 us := OwnT.below HC.out.row hb
      have hz5 := Nat.le_trans HC.out.below.size hb.size
      have HN := Lib.hid (And.intro hnx (And.intro hr5 hz5))
      rw [hxa]
      clear hxc hok hul hown hb hnx hr5 hz5
      generalize x.ts[k] = y at hxc' hrun
      go_wp2_with (first
        | (at_builtin; refine wpL_appK _ rfl (.tmp 13) (.tmp 14) 24 rfl rfl _ _ _ _ rfl rfl hrun ?_)
        | (at_builtin; refine wpList_appT _ rfl (.tmp 12) (.tmp 16) rfl w.heap.size _ us (by rfl) (World.ownsRow.alloc HN.out.2.1 _) (w5.heap.size + 1) (some ⟨w5.heap.size, 0, none⟩) 1 [u] 1 (by rfl) rfl (Rd.new w5 _ _ _) (by have := HC.out.len; simp; omega) (by have := HN.out.2.2; simp; omega) ?_; intro v6 w6 o6 g6; have H6 := Lib.hid (HN.out.1 v6 w6 o6 g6); clear o6 g6))
      go_roundw
      case rel => exact ⟨k + 1, _, by omega, by go_num, H6⟩
      case measure => simp [intOf]; omega
    · have g0 : ¬ (k : Int) < (x.ts.length : Int) := by omega
      have hk' : k = x.ts.length := by omega
      have hsm : ∀ t ∈ us, t.l.length ≤ 1000 := fun t ht => by
        have h1 := mem_tus ht
        rw [HC.out.eq] at h1
        obtain ⟨t', ht', e⟩ := List.mem_map.1 (List.mem_of_mem_take h1)
        rw [← e]
        exact (HA.out.ok t' ht').sm
      have hl : us.length ≤ 1000 := by rw [HC.out.len]; omega
      have ho : OwnL wr w.heap.size u3 us := ⟨HC.out.row, HC.out.tup, hsm, HC.out.off⟩
      obtain ⟨A, c, e, hL⟩ := ho.lst hl
      rw [e]
      have HO : Hid (OwnL wr w.heap.size (.slice A us.length c) us ∧ Lst wr A c us) := Lib.hid ⟨by rw [← e]; exact ho, hL⟩
      have HK := Lib.hid hk'
      clear e ho hL hk' hsm
      go_wp2_with (fail)
      go_ret
      exact ⟨⟨A, us, c⟩, rfl, HO.out.1, HO.out.2, by show tus us = _; rw [HC.out.eq, List.take_of_length_le (by rw [tus_len, HK.out]; exact Nat.le_refl _)], HC.out.below⟩
end Go.Proofs.Ytpfkkmfhafejfaa
