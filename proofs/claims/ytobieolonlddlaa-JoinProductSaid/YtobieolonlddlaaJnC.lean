/- Joined: JoBG JoBH. -/
import Derived.Test.YtobieolonlddlaaJoBE
/- Is an edge among edges: slices.Index, slices.Contains; join.places. -/
namespace Go.Proofs.Ytobieolonlddlaa
open Go.RowKit Go.Maps

set_option maxRecDepth 100000 in
set_option maxHeartbeats 2000000 in
theorem indexE_any (A : Option Addr) (c : Nat) (l : List Ed) (m : Ed) (w : World) (h : Eds w A c l) : Calls Try.prog 54 #[.slice A l.length c, .agg #[.int .i64 m.f, .string ⟨m.lab.toArray⟩, .int .i64 m.t]] w fun e w' => ∃ i : Int, e = .returned (.int .i64 i) ∧ (0 ≤ i ↔ m ∈ l) ∧ Below w.heap.size w w' := by
  have hs := h.sm
  have hb1 : Below w.heap.size w (w.alloc (.cells #[.int .i64 m.f, .string ⟨m.lab.toArray⟩, .int .i64 m.t] 52)) := (Below.refl _ _).alloc (Nat.le_refl _) _
  have hg1 := heap_alloc_new w (.cells #[.int .i64 m.f, .string ⟨m.lab.toArray⟩, .int .i64 m.t] 52)
  have HA := Lib.hid (And.intro (h.below hb1) (And.intro hb1 hg1))
  clear h hb1 hg1
  go_enter Try.func54, Try.ntmps54
  go_wp2_with (fail)
  generalize (w.alloc (.cells #[.int .i64 m.f, .string ⟨m.lab.toArray⟩, .int .i64 m.t] 52)) = w1 at HA ⊢
  go_loopw [8] (fun i wr => ∃ k : Nat, k ≤ l.length ∧ i = .int .i64 (k : Int) ∧ Hid ((∀ j, (hj : j < l.length) → j < k → l[j] ≠ m) ∧ Below w1.heap.size w1 wr)) (fun i _ => l.length - (intOf i).toNat)
  case atStart => exact ⟨0, by omega, rfl, Lib.hid ⟨fun j _ h => absurd h (Nat.not_lt_zero _), Below.refl _ _⟩⟩
  case round =>
    obtain ⟨k, hk, rfl, hrel⟩ := hrel
    by_cases hlt : k < l.length
    · obtain ⟨b, o, hA, _, c0, c1, c2⟩ := (HA.out.1.below hrel.out.2).cell hlt
      obtain ⟨d0, d1, d2⟩ := box3 ((hrel.out.2.block _ (heap_lt HA.out.2.2)).trans HA.out.2.2)
      have hlI : (k : Int) < (l.length : Int) := by omega
      have hin := List.getElem_mem hlt
      have hj := hrel.out.1
      have HB := Lib.hid hrel.out.2
      rw [hA]
      clear hA hrel
      by_cases he : l[k] = m
      · rw [he] at c0 c1 c2 hin
        have HI := Lib.hid hin
        clear he hin hj
        go_upto_region 4 with (fail)
        go_quiet (fail)
        go_wp2_with (fail)
        go_ret
        exact ⟨(k : Int), rfl, ⟨fun _ => HI.out, fun _ => by omega⟩, HA.out.2.1.trans (lower' (Below.drewN' HB.out _) HA.out.2.1.size)⟩
      · have hn : Hid (∀ j, (hj : j < l.length) → j < k + 1 → l[j] ≠ m) := Lib.hid fun j hj' hjk => by
          by_cases e : j = k
          · subst e; exact he
          · exact hj j hj' (by omega)
        clear hj hin
        generalize l[k] = y at c0 c1 c2 he
        by_cases h1 : m.f = y.f
        · by_cases h2 : m.lab = y.lab
          · have h3 : ¬ m.t = y.t := fun h3 => he (by cases m; cases y; simp at h1 h2 h3; rw [h1, h2, h3])
            clear he
            go_upto_region 4 with (fail)
            go_quiet (fail)
            go_wp2_with (fail)
            go_roundw
            case rel => exact ⟨k + 1, by omega, by go_num, Lib.hid ⟨hn.out, Below.drewN' HB.out _⟩⟩
            case measure => simp [intOf]; omega
          · clear he
            go_upto_region 4 with (fail)
            go_quiet (fail)
            go_wp2_with (fail)
            go_roundw
            case rel => exact ⟨k + 1, by omega, by go_num, Lib.hid ⟨hn.out, Below.drewN' HB.out _⟩⟩
            case measure => simp [intOf]; omega
        · clear he
          go_upto_region 4 with (fail)
          go_quiet (fail)
          go_wp2_with (fail)
          go_roundw
          case rel => exact ⟨k + 1, by omega, by go_num, Lib.hid ⟨hn.out, Below.drewN' HB.out _⟩⟩
          case measure => simp [intOf]; omega
    · have g0 : ¬ (k : Int) < (l.length : Int) := by omega
      have HF := Lib.hid (And.intro (show ¬ m ∈ l from fun hm => by
        obtain ⟨j, hj, e⟩ := List.getElem_of_mem hm
        exact hrel.out.1 j hj (by omega) e) hrel.out.2)
      clear hrel
      go_wp2_with (fail)
      go_ret
      exact ⟨-1, rfl, ⟨fun h => by omega, fun h => absurd h HF.out.1⟩, HA.out.2.1.trans (lower' HF.out.2 HA.out.2.1.size)⟩
set_option maxRecDepth 100000 in
set_option maxHeartbeats 2000000 in
theorem containsE_any (A : Option Addr) (c : Nat) (l : List Ed) (m : Ed) (w : World) (h : Eds w A c l) : Calls Try.prog 40 #[.slice A l.length c, .agg #[.int .i64 m.f, .string ⟨m.lab.toArray⟩, .int .i64 m.t]] w fun e w' => e = .returned (.bool (decide (m ∈ l))) ∧ Below w.heap.size w w' := by
  have hb1 : Below w.heap.size w (w.alloc (.cells #[.int .i64 m.f, .string ⟨m.lab.toArray⟩, .int .i64 m.t] 52)) := (Below.refl _ _).alloc (Nat.le_refl _) _
  have hc := indexE_any A c l m _ (h.below hb1)
  have HB := Lib.hid hb1
  obtain ⟨R, hR⟩ : ∃ R, R = decide (m ∈ l) := ⟨_, rfl⟩
  rw [← hR]
  have HC := Lib.hid hc
  have HR := Lib.hid hR
  clear h hb1 hc hR
  go_enter Try.func40, Try.ntmps40
  go_wp2_with (go_at_call 54; (with_reducible refine HC.out.mono ?_); rintro e w' ⟨i, rfl, hi, hb⟩; have HI := Lib.hid (And.intro hi hb); clear hi hb)
  go_ret
  exact ⟨by rw [HR.out]; exact congrArg (fun b => Ending.returned (.bool b)) (decide_eq_decide.2 HI.out.1), HB.out.trans (lower' HI.out.2 HB.out.size)⟩
set_option maxRecDepth 100000 in
set_option maxHeartbeats 2000000 in
theorem places_any (A : Option Addr) (c : Nat) (l : List Nm) (a : Atm) (w : World) (h : Sts w A c l) : Calls Try.prog 39 #[.slice A l.length c, .agg #[.string ⟨a.fr.toArray⟩, .string ⟨a.lab.toArray⟩, .string ⟨a.to.toArray⟩]] w fun e w' => e = .returned (.tuple #[.int .i64 (indexL l a.fr), .int .i64 (indexL l a.to)]) ∧ Below w.heap.size w w' := by
  have hb1 : Below w.heap.size w (w.alloc (.cells #[.string ⟨a.fr.toArray⟩, .string ⟨a.lab.toArray⟩, .string ⟨a.to.toArray⟩] 49)) := (Below.refl _ _).alloc (Nat.le_refl _) _
  obtain ⟨q0, q1, q2⟩ := box3 (heap_alloc_new w (.cells #[.string ⟨a.fr.toArray⟩, .string ⟨a.lab.toArray⟩, .string ⟨a.to.toArray⟩] 49))
  have k1 := fun W (hW : Below w.heap.size w W) => index_any A c l a.fr W (h.below hW)
  have k2 := fun W (hW : Below w.heap.size w W) => index_any A c l a.to W (h.below hW)
  have HB := Lib.hid hb1
  have K1 := Lib.hid k1
  have K2 := Lib.hid k2
  generalize indexL l a.fr = I at K1 ⊢
  generalize indexL l a.to = J at K2 ⊢
  clear h hb1 k1 k2
  go_enter Try.func39, Try.ntmps39
  go_upto_region 1 with (fail)
  generalize (w.alloc (.cells #[.string ⟨a.fr.toArray⟩, .string ⟨a.lab.toArray⟩, .string ⟨a.to.toArray⟩] 49)) = w1 at HB q0 q1 q2 ⊢
  have hS0 : w1.drew.cell? ⟨w.heap.size, 0, none⟩ = some (.string ⟨a.fr.toArray⟩) ∧ w1.drew.cell? ⟨w.heap.size, 2, none⟩ = some (.string ⟨a.to.toArray⟩) := ⟨q0, q2⟩
  have HD := Lib.hid HB.out.drew
  refine wp_region_M (fun j => decide (j < 9)) (fun w' => w'.cell? ⟨w.heap.size, 0, none⟩ = some (.string ⟨a.fr.toArray⟩) ∧ w'.cell? ⟨w.heap.size, 2, none⟩ = some (.string ⟨a.to.toArray⟩)) (by kernel_rfl) ?_
  refine wpAnyM_take (i := 0) (v := ?_) rfl (by kernel_rfl) (by kernel_rfl) (by kernel_rfl) (by kernel_rfl) (fun _ _ _ h => h) (Or.inl ⟨by rfl, ?_⟩) hS0 ?_
  rotate_left
  · intro w hSw; (try dsimp only at hSw); go_simp; (try with_reducible rfl)
  simp only [Act.put, List.getElem_toArray, List.getElem_cons_zero, List.setIfInBounds_toArray, List.set_cons_zero, List.set_cons_succ]
  refine wpAnyM_take (i := 1) (v := ?_) rfl (by kernel_rfl) (by kernel_rfl) (by kernel_rfl) (by kernel_rfl) (fun _ _ _ h => h) (Or.inl ⟨by rfl, ?_⟩) hS0 ?_
  rotate_left
  · intro w hSw; (try dsimp only at hSw); go_simp; (try with_reducible rfl)
  simp only [Act.put, List.getElem_toArray, List.getElem_cons_zero, List.getElem_cons_succ, List.setIfInBounds_toArray, List.set_cons_zero, List.set_cons_succ]
  refine wpAnyM_take (i := 2) (v := ?_) rfl (by kernel_rfl) (by kernel_rfl) (by kernel_rfl) (by kernel_rfl) (fun _ _ _ h => h) (Or.inl ⟨by rfl, ?_⟩) hS0 ?_
  rotate_left
  · intro w hSw; (try dsimp only at hSw); go_simp; (try with_reducible rfl)
  simp only [Act.put, List.getElem_toArray, List.getElem_cons_zero, List.getElem_cons_succ, List.setIfInBounds_toArray, List.set_cons_zero, List.set_cons_succ]
  refine wpAnyM_take (i := 4) (v := ?_) rfl (by kernel_rfl) (by kernel_rfl) (by kernel_rfl) (by kernel_rfl) (fun _ _ _ h => h) (Or.inl ⟨by rfl, ?_⟩) hS0 ?_
  rotate_left
  · intro w hSw; (try dsimp only at hSw); go_simp; (try with_reducible rfl)
  simp only [Act.put, List.getElem_toArray, List.getElem_cons_zero, List.getElem_cons_succ, List.setIfInBounds_toArray, List.set_cons_zero, List.set_cons_succ]
  refine wpAnyM_take (i := 5) (v := ?_) rfl (by kernel_rfl) (by kernel_rfl) (by kernel_rfl) (by kernel_rfl) (fun _ _ _ h => h) (Or.inl ⟨by rfl, ?_⟩) hS0 ?_
  rotate_left
  · intro w hSw; (try dsimp only at hSw); go_simp; (try with_reducible rfl)
  simp only [Act.put, List.getElem_toArray, List.getElem_cons_zero, List.getElem_cons_succ, List.setIfInBounds_toArray, List.set_cons_zero, List.set_cons_succ]
  refine wpAnyM_take (i := 6) (v := ?_) rfl (by kernel_rfl) (by kernel_rfl) (by kernel_rfl) (by kernel_rfl) (fun _ _ _ h => h) (Or.inl ⟨by rfl, ?_⟩) hS0 ?_
  rotate_left
  · intro w hSw; (try dsimp only at hSw); go_simp; (try with_reducible rfl)
  simp only [Act.put, List.getElem_toArray, List.getElem_cons_zero, List.getElem_cons_succ, List.setIfInBounds_toArray, List.set_cons_zero, List.set_cons_succ]
  refine wpAnyM_one (i := 3) (by kernel_rfl) rfl (fun K hK => ?_)
  go_simp
  go_wp2_with (go_at_call 50; (with_reducible refine (K1.out _ HD.out).mono ?_); rintro e w' ⟨rfl, rfl⟩)
  refine hK.out _ _ (fun _ => hS0) ?_
  clear hK K
  refine wpAnyM_one (i := 7) (by kernel_rfl) rfl (fun K hK => ?_)
  go_simp
  go_wp2_with (go_at_call 50; (with_reducible refine (K2.out _ HD.out).mono ?_); rintro e w' ⟨rfl, rfl⟩)
  refine hK.out _ _ (fun _ => hS0) ?_
  clear hK K
  refine wpAnyM_one (i := 8) (by kernel_rfl) rfl (fun K hK => ?_)
  go_simp
  refine hK.out _ _ (fun _ => hS0) ?_
  clear hK K
  refine wpAnyM_one (i := 9) (by kernel_rfl) rfl (fun K hK => ?_)
  go_simp
  refine hK.out _ _ (fun h => absurd h (by decide)) ?_
  clear hK K
  refine wpAnyM_done (by kernel_rfl) ?_ _
  go_wp2_with (fail)
  go_ret2
  exact ⟨rfl, HD.out⟩
end Go.Proofs.Ytobieolonlddlaa
/- join.Holds. -/
namespace Go.Proofs.Ytobieolonlddlaa
open Go.RowKit Go.Maps

def holdsB (v : Vw) (es : List Ed) (row : Tu) : Bool := goodP v && (decide (row.length = (varsL v.atoms).length) && v.atoms.all fun a => decide (rowEd v.atoms row a ∈ es))
theorem holdsB_iff {v : Vw} {es : List Ed} {row : Tu} : holdsB v es row = true ↔ goodP v = true ∧ IsRow v.atoms es row := by
  unfold holdsB IsRow rowEd
  simp only [Bool.and_eq_true, decide_eq_true_eq, List.all_eq_true]
theorem all_take {α : Type} {l : List α} {p : α → Bool} {k : Nat} (h : k < l.length) : (l.take (k + 1)).all p = ((l.take k).all p && p l[k]) := by
  rw [List.take_succ_eq_append_getElem h, List.all_append]
  simp
theorem all_part {α : Type} {l : List α} {p : α → Bool} {k : Nat} (h : k < l.length) (hp : p l[k] = false) : l.all p = false := by
  rw [Bool.eq_false_iff]
  intro h1
  rw [List.all_eq_true] at h1
  have := h1 _ (List.getElem_mem h)
  rw [hp] at this
  cases this
set_option maxRecDepth 100000 in
set_option maxHeartbeats 8000000 in
theorem holds_any (x : VW) (A : Option Addr) (c : Nat) (es : List Ed) (t : TV) (w : World) (hx : x.Ok w) (he : Eds w A c es) (ht : t.Ok w) :
    Calls Try.prog 20 #[.agg (vwA x), .slice A es.length c, .slice t.A t.l.length t.c] w fun e w' => e = .returned (.bool (holdsB x.v es t.l)) ∧ Below w.heap.size w w' := by
  have hb1 : Below w.heap.size w (w.alloc (.cells (vwA x) 25)) := (Below.refl _ _).alloc (Nat.le_refl _) _
  have hg1 := heap_alloc_new w (.cells (vwA x) 25)
  have hk := isPat_any x _ (hx.below hb1)
  have hts := ht.sm
  obtain ⟨R, hR⟩ : ∃ R, R = holdsB x.v es t.l := ⟨_, rfl⟩
  rw [← hR]
  unfold holdsB at hR
  cases hg : goodP x.v with
  | false =>
    rw [hg] at hk hR
    unfold vwA at hb1 hk ⊢
    have HR : Hid (R = false) := Lib.hid hR
    have HB := Lib.hid hb1
    have HK := Lib.hid hk
    clear hx he ht hb1 hg1 hk hg hR
    go_enter Try.func20, Try.ntmps20
    go_wp2_with (go_at_call 26; (with_reducible refine HK.out.mono ?_); rintro e w2 ⟨rfl, b2⟩; have B2 := Lib.hid (HB.out.trans (lower' b2 HB.out.size)); clear b2)
    go_ret
    exact ⟨by rw [HR.out]; rfl, B2.out⟩
  | true =>
    rw [hg] at hk hR
    rw [Bool.true_and] at hR
    have hv := fun W (hW : Below w.heap.size w W) => vars_any x W (hx.below hW) hg
    have hal := (goodP_names hg).2.1
    unfold vwA at hb1 hg1 hk hv ⊢
    have HB := Lib.hid (And.intro hb1 hg1)
    have HK := Lib.hid hk
    have HV := Lib.hid hv
    have H0 := Lib.hid (And.intro hx (And.intro he ht))
    clear hx he ht hb1 hg1 hk hv hg
    by_cases hlen : t.l.length = (varsL x.v.atoms).length
    · rw [decide_eq_true hlen, Bool.true_and] at hR
      have hlI : ((t.l.length : Int) != ((varsL x.v.atoms).length : Int)) = false := by simp [hlen]
      have HR := Lib.hid hR
      clear hR
      go_enter Try.func20, Try.ntmps20
      go_upto_region 4 with (first
        | (go_at_call 26; (with_reducible refine HK.out.mono ?_); rintro e w2 ⟨rfl, b2⟩; have B2 := Lib.hid (HB.out.1.trans (lower' b2 HB.out.1.size)); have HV2 := Lib.hid (HV.out w2 B2.out); have g2 := (b2.block w.heap.size (by simp)).trans HB.out.2; obtain ⟨q0, q1, q2, q3, q4⟩ := box5 g2; have G2 := Lib.hid g2; clear b2 g2)
        | (go_at_call 38; (with_reducible refine HV2.out.mono ?_); rintro e w3 ⟨vA, vc, rfl, _, s3, b3⟩; have B3 := Lib.hid (B2.out.trans (lower' b3 B2.out.size)); have g3 := (b3.block w.heap.size (heap_lt G2.out)).trans G2.out; have S3 := Lib.hid (And.intro s3 g3); clear q0 q1 q2 q3 q4 b3 s3 g3))
      obtain ⟨-, -, -, q3, -⟩ := box5 S3.out.2
      clear HK HV HV2 G2
      go_wp2_with (fail)
      go_loopw [25] (fun i wr => ∃ k : Nat, k ≤ x.v.atoms.length ∧ i = .int .i64 (k : Int) ∧ Hid (((x.v.atoms.take k).all fun a => decide (rowEd x.v.atoms t.l a ∈ es)) = true ∧ Below w3.heap.size w3 wr)) (fun i _ => x.v.atoms.length - (intOf i).toNat)
      case atStart => exact ⟨0, by omega, rfl, Lib.hid ⟨rfl, Below.refl _ _⟩⟩
      case round =>
        obtain ⟨k, hk, rfl, hrel⟩ := hrel
        by_cases hlt : k < x.v.atoms.length
        · have hbw := B3.out.trans (lower' hrel.out.2 B3.out.size)
          obtain ⟨ab, ao, hAA, _, a0, a1, a2⟩ := (H0.out.1.below hbw).ats.cell hlt
          have hkI : (k : Int) < (x.v.atoms.length : Int) := by omega
          have hm1 : x.v.atoms[k].fr ∈ varsL x.v.atoms := varsL_mem.2 ⟨_, List.getElem_mem hlt, .inl rfl⟩
          have hm2 : x.v.atoms[k].to ∈ varsL x.v.atoms := varsL_mem.2 ⟨_, List.getElem_mem hlt, .inr rfl⟩
          have hat := all_take (p := fun a => decide (rowEd x.v.atoms t.l a ∈ es)) hlt
          have hpt := all_part (p := fun a => decide (rowEd x.v.atoms t.l a ∈ es)) hlt
          rw [hrel.out.1, Bool.true_and] at hat
          unfold rowEd at hat hpt
          rw [hAA]
          generalize x.v.atoms[k] = a at a0 a1 a2 hat hpt hm1 hm2
          have hil1 := idx_lt hm1
          have hil2 := idx_lt hm2
          have hg7 := heap_alloc_new wr (.cells #[.string ⟨a.fr.toArray⟩, .string ⟨a.lab.toArray⟩, .string ⟨a.to.toArray⟩] 49)
          have hb7 := hrel.out.2.alloc hrel.out.2.size (.cells #[.string ⟨a.fr.toArray⟩, .string ⟨a.lab.toArray⟩, .string ⟨a.to.toArray⟩] 49)
          obtain ⟨x0, x1, x2⟩ := box3 hg7
          have hpl := places_any vA vc (varsL x.v.atoms) a _ (S3.out.1.below hb7)
          rw [index_at hm1, index_at hm2] at hpl
          generalize (varsL x.v.atoms).idxOf a.fr = p at hil1 hpl hat hpt
          generalize (varsL x.v.atoms).idxOf a.to = q at hil2 hpl hat hpt
          obtain ⟨rb, ro, hRA, hrb, r0⟩ := (H0.out.2.2.below B3.out).cell (k := p) (by rw [hlen]; exact hil1)
          obtain ⟨rb', ro', hRA', _, r1⟩ := (H0.out.2.2.below B3.out).cell (k := q) (by rw [hlen]; exact hil2)
          rw [hRA] at hRA'
          injection hRA' with hRA'
          injection hRA' with e8 e9
          subst e8 e9
          have hg1 : t.l.getD p 0 = t.l[p]'(by rw [hlen]; exact hil1) := by rw [List.getD_eq_getElem?_getD, List.getElem?_eq_getElem (by rw [hlen]; exact hil1)]; rfl
          have hg2 : t.l.getD q 0 = t.l[q]'(by rw [hlen]; exact hil2) := by rw [List.getD_eq_getElem?_getD, List.getElem?_eq_getElem (by rw [hlen]; exact hil2)]; rfl
          rw [← hg1] at r0
          rw [← hg2] at r1
          have hf9 : I64 (t.l.getD p 0) ∨ True := .inr trivial
          generalize hF : t.l.getD p 0 = f9 at r0 hat hpt
          generalize hT : t.l.getD q 0 = t9 at r1 hat hpt
          have hpI : (p : Int) < ((varsL x.v.atoms).length : Int) := by omega
          have hqI : (q : Int) < ((varsL x.v.atoms).length : Int) := by omega
          rw [hRA]
          have HP := Lib.hid hpl
          have HJ := Lib.hid (And.intro hat hpt)
          have R7 := Lib.hid (And.intro hg7 (And.intro hb7 hrb))
          have RC := Lib.hid (And.intro r0 r1)
          clear hbw hAA hm1 hm2 hat hpt hil1 hil2 hg7 hb7 hpl hRA hrb hg1 hg2 hf9 hF hT hrel r0 r1
          go_upto_region 9 with (fail)
          clear a0 a1 a2
          generalize (wr.alloc (.cells #[.string ⟨a.fr.toArray⟩, .string ⟨a.lab.toArray⟩, .string ⟨a.to.toArray⟩] 49)) = w7 at HP R7 x0 x1 x2 ⊢
          generalize wr.heap.size = g7 at R7 x0 x1 x2 ⊢
          go_upto_region 10 with (go_at_call 39; (with_reducible refine HP.out.mono ?_); rintro e w8 ⟨rfl, b8⟩; have B8x := Lib.hid b8; clear b8 x0 x1 x2)
          have hb8 := R7.out.2.1.trans (lower' B8x.out R7.out.2.1.size)
          have x1 := (box3 ((B8x.out.block _ (heap_lt R7.out.1)).trans R7.out.1)).2.1
          have r0 := (hb8.cell (p := ⟨rb, ro + p, none⟩) R7.out.2.2).trans RC.out.1
          have r1 := (hb8.cell (p := ⟨rb, ro + q, none⟩) R7.out.2.2).trans RC.out.2
          have B8 := Lib.hid hb8.drew
          have hco := containsE_any A c es ⟨f9, a.lab, t9⟩ w8.drew (H0.out.2.1.below (B3.out.trans (lower' B8.out B3.out.size)))
          dsimp only at hco
          cases hd : decide ((⟨f9, a.lab, t9⟩ : Ed) ∈ es) with
          | true =>
            rw [hd] at hco
            have HJ1 := Lib.hid (HJ.out.1.trans hd)
            have HCO := Lib.hid hco
            clear hco hd hb8 HJ
            have hS0 : w8.drew.cell? ⟨rb, ro + p, none⟩ = some (.int .i64 f9) ∧ w8.drew.cell? ⟨rb, ro + q, none⟩ = some (.int .i64 t9) ∧ w8.drew.cell? ⟨g7, 1, none⟩ = some (.string ⟨a.lab.toArray⟩) := ⟨r0, r1, x1⟩
            refine wp_region_M (fun j => decide (j < 12)) (fun w' => w'.cell? ⟨rb, ro + p, none⟩ = some (.int .i64 f9) ∧ w'.cell? ⟨rb, ro + q, none⟩ = some (.int .i64 t9) ∧ w'.cell? ⟨g7, 1, none⟩ = some (.string ⟨a.lab.toArray⟩)) (by kernel_rfl) ?_
            refine wpAnyM_take (i := 0) (v := ?_) rfl (by kernel_rfl) (by kernel_rfl) (by kernel_rfl) (by kernel_rfl) (fun _ _ _ h => h) (Or.inl ⟨by rfl, ?_⟩) hS0 ?_
            rotate_left
            · intro w hSw; (try dsimp only at hSw); go_simp; (try with_reducible rfl)
            simp only [Act.put, List.getElem_toArray, List.getElem_cons_zero, List.getElem_cons_succ, List.setIfInBounds_toArray, List.set_cons_zero, List.set_cons_succ]
            refine wpAnyM_take (i := 1) (v := ?_) rfl (by kernel_rfl) (by kernel_rfl) (by kernel_rfl) (by kernel_rfl) (fun _ _ _ h => h) (Or.inl ⟨by rfl, ?_⟩) hS0 ?_
            rotate_left
            · intro w hSw; (try dsimp only at hSw); go_simp; (try with_reducible rfl)
            simp only [Act.put, List.getElem_toArray, List.getElem_cons_zero, List.getElem_cons_succ, List.setIfInBounds_toArray, List.set_cons_zero, List.set_cons_succ]
            refine wpAnyM_take (i := 2) (v := ?_) rfl (by kernel_rfl) (by kernel_rfl) (by kernel_rfl) (by kernel_rfl) (fun _ _ _ h => h) (Or.inl ⟨by rfl, ?_⟩) hS0 ?_
            rotate_left
            · intro w hSw; (try dsimp only at hSw); go_simp; (try with_reducible rfl)
            simp only [Act.put, List.getElem_toArray, List.getElem_cons_zero, List.getElem_cons_succ, List.setIfInBounds_toArray, List.set_cons_zero, List.set_cons_succ]
            refine wpAnyM_take (i := 3) (v := ?_) rfl (by kernel_rfl) (by kernel_rfl) (by kernel_rfl) (by kernel_rfl) (fun _ _ _ h => h) (Or.inl ⟨by rfl, ?_⟩) hS0 ?_
            rotate_left
            · intro w hSw; (try dsimp only at hSw); go_simp; (try with_reducible rfl)
            simp only [Act.put, List.getElem_toArray, List.getElem_cons_zero, List.getElem_cons_succ, List.setIfInBounds_toArray, List.set_cons_zero, List.set_cons_succ]
            refine wpAnyM_take (i := 4) (v := ?_) rfl (by kernel_rfl) (by kernel_rfl) (by kernel_rfl) (by kernel_rfl) (fun _ _ _ h => h) (Or.inl ⟨by rfl, ?_⟩) hS0 ?_
            rotate_left
            · intro w hSw; (try dsimp only at hSw); go_simp; (try with_reducible rfl)
            simp only [Act.put, List.getElem_toArray, List.getElem_cons_zero, List.getElem_cons_succ, List.setIfInBounds_toArray, List.set_cons_zero, List.set_cons_succ]
            refine wpAnyM_take (i := 5) (v := ?_) rfl (by kernel_rfl) (by kernel_rfl) (by kernel_rfl) (by kernel_rfl) (fun _ _ _ h => h) (Or.inl ⟨by rfl, ?_⟩) hS0 ?_
            rotate_left
            · intro w hSw; (try dsimp only at hSw); go_simp; (try with_reducible rfl)
            simp only [Act.put, List.getElem_toArray, List.getElem_cons_zero, List.getElem_cons_succ, List.setIfInBounds_toArray, List.set_cons_zero, List.set_cons_succ]
            refine wpAnyM_take (i := 6) (v := ?_) rfl (by kernel_rfl) (by kernel_rfl) (by kernel_rfl) (by kernel_rfl) (fun _ _ _ h => h) (Or.inl ⟨by rfl, ?_⟩) hS0 ?_
            rotate_left
            · intro w hSw; (try dsimp only at hSw); go_simp; (try with_reducible rfl)
            simp only [Act.put, List.getElem_toArray, List.getElem_cons_zero, List.getElem_cons_succ, List.setIfInBounds_toArray, List.set_cons_zero, List.set_cons_succ]
            refine wpAnyM_take (i := 7) (v := ?_) rfl (by kernel_rfl) (by kernel_rfl) (by kernel_rfl) (by kernel_rfl) (fun _ _ _ h => h) (Or.inl ⟨by rfl, ?_⟩) hS0 ?_
            rotate_left
            · intro w hSw; (try dsimp only at hSw); go_simp; (try with_reducible rfl)
            simp only [Act.put, List.getElem_toArray, List.getElem_cons_zero, List.getElem_cons_succ, List.setIfInBounds_toArray, List.set_cons_zero, List.set_cons_succ]
            refine wpAnyM_take (i := 8) (v := ?_) rfl (by kernel_rfl) (by kernel_rfl) (by kernel_rfl) (by kernel_rfl) (fun _ _ _ h => h) (Or.inl ⟨by rfl, ?_⟩) hS0 ?_
            rotate_left
            · intro w hSw; (try dsimp only at hSw); go_simp; (try with_reducible rfl)
            simp only [Act.put, List.getElem_toArray, List.getElem_cons_zero, List.getElem_cons_succ, List.setIfInBounds_toArray, List.set_cons_zero, List.set_cons_succ]
            refine wpAnyM_take (i := 9) (v := ?_) rfl (by kernel_rfl) (by kernel_rfl) (by kernel_rfl) (by kernel_rfl) (fun _ _ _ h => h) (Or.inl ⟨by rfl, ?_⟩) hS0 ?_
            rotate_left
            · intro w hSw; (try dsimp only at hSw); go_simp; (try with_reducible rfl)
            simp only [Act.put, List.getElem_toArray, List.getElem_cons_zero, List.getElem_cons_succ, List.setIfInBounds_toArray, List.set_cons_zero, List.set_cons_succ]
            refine wpAnyM_take (i := 10) (v := ?_) rfl (by kernel_rfl) (by kernel_rfl) (by kernel_rfl) (by kernel_rfl) (fun _ _ _ h => h) (Or.inl ⟨by rfl, ?_⟩) hS0 ?_
            rotate_left
            · intro w hSw; (try dsimp only at hSw); go_simp; (try with_reducible rfl)
            simp only [Act.put, List.getElem_toArray, List.getElem_cons_zero, List.getElem_cons_succ, List.setIfInBounds_toArray, List.set_cons_zero, List.set_cons_succ]
            refine wpAnyM_one (i := 11) (by kernel_rfl) rfl (fun K hK => ?_)
            go_simp
            refine hK.out _ _ (fun _ => hS0) ?_
            clear hK K
            refine wpAnyM_one (i := 12) (by kernel_rfl) rfl (fun K hK => ?_)
            go_simp
            go_wp2_with (go_at_call 40; (with_reducible refine HCO.out.mono ?_); rintro e w9 ⟨rfl, b9⟩; have B9 := Lib.hid (B8.out.trans (lower' b9 B8.out.size)); clear b9)
            refine hK.out _ _ (fun h => absurd h (by decide)) ?_
            clear hK K
            refine wpAnyM_one (i := 13) (by kernel_rfl) rfl (fun K hK => ?_)
            go_simp
            refine hK.out _ _ (fun h => absurd h (by decide)) ?_
            clear hK K
            refine wpAnyM_done (by kernel_rfl) ?_ _
            go_wp2_with (fail)
            go_roundw
            case rel => exact ⟨k + 1, by omega, by go_num, Lib.hid ⟨HJ1.out, B9.out⟩⟩
            case measure => simp [intOf]; omega
          | false =>
            rw [hd] at hco
            have HF := Lib.hid (show R = false from by rw [HR.out]; exact HJ.out.2 hd)
            have HCO := Lib.hid hco
            clear hco hd hb8 HJ
            have hS0 : w8.drew.cell? ⟨rb, ro + p, none⟩ = some (.int .i64 f9) ∧ w8.drew.cell? ⟨rb, ro + q, none⟩ = some (.int .i64 t9) ∧ w8.drew.cell? ⟨g7, 1, none⟩ = some (.string ⟨a.lab.toArray⟩) := ⟨r0, r1, x1⟩
            refine wp_region_M (fun j => decide (j < 12)) (fun w' => w'.cell? ⟨rb, ro + p, none⟩ = some (.int .i64 f9) ∧ w'.cell? ⟨rb, ro + q, none⟩ = some (.int .i64 t9) ∧ w'.cell? ⟨g7, 1, none⟩ = some (.string ⟨a.lab.toArray⟩)) (by kernel_rfl) ?_
            refine wpAnyM_take (i := 0) (v := ?_) rfl (by kernel_rfl) (by kernel_rfl) (by kernel_rfl) (by kernel_rfl) (fun _ _ _ h => h) (Or.inl ⟨by rfl, ?_⟩) hS0 ?_
            rotate_left
            · intro w hSw; (try dsimp only at hSw); go_simp; (try with_reducible rfl)
            simp only [Act.put, List.getElem_toArray, List.getElem_cons_zero, List.getElem_cons_succ, List.setIfInBounds_toArray, List.set_cons_zero, List.set_cons_succ]
            refine wpAnyM_take (i := 1) (v := ?_) rfl (by kernel_rfl) (by kernel_rfl) (by kernel_rfl) (by kernel_rfl) (fun _ _ _ h => h) (Or.inl ⟨by rfl, ?_⟩) hS0 ?_
            rotate_left
            · intro w hSw; (try dsimp only at hSw); go_simp; (try with_reducible rfl)
            simp only [Act.put, List.getElem_toArray, List.getElem_cons_zero, List.getElem_cons_succ, List.setIfInBounds_toArray, List.set_cons_zero, List.set_cons_succ]
            refine wpAnyM_take (i := 2) (v := ?_) rfl (by kernel_rfl) (by kernel_rfl) (by kernel_rfl) (by kernel_rfl) (fun _ _ _ h => h) (Or.inl ⟨by rfl, ?_⟩) hS0 ?_
            rotate_left
            · intro w hSw; (try dsimp only at hSw); go_simp; (try with_reducible rfl)
            simp only [Act.put, List.getElem_toArray, List.getElem_cons_zero, List.getElem_cons_succ, List.setIfInBounds_toArray, List.set_cons_zero, List.set_cons_succ]
            refine wpAnyM_take (i := 3) (v := ?_) rfl (by kernel_rfl) (by kernel_rfl) (by kernel_rfl) (by kernel_rfl) (fun _ _ _ h => h) (Or.inl ⟨by rfl, ?_⟩) hS0 ?_
            rotate_left
            · intro w hSw; (try dsimp only at hSw); go_simp; (try with_reducible rfl)
            simp only [Act.put, List.getElem_toArray, List.getElem_cons_zero, List.getElem_cons_succ, List.setIfInBounds_toArray, List.set_cons_zero, List.set_cons_succ]
            refine wpAnyM_take (i := 4) (v := ?_) rfl (by kernel_rfl) (by kernel_rfl) (by kernel_rfl) (by kernel_rfl) (fun _ _ _ h => h) (Or.inl ⟨by rfl, ?_⟩) hS0 ?_
            rotate_left
            · intro w hSw; (try dsimp only at hSw); go_simp; (try with_reducible rfl)
            simp only [Act.put, List.getElem_toArray, List.getElem_cons_zero, List.getElem_cons_succ, List.setIfInBounds_toArray, List.set_cons_zero, List.set_cons_succ]
            refine wpAnyM_take (i := 5) (v := ?_) rfl (by kernel_rfl) (by kernel_rfl) (by kernel_rfl) (by kernel_rfl) (fun _ _ _ h => h) (Or.inl ⟨by rfl, ?_⟩) hS0 ?_
            rotate_left
            · intro w hSw; (try dsimp only at hSw); go_simp; (try with_reducible rfl)
            simp only [Act.put, List.getElem_toArray, List.getElem_cons_zero, List.getElem_cons_succ, List.setIfInBounds_toArray, List.set_cons_zero, List.set_cons_succ]
            refine wpAnyM_take (i := 6) (v := ?_) rfl (by kernel_rfl) (by kernel_rfl) (by kernel_rfl) (by kernel_rfl) (fun _ _ _ h => h) (Or.inl ⟨by rfl, ?_⟩) hS0 ?_
            rotate_left
            · intro w hSw; (try dsimp only at hSw); go_simp; (try with_reducible rfl)
            simp only [Act.put, List.getElem_toArray, List.getElem_cons_zero, List.getElem_cons_succ, List.setIfInBounds_toArray, List.set_cons_zero, List.set_cons_succ]
            refine wpAnyM_take (i := 7) (v := ?_) rfl (by kernel_rfl) (by kernel_rfl) (by kernel_rfl) (by kernel_rfl) (fun _ _ _ h => h) (Or.inl ⟨by rfl, ?_⟩) hS0 ?_
            rotate_left
            · intro w hSw; (try dsimp only at hSw); go_simp; (try with_reducible rfl)
            simp only [Act.put, List.getElem_toArray, List.getElem_cons_zero, List.getElem_cons_succ, List.setIfInBounds_toArray, List.set_cons_zero, List.set_cons_succ]
            refine wpAnyM_take (i := 8) (v := ?_) rfl (by kernel_rfl) (by kernel_rfl) (by kernel_rfl) (by kernel_rfl) (fun _ _ _ h => h) (Or.inl ⟨by rfl, ?_⟩) hS0 ?_
            rotate_left
            · intro w hSw; (try dsimp only at hSw); go_simp; (try with_reducible rfl)
            simp only [Act.put, List.getElem_toArray, List.getElem_cons_zero, List.getElem_cons_succ, List.setIfInBounds_toArray, List.set_cons_zero, List.set_cons_succ]
            refine wpAnyM_take (i := 9) (v := ?_) rfl (by kernel_rfl) (by kernel_rfl) (by kernel_rfl) (by kernel_rfl) (fun _ _ _ h => h) (Or.inl ⟨by rfl, ?_⟩) hS0 ?_
            rotate_left
            · intro w hSw; (try dsimp only at hSw); go_simp; (try with_reducible rfl)
            simp only [Act.put, List.getElem_toArray, List.getElem_cons_zero, List.getElem_cons_succ, List.setIfInBounds_toArray, List.set_cons_zero, List.set_cons_succ]
            refine wpAnyM_take (i := 10) (v := ?_) rfl (by kernel_rfl) (by kernel_rfl) (by kernel_rfl) (by kernel_rfl) (fun _ _ _ h => h) (Or.inl ⟨by rfl, ?_⟩) hS0 ?_
            rotate_left
            · intro w hSw; (try dsimp only at hSw); go_simp; (try with_reducible rfl)
            simp only [Act.put, List.getElem_toArray, List.getElem_cons_zero, List.getElem_cons_succ, List.setIfInBounds_toArray, List.set_cons_zero, List.set_cons_succ]
            refine wpAnyM_one (i := 11) (by kernel_rfl) rfl (fun K hK => ?_)
            go_simp
            refine hK.out _ _ (fun _ => hS0) ?_
            clear hK K
            refine wpAnyM_one (i := 12) (by kernel_rfl) rfl (fun K hK => ?_)
            go_simp
            go_wp2_with (go_at_call 40; (with_reducible refine HCO.out.mono ?_); rintro e w9 ⟨rfl, b9⟩; have B9 := Lib.hid (B8.out.trans (lower' b9 B8.out.size)); clear b9)
            refine hK.out _ _ (fun h => absurd h (by decide)) ?_
            clear hK K
            refine wpAnyM_one (i := 13) (by kernel_rfl) rfl (fun K hK => ?_)
            go_simp
            refine hK.out _ _ (fun h => absurd h (by decide)) ?_
            clear hK K
            refine wpAnyM_done (by kernel_rfl) ?_ _
            go_wp2_with (fail)
            go_ret
            exact ⟨by rw [HF.out]; rfl, B3.out.trans (lower' B9.out B3.out.size)⟩
        · have hkI : ¬ (k : Int) < (x.v.atoms.length : Int) := by omega
          have hall := hrel.out.1
          rw [List.take_of_length_le (by omega)] at hall
          have HF := Lib.hid (show R = true from by rw [HR.out]; exact hall)
          have HB9 := Lib.hid (B3.out.trans (lower' hrel.out.2 B3.out.size))
          clear hall hrel
          go_wp2_with (fail)
          go_ret
          exact ⟨by rw [HF.out]; rfl, HB9.out⟩
    · have HR : Hid (R = false) := Lib.hid (by rw [hR, decide_eq_false hlen]; rfl)
      have hlI : ((t.l.length : Int) != ((varsL x.v.atoms).length : Int)) = true := by simp; omega
      clear hR hlen
      go_enter Try.func20, Try.ntmps20
      go_wp2_with (first
        | (go_at_call 26; (with_reducible refine HK.out.mono ?_); rintro e w2 ⟨rfl, b2⟩; have B2 := Lib.hid (HB.out.1.trans (lower' b2 HB.out.1.size)); have HV2 := Lib.hid (HV.out w2 B2.out); obtain ⟨q0, q1, q2, q3, q4⟩ := box5 ((b2.block w.heap.size (by simp)).trans HB.out.2); clear b2)
        | (go_at_call 38; (with_reducible refine HV2.out.mono ?_); rintro e w3 ⟨vA, vc, rfl, _, s3, b3⟩; have B3 := Lib.hid (B2.out.trans (lower' b3 B2.out.size)); clear q0 q1 q2 q3 q4 b3 s3))
      go_ret
      exact ⟨by rw [HR.out]; rfl, B3.out⟩
end Go.Proofs.Ytobieolonlddlaa
