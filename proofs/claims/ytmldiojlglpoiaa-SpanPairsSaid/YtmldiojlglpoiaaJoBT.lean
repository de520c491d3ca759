/- The document's Sorted. -/
import Derived.Test.YtmldiojlglpoiaaJnK
namespace Go.Proofs.Ytmldiojlglpoiaa
open Go.RowKit Go.Maps

/-- All blocks of a list and its tuples are so. -/
def BlkP (P : Nat → Prop) (y : LV) : Prop := (∀ a, y.A = some a → P a.block) ∧ ∀ t ∈ y.ts, ∀ a, t.A = some a → P a.block
/-- What Sorted answers, and where it lies. -/
def WoP (w : World) (P : Nat → Prop) (R : List Tu) (e : Ending) (w' : World) : Prop := ∃ x : LV, e = .returned (.slice x.A x.ts.length x.c) ∧ x.Ok w' ∧ tus x.ts = R ∧ Below w.heap.size w w' ∧ BlkP P x
set_option maxRecDepth 100000 in
set_option maxHeartbeats 8000000 in
theorem rsorted_n (P : Nat → Prop) : ∀ (n : Nat) (y : LV) (w : World), y.ts.length ≤ n → y.Ok w → BlkP P y → (∀ b, w.heap.size ≤ b → P b) → Calls Try.prog 44 #[.slice y.A y.ts.length y.c] w (WoP w P (setL (tus y.ts))) := by
  intro n
  induction n with
  | zero =>
    intro y w hn hy hP hQ
    have h2 : (y.ts.length : Int) < 2 := by omega
    have hs : tus y.ts = [] := List.length_eq_zero_iff.1 (by rw [tus_len]; omega)
    have HY := Lib.hid (And.intro hy (And.intro hs hP))
    clear hy hs hn hP hQ
    go_enter Try.func44, Try.ntmps44
    go_wp2_with (fail)
    go_ret
    exact ⟨y, rfl, HY.out.1, by rw [HY.out.2.1]; rfl, Below.refl _ _, HY.out.2.2⟩
  | succ n ih =>
    intro y w hn hy hP hQ
    by_cases h2 : y.ts.length < 2
    · have h2I : (y.ts.length : Int) < 2 := by omega
      have hs : setL (tus y.ts) = tus y.ts := by
        rcases hts : tus y.ts with _ | ⟨t, _ | ⟨t', r⟩⟩
        · rfl
        · rfl
        · have := congrArg List.length hts
          rw [tus_len] at this
          simp at this
          omega
      have HY := Lib.hid (And.intro hy (And.intro hs hP))
      clear hy hs hn h2 hP hQ
      go_enter Try.func44, Try.ntmps44
      go_wp2_with (fail)
      go_ret
      exact ⟨y, rfl, HY.out.1, HY.out.2.1.symm, Below.refl _ _, HY.out.2.2⟩
    · have h2I : ¬ (y.ts.length : Int) < 2 := by omega
      obtain ⟨b, o, hA, -, -⟩ := LV.Ok.cell' hy (k := 0) (by omega)
      obtain ⟨A, ts, c⟩ := y
      dsimp only at hA hn h2 h2I ⊢
      subst hA
      have hPb : P b := hP.1 _ rfl
      have hPt : ∀ t ∈ ts, ∀ a, t.A = some a → P a.block := hP.2
      obtain ⟨h, hh⟩ : ∃ h : Nat, h = ts.length / 2 := ⟨_, rfl⟩
      have hc : ts.length ≤ c := hy.cap
      have hsm : ts.length ≤ 5000 := hy.sm
      have hle : h ≤ ts.length := by omega
      have hlc : h ≤ c := by omega
      have hq1 : ((ts.length : Int)).tdiv 2 = (h : Int) := by rw [Int.tdiv_eq_ediv_of_nonneg (by omega)]; omega
      have hq2 : ((ts.length : Int)) / 2 = (h : Int) := by omega
      have hwr : IntKind.i64.wrap (h : Int) = (h : Int) := IntWalk.i64_in _ (by omega)
      have hnc : ¬ c = h := by omega
      have hlcI : (h : Int) ≤ (c : Int) := by omega
      have hleI : (h : Int) ≤ (ts.length : Int) := by omega
      obtain ⟨k1, k2⟩ := hy.part h hle
      have i1 := ih ⟨some ⟨b, o, none⟩, ts.take h, c⟩ w.drew (by dsimp only; rw [List.length_take]; omega) (k1.below (Below.refl _ _).drew) ⟨fun a ha => by injection ha with ha; rw [← ha]; exact hPb, fun t ht => hPt t (List.mem_of_mem_take ht)⟩ hQ
      have i2 := fun W (hW : Below w.heap.size w W) => ih ⟨some ⟨b, o + h, none⟩, ts.drop h, c - h⟩ W (by dsimp only; rw [List.length_drop]; omega) (k2.below hW) ⟨fun a ha => by injection ha with ha; rw [← ha]; exact hPb, fun t ht => hPt t (List.mem_of_mem_drop ht)⟩ (fun b hb => hQ b (Nat.le_trans hW.size hb))
      have el1 : (ts.take h).length = h := by rw [List.length_take]; omega
      have el2 : (ts.drop h).length = ts.length - h := by rw [List.length_drop]
      dsimp only at i1 i2
      rw [el1] at i1
      rw [el2] at i2
      have hset : mrg2 (setL (tus (ts.take h))) (setL (tus (ts.drop h))) = setL (tus ts) := by
        rw [set_mrg2]
        congr 1
        unfold tus
        rw [← List.map_append, List.take_append_drop]
      have HI1 := Lib.hid i1
      have HI2 := Lib.hid i2
      have HS := Lib.hid hset
      have HQ := Lib.hid hQ
      clear hP hPb hPt hQ
      clear ih hy hn i1 i2 k1 k2 el1 el2 hset hh
      go_enter Try.func44, Try.ntmps44
      go_upto_region 3 with (fail)
      refine wp_region_M (fun _ => true) (fun _ => True) (by kernel_rfl) ?_
      refine wpAnyM_take (i := 0) (v := ?_) rfl (by kernel_rfl) (by kernel_rfl) (by kernel_rfl) (by kernel_rfl) (fun _ _ _ h => h) (Or.inl ⟨by rfl, ?_⟩) trivial ?_
      rotate_left
      · intro w hSw; (try dsimp only at hSw); go_simp; (try with_reducible rfl)
      simp only [Act.put, List.getElem_toArray, List.getElem_cons_zero, List.getElem_cons_succ, List.setIfInBounds_toArray, List.set_cons_zero, List.set_cons_succ]
      refine wpAnyM_take (i := 1) (v := ?_) rfl (by kernel_rfl) (by kernel_rfl) (by kernel_rfl) (by kernel_rfl) (fun _ _ _ h => h) (Or.inl ⟨by rfl, ?_⟩) trivial ?_
      rotate_left
      · intro w hSw; (try dsimp only at hSw); go_simp; (try with_reducible rfl)
      simp only [Act.put, List.getElem_toArray, List.getElem_cons_zero, List.getElem_cons_succ, List.setIfInBounds_toArray, List.set_cons_zero, List.set_cons_succ]
      refine wpAnyM_take (i := 2) (v := ?_) rfl (by kernel_rfl) (by kernel_rfl) (by kernel_rfl) (by kernel_rfl) (fun _ _ _ h => h) (Or.inl ⟨by rfl, ?_⟩) trivial ?_
      rotate_left
      · intro w hSw; (try dsimp only at hSw); go_simp; (try with_reducible rfl)
      simp only [Act.put, List.getElem_toArray, List.getElem_cons_zero, List.getElem_cons_succ, List.setIfInBounds_toArray, List.set_cons_zero, List.set_cons_succ]
      refine wpAnyM_take (i := 3) (v := ?_) rfl (by kernel_rfl) (by kernel_rfl) (by kernel_rfl) (by kernel_rfl) (fun _ _ _ h => h) (Or.inl ⟨by rfl, ?_⟩) trivial ?_
      rotate_left
      · intro w hSw; (try dsimp only at hSw); go_simp; (try with_reducible rfl)
      simp only [Act.put, List.getElem_toArray, List.getElem_cons_zero, List.getElem_cons_succ, List.setIfInBounds_toArray, List.set_cons_zero, List.set_cons_succ]
      refine wpAnyM_take (i := 4) (v := ?_) rfl (by kernel_rfl) (by kernel_rfl) (by kernel_rfl) (by kernel_rfl) (fun _ _ _ h => h) (Or.inl ⟨by rfl, ?_⟩) trivial ?_
      rotate_left
      · intro w hSw; (try dsimp only at hSw); go_simp; (try with_reducible rfl)
      simp only [Act.put, List.getElem_toArray, List.getElem_cons_zero, List.getElem_cons_succ, List.setIfInBounds_toArray, List.set_cons_zero, List.set_cons_succ]
      refine wpAnyM_take (i := 6) (v := ?_) rfl (by kernel_rfl) (by kernel_rfl) (by kernel_rfl) (by kernel_rfl) (fun _ _ _ h => h) (Or.inl ⟨by rfl, ?_⟩) trivial ?_
      rotate_left
      · intro w hSw; (try dsimp only at hSw); go_simp; (try with_reducible rfl)
      simp only [Act.put, List.getElem_toArray, List.getElem_cons_zero, List.getElem_cons_succ, List.setIfInBounds_toArray, List.set_cons_zero, List.set_cons_succ]
      refine wpAnyM_take (i := 7) (v := ?_) rfl (by kernel_rfl) (by kernel_rfl) (by kernel_rfl) (by kernel_rfl) (fun _ _ _ h => h) (Or.inl ⟨by rfl, ?_⟩) trivial ?_
      rotate_left
      · intro w hSw; (try dsimp only at hSw); go_simp; (try with_reducible rfl)
      simp only [Act.put, List.getElem_toArray, List.getElem_cons_zero, List.getElem_cons_succ, List.setIfInBounds_toArray, List.set_cons_zero, List.set_cons_succ]
      refine wpAnyM_take (i := 8) (v := ?_) rfl (by kernel_rfl) (by kernel_rfl) (by kernel_rfl) (by kernel_rfl) (fun _ _ _ h => h) (Or.inl ⟨by rfl, ?_⟩) trivial ?_
      rotate_left
      · intro w hSw; (try dsimp only at hSw); go_simp; (try with_reducible rfl)
      simp only [Act.put, List.getElem_toArray, List.getElem_cons_zero, List.getElem_cons_succ, List.setIfInBounds_toArray, List.set_cons_zero, List.set_cons_succ]
      refine wpAnyM_take (i := 9) (v := ?_) rfl (by kernel_rfl) (by kernel_rfl) (by kernel_rfl) (by kernel_rfl) (fun _ _ _ h => h) (Or.inl ⟨by rfl, ?_⟩) trivial ?_
      rotate_left
      · intro w hSw; (try dsimp only at hSw); go_simp; (try with_reducible rfl)
      simp only [Act.put, List.getElem_toArray, List.getElem_cons_zero, List.getElem_cons_succ, List.setIfInBounds_toArray, List.set_cons_zero, List.set_cons_succ]
      refine wpAnyM_take (i := 10) (v := ?_) rfl (by kernel_rfl) (by kernel_rfl) (by kernel_rfl) (by kernel_rfl) (fun _ _ _ h => h) (Or.inl ⟨by rfl, ?_⟩) trivial ?_
      rotate_left
      · intro w hSw; (try dsimp only at hSw); go_simp; (try with_reducible rfl)
      simp only [Act.put, List.getElem_toArray, List.getElem_cons_zero, List.getElem_cons_succ, List.setIfInBounds_toArray, List.set_cons_zero, List.set_cons_succ]
      refine wpAnyM_one (i := 5) (by kernel_rfl) rfl (fun K hK => ?_)
      go_simp
      go_wp2_with (go_at_call 44; (with_reducible refine HI1.out.mono ?_); rintro e w1 ⟨y1, rfl, p1, p2, p3, p4⟩; have YP1 := Lib.hid p4; clear p4; have HB1 := Lib.hid ((Below.refl w.heap.size w).drew.trans p3); have Y1 := Lib.hid (And.intro p1 p2); clear p1 p2 p3)
      refine hK.out _ _ (fun _ => trivial) ?_
      clear hK K
      refine wpAnyM_one (i := 11) (by kernel_rfl) rfl (fun K hK => ?_)
      go_simp
      go_wp2_with (go_at_call 44; (with_reducible refine (HI2.out _ HB1.out).mono ?_); rintro e w2 ⟨y2, rfl, p1, p2, p3, p4⟩; have YP2 := Lib.hid p4; clear p4; have HB2 := Lib.hid (And.intro p3 (HB1.out.trans (lower' p3 HB1.out.size))); have Y2 := Lib.hid (And.intro p1 p2); clear p1 p2 p3)
      refine hK.out _ _ (fun _ => trivial) ?_
      clear hK K
      refine wpAnyM_one (i := 12) (by kernel_rfl) rfl (fun K hK => ?_)
      go_simp
      refine hK.out _ _ (fun _ => trivial) ?_
      clear hK K
      refine wpAnyM_one (i := 13) (by kernel_rfl) rfl (fun K hK => ?_)
      go_simp
      refine hK.out _ _ (fun _ => trivial) ?_
      clear hK K
      refine wpAnyM_done (by kernel_rfl) ?_ _
      have Y12 := Lib.hid (And.intro (Y1.out.1.below HB2.out.1) Y2.out.1)
      have HE := Lib.hid (show mrg2 (tus y1.ts) (tus y2.ts) = setL (tus ts) from by rw [Y1.out.2, Y2.out.2]; exact HS.out)
      have hs1 : y1.ts.length ≤ 5000 := Y1.out.1.sm
      have hs2 : y2.ts.length ≤ 5000 := Y2.out.1.sm
      clear HI1 HI2 HS Y1 Y2 HB1 hq1 hq2
      go_wp2_with (fail)
      go_loopw [5, 6, 7] (fun out s6 s7 wr => ∃ (i k : Nat) (O : List TV), i ≤ y1.ts.length ∧ k ≤ y2.ts.length ∧ s6 = .int .i64 (i : Int) ∧ s7 = .int .i64 (k : Int) ∧ Hid (OwnT wr w2.heap.size out O ∧ tus O ++ mrg2 ((tus y1.ts).drop i) ((tus y2.ts).drop k) = setL (tus ts) ∧ (∀ t ∈ O, t ∈ y1.ts ∨ t ∈ y2.ts) ∧ O.length ≤ i + k ∧ Below w2.heap.size w2 wr)) (fun _ s6 s7 _ => (y1.ts.length - (intOf s6).toNat) + (y2.ts.length - (intOf s7).toNat))
      case atStart => exact ⟨0, 0, [], by omega, by omega, rfl, rfl, Lib.hid ⟨World.ownsRow_nil _ _ _ _, HE.out, by simp, by simp, Below.refl _ _⟩⟩
      case round =>
        obtain ⟨i, k, O, hi, hk, rfl, rfl, hrel⟩ := hrel
        rename World => wr
        have hOl : O.length ≤ 10000 := by have := hrel.out.2.2.2.1; omega
        have h1w := Y12.out.1.below hrel.out.2.2.2.2
        have h2w := Y12.out.2.below hrel.out.2.2.2.2
        by_cases hi1 : i < y1.ts.length
        · have hiI : (i : Int) < (y1.ts.length : Int) := by omega
          obtain ⟨ab, ao, hA1, _, c1⟩ := LV.Ok.cell' h1w hi1
          have ha1 := tus_at y1.ts i hi1
          have hm1 : y1.ts[i] ∈ y1.ts := List.getElem_mem hi1
          by_cases hk1 : k < y2.ts.length
          · have hkI : (k : Int) < (y2.ts.length : Int) := by omega
            have hkG : ¬ (y2.ts.length : Int) ≤ (k : Int) := by omega
            have hiG : ¬ (y1.ts.length : Int) ≤ (i : Int) := by omega
            obtain ⟨bb, bo, hA2, _, c2⟩ := LV.Ok.cell' h2w hk1
            have hst := mrg_drop (a := tus y1.ts) (b := tus y2.ts) (i := i) (k := k) (by rw [tus_len]; exact hi1) (by rw [tus_len]; exact hk1)
            have hm2 : y2.ts[k] ∈ y2.ts := List.getElem_mem hk1
            have ho1 := h1w.ok _ hm1
            have ho2 := h2w.ok _ hm2
            rw [ha1, tus_at y2.ts k hk1] at hst
            rw [hA1, hA2]
            generalize y1.ts[i] = x at c1 hst hm1 ho1
            generalize y2.ts[k] = z at c2 hst hm2 ho2
            have hcall := rcmp_any x z wr.drew (ho1.below (Below.refl _ _).drew) (ho2.below (Below.refl _ _).drew)
            have hrg := cmpI_rng x.l z.l
            generalize cmpI x.l z.l = R at hst hcall hrg
            have HN := Lib.hid (And.intro hst (And.intro hm1 hm2))
            have HR := Lib.hid hrel.out
            have HCL := Lib.hid hcall
            have hS0 : wr.drew.cell? ⟨ab, ao + i, none⟩ = some (.slice x.A x.l.length x.c) ∧ wr.drew.cell? ⟨bb, bo + k, none⟩ = some (.slice z.A z.l.length z.c) := ⟨c1, c2⟩
            have HS := Lib.hid hS0
            clear h1w h2w hst hm1 hm2 ho1 ho2 ha1 hcall hrel hA1 hA2 hS0
            have hc1l := World.block_lt_of_cell? wr _ c1
            have hc2l := World.block_lt_of_cell? wr _ c2
            have HCC := Lib.hid (And.intro (And.intro hc1l c1) (And.intro hc2l c2))
            clear hc1l hc2l c1 c2
            rcases hrg with rfl | rfl | rfl
            · go_upto_region 9 with (fail)
              refine wp_region_M (fun j => decide (j < 8)) (fun w' => w'.cell? ⟨ab, ao + i, none⟩ = some (.slice x.A x.l.length x.c) ∧ w'.cell? ⟨bb, bo + k, none⟩ = some (.slice z.A z.l.length z.c)) (by kernel_rfl) ?_
              refine wpAnyM_take (i := 0) (v := ?_) rfl (by kernel_rfl) (by kernel_rfl) (by kernel_rfl) (by kernel_rfl) (fun _ _ _ h => h) (Or.inl ⟨by rfl, ?_⟩) HS.out ?_
              rotate_left
              · intro w hSw; (try dsimp only at hSw); go_simp; (try with_reducible rfl)
              simp only [Act.put, List.getElem_toArray, List.getElem_cons_zero, List.getElem_cons_succ, List.setIfInBounds_toArray, List.set_cons_zero, List.set_cons_succ]
              refine wpAnyM_take (i := 1) (v := ?_) rfl (by kernel_rfl) (by kernel_rfl) (by kernel_rfl) (by kernel_rfl) (fun _ _ _ h => h) (Or.inl ⟨by rfl, ?_⟩) HS.out ?_
              rotate_left
              · intro w hSw; (try dsimp only at hSw); go_simp; (try with_reducible rfl)
              simp only [Act.put, List.getElem_toArray, List.getElem_cons_zero, List.getElem_cons_succ, List.setIfInBounds_toArray, List.set_cons_zero, List.set_cons_succ]
              refine wpAnyM_take (i := 2) (v := ?_) rfl (by kernel_rfl) (by kernel_rfl) (by kernel_rfl) (by kernel_rfl) (fun _ _ _ h => h) (Or.inl ⟨by rfl, ?_⟩) HS.out ?_
              rotate_left
              · intro w hSw; (try dsimp only at hSw); go_simp; (try with_reducible rfl)
              simp only [Act.put, List.getElem_toArray, List.getElem_cons_zero, List.getElem_cons_succ, List.setIfInBounds_toArray, List.set_cons_zero, List.set_cons_succ]
              refine wpAnyM_take (i := 3) (v := ?_) rfl (by kernel_rfl) (by kernel_rfl) (by kernel_rfl) (by kernel_rfl) (fun _ _ _ h => h) (Or.inl ⟨by rfl, ?_⟩) HS.out ?_
              rotate_left
              · intro w hSw; (try dsimp only at hSw); go_simp; (try with_reducible rfl)
              simp only [Act.put, List.getElem_toArray, List.getElem_cons_zero, List.getElem_cons_succ, List.setIfInBounds_toArray, List.set_cons_zero, List.set_cons_succ]
              refine wpAnyM_take (i := 4) (v := ?_) rfl (by kernel_rfl) (by kernel_rfl) (by kernel_rfl) (by kernel_rfl) (fun _ _ _ h => h) (Or.inl ⟨by rfl, ?_⟩) HS.out ?_
              rotate_left
              · intro w hSw; (try dsimp only at hSw); go_simp; (try with_reducible rfl)
              simp only [Act.put, List.getElem_toArray, List.getElem_cons_zero, List.getElem_cons_succ, List.setIfInBounds_toArray, List.set_cons_zero, List.set_cons_succ]
              refine wpAnyM_take (i := 5) (v := ?_) rfl (by kernel_rfl) (by kernel_rfl) (by kernel_rfl) (by kernel_rfl) (fun _ _ _ h => h) (Or.inl ⟨by rfl, ?_⟩) HS.out ?_
              rotate_left
              · intro w hSw; (try dsimp only at hSw); go_simp; (try with_reducible rfl)
              simp only [Act.put, List.getElem_toArray, List.getElem_cons_zero, List.getElem_cons_succ, List.setIfInBounds_toArray, List.set_cons_zero, List.set_cons_succ]
              refine wpAnyM_take (i := 6) (v := ?_) rfl (by kernel_rfl) (by kernel_rfl) (by kernel_rfl) (by kernel_rfl) (fun _ _ _ h => h) (Or.inl ⟨by rfl, ?_⟩) HS.out ?_
              rotate_left
              · intro w hSw; (try dsimp only at hSw); go_simp; (try with_reducible rfl)
              simp only [Act.put, List.getElem_toArray, List.getElem_cons_zero, List.getElem_cons_succ, List.setIfInBounds_toArray, List.set_cons_zero, List.set_cons_succ]
              refine wpAnyM_take (i := 7) (v := ?_) rfl (by kernel_rfl) (by kernel_rfl) (by kernel_rfl) (by kernel_rfl) (fun _ _ _ h => h) (Or.inl ⟨by rfl, ?_⟩) HS.out ?_
              rotate_left
              · intro w hSw; (try dsimp only at hSw); go_simp; (try with_reducible rfl)
              simp only [Act.put, List.getElem_toArray, List.getElem_cons_zero, List.getElem_cons_succ, List.setIfInBounds_toArray, List.set_cons_zero, List.set_cons_succ]
              refine wpAnyM_one (i := 8) (by kernel_rfl) rfl (fun K hK => ?_)
              go_simp
              go_wp2_with (go_at_call 45; (with_reducible refine HCL.out.mono ?_); rintro e w9 ⟨rfl, hd⟩; have B9 := Lib.hid ((Below.refl wr.heap.size wr).drew.trans (below_drawn hd)); clear hd)
              refine hK.out _ _ (fun h => absurd h (by decide)) ?_
              clear hK K
              refine wpAnyM_one (i := 9) (by kernel_rfl) rfl (fun K hK => ?_)
              go_simp
              refine hK.out _ _ (fun h => absurd h (by decide)) ?_
              clear hK K
              refine wpAnyM_done (by kernel_rfl) ?_ _
              have o9 := OwnT.below HR.out.1 B9.out
              have B29 := Lib.hid (HR.out.2.2.2.2.trans (lower' B9.out HR.out.2.2.2.2.size))
              have O9 := Lib.hid o9
              have c1 := (B9.out.cell (p := ⟨ab, ao + i, none⟩) HCC.out.1.1).trans HCC.out.1.2
              have c2 := (B9.out.cell (p := ⟨bb, bo + k, none⟩) HCC.out.2.1).trans HCC.out.2.2
              clear o9
              go_wp2_with (at_builtin; refine wpList_app1 w9 rfl (.tmp 71) (.tmp 76) rfl w2.heap.size _ O (by rfl) O9.out x (by rfl) (by omega) B29.out.size ?_; intro v5 w5 o5 b5)
              go_roundw
              case rel => exact ⟨i + 1, k, O ++ [x], by omega, by omega, by go_num, rfl, Lib.hid ⟨o5, by rw [tus_app, List.append_assoc]; have := HR.out.2.1; rw [HN.out.1, if_pos (by omega)] at this; exact this, fun t ht => by
                  rcases List.mem_append.1 ht with ht | ht
                  · exact HR.out.2.2.1 t ht
                  · rw [List.mem_singleton.1 ht]; exact .inl HN.out.2.1, by rw [List.length_append]; simp; have := HR.out.2.2.2.1; omega, B29.out.trans b5⟩⟩
              case measure => simp [intOf]; omega
            · go_upto_region 9 with (fail)
              refine wp_region_M (fun j => decide (j < 8)) (fun w' => w'.cell? ⟨ab, ao + i, none⟩ = some (.slice x.A x.l.length x.c) ∧ w'.cell? ⟨bb, bo + k, none⟩ = some (.slice z.A z.l.length z.c)) (by kernel_rfl) ?_
              refine wpAnyM_take (i := 0) (v := ?_) rfl (by kernel_rfl) (by kernel_rfl) (by kernel_rfl) (by kernel_rfl) (fun _ _ _ h => h) (Or.inl ⟨by rfl, ?_⟩) HS.out ?_
              rotate_left
              · intro w hSw; (try dsimp only at hSw); go_simp; (try with_reducible rfl)
              simp only [Act.put, List.getElem_toArray, List.getElem_cons_zero, List.getElem_cons_succ, List.setIfInBounds_toArray, List.set_cons_zero, List.set_cons_succ]
              refine wpAnyM_take (i := 1) (v := ?_) rfl (by kernel_rfl) (by kernel_rfl) (by kernel_rfl) (by kernel_rfl) (fun _ _ _ h => h) (Or.inl ⟨by rfl, ?_⟩) HS.out ?_
              rotate_left
              · intro w hSw; (try dsimp only at hSw); go_simp; (try with_reducible rfl)
              simp only [Act.put, List.getElem_toArray, List.getElem_cons_zero, List.getElem_cons_succ, List.setIfInBounds_toArray, List.set_cons_zero, List.set_cons_succ]
              refine wpAnyM_take (i := 2) (v := ?_) rfl (by kernel_rfl) (by kernel_rfl) (by kernel_rfl) (by kernel_rfl) (fun _ _ _ h => h) (Or.inl ⟨by rfl, ?_⟩) HS.out ?_
              rotate_left
              · intro w hSw; (try dsimp only at hSw); go_simp; (try with_reducible rfl)
              simp only [Act.put, List.getElem_toArray, List.getElem_cons_zero, List.getElem_cons_succ, List.setIfInBounds_toArray, List.set_cons_zero, List.set_cons_succ]
              refine wpAnyM_take (i := 3) (v := ?_) rfl (by kernel_rfl) (by kernel_rfl) (by kernel_rfl) (by kernel_rfl) (fun _ _ _ h => h) (Or.inl ⟨by rfl, ?_⟩) HS.out ?_
              rotate_left
              · intro w hSw; (try dsimp only at hSw); go_simp; (try with_reducible rfl)
              simp only [Act.put, List.getElem_toArray, List.getElem_cons_zero, List.getElem_cons_succ, List.setIfInBounds_toArray, List.set_cons_zero, List.set_cons_succ]
              refine wpAnyM_take (i := 4) (v := ?_) rfl (by kernel_rfl) (by kernel_rfl) (by kernel_rfl) (by kernel_rfl) (fun _ _ _ h => h) (Or.inl ⟨by rfl, ?_⟩) HS.out ?_
              rotate_left
              · intro w hSw; (try dsimp only at hSw); go_simp; (try with_reducible rfl)
              simp only [Act.put, List.getElem_toArray, List.getElem_cons_zero, List.getElem_cons_succ, List.setIfInBounds_toArray, List.set_cons_zero, List.set_cons_succ]
              refine wpAnyM_take (i := 5) (v := ?_) rfl (by kernel_rfl) (by kernel_rfl) (by kernel_rfl) (by kernel_rfl) (fun _ _ _ h => h) (Or.inl ⟨by rfl, ?_⟩) HS.out ?_
              rotate_left
              · intro w hSw; (try dsimp only at hSw); go_simp; (try with_reducible rfl)
              simp only [Act.put, List.getElem_toArray, List.getElem_cons_zero, List.getElem_cons_succ, List.setIfInBounds_toArray, List.set_cons_zero, List.set_cons_succ]
              refine wpAnyM_take (i := 6) (v := ?_) rfl (by kernel_rfl) (by kernel_rfl) (by kernel_rfl) (by kernel_rfl) (fun _ _ _ h => h) (Or.inl ⟨by rfl, ?_⟩) HS.out ?_
              rotate_left
              · intro w hSw; (try dsimp only at hSw); go_simp; (try with_reducible rfl)
              simp only [Act.put, List.getElem_toArray, List.getElem_cons_zero, List.getElem_cons_succ, List.setIfInBounds_toArray, List.set_cons_zero, List.set_cons_succ]
              refine wpAnyM_take (i := 7) (v := ?_) rfl (by kernel_rfl) (by kernel_rfl) (by kernel_rfl) (by kernel_rfl) (fun _ _ _ h => h) (Or.inl ⟨by rfl, ?_⟩) HS.out ?_
              rotate_left
              · intro w hSw; (try dsimp only at hSw); go_simp; (try with_reducible rfl)
              simp only [Act.put, List.getElem_toArray, List.getElem_cons_zero, List.getElem_cons_succ, List.setIfInBounds_toArray, List.set_cons_zero, List.set_cons_succ]
              refine wpAnyM_one (i := 8) (by kernel_rfl) rfl (fun K hK => ?_)
              go_simp
              go_wp2_with (go_at_call 45; (with_reducible refine HCL.out.mono ?_); rintro e w9 ⟨rfl, hd⟩; have B9 := Lib.hid ((Below.refl wr.heap.size wr).drew.trans (below_drawn hd)); clear hd)
              refine hK.out _ _ (fun h => absurd h (by decide)) ?_
              clear hK K
              refine wpAnyM_one (i := 9) (by kernel_rfl) rfl (fun K hK => ?_)
              go_simp
              refine hK.out _ _ (fun h => absurd h (by decide)) ?_
              clear hK K
              refine wpAnyM_done (by kernel_rfl) ?_ _
              have o9 := OwnT.below HR.out.1 B9.out
              have B29 := Lib.hid (HR.out.2.2.2.2.trans (lower' B9.out HR.out.2.2.2.2.size))
              have O9 := Lib.hid o9
              have c1 := (B9.out.cell (p := ⟨ab, ao + i, none⟩) HCC.out.1.1).trans HCC.out.1.2
              have c2 := (B9.out.cell (p := ⟨bb, bo + k, none⟩) HCC.out.2.1).trans HCC.out.2.2
              clear o9
              go_wp2_with (fail)
              go_roundw
              case rel => exact ⟨i + 1, k, O, by omega, by omega, by go_num, rfl, Lib.hid ⟨O9.out, by have := HR.out.2.1; rw [HN.out.1, if_neg (by omega), if_pos trivial] at this; exact this, HR.out.2.2.1, by have := HR.out.2.2.2.1; omega, B29.out⟩⟩
              case measure => simp [intOf]; omega
            · go_upto_region 9 with (fail)
              refine wp_region_M (fun j => decide (j < 8)) (fun w' => w'.cell? ⟨ab, ao + i, none⟩ = some (.slice x.A x.l.length x.c) ∧ w'.cell? ⟨bb, bo + k, none⟩ = some (.slice z.A z.l.length z.c)) (by kernel_rfl) ?_
              refine wpAnyM_take (i := 0) (v := ?_) rfl (by kernel_rfl) (by kernel_rfl) (by kernel_rfl) (by kernel_rfl) (fun _ _ _ h => h) (Or.inl ⟨by rfl, ?_⟩) HS.out ?_
              rotate_left
              · intro w hSw; (try dsimp only at hSw); go_simp; (try with_reducible rfl)
              simp only [Act.put, List.getElem_toArray, List.getElem_cons_zero, List.getElem_cons_succ, List.setIfInBounds_toArray, List.set_cons_zero, List.set_cons_succ]
              refine wpAnyM_take (i := 1) (v := ?_) rfl (by kernel_rfl) (by kernel_rfl) (by kernel_rfl) (by kernel_rfl) (fun _ _ _ h => h) (Or.inl ⟨by rfl, ?_⟩) HS.out ?_
              rotate_left
              · intro w hSw; (try dsimp only at hSw); go_simp; (try with_reducible rfl)
              simp only [Act.put, List.getElem_toArray, List.getElem_cons_zero, List.getElem_cons_succ, List.setIfInBounds_toArray, List.set_cons_zero, List.set_cons_succ]
              refine wpAnyM_take (i := 2) (v := ?_) rfl (by kernel_rfl) (by kernel_rfl) (by kernel_rfl) (by kernel_rfl) (fun _ _ _ h => h) (Or.inl ⟨by rfl, ?_⟩) HS.out ?_
              rotate_left
              · intro w hSw; (try dsimp only at hSw); go_simp; (try with_reducible rfl)
              simp only [Act.put, List.getElem_toArray, List.getElem_cons_zero, List.getElem_cons_succ, List.setIfInBounds_toArray, List.set_cons_zero, List.set_cons_succ]
              refine wpAnyM_take (i := 3) (v := ?_) rfl (by kernel_rfl) (by kernel_rfl) (by kernel_rfl) (by kernel_rfl) (fun _ _ _ h => h) (Or.inl ⟨by rfl, ?_⟩) HS.out ?_
              rotate_left
              · intro w hSw; (try dsimp only at hSw); go_simp; (try with_reducible rfl)
              simp only [Act.put, List.getElem_toArray, List.getElem_cons_zero, List.getElem_cons_succ, List.setIfInBounds_toArray, List.set_cons_zero, List.set_cons_succ]
              refine wpAnyM_take (i := 4) (v := ?_) rfl (by kernel_rfl) (by kernel_rfl) (by kernel_rfl) (by kernel_rfl) (fun _ _ _ h => h) (Or.inl ⟨by rfl, ?_⟩) HS.out ?_
              rotate_left
              · intro w hSw; (try dsimp only at hSw); go_simp; (try with_reducible rfl)
              simp only [Act.put, List.getElem_toArray, List.getElem_cons_zero, List.getElem_cons_succ, List.setIfInBounds_toArray, List.set_cons_zero, List.set_cons_succ]
              refine wpAnyM_take (i := 5) (v := ?_) rfl (by kernel_rfl) (by kernel_rfl) (by kernel_rfl) (by kernel_rfl) (fun _ _ _ h => h) (Or.inl ⟨by rfl, ?_⟩) HS.out ?_
              rotate_left
              · intro w hSw; (try dsimp only at hSw); go_simp; (try with_reducible rfl)
              simp only [Act.put, List.getElem_toArray, List.getElem_cons_zero, List.getElem_cons_succ, List.setIfInBounds_toArray, List.set_cons_zero, List.set_cons_succ]
              refine wpAnyM_take (i := 6) (v := ?_) rfl (by kernel_rfl) (by kernel_rfl) (by kernel_rfl) (by kernel_rfl) (fun _ _ _ h => h) (Or.inl ⟨by rfl, ?_⟩) HS.out ?_
              rotate_left
              · intro w hSw; (try dsimp only at hSw); go_simp; (try with_reducible rfl)
              simp only [Act.put, List.getElem_toArray, List.getElem_cons_zero, List.getElem_cons_succ, List.setIfInBounds_toArray, List.set_cons_zero, List.set_cons_succ]
              refine wpAnyM_take (i := 7) (v := ?_) rfl (by kernel_rfl) (by kernel_rfl) (by kernel_rfl) (by kernel_rfl) (fun _ _ _ h => h) (Or.inl ⟨by rfl, ?_⟩) HS.out ?_
              rotate_left
              · intro w hSw; (try dsimp only at hSw); go_simp; (try with_reducible rfl)
              simp only [Act.put, List.getElem_toArray, List.getElem_cons_zero, List.getElem_cons_succ, List.setIfInBounds_toArray, List.set_cons_zero, List.set_cons_succ]
              refine wpAnyM_one (i := 8) (by kernel_rfl) rfl (fun K hK => ?_)
              go_simp
              go_wp2_with (go_at_call 45; (with_reducible refine HCL.out.mono ?_); rintro e w9 ⟨rfl, hd⟩; have B9 := Lib.hid ((Below.refl wr.heap.size wr).drew.trans (below_drawn hd)); clear hd)
              refine hK.out _ _ (fun h => absurd h (by decide)) ?_
              clear hK K
              refine wpAnyM_one (i := 9) (by kernel_rfl) rfl (fun K hK => ?_)
              go_simp
              refine hK.out _ _ (fun h => absurd h (by decide)) ?_
              clear hK K
              refine wpAnyM_done (by kernel_rfl) ?_ _
              have o9 := OwnT.below HR.out.1 B9.out
              have B29 := Lib.hid (HR.out.2.2.2.2.trans (lower' B9.out HR.out.2.2.2.2.size))
              have O9 := Lib.hid o9
              have c1 := (B9.out.cell (p := ⟨ab, ao + i, none⟩) HCC.out.1.1).trans HCC.out.1.2
              have c2 := (B9.out.cell (p := ⟨bb, bo + k, none⟩) HCC.out.2.1).trans HCC.out.2.2
              clear o9
              go_wp2_with (at_builtin; refine wpList_app1 w9 rfl (.tmp 89) (.tmp 94) rfl w2.heap.size _ O (by rfl) O9.out z (by rfl) (by omega) B29.out.size ?_; intro v5 w5 o5 b5)
              go_roundw
              case rel => exact ⟨i, k + 1, O ++ [z], by omega, by omega, rfl, by go_num, Lib.hid ⟨o5, by rw [tus_app, List.append_assoc]; have := HR.out.2.1; rw [HN.out.1, if_neg (by omega), if_neg (by omega)] at this; exact this, fun t ht => by
                  rcases List.mem_append.1 ht with ht | ht
                  · exact HR.out.2.2.1 t ht
                  · rw [List.mem_singleton.1 ht]; exact .inr HN.out.2.2, by rw [List.length_append]; simp; have := HR.out.2.2.2.1; omega, B29.out.trans b5⟩⟩
              case measure => simp [intOf]; omega
          · have hkI : ¬ (k : Int) < (y2.ts.length : Int) := by omega
            have hkG : (y2.ts.length : Int) ≤ (k : Int) := by omega
            have hst := mrg_drop_a (a := tus y1.ts) (i := i) (by rw [tus_len]; exact hi1)
            have hdr : (tus y2.ts).drop k = [] := List.drop_of_length_le (by rw [tus_len]; omega)
            rw [ha1] at hst
            rw [hA1]
            generalize y1.ts[i] = x at c1 hst hm1
            have HN := Lib.hid (And.intro hst (And.intro hdr hm1))
            have HR := Lib.hid hrel.out
            clear h1w h2w hst hdr hm1 ha1 hrel hA1
            go_wp2_with (at_builtin; refine wpList_app1 wr rfl (.tmp 71) (.tmp 76) rfl w2.heap.size _ O (by rfl) HR.out.1 x (by rfl) (by omega) HR.out.2.2.2.2.size ?_; intro v5 w5 o5 b5)
            go_roundw
            case rel => exact ⟨i + 1, k, O ++ [x], by omega, by omega, by go_num, rfl, Lib.hid ⟨o5, by rw [tus_app, List.append_assoc]; have := HR.out.2.1; rw [HN.out.2.1, HN.out.1] at this; rw [HN.out.2.1]; exact this, fun t ht => by
                rcases List.mem_append.1 ht with ht | ht
                · exact HR.out.2.2.1 t ht
                · rw [List.mem_singleton.1 ht]; exact .inl HN.out.2.2, by rw [List.length_append]; simp; have := HR.out.2.2.2.1; omega, HR.out.2.2.2.2.trans b5⟩⟩
            case measure => simp [intOf]; omega
        · have hiI : ¬ (i : Int) < (y1.ts.length : Int) := by omega
          by_cases hk1 : k < y2.ts.length
          · have hkI : (k : Int) < (y2.ts.length : Int) := by omega
            have hiG : (y1.ts.length : Int) ≤ (i : Int) := by omega
            have hkG : ¬ (y2.ts.length : Int) ≤ (k : Int) := by omega
            obtain ⟨bb, bo, hA2, _, c2⟩ := LV.Ok.cell' h2w hk1
            have hst := mrg_drop_b (b := tus y2.ts) (k := k) (by rw [tus_len]; exact hk1)
            have hdr : (tus y1.ts).drop i = [] := List.drop_of_length_le (by rw [tus_len]; omega)
            have hm2 : y2.ts[k] ∈ y2.ts := List.getElem_mem hk1
            rw [tus_at y2.ts k hk1] at hst
            rw [hA2]
            generalize y2.ts[k] = x at c2 hst hm2
            have HN := Lib.hid (And.intro hst (And.intro hdr hm2))
            have HR := Lib.hid hrel.out
            clear h1w h2w hst hdr hm2 hrel hA2
            go_wp2_with (at_builtin; refine wpList_app1 wr rfl (.tmp 89) (.tmp 94) rfl w2.heap.size _ O (by rfl) HR.out.1 x (by rfl) (by omega) HR.out.2.2.2.2.size ?_; intro v5 w5 o5 b5)
            go_roundw
            case rel => exact ⟨i, k + 1, O ++ [x], by omega, by omega, rfl, by go_num, Lib.hid ⟨o5, by rw [tus_app, List.append_assoc]; have := HR.out.2.1; rw [HN.out.2.1, HN.out.1] at this; rw [HN.out.2.1]; exact this, fun t ht => by
                rcases List.mem_append.1 ht with ht | ht
                · exact HR.out.2.2.1 t ht
                · rw [List.mem_singleton.1 ht]; exact .inr HN.out.2.2, by rw [List.length_append]; simp; have := HR.out.2.2.2.1; omega, HR.out.2.2.2.2.trans b5⟩⟩
            case measure => simp [intOf]; omega
          · have hkI : ¬ (k : Int) < (y2.ts.length : Int) := by omega
            have hO : tus O = setL (tus ts) := by
              have := hrel.out.2.1
              rw [List.drop_of_length_le (by rw [tus_len]; omega), List.drop_of_length_le (by rw [tus_len]; omega), mrg2_nil_left, List.append_nil] at this
              exact this
            have hOl2 : O.length ≤ 5000 := by
              have e1 := congrArg List.length hO
              have e2 := setL_len (tus ts)
              rw [tus_len] at e1 e2
              omega
            obtain ⟨A5, c5, e5, hL⟩ := hrel.out.1.lst (fun t ht => by
              rcases hrel.out.2.2.1 t ht with ht | ht
              · exact h1w.ok t ht
              · exact h2w.ok t ht) hOl2
            have hbp : BlkP P ⟨A5, O, c5⟩ := ⟨fun a ha => HQ.out _ (Nat.le_trans HB2.out.2.size ((World.ownsRow.lt hrel.out.1 a.block (by rw [e5]; dsimp only at ha; rw [ha]; simp [Value.ownBlock])).1)), fun t ht => by
              rcases hrel.out.2.2.1 t ht with ht | ht
              · exact YP1.out.2 t ht
              · exact YP2.out.2 t ht⟩
            have HF := Lib.hid (And.intro hL (And.intro hO (And.intro (HB2.out.2.trans (lower' hrel.out.2.2.2.2 HB2.out.2.size)) hbp)))
            rw [e5]
            clear hbp hL hO hOl2 e5 h1w h2w hrel
            go_wp2_with (fail)
            go_ret
            exact ⟨⟨A5, O, c5⟩, rfl, HF.out.1, HF.out.2.1, HF.out.2.2⟩
theorem rsorted_p (P : Nat → Prop) (y : LV) (w : World) (hy : y.Ok w) (hP : BlkP P y) (hQ : ∀ b, w.heap.size ≤ b → P b) : Calls Try.prog 44 #[.slice y.A y.ts.length y.c] w (WoP w P (setL (tus y.ts))) := rsorted_n P _ y w (Nat.le_refl _) hy hP hQ
theorem rsorted_any (y : LV) (w : World) (hy : y.Ok w) : Calls Try.prog 44 #[.slice y.A y.ts.length y.c] w (WoL w (setL (tus y.ts))) :=
  (rsorted_p (fun _ => True) y w hy ⟨fun _ _ => trivial, fun _ _ _ _ => trivial⟩ fun _ _ => trivial).mono fun _ _ ⟨x, h1, h2, h3, h4, _⟩ => ⟨x, h1, h2, h3, h4⟩
end Go.Proofs.Ytmldiojlglpoiaa
