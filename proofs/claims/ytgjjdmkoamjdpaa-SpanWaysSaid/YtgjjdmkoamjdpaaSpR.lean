/- span.reached. -/
import Derived.Test.YtgjjdmkoamjdpaaSpR0
namespace Go.Proofs.Ytgjjdmkoamjdpaa
open Go.RowKit Go.Maps Go.Sort

set_option maxRecDepth 100000 in
set_option maxHeartbeats 8000000 in
theorem reached_any (x : RV) (E : List Pr) (w0 w : World) (hx : x.Ok w0) (hr : Rdy x E) (hb : Below w0.heap.size w0 w) (f : Nat) (hf : f < x.N.length) (s : TV) (hs : OwnI w w0.heap.size s) (hsl : s.l.length = x.N.length) (hsn : ∀ v ∈ s.l, v ≠ (f : Int)) :
    Calls Try.prog 27 #[.agg (rvA x), .int .i64 (f : Int), .slice s.A s.l.length s.c] w (RcPost (plR x.o.ts) x.N.length f w w0.heap.size s) := by
  obtain ⟨gs, cur, hsA, hgl, hgw, _⟩ := hs.blk (by omega)
  have hbx := two_bel w (.cells (rvA x) 43) (.cells #[.int .i64 (f : Int)] 3)
  have hg1 := heap_alloc_new w (.cells (rvA x) 43)
  have hg1' : ((w.alloc (.cells (rvA x) 43)).alloc (.cells #[.int .i64 (f : Int)] 3)).heap[w.heap.size]? = some (.cells (rvA x) 43 (0, 0)) := (((Below.refl _ _).alloc (Nat.le_refl _) _).block w.heap.size (by simp)).trans hg1
  have hg2 := heap_alloc_new (w.alloc (.cells (rvA x) 43)) (.cells #[.int .i64 (f : Int)] 3)
  rw [alloc1_size] at hg2
  have hfd : OwnI ((w.alloc (.cells (rvA x) 43)).alloc (.cells #[.int .i64 (f : Int)] 3)) w.heap.size ⟨some ⟨w.heap.size + 1, 0, none⟩, intsP [f], 1⟩ := own_heap (l := [(f : Int)]) hg2 (by omega) (by show 1 ≤ 5000; omega)
  have hs2 := hs.below hbx
  have hnl := hr.nl
  unfold rvA at hbx hg1' ⊢
  unfold rvA at hfd hs2
  have HX := Lib.hid (And.intro hx (And.intro hr (And.intro hb (And.intro hf (And.intro hsl hsn)))))
  have HSB := Lib.hid (And.intro hgl hgw)
  have HIN := Lib.hid (And.intro hbx (And.intro hg1' (And.intro hfd hs2)))
  have HSA := Lib.hid hsA
  rw [hsA]
  clear hx hr hb hs hsl hsn hgl hgw hbx hg1 hg1' hg2 hfd hs2 hsA
  have hfI : (f : Int) ≤ 2000 := by omega
  go_enter Try.func27, Try.ntmps27
  go_upto_region 2 with (fail)
  generalize ((w.alloc (.cells #[.slice x.nA x.N.length x.nc, .slice x.o.A x.o.ts.length x.o.c, .slice x.i.A x.i.ts.length x.i.c] 43)).alloc (.cells #[.int .i64 (f : Int)] 3)) = w1 at HIN ⊢
  go_wp2_with (fail)
  go_loopw [7, 8] (fun v7 v8 wr => ∃ (i : Nat) (g c : Nat) (F : List Nat) (sl : List Int), i ≤ F.length + 1 ∧ F.length ≤ x.N.length ∧ v7 = .slice (some ⟨g, 0, none⟩) (F.length + 1) c ∧ v8 = .int .i64 (i : Int) ∧ Hid (OwnI wr w.heap.size ⟨some ⟨g, 0, none⟩, intsP (f :: F), c⟩ ∧ OwnI wr w0.heap.size ⟨some ⟨gs, 0, none⟩, sl, s.c⟩ ∧ Bfs (plR x.o.ts) x.N.length f F i ∧ sl.length = x.N.length ∧ (∀ q, q < x.N.length → (sl.getD q 0 = (f : Int) ↔ q ∈ F)) ∧ (∀ v ∈ sl, v ∈ s.l ∨ v = (f : Int)) ∧ Below w0.heap.size w wr ∧ Fr w wr [gs] ∧ wr.heap[w.heap.size]? = some (.cells #[.slice x.nA x.N.length x.nc, .slice x.o.A x.o.ts.length x.o.c, .slice x.i.A x.i.ts.length x.i.c] 43 (0, 0)))) (fun _ v8 _ => x.N.length + 1 - (intOf v8).toNat)
  case atStart =>
    refine ⟨0, w.heap.size + 1, 1, [], s.l, by omega, by simp, rfl, rfl, Lib.hid ⟨HIN.out.2.2.1, by have := HIN.out.2.2.2; unfold OwnI TV.val at this ⊢; rw [HSA.out] at this; exact this, Bfs.start _ _ _, HX.out.2.2.2.2.1, fun q hq => ⟨fun h => absurd h (HX.out.2.2.2.2.2 _ ?_), fun h => nomatch h⟩, fun v hv => .inl hv, lower' HIN.out.1 HX.out.2.2.1.size, Fr.of_below HIN.out.1 _, HIN.out.2.1⟩⟩
    rw [List.getD_eq_getElem?_getD, List.getElem?_eq_getElem (by rw [HX.out.2.2.2.2.1]; exact hq)]
    exact List.getElem_mem _
  case round =>
    obtain ⟨i, g, c, F, sl, hi, hFn, rfl, rfl, hrel⟩ := hrel
    by_cases hlt : i < F.length + 1
    · have hlI : (i : Int) < (F.length : Int) + 1 := by omega
      obtain ⟨p, hp⟩ : ∃ p, p = (f :: F).getD i f := ⟨_, rfl⟩
      have hpm : p ∈ f :: F := by
        rw [hp, List.getD_eq_getElem?_getD, List.getElem?_eq_getElem (by simpa using hlt)]
        exact List.getElem_mem _
      have hpn : p < x.N.length := by
        rcases List.mem_cons.1 hpm with e | h
        · rw [e]; exact HX.out.2.2.2.1
        · exact (hrel.out.2.2.1.lead p h).1
      have hpo : p < x.o.ts.length := by rw [HX.out.2.1.ol]; exact hpn
      have hbw := HX.out.2.2.1.trans hrel.out.2.2.2.2.2.2.1
      have hxw := HX.out.1.below hbw
      obtain ⟨-, d1, -⟩ := bx3 hrel.out.2.2.2.2.2.2.2.2
      obtain ⟨ob, oo, hoA, _, r0⟩ := LV.Ok.cel hxw.o hpo
      rw [hoA] at d1
      obtain ⟨eb, eo, heA, _, e0⟩ := (OwnI.ok hrel.out.1 (by dsimp only; rw [intsP_len]; simp; omega)).cell (k := i) (by dsimp only; rw [intsP_len]; simpa using hlt)
      dsimp only at heA e0
      injection heA with heA
      injection heA with e8 e9
      subst e8 e9
      rw [Nat.zero_add, intsP_at (by simpa using hlt), show (f :: F)[i]'(by simpa using hlt) = p from by rw [hp, List.getD_eq_getElem?_getD, List.getElem?_eq_getElem (by simpa using hlt)]; rfl] at e0
      have hat := fun q => atR_int hpo HX.out.2.1.po q
      have htb := HX.out.2.1.po _ (List.getElem_mem hpo)
      have hto := fun W (hW : Below w0.heap.size w0 W) => LV.Ok.att (HX.out.1.below hW).o hpo
      generalize x.o.ts[p] = t at r0 hat htb hto
      have htl : t.l.length ≤ 5000 := (hto _ hbw).sm
      have hpI : (p : Int) < (x.o.ts.length : Int) := by omega
      have HP := Lib.hid (And.intro hp (And.intro hpm (And.intro hat (And.intro htb hto))))
      have HR := Lib.hid hrel.out
      clear hp hpm hpo hbw hxw hoA hat htb hto hrel
      go_upto_region 5 with (fail)
      go_quiet (fail)
      have HR2 := Lib.hid (And.intro (OwnI.below HR.out.1 (Below.drewN' (Below.refl _ _) nq)) (And.intro (OwnI.below HR.out.2.1 (Below.drewN' (Below.refl _ _) nq)) (And.intro HR.out.2.2.1 (And.intro HR.out.2.2.2.1 (And.intro HR.out.2.2.2.2.1 (And.intro HR.out.2.2.2.2.2.1 (And.intro (Below.drewN' HR.out.2.2.2.2.2.2.1 nq) (And.intro (HR.out.2.2.2.2.2.2.2.1.drewN nq) (show (wr.drewN nq).heap[w.heap.size]? = some (.cells #[.slice x.nA x.N.length x.nc, .slice x.o.A x.o.ts.length x.o.c, .slice x.i.A x.i.ts.length x.i.c] 43 (0, 0)) from HR.out.2.2.2.2.2.2.2.2)))))))))
      generalize wr.drewN nq = wa at HR2 ⊢
      clear HR d1 r0 e0 hpI
      go_wp2_with (fail)
      go_loopw [7, 28] (fun v7 v28 wq => ∃ (j g c : Nat) (F : List Nat) (sl : List Int), j ≤ t.l.length ∧ i < F.length + 1 ∧ F.length ≤ x.N.length ∧ v28 = .int .i64 (j : Int) ∧ v7 = .slice (some ⟨g, 0, none⟩) (F.length + 1) c ∧ Hid (OwnI wq w.heap.size ⟨some ⟨g, 0, none⟩, intsP (f :: F), c⟩ ∧ OwnI wq w0.heap.size ⟨some ⟨gs, 0, none⟩, sl, s.c⟩ ∧ Bfs (plR x.o.ts) x.N.length f F i ∧ sl.length = x.N.length ∧ (∀ q, q < x.N.length → (sl.getD q 0 = (f : Int) ↔ q ∈ F)) ∧ (∀ v ∈ sl, v ∈ s.l ∨ v = (f : Int)) ∧ Below w0.heap.size w wq ∧ Fr w wq [gs] ∧ wq.heap[w.heap.size]? = some (.cells #[.slice x.nA x.N.length x.nc, .slice x.o.A x.o.ts.length x.o.c, .slice x.i.A x.i.ts.length x.i.c] 43 (0, 0)) ∧ p ∈ f :: F ∧ p = (f :: F).getD i f ∧ ∀ q : Nat, (q : Int) ∈ t.l.take j → q ∈ F)) (fun _ v28 _ => t.l.length - (intOf v28).toNat)
      case atStart => exact ⟨0, g, c, F, sl, by omega, hlt, hFn, rfl, rfl, Lib.hid ⟨HR2.out.1, HR2.out.2.1, HR2.out.2.2.1, HR2.out.2.2.2.1, HR2.out.2.2.2.2.1, HR2.out.2.2.2.2.2.1, HR2.out.2.2.2.2.2.2.1, HR2.out.2.2.2.2.2.2.2.1, HR2.out.2.2.2.2.2.2.2.2, HP.out.2.1, HP.out.1, fun q hq => by simp at hq⟩⟩
      case round =>
        clear HR2
        obtain ⟨j, g, c, F, sl, hj, hiF, hFn, rfl, rfl, hrel⟩ := hrel
        rename World => wq
        by_cases hjt : j < t.l.length
        · have hjI : (j : Int) < (t.l.length : Int) := by omega
          have htb := HP.out.2.2.2.1 _ (List.getElem_mem hjt)
          obtain ⟨q, hq⟩ : ∃ q : Nat, t.l[j] = (q : Int) := ⟨t.l[j].toNat, by omega⟩
          have hqn : q < x.N.length := by omega
          have htk : t.l.take (j + 1) = t.l.take j ++ [(q : Int)] := by rw [List.take_succ_eq_append_getElem hjt, hq]
          have hAt : AtR (plR x.o.ts) p q := (HP.out.2.2.1 q).2 (by rw [← hq]; exact List.getElem_mem hjt)
          obtain ⟨tb, tof, htA, _, t0⟩ := (HP.out.2.2.2.2 _ (HX.out.2.2.1.trans hrel.out.2.2.2.2.2.2.1)).cell hjt
          rw [hq] at t0
          rw [htA]
          have hqs : q < sl.length := by rw [hrel.out.2.2.2.1]; exact hqn
          have hset := OwnI.setAt hrel.out.2.1 (g := gs) rfl (p := q) hqs (f : Int)
          obtain ⟨s0, s1, s2, s3, s4, s5⟩ := hset
          dsimp only at s0 s1 s2
          have hin := hrel.out.2.2.2.2.1 q hqn
          have hgd : sl.getD q 0 = sl[q] := by rw [List.getD_eq_getElem?_getD, List.getElem?_eq_getElem hqs]; rfl
          rw [hgd] at hin
          have hslI : (q : Int) < (s.l.length : Int) := by rw [HX.out.2.2.2.2.1]; omega
          by_cases hqF : q ∈ F
          · have hsv : (sl[q] != (f : Int)) = false := by rw [hin.2 hqF]; simp
            generalize sl[q] = sv at s0 hsv
            have HN := Lib.hid (And.intro hrel.out (show ∀ z : Nat, (z : Int) ∈ t.l.take (j + 1) → z ∈ F from fun z hz => by
              rw [htk] at hz
              rcases List.mem_append.1 hz with hz | hz
              · exact hrel.out.2.2.2.2.2.2.2.2.2.2.2 z hz
              · have : z = q := by have := List.mem_singleton.1 hz; omega
                rw [this]; exact hqF))
            clear htb hq htk hAt htA hqs s1 s2 s3 s4 s5 hin hgd hqF hrel
            go_wp2_with (fail)
            go_roundw
            case rel => exact ⟨j + 1, g, c, F, sl, by omega, hiF, hFn, by go_num, rfl, Lib.hid ⟨HN.out.1.1, HN.out.1.2.1, HN.out.1.2.2.1, HN.out.1.2.2.2.1, HN.out.1.2.2.2.2.1, HN.out.1.2.2.2.2.2.1, HN.out.1.2.2.2.2.2.2.1, HN.out.1.2.2.2.2.2.2.2.1, HN.out.1.2.2.2.2.2.2.2.2.1, HN.out.1.2.2.2.2.2.2.2.2.2.1, HN.out.1.2.2.2.2.2.2.2.2.2.2.1, HN.out.2⟩⟩
            case measure => simp [intOf]; omega
          · have hsv : (sl[q] != (f : Int)) = true := by simp only [bne_iff_ne]; exact fun e => hqF (hin.1 e)
            generalize sl[q] = sv at s0 hsv
            have hge := (OwnI.lo hrel.out.1 _ rfl).1
            dsimp only at hge
            have hgne : g ≠ gs := by have := HSB.out.2; omega
            have hfd := OwnI.fr hrel.out.1 s3 (fun a ha hm => by injection ha with ha; rw [← ha] at hm; exact hgne (List.mem_singleton.1 hm))
            have hwle : w.heap.size ≤ (wq.setCell ⟨gs, q, none⟩ (.int .i64 (f : Int))).heap.size := by have h1 := hrel.out.2.2.2.2.2.2.2.1.size; have h2 := s3.size; omega
            obtain ⟨u, w5, hrun, hul, hou, hfr, _, hb5⟩ := run_appN (wq.setCell ⟨gs, q, none⟩ (.int .i64 (f : Int))) w.heap.size ⟨some ⟨g, 0, none⟩, intsP (f :: F), c⟩ [(q : Int)] hfd hwle (by dsimp only; rw [intsP_len]; simp; omega)
            obtain ⟨g', cur', huA, _⟩ := hou.blk (by rw [hul]; simp)
            obtain ⟨uA, ul, uc⟩ := u
            dsimp only at hul huA hrun
            subst hul huA
            have hb1 : Below (wq.setCell ⟨gs, q, none⟩ (.int .i64 (f : Int))).heap.size (wq.setCell ⟨gs, q, none⟩ (.int .i64 (f : Int))) ((wq.setCell ⟨gs, q, none⟩ (.int .i64 (f : Int))).alloc (.cells #[.int .i64 (q : Int)] 3)) := (Below.refl _ _).alloc (Nat.le_refl _) _
            have hf5 : Fr (wq.setCell ⟨gs, q, none⟩ (.int .i64 (f : Int))) w5 [g] := (Fr.of_below hb1 _).trans hfr
            have hs5 := OwnI.fr s2 hf5 (fun a ha hm => by injection ha with ha; rw [← ha] at hm; exact hgne (List.mem_singleton.1 hm).symm)
            obtain ⟨F', hF'⟩ : ∃ F', F' = F ++ [q] := ⟨_, rfl⟩
            have eF : intsP (f :: F) ++ [(q : Int)] = intsP (f :: F') := by rw [hF']; simp [intsP]
            have hbf := hrel.out.2.2.1.add (by omega) hqn hqF (hrel.out.2.2.1.src hrel.out.2.2.2.2.2.2.2.2.2.1 hAt)
            rw [← hF'] at hbf
            have hFl : F'.length = F.length + 1 := by rw [hF', List.length_append]; rfl
            rw [eF] at hrun hou
            rw [intsP_len, intsP_len] at hrun
            simp only [List.length_cons, hFl] at hrun
            have hszs : (wq.setCell ⟨gs, q, none⟩ (.int .i64 (f : Int))).heap.size = wq.heap.size := by simp
            have hrun : (Builtin.append_ #[25, 25] 25 #[.slice (some ⟨g, 0, none⟩) (F.length + 1) c, .slice (some ⟨(wq.setCell ⟨gs, q, none⟩ (.int .i64 (f : Int))).heap.size, 0, none⟩) 1 1]).run Try.prog ((wq.setCell ⟨gs, q, none⟩ (.int .i64 (f : Int))).alloc (.cells #[.int .i64 (q : Int)] 3)) = .ok (.slice (some ⟨g', 0, none⟩) (F.length + 1 + 1) uc) w5 := hrun
            rw [hszs] at hrun
            have hbxx : w5.heap[w.heap.size]? = some (.cells #[.slice x.nA x.N.length x.nc, .slice x.o.A x.o.ts.length x.o.c, .slice x.i.A x.i.ts.length x.i.c] 43 (0, 0)) := (hf5.block w.heap.size (Nat.lt_of_lt_of_le (heap_lt hrel.out.2.2.2.2.2.2.2.2.1) s3.size) (fun hm => by
              have h1 := List.mem_singleton.1 hm
              have h2 := row_neq hrel.out.1 hrel.out.2.2.2.2.2.2.2.2.1 (by decide)
              exact h2 (by unfold TV.val; rw [h1]; simp [Value.ownBlock]))).trans ((s3.block w.heap.size (heap_lt hrel.out.2.2.2.2.2.2.2.2.1) (fun hm => by have := List.mem_singleton.1 hm; have := HSB.out.2; omega)).trans hrel.out.2.2.2.2.2.2.2.2.1)
            have hsl2 : ∀ z, z < x.N.length → ((sl.set q (f : Int)).getD z 0 = (f : Int) ↔ z ∈ F') := fun z hz => by
              have hzl : z < sl.length := by rw [hrel.out.2.2.2.1]; exact hz
              rw [List.getD_eq_getElem?_getD, List.getElem?_set, hF', List.mem_append, List.mem_singleton]
              by_cases e : q = z
              · subst e
                simp [hqs]
              · rw [if_neg e]
                have h1 := hrel.out.2.2.2.2.1 z hz
                rw [List.getD_eq_getElem?_getD] at h1
                rw [h1]
                constructor
                · exact .inl
                · rintro (h | h)
                  · exact h
                  · exact absurd h.symm e
            have hmv : ∀ v ∈ sl.set q (f : Int), v ∈ s.l ∨ v = (f : Int) := fun v hv => by
              rcases List.mem_or_eq_of_mem_set hv with h | h
              · exact hrel.out.2.2.2.2.2.1 v h
              · exact .inr h
            have hfrw : Fr w w5 [gs] := (hrel.out.2.2.2.2.2.2.2.1.trans s3).more hf5 (fun z hz => .inr (by rw [List.mem_singleton.1 hz]; exact hge))
            have hbel : Below w0.heap.size w w5 := hrel.out.2.2.2.2.2.2.1.trans ((s3.below (Nat.le_trans HX.out.2.2.1.size (Nat.le_trans hrel.out.2.2.2.2.2.2.2.1.size (Nat.le_refl _))) (fun z hz => by rw [List.mem_singleton.1 hz]; exact HSB.out.1)).trans (lower' hb5 HX.out.2.2.1.size))
            have HN := Lib.hid (show OwnI w5 w.heap.size ⟨some ⟨g', 0, none⟩, intsP (f :: F'), uc⟩ ∧ OwnI w5 w0.heap.size ⟨some ⟨gs, 0, none⟩, sl.set q (f : Int), s.c⟩ ∧ Bfs (plR x.o.ts) x.N.length f F' i ∧ (sl.set q (f : Int)).length = x.N.length ∧ (∀ z, z < x.N.length → ((sl.set q (f : Int)).getD z 0 = (f : Int) ↔ z ∈ F')) ∧ (∀ v ∈ sl.set q (f : Int), v ∈ s.l ∨ v = (f : Int)) ∧ Below w0.heap.size w w5 ∧ Fr w w5 [gs] ∧ w5.heap[w.heap.size]? = some (.cells #[.slice x.nA x.N.length x.nc, .slice x.o.A x.o.ts.length x.o.c, .slice x.i.A x.i.ts.length x.i.c] 43 (0, 0)) ∧ p ∈ f :: F' ∧ p = (f :: F').getD i f ∧ ∀ z : Nat, (z : Int) ∈ t.l.take (j + 1) → z ∈ F' from ⟨hou, hs5, hbf, by rw [List.length_set]; exact hrel.out.2.2.2.1, hsl2, hmv, hbel, hfrw, hbxx, by
                have h1 := hrel.out.2.2.2.2.2.2.2.2.2.1
                rw [hF']
                rcases List.mem_cons.1 h1 with h | h
                · rw [h]; exact List.mem_cons_self ..
                · exact List.mem_cons_of_mem _ (List.mem_append.2 (.inl h)), by
                have h2 : f :: F' = (f :: F) ++ [q] := by rw [hF']; rfl
                rw [h2, getD_app (by simpa using hiF)]
                exact hrel.out.2.2.2.2.2.2.2.2.2.2.1, fun z hz => by
                rw [htk] at hz
                rw [hF']
                rcases List.mem_append.1 hz with hz | hz
                · exact List.mem_append.2 (.inl (hrel.out.2.2.2.2.2.2.2.2.2.2.2 z hz))
                · have : z = q := by have := List.mem_singleton.1 hz; omega
                  rw [this]; exact List.mem_append.2 (.inr (List.mem_singleton.2 rfl))⟩)
            have HFl := Lib.hid (And.intro hFl hbf.len)
            clear htb hq htk hAt htA hqs s2 s3 s4 s5 hin hgd hqF hge hgne hfd hwle hou hfr hb5 hb1 hf5 hs5 hF' eF hbf hFl hbxx hsl2 hmv hfrw hbel hszs hrel
            go_wp2_with (at_builtin; refine wpL_appK _ rfl (.tmp 42) (.tmp 44) 25 rfl rfl _ _ _ _ rfl rfl hrun ?_)
            go_roundw
            case rel => exact ⟨j + 1, g', uc, F', sl.set q (f : Int), by omega, by have := HFl.out.1; omega, HFl.out.2, by go_num, by rw [HFl.out.1], HN⟩
            case measure => simp [intOf]; omega
        · have hjI : ¬ (j : Int) < (t.l.length : Int) := by omega
          have hd : ∀ q, AtR (plR x.o.ts) ((f :: F).getD i f) q → q ∈ F := fun q hq => by
            rw [← hrel.out.2.2.2.2.2.2.2.2.2.2.1] at hq
            have h1 := (HP.out.2.2.1 q).1 hq
            refine hrel.out.2.2.2.2.2.2.2.2.2.2.2 q ?_
            rw [List.take_of_length_le (by omega)]
            exact h1
          have HN := Lib.hid (And.intro hrel.out (hrel.out.2.2.1.next hd))
          clear hd hrel
          go_wp2_with (fail)
          go_roundw
          case rel => exact ⟨i + 1, g, c, F, sl, by omega, hFn, rfl, by go_num, Lib.hid ⟨HN.out.1.1, HN.out.1.2.1, HN.out.2, HN.out.1.2.2.2.1, HN.out.1.2.2.2.2.1, HN.out.1.2.2.2.2.2.1, HN.out.1.2.2.2.2.2.2.1, HN.out.1.2.2.2.2.2.2.2.1, HN.out.1.2.2.2.2.2.2.2.2.1⟩⟩
          case measure => simp [intOf]; omega
    · have hlI : ¬ (i : Int) < (F.length : Int) + 1 := by omega
      have hcap : F.length + 1 ≤ c := by
        obtain ⟨_, _, _, _, _, hcap, _⟩ := OwnI.blk hrel.out.1 (by dsimp only; rw [intsP_len]; simp)
        dsimp only at hcap
        rw [intsP_len] at hcap
        simpa using hcap
      have h1I : (1 : Int) ≤ (F.length : Int) + 1 := by omega
      have h1c : (1 : Int) ≤ (c : Int) := by omega
      have HF := Lib.hid (And.intro hrel.out (And.intro (hrel.out.2.2.1.fin (by omega)) hcap))
      clear hrel hcap
      have hob : s.val.ownBlock.toList = [gs] := ownBlock_at HSA.out
      have HOB := Lib.hid hob
      clear hob
      by_cases hc1 : c = 1
      · have HF0 := Lib.hid (show F = [] from List.length_eq_zero_iff.1 (by have := HF.out.2.2; omega))
        have HC1 := Lib.hid hc1
        go_wp2_with (fail)
        go_ret
        exact ⟨some ⟨g, 0, none⟩, g, c, F, sl, by (try rw [HC1.out]); (try simp), fun h => absurd HF0.out h, HF.out.1.1, HF.out.1.2.2.1.nodup, HF.out.2.1, fun q hq => (HF.out.1.2.2.1.lead q hq).1, by rw [HSA.out]; exact HF.out.1.2.1, HF.out.1.2.2.2.1, HF.out.1.2.2.2.2.2.1, HF.out.1.2.2.2.2.2.2.1, by rw [HOB.out]; exact HF.out.1.2.2.2.2.2.2.2.1⟩
      · go_wp2_with (fail)
        go_ret
        exact ⟨some ⟨g, 1, none⟩, g, c, F, sl, by (try simp), fun _ => rfl, HF.out.1.1, HF.out.1.2.2.1.nodup, HF.out.2.1, fun q hq => (HF.out.1.2.2.1.lead q hq).1, by rw [HSA.out]; exact HF.out.1.2.1, HF.out.1.2.2.2.1, HF.out.1.2.2.2.2.2.1, HF.out.1.2.2.2.2.2.2.1, by rw [HOB.out]; exact HF.out.1.2.2.2.2.2.2.2.1⟩
end Go.Proofs.Ytgjjdmkoamjdpaa
