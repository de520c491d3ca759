/- span.pairs. -/
import Derived.Test.YtgjjdmkoamjdpaaSpR
namespace Go.Proofs.Ytgjjdmkoamjdpaa
open Go.RowKit Go.Maps Go.Sort

theorem RowsAt.frS {w w' : World} {lo : Nat} {v : Value} {us : List TV} {S : List Nat} (h : RowsAt w lo v us) (hf : Fr w w' S) (hS : ∀ s ∈ S, s < lo) : RowsAt w' lo v us :=
  ⟨rowFrS h.row hf fun s hs hm => by
    have h1 := (World.ownsRow.lt h.row s (by simpa using hs)).1
    have h2 := hS s hm
    omega, fun t ht => ⟨(h.tup t ht).1.fr hf fun a ha hm => by
    have h1 := ((h.tup t ht).1.lo a ha).1
    have h2 := hS _ hm
    omega, (h.tup t ht).2⟩⟩
/-- A row more, and what it leaves alone. -/
theorem RowsAt.pushF {w : World} {lo : Nat} {v : Value} {us : List TV} {u : TV} (h : RowsAt w lo v us) (hu : OwnI w lo u) (hul : u.l.length ≤ 100) (hl : us.length ≤ 5000) (hlo : lo ≤ w.heap.size) :
    ∃ A5 c5 w5, (Builtin.append_ #[35, 35] 35 #[v, .slice (some ⟨w.heap.size, 0, none⟩) 1 1]).run Try.prog (w.alloc (.cells #[.slice u.A u.l.length u.c] 63)) = .ok (.slice A5 (us.length + 1) c5) w5 ∧ RowsAt w5 lo (.slice A5 (us.length + 1) c5) (us ++ [u]) ∧ Below lo w w5 ∧ Fr w w5 v.ownBlock.toList ∧ (∀ lo' t, OwnI w lo' t → OwnI w5 lo' t) ∧ (∀ {b : Nat} {cs : Array Value} {t : TypeId} {fr : Nat × Nat}, w.heap[b]? = some (.cells cs t fr) → 63 ≠ t → w5.heap[b]? = some (.cells cs t fr)) := by
  obtain ⟨i0, hi, hz0, hz1, hz2⟩ := info_parts infoTup
  have hb4 : Below w.heap.size w (w.alloc (.cells #[.slice u.A u.l.length u.c] 63)) := (Below.refl _ _).alloc (Nat.le_refl _) _
  have h4 := h.kept hb4
  have hu4 := hu.below hb4
  have hrd : Rd (w.alloc (.cells #[.slice u.A u.l.length u.c] 63)) (w.heap.size + 1) (some ⟨w.heap.size, 0, none⟩) (vals [u]) := Rd.new w #[.slice u.A u.l.length u.c] 63 (0, 0)
  obtain ⟨v5, w5, hrun, g1, g2, g3⟩ := run_appR (P := Try.prog) _ lo 35 35 63 i0 _ 1 24 Try.underlying35 hi hz0 hz1 hz2 rfl (by omega) v us.length (vals us) h4.row (w.heap.size + 1) (some ⟨w.heap.size, 0, none⟩) 1 1 (vals [u]) rfl hrd (vals_one _) (by omega) (by omega) (Nat.le_trans hlo hb4.size)
  rw [← vals_app] at g1
  obtain ⟨A, c, rfl, _, _, _⟩ := own_shape g1
  have hfr := fr_grown g2
  have hap : ∀ (lo : Nat) (t : TV), OwnI (w.alloc (.cells #[.slice u.A u.l.length u.c] 63)) lo t → ∀ a, t.A = some a → a.block ∉ v.ownBlock.toList := fun lo t ht a ha hm =>
    own_apart ht h4.row (by decide) a.block (by unfold TV.val; rw [ha]; simp [Value.ownBlock]) hm
  refine ⟨A, c, w5, hrun, ⟨by unfold OwnT; rw [List.length_append]; exact g1, fun t ht => ?_⟩, (lower' hb4 hlo).trans (hfr.below (Nat.le_trans hlo hb4.size) (own_ge h4.row)), (Fr.of_below hb4 _).trans hfr, fun lo' t ht => (ht.below hb4).fr hfr (hap lo' t (ht.below hb4)), fun {b} {cs} {t} {fr} hb hne => (hfr.block b (Nat.lt_of_lt_of_le (heap_lt hb) hb4.size) fun hm => row_neq h4.row ((hb4.block b (heap_lt hb)).trans hb) hne hm).trans ((hb4.block b (heap_lt hb)).trans hb)⟩
  rcases List.mem_append.1 ht with ht | ht
  · exact ⟨(h4.tup t ht).1.fr hfr (hap lo t (h4.tup t ht).1), (h4.tup t ht).2⟩
  · rw [List.mem_singleton.1 ht]
    exact ⟨hu4.fr hfr (hap lo u hu4), hul⟩
def tupN (N : List Int) (z : Nat × Nat) : Tu := [N.getD z.1 0, N.getD z.2 0]
/-- Pairs of places, of the first f ones. -/
structure QOk (O : Rows) (Q : List (Nat × Nat)) (f : Nat) : Prop where
  nodup : Q.Nodup
  mem : ∀ p q, (p, q) ∈ Q ↔ p < f ∧ Lead (AtR O) p q
theorem QOk.start (O : Rows) : QOk O [] 0 := ⟨.nil, fun p q => by simp⟩
theorem QOk.next {O : Rows} {Q : List (Nat × Nat)} {f : Nat} (h : QOk O Q f) {F : List Nat} (hn : F.Nodup) (hF : ∀ q, q ∈ F ↔ Lead (AtR O) f q) : QOk O (Q ++ F.map fun q => (f, q)) (f + 1) := by
  refine ⟨?_, fun p q => ?_⟩
  · rw [List.nodup_append]
    refine ⟨h.nodup, ?_, fun a ha b hb e => ?_⟩
    · rw [List.Nodup, List.pairwise_map]
      exact hn.imp fun h e => h (congrArg Prod.snd e)
    · obtain ⟨q, _, rfl⟩ := List.mem_map.1 hb
      rw [e] at ha
      have := ((h.mem f q).1 ha).1
      omega
  · rw [List.mem_append, h.mem, List.mem_map]
    constructor
    · rintro (⟨h1, h2⟩ | ⟨z, hz, e⟩)
      · exact ⟨by omega, h2⟩
      · injection e with e1 e2
        subst e1 e2
        exact ⟨by omega, (hF z).1 hz⟩
    · rintro ⟨h1, h2⟩
      by_cases e : p = f
      · subst e
        exact .inr ⟨q, (hF q).2 h2, rfl⟩
      · exact .inl ⟨by omega, h2⟩
theorem QOk.part {O : Rows} {Q : List (Nat × Nat)} {f : Nat} (h : QOk O Q f) {F : List Nat} (hn : F.Nodup) (hF : ∀ q, q ∈ F ↔ Lead (AtR O) f q) (j : Nat) : (Q ++ (F.take j).map fun q => (f, q)).Nodup ∧ ∀ p q, (p, q) ∈ (Q ++ (F.take j).map fun q => (f, q)) → p < f + 1 ∧ Lead (AtR O) p q := by
  have h1 := h.next hn hF
  have hsub : (Q ++ (F.take j).map fun q => (f, q)).Sublist (Q ++ F.map fun q => (f, q)) := List.Sublist.append (List.Sublist.refl _) ((List.take_sublist j F).map _)
  exact ⟨h1.nodup.sublist hsub, fun p q hm => (h1.mem p q).1 (hsub.subset hm)⟩
/-- What pairs answers. -/
def PaPost (x : RV) (w : World) (e : Ending) (w' : World) : Prop := ∃ (y : LV) (Q : List (Nat × Nat)), e = .returned (.slice y.A y.ts.length y.c) ∧ y.Ok w' ∧ tus y.ts = Q.map (tupN x.N) ∧ Q.Nodup ∧ (∀ p q, (p, q) ∈ Q → p < x.N.length ∧ Lead (AtR (plR x.o.ts)) p q) ∧ Q.length ≤ 4001 ∧ (Q.length ≤ 4000 → ∀ p q, p < x.N.length → Lead (AtR (plR x.o.ts)) p q → (p, q) ∈ Q) ∧ Below w.heap.size w w'
set_option maxRecDepth 100000 in
set_option maxHeartbeats 8000000 in
theorem pairs_any (x : RV) (E : List Pr) (w : World) (hx : x.Ok w) (hr : Rdy x E) : Calls Try.prog 17 #[.agg (rvA x)] w (PaPost x w) := by
  have hb1 : Below w.heap.size w (w.alloc (.cells (rvA x) 43)) := (Below.refl _ _).alloc (Nat.le_refl _) _
  have hg1 := heap_alloc_new w (.cells (rvA x) 43)
  have hun := unknown_any x _ (hx.below hb1)
  have hrc := fun f hf W (hW : Below w.heap.size w W) s hs hsl hsn => reached_any x E w W hx hr hW f hf s hs hsl hsn
  have hnl := hr.nl
  unfold rvA at hb1 hg1 hun hrc ⊢
  obtain ⟨q0, q1, q2⟩ := bx3 hg1
  have HB := Lib.hid (And.intro hb1 hg1)
  have HUN := Lib.hid hun
  have HRC := Lib.hid hrc
  have HX := Lib.hid (And.intro hx hr)
  clear hx hr hb1 hg1 hun hrc
  go_enter Try.func17, Try.ntmps17
  go_upto_region 3 with (go_at_call 26; (with_reducible refine HUN.out.mono ?_); rintro e w2 ⟨⟨sA, sl, sc⟩, rfl, h2, o2, b2⟩; dsimp only at h2; subst h2; have H2 := Lib.hid (And.intro o2 (And.intro (HB.out.1.trans (lower' b2 HB.out.1.size)) ((b2.block w.heap.size (by simp)).trans HB.out.2))); clear o2 b2 q0 q1 q2)
  clear HUN HB
  obtain ⟨q0, -, -⟩ := bx3 H2.out.2.2
  have hsn0 : (List.replicate x.N.length (-1 : Int)).length = x.N.length := List.length_replicate ..
  obtain ⟨sl0, hsl0⟩ : ∃ l, l = List.replicate x.N.length (-1 : Int) := ⟨_, rfl⟩
  have HS0 := Lib.hid (And.intro (show OwnI w2 w.heap.size ⟨sA, sl0, sc⟩ from by rw [hsl0]; exact own_mono H2.out.1 (by simp)) (And.intro (show sl0.length = x.N.length from by rw [hsl0, hsn0]) (show ∀ v ∈ sl0, v < ((0 : Nat) : Int) from fun v hv => by rw [hsl0] at hv; rw [(List.mem_replicate.1 hv).2]; decide)))
  clear hsn0 hsl0
  have hlo : Hid (w.heap.size < w2.heap.size ∧ ∀ a, sA = some a → a.block < w2.heap.size) := Lib.hid ⟨heap_lt H2.out.2.2, fun a ha => (HS0.out.1.lo a ha).2⟩
  obtain ⟨lo, hloE⟩ : ∃ lo, lo = w2.heap.size := ⟨_, rfl⟩
  rw [← hloE] at hlo
  have HLE := Lib.hid hloE
  clear hloE
  go_wp2_with (fail)
  clear q0
  go_loopw [3, 13] (fun v3 v13 wr => ∃ (f : Nat) (us : List TV) (sl : List Int) (Q : List (Nat × Nat)), f ≤ x.N.length ∧ v13 = .int .i64 (f : Int) ∧ Hid (RowsAt wr lo v3 us ∧ tus us = Q.map (tupN x.N) ∧ QOk (plR x.o.ts) Q f ∧ Q.length ≤ 4000 ∧ OwnI wr w.heap.size ⟨sA, sl, sc⟩ ∧ sl.length = x.N.length ∧ (∀ v ∈ sl, v < (f : Int)) ∧ wr.heap[w.heap.size]? = some (.cells #[.slice x.nA x.N.length x.nc, .slice x.o.A x.o.ts.length x.o.c, .slice x.i.A x.i.ts.length x.i.c] 43 (0, 0)) ∧ Below w.heap.size w wr ∧ lo ≤ wr.heap.size)) (fun _ v13 _ => x.N.length - (intOf v13).toNat)
  case atStart => exact ⟨0, [], sl0, [], by omega, rfl, Lib.hid ⟨RowsAt.nil _ _, rfl, QOk.start _, by simp, HS0.out.1, HS0.out.2.1, HS0.out.2.2, H2.out.2.2, H2.out.2.1, Nat.le_of_eq HLE.out⟩⟩
  case round =>
    obtain ⟨f, us, sl, Q, hf, rfl, hrel⟩ := hrel
    by_cases hft : f < x.N.length
    · have hfI : (f : Int) < (x.N.length : Int) := by omega
      obtain ⟨q0, q1, q2⟩ := bx3 hrel.out.2.2.2.2.2.2.2.1
      have hcall := HRC.out f hft wr hrel.out.2.2.2.2.2.2.2.2.1 ⟨sA, sl, sc⟩ hrel.out.2.2.2.2.1 hrel.out.2.2.2.2.2.1 (fun v hv e => by have := hrel.out.2.2.2.2.2.2.1 v hv; omega)
      dsimp only at hcall
      rw [hrel.out.2.2.2.2.2.1] at hcall
      have HC := Lib.hid hcall
      have HR := Lib.hid hrel.out
      obtain ⟨nb, no, hnA, hnb, _⟩ := (HX.out.1.nd).cell (k := f) hft
      dsimp only at hnA
      have HNA := Lib.hid (And.intro hnA hnb)
      clear hcall hrel hnA hnb
      go_upto_region 7 with (go_at_call 27; (with_reducible refine HC.out.mono ?_); rintro e wa ⟨A', g, fc, F, sl', rfl, hA', ofd, nF, mF, lF, os', ls', ms', bl, fr⟩; have HA := Lib.hid (And.intro hA' (And.intro ofd (And.intro nF (And.intro mF (And.intro lF (And.intro os' (And.intro ls' (And.intro ms' (And.intro bl fr))))))))); clear hA' ofd nF mF lF os' ls' ms' bl fr q0 q1 q2)
      clear HC
      have hseen : ∀ z ∈ (TV.val ⟨sA, sl, sc⟩).ownBlock.toList, z < lo := fun z hz => by
        obtain ⟨a, ha, e⟩ := (blk_at _ z).1 hz
        rw [← e]; exact hlo.out.2 a ha
      have hrow1 := HR.out.1.frS HA.out.2.2.2.2.2.2.2.2.2 hseen
      have hbox1 : wa.heap[w.heap.size]? = some (.cells #[.slice x.nA x.N.length x.nc, .slice x.o.A x.o.ts.length x.o.c, .slice x.i.A x.i.ts.length x.i.c] 43 (0, 0)) := (HA.out.2.2.2.2.2.2.2.2.2.block w.heap.size (heap_lt HR.out.2.2.2.2.2.2.2.1) (fun hm => row_neq HR.out.2.2.2.2.1 HR.out.2.2.2.2.2.2.2.1 (by decide) hm)).trans HR.out.2.2.2.2.2.2.2.1
      have hlw1 : lo ≤ wa.heap.size := Nat.le_trans HR.out.2.2.2.2.2.2.2.2.2 HA.out.2.2.2.2.2.2.2.2.2.size
      have hul0 : us.length = Q.length := by have := congrArg List.length HR.out.2.1; rw [tus_len, List.length_map] at this; exact this
      have HW := Lib.hid (show RowsAt wa lo u3 us ∧ tus us = (Q ++ (F.take 0).map fun q => (f, q)).map (tupN x.N) ∧ us.length ≤ 4000 ∧ OwnI wa w.heap.size ⟨sA, sl', sc⟩ ∧ OwnI wa wr.heap.size ⟨some ⟨g, 0, none⟩, intsP (f :: F), fc⟩ ∧ wa.heap[w.heap.size]? = some (.cells #[.slice x.nA x.N.length x.nc, .slice x.o.A x.o.ts.length x.o.c, .slice x.i.A x.i.ts.length x.i.c] 43 (0, 0)) ∧ Below w.heap.size w wa ∧ lo ≤ wa.heap.size from ⟨hrow1, by rw [HR.out.2.1]; simp, by rw [hul0]; exact HR.out.2.2.2.1, HA.out.2.2.2.2.2.1, HA.out.2.1, hbox1, HR.out.2.2.2.2.2.2.2.2.1.trans HA.out.2.2.2.2.2.2.2.2.1, hlw1⟩)
      have HQ := Lib.hid HR.out.2.2.1
      have hFn : F.length ≤ x.N.length := by
        have := nodup_len (m := List.range x.N.length) HA.out.2.2.1 (fun z hz => List.mem_range.2 (HA.out.2.2.2.2.1 z hz))
        rwa [List.length_range] at this
      have HQL := Lib.hid HR.out.2.2.2.1
      have HSN := Lib.hid HR.out.2.2.2.2.2.2.1
      have HWR := Lib.hid HR.out.2.2.2.2.2.2.2.2.1
      clear hseen hrow1 hbox1 hlw1 hul0 HR
      go_wp2_with (fail)
      go_loopw [3, 21] (fun v3 v21 wq => ∃ (j : Nat) (us : List TV), j ≤ F.length ∧ v21 = .int .i64 (j : Int) ∧ Hid (RowsAt wq lo v3 us ∧ tus us = (Q ++ (F.take j).map fun q => (f, q)).map (tupN x.N) ∧ us.length ≤ 4000 ∧ OwnI wq w.heap.size ⟨sA, sl', sc⟩ ∧ OwnI wq wr.heap.size ⟨some ⟨g, 0, none⟩, intsP (f :: F), fc⟩ ∧ wq.heap[w.heap.size]? = some (.cells #[.slice x.nA x.N.length x.nc, .slice x.o.A x.o.ts.length x.o.c, .slice x.i.A x.i.ts.length x.i.c] 43 (0, 0)) ∧ Below w.heap.size w wq ∧ lo ≤ wq.heap.size)) (fun _ v21 _ => F.length - (intOf v21).toNat)
      case atStart => exact ⟨0, us, by omega, rfl, HW⟩
      case round =>
        clear HW
        obtain ⟨j, us, hj, rfl, hrel⟩ := hrel
        rename World => wq
        by_cases hjF : j < F.length
        · have hjI : (j : Int) < (F.length : Int) := by omega
          have hA1 := HA.out.1 (fun e => by rw [e] at hjF; exact absurd hjF (Nat.not_lt_zero _))
          rw [hA1]
          clear hA1
          obtain ⟨q, hqE⟩ : ∃ q, q = F[j] := ⟨_, rfl⟩
          have hqn : q < x.N.length := by rw [hqE]; exact HA.out.2.2.2.2.1 _ (List.getElem_mem hjF)
          obtain ⟨eb, eo, heA, _, e0⟩ := (OwnI.ok hrel.out.2.2.2.2.1 (by dsimp only; rw [intsP_len]; simp; have := nodup_len (m := List.range x.N.length) HA.out.2.2.1 (fun z hz => List.mem_range.2 (HA.out.2.2.2.2.1 z hz)); rw [List.length_range] at this; omega)).cell (k := j + 1) (by dsimp only; rw [intsP_len]; simpa using hjF)
          dsimp only at heA e0
          injection heA with heA
          injection heA with e8 e9
          subst e8 e9
          rw [Nat.zero_add, intsP_at (by simpa using hjF), show (f :: F)[j + 1]'(by simpa using hjF) = q from by rw [hqE]; rfl, Nat.add_comm j 1] at e0
          have hnode : ∀ k, k < x.N.length → ∀ W, Below w.heap.size w W → W.cell? ⟨nb, no + k, none⟩ = some (.int .i64 (x.N.getD k 0)) := fun k hk W hW => by
            obtain ⟨b', o', hA', _, hcl⟩ := (HX.out.1.below hW).nd.cell (k := k) hk
            dsimp only at hA' hcl
            rw [HNA.out.1] at hA'
            injection hA' with hA'
            injection hA' with e8 e9
            subst e8 e9
            rw [hcl, List.getD_eq_getElem?_getD, List.getElem?_eq_getElem hk]
            rfl
          have hD : Below wq.heap.size wq wq.drew := (Below.refl wq.heap.size wq).drew
          have hrel := show RowsAt wq.drew lo u3 us ∧ tus us = (Q ++ (F.take j).map fun q => (f, q)).map (tupN x.N) ∧ us.length ≤ 4000 ∧ OwnI wq.drew w.heap.size ⟨sA, sl', sc⟩ ∧ OwnI wq.drew wr.heap.size ⟨some ⟨g, 0, none⟩, intsP (f :: F), fc⟩ ∧ wq.drew.heap[w.heap.size]? = some (.cells #[.slice x.nA x.N.length x.nc, .slice x.o.A x.o.ts.length x.o.c, .slice x.i.A x.i.ts.length x.i.c] 43 (0, 0)) ∧ Below w.heap.size w wq.drew ∧ lo ≤ wq.drew.heap.size from ⟨hrel.out.1.kept hD, hrel.out.2.1, hrel.out.2.2.1, hrel.out.2.2.2.1.below hD, hrel.out.2.2.2.2.1.below hD, hrel.out.2.2.2.2.2.1, hrel.out.2.2.2.2.2.2.1.trans (lower' hD hrel.out.2.2.2.2.2.2.1.size), hrel.out.2.2.2.2.2.2.2⟩
          clear hD
          have HSP := Lib.hid (show ∀ w', Below wq.drew.heap.size wq.drew w' → (fun w' => w'.cell? ⟨w.heap.size, 0, none⟩ = some (.slice (some ⟨nb, no, none⟩) x.N.length x.nc) ∧ w'.cell? ⟨nb, no + f, none⟩ = some (.int .i64 (x.N.getD f 0)) ∧ w'.cell? ⟨nb, no + q, none⟩ = some (.int .i64 (x.N.getD q 0))) w' from fun w' hw' => by
            have hb := hrel.2.2.2.2.2.2.1.trans (lower' hw' hrel.2.2.2.2.2.2.1.size)
            refine ⟨?_, hnode f hft w' hb, hnode q hqn w' hb⟩
            rw [← HNA.out.1]
            exact (bx3 ((hw'.block w.heap.size (heap_lt hrel.2.2.2.2.2.1)).trans hrel.2.2.2.2.2.1)).1)
          obtain ⟨Nf, hNf⟩ : ∃ z, z = x.N.getD f 0 := ⟨_, rfl⟩
          obtain ⟨Nq, hNq⟩ : ∃ z, z = x.N.getD q 0 := ⟨_, rfl⟩
          rw [← hNf, ← hNq] at HSP
          have hb1 : Below wq.drew.heap.size wq.drew (wq.drew.alloc (.cells #[.int .i64 Nf, .int .i64 Nq] 3)) := (Below.refl _ _).alloc (Nat.le_refl _) _
          have hb2 := hb1.alloc hb1.size (.cells #[.slice (some ⟨wq.drew.heap.size, 0, none⟩) 2 2] 63)
          have hu : OwnI (wq.drew.alloc (.cells #[.int .i64 Nf, .int .i64 Nq] 3)) lo ⟨some ⟨wq.drew.heap.size, 0, none⟩, [Nf, Nq], 2⟩ := own_heap (l := [Nf, Nq]) (heap_alloc_new wq.drew (.cells #[.int .i64 Nf, .int .i64 Nq] 3)) hrel.2.2.2.2.2.2.2 (by show 2 ≤ 5000; omega)
          obtain ⟨A6, c6, w6, hrun, g1, g2, _, g4, g5⟩ := (hrel.1.kept hb1).pushF hu (by show 2 ≤ 100; omega) (by have := hrel.2.2.1; omega) (Nat.le_trans hrel.2.2.2.2.2.2.2 hb1.size)
          obtain ⟨n, hn⟩ : ∃ n, n = us.length + 1 := ⟨_, rfl⟩
          obtain ⟨A5, c5, e5, _, _, _⟩ := own_shape hrel.1.row
          have hrun : (Builtin.append_ #[35, 35] 35 #[u3, .slice (some ⟨(wq.drew.alloc (.cells #[.int .i64 Nf, .int .i64 Nq] 3)).heap.size, 0, none⟩) 1 1]).run Try.prog ((wq.drew.alloc (.cells #[.int .i64 Nf, .int .i64 Nq] 3)).alloc (.cells #[.slice (some ⟨wq.drew.heap.size, 0, none⟩) 2 2] 63)) = .ok (.slice A6 (us.length + 1) c6) w6 := hrun
          rw [alloc1_size, ← hn] at hrun
          have htk : F.take (j + 1) = F.take j ++ [q] := by rw [List.take_succ_eq_append_getElem hjF, hqE]
          have htu : tus (us ++ [⟨some ⟨wq.drew.heap.size, 0, none⟩, [Nf, Nq], 2⟩]) = (Q ++ (F.take (j + 1)).map fun q => (f, q)).map (tupN x.N) := by
            rw [tus_app, hrel.2.1, htk, List.map_append (l₁ := F.take j), ← List.append_assoc, List.map_append (l₁ := Q ++ _)]
            unfold tupN tus
            simp [hNf, hNq]
          have hn1 : n ≤ 4001 := by have := hrel.2.2.1; omega
          have g2' : Below w.heap.size w w6 := hrel.2.2.2.2.2.2.1.trans ((lower' hb1 hrel.2.2.2.2.2.2.1.size).trans (lower' g2 (Nat.le_of_lt hlo.out.1)))
          have HN := Lib.hid (show RowsAt w6 lo (.slice A6 n c6) (us ++ [⟨some ⟨wq.drew.heap.size, 0, none⟩, [Nf, Nq], 2⟩]) ∧ tus (us ++ [⟨some ⟨wq.drew.heap.size, 0, none⟩, [Nf, Nq], 2⟩]) = (Q ++ (F.take (j + 1)).map fun q => (f, q)).map (tupN x.N) ∧ (us ++ [(⟨some ⟨wq.drew.heap.size, 0, none⟩, [Nf, Nq], 2⟩ : TV)]).length = n ∧ OwnI w6 w.heap.size ⟨sA, sl', sc⟩ ∧ OwnI w6 wr.heap.size ⟨some ⟨g, 0, none⟩, intsP (f :: F), fc⟩ ∧ w6.heap[w.heap.size]? = some (.cells #[.slice x.nA x.N.length x.nc, .slice x.o.A x.o.ts.length x.o.c, .slice x.i.A x.i.ts.length x.i.c] 43 (0, 0)) ∧ Below w.heap.size w w6 ∧ lo ≤ w6.heap.size from
            ⟨by rw [hn]; exact g1, htu, by rw [List.length_append, hn]; rfl, g4 _ _ (hrel.2.2.2.1.below hb1), g4 _ _ (hrel.2.2.2.2.1.below hb1), g5 ((hb1.block w.heap.size (heap_lt hrel.2.2.2.2.2.1)).trans hrel.2.2.2.2.2.1) (by decide), g2', Nat.le_trans hrel.2.2.2.2.2.2.2 (Nat.le_trans hb1.size g2.size)⟩)
          have B0 := Lib.hid (Below.refl wq.drew.heap.size wq.drew)
          have B1 := Lib.hid hb1
          have B2 := Lib.hid hb2
          have HNq := Lib.hid hNq
          obtain ⟨q0, q1, q2⟩ := bx3 hrel.2.2.2.2.2.1
          rw [HNA.out.1] at q0
          have d0 := (HSP.out wq.drew B0.out).2.1
          have d1 := (HSP.out wq.drew B0.out).2.2
          have hnl2 : x.N.length ≤ 5000 := by omega
          have hfc : F.length ≤ fc - 1 := by
            obtain ⟨_, _, _, _, _, hcap, _⟩ := OwnI.blk hrel.2.2.2.2.1 (by dsimp only; rw [intsP_len]; simp)
            dsimp only at hcap
            rw [intsP_len] at hcap
            simp at hcap
            omega
          have hqI : (q : Int) < (x.N.length : Int) := by omega
          subst e5
          clear hb1 hb2 hu g1 g2 g2' g4 g5 hNf hNq hqE hnode htk htu hn hrel
          have hcut : HQ = HQ := rfl
          clear hcut
          rw [HNA.out.1]
          go_upto_region 9 with (fail)
          refine wp_region_M (fun j => decide (j < 13)) (fun w' => w'.cell? ⟨w.heap.size, 0, none⟩ = some (.slice (some ⟨nb, no, none⟩) x.N.length x.nc) ∧ w'.cell? ⟨nb, no + f, none⟩ = some (.int .i64 Nf) ∧ w'.cell? ⟨nb, no + q, none⟩ = some (.int .i64 Nq)) (by kernel_rfl) ?_
          refine wpAnyM_take (i := 0) (v := ?_) rfl (by kernel_rfl) (by kernel_rfl) (by kernel_rfl) (by kernel_rfl) (fun _ _ _ h => h) (Or.inl ⟨by rfl, ?_⟩) (HSP.out _ B0.out) ?_
          rotate_left
          · intro w hSw; (try dsimp only at hSw); go_simp; (try with_reducible rfl)
          simp only [Act.put, List.getElem_toArray, List.getElem_cons_zero, List.getElem_cons_succ, List.setIfInBounds_toArray, List.set_cons_zero, List.set_cons_succ]
          refine wpAnyM_take (i := 1) (v := ?_) rfl (by kernel_rfl) (by kernel_rfl) (by kernel_rfl) (by kernel_rfl) (fun _ _ _ h => h) (Or.inl ⟨by rfl, ?_⟩) (HSP.out _ B0.out) ?_
          rotate_left
          · intro w hSw; (try dsimp only at hSw); go_simp; (try with_reducible rfl)
          simp only [Act.put, List.getElem_toArray, List.getElem_cons_zero, List.getElem_cons_succ, List.setIfInBounds_toArray, List.set_cons_zero, List.set_cons_succ]
          refine wpAnyM_take (i := 2) (v := ?_) rfl (by kernel_rfl) (by kernel_rfl) (by kernel_rfl) (by kernel_rfl) (fun _ _ _ h => h) (Or.inl ⟨by rfl, ?_⟩) (HSP.out _ B0.out) ?_
          rotate_left
          · intro w hSw; (try dsimp only at hSw); go_simp; (try with_reducible rfl)
          simp only [Act.put, List.getElem_toArray, List.getElem_cons_zero, List.getElem_cons_succ, List.setIfInBounds_toArray, List.set_cons_zero, List.set_cons_succ]
          refine wpAnyM_take (i := 3) (v := ?_) rfl (by kernel_rfl) (by kernel_rfl) (by kernel_rfl) (by kernel_rfl) (fun _ _ _ h => h) (Or.inl ⟨by rfl, ?_⟩) (HSP.out _ B0.out) ?_
          rotate_left
          · intro w hSw; (try dsimp only at hSw); go_simp; (try with_reducible rfl)
          simp only [Act.put, List.getElem_toArray, List.getElem_cons_zero, List.getElem_cons_succ, List.setIfInBounds_toArray, List.set_cons_zero, List.set_cons_succ]
          refine wpAnyM_take (i := 4) (v := ?_) rfl (by kernel_rfl) (by kernel_rfl) (by kernel_rfl) (by kernel_rfl) (fun _ _ _ h => h) (Or.inl ⟨by rfl, ?_⟩) (HSP.out _ B0.out) ?_
          rotate_left
          · intro w hSw; (try dsimp only at hSw); go_simp; (try with_reducible rfl)
          simp only [Act.put, List.getElem_toArray, List.getElem_cons_zero, List.getElem_cons_succ, List.setIfInBounds_toArray, List.set_cons_zero, List.set_cons_succ]
          refine wpAnyM_take (i := 5) (v := ?_) rfl (by kernel_rfl) (by kernel_rfl) (by kernel_rfl) (by kernel_rfl) (fun _ _ _ h => h) (Or.inl ⟨by rfl, ?_⟩) (HSP.out _ B0.out) ?_
          rotate_left
          · intro w hSw; (try dsimp only at hSw); go_simp; (try with_reducible rfl)
          simp only [Act.put, List.getElem_toArray, List.getElem_cons_zero, List.getElem_cons_succ, List.setIfInBounds_toArray, List.set_cons_zero, List.set_cons_succ]
          refine wpAnyM_take (i := 6) (v := ?_) rfl (by kernel_rfl) (by kernel_rfl) (by kernel_rfl) (by kernel_rfl) (fun _ _ _ h => h) (Or.inl ⟨by rfl, ?_⟩) (HSP.out _ B0.out) ?_
          rotate_left
          · intro w hSw; (try dsimp only at hSw); go_simp; (try with_reducible rfl)
          simp only [Act.put, List.getElem_toArray, List.getElem_cons_zero, List.getElem_cons_succ, List.setIfInBounds_toArray, List.set_cons_zero, List.set_cons_succ]
          refine wpAnyM_take (i := 7) (v := ?_) rfl (by kernel_rfl) (by kernel_rfl) (by kernel_rfl) (by kernel_rfl) (fun _ _ _ h => h) (Or.inl ⟨by rfl, ?_⟩) (HSP.out _ B0.out) ?_
          rotate_left
          · intro w hSw; (try dsimp only at hSw); go_simp; (try with_reducible rfl)
          simp only [Act.put, List.getElem_toArray, List.getElem_cons_zero, List.getElem_cons_succ, List.setIfInBounds_toArray, List.set_cons_zero, List.set_cons_succ]
          refine wpAnyM_take (i := 8) (v := ?_) rfl (by kernel_rfl) (by kernel_rfl) (by kernel_rfl) (by kernel_rfl) (fun _ _ _ h => h) (Or.inl ⟨by rfl, ?_⟩) (HSP.out _ B0.out) ?_
          rotate_left
          · intro w hSw; (try dsimp only at hSw); go_simp; (try with_reducible rfl)
          simp only [Act.put, List.getElem_toArray, List.getElem_cons_zero, List.getElem_cons_succ, List.setIfInBounds_toArray, List.set_cons_zero, List.set_cons_succ]
          refine wpAnyM_take (i := 9) (v := ?_) rfl (by kernel_rfl) (by kernel_rfl) (by kernel_rfl) (by kernel_rfl) (fun _ _ _ h => h) (Or.inl ⟨by rfl, ?_⟩) (HSP.out _ B0.out) ?_
          rotate_left
          · intro w hSw; (try dsimp only at hSw); go_simp; (try with_reducible rfl)
          simp only [Act.put, List.getElem_toArray, List.getElem_cons_zero, List.getElem_cons_succ, List.setIfInBounds_toArray, List.set_cons_zero, List.set_cons_succ]
          refine wpAnyM_take (i := 10) (v := ?_) rfl (by kernel_rfl) (by kernel_rfl) (by kernel_rfl) (by kernel_rfl) (fun _ _ _ h => h) (Or.inl ⟨by rfl, ?_⟩) (HSP.out _ B0.out) ?_
          rotate_left
          · intro w hSw; (try dsimp only at hSw); go_simp; (try with_reducible rfl)
          simp only [Act.put, List.getElem_toArray, List.getElem_cons_zero, List.getElem_cons_succ, List.setIfInBounds_toArray, List.set_cons_zero, List.set_cons_succ]
          refine wpAnyM_one (i := 11) (by kernel_rfl) rfl (fun K hK => ?_)
          go_simp
          refine hK.out _ _ (fun _ => HSP.out _ B1.out) ?_
          clear hK K
          refine wpAnyM_one (i := 12) (by kernel_rfl) rfl (fun K hK => ?_)
          go_simp
          refine hK.out _ _ (fun _ => HSP.out _ B2.out) ?_
          clear hK K
          refine wpAnyM_one (i := 13) (by kernel_rfl) rfl (fun K hK => ?_)
          refine step_appK _ (by rfl) (.tmp 25) (.tmp 37) 35 rfl rfl _ _ _ _ rfl rfl hrun ?_
          refine hK.out _ _ (fun h => absurd h (by decide)) ?_
          clear hK K
          refine wpAnyM_one (i := 14) (by kernel_rfl) rfl (fun K hK => ?_)
          go_simp
          refine hK.out _ _ (fun h => absurd h (by decide)) ?_
          clear hK K
          refine wpAnyM_done (by kernel_rfl) ?_ _
          by_cases hnl4 : n ≤ 4000
          · have hnI : ¬ (4000 : Int) < (n : Int) := by omega
            go_wp2_with (fail)
            rw [HNA.out.1] at HN
            go_roundw
            case rel => exact ⟨j + 1, us ++ [⟨some ⟨wq.drew.heap.size, 0, none⟩, [Nf, Nq], 2⟩], by omega, by go_num, Lib.hid ⟨HN.out.1, HN.out.2.1, by rw [HN.out.2.2.1]; exact hnl4, HN.out.2.2.2⟩⟩
            case measure => simp [intOf]; omega
          · have hnI : (4000 : Int) < (n : Int) := by omega
            have hQp := HQ.out.part HA.out.2.2.1 HA.out.2.2.2.1 (j + 1)
            have hln : (Q ++ (F.take (j + 1)).map fun q => (f, q)).length = n := by
              have := congrArg List.length HN.out.2.1
              rw [tus_len, List.length_map, HN.out.2.2.1] at this
              exact this.symm
            have h5 := (HN.out.2.2.1 ▸ HN.out.1.ok (by rw [HN.out.2.2.1]; omega) : n = n ∧ LV.Ok w6 ⟨A6, us ++ [⟨some ⟨wq.drew.heap.size, 0, none⟩, [Nf, Nq], 2⟩], c6⟩).2
            have HZ := Lib.hid (And.intro hQp (And.intro hln h5))
            clear hQp hln h5
            go_wp2_with (fail)
            go_ret
            exact ⟨⟨A6, us ++ [⟨some ⟨wq.drew.heap.size, 0, none⟩, [Nf, Nq], 2⟩], c6⟩, _, by dsimp only; rw [HN.out.2.2.1]; rfl, HZ.out.2.2, HN.out.2.1, HZ.out.1.1, fun p q hm => ⟨by have := (HZ.out.1.2 p q hm).1; omega, (HZ.out.1.2 p q hm).2⟩, by rw [HZ.out.2.1]; exact hn1, fun h => absurd (HZ.out.2.1 ▸ h) hnl4, HN.out.2.2.2.2.2.2.1⟩
        · have hjI : ¬ (j : Int) < (F.length : Int) := by omega
          have hQn := HQ.out.next HA.out.2.2.1 HA.out.2.2.2.1
          have hQl : (Q ++ F.map fun q => (f, q)).length = us.length := by
            have h1 := congrArg List.length hrel.out.2.1
            rw [tus_len, List.length_map, List.take_of_length_le (by omega)] at h1
            exact h1.symm
          have HN := Lib.hid (show RowsAt wq lo u3 us ∧ tus us = (Q ++ F.map fun q => (f, q)).map (tupN x.N) ∧ QOk (plR x.o.ts) (Q ++ F.map fun q => (f, q)) (f + 1) ∧ (Q ++ F.map fun q => (f, q)).length ≤ 4000 ∧ OwnI wq w.heap.size ⟨sA, sl', sc⟩ ∧ sl'.length = x.N.length ∧ (∀ v ∈ sl', v < ((f + 1 : Nat) : Int)) ∧ wq.heap[w.heap.size]? = some (.cells #[.slice x.nA x.N.length x.nc, .slice x.o.A x.o.ts.length x.o.c, .slice x.i.A x.i.ts.length x.i.c] 43 (0, 0)) ∧ Below w.heap.size w wq ∧ lo ≤ wq.heap.size from
            ⟨hrel.out.1, by have h1 := hrel.out.2.1; rw [List.take_of_length_le (by omega)] at h1; exact h1, hQn, by rw [hQl]; exact hrel.out.2.2.1, hrel.out.2.2.2.1, HA.out.2.2.2.2.2.2.1, fun v hv => by
              rcases HA.out.2.2.2.2.2.2.2.1 v hv with h | h
              · have := HSN.out v h; omega
              · rw [h]; omega, hrel.out.2.2.2.2.2.1, hrel.out.2.2.2.2.2.2.1, hrel.out.2.2.2.2.2.2.2⟩)
          clear hQn hQl hrel
          go_wp2_with (fail)
          go_roundw
          case rel => exact ⟨f + 1, us, sl', Q ++ F.map fun q => (f, q), by omega, by go_num, HN⟩
          case measure => simp [intOf]; omega
    · have hfI : ¬ (f : Int) < (x.N.length : Int) := by omega
      obtain rfl : f = x.N.length := by omega
      obtain ⟨A5, c5, e5, _, _, _⟩ := own_shape hrel.out.1.row
      have h5 := hrel.out.1
      rw [e5] at h5
      have hul : us.length = Q.length := by have := congrArg List.length hrel.out.2.1; rw [tus_len, List.length_map] at this; exact this
      have hok5 := (h5.ok (by have := hrel.out.2.2.2.1; omega)).2
      have HF := Lib.hid (And.intro hok5 hrel.out)
      rw [e5]
      clear e5 h5 hul hok5 hrel
      go_wp2_with (fail)
      go_ret
      exact ⟨⟨A5, us, c5⟩, Q, rfl, HF.out.1, HF.out.2.2.1, HF.out.2.2.2.1.nodup, fun p q hm => (HF.out.2.2.2.1.mem p q).1 hm, by have := HF.out.2.2.2.2.1; omega, fun _ p q hp hl => (HF.out.2.2.2.1.mem p q).2 ⟨hp, hl⟩, HF.out.2.2.2.2.2.2.2.2.2.1⟩
end Go.Proofs.Ytgjjdmkoamjdpaa
