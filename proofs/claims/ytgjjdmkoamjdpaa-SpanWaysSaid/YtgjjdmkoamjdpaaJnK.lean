/- Joined: SpW SpX SpY SpZ SpZW. -/
import Derived.Test.YtgjjdmkoamjdpaaSpR0
import Derived.Test.YtgjjdmkoamjdpaaSpU
/- How far places lie, step by step (plain). -/
namespace Go.Proofs.Ytgjjdmkoamjdpaa
open Go.RowKit Go.Maps Go.Sort

theorem getD_set {D : List Int} {p : Nat} (hp : p < D.length) (v d : Int) (z : Nat) : (D.set p v).getD z d = if z = p then v else D.getD z d := by
  rw [List.getD_eq_getElem?_getD, List.getElem?_set, List.getD_eq_getElem?_getD]
  by_cases e : z = p
  · subst e; simp [hp]
  · rw [if_neg (Ne.symm e), if_neg e]
/-- Places found from one on, and how far they are: i of them have been looked at. -/
structure FarS (O : Rows) (n tt : Nat) (G : List Nat) (D : List Int) (i : Nat) : Prop where
  len : D.length = n
  nodup : G.Nodup
  bnd : ∀ q ∈ G, q < n
  mem : ∀ p, 0 ≤ D.getD p (-1) ↔ p ∈ G
  low : ∀ p, -1 ≤ D.getD p (-1)
  zero : ∀ p, D.getD p (-1) = 0 ↔ p = tt
  next : ∀ p, 0 < D.getD p (-1) → ∃ q, AtR O p q ∧ D.getD q (-1) = D.getD p (-1) - 1
  rise : G.Pairwise fun a b => D.getD a (-1) ≤ D.getD b (-1)
  near : i < G.length → ∀ q ∈ G, D.getD q (-1) ≤ D.getD (G.getD i tt) (-1) + 1
  done : ∀ j, j < i → ∀ p, AtR O p (G.getD j tt) → p ∈ G ∧ D.getD p (-1) ≤ D.getD (G.getD j tt) (-1) + 1
  idx : ∀ k, k < G.length → D.getD (G.getD k tt) (-1) ≤ k
  cnt : i ≤ G.length
theorem getD_mem {α : Type} {l : List α} {k : Nat} (h : k < l.length) (d : α) : l.getD k d ∈ l := by
  rw [List.getD_eq_getElem?_getD, List.getElem?_eq_getElem h]
  exact List.getElem_mem h
theorem FarS.start (O : Rows) {n tt : Nat} (h : tt < n) : FarS O n tt [tt] ((List.replicate n (-1 : Int)).set tt 0) 0 := by
  have hr : ∀ p, (List.replicate n (-1 : Int)).getD p (-1) = -1 := fun p => by
    rw [List.getD_eq_getElem?_getD, List.getElem?_replicate]
    split <;> rfl
  have hg : ∀ p, ((List.replicate n (-1 : Int)).set tt 0).getD p (-1) = if p = tt then 0 else -1 := fun p => by
    rw [getD_set (by simpa using h), hr]
  refine ⟨by simp, List.pairwise_singleton _ _, fun q hq => by rw [List.mem_singleton.1 hq]; exact h, fun p => ?_, fun p => ?_, fun p => ?_, fun p hp => ?_, List.pairwise_singleton _ _, fun _ q hq => ?_, fun j hj => absurd hj (Nat.not_lt_zero _), fun k hk => ?_, by simp⟩
  · rw [hg, List.mem_singleton]; split <;> simp [*]
  · rw [hg]; split <;> omega
  · rw [hg]; split <;> simp [*]
  · rw [hg] at hp; split at hp <;> omega
  · rw [List.mem_singleton.1 hq]
    show _ ≤ _
    simp only [List.getD_cons_zero]
    omega
  · have : k = 0 := by simpa using hk
    subst this
    rw [List.getD_cons_zero, hg, if_pos rfl]
    omega
theorem FarS.add {O : Rows} {n tt : Nat} {G : List Nat} {D : List Int} {i : Nat} (h : FarS O n tt G D i) (hi : i < G.length) {p : Nat} (hp : p < n) (hn : p ∉ G) (ha : AtR O p (G.getD i tt)) : FarS O n tt (G ++ [p]) (D.set p (D.getD (G.getD i tt) (-1) + 1)) i := by
  have hg : ∀ z, (D.set p (D.getD (G.getD i tt) (-1) + 1)).getD z (-1) = if z = p then D.getD (G.getD i tt) (-1) + 1 else D.getD z (-1) := fun z => getD_set (by rw [h.len]; exact hp) _ _ z
  have hc := getD_mem hi tt
  have hc0 := (h.mem _).2 hc
  have hne : ∀ z ∈ G, z ≠ p := fun z hz e => hn (e ▸ hz)
  have hgG : ∀ z ∈ G, (D.set p (D.getD (G.getD i tt) (-1) + 1)).getD z (-1) = D.getD z (-1) := fun z hz => by rw [hg, if_neg (hne z hz)]
  have hgp : (D.set p (D.getD (G.getD i tt) (-1) + 1)).getD p (-1) = D.getD (G.getD i tt) (-1) + 1 := by rw [hg, if_pos rfl]
  have hpto : p ≠ tt := fun e => hn ((h.mem p).1 (by rw [(h.zero p).2 e]; omega))
  have hap : ∀ k, k < G.length → (G ++ [p]).getD k tt = G.getD k tt := fun k hk => by
    rw [List.getD_eq_getElem?_getD, List.getD_eq_getElem?_getD, List.getElem?_append_left hk]
  refine ⟨by rw [List.length_set]; exact h.len, ?_, fun q hq => ?_, fun z => ?_, fun z => ?_, fun z => ?_, fun z hz => ?_, ?_, fun _ q hq => ?_, fun j hj z hz => ?_, fun k hk => ?_, ?_⟩
  · rw [List.nodup_append]
    exact ⟨h.nodup, List.pairwise_singleton _ _, fun a ha b hb => by rw [List.mem_singleton.1 hb]; exact hne a ha⟩
  · rcases List.mem_append.1 hq with hq | hq
    · exact h.bnd q hq
    · rw [List.mem_singleton.1 hq]; exact hp
  · rw [hg, List.mem_append, List.mem_singleton]
    by_cases e : z = p
    · rw [if_pos e]; exact ⟨fun _ => .inr e, fun _ => by omega⟩
    · rw [if_neg e, h.mem]; exact ⟨.inl, fun x => x.resolve_right e⟩
  · rw [hg]; split
    · omega
    · exact h.low z
  · rw [hg]
    by_cases e : z = p
    · rw [if_pos e]; exact ⟨fun x => by omega, fun x => absurd (e.symm.trans x) hpto⟩
    · rw [if_neg e]; exact h.zero z
  · rw [hg] at hz ⊢
    by_cases e : z = p
    · rw [if_pos e]
      exact ⟨_, e ▸ ha, by rw [hgG _ hc]; omega⟩
    · rw [if_neg e] at hz ⊢
      obtain ⟨q, h1, h2⟩ := h.next z hz
      refine ⟨q, h1, ?_⟩
      rw [hgG q ((h.mem q).1 (by omega))]
      exact h2
  · rw [List.pairwise_append]
    refine ⟨h.rise.imp_of_mem fun {a b} ha hb x => ?_, List.pairwise_singleton _ _, fun a ha b hb => ?_⟩
    · rw [hgG a ha, hgG b hb]; exact x
    · rw [List.mem_singleton.1 hb, hgG a ha, hgp]
      exact h.near hi a ha
  · rw [hap i hi, hgG _ hc]
    rcases List.mem_append.1 hq with hq | hq
    · rw [hgG q hq]; exact h.near hi q hq
    · rw [List.mem_singleton.1 hq, hgp]; omega
  · have hj2 : j < G.length := by have := h.cnt; omega
    rw [hap j hj2] at hz ⊢
    obtain ⟨h1, h2⟩ := h.done j hj z hz
    rw [hgG z h1, hgG _ (getD_mem hj2 tt)]
    exact ⟨List.mem_append.2 (.inl h1), h2⟩
  · rw [List.length_append, List.length_singleton] at hk
    by_cases e : k < G.length
    · rw [hap k e, hgG _ (getD_mem e tt)]; exact h.idx k e
    · have : k = G.length := by omega
      subst this
      have e3 : (G ++ [p]).getD G.length tt = p := by
        rw [List.getD_eq_getElem?_getD, List.getElem?_append_right (Nat.le_refl _)]
        simp
      rw [e3, hgp]
      have := h.idx i hi
      omega
  · rw [List.length_append]; have := h.cnt; omega
theorem FarS.go {O : Rows} {n tt : Nat} {G : List Nat} {D : List Int} {i : Nat} (h : FarS O n tt G D i) (hi : i < G.length) (hd : ∀ p, AtR O p (G.getD i tt) → p ∈ G) : FarS O n tt G D (i + 1) :=
  ⟨h.len, h.nodup, h.bnd, h.mem, h.low, h.zero, h.next, h.rise, fun h1 q hq => by
    have e1 := h.near hi q hq
    have e2 : D.getD (G.getD i tt) (-1) ≤ D.getD (G.getD (i + 1) tt) (-1) := by
      have := (List.pairwise_iff_getElem.1 h.rise) i (i + 1) hi h1 (by omega)
      rw [List.getD_eq_getElem?_getD (l := G), List.getElem?_eq_getElem hi, List.getD_eq_getElem?_getD (l := G), List.getElem?_eq_getElem h1]
      exact this
    omega, fun j hj p hp => by
    by_cases e : j = i
    · subst e
      exact ⟨hd p hp, h.near hi p (hd p hp)⟩
    · exact h.done j (by omega) p hp, h.idx, hi⟩
theorem FarS.fin {O : Rows} {n tt : Nat} {G : List Nat} {D : List Int} {i : Nat} (h : FarS O n tt G D i) (hi : G.length ≤ i) : FarOk O tt D :=
  ⟨h.zero, h.next, fun p q hpq hq => by
    obtain ⟨j, hj, e⟩ := List.getElem_of_mem ((h.mem q).1 hq)
    have eg : G.getD j tt = q := by rw [List.getD_eq_getElem?_getD, List.getElem?_eq_getElem hj]; exact e
    obtain ⟨h1, h2⟩ := h.done j (by omega) p (by rw [eg]; exact hpq)
    rw [eg] at h2
    exact ⟨(h.mem p).2 h1, h2⟩, h.low⟩
theorem FarS.glen {O : Rows} {n tt : Nat} {G : List Nat} {D : List Int} {i : Nat} (h : FarS O n tt G D i) : G.length ≤ n := by
  have := nodup_len (m := List.range n) h.nodup fun x hx => List.mem_range.2 (h.bnd x hx)
  rwa [List.length_range] at this
end Go.Proofs.Ytgjjdmkoamjdpaa
/- span.farFrom. -/
namespace Go.Proofs.Ytgjjdmkoamjdpaa
open Go.RowKit Go.Maps Go.Sort

theorem FarS.top {O : Rows} {n tt : Nat} {G : List Nat} {D : List Int} {i : Nat} (h : FarS O n tt G D i) (p : Nat) : D.getD p (-1) ≤ n := by
  by_cases hp : p ∈ G
  · obtain ⟨k, hk, e⟩ := List.getElem_of_mem hp
    have h1 := h.idx k hk
    rw [List.getD_eq_getElem?_getD (l := G), List.getElem?_eq_getElem hk, Option.getD_some, e] at h1
    have := h.glen
    omega
  · have := mt (h.mem p).1 hp
    omega
/-- What farFrom answers. -/
def FfPost (O : Rows) (n tt : Nat) (w : World) (e : Ending) (w' : World) : Prop := ∃ u : TV, e = .returned (.slice u.A u.l.length u.c) ∧ OwnI w' w.heap.size u ∧ FarOk O tt u.l ∧ u.l.length = n ∧ (∀ p, u.l.getD p (-1) ≤ n) ∧ Below w.heap.size w w'
set_option maxRecDepth 100000 in
set_option maxHeartbeats 8000000 in
theorem farFrom_any (x : RV) (E : List Pr) (w : World) (hx : x.Ok w) (hr : Rdy x E) (f : Nat) (hf : f < x.N.length) :
    Calls Try.prog 23 #[.agg (rvA x), .int .i64 (f : Int)] w (FfPost (plR x.o.ts) x.N.length f w) := by
  have hb1 : Below w.heap.size w (w.alloc (.cells (rvA x) 43)) := (Below.refl _ _).alloc (Nat.le_refl _) _
  have hg1 := heap_alloc_new w (.cells (rvA x) 43)
  have hun := unknown_any x _ (hx.below hb1)
  have hnl := hr.nl
  unfold rvA at hb1 hg1 hun ⊢
  obtain ⟨q0, q1, q2⟩ := bx3 hg1
  have HB := Lib.hid (And.intro hb1 hg1)
  have HUN := Lib.hid hun
  have HX := Lib.hid (And.intro hx hr)
  clear hx hr hb1 hg1 hun
  have hfI : (f : Int) < (x.N.length : Int) := by omega
  go_enter Try.func23, Try.ntmps23
  go_upto_region 2 with (go_at_call 26; (with_reducible refine HUN.out.mono ?_); rintro e w2 ⟨⟨sA, sl, sc⟩, rfl, h2, o2, b2⟩; dsimp only at h2; subst h2; have H2 := Lib.hid (And.intro o2 (And.intro (HB.out.1.trans (lower' b2 HB.out.1.size)) ((b2.block w.heap.size (by simp)).trans HB.out.2))); clear o2 b2 q0 q1 q2)
  clear HUN HB
  have hs := own_mono H2.out.1 (show w.heap.size ≤ (w.alloc (.cells #[.slice x.nA x.N.length x.nc, .slice x.o.A x.o.ts.length x.o.c, .slice x.i.A x.i.ts.length x.i.c] 43)).heap.size from by simp)
  obtain ⟨gs, cur, hsA, hgl, hgw, _⟩ := OwnI.blk hs (by dsimp only; rw [List.length_replicate]; omega)
  dsimp only at hsA
  subst hsA
  obtain ⟨s0, s1, s2, s3, s4, s5⟩ := OwnI.setAt hs (g := gs) rfl (p := f) (by dsimp only; rw [List.length_replicate]; exact hf) 0
  dsimp only at s0 s1 s2
  have hsz : (w2.setCell ⟨gs, f, none⟩ (.int .i64 0)).heap.size = w2.heap.size := by simp
  have hbA : Below w2.heap.size (w2.setCell ⟨gs, f, none⟩ (.int .i64 0)) ((w2.setCell ⟨gs, f, none⟩ (.int .i64 0)).alloc (.cells #[.int .i64 (f : Int)] 3)) := (Below.refl _ _).alloc (Nat.le_of_eq hsz.symm) _
  have hfd : OwnI ((w2.setCell ⟨gs, f, none⟩ (.int .i64 0)).alloc (.cells #[.int .i64 (f : Int)] 3)) w2.heap.size ⟨some ⟨w2.heap.size, 0, none⟩, intsP [f], 1⟩ := own_heap (l := [(f : Int)]) (by rw [← hsz]; exact heap_alloc_new _ _) (Nat.le_refl _) (by show 1 ≤ 5000; omega)
  have hbw : Below w.heap.size w2 (w2.setCell ⟨gs, f, none⟩ (.int .i64 0)) := s3.below H2.out.2.1.size (fun z hz => by rw [List.mem_singleton.1 hz]; exact hgl)
  have hbx : ((w2.setCell ⟨gs, f, none⟩ (.int .i64 0)).alloc (.cells #[.int .i64 (f : Int)] 3)).heap[w.heap.size]? = some (.cells #[.slice x.nA x.N.length x.nc, .slice x.o.A x.o.ts.length x.o.c, .slice x.i.A x.i.ts.length x.i.c] 43 (0, 0)) := (hbA.block w.heap.size (heap_lt H2.out.2.2)).trans ((s3.block w.heap.size (heap_lt H2.out.2.2) (fun hm => row_neq hs H2.out.2.2 (by decide) (by rw [List.mem_singleton.1 hm]; simp [TV.val, Value.ownBlock]))).trans H2.out.2.2)
  have hst : FarS (plR x.o.ts) x.N.length f [f] ((List.replicate x.N.length (-1 : Int)).set f 0) 0 := FarS.start _ hf
  have HIN := Lib.hid (And.intro hfd (And.intro (OwnI.below s2 ((Below.refl _ _).alloc (Nat.le_refl _) (.cells #[.int .i64 (f : Int)] 3))) (And.intro hst (And.intro (H2.out.2.1.trans (hbw.trans (lower' hbA H2.out.2.1.size))) hbx))))
  have HGS := Lib.hid (And.intro hgl hgw)
  generalize (List.replicate x.N.length (-1 : Int)).set f 0 = D0 at HIN
  clear hs s2 s3 s4 s5 hbA hfd hbw hbx hst hgl hgw
  go_upto_region 4 with (fail)
  generalize ((w2.setCell ⟨gs, f, none⟩ (.int .i64 0)).alloc (.cells #[.int .i64 (f : Int)] 3)) = w1 at HIN ⊢
  clear s0 s1 hsz
  go_wp2_with (fail)
  go_loopw [6, 7] (fun v6 v7 wr => ∃ (i : Nat) (g c : Nat) (G : List Nat) (D : List Int), i ≤ G.length ∧ G.length ≤ x.N.length ∧ v6 = .slice (some ⟨g, 0, none⟩) G.length c ∧ v7 = .int .i64 (i : Int) ∧ Hid (OwnI wr w2.heap.size ⟨some ⟨g, 0, none⟩, intsP G, c⟩ ∧ OwnI wr w.heap.size ⟨some ⟨gs, 0, none⟩, D, sc⟩ ∧ FarS (plR x.o.ts) x.N.length f G D i ∧ Below w.heap.size w wr ∧ wr.heap[w.heap.size]? = some (.cells #[.slice x.nA x.N.length x.nc, .slice x.o.A x.o.ts.length x.o.c, .slice x.i.A x.i.ts.length x.i.c] 43 (0, 0)))) (fun _ v7 _ => x.N.length - (intOf v7).toNat)
  case atStart => exact ⟨0, w2.heap.size, 1, [f], D0, by omega, by simp; omega, rfl, rfl, HIN⟩
  case round =>
    obtain ⟨i, g, c, G, D, hi, hGn, rfl, rfl, hrel⟩ := hrel
    by_cases hlt : i < G.length
    · have hlI : (i : Int) < (G.length : Int) := by omega
      obtain ⟨p, hp⟩ : ∃ p, p = G.getD i f := ⟨_, rfl⟩
      have hpm : p ∈ G := hp ▸ getD_mem hlt f
      have hpn : p < x.N.length := hrel.out.2.2.1.bnd p hpm
      have hpo : p < x.i.ts.length := by rw [HX.out.2.il]; exact hpn
      have hbw := hrel.out.2.2.2.1
      have hxw := HX.out.1.below hbw
      obtain ⟨-, -, d2⟩ := bx3 hrel.out.2.2.2.2
      obtain ⟨ob, oo, hoA, _, r0⟩ := LV.Ok.cel hxw.i hpo
      rw [hoA] at d2
      obtain ⟨eb, eo, heA, _, e0⟩ := (OwnI.ok hrel.out.1 (by dsimp only; rw [intsP_len]; omega)).cell (k := i) (by dsimp only; rw [intsP_len]; exact hlt)
      dsimp only at heA e0
      injection heA with heA
      injection heA with e8 e9
      subst e8 e9
      rw [Nat.zero_add, intsP_at hlt, show G[i] = p from by rw [hp, List.getD_eq_getElem?_getD, List.getElem?_eq_getElem hlt]; rfl] at e0
      have hat := fun q => atR_int hpo HX.out.2.pi q
      have htb := HX.out.2.pi _ (List.getElem_mem hpo)
      have hto := fun W (hW : Below w.heap.size w W) => LV.Ok.att (HX.out.1.below hW).i hpo
      generalize x.i.ts[p] = t at r0 hat htb hto
      have htl : t.l.length ≤ 5000 := (hto _ hbw).sm
      have hpI : (p : Int) < (x.i.ts.length : Int) := by omega
      have hpN : (p : Int) < (x.N.length : Int) := by omega
      have HP := Lib.hid (And.intro hp (And.intro hpm (And.intro hat (And.intro htb hto))))
      have HR := Lib.hid hrel.out
      clear hp hpm hpo hbw hxw hoA hat htb hto hrel
      go_upto_region 7 with (fail)
      go_quiet (fail)
      have HR2 := Lib.hid (And.intro (OwnI.below HR.out.1 (Below.drewN' (Below.refl _ _) nq)) (And.intro (OwnI.below HR.out.2.1 (Below.drewN' (Below.refl _ _) nq)) (And.intro HR.out.2.2.1 (And.intro (Below.drewN' HR.out.2.2.2.1 nq) (show (wr.drewN nq).heap[w.heap.size]? = some (.cells #[.slice x.nA x.N.length x.nc, .slice x.o.A x.o.ts.length x.o.c, .slice x.i.A x.i.ts.length x.i.c] 43 (0, 0)) from HR.out.2.2.2.2)))))
      generalize wr.drewN nq = wa at HR2 ⊢
      clear HR d2 r0 e0 hpI
      go_wp2_with (fail)
      go_loopw [6, 32] (fun v6 v32 wq => ∃ (j g c : Nat) (G : List Nat) (D : List Int), j ≤ t.l.length ∧ i < G.length ∧ G.length ≤ x.N.length ∧ v32 = .int .i64 (j : Int) ∧ v6 = .slice (some ⟨g, 0, none⟩) G.length c ∧ Hid (OwnI wq w2.heap.size ⟨some ⟨g, 0, none⟩, intsP G, c⟩ ∧ OwnI wq w.heap.size ⟨some ⟨gs, 0, none⟩, D, sc⟩ ∧ FarS (plR x.o.ts) x.N.length f G D i ∧ Below w.heap.size w wq ∧ wq.heap[w.heap.size]? = some (.cells #[.slice x.nA x.N.length x.nc, .slice x.o.A x.o.ts.length x.o.c, .slice x.i.A x.i.ts.length x.i.c] 43 (0, 0)) ∧ p = G.getD i f ∧ ∀ q : Nat, (q : Int) ∈ t.l.take j → q ∈ G)) (fun _ v32 _ => t.l.length - (intOf v32).toNat)
      case atStart => exact ⟨0, g, c, G, D, by omega, hlt, hGn, rfl, rfl, Lib.hid ⟨HR2.out.1, HR2.out.2.1, HR2.out.2.2.1, HR2.out.2.2.2.1, HR2.out.2.2.2.2, HP.out.1, fun q hq => by simp at hq⟩⟩
      case round =>
        clear HR2
        obtain ⟨j, g, c, G, D, hj, hiG, hGn, rfl, rfl, hrel⟩ := hrel
        rename World => wq
        by_cases hjt : j < t.l.length
        · have hjI : (j : Int) < (t.l.length : Int) := by omega
          have hiI : (i : Int) < (G.length : Int) := by omega
          have htb := HP.out.2.2.2.1 _ (List.getElem_mem hjt)
          obtain ⟨q, hq⟩ : ∃ q : Nat, t.l[j] = (q : Int) := ⟨t.l[j].toNat, by omega⟩
          have hqn : q < x.N.length := by omega
          have hqI : (q : Int) < (x.N.length : Int) := by omega
          have htk : t.l.take (j + 1) = t.l.take j ++ [(q : Int)] := by rw [List.take_succ_eq_append_getElem hjt, hq]
          have hAt : AtR (plR x.o.ts) q (G.getD i f) := by
            rw [← hrel.out.2.2.2.2.2.1]
            exact (HX.out.2.roads.inn q p).1 ((HP.out.2.2.1 q).2 (by rw [← hq]; exact List.getElem_mem hjt))
          obtain ⟨tb, tof, htA, _, t0⟩ := (HP.out.2.2.2.2 _ hrel.out.2.2.2.1).cell hjt
          rw [hq] at t0
          rw [htA]
          have hDl := hrel.out.2.2.1.len
          have hqs : q < D.length := by rw [hDl]; exact hqn
          have hps : p < D.length := by rw [hDl]; omega
          have hgq : D.getD q (-1) = D[q] := by rw [List.getD_eq_getElem?_getD, List.getElem?_eq_getElem hqs]; rfl
          by_cases hqG : q ∈ G
          · obtain ⟨s0, -, -, -, -, -⟩ := OwnI.setAt hrel.out.2.1 (g := gs) rfl (p := q) hqs 0
            dsimp only at s0
            have hsv : ¬ D[q] < 0 := by have := (hrel.out.2.2.1.mem q).2 hqG; rw [hgq] at this; omega
            have HN := Lib.hid (And.intro hrel.out (show ∀ z : Nat, (z : Int) ∈ t.l.take (j + 1) → z ∈ G from fun z hz => by
              rw [htk] at hz
              rcases List.mem_append.1 hz with hz | hz
              · exact hrel.out.2.2.2.2.2.2 z hz
              · have : z = q := by have := List.mem_singleton.1 hz; omega
                rw [this]; exact hqG))
            generalize D[q] = sv at s0 hsv
            clear htb hq htk hAt htA hDl hqs hps hgq hqG hrel
            go_wp2_with (fail)
            go_roundw
            case rel => exact ⟨j + 1, g, c, G, D, by omega, hiG, hGn, by go_num, rfl, Lib.hid ⟨HN.out.1.1, HN.out.1.2.1, HN.out.1.2.2.1, HN.out.1.2.2.2.1, HN.out.1.2.2.2.2.1, HN.out.1.2.2.2.2.2.1, HN.out.2⟩⟩
            case measure => simp [intOf]; omega
          · obtain ⟨dv, hdv⟩ : ∃ dv, dv = D[p] := ⟨_, rfl⟩
            have hgp : D.getD (G.getD i f) (-1) = dv := by rw [← hrel.out.2.2.2.2.2.1, hdv, List.getD_eq_getElem?_getD, List.getElem?_eq_getElem hps]; rfl
            have hdv0 : 0 ≤ dv := by rw [← hgp]; exact (hrel.out.2.2.1.mem _).2 (getD_mem hiG f)
            have hdv1 : dv ≤ 2000 := by have := hrel.out.2.2.1.idx i hiG; rw [hgp] at this; omega
            obtain ⟨s0, s1, s2, s3, s4, s5⟩ := OwnI.setAt hrel.out.2.1 (g := gs) rfl (p := q) hqs (dv + 1)
            dsimp only at s0 s1 s2
            obtain ⟨p0, -, -, -, -, -⟩ := OwnI.setAt hrel.out.2.1 (g := gs) rfl (p := p) hps 0
            dsimp only at p0
            rw [← hdv] at p0
            obtain ⟨eb, eo, heA, _, e0⟩ := (OwnI.ok hrel.out.1 (by dsimp only; rw [intsP_len]; omega)).cell (k := i) (by dsimp only; rw [intsP_len]; exact hiG)
            dsimp only at heA e0
            injection heA with heA
            injection heA with e8 e9
            subst e8 e9
            rw [Nat.zero_add, intsP_at hiG, show G[i] = p from by rw [hrel.out.2.2.2.2.2.1, List.getD_eq_getElem?_getD, List.getElem?_eq_getElem hiG]; rfl] at e0
            have hsv : D[q] < 0 := by have h1 := mt (hrel.out.2.2.1.mem q).1 hqG; rw [hgq] at h1; omega
            have hadd := hrel.out.2.2.1.add hiG hqn hqG hAt
            rw [hgp] at hadd
            have hge := (OwnI.lo hrel.out.1 _ rfl).1
            dsimp only at hge
            have hgne : g ≠ gs := by have := HGS.out.2; omega
            have hfd := OwnI.fr hrel.out.1 s3 (fun a ha hm => by injection ha with ha; rw [← ha] at hm; exact hgne (List.mem_singleton.1 hm))
            have hw2 : w2.heap.size ≤ wq.heap.size := by have := (OwnI.lo hrel.out.1 _ rfl).2; dsimp only at this; omega
            have hwle : w2.heap.size ≤ (wq.setCell ⟨gs, q, none⟩ (.int .i64 (dv + 1))).heap.size := Nat.le_trans hw2 s3.size
            obtain ⟨u, w5, hrun, hul, hou, hfr, _, hb5⟩ := run_appN (wq.setCell ⟨gs, q, none⟩ (.int .i64 (dv + 1))) w2.heap.size ⟨some ⟨g, 0, none⟩, intsP G, c⟩ [(q : Int)] hfd hwle (by dsimp only; rw [intsP_len]; simp; omega)
            obtain ⟨g', cur', huA, _⟩ := hou.blk (by rw [hul]; simp)
            obtain ⟨uA, ul, uc⟩ := u
            dsimp only at hul huA hrun
            subst hul huA
            have hb1 : Below (wq.setCell ⟨gs, q, none⟩ (.int .i64 (dv + 1))).heap.size (wq.setCell ⟨gs, q, none⟩ (.int .i64 (dv + 1))) ((wq.setCell ⟨gs, q, none⟩ (.int .i64 (dv + 1))).alloc (.cells #[.int .i64 (q : Int)] 3)) := (Below.refl _ _).alloc (Nat.le_refl _) _
            have hf5 : Fr (wq.setCell ⟨gs, q, none⟩ (.int .i64 (dv + 1))) w5 [g] := (Fr.of_below hb1 _).trans hfr
            have hs5 := OwnI.fr s2 hf5 (fun a ha hm => by injection ha with ha; rw [← ha] at hm; exact hgne (List.mem_singleton.1 hm).symm)
            obtain ⟨G', hG'⟩ : ∃ G', G' = G ++ [q] := ⟨_, rfl⟩
            have eF : intsP G ++ [(q : Int)] = intsP G' := by rw [hG']; simp [intsP]
            have hGl : G'.length = G.length + 1 := by rw [hG', List.length_append]; rfl
            rw [eF] at hrun hou
            rw [intsP_len, intsP_len] at hrun
            simp only [hGl] at hrun
            have hszs : (wq.setCell ⟨gs, q, none⟩ (.int .i64 (dv + 1))).heap.size = wq.heap.size := by simp
            have hrun : (Builtin.append_ #[25, 25] 25 #[.slice (some ⟨g, 0, none⟩) G.length c, .slice (some ⟨(wq.setCell ⟨gs, q, none⟩ (.int .i64 (dv + 1))).heap.size, 0, none⟩) 1 1]).run Try.prog ((wq.setCell ⟨gs, q, none⟩ (.int .i64 (dv + 1))).alloc (.cells #[.int .i64 (q : Int)] 3)) = .ok (.slice (some ⟨g', 0, none⟩) (G.length + 1) uc) w5 := hrun
            rw [hszs] at hrun
            have hbxx : w5.heap[w.heap.size]? = some (.cells #[.slice x.nA x.N.length x.nc, .slice x.o.A x.o.ts.length x.o.c, .slice x.i.A x.i.ts.length x.i.c] 43 (0, 0)) := (hf5.block w.heap.size (Nat.lt_of_lt_of_le (heap_lt hrel.out.2.2.2.2.1) s3.size) (fun hm => row_neq hrel.out.1 hrel.out.2.2.2.2.1 (by decide) (by rw [List.mem_singleton.1 hm]; simp [TV.val, Value.ownBlock]))).trans ((s3.block w.heap.size (heap_lt hrel.out.2.2.2.2.1) (fun hm => row_neq hrel.out.2.1 hrel.out.2.2.2.2.1 (by decide) (by rw [List.mem_singleton.1 hm]; simp [TV.val, Value.ownBlock]))).trans hrel.out.2.2.2.2.1)
            have hbel : Below w.heap.size w w5 := hrel.out.2.2.2.1.trans ((s3.below hrel.out.2.2.2.1.size (fun z hz => by rw [List.mem_singleton.1 hz]; exact HGS.out.1)).trans (lower' hb5 H2.out.2.1.size))
            rw [← hG'] at hadd
            have HN := Lib.hid (show OwnI w5 w2.heap.size ⟨some ⟨g', 0, none⟩, intsP G', uc⟩ ∧ OwnI w5 w.heap.size ⟨some ⟨gs, 0, none⟩, D.set q (dv + 1), sc⟩ ∧ FarS (plR x.o.ts) x.N.length f G' (D.set q (dv + 1)) i ∧ Below w.heap.size w w5 ∧ w5.heap[w.heap.size]? = some (.cells #[.slice x.nA x.N.length x.nc, .slice x.o.A x.o.ts.length x.o.c, .slice x.i.A x.i.ts.length x.i.c] 43 (0, 0)) ∧ p = G'.getD i f ∧ ∀ z : Nat, (z : Int) ∈ t.l.take (j + 1) → z ∈ G' from ⟨hou, hs5, hadd, hbel, hbxx, by
                rw [hG', List.getD_eq_getElem?_getD, List.getElem?_append_left hiG, ← List.getD_eq_getElem?_getD]
                exact hrel.out.2.2.2.2.2.1, fun z hz => by
                rw [htk] at hz
                rw [hG']
                rcases List.mem_append.1 hz with hz | hz
                · exact List.mem_append.2 (.inl (hrel.out.2.2.2.2.2.2 z hz))
                · have : z = q := by have := List.mem_singleton.1 hz; omega
                  rw [this]; exact List.mem_append.2 (.inr (List.mem_singleton.2 rfl))⟩)
            have HGl := Lib.hid (And.intro hGl hadd.glen)
            generalize D[q] = sv at s0 hsv
            clear htb hq htk hAt htA hDl hqs hps hgq hqG hdv hgp s2 s3 s4 s5 hadd hge hgne hfd hw2 hwle hou hfr hb5 hb1 hf5 hs5 hG' eF hGl hszs hbxx hbel hrel
            go_wp2_with (at_builtin; refine wpL_appK _ rfl (.tmp 52) (.tmp 54) 25 rfl rfl _ _ _ _ rfl rfl hrun ?_)
            go_roundw
            case rel => exact ⟨j + 1, g', uc, G', D.set q (dv + 1), by omega, by have := HGl.out.1; omega, HGl.out.2, by go_num, by rw [HGl.out.1], HN⟩
            case measure => simp [intOf]; omega
        · have hjI : ¬ (j : Int) < (t.l.length : Int) := by omega
          have hd : ∀ z, AtR (plR x.o.ts) z (G.getD i f) → z ∈ G := fun z hz => by
            rw [← hrel.out.2.2.2.2.2.1] at hz
            have h1 := (HP.out.2.2.1 z).1 ((HX.out.2.roads.inn z p).2 hz)
            refine hrel.out.2.2.2.2.2.2 z ?_
            rw [List.take_of_length_le (by omega)]
            exact h1
          have HN := Lib.hid (And.intro hrel.out (hrel.out.2.2.1.go hiG hd))
          clear hd hrel
          go_wp2_with (fail)
          go_roundw
          case rel => exact ⟨i + 1, g, c, G, D, hiG, hGn, rfl, by go_num, Lib.hid ⟨HN.out.1.1, HN.out.1.2.1, HN.out.2, HN.out.1.2.2.2.1, HN.out.1.2.2.2.2.1⟩⟩
          case measure => simp [intOf]; omega
    · have hlI : ¬ (i : Int) < (G.length : Int) := by omega
      have HF := Lib.hid (And.intro hrel.out (hrel.out.2.2.1.fin (by omega)))
      clear hrel
      go_wp2_with (fail)
      go_ret
      exact ⟨⟨some ⟨gs, 0, none⟩, D, sc⟩, by dsimp only; rw [HF.out.1.2.2.1.len]; rfl, HF.out.1.2.1, HF.out.2, HF.out.1.2.2.1.len, HF.out.1.2.2.1.top, HF.out.1.2.2.2.1⟩
end Go.Proofs.Ytgjjdmkoamjdpaa
/- span.nearest. -/
namespace Go.Proofs.Ytgjjdmkoamjdpaa
open Go.RowKit Go.Maps Go.Sort

/-- The nearest of some places, or none. -/
def NearO (F : List Int) (l : List Nat) (o : Int) : Prop := (o = -1 ∧ ∀ r ∈ l, F.getD r (-1) < 0) ∨ ∃ q : Nat, o = (q : Int) ∧ IsNear F l q
theorem NearO.far {F : List Int} {l : List Nat} {o : Int} (h : NearO F l o) {p : Nat} (hp : F.getD p (-1) < 0) : NearO F (l ++ [p]) o := by
  rcases h with ⟨h1, h2⟩ | ⟨q, h1, h2⟩
  · exact .inl ⟨h1, fun r hr => by
      rcases List.mem_append.1 hr with hr | hr
      · exact h2 r hr
      · rw [List.mem_singleton.1 hr]; exact hp⟩
  · exact .inr ⟨q, h1, List.mem_append.2 (.inl h2.mem), h2.pos, fun r hr h0 => by
      rcases List.mem_append.1 hr with hr | hr
      · exact h2.least r hr h0
      · rw [List.mem_singleton.1 hr] at h0; omega⟩
theorem NearO.one {F : List Int} {l : List Nat} {p : Nat} (h : ∀ r ∈ l, F.getD r (-1) < 0) (hp : 0 ≤ F.getD p (-1)) : NearO F (l ++ [p]) p :=
  .inr ⟨p, rfl, List.mem_append.2 (.inr (List.mem_singleton.2 rfl)), hp, fun r hr h0 => by
    rcases List.mem_append.1 hr with hr | hr
    · have := h r hr; omega
    · rw [List.mem_singleton.1 hr]; exact .inr ⟨rfl, Nat.le_refl _⟩⟩
theorem NearO.new {F : List Int} {l : List Nat} {p q : Nat} (h : IsNear F l q) (hp : 0 ≤ F.getD p (-1)) (hlt : F.getD p (-1) < F.getD q (-1)) : NearO F (l ++ [p]) p :=
  .inr ⟨p, rfl, List.mem_append.2 (.inr (List.mem_singleton.2 rfl)), hp, fun r hr h0 => by
    rcases List.mem_append.1 hr with hr | hr
    · rcases h.least r hr h0 with h1 | h1
      · exact .inl (by omega)
      · exact .inl (by omega)
    · rw [List.mem_singleton.1 hr]; exact .inr ⟨rfl, Nat.le_refl _⟩⟩
theorem NearO.old {F : List Int} {l : List Nat} {p q : Nat} (h : IsNear F l q) (hr : ∀ r ∈ l, r < p) (hge : F.getD q (-1) ≤ F.getD p (-1)) : NearO F (l ++ [p]) q :=
  .inr ⟨q, rfl, List.mem_append.2 (.inl h.mem), h.pos, fun r hr' h0 => by
    rcases List.mem_append.1 hr' with hr' | hr'
    · exact h.least r hr' h0
    · rw [List.mem_singleton.1 hr']
      have := hr q h.mem
      rcases Int.lt_or_eq_of_le hge with h1 | h1
      · exact .inl h1
      · exact .inr ⟨h1, by omega⟩⟩
set_option maxRecDepth 100000 in
set_option maxHeartbeats 4000000 in
theorem nearest_any (t d : TV) (w : World) (ht : t.Ok w) (hd : d.Ok w) (hb : ∀ v ∈ t.l, 0 ≤ v ∧ v < d.l.length) (hr : (t.l.map Int.toNat).Pairwise (· < ·)) :
    Calls Try.prog 24 #[.slice t.A t.l.length t.c, .slice d.A d.l.length d.c] w fun e w' => ∃ o : Int, e = .returned (.int .i64 o) ∧ NearO d.l (t.l.map Int.toNat) o ∧ Below w.heap.size w w' := by
  have htl := ht.sm
  have hdl := hd.sm
  have HX := Lib.hid (And.intro ht (And.intro hd (And.intro hb hr)))
  clear ht hd hb hr
  go_enter Try.func24, Try.ntmps24
  go_wp2_with (fail)
  go_loopw [5, 10] (fun v5 v10 wr => ∃ (k : Nat) (o : Int), k ≤ t.l.length ∧ -1 ≤ o ∧ o < 5000 ∧ v5 = .int .i64 o ∧ v10 = .int .i64 (k : Int) ∧ Hid (NearO d.l ((t.l.take k).map Int.toNat) o ∧ Below w.heap.size w wr)) (fun _ v10 _ => t.l.length - (intOf v10).toNat)
  case atStart => exact ⟨0, -1, by omega, by omega, by omega, rfl, rfl, Lib.hid ⟨.inl ⟨rfl, fun r h => by simp at h⟩, Below.refl _ _⟩⟩
  case round =>
    obtain ⟨k, o, hk, ho1, ho2, rfl, rfl, hrel⟩ := hrel
    by_cases hlt : k < t.l.length
    · have hlI : (k : Int) < (t.l.length : Int) := by omega
      obtain ⟨tb, tf, htA, _, t0⟩ := (HX.out.1.below hrel.out.2).cell hlt
      have htb := HX.out.2.2.1 _ (List.getElem_mem hlt)
      obtain ⟨p, hp⟩ : ∃ p : Nat, t.l[k] = (p : Int) := ⟨t.l[k].toNat, by omega⟩
      rw [hp] at t0
      have hpd : p < d.l.length := by omega
      have hpI : (p : Int) < (d.l.length : Int) := by omega
      obtain ⟨db, df, hdA, _, d0⟩ := (HX.out.2.1.below hrel.out.2).cell hpd
      have htk : (t.l.take (k + 1)).map Int.toNat = (t.l.take k).map Int.toNat ++ [p] := by
        rw [List.take_succ_eq_append_getElem hlt, List.map_append, hp]; rfl
      have hlow : ∀ r ∈ (t.l.take k).map Int.toNat, r < p := fun r hr => by
        have h1 := HX.out.2.2.2
        rw [← List.take_append_drop (k + 1) t.l, List.map_append, htk] at h1
        exact ((List.pairwise_append.1 (List.pairwise_append.1 h1).1)).2.2 r hr p (List.mem_singleton.2 rfl)
      have hgp : d.l.getD p (-1) = d.l[p] := by rw [List.getD_eq_getElem?_getD, List.getElem?_eq_getElem hpd]; rfl
      rw [htA]
      have hwr := hrel.out.2
      by_cases hneg : 0 ≤ d.l[p]
      · rcases hrel.out.1 with ⟨h1, h2⟩ | ⟨q, h1, h2⟩
        · subst h1
          have HN := Lib.hid (show NearO d.l ((t.l.take (k + 1)).map Int.toNat) p ∧ Below w.heap.size w wr from ⟨by rw [htk]; exact NearO.one h2 (by rw [hgp]; exact hneg), hwr⟩)
          generalize d.l[p] = dp at d0 hneg
          rw [hdA]
          clear hrel htb hp hpd htk hlow hgp h2 hwr
          go_upto_region 5 with (fail)
          go_quiet (fail)
          go_wp2_with (fail)
          go_roundw
          case rel => exact ⟨k + 1, p, by omega, by omega, by omega, rfl, by go_num, Lib.hid ⟨HN.out.1, Below.drewN' HN.out.2 _⟩⟩
          case measure => simp [intOf]; omega
        · subst h1
          have hqd := near_lt h2
          have hqI : (q : Int) < (d.l.length : Int) := by omega
          have hq0 : ¬ (q : Int) < 0 := by omega
          obtain ⟨db', df', hdA', _, e0⟩ := (HX.out.2.1.below hrel.out.2).cell hqd
          rw [hdA] at hdA'
          injection hdA' with hdA'
          injection hdA' with e8 e9
          subst e8 e9
          have hgq : d.l.getD q (-1) = d.l[q] := by rw [List.getD_eq_getElem?_getD, List.getElem?_eq_getElem hqd]; rfl
          by_cases hc : d.l[p] < d.l[q]
          · have HN := Lib.hid (show NearO d.l ((t.l.take (k + 1)).map Int.toNat) p ∧ Below w.heap.size w wr from ⟨by rw [htk]; exact NearO.new h2 (by rw [hgp]; exact hneg) (by rw [hgp, hgq]; exact hc), hwr⟩)
            generalize d.l[p] = dp at d0 hneg hc
            generalize d.l[q] = dq at e0 hc
            rw [hdA]
            clear hrel htb hp hpd htk hlow hgp h2 hwr hgq hqd
            go_upto_region 5 with (fail)
            go_quiet (fail)
            go_wp2_with (fail)
            go_roundw
            case rel => exact ⟨k + 1, p, by omega, by omega, by omega, rfl, by go_num, Lib.hid ⟨HN.out.1, Below.drewN' HN.out.2 _⟩⟩
            case measure => simp [intOf]; omega
          · have HN := Lib.hid (show NearO d.l ((t.l.take (k + 1)).map Int.toNat) q ∧ Below w.heap.size w wr from ⟨by rw [htk]; exact NearO.old h2 hlow (by rw [hgp, hgq]; omega), hwr⟩)
            generalize d.l[p] = dp at d0 hneg hc
            generalize d.l[q] = dq at e0 hc
            rw [hdA]
            clear hrel htb hp hpd htk hlow hgp h2 hwr hgq hqd
            go_upto_region 5 with (fail)
            go_quiet (fail)
            go_wp2_with (fail)
            go_roundw
            case rel => exact ⟨k + 1, q, by omega, by omega, by omega, rfl, by go_num, Lib.hid ⟨HN.out.1, Below.drewN' HN.out.2 _⟩⟩
            case measure => simp [intOf]; omega
      · have HN := Lib.hid (show NearO d.l ((t.l.take (k + 1)).map Int.toNat) o ∧ Below w.heap.size w wr from ⟨by rw [htk]; exact hrel.out.1.far (by rw [hgp]; omega), hwr⟩)
        generalize d.l[p] = dp at d0 hneg
        rw [hdA]
        clear hrel htb hp hpd htk hlow hgp hwr
        go_upto_region 5 with (fail)
        go_quiet (fail)
        go_wp2_with (fail)
        go_roundw
        case rel => exact ⟨k + 1, o, by omega, ho1, ho2, rfl, by go_num, Lib.hid ⟨HN.out.1, Below.drewN' HN.out.2 _⟩⟩
        case measure => simp [intOf]; omega
    · have hlI : ¬ (k : Int) < (t.l.length : Int) := by omega
      have HF := Lib.hid hrel.out
      clear hrel
      go_wp2_with (fail)
      go_ret
      exact ⟨o, rfl, by have h := HF.out.1; rw [List.take_of_length_le (by omega)] at h; exact h, HF.out.2⟩
end Go.Proofs.Ytgjjdmkoamjdpaa
/- span.first. -/
namespace Go.Proofs.Ytgjjdmkoamjdpaa
open Go.RowKit Go.Maps Go.Sort

/-- What first answers: a and the rest of the first way, or nil. -/
def FwPost (E : List Pr) (a b : Int) (w : World) (e : Ending) (w' : World) : Prop :=
  (∃ (u : TV) (r : List Int), e = .returned (.slice u.A u.l.length u.c) ∧ u.l = a :: r ∧ r.length ≤ 2001 ∧ FirstWay (InE E) a r b ∧ OwnI w' w.heap.size u ∧ Below w.heap.size w w') ∨ (e = .returned (.slice none 0 0) ∧ ¬ Lead (InE E) a b ∧ Below w.heap.size w w')
theorem near_of {x : RV} {E : List Pr} {w : World} (hx : x.Ok w) (hr : Rdy x E) {D : TV} (hD : D.l.length = x.N.length) (p : Nat) (hp : p < x.o.ts.length) (W : World) (hW : Below w.heap.size w W) (ho : D.Ok W) :
    Calls Try.prog 24 #[.slice x.o.ts[p].A x.o.ts[p].l.length x.o.ts[p].c, .slice D.A D.l.length D.c] W fun e w' => ∃ o : Int, e = .returned (.int .i64 o) ∧ NearO D.l ((plR x.o.ts).getD p []) o ∧ Below W.heap.size W w' := by
  rw [plR_at hp]
  refine nearest_any _ D W (LV.Ok.att (hx.below hW).o hp) ho (fun v hv => by rw [hD]; exact hr.po _ (List.getElem_mem hp) v hv) ?_
  rw [← plR_at hp]
  exact hr.roads.rise p
/-- A way so far, and where it goes on. -/
structure WayS (O : Rows) (D : List Int) (n tt p0 : Nat) (l : List Nat) (o : Int) : Prop where
  len : l.length ≤ n
  on : (o = -1 ∧ ¬ Lead (AtR O) p0 tt) ∨ ∃ q : Nat, o = (q : Int) ∧ q < n ∧ 0 ≤ D.getD q (-1) ∧ l.length + D.getD q (-1) ≤ n ∧ ∀ m, Greed O D tt q m → Greed1 O D tt p0 (l ++ q :: m)
theorem WayS.start {O : Rows} {D : List Int} {n tt p0 : Nat} (hF : FarOk O tt D) (hn : D.length = n) (ht : ∀ p, D.getD p (-1) ≤ n) {o : Int} (h : NearO D (O.getD p0 []) o) : WayS O D n tt p0 [] o := by
  refine ⟨Nat.zero_le _, ?_⟩
  rcases h with ⟨h1, h2⟩ | ⟨q, h1, h2⟩
  · refine .inl ⟨h1, fun hl => ?_⟩
    obtain ⟨m, hm, hw⟩ := lead_wayTo hl
    match m, hm, hw with
    | c :: m', _, ⟨hc, hw'⟩ =>
      have := h2 c hc
      have := (hF.way hw').1
      omega
  · exact .inr ⟨q, h1, hn ▸ near_lt h2, h2.pos, by simpa using ht q, fun m hm => .mk h2 hm⟩
theorem WayS.next {O : Rows} {D : List Int} {n tt p0 : Nat} {l : List Nat} {q : Nat} (hF : FarOk O tt D) (hn : D.length = n) (h : WayS O D n tt p0 l q) (hq : q ≠ tt) {o : Int} (hN : NearO D (O.getD q []) o) : WayS O D n tt p0 (l ++ [q]) o ∧ ∃ q' : Nat, o = (q' : Int) ∧ D.getD q' (-1) < D.getD q (-1) := by
  rcases h.on with ⟨h1, _⟩ | ⟨q2, h1, h2, h3, h4, h5⟩
  · omega
  · obtain rfl : q = q2 := by omega
    have h6 : 0 < D.getD q (-1) := by
      have := mt (hF.zero q).1 hq
      omega
    obtain ⟨r, hr1, hr2⟩ := hF.next q h6
    rcases hN with ⟨e1, e2⟩ | ⟨q', e1, e2⟩
    · have := e2 r hr1
      omega
    · have h7 : D.getD q' (-1) < D.getD q (-1) := by
        rcases e2.least r hr1 (by omega) with h | h
        · omega
        · omega
      refine ⟨⟨by rw [List.length_append, List.length_singleton]; omega, .inr ⟨q', e1, hn ▸ near_lt e2, e2.pos, by rw [List.length_append, List.length_singleton]; omega, fun m hm => ?_⟩⟩, q', e1, h7⟩
      rw [List.append_assoc]
      exact h5 _ (.step hq e2 hm)
end Go.Proofs.Ytgjjdmkoamjdpaa
/- span.first: the walk. -/
namespace Go.Proofs.Ytgjjdmkoamjdpaa
open Go.RowKit Go.Maps Go.Sort

theorem place_in {x : RV} {E : List Pr} (hr : Rdy x E) {a : Int} (ha : a ∈ x.N) : ∃ p, p < x.N.length ∧ x.N.getD p 0 = a ∧ ∀ W, x.Ok W → Calls Try.prog 21 #[.agg (rvA x), .int .i64 a] W fun e w' => e = .returned (.tuple #[.int .i64 (p : Int), .bool true]) ∧ Below W.heap.size W w' := by
  obtain ⟨p, hp, e⟩ := hr.roads.place ha
  rw [getD_at hp] at e
  exact ⟨p, hp, by rw [getD_at hp, e], fun W hW => by rw [← e]; exact place_yes x W hW hr.roads.ris p hp⟩
theorem place_out {x : RV} {E : List Pr} (hr : Rdy x E) (a : Int) : ∀ W, x.Ok W → Calls Try.prog 21 #[.agg (rvA x), .int .i64 a] W fun e w' => ∃ (i : Nat) (k : Bool), e = .returned (.tuple #[.int .i64 (i : Int), .bool k]) ∧ (a ∉ x.N → k = false) ∧ Below W.heap.size W w' := fun W hW => by
  by_cases ha : a ∈ x.N
  · obtain ⟨p, _, _, h⟩ := place_in hr ha
    exact (h W hW).mono fun e w' h => ⟨p, true, h.1, fun h => absurd ha h, h.2⟩
  · exact (place_no x W hW hr.roads.ris a ha).mono fun e w' ⟨i, h1, h2⟩ => ⟨i, false, h1, fun _ => rfl, h2⟩
set_option maxRecDepth 100000 in
set_option maxHeartbeats 8000000 in
theorem first_no (x : RV) (E : List Pr) (a b : Int) (w : World) (hx : x.Ok w) (hr : Rdy x E) (hab : a ∉ x.N ∨ b ∉ x.N) :
    Calls Try.prog 12 #[.agg (rvA x), .int .i64 a, .int .i64 b] w (FwPost E a b w) := by
  have hb1 : Below w.heap.size w (w.alloc (.cells (rvA x) 43)) := (Below.refl _ _).alloc (Nat.le_refl _) _
  have hg1 := heap_alloc_new w (.cells (rvA x) 43)
  have hpa := fun W (hW : Below w.heap.size w W) => place_out hr a W (hx.below hW)
  have hpb := fun W (hW : Below w.heap.size w W) => place_out hr b W (hx.below hW)
  have hno : ¬ Lead (InE E) a b := fun h => by
    obtain ⟨h1, h2⟩ := hr.roads.ends h
    rcases hab with h | h
    · exact h h1
    · exact h h2
  unfold rvA at hb1 hg1 hpa hpb ⊢
  obtain ⟨q0, q1, q2⟩ := bx3 hg1
  have HB := Lib.hid (And.intro hb1 hg1)
  have HPA := Lib.hid hpa
  have HPB := Lib.hid hpb
  have HX := Lib.hid (And.intro hab hno)
  clear hx hr hb1 hg1 hpa hpb hab hno
  go_enter Try.func12, Try.ntmps12
  go_upto_region 2 with (go_at_call 21; (with_reducible refine (HPA.out _ HB.out.1).mono ?_); rintro e w2 ⟨i, ka, rfl, ha, b2⟩; have H2 := Lib.hid (And.intro ha (And.intro (HB.out.1.trans (lower' b2 HB.out.1.size)) ((b2.block w.heap.size (by simp)).trans HB.out.2))); clear ha b2 q0 q1 q2)
  clear HPA HB
  obtain ⟨q0, q1, q2⟩ := bx3 H2.out.2.2
  go_upto_region 3 with (go_at_call 21; (with_reducible refine (HPB.out _ H2.out.2.1).mono ?_); rintro e w3 ⟨j, kb, rfl, hb, b3⟩; have H3 := Lib.hid (And.intro hb (H2.out.2.1.trans (lower' b3 H2.out.2.1.size))); clear hb b3 q0 q1 q2)
  clear HPB
  have hk : ka = false ∨ ka = true ∧ kb = false := by
    rcases HX.out.1 with h | h
    · exact .inl (H2.out.1 h)
    · cases ka
      · exact .inl rfl
      · exact .inr ⟨rfl, H3.out.1 h⟩
  rcases hk with rfl | ⟨rfl, rfl⟩
  · go_wp2_with (fail)
    go_ret
    exact .inr ⟨rfl, HX.out.2, H3.out.2⟩
  · go_wp2_with (fail)
    go_ret
    exact .inr ⟨rfl, HX.out.2, H3.out.2⟩
set_option maxRecDepth 100000 in
set_option maxHeartbeats 8000000 in
theorem first_yes (x : RV) (E : List Pr) (a b : Int) (w : World) (hx : x.Ok w) (hr : Rdy x E) (ha : a ∈ x.N) (hb : b ∈ x.N) :
    Calls Try.prog 12 #[.agg (rvA x), .int .i64 a, .int .i64 b] w (FwPost E a b w) := by
  have hb1 : Below w.heap.size w (w.alloc (.cells (rvA x) 43)) := (Below.refl _ _).alloc (Nat.le_refl _) _
  have hg1 := heap_alloc_new w (.cells (rvA x) 43)
  obtain ⟨p0, hp0, ea, hpa⟩ := place_in hr ha
  obtain ⟨tt, htt, eb, hpb⟩ := place_in hr hb
  have hpa := fun W (hW : Below w.heap.size w W) => hpa W (hx.below hW)
  have hpb := fun W (hW : Below w.heap.size w W) => hpb W (hx.below hW)
  have hff := fun W (hW : Below w.heap.size w W) => farFrom_any x E W (hx.below hW) hr tt htt
  have hnl := hr.nl
  have hol := hr.ol
  unfold rvA at hb1 hg1 hpa hpb hff ⊢
  obtain ⟨q0, q1, q2⟩ := bx3 hg1
  have HB := Lib.hid (And.intro hb1 hg1)
  have HPA := Lib.hid hpa
  have HPB := Lib.hid hpb
  have HFF := Lib.hid hff
  have HX := Lib.hid (And.intro hx (And.intro hr (And.intro ea eb)))
  clear hx hr hb1 hg1 hpa hpb hff ea eb ha hb
  have hpI : (p0 : Int) < (x.o.ts.length : Int) := by omega
  clear hol
  go_enter Try.func12, Try.ntmps12
  go_upto_region 2 with (go_at_call 21; (with_reducible refine (HPA.out _ HB.out.1).mono ?_); rintro e w2 ⟨rfl, b2⟩; have H2 := Lib.hid (And.intro (HB.out.1.trans (lower' b2 HB.out.1.size)) ((b2.block w.heap.size (by simp)).trans HB.out.2)); clear b2 q0 q1 q2)
  clear HPA HB
  obtain ⟨q0, q1, q2⟩ := bx3 H2.out.2
  go_upto_region 3 with (go_at_call 21; (with_reducible refine (HPB.out _ H2.out.1).mono ?_); rintro e w3 ⟨rfl, b3⟩; have H3 := Lib.hid (And.intro (H2.out.1.trans (lower' b3 H2.out.1.size)) ((b3.block w.heap.size (heap_lt H2.out.2)).trans H2.out.2)); clear b3 q0 q1 q2)
  clear HPB H2
  obtain ⟨q0, q1, q2⟩ := bx3 H3.out.2
  go_upto_region 6 with (go_at_call 23; (with_reducible refine (HFF.out _ H3.out.1).mono ?_); rintro e w5 ⟨⟨dA, D, dc⟩, rfl, o5, f5, l5, t5, b5⟩; dsimp only at l5 t5 f5; have H5 := Lib.hid (And.intro (own_mono o5 H3.out.1.size) (And.intro f5 (And.intro l5 (And.intro t5 (And.intro (H3.out.1.trans (lower' b5 H3.out.1.size)) ((b5.block w.heap.size (heap_lt H3.out.2)).trans H3.out.2)))))); clear o5 f5 l5 t5 b5 q0 q1 q2)
  clear HFF
  go_upto_region 7 with (fail)
  have hb6 : Below w5.heap.size w5 (w5.alloc (.cells #[.int .i64 a] 3)) := (Below.refl _ _).alloc (Nat.le_refl _) _
  have hwy : OwnI (w5.alloc (.cells #[.int .i64 a] 3)) w5.heap.size ⟨some ⟨w5.heap.size, 0, none⟩, [a], 1⟩ := own_heap (l := [a]) (heap_alloc_new _ _) (Nat.le_refl _) (by show 1 ≤ 5000; omega)
  have hw6 := H5.out.2.2.2.2.1.trans (lower' hb6 H5.out.2.2.2.2.1.size)
  have hbx6 := (hb6.block w.heap.size (heap_lt H5.out.2.2.2.2.2)).trans H5.out.2.2.2.2.2
  have hd6 := OwnI.below (t := ⟨dA, D, dc⟩) H5.out.1 hb6
  have hpo : p0 < x.o.ts.length := by rw [HX.out.2.1.ol]; exact hp0
  have hne := near_of HX.out.1 HX.out.2.1 (D := ⟨dA, D, dc⟩) H5.out.2.2.1 p0 hpo _ hw6 (OwnI.ok hd6 (by have := H5.out.2.2.1; dsimp only; omega))
  dsimp only at hne
  obtain ⟨ob, oo, hoA, _, r0⟩ := LV.Ok.cel (HX.out.1.below hw6).o hpo
  obtain ⟨-, d1, -⟩ := bx3 hbx6
  rw [hoA] at d1
  generalize x.o.ts[p0] = t at r0 hne
  have H6 := Lib.hid (And.intro hwy (And.intro hd6 (And.intro hw6 hbx6)))
  have HNE := Lib.hid hne
  clear hb6 hwy hw6 hbx6 hd6 hpo hoA hne
  go_wp2_with (go_at_call 24; (with_reducible refine HNE.out.mono ?_); rintro e w7 ⟨o, rfl, n7, b7⟩; have H7 := Lib.hid (And.intro (OwnI.below H6.out.1 b7) (And.intro (OwnI.below H6.out.2.1 b7) (And.intro (WayS.start H5.out.2.1 H5.out.2.2.1 H5.out.2.2.2.1 n7) (And.intro (H6.out.2.2.1.trans (lower' b7 H6.out.2.2.1.size)) ((b7.block w.heap.size (heap_lt H6.out.2.2.2)).trans H6.out.2.2.2))))); clear n7 b7 d1 r0)
  go_loopw [12, 13] (fun v12 v13 wr => ∃ (g c : Nat) (l : List Nat) (o : Int), l.length ≤ x.N.length ∧ v12 = .slice (some ⟨g, 0, none⟩) (l.length + 1) c ∧ v13 = .int .i64 o ∧ Hid (OwnI wr w5.heap.size ⟨some ⟨g, 0, none⟩, a :: nodesAt x.N l, c⟩ ∧ OwnI wr w.heap.size ⟨dA, D, dc⟩ ∧ WayS (plR x.o.ts) D x.N.length tt p0 l o ∧ Below w.heap.size w wr ∧ wr.heap[w.heap.size]? = some (.cells #[.slice x.nA x.N.length x.nc, .slice x.o.A x.o.ts.length x.o.c, .slice x.i.A x.i.ts.length x.i.c] 43 (0, 0)))) (fun _ v13 _ => (D.getD (intOf v13).toNat (-1)).toNat)
  case atStart => exact ⟨w5.heap.size, 1, [], o, by simp, rfl, rfl, H7⟩
  case round =>
    obtain ⟨g, c, l, o, hln, rfl, rfl, hrel⟩ := hrel
    by_cases h0 : 0 ≤ o
    · obtain ⟨q, rfl, hqn, hq0⟩ : ∃ q : Nat, o = (q : Int) ∧ q < x.N.length ∧ 0 ≤ D.getD q (-1) := by
        rcases hrel.out.2.2.1.on with ⟨h1, _⟩ | ⟨q, h1, h2, h3, _, _⟩
        · omega
        · exact ⟨q, h1, h2, h3⟩
      have hqI : (q : Int) < (x.N.length : Int) := by omega
      obtain ⟨q0, -, -⟩ := bx3 hrel.out.2.2.2.2
      obtain ⟨nb, no, hnA, _, c0⟩ := (HX.out.1.below hrel.out.2.2.2.1).nd.cell (k := q) hqn
      dsimp only at hnA c0
      rw [hnA] at q0
      obtain ⟨nq, hnq⟩ : ∃ nq, nq = x.N[q] := ⟨_, rfl⟩
      rw [← hnq] at c0
      have hnod : a :: nodesAt x.N l ++ [nq] = a :: nodesAt x.N (l ++ [q]) := by
        unfold nodesAt
        rw [List.map_append, hnq, ← getD_at hqn]
        rfl
      have hw5 : w5.heap.size ≤ wr.heap.size := by have := (OwnI.lo hrel.out.1 _ rfl).2; have h2 := (OwnI.lo hrel.out.1 _ rfl).1; dsimp only at this h2; omega
      obtain ⟨u, w8, hrun, hul, hou, hfr, _, hb8⟩ := run_appN wr w5.heap.size ⟨some ⟨g, 0, none⟩, a :: nodesAt x.N l, c⟩ [nq] hrel.out.1 hw5 (by dsimp only; simp [nodesAt_len]; omega)
      obtain ⟨g', cur', huA, _⟩ := hou.blk (by rw [hul]; simp)
      obtain ⟨uA, ul, uc⟩ := u
      dsimp only at hul huA hrun
      subst hul huA
      rw [hnod] at hrun hou
      simp only [List.length_cons, nodesAt_len, List.length_append, List.length_nil] at hrun
      have hrun : (Builtin.append_ #[25, 25] 25 #[.slice (some ⟨g, 0, none⟩) (l.length + 1) c, .slice (some ⟨wr.heap.size, 0, none⟩) 1 1]).run Try.prog (wr.alloc (.cells #[.int .i64 nq] 3)) = .ok (.slice (some ⟨g', 0, none⟩) (l.length + 1 + 1) uc) w8 := hrun
      have hbA : Below wr.heap.size wr (wr.alloc (.cells #[.int .i64 nq] 3)) := (Below.refl _ _).alloc (Nat.le_refl _) _
      have hf8 : Fr wr w8 [g] := (Fr.of_below hbA _).trans hfr
      have hge := (OwnI.lo hrel.out.1 _ rfl).1
      dsimp only at hge
      have hd8 := OwnI.fr hrel.out.2.1 hf8 (fun z hz hm => by
        have h1 := (OwnI.lo (t := ⟨dA, D, dc⟩) H5.out.1 z hz).2
        have h2 := List.mem_singleton.1 hm
        omega)
      have hbx8 := (hf8.block w.heap.size (heap_lt hrel.out.2.2.2.2) (fun hm => row_neq hrel.out.1 hrel.out.2.2.2.2 (by decide) (by rw [List.mem_singleton.1 hm]; simp [TV.val, Value.ownBlock]))).trans hrel.out.2.2.2.2
      have hw8 := hrel.out.2.2.2.1.trans (lower' hb8 H5.out.2.2.2.2.1.size)
      by_cases he : q = tt
      · subst he
        have hws : ∀ m, Greed (plR x.o.ts) D q q m → Greed1 (plR x.o.ts) D q p0 (l ++ q :: m) := by
          rcases hrel.out.2.2.1.on with ⟨h1, _⟩ | ⟨q2, h1, _, _, _, h5⟩
          · omega
          · obtain rfl : q = q2 := by omega
            exact h5
        have hfw := HX.out.2.1.roads.first H5.out.2.1 H5.out.2.2.1 hp0 hqn (hws [] .done)
        rw [HX.out.2.2.1, HX.out.2.2.2] at hfw
        have HN := Lib.hid (And.intro hou (And.intro hfw hw8))
        have HL := Lib.hid hrel.out.2.2.1.len
        clear hnA hnq hnod hw5 hou hfr hb8 hbA hf8 hge hd8 hbx8 hw8 hws hfw hrel
        go_wp2_with (at_builtin; refine wpL_appK _ rfl (.tmp 53) (.tmp 59) 25 rfl rfl _ _ _ _ rfl rfl hrun ?_)
        go_ret
        exact .inl ⟨⟨some ⟨g', 0, none⟩, a :: nodesAt x.N (l ++ [q]), uc⟩, nodesAt x.N (l ++ [q]), by dsimp only; simp [nodesAt_len], rfl, by rw [nodesAt_len, List.length_append, List.length_singleton]; omega, HN.out.2.1, own_mono HN.out.1 H5.out.2.2.2.2.1.size, HN.out.2.2⟩
      · have hE : ((q : Int) == (tt : Int)) = false := by simp; omega
        have hqo : q < x.o.ts.length := by rw [HX.out.2.1.ol]; exact hqn
        have hqoI : (q : Int) < (x.o.ts.length : Int) := by omega
        have hne := near_of HX.out.1 HX.out.2.1 (D := ⟨dA, D, dc⟩) H5.out.2.2.1 q hqo _ hw8 (OwnI.ok hd8 (by have := H5.out.2.2.1; dsimp only; omega))
        dsimp only at hne
        obtain ⟨ob, oo, hoA, _, r0⟩ := LV.Ok.cel (HX.out.1.below hw8).o hqo
        obtain ⟨-, d1, -⟩ := bx3 hbx8
        rw [hoA] at d1
        generalize x.o.ts[q] = t at r0 hne
        have HW := Lib.hid (And.intro hou (And.intro hd8 (And.intro hrel.out.2.2.1 (And.intro hw8 hbx8))))
        have HNE := Lib.hid hne
        clear hnA hnq hnod hw5 hou hfr hb8 hbA hf8 hge hd8 hbx8 hw8 hqo hoA hne hrel
        go_wp2_with (first
          | (at_builtin; refine wpL_appK _ rfl (.tmp 53) (.tmp 59) 25 rfl rfl _ _ _ _ rfl rfl hrun ?_)
          | (go_at_call 24; (with_reducible refine HNE.out.mono ?_); rintro e w9 ⟨o9, rfl, n9, b9⟩; obtain ⟨s9, q9, e9, m9⟩ := HW.out.2.2.1.next H5.out.2.1 H5.out.2.2.1 he n9; have H9 := Lib.hid (And.intro (OwnI.below HW.out.1 b9) (And.intro (OwnI.below HW.out.2.1 b9) (And.intro s9 (And.intro (HW.out.2.2.2.1.trans (lower' b9 HW.out.2.2.2.1.size)) (And.intro ((b9.block w.heap.size (heap_lt HW.out.2.2.2.2)).trans HW.out.2.2.2.2) (And.intro e9 m9)))))); clear n9 b9 s9 e9 m9))
        go_roundw
        case rel => exact ⟨g', uc, l ++ [q], o9, H9.out.2.2.1.len, by rw [List.length_append]; rfl, rfl, Lib.hid ⟨H9.out.1, H9.out.2.1, H9.out.2.2.1, H9.out.2.2.2.1, H9.out.2.2.2.2.1⟩⟩
        case measure =>
          have h3 := mt (H5.out.2.1.zero q).1 he
          have h1 := H9.out.2.2.2.2.2.1
          have h2 := H9.out.2.2.2.2.2.2
          subst h1
          simp only [intOf, Int.toNat_natCast]
          omega
    · have hno : ¬ Lead (InE E) a b := by
        rcases hrel.out.2.2.1.on with ⟨_, h1⟩ | ⟨q, h1, _⟩
        · rw [HX.out.2.1.roads.lead hp0 htt, HX.out.2.2.1, HX.out.2.2.2] at h1
          exact h1
        · omega
      have HF := Lib.hid (And.intro hno hrel.out.2.2.2.1)
      clear hno hrel
      go_wp2_with (fail)
      go_ret
      exact .inr ⟨rfl, HF.out.1, HF.out.2⟩
end Go.Proofs.Ytgjjdmkoamjdpaa
