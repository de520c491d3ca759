/- The document's log: Append refused. -/
import Derived.Test.YtajakmfloeefpaaJnK
namespace Go.Proofs.Ytajakmfloeefpaa
open Go.RowKit Go.Maps

theorem room_not {L : LG} {d : List UInt8} (hk : L.Ok) (h4 : d.length ≤ 4000) (h : L.room < (d.length : Int)) : 4611686018427387904 < L.next ∨ L.behind < L.endd + 1 + secs d.length := by
  have h2 := hk.endd
  unfold LG.room at h
  unfold secs
  split at h
  · rename_i hx
    rcases hx with hx | hx
    · right; omega
    · left; exact hx
  · right; omega
theorem ApX.end_ {w W9 wr : World} {X : List Nat} {M : DM} {lo c : Nat} {A : Option Addr} {rs : List Rec} {v0 v1 v2 v3 v4 u0 u1 u2 u3 v : Value} (h : W9.heap[w.heap.size + 2]? = some (.cells #[v0, v1, v2, v3, v4] 33 (0, 0)) ∧ W9.heap[w.heap.size + 3]? = some (.cells #[u0, u1, u2, u3] 42 (0, 0)) ∧ RefV W9 X (refOf M) v ∧ Below w.heap.size w W9 ∧ Fr wr W9 [w.heap.size + 2, w.heap.size + 3])
    (ho : wr.ownsRow lo 80 2 (.slice A rs.length c) rs.length (recS rs)) (hs : ∀ s ∈ (Value.slice A rs.length c).ownBlock.toList, s ∉ [w.heap.size + 2, w.heap.size + 3]) :
    W9.drew.heap[w.heap.size + 2]? = some (.cells #[v0, v1, v2, v3, v4] 33 (0, 0)) ∧ W9.drew.heap[w.heap.size + 3]? = some (.cells #[u0, u1, u2, u3] 42 (0, 0)) ∧ RefV W9.drew X (refOf M) v ∧ W9.drew.ownsRow lo 80 2 (.slice A rs.length c) rs.length (recS rs) ∧ Below w.heap.size w W9.drew :=
  ⟨h.1, h.2.1, h.2.2.1.below (Below.refl _ _).drew, own_below (rowFrS ho h.2.2.2.2 hs) (Below.refl _ _).drew (Nat.le_refl _), h.2.2.2.1.drew⟩
set_option maxRecDepth 100000 in
set_option maxHeartbeats 4000000 in
theorem rappend_bad (w : World) (X : List Nat) (M : DM) (v : Value) (hv : RefV w X (refOf M) v) (hp : 0 < M.size) (L : LG) (hok : L.Ok) (lo : Nat) (A : Option Addr) (c : Nat) (ho : w.ownsRow lo 80 2 (.slice A L.recs.length c) L.recs.length (recS L.recs)) (hd : ∀ x ∈ L.recs, x.2.length ≤ 4000) (d : List UInt8) (hdl : d.length ≤ 140737488351232) (cd : Int) (hcd : cd = 3 ∧ 4000 < d.length ∨ cd = 5 ∧ d.length ≤ 4000 ∧ L.room < (d.length : Int)) (C : Nat) (hC : L.first + C = L.behind) :
    Calls Try.prog 10 #[v, .agg #[.int .i64 (L.first : Int), .int .i64 (C : Int), .slice A L.recs.length c, .int .i64 (L.next : Int)], .string ⟨d.toArray⟩] w fun e w' => TurnedR w w' X M cd lo L.first C L.next L.recs e := by
  have hv' := hv
  obtain ⟨A1, A2, A3, c1, c2, c3, rfl, _, _, _⟩ := hv'
  obtain ⟨n1, hn1⟩ : ∃ n, n = (refOf M).sure.length := ⟨_, rfl⟩
  obtain ⟨n2, hn2⟩ : ∃ n, n = (refOf M).now.length := ⟨_, rfl⟩
  obtain ⟨n3, hn3⟩ : ∃ n, n = (refOf M).fresh.length := ⟨_, rfl⟩
  obtain ⟨s, hsx⟩ : ∃ n, n = (refOf M).steps := ⟨_, rfl⟩
  obtain ⟨l, hlx⟩ : ∃ n, n = (refOf M).left := ⟨_, rfl⟩
  rw [← hn1, ← hn2, ← hn3, ← hsx, ← hlx] at hv ⊢
  obtain ⟨dn, hdn⟩ : ∃ n, n = d.length := ⟨_, rfl⟩
  obtain ⟨E, hE⟩ : ∃ E, E = endR L.first L.recs := ⟨_, rfl⟩
  obtain ⟨S, hS⟩ : ∃ S, S = secs dn := ⟨_, rfl⟩
  have hEe : L.endd = E := hE.symm
  have hlt : ∀ s ∈ (Value.slice A L.recs.length c).ownBlock.toList, s ∉ [w.heap.size + 2, w.heap.size + 3] := fun s hs hm => by
    have := (World.ownsRow.lt ho s (by simpa using hs)).2
    simp at hm
    omega
  have hX4 := ApX.new (first := (L.first : Int)) (count := (C : Int)) (next := (L.next : Int)) hv hp ho
  have hcase : cd = 3 ∧ (4000 : Int) < (dn : Int) ∨ (cd = 5 ∧ ¬ (4000 : Int) < (dn : Int) ∧ (4611686018427387904 : Int) < (L.next : Int)) ∨ (cd = 5 ∧ ¬ (4000 : Int) < (dn : Int) ∧ ¬ (4611686018427387904 : Int) < (L.next : Int) ∧ (L.first : Int) + (C : Int) < (E : Int) + 1 + (S : Int)) := by
    rcases hcd with ⟨h1, h2⟩ | ⟨h1, h2, h3⟩
    · left; omega
    · have h4 := room_not hok h2 h3
      rw [hEe, ← hdn, ← hS] at h4
      by_cases h5 : 4611686018427387904 < L.next
      · right; left; omega
      · right; right; omega
  have hb := hok.behind
  have he := hok.endd
  rw [hEe] at he
  have hSl : S ≤ 2199023255552 := by rw [hS]; unfold secs; omega
  have hfI : (L.first : Int) ≤ 4096 := by omega
  have hCI : (C : Int) ≤ 4096 := by omega
  have hEI : (E : Int) ≤ 4096 := by omega
  have hSI : (S : Int) ≤ 2199023255552 := by omega
  have hdI : (dn : Int) ≤ 140737488351232 := by omega
  have hnI : (L.next : Int) ≤ 4611686018427387905 := by have := hok.next; omega
  have hsc := fun W => rsecs_big dn W (by omega)
  rw [← hS] at hsc
  have hen := fun (W : World) (B : Nat) (hr : Rd W B A (recS L.recs)) (hB : B ≤ W.heap.size) => rEnd_any L.first (C : Int) (L.next : Int) L.recs A c B W hr hB hd (by rw [← hE]; omega)
  rw [← hE] at hen
  have hlen : (Value.string ⟨d.toArray⟩) = .string ⟨d.toArray⟩ ∧ (⟨d.toArray⟩ : ByteArray).size = dn := ⟨rfl, by rw [hdn]; simp [ByteArray.size]⟩
  have HSC := Lib.hid hsc
  have HEN := Lib.hid hen
  have HX4 := Lib.hid (And.intro hX4 hlt)
  generalize (⟨d.toArray⟩ : ByteArray) = D at hlen ⊢
  have hDz := hlen.2
  generalize L.recs = R at HX4 HEN ⊢
  generalize L.first = first at *
  generalize L.next = next at *
  clear hn1 hn2 hn3 hsx hlx hv hX4 hcd hlt hsc hen ho hd hdl hp hok hE hS hEe hb he hSl hlen hdn hC
  generalize hRl : R.length = rn at HX4 HEN ⊢
  rcases hcase with ⟨rfl, h1⟩ | ⟨rfl, h1, h2⟩ | ⟨rfl, h1, h2, h3⟩
  all_goals
    go_enter Try.func10, Try.ntmps10
    go_upto_region 1 with (fail)
    generalize ((((w.alloc (.cells #[.slice A1 n1 c1, .slice A2 n2 c2, .slice A3 n3 c3, .int .i64 s, .int .i64 l] 33)).alloc (lgV (first : Int) (C : Int) A rn c (next : Int))).alloc dkZ0).alloc lgZ0) = W4 at HX4 ⊢
    have hlg := HX4.out.1.log
    rw [hRl] at hlg
    have k0 := cell_of_row W4 (w.heap.size + 1) 0 _ _ _ hlg; have k1 := cell_of_row W4 (w.heap.size + 1) 1 _ _ _ hlg; have k2 := cell_of_row W4 (w.heap.size + 1) 2 _ _ _ hlg; have k3 := cell_of_row W4 (w.heap.size + 1) 3 _ _ _ hlg
    have hen := HEN.out W4 W4.heap.size (Rd.ofOwn HX4.out.1.recs) (Nat.le_refl _)
    have HE := Lib.hid hen
    clear hlg hen
    go_upto_region 2 with (go_at_call 37; (with_reducible refine (HSC.out W4).mono ?_); rintro e w3 ⟨rfl, rfl⟩)
    go_upto_region 3 with (go_at_call 33; (with_reducible refine HE.out.mono ?_); rintro e w5 ⟨rfl, hb5⟩)
    have hX5 := HX4.out.1.kept hb5
    obtain ⟨A1', A2', A3', n1', n2', n3', c1', c2', c3', s', l', hg, hv⟩ := hX5.box
    have hlg := hX5.log
    rw [hRl] at hlg
    have hr1 := hX5.res1
    have hr2 := hX5.res2
    have x0 := cell_of_row w5 w.heap.size 0 _ _ _ hg; have x1 := cell_of_row w5 w.heap.size 1 _ _ _ hg; have x2 := cell_of_row w5 w.heap.size 2 _ _ _ hg; have x3 := cell_of_row w5 w.heap.size 3 _ _ _ hg; have x4 := cell_of_row w5 w.heap.size 4 _ _ _ hg
    have k0 := cell_of_row w5 (w.heap.size + 1) 0 _ _ _ hlg; have k1 := cell_of_row w5 (w.heap.size + 1) 1 _ _ _ hlg; have k2 := cell_of_row w5 (w.heap.size + 1) 2 _ _ _ hlg; have k3 := cell_of_row w5 (w.heap.size + 1) 3 _ _ _ hlg
    have y0 := cell_of_row w5 (w.heap.size + 2) 0 _ _ _ hr1; have y1 := cell_of_row w5 (w.heap.size + 2) 1 _ _ _ hr1; have y2 := cell_of_row w5 (w.heap.size + 2) 2 _ _ _ hr1; have y3 := cell_of_row w5 (w.heap.size + 2) 3 _ _ _ hr1; have y4 := cell_of_row w5 (w.heap.size + 2) 4 _ _ _ hr1
    have yf0 := frozen_of_row w5 (w.heap.size + 2) 0 _ _ hr1; have yf1 := frozen_of_row w5 (w.heap.size + 2) 1 _ _ hr1; have yf2 := frozen_of_row w5 (w.heap.size + 2) 2 _ _ hr1; have yf3 := frozen_of_row w5 (w.heap.size + 2) 3 _ _ hr1; have yf4 := frozen_of_row w5 (w.heap.size + 2) 4 _ _ hr1
    have z0 := cell_of_row w5 (w.heap.size + 3) 0 _ _ _ hr2; have z1 := cell_of_row w5 (w.heap.size + 3) 1 _ _ _ hr2; have z2 := cell_of_row w5 (w.heap.size + 3) 2 _ _ _ hr2; have z3 := cell_of_row w5 (w.heap.size + 3) 3 _ _ _ hr2
    have zf0 := frozen_of_row w5 (w.heap.size + 3) 0 _ _ hr2; have zf1 := frozen_of_row w5 (w.heap.size + 3) 1 _ _ hr2; have zf2 := frozen_of_row w5 (w.heap.size + 3) 2 _ _ hr2; have zf3 := frozen_of_row w5 (w.heap.size + 3) 3 _ _ hr2
    have hd := ApX.end_ (hX5.done hv (.slice A1' n1' c1') (.slice A2' n2' c2') (.slice A3' n3' c3') (.int .i64 s') (.int .i64 l') (.int .i64 (first : Int)) (.int .i64 (C : Int)) (.slice A rn c) (.int .i64 (next : Int))) hX5.recs (by rw [hRl]; exact HX4.out.2)
    rw [hRl] at hd
    have HD := Lib.hid hd
    have hsa : ∀ W, Below w5.heap.size w5 W → (W.cell? ⟨w.heap.size, 0, none⟩ = some (.slice A1' n1' c1') ∧ W.cell? ⟨w.heap.size, 1, none⟩ = some (.slice A2' n2' c2') ∧ W.cell? ⟨w.heap.size, 2, none⟩ = some (.slice A3' n3' c3') ∧ W.cell? ⟨w.heap.size, 3, none⟩ = some (.int .i64 s') ∧ W.cell? ⟨w.heap.size, 4, none⟩ = some (.int .i64 l')) ∧ W.cell? ⟨w.heap.size + 1, 0, none⟩ = some (.int .i64 (first : Int)) ∧ W.cell? ⟨w.heap.size + 1, 1, none⟩ = some (.int .i64 (C : Int)) ∧ W.cell? ⟨w.heap.size + 1, 2, none⟩ = some (.slice A rn c) ∧ W.cell? ⟨w.heap.size + 1, 3, none⟩ = some (.int .i64 (next : Int)) := fun W hW => by
      have g1 := (hW.block _ (heap_lt hg)).trans hg
      have g2 := (hW.block _ (heap_lt hlg)).trans hlg
      exact ⟨⟨cell_of_row _ _ 0 _ _ _ g1, cell_of_row _ _ 1 _ _ _ g1, cell_of_row _ _ 2 _ _ _ g1, cell_of_row _ _ 3 _ _ _ g1, cell_of_row _ _ 4 _ _ _ g1⟩, cell_of_row _ _ 0 _ _ _ g2, cell_of_row _ _ 1 _ _ _ g2, cell_of_row _ _ 2 _ _ _ g2, cell_of_row _ _ 3 _ _ _ g2⟩
    have HSA := Lib.hid (hsa w5.drew (Below.refl _ _).drew)
    have hf5 := (fr5 w5 (w.heap.size + 2) (.slice A1' n1' c1') (.slice A2' n2' c2') (.slice A3' n3' c3') (.int .i64 s') (.int .i64 l')).drew
    have hx5 := (hf5.block _ (heap_lt hg) (by simp)).trans hg
    have hl5 := (hf5.block _ (heap_lt hlg) (by simp)).trans hlg
    have HSB := Lib.hid (And.intro (And.intro (cell_of_row _ _ 0 _ _ _ hx5) (And.intro (cell_of_row _ _ 1 _ _ _ hx5) (And.intro (cell_of_row _ _ 2 _ _ _ hx5) (And.intro (cell_of_row _ _ 3 _ _ _ hx5) (cell_of_row _ _ 4 _ _ _ hx5))))) (And.intro (cell_of_row _ _ 0 _ _ _ hl5) (And.intro (cell_of_row _ _ 1 _ _ _ hl5) (And.intro (cell_of_row _ _ 2 _ _ _ hl5) (cell_of_row _ _ 3 _ _ _ hl5)))))
    clear hf5 hx5 hl5 hsa
    clear hg hv hlg hr1 hr2 hd hX5 hb5 HE HSC
    go_wp2_with (fail)
    refine wp_region_M (fun j => decide (j < 3)) (fun w' => (w'.cell? ⟨w.heap.size, 0, none⟩ = some (.slice A1' n1' c1') ∧ w'.cell? ⟨w.heap.size, 1, none⟩ = some (.slice A2' n2' c2') ∧ w'.cell? ⟨w.heap.size, 2, none⟩ = some (.slice A3' n3' c3') ∧ w'.cell? ⟨w.heap.size, 3, none⟩ = some (.int .i64 s') ∧ w'.cell? ⟨w.heap.size, 4, none⟩ = some (.int .i64 l')) ∧ w'.cell? ⟨w.heap.size + 1, 0, none⟩ = some (.int .i64 (first : Int)) ∧ w'.cell? ⟨w.heap.size + 1, 1, none⟩ = some (.int .i64 (C : Int)) ∧ w'.cell? ⟨w.heap.size + 1, 2, none⟩ = some (.slice A rn c) ∧ w'.cell? ⟨w.heap.size + 1, 3, none⟩ = some (.int .i64 (next : Int))) (by kernel_rfl) ?_
    refine wpAnyM_take (i := 0) (v := ?_) rfl (by kernel_rfl) (by kernel_rfl) (by kernel_rfl) (by kernel_rfl) (fun _ _ _ h => h) (Or.inl ⟨by rfl, ?_⟩) HSA.out ?_
    rotate_left
    · intro ww hSw; (try dsimp only at hSw); go_simp; (try with_reducible rfl)
    simp only [Act.put, List.getElem_toArray, List.getElem_cons_zero, List.getElem_cons_succ, List.setIfInBounds_toArray, List.set_cons_zero, List.set_cons_succ]
    refine wpAnyM_take (i := 1) (v := ?_) rfl (by kernel_rfl) (by kernel_rfl) (by kernel_rfl) (by kernel_rfl) (fun _ _ _ h => h) (Or.inl ⟨by rfl, ?_⟩) HSA.out ?_
    rotate_left
    · intro ww hSw; (try dsimp only at hSw); go_simp; (try with_reducible rfl)
    simp only [Act.put, List.getElem_toArray, List.getElem_cons_zero, List.getElem_cons_succ, List.setIfInBounds_toArray, List.set_cons_zero, List.set_cons_succ]
    refine wpAnyM_one (i := 2) (by kernel_rfl) rfl (fun K hK => ?_)
    go_simp
    refine hK.out _ _ (fun _ => HSB.out) ?_
    clear hK K
    refine wpAnyM_one (i := 3) (by kernel_rfl) rfl (fun K hK => ?_)
    go_simp
    refine hK.out _ _ (fun h => absurd h (by decide)) ?_
    clear hK K
    refine wpAnyM_value (i := 4) (v := ?_) rfl (by kernel_rfl) (by kernel_rfl) (by kernel_rfl) (by kernel_rfl) (fun _ _ _ h => h) (Or.inl ⟨by rfl, ?_⟩) ?_
    rotate_left
    · intro ww hSw; go_simp; (try with_reducible rfl)
    simp only [Act.put, List.getElem_toArray, List.getElem_cons_zero, List.getElem_cons_succ, List.setIfInBounds_toArray, List.set_cons_zero, List.set_cons_succ]
    refine wpAnyM_done (by kernel_rfl) ?_ _
    go_wp2_with (fail)
    subst hRl
    exact bodyPost_ret (resAppend HD.out.1 HD.out.2.1 _ rfl rfl) rfl ⟨_, _, _, _, _, _, _, _, _, _, _, _, _, rfl, HD.out.2.2.1, HD.out.2.2.2.1, HD.out.2.2.2.2⟩
end Go.Proofs.Ytajakmfloeefpaa
