/- Joined: SpO SpP. -/
import Derived.Test.YtgjjdmkoamjdpaaJnI
import Derived.Test.YtgjjdmkoamjdpaaJnD
import Derived.Test.YtgjjdmkoamjdpaaShelfM
import Derived.Laws.CopyOwn
/- slices.Repeat of one number, span.unknown. -/
namespace Go.Proofs.Ytgjjdmkoamjdpaa
open Go.RowKit Go.Maps Go.Sort

theorem makeN (n : Nat) (hn : n ≤ 20000) (w : World) : (Instr.makeSlice 25 (.int .i64 (n : Int)) (.int .i64 (n : Int))).run Try.prog w = .ok (.slice (some ⟨w.heap.size, 0, none⟩) n n) (w.alloc (.cells (intsV (List.replicate n 0)).toArray 3)) := by
  have h := run_make_row' (P := Try.prog) 25 3 (.int .i64 0) 8 Try.underlying25 infoInt rfl .i64 .i64 n (by omega) (by omega) w
  have e : madeCells #[.int .i64 0] n = (intsV (List.replicate n 0)).toArray := by
    apply Array.toList_inj.1
    rw [toList_madeCells_one, List.toList_toArray]
    simp [intsV, List.map_replicate]
  rw [e] at h
  exact h
theorem own_heap {w : World} {g lo : Nat} {l : List Int} (h : w.heap[g]? = some (.cells (intsV l).toArray 3 (0, 0))) (hlo : lo ≤ g) (hl : l.length ≤ 5000) : OwnI w lo ⟨some ⟨g, 0, none⟩, l, l.length⟩ := by
  unfold OwnI TV.val
  dsimp only
  refine ⟨by rw [intsV_len, Nat.mul_one], .inr ⟨g, l.length, (intsV l).toArray, rfl, hlo, h, Nat.le_refl _, by simp [maxLen]; omega, by rw [Nat.mul_one]; simp [intsV], by rw [Nat.mul_one]; exact List.take_of_length_le (Nat.le_of_eq (intsV_len l))⟩⟩
theorem addr_add (b o j : Nat) : (⟨b, o, none⟩ : Addr).add j = ⟨b, o + j, none⟩ := by simp [Addr.add]
theorem two_bel (w : World) (o1 o2 : Obj) : Below w.heap.size w ((w.alloc o1).alloc o2) := ((Below.refl _ _).alloc (Nat.le_refl _) _).alloc (by rw [alloc1_size]; omega) _
def rpL (n k : Nat) : List Int := List.replicate k (-1) ++ List.replicate (n - k) 0
theorem rpL_len {n k : Nat} (h : k ≤ n) : (rpL n k).length = n := by unfold rpL; simp; omega
theorem rpL_splice {n k m : Nat} (h : k + m ≤ n) : splice (intsV (rpL n k)) k (intsV (List.replicate m (-1))) = intsV (rpL n (k + m)) := by
  unfold splice
  have e1 : (intsV (rpL n k)).take k = intsV (List.replicate k (-1)) := by
    unfold intsV rpL
    rw [← List.map_take, List.take_left' (by simp)]
  have e2 : (intsV (rpL n k)).drop (k + (intsV (List.replicate m (-1))).length) = intsV (List.replicate (n - (k + m)) 0) := by
    unfold intsV rpL
    rw [List.length_map, List.length_replicate, ← List.map_drop, List.drop_append, List.drop_of_length_le (by simp), List.nil_append, List.drop_replicate]
    congr 2
    simp
    omega
  rw [e1, e2]
  unfold intsV rpL
  rw [← List.map_append, ← List.map_append, ← List.append_assoc, List.replicate_append_replicate]
theorem mul_one (n : Nat) (h : n ≤ 5000) (w : World) : Calls Try.prog 48 #[.int .u64 1, .int .u64 (n : Int)] w fun e w' => e = .returned (.tuple #[.int .u64 0, .int .u64 (n : Int)]) ∧ w = w' := by
  have hc := Any.bits_Mul (P := Try.prog) Try.laysMul 1 n (by omega) (by omega) w
  rw [Nat.one_mul, Nat.div_eq_of_lt (by omega), Nat.mod_eq_of_lt (by omega)] at hc
  exact hc.mono fun e w' h => ⟨h.1, h.2.symm⟩
set_option maxRecDepth 100000 in
set_option maxHeartbeats 4000000 in
theorem repeat_any (w : World) (g0 n : Nat) (hc : w.cell? ⟨g0, 0, none⟩ = some (.int .i64 (-1))) (hg0 : g0 < w.heap.size) (hn : n ≤ 5000) :
    Calls Try.prog 38 #[.slice (some ⟨g0, 0, none⟩) 1 1, .int .i64 (n : Int)] w (NwPost w (List.replicate n (-1))) := by
  have hmul := mul_one n hn w
  have hmk := makeN n (by omega) w
  have HM := Lib.hid hmul
  have hb1 := (Below.refl w.heap.size w).alloc (Nat.le_refl _) (.cells (intsV (List.replicate n 0)).toArray 3)
  have hg1 := heap_alloc_new w (.cells (intsV (List.replicate n 0)).toArray 3)
  have hsrc := (hb1.cell (p := ⟨g0, 0, none⟩) hg0).trans hc
  have e0 : (List.replicate n (0 : Int)) = rpL n 0 := by unfold rpL; simp
  rw [e0] at hg1 hb1 hsrc hmk
  have H1 := Lib.hid (And.intro hb1 (And.intro hg1 hsrc))
  clear hmul hb1 hg1 hsrc hc e0
  have hcl : (intsV (List.replicate (min 1 n) (-1))).length = Nat.min 1 n := by rw [intsV_len, List.length_replicate]
  have hsr : ∀ j u, (intsV (List.replicate (min 1 n) (-1)))[j]? = some u → (w.alloc (.cells (intsV (rpL n 0)).toArray 3)).cell? ((⟨g0, 0, none⟩ : Addr).add j) = some u := by
    intro j u hu
    unfold intsV at hu
    rw [List.getElem?_map, List.getElem?_replicate] at hu
    split at hu
    · have hj : j = 0 := by omega
      subst hj
      injection hu with hu
      rw [← hu]
      exact H1.out.2.2
    · cases hu
  have HCL := Lib.hid (And.intro hcl hsr)
  have hfit0 : 0 + (intsV (List.replicate (min 1 n) (-1))).length ≤ (intsV (rpL n 0)).length := by rw [intsV_len, intsV_len, List.length_replicate, rpL_len (Nat.zero_le _)]; omega
  have hsp := rpL_splice (n := n) (k := 0) (m := min 1 n) (by omega)
  obtain ⟨cs, hcs⟩ : ∃ cs, cs = intsV (List.replicate (min 1 n) (-1)) := ⟨_, rfl⟩
  have h1c : ∀ v ∈ cs, v.oneCell' = true := by rw [hcs]; exact intsV_one _
  rw [← hcs] at HCL hfit0 hsp
  have HCS0 := Lib.hid (And.intro h1c (And.intro hfit0 hsp))
  clear hcl hsr hfit0 hsp hcs h1c
  go_enter Try.func38, Try.ntmps38
  go_upto_region 7 with (go_at_call 48; (with_reducible refine HM.out.mono ?_); rintro e w1 ⟨rfl, rfl⟩)
  clear hmk
  generalize hW : w.alloc (.cells (intsV (rpL n 0)).toArray 3) = w2 at H1 HCL ⊢
  clear hW
  go_upto_region 8 with (refine wpList_copy_splice rfl (.tmp 31) (.tmp 32) _ _ rfl 3 Try.underlying25 (by kernel_rfl) (some ⟨w.heap.size, 0, none⟩) (some ⟨g0, 0, none⟩) n n 1 1 rfl rfl w.heap.size 0 (intsV (rpL n 0)) 3 H1.out.2.1 cs HCL.out.1 (fun _ => ⟨rfl, _, rfl, HCL.out.2⟩) HCS0.out.2.1 HCS0.out.1 w.heap.size w H1.out.1 (Nat.le_refl _) ?_; intro w3 hg3 hb3)
  have hcl : cs.length = min 1 n := HCL.out.1
  have hg3' := hg3.out
  rw [HCS0.out.2.2, Nat.zero_add] at hg3'
  have H3 := Lib.hid (And.intro hg3' hb3)
  rw [hcl]
  clear hg3 hg3' hb3 HCL HCS0 H1 hcl HM
  go_loopw [8] (fun k wr => ∃ m : Nat, m ≤ n ∧ (n = 0 ∨ 0 < m) ∧ k = .int .i64 (m : Int) ∧ Hid (wr.heap[w.heap.size]? = some (.cells (intsV (rpL n m)).toArray 3 (0, 0)) ∧ Below w.heap.size w wr)) (fun k _ => n - (intOf k).toNat)
  case atStart => exact ⟨min 1 n, by omega, by omega, rfl, H3⟩
  case round =>
    obtain ⟨m, hm, hm0, rfl, hrel⟩ := hrel
    by_cases hlt : m < n
    · have hlI : (m : Int) < (n : Int) := by omega
      have hleI : (m : Int) ≤ (n : Int) := by omega
      have hnm : ¬ n = m := by omega
      have hmpos : 0 < m := by omega
      obtain ⟨c, hc⟩ : ∃ c, c = Nat.min m (n - m) := ⟨_, rfl⟩
      have hcm : c ≤ m ∧ m + c ≤ n ∧ 0 < c := by rw [hc]; show min m (n - m) ≤ m ∧ m + min m (n - m) ≤ n ∧ 0 < min m (n - m); omega
      have hfit : m + (intsV (List.replicate c (-1))).length ≤ (intsV (rpL n m)).length := by rw [intsV_len, intsV_len, List.length_replicate, rpL_len hm]; omega
      have hsp := rpL_splice (n := n) (k := m) (m := c) (by omega)
      have hsr : ∀ j u, (intsV (List.replicate c (-1)))[j]? = some u → wr.drew.cell? ((⟨w.heap.size, 0, none⟩ : Addr).add j) = some u := by
        intro j u hu
        have hj : j < c := by
          have := (List.getElem?_eq_some_iff.1 hu).1
          rwa [intsV_len, List.length_replicate] at this
        have hg := hrel.out.1
        have hat : (intsV (rpL n m))[j]? = some (.int .i64 (-1)) := by
          unfold intsV rpL
          rw [List.getElem?_map, List.getElem?_append_left (by simp; omega), List.getElem?_replicate, if_pos (by omega)]
          rfl
        have hu2 : u = .int .i64 (-1) := by
          unfold intsV at hu
          rw [List.getElem?_map, List.getElem?_replicate, if_pos hj] at hu
          injection hu with hu
          exact hu.symm
        rw [hu2]
        have := cell_of_row wr w.heap.size j _ _ _ hg
        rw [List.getElem?_toArray, hat] at this
        rw [addr_add, Nat.zero_add]
        exact this
      obtain ⟨cs, hcs⟩ : ∃ cs, cs = intsV (List.replicate c (-1)) := ⟨_, rfl⟩
      rw [← hcs] at hfit hsp hsr
      have HCS := Lib.hid (And.intro hcs (And.intro (show cs.length = Nat.min m (n - m) from by rw [hcs, intsV_len, List.length_replicate, hc]) (And.intro hfit (And.intro (show ∀ v ∈ cs, v.oneCell' = true from by rw [hcs]; exact intsV_one _) (And.intro (show cs.length = c from by rw [hcs, intsV_len, List.length_replicate]) hsr)))))
      have HR := Lib.hid (And.intro (show wr.drew.heap[w.heap.size]? = _ from hrel.out.1) (hrel.out.2.trans (lower' (Below.refl _ _).drew hrel.out.2.size)))
      have HSP := Lib.hid hsp
      have hcI : (m : Int) + (c : Int) ≤ 5000 := by omega
      have hwr : IntKind.i64.wrap ((m : Int) + (c : Int)) = (m : Int) + (c : Int) := IntWalk.i64_in _ (by omega)
      clear hfit hsp hsr hcs hrel hc
      go_upto_region 9 with (fail)
      refine wp_region_M (fun _ => true) (fun _ => True) (by kernel_rfl) ?_
      refine wpAnyM_take (i := 0) (v := ?_) rfl (by kernel_rfl) (by kernel_rfl) (by kernel_rfl) (by kernel_rfl) (fun _ _ _ h => h) (Or.inl ⟨by rfl, ?_⟩) trivial ?_
      rotate_left
      · intro w hSw; (try dsimp only at hSw); go_simp; (try with_reducible rfl)
      simp only [Act.put, List.getElem_toArray, List.getElem_cons_zero, List.getElem_cons_succ, List.setIfInBounds_toArray, List.set_cons_zero, List.set_cons_succ]
      refine wpAnyM_take (i := 1) (v := ?_) rfl (by kernel_rfl) (by kernel_rfl) (by kernel_rfl) (by kernel_rfl) (fun _ _ _ h => h) (Or.inl ⟨by rfl, ?_⟩) trivial ?_
      rotate_left
      · intro w hSw; (try dsimp only at hSw); go_simp; (try with_reducible rfl)
      simp only [Act.put, List.getElem_toArray, List.getElem_cons_zero, List.getElem_cons_succ, List.setIfInBounds_toArray, List.set_cons_zero, List.set_cons_succ]
      refine wpAnyM_take (i := 2) (v := ?_) rfl (by kernel_rfl) (by kernel_rfl) (by kernel_rfl) (by kernel_rfl) (fun _ _ _ h => h) (Or.inl ⟨by rfl, ?_⟩) trivial ?_
      rotate_left
      · intro w hSw; (try dsimp only at hSw); go_simp; (try with_reducible rfl)
      simp only [Act.put, List.getElem_toArray, List.getElem_cons_zero, List.getElem_cons_succ, List.setIfInBounds_toArray, List.set_cons_zero, List.set_cons_succ]
      refine wpAnyM_take (i := 3) (v := ?_) rfl (by kernel_rfl) (by kernel_rfl) (by kernel_rfl) (by kernel_rfl) (fun _ _ _ h => h) (Or.inl ⟨by rfl, ?_⟩) trivial ?_
      rotate_left
      · intro w hSw; (try dsimp only at hSw); go_simp; (try with_reducible rfl)
      simp only [Act.put, List.getElem_toArray, List.getElem_cons_zero, List.getElem_cons_succ, List.setIfInBounds_toArray, List.set_cons_zero, List.set_cons_succ]
      refine wpAnyM_take (i := 4) (v := ?_) rfl (by kernel_rfl) (by kernel_rfl) (by kernel_rfl) (by kernel_rfl) (fun _ _ _ h => h) (Or.inl ⟨by rfl, ?_⟩) trivial ?_
      rotate_left
      · intro w hSw; (try dsimp only at hSw); go_simp; (try with_reducible rfl)
      simp only [Act.put, List.getElem_toArray, List.getElem_cons_zero, List.getElem_cons_succ, List.setIfInBounds_toArray, List.set_cons_zero, List.set_cons_succ]
      refine wpAnyM_take (i := 5) (v := ?_) rfl (by kernel_rfl) (by kernel_rfl) (by kernel_rfl) (by kernel_rfl) (fun _ _ _ h => h) (Or.inl ⟨by rfl, ?_⟩) trivial ?_
      rotate_left
      · intro w hSw; (try dsimp only at hSw); go_simp; (try with_reducible rfl)
      simp only [Act.put, List.getElem_toArray, List.getElem_cons_zero, List.getElem_cons_succ, List.setIfInBounds_toArray, List.set_cons_zero, List.set_cons_succ]
      refine wpAnyM_take (i := 6) (v := ?_) rfl (by kernel_rfl) (by kernel_rfl) (by kernel_rfl) (by kernel_rfl) (fun _ _ _ h => h) (Or.inl ⟨by rfl, ?_⟩) trivial ?_
      rotate_left
      · intro w hSw; (try dsimp only at hSw); go_simp; (try with_reducible rfl)
      simp only [Act.put, List.getElem_toArray, List.getElem_cons_zero, List.getElem_cons_succ, List.setIfInBounds_toArray, List.set_cons_zero, List.set_cons_succ]
      refine wpAnyM_one (i := 7) (by kernel_rfl) rfl (fun K hK => ?_)
      refine step_copy_splice rfl (.tmp 41) (.tmp 44) _ _ rfl 3 Try.underlying25 (by kernel_rfl) (some ⟨w.heap.size, m, none⟩) (some ⟨w.heap.size, 0, none⟩) (n - m) (n - m) m n rfl rfl w.heap.size m (intsV (rpL n m)) 3 HR.out.1 cs HCS.out.2.1 (fun _ => ⟨rfl, _, rfl, HCS.out.2.2.2.2.2⟩) HCS.out.2.2.1 HCS.out.2.2.2.1 w.heap.size w HR.out.2 (Nat.le_refl _) ?_
      intro w4 hg4 hb4
      rw [HCS.out.2.2.2.2.1]
      refine hK.out _ _ (fun _ => trivial) ?_
      clear hK K
      refine wpAnyM_one (i := 8) (by kernel_rfl) rfl (fun K hK => ?_)
      go_simp
      refine hK.out _ _ (fun _ => trivial) ?_
      clear hK K
      refine wpAnyM_one (i := 9) (by kernel_rfl) rfl (fun K hK => ?_)
      go_simp
      refine hK.out _ _ (fun _ => trivial) ?_
      clear hK K
      refine wpAnyM_done (by kernel_rfl) ?_ _
      have hg5 := hg4.out
      rw [HSP.out] at hg5
      have H5 := Lib.hid (And.intro hg5 hb4)
      clear hg4 hg5 hb4
      go_wp2_with (fail)
      go_roundw
      case rel => exact ⟨m + c, by omega, by omega, by go_num, H5⟩
      case measure => simp [intOf]; omega
    · have hlI : ¬ (m : Int) < (n : Int) := by omega
      obtain rfl : m = n := by omega
      have hown := own_heap (lo := w.heap.size) hrel.out.1 (Nat.le_refl _) (by rw [rpL_len (Nat.le_refl _)]; omega)
      rw [rpL_len (Nat.le_refl _)] at hown
      have hrp : rpL m m = List.replicate m (-1) := by unfold rpL; simp
      rw [hrp] at hown
      have HF := Lib.hid (And.intro hown hrel.out.2)
      clear hown hrp hrel
      go_wp2_with (fail)
      go_ret
      exact ⟨⟨some ⟨w.heap.size, 0, none⟩, List.replicate m (-1), m⟩, by simp, rfl, HF.out.1, HF.out.2⟩
/-- span.unknown. -/
theorem unknown_any (x : RV) (w : World) (hx : x.Ok w) : Calls Try.prog 26 #[.agg (rvA x)] w (NwPost w (List.replicate x.N.length (-1))) := by
  have hb1 := two_bel w (.cells (rvA x) 43) (.cells #[.int .i64 (-1)] 3)
  have hg1 := heap_alloc_new w (.cells (rvA x) 43)
  have hg2 := heap_alloc_new (w.alloc (.cells (rvA x) 43)) (.cells #[.int .i64 (-1)] 3)
  rw [alloc1_size] at hg2
  have hg1' : ((w.alloc (.cells (rvA x) 43)).alloc (.cells #[.int .i64 (-1)] 3)).heap[w.heap.size]? = some (.cells (rvA x) 43 (0, 0)) := (((Below.refl _ _).alloc (Nat.le_refl _) _).block w.heap.size (by simp)).trans hg1
  obtain ⟨q0, -, -⟩ := bx3 hg1'
  have hr := repeat_any _ (w.heap.size + 1) x.N.length (cell_of_row _ _ 0 _ _ _ hg2) (heap_lt hg2) hx.nd.sm
  have hns : x.N.length ≤ 5000 := hx.nd.sm
  unfold rvA at hb1 q0 hr ⊢
  have HB := Lib.hid hb1
  have HR := Lib.hid hr
  clear hx hb1 hg1 hg2 hg1' hr
  go_enter Try.func26, Try.ntmps26
  go_wp2_with (go_at_call 38; (with_reducible refine HR.out.mono ?_); rintro e w2 ⟨u, rfl, h2, o2, b2⟩; have H2 := Lib.hid (And.intro h2 (And.intro o2 b2)); clear h2 o2 b2)
  go_ret
  exact ⟨u, rfl, H2.out.1, own_mono H2.out.2.1 HB.out.size, HB.out.trans (lower' H2.out.2.2 HB.out.size)⟩
end Go.Proofs.Ytgjjdmkoamjdpaa
/- Rows of rows of numbers. -/
namespace Go.Proofs.Ytgjjdmkoamjdpaa
open Go.RowKit Go.Maps Go.Sort

theorem infoRow : (Try.prog.info? 25).map (fun i => (i.zero, i.size, i.bytes)) = some (some (.slice none 0 0), 1, 24) := by kernel_rfl
/-- A row of rows of numbers, all of the call's own. -/
structure Nest (w : World) (lo g : Nat) (us : List TV) : Prop where
  row : w.ownsRow lo 25 1 (.slice (some ⟨g, 0, none⟩) us.length us.length) us.length (vals us)
  tup : ∀ t ∈ us, OwnI w lo t
  off : us.Pairwise Off
theorem Nest.kept {w w' : World} {lo g : Nat} {us : List TV} (h : Nest w lo g us) (hb : Below w.heap.size w w') : Nest w' lo g us := ⟨own_below h.row hb (Nat.le_refl _), fun t ht => (h.tup t ht).below hb, h.off⟩
theorem Nest.cell {w : World} {lo g : Nat} {us : List TV} (h : Nest w lo g us) {i : Nat} (hi : i < us.length) : w.cell? ⟨g, i, none⟩ = some (.slice us[i].A us[i].l.length us[i].c) ∧ w.frozen? ⟨g, i, none⟩ = false := by
  refine ⟨?_, World.ownsRow.frozenAt h.row i⟩
  rw [World.ownsRow.cellAt h.row i (by omega)]
  simp [vals, TV.val, hi]
theorem Nest.lt {w : World} {lo g : Nat} {us : List TV} (h : Nest w lo g us) : lo ≤ g ∧ g < w.heap.size := World.ownsRow.lt h.row g (by simp [Value.ownBlock])
theorem Nest.ok {w : World} {lo g : Nat} {us : List TV} (h : Nest w lo g us) (hl : ∀ t ∈ us, t.l.length ≤ 5000) (hs : us.length ≤ 5000) : LV.Ok w ⟨some ⟨g, 0, none⟩, us, us.length⟩ := by
  obtain ⟨A, c, e, _, _, hrd⟩ := own_shape h.row
  injection e with e1 e2 e3
  subst e1 e3
  exact ⟨hrd, fun t ht => (h.tup t ht).ok (hl t ht), Nat.le_refl _, hs⟩
theorem row_neq {w : World} {base size n b : Nat} {e t : TypeId} {v : Value} {xs : List Value} {cs : Array Value} {fr : Nat × Nat} (h : w.ownsRow base e size v n xs) (hb : w.heap[b]? = some (.cells cs t fr)) (hne : e ≠ t) : b ∉ v.ownBlock.toList := by
  intro hs
  rcases h.2 with ⟨hv, _⟩ | ⟨g, cap, cur, hv, _, hg, _⟩
  · rw [hv] at hs; simp [Value.ownBlock] at hs
  · rw [hv] at hs
    simp [Value.ownBlock] at hs
    subst hs
    rw [hg] at hb
    injection hb with hb
    injection hb with _ h2
    exact hne h2
theorem blk_at (t : TV) (b : Nat) : b ∈ t.val.ownBlock.toList ↔ ∃ a, t.A = some a ∧ a.block = b := by
  unfold TV.val
  rcases t.A with _ | a
  · simp [Value.ownBlock]
  · simp only [Value.ownBlock, Option.toList, List.mem_singleton, Option.some.injEq]
    exact ⟨fun h => ⟨a, rfl, h.symm⟩, fun ⟨a', e, h⟩ => by rw [e, h]⟩
/-- A row in it is put anew: it has grown in its own block, or has a new one. -/
theorem Nest.put {w w1 : World} {lo g : Nat} {us : List TV} {u : TV} {i : Nat} (h : Nest w lo g us) (hi : i < us.length) (hou : OwnI w1 lo u) (hf : Fr w w1 us[i].val.ownBlock.toList) (hat : ∀ b ∈ u.val.ownBlock.toList, b ∈ us[i].val.ownBlock.toList ∨ w.heap.size ≤ b) :
    (w1.cell? ⟨g, i, none⟩ = some (.slice us[i].A us[i].l.length us[i].c) ∧ w1.frozen? ⟨g, i, none⟩ = false) ∧ Nest (w1.setCell ⟨g, i, none⟩ (.slice u.A u.l.length u.c)) lo g (us.set i u) ∧ Fr w (w1.setCell ⟨g, i, none⟩ (.slice u.A u.l.length u.c)) (g :: us[i].val.ownBlock.toList) := by
  have hti := h.tup _ (List.getElem_mem hi)
  have hrow1 := rowFrS h.row hf fun s hs hms => own_apart hti h.row (by decide) s hms hs
  have h1j : ∀ j (hj : j < us.length), j ≠ i → OwnI w1 lo us[j] := fun j hj hne => (h.tup _ (List.getElem_mem hj)).fr hf fun a ha hms => by
    obtain ⟨a', ha', hb'⟩ := (blk_at us[i] a.block).1 hms
    exact off_get h.off hi hj (Ne.symm hne) a' a ha' ha hb'
  obtain ⟨hst, hgr⟩ := World.ownsRow.stored hrow1 i u.val
  have hf2 := Fr.of_grown hgr
  have hapart : ∀ t : TV, OwnI w1 lo t → ∀ a, t.A = some a → a.block ∉ [g] := fun t ht a ha hms =>
    own_apart ht hrow1 (by decide) a.block ((blk_at t a.block).2 ⟨a, ha, rfl⟩) (by rw [List.mem_singleton.1 hms]; simp [Value.ownBlock])
  refine ⟨⟨?_, World.ownsRow.frozenAt hrow1 i⟩, ⟨?_, fun t ht => ?_, off_set h.off hi fun j hj hne => ?_⟩, (hf.mono (fun x hx => List.mem_cons_of_mem _ hx)).trans (hf2.mono (fun x hx => by rw [List.mem_singleton.1 hx]; exact List.mem_cons_self ..))⟩
  · rw [World.ownsRow.cellAt hrow1 i (by omega)]
    simp [vals, TV.val, hi]
  · rw [List.length_set, vals_set]
    exact hst
  · rcases mem_set_ix hi ht with rfl | ⟨j, hj, hne, rfl⟩
    · exact hou.fr hf2 (hapart _ hou)
    · exact (h1j j hj hne).fr hf2 (hapart _ (h1j j hj hne))
  · intro a b ha hb e
    rcases hat a.block ((blk_at u a.block).2 ⟨a, ha, rfl⟩) with e1 | e1
    · obtain ⟨a', ha', hb'⟩ := (blk_at us[i] a.block).1 e1
      exact off_get h.off hi hj (Ne.symm hne) a' b ha' hb (by rw [hb', e])
    · have h3 := ((h.tup _ (List.getElem_mem hj)).lo b hb).2
      omega
/-- What a put leaves alone. -/
theorem Nest.frame {w w' : World} {lo g g2 : Nat} {us vs : List TV} {i : Nat} (h : Nest w lo g us) (k : Nest w lo g2 vs) (hi : i < us.length) (hne : g2 ≠ g) (hoff : ∀ t ∈ us, ∀ u ∈ vs, Off t u) (hf : Fr w w' (g :: us[i].val.ownBlock.toList)) : Nest w' lo g2 vs := by
  have hti := h.tup _ (List.getElem_mem hi)
  refine ⟨rowFrS k.row hf fun s hs hm => ?_, fun t ht => (k.tup t ht).fr hf fun a ha hm => ?_, k.off⟩
  · simp [Value.ownBlock] at hs
    subst hs
    rcases List.mem_cons.1 hm with e | hm
    · exact hne e
    · exact own_apart hti k.row (by decide) s hm (by simp [Value.ownBlock])
  · rcases List.mem_cons.1 hm with e | hm
    · exact own_apart (k.tup t ht) h.row (by decide) a.block ((blk_at t a.block).2 ⟨a, ha, rfl⟩) (by rw [e]; simp [Value.ownBlock])
    · obtain ⟨a', ha', hb'⟩ := (blk_at us[i] a.block).1 hm
      exact hoff _ (List.getElem_mem hi) t ht a' a ha' ha hb'
theorem Nest.low {w w' : World} {lo g : Nat} {us : List TV} {i : Nat} (h : Nest w lo g us) (hi : i < us.length) (hlo : lo ≤ w.heap.size) (hf : Fr w w' (g :: us[i].val.ownBlock.toList)) : Below lo w w' :=
  hf.below hlo fun s hs => by
    rcases List.mem_cons.1 hs with e | hs
    · rw [e]; exact h.lt.1
    · obtain ⟨a, ha, hb⟩ := (blk_at us[i] s).1 hs
      rw [← hb]
      exact ((h.tup _ (List.getElem_mem hi)).lo a ha).1
/-- A box of another type stays. -/
theorem Nest.box {w w' : World} {lo g b : Nat} {us : List TV} {i : Nat} {cs : Array Value} {t : TypeId} {fr : Nat × Nat} (h : Nest w lo g us) (hi : i < us.length) (hb : w.heap[b]? = some (.cells cs t fr)) (h1 : 25 ≠ t) (h2 : 3 ≠ t) (hf : Fr w w' (g :: us[i].val.ownBlock.toList)) : w'.heap[b]? = some (.cells cs t fr) := by
  refine (hf.block b (heap_lt hb) fun hm => ?_).trans hb
  rcases List.mem_cons.1 hm with e | hm
  · exact row_neq h.row hb h1 (by rw [e]; simp [Value.ownBlock])
  · exact row_neq (h.tup _ (List.getElem_mem hi)) hb h2 hm
/-- Two of them, apart. -/
structure Two2 (w : World) (lo og ig : Nat) (os is : List TV) : Prop where
  o : Nest w lo og os
  i : Nest w lo ig is
  ne : og ≠ ig
  off : ∀ t ∈ os, ∀ u ∈ is, Off t u
theorem Two2.symm {w : World} {lo og ig : Nat} {os is : List TV} (h : Two2 w lo og ig os is) : Two2 w lo ig og is os := ⟨h.i, h.o, h.ne.symm, fun t ht u hu => (h.off u hu t ht).symm⟩
theorem Two2.kept {w w' : World} {lo og ig : Nat} {os is : List TV} (h : Two2 w lo og ig os is) (hb : Below w.heap.size w w') : Two2 w' lo og ig os is := ⟨h.o.kept hb, h.i.kept hb, h.ne, h.off⟩
theorem Two2.put {w w1 : World} {lo og ig : Nat} {os is : List TV} {u : TV} {i : Nat} (h : Two2 w lo og ig os is) (hi : i < os.length) (hlo : lo ≤ w.heap.size) (hou : OwnI w1 lo u) (hf : Fr w w1 os[i].val.ownBlock.toList) (hat : ∀ b ∈ u.val.ownBlock.toList, b ∈ os[i].val.ownBlock.toList ∨ w.heap.size ≤ b) :
    (w1.cell? ⟨og, i, none⟩ = some (.slice os[i].A os[i].l.length os[i].c) ∧ w1.frozen? ⟨og, i, none⟩ = false) ∧ Two2 (w1.setCell ⟨og, i, none⟩ (.slice u.A u.l.length u.c)) lo og ig (os.set i u) is ∧ Below lo w (w1.setCell ⟨og, i, none⟩ (.slice u.A u.l.length u.c)) ∧ (∀ {b : Nat} {cs : Array Value} {t : TypeId} {fr : Nat × Nat}, w.heap[b]? = some (.cells cs t fr) → 25 ≠ t → 3 ≠ t → (w1.setCell ⟨og, i, none⟩ (.slice u.A u.l.length u.c)).heap[b]? = some (.cells cs t fr)) := by
  obtain ⟨h1, h2, h3⟩ := h.o.put hi hou hf hat
  refine ⟨h1, ⟨h2, h.o.frame h.i hi h.ne.symm h.off h3, h.ne, fun t ht v hv => ?_⟩, h.o.low hi hlo h3, fun hb e1 e2 => h.o.box hi hb e1 e2 h3⟩
  rcases mem_set_ix hi ht with rfl | ⟨j, hj, _, rfl⟩
  · intro a b ha hb e
    rcases hat a.block ((blk_at t a.block).2 ⟨a, ha, rfl⟩) with e1 | e1
    · obtain ⟨a', ha', hb'⟩ := (blk_at os[i] a.block).1 e1
      exact h.off _ (List.getElem_mem hi) v hv a' b ha' hb (by rw [hb', e])
    · have h3 := ((h.i.tup v hv).lo b hb).2
      omega
  · exact h.off _ (List.getElem_mem hj) v hv
/-- A number more at the end of a row. -/
theorem Two2.app {w : World} {lo og ig : Nat} {os is : List TV} {i : Nat} (h : Two2 w lo og ig os is) (hi : i < os.length) (hlo : lo ≤ w.heap.size) (x : Int) (hl : os[i].l.length ≤ 5000) :
    ∃ u : TV, ∃ w1, (Builtin.append_ #[25, 25] 25 #[.slice os[i].A os[i].l.length os[i].c, .slice (some ⟨w.heap.size, 0, none⟩) 1 1]).run Try.prog (w.alloc (.cells #[.int .i64 x] 3)) = .ok (.slice u.A u.l.length u.c) w1 ∧ u.l = os[i].l ++ [x] ∧
      (w1.cell? ⟨og, i, none⟩ = some (.slice os[i].A os[i].l.length os[i].c) ∧ w1.frozen? ⟨og, i, none⟩ = false) ∧ Two2 (w1.setCell ⟨og, i, none⟩ (.slice u.A u.l.length u.c)) lo og ig (os.set i u) is ∧ Below lo w (w1.setCell ⟨og, i, none⟩ (.slice u.A u.l.length u.c)) ∧ (∀ {b : Nat} {cs : Array Value} {t : TypeId} {fr : Nat × Nat}, w.heap[b]? = some (.cells cs t fr) → 25 ≠ t → 3 ≠ t → (w1.setCell ⟨og, i, none⟩ (.slice u.A u.l.length u.c)).heap[b]? = some (.cells cs t fr)) ∧ Below w.heap.size w (w.alloc (.cells #[.int .i64 x] 3)) ∧ (∀ {b : Nat} {cs : Array Value} {t : TypeId} {fr : Nat × Nat}, w.heap[b]? = some (.cells cs t fr) → 3 ≠ t → w1.heap[b]? = some (.cells cs t fr)) := by
  have hti := h.o.tup _ (List.getElem_mem hi)
  obtain ⟨u, w1, hrun, hul, hou, hfr, hat, _⟩ := run_appN w lo os[i] [x] hti hlo (by simp; omega)
  have hb1 : Below w.heap.size w (w.alloc (.cells #[.int .i64 x] 3)) := (Below.refl _ _).alloc (Nat.le_refl _) _
  have hf : Fr w w1 os[i].val.ownBlock.toList := (Fr.of_below hb1 _).trans hfr
  have hat' : ∀ b ∈ u.val.ownBlock.toList, b ∈ os[i].val.ownBlock.toList ∨ w.heap.size ≤ b := fun b hb => by
    rcases hat with e | e
    · rw [e] at hb; exact .inl hb
    · rw [e] at hb
      simp at hb
      exact .inr (by omega)
  obtain ⟨h1, h2, h3, h4⟩ := h.put hi hlo hou hf hat'
  exact ⟨u, w1, hrun, hul, h1, h2, h3, h4, hb1, fun hb e => (hf.block _ (heap_lt hb) fun hm => row_neq hti hb e hm).trans hb⟩
end Go.Proofs.Ytgjjdmkoamjdpaa
