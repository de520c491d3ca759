/- Layer 17: read. -/
import Derived.Test.YtiadphgodhfhjabWtE
import Derived.Test.YtiadphgodhfhjabPrsZ
import Derived.StillTailTactics
namespace Go.Proofs.Ytiadphgodhfhjab
open Go.RowKit

/-- Whom edges lead to. -/
def EdR (L : List (Int × Int)) (a b : Nat) : Prop := ((a : Int), (b : Int)) ∈ L
def goodE (L : List (Int × Int)) : Prop := L.length ≤ 256 ∧ ∀ e ∈ L, (1 ≤ e.1 ∧ e.1 ≤ 16) ∧ (1 ≤ e.2 ∧ e.2 ≤ 16)
def noMask : List Nat := List.replicate 17 0
theorem noMask_ok : MkOk noMask := ⟨rfl, fun a => by
  unfold noMask
  rw [List.getD_eq_getElem?_getD, List.getElem?_replicate]
  split <;> simp, fun a b h => absurd h (mk_new 17 a b)⟩
/-- The masks of edges. -/
structure MkE (L : List (Int × Int)) (M : List Nat) : Prop where
  ok : MkOk M
  eq : ∀ a b, MkR M a b ↔ EdR L a b
theorem MkE.nil : MkE [] noMask := ⟨noMask_ok, fun a b => ⟨fun h => absurd h (mk_new 17 a b), fun h => nomatch h⟩⟩
theorem MkE.snoc {L : List (Int × Int)} {M : List Nat} (h : MkE L M) {a b : Nat} (ha : 1 ≤ a ∧ a ≤ 16) (hb : 1 ≤ b ∧ b ≤ 16) : MkE (L ++ [((a : Int), (b : Int))]) (M.set a (M.getD a 0 ||| 2 ^ b)) := by
  have hl : a < M.length := by rw [h.ok.len]; omega
  have key := fun x y => mk_or hl b x y
  refine ⟨⟨by rw [List.length_set]; exact h.ok.len, fun x => ?_, fun x y hxy => ?_⟩, fun x y => ?_⟩
  · rw [List.getD_eq_getElem?_getD, List.getElem?_set]
    by_cases e : a = x
    · rw [if_pos e, if_pos hl]
      exact or_lt hb.2 (h.ok.lt a)
    · rw [if_neg e, ← List.getD_eq_getElem?_getD]; exact h.ok.lt x
  · rcases (key x y).1 hxy with k | ⟨rfl, rfl⟩
    · exact h.ok.ed x y k
    · exact ⟨ha, hb⟩
  · rw [key, h.eq]
    unfold EdR
    rw [List.mem_append, List.mem_singleton, Prod.mk.injEq]
    exact or_congr Iff.rfl ⟨fun e => by rw [e.1, e.2]; exact ⟨rfl, rfl⟩, fun e => ⟨by omega, by omega⟩⟩
theorem maskV_set (M : List Nat) (a m : Nat) : (maskV M).setIfInBounds a (.int .u32 (m : Int)) = maskV (M.set a m) := by
  unfold maskV
  simp [List.map_set]
theorem noMask_cells : maskV noMask = #[.int .u32 0, .int .u32 0, .int .u32 0, .int .u32 0, .int .u32 0, .int .u32 0, .int .u32 0, .int .u32 0, .int .u32 0, .int .u32 0, .int .u32 0, .int .u32 0, .int .u32 0, .int .u32 0, .int .u32 0, .int .u32 0, .int .u32 0] := rfl
/-- What read answers. -/
def RdPost (L : List (Int × Int)) (w : World) (e : Ending) (w' : World) : Prop := ((goodE L ∧ ∃ M, MkE L M ∧ e = .returned (.tuple #[.agg (maskV M), .int .i64 0])) ∨ (¬ goodE L ∧ e = .returned (.tuple #[.agg (maskV noMask), .int .i64 1]))) ∧ Below w.heap.size w w'
theorem mask_cellsOk (M : List Nat) : (maskV M).all (·.oneCell') = true := Array.all_eq_true_iff_forall_mem.2 fun v hv => by
  unfold maskV at hv
  simp at hv
  obtain ⟨m, _, rfl⟩ := hv
  rfl
theorem noMask_built : Try.prog.built 48 [] = some (maskV noMask) := by rw [noMask_cells]; kernel_rfl
theorem row_fr (w : World) (g : Nat) (cs : Array Value) : Fr w (w.setRow g cs) [g] := ⟨rfl, rfl, rfl, by rw [setRow_size]; exact Nat.le_refl _, fun k _ hk => setRow_other w g k cs fun e => hk (List.mem_singleton.2 e)⟩
theorem resRead {w : World} {b : Nat} {cs : Array Value} (h : w.heap[b]? = some (.cells cs 48 (0, 0))) (hs : (Try.prog.info? 48).map (·.size) = some cs.size) (tmps : Array Value) (h2 : tmps.getD 2 undef = .pointer (some ⟨b, 0, none⟩)) :
    (results Try.f22 tmps).run Try.prog w = .ok (.tuple #[.agg cs, tmps.getD 3 undef]) w := by
  have h2' := h2
  simp only [Array.getD_eq_getD_getElem?] at h2'
  simp [results, Try.results22, h2', asAddr, run_loadVar_row w b _ _ cs _ _ h Try.underlying48 rfl hs]
theorem goodE_take {L : List (Int × Int)} (h : goodE L) {k : Nat} (hk : k < L.length) : (1 ≤ L[k].1 ∧ L[k].1 ≤ 16) ∧ (1 ≤ L[k].2 ∧ L[k].2 ≤ 16) := h.2 _ (List.getElem_mem hk)
set_option maxRecDepth 100000 in
set_option maxHeartbeats 4000000 in
theorem read_any (w : World) {A : Option Addr} {c : Nat} {L : List (Int × Int)} (h : PrL w A c L) (hc : L.length ≤ 1000000) :
    Calls Try.prog 22 #[.slice A L.length c] w (RdPost L w) := by
  have hb0 : Below w.heap.size w (w.alloc (.cells (maskV noMask) 48)) := (Below.refl _ _).alloc (Nat.le_refl _) _
  have hg := heap_alloc_new w (.cells (maskV noMask) 48)
  have H0 := Lib.hid (And.intro hb0 hg)
  clear hb0 hg
  by_cases hl : L.length ≤ 256
  · have hlI : (L.length : Int) ≤ 256 := by omega
    have HL := Lib.hid (And.intro h hl)
    have HS := Lib.hid (fun (s : Int) w => isSession_any s w)
    have HBI := Lib.hid (fun (x : Nat) (hx : x ≤ 16) w => bit_any x w hx)
    clear h hl hc
    go_enter Try.func22, Try.ntmps22
    go_upto_region 1 with (fail)
    rw [← noMask_cells]
    have hz := H0.out.1.size
    have hz1 : (w.alloc (.cells (maskV noMask) 48)).heap.size = w.heap.size + 1 := alloc1_size _ _
    have HZ := Lib.hid hz1
    clear hz hz1
    generalize w.alloc (.cells (maskV noMask) 48) = W0 at H0 HZ ⊢
    go_upto_region 4 with (fail)
    rw [← noMask_cells, HZ.out]
    have hb1 : Below W0.heap.size W0 (W0.alloc (.cells (maskV noMask) 48)) := (Below.refl _ _).alloc (Nat.le_refl _) _
    have hg1 := heap_alloc_new W0 (.cells (maskV noMask) 48)
    rw [HZ.out] at hg1
    have H1 := Lib.hid (And.intro (H0.out.1.trans (lower' hb1 (by rw [HZ.out]; omega))) (And.intro hg1 ((hb1.block _ (heap_lt H0.out.2)).trans H0.out.2)))
    clear hb1 hg1
    generalize W0.alloc (.cells (maskV noMask) 48) = W1 at H1 ⊢
    clear H0 HZ
    go_wp2_with (fail)
    go_loopg [13] 300 (fun gk v13 wr => ∃ (k : Nat) (M : List Nat), k ≤ L.length ∧ k + gk = 300 ∧ v13 = .int .i64 (k : Int) ∧ Hid (goodE (L.take k) ∧ MkE (L.take k) M ∧ Below w.heap.size w wr ∧ wr.heap[w.heap.size + 1]? = some (.cells (maskV M) 48 (0, 0)) ∧ wr.heap[w.heap.size]? = some (.cells (maskV noMask) 48 (0, 0))))
    case atStart => exact ⟨0, noMask, by omega, by omega, rfl, Lib.hid ⟨⟨by simp, fun _ h => nomatch h⟩, MkE.nil, H1.out⟩⟩
    case round =>
      clear H1
      obtain ⟨k, M, hk, hkg, rfl, hrel⟩ := hrel
      by_cases hlt : k < L.length
      · have hlI2 : (k : Int) < (L.length : Int) := by omega
        obtain ⟨ab, ao, rfl, hab, q0, q1⟩ := (HL.out.1.below hrel.out.2.2.1).cell hlt
        obtain ⟨⟨e0, e1⟩, he⟩ : ∃ e, e = L[k] := ⟨_, rfl⟩
        rw [← he] at q0 q1
        dsimp only at q0 q1
        have htk : L.take (k + 1) = L.take k ++ [(e0, e1)] := by rw [List.take_succ_eq_append_getElem hlt, he]
        have HK := Lib.hid (And.intro hlt (And.intro hkg (And.intro (show L[k]? = some (e0, e1) from by rw [List.getElem?_eq_getElem hlt, he]) htk)))
        have hb2 : Below wr.heap.size wr (wr.alloc (.cells #[.int .i64 e0, .int .i64 e1] 30)) := (Below.refl _ _).alloc (Nat.le_refl _) _
        have hg2 := heap_alloc_new wr (.cells #[.int .i64 e0, .int .i64 e1] 30)
        have H2 := Lib.hid (And.intro hb2 hg2)
        clear hkg hlt he htk hb2 hg2 hk hab
        go_upto_region 7 with (fail)
        generalize wr.alloc (.cells #[.int .i64 e0, .int .i64 e1] 30) = W2 at H2 ⊢
        clear q0 q1
        have z0 := cell_of_row W2 wr.heap.size 0 _ _ _ H2.out.2
        have z1 := cell_of_row W2 wr.heap.size 1 _ _ _ H2.out.2
        by_cases hg : (1 ≤ e0 ∧ e0 ≤ 16) ∧ (1 ≤ e1 ∧ e1 ≤ 16)
        · have c0 := fun w => HS.out e0 w
          have c1 := fun w => HS.out e1 w
          rw [decide_eq_true hg.1] at c0
          rw [decide_eq_true hg.2] at c1
          have HC := Lib.hid (And.intro c0 c1)
          clear c0 c1
          obtain ⟨a, rfl⟩ : ∃ a : Nat, e0 = (a : Int) := ⟨e0.toNat, by omega⟩
          obtain ⟨b, rfl⟩ : ∃ b : Nat, e1 = (b : Int) := ⟨e1.toNat, by omega⟩
          have ha16 : (a : Int) ≤ 16 := hg.1.2
          have HG := Lib.hid hg
          clear hg
          go_upto_region 9 with (first
            | (go_at_call 25; (with_reducible refine (HC.out.1 _).mono ?_); rintro e w2 ⟨rfl, rfl⟩)
            | (go_at_call 25; (with_reducible refine (HC.out.2 _).mono ?_); rintro e w2 ⟨rfl, rfl⟩))
          have hbx2 := (H2.out.1.block _ (heap_lt hrel.out.2.2.2.1)).trans hrel.out.2.2.2.1
          have hmc := mask_cell hbx2 (k := a) (by rw [hrel.out.2.1.ok.len]; have := HG.out; omega)
          have hfz := frozen_of_row _ _ a _ _ hbx2
          have hml := hrel.out.2.1.ok.lt a
          have hor : bits BinOp.or IntKind.u32 ((M.getD a 0 : Nat) : Int) (pw b : Int) = ((M.getD a 0 ||| 2 ^ b : Nat) : Int) := or_bits (by have := HG.out; omega) hml
          have hbi := fun W => HBI.out b (by have := HG.out; omega) W
          have HBI2 := Lib.hid (And.intro hbi hbx2)
          have HSN := Lib.hid (hrel.out.2.1.snoc (a := a) (b := b) (by have := HG.out; omega) (by have := HG.out; omega))
          obtain ⟨m', hm'⟩ : ∃ m', m' = M.getD a 0 ||| 2 ^ b := ⟨_, rfl⟩
          rw [← hm'] at HSN hor
          generalize M.getD a 0 = m at hmc hor hml
          have ha17 : (a : Int) < 17 := by have := HG.out; omega
          clear hm' hml hbi hbx2
          refine wp_region_still_tail 9 (by kernel_rfl) (by kernel_rfl) ?_
          simp only [List.take_succ_cons, List.take_zero, List.drop_succ_cons, List.drop_zero]
          repeat still_step
          still_call (HBI2.out.1 _)
          repeat still_step
          refine wpStill_nil ?_
          change wpList _ _ _ _ _ w2.drew
          go_wp2_with (fail)
          have hset := heap_setCell_same w2 (w.heap.size + 1) a _ _ (.int .u32 (m' : Int)) HBI2.out.2
          rw [maskV_set] at hset
          have hfr : Fr w2 (w2.setCell ⟨w.heap.size + 1, a, none⟩ (.int .u32 (m' : Int))).drew [w.heap.size + 1] := ((Fr.refl w2 _).setCell (by simp) _).drew
          have hbw := hrel.out.2.2.1.trans (lower' H2.out.1 hrel.out.2.2.1.size)
          have HN := Lib.hid (And.intro hset (And.intro (hbw.trans (hfr.below hbw.size fun x hx => by rw [List.mem_singleton.1 hx]; omega)) ((hfr.block _ (Nat.lt_of_lt_of_le (heap_lt hrel.out.2.2.2.2) H2.out.1.size) (by simp)).trans ((H2.out.1.block _ (heap_lt hrel.out.2.2.2.2)).trans hrel.out.2.2.2.2))))
          clear hset hfr hbw
          go_roundg (gk - 1)
          case rel => exact ⟨k + 1, M.set a m', HK.out.1, by have := HK.out.2.1; omega, by go_num, Lib.hid ⟨by
            rw [HK.out.2.2.2]
            refine ⟨by rw [← HK.out.2.2.2]; have := List.length_take_le (k + 1) L; have := HL.out.2; omega, fun e he => ?_⟩
            rcases List.mem_append.1 he with he | he
            · exact hrel.out.1.2 e he
            · rw [List.mem_singleton.1 he]; exact HG.out, by rw [HK.out.2.2.2]; exact HSN.out, HN.out.2.1, HN.out.1, HN.out.2.2⟩⟩
          case measure => have := HK.out.2.1; have := HK.out.1; have := HL.out.2; omega
        · have hbad : ¬ goodE L := fun h => hg (h.2 (e0, e1) (List.mem_of_getElem? HK.out.2.2.1))
          have hbw := hrel.out.2.2.1.trans (lower' H2.out.1 hrel.out.2.2.1.size)
          have HE := Lib.hid (And.intro hbad (And.intro hbw ((H2.out.1.block _ (heap_lt hrel.out.2.2.2.2)).trans hrel.out.2.2.2.2)))
          clear hbad hbw
          have fin : ∀ tmps : Array Value, tmps.getD 2 undef = .pointer (some ⟨w.heap.size, 0, none⟩) → tmps.getD 3 undef = .int .i64 1 → bodyPost Try.prog Try.f22 (RdPost L w) Exit.ret { tmps := tmps, defers := [] } (W2.setRow w.heap.size (maskV noMask)) := fun tmps h2 h3 => bodyPost_ret (v := .tuple #[.agg (maskV noMask), .int .i64 1]) (by rw [← h3]; exact resRead (setRow_heap _ _ _ _ _ _ HE.out.2.2) (mask_size noMask_ok) tmps h2) rfl ⟨.inr ⟨HE.out.1, rfl⟩, (HE.out.2.1.trans ((row_fr _ _ _).below HE.out.2.1.size fun x hx => by rw [List.mem_singleton.1 hx]; exact Nat.le_refl _))⟩
          have HF := Lib.hid fin
          clear fin
          by_cases h0 : 1 ≤ e0 ∧ e0 ≤ 16
          · have h1 : ¬ (1 ≤ e1 ∧ e1 ≤ 16) := fun h => hg ⟨h0, h⟩
            have c0 := fun w => HS.out e0 w
            have c1 := fun w => HS.out e1 w
            rw [decide_eq_true h0] at c0
            rw [decide_eq_false h1] at c1
            have HC := Lib.hid (And.intro c0 c1)
            clear c0 c1 hg h0 h1
            go_wp2_with (first
              | (go_at_call 25; (with_reducible refine (HC.out.1 _).mono ?_); rintro e w2 ⟨rfl, h2⟩; subst h2)
              | (go_at_call 25; (with_reducible refine (HC.out.2 _).mono ?_); rintro e w2 ⟨rfl, h2⟩; subst h2)
              | (refine wpList_build rfl 48 #[] rfl (by rfl) ?_)
              | (refine wpList_store_row rfl 48 (.tmp 2) (.tmp 27) rfl w.heap.size (maskV noMask) rfl rfl _ _ HE.out.2.2 (mask_size noMask_ok) rfl (mask_cellsOk _) ?_))
            exact HF.out _ rfl rfl
          · have c0 := fun w => HS.out e0 w
            rw [decide_eq_false h0] at c0
            have HC := Lib.hid c0
            clear c0 hg h0
            go_wp2_with (first
              | (go_at_call 25; (with_reducible refine (HC.out _).mono ?_); rintro e w2 ⟨rfl, h2⟩; subst h2)
              | (refine wpList_build rfl 48 #[] rfl (by rfl) ?_)
              | (refine wpList_store_row rfl 48 (.tmp 2) (.tmp 27) rfl w.heap.size (maskV noMask) rfl rfl _ _ HE.out.2.2 (mask_size noMask_ok) rfl (mask_cellsOk _) ?_))
            exact HF.out _ rfl rfl
      · have hk2 : k = L.length := by omega
        subst hk2
        rw [List.take_length] at hrel
        have hz : ¬ (L.length : Int) < (L.length : Int) := by omega
        go_wp2_with (first
          | (refine wpList_load_row rfl 48 (.tmp 4) rfl (w.heap.size + 1) rfl _ _ _ _ hrel.out.2.2.2.1 Try.underlying48 rfl (mask_size hrel.out.2.1.ok) ?_)
          | (refine wpList_store_row rfl 48 (.tmp 2) (.tmp 38) rfl w.heap.size (maskV M) rfl rfl _ _ hrel.out.2.2.2.2 (mask_size hrel.out.2.1.ok) (by simp [maskV, noMask, hrel.out.2.1.ok.len]) (mask_cellsOk _) ?_))
        refine bodyPost_ret (v := .tuple #[.agg (maskV M), .int .i64 0]) (resRead (setRow_heap _ _ _ _ _ _ hrel.out.2.2.2.2) (mask_size hrel.out.2.1.ok) _ rfl) rfl ⟨.inl ⟨hrel.out.1, M, hrel.out.2.1, rfl⟩, (hrel.out.2.2.1.trans ((row_fr _ _ _).below hrel.out.2.2.1.size fun x hx => by rw [List.mem_singleton.1 hx]; exact Nat.le_refl _))⟩
  · have hlI : (256 : Int) < (L.length : Int) := by omega
    have HL := Lib.hid (And.intro h hl)
    clear h hl
    go_enter Try.func22, Try.ntmps22
    go_upto_region 1 with (fail)
    rw [← noMask_cells]
    generalize w.alloc (.cells (maskV noMask) 48) = W0 at H0 ⊢
    go_wp2_with (first
      | (refine wpList_build rfl 48 #[] rfl (by rfl) ?_)
      | (refine wpList_store_row rfl 48 (.tmp 2) (.tmp 10) rfl w.heap.size (maskV noMask) rfl rfl _ _ H0.out.2 (mask_size noMask_ok) rfl (mask_cellsOk _) ?_))
    refine bodyPost_ret (v := .tuple #[.agg (maskV noMask), .int .i64 1]) (resRead (setRow_heap _ _ _ _ _ _ H0.out.2) (mask_size noMask_ok) _ rfl) rfl ⟨.inr ⟨fun h => HL.out.2 h.1, rfl⟩, (H0.out.1.trans ((row_fr _ _ _).below H0.out.1.size fun x hx => by rw [List.mem_singleton.1 hx]; exact Nat.le_refl _))⟩
end Go.Proofs.Ytiadphgodhfhjab
