/- Joined: DskH DskI DskJ DskK DskL DskM. -/
import Derived.Test.YtajakmfloeefpaaJnA
import Derived.Test.YtajakmfloeefpaaShelf
import Derived.Laws.CopyOwn
import Derived.Lib.SlKeysI
/- A disk's Unsure. -/
namespace Go.Proofs.Ytajakmfloeefpaa
open Go.RowKit Go.Maps Go.Sort Go.Shelf Go.Proofs

/-- slices.Sort's two contracts at this dump, at the fence that asks nothing. -/
theorem sortsA (m : Nat) : AnyZI.SortsIn Try.prog Try.sortedA_ren Fence.wide m :=
  ⟨fun blk off cap ss W hH hblk hsz => callsIn_wide.2 (AnyM.slices_Sort_int Try.sortA blk off cap ss W hH hblk hsz),
   fun p cap W => callsIn_wide.2 (AnyM.slices_Sort_int_none Try.sortA p cap W)⟩

set_option maxHeartbeats 1000000 in
set_option maxRecDepth 100000 in
theorem unsure_any (p bs bw T : Nat) (D : DK) (w : World) (h : DiskAt w p bs bw D T) (hT : T ≤ 1000000000) :
    Calls Try.prog 47 #[.pointer (some ⟨p, 0, none⟩)] w fun e w' => ∃ (v : Value) (ss : List Int), e = .returned v ∧ ss.Perm (intKeys D.wr) ∧
      w'.ownsRow w.heap.size 3 1 v ss.length ((ss.mergeSort (fun x y => decide (x ≤ y))).map encZ) ∧ (v = .slice none 0 0 ↔ ss = []) ∧ Below w.heap.size w w' := by
  obtain ⟨hg, hne, ns, nw, h2, hown, h4⟩ := h
  unfold DK.cells at hg
  have a2 := cell_of_row w p 2 _ _ _ hg
  have hsz := hown.size_le
  have hml : (1000000000 : Nat) ≤ maxLen := by decide
  have hmax : Maps.size D.wr ≤ maxLen := by omega
  have hbytes : Maps.size D.wr * 8 ≤ 140737488355328 := by omega
  refine (callsIn_wide (n := 6)).1 ?_
  have hbl := hown.lt
  have hseq : SeqGives Fence.wide 2 Try.prog 66 #[.pointer (some ⟨w.heap.size, 0, none⟩)] encZ (fun ss => ss.Perm (intKeys D.wr)) (Maps.size D.wr) (w.alloc (.cells #[.map (some bw)] 64)) :=
    AnyZI.keys_gives (ρ := Try.keysA_ren) { Try.keysA with } Fence.wide _ trivial rfl (by omega) w.heap.size bw nw D.wr _ (by simp) (by simp) (by
      obtain ⟨es, clock, hb, Ft, hs, hD⟩ := hown
      exact ⟨es, clock, (Below.heap_alloc _ _ bw hbl).trans hb, Ft, hs, hD⟩)
  have cK : ∀ mb W, CallsIn Fence.wide 5 Try.prog 62 #[.map mb] W fun e w' => e = .returned (.func (.func 66) #[] #[.pointer (some ⟨W.heap.size, 0, none⟩)]) ∧ w' = W.alloc (.cells #[.map mb] 64) := fun mb W => AnyZI.keys_in Try.keysA Fence.wide 5 trivial rfl mb W
  have cS := AnyZI.sorted_in Try.sortedA Fence.wide 5 trivial trivial trivial trivial rfl (by omega) (sortsA _) (enters_of Try.func65 (by kernel_rfl) rfl) 66 #[.pointer (some ⟨w.heap.size, 0, none⟩)] trivial (enters_of Try.func66 (by kernel_rfl) rfl) _ _ hmax hbytes _ hseq
  change CallsIn _ _ Try.prog 61 _ _ _ at cS
  have hfK : Fence.wide.fn 62 := trivial
  have hfS : Fence.wide.fn 61 := trivial
  clear hown h2 h4 hmax hbytes hml hsz hseq hg hne
  refine callsIn_of_wp Try.func47 rfl trivial ?_ rfl
  simp only [Try.ntmps47, List.size_toArray, List.length_cons, List.length_nil, Nat.reduceAdd, Nat.reduceSub, Array.replicate_succ, Array.replicate_zero, List.push_toArray, List.append_toArray, List.nil_append, List.cons_append]
  gi_wp2_with (first
    | (gi_at_call 62; refine (cK _ _).mono ?_; rintro e w' ⟨rfl, rfl⟩)
    | (gi_at_call 61; refine cS.mono ?_; rintro e w' ⟨v, ss, rfl, hS, hrow, hnil, hb⟩))
  go_ret
  exact ⟨v, ss, rfl, hS, ownsRow_base_a hrow (by simp), hnil, ((Below.refl _ w).alloc (Nat.le_refl _) _).trans (hb.mono (by simp))⟩
end Go.Proofs.Ytajakmfloeefpaa
/- tear: the first bytes of a sector over another. -/
namespace Go.Proofs.Ytajakmfloeefpaa
open Go.RowKit Go.Maps

/-- So many bytes are written. -/
def cutN (c : Int) : Nat := (min (max c 0) 64).toNat
def tearL (ls lw : List UInt8) (c : Int) : List UInt8 := lw.take (cutN c) ++ ls.drop (cutN c)
theorem cutN_le (c : Int) : cutN c ≤ 64 := by unfold cutN; omega
theorem tearL_len (ls lw : List UInt8) (c : Int) (h1 : ls.length = 64) (h2 : lw.length = 64) : (tearL ls lw c).length = 64 := by
  have := cutN_le c
  simp [tearL, h1, h2]; omega
theorem tear_cells (ls lw : List UInt8) (c : Int) (h2 : lw.length = 64) :
    ((u8s ls).toArray.toList.take 0 ++ ((u8s (lw.take (cutN c))) ++ (u8s ls).toArray.toList.drop (0 + (u8s (lw.take (cutN c))).length))) = u8s (tearL ls lw c) := by
  have h := cutN_le c
  have e : (u8s (lw.take (cutN c))).length = cutN c := by rw [u8s_len]; simp [h2]; omega
  rw [e]
  simp [tearL, u8s_append, u8s_drop]

/-- The first cells of a sector. -/
theorem slice_sec (b n : Nat) (hn : n ≤ 64) (w : World) :
    (Instr.sliceAt 87 (.pointer (some ⟨b, 0, none⟩)) none (some (.int .i64 (n : Int))) none).run Try.prog w = .ok (.slice (some ⟨b, 0, none⟩) n 64) w := by
  have hu := run_underlying Try.underlying87 w
  have h2 : ((n : Int)).toNat = n := by omega
  unfold Instr.sliceAt
  rw [Sem.run_bind, hu]
  simp [go_sem, h2]
  intro h
  omega
/-- A cut in a region that draws, by its run. -/
theorem wpStill_slice {P : Program} {ops : Array Oper} {w : World} {Q : Act → Prop} {a : Act} {o : Oper} {rest : List Oper} (ty : TypeId) (x y : Operand) (ho : o.op = .slice ty x none (some y) none) (pv yv v : Value) (hx : a.eval x = pv) (hy : a.eval y = yv) (hr : (Instr.sliceAt ty pv none (some yv) none).run P w = .ok v w) (hw : Region.wanted o (yielded ops a.tmps) = true) (h : wpStill P ops w Q rest (a.put o.dst v)) : wpStill P ops w Q (o :: rest) a := by
  refine wpStill_step fun K hK => ?_
  rw [if_pos hw]
  unfold Oper.still execOp
  simp only [ho, hx, hy, Option.map_some, Option.map_none, Sem.run_bind, hr, Result.andThen_ok, Sem.run_pure, Oper.stillUpon_value]
  exact hK _ h

theorem resTear {w : World} {b : Nat} {l : List UInt8} (hl : l.length = 64) (h : w.rangeAt b 0 (u8s l)) (tmps : Array Value) (h2 : tmps.getD 6 undef = .pointer (some ⟨b, 0, none⟩)) :
    (results Try.f48 tmps).run Try.prog w = .ok (.agg (u8s l).toArray) w := by
  have h2' := h2
  simp only [Array.getD_eq_getD_getElem?] at h2'
  have hld := run_loadVar_mid w b 0 87 (u8s l) _ h Try.underlying87 rfl (by rw [u8s_len, hl]; exact size_sec)
  simp [results, Try.results48, asAddr, h2', hld]

theorem three_blocks (w : World) (A B C : Obj) : (((w.alloc A).alloc B).alloc C).heap[w.heap.size]? = some A ∧ (((w.alloc A).alloc B).alloc C).heap[w.heap.size + 1]? = some B ∧ (((w.alloc A).alloc B).alloc C).heap[w.heap.size + 2]? = some C ∧ Below w.heap.size w (((w.alloc A).alloc B).alloc C) := by
  refine ⟨?_, ?_, ?_, (((Below.refl _ w).alloc (Nat.le_refl _) _).alloc (by simp) _).alloc (by simp; omega) _⟩
  · rw [Below.heap_alloc _ _ _ (by simp; omega), Below.heap_alloc _ _ _ (by simp)]
    exact heap_alloc_last w A
  · rw [Below.heap_alloc _ _ _ (by simp)]
    have := heap_alloc_last (w.alloc A) B
    simpa using this
  · have := heap_alloc_last ((w.alloc A).alloc B) C
    simpa using this
theorem Below.setCells {B : Nat} {a : World} (b : Nat) (hb : B ≤ b) : ∀ (vs : List Value) (o : Nat) (v : World), Below B a v → Below B a (v.setCells b o vs)
  | [], _, _, h => h
  | v :: vs, o, _, h => Below.setCells b hb vs (o + 1) _ (h.setCell (p := ⟨b, o, none⟩) hb v)
theorem there_of_row {w : World} {b n : Nat} {cs : Array Value} {t : TypeId} (h : w.heap[b]? = some (.cells cs t (0, 0))) (hn : n ≤ cs.size) : w.there b 0 n := fun j hj => by
  refine ⟨?_, frozen_of_row _ _ _ _ _ h⟩
  rw [cell_of_row _ _ (0 + j) _ _ _ h]
  simp
  omega
theorem range_of_row {w : World} {b : Nat} {cs : List Value} {t : TypeId} {fr : Nat × Nat} (h : w.heap[b]? = some (.cells cs.toArray t fr)) : w.rangeAt b 0 cs := fun j v hv => by
  rw [cell_of_row _ _ (0 + j) _ _ _ h]
  simpa using hv

/-- The world behind a tear. -/
def tearW (w : World) (ls lw : List UInt8) (c : Int) : World :=
  ((((w.alloc (.cells (u8s ls).toArray 87)).alloc (.cells (u8s lw).toArray 87)).alloc (.cells (u8s zero64).toArray 87)).drew.setRow w.heap.size (u8s (tearL ls lw c)).toArray).setCells (w.heap.size + 2) 0 (u8s (tearL ls lw c)).toArray.toList
theorem tearW_below (w : World) (ls lw : List UInt8) (c : Int) : Below w.heap.size w (tearW w ls lw c) :=
  Below.setCells _ (by omega) _ 0 _ (below_setRow (three_blocks w _ _ _).2.2.2.drew (Nat.le_refl _) _)

set_option maxRecDepth 100000 in
set_option maxHeartbeats 1000000 in
theorem tear_any (ls lw : List UInt8) (c : Int) (w : World) (h1 : ls.length = 64) (h2 : lw.length = 64) :
    Calls Try.prog 48 #[.agg (u8s ls).toArray, .agg (u8s lw).toArray, .int .i64 c] w fun e w' => e = .returned (.agg (u8s (tearL ls lw c)).toArray) ∧ w' = tearW w ls lw c := by
  have hze := zero_sec
  have hu : ∀ w : World, (underlying 87).run Try.prog w = _ := run_underlying Try.underlying87
  have hze := zero_sec
  go_enter Try.func48, Try.ntmps48
  go_wp2
  have hn : min (max c 0) 64 = ((cutN c : Nat) : Int) := by unfold cutN; omega
  rw [hn]
  have hle := cutN_le c
  have H1 := Lib.hid h1
  have H2 := Lib.hid h2
  clear hn h1 h2
  generalize hW : (((w.alloc (Obj.cells (u8s ls).toArray 87)).alloc (Obj.cells (u8s lw).toArray 87)).alloc (Obj.cells (u8s zero64).toArray 87)) = W
  have HW := Lib.hid hW
  clear hW
  go_still_tail 4, (by kernel_rfl)
  refine wpStill_slice _ _ _ rfl _ _ _ rfl rfl (slice_sec w.heap.size (cutN c) hle _) (by kernel_rfl) ?_
  still_step
  refine wpStill_slice _ _ _ rfl _ _ _ rfl rfl (slice_sec (w.heap.size + 1) (cutN c) hle _) (by kernel_rfl) ?_
  refine wpStill_nil ?_
  change wpList _ _ _ _ _ W.drew
  obtain ⟨b0, b1, b2, hB⟩ := three_blocks w (.cells (u8s ls).toArray 87) (.cells (u8s lw).toArray 87) (.cells (u8s zero64).toArray 87)
  rw [HW.out] at b0 b1 b2 hB
  have hg0 : W.drew.heap[w.heap.size]? = some (.cells (u8s ls).toArray 87 (0, 0)) := b0
  have hg1 : W.drew.heap[w.heap.size + 1]? = some (.cells (u8s lw).toArray 87 (0, 0)) := b1
  have hg2 : W.drew.heap[w.heap.size + 2]? = some (.cells (u8s zero64).toArray 87 (0, 0)) := b2
  have h2 := H2.out
  have hcs : (u8s (lw.take (cutN c))).length = cutN c := by rw [u8s_len]; simp [h2]; omega
  refine wpList_copy_own rfl _ _ _ _ rfl 5 Try.underlying45 (by kernel_rfl) w.heap.size 0 _ _ ⟨w.heap.size + 1, 0, none⟩ _ _ rfl rfl (u8s ls).toArray _ hg0 (u8s (lw.take (cutN c))) (by rw [hcs]; simp) (fun j v hv => ?_) (by rw [hcs]; simp [u8s_len, H1.out]; exact hle) (u8s_one _) ?_
  · rw [Addr.add_mid, cell_of_row _ _ _ _ _ _ hg1]
    rw [u8s_take, List.getElem?_take] at hv
    split at hv
    · simpa using hv
    · cases hv
  rw [tear_cells ls lw c h2]
  have hT := tearL_len ls lw c H1.out h2
  have e0 := setRow_heap W.drew w.heap.size _ (u8s (tearL ls lw c)).toArray _ _ hg0
  have e2 := (setRow_other W.drew w.heap.size (w.heap.size + 2) (u8s (tearL ls lw c)).toArray (by omega)).trans hg2
  generalize hW2 : W.drew.setRow w.heap.size (u8s (tearL ls lw c)).toArray = W2 at e0 e2 ⊢
  have r0 := range_of_row e0
  have t2 := there_of_row (n := (u8s (tearL ls lw c)).toArray.size) e2 (by simp [u8s_len, hT, zero64_len])
  have t2' : W2.there (w.heap.size + 2) 0 (u8s (tearL ls lw c)).toArray.toList.length := t2
  have hrs := World.rangeAt_setCells_same W2 (w.heap.size + 2) 0 _ t2'
  have hB3 : W2.setCells (w.heap.size + 2) 0 (u8s (tearL ls lw c)).toArray.toList = tearW w ls lw c := by unfold tearW; rw [HW.out, hW2]
  have hsz : (Try.prog.info? 87).map (·.size) = some (u8s (tearL ls lw c)).length := by rw [u8s_len, hT]; exact size_sec
  have HE := Lib.hid (And.intro hT (And.intro hrs hB3))
  clear hrs hB3 hW2 e0 e2 hT h2 hcs b0 b1 b2 hB hg0 hg1 hg2 hle hze hu
  go_wp2_with (first
    | (refine wpList_load_mid rfl 87 (.tmp 3) rfl w.heap.size 0 rfl (u8s (tearL ls lw c)) _ r0 Try.underlying87 rfl hsz ?_)
    | (refine wpList_store_mid rfl 87 (.tmp 6) (.tmp 15) rfl (w.heap.size + 2) 0 (u8s (tearL ls lw c)).toArray rfl rfl t2 hsz (one_u8s _) ?_)
    | go_in)
  exact bodyPost_ret (resTear HE.out.1 HE.out.2.1 _ rfl) rfl ⟨rfl, HE.out.2.2⟩
end Go.Proofs.Ytajakmfloeefpaa
/- Unsure, in order; what a crash leaves. -/
namespace Go.Proofs.Ytajakmfloeefpaa
open Go.RowKit Go.Maps Go.Sort Go.Shelf Go.Proofs

/-- The keys of a map, in order. -/
def KeysAre (X : DataW Unit) (F : List Int) : Prop := F.Pairwise (· < ·) ∧ ∀ x, x ∈ F ↔ Maps.has X (kz x) = true

theorem KeysAre.sorted {X : DataW Unit} {F : List Int} (h : KeysAre X F) : F.mergeSort leI = F := by
  refine List.mergeSort_of_pairwise (h.1.imp fun {a b} hab => ?_)
  simp only [leI, decide_eq_true_eq]; omega
theorem KeysAre.nodup {X : DataW Unit} {F : List Int} (h : KeysAre X F) : F.Nodup := h.1.imp fun {a b} hab e => by omega
theorem KeysAre.perm {w : World} {b n : Nat} {X : DataW Unit} {F : List Int} (h : KeysAre X F) (hown : w.ownsMap Try.prog 3 secR b n X) : F.Perm (intKeys X) := by
  obtain ⟨es, hD, hpw, _⟩ := hown.entries keyZ
  obtain ⟨es', hD', hko⟩ := hown.keysOf
  obtain rfl : es = es' := by rw [hD] at hD'; simpa using hD'
  subst hD
  exact perm_intKeys hpw (fun p hp => by obtain ⟨v, hv⟩ := hko p hp; obtain ⟨x, _, hx, _⟩ := Maps.keyOf_i64 Try.underlying3 hv; exact ⟨x, hx⟩) h.nodup h.2
theorem KeysAre.bound {w : World} {b n : Nat} {X : DataW Unit} {F : List Int} (h : KeysAre X F) (hown : w.ownsMap Try.prog 3 secR b n X) : ∀ x ∈ F, -9223372036854775808 ≤ x ∧ x ≤ 9223372036854775807 := fun x hx => by
  have hw := intKeys_wf hown Try.underlying3 x ((h.perm hown).mem_iff.1 hx)
  have b1 : IntKind.i64.min = -9223372036854775808 := by decide +kernel
  have b2 : IntKind.i64.max = 9223372036854775807 := by decide +kernel
  simp [Lit.wf] at hw
  omega
theorem KeysAre.length {w : World} {b n : Nat} {X : DataW Unit} {F : List Int} (h : KeysAre X F) (hown : w.ownsMap Try.prog 3 secR b n X) : F.length ≤ n := by
  have h1 := (h.perm hown).length_eq
  have h2 := hown.size_le
  obtain ⟨es, hD, _⟩ := hown.entries keyZ
  subst hD
  rw [h1]
  simpa [intKeys, Maps.size] using h2

theorem unsure_list (p bs bw T : Nat) (D : DK) (F : List Int) (w : World) (h : DiskAt w p bs bw D T) (hT : T ≤ 1000000000) (hF : KeysAre D.wr F) :
    Calls Try.prog 47 #[.pointer (some ⟨p, 0, none⟩)] w fun e w' => ∃ v, e = .returned v ∧ w'.ownsRow w.heap.size 3 1 v F.length (F.map encZ) ∧ Below w.heap.size w w' := by
  have hp := hF.perm h.2.2.choose_spec.choose_spec.2.1
  refine (unsure_any p bs bw T D w h hT).mono ?_
  rintro e w' ⟨v, ss, rfl, hss, hrow, _, hb⟩
  refine ⟨v, rfl, ?_, hb⟩
  have e1 : ss.mergeSort leI = F := by rw [mergeSort_of_perm_i (hss.trans hp.symm), hF.sorted]
  have e2 : ss.length = F.length := (hss.trans hp.symm).length_eq
  rw [← e2]
  have hrow' := hrow
  change w'.ownsRow _ _ _ _ _ ((ss.mergeSort leI).map encZ) at hrow'
  rw [e1] at hrow'
  exact hrow'

/-- A torn sector. -/
def tearD : DataW Unit → DataW Unit → Int → DataW Unit
  | .lit (.string a), .lit (.string b), c => .lit (.string (tearL a b c))
  | x, _, _ => x
/-- The unsure sector i, the k-th, in a crash. -/
def crashStep (keep : List Bool) (torn cut : Int) (D : DK) (k : Nat) (i : Int) (S : DataW Unit) : DataW Unit :=
  if keep[k]? = some true then S.put (kz i) (D.wr.atKey (kz i) zlit) else if (k : Int) = torn then S.put (kz i) (tearD (D.sure.atKey (kz i) zlit) (D.wr.atKey (kz i) zlit) cut) else S
def crashL (keep : List Bool) (torn cut : Int) (D : DK) : List Int → Nat → DataW Unit → DataW Unit
  | [], _, S => S
  | i :: r, k, S => crashL keep torn cut D r (k + 1) (crashStep keep torn cut D k i S)
theorem crashL_step (keep : List Bool) (torn cut : Int) (D : DK) (F : List Int) (k : Nat) (S : DataW Unit) (hk : k < F.length) :
    crashL keep torn cut D (F.drop k) k S = crashL keep torn cut D (F.drop (k + 1)) (k + 1) (crashStep keep torn cut D k F[k] S) := by
  rw [List.drop_eq_getElem_cons hk]; rfl
def DK.crashed (D : DK) (keep : List Bool) (torn cut : Int) (F : List Int) : DK := ⟨D.size, crashL keep torn cut D F 0 D.sure, .map [], 0, false, 0⟩
end Go.Proofs.Ytajakmfloeefpaa
/- A disk's Crash. -/
namespace Go.Proofs.Ytajakmfloeefpaa
open Go.RowKit Go.Maps Go.Sort Go.Shelf Go.Proofs

theorem clone_any (b n : Nat) (D : DataW Unit) (w : World) (h : w.ownsMap Try.prog 3 secR b n D) :
    Calls Try.prog 46 #[.map (some b)] w fun e w' => e = .returned (.map (some w.heap.size)) ∧ w'.ownsMap Try.prog 3 secR w.heap.size n D ∧ w'.ownsMap Try.prog 3 secR b n D ∧ Below w.heap.size w w' :=
  AnyW.maps_Clone_owns Try.cloneA 3 secR b n D w h

/-- A row of ints that a call made. -/
theorem row_form {w : World} {base : Nat} {e : TypeId} {v : Value} {F : List Int} (h : w.ownsRow base e 1 v F.length (F.map encZ)) :
    ∃ A c, v = .slice A F.length c ∧ (∀ k (hk : k < F.length), ∃ g o, A = some ⟨g, o, none⟩ ∧ base ≤ g ∧ g < w.heap.size ∧ w.cell? ⟨g, o + k, none⟩ = some (.int .i64 F[k])) := by
  rcases h.2 with ⟨rfl, h0⟩ | ⟨g, cap, cur, rfl, hb, hg, hle, hm, hsz, htk⟩
  · exact ⟨none, 0, by rw [h0], fun k hk => by omega⟩
  · refine ⟨some ⟨g, 0, none⟩, cap, rfl, fun k hk => ⟨g, 0, rfl, hb, (Array.getElem?_eq_some_iff.1 hg).1, ?_⟩⟩
    rw [cell_of_row _ _ _ _ _ _ hg]
    have h1 : (cur.toList.take (F.length * 1))[k]? = some (.int .i64 F[k]) := by rw [htk]; simp [hk]
    rw [List.getElem?_take] at h1
    simp only [Nat.mul_one, hk, if_true] at h1
    simpa using h1

/-- What a round of a crash meets. -/
theorem round_facts {p bs bw T : Nat} {D : DK} {wr : World} (h : DiskAt wr p bs bw D T) (i : Int) (h0 : -9223372036854775808 ≤ i) (h1 : i ≤ 9223372036854775807) :
    ∃ ls lw : List UInt8, ls.length = 64 ∧ lw.length = 64 ∧ D.sure.atKey (kz i) zlit = .lit (.string ls) ∧ D.wr.atKey (kz i) zlit = .lit (.string lw) ∧
      (Instr.lookup 64 (.map (some bs)) (.int .i64 i) false).run Try.prog wr = .ok (.agg (u8s ls).toArray) wr ∧
      (Instr.lookup 64 (.map (some bw)) (.int .i64 i) false).run Try.prog wr = .ok (.agg (u8s lw).toArray) wr ∧
      (Instr.lookup 64 (.map (some bs)) (.int .i64 i) false).run Try.prog wr.drew = .ok (.agg (u8s ls).toArray) wr.drew ∧
      (Instr.lookup 64 (.map (some bw)) (.int .i64 i) false).run Try.prog wr.drew = .ok (.agg (u8s lw).toArray) wr.drew ∧
      wr.cell? ⟨p, 1, none⟩ = some (.map (some bs)) ∧ wr.cell? ⟨p, 2, none⟩ = some (.map (some bw)) := by
  obtain ⟨hg, hne, ns, nw, h2, h3, h4⟩ := h
  obtain ⟨ls, l1, _, e1, d1⟩ := lookup_sec h2 i h0 h1
  obtain ⟨lw, l2, _, e2, d2⟩ := lookup_sec h3 i h0 h1
  obtain ⟨ls', l1', _, e1', d1'⟩ := lookup_sec (w := wr.drew) h2.drew i h0 h1
  obtain ⟨lw', l2', _, e2', d2'⟩ := lookup_sec (w := wr.drew) h3.drew i h0 h1
  obtain rfl : ls = ls' := Lit.string.inj (DataW.lit.inj (d1.symm.trans d1'))
  obtain rfl : lw = lw' := Lit.string.inj (DataW.lit.inj (d2.symm.trans d2'))
  unfold DK.cells at hg
  exact ⟨ls, lw, l1, l2, d1, d2, e1, e2, e1', e2', cell_of_row wr p 1 _ _ _ hg, cell_of_row wr p 2 _ _ _ hg⟩

/-- A round's end. -/
theorem crash_end {w2 w3 : World} {B ns k : Nat} {keep : List Bool} {torn cut : Int} {D : DK} {F : List Int} {S R : DataW Unit} (hk : k < F.length) (hS : w3.ownsMap Try.prog 3 secR B (ns + (k + 1)) S) (hc : crashL keep torn cut D (F.drop (k + 1)) (k + 1) S = R) (hf : Fr w2 w3 [B]) :
    (∃ k_1 : Nat, k_1 ≤ F.length ∧ Value.int IntKind.i64 ((k : Int) + 1) = Value.int IntKind.i64 (k_1 : Int) ∧ ∃ S, w3.ownsMap Try.prog 3 secR B (ns + k_1) S ∧ crashL keep torn cut D (F.drop k_1) k_1 S = R ∧ Fr w2 w3 [B]) ∧
      F.length - (intOf (Value.int IntKind.i64 ((k : Int) + 1))).toNat < F.length - (intOf (Value.int IntKind.i64 (k : Int))).toNat :=
  ⟨⟨k + 1, hk, by simp, S, hS, hc, hf⟩, by simp [intOf]; omega⟩

set_option maxRecDepth 100000 in
set_option maxHeartbeats 2000000 in
theorem crash_any (p bs bw T : Nat) (D : DK) (A : Option Addr) (c : Nat) (keep : List Bool) (torn cut : Int) (F : List Int) (w : World) (h : DiskAt w p bs bw D T) (hT : T ≤ 1000000000) (hF : KeysAre D.wr F) (hr : Rd w w.heap.size A (keep.map Value.bool)) :
    Calls Try.prog 18 #[.pointer (some ⟨p, 0, none⟩), .slice A keep.length c, .int .i64 torn, .int .i64 cut] w fun e w' => ∃ p' bs' bw', e = .returned (.pointer (some ⟨p', 0, none⟩)) ∧ w.heap.size ≤ p' ∧ w.heap.size ≤ bs' ∧ w.heap.size ≤ bw' ∧ DiskAt w' p' bs' bw' (D.crashed keep torn cut F) T ∧ Below w.heap.size w w' := by
  have hlt := h.lt
  have h' := h
  obtain ⟨hg, hne, ns, nw, h2, h3, h4⟩ := h'
  have hFn := hF.length h3
  have hFb := hF.bound h3
  have hcl := clone_any bs ns D.sure w h2
  unfold DK.cells at hg
  have a1 := cell_of_row w p 1 _ _ _ hg
  have HF := Lib.hid hF
  have HB := Lib.hid hFb
  have HD := Lib.hid h
  have HR := Lib.hid hr
  have HC := Lib.hid hcl
  have HN := Lib.hid (And.intro hlt (And.intro hT (And.intro h4 hFn)))
  clear hg h2 h3 hcl hF hFb h hr hlt hT h4 hFn hne
  go_enter Try.func18, Try.ntmps18
  go_wp2_with (first
    | (go_at_call 46; (with_reducible refine HC.out.mono ?_); rintro e w1 ⟨rfl, hS1, hs1, hb1⟩)
    | (go_at_call 47; (refine (unsure_list p bs bw T D F w1 (HD.out.below hb1 HN.out.1.1 HN.out.1.2.1 HN.out.1.2.2) HN.out.2.1 HF.out).mono ?_); rintro e w2 ⟨v, rfl, hrow, hb2⟩; obtain ⟨A', c', rfl, hcells⟩ := row_form hrow)
    | go_in)
  have hp1 := hb1.size
  have hp2 := hb2.size
  obtain ⟨hlt, hT, h4, hFn⟩ := HN.out
  have hD2 : DiskAt w2 p bs bw D T := (HD.out.below hb1 hlt.1 hlt.2.1 hlt.2.2).below hb2 (by omega) (by omega) (by omega)
  have hR2 : Rd w2 w.heap.size A (keep.map Value.bool) := (HR.out.below hb1 (Nat.le_refl _)).below hb2 (by omega)
  have hS2 := map_below hS1 hb2 hS1.lt
  have hb02 : Below w.heap.size w w2 := hb1.trans ⟨hb2.os, hb2.tape, hb2.output, hb2.size, fun k hk => hb2.block k (by omega)⟩
  have hbs1 := hS1.lt
  have HD2 := Lib.hid hD2
  have HR2 := Lib.hid hR2
  have HB2 := Lib.hid hb02
  have HRow := Lib.hid hcells
  have HS1 := Lib.hid (And.intro hbs1 hp2)
  clear hD2 hR2 hb02 hrow hcells hb1 hb2 hs1 hS1 hbs1 hp1 hp2 HR HD HC a1 hT hlt h4 hFn
  have hst : crashL keep torn cut D (F.drop 0) 0 D.sure = crashL keep torn cut D F 0 D.sure := by rw [List.drop_zero]
  go_loopw [20] (fun i wr => ∃ k : Nat, k ≤ F.length ∧ i = .int .i64 (k : Int) ∧ ∃ S, wr.ownsMap Try.prog 3 secR w.heap.size (ns + k) S ∧ crashL keep torn cut D (F.drop k) k S = crashL keep torn cut D F 0 D.sure ∧ Fr w2 wr [w.heap.size])
    (fun i _ => F.length - (intOf i).toNat)
  case atStart => exact ⟨0, Nat.zero_le _, rfl, D.sure, hS2, hst, Fr.refl _ _⟩
  case round =>
    obtain ⟨k, hk, rfl, S, hS, hc, hfr⟩ := hrel
    have HFR := Lib.hid hfr
    by_cases hkl : k < F.length
    · obtain ⟨g, o, rfl, hge, hglt, hc2⟩ := HRow.out k hkl
      obtain ⟨⟨n1, n2, n3⟩, hT, h4, hFn⟩ := HN.out
      have hcell : wr.cell? ⟨g, o + k, none⟩ = some (.int .i64 F[k]) := by
        rw [← hc2]; exact World.cell?_of_block (hfr.block g hglt (by have := HS1.out.1; simp; omega))
      have hDr := HD2.out.fr hfr (by simp; omega) (by simp; omega) (by simp; omega)
      have hib := HB.out F[k] (List.getElem_mem hkl)
      have hcs := crashL_step keep torn cut D F k S hkl
      obtain ⟨i, hi⟩ : ∃ i, i = F[k] := ⟨_, rfl⟩
      rw [← hi] at hcell hib hcs
      obtain ⟨ls, lw, l1, l2, d1, d2, eS, eW, eS', eW', a1, a2⟩ := round_facts hDr i hib.1 hib.2
      have hki := kz_of i hib.1 hib.2
      have hkb : (k : Int) + 1 ≤ 1000000000 := by omega
      have hkI : (k : Int) < (F.length : Int) := by omega
      have hml : ns + k < maxLen := by have : (1000000000 : Nat) < maxLen := by decide
                                       omega
      rw [hc] at hcs
      unfold crashStep at hcs
      rw [d1, d2] at hcs
      have HCS := Lib.hid hcs
      have HL := Lib.hid (And.intro l1 l2)
      have HK := Lib.hid (And.intro hki hml)
      have HS := Lib.hid hS
      have HX := Lib.hid (And.intro hk (And.intro hkl hfr))
      clear hc2 hDr hib hcs hi l1 l2 d1 d2 hki hml hc hfr hge hglt n1 n2 n3 hT h4 hFn hS hS2 hst HFR hkl hk
      by_cases hkk : k < keep.length
      · obtain ⟨kb, ko, rfl, hkbl, hck2⟩ := HR2.out.get (k := k) (by simpa using hkk)
        have hck : wr.cell? ⟨kb, ko + k, none⟩ = some (.bool keep[k]) := by
          have := hck2
          simp only [List.getElem_map] at this
          rw [← this]; exact World.cell?_of_block (HX.out.2.2.block kb (by have := HB2.out.size; omega) (by simp; omega))
        have hkK : (k : Int) < (keep.length : Int) := by omega
        have hke : keep[k]? = some keep[k] := List.getElem?_eq_getElem hkk
        obtain ⟨b, hb⟩ : ∃ b, b = keep[k] := ⟨_, rfl⟩
        rw [← hb] at hck hke
        have HKE := Lib.hid hke
        clear hb hke hck2 hkbl hkk
        cases b with
        | true =>
          go_wp2_with (first
            | (at_mapUpdate; refine wpList_mapUpdate_own _ rfl _ _ _ 64 rfl 3 87 keyZ Try.underlying64 secR w.heap.size _ _ rfl HS.out HK.out.2 _ _ _ rfl rfl HK.out.1 _ _ (secR_mk lw HL.out.2) ?_; intro w3 hS3 hg3)
            | go_in)
          have hcs := HCS.out
          rw [if_pos HKE.out] at hcs
          obtain ⟨hk, hkl, hfr⟩ := HX.out
          exact crash_end hkl (hS3.mono (by omega)) hcs.symm (hfr.trans (Fr.of_grown hg3))
        | false =>
          by_cases ht : (k : Int) = torn
          · subst ht
            have htw := tear_any ls lw cut wr.drew HL.out.1 HL.out.2
            have hS3 := map_below HS.out.drew (tearW_below wr.drew ls lw cut) HS.out.lt
            obtain ⟨w3, hrun, hS4, hg4⟩ := hS3.update keyZ Try.underlying64 HK.out.2 HK.out.1 (secR_mk _ (tearL_len ls lw cut HL.out.1 HL.out.2))
            have hcs := HCS.out
            rw [if_neg (by rw [HKE.out]; simp), if_pos rfl] at hcs
            have hf3 : Fr wr w3 [w.heap.size] := ((Fr.refl wr [w.heap.size]).drew).trans ((Fr.of_below (tearW_below wr.drew ls lw cut) _).trans (Fr.of_grown hg4))
            have HTW := Lib.hid htw
            have HS4 := Lib.hid (And.intro hS4 (And.intro hf3 hcs))
            clear htw hS3 hS4 hg4 hcs hf3
            go_wp2_with go_in
            go_region_with (go_at_call 48; (with_reducible refine HTW.out.mono ?_); rintro e w' ⟨rfl, rfl⟩)
            all_goals (clear eS eW eS' eW' hrun HTW; go_wp2_with go_in; exact crash_end HX.out.2.1 (HS4.out.1.mono (by omega)) HS4.out.2.2.symm (HX.out.2.2.trans HS4.out.2.1))
          · have hcs := HCS.out
            rw [if_neg (by rw [HKE.out]; simp), if_neg ht] at hcs
            have HCS2 := Lib.hid hcs
            have hbq : ((k : Int) == torn) = false := by simpa using ht
            clear hcs ht eS eW eS' eW'
            go_wp2_with go_in
            exact crash_end HX.out.2.1 (HS.out.mono (by omega)) HCS2.out.symm HX.out.2.2
      · have HKE := Lib.hid (show keep[k]? = none from List.getElem?_eq_none (by omega))
        have hkK : ¬ ((k : Int) < (keep.length : Int)) := by omega
        clear hkk
        by_cases ht : (k : Int) = torn
        · subst ht
          have htw := tear_any ls lw cut wr.drew HL.out.1 HL.out.2
          have hS3 := map_below HS.out.drew (tearW_below wr.drew ls lw cut) HS.out.lt
          obtain ⟨w3, hrun, hS4, hg4⟩ := hS3.update keyZ Try.underlying64 HK.out.2 HK.out.1 (secR_mk _ (tearL_len ls lw cut HL.out.1 HL.out.2))
          have hcs := HCS.out
          rw [if_neg (by rw [HKE.out]; simp), if_pos rfl] at hcs
          have hf3 : Fr wr w3 [w.heap.size] := ((Fr.refl wr [w.heap.size]).drew).trans ((Fr.of_below (tearW_below wr.drew ls lw cut) _).trans (Fr.of_grown hg4))
          have HTW := Lib.hid htw
          have HS4 := Lib.hid (And.intro hS4 (And.intro hf3 hcs))
          clear htw hS3 hS4 hg4 hcs hf3
          go_wp2_with go_in
          go_region_with (go_at_call 48; (with_reducible refine HTW.out.mono ?_); rintro e w' ⟨rfl, rfl⟩)
          all_goals (clear eS eW eS' eW' hrun HTW; go_wp2_with go_in; exact crash_end HX.out.2.1 (HS4.out.1.mono (by omega)) HS4.out.2.2.symm (HX.out.2.2.trans HS4.out.2.1))
        · have hcs := HCS.out
          rw [if_neg (by rw [HKE.out]; simp), if_neg ht] at hcs
          have HCS2 := Lib.hid hcs
          have hbq : ((k : Int) == torn) = false := by simpa using ht
          clear hcs ht eS eW eS' eW'
          go_wp2_with go_in
          exact crash_end HX.out.2.1 (HS.out.mono (by omega)) HCS2.out.symm HX.out.2.2
    · obtain ⟨⟨n1, n2, n3⟩, hT, h4, hFn⟩ := HN.out
      have hkl2 : k = F.length := by omega
      subst hkl2
      rw [List.drop_length] at hc
      have hc' : S = crashL keep torn cut D F 0 D.sure := hc
      have hDr := HD2.out.fr hfr (by simp; omega) (by simp; omega) (by simp; omega)
      have hg := hDr.1
      unfold DK.cells at hg
      have a0 := cell_of_row wr p 0 _ _ _ hg
      have hdo := diskOf_any D.size w.heap.size (ns + F.length) S wr hS
      have HDO := Lib.hid hdo
      have HX := Lib.hid (And.intro hc' hfr)
      clear hdo hc hc' hfr hDr hg hS hS2 hst HFR n1 n2 n3 hT h4 hFn
      go_wp2_with (go_at_call 26; (with_reducible refine HDO.out.mono ?_); rintro e w' ⟨rfl, hD, hF'⟩)
      go_ret
      obtain ⟨hc', hfr⟩ := HX.out
      obtain ⟨⟨n1, n2, n3⟩, hT, h4, hFn⟩ := HN.out
      subst hc'
      have hw2 := HB2.out.size
      have hwr := hfr.size
      refine ⟨_, _, _, rfl, by omega, Nat.le_refl _, by omega, hD.mono (by omega), HB2.out.trans ((hfr.below hw2 (by simp)).trans (hF'.below (by omega) (by simp)))⟩
end Go.Proofs.Ytajakmfloeefpaa
/- A disk in plain words. -/
namespace Go.Proofs.Ytajakmfloeefpaa
open Go.RowKit Go.Maps Go.Sort Go.Shelf Go.Proofs

/-- A disk, plainly: its size, what is sure, what was written since, the steps, the steps left. -/
structure DM where
  size : Nat
  sure : Nat → List UInt8
  wr : Nat → Option (List UInt8)
  steps : Nat
  armed : Bool
  left : Nat
def DM.get (M : DM) (i : Nat) : List UInt8 := (M.wr i).getD (M.sure i)
def DM.dead (M : DM) : Bool := M.armed && (M.left == 0)
def DM.stepped (M : DM) : DM := { M with left := if M.armed then M.left - 1 else M.left, steps := M.steps + 1 }
def DM.written (M : DM) (i : Nat) (l : List UInt8) : DM := { M.stepped with wr := fun j => if j = i then some l else M.wr j }
def DM.flushed (M : DM) : DM := { M.stepped with sure := fun j => M.get j, wr := fun _ => none }
def DM.fresh (M : DM) : List Nat := (List.range M.size).filter fun i => (M.wr i).isSome
def DM.new (n : Nat) : DM := ⟨n, fun _ => zero64, fun _ => none, 0, false, 0⟩
/-- The place of sector i among those that aren't sure. -/
def DM.place (M : DM) (i : Nat) : Nat := ((List.range i).filter fun j => (M.wr j).isSome).length
def DM.left1 (M : DM) (keep : List Bool) (torn cut : Int) (i : Nat) : List UInt8 :=
  match M.wr i with
  | none => M.sure i
  | some l => if keep[M.place i]? = some true then l else if (M.place i : Int) = torn then tearL (M.sure i) l cut else M.sure i
def DM.crashed (M : DM) (keep : List Bool) (torn cut : Int) : DM := ⟨M.size, M.left1 keep torn cut, fun _ => none, 0, false, 0⟩

def litB (l : List UInt8) : DataW Unit := .lit (.string l)
/-- What lies there is the plain disk. -/
structure Sim (D : DK) (M : DM) : Prop where
  size : D.size = M.size
  steps : D.steps = M.steps
  armed : D.armed = M.armed
  left : D.left = M.left
  has : ∀ x : Int, Maps.has D.wr (kz x) = true ↔ ∃ i : Nat, i < M.size ∧ x = i ∧ (M.wr i).isSome = true
  sure : ∀ i, i < M.size → (M.sure i).length = 64 ∧ D.sure.atKey (kz i) zlit = litB (M.sure i)
  wr : ∀ i, i < M.size → ∀ l, M.wr i = some l → l.length = 64 ∧ D.wr.atKey (kz i) zlit = litB l

theorem kz_lit (i : Int) : WideAt.IsKeyLit (kz i) := by unfold kz; simp [WideAt.IsKeyLit]

theorem Sim.new (n : Nat) : Sim (DK.new n) (DM.new n) :=
  ⟨rfl, rfl, rfl, rfl, fun x => by simp [DK.new, DM.new, Maps.has], fun i _ => ⟨zero64_len, rfl⟩, fun i _ l h => by cases h⟩

variable {D : DK} {M : DM}
theorem Sim.fresh (h : Sim D M) {i : Nat} (hi : i < M.size) : Maps.has D.wr (kz i) = (M.wr i).isSome := by
  cases hw : (M.wr i).isSome with
  | true => exact (h.has i).2 ⟨i, hi, rfl, hw⟩
  | false =>
    cases hh : Maps.has D.wr (kz i) with
    | false => rfl
    | true =>
      obtain ⟨j, _, hj, hs⟩ := (h.has i).1 hh
      have : i = j := by omega
      subst this
      rw [hw] at hs; cases hs
theorem Sim.get (h : Sim D M) {i : Nat} (hi : i < M.size) : D.get i = litB (M.get i) ∧ (M.get i).length = 64 := by
  unfold DK.get DM.get
  rw [h.fresh hi]
  cases hw : M.wr i with
  | none => exact ⟨by simpa using (h.sure i hi).2, by simpa using (h.sure i hi).1⟩
  | some l => exact ⟨by simpa using (h.wr i hi l hw).2, by simpa using (h.wr i hi l hw).1⟩
theorem Sim.dead (h : Sim D M) : D.dead = M.dead := by
  unfold DK.dead DM.dead
  rw [h.armed, h.left]
  congr 1
  cases M.left <;> simp <;> omega
theorem Sim.stepped (h : Sim D M) (hd : M.dead = false) : Sim D.stepped M.stepped := by
  refine ⟨h.size, by simp [DK.stepped, DM.stepped, h.steps], h.armed, ?_, h.has, h.sure, h.wr⟩
  simp only [DK.stepped, DM.stepped, h.armed, h.left]
  cases ha : M.armed with
  | false => simp
  | true =>
    have : M.left ≠ 0 := by intro e; simp [DM.dead, ha, e] at hd
    simp; omega
theorem Sim.written (h : Sim D M) (hd : M.dead = false) {i : Nat} (hi : i < M.size) {l : List UInt8} (hl : l.length = 64) (hm : Maps.IsMap D.wr) : Sim (D.written i l) (M.written i l) := by
  have hs := h.stepped hd
  refine ⟨hs.size, hs.steps, hs.armed, hs.left, fun x => ?_, hs.sure, fun j hj l' hl' => ?_⟩
  · show Maps.has (D.wr.put (kz i) _) (kz x) = true ↔ ∃ j : Nat, j < M.size ∧ x = j ∧ (if j = i then some l else M.wr j).isSome = true
    by_cases e : x = (i : Int)
    · subst e
      rw [has_put_same hm (kz_lit _)]
      exact ⟨fun _ => ⟨i, hi, rfl, by simp⟩, fun _ => rfl⟩
    · rw [has_put_other (kz_ne e), h.has x]
      constructor
      · rintro ⟨j, h1, h2, h3⟩
        exact ⟨j, h1, h2, by rw [if_neg (fun e' => e (by rw [h2, e']))]; exact h3⟩
      · rintro ⟨j, h1, h2, h3⟩
        rw [if_neg (fun e' => e (by rw [h2, e']))] at h3
        exact ⟨j, h1, h2, h3⟩
  · change (if j = i then some l else M.wr j) = some l' at hl'
    show l'.length = 64 ∧ (D.wr.put (kz i) _).atKey (kz j) zlit = _
    by_cases e : j = i
    · subst e
      rw [if_pos rfl] at hl'
      injection hl' with hl'
      subst hl'
      exact ⟨hl, atKey_put_same hm (kz_lit _) _ _⟩
    · rw [if_neg e] at hl'
      rw [atKey_put_other (kz_ne (by omega))]
      exact h.wr j hj l' hl'
/-- A map of entries that a world owns. -/
def Ent (X : DataW Unit) : Prop := ∃ es, X = .map es ∧ es.Pairwise (fun p q => p.1 ≠ q.1) ∧ ∀ p ∈ es, WideAt.IsKeyLit p.1
theorem has_merge {X Y : DataW Unit} (hX : Maps.IsMap X) (hY : Ent Y) (k : Lit) : Maps.has (Lib.mergeD X Y) k = (Maps.has X k || Maps.has Y k) := by
  obtain ⟨es, rfl, hp, hk⟩ := hY
  exact has_foldPut k es X hX hk
theorem atKey_merge {X Y : DataW Unit} (hX : Maps.IsMap X) (hY : Ent Y) (k : Lit) (z : DataW Unit) : (Lib.mergeD X Y).atKey k z = if Maps.has Y k then Y.atKey k z else X.atKey k z := by
  obtain ⟨es, rfl, hp, hk⟩ := hY
  have := atKey_foldPut k z es X hX hk hp
  show (es.foldl (fun D p => D.put p.1 p.2) X).atKey k z = _
  rw [this, has_eq]
  cases hf : es.find? (fun p => p.1.sameKey k) with
  | none =>
    have : es.any (fun p => p.1.sameKey k) = false := by
      rw [List.any_eq_false]; intro p hp'; have := List.find?_eq_none.1 hf p hp'; simpa using this
    rw [this]; rfl
  | some p =>
    have : es.any (fun p => p.1.sameKey k) = true := List.any_eq_true.2 ⟨p, List.mem_of_find?_eq_some hf, List.find?_some (p := fun q : Lit × DataW Unit => q.1.sameKey k) hf⟩
    rw [this, if_pos rfl]
    have e : (DataW.map es).atKey k z = (es.find? fun p => p.1.sameKey k).elim z fun p => p.2 := by
      unfold DataW.atKey
      simp only
      cases es.find? fun p => p.1.sameKey k <;> rfl
    rw [e, hf]
    rfl
theorem Sim.flushed (h : Sim D M) (hd : M.dead = false) (hX : Maps.IsMap D.sure) (hY : Ent D.wr) : Sim D.flushed M.flushed := by
  have hs := h.stepped hd
  refine ⟨hs.size, hs.steps, hs.armed, hs.left, fun x => by simp [DK.flushed, DM.flushed, Maps.has], fun i hi => ?_, fun i _ l hl => by cases hl⟩
  have hg := h.get (i := i) hi
  refine ⟨hg.2, ?_⟩
  show (Lib.mergeD D.sure D.wr).atKey (kz i) zlit = litB (M.get i)
  rw [atKey_merge hX hY, ← hg.1]
  rfl
theorem Sim.keys (h : Sim D M) : KeysAre D.wr (M.fresh.map fun i : Nat => (i : Int)) := by
  constructor
  · rw [List.pairwise_map]
    exact ((List.pairwise_lt_range (n := M.size)).filter _).imp fun {a b} hab => by omega
  · intro x
    rw [h.has x]
    simp only [DM.fresh, List.mem_map, List.mem_filter, List.mem_range]
    constructor
    · rintro ⟨i, ⟨h1, h2⟩, rfl⟩; exact ⟨i, h1, rfl, h2⟩
    · rintro ⟨i, h1, rfl, h2⟩; exact ⟨i, ⟨h1, h2⟩, rfl⟩
def posOf (x : Int) : List Int → Nat
  | [] => 0
  | y :: r => if y = x then 0 else posOf x r + 1
theorem posOf_append (x : Int) (r : List Int) : ∀ l : List Int, x ∉ l → posOf x (l ++ x :: r) = l.length
  | [], _ => by simp [posOf]
  | y :: l, h => by
    have h1 : ¬ y = x := fun e => h (by simp [e])
    have h2 : x ∉ l := fun e => h (List.mem_cons_of_mem _ e)
    show (if y = x then 0 else posOf x (l ++ x :: r) + 1) = _
    rw [if_neg h1, posOf_append x r l h2]
    rfl
/-- A crash, sector by sector: those of a list at their places. -/
theorem crashL_at (keep : List Bool) (torn cut : Int) (D : DK) (F : List Int) (hF : F.Pairwise (· < ·)) : ∀ (k : Nat) (S : DataW Unit), Maps.IsMap S → ∀ x : Int,
    (crashL keep torn cut D F k S).atKey (kz x) zlit = (if x ∈ F then (crashStep keep torn cut D (k + posOf x F) x S) else S).atKey (kz x) zlit := by
  induction F with
  | nil => intro k S hS x; rfl
  | cons i r ih =>
    intro k S hS x
    have hp := List.pairwise_cons.1 hF
    have hS' : Maps.IsMap (crashStep keep torn cut D k i S) := by
      unfold crashStep
      split
      · exact hS.put _ _
      · split
        · exact hS.put _ _
        · exact hS
    show (crashL keep torn cut D r (k + 1) (crashStep keep torn cut D k i S)).atKey (kz x) zlit = _
    rw [ih hp.2 (k + 1) _ hS' x]
    have hother : ∀ y : Int, y ≠ i → (crashStep keep torn cut D k i S).atKey (kz y) zlit = S.atKey (kz y) zlit := fun y hy => by
      unfold crashStep
      split
      · exact atKey_put_other (kz_ne hy) _ _
      · split
        · exact atKey_put_other (kz_ne hy) _ _
        · rfl
    by_cases e : x = i
    · subst e
      have hnr : x ∉ r := fun hx => by have := hp.1 x hx; omega
      rw [if_neg hnr, if_pos (List.mem_cons_self ..)]
      simp [posOf]
    · by_cases hx : x ∈ r
      · have hxi : x ∈ i :: r := List.mem_cons_of_mem _ hx
        rw [if_pos hx, if_pos hxi]
        have hid : posOf x (i :: r) = posOf x r + 1 := if_neg fun h => e h.symm
        rw [hid, show k + 1 + posOf x r = k + (posOf x r + 1) by omega]
        unfold crashStep
        split
        · rw [atKey_put_same (by exact hS') (kz_lit _), atKey_put_same hS (kz_lit _)]
        · split
          · rw [atKey_put_same (by exact hS') (kz_lit _), atKey_put_same hS (kz_lit _)]
          · exact hother x e
      · have hxi : x ∉ i :: r := by simp [e, hx]
        rw [if_neg hx, if_neg hxi]
        exact hother x e
theorem place_eq (M : DM) {i : Nat} (hi : i < M.size) (hw : (M.wr i).isSome = true) : posOf (i : Int) (M.fresh.map fun i : Nat => (i : Int)) = M.place i := by
  unfold DM.fresh DM.place
  have hsplit : List.range M.size = List.range i ++ i :: (List.range' (i + 1) (M.size - i - 1)) := by
    apply List.ext_getElem
    · simp; omega
    · intro j h1 h2
      simp only [List.getElem_range, List.getElem_append, List.length_range]
      split
      · rfl
      · rw [List.getElem_cons]
        split
        · omega
        · rw [List.getElem_range']; omega
  rw [hsplit, List.filter_append, List.filter_cons, if_pos hw, List.map_append, List.map_cons]
  rw [posOf_append]
  · simp
  · intro hm
    obtain ⟨j, hj, e⟩ := List.mem_map.1 hm
    have := List.mem_range.1 (List.mem_filter.1 hj).1
    omega
theorem Sim.crashed (h : Sim D M) (hX : Maps.IsMap D.sure) (keep : List Bool) (torn cut : Int) : Sim (D.crashed keep torn cut (M.fresh.map fun i : Nat => (i : Int))) (M.crashed keep torn cut) := by
  refine ⟨h.size, rfl, rfl, rfl, fun x => by simp [DK.crashed, DM.crashed, Maps.has], fun i hi => ?_, fun i _ l hl => by cases hl⟩
  change i < M.size at hi
  have hk := h.keys
  show (M.left1 keep torn cut i).length = 64 ∧ (crashL keep torn cut D _ 0 D.sure).atKey (kz i) zlit = litB (M.left1 keep torn cut i)
  rw [crashL_at keep torn cut D _ hk.1 0 D.sure hX]
  obtain ⟨hs1, hs2⟩ := h.sure i hi
  unfold DM.left1
  cases hw : M.wr i with
  | none =>
    have hn : ((i : Nat) : Int) ∉ (M.fresh.map fun i : Nat => (i : Int)) := by
      rw [hk.2, h.fresh hi, hw]; simp
    rw [if_neg hn]
    exact ⟨hs1, hs2⟩
  | some l =>
    have hm : ((i : Nat) : Int) ∈ (M.fresh.map fun i : Nat => (i : Int)) := by
      rw [hk.2, h.fresh hi, hw]; rfl
    rw [if_pos hm, place_eq M hi (by rw [hw]; rfl), Nat.zero_add]
    obtain ⟨hl1, hl2⟩ := h.wr i hi l hw
    unfold crashStep
    simp only
    split
    · rw [hl2]; exact ⟨hl1, atKey_put_same hX (kz_lit _) _ _⟩
    · split
      · rw [hl2, hs2]; exact ⟨tearL_len _ _ _ hs1 hl1, atKey_put_same hX (kz_lit _) _ _⟩
      · exact ⟨hs1, hs2⟩
end Go.Proofs.Ytajakmfloeefpaa
/- A disk's calls, in plain words. -/
namespace Go.Proofs.Ytajakmfloeefpaa
open Go.RowKit Go.Maps Go.Sort Go.Shelf Go.Proofs

/-- The disk M lies at p, its maps at bs and bw. -/
def DiskM (w : World) (p bs bw : Nat) (M : DM) (T : Nat) : Prop := ∃ D, DiskAt w p bs bw D T ∧ Sim D M
theorem DiskM.lt {w : World} {p bs bw T : Nat} {M : DM} (h : DiskM w p bs bw M T) : p < w.heap.size ∧ bs < w.heap.size ∧ bw < w.heap.size := by
  obtain ⟨D, h1, _⟩ := h; exact h1.lt
theorem DiskM.fr {w w' : World} {p bs bw T : Nat} {M : DM} {S : List Nat} (h : DiskM w p bs bw M T) (hf : Fr w w' S) (hp : p ∉ S) (hs : bs ∉ S) (hw : bw ∉ S) : DiskM w' p bs bw M T := by
  obtain ⟨D, h1, h2⟩ := h; exact ⟨D, h1.fr hf hp hs hw, h2⟩
theorem DiskM.below {w w' : World} {p bs bw T B : Nat} {M : DM} (h : DiskM w p bs bw M T) (hb : Below B w w') (hp : p < B) (hs : bs < B) (hw : bw < B) : DiskM w' p bs bw M T := by
  obtain ⟨D, h1, h2⟩ := h; exact ⟨D, h1.below hb hp hs hw, h2⟩
theorem DiskM.kept {w w' : World} {p bs bw T : Nat} {M : DM} (h : DiskM w p bs bw M T) (hb : Below w.heap.size w w') : DiskM w' p bs bw M T := h.below hb h.lt.1 h.lt.2.1 h.lt.2.2
theorem DiskM.mono {w : World} {p bs bw T T' : Nat} {M : DM} (h : DiskM w p bs bw M T) (hT : T ≤ T') : DiskM w p bs bw M T' := by
  obtain ⟨D, h1, h2⟩ := h; exact ⟨D, h1.mono hT, h2⟩
theorem DiskM.apart {w : World} {p bs bw T : Nat} {M : DM} (h : DiskM w p bs bw M T) : p ≠ bs ∧ p ≠ bw ∧ bs ≠ bw := by
  obtain ⟨D, h1, _⟩ := h; exact h1.apart
theorem DiskM.drew {w : World} {p bs bw T : Nat} {M : DM} (h : DiskM w p bs bw M T) : DiskM w.drew p bs bw M T := h

/-- Numbers that a disk may have. -/
structure DM.Ok (M : DM) (T : Nat) : Prop where
  size : M.size ≤ 4096
  steps : M.steps ≤ 1000000000
  left : M.left ≤ 9223372036854775807
  T : T ≤ 1000000000

variable {p bs bw T : Nat} {M : DM} {w : World}
theorem newM (n : Nat) (w : World) (h1 : 1 ≤ n) (h2 : n ≤ 4096) :
    Calls Try.prog 5 #[.int .i64 (n : Int)] w fun e w' => e = .returned (.tuple #[.pointer (some ⟨w.heap.size + 2, 0, none⟩), .int .i64 0]) ∧ DiskM w' (w.heap.size + 2) w.heap.size (w.heap.size + 1) (DM.new n) 0 ∧ Fr w w' [] :=
  (new_any (n : Int) w (by omega) (by omega)).mono fun _ _ ⟨h1, h2, h3⟩ => ⟨h1, ⟨_, h2, Sim.new n⟩, h3⟩
theorem sizeM (h : DiskM w p bs bw M T) : Calls Try.prog 28 #[.pointer (some ⟨p, 0, none⟩)] w fun e w' => e = .returned (.int .i64 (M.size : Int)) ∧ w = w' := by
  obtain ⟨D, h1, h2⟩ := h
  have := size_any p bs bw T D w h1
  rw [h2.size] at this; exact this
theorem stepsM (h : DiskM w p bs bw M T) : Calls Try.prog 25 #[.pointer (some ⟨p, 0, none⟩)] w fun e w' => e = .returned (.int .i64 (M.steps : Int)) ∧ w = w' := by
  obtain ⟨D, h1, h2⟩ := h
  have := steps_any p bs bw T D w h1
  rw [h2.steps] at this; exact this

def DM.writeE (M : DM) (i : Int) (l : List UInt8) : Int := if ¬ (0 ≤ i ∧ i < M.size) ∨ l.length ≠ 64 then 1 else if M.dead then 30 else 0
def DM.writeM (M : DM) (i : Int) (l : List UInt8) : DM := if ¬ (0 ≤ i ∧ i < M.size) ∨ l.length ≠ 64 then M else if M.dead then M else M.written i.toNat l
theorem writeM (h : DiskM w p bs bw M T) (hk : M.Ok T) (i : Int) (A : Option Addr) (l : List UInt8) (c B : Nat) (hr : Rd w B A (u8s l)) (hp : ∀ a, A = some a → a.block ≠ p) :
    Calls Try.prog 15 #[.pointer (some ⟨p, 0, none⟩), .int .i64 i, .slice A l.length c] w fun e w' => e = .returned (.int .i64 (M.writeE i l)) ∧ DiskM w' p bs bw (M.writeM i l) (T + 1) ∧ Fr w w' [p, bw] := by
  obtain ⟨D, h1, h2⟩ := h
  unfold DM.writeE DM.writeM
  by_cases hb : ¬ (0 ≤ i ∧ i < M.size) ∨ l.length ≠ 64
  · rw [if_pos hb, if_pos hb]
    refine (write_bad p bs bw T D i A l.length c w h1 (by rw [h2.size]; exact hb)).mono ?_
    rintro e w' ⟨rfl, rfl⟩
    exact ⟨rfl, ⟨D, h1.mono (by omega), h2⟩, Fr.refl _ _⟩
  · rw [if_neg hb, if_neg hb]
    have hi : 0 ≤ i ∧ i < M.size := Classical.not_not.1 fun h => hb (.inl h)
    have hl : l.length = 64 := Classical.not_not.1 fun h => hb (.inr h)
    have hL : 0 ≤ D.left ∧ D.left ≤ 9223372036854775807 := by have := hk.left; rw [h2.left]; omega
    have hS : 0 ≤ D.steps ∧ D.steps ≤ 1000000000 := by have := hk.steps; rw [h2.steps]; omega
    cases hd : M.dead with
    | true =>
      rw [if_pos rfl, if_pos rfl, hl]
      refine (write_dead p bs bw T D i A c w h1 (by rw [h2.size]; exact hi) (h2.dead.trans hd) hL hS).mono ?_
      rintro e w' ⟨rfl, rfl⟩
      exact ⟨rfl, ⟨D, h1.mono (by omega), h2⟩, Fr.refl _ _⟩
    | false =>
      rw [if_neg (by simp), if_neg (by simp), hl]
      obtain ⟨sb, so, rfl, hsb, hcells⟩ := hr (by intro e; have := congrArg List.length e; rw [u8s_len, hl] at this; cases this)
      have hmw : Maps.IsMap D.wr := by obtain ⟨_, _, _, _, _, h3, _⟩ := h1; exact h3.isMap
      obtain ⟨i', rfl⟩ : ∃ i' : Nat, i = i' := ⟨i.toNat, by omega⟩
      refine (write_any p bs bw T D i' sb so c l w h1 (by rw [h2.size]; exact hi) (h2.dead.trans hd) hL hS (by have := hk.size; rw [h2.size]; omega) hk.T hl hcells (hp _ rfl)).mono ?_
      rintro e w' ⟨rfl, hD, hF⟩
      exact ⟨rfl, ⟨_, hD, by simpa using h2.written hd (i := i') (by omega) hl hmw⟩, hF⟩

def DM.flushE (M : DM) : Int := if M.dead then 30 else 0
def DM.flushM (M : DM) : DM := if M.dead then M else M.flushed
theorem flushM (h : DiskM w p bs bw M T) (hk : M.Ok T) :
    Calls Try.prog 57 #[.pointer (some ⟨p, 0, none⟩)] w fun e w' => e = .returned (.int .i64 M.flushE) ∧ DiskM w' p bs bw M.flushM T ∧ Fr w w' [p, bs, bw] := by
  obtain ⟨D, h1, h2⟩ := h
  unfold DM.flushE DM.flushM
  have hL : 0 ≤ D.left ∧ D.left ≤ 9223372036854775807 := by have := hk.left; rw [h2.left]; omega
  have hS : 0 ≤ D.steps ∧ D.steps ≤ 1000000000 := by have := hk.steps; rw [h2.steps]; omega
  cases hd : M.dead with
  | true =>
    refine (flush_dead p bs bw T D w h1 (h2.dead.trans hd) hL hS).mono ?_
    rintro e w' ⟨rfl, rfl⟩
    exact ⟨rfl, ⟨D, h1, h2⟩, Fr.refl _ _⟩
  | false =>
    have h1' := h1
    obtain ⟨_, _, ns, nw, h3, h4, _⟩ := h1'
    refine (flush_any p bs bw T D w h1 (h2.dead.trans hd) hL hS hk.T).mono ?_
    rintro e w' ⟨rfl, hD, hF⟩
    exact ⟨rfl, ⟨_, hD, h2.flushed hd h3.isMap (h4.entries keyZ)⟩, hF⟩

def DM.armE (M : DM) (n : Int) : Int := if n < 0 then 1 else if M.dead then 30 else 0
def DM.armM (M : DM) (n : Int) : DM := if n < 0 then M else if M.dead then M else { M with armed := true, left := n.toNat }
theorem armM (h : DiskM w p bs bw M T) (n : Int) :
    Calls Try.prog 13 #[.pointer (some ⟨p, 0, none⟩), .int .i64 n] w fun e w' => e = .returned (.int .i64 (M.armE n)) ∧ DiskM w' p bs bw (M.armM n) T ∧ Fr w w' [p] := by
  obtain ⟨D, h1, h2⟩ := h
  refine (arm_any p bs bw T D n w h1).mono ?_
  rintro e w' ⟨rfl, hD, hF⟩
  unfold DK.armE DK.armD at *
  unfold DM.armE DM.armM
  rw [h2.dead] at hD ⊢
  refine ⟨rfl, ⟨_, hD, ?_⟩, hF⟩
  by_cases hn : n < 0
  · rw [if_pos hn, if_pos hn]; exact h2
  · rw [if_neg hn, if_neg hn]
    cases hd : M.dead with
    | true => exact h2
    | false => exact ⟨h2.size, h2.steps, rfl, by show n = ((n.toNat : Nat) : Int); omega, h2.has, h2.sure, h2.wr⟩

theorem readM (h : DiskM w p bs bw M T) (hz : M.size ≤ 4096) {i : Nat} (hi : i < M.size) :
    Calls Try.prog 51 #[.pointer (some ⟨p, 0, none⟩), .int .i64 (i : Int)] w fun e w' => e = .returned (.tuple #[.slice (some ⟨w.heap.size, 0, none⟩) 64 64, .int .i64 0]) ∧ w' = w.alloc (.cells (u8s (M.get i)).toArray 87) ∧ (M.get i).length = 64 := by
  obtain ⟨D, h1, h2⟩ := h
  refine (read_any p bs bw T D i w h1 (by rw [h2.size]; omega) (by rw [h2.size]; omega)).mono ?_
  rintro e w' ⟨l, hl, hg, rfl, rfl⟩
  have hg2 := h2.get hi
  have : l = M.get i := Lit.string.inj (DataW.lit.inj (hg.symm.trans hg2.1))
  subst this
  exact ⟨rfl, rfl, hl⟩
theorem readM_bad (h : DiskM w p bs bw M T) {i : Int} (hi : ¬ (0 ≤ i ∧ i < M.size)) :
    Calls Try.prog 51 #[.pointer (some ⟨p, 0, none⟩), .int .i64 i] w fun e w' => e = .returned (.tuple #[.slice none 0 0, .int .i64 1]) ∧ w = w' := by
  obtain ⟨D, h1, h2⟩ := h
  exact read_bad p bs bw T D i w h1 (by rw [h2.size]; exact hi)
theorem unsureM (h : DiskM w p bs bw M T) (hT : T ≤ 1000000000) :
    Calls Try.prog 47 #[.pointer (some ⟨p, 0, none⟩)] w fun e w' => ∃ v, e = .returned v ∧ w'.ownsRow w.heap.size 3 1 v M.fresh.length (M.fresh.map fun i : Nat => .int .i64 (i : Int)) ∧ Below w.heap.size w w' := by
  obtain ⟨D, h1, h2⟩ := h
  refine (unsure_list p bs bw T D _ w h1 hT h2.keys).mono ?_
  rintro e w' ⟨v, rfl, hrow, hb⟩
  refine ⟨v, rfl, ?_, hb⟩
  rw [List.length_map, List.map_map] at hrow
  exact hrow
theorem crashM (h : DiskM w p bs bw M T) (hT : T ≤ 1000000000) (A : Option Addr) (c : Nat) (keep : List Bool) (torn cut : Int) (hr : Rd w w.heap.size A (keep.map Value.bool)) :
    Calls Try.prog 18 #[.pointer (some ⟨p, 0, none⟩), .slice A keep.length c, .int .i64 torn, .int .i64 cut] w fun e w' => ∃ p' bs' bw', e = .returned (.pointer (some ⟨p', 0, none⟩)) ∧ w.heap.size ≤ p' ∧ w.heap.size ≤ bs' ∧ w.heap.size ≤ bw' ∧ DiskM w' p' bs' bw' (M.crashed keep torn cut) T ∧ Below w.heap.size w w' := by
  obtain ⟨D, h1, h2⟩ := h
  have hX : Maps.IsMap D.sure := by obtain ⟨_, _, _, _, h3, _⟩ := h1; exact h3.isMap
  refine (crash_any p bs bw T D A c keep torn cut _ w h1 hT h2.keys hr).mono ?_
  rintro e w' ⟨p', bs', bw', rfl, b1, b2, b3, hD, hb⟩
  exact ⟨p', bs', bw', rfl, b1, b2, b3, ⟨_, hD, h2.crashed hX keep torn cut⟩, hb⟩
/-- Each sector has its bytes. -/
def DM.full (M : DM) : Prop := ∀ i, i < M.size → (M.sure i).length = 64 ∧ (M.get i).length = 64
theorem DiskM.full {w : World} {p bs bw T : Nat} {M : DM} (h : DiskM w p bs bw M T) : M.full := by
  obtain ⟨D, _, h2⟩ := h
  exact fun i hi => ⟨(h2.sure i hi).1, (h2.get hi).2⟩
end Go.Proofs.Ytajakmfloeefpaa
