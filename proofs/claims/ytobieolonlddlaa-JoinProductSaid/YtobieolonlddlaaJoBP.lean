/- The law's turned. -/
import Derived.Test.YtobieolonlddlaaJoOp
import Derived.Test.YtobieolonlddlaaOrdM
namespace Go.Proofs.Ytobieolonlddlaa
open Go.RowKit Go.Maps

def trB (c : UInt8) : UInt8 := UInt8.ofNat (97 + (c.toNat - 97 + 13) % 26)
def trn : Nm → Nm
  | [] => []
  | c :: r => trB c :: r
theorem trB_nat {c : UInt8} (_ : nmB c = true) : (trB c).toNat = 97 + (c.toNat - 97 + 13) % 26 := by
  unfold trB
  rw [UInt8.toNat_ofNat']
  omega
theorem nmB_rng {c : UInt8} (h : nmB c = true) : 97 ≤ c.toNat ∧ c.toNat ≤ 122 := by
  unfold nmB at h
  simpa using h
theorem trB_nm {c : UInt8} (h : nmB c = true) : nmB (trB c) = true := by
  have := trB_nat h
  unfold nmB
  rw [decide_eq_true (by omega), decide_eq_true (by omega)]
  rfl
theorem trB_inj {c d : UInt8} (hc : nmB c = true) (hd : nmB d = true) (h : trB c = trB d) : c = d := by
  have h1 := congrArg UInt8.toNat h
  rw [trB_nat hc, trB_nat hd] at h1
  have := nmB_rng hc
  have := nmB_rng hd
  apply UInt8.toNat_inj.1
  omega
theorem trn_nm {l : Nm} (h : isNm l = true) : isNm (trn l) = true := by
  cases l with
  | nil => exact h
  | cons c r =>
    unfold isNm at h ⊢
    unfold trn
    simp only [List.length_cons, List.all_cons, Bool.and_eq_true, decide_eq_true_eq] at h ⊢
    exact ⟨h.1, trB_nm h.2.1, h.2.2⟩
theorem trn_inj {l m : Nm} (hl : isNm l = true) (hm : isNm m = true) (h : trn l = trn m) : l = m := by
  cases l with
  | nil => simp [isNm] at hl
  | cons c r =>
    cases m with
    | nil => simp [isNm] at hm
    | cons d q =>
      unfold isNm at hl hm
      simp only [List.all_cons, Bool.and_eq_true] at hl hm
      unfold trn at h
      injection h with h1 h2
      rw [trB_inj hl.2.1 hm.2.1 h1, h2]
set_option maxRecDepth 100000 in
set_option maxHeartbeats 2000000 in
theorem turned_any (l : Nm) (w : World) (h : isNm l = true) : Calls Try.prog 25 #[.string ⟨l.toArray⟩] w fun e w' => e = .returned (.string ⟨(trn l).toArray⟩) ∧ Below w.heap.size w w' := by
  have hlen := isNm_len h
  cases l with
  | nil => simp [isNm] at h
  | cons c r =>
    have hc : nmB c = true := by
      unfold isNm at h
      simp only [List.all_cons, Bool.and_eq_true] at h
      exact h.2.1
    have hr := nmB_rng hc
    have hn := trB_nat hc
    have hz := ba_size (c :: r)
    have hi : (⟨(c :: r).toArray⟩ : ByteArray)[0]'(by rw [hz]; simp) = c := rfl
    have h1 : (0 : Int) < ((⟨(c :: r).toArray⟩ : ByteArray).size : Int) := by rw [hz]; simp
    have h1r : (1 : Int) ≤ (r.length : Int) + 1 := by omega
    have hex : (⟨(c :: r).toArray⟩ : ByteArray).extract 1 (r.length + 1) = ⟨r.toArray⟩ := by
      apply ByteArray.ext
      rw [ByteArray.data_extract]
      apply Array.toList_inj.1
      simp
    have hzn : 0 < (⟨(c :: r).toArray⟩ : ByteArray).size := by rw [hz]; simp
    have hB : IntKind.u8.wrap (97 + (IntKind.u8.wrap (IntKind.u8.wrap ((c.toNat : Int) - 97) + 13)).tmod 26) = ((trB c).toNat : Int) := by
      rw [hn, IntWalk.u8_in ((c.toNat : Int) - 97) (by omega), IntWalk.u8_in ((c.toNat : Int) - 97 + 13) (by omega), Int.tmod_eq_emod_of_nonneg (by omega), IntWalk.u8_in (97 + ((c.toNat : Int) - 97 + 13) % 26) (by omega)]
      omega
    have hcat : (⟨[trB c].toArray⟩ : ByteArray) ++ ⟨r.toArray⟩ = ⟨(trB c :: r).toArray⟩ := by
      apply ByteArray.ext
      rw [ByteArray.data_append]
      apply Array.toList_inj.1
      simp
    have hcl : ¬ 9223372036854775807 < 1 + r.length := by have := hlen.2; simp only [List.length_cons] at this; omega
    clear hn
    go_enter Try.func25, Try.ntmps25
    go_upto_region 1 with (fail)
    refine wp_region_M (fun _ => true) (fun _ => True) (by kernel_rfl) ?_
    refine wpAnyM_take (i := 0) (v := ?_) rfl (by kernel_rfl) (by kernel_rfl) (by kernel_rfl) (by kernel_rfl) (fun _ _ _ h => h) (Or.inl ⟨by rfl, ?_⟩) trivial ?_
    rotate_left
    · intro w hSw; (try dsimp only at hSw); go_simp; (try with_reducible rfl)
    simp only [Act.put, List.getElem_toArray, List.getElem_cons_zero, List.setIfInBounds_toArray, List.set_cons_zero, List.set_cons_succ]
    refine wpAnyM_take (i := 1) (v := ?_) rfl (by kernel_rfl) (by kernel_rfl) (by kernel_rfl) (by kernel_rfl) (fun _ _ _ h => h) (Or.inl ⟨by rfl, ?_⟩) trivial ?_
    rotate_left
    · intro w hSw; (try dsimp only at hSw); go_simp; (try with_reducible rfl)
    simp only [Act.put, List.getElem_toArray, List.getElem_cons_zero, List.getElem_cons_succ, List.setIfInBounds_toArray, List.set_cons_zero, List.set_cons_succ]
    refine wpAnyM_take (i := 2) (v := ?_) rfl (by kernel_rfl) (by kernel_rfl) (by kernel_rfl) (by kernel_rfl) (fun _ _ _ h => h) (Or.inl ⟨by rfl, ?_⟩) trivial ?_
    rotate_left
    · intro w hSw; (try dsimp only at hSw); go_simp; (try with_reducible rfl)
    simp only [Act.put, List.getElem_toArray, List.getElem_cons_zero, List.getElem_cons_succ, List.setIfInBounds_toArray, List.set_cons_zero, List.set_cons_succ]
    refine wpAnyM_take (i := 3) (v := ?_) rfl (by kernel_rfl) (by kernel_rfl) (by kernel_rfl) (by kernel_rfl) (fun _ _ _ h => h) (Or.inl ⟨by rfl, ?_⟩) trivial ?_
    rotate_left
    · intro w hSw; (try dsimp only at hSw); go_simp; (try with_reducible rfl)
    simp only [Act.put, List.getElem_toArray, List.getElem_cons_zero, List.getElem_cons_succ, List.setIfInBounds_toArray, List.set_cons_zero, List.set_cons_succ]
    refine wpAnyM_take (i := 4) (v := ?_) rfl (by kernel_rfl) (by kernel_rfl) (by kernel_rfl) (by kernel_rfl) (fun _ _ _ h => h) (Or.inl ⟨by rfl, ?_⟩) trivial ?_
    rotate_left
    · intro w hSw; (try dsimp only at hSw); go_simp; (try with_reducible rfl)
    simp only [Act.put, List.getElem_toArray, List.getElem_cons_zero, List.getElem_cons_succ, List.setIfInBounds_toArray, List.set_cons_zero, List.set_cons_succ]
    refine wpAnyM_take (i := 5) (v := ?_) rfl (by kernel_rfl) (by kernel_rfl) (by kernel_rfl) (by kernel_rfl) (fun _ _ _ h => h) (Or.inl ⟨by rfl, ?_⟩) trivial ?_
    rotate_left
    · intro w hSw; (try dsimp only at hSw); go_simp; (try with_reducible rfl)
    simp only [Act.put, List.getElem_toArray, List.getElem_cons_zero, List.getElem_cons_succ, List.setIfInBounds_toArray, List.set_cons_zero, List.set_cons_succ]
    refine wpAnyM_take (i := 8) (v := ?_) rfl (by kernel_rfl) (by kernel_rfl) (by kernel_rfl) (by kernel_rfl) (fun _ _ _ h => h) (Or.inl ⟨by rfl, ?_⟩) trivial ?_
    rotate_left
    · intro w hSw; (try dsimp only at hSw); go_simp; (try with_reducible rfl)
    simp only [Act.put, List.getElem_toArray, List.getElem_cons_zero, List.getElem_cons_succ, List.setIfInBounds_toArray, List.set_cons_zero, List.set_cons_succ]
    refine wpAnyM_take (i := 9) (v := ?_) rfl (by kernel_rfl) (by kernel_rfl) (by kernel_rfl) (by kernel_rfl) (fun _ _ _ h => h) (Or.inl ⟨by rfl, ?_⟩) trivial ?_
    rotate_left
    · intro w hSw; (try dsimp only at hSw); go_simp; (try with_reducible rfl)
    simp only [Act.put, List.getElem_toArray, List.getElem_cons_zero, List.getElem_cons_succ, List.setIfInBounds_toArray, List.set_cons_zero, List.set_cons_succ]
    refine wpAnyM_one (i := 6) (by kernel_rfl) rfl (fun K hK => ?_)
    go_simp
    refine hK.out _ _ (fun _ => trivial) ?_
    clear hK K
    (try rw [hB])
    have hrd : Rd (w.alloc (.cells #[.int .u8 ((trB c).toNat : Int)] 5)).drew (w.heap.size + 1) (some ⟨w.heap.size, 0, none⟩) (u8s [trB c]) := Rd.new w #[.int .u8 ((trB c).toNat : Int)] 5 (0, 0)
    have hcv := strAt hrd (n := 1) (c := 1) rfl
    have HB1 := Lib.hid (((Below.refl w.heap.size w).alloc (Nat.le_refl _) (.cells #[.int .u8 ((trB c).toNat : Int)] 5)).drew)
    refine wpAnyM_one (i := 7) (by kernel_rfl) rfl (fun K hK => ?_)
    go_simp
    refine hK.out _ _ (fun _ => trivial) ?_
    clear hK K
    refine wpAnyM_one (i := 10) (by kernel_rfl) rfl (fun K hK => ?_)
    go_simp
    refine hK.out _ _ (fun _ => trivial) ?_
    clear hK K
    refine wpAnyM_one (i := 11) (by kernel_rfl) rfl (fun K hK => ?_)
    go_simp
    refine hK.out _ _ (fun _ => trivial) ?_
    clear hK K
    refine wpAnyM_done (by kernel_rfl) ?_ _
    go_wp2_with (fail)
    go_ret
    exact ⟨rfl, HB1.out⟩
end Go.Proofs.Ytobieolonlddlaa
