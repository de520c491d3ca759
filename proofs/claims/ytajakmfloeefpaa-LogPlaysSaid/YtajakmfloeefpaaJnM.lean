/- Joined: LogAK LogAL LogAM. -/
import Derived.Test.YtajakmfloeefpaaJnL
import Derived.Test.YtajakmfloeefpaaLogAI
import Derived.Test.YtajakmfloeefpaaJnE
import Derived.Deep.LoopGhost
import Derived.Outline
/- The document's log: Reset, where it is refused. -/
namespace Go.Proofs.Ytajakmfloeefpaa
open Go.RowKit Go.Maps

set_option maxRecDepth 100000 in
set_option maxHeartbeats 4000000 in
theorem rreset_bad (w : World) (X : List Nat) (M : DM) (v : Value) (hv : RefV w X (refOf M) v) (hp : 0 < M.size) (R : List Rec) (lo : Nat) (A : Option Addr) (c : Nat) (ho : w.ownsRow lo 80 2 (.slice A R.length c) R.length (recS R)) (first C next n2 : Int) (hn : n2 < 1 ∨ (¬ n2 < 1 ∧ 4611686018427387904 < n2)) :
    Calls Try.prog 12 #[v, .agg #[.int .i64 first, .int .i64 C, .slice A R.length c, .int .i64 next], .int .i64 n2] w fun e w' => TurnedR w w' X M 1 lo first C next R e := by
  have hv' := hv
  obtain ⟨A1, A2, A3, c1, c2, c3, rfl, _, _, _⟩ := hv'
  obtain ⟨m1, hm1⟩ : ∃ n, n = (refOf M).sure.length := ⟨_, rfl⟩
  obtain ⟨m2, hm2⟩ : ∃ n, n = (refOf M).now.length := ⟨_, rfl⟩
  obtain ⟨m3, hm3⟩ : ∃ n, n = (refOf M).fresh.length := ⟨_, rfl⟩
  obtain ⟨s, hsx⟩ : ∃ n, n = (refOf M).steps := ⟨_, rfl⟩
  obtain ⟨l, hlx⟩ : ∃ n, n = (refOf M).left := ⟨_, rfl⟩
  rw [← hm1, ← hm2, ← hm3, ← hsx, ← hlx] at hv ⊢
  have hlt : ∀ s ∈ (Value.slice A R.length c).ownBlock.toList, s ∉ [w.heap.size + 2, w.heap.size + 3] := fun s hs hm => by
    have := (World.ownsRow.lt ho s (by simpa using hs)).2
    simp at hm
    omega
  have hX4 := ApX.new (first := first) (count := C) (next := next) hv hp ho
  have HX4 := Lib.hid hX4
  have HLT := Lib.hid hlt
  clear hm1 hm2 hm3 hsx hlx hv hX4 hlt ho hp
  rcases hn with hn | ⟨hn, hn3⟩
  all_goals
    go_enter Try.func12, Try.ntmps12
    go_upto_region 1 with (fail)
    generalize ((((w.alloc (.cells #[.slice A1 m1 c1, .slice A2 m2 c2, .slice A3 m3 c3, .int .i64 s, .int .i64 l] 33)).alloc (lgV first C A R.length c next)).alloc dkZ0).alloc lgZ0) = W4 at HX4 ⊢
    go_upto_region 2 with (fail)
    refine wp_noway (re2 HX4 HLT.out _ _ _ _ _ _ _ _ _ _ _ _ _ _ _ _ _ _ _ _ _ _ _ _ _ _ _ _ _ _ _ _ _ _ _ _ _ _ _ _ _ _ _ _ _ _ _ _ _ _ _ _ _ _ _ _ _ _ _ _ _ _ _ _ _ _ _ _ _ _ _ _ _ _ _ _ _ _ _ _ _ ?_)
    intro Q1 Q2 Q3 q1 q2 q3 g1 g2 g3 sq lq v21 v22 w20 hz1 hz2 hz3 hz4 hz5
    go_wp2_with (fail)
    exact bodyPost_ret (resReset hz1 hz2 _ rfl rfl) rfl ⟨_, _, _, _, _, _, _, _, _, _, _, _, _, rfl, hz3, hz4, hz5⟩
end Go.Proofs.Ytajakmfloeefpaa
/- The document's Reset: two rows of numbers that grow. -/
namespace Go.Proofs.Ytajakmfloeefpaa
open Go.RowKit Go.Maps

/-- A row of numbers of the call's own. -/
def OwnN (w : World) (base : Nat) (v : Value) (l : List Nat) : Prop := w.ownsRow base 3 1 v l.length (ints l)
theorem app_int (w : World) (base : Nat) (v : Value) (l : List Nat) (hown : OwnN w base v l) (hB : base ≤ w.heap.size) (x : Nat) (hl : l.length ≤ 5000) :
    ∃ A5 c5 w5, (Builtin.append_ #[70, 70] 70 #[v, .slice (some ⟨w.heap.size, 0, none⟩) 1 1]).run Try.prog (w.alloc (.cells #[.int .i64 (x : Int)] 3)) = .ok (.slice A5 (l.length + 1) c5) w5 ∧ OwnN w5 base (.slice A5 (l.length + 1) c5) (l ++ [x]) ∧ Fr w w5 v.ownBlock.toList ∧ (∀ s ∈ (Value.slice A5 (l.length + 1) c5).ownBlock.toList, s ∈ v.ownBlock.toList ∨ w.heap.size ≤ s) ∧ Below base w w5 := by
  obtain ⟨i, hi, hz0, hz1, hz2⟩ := info_parts infoInt
  have hr : Rd (w.alloc (.cells #[.int .i64 (x : Int)] 3)) (w.alloc (.cells #[.int .i64 (x : Int)] 3)).heap.size (some ⟨w.heap.size, 0, none⟩) (ints [x]) := by
    rw [alloc1_size]
    exact Rd.new w #[.int .i64 (x : Int)] 3 (0, 0)
  obtain ⟨v', w', hrun, h1, h2, h3⟩ := run_appR (P := Try.prog) (w.alloc (.cells #[.int .i64 (x : Int)] 3)) base 70 70 3 i _ 1 8 Try.underlying70 hi hz0 hz1 hz2 rfl (by omega) v l.length (ints l) (World.ownsRow.alloc hown _) (w.alloc (.cells #[.int .i64 (x : Int)] 3)).heap.size (some ⟨w.heap.size, 0, none⟩) 1 1 (ints [x]) rfl hr (fun u hu => by simp [ints] at hu; subst hu; rfl) (by omega) (by omega) (by rw [alloc1_size]; omega)
  obtain ⟨A5, c5, rfl, _, _, _⟩ := own_shape h1
  have e : ints l ++ ints [x] = ints (l ++ [x]) := by simp [ints]
  rw [e] at h1
  refine ⟨A5, c5, w', hrun, ?_, ?_, fun s hs => ?_, ((Below.refl base w).alloc hB _).trans (grown_below' h2 (fun z hz => (World.ownsRow.lt hown z hz).1) (by rw [alloc1_size]; omega))⟩
  · unfold OwnN
    rw [List.length_append]
    exact h1
  · have ha : Fr w (w.alloc (.cells #[.int .i64 (x : Int)] 3)) v.ownBlock.toList := Fr.of_below ((Below.refl w.heap.size w).alloc (Nat.le_refl _) _) _
    refine ha.trans ?_
    cases hv : v.ownBlock with
    | none => rw [hv] at h2; exact Fr.of_grown0 h2 _
    | some b => rw [hv] at h2; exact Fr.of_grown h2
  · rcases h3 with h3 | h3
    · rw [h3] at hs; exact .inl hs
    · rw [h3, alloc1_size] at hs
      simp at hs
      exact .inr (by omega)
/-- Two of them, in blocks of their own. -/
structure TwoN (W w : World) (v9 : Value) (l9 : List Nat) (v10 : Value) (l10 : List Nat) : Prop where
  a : OwnN w W.heap.size v9 l9
  b : OwnN w W.heap.size v10 l10
  ne : ∀ s ∈ v9.ownBlock.toList, s ∉ v10.ownBlock.toList
  below : Below W.heap.size W w
theorem TwoN.nil (W : World) : TwoN W W (.slice none 0 0) [] (.slice none 0 0) [] := ⟨World.ownsRow_nil _ _ _ _, World.ownsRow_nil _ _ _ _, (fun s hs => by cases hs), Below.refl _ _⟩
theorem OwnN.lt {w : World} {base : Nat} {v : Value} {l : List Nat} (h : OwnN w base v l) : ∀ s ∈ v.ownBlock.toList, base ≤ s ∧ s < w.heap.size := fun s hs => World.ownsRow.lt h s (by simpa using hs)
theorem TwoN.left {W w : World} {v9 v10 : Value} {l9 l10 : List Nat} (h : TwoN W w v9 l9 v10 l10) (x : Nat) (hl : l9.length ≤ 5000) :
    ∃ A5 c5 w5, (Builtin.append_ #[70, 70] 70 #[v9, .slice (some ⟨w.heap.size, 0, none⟩) 1 1]).run Try.prog (w.alloc (.cells #[.int .i64 (x : Int)] 3)) = .ok (.slice A5 (l9.length + 1) c5) w5 ∧ TwoN W w5 (.slice A5 (l9.length + 1) c5) (l9 ++ [x]) v10 l10 := by
  obtain ⟨A5, c5, w5, h1, h2, h3, h4, h5⟩ := app_int w W.heap.size v9 l9 h.a h.below.size x hl
  refine ⟨A5, c5, w5, h1, h2, rowFrS h.b h3 (fun s hs hm => h.ne s hm hs), fun s hs hm => ?_, h.below.trans h5⟩
  rcases h4 s hs with e | e
  · exact h.ne s e hm
  · have := (h.b.lt s hm).2; omega
theorem TwoN.right {W w : World} {v9 v10 : Value} {l9 l10 : List Nat} (h : TwoN W w v9 l9 v10 l10) (x : Nat) (hl : l10.length ≤ 5000) :
    ∃ A5 c5 w5, (Builtin.append_ #[70, 70] 70 #[v10, .slice (some ⟨w.heap.size, 0, none⟩) 1 1]).run Try.prog (w.alloc (.cells #[.int .i64 (x : Int)] 3)) = .ok (.slice A5 (l10.length + 1) c5) w5 ∧ TwoN W w5 v9 l9 (.slice A5 (l10.length + 1) c5) (l10 ++ [x]) := by
  obtain ⟨A5, c5, w5, h1, h2, h3, h4, h5⟩ := app_int w W.heap.size v10 l10 h.b h.below.size x hl
  refine ⟨A5, c5, w5, h1, rowFrS h.a h3 (fun s hs hm => h.ne s hs hm), h2, fun s hs hm => ?_, h.below.trans h5⟩
  rcases h4 s hm with e | e
  · exact h.ne s hs e
  · have := (h.a.lt s hs).2; omega
theorem wpL_appK {ops : Array Oper} {rest : List Oper} {o : Oper} {a : Act} {Q : Exit → Act → World → Prop} (w : World) (hgd : o.guard = none) (s x : Operand) (t : TypeId)
    (ho : o.op = .call { callee := .builtin .append, args := #[s, x], argTypes := #[t, t] }) (hty : o.type = t) (v y v' : Value) (w' : World) (hs : a.eval s = v) (hx : a.eval x = y)
    (hrun : (Builtin.append_ #[t, t] t #[v, y]).run Try.prog w = .ok v' w') (h : wpList Try.prog ops Q rest (a.put o.dst v') w') : wpList Try.prog ops Q (o :: rest) a w := by
  refine wpList_plain hgd fun K hK => ?_
  exact step_appK' w s x t ho hty v y v' w' hs hx hrun (hK _ _ h)
end Go.Proofs.Ytajakmfloeefpaa
/- The document's log: Reset, where it goes through. -/
namespace Go.Proofs.Ytajakmfloeefpaa
open Go.RowKit Go.Maps

theorem wipe_form {w : World} {X : List Nat} {M : DM} {cd : Int} {args : Array Value} (h : Calls Try.prog 34 args w fun e w' => ∃ v', e = .returned (.tuple #[v', .int .i64 cd]) ∧ RefV w' X (refOf M) v' ∧ Below w.heap.size w w') :
    Calls Try.prog 34 args w fun e w' => ∃ (B1 B2 B3 : Option Addr) (r1 r2 r3 f1 f2 f3 : Nat) (s9 l9 : Int), e = .returned (.tuple #[.agg #[.slice B1 r1 f1, .slice B2 r2 f2, .slice B3 r3 f3, .int .i64 s9, .int .i64 l9], .int .i64 cd]) ∧ RefV w' X (refOf M) (.agg #[.slice B1 r1 f1, .slice B2 r2 f2, .slice B3 r3 f3, .int .i64 s9, .int .i64 l9]) ∧ Below w.heap.size w w' := by
  refine h.mono ?_
  rintro e w' ⟨v', h1, h2, h3⟩
  have h2' := h2
  obtain ⟨A1, A2, A3, c1, c2, c3, rfl, _, _, _⟩ := h2'
  exact ⟨_, _, _, _, _, _, _, _, _, _, _, h1, h2, h3⟩
/-- What the document's Reset answers. -/
def ResetR (w w' : World) (X : List Nat) (Rz : Int × DM) (lo : Nat) (first C next n2 : Int) (rs : List Rec) (e : Ending) : Prop :=
  (Rz.1 = 0 → TurnedR w w' X Rz.2 0 lo first C n2 [] e) ∧ (Rz.1 ≠ 0 → TurnedR w w' X Rz.2 30 lo first C next rs e)
set_option maxRecDepth 100000 in
set_option maxHeartbeats 4000000 in
theorem rreset_ok (w : World) (X : List Nat) (M : DM) (T : Nat) (v : Value) (hv : RefV w X (refOf M) v) (hk : M.Ok T) (hst : M.steps + 8400 ≤ 1000000000) (hp : 0 < M.size) (hX : ∀ x ∈ X, x < w.heap.size) (R : List Rec) (first : Nat) (lo : Nat) (A : Option Addr) (c : Nat) (ho : w.ownsRow lo 80 2 (.slice A R.length c) R.length (recS R)) (hd : ∀ x ∈ R, x.2.length ≤ 4000) (C next n2 : Int) (hn1 : ¬ n2 < 1) (hn2 : ¬ 4611686018427387904 < n2) (hE : endR first R ≤ 4096) (hsz : endR first R ≤ M.size) :
    Calls Try.prog 12 #[v, .agg #[.int .i64 (first : Int), .int .i64 C, .slice A R.length c, .int .i64 next], .int .i64 n2] w fun e w' => ResetR w w' X (runOps (rstOps first R) M) lo first C next n2 R e := by
  have hv' := hv
  obtain ⟨A1, A2, A3, c1, c2, c3, rfl, _, _, _⟩ := hv'
  obtain ⟨m1, hm1⟩ : ∃ n, n = (refOf M).sure.length := ⟨_, rfl⟩
  obtain ⟨m2, hm2⟩ : ∃ n, n = (refOf M).now.length := ⟨_, rfl⟩
  obtain ⟨m3, hm3⟩ : ∃ n, n = (refOf M).fresh.length := ⟨_, rfl⟩
  obtain ⟨s, hsx⟩ : ∃ n, n = (refOf M).steps := ⟨_, rfl⟩
  obtain ⟨l, hlx⟩ : ∃ n, n = (refOf M).left := ⟨_, rfl⟩
  rw [← hm1, ← hm2, ← hm3, ← hsx, ← hlx] at hv ⊢
  have hlt : ∀ s ∈ (Value.slice A R.length c).ownBlock.toList, s < w.heap.size := fun s hs => (World.ownsRow.lt ho s (by simpa using hs)).2
  have hX4 := ApX.new (first := (first : Int)) (count := C) (next := next) hv hp ho
  obtain ⟨Rz, hRz⟩ : ∃ Rz, Rz = runOps (rstOps first R) M := ⟨_, rfl⟩
  rw [← hRz]
  have hN : R.length ≤ 4096 := by have := endR_le first R; omega
  have hNI : (R.length : Int) ≤ 4096 := by omega
  have hfI : (first : Int) ≤ 4096 := by have := endR_le first R; omega
  have HX4 := Lib.hid (And.intro hX4 hlt)
  have HRZ := Lib.hid hRz
  have HP := Lib.hid hp
  have HK := Lib.hid (And.intro hk (And.intro hst (And.intro hX (And.intro hd (And.intro hE (And.intro hsz hN))))))
  clear hm1 hm2 hm3 hsx hlx hv hX4 hlt ho hp hRz hk hst hX hd hE hsz hN
  go_enter Try.func12, Try.ntmps12
  go_upto_region 1 with (fail)
  generalize ((((w.alloc (.cells #[.slice A1 m1 c1, .slice A2 m2 c2, .slice A3 m3 c3, .int .i64 s, .int .i64 l] 33)).alloc (lgV (first : Int) C A R.length c next)).alloc dkZ0).alloc lgZ0) = W4 at HX4 ⊢
  have HRD := Lib.hid (Rd.ofOwn HX4.out.1.recs)
  have hkk : ∀ WW, Below W4.heap.size W4 WW → WW.cell? ⟨w.heap.size + 1, 0, none⟩ = some (.int .i64 (first : Int)) ∧ WW.cell? ⟨w.heap.size + 1, 2, none⟩ = some (.slice A R.length c) := fun WW hW => by
    have g2 := (hW.block _ (heap_lt HX4.out.1.log)).trans HX4.out.1.log
    exact ⟨cell_of_row _ _ 0 _ _ _ g2, cell_of_row _ _ 2 _ _ _ g2⟩
  have HKK := Lib.hid hkk
  obtain ⟨k0, k2⟩ := hkk W4 (Below.refl _ _)
  clear hkk
  go_wp2_with (fail)
  clear k0 k2
  generalize hNN : R.length = N at hNI ⊢
  have HNN := Lib.hid hNN
  clear hNN
  go_loopw [9, 10, 11, 12, 13, 28] (fun v9 v10 v11 _ _ v28 wr => ∃ (k : Nat) (A9 : Option Addr) (n9 c9 : Nat) (A10 : Option Addr) (n10 c10 : Nat), k ≤ N ∧ v28 = .int .i64 (k : Int) ∧ v11 = .int .i64 (endR first (R.take k) : Int) ∧ v9 = .slice A9 n9 c9 ∧ v10 = .slice A10 n10 c10 ∧ Hid (TwoN W4 wr (.slice A9 n9 c9) ((heads first R).take k) (.slice A10 n10 c10) (oth first R k 0) ∧ n9 = ((heads first R).take k).length ∧ n10 = (oth first R k 0).length)) (fun _ _ _ _ _ v28 _ => N - (intOf v28).toNat)
  case atStart => exact ⟨0, none, 0, 0, none, 0, 0, by omega, rfl, rfl, rfl, rfl, Lib.hid ⟨TwoN.nil W4, rfl, rfl⟩⟩
  case round =>
    obtain ⟨k, A9, n9, c9, A10, n10, c10, hk, rfl, rfl, rfl, rfl, hrel⟩ := hrel
    rename World => wr
    by_cases hkn : k < N
    · have hkI : (k : Int) < (N : Int) := by omega
      have hkR : k < R.length := by rw [HNN.out]; exact hkn
      obtain ⟨x, hx⟩ : ∃ x, x = endR first (R.take k) := ⟨_, rfl⟩
      have hxe := end_take R first k hkR
      obtain ⟨m, hm⟩ : ∃ m, m = secs (R[k].2).length := ⟨_, rfl⟩
      rw [← hx, ← hm] at hxe
      have hxm : x + 1 + m ≤ 4096 := Nat.le_trans hxe HK.out.2.2.2.2.1
      have hxI : (x : Int) + 1 + (m : Int) ≤ 4096 := by omega
      have hht := heads_take R first k x (by rw [hx]; exact heads_at R first k hkR)
      have hnx := oth_next first R k hkR
      rw [← hm] at hnx
      obtain ⟨ab, ao, hA, hab, -, hdt⟩ := recS_at HRD.out hkR
      have hdl : (R[k].2).length ≤ 4000 := HK.out.2.2.2.1 _ (List.getElem_mem hkR)
      obtain ⟨dk, hdk⟩ : ∃ dk, dk = R[k].2 := ⟨_, rfl⟩
      rw [← hdk] at hdt hdl hm
      have hsz : (⟨dk.toArray⟩ : ByteArray).size = dk.length := by simp [ByteArray.size]
      have hsc := fun W => rsecs_any dk.length W (by omega)
      rw [← hm] at hsc
      obtain ⟨dn, hdn⟩ : ∃ dn, dn = dk.length := ⟨_, rfl⟩
      rw [← hdn] at hsz hsc
      have HSC := Lib.hid hsc
      have hl9 : n9 ≤ 5000 := by rw [hrel.out.2.1, List.length_take]; have := HK.out.2.2.2.2.2.2; rw [HNN.out] at this; omega
      obtain ⟨A9', c9', w5, hrun, h2⟩ := hrel.out.1.left x (by rw [← hrel.out.2.1]; exact hl9)
      rw [← hrel.out.2.1, ← hht] at h2
      rw [← hrel.out.2.1] at hrun
      have H2 := Lib.hid (And.intro h2 (And.intro (show n9 + 1 = ((heads first R).take (k + 1)).length by rw [hht, List.length_append, ← hrel.out.2.1]; rfl) hrel.out.2.2))
      have HEN := Lib.hid (show endR first (R.take (k + 1)) = x + 1 + m from by rw [endR_take first R k hkR, ← hx, ← hdk, ← hm])
      have HM := Lib.hid (And.intro hx (And.intro hnx (And.intro hkR (And.intro hab hdt))))
      have hkk2 := (HKK.out wr hrel.out.1.below).2
      rw [HNN.out] at hkk2
      rw [← hx]
      clear h2 hx hxe hm hht hnx hab hdt hdk hsc hdl hkR hdn hrel
      subst hA
      go_upto_region 9 with (at_builtin; refine wpL_appK _ rfl (.tmp 31) (.tmp 33) 70 rfl rfl _ _ _ _ rfl rfl hrun ?_)
      clear hrun hkk2
      go_wp2_with (fail)
      go_loopw [10, 11, 13] (fun v10 v11 v13 wi => ∃ (j : Nat) (B10 : Option Addr) (q10 d10 : Nat), j ≤ m ∧ v13 = .int .i64 (j : Int) ∧ v11 = .int .i64 ((x : Int) + 1 + (j : Int)) ∧ v10 = .slice B10 q10 d10 ∧ Hid (TwoN W4 wi (.slice A9' (n9 + 1) c9') ((heads first R).take (k + 1)) (.slice B10 q10 d10) (oth first R k j) ∧ q10 = (oth first R k j).length)) (fun _ _ v13 _ => m - (intOf v13).toNat)
      case atStart => exact ⟨0, _, _, _, by omega, rfl, by simp, rfl, Lib.hid ⟨H2.out.1, H2.out.2.2⟩⟩
      case round =>
        obtain ⟨j, B10, q10, d10, hj, rfl, rfl, rfl, hrel⟩ := hrel
        rename World => wi
        have hkk2 := (HKK.out wi hrel.out.1.below).2
        rw [HNN.out] at hkk2
        have hdt := (hrel.out.1.below.cell (p := ⟨ab, ao + k * 2 + 1, none⟩) HM.out.2.2.2.1).trans HM.out.2.2.2.2
        by_cases hjm : j < m
        · have hjI : (j : Int) < (m : Int) := by omega
          have hlo := oth_len first R k j
          rw [← HM.out.1] at hlo
          have hsn := oth_snoc first R k j
          rw [← HM.out.1] at hsn
          obtain ⟨B10', d10', w6, hrun, h2⟩ := hrel.out.1.right (x + 1 + j) (by omega)
          rw [← hrel.out.2, ← hsn] at h2
          rw [← hrel.out.2, show ((x + 1 + j : Nat) : Int) = (x : Int) + 1 + (j : Int) by omega] at hrun
          have H3 := Lib.hid (And.intro h2 (show q10 + 1 = (oth first R k (j + 1)).length by rw [hsn, List.length_append, ← hrel.out.2]; rfl))
          clear h2 hsn hlo hrel
          go_wp2_with (first
            | (go_at_call 37; (with_reducible refine (HSC.out _).mono ?_); rintro e w3 ⟨rfl, rfl⟩)
            | (at_builtin; refine wpL_appK _ rfl (.tmp 49) (.tmp 51) 70 rfl rfl _ _ _ _ rfl rfl hrun ?_))
          go_roundw
          case rel => exact ⟨j + 1, _, _, _, by omega, by go_num, by first | (simp; done) | (simp; omega), rfl, H3⟩
          case measure => simp [intOf]; omega
        · obtain rfl : j = m := by omega
          have hjI : ¬ (j : Int) < (j : Int) := by omega
          have H3 := Lib.hid (show TwoN W4 wi (.slice A9' (n9 + 1) c9') ((heads first R).take (k + 1)) (.slice B10 q10 d10) (oth first R (k + 1) 0) ∧ q10 = (oth first R (k + 1) 0).length from by
            have h := hrel.out
            rw [HM.out.2.1] at h
            exact h)
          clear hrel
          go_wp2_with (go_at_call 37; (with_reducible refine (HSC.out _).mono ?_); rintro e w3 ⟨rfl, rfl⟩)
          go_roundw
          case rel => exact ⟨k + 1, _, _, _, _, _, _, by omega, by go_num, by rw [HEN.out]; first | (simp; done) | (simp; omega), rfl, rfl, Lib.hid ⟨H3.out.1, H2.out.2.1, H3.out.2⟩⟩
          case measure => simp [intOf]; omega
    · obtain rfl : k = N := by omega
      have hkI : ¬ (k : Int) < (k : Int) := by omega
      have hall : TwoN W4 wr (.slice A9 n9 c9) (heads first R) (.slice A10 n10 c10) (others first R) ∧ n9 = (heads first R).length ∧ n10 = (others first R).length := by
        have h := hrel.out
        rw [List.take_of_length_le (show (heads first R).length ≤ k by rw [heads_len, HNN.out]; exact Nat.le_refl _), ← HNN.out, oth_end] at h
        exact h
      have hN9 : n9 = k := by rw [hall.2.1, heads_len]; exact HNN.out
      have HX := Lib.hid (HX4.out.1.kept hall.1.below)
      have HT := Lib.hid hall
      clear hall hrel
      by_cases h0 : k = 0
      · have hR0 : R = [] := List.eq_nil_of_length_eq_zero (by rw [HNN.out]; exact h0)
        have HZ := Lib.hid (show Rz = (0, M) from by rw [HRZ.out]; unfold rstOps; rw [if_pos hR0]; rfl)
        have hn0 : ¬ (0 : Int) < (n9 : Int) := by omega
        clear hR0 h0 hN9 hNI
        go_upto_region 23 with (fail)
        refine wp_noway (re23 (next2 := n2) HX (fun s hs hm => by have := HX4.out.2 s hs; simp at hm; omega) _ _ _ _ _ _ _ _ _ _ _ _ _ _ _ _ _ _ _ _ _ _ _ _ _ _ _ _ _ _ _ _ _ _ _ _ _ _ _ _ _ _ _ _ _ _ _ _ _ _ _ _ _ _ _ _ _ _ _ _ _ _ _ _ _ _ _ _ _ _ _ _ _ _ _ _ _ _ _ _ ?_)
        intro Q1 Q2 Q3 q1 q2 q3 g1 g2 g3 sq lq v78 v79 v80 v81 v82 v83 v84 w20 hz1 hz2 hz3 hz4 hz5
        go_wp2_with (fail)
        exact bodyPost_ret (resReset hz1 hz2 _ rfl rfl) rfl (by rw [HZ.out]; exact ⟨fun _ => ⟨_, _, _, _, _, _, _, _, _, _, _, none, 0, rfl, hz3, World.ownsRow_nil _ _ _ _, hz5⟩, fun h => absurd rfl h⟩)
      · have hn0 : (0 : Int) < (n9 : Int) := by omega
        have hRn : R ≠ [] := fun e => h0 (by rw [← HNN.out, e]; rfl)
        obtain ⟨P1, P2, P3, p1, p2, p3, e1, e2, e3, sk, lk, hg, hvk⟩ := HX.out.box
        have HG := Lib.hid hg
        have hXk := HX.out.refs HK.out.2.2.1
        have x0 := cell_of_row wr (w.heap.size) 0 _ _ _ hg; have x1 := cell_of_row wr (w.heap.size) 1 _ _ _ hg; have x2 := cell_of_row wr (w.heap.size) 2 _ _ _ hg; have x3 := cell_of_row wr (w.heap.size) 3 _ _ _ hg; have x4 := cell_of_row wr (w.heap.size) 4 _ _ _ hg
        have ha := HT.out.1.a
        unfold OwnN at ha
        rw [HT.out.2.1] at ha
        have hw := wipe_form (rwipe_any wr (w.heap.size :: (w.heap.size + 1) :: (w.heap.size + 2) :: (w.heap.size + 3) :: X) M T _ hvk HK.out.1 HP.out hXk A9 c9 wr.heap.size (heads first R) (by rw [heads_len]; have := HK.out.2.1; have := HK.out.2.2.2.2.2.2; omega) (Rd.ofOwn ha) (Nat.le_refl _) (fun i hi => Nat.lt_of_lt_of_le (heads_ge hi).2 HK.out.2.2.2.2.2.1) (by rw [heads_len]; exact HK.out.2.2.2.2.2.2))
        rw [← HT.out.2.1] at hw
        have hf1 := runOps_facts (wipeOps (heads first R)) M
        have hwl : (wipeOps (heads first R)).length ≤ 4097 := by simp [wipeOps, zeroOps, heads_len]; have := HK.out.2.2.2.2.2.2; omega
        have hz0 : Rz = if (runOps (wipeOps (heads first R)) M).1 = 0 then runOps (wipeOps (others first R)) (runOps (wipeOps (heads first R)) M).2 else runOps (wipeOps (heads first R)) M := by rw [HRZ.out]; unfold rstOps; rw [if_neg hRn, runOps_append]
        generalize runOps (wipeOps (heads first R)) M = PP at hw hf1 hz0
        obtain ⟨cd1, M1⟩ := PP
        dsimp only at hw hf1 hz0
        have hok : M1.Ok T := ⟨by rw [hf1.1]; exact HK.out.1.size, by have := HK.out.2.1; omega, Nat.le_trans hf1.2.2.1 HK.out.1.left, HK.out.1.T⟩
        have HF1 := Lib.hid (And.intro hok (And.intro hf1.1 (show M1.steps + 4300 ≤ 1000000000 by have := HK.out.2.1; omega)))
        have HW := Lib.hid hw
        have HZ0 := Lib.hid hz0
        have hcd := hf1.2.2.2
        clear hw hf1 hz0 hwl hok ha hRn h0 hN9 hNI hg hvk hXk
        rcases hcd with rfl | rfl
        · go_upto_region 19 with (go_at_call 34; (with_reducible refine HW.out.mono ?_); rintro e w9 ⟨B1, B2, B3, r1, r2, r3, f1, f2, f3, s9, l9, rfl, hR9, hb9⟩; have hg9 := (hb9.block _ (heap_lt HG.out)).trans HG.out; have u0 := cell_of_row w9 (w.heap.size) 0 _ _ _ hg9; have u1 := cell_of_row w9 (w.heap.size) 1 _ _ _ hg9; have u2 := cell_of_row w9 (w.heap.size) 2 _ _ _ hg9; have u3 := cell_of_row w9 (w.heap.size) 3 _ _ _ hg9; have u4 := cell_of_row w9 (w.heap.size) 4 _ _ _ hg9; have t0 := frozen_of_row w9 (w.heap.size) 0 _ _ hg9; have t1 := frozen_of_row w9 (w.heap.size) 1 _ _ hg9; have t2 := frozen_of_row w9 (w.heap.size) 2 _ _ hg9; have t3 := frozen_of_row w9 (w.heap.size) 3 _ _ hg9; have t4 := frozen_of_row w9 (w.heap.size) 4 _ _ hg9)
          have HX9 := Lib.hid (HX.out.put HX4.out.2 hb9 hR9)
          have ho10 := rowFrS (own_below HT.out.1.b hb9 (Nat.le_refl _)) (fr5 w9 w.heap.size (.slice B1 r1 f1) (.slice B2 r2 f2) (.slice B3 r3 f3) (.int .i64 s9) (.int .i64 l9)) (fun s hs hm => by have h1 := (HT.out.1.b.lt s hs).1; have h2 := HX4.out.1.size; simp at hm; omega)
          generalize (((((w9.setCell ⟨w.heap.size, 0, none⟩ (.slice B1 r1 f1)).setCell ⟨w.heap.size, 1, none⟩ (.slice B2 r2 f2)).setCell ⟨w.heap.size, 2, none⟩ (.slice B3 r3 f3)).setCell ⟨w.heap.size, 3, none⟩ (.int .i64 s9)).setCell ⟨w.heap.size, 4, none⟩ (.int .i64 l9)) = w10 at HX9 ho10 ⊢
          clear hb9 hR9 hg9 u0 u1 u2 u3 u4 t0 t1 t2 t3 t4 x0 x1 x2 x3 x4 HW HG
          have hz := HZ0.out
          first | rw [if_pos rfl] at hz | rw [if_pos trivial] at hz
          obtain ⟨P1, P2, P3, p1, p2, p3, e1, e2, e3, sk, lk, hg, hvk⟩ := HX9.out.box
          have HG := Lib.hid hg
          have hXk := HX9.out.refs HK.out.2.2.1
          have x0 := cell_of_row w10 (w.heap.size) 0 _ _ _ hg; have x1 := cell_of_row w10 (w.heap.size) 1 _ _ _ hg; have x2 := cell_of_row w10 (w.heap.size) 2 _ _ _ hg; have x3 := cell_of_row w10 (w.heap.size) 3 _ _ _ hg; have x4 := cell_of_row w10 (w.heap.size) 4 _ _ _ hg
          rw [HT.out.2.2] at ho10
          have hlo := others_len R first
          have hw := wipe_form (rwipe_any w10 (w.heap.size :: (w.heap.size + 1) :: (w.heap.size + 2) :: (w.heap.size + 3) :: X) M1 T _ hvk HF1.out.1 (by rw [HF1.out.2.1]; exact HP.out) hXk A10 c10 w10.heap.size (others first R) (by have := HF1.out.2.2; have := HK.out.2.2.2.2.1; omega) (Rd.ofOwn ho10) (Nat.le_refl _) (fun i hi => by rw [HF1.out.2.1]; exact Nat.lt_of_lt_of_le (others_ge hi).2 HK.out.2.2.2.2.2.1) (by have := HK.out.2.2.2.2.1; omega))
          rw [← HT.out.2.2] at hw
          have hf1 := runOps_facts (wipeOps (others first R)) M1
          generalize runOps (wipeOps (others first R)) M1 = PP at hw hf1 hz
          obtain ⟨cd2, M2⟩ := PP
          dsimp only at hw hf1
          have HW := Lib.hid hw
          have HZ := Lib.hid hz
          have hcd := hf1.2.2.2
          clear hw hf1 hz ho10 hlo hg hvk hXk
          rcases hcd with rfl | rfl
          · go_upto_region 21 with (go_at_call 34; (with_reducible refine HW.out.mono ?_); rintro e w9 ⟨B1, B2, B3, r1, r2, r3, f1, f2, f3, s9, l9, rfl, hR9, hb9⟩; have hg9 := (hb9.block _ (heap_lt HG.out)).trans HG.out; have u0 := cell_of_row w9 (w.heap.size) 0 _ _ _ hg9; have u1 := cell_of_row w9 (w.heap.size) 1 _ _ _ hg9; have u2 := cell_of_row w9 (w.heap.size) 2 _ _ _ hg9; have u3 := cell_of_row w9 (w.heap.size) 3 _ _ _ hg9; have u4 := cell_of_row w9 (w.heap.size) 4 _ _ _ hg9; have t0 := frozen_of_row w9 (w.heap.size) 0 _ _ hg9; have t1 := frozen_of_row w9 (w.heap.size) 1 _ _ hg9; have t2 := frozen_of_row w9 (w.heap.size) 2 _ _ hg9; have t3 := frozen_of_row w9 (w.heap.size) 3 _ _ hg9; have t4 := frozen_of_row w9 (w.heap.size) 4 _ _ hg9)
            have HX12 := Lib.hid (HX9.out.put HX4.out.2 hb9 hR9)
            generalize (((((w9.setCell ⟨w.heap.size, 0, none⟩ (.slice B1 r1 f1)).setCell ⟨w.heap.size, 1, none⟩ (.slice B2 r2 f2)).setCell ⟨w.heap.size, 2, none⟩ (.slice B3 r3 f3)).setCell ⟨w.heap.size, 3, none⟩ (.int .i64 s9)).setCell ⟨w.heap.size, 4, none⟩ (.int .i64 l9)) = w12 at HX12 ⊢
            clear hb9 hR9 hg9 u0 u1 u2 u3 u4 t0 t1 t2 t3 t4 x0 x1 x2 x3 x4 HW HG
            go_upto_region 23 with (fail)
            refine wp_noway (re23 (next2 := n2) HX12 (fun s hs hm => by have := HX4.out.2 s hs; simp at hm; omega) _ _ _ _ _ _ _ _ _ _ _ _ _ _ _ _ _ _ _ _ _ _ _ _ _ _ _ _ _ _ _ _ _ _ _ _ _ _ _ _ _ _ _ _ _ _ _ _ _ _ _ _ _ _ _ _ _ _ _ _ _ _ _ _ _ _ _ _ _ _ _ _ _ _ _ _ _ _ _ _ ?_)
            intro Q1 Q2 Q3 q1 q2 q3 g1 g2 g3 sq lq v78 v79 v80 v81 v82 v83 v84 w20 hz1 hz2 hz3 hz4 hz5
            go_wp2_with (fail)
            exact bodyPost_ret (resReset hz1 hz2 _ rfl rfl) rfl (by rw [HZ.out]; exact ⟨fun _ => ⟨_, _, _, _, _, _, _, _, _, _, _, none, 0, rfl, hz3, World.ownsRow_nil _ _ _ _, hz5⟩, fun h => absurd rfl h⟩)
          · go_upto_region 21 with (go_at_call 34; (with_reducible refine HW.out.mono ?_); rintro e w9 ⟨B1, B2, B3, r1, r2, r3, f1, f2, f3, s9, l9, rfl, hR9, hb9⟩; have hg9 := (hb9.block _ (heap_lt HG.out)).trans HG.out; have u0 := cell_of_row w9 (w.heap.size) 0 _ _ _ hg9; have u1 := cell_of_row w9 (w.heap.size) 1 _ _ _ hg9; have u2 := cell_of_row w9 (w.heap.size) 2 _ _ _ hg9; have u3 := cell_of_row w9 (w.heap.size) 3 _ _ _ hg9; have u4 := cell_of_row w9 (w.heap.size) 4 _ _ _ hg9; have t0 := frozen_of_row w9 (w.heap.size) 0 _ _ hg9; have t1 := frozen_of_row w9 (w.heap.size) 1 _ _ hg9; have t2 := frozen_of_row w9 (w.heap.size) 2 _ _ hg9; have t3 := frozen_of_row w9 (w.heap.size) 3 _ _ hg9; have t4 := frozen_of_row w9 (w.heap.size) 4 _ _ hg9)
            have HX12 := Lib.hid (HX9.out.put HX4.out.2 hb9 hR9)
            generalize (((((w9.setCell ⟨w.heap.size, 0, none⟩ (.slice B1 r1 f1)).setCell ⟨w.heap.size, 1, none⟩ (.slice B2 r2 f2)).setCell ⟨w.heap.size, 2, none⟩ (.slice B3 r3 f3)).setCell ⟨w.heap.size, 3, none⟩ (.int .i64 s9)).setCell ⟨w.heap.size, 4, none⟩ (.int .i64 l9)) = w12 at HX12 ⊢
            clear hb9 hR9 hg9 u0 u1 u2 u3 u4 t0 t1 t2 t3 t4 x0 x1 x2 x3 x4 HW HG
            go_upto_region 22 with (fail)
            refine wp_noway (re22 HX12 (fun s hs hm => by have := HX4.out.2 s hs; simp at hm; omega) _ _ _ _ _ _ _ _ _ _ _ _ _ _ _ _ _ _ _ _ _ _ _ _ _ _ _ _ _ _ _ _ _ _ _ _ _ _ _ _ _ _ _ _ _ _ _ _ _ _ _ _ _ _ _ _ _ _ _ _ _ _ _ _ _ _ _ _ _ _ _ _ _ _ _ _ _ _ _ _ ?_)
            intro Q1 Q2 Q3 q1 q2 q3 g1 g2 g3 sq lq v75 v76 v77 w20 hz1 hz2 hz3 hz4 hz5
            go_wp2_with (fail)
            exact bodyPost_ret (resReset hz1 hz2 _ rfl rfl) rfl (by rw [HZ.out]; exact ⟨fun h => absurd h (by simp), fun _ => ⟨_, _, _, _, _, _, _, _, _, _, _, _, _, rfl, hz3, hz4, hz5⟩⟩)
        · go_upto_region 19 with (go_at_call 34; (with_reducible refine HW.out.mono ?_); rintro e w9 ⟨B1, B2, B3, r1, r2, r3, f1, f2, f3, s9, l9, rfl, hR9, hb9⟩; have hg9 := (hb9.block _ (heap_lt HG.out)).trans HG.out; have u0 := cell_of_row w9 (w.heap.size) 0 _ _ _ hg9; have u1 := cell_of_row w9 (w.heap.size) 1 _ _ _ hg9; have u2 := cell_of_row w9 (w.heap.size) 2 _ _ _ hg9; have u3 := cell_of_row w9 (w.heap.size) 3 _ _ _ hg9; have u4 := cell_of_row w9 (w.heap.size) 4 _ _ _ hg9; have t0 := frozen_of_row w9 (w.heap.size) 0 _ _ hg9; have t1 := frozen_of_row w9 (w.heap.size) 1 _ _ hg9; have t2 := frozen_of_row w9 (w.heap.size) 2 _ _ hg9; have t3 := frozen_of_row w9 (w.heap.size) 3 _ _ hg9; have t4 := frozen_of_row w9 (w.heap.size) 4 _ _ hg9)
          have HX9 := Lib.hid (HX.out.put HX4.out.2 hb9 hR9)
          generalize (((((w9.setCell ⟨w.heap.size, 0, none⟩ (.slice B1 r1 f1)).setCell ⟨w.heap.size, 1, none⟩ (.slice B2 r2 f2)).setCell ⟨w.heap.size, 2, none⟩ (.slice B3 r3 f3)).setCell ⟨w.heap.size, 3, none⟩ (.int .i64 s9)).setCell ⟨w.heap.size, 4, none⟩ (.int .i64 l9)) = w10 at HX9 ⊢
          clear hb9 hR9 hg9 u0 u1 u2 u3 u4 t0 t1 t2 t3 t4 x0 x1 x2 x3 x4 HW HG
          have hz := HZ0.out
          first | rw [if_neg (by decide)] at hz | rw [if_neg (by simp)] at hz
          have HZ := Lib.hid hz
          clear hz
          go_upto_region 22 with (fail)
          refine wp_noway (re22 HX9 (fun s hs hm => by have := HX4.out.2 s hs; simp at hm; omega) _ _ _ _ _ _ _ _ _ _ _ _ _ _ _ _ _ _ _ _ _ _ _ _ _ _ _ _ _ _ _ _ _ _ _ _ _ _ _ _ _ _ _ _ _ _ _ _ _ _ _ _ _ _ _ _ _ _ _ _ _ _ _ _ _ _ _ _ _ _ _ _ _ _ _ _ _ _ _ _ ?_)
          intro Q1 Q2 Q3 q1 q2 q3 g1 g2 g3 sq lq v75 v76 v77 w20 hz1 hz2 hz3 hz4 hz5
          go_wp2_with (fail)
          exact bodyPost_ret (resReset hz1 hz2 _ rfl rfl) rfl (by rw [HZ.out]; exact ⟨fun h => absurd h (by simp), fun _ => ⟨_, _, _, _, _, _, _, _, _, _, _, _, _, rfl, hz3, hz4, hz5⟩⟩)
end Go.Proofs.Ytajakmfloeefpaa
