/- DiskLast: the walk. -/
import Derived.Test.YtpimcoejhabkgaaDskX
import Derived.Test.YtpimcoejhabkgaaDiskReadsI
import Derived.Test.YtpimcoejhabkgaaRefA
namespace Go.Proofs.Ytpimcoejhabkgaa
open Go.RowKit Go.Maps

theorem last_n (n : Int) : ∃ m : Nat, m < 8 ∧ wrap64 ((IntKind.u64.wrap n).tmod 8) = (m : Int) := by
  have h0 : 0 ≤ IntKind.u64.wrap n := by
    rw [IntKind.wrap_u64]
    omega
  generalize IntKind.u64.wrap n = u at h0
  have h1 := Int.tmod_lt_of_pos u (show (0 : Int) < 8 by omega)
  have h2 := Int.tmod_nonneg 8 h0
  refine ⟨(u.tmod 8).toNat, by omega, ?_⟩
  unfold wrap64
  omega

/-- The disk behind k writes of sector i, some flushed, S being sure. -/
structure LastAt (M : DM) (i : Nat) (S : List UInt8) (k : Nat) : Prop where
  size : M.size = 8
  armed : M.armed = false
  left : M.left = 0
  steps : M.steps ≤ 2 * k
  other : ∀ j, j ≠ i → M.wr j = none
  sure : M.sure i = S
theorem LastAt.new (i : Nat) : LastAt (DM.new 8) i zero64 0 := ⟨rfl, rfl, rfl, Nat.le_refl _, fun _ _ => rfl, rfl⟩
theorem LastAt.dead {M : DM} {i k : Nat} {S : List UInt8} (h : LastAt M i S k) : M.dead = false := by
  unfold DM.dead; rw [h.armed]; rfl
theorem LastAt.ok {M : DM} {i k T : Nat} {S : List UInt8} (h : LastAt M i S k) (hk : k ≤ 30) (hT : T ≤ 100) : M.Ok T := ⟨by rw [h.size]; omega, by have := h.steps; omega, by rw [h.left]; omega, by omega⟩
/-- Behind the write. -/
structure WroteAt (M : DM) (i : Nat) (L S : List UInt8) (u : Nat) (k : Nat) : Prop where
  last : LastAt M i S (k + 1)
  get : M.get i = L
  fresh : M.fresh.length = u
  crashed : (M.crashed [] (-1) 0).get i = S
theorem crashed_get (M : DM) (i : Nat) : (M.crashed [] (-1) 0).get i = M.sure i := by
  show M.left1 [] (-1) 0 i = _
  unfold DM.left1
  cases M.wr i with
  | none => rfl
  | some l => simp
theorem LastAt.write {M : DM} {i k : Nat} {S : List UInt8} (h : LastAt M i S k) (hi : i < 8) (L : List UInt8) (hL : L.length = 64) :
    M.writeE (i : Int) L = 0 ∧ WroteAt (M.writeM (i : Int) L) i L S 1 k ∧ LastAt (M.writeM (i : Int) L) i S (k + 1) := by
  have hn : ¬ (¬ (0 ≤ (i : Int) ∧ (i : Int) < (M.size : Int)) ∨ L.length ≠ 64) := by rw [h.size, hL]; omega
  have e : M.writeM (i : Int) L = M.written i L := by unfold DM.writeM; rw [if_neg hn, h.dead]; rfl
  have e0 : M.writeE (i : Int) L = 0 := by unfold DM.writeE; rw [if_neg hn, h.dead]; rfl
  rw [e]
  have hl : LastAt (M.written i L) i S (k + 1) := ⟨h.size, h.armed, by show (if M.armed then M.left - 1 else M.left) = 0; rw [h.armed, h.left]; rfl, by show M.steps + 1 ≤ _; have := h.steps; omega, fun j hj => by show (if j = i then some L else M.wr j) = none; rw [if_neg hj]; exact h.other j hj, h.sure⟩
  refine ⟨e0, ⟨hl, by simp [DM.get, DM.written], ?_, by rw [crashed_get]; exact h.sure⟩, hl⟩
  have hf := filter_one i 8
  rw [if_pos hi] at hf
  refine Eq.trans (congrArg List.length ?_) hf
  show (List.range M.size).filter _ = _
  rw [h.size]
  apply List.filter_congr
  intro j _
  by_cases e : j = i
  · simp [DM.written, e]
  · simp [DM.written, e, h.other j e]
theorem WroteAt.flush {M : DM} {i k : Nat} {L S : List UInt8} (h : WroteAt M i L S 1 k) (hs : M.steps ≤ 2 * k + 1) : M.flushE = 0 ∧ WroteAt M.flushM i L L 0 k := by
  have hd := h.last.dead
  refine ⟨by unfold DM.flushE; rw [hd]; rfl, ?_⟩
  have e : M.flushM = M.flushed := by unfold DM.flushM; rw [hd]; rfl
  rw [e]
  refine ⟨⟨h.last.size, h.last.armed, by show (if M.armed then M.left - 1 else M.left) = 0; rw [h.last.armed, h.last.left]; rfl, by show M.steps + 1 ≤ _; omega, fun _ _ => rfl, h.get⟩, by simpa [DM.get, DM.flushed] using h.get, ?_, by rw [crashed_get]; exact h.get⟩
  have : M.flushed.fresh = [] := by unfold DM.fresh; simp [DM.flushed]
  rw [this]; rfl
theorem LastAt.steps1 {M : DM} {i k : Nat} {S : List UInt8} (h : LastAt M i S k) (hi : i < 8) (L : List UInt8) (hL : L.length = 64) : (M.writeM (i : Int) L).steps ≤ 2 * k + 1 := by
  have hn : ¬ (¬ (0 ≤ (i : Int) ∧ (i : Int) < (M.size : Int)) ∨ L.length ≠ 64) := by rw [h.size, hL]; omega
  have e : M.writeM (i : Int) L = M.written i L := by unfold DM.writeM; rw [if_neg hn, h.dead]; rfl
  rw [e]
  show M.steps + 1 ≤ _
  have := h.steps; omega
theorem crashedOk (M : DM) (h : M.size = 8) : (M.crashed [] (-1) 0).size ≤ 4096 ∧ (M.crashed [] (-1) 0).size = 8 := ⟨by show M.size ≤ _; omega, h⟩
theorem sl_str {w : World} {X : List Nat} {A : Option Addr} {l : List UInt8} (h : Sl w X A (u8s l)) (hl : l.length = 64) :
    (convert 36 9 (.slice A 64 64)).run Try.prog w = .ok (.string ⟨l.toArray⟩) w := strAt h.1 hl.symm
theorem Sl.drew {w : World} {X : List Nat} {A : Option Addr} {xs : List Value} (h : Sl w X A xs) : Sl w.drew X A xs := h
/-- The calls of a round, behind the write (and the flush). -/
theorem last_calls {M : DM} {i k u p bs bw : Nat} {L S : List UInt8} (h : WroteAt M i L S u k) (hi : i < 8) (hk : k < 30) :
    (∀ w, DiskM w p bs bw M (k + 1) → Calls Try.prog 24 #[.pointer (some ⟨p, 0, none⟩), .int .i64 (i : Int)] w fun e w' => ∃ g, e = .returned (.tuple #[.slice (some ⟨g, 0, none⟩) 64 64, .int .i64 0]) ∧ w.heap.size ≤ g ∧ g < w'.heap.size ∧ Rd w' w'.heap.size (some ⟨g, 0, none⟩) (u8s L) ∧ Below w.heap.size w w') ∧
    (∀ w, DiskM w p bs bw M (k + 1) → Calls Try.prog 23 #[.pointer (some ⟨p, 0, none⟩), .slice none 0 0, .int .i64 (-1), .int .i64 0] w fun e w' => ∃ p' bs' bw', e = .returned (.pointer (some ⟨p', 0, none⟩)) ∧ w.heap.size ≤ p' ∧ w.heap.size ≤ bs' ∧ w.heap.size ≤ bw' ∧ DiskM w' p' bs' bw' (M.crashed [] (-1) 0) (k + 1) ∧ Below w.heap.size w w') ∧
    (∀ w, DiskM w p bs bw M (k + 1) → Calls Try.prog 25 #[.pointer (some ⟨p, 0, none⟩)] w fun e w' => ∃ A c, e = .returned (.slice A u c) ∧ Below w.heap.size w w') ∧
    (∀ w p' bs' bw', DiskM w p' bs' bw' (M.crashed [] (-1) 0) (k + 1) → Calls Try.prog 24 #[.pointer (some ⟨p', 0, none⟩), .int .i64 (i : Int)] w fun e w' => ∃ g, e = .returned (.tuple #[.slice (some ⟨g, 0, none⟩) 64 64, .int .i64 0]) ∧ w.heap.size ≤ g ∧ g < w'.heap.size ∧ Rd w' w'.heap.size (some ⟨g, 0, none⟩) (u8s S) ∧ Below w.heap.size w w') := by
  have hz := h.last.size
  refine ⟨fun w hD => ?_, fun w hD => ?_, fun w hD => ?_, fun w p' bs' bw' hD => ?_⟩
  · refine (readC hD (by omega) (i := i) (by omega)).mono ?_
    rintro e w' ⟨g, rfl, h1, h2, h3, _, h4⟩
    rw [h.get] at h3
    exact ⟨g, rfl, h1, h2, h3, h4⟩
  · exact crashM hD (by omega) none 0 [] (-1) 0 (Rd.emp _ _ _)
  · refine (unsureM hD (by omega)).mono ?_
    rintro e w' ⟨v, rfl, hrow, hb⟩
    obtain ⟨A, c, rfl, _⟩ := own_shape hrow
    rw [h.fresh]
    exact ⟨A, c, rfl, hb⟩
  · have hc := crashedOk M hz
    refine (readC hD hc.1 (i := i) (by rw [hc.2]; omega)).mono ?_
    rintro e w' ⟨g, rfl, h1, h2, h3, _, h4⟩
    rw [h.crashed] at h3
    exact ⟨g, rfl, h1, h2, h3, h4⟩

set_option maxRecDepth 100000 in
set_option maxHeartbeats 4000000 in
theorem diskLast_walk (n : Int) (A : Option Addr) (rows : List RowB) (c : Nat) (A2 : Option Addr) (flush : List Bool) (c2 : Nat) (w : World) (hr : Rd w w.heap.size A (rows.map RowB.v)) (hrows : ∀ r ∈ rows, r.ok w w.heap.size) (hr2 : Rd w w.heap.size A2 (flush.map Value.bool)) :
    Calls Try.prog 7 #[.int .i64 n, .slice A rows.length c, .slice A2 flush.length c2] w fun e w' => e = .returned (.bool true) ∧ Below w.heap.size w w' := by
  have H1 := Lib.hid (awake_any w)
  obtain ⟨i, hi, hin⟩ := last_n n
  have hi8 : (i : Int) < 8 := by omega
  have HR := Lib.hid hr
  have HR2 := Lib.hid hr2
  have HS := Lib.hid hrows
  have HI := Lib.hid hi
  clear hr hr2 hrows
  go_enter Try.func7, Try.ntmps7
  go_upto_region 7 with (first
    | (go_at_call 15; (refine H1.out.mono ?_); rintro e w1 ⟨rfl, hb1⟩)
    | (go_at_call 16; (refine (newM 8 w1 (by omega) (by omega)).mono ?_); rintro e w2 ⟨rfl, hD, hF⟩)
    | go_in)
  have m0 := make64 w2
  have m1 := make64 (w2.alloc (.cells (u8s zero64).toArray 5)).drew
  have m3 := make64 w2.drew
  have m2 := make64 (w2.drew.alloc (.cells (u8s zero64).toArray 5))
  have z1 := hb1.size
  have lD := hD.lt
  have hW : Below w.heap.size w ((w2.alloc (.cells (u8s zero64).toArray 5)).alloc (.cells (u8s zero64).toArray 5)).drew := (((hb1.trans (hF.lower z1 (by simp))).alloc (by have := hF.size; omega) _).alloc (by have := hF.size; simp; omega) _).drew
  have hDW : DiskM ((w2.alloc (.cells (u8s zero64).toArray 5)).alloc (.cells (u8s zero64).toArray 5)).drew (w1.heap.size + 2) w1.heap.size (w1.heap.size + 1) (DM.new 8) 0 := (hD.alloc _).alloc _
  have hs2 : w1.heap.size + 2 < w2.heap.size := lD.1
  have sA : Sl ((w2.alloc (.cells (u8s zero64).toArray 5)).alloc (.cells (u8s zero64).toArray 5)).drew [w1.heap.size + 2, w1.heap.size, w1.heap.size + 1] (some ⟨w2.heap.size, 0, none⟩) (u8s zero64) := by
    refine Sl.drew (Sl.below (w := w2.alloc (.cells (u8s zero64).toArray 5)) ⟨?_, fun a ha => by cases ha; simp; omega⟩ ((Below.refl _ _).alloc (Nat.le_refl _) _))
    have := Rd.new w2 (u8s zero64).toArray 5 (0, 0)
    rw [alloc1_size]
    exact this
  have sB : Sl ((w2.alloc (.cells (u8s zero64).toArray 5)).alloc (.cells (u8s zero64).toArray 5)).drew [w1.heap.size + 2, w1.heap.size, w1.heap.size + 1] (some ⟨w2.heap.size + 1, 0, none⟩) (u8s zero64) := by
    refine Sl.drew ⟨?_, fun a ha => by cases ha; simp; omega⟩
    have := Rd.new (w2.alloc (.cells (u8s zero64).toArray 5)) (u8s zero64).toArray 5 (0, 0)
    simp only [alloc1_size]
    simp only [alloc1_size] at this
    exact this
  have HZ := Lib.hid (And.intro hW (And.intro hDW (And.intro sA sB)))
  have HW1 := Lib.hid z1
  clear hW hDW sA sB hb1 hD hF z1 lD
  go_region
  all_goals
    rw [hin]
    generalize ((w2.alloc (.cells (u8s zero64).toArray 5)).alloc (.cells (u8s zero64).toArray 5)).drew = W at HZ ⊢
    clear m0 m1 m2 m3
    go_wp2_with go_in
    go_loopw [9, 10, 11, 12, 13, 14, 15, 16, 17] (fun _ s _ k' _ _ _ _ _ wr => ∃ (k : Nat) (S : List UInt8) (M : DM) (As : Option Addr), k ≤ rows.length ∧ k ≤ 30 ∧ k' = .int .i64 (k : Int) ∧ s = .slice As 64 64 ∧ S.length = 64 ∧ Sl wr [w1.heap.size + 2, w1.heap.size, w1.heap.size + 1] As (u8s S) ∧ LastAt M i S k ∧ DiskM wr (w1.heap.size + 2) w1.heap.size (w1.heap.size + 1) M k ∧ Below w.heap.size w wr)
      (fun _ _ _ k' _ _ _ _ _ _ => rows.length - (intOf k').toNat)
    case atStart => first | exact ⟨0, zero64, DM.new 8, _, by omega, by omega, rfl, rfl, zero64_len, HZ.out.2.2.1, LastAt.new i, HZ.out.2.1, HZ.out.1⟩ | exact ⟨0, zero64, DM.new 8, _, by omega, by omega, rfl, rfl, zero64_len, HZ.out.2.2.2, LastAt.new i, HZ.out.2.1, HZ.out.1⟩
    case round =>
      obtain ⟨k, S, M, As, hk, hk30, rfl, rfl, hSl, hS, hl, hD, hb⟩ := hrel
      by_cases hkl : k < rows.length
      · by_cases hk3 : k < 30
        · have hkI : (k : Int) < (rows.length : Int) := by omega
          have hkJ : (k : Int) < 30 := by omega
          have tok1 : True := trivial
          obtain ⟨r, hre⟩ : ∃ r, r = rows[k] := ⟨_, rfl⟩
          have hro : r.ok w w.heap.size := by rw [hre]; exact HS.out _ (List.getElem_mem hkl)
          obtain ⟨ab, ao, rfl, hab, hcell⟩ := HR.out.get (k := k) (by simpa using hkl)
          have hrow : wr.cell? ⟨ab, ao + k, none⟩ = some (.slice r.A r.l.length r.c) := by
            have h := hcell
            simp only [List.getElem_map, ← hre] at h
            rw [show (Value.slice r.A r.l.length r.c) = r.v from rfl, ← h]
            exact hb.cell (p := ⟨ab, ao + k, none⟩) hab
          have hwr := hl.write HI.out (bytesL r.l) (bytesL_len _)
          have hst1 := hl.steps1 HI.out (bytesL r.l) (bytesL_len _)
          have HBC := Lib.hid (bytesC r.A r.l r.c w.heap.size wr (hro.1.below hb (Nat.le_refl _)) hb.size (by have := hro.2; omega))
          have hcw := fun (w3 : World) (g : Nat) (hg : g ≠ w1.heap.size + 2) (h : DiskM w3 (w1.heap.size + 2) w1.heap.size (w1.heap.size + 1) M k) (hr : Rd w3 w3.heap.size (some ⟨g, 0, none⟩) (u8s (bytesL r.l))) => writeC h (hl.ok (T := k) (by omega) (by omega)) (i : Int) g (bytesL r.l) (bytesL_len _) _ hr hg
          rw [hwr.1] at hcw
          obtain ⟨M1, hM1⟩ : ∃ M1, M1 = M.writeM (i : Int) (bytesL r.l) := ⟨_, rfl⟩
          rw [← hM1] at hwr hst1 hcw
          have HCW := Lib.hid hcw
          have HSL := Lib.hid hSl
          have HX := Lib.hid (And.intro hD (And.intro hS hb))
          clear hcw hM1 hre hcell
          by_cases hkf : k < flush.length
          · have hkK : (k : Int) < (flush.length : Int) := by omega
            obtain ⟨fb, fo, rfl, hfb, hfc⟩ := HR2.out.get (k := k) (by simpa using hkf)
            have hfw : ∀ w' : World, Below w.heap.size w w' → w'.cell? ⟨fb, fo + k, none⟩ = some (.bool flush[k]) := by
              intro w' hw'
              have h := hfc
              simp only [List.getElem_map] at h
              rw [← h]; exact hw'.cell (p := ⟨fb, fo + k, none⟩) hfb
            obtain ⟨b, hbe⟩ : ∃ b, b = flush[k] := ⟨_, rfl⟩
            rw [← hbe] at hfw
            have HFC := Lib.hid hfw
            clear hfw
            clear hbe hfc hfb hab
            cases b with
            | true =>
              have hfl := hwr.2.1.flush hst1
              have hcf := fun (w4 : World) (h : DiskM w4 (w1.heap.size + 2) w1.heap.size (w1.heap.size + 1) M1 (k + 1)) => flushM h (hwr.2.2.ok (T := k + 1) (by omega) (by omega))
              rw [hfl.1] at hcf
              obtain ⟨M2, hM2⟩ : ∃ M2, M2 = M1.flushM := ⟨_, rfl⟩
              rw [← hM2] at hfl hcf
              have HFL := Lib.hid hcf
              have HC := Lib.hid (last_calls hfl.2 HI.out hk3 (p := w1.heap.size + 2) (bs := w1.heap.size) (bw := w1.heap.size + 1))
              have HLA := Lib.hid hfl.2.last
              clear hwr hst1 hl hD hb hS hro hSl hfl hcf hM2
              go_wp2_with (first
                | (go_at_call 21; (with_reducible refine HBC.out.mono ?_); rintro e w3 ⟨g, rfl, hg1, hg2, hr3, hb3⟩; have sL3 : Sl w3 [w1.heap.size + 2, w1.heap.size, w1.heap.size + 1] (some ⟨g, 0, none⟩) (u8s (bytesL r.l)) := ⟨hr3, fun a ha => by have := HX.out.1.lt; cases ha; simp; omega⟩; have sS3 := HX.out.2.1.below hb3)
                | (go_at_call 20; (with_reducible refine (HCW.out w3 g (by have := HX.out.1.lt; omega) (HX.out.1.kept hb3) hr3).mono ?_); rintro e w4 ⟨rfl, hD4, hF4⟩; have sL4 := sL3.fr hF4 (by simp); have sS4 := sS3.fr hF4 (by simp); have hfw4 := HFC.out w4 (HX.out.2.2.trans ((lower hb3 HX.out.2.2.size).trans (hF4.lower (by have := HX.out.2.2.size; have := hb3.size; omega) (by have := HW1.out; simp; omega)))))
                | (go_at_call 22; (with_reducible refine (HFL.out w4 hD4).mono ?_); rintro e w5 ⟨rfl, hD5, hF5⟩; have sL5 := sL4.fr hF5 (by simp); have sS5 := sS4.fr hF5 (by simp))
                | (go_at_call 24; have _t := tok1; (with_reducible refine (HC.out.1 w5 hD5).mono ?_); rintro e w6 ⟨g6, rfl, hg61, hg62, hr6, hb6⟩; have sL6 := sL5.below hb6; have sS6 := sS5.below hb6; have hD6 := hD5.kept hb6; clear tok1 _t)
                | (go_at_call 23; (with_reducible refine (HC.out.2.1 w6 hD6).mono ?_); rintro e w7 ⟨p', bs', bw', rfl, hp', hbs', hbw', hDc, hb7⟩; have sL7 := sL6.below hb7; have sS7 := sS6.below hb7; have hD7 := hD6.kept hb7; have q1 := sl_str sL7 (bytesL_len _); have q2 := strAt (n := 64) (c := 64) (hr6.below hb7 (Nat.le_refl _)) (bytesL_len r.l).symm)
                | (go_at_call 25; (with_reducible refine (HC.out.2.2.1 w7 hD7).mono ?_); rintro e w8 ⟨A8, c8, rfl, hb8⟩; have sL8 := sL7.below hb8; have sS8 := sS7.below hb8; have hD8 := hD7.kept hb8; have hDc8 := hDc.kept hb8)
                | (go_at_call 24; (with_reducible refine (HC.out.2.2.2 w8 p' bs' bw' hDc8).mono ?_); rintro e w9 ⟨g9, rfl, hg91, hg92, hr9, hb9⟩; have sL9 := sL8.below hb9; have sS9 := sS8.below hb9; have q3 := sl_str sL9 (bytesL_len _); have q4 := strAt (n := 64) (c := 64) hr9 (bytesL_len r.l).symm)
                | go_in)
              have hD9 := hD8.kept hb9
              have yw := HW1.out
              have y0 := HX.out.2.2.size
              have y3 := hb3.size
              have f4 := hF4.lower (C := w.heap.size) (by omega) (by simp; omega)
              have y4 := f4.size
              have f5 := hF5.lower (C := w.heap.size) (by omega) (by simp; omega)
              have y5 := f5.size
              have y6 := hb6.size
              have y7 := hb7.size
              have y8 := hb8.size
              have hB9 : Below w.heap.size w w9 := HX.out.2.2.trans ((lower hb3 y0).trans (f4.trans (f5.trans ((lower hb6 (by omega)).trans ((lower hb7 (by omega)).trans ((lower hb8 (by omega)).trans (lower hb9 (by omega))))))))
              exact ⟨⟨k + 1, (bytesL r.l), M2, _, hkl, hk3, by simp, rfl, bytesL_len _, sL9, HLA.out, hD9, hB9⟩, by simp [intOf]; omega⟩
            | false =>
              have HC := Lib.hid (last_calls hwr.2.1 HI.out hk3 (p := w1.heap.size + 2) (bs := w1.heap.size) (bw := w1.heap.size + 1))
              have HLA := Lib.hid hwr.2.2
              clear hwr hst1 hl hD hb hS hro hSl
              go_wp2_with (first
                | (go_at_call 21; (with_reducible refine HBC.out.mono ?_); rintro e w3 ⟨g, rfl, hg1, hg2, hr3, hb3⟩; have sL3 : Sl w3 [w1.heap.size + 2, w1.heap.size, w1.heap.size + 1] (some ⟨g, 0, none⟩) (u8s (bytesL r.l)) := ⟨hr3, fun a ha => by have := HX.out.1.lt; cases ha; simp; omega⟩; have sS3 := HX.out.2.1.below hb3)
                | (go_at_call 20; (with_reducible refine (HCW.out w3 g (by have := HX.out.1.lt; omega) (HX.out.1.kept hb3) hr3).mono ?_); rintro e w4 ⟨rfl, hD4, hF4⟩; have sL4 := sL3.fr hF4 (by simp); have sS4 := sS3.fr hF4 (by simp); have hfw4 := HFC.out w4 (HX.out.2.2.trans ((lower hb3 HX.out.2.2.size).trans (hF4.lower (by have := HX.out.2.2.size; have := hb3.size; omega) (by have := HW1.out; simp; omega)))))
                | (go_at_call 24; have _t := tok1; (with_reducible refine (HC.out.1 w4 hD4).mono ?_); rintro e w6 ⟨g6, rfl, hg61, hg62, hr6, hb6⟩; have sL6 := sL4.below hb6; have sS6 := sS4.below hb6; have hD6 := hD4.kept hb6; clear tok1 _t)
                | (go_at_call 23; (with_reducible refine (HC.out.2.1 w6 hD6).mono ?_); rintro e w7 ⟨p', bs', bw', rfl, hp', hbs', hbw', hDc, hb7⟩; have sL7 := sL6.below hb7; have sS7 := sS6.below hb7; have hD7 := hD6.kept hb7; have q1 := sl_str sL7 (bytesL_len _); have q2 := strAt (n := 64) (c := 64) (hr6.below hb7 (Nat.le_refl _)) (bytesL_len r.l).symm)
                | (go_at_call 25; (with_reducible refine (HC.out.2.2.1 w7 hD7).mono ?_); rintro e w8 ⟨A8, c8, rfl, hb8⟩; have sL8 := sL7.below hb8; have sS8 := sS7.below hb8; have hD8 := hD7.kept hb8; have hDc8 := hDc.kept hb8)
                | (go_at_call 24; (with_reducible refine (HC.out.2.2.2 w8 p' bs' bw' hDc8).mono ?_); rintro e w9 ⟨g9, rfl, hg91, hg92, hr9, hb9⟩; have sL9 := sL8.below hb9; have sS9 := sS8.below hb9; have q3 := sl_str sS9 HSL.out; have q4 := strAt (n := 64) (c := 64) hr9 HSL.out.symm)
                | go_in)
              have hD9 := hD8.kept hb9
              have yw := HW1.out
              have y0 := HX.out.2.2.size
              have y3 := hb3.size
              have f4 := hF4.lower (C := w.heap.size) (by omega) (by simp; omega)
              have y4 := f4.size
              have f5 := Below.refl w.heap.size w4
              have y5 := f5.size
              have y6 := hb6.size
              have y7 := hb7.size
              have y8 := hb8.size
              have hB9 : Below w.heap.size w w9 := HX.out.2.2.trans ((lower hb3 y0).trans (f4.trans (f5.trans ((lower hb6 (by omega)).trans ((lower hb7 (by omega)).trans ((lower hb8 (by omega)).trans (lower hb9 (by omega))))))))
              exact ⟨⟨k + 1, S, M1, _, hkl, hk3, by simp, rfl, HSL.out, sS9, HLA.out, hD9, hB9⟩, by simp [intOf]; omega⟩
          · have hkK : ¬ ((k : Int) < (flush.length : Int)) := by omega
            clear hab
            have HC := Lib.hid (last_calls hwr.2.1 HI.out hk3 (p := w1.heap.size + 2) (bs := w1.heap.size) (bw := w1.heap.size + 1))
            have HLA := Lib.hid hwr.2.2
            clear hwr hst1 hl hD hb hS hro hSl
            go_wp2_with (first
              | (go_at_call 21; (with_reducible refine HBC.out.mono ?_); rintro e w3 ⟨g, rfl, hg1, hg2, hr3, hb3⟩; have sL3 : Sl w3 [w1.heap.size + 2, w1.heap.size, w1.heap.size + 1] (some ⟨g, 0, none⟩) (u8s (bytesL r.l)) := ⟨hr3, fun a ha => by have := HX.out.1.lt; cases ha; simp; omega⟩; have sS3 := HX.out.2.1.below hb3)
              | (go_at_call 20; (with_reducible refine (HCW.out w3 g (by have := HX.out.1.lt; omega) (HX.out.1.kept hb3) hr3).mono ?_); rintro e w4 ⟨rfl, hD4, hF4⟩; have sL4 := sL3.fr hF4 (by simp); have sS4 := sS3.fr hF4 (by simp))
              | (go_at_call 24; have _t := tok1; (with_reducible refine (HC.out.1 w4 hD4).mono ?_); rintro e w6 ⟨g6, rfl, hg61, hg62, hr6, hb6⟩; have sL6 := sL4.below hb6; have sS6 := sS4.below hb6; have hD6 := hD4.kept hb6; clear tok1 _t)
              | (go_at_call 23; (with_reducible refine (HC.out.2.1 w6 hD6).mono ?_); rintro e w7 ⟨p', bs', bw', rfl, hp', hbs', hbw', hDc, hb7⟩; have sL7 := sL6.below hb7; have sS7 := sS6.below hb7; have hD7 := hD6.kept hb7; have q1 := sl_str sL7 (bytesL_len _); have q2 := strAt (n := 64) (c := 64) (hr6.below hb7 (Nat.le_refl _)) (bytesL_len r.l).symm)
              | (go_at_call 25; (with_reducible refine (HC.out.2.2.1 w7 hD7).mono ?_); rintro e w8 ⟨A8, c8, rfl, hb8⟩; have sL8 := sL7.below hb8; have sS8 := sS7.below hb8; have hD8 := hD7.kept hb8; have hDc8 := hDc.kept hb8)
              | (go_at_call 24; (with_reducible refine (HC.out.2.2.2 w8 p' bs' bw' hDc8).mono ?_); rintro e w9 ⟨g9, rfl, hg91, hg92, hr9, hb9⟩; have sL9 := sL8.below hb9; have sS9 := sS8.below hb9; have q3 := sl_str sS9 HSL.out; have q4 := strAt (n := 64) (c := 64) hr9 HSL.out.symm)
              | go_in)
            have hD9 := hD8.kept hb9
            have yw := HW1.out
            have y0 := HX.out.2.2.size
            have y3 := hb3.size
            have f4 := hF4.lower (C := w.heap.size) (by omega) (by simp; omega)
            have y4 := f4.size
            have f5 := Below.refl w.heap.size w4
            have y5 := f5.size
            have y6 := hb6.size
            have y7 := hb7.size
            have y8 := hb8.size
            have hB9 : Below w.heap.size w w9 := HX.out.2.2.trans ((lower hb3 y0).trans (f4.trans (f5.trans ((lower hb6 (by omega)).trans ((lower hb7 (by omega)).trans ((lower hb8 (by omega)).trans (lower hb9 (by omega))))))))
            exact ⟨⟨k + 1, S, M1, _, hkl, hk3, by simp, rfl, HSL.out, sS9, HLA.out, hD9, hB9⟩, by simp [intOf]; omega⟩
        · obtain rfl : k = 30 := by omega
          have hkI : ((30 : Nat) : Int) < (rows.length : Int) := by omega
          clear hl hD hS
          go_wp2_with go_in
          go_ret
          exact ⟨rfl, hb⟩
      · have hkI : ¬ ((k : Int) < (rows.length : Int)) := by omega
        clear hl hD hS
        go_wp2_with go_in
        go_ret
        exact ⟨rfl, hb⟩
end Go.Proofs.Ytpimcoejhabkgaa
