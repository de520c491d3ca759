/- val.parseText: the walk. -/
import Derived.Test.YtinhmchekdolmaaDoorProg
import Derived.Test.YtinhmchekdolmaaDoorValI
import Derived.WalkKit
import Derived.WalkSpells
import Derived.WalkLawsBesides
import Derived.Laws.IdiomStrings
import Derived.Deep.QuietTactic
import Derived.Deep.CutRange
import Derived.Deep.DeepCutAuto
import Derived.BigQuiet
import Derived.KernelRfl
import Derived.Lib.Hide
namespace Go.Proofs.YtinhmchekdolmaaDoor
open Go.RowKit

theorem runesL_one (s : ByteArray) (h2 : 2 ≤ s.size) (h34 : (runesL s).getLastD 0 = 34) : 2 ≤ (runesL s).length := by
  obtain ⟨f, hf⟩ : ∃ f, s.size = f + 2 := ⟨s.size - 2, by omega⟩
  have e : runesL s = (Utf8.decode s 0).1 :: runesG s (f + 1) (0 + (Utf8.decode s 0).2) := by
    unfold runesL
    rw [hf, runesG, if_pos (by omega)]
  rw [e] at h34 ⊢
  rcases hr : runesG s (f + 1) (0 + (Utf8.decode s 0).2) with _ | ⟨x, y⟩
  · rw [hr] at h34
    replace h34 : (Utf8.decode s 0).1 = 34 := h34
    have hlt : 0 < s.size := by omega
    have hasc : (s[0]'hlt).toNat < 128 := by
      rcases Nat.lt_or_ge (s[0]'hlt).toNat 128 with h | h
      · exact h
      · have := (decode_high s 0 hlt h).1
        omega
    have hd := decode_ascii s 0 hlt hasc
    rw [hd, runesG, if_pos (by simp; omega)] at hr
    cases hr
  · simp
theorem runesL_pos (s : ByteArray) (h : 0 < s.size) : 0 < (runesL s).length := by
  obtain ⟨f, hf⟩ : ∃ f, s.size = f + 1 := ⟨s.size - 1, by omega⟩
  unfold runesL
  rw [hf, runesG, if_pos (by omega)]
  simp
theorem runesL_le (s : ByteArray) : (runesL s).length ≤ s.size := runesG_len s _ _

theorem Rd.rune' {w : World} {B : Nat} {A : Option Addr} {rs : List Nat} {x : Nat} (h : Rd w B A (r32s rs)) {k : Nat} (hx : rs[k]? = some x) : ∃ b o, A = some ⟨b, o, none⟩ ∧ b < B ∧ w.cell? ⟨b, o + k, none⟩ = some (.int .i32 (x : Int)) := by
  obtain ⟨hk, hx⟩ := List.getElem?_eq_some_iff.1 hx
  obtain ⟨b, o, e, hb, hc⟩ := h.rune hk
  exact ⟨b, o, e, hb, by rw [hc, hx]⟩

def lenOf : Value → Nat
  | .slice _ n _ => n
  | _ => 0

/-- What stands ahead of the last rune, but for the first. -/
theorem mid_eq (l : List Nat) : l.dropLast.drop 1 = (l.drop 1).take (l.length - 2) := by
  rw [List.dropLast_eq_take, List.drop_take]
  congr 1

set_option maxRecDepth 100000 in
set_option maxHeartbeats 4000000 in
theorem parseText_any (s : ByteArray) (w : World) (hs : s.size ≤ 9223372036854775807) (hT : Tabs w) :
    Calls Tryd.prog 55 #[.string s] w fun e w' => e = .returned (.tuple #[.string ⟨(pText s).1.toArray⟩, .bool (pText s).2]) ∧ Below w.heap.size w w' := by
  have hP : pText s = if s.size < 2 ∨ 642 < s.size ∨ Lib.validD s.data.toList = false then ([], false) else if (runesL s).getLastD 0 = 34 then pFin (pGo (runesL s).length ((runesL s).dropLast.drop 1) []) else ([], false) := rfl
  obtain ⟨X, hX⟩ : ∃ X, X = pText s := ⟨_, rfl⟩
  rw [← hX] at hP ⊢
  clear hX
  by_cases h2 : s.size < 2
  · have HX : Hid (X = ([], false)) := Lib.hid (by rw [hP, if_pos (.inl h2)])
    have h2' : (s.size : Int) < 2 := by omega
    clear hP h2
    go_enter Tryd.func55, Tryd.ntmps55
    go_wp2
    go_ret2
    exact ⟨by rw [HX.out]; rfl, Below.refl _ _⟩
  · have h2' : ¬ (s.size : Int) < 2 := by omega
    by_cases h6 : 642 < s.size
    · have HX : Hid (X = ([], false)) := Lib.hid (by rw [hP, if_pos (.inr (.inl h6))])
      have h6' : (642 : Int) < (s.size : Int) := by omega
      clear hP h2 h6
      go_enter Tryd.func55, Tryd.ntmps55
      go_wp2
      go_ret2
      exact ⟨by rw [HX.out]; rfl, Below.refl _ _⟩
    · have h6' : ¬ (642 : Int) < (s.size : Int) := by omega
      have hv := validString_any s w hs hT
      obtain ⟨b, hb⟩ : ∃ b, b = Lib.validD s.data.toList := ⟨_, rfl⟩
      rw [← hb] at hv hP
      have HV := Lib.hid hv
      clear hv hb
      rcases b with _ | _
      · have HX : Hid (X = ([], false)) := Lib.hid (by rw [hP, if_pos (.inr (.inr rfl))])
        clear hP h2 h6
        go_enter Tryd.func55, Tryd.ntmps55
        go_wp2_with (go_at_call 45; (with_reducible refine HV.out.mono ?_); rintro e w' ⟨rfl, hb⟩)
        go_ret2
        exact ⟨by rw [HX.out]; rfl, hb⟩
      · rw [if_neg (by rintro (h | h | h); exact h2 h; exact h6 h; cases h)] at hP
        have hpos := runesL_pos s (by omega)
        have hone := runesL_one s (by omega)
        have hle := runesL_le s
        have hall := runesG_le s s.size 0
        have hrf := runesFrom_eq s s.size 0 #[]
        have hconv := fun W : World => run_runes_of_string (P := Tryd.prog) W 9 93 21 s Tryd.underlying9 Tryd.underlying93 Tryd.underlying21 (by rw [hrf]; simp [r32s]; have := runesG_len s s.size 0; omega)
        rw [hrf] at hconv
        change ∀ r ∈ runesL s, r ≤ 1114111 at hall
        change Conv.runesFrom s s.size 0 #[] = #[] ++ (r32s (runesL s)).toArray at hrf
        obtain ⟨RS, hRS⟩ : ∃ RS, RS = runesL s := ⟨_, rfl⟩
        have hRS' : runesG s s.size 0 = RS := hRS.symm
        rw [hRS'] at hconv
        rw [← hRS] at hP hpos hone hle hall
        have hsz : (#[] ++ (r32s RS).toArray).size = RS.length := by simp [r32s]
        simp only [hsz] at hconv
        clear hrf hRS hRS'
        obtain ⟨L, hL⟩ : ∃ L, RS.length = L + 1 := ⟨RS.length - 1, by omega⟩
        obtain ⟨x, hx⟩ : ∃ x, RS[L]? = some x := ⟨_, List.getElem?_eq_getElem (by omega)⟩
        have hlast : RS.getLastD 0 = x := by
          rw [List.getLastD_eq_getLast?, List.getLast?_eq_getElem?, hL, Nat.add_sub_cancel, hx]
          rfl
        rw [hlast] at hP hone
        have hconv2 : ∀ W : World, ∃ C W2, (convert 9 93 (.string s)).run Tryd.prog W = .ok (.slice (some ⟨W.heap.size, 0, none⟩) (L + 1) C) W2 ∧ L + 1 ≤ C ∧ C ≤ maxLen ∧ Rd W2 (W.heap.size + 1) (some ⟨W.heap.size, 0, none⟩) (r32s RS) ∧ Below W.heap.size W W2 ∧ W.heap.size + 1 ≤ W2.heap.size := by
          intro W
          refine ⟨_, _, by rw [← hL]; exact hconv W, by rw [← hL]; exact grownCap_ge W _ _ _, grownCap_le_maxLen W _ _ _ (by unfold maxLen; omega), ?_, (Below.refl _ _).drew.alloc (Nat.le_refl _) _, by simp⟩
          have h1 := Rd.new W.drew ((#[] ++ (r32s RS).toArray) ++ Array.replicate (grownCap W RS.length 0 21 - RS.length) (.int .i32 0)) 21 (0, 0)
          have h2 := h1.take RS.length
          have e : (((#[] ++ (r32s RS).toArray) ++ Array.replicate (grownCap W RS.length 0 21 - RS.length) (Value.int .i32 0)).toList).take RS.length = r32s RS := by
            simp only [Array.toList_append]
            rw [List.take_append_of_le_length (by simp [r32s])]
            rw [List.take_of_length_le (by simp [r32s])]
            simp
          rw [e] at h2
          exact h2
        have HCV := Lib.hid hconv2
        have HLEN := Lib.hid hL
        have HXX := Lib.hid hx
        have HP := Lib.hid hP
        have HALL := Lib.hid hall
        have HONE := Lib.hid hone
        have hL2 : L ≤ 642 := by omega
        have HTT := Lib.hid hT
        clear hconv hconv2 hlast hP hall hone hsz hx h2 h6 hpos hle hL hT
        go_enter Tryd.func55, Tryd.ntmps55
        go_wp2_with fail
        refine HV.out.mono ?_
        rintro e w1 ⟨rfl, hb1⟩
        obtain ⟨C, W2, hcv, hC, hCm, hrd, hb2, hsz2⟩ := HCV.out w1
        have hB2 := hb1.trans (hb2.mono hb1.size)
        obtain ⟨bb, oo, hA0, -, hcl⟩ := hrd.rune' HXX.out
        injection hA0 with hA0
        injection hA0 with hA1 hA2
        subst hA1 hA2
        rw [Nat.zero_add] at hcl
        have hlt : (L : Int) < (L : Int) + 1 := by omega
        by_cases hx34 : x = 34
        · have hone := HONE.out hx34
          rw [HLEN.out] at hone
          obtain ⟨M, rfl⟩ : ∃ M, L = M + 1 := ⟨L - 1, by omega⟩
          have hP2 : X = pFin (pGo RS.length (RS.dropLast.drop 1) []) := by rw [HP.out, if_pos hx34]
          have hmid := mid_eq RS
          rw [HLEN.out, show M + 1 + 1 - 2 = M from by omega] at hmid
          have hcut := hrd.cut (k := 1) (size := 1) (cap := C) (n := M + 1 + 1) (by rw [r32s_length, HLEN.out]; omega) (by omega) hC
          have hC1 : ¬ C = 1 := by omega
          rw [if_neg hC1, Nat.mul_one, ← r32s_drop, Option.map_some, plainAdd] at hcut
          have hrest : Rd W2 (w1.heap.size + 1) (some ⟨w1.heap.size, 0 + 1, none⟩) (r32s (RS.dropLast.drop 1)) := by
            rw [hmid]
            have h1 := hcut.take M
            have e : (r32s (RS.drop 1)).take M = r32s ((RS.drop 1).take M) := List.map_take.symm
            rw [e] at h1
            exact h1
          obtain ⟨T0, hT0⟩ : ∃ T0, T0 = RS.dropLast.drop 1 := ⟨_, rfl⟩
          have hT0l : T0.length = M := by rw [hT0, hmid, List.length_take, List.length_drop, HLEN.out]; omega
          have hT0a : ∀ r ∈ T0, r ≤ 1114111 := fun r hr => HALL.out r (by rw [hT0, hmid] at hr; exact List.mem_of_mem_drop (List.mem_of_mem_take hr))
          rw [← hT0] at hP2 hrest
          have hcl' : W2.cell? ⟨w1.heap.size, M + 1, none⟩ = some (.int .i32 34) := by rw [hcl, hx34]; rfl
          have HP2 := Lib.hid hP2
          have HREST := Lib.hid (hrest.more hsz2)
          have HT0l := Lib.hid hT0l
          have HT0a := Lib.hid hT0a
          have hCi : (M : Int) + 1 ≤ (C : Int) := by omega
          have hM1 : (1 : Int) ≤ (M : Int) + 1 := by omega
          have HTW2 : Hid (Tabs W2) := Lib.hid (HTT.out.below hB2)
          clear hP2 hmid hcut hrest hT0 hT0l hT0a hcl hx34 hrd HP HALL HXX HONE
          have hC2 : M + 1 + 1 ≤ C := hC
          have hCm2 : C ≤ 9223372036854775807 := by unfold maxLen at hCm; exact hCm
          clear hC hCm
          obtain ⟨H, hH⟩ : ∃ H, H = W2.heap.size := ⟨_, rfl⟩
          have HHH := Lib.hid hH
          rw [← hH] at HREST hsz2
          clear hH
          go_wp2_with fail
          go_loopw [6, 7] (fun rv ov wr => ∃ (A' : Option Addr) (c' : Nat) (rest : List Nat) (acc : List UInt8) (f : Nat), rv = .slice A' rest.length c' ∧ Rd wr H A' (r32s rest) ∧ rest.length ≤ c' ∧ c' ≤ 9223372036854775807 ∧ OwnB wr H 5 ov acc ∧ Below H W2 wr ∧ pGo f rest acc = pGo RS.length T0 [] ∧ (∀ r ∈ rest, r ≤ 1114111) ∧ acc.length + 4 * rest.length ≤ 3000 ∧ rest.length ≤ f) (fun rv _ _ => lenOf rv)
          case atStart =>
            have h0 := HT0l.out
            exact ⟨_, C - 1, T0, [], RS.length, by rw [h0], HREST.out, by omega, by omega, OwnB.nil _ _ _, by rw [HHH.out]; exact Below.refl _ _, rfl, HT0a.out, by simp; omega, by rw [HLEN.out]; omega⟩
          case round =>
            obtain ⟨A', c', rest, acc, f, rfl, hr', hc', hcm', hown, hbk, heq, ha', hal, hf⟩ := hrel
            have hsz := hbk.size
            have hHle : H ≤ wr.heap.size := by have := HHH.out; omega
            have HEQ := Lib.hid heq
            clear heq
            rcases rest with _ | ⟨r, t⟩
            · have hfin : X = (acc, decide (ctN ⟨acc.toArray⟩ = 0)) := by rw [HP2.out, ← HEQ.out, pGo_nil]; rfl
              have HF := Lib.hid hfin
              have hct := checkText_any ⟨acc.toArray⟩ wr (by simp [ByteArray.size] at hal ⊢; omega) (HTW2.out.below (by rw [← HHH.out]; exact hbk))
              obtain ⟨z, hz⟩ : ∃ z, z = ctN ⟨acc.toArray⟩ := ⟨_, rfl⟩
              rw [← hz] at hct HF
              have HCT := Lib.hid hct
              clear hfin hct hz
              obtain ⟨A3, c3, rfl, -, -, hr3, -⟩ := hown.shape
              have q3 := strAt0 (c := c3) hr3 rfl
              by_cases hz0 : z = 0
              · subst hz0
                go_wp2_with (go_at_call 36; (with_reducible refine HCT.out.mono ?_); rintro e w' ⟨rfl, hb⟩)
                go_ret2
                exact ⟨by rw [HF.out]; rfl, (hB2.trans (hbk.mono (by have := hB2.size; have := HHH.out; omega))).trans (hb.mono (by have := hB2.size; omega))⟩
              · have hzb : ((z : Int) == 0) = false := by rw [beq_eq_false_iff_ne]; omega
                have HZ := Lib.hid hz0
                clear hz0
                go_wp2_with (go_at_call 36; (with_reducible refine HCT.out.mono ?_); rintro e w' ⟨rfl, hb⟩)
                go_ret2
                exact ⟨by rw [HF.out, decide_eq_false HZ.out]; rfl, (hB2.trans (hbk.mono (by have := hB2.size; have := HHH.out; omega))).trans (hb.mono (by have := hB2.size; omega))⟩
            · obtain ⟨f', rfl⟩ : ∃ f', f = f' + 1 := ⟨f - 1, by simp at hf; omega⟩
              have hrr := readRune_any A' r t (t.length + 1) c' H wr rfl hr' (by simpa using hc') hcm' (by simp at hal; omega) ha'
              have hq2 := rrP_le r t
              have hq1 := rrP_rune (r :: t) ha'
              have hstep : pGo (f' + 1) (r :: t) acc = if (rrP (r :: t)).2 = 0 then none else pGo f' ((r :: t).drop (rrP (r :: t)).2) (acc ++ Lib.encodeRune (rrP (r :: t)).1) := rfl
              rw [HEQ.out] at hstep
              obtain ⟨q, hq⟩ : ∃ q, q = rrP (r :: t) := ⟨_, rfl⟩
              rw [← hq] at hrr hq2 hq1 hstep
              obtain ⟨q1, q2⟩ := q
              simp only at hrr hq2 hq1 hstep
              have HRR := Lib.hid hrr
              have HST := Lib.hid hstep
              clear hrr hq hstep
              simp only [List.length_cons] at hc' hal hf ⊢
              have hlt0 : (0 : Int) < (t.length : Int) + 1 := by omega
              by_cases hq0 : q2 = 0
              · have hfin : X = ([], false) := by rw [HP2.out, HST.out, if_pos hq0]; rfl
                have HF := Lib.hid hfin
                clear hfin
                subst hq0
                go_wp2_with (go_at_call 66; (with_reducible refine HRR.out.mono ?_); rintro e w' ⟨rfl, rfl⟩)
                go_ret2
                exact ⟨by rw [HF.out]; rfl, hB2.trans (hbk.mono (by have := hB2.size; have := HHH.out; omega))⟩
              · have hnext : pGo f' ((r :: t).drop q2) (acc ++ Lib.encodeRune q1) = pGo RS.length T0 [] := by rw [HST.out, if_neg hq0]
                have HNX := Lib.hid hnext
                have nq0 : ((q2 : Int) == 0) = false := by rw [beq_eq_false_iff_ne]; omega
                have hcut := hr'.cut (k := q2) (size := 1) (cap := c') (n := t.length + 1) (by rw [r32s_length]; simp) hq2 hc'
                rw [Nat.mul_one, ← r32s_drop] at hcut
                obtain ⟨pb, po, rfl, hpB, -⟩ := hr'.rune (k := 0) (by simp)
                rw [Option.map_some, plainAdd] at hcut
                have hap := Tryd.utf8_AppendRune_plain H u7 acc.length (u8s acc) (q1 : Int) (by omega) (by omega) wr hown (by omega) hHle
                have HAP := Lib.hid hap
                have hdl : ((r :: t).drop q2).length = t.length + 1 - q2 := by rw [List.length_drop]; rfl
                have HDL := Lib.hid hdl
                have hda : ∀ y ∈ (r :: t).drop q2, y ≤ 1114111 := fun y hy => ha' y (List.mem_of_mem_drop hy)
                have HDA := Lib.hid hda
                have hrl : (Lib.encodeRune (q1 : Int)).length ≤ 4 := by
                  have := Lib.runeCells_le (q1 : Int)
                  rw [Lib.runeCells_length] at this
                  exact this.2
                have hrc : Lib.runeCells (q1 : Int) = u8s (Lib.encodeRune q1) := (Lib.byteCells_encodeRune (q1 : Int)).symm
                have HRC := Lib.hid hrc
                have HQ0 := Lib.hid hq0
                have hq2i : (q2 : Int) ≤ (t.length : Int) + 1 := by omega
                have hq2c : (q2 : Int) ≤ (c' : Int) := by omega
                clear hnext hap hdl hda hrc hq0 ha' hr'
                by_cases hce : c' = q2
                · rw [if_pos hce] at hcut
                  have HCUT := Lib.hid hcut
                  subst hce
                  clear hcut
                  go_wp2_with (first
                    | (go_at_call 66; (with_reducible refine HRR.out.mono ?_); rintro e w' ⟨rfl, rfl⟩)
                    | (go_at_call 50; (with_reducible refine HAP.out.mono ?_); rintro e w3 ⟨v3, rfl, hown3, o3, hg3⟩))
                  go_roundw
                  case rel =>
                    have hb3 : Below H wr w3 := ((Below.refl _ _).alloc hHle _).grown hg3 (by simp; omega) (fun k hk => (World.ownsRow.lt hown k hk).1)
                    have h0 : (r :: t).drop c' = [] := List.eq_nil_of_length_eq_zero (by rw [HDL.out]; omega)
                    refine ⟨some ⟨pb, po, none⟩, 0, [], acc ++ Lib.encodeRune q1, f', rfl, Rd.emp _ _ _, Nat.le_refl _, by omega, ?_, hbk.trans hb3, by rw [← h0]; exact HNX.out, (fun y hy => by cases hy), by rw [List.length_append]; simp only [List.length_nil]; omega, by simp⟩
                    unfold OwnB
                    rw [List.length_append, u8s_append, ← HRC.out, ← u8s_length (Lib.encodeRune q1), ← HRC.out]
                    exact hown3
                  case measure => have := HQ0.out; simp [lenOf] <;> omega
                · rw [if_neg hce] at hcut
                  have HCUT := Lib.hid hcut
                  clear hcut
                  go_wp2_with (first
                    | (go_at_call 66; (with_reducible refine HRR.out.mono ?_); rintro e w' ⟨rfl, rfl⟩)
                    | (go_at_call 50; (with_reducible refine HAP.out.mono ?_); rintro e w3 ⟨v3, rfl, hown3, o3, hg3⟩))
                  go_roundw
                  case rel =>
                    have hb3 : Below H wr w3 := ((Below.refl _ _).alloc hHle _).grown hg3 (by simp; omega) (fun k hk => (World.ownsRow.lt hown k hk).1)
                    refine ⟨_, _, (r :: t).drop q2, acc ++ Lib.encodeRune q1, f', by rw [HDL.out], HCUT.out.below hb3 (Nat.le_refl _), by rw [HDL.out]; omega, by omega, ?_, hbk.trans hb3, HNX.out, HDA.out, by rw [HDL.out, List.length_append]; have := HQ0.out; omega, by rw [HDL.out]; have := HQ0.out; omega⟩
                    unfold OwnB
                    rw [List.length_append, u8s_append, ← HRC.out, ← u8s_length (Lib.encodeRune q1), ← HRC.out]
                    exact hown3
                  case measure => have := HQ0.out; simp [lenOf] <;> omega
        · have hn34 : ((x : Int) != 34) = true := by simp; omega
          have HX : Hid (X = ([], false)) := Lib.hid (by rw [HP.out, if_neg hx34])
          clear hx34 hrd
          go_wp2
          go_ret2
          exact ⟨by rw [HX.out]; rfl, hB2⟩
end Go.Proofs.YtinhmchekdolmaaDoor
