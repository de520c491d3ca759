/- KeyL, what this seat can fill of it. -/
import Derived.Test.YtgjjdmkoamjdpaaGreatDoorProg
import Derived.Test.YtgjjdmkoamjdpaaGreatDoorKeyK
import Derived.Test.YtgjjdmkoamjdpaaGreatDoorKeyG
import Derived.WalkKit
import Derived.WalkSpells
import Derived.WalkLawsBesides
import Derived.Deep.QuietTactic
import Derived.BigQuiet
import Derived.KernelRfl
import Derived.Lib.Hide
namespace Go.Proofs.YtgjjdmkoamjdpaaGreatDoor
set_option maxRecDepth 100000
/- key.Decode. -/
open Go.RowKit

theorem rdT_short : ∀ (l s r : List UInt8), rdT l = some (s, r) → s.length + r.length + 2 ≤ l.length
  | [], _, _, h => by simp [rdT] at h
  | [_], _, _, h => by simp [rdT] at h
  | b :: c :: u, s, r, h => by
    rw [rdT] at h
    split at h
    · split at h
      · obtain ⟨x, hx, he⟩ := Option.map_eq_some_iff.1 h
        have := rdT_short u x.1 x.2 hx
        injection he with h1 h2
        subst h1 h2
        simp
        omega
      · split at h
        · simp at h
          obtain ⟨rfl, rfl⟩ := h
          simp
        · cases h
    · obtain ⟨x, hx, he⟩ := Option.map_eq_some_iff.1 h
      have := rdT_short (c :: u) x.1 x.2 hx
      injection he with h1 h2
      subst h1 h2
      simp at this ⊢
      omega
theorem rdP_short (l : List UInt8) (p : KPart) (r : List UInt8) (h : rdP l = some (p, r)) : r.length < l.length := by
  cases l with
  | nil => simp [rdP] at h
  | cons b l =>
    rw [rdP] at h
    split at h
    · rw [rdN] at h
      split at h
      · cases h
      · injection h with h
        injection h with h1 h2
        rw [← h2, List.length_drop, List.length_cons]
        omega
    · split at h
      · obtain ⟨x, hx, he⟩ := Option.map_eq_some_iff.1 h
        have := rdT_short l x.1 x.2 hx
        injection he with h1 h2
        subst h2
        simp
        omega
      · cases h

theorem rdTwo (w : World) (o : Obj) (cs : Array Value) (t : TypeId) : Rd ((w.alloc o).alloc (.cells cs t)) (w.heap.size + 1 + 1) (some ⟨w.heap.size + 1, 0, none⟩) cs.toList := by
  have h := Rd.new (w.alloc o) cs t (0, 0)
  simpa using h

/-- The key whose bytes these are. -/
def rdKey : Nat → List UInt8 → Option (List KPart)
  | _, [] => some []
  | 0, _ :: _ => none
  | f + 1, b :: l => match rdP (b :: l) with
    | none => none
    | some (p, r) => (rdKey f r).map (p :: ·)
def decE (l : List UInt8) : Nat := if 200 < l.length then 3 else if (rdKey l.length l).isNone then 6 else 0
def decK (l : List UInt8) : List KPart := if 200 < l.length then [] else (rdKey l.length l).getD []

set_option maxRecDepth 100000 in
set_option maxHeartbeats 2000000 in
theorem kdecode_any (A : Option Addr) (l : List UInt8) (n c B : Nat) (w : World) (hn : n = l.length) (hr : Rd w B A (u8s l)) (hB : B ≤ w.heap.size) (hc : l.length ≤ c) (hcm : c ≤ 9223372036854775807) (hl : l.length ≤ 140737488355328) :
    Calls Tryz.prog 75 #[.slice A n c] w fun e w' => ∃ v, e = .returned (.tuple #[v, .int .i64 (decE l)]) ∧ OwnP w' w.heap.size 150 v (decK l) ∧ Below w.heap.size w w' := by
  subst hn
  obtain ⟨i0, hi, hz0, hz1, hz2⟩ := info_parts infoPart
  rcases Nat.lt_or_ge 200 l.length with h2 | h2
  · have hE : Hid (decE l = 3) := if_pos h2
    have hK : Hid (decK l = []) := if_pos h2
    have h2' : (200 : Int) < (l.length : Int) := by omega
    go_enter Tryz.func75, Tryz.ntmps75
    go_wp2
    go_ret2
    exact ⟨_, by rw [hE.out]; rfl, by rw [hK.out]; exact World.ownsRow_nil _ _ _ _, Below.refl _ _⟩
  · have hE : Hid (decE l = if (rdKey l.length l).isNone then 6 else 0) := if_neg (by omega)
    have hK : Hid (decK l = (rdKey l.length l).getD []) := if_neg (by omega)
    have h2' : ¬ (200 : Int) < (l.length : Int) := by omega
    go_enter Tryz.func75, Tryz.ntmps75
    go_wp2
    go_loopw [0, 4] (fun bv kv wr => ∃ A' c' l' ks f, bv = .slice A' l'.length c' ∧ Rd wr B A' (u8s l') ∧ l'.length ≤ c' ∧ c' ≤ 9223372036854775807 ∧ OwnP wr w.heap.size 150 kv ks ∧ Below w.heap.size w wr ∧ ks.length + l'.length ≤ 200 ∧ l'.length ≤ f ∧ (rdKey f l').map (ks ++ ·) = rdKey l.length l) (fun bv _ _ => lenOf bv)
    case atStart => exact ⟨A, c, l, [], l.length, rfl, hr, hc, hcm, World.ownsRow_nil _ _ _ _, Below.refl _ _, by simpa using h2, Nat.le_refl _, by simp⟩
    case round =>
      obtain ⟨A', c', l', ks, f, rfl, hr', hc', hcm', hown, hbk, hsl, hf, heq⟩ := hrel
      have hsz := hbk.size
      have HEQ := Lib.hid heq
      clear heq
      rcases l' with _ | ⟨b, t⟩
      · have hfin : rdKey l.length l = some ks := by rw [← HEQ.out]; cases f <;> simp [rdKey]
        have HFN := Lib.hid hfin
        clear hfin
        go_wp2
        go_ret2
        exact ⟨_, by rw [hE.out, HFN.out]; rfl, by rw [hK.out, HFN.out]; exact hown, hbk⟩
      · obtain ⟨f', rfl⟩ : ∃ f', f = f' + 1 := ⟨f - 1, by simp at hf; omega⟩
        have hrp := readPart_any A' b t (t.length + 1) c' B wr rfl hr' (by omega) (by simpa using hc') hcm' (by simp at hsl; omega)
        have hstep : (rdKey (f' + 1) (b :: t)) = match rdP (b :: t) with | none => none | some (p, r) => (rdKey f' r).map (p :: ·) := by rw [rdKey]
        have hshort := fun p r => rdP_short (b :: t) p r
        obtain ⟨R, hR⟩ : ∃ R, R = rdP (b :: t) := ⟨_, rfl⟩
        rw [← hR] at hrp hstep hshort
        have HRP := Lib.hid hrp
        have HST := Lib.hid hstep
        have HSH := Lib.hid hshort
        clear hrp hstep hshort hR hr
        simp only [List.length_cons] at hc' hsl hf ⊢
        have hlt : (0 : Int) < (t.length : Int) + 1 := by omega
        rcases R with _ | ⟨p, l2⟩
        · have hnone : rdKey l.length l = none := by rw [← HEQ.out, HST.out]; rfl
          have HNN := Lib.hid hnone
          clear hnone
          go_wp2_with (go_at_call 94; refine HRP.out.mono ?_; rintro e w4 ⟨v, rfl, hv, hb4⟩; obtain rfl : v = .tuple #[.agg #[.bool false, .string ⟨#[]⟩, .int .i64 0], .slice none 0 0, .bool false] := hv)
          go_ret2
          exact ⟨_, by rw [hE.out, HNN.out]; rfl, by rw [hK.out, HNN.out]; exact World.ownsRow_nil _ _ _ _, (hbk.trans (hb4.mono hsz)).alloc (by have := hb4.size; omega) _⟩
        · have hs2 := HSH.out p l2 rfl
          have hnext : (rdKey f' l2).map ((ks ++ [p]) ++ ·) = rdKey l.length l := by
            rw [← HEQ.out, HST.out]
            show Option.map ((ks ++ [p]) ++ ·) (rdKey f' l2) = Option.map (ks ++ ·) (Option.map (p :: ·) (rdKey f' l2))
            rw [Option.map_map]
            congr 1
            funext x
            simp
          have HNX := Lib.hid hnext
          have HS2 := Lib.hid hs2
          have hkl : (ks.length + 1) * 32 ≤ 140737488355328 := by omega
          clear hnext hs2
          go_wp2_with (first
            | (go_at_call 94; refine HRP.out.mono ?_; rintro e w4 ⟨v, rfl, hv, hb4⟩; obtain ⟨A2, c2, rfl, hr2, hc2, hcm2⟩ := hv; have hown4 := own_below hown hb4 (Nat.le_refl _); have hs4 := hb4.size)
            | (at_builtin; refine wpList_appR _ rfl (.tmp 22) (.tmp 24) _ rfl w.heap.size 150 i0 _ 3 32 Tryz.underlying131 hi hz0 hz1 hz2 rfl (by omega) u4 ks.length (pcs ks) rfl (World.ownsRow.alloc (World.ownsRow.alloc hown4 _) _) (w4.heap.size + 1 + 1) (some ⟨w4.heap.size + 1, 0, none⟩) 1 1 (pcs [p]) rfl rfl (rdTwo w4 _ _ _) (pcs_one _) hkl (by omega) (by simp; omega) ?_; intro v5 w5 hown5 hg5 hat5))
          go_roundw
          case rel =>
            have hl2 := HS2.out
            simp only [List.length_cons] at hl2
            have hb5 : Below w.heap.size w4 w5 := (((Below.refl _ _).alloc (by omega) _).alloc (by simp; omega) _).grown hg5 (by simp; omega) (fun k hk => (World.ownsRow.lt hown k hk).1)
            refine ⟨A2, c2, l2, ks ++ [p], f', rfl, hr2.below hb5 hB, hc2, hcm2, ?_, (hbk.trans (hb4.mono hsz)).trans hb5, by simp; omega, by omega, HNX.out⟩
            unfold OwnP
            rw [List.length_append, pcs_append]
            exact hown5
          case measure => have hl2 := HS2.out; simp [lenOf] at hl2 ⊢; omega
end Go.Proofs.YtgjjdmkoamjdpaaGreatDoor
