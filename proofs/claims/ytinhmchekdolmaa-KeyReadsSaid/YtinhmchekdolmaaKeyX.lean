/- The document's own Decode (rhizomeref01.Decode). -/
import Derived.Test.YtinhmchekdolmaaProg
import Derived.Test.YtinhmchekdolmaaKeyQ
import Derived.Test.YtinhmchekdolmaaKeyT
import Derived.Test.YtinhmchekdolmaaKeyV
import Derived.WalkKit
import Derived.WalkSpells
import Derived.WalkLawsBesides
import Derived.Deep.QuietTactic
import Derived.BigQuiet
import Derived.Deep.CutRange
import Derived.Deep.DeepCutAuto
import Derived.KernelRfl
import Derived.Lib.Hide
namespace Go.Proofs.Ytinhmchekdolmaa
open Go.RowKit

theorem drop_step {l r : List UInt8} {i : Nat} {p : KPart} (hl : l.length ≤ 200) (hi : i ≤ l.length) (h : rdP (l.drop i) = some (p, r)) : r = l.drop (i + partSz p) ∧ p.fits ∧ i + partSz p ≤ l.length ∧ 0 < partSz p := by
  have hdl : (l.drop i).length = l.length - i := List.length_drop
  obtain ⟨h1, _, h3⟩ := rdP_some (by omega) h
  have hp := partB_length p
  have hpp := partB_pos p
  have hlen : (l.drop i).length = (partB p).length + r.length := by rw [h1, List.length_append]
  refine ⟨?_, h3, by omega, by omega⟩
  rw [← List.drop_drop, h1, ← hp, List.drop_left]
theorem num_wrap (V : Nat) (h : V < 18446744073709551616) : wrap64 (IntKind.u64.wrap ((V : Int) + 9223372036854775808)) = (V : Int) - 9223372036854775808 := by
  unfold wrap64
  rw [IntKind.wrap_u64]
  omega
theorem num_step (U x : Nat) (h : U < 72057594037927936) (hx : x < 256) : IntKind.u64.wrap (IntKind.u64.wrap ((U : Int) * 256) + IntKind.u64.wrap (x : Int)) = ((U * 256 + x : Nat) : Int) := by
  rw [IntKind.wrap_u64, IntKind.wrap_u64, IntKind.wrap_u64]
  omega
theorem cell_app {W w6 : World} {o : Obj} {row : Option Nat} {g k : Nat} (hg : (W.alloc o).grownBy w6 row) (h1 : g < W.heap.size) (h2 : ∀ j, row = some j → j < g) : w6.cell? ⟨g, k, none⟩ = W.cell? ⟨g, k, none⟩ :=
  (World.cell?_of_block (hg.block g (by simp; omega) (fun e => by have := h2 _ e.symm; omega))).trans (World.cell?_alloc_lt _ _ _ h1)
theorem dec6 {l : List UInt8} (hl : ¬ 200 < l.length) (h : rdKey l.length l = none) : decE l = 6 ∧ decK l = [] := by
  unfold decE decK
  rw [if_neg hl, if_neg hl, h]
  exact ⟨rfl, rfl⟩
theorem dec0 {l : List UInt8} {ks : List KPart} (hl : ¬ 200 < l.length) (h : rdKey l.length l = some ks) : decE l = 0 ∧ decK l = ks := by
  unfold decE decK
  rw [if_neg hl, if_neg hl, h]
  exact ⟨rfl, rfl⟩
theorem drop_get {l : List UInt8} {i : Nat} (h : i < l.length) : ∃ b t, l.drop i = b :: t ∧ b = l[i] ∧ t = l.drop (i + 1) ∧ t.length = l.length - i - 1 :=
  ⟨l[i], l.drop (i + 1), List.drop_eq_getElem_cons h, rfl, rfl, by rw [List.length_drop]; omega⟩

theorem rdT_ne {x : UInt8} (hx : ¬ x = 0) (u : List UInt8) : rdT (x :: u) = (rdT u).map (fun y => (x :: y.1, y.2)) := by
  cases u with
  | nil => rfl
  | cons c u => rw [rdT, if_neg hx]
theorem stepText {W : World} {g : Nat} {s : List UInt8} {t : TypeId} (x : UInt8) (h : W.heap[g]? = some (.cells #[.bool true, .string ⟨s.toArray⟩, .int .i64 0] t (0, 0))) :
    (W.setCell ⟨g, 1, none⟩ (.string (⟨s.toArray⟩ ++ ⟨#[x]⟩))).drew.heap[g]? = some (.cells #[.bool true, .string ⟨(s ++ [x]).toArray⟩, .int .i64 0] t (0, 0)) := by
  have h1 := heap_setCell_same W g 1 _ t (.string (⟨s.toArray⟩ ++ ⟨#[x]⟩)) h
  have e : (⟨s.toArray⟩ ++ ⟨#[x]⟩ : ByteArray) = ⟨(s ++ [x]).toArray⟩ := by
    apply ByteArray.ext
    simp
  rw [e] at h1 ⊢
  exact h1
theorem rdT_esc0 (u : List UInt8) : rdT (0 :: 255 :: u) = (rdT u).map (fun y => (0 :: y.1, y.2)) := by
  rw [rdT, if_pos rfl, if_pos rfl]
theorem map_app {o : Option (List UInt8 × List UInt8)} (s : List UInt8) (x : UInt8) : (o.map (fun y => (x :: y.1, y.2))).map (fun y => (s ++ y.1, y.2)) = o.map (fun y => ((s ++ [x]) ++ y.1, y.2)) := by
  cases o <;> simp

set_option maxRecDepth 100000 in
set_option maxHeartbeats 4000000 in
theorem refDecode_any (A : Option Addr) (l : List UInt8) (n c B : Nat) (w : World) (hn : n = l.length) (hr : Rd w B A (u8s l)) (hB : B ≤ w.heap.size) (hc : l.length ≤ c) (_ : c ≤ 9223372036854775807) (hlm : l.length ≤ 140737488355328) :
    Calls Try.prog 19 #[.slice A n c] w fun e w' => ∃ v, e = .returned (.tuple #[v, .int .i64 (decE l)]) ∧ OwnP w' w.heap.size 57 v (decK l) ∧ Below w.heap.size w w' := by
  subst hn
  obtain ⟨i0, hi, hz0, hz1, hz2⟩ := info_parts infoRef
  rcases Nat.lt_or_ge 200 l.length with h2 | h2
  · have hE : Hid (decE l = 3) := if_pos h2
    have hK : Hid (decK l = []) := if_pos h2
    have h2' : (200 : Int) < (l.length : Int) := by omega
    go_enter Try.func19, Try.ntmps19
    go_wp2
    go_ret2
    exact ⟨_, by rw [hE.out]; rfl, by rw [hK.out]; exact World.ownsRow_nil _ _ _ _, Below.refl _ _⟩
  · have hD6 : rdKey l.length l = none → decE l = 6 ∧ decK l = [] := dec6 (by omega)
    have hD0 : ∀ ks, rdKey l.length l = some ks → decE l = 0 ∧ decK l = ks := fun ks => dec0 (by omega)
    have h2' : ¬ (200 : Int) < (l.length : Int) := by omega
    obtain ⟨ee, hee⟩ : ∃ x, x = decE l := ⟨_, rfl⟩
    obtain ⟨KK, hKK⟩ : ∃ x, x = decK l := ⟨_, rfl⟩
    rw [← hee, ← hKK] at hD6 hD0 ⊢
    have HD6 := Lib.hid hD6
    have HD0 := Lib.hid hD0
    clear hD6 hD0 hee hKK
    go_enter Try.func19, Try.ntmps19
    go_wp2
    go_loopw [4, 5] (fun kv iv wr => ∃ (i : Nat) (ks : List KPart) (f : Nat), i ≤ l.length ∧ iv = .int .i64 (i : Int) ∧ OwnP wr w.heap.size 57 kv ks ∧ Below w.heap.size w wr ∧ ks.length ≤ i ∧ l.length - i ≤ f ∧ (rdKey f (l.drop i)).map (ks ++ ·) = rdKey l.length l) (fun _ iv _ => l.length - (intOf iv).toNat)
    case atStart => exact ⟨0, [], l.length, by omega, rfl, World.ownsRow_nil _ _ _ _, Below.refl _ _, by simp, by omega, by simp⟩
    case round =>
      obtain ⟨i, ks, f, hil, rfl, hown, hbk, hki, hf, heq⟩ := hrel
      have hsz := hbk.size
      have hrw := hr.below hbk hB
      have HEQ := Lib.hid heq
      clear heq
      rcases Nat.lt_or_ge i l.length with h8 | h8
      · obtain ⟨f', rfl⟩ : ∃ f', f = f' + 1 := ⟨f - 1, by omega⟩
        obtain ⟨b, t, hd, hb, ht, htl⟩ := drop_get h8
        have hstep : rdP (l.drop i) = none → rdKey l.length l = none := by
          intro h
          rw [← HEQ.out, hd, rdKey]
          rw [hd] at h
          rw [h]
          rfl
        have hgo : ∀ p r, rdP (l.drop i) = some (p, r) → (rdKey f' (l.drop (i + partSz p))).map ((ks ++ [p]) ++ ·) = rdKey l.length l ∧ p.fits ∧ i + partSz p ≤ l.length ∧ 0 < partSz p := by
          intro p r h
          obtain ⟨h3, h4, h5, h6⟩ := drop_step h2 hil h
          refine ⟨?_, h4, h5, h6⟩
          rw [← HEQ.out, rdKey_step f' _ _ _ h, ← h3, Option.map_map]
          congr 1
          funext x
          simp
        obtain ⟨pb, po, rfl, hpB, hcell⟩ := hrw.get (k := i) (by rw [u8s_length]; exact h8)
        rw [u8s_get l i h8, ← hb] at hcell
        have hpw : pb < wr.heap.size := by omega
        have h8' : (i : Int) < (l.length : Int) := by omega
        have hne : Hid (rdKey l.length l = none → ee = 6 ∧ KK = []) := HD6
        have HST := Lib.hid hstep
        have HGO := Lib.hid hgo
        have HRW := Lib.hid hrw
        have HT := Lib.hid ht
        have HD := Lib.hid hd
        clear hstep hgo hd hb ht hr hrw HEQ
        by_cases hb1 : b = 1
        · subst hb1
          have hc1 : wr.cell? ⟨pb, po + i, none⟩ = some (.int .u8 1) := hcell
          clear hcell
          rcases Nat.lt_or_ge t.length 8 with h9 | h9
          · have hno : rdP (l.drop i) = none := by rw [HD.out, rdP, if_pos rfl, rdN, if_pos h9]
            have h6 := HD6.out (HST.out hno)
            have HSX := Lib.hid h6
            have hle : ¬ ((i : Int) + 9 ≤ (l.length : Int)) := by omega
            clear hno h6 h9 htl
            go_wp2
            go_ret2
            exact ⟨_, by rw [HSX.out.1]; rfl, by rw [HSX.out.2]; exact World.ownsRow_nil _ _ _ _, hbk.alloc hsz _⟩
          · have hle : (i : Int) + 9 ≤ (l.length : Int) := by omega
            have hyes : rdP (l.drop i) = some (⟨false, ⟨#[]⟩, (beV (t.take 8) : Int) - 9223372036854775808⟩, t.drop 8) := by rw [HD.out, rdP, if_pos rfl, rdN, if_neg (by omega)]
            have hgo := HGO.out _ _ hyes
            have HGP := Lib.hid hgo
            have HT9 := Lib.hid h9
            clear hyes hgo
            have htb : t.length ≤ 200 := by omega
            go_wp2_with fail
            have hrA := HRW.out.alloc (by omega) (.cells #[.bool false, .string ⟨#[]⟩, .int .i64 0] 57)
            have hgsz : (wr.alloc (.cells #[.bool false, .string ⟨#[]⟩, .int .i64 0] 57)).heap.size = wr.heap.size + 1 := by simp
            have hblk : (wr.alloc (.cells #[.bool false, .string ⟨#[]⟩, .int .i64 0] 57)).heap[wr.heap.size]? = some (.cells #[.bool false, .string ⟨#[]⟩, .int .i64 0] 57 (0, 0)) := heap_alloc_new wr _
            have hBW : Below wr.heap.size wr (wr.alloc (.cells #[.bool false, .string ⟨#[]⟩, .int .i64 0] 57)) := (Below.refl _ _).alloc (Nat.le_refl _) _
            obtain ⟨g, hg⟩ : ∃ g, g = wr.heap.size := ⟨_, rfl⟩
            rw [← hg] at hgsz hblk hBW ⊢
            have HG := Lib.hid hg
            have HGS := Lib.hid hgsz
            have HBK := Lib.hid hblk
            clear hgsz hblk hc1
            have hown' : Hid (OwnP wr w.heap.size 57 u4 ks) := Lib.hid hown
            generalize wr.alloc (.cells #[.bool false, .string ⟨#[]⟩, .int .i64 0] 57) = W at *
            clear hg
            go_loop [7, 8] (fun nv kv => ∃ j : Nat, j ≤ 8 ∧ kv = .int .i64 ((j : Int) + 1) ∧ nv = .int .u64 (beV (t.take j) : Int)) (fun _ kv => (9 - intOf kv).toNat)
            case atStart => exact ⟨0, by omega, rfl, rfl⟩
            case round =>
              obtain ⟨j, hj, rfl, rfl⟩ := hrel
              have hbv := beV_lt (t.take j)
              have hlk : (t.take j).length = j := by rw [List.length_take]; omega
              rw [hlk] at hbv
              rcases Nat.lt_or_ge j 8 with h10 | h10
              · have hjt : j < t.length := by omega
                obtain ⟨x, hx⟩ : ∃ x, x = t[j] := ⟨_, rfl⟩
                have hsn : beV (t.take (j + 1)) = beV (t.take j) * 256 + x.toNat := by rw [getSnoc t j hjt, beV_snoc, hx]
                have hcell : W.cell? ⟨pb, po + (i + (j + 1)), none⟩ = some (.int .u8 (x.toNat : Int)) := by
                  obtain ⟨pb', po', hA, _, hcc⟩ := hrA (by intro e; have := u8s_length l; rw [e] at this; simp at this; omega)
                  injection hA with hA
                  injection hA with h3 h4
                  subst h3 h4
                  refine hcc (i + (j + 1)) _ ?_
                  have h11 : i + (j + 1) < l.length := by omega
                  have hx2 : l[i + (j + 1)] = x := by
                    rw [hx]
                    have := HT.out
                    subst this
                    rw [List.getElem_drop]
                    congr 1
                    omega
                  simp [u8s, List.getElem?_eq_getElem h11, hx2]
                have hb56 : beV (t.take j) < 72057594037927936 := Nat.lt_of_lt_of_le hbv (by
                  have : 256 ^ j ≤ 256 ^ 7 := Nat.pow_le_pow_right (by omega) (by omega)
                  simpa using this)
                obtain ⟨U, hU⟩ : ∃ U, U = beV (t.take j) := ⟨_, rfl⟩
                rw [← hU] at hb56 hsn ⊢
                have HS := Lib.hid hsn
                have h56 := Lib.hid hb56
                have hij : (i : Int) + ((j : Int) + 1) < (l.length : Int) := by omega
                clear hsn hbv hlk hU hb56 hx
                go_wp2
                go_round
                case rel =>
                  refine ⟨j + 1, by omega, by go_num, ?_⟩
                  rw [HS.out, num_step U _ h56.out x.toNat_lt]
                case measure => simp [intOf]; omega
              · obtain rfl : j = 8 := by omega
                obtain ⟨V, hV⟩ : ∃ V, V = beV (t.take 8) := ⟨_, rfl⟩
                have hVb : V < 18446744073709551616 := by rw [hV]; exact hbv
                have hnw := num_wrap V hVb
                obtain ⟨NN, hNN⟩ : ∃ N : Int, N = (V : Int) - 9223372036854775808 := ⟨_, rfl⟩
                rw [← hV] at HGP ⊢
                rw [← hNN] at HGP hnw
                have HNW := Lib.hid hnw
                clear hV hVb hnw hNN hbv hlk h10
                have e0 : W.cell? ⟨g, 0, none⟩ = some (.bool false) := cell_of_row W g 0 _ _ _ HBK.out
                have e1 : W.cell? ⟨g, 1, none⟩ = some (.string ⟨#[]⟩) := cell_of_row W g 1 _ _ _ HBK.out
                have e2 : W.cell? ⟨g, 2, none⟩ = some (.int .i64 0) := cell_of_row W g 2 _ _ _ HBK.out
                have f2 : W.frozen? ⟨g, 2, none⟩ = false := frozen_of_row W g 2 _ _ HBK.out
                go_upto_region 25 with fail
                rw [HNW.out]
                have hblk5 := heap_setCell_same W g 2 _ _ (.int .i64 NN) HBK.out
                have HBK5 : Hid ((W.setCell ⟨g, 2, none⟩ (.int .i64 NN)).heap[g]? = some (.cells #[.bool false, .string ⟨#[]⟩, .int .i64 NN] 57 (0, 0))) := by
                  show (W.setCell ⟨g, 2, none⟩ (.int .i64 NN)).heap[g]? = _
                  rw [hblk5]; rfl
                have hB5 := hBW.setCell (p := ⟨g, 2, none⟩) (Nat.le_refl _) (.int .i64 NN)
                have HGL : Hid (g < (W.setCell ⟨g, 2, none⟩ (.int .i64 NN)).heap.size) := by
                  show g < (W.setCell ⟨g, 2, none⟩ (.int .i64 NN)).heap.size
                  have := HGS.out
                  rw [World.size_setCell]; omega
                have HWG : Hid (w.heap.size ≤ g) := by
                  show w.heap.size ≤ g
                  rw [HG.out]; exact hsz
                clear hblk5 hBW HBK e0 e1 e2 f2
                obtain ⟨W5, hW5⟩ : ∃ x, x = W.setCell ⟨g, 2, none⟩ (.int .i64 NN) := ⟨_, rfl⟩
                rw [← hW5] at HBK5 hB5 HGL ⊢
                clear hW5
                have hown5 : OwnP W5 w.heap.size 57 u4 ks := own_below hown hB5 (Nat.le_of_eq HG.out.symm)
                have e0 : W5.cell? ⟨g, 0, none⟩ = some (.bool false) := cell_of_row W5 g 0 _ _ _ HBK5.out
                have e1 : W5.cell? ⟨g, 1, none⟩ = some (.string ⟨#[]⟩) := cell_of_row W5 g 1 _ _ _ HBK5.out
                have e2 : W5.cell? ⟨g, 2, none⟩ = some (.int .i64 NN) := cell_of_row W5 g 2 _ _ _ HBK5.out
                have hbt := fun W' => refBytes_any ⟨false, ⟨#[]⟩, NN⟩ W' HGP.out.2.1 (Nat.le_trans (Nat.le_trans (Nat.le_add_left _ i) HGP.out.2.2.1) (by omega))
                have hpl := partB_length ⟨false, ⟨#[]⟩, NN⟩
                obtain ⟨P, hP⟩ : ∃ P, P = partB ⟨false, ⟨#[]⟩, NN⟩ := ⟨_, rfl⟩
                rw [← hP] at hbt hpl
                simp only [KPart.cells] at hbt
                have HBT := Lib.hid hbt
                have HPL := Lib.hid hpl
                have hPl : P.length ≤ 200 := by rw [hpl]; exact Nat.le_trans (Nat.le_trans (Nat.le_add_left _ i) HGP.out.2.2.1) h2
                have hkl : (ks.length + 1) * 32 ≤ 140737488355328 := by omega
                have hs5 := hB5.size
                have hgs5 : g < W5.heap.size := HGL.out
                have hwg : w.heap.size ≤ g := HWG.out
                have hlt : ∀ j, u4.ownBlock = some j → j < g := fun j hj => by have := (World.ownsRow.lt hown j hj).2; have := HG.out; omega
                have HLT := Lib.hid hlt
                clear hbt hpl hP hlt
                go_wp2_with (first
                  | (at_builtin; refine wpList_appR _ rfl (.tmp 114) (.tmp 116) _ rfl w.heap.size 57 i0 _ 3 32 Try.underlying32 hi hz0 hz1 hz2 rfl (by omega) u4 ks.length (pcs ks) rfl (World.ownsRow.alloc hown5 _) (W5.heap.size + 1) (some ⟨W5.heap.size, 0, none⟩) 1 1 (pcs [⟨false, ⟨#[]⟩, NN⟩]) rfl rfl (Rd.new W5 _ _ _) (pcs_one _) hkl (by omega) (by simp; omega) ?_; intro v6 w6 hown6 hg6 hat6; have e0 := (cell_app (k := 0) hg6 hgs5 HLT.out).trans e0; have e1 := (cell_app (k := 1) hg6 hgs5 HLT.out).trans e1; have e2 := (cell_app (k := 2) hg6 hgs5 HLT.out).trans e2; have hb6 : Below w.heap.size W5 w6 := ((Below.refl _ _).alloc (by omega) _).grown hg6 (by simp; omega) (fun k hk => (World.ownsRow.lt hown k hk).1); clear hg6 hat6)
                  | (go_at_call 29; (with_reducible refine (HBT.out _).mono ?_); rintro e w7 ⟨v7, rfl, hown7, hb7⟩; obtain ⟨A7, c7, rfl, -, -, -, -⟩ := hown7.shape; clear hown7))
                go_roundw
                case rel =>
                  have hsz6 := hb6.size
                  have hpe := HPL.out
                  refine ⟨i + P.length, ks ++ [⟨false, ⟨#[]⟩, NN⟩], f', ?_, by go_num, ?_, ?_, ?_, ?_, ?_⟩
                  · rw [hpe]; exact HGP.out.2.2.1
                  · have := own_below hown6 hb7 (Nat.le_refl _)
                    unfold OwnP
                    rw [List.length_append, pcs_append]
                    exact this
                  · exact ((hbk.trans (hB5.mono hwg)).trans hb6).trans (hb7.mono (by omega))
                  · have := HGP.out.2.2.2
                    rw [List.length_append]
                    simp only [List.length_cons, List.length_nil]
                    omega
                  · have := HGP.out.2.2.2
                    omega
                  · rw [hpe]; exact HGP.out.1
                case measure =>
                  have h10 := HGP.out.2.2
                  have h11 := HPL.out
                  simp [intOf]
                  omega
        · by_cases hb2 : b = 2
          · subst hb2
            have hc1 : wr.cell? ⟨pb, po + i, none⟩ = some (.int .u8 2) := hcell
            clear hcell hb1
            have hrt : rdP (l.drop i) = txt (rdT t) := by rw [HD.out, rdP, if_neg (by decide), if_pos rfl]
            have HRT := Lib.hid hrt
            clear hrt
            go_wp2_with fail
            have hBW : Below wr.heap.size wr (wr.alloc (.cells #[.bool true, .string ⟨#[]⟩, .int .i64 0] 57)) := (Below.refl _ _).alloc (Nat.le_refl _) _
            have hgsz : wr.heap.size < (wr.alloc (.cells #[.bool true, .string ⟨#[]⟩, .int .i64 0] 57)).heap.size := by simp
            have hblk : (wr.alloc (.cells #[.bool true, .string ⟨#[]⟩, .int .i64 0] 57)).heap[wr.heap.size]? = some (.cells #[.bool true, .string ⟨#[]⟩, .int .i64 0] 57 (0, 0)) := heap_alloc_new wr _
            obtain ⟨g, hg⟩ : ∃ g, g = wr.heap.size := ⟨_, rfl⟩
            rw [← hg] at hgsz hblk hBW ⊢
            have HG := Lib.hid hg
            have HWG : Hid (w.heap.size ≤ g) := by
              show w.heap.size ≤ g
              rw [hg]; exact hsz
            have hBg : B ≤ g := by omega
            generalize (wr.alloc (.cells #[.bool true, .string ⟨#[]⟩, .int .i64 0] 57)) = W at *
            clear hg hc1
            have HBW := Lib.hid hBW
            have HBK := Lib.hid hblk
            have HOWN := Lib.hid hown
            clear hblk hBW hown
            go_loopw [9] (fun av w2 => ∃ (a : Nat) (s : List UInt8), i + 1 ≤ a ∧ a ≤ l.length ∧ av = .int .i64 (a : Int) ∧ Below g wr w2 ∧ g < w2.heap.size ∧ s.length ≤ a ∧ w2.heap[g]? = some (.cells #[.bool true, .string ⟨s.toArray⟩, .int .i64 0] 57 (0, 0)) ∧ (rdT (l.drop a)).map (fun x => (s ++ x.1, x.2)) = rdT t) (fun av _ => l.length - (intOf av).toNat)
            case atStart => exact ⟨i + 1, [], Nat.le_refl _, h8, by go_num, HBW.out, hgsz, by simp, HBK.out, by rw [← HT.out]; simp⟩
            case round =>
              clear hgsz
              obtain ⟨a, s, hia, hal, rfl, hB2, hg2, hsa, hblk, heq⟩ := hrel
              have hrA := HRW.out.below hB2 (by omega)
              have e0 : wr.cell? ⟨g, 0, none⟩ = some (.bool true) := cell_of_row wr g 0 _ _ _ hblk
              have e1 : wr.cell? ⟨g, 1, none⟩ = some (.string ⟨s.toArray⟩) := cell_of_row wr g 1 _ _ _ hblk
              have e2 : wr.cell? ⟨g, 2, none⟩ = some (.int .i64 0) := cell_of_row wr g 2 _ _ _ hblk
              have f1 : wr.frozen? ⟨g, 1, none⟩ = false := frozen_of_row wr g 1 _ _ hblk
              have HBK2 := Lib.hid hblk
              have HEQ2 := Lib.hid heq
              clear hblk heq
              have hbad : rdT t = none → ee = 6 ∧ KK = [] := fun h => HD6.out (HST.out (by rw [HRT.out, h]; rfl))
              have HBAD := Lib.hid hbad
              clear hbad
              rcases Nat.lt_or_ge a l.length with h9 | h9
              · obtain ⟨x, u, hd2, hx, hu, hul⟩ := drop_get h9
                have hcx : wr.cell? ⟨pb, po + a, none⟩ = some (.int .u8 (x.toNat : Int)) := by
                  obtain ⟨pb', po', hA, _, hcc⟩ := hrA (by intro e; have := u8s_length l; rw [e] at this; simp at this; omega)
                  injection hA with hA
                  injection hA with h3 h4
                  subst h3 h4
                  refine hcc a _ ?_
                  simp [u8s, List.getElem?_eq_getElem h9, hx]
                have HX := Lib.hid hx
                have HU := Lib.hid hu
                have HD2 := Lib.hid hd2
                have h9' : (a : Int) < (l.length : Int) := by omega
                clear hd2 hx hu
                by_cases hx0 : ((x.toNat : Int) == 0) = true
                · have hxz : x = 0 := UInt8.toNat_inj.1 (by have := beq_iff_eq.1 hx0; show x.toNat = 0; omega)
                  have hx0'' : ((x.toNat : Int) != 0) = false := by rw [hxz]; rfl
                  have HXZ := Lib.hid hxz
                  clear hxz
                  rcases Nat.lt_or_ge (a + 1) l.length with h10 | h10
                  · obtain ⟨y, v, hd3, hy, hv, hvl⟩ := drop_get h10
                    have hcy : wr.cell? ⟨pb, po + (a + 1), none⟩ = some (.int .u8 (y.toNat : Int)) := by
                      obtain ⟨pb', po', hA, _, hcc⟩ := hrA (by intro e; have := u8s_length l; rw [e] at this; simp at this; omega)
                      injection hA with hA
                      injection hA with h3 h4
                      subst h3 h4
                      refine hcc (a + 1) _ ?_
                      simp [u8s, List.getElem?_eq_getElem h10, hy]
                    have hdd : l.drop a = 0 :: y :: v := by rw [HD2.out, HXZ.out, HU.out, hd3]
                    have HDD := Lib.hid hdd
                    have HV := Lib.hid hv
                    have h10' : (a : Int) + 1 < (l.length : Int) := by omega
                    clear hd3 hy hv hdd
                    by_cases hy5 : ((y.toNat : Int) == 255) = true
                    · have hyy : y = 255 := UInt8.toNat_inj.1 (by have := beq_iff_eq.1 hy5; show y.toNat = 255; omega)
                      have hnx : (rdT (l.drop (a + 2))).map (fun y => ((s ++ [x]) ++ y.1, y.2)) = rdT t := by
                        rw [← HEQ2.out, HDD.out, hyy, rdT_esc0, HXZ.out, map_app, HV.out]
                      have HNX := Lib.hid hnx
                      clear hyy hnx
                      have hca : ¬ c = a := by omega
                      have hrx : Rd wr.drew B (some ⟨pb, po + a, none⟩) (u8s [x]) := fun _ => ⟨pb, po + a, rfl, hpB, fun j u hu => by
                        rcases j with _ | j
                        · simp [u8s] at hu; subst hu; exact hcx
                        · simp [u8s] at hu⟩
                      have qx := strAt0 (n := 1) (c := c - a) hrx rfl
                      clear hrx
                      go_wp2_with fail
                      go_region
                      go_wp2_with fail
                      refine ⟨⟨a + 2, s ++ [x], by omega, by omega, by go_num, (hB2.setCell (p := ⟨g, 1, none⟩) (Nat.le_refl _) _).drew, ?_, ?_, stepText x HBK2.out, HNX.out⟩, ?_⟩
                      · show g < (wr.setCell ⟨g, 1, none⟩ _).heap.size
                        rw [World.size_setCell]; exact hg2
                      · rw [List.length_append]; simp only [List.length_cons, List.length_nil]; omega
                      · simp [intOf]; omega
                    · have hy5' : ((y.toNat : Int) == 255) = false := by simpa using hy5
                      have hyn : ¬ y = 255 := by rintro rfl; simp at hy5
                      clear hy5
                      by_cases hy1 : ((y.toNat : Int) == 1) = true
                      · have hyy : y = 1 := UInt8.toNat_inj.1 (by have := beq_iff_eq.1 hy1; show y.toNat = 1; omega)
                        have hy1' : ((y.toNat : Int) != 1) = false := by rw [hyy]; rfl
                        have hyes : rdP (l.drop i) = some (⟨true, ⟨s.toArray⟩, 0⟩, v) := by
                          rw [HRT.out, ← HEQ2.out, HDD.out, hyy, rdT, if_pos rfl, if_neg (by decide), if_pos rfl]
                          simp [txt]
                        have hgo := HGO.out _ _ hyes
                        have HGP := Lib.hid hgo
                        clear hgo hyes hyy hyn hy1
                        go_upto_region 25 with fail
                        have hB5 := hB2
                        have HBK5 := HBK2
                        have HGL := Lib.hid hg2
                        have hown := HOWN.out
                        clear hB2 HBK2 hg2 e0 e1 e2 f1 hcx hcy
                        obtain ⟨W5, hW5⟩ : ∃ x, x = wr := ⟨_, rfl⟩
                        rw [← hW5] at HBK5 hB5 HGL ⊢
                        clear hW5
                        have hown5 : OwnP W5 w.heap.size 57 u4 ks := own_below hown hB5 (Nat.le_of_eq HG.out.symm)
                        have e0 : W5.cell? ⟨g, 0, none⟩ = some (.bool true) := cell_of_row W5 g 0 _ _ _ HBK5.out
                        have e1 : W5.cell? ⟨g, 1, none⟩ = some (.string ⟨s.toArray⟩) := cell_of_row W5 g 1 _ _ _ HBK5.out
                        have e2 : W5.cell? ⟨g, 2, none⟩ = some (.int .i64 0) := cell_of_row W5 g 2 _ _ _ HBK5.out
                        have hbt := fun W' => refBytes_any ⟨true, ⟨s.toArray⟩, 0⟩ W' HGP.out.2.1 (Nat.le_trans (Nat.le_trans (Nat.le_add_left _ i) HGP.out.2.2.1) (by omega))
                        have hpl := partB_length ⟨true, ⟨s.toArray⟩, 0⟩
                        obtain ⟨P, hP⟩ : ∃ P, P = partB ⟨true, ⟨s.toArray⟩, 0⟩ := ⟨_, rfl⟩
                        rw [← hP] at hbt hpl
                        simp only [KPart.cells] at hbt
                        have HBT := Lib.hid hbt
                        have HPL := Lib.hid hpl
                        have hPl : P.length ≤ 200 := by rw [hpl]; exact Nat.le_trans (Nat.le_trans (Nat.le_add_left _ i) HGP.out.2.2.1) h2
                        have hkl : (ks.length + 1) * 32 ≤ 140737488355328 := by omega
                        have hs5 := hB5.size
                        have hgs5 : g < W5.heap.size := HGL.out
                        have hwg : w.heap.size ≤ g := HWG.out
                        have hlt : ∀ j, u4.ownBlock = some j → j < g := fun j hj => by have := (World.ownsRow.lt hown j hj).2; have := HG.out; omega
                        have HLT := Lib.hid hlt
                        clear hbt hpl hP hlt
                        go_wp2_with (first
                          | (at_builtin; refine wpList_appR _ rfl (.tmp 114) (.tmp 116) _ rfl w.heap.size 57 i0 _ 3 32 Try.underlying32 hi hz0 hz1 hz2 rfl (by omega) u4 ks.length (pcs ks) rfl (World.ownsRow.alloc hown5 _) (W5.heap.size + 1) (some ⟨W5.heap.size, 0, none⟩) 1 1 (pcs [⟨true, ⟨s.toArray⟩, 0⟩]) rfl rfl (Rd.new W5 _ _ _) (pcs_one _) hkl (by omega) (by simp; omega) ?_; intro v6 w6 hown6 hg6 hat6; have e0 := (cell_app (k := 0) hg6 hgs5 HLT.out).trans e0; have e1 := (cell_app (k := 1) hg6 hgs5 HLT.out).trans e1; have e2 := (cell_app (k := 2) hg6 hgs5 HLT.out).trans e2; have hb6 : Below w.heap.size W5 w6 := ((Below.refl _ _).alloc (by omega) _).grown hg6 (by simp; omega) (fun k hk => (World.ownsRow.lt hown k hk).1); clear hg6 hat6)
                          | (go_at_call 29; (with_reducible refine (HBT.out _).mono ?_); rintro e w7 ⟨v7, rfl, hown7, hb7⟩; obtain ⟨A7, c7, rfl, -, -, -, -⟩ := hown7.shape; clear hown7))
                        go_roundw
                        case rel =>
                          have hsz6 := hb6.size
                          have hpe := HPL.out
                          refine ⟨i + P.length, ks ++ [⟨true, ⟨s.toArray⟩, 0⟩], f', ?_, by go_num, ?_, ?_, ?_, ?_, ?_⟩
                          · rw [hpe]; exact HGP.out.2.2.1
                          · have := own_below hown6 hb7 (Nat.le_refl _)
                            unfold OwnP
                            rw [List.length_append, pcs_append]
                            exact this
                          · exact ((hbk.trans (hB5.mono hwg)).trans hb6).trans (hb7.mono (by omega))
                          · have := HGP.out.2.2.2
                            rw [List.length_append]
                            simp only [List.length_cons, List.length_nil]
                            omega
                          · have := HGP.out.2.2.2
                            omega
                          · rw [hpe]; exact HGP.out.1
                        case measure =>
                          have h10 := HGP.out.2.2
                          have h11 := HPL.out
                          simp [intOf]
                          omega
                      · have hy1' : ((y.toNat : Int) != 1) = true := by simpa using hy1
                        have hyz : ¬ y = 1 := by rintro rfl; simp at hy1
                        have hno : rdT t = none := by
                          rw [← HEQ2.out, HDD.out, rdT, if_pos rfl, if_neg hyn, if_neg hyz]; rfl
                        have hbd := HBAD.out hno
                        have HBD := Lib.hid hbd
                        clear hno hbd hyn hyz hy1
                        go_wp2
                        go_ret2
                        exact ⟨_, by rw [HBD.out.1]; rfl, by rw [HBD.out.2]; exact World.ownsRow_nil _ _ _ _, hbk.trans (hB2.mono HWG.out)⟩
                  · have hno : rdT t = none := by
                      have hu0 : u = [] := List.eq_nil_of_length_eq_zero (by omega)
                      rw [← HEQ2.out, HD2.out, hu0]; rfl
                    have hbd := HBAD.out hno
                    have HBD := Lib.hid hbd
                    have h10' : ¬ ((a : Int) + 1 < (l.length : Int)) := by omega
                    have h10'' : (l.length : Int) ≤ (a : Int) + 1 := by omega
                    clear hno hbd
                    go_wp2
                    go_ret2
                    exact ⟨_, by rw [HBD.out.1]; rfl, by rw [HBD.out.2]; exact World.ownsRow_nil _ _ _ _, hbk.trans (hB2.mono HWG.out)⟩
                · have hx0' : ((x.toNat : Int) == 0) = false := by simpa using hx0
                  have hx0'' : ((x.toNat : Int) != 0) = true := by simpa using hx0
                  have hxn : ¬ x = 0 := by rintro rfl; simp at hx0
                  have hnx : (rdT (l.drop (a + 1))).map (fun y => ((s ++ [x]) ++ y.1, y.2)) = rdT t := by
                    rw [← HEQ2.out, HD2.out, rdT_ne hxn, map_app, ← HU.out]
                  have HNX := Lib.hid hnx
                  clear hxn hnx hx0
                  have hca : ¬ c = a := by omega
                  have hrx : Rd wr.drew B (some ⟨pb, po + a, none⟩) (u8s [x]) := fun _ => ⟨pb, po + a, rfl, hpB, fun j u hu => by
                    rcases j with _ | j
                    · simp [u8s] at hu; subst hu; exact hcx
                    · simp [u8s] at hu⟩
                  have qx := strAt0 (n := 1) (c := c - a) hrx rfl
                  clear hrx
                  go_wp2_with fail
                  go_region
                  go_wp2_with fail
                  refine ⟨⟨a + 1, s ++ [x], by omega, by omega, by go_num, (hB2.setCell (p := ⟨g, 1, none⟩) (Nat.le_refl _) _).drew, ?_, ?_, stepText x HBK2.out, HNX.out⟩, ?_⟩
                  · show g < (wr.setCell ⟨g, 1, none⟩ _).heap.size
                    rw [World.size_setCell]; exact hg2
                  · rw [List.length_append]; simp only [List.length_cons, List.length_nil]; omega
                  · simp [intOf]; omega
              · have hae : a = l.length := by omega
                have hno : rdT t = none := by rw [← HEQ2.out, hae, List.drop_length]; rfl
                have hbd := HBAD.out hno
                have HBD := Lib.hid hbd
                have h9' : ¬ ((a : Int) < (l.length : Int)) := by omega
                have h9'' : (l.length : Int) ≤ (a : Int) + 1 := by omega
                clear hno hbd hae
                go_wp2
                go_ret2
                exact ⟨_, by rw [HBD.out.1]; rfl, by rw [HBD.out.2]; exact World.ownsRow_nil _ _ _ _, hbk.trans (hB2.mono HWG.out)⟩
          · have hno : rdP (l.drop i) = none := by rw [HD.out, rdP, if_neg hb1, if_neg hb2]
            have h6 := HD6.out (HST.out hno)
            have HSX := Lib.hid h6
            have n1 : ((b.toNat : Int) == 1) = false := by
              rw [beq_eq_false_iff_ne]; intro e; exact hb1 (UInt8.toNat_inj.1 (by show b.toNat = 1; omega))
            have n2 : ((b.toNat : Int) == 2) = false := by
              rw [beq_eq_false_iff_ne]; intro e; exact hb2 (UInt8.toNat_inj.1 (by show b.toNat = 2; omega))
            clear hno h6 hb1 hb2
            go_wp2
            go_ret2
            exact ⟨_, by rw [HSX.out.1]; rfl, by rw [HSX.out.2]; exact World.ownsRow_nil _ _ _ _, hbk.alloc hsz _⟩
      · obtain rfl : i = l.length := by omega
        have hfin : rdKey l.length l = some ks := by
          rw [← HEQ.out, List.drop_length, rdKey_nil]; simp
        have h0 := HD0.out _ hfin
        have HFN := Lib.hid h0
        clear hfin h0
        go_wp2
        go_ret2
        exact ⟨_, by rw [HFN.out.1]; rfl, by rw [HFN.out.2]; exact hown, hbk⟩
end Go.Proofs.Ytinhmchekdolmaa
