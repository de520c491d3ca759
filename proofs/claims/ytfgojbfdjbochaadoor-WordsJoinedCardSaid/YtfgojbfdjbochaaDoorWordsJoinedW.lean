/- WordsJoined: the walk. -/
import Derived.Test.YtfgojbfdjbochaaDoorWdX
import Derived.Test.YtfgojbfdjbochaaDoorWdY
import Derived.Test.YtfgojbfdjbochaaDoorWdI
namespace Go.Proofs.YtfgojbfdjbochaaDoor
open Go.RowKit Go.Maps

theorem strsV_append (L R : List (List UInt8)) : strsV (L ++ R) = strsV L ++ strsV R := by simp [strsV]
theorem strsV_len (L : List (List UInt8)) : (strsV L).length = L.length := by simp [strsV]
/-- append of a text. -/
theorem app_str {W : World} {base m : Nat} {A : Option Addr} {c : Nat} {L : List (List UInt8)} (hown : W.ownsRow base 9 1 (.slice A L.length c) L.length (strsV L)) (x : List UInt8) (hB : base ≤ W.heap.size) (hn : L.length ≤ 1000000) (hm : ∀ g, (Value.slice A L.length c).ownBlock = some g → g < m) :
    ∃ (A' : Option Addr) (c' : Nat) (w' : World), (Builtin.append_ #[40, 40] 40 #[.slice A L.length c, .slice (some ⟨W.heap.size, 0, none⟩) 1 1]).run Tryd.prog (W.alloc (.cells #[.string ⟨x.toArray⟩] 9)) = .ok (.slice A' (L.length + 1) c') w' ∧
      w'.ownsRow base 9 1 (.slice A' (L ++ [x]).length c') (L ++ [x]).length (strsV (L ++ [x])) ∧ Below base W w' ∧ ∀ z, m ≤ z → z < W.heap.size → w'.heap[z]? = W.heap[z]? := by
  obtain ⟨i, hi, hz0, hz1, hz2⟩ := info_parts infoStr
  have hb : Below base W (W.alloc (.cells #[.string ⟨x.toArray⟩] 9)) := (Below.refl _ _).alloc hB _
  obtain ⟨v', w', hrun, h1, h2, h3⟩ := run_appR (P := Tryd.prog) (W.alloc (.cells #[.string ⟨x.toArray⟩] 9)) base 40 40 9 i _ 1 16 Tryd.underlying40 hi hz0 hz1 hz2 rfl (by omega) (.slice A L.length c) L.length (strsV L) (World.ownsRow.alloc hown _) (W.heap.size + 1) (some ⟨W.heap.size, 0, none⟩) 1 1 [.string ⟨x.toArray⟩] rfl (Rd.new W #[.string ⟨x.toArray⟩] 9 (0, 0)) (by simp [Value.oneCell']) (by omega) (by omega) (by simp; omega)
  obtain ⟨A', c', rfl, _, _, _⟩ := own_shape h1
  have hl : (L ++ [x]).length = L.length + 1 := by simp
  refine ⟨A', c', w', hrun, ?_, hb.trans (grown_below' h2 (fun z hz => (World.ownsRow.lt hown z hz).1) (by simp; omega)), fun z h4 h5 => ?_⟩
  · rw [hl, strsV_append]
    exact h1
  · rw [h2.block z (by simp; omega) (fun e => by have := hm z e.symm; omega)]
    exact Below.heap_alloc _ _ _ h5

theorem one_strJ (w : World) (b : UInt8) : (convert 41 9 (.slice (some ⟨w.heap.size, 0, none⟩) 1 1)).run Tryd.prog (w.alloc (.cells #[.int .u8 (b.toNat : Int)] 5)) = .ok (.string ⟨[b].toArray⟩) (w.alloc (.cells #[.int .u8 (b.toNat : Int)] 5)) :=
  strAt (Rd.new w #[.int .u8 (b.toNat : Int)] 5 (0, 0)) rfl
def pcOf (l0 : List (List UInt8)) (l1 l2 : List UInt8) (i : Nat) : Pc := ⟨nameB (l0.getD i []), if i < l1.length then some ((l1.getD i 0).toNat % 7) else none, if i < l2.length then (l2.getD i 0).toNat % 8 else 0⟩
theorem pcOf_ok (l0 : List (List UInt8)) (l1 l2 : List UInt8) (i : Nat) : (pcOf l0 l1 l2 i).ok := by
  refine ⟨nameB_ok _, fun k hk => ?_, ?_⟩
  · simp only [pcOf] at hk
    split at hk
    · injection hk with hk; omega
    · cases hk
  · simp only [pcOf]
    split <;> omega
def rawV : Array Value := #[.string ⟨#[40]⟩, .string ⟨#[41]⟩, .string ⟨#[44]⟩, .string ⟨#[61]⟩, .string ⟨#[59]⟩, .string ⟨#[226, 134, 144]⟩, .string ⟨#[226, 136, 167]⟩]
def plnV : Array Value := #[.string ⟨#[40]⟩, .string ⟨#[41]⟩, .string ⟨#[44]⟩, .string ⟨#[61]⟩, .string ⟨#[59]⟩, .string ⟨#[61]⟩, .string ⟨#[44]⟩]
theorem rawV_at (k : Nat) (h : k < 7) : rawV[k]? = some (.string ⟨(rawB k).toArray⟩) ∧ plnV[k]? = some (.string ⟨(plnB k).toArray⟩) := by
  have hcase : k = 0 ∨ k = 1 ∨ k = 2 ∨ k = 3 ∨ k = 4 ∨ k = 5 ∨ k = 6 := by omega
  rcases hcase with rfl | rfl | rfl | rfl | rfl | rfl | rfl <;> exact ⟨rfl, rfl⟩
theorem strs_cell {w : World} {B : Nat} {A : Option Addr} {l : List (List UInt8)} (h : Rd w B A (strsV l)) {k : Nat} (hk : k < l.length) : ∃ ab ao, A = some ⟨ab, ao, none⟩ ∧ ab < B ∧ w.cell? ⟨ab, ao + k, none⟩ = some (.string ⟨l[k].toArray⟩) := by
  obtain ⟨b, o, e, hb, hc⟩ := h.get (k := k) (by rw [strsV_len]; exact hk)
  refine ⟨b, o, e, hb, ?_⟩
  rw [hc]
  simp [strsV]

set_option maxRecDepth 100000 in
set_option maxHeartbeats 4000000 in
theorem wordsJoined_walk (A0 : Option Addr) (l0 : List (List UInt8)) (c0 : Nat) (A1 : Option Addr) (l1 : List UInt8) (c1 : Nat) (A2 : Option Addr) (l2 : List UInt8) (c2 : Nat) (w : World)
    (a0 : Rd w w.heap.size A0 (strsV l0)) (b0 : l0.length ≤ c0) (_e0 : c0 ≤ maxLen) (a1 : Rd w w.heap.size A1 (u8s l1)) (b1 : l1.length ≤ c1) (_e1 : c1 ≤ 140737488351232) (a2 : Rd w w.heap.size A2 (u8s l2)) (b2 : l2.length ≤ c2) (_e2 : c2 ≤ 140737488351232) (hT : Tabs w) :
    Calls Tryd.prog 5 #[.slice A0 l0.length c0, .slice A1 l1.length c1, .slice A2 l2.length c2] w fun e w' => e = .returned (.bool true) ∧ Below w.heap.size w w' := by
  have HT := Lib.hid hT
  obtain ⟨n, hn⟩ : ∃ n, n = min l0.length 30 := ⟨_, rfl⟩
  obtain ⟨Ps, hPs⟩ : ∃ Ps, Ps = (List.range n).map (pcOf l0 l1 l2) := ⟨_, rfl⟩
  have hPl : Ps.length = n := by rw [hPs]; simp
  have hPok : ∀ P ∈ Ps, P.ok := by
    intro P hP
    rw [hPs, List.mem_map] at hP
    obtain ⟨i, _, rfl⟩ := hP
    exact pcOf_ok _ _ _ _
  have hPat : ∀ i (h : i < Ps.length), Ps[i] = pcOf l0 l1 l2 i := fun i h => by simp [hPs]
  have HA := Lib.hid (And.intro a0 (And.intro a1 (And.intro a2 (And.intro hn (And.intro hPl (And.intro hPok hPat))))))
  have b0I : (l0.length : Int) ≤ (c0 : Int) := by omega
  have b1I : (l1.length : Int) ≤ (c1 : Int) := by omega
  have b2I : (l2.length : Int) ≤ (c2 : Int) := by omega
  clear hT a0 a1 a2 hn hPs hPl hPok hPat
  go_enter Tryd.func5, Tryd.ntmps5
  go_upto_region 3 with (go_at_call 8; (with_reducible refine (awake_any _ HT.out).mono ?_); rintro e w1 ⟨rfl, hb1⟩)
  have HW := Lib.hid (And.intro hb1 (And.intro (HT.out.below hb1) (And.intro (HA.out.1.below hb1 (Nat.le_refl _)) (And.intro (HA.out.2.1.below hb1 (Nat.le_refl _)) (HA.out.2.2.1.below hb1 (Nat.le_refl _))))))
  clear hb1 HT
  go_upto_block 0 with (fail)
  go_cut [7, 8] from 9 to 104 (fun tv wv w' => ∃ Ao co, tv = .string ⟨(pcsB Ps).toArray⟩ ∧ wv = .slice Ao (pcsW Ps).length co ∧ w'.ownsRow w1.heap.size 9 1 (.slice Ao (pcsW Ps).length co) (pcsW Ps).length (strsV (pcsW Ps)) ∧ Below w1.heap.size w1 w')
  case first =>
    go_wp2_with (fail)
    go_loopw [7, 8, 9] (fun tv wv iv wr => ∃ (i : Nat) (Ao : Option Addr) (co : Nat), i ≤ n ∧ iv = .int .i64 (i : Int) ∧ tv = .string ⟨(pcsB (Ps.take i)).toArray⟩ ∧ wv = .slice Ao (pcsW (Ps.take i)).length co ∧ wr.ownsRow w1.heap.size 9 1 (.slice Ao (pcsW (Ps.take i)).length co) (pcsW (Ps.take i)).length (strsV (pcsW (Ps.take i))) ∧ Below w1.heap.size w1 wr) (fun _ _ iv _ => n - (intOf iv).toNat)
    case atStart => exact ⟨0, none, 0, by omega, rfl, rfl, rfl, World.ownsRow_nil _ _ _ _, Below.refl _ _⟩
    case round =>
      obtain ⟨i, Ao, co, hi, rfl, rfl, rfl, hrow, hbl⟩ := hrel
      by_cases hin : i < n
      · have hn0 := HA.out.2.2.2.1
        have hiI : (i : Int) < (l0.length : Int) := by omega
        have hi30 : (i : Int) < 30 := by omega
        have hi0 : i < l0.length := by omega
        have hPi := HA.out.2.2.2.2.2.2 i (by have := HA.out.2.2.2.2.1; omega)
        have htB := pcsB_take Ps i (by have := HA.out.2.2.2.2.1; omega)
        have htW := pcsW_take Ps i (by have := HA.out.2.2.2.2.1; omega)
        have hlB := pcsB_len (Ps.take i) (fun x hx => HA.out.2.2.2.2.2.1 x (List.mem_of_mem_take hx))
        have hlW := pcsW_len (Ps.take i)
        have htl : (Ps.take i).length ≤ 30 := by rw [List.length_take]; omega
        rw [hPi] at htB htW
        obtain ⟨ab, ao, rfl, hab, hnm⟩ := strs_cell HW.out.2.2.1 hi0
        have hg0 : l0.getD i [] = l0[i] := by simp [List.getD, hi0]
        have hnO : (pcOf l0 l1 l2 i).nm = nameB l0[i] := by simp only [pcOf]; rw [hg0]
        obtain ⟨PP, hPP⟩ : ∃ PP, PP = pcOf l0 l1 l2 i := ⟨_, rfl⟩
        have hsg : PP.sg = if i < l1.length then some ((l1.getD i 0).toNat % 7) else none := by rw [hPP]; rfl
        have hgp : PP.gp = if i < l2.length then (l2.getD i 0).toNat % 8 else 0 := by rw [hPP]; rfl
        rw [← hPP] at htB htW hnO
        generalize l0[i] = l at hnm hnO
        obtain ⟨T, hTT⟩ : ∃ T, T = pcsB (Ps.take i) := ⟨_, rfl⟩
        obtain ⟨Wn, hWn⟩ : ∃ Wn, Wn = pcsW (Ps.take i) := ⟨_, rfl⟩
        rw [← hTT] at htB hlB ⊢
        rw [← hWn] at htW hlW hrow ⊢
        have hTl : T.length ≤ 800 := by omega
        have hWl : Wn.length ≤ 60 := by omega
        have HP := Lib.hid (And.intro htB (And.intro htW (And.intro hnO (And.intro hsg (And.intro hgp (And.intro hTl (And.intro hWl (And.intro hin (And.intro hrow (And.intro hbl hab))))))))))
        have hnm0 : wr.cell? ⟨ab, ao + i, none⟩ = some (.string ⟨l.toArray⟩) := (hbl.cell (p := ⟨ab, ao + i, none⟩) (Nat.lt_of_lt_of_le hab HW.out.1.size)).trans hnm
        clear htB htW hnO hsg hgp hlB hlW htl hPi hTT hWn hPP hg0 hn0 hi hi0 hin hrow hbl hab hTl hWl
        go_upto_block 2 with (fail)
        go_cut [10] from 32 to 56 (fun nv w' => nv = .string ⟨(nameB l).toArray⟩ ∧ Below wr.heap.size wr w')
        case first =>
          go_wp2_with (fail)
          go_loopw [10, 11] (fun nv kv wz => ∃ k : Nat, k ≤ 16 ∧ k ≤ l.length ∧ kv = .int .i64 (k : Int) ∧ nv = .string ⟨(nmK l k).toArray⟩ ∧ Below wr.heap.size wr wz) (fun _ kv _ => 16 - (intOf kv).toNat)
          case atStart => exact ⟨0, by omega, by omega, rfl, rfl, Below.refl _ _⟩
          case round =>
            obtain ⟨k, hk16, hkl, rfl, rfl, hbz⟩ := hrel
            have hnmz := (hbz.cell (p := ⟨ab, ao + i, none⟩) (World.block_lt_of_cell? _ _ hnm0)).trans hnm0
            by_cases hin2 : k < l.length
            · have hkI : (k : Int) < (l.length : Int) := by omega
              by_cases hk6 : k < 16
              · have hkJ : (k : Int) < 16 := by omega
                have htk := nmK_succ hin2
                have hDl := nmK_len l k
                have hs9 : k < (⟨l.toArray⟩ : ByteArray).size := by have : (⟨l.toArray⟩ : ByteArray).size = l.length := List.size_toArray; omega
                have hgb : (⟨l.toArray⟩ : ByteArray)[k]'hs9 = l[k] := by rfl
                have hstr := one_strJ wr (nb l[k])
                have hcell : (((nb l[k]).toNat : Nat) : Int) = 97 + ((((⟨l.toArray⟩ : ByteArray)[k]'hs9).toNat : Nat) : Int) % 26 := by rw [hgb, nb_toNat]; omega
                rw [hcell] at hstr
                generalize l[k] = b at hstr htk hgb
                obtain ⟨D, hD⟩ : ∃ D, D = nmK l k := ⟨_, rfl⟩
                rw [← hD] at htk hDl ⊢
                have hnx := htk
                have hcat : ¬ (9223372036854775807 < D.length + 1) := by omega
                have HJ := Lib.hid (And.intro hnx (And.intro hbz (And.intro hk6 hin2)))
                clear hk16 hkl htk hgb hcell hD hDl hnx hbz hk6 hin2
                go_wp2_with (fail)
                refine ⟨⟨k + 1, by have := HJ.out.2.2.1; omega, by have := HJ.out.2.2.2; omega, by simp, ?_, HJ.out.2.1.alloc HJ.out.2.1.size _⟩, by simp [intOf]; have := HJ.out.2.2.1; omega⟩
                rw [HJ.out.1, ← app_lists]
              · have hkJ : ¬ (k : Int) < 16 := by omega
                have hE : nmK l k = nameB l := by rw [show k = 16 by omega]; rfl
                have HJ := Lib.hid (And.intro hE hbz)
                clear hk16 hkl hE hbz hk6 hin2
                go_wp2_with (fail)
                go_meet
                case rel => exact ⟨by rw [HJ.out.1], HJ.out.2⟩
            · have hkI : ¬ (k : Int) < (l.length : Int) := by omega
              have hE : nmK l k = nameB l := nmK_all (by omega) hk16
              have HJ := Lib.hid (And.intro hE hbz)
              clear hk16 hkl hE hbz hin2
              go_wp2_with (fail)
              go_meet
              case rel => exact ⟨by rw [HJ.out.1], HJ.out.2⟩
        case rest =>
          obtain ⟨rfl, hb1⟩ := hcut
          have hNl := (nameB_ok l).1
          have hob : ∀ g, (Value.slice Ao Wn.length co).ownBlock = some g → g < wc.heap.size := fun g hg => Nat.lt_of_lt_of_le (World.ownsRow.lt HP.out.2.2.2.2.2.2.2.2.1 g hg).2 hb1.size
          have hrw := own_below HP.out.2.2.2.2.2.2.2.2.1 hb1 (Nat.le_refl _)
          obtain ⟨N, hN⟩ : ∃ N, N = nameB l := ⟨_, rfl⟩
          have hnO : PP.nm = N := by rw [hN]; exact HP.out.2.2.1
          rw [← hN] at hNl ⊢
          have hB1 := HP.out.2.2.2.2.2.2.2.2.2.1.trans (hb1.mono HP.out.2.2.2.2.2.2.2.2.2.1.size)
          have HN := Lib.hid (And.intro hnO (And.intro hrw (And.intro hB1 (And.intro hob hNl))))
          have hTl := HP.out.2.2.2.2.2.1
          clear hN hnO hb1 hnm hnm0
          generalize wc = V1 at HN hrw hB1 hob
          obtain ⟨An, cn, V2, hrun, hrow2, hbV, _⟩ := app_str hrw N hB1.size (by have := HP.out.2.2.2.2.2.2.1; omega) hob
          have hcat1 : ¬ (9223372036854775807 < T.length + N.length) := by omega
          have HR2 := Lib.hid (And.intro hrow2 (hB1.trans hbV))
          clear hrow2 hbV hrw hB1 hob
          obtain ⟨B, hB⟩ : ∃ B, (N != ([] : List UInt8)) = B := ⟨_, rfl⟩
          have hB2 : (!N.isEmpty) = B := by rw [← hB]; cases N <;> rfl
          have hB3 : (N == ([] : List UInt8)) = !B := by rw [← hB]; cases N <;> rfl
          have hB4 : N.isEmpty = !B := by rw [← hB]; cases N <;> rfl
          go_upto_if 58 with (fail)
          have HBB := Lib.hid hB
          clear hB hB2 hB3 hB4
          go_cut [7, 8] from 57 to 65 (fun tv wv w' => ∃ A c, tv = .string ⟨(T ++ N).toArray⟩ ∧ wv = .slice A (Wn ++ (if N = [] then [] else [N])).length c ∧ w'.ownsRow w1.heap.size 9 1 (.slice A (Wn ++ (if N = [] then [] else [N])).length c) (Wn ++ (if N = [] then [] else [N])).length (strsV (Wn ++ (if N = [] then [] else [N]))) ∧ Below w1.heap.size w1 w')
          case first =>
            by_cases hN0 : N = []
            · subst hN0
              obtain rfl : B = false := by rw [← HBB.out]; rfl
              clear hrun hcat1
              go_wp2_with (fail)
              go_meet
              case rel => exact ⟨Ao, co, by simp, by simp, by simpa using HN.out.2.1, HN.out.2.2.1⟩
            · obtain rfl : B = true := by rw [← HBB.out, bne_iff_ne]; exact hN0
              have HN0 := Lib.hid hN0
              clear hN0
              have hst : Hid (.string (⟨T.toArray⟩ ++ ⟨N.toArray⟩) = Value.string ⟨(T ++ N).toArray⟩) := Lib.hid (by rw [app_lists])
              go_wp2_with (at_builtin; refine wpL_appK _ rfl (.tmp 59) (.tmp 61) _ rfl rfl _ _ _ _ rfl rfl hrun ?_)
              go_meet
              case rel =>
                have he : Wn ++ (if N = [] then [] else [N]) = Wn ++ [N] := by rw [if_neg HN0.out]
                rw [he]
                exact ⟨An, cn, hst.out, by simp, HR2.out.1, HR2.out.2⟩
          case rest =>
            obtain ⟨A3, c3, rfl, rfl, hrow3, hbl3⟩ := hcut
            have hW3l : (Wn ++ (if N = [] then [] else [N])).length ≤ 70 := by rw [List.length_append]; have := HP.out.2.2.2.2.2.2.1; split <;> simp <;> omega
            have hT3l : (T ++ N).length ≤ 900 := by rw [List.length_append]; have := HN.out.2.2.2.2; omega
            obtain ⟨W3, hW3⟩ : ∃ W3, W3 = Wn ++ (if N = [] then [] else [N]) := ⟨_, rfl⟩
            obtain ⟨T3, hT3⟩ : ∃ T3, T3 = T ++ N := ⟨_, rfl⟩
            rw [← hW3] at hrow3 hW3l ⊢
            rw [← hT3] at hT3l ⊢
            have H3 := Lib.hid (And.intro hW3 (And.intro hT3 (And.intro hrow3 (And.intro hbl3 (And.intro hW3l hT3l)))))
            clear hW3 hT3 hrow3 hbl3 hW3l hT3l hrun hcat1 HR2 hTl hNl
            generalize wc = V3 at H3
            go_upto_if 69 with (fail)
            go_cut [7, 8] from 66 to 90 (fun tv wv w' => ∃ A c, tv = .string ⟨(T3 ++ sgB PP.sg).toArray⟩ ∧ wv = .slice A (W3 ++ sgW PP.sg).length c ∧ w'.ownsRow w1.heap.size 9 1 (.slice A (W3 ++ sgW PP.sg).length c) (W3 ++ sgW PP.sg).length (strsV (W3 ++ sgW PP.sg)) ∧ Below w1.heap.size w1 w')
            case first =>
              by_cases hs1 : i < l1.length
              · have hsI : (i : Int) < (l1.length : Int) := by omega
                have hsg := HP.out.2.2.2.1
                rw [if_pos hs1] at hsg
                have hgd : l1.getD i 0 = l1[i] := by simp [List.getD, hs1]
                rw [hgd] at hsg
                obtain ⟨sb, so, rfl, hsb, hsc⟩ := u8s_cell HW.out.2.2.2.1 hs1
                generalize l1[i] = b at hsg hsc
                obtain ⟨k7, hk7⟩ : ∃ k7, k7 = b.toNat % 7 := ⟨_, rfl⟩
                have hkm : (b.toNat : Int).tmod 7 = (k7 : Int) := by rw [Int.tmod_eq_emod_of_nonneg (by omega)]; omega
                have hkl : k7 < 7 := by omega
                rw [← hk7] at hsg
                have hkI : (k7 : Int) < 7 := by omega
                have hk0 : (0 : Int) ≤ (k7 : Int) := by omega
                obtain ⟨v1, v2⟩ := rawV_at k7 hkl
                have hsb3 : sb < V3.heap.size := by have h1 := H3.out.2.2.2.1.size; have h2 := HW.out.1.size; omega
                have hsc3 := (H3.out.2.2.2.1.cell (p := ⟨sb, so + i, none⟩) (by have h2 := HW.out.1.size; show sb < _; omega)).trans hsc
                obtain ⟨y0, y1⟩ := two_new V3 (.cells rawV 42) (.cells plnV 42)
                have hbY : Below V3.heap.size V3 ((V3.alloc (.cells rawV 42)).alloc (.cells plnV 42)) := ((Below.refl _ _).alloc (Nat.le_refl _) _).alloc (by simp) _
                have hzY : ((V3.alloc (.cells rawV 42)).alloc (.cells plnV 42)).heap.size = V3.heap.size + 2 := by simp
                have y1p : ((V3.alloc (.cells rawV 42)).alloc (.cells plnV 42)).cell? ⟨V3.heap.size + 1, k7, none⟩ = some (.string ⟨(plnB k7).toArray⟩) := by rw [cell_of_row _ _ k7 _ _ _ y1]; exact v2
                obtain ⟨Y, hY⟩ : ∃ Y, Y = (V3.alloc (.cells rawV 42)).alloc (.cells plnV 42) := ⟨_, rfl⟩
                rw [← hY] at y0 y1p hbY hzY
                have hsY := (hbY.cell (p := ⟨sb, so + i, none⟩) hsb3).trans hsc3
                have hrY := own_below H3.out.2.2.1 hbY (Nat.le_refl _)
                have hobY : ∀ g, (Value.slice A3 W3.length c3).ownBlock = some g → g < V3.heap.size := fun g hg => (World.ownsRow.lt H3.out.2.2.1 g hg).2
                have hBY := H3.out.2.2.2.1.trans (hbY.mono H3.out.2.2.2.1.size)
                obtain ⟨A5, c5, V5, hrun5, hrow5, hb5, hz5⟩ := app_str hrY (plnB k7) hBY.size (by have := H3.out.2.2.2.2.1; omega) hobY
                have hsl := (raw_is k7 hkl).2.2.2.2.2.2.2
                have hcat : ¬ (9223372036854775807 < T3.length + (rawB k7).length) := by have := H3.out.2.2.2.2.2; omega
                have hn5 := (hz5 V3.heap.size (Nat.le_refl _) (by omega)).trans y0
                have y0' : V5.cell? ⟨V3.heap.size, k7, none⟩ = some (.string ⟨(rawB k7).toArray⟩) := by rw [cell_of_row _ _ k7 _ _ _ hn5]; exact v1
                have hs5 := (hb5.cell (p := ⟨sb, so + i, none⟩) (by have h2 := HW.out.1.size; show sb < _; omega)).trans hsY
                have HS := Lib.hid (And.intro hsg (And.intro hrow5 (hBY.trans hb5)))
                have hst : Hid (.string (⟨T3.toArray⟩ ++ ⟨(rawB k7).toArray⟩) = Value.string ⟨(T3 ++ rawB k7).toArray⟩) := Lib.hid (by rw [app_lists])
                obtain ⟨R7, hR7⟩ : ∃ R, R = rawB k7 := ⟨_, rfl⟩
                obtain ⟨P7, hP7⟩ : ∃ P, P = plnB k7 := ⟨_, rfl⟩
                rw [← hR7] at y0' hcat
                rw [← hP7] at y1p hrun5
                have HR7 := Lib.hid (And.intro hR7 hP7)
                clear hR7 hP7 hsg hrow5 hb5 hz5 hn5 hbY hzY hrY hobY hBY hsb3 hsb hsc hsc3 y0 y1 v1 v2 hsl hgd hs1 hkl hk7
                unfold rawV plnV at hY
                go_upto_region 19 with (fail)
                rw [← hY]
                clear hY
                go_upto_region 20 with (at_builtin; refine wpL_appK _ rfl (.tmp 72) (.tmp 80) 40 rfl rfl _ _ _ _ rfl rfl hrun5 ?_)
                clear hrun5 y1p hsY
                go_wp2_with (fail)
                go_meet
                case rel =>
                  rw [HS.out.1]
                  refine ⟨A5, c5, ?_, ?_, HS.out.2.1, HS.out.2.2⟩
                  · rw [HR7.out.1]; exact hst.out
                  · simp [sgW]
              · have hsI : ¬ (i : Int) < (l1.length : Int) := by omega
                have hsg := HP.out.2.2.2.1
                rw [if_neg hs1] at hsg
                have HS := Lib.hid hsg
                clear hsg hs1
                go_wp2_with (fail)
                go_meet
                case rel =>
                  rw [HS.out]
                  exact ⟨A3, c3, by simp [sgB], by simp [sgW], by simpa [sgW] using H3.out.2.2.1, H3.out.2.2.2.1⟩
            case rest =>
              obtain ⟨A4, c4, rfl, rfl, hrow4, hbl4⟩ := hcut
              have hsl : (sgB PP.sg).length ≤ 3 := by
                rw [HP.out.2.2.2.1]
                split
                · exact (raw_is _ (Nat.mod_lt _ (by omega))).2.2.2.2.2.2.2
                · simp [sgB]
              have hT4l : (T3 ++ sgB PP.sg).length ≤ 910 := by rw [List.length_append]; have := H3.out.2.2.2.2.2; omega
              obtain ⟨T4, hT4⟩ : ∃ T4, T4 = T3 ++ sgB PP.sg := ⟨_, rfl⟩
              obtain ⟨W4, hW4⟩ : ∃ W4, W4 = W3 ++ sgW PP.sg := ⟨_, rfl⟩
              rw [← hT4] at hT4l ⊢
              rw [← hW4] at hrow4 ⊢
              have H4 := Lib.hid (And.intro hT4 (And.intro hrow4 (And.intro hbl4 hW4)))
              clear hT4 hrow4 hbl4 hsl hW4
              generalize wc = V4 at H4
              go_upto_if 94 with (fail)
              go_cut [14] from 91 to 98 (fun gv w' => w' = V4 ∧ ∃ b : UInt8, gv = .int .u8 (b.toNat : Int) ∧ b.toNat % 8 = PP.gp)
              case first =>
                by_cases hs2 : i < l2.length
                · have hsI : (i : Int) < (l2.length : Int) := by omega
                  have hgp := HP.out.2.2.2.2.1
                  rw [if_pos hs2] at hgp
                  have hgd : l2.getD i 0 = l2[i] := by simp [List.getD, hs2]
                  rw [hgd] at hgp
                  obtain ⟨sb, so, rfl, hsb, hsc⟩ := u8s_cell HW.out.2.2.2.2 hs2
                  generalize l2[i] = b at hgp hsc
                  have hsc4 := (H4.out.2.2.1.cell (p := ⟨sb, so + i, none⟩) (by have h2 := HW.out.1.size; show sb < _; omega)).trans hsc
                  have HG := Lib.hid hgp
                  clear hgp hsc hs2 hgd
                  go_wp2_with (fail)
                  go_meet
                  case rel => exact ⟨rfl, b, rfl, HG.out.symm⟩
                · have hsI : ¬ (i : Int) < (l2.length : Int) := by omega
                  have hgp := HP.out.2.2.2.2.1
                  rw [if_neg hs2] at hgp
                  have HG := Lib.hid hgp
                  clear hgp hs2
                  go_wp2_with (fail)
                  go_meet
                  case rel => exact ⟨rfl, 0, rfl, by rw [HG.out]; rfl⟩
              case rest =>
                obtain ⟨rfl, b, rfl, hbg⟩ := hcut
                have hix := fun W => idxGb b W
                have hix2 : ∀ W, (Instr.index 43 (.agg gapV) (.int .u8 ((b.toNat : Int) % 8))).run Tryd.prog W = .ok (.string ⟨(gapB (b.toNat % 8)).toArray⟩) W := fun W => by have h := idxGb b W; rw [Int.tmod_eq_emod_of_nonneg (by omega)] at h; exact h
                rw [hbg] at hix hix2
                have hGl := gapB_len PP.gp
                obtain ⟨G, hG⟩ : ∃ G, G = gapB PP.gp := ⟨_, rfl⟩
                rw [← hG] at hix hix2 hGl
                have hcat : ¬ (9223372036854775807 < T4.length + G.length) := by omega
                have hb256 : (b.toNat : Int) < 256 := by have := UInt8.toNat_lt b; omega
                have HG := Lib.hid hG
                clear hG hbg hGl hT4l
                have hiL : (i : Int) ≤ 30 := by omega
                go_wp2_with (go_at_call 15; (with_reducible refine (gaps_any _).mono ?_); rintro e w5 ⟨rfl, hb5⟩)
                have eT : (⟨T4.toArray⟩ : ByteArray) ++ ⟨G.toArray⟩ = ⟨(pcsB (Ps.take (i + 1))).toArray⟩ := by
                  rw [app_lists, HP.out.1, H4.out.1, H3.out.2.1, HG.out]
                  unfold pcB
                  rw [HN.out.1]
                  simp only [List.append_assoc]
                have eW : W4 = pcsW (Ps.take (i + 1)) := by
                  rw [H4.out.2.2.2, HP.out.2.1, H3.out.1]
                  unfold pcW
                  rw [HN.out.1, List.append_assoc]
                have hr4 := own_below H4.out.2.1 hb5 (Nat.le_refl _)
                rw [eW] at hr4
                go_roundw
                case rel => exact ⟨i + 1, A4, c4, HP.out.2.2.2.2.2.2.2.1, by simp, by rw [eT], by rw [eW], hr4, H4.out.2.2.1.trans (hb5.mono H4.out.2.2.1.size)⟩
                case measure => simp [intOf]; have := HP.out.2.2.2.2.2.2.2.1; omega
      · obtain rfl : i = n := by omega
        have hE : Ps.take i = Ps := List.take_of_length_le (by have := HA.out.2.2.2.2.1; omega)
        have hn0 := HA.out.2.2.2.1
        rw [hE] at hrow ⊢
        have HB := Lib.hid (And.intro hrow hbl)
        clear hrow hbl hE hi hin
        by_cases h30 : l0.length ≤ 30
        · have hiI : ¬ (i : Int) < (l0.length : Int) := by omega
          clear hn0 h30
          go_wp2_with (fail)
          go_meet
          case rel => exact ⟨Ao, co, rfl, rfl, HB.out.1, HB.out.2⟩
        · have hiI : (i : Int) < (l0.length : Int) := by omega
          have hiJ : ¬ (i : Int) < 30 := by omega
          clear hn0 h30
          go_wp2_with (fail)
          go_meet
          case rel => exact ⟨Ao, co, rfl, rfl, HB.out.1, HB.out.2⟩
  case rest =>
    obtain ⟨Ao, co, rfl, rfl, hrow, hbl⟩ := hcut
    have hlB := pcsB_len Ps HA.out.2.2.2.2.2.1
    have hPn : Ps.length ≤ 30 := by have := HA.out.2.2.2.1; have := HA.out.2.2.2.2.1; omega
    have hTl : (pcsB Ps).length ≤ 1000000 := by omega
    have hsp := fun W (h : Tabs W) => split_any ⟨(pcsB Ps).toArray⟩ W (by show (pcsB Ps).toArray.size ≤ _; rw [List.size_toArray]; omega) h
    have hd : (⟨(pcsB Ps).toArray⟩ : ByteArray).data.toList = pcsB Ps := by simp
    rw [hd] at hsp
    have hj := joined Ps HA.out.2.2.2.2.2.1
    have hWl := pcsW_len Ps
    obtain ⟨T, hTT⟩ : ∃ T, T = pcsB Ps := ⟨_, rfl⟩
    obtain ⟨Wn, hWn⟩ : ∃ Wn, Wn = pcsW Ps := ⟨_, rfl⟩
    rw [← hTT] at hsp hj hTl ⊢
    rw [← hWn] at hj hrow hWl ⊢
    have HTw := Lib.hid (HW.out.2.1.below hbl)
    have HB := Lib.hid (And.intro hrow (And.intro (HW.out.1.trans (hbl.mono HW.out.1.size)) (show Wn.length ≤ 60 by omega)))
    clear hTT hWn hlB hd hWl hPn hrow hbl HW HA
    rcases hj with ⟨hbig, hX⟩ | ⟨hbig, ws, hX, htx, hwf⟩
    · rw [hX] at hsp
      have HSP := Lib.hid (hsp _ HTw.out)
      have hbI : (1024 : Int) < (T.length : Int) := by omega
      clear hsp hX hbig
      go_wp2_with (go_at_call 9; (with_reducible refine HSP.out.mono ?_); rintro e w4 ⟨A4, c4, rfl, -, hb4⟩)
      go_ret
      exact ⟨rfl, HB.out.2.1.trans (hb4.mono HB.out.2.1.size)⟩
    · rw [hX] at hsp
      have hsp2 := hsp _ HTw.out
      have hbI : ¬ (1024 : Int) < (T.length : Int) := by omega
      have hlen : ws.length = Wn.length := by rw [← htx]; simp
      unfold SplitPost at hsp2
      simp only at hsp2
      rw [hlen] at hsp2
      have HSP := Lib.hid hsp2
      have HX := Lib.hid (And.intro htx (And.intro hwf hlen))
      clear hsp hsp2 hX hbig htx hwf hlen
      have hnI : (Wn.length : Int) ≤ 60 := by have := HB.out.2.2; omega
      go_upto_region 26 with (go_at_call 9; (with_reducible refine HSP.out.mono ?_); rintro e w4 ⟨A4, c4, rfl, hown4, hb4⟩)
      have HO := Lib.hid (And.intro hown4 (And.intro (own_below HB.out.1 hb4 (Nat.le_refl _)) (HB.out.2.1.trans (hb4.mono HB.out.2.1.size))))
      clear hown4 hb4 HSP
      go_wp2_with (fail)
      go_loopw [136] (fun kv wr => ∃ k : Nat, k ≤ Wn.length ∧ kv = .int .i64 (k : Int) ∧ Below w4.heap.size w4 wr) (fun kv _ => Wn.length - (intOf kv).toNat)
      case atStart => exact ⟨0, by omega, rfl, Below.refl _ _⟩
      case round =>
        obtain ⟨k, hk, rfl, hbl⟩ := hrel
        by_cases hkn : k < Wn.length
        · have hkI : (k : Int) < (Wn.length : Int) := by omega
          have hk60 : (k : Int) ≤ 60 := by omega
          have hkw : k < ws.length := by have := HX.out.2.2; omega
          obtain ⟨hwl⟩ : ws.length = Wn.length ∧ True := ⟨HX.out.2.2, trivial⟩
          have hrw := own_below HO.out.1 hbl (Nat.le_refl _)
          rw [← hwl] at hrw
          obtain ⟨g, rfl, hg1, hg2, hc1, hc2, x0, x1, x2, x3⟩ := own_word hrw (List.getElem?_eq_getElem hkw)
          rw [hwl] at hc1
          obtain ⟨g5, c5, e5, hg51, hg52, hc51, hc52⟩ := own_form (own_below HO.out.2.1 hbl (Nat.le_refl _)) (by omega)
          injection e5 with e51 _ e53
          subst e51 e53
          have hwk : Wn[k] = ws[k].tx := by
            have h1 := HX.out.1
            subst h1
            simp
          have y1 : wr.cell? ⟨g5, k, none⟩ = some (.string ⟨ws[k].tx.toArray⟩) := by
            rw [World.ownsRow.cellAt (own_below HO.out.2.1 hbl (Nat.le_refl _)) k (by omega)]
            simp [strsV, hkn, hwk]
          obtain ⟨b, t, hbt, hnm⟩ := wf_first (HX.out.2.1 ws[k] (List.getElem_mem hkw))
          generalize ws[k] = x at x0 x1 y1 hbt hnm
          obtain ⟨nm, tx, ln, co⟩ := x
          simp only at x0 x1 y1 hbt hnm
          have htl : 0 < tx.length := by rw [hbt]; simp
          have htI : (0 : Int) < (tx.length : Int) := by omega
          have hsz : 0 < (⟨tx.toArray⟩ : ByteArray).size := by have : (⟨tx.toArray⟩ : ByteArray).size = tx.length := List.size_toArray; omega
          have hgb : (⟨tx.toArray⟩ : ByteArray)[0]'hsz = b := by subst hbt; rfl
          have htt : (tx != tx) = false := by simp
          have HJ := Lib.hid (And.intro hbl hkn)
          clear hbl hkn hk hkw hrw hwl hwk x2 x3 hbt
          by_cases k1 : (97 : Int) ≤ (b.toNat : Int)
          · by_cases k2 : (b.toNat : Int) ≤ 122
            · obtain rfl : nm = true := by rw [hnm]; simp [k1, k2]
              clear hnm
              go_upto_region 33 with (fail)
              go_quiet (fail)
              go_wp2_with (fail)
              exact ⟨⟨k + 1, HJ.out.2, by simp, below_draws HJ.out.1 _⟩, by simp [intOf]; have := HJ.out.2; omega⟩
            · obtain rfl : nm = false := by rw [hnm]; simp [k2]
              clear hnm
              go_upto_region 33 with (fail)
              go_quiet (fail)
              go_wp2_with (fail)
              exact ⟨⟨k + 1, HJ.out.2, by simp, below_draws HJ.out.1 _⟩, by simp [intOf]; have := HJ.out.2; omega⟩
          · obtain rfl : nm = false := by rw [hnm]; simp [k1]
            clear hnm
            go_upto_region 33 with (fail)
            go_quiet (fail)
            go_wp2_with (fail)
            exact ⟨⟨k + 1, HJ.out.2, by simp, below_draws HJ.out.1 _⟩, by simp [intOf]; have := HJ.out.2; omega⟩
        · obtain rfl : k = Wn.length := by omega
          have HJ := Lib.hid hbl
          clear hbl hk hkn
          go_wp2_with (fail)
          go_ret
          exact ⟨rfl, HO.out.2.2.trans (HJ.out.mono HO.out.2.2.size)⟩
end Go.Proofs.YtfgojbfdjbochaaDoor
