/- Joined: LogH LogV RefB RefC. -/
import Derived.Test.YtajakmfloeefpaaJnD
import Derived.Test.YtajakmfloeefpaaJnC
import Derived.Laws.OwnMore
/- data, heads, others. -/
namespace Go.Proofs.Ytajakmfloeefpaa
open Go.RowKit Go.Maps

/-- A slice of the call's own, read. -/
def Own (w w' : World) (l : List UInt8) (e : Ending) : Prop :=
  ∃ A c, e = .returned (.slice A l.length c) ∧ (∀ a, A = some a → w.heap.size ≤ a.block ∧ ∃ cs, w'.heap[a.block]? = some (.cells cs 5 (0, 0))) ∧ Rd w' w'.heap.size A (u8s l) ∧ l.length ≤ c ∧ c ≤ maxLen ∧ Below w.heap.size w w'
theorem own_typed {w : World} {base size n c : Nat} {e : TypeId} {A : Option Addr} {xs : List Value} (h : w.ownsRow base e size (.slice A n c) n xs) : ∀ a, A = some a → ∃ cs, w.heap[a.block]? = some (.cells cs e (0, 0)) := by
  intro a ha
  rcases h.2 with ⟨hv, _⟩ | ⟨g, cap, cur, hv, _, hgg, _⟩
  · cases hv; cases ha
  · cases hv; cases ha
    exact ⟨_, hgg⟩
theorem cat_take_len (M : DM) (a n : Nat) (h : ∀ i, i < secs n → (M.get (a + i)).length = 64) : ((cat M.get a (secs n)).take n).length = n := by
  rw [List.length_take, cat_len h]
  unfold secs
  omega

set_option maxRecDepth 100000 in
set_option maxHeartbeats 2000000 in
theorem data_any {w : World} {base q p bs bw T : Nat} {L : LG} {v : Value} {M : DM} (h : LogAt w base q p L v) (hD : DiskM w p bs bw M T) (hz : M.size ≤ 4096) (n : Nat) (hn : n ≤ 4000) (hfit : L.endd + secs n < M.size) :
    Calls Try.prog 55 #[.pointer (some ⟨q, 0, none⟩), .int .i64 (n : Int)] w fun e w' => Own w w' ((cat M.get (L.endd + 1) (secs n)).take n) e := by
  obtain ⟨i0, hi, hz0, hz1, hz2⟩ := info_parts infoU8
  have hsec := secs_any n w (by omega)
  have hss : secs n ≤ 63 := by unfold secs; omega
  have hfull := hD.full
  have HS := Lib.hid hsec
  have hlen : ∀ k, k ≤ secs n → (cat M.get (L.endd + 1) k).length = 64 * k := fun k hk => cat_len (fun i hi => (hfull _ (by omega)).2)
  have HL := Lib.hid hlen
  have HH := Lib.hid (And.intro h (And.intro hD (And.intro hz (And.intro hn (And.intro hfit hss)))))
  have hsI : (secs n : Int) ≤ 63 := by omega
  have hnI : (n : Int) ≤ 4000 := by omega
  clear hsec hlen h hD hz hfit hfull hn hss
  go_enter Try.func55, Try.ntmps55
  go_upto_region 3 with (first
    | (go_at_call 54; (with_reducible refine HS.out.mono ?_); rintro e w1 ⟨rfl, rfl⟩)
    | go_in)
  go_wp2_with go_in
  go_loopw [5, 6, 9] (fun u _ i wr => ∃ k : Nat, k ≤ secs n ∧ i = .int .i64 (k : Int) ∧ OwnB wr w.heap.size 5 u (cat M.get (L.endd + 1) k) ∧ Below w.heap.size w wr)
    (fun _ _ i _ => secs n - (intOf i).toNat)
  case atStart => exact ⟨0, by omega, rfl, OwnB.nil _ _ _, Below.refl _ _⟩
  case round =>
    obtain ⟨k, hk, rfl, ho, hb⟩ := hrel
    by_cases hkl : k < secs n
    · have hkI : (k : Int) < (secs n : Int) := by omega
      have hblk := ((HH.out.1.kept hb).blk)
      unfold LG.cells at hblk
      have a3 := cell_of_row wr q 3 _ _ _ hblk
      have hsc := sector_any (HH.out.1.kept hb) (HH.out.2.1.kept hb) HH.out.2.2.1 (i := L.endd + 1 + k) (by have := HH.out.2.2.2.2.1; omega)
      have hcast : (((L.endd + 1 + k : Nat)) : Int) = (L.endd : Int) + 1 + (k : Int) := by omega
      rw [hcast] at hsc
      have hend : (L.endd : Int) ≤ 4096 := by have := HH.out.2.2.2.2.1; have := HH.out.2.2.1; omega
      obtain ⟨Ao, co, rfl, _, _, _⟩ := ho.shape
      have HSC := Lib.hid hsc
      have HX := Lib.hid (And.intro ho (And.intro hb hkl))
      have HSZ := Lib.hid hb.size
      clear hsc hcast hblk ho hb hkl
      go_wp2_with (first
        | (go_at_call 53; (with_reducible refine HSC.out.mono ?_); rintro e w2 ⟨g2, rfl, hg1, hg2, hr2, hl2, hb2⟩)
        | (at_builtin; refine wpList_appB _ rfl (.tmp 12) (.tmp 21) _ rfl w.heap.size 5 i0 _ Try.underlying45 hi hz0 hz1 hz2 rfl (.slice Ao (cat M.get (L.endd + 1) k).length co) (cat M.get (L.endd + 1) k) rfl (HX.out.1.below hb2 (Nat.le_refl _)) _ (some ⟨g2, 0, none⟩) 64 64 (M.get (L.endd + 1 + k)) rfl hl2.symm hr2 (by have := HL.out k (by omega); omega) (by have := HSZ.out; have := hb2.size; omega) ?_; intro v3 w3 hown3 hg3 hat3)
        | go_in)
      have hsz2 := hb2.size
      have hown2 := HX.out.1.below hb2 (Nat.le_refl _)
      have hb3 : Below w.heap.size w w3 := (HX.out.2.1.trans (lower' hb2 HSZ.out)).trans (grown_below' hg3 (fun j hj => (World.ownsRow.lt (by have h := hown2; unfold OwnB at h; exact h) j hj).1) (by have := HSZ.out; omega))
      exact ⟨⟨k + 1, HX.out.2.2, by simp, by rw [cat_succ]; exact hown3, hb3⟩, by simp [intOf]; have := HX.out.2.2; omega⟩
    · obtain rfl : k = secs n := by omega
      obtain ⟨Ao, co, rfl, hc1, hc2, hr2⟩ := ho.shape
      have hl := HL.out (secs n) (Nat.le_refl _)
      have hq : n ≤ 64 * secs n := by unfold secs; omega
      have hnl : (n : Int) ≤ (co : Int) := by omega
      have HX := Lib.hid (And.intro ho (And.intro hb (And.intro hc1 (And.intro hc2 (And.intro hr2 hl)))))
      have HQ := Lib.hid hq
      clear ho hb hc1 hc2 hr2 hl hk hq
      go_wp2_with go_in
      go_ret
      have hx := HX.out
      have hq := HQ.out
      have htl : ((cat M.get (L.endd + 1) (secs n)).take n).length = n := by rw [List.length_take, hx.2.2.2.2.2]; omega
      refine ⟨Ao, co, by rw [htl]; rfl, fun a ha => ⟨hx.2.2.2.2.1.2 a ha, own_typed (by have h := hx.1; unfold OwnB at h; exact h) a ha⟩, ?_, by rw [htl]; omega, hx.2.2.2.1, hx.2.1⟩
      rw [u8s_take]
      exact hx.2.2.2.2.1.1.take _

/-- The k-th place. -/
theorem plc_get (r : List Rec) : ∀ (a i : Nat) (h : i < r.length), ∃ x : Nat, (heads a r)[i]? = some x ∧ (plc a r)[i * 2]? = some (.int .i64 (x : Int)) ∧ (plc a r)[i * 2 + 1]? = some (.int .i64 (secs (r[i].2).length : Int)) := by
  induction r with
  | nil => intro a i h; exact absurd h (by simp)
  | cons y r ih =>
    obtain ⟨s, d⟩ := y
    intro a i h
    cases i with
    | zero => exact ⟨a, rfl, rfl, rfl⟩
    | succ i =>
      obtain ⟨x, h1, h2, h3⟩ := ih (a + 1 + secs d.length) i (by simpa using h)
      refine ⟨x, by simpa [heads] using h1, ?_, ?_⟩
      · rw [show (i + 1) * 2 = i * 2 + 2 by omega]; simpa [plc] using h2
      · rw [show (i + 1) * 2 + 1 = i * 2 + 1 + 2 by omega]; simpa [plc] using h3
theorem heads_take (r : List Rec) (a k x : Nat) (h : (heads a r)[k]? = some x) : (heads a r).take (k + 1) = (heads a r).take k ++ [x] := by
  obtain ⟨hk, e⟩ := List.getElem?_eq_some_iff.1 h
  rw [List.take_succ_eq_append_getElem hk, e]
theorem rd_two (wr : World) (x m : Nat) : Rd ((wr.alloc (.cells #[.int .i64 (x : Int), .int .i64 (m : Int)] 106)).alloc (.cells #[.int .i64 (x : Int)] 3)) (wr.heap.size + 2) (some ⟨wr.heap.size + 1, 0, none⟩) [.int .i64 (x : Int)] := by
  have := Rd.new (wr.alloc (.cells #[.int .i64 (x : Int), .int .i64 (m : Int)] 106)) #[.int .i64 (x : Int)] 3 (0, 0)
  rw [alloc1_size] at this
  exact this
set_option maxRecDepth 100000 in
set_option maxHeartbeats 2000000 in
theorem heads_any {w : World} {base q p : Nat} {L : LG} {v : Value} (h : LogAt w base q p L v) (hlen : L.recs.length ≤ 4096) :
    Calls Try.prog 40 #[.pointer (some ⟨q, 0, none⟩)] w fun e w' => ∃ v', e = .returned v' ∧ w'.ownsRow w.heap.size 3 1 v' (heads L.first L.recs).length (ints (heads L.first L.recs)) ∧ Below w.heap.size w w' := by
  obtain ⟨i0, hi, hz0, hz1, hz2⟩ := info_parts infoInt
  have hblk := h.blk
  unfold LG.cells at hblk
  have a5 := cell_of_row w q 5 _ _ _ hblk
  have hhl := heads_len L.first L.recs
  obtain ⟨Ap, cp, rfl, _, _, hrp⟩ := own_shape h.row
  have HH := Lib.hid (And.intro h (And.intro hlen (And.intro hhl hrp)))
  have hlI : (L.recs.length : Int) ≤ 4096 := by omega
  clear h hblk hlen hhl hrp
  go_enter Try.func40, Try.ntmps40
  go_wp2_with go_in
  go_loopw [3, 5, 11] (fun u _ i wr => ∃ k : Nat, k ≤ L.recs.length ∧ i = .int .i64 (k : Int) ∧ wr.ownsRow w.heap.size 3 1 u k (ints ((heads L.first L.recs).take k)) ∧ Below w.heap.size w wr)
    (fun _ _ i _ => L.recs.length - (intOf i).toNat)
  case atStart => exact ⟨0, by omega, rfl, by have := World.ownsRow_nil w w.heap.size 3 1; simpa [ints] using this, Below.refl _ _⟩
  case round =>
    obtain ⟨k, hk, rfl, ho, hb⟩ := hrel
    by_cases hkl : k < L.recs.length
    · have hkI : (k : Int) < (L.recs.length : Int) := by omega
      obtain ⟨x, e1, e2, e3⟩ := plc_get L.recs L.first k hkl
      obtain ⟨ab, ao, rfl, hab, hcc⟩ := HH.out.2.2.2 (by intro e; have := plc_len L.first L.recs; rw [e] at this; simp at this; omega)
      have p0 : wr.cell? ⟨ab, ao + k * 2, none⟩ = some (.int .i64 (x : Int)) := (hb.cell (p := ⟨ab, ao + k * 2, none⟩) hab).trans (hcc _ _ e2)
      have p1 : wr.cell? ⟨ab, ao + k * 2 + 1, none⟩ = some (.int .i64 (secs (L.recs[k].2).length : Int)) := (hb.cell (p := ⟨ab, ao + k * 2 + 1, none⟩) hab).trans (hcc _ _ e3)
      generalize secs (L.recs[k].2).length = m at p1
      have htk := heads_take L.recs L.first k x e1
      have HX := Lib.hid (And.intro ho (And.intro hb (And.intro hkl htk)))
      obtain ⟨Ao, co, rfl, _, _, _⟩ := own_shape ho
      have HSZ := Lib.hid hb.size
      clear ho hb e1 e2 e3 hcc htk hkl
      go_wp2_with (first
        | (at_builtin; refine wpList_appR _ rfl (.tmp 15) (.tmp 18) _ rfl w.heap.size 3 i0 _ 1 8 Try.underlying70 hi hz0 hz1 hz2 rfl (by omega) (.slice Ao k co) k (ints ((heads L.first L.recs).take k)) rfl (World.ownsRow.alloc (World.ownsRow.alloc HX.out.1 _) _) (wr.heap.size + 2) (some ⟨wr.heap.size + 1, 0, none⟩) 1 1 [.int .i64 (x : Int)] rfl rfl (rd_two wr x m) (by simp [Value.oneCell']) (by have := HX.out.2.2.1; have := HH.out.2.1; omega) (by omega) (by have := HSZ.out; simp; omega) ?_; intro v2 w2 hown2 hg2 hat2)
        | go_in)
      rw [ints_snoc, ← HX.out.2.2.2] at hown2
      have hb2 : Below w.heap.size w w2 := ((HX.out.2.1.alloc HSZ.out _).alloc (by have := HSZ.out; simp; omega) _).trans (grown_below' hg2 (fun j hj => (World.ownsRow.lt HX.out.1 j hj).1) (by have := HSZ.out; simp; omega))
      exact ⟨⟨k + 1, HX.out.2.2.1, by simp, hown2, hb2⟩, by simp [intOf]; have := HX.out.2.2.1; omega⟩
    · obtain rfl : k = L.recs.length := by omega
      have HX := Lib.hid (And.intro ho hb)
      clear ho hb
      go_wp2_with go_in
      go_ret
      refine ⟨_, rfl, ?_, HX.out.2⟩
      have h := HX.out.1
      rw [List.take_of_length_le (by rw [heads_len]; exact Nat.le_refl _)] at h
      rw [heads_len]
      exact h

/-- The other sectors of the first k records, and i of the next one. -/
def oth (a : Nat) (r : List Rec) (k i : Nat) : List Nat := others a (r.take k) ++ (List.range i).map fun j => endR a (r.take k) + 1 + j
theorem oth_snoc (a : Nat) (r : List Rec) (k i : Nat) : oth a r k (i + 1) = oth a r k i ++ [endR a (r.take k) + 1 + i] := by
  unfold oth
  rw [List.range_succ, List.map_append, ← List.append_assoc]
  rfl
theorem others_append (a : Nat) (r r' : List Rec) : others a (r ++ r') = others a r ++ others (endR a r) r' := by
  induction r generalizing a with
  | nil => rfl
  | cons x r ih => obtain ⟨s, d⟩ := x; simp only [List.cons_append, others, endR, ih, List.append_assoc]
theorem oth_next (a : Nat) (r : List Rec) (k : Nat) (h : k < r.length) : oth a r k (secs (r[k].2).length) = oth a r (k + 1) 0 := by
  unfold oth
  have e : r.take (k + 1) = r.take k ++ [r[k]] := List.take_succ_eq_append_getElem h
  rw [e, others_append]
  simp only [List.range_zero, List.map_nil, List.append_nil]
  congr 1
  obtain ⟨s, d⟩ := r[k]
  simp [others]
theorem oth_end (a : Nat) (r : List Rec) : oth a r r.length 0 = others a r := by
  unfold oth
  rw [List.take_length]
  simp
theorem heads_at (r : List Rec) : ∀ (a i : Nat) (h : i < r.length), (heads a r)[i]? = some (endR a (r.take i)) := by
  induction r with
  | nil => intro a i h; exact absurd h (by simp)
  | cons y r ih =>
    obtain ⟨s, d⟩ := y
    intro a i h
    cases i with
    | zero => rfl
    | succ i => exact ih (a + 1 + secs d.length) i (by simpa using h)
theorem end_take (r : List Rec) : ∀ (a i : Nat) (h : i < r.length), endR a (r.take i) + 1 + secs (r[i].2).length ≤ endR a r := by
  induction r with
  | nil => intro a i h; exact absurd h (by simp)
  | cons y r ih =>
    obtain ⟨s, d⟩ := y
    intro a i h
    cases i with
    | zero =>
      show a + 1 + secs d.length ≤ endR (a + 1 + secs d.length) r
      have := endR_le (a + 1 + secs d.length) r
      omega
    | succ i => exact ih (a + 1 + secs d.length) i (by simpa using h)
theorem others_len (r : List Rec) (a : Nat) : (others a r).length + r.length + a = endR a r := by
  induction r generalizing a with
  | nil => simp [others, endR]
  | cons x r ih =>
    obtain ⟨s, d⟩ := x
    have := ih (a + 1 + secs d.length)
    simp only [others, endR, List.length_append, List.length_map, List.length_range, List.length_cons]
    omega
theorem oth_len (a : Nat) (r : List Rec) (k i : Nat) : (oth a r k i).length ≤ endR a (r.take k) + i := by
  unfold oth
  have := others_len (r.take k) a
  simp only [List.length_append, List.length_map, List.length_range]
  omega
set_option maxRecDepth 100000 in
set_option maxHeartbeats 4000000 in
theorem others_any {w : World} {base q p : Nat} {L : LG} {v : Value} (h : LogAt w base q p L v) :
    Calls Try.prog 41 #[.pointer (some ⟨q, 0, none⟩)] w fun e w' => ∃ v', e = .returned v' ∧ w'.ownsRow w.heap.size 3 1 v' (others L.first L.recs).length (ints (others L.first L.recs)) ∧ Below w.heap.size w w' := by
  obtain ⟨i0, hi, hz0, hz1, hz2⟩ := info_parts infoInt
  have hblk := h.blk
  unfold LG.cells at hblk
  have a5 := cell_of_row w q 5 _ _ _ hblk
  have hend : endR L.first L.recs ≤ 4096 := Nat.le_trans h.ok.endd h.ok.behind
  have hlen : L.recs.length ≤ 4096 := by have := endR_le L.first L.recs; omega
  obtain ⟨Ap, cp, rfl, _, _, hrp⟩ := own_shape h.row
  have HH := Lib.hid (And.intro h (And.intro hlen (And.intro hend hrp)))
  have hlI : (L.recs.length : Int) ≤ 4096 := by omega
  clear h hblk hlen hend hrp
  go_enter Try.func41, Try.ntmps41
  go_wp2_with go_in
  go_loopw [3, 5, 6, 12, 18] (fun u _ _ i _ wr => ∃ k : Nat, k ≤ L.recs.length ∧ i = .int .i64 (k : Int) ∧ wr.ownsRow w.heap.size 3 1 u (oth L.first L.recs k 0).length (ints (oth L.first L.recs k 0)) ∧ Below w.heap.size w wr)
    (fun _ _ _ i _ _ => L.recs.length - (intOf i).toNat)
  case atStart => exact ⟨0, by omega, rfl, by have := World.ownsRow_nil w w.heap.size 3 1; simpa [ints, oth, others] using this, Below.refl _ _⟩
  case round =>
    obtain ⟨k, hk, rfl, ho, hb⟩ := hrel
    by_cases hkl : k < L.recs.length
    · have hkI : (k : Int) < (L.recs.length : Int) := by omega
      obtain ⟨x, e1, e2, e3⟩ := plc_get L.recs L.first k hkl
      have hxe : x = endR L.first (L.recs.take k) := by have := heads_at L.recs L.first k hkl; rw [e1] at this; injection this
      have hxs : x + 1 + secs (L.recs[k].2).length ≤ 4096 := by have := end_take L.recs L.first k hkl; have := HH.out.2.2.1; omega
      have hnx := oth_next L.first L.recs k hkl
      obtain ⟨ab, ao, rfl, hab, hcc⟩ := HH.out.2.2.2 (by intro e; have := plc_len L.first L.recs; rw [e] at this; simp at this; omega)
      have p0 : wr.cell? ⟨ab, ao + k * 2, none⟩ = some (.int .i64 (x : Int)) := (hb.cell (p := ⟨ab, ao + k * 2, none⟩) hab).trans (hcc _ _ e2)
      have p1 : wr.cell? ⟨ab, ao + k * 2 + 1, none⟩ = some (.int .i64 (secs (L.recs[k].2).length : Int)) := (hb.cell (p := ⟨ab, ao + k * 2 + 1, none⟩) hab).trans (hcc _ _ e3)
      generalize secs (L.recs[k].2).length = m at p1 hxs hnx
      have HX := Lib.hid (And.intro ho (And.intro hb (And.intro hkl (And.intro hxe (And.intro hxs hnx)))))
      obtain ⟨Ao, co, rfl, _, _, _⟩ := own_shape ho
      have HSZ := Lib.hid hb.size
      clear ho hb e1 e2 e3 hcc hkl hxe hxs hnx
      go_upto_region 6 with go_in
      have hg5 := heap_alloc_new wr (.cells #[.int .i64 (x : Int), .int .i64 (m : Int)] 106)
      have ho1 : (wr.alloc (.cells #[.int .i64 (x : Int), .int .i64 (m : Int)] 106)).ownsRow w.heap.size 3 1 (.slice Ao (oth L.first L.recs k 0).length co) (oth L.first L.recs k 0).length (ints (oth L.first L.recs k 0)) := World.ownsRow.alloc HX.out.1 _
      have hb1 : Below w.heap.size w (wr.alloc (.cells #[.int .i64 (x : Int), .int .i64 (m : Int)] 106)) := HX.out.2.1.alloc HSZ.out _
      have hap : ∀ g, (Value.slice Ao (oth L.first L.recs k 0).length co).ownBlock = some g → g ≠ wr.heap.size := fun g hg => by have := (World.ownsRow.lt HX.out.1 g hg).2; omega
      obtain ⟨b5, hb5⟩ : ∃ b5, b5 = wr.heap.size := ⟨_, rfl⟩
      have hz5 : w.heap.size ≤ b5 := by have := HSZ.out; omega
      rw [← hb5] at hg5 hap ⊢
      generalize wr.alloc (.cells #[.int .i64 (x : Int), .int .i64 (m : Int)] 106) = W1 at hg5 ho1 hb1 ⊢
      have H1 := Lib.hid (And.intro hg5 (And.intro ho1 (And.intro hb1 (And.intro hap hz5))))
      clear hg5 ho1 hb1 hap hb5 p0 p1 hz5
      go_wp2_with go_in
      go_loopw [3, 6, 18] (fun u _ i wi => ∃ j : Nat, j ≤ m ∧ i = .int .i64 (j : Int) ∧ wi.ownsRow w.heap.size 3 1 u (oth L.first L.recs k j).length (ints (oth L.first L.recs k j)) ∧ Below w.heap.size w wi ∧ wi.heap[b5]? = some (.cells #[.int .i64 (x : Int), .int .i64 (m : Int)] 106 (0, 0)) ∧ ∀ g, u.ownBlock = some g → g ≠ b5)
        (fun _ _ i _ => m - (intOf i).toNat)
      case atStart => exact ⟨0, by omega, rfl, H1.out.2.1, H1.out.2.2.1, H1.out.1, H1.out.2.2.2.1⟩
      case round =>
        obtain ⟨j, hj, rfl, hoj, hbj, hgj, hapj⟩ := hrel
        by_cases hjm : j < m
        · have hjI : (j : Int) < (m : Int) := by omega
          have hxI : (x : Int) + 1 + (m : Int) ≤ 4096 := by have := HX.out.2.2.2.2.1; omega
          have r0 := cell_of_row wr b5 0 _ _ _ hgj
          have hsn := oth_snoc L.first L.recs k j
          rw [← HX.out.2.2.2.1] at hsn
          have hlj := oth_len L.first L.recs k j
          rw [← HX.out.2.2.2.1] at hlj
          have HY := Lib.hid (And.intro hoj (And.intro hbj (And.intro hgj (And.intro hapj (And.intro hjm (And.intro hsn hlj))))))
          obtain ⟨Aj, cj, rfl, _, _, _⟩ := own_shape hoj
          have HZ := Lib.hid hbj.size
          have hcast : (((x + 1 + j : Nat)) : Int) = (x : Int) + 1 + (j : Int) := by omega
          have HCA := Lib.hid hcast
          clear hoj hbj hgj hapj hjm hsn hcast hlj
          go_wp2_with (first
            | (at_builtin; refine wpList_appR _ rfl (.tmp 21) (.tmp 27) _ rfl w.heap.size 3 i0 _ 1 8 Try.underlying70 hi hz0 hz1 hz2 rfl (by omega) (.slice Aj (oth L.first L.recs k j).length cj) (oth L.first L.recs k j).length (ints (oth L.first L.recs k j)) rfl (World.ownsRow.alloc HY.out.1 _) (wr.heap.size + 1) (some ⟨wr.heap.size, 0, none⟩) 1 1 [.int .i64 ((x : Int) + 1 + (j : Int))] rfl rfl (Rd.new wr #[.int .i64 ((x : Int) + 1 + (j : Int))] 3 (0, 0)) (by simp [Value.oneCell']) (by have := HY.out.2.2.2.2.2.2; omega) (by omega) (by have := HZ.out; simp; omega) ?_; intro v2 w2 hown2 hg2 hat2)
            | go_in)
          rw [← HCA.out, ints_snoc, ← HY.out.2.2.2.2.2.1] at hown2
          have hl : (oth L.first L.recs k j).length + 1 = (oth L.first L.recs k (j + 1)).length := by rw [HY.out.2.2.2.2.2.1]; simp
          rw [hl] at hown2
          have hb2 : Below w.heap.size w w2 := (HY.out.2.1.alloc HZ.out _).trans (grown_below' hg2 (fun j' hj' => (World.ownsRow.lt HY.out.1 j' hj').1) (by have := HZ.out; simp; omega))
          have hlt5 := heap_lt HY.out.2.2.1
          have hg6 : w2.heap[b5]? = some (.cells #[.int .i64 (x : Int), .int .i64 (m : Int)] 106 (0, 0)) := (hg2.block b5 (by simp; omega) (fun e => HY.out.2.2.2.1 b5 e.symm rfl)).trans ((Below.heap_alloc _ _ _ hlt5).trans HY.out.2.2.1)
          have hap2 : ∀ g, v2.ownBlock = some g → g ≠ b5 := fun g hg => by
            rcases hat2 with e | e
            · exact HY.out.2.2.2.1 g (e ▸ hg)
            · rw [e] at hg; simp at hg; omega
          exact ⟨⟨j + 1, HY.out.2.2.2.2.1, by simp, hown2, hb2, hg6, hap2⟩, by simp [intOf]; have := HY.out.2.2.2.2.1; omega⟩
        · obtain rfl : j = m := by omega
          rw [HX.out.2.2.2.2.2] at hoj
          have HY := Lib.hid (And.intro hoj hbj)
          clear hoj hbj hgj hapj hjm
          go_wp2_with go_in
          exact ⟨⟨k + 1, HX.out.2.2.1, by simp, HY.out.1, HY.out.2⟩, by simp [intOf]; have := HX.out.2.2.1; omega⟩
    · obtain rfl : k = L.recs.length := by omega
      have HX := Lib.hid (And.intro ho hb)
      clear ho hb
      go_wp2_with go_in
      go_ret
      refine ⟨_, rfl, ?_, HX.out.2⟩
      have h := HX.out.1
      rw [oth_end] at h
      exact h
end Go.Proofs.Ytajakmfloeefpaa
/- The document's log: Sectors, Head, End. -/
namespace Go.Proofs.Ytajakmfloeefpaa
open Go.RowKit Go.Maps

set_option maxRecDepth 100000 in
theorem rsecs_any (n : Nat) (w : World) (hn : n ≤ 1000000) :
    Calls Try.prog 37 #[.int .i64 (n : Int)] w fun e w' => e = .returned (.int .i64 (secs n : Int)) ∧ w = w' := by
  have hss : secs n ≤ 20000 := by unfold secs; omega
  have hnI : (n : Int) ≤ 1000000 := by omega
  have HN := Lib.hid hn
  clear hn
  go_enter Try.func37, Try.ntmps37
  go_wp2
  go_loop [3] (fun u => ∃ k : Nat, k ≤ secs n ∧ u = .int .i64 (k : Int)) (fun u => secs n - (intOf u).toNat)
  case atStart => exact ⟨0, by omega, rfl⟩
  case round =>
    obtain ⟨k, hk, rfl⟩ := hrel
    have hkI : (k : Int) ≤ 20000 := by omega
    by_cases hkl : k < secs n
    · have h1 : (k : Int) * 64 < (n : Int) := by unfold secs at hkl; omega
      go_wp2
      go_round
      case rel => exact ⟨k + 1, by omega, by simp⟩
      case measure => simp [intOf]; omega
    · obtain rfl : k = secs n := by omega
      have h1 : ¬ (secs n : Int) * 64 < (n : Int) := by unfold secs; omega
      go_wp2
      go_ret
      exact ⟨rfl, rfl⟩
/-- A head, of whose Seq the last k bytes are written. -/
def hdR (s : Nat) : Nat → List UInt8
  | 0 => (zero64.set 0 82).set 63 165
  | k + 1 => (hdR s k).set (8 - k) (UInt8.ofNat (s / 256 ^ k))
theorem hdR_len (s : Nat) : ∀ k, (hdR s k).length = 64
  | 0 => rfl
  | k + 1 => by rw [hdR, List.length_set, hdR_len s k]
theorem hdR_end (s n : Nat) : ((hdR s 8).set 9 (UInt8.ofNat (n / 256))).set 10 (UInt8.ofNat n) = headL s n := by
  simp [hdR, zero64, headL, be8, be2, List.replicate_succ]
set_option maxRecDepth 100000 in
set_option maxHeartbeats 1000000 in
theorem rHead_any (s n : Nat) (w : World) (hs : s ≤ 9223372036854775807) (hn : n ≤ 65535) :
    Calls Try.prog 39 #[.int .i64 (s : Int), .int .i64 (n : Int)] w fun e w' => e = .returned (.string ⟨(headL s n).toArray⟩) ∧ Below w.heap.size w w' := by
  have hmk := make64 w
  have h0 : ((u8s zero64).set 0 (.int .u8 82)).set 63 (.int .u8 165) = u8s (hdR s 0) := rfl
  have hg : (w.alloc (.cells (((u8s zero64).set 0 (.int .u8 82)).set 63 (.int .u8 165)).toArray 5)).heap[w.heap.size]? = some (.cells (u8s (hdR s 0)).toArray 5 (0, 0)) := by rw [h0]; exact heap_alloc_new w _
  have hB1 : Below w.heap.size w (w.alloc (.cells (((u8s zero64).set 0 (.int .u8 82)).set 63 (.int .u8 165)).toArray 5)) := (Below.refl _ w).alloc (Nat.le_refl _) _
  have HG := Lib.hid (And.intro hg (And.intro hB1 hs))
  have hn' : (n : Int) ≤ 65535 := by omega
  clear hB1 hg h0 hs hn
  go_enter Try.func39, Try.ntmps39
  go_wp2
  go_loopw [0, 6] (fun z i wr => ∃ k : Nat, k ≤ 8 ∧ i = .int .i64 (8 - (k : Int)) ∧ z = .int .i64 ((s / 256 ^ k : Nat) : Int) ∧ wr.heap[w.heap.size]? = some (.cells (u8s (hdR s k)).toArray 5 (0, 0)) ∧ Below w.heap.size w wr)
    (fun _ i _ => (intOf i).toNat)
  case atStart => exact ⟨0, by omega, rfl, by simp, HG.out.1, HG.out.2.1⟩
  case round =>
    obtain ⟨k, hk, rfl, rfl, hg, hb⟩ := hrel
    by_cases hk8 : k < 8
    · have hkI : (0 : Int) < 8 - (k : Int) := by omega
      have hkJ : (8 : Int) - (k : Int) < 64 := by omega
      have hkN : ((8 : Int) - (k : Int)).toNat = 8 - k := by omega
      have hk0 : (0 : Int) ≤ 8 - (k : Int) := by omega
      obtain ⟨S, hS⟩ : ∃ S, S = s / 256 ^ k := ⟨_, rfl⟩
      have hS1 : s / 256 ^ (k + 1) = S / 256 := by rw [hS, Nat.pow_succ, Nat.div_div_eq_div_mul]
      have hSl : S ≤ 9223372036854775807 := by rw [hS]; exact Nat.le_trans (Nat.div_le_self _ _) HG.out.2.2
      rw [← hS]
      have hm : (S : Int).tmod 256 = ((S % 256 : Nat) : Int) := by rw [Int.tmod_eq_emod_of_nonneg (by omega)]; omega
      have hd : (S : Int).tdiv 256 = ((S / 256 : Nat) : Int) := by rw [Int.tdiv_eq_ediv_of_nonneg (by omega)]; omega
      have hx : ((S % 256 : Nat) : Int) = ((UInt8.ofNat S).toNat : Int) := by rw [mod256]; omega
      obtain ⟨v1, hv1⟩ := row_cell (i := 8 - k) hg (by rw [hdR_len]; omega)
      have zf1 := frozen_of_row wr w.heap.size (8 - k) _ _ hg
      have hg2 := row_set (i := 8 - k) hg (UInt8.ofNat S)
      have hg3 : (wr.setCell ⟨w.heap.size, 8 - k, none⟩ (.int .u8 ((UInt8.ofNat S).toNat : Int))).heap[w.heap.size]? = some (.cells (u8s (hdR s (k + 1))).toArray 5 (0, 0)) := by rw [hdR, ← hS]; exact hg2
      have HX := Lib.hid (And.intro hg3 (And.intro (hb.setCell (p := ⟨w.heap.size, 8 - k, none⟩) (Nat.le_refl _) (.int .u8 ((UInt8.ofNat S).toNat : Int))) (And.intro hx hS1)))
      clear hg hb hg2 hg3 hx hS1 hS
      go_wp2_with go_in
      rw [show (S : Int) % 256 = ((UInt8.ofNat S).toNat : Int) from (mod256 S).symm]
      exact ⟨⟨k + 1, by omega, by simp; omega, by rw [HX.out.2.2.2]; simp, HX.out.1, HX.out.2.1⟩, by simp [intOf]; omega⟩
    · obtain rfl : k = 8 := by omega
      obtain ⟨v9, hv9⟩ := row_cell (i := 9) hg (by rw [hdR_len]; omega)
      have hg9 := row_set (i := 9) hg (UInt8.ofNat (n / 256))
      obtain ⟨v10, hv10⟩ := row_cell (i := 10) hg9 (by rw [List.length_set, hdR_len]; omega)
      have zf9 := frozen_of_row wr w.heap.size 9 _ _ hg
      have zf10 := frozen_of_row _ w.heap.size 10 _ _ hg9
      have hg10 := row_set (i := 10) hg9 (UInt8.ofNat n)
      rw [hdR_end] at hg10
      have hb10 := (hb.setCell (p := ⟨w.heap.size, 9, none⟩) (Nat.le_refl _) (.int .u8 ((UInt8.ofNat (n / 256)).toNat : Int))).setCell (p := ⟨w.heap.size, 10, none⟩) (Nat.le_refl _) (.int .u8 ((UInt8.ofNat n).toNat : Int))
      have m1 : ((UInt8.ofNat (n / 256)).toNat : Int) = (n : Int) / 256 := by rw [mod256]; simp; omega
      have m2 : (n : Int) / 256 % 256 = (n : Int) / 256 := by omega
      rw [mod256 n] at hg10 hb10
      rw [m1] at hg10 hb10 hv10 zf10
      have hst : (convert 45 9 (.slice (some ⟨w.heap.size, 0, none⟩) 64 64)).run Try.prog ((wr.setCell ⟨w.heap.size, 9, none⟩ (.int .u8 ((n : Int) / 256))).setCell ⟨w.heap.size, 10, none⟩ (.int .u8 ((n : Int) % 256))) = .ok (.string ⟨(headL s n).toArray⟩) _ :=
        strAt (B := (wr.setCell ⟨w.heap.size, 9, none⟩ (.int .u8 ((n : Int) / 256))).setCell ⟨w.heap.size, 10, none⟩ (.int .u8 ((n : Int) % 256)) |>.heap.size) (fun _ => ⟨w.heap.size, 0, rfl, (Array.getElem?_eq_some_iff.1 hg10).1, fun j u hu => by rw [cell_of_row _ _ _ _ _ _ hg10]; simpa using hu⟩) (by rw [headL_len])
      have HX := Lib.hid hb10
      clear hg hb hg9 hg10 hb10 m1
      go_wp2_with go_in
      go_ret
      exact ⟨rfl, HX.out⟩
/-- The cells of records of the document. -/
def recS (r : List Rec) : List Value := r.flatMap fun x => [.int .i64 (x.1 : Int), .string ⟨x.2.toArray⟩]
theorem recS_len (r : List Rec) : (recS r).length = r.length * 2 := by
  induction r with
  | nil => rfl
  | cons x r ih => simp only [recS, List.flatMap_cons, List.length_append] at ih ⊢; rw [ih]; simp; omega
theorem recS_two : ∀ (r : List Rec) (i : Nat) (h : i < r.length), (recS r)[i * 2]? = some (.int .i64 (r[i].1 : Int)) ∧ (recS r)[i * 2 + 1]? = some (.string ⟨r[i].2.toArray⟩)
  | [], _, h => by cases h
  | x :: r, 0, _ => ⟨rfl, rfl⟩
  | x :: r, i + 1, h => by
    have ih := recS_two r i (by simpa using h)
    simp only [recS, List.flatMap_cons] at ih ⊢
    rw [show (i + 1) * 2 = i * 2 + 1 + 1 by omega]
    simpa using ih
theorem recS_at {w : World} {B : Nat} {A : Option Addr} {r : List Rec} (h : Rd w B A (recS r)) {k : Nat} (hk : k < r.length) : ∃ ab ao, A = some ⟨ab, ao, none⟩ ∧ ab < B ∧ w.cell? ⟨ab, ao + k * 2, none⟩ = some (.int .i64 (r[k].1 : Int)) ∧ w.cell? ⟨ab, ao + k * 2 + 1, none⟩ = some (.string ⟨r[k].2.toArray⟩) := by
  obtain ⟨ab, ao, rfl, hab, hc⟩ := h (by intro e; have := congrArg List.length e; rw [recS_len] at this; have h9 : r.length * 2 = 0 := this; omega)
  obtain ⟨t1, t2⟩ := recS_two r k hk
  have := hc _ _ t2
  rw [← Nat.add_assoc] at this
  exact ⟨ab, ao, rfl, hab, hc _ _ t1, this⟩
theorem endR_take (a : Nat) (r : List Rec) (k : Nat) (h : k < r.length) : endR a (r.take (k + 1)) = endR a (r.take k) + 1 + secs r[k].2.length := by
  rw [List.take_succ_eq_append_getElem h, endR_append]
  rfl
theorem endR_mono (a : Nat) (r : List Rec) (k : Nat) : endR a (r.take k) ≤ endR a r := by
  have h : endR a r = endR (endR a (r.take k)) (r.drop k) := by rw [← endR_append, List.take_append_drop]
  rw [h]
  have := endR_le (endR a (r.take k)) (r.drop k)
  omega
set_option maxRecDepth 100000 in
set_option maxHeartbeats 1000000 in
theorem rEnd_any (first : Nat) (count next : Int) (r : List Rec) (A : Option Addr) (c B : Nat) (w : World) (hr : Rd w B A (recS r)) (hB : B ≤ w.heap.size) (hd : ∀ x ∈ r, x.2.length ≤ 4000) (he : endR first r ≤ 100000) :
    Calls Try.prog 33 #[.agg #[.int .i64 (first : Int), .int .i64 count, .slice A r.length c, .int .i64 next]] w fun e w' => e = .returned (.int .i64 (endR first r : Int)) ∧ Below w.heap.size w w' := by
  have hb0 : Below w.heap.size w (w.alloc (.cells #[.int .i64 (first : Int), .int .i64 count, .slice A r.length c, .int .i64 next] 42)) := (Below.refl _ _).alloc (Nat.le_refl _) _
  have hg0 := heap_alloc_new w (.cells #[.int .i64 (first : Int), .int .i64 count, .slice A r.length c, .int .i64 next] 42)
  have hr0 := hr.below hb0 hB
  have hl : r.length ≤ 100000 := by have := endR_le first r; omega
  have hlI : (r.length : Int) ≤ 100000 := by omega
  have HH := Lib.hid (And.intro hb0 (And.intro hd he))
  go_enter Try.func33, Try.ntmps33
  go_upto_region 1 with (fail)
  generalize w.alloc (.cells #[.int .i64 (first : Int), .int .i64 count, .slice A r.length c, .int .i64 next] 42) = W0 at hb0 hg0 hr0 HH ⊢
  have c0 := cell_of_row W0 w.heap.size 0 _ _ _ hg0
  have c2 := cell_of_row W0 w.heap.size 2 _ _ _ hg0
  have HR := Lib.hid hr0
  clear hb0 hg0 hr0 hr hd he hl
  go_wp2
  go_loop [3, 4, 10] (fun u _ i => ∃ k : Nat, k ≤ r.length ∧ i = .int .i64 (k : Int) ∧ u = .int .i64 (endR first (r.take k) : Int)) (fun _ _ i => r.length - (intOf i).toNat)
  case atStart => exact ⟨0, by omega, rfl, rfl⟩
  case round =>
    obtain ⟨k, hk, rfl, rfl⟩ := hrel
    by_cases hkl : k < r.length
    · have hkI : (k : Int) < (r.length : Int) := by omega
      obtain ⟨ab, ao, rfl, hab, hc1, hc2⟩ := recS_at HR.out hkl
      have hen := endR_take first r k hkl
      have hem : endR first (r.take (k + 1)) ≤ 100000 := Nat.le_trans (endR_mono first r (k + 1)) HH.out.2.2
      have hdl := HH.out.2.1 r[k] (List.getElem_mem hkl)
      obtain ⟨d, hd⟩ : ∃ d, d = r[k].2 := ⟨_, rfl⟩
      rw [← hd] at hc2 hen hdl
      have hsz : (⟨d.toArray⟩ : ByteArray).size = d.length := by simp [ByteArray.size]
      have hsc := rsecs_any d.length W0 (by omega)
      have hdI : (d.length : Int) ≤ 4000 := by omega
      obtain ⟨E, hE⟩ : ∃ E, E = endR first (r.take k) := ⟨_, rfl⟩
      obtain ⟨D, hD⟩ : ∃ D, D = secs d.length := ⟨_, rfl⟩
      rw [← hE, ← hD] at hen
      rw [← hE]
      rw [← hD] at hsc
      have hEI : (E : Int) + 1 + (D : Int) ≤ 100000 := by omega
      have HSC := Lib.hid hsc
      have HX := Lib.hid hen
      clear hsc hen hem hdl hd hE hD hk hab
      go_wp2_with (go_at_call 37; (with_reducible refine HSC.out.mono ?_); rintro e w1 ⟨rfl, rfl⟩)
      exact ⟨⟨k + 1, hkl, by simp, by rw [HX.out]; simp⟩, by simp [intOf]; omega⟩
    · obtain rfl : k = r.length := by omega
      rw [List.take_length]
      go_wp2
      go_ret
      exact ⟨rfl, HH.out.1⟩
end Go.Proofs.Ytajakmfloeefpaa
/- The document's disk: Write, Flush. -/
namespace Go.Proofs.Ytajakmfloeefpaa
open Go.RowKit Go.Maps

theorem strs_one (L : List (List UInt8)) : ∀ u ∈ strs L, u.oneCell' = true := by
  intro u hu
  obtain ⟨b, _, rfl⟩ := List.mem_map.1 hu
  rfl
theorem bools_one (L : List Bool) : ∀ u ∈ bools L, u.oneCell' = true := by
  intro u hu
  obtain ⟨b, _, rfl⟩ := List.mem_map.1 hu
  rfl
theorem below_put (w w1 : World) (h : Below w.heap.size w w1) (v0 v1 v2 v3 v4 : Value) : Below w.heap.size w (((((w1.setCell ⟨w.heap.size, 0, none⟩ v0).setCell ⟨w.heap.size, 1, none⟩ v1).setCell ⟨w.heap.size, 2, none⟩ v2).setCell ⟨w.heap.size, 3, none⟩ v3).setCell ⟨w.heap.size, 4, none⟩ v4) := ((((h.setCell (by simp) v0).setCell (by simp) v1).setCell (by simp) v2).setCell (by simp) v3).setCell (by simp) v4
theorem below_put1 (w w1 : World) (h : Below w.heap.size w w1) (v0 v1 v2 v3 v4 : Value) : Below w.heap.size w (((((w1.setCell ⟨w.heap.size + 1, 0, none⟩ v0).setCell ⟨w.heap.size + 1, 1, none⟩ v1).setCell ⟨w.heap.size + 1, 2, none⟩ v2).setCell ⟨w.heap.size + 1, 3, none⟩ v3).setCell ⟨w.heap.size + 1, 4, none⟩ v4) := ((((h.setCell (by simp) v0).setCell (by simp) v1).setCell (by simp) v2).setCell (by simp) v3).setCell (by simp) v4
theorem other_put (w1 : World) (b b' : Nat) (hb : b' ≠ b) (v0 v1 v2 v3 v4 : Value) : (((((w1.setCell ⟨b, 0, none⟩ v0).setCell ⟨b, 1, none⟩ v1).setCell ⟨b, 2, none⟩ v2).setCell ⟨b, 3, none⟩ v3).setCell ⟨b, 4, none⟩ v4).heap[b']? = w1.heap[b']? := by
  simp [Below.heap_setCell, hb]
theorem resFlush {w : World} {b : Nat} {v0 v1 v2 v3 v4 : Value} (h : w.heap[b]? = some (.cells #[v0, v1, v2, v3, v4] 33 (0, 0))) (tmps : Array Value) (h2 : tmps.getD 2 undef = .pointer (some ⟨b, 0, none⟩)) :
    (results Try.f38 tmps).run Try.prog w = .ok ((.tuple #[.agg #[v0, v1, v2, v3, v4], tmps.getD 3 undef])) w := by
  have e0 : w.cell? ⟨b, 0, none⟩ = some v0 := cell_of_row w b 0 _ _ _ h
  have e1 : w.cell? ⟨b, 1, none⟩ = some v1 := cell_of_row w b 1 _ _ _ h
  have e2 : w.cell? ⟨b, 2, none⟩ = some v2 := cell_of_row w b 2 _ _ _ h
  have e3 : w.cell? ⟨b, 3, none⟩ = some v3 := cell_of_row w b 3 _ _ _ h
  have e4 : w.cell? ⟨b, 4, none⟩ = some v4 := cell_of_row w b 4 _ _ _ h
  have h2' := h2
  simp only [Array.getD_eq_getD_getElem?] at h2'
  simp [results, Try.results38, go_sem, h2', e0, e1, e2, e3, e4]
theorem resWrite {w : World} {b : Nat} {v0 v1 v2 v3 v4 : Value} (h : w.heap[b]? = some (.cells #[v0, v1, v2, v3, v4] 33 (0, 0))) (tmps : Array Value) (h2 : tmps.getD 6 undef = .pointer (some ⟨b, 0, none⟩)) :
    (results Try.f17 tmps).run Try.prog w = .ok ((.tuple #[.agg #[v0, v1, v2, v3, v4], tmps.getD 7 undef])) w := by
  have e0 : w.cell? ⟨b, 0, none⟩ = some v0 := cell_of_row w b 0 _ _ _ h
  have e1 : w.cell? ⟨b, 1, none⟩ = some v1 := cell_of_row w b 1 _ _ _ h
  have e2 : w.cell? ⟨b, 2, none⟩ = some v2 := cell_of_row w b 2 _ _ _ h
  have e3 : w.cell? ⟨b, 3, none⟩ = some v3 := cell_of_row w b 3 _ _ _ h
  have e4 : w.cell? ⟨b, 4, none⟩ = some v4 := cell_of_row w b 4 _ _ _ h
  have h2' := h2
  simp only [Array.getD_eq_getD_getElem?] at h2'
  simp [results, Try.results17, go_sem, h2', e0, e1, e2, e3, e4]
theorem ext_X {X : List Nat} {n m : Nat} (hX : ∀ x ∈ X, x < n) (h : n + 1 < m) : ∀ x ∈ (n + 1) :: n :: X, x < m := by
  intro x hx
  rcases List.mem_cons.1 hx with rfl | hx
  · exact h
  · rcases List.mem_cons.1 hx with rfl | hx
    · omega
    · have := hX x hx; omega
theorem new_sl (w : World) (xs : List Value) (e : TypeId) {X : List Nat} (hX : ∀ x ∈ X, x < w.heap.size) : Sl (w.alloc (.cells xs.toArray e)) X (some ⟨w.heap.size, 0, none⟩) xs := by
  refine ⟨?_, fun a ha => by cases ha; exact fun hx => Nat.lt_irrefl _ (hX _ hx)⟩
  have := Rd.new w xs.toArray e (0, 0)
  rw [alloc1_size]
  exact this
def RD.flushE (R : RD) : Int := if R.left = 0 then 30 else 0
def RD.flushM (R : RD) : RD := if R.left = 0 then R else ⟨R.now, R.now, List.replicate R.now.length false, stepS R.steps R.left, stepL R.left⟩
theorem makeBools (n : Nat) (hn : n ≤ 4096) (w : World) : (Instr.makeSlice 31 (.int .i64 (n : Int)) (.int .i64 (n : Int))).run Try.prog w = .ok (.slice (some ⟨w.heap.size, 0, none⟩) n n) (w.alloc (.cells (bools (List.replicate n false)).toArray 4)) := by
  have h := run_make_row' (P := Try.prog) 31 4 (.bool false) 1 Try.underlying31 infoBool rfl .i64 .i64 n (by omega) (by omega) w
  have e : madeCells #[Value.bool false] n = (bools (List.replicate n false)).toArray := by
    apply Array.toList_inj.1
    rw [toList_madeCells_one]
    simp [bools]
  rw [e] at h
  exact h
theorem Sl.sub {w : World} {X Y : List Nat} {A : Option Addr} {xs : List Value} (h : Sl w X A xs) (hY : ∀ y ∈ Y, y ∈ X) : Sl w Y A xs := ⟨h.1, fun a ha hy => h.2 a ha (hY _ hy)⟩
set_option maxRecDepth 100000 in
set_option maxHeartbeats 1000000 in
theorem rflush_any (w : World) (X : List Nat) (R : RD) (v : Value) (h : RefV w X R v) (hk : R.Ok) (hX : ∀ x ∈ X, x < w.heap.size) :
    Calls Try.prog 38 #[v] w fun e w' => ∃ v', e = .returned (.tuple #[v', .int .i64 R.flushE]) ∧ RefV w' X R.flushM v' ∧ Below w.heap.size w w' := by
  have hh := h
  obtain ⟨A1, A2, A3, c1, c2, c3, rfl, h1, h2, h3⟩ := h
  have HST := Lib.hid (fun (W : World) => rstep_any W A1 A2 A3 R.sure.length R.now.length R.fresh.length c1 c2 c3 R.steps R.left hk.left hk.steps)
  unfold dv at HST
  have hb2 : Below w.heap.size w ((w.alloc (.cells #[.slice A1 R.sure.length c1, .slice A2 R.now.length c2, .slice A3 R.fresh.length c3, .int .i64 R.steps, .int .i64 R.left] 33)).alloc (.cells #[.slice none 0 0, .slice none 0 0, .slice none 0 0, .int .i64 0, .int .i64 0] 33)) := below2 _ _ _
  have hs2 : ((w.alloc (.cells #[.slice A1 R.sure.length c1, .slice A2 R.now.length c2, .slice A3 R.fresh.length c3, .int .i64 R.steps, .int .i64 R.left] 33)).alloc (.cells #[.slice none 0 0, .slice none 0 0, .slice none 0 0, .int .i64 0, .int .i64 0] 33)).heap.size = w.heap.size + 2 := by simp
  obtain ⟨g0, g1⟩ := two_new w (.cells #[.slice A1 R.sure.length c1, .slice A2 R.now.length c2, .slice A3 R.fresh.length c3, .int .i64 R.steps, .int .i64 R.left] 33) (.cells #[.slice none 0 0, .slice none 0 0, .slice none 0 0, .int .i64 0, .int .i64 0] 33)
  have HW2 := Lib.hid (And.intro hb2 (And.intro hs2 (And.intro g0 g1)))
  clear hb2 hs2 g0 g1
  by_cases h0 : R.left = 0
  · rw [decide_eq_true h0] at HST
    have H0 := Lib.hid h0
    clear h0
    go_enter Try.func38, Try.ntmps38
    go_upto_region 2 with (first
      | (go_at_call 45; (with_reducible refine (HST.out _).mono ?_); rintro e w1 ⟨rfl, hb1⟩; rw [HW2.out.2.1] at hb1; have d0 := (hb1.block w.heap.size (by omega)).trans HW2.out.2.2.1; have d1 := (hb1.block (w.heap.size + 1) (by omega)).trans HW2.out.2.2.2; have e0 := cell_of_row w1 (w.heap.size) 0 _ _ _ d0; have e1 := cell_of_row w1 (w.heap.size) 1 _ _ _ d0; have e2 := cell_of_row w1 (w.heap.size) 2 _ _ _ d0; have e3 := cell_of_row w1 (w.heap.size) 3 _ _ _ d0; have e4 := cell_of_row w1 (w.heap.size) 4 _ _ _ d0; have ef0 := frozen_of_row w1 (w.heap.size) 0 _ _ d0; have ef1 := frozen_of_row w1 (w.heap.size) 1 _ _ d0; have ef2 := frozen_of_row w1 (w.heap.size) 2 _ _ d0; have ef3 := frozen_of_row w1 (w.heap.size) 3 _ _ d0; have ef4 := frozen_of_row w1 (w.heap.size) 4 _ _ d0)
      | go_in)
    have hW1 : Below w.heap.size w (((((w1.setCell ⟨w.heap.size, 0, none⟩ (.slice A1 R.sure.length c1)).setCell ⟨w.heap.size, 1, none⟩ (.slice A2 R.now.length c2)).setCell ⟨w.heap.size, 2, none⟩ (.slice A3 R.fresh.length c3)).setCell ⟨w.heap.size, 3, none⟩ (.int .i64 (stepS R.steps R.left))).setCell ⟨w.heap.size, 4, none⟩ (.int .i64 (stepL R.left))) := below_put w w1 (HW2.out.1.trans (lower' hb1 (by omega))) _ _ _ _ _
    have hs1 : w.heap.size + 1 < (((((w1.setCell ⟨w.heap.size, 0, none⟩ (.slice A1 R.sure.length c1)).setCell ⟨w.heap.size, 1, none⟩ (.slice A2 R.now.length c2)).setCell ⟨w.heap.size, 2, none⟩ (.slice A3 R.fresh.length c3)).setCell ⟨w.heap.size, 3, none⟩ (.int .i64 (stepS R.steps R.left))).setCell ⟨w.heap.size, 4, none⟩ (.int .i64 (stepL R.left))).heap.size := by have := hb1.size; have := HW2.out.2.1; simp [World.setCell]; omega
    have q0 := set5 d0 (.slice A1 R.sure.length c1) (.slice A2 R.now.length c2) (.slice A3 R.fresh.length c3) (.int .i64 (stepS R.steps R.left)) (.int .i64 (stepL R.left))
    have q1 := (other_put w1 w.heap.size (w.heap.size + 1) (by omega) (.slice A1 R.sure.length c1) (.slice A2 R.now.length c2) (.slice A3 R.fresh.length c3) (.int .i64 (stepS R.steps R.left)) (.int .i64 (stepL R.left))).trans d1
    clear d0 d1 hb1 e0 ef0 e1 ef1 e2 ef2 e3 ef3 e4 ef4
    generalize (((((w1.setCell ⟨w.heap.size, 0, none⟩ (.slice A1 R.sure.length c1)).setCell ⟨w.heap.size, 1, none⟩ (.slice A2 R.now.length c2)).setCell ⟨w.heap.size, 2, none⟩ (.slice A3 R.fresh.length c3)).setCell ⟨w.heap.size, 3, none⟩ (.int .i64 (stepS R.steps R.left))).setCell ⟨w.heap.size, 4, none⟩ (.int .i64 (stepL R.left))) = W1 at hW1 hs1 q0 q1 ⊢
    have e0 := cell_of_row W1 (w.heap.size) 0 _ _ _ q0
    have e1 := cell_of_row W1 (w.heap.size) 1 _ _ _ q0
    have e2 := cell_of_row W1 (w.heap.size) 2 _ _ _ q0
    have e3 := cell_of_row W1 (w.heap.size) 3 _ _ _ q0
    have e4 := cell_of_row W1 (w.heap.size) 4 _ _ _ q0
    have ef0 := frozen_of_row W1 (w.heap.size) 0 _ _ q0
    have ef1 := frozen_of_row W1 (w.heap.size) 1 _ _ q0
    have ef2 := frozen_of_row W1 (w.heap.size) 2 _ _ q0
    have ef3 := frozen_of_row W1 (w.heap.size) 3 _ _ q0
    have ef4 := frozen_of_row W1 (w.heap.size) 4 _ _ q0
    have m0 := cell_of_row W1 (w.heap.size + 1) 0 _ _ _ q1
    have m1 := cell_of_row W1 (w.heap.size + 1) 1 _ _ _ q1
    have m2 := cell_of_row W1 (w.heap.size + 1) 2 _ _ _ q1
    have m3 := cell_of_row W1 (w.heap.size + 1) 3 _ _ _ q1
    have m4 := cell_of_row W1 (w.heap.size + 1) 4 _ _ _ q1
    have mf0 := frozen_of_row W1 (w.heap.size + 1) 0 _ _ q1
    have mf1 := frozen_of_row W1 (w.heap.size + 1) 1 _ _ q1
    have mf2 := frozen_of_row W1 (w.heap.size + 1) 2 _ _ q1
    have mf3 := frozen_of_row W1 (w.heap.size + 1) 3 _ _ q1
    have mf4 := frozen_of_row W1 (w.heap.size + 1) 4 _ _ q1
    clear h1 h2 h3
    go_wp2_with go_in
    refine bodyPost_ret (resFlush (set5 q1 _ _ _ _ _) _ rfl) rfl ⟨dv A1 A2 A3 R.sure.length R.now.length R.fresh.length c1 c2 c3 (stepS R.steps R.left) (stepL R.left), ?_, ?_, ?_⟩
    · rw [show R.flushE = 30 from if_pos H0.out]; rfl
    · rw [show R.flushM = R from if_pos H0.out, show stepS R.steps R.left = R.steps from if_pos H0.out, show stepL R.left = R.left from (if_pos H0.out).trans H0.out.symm]
      exact hh.below (below_put1 w W1 hW1 _ _ _ _ _)
    · exact below_put1 w W1 hW1 _ _ _ _ _
  · go_enter Try.func38, Try.ntmps38
    go_upto_region 2 with (first
      | (go_at_call 45; (with_reducible refine (HST.out _).mono ?_); rintro e w1 ⟨rfl, hb1⟩; rw [HW2.out.2.1] at hb1; have d0 := (hb1.block w.heap.size (by omega)).trans HW2.out.2.2.1; have d1 := (hb1.block (w.heap.size + 1) (by omega)).trans HW2.out.2.2.2; have e0 := cell_of_row w1 (w.heap.size) 0 _ _ _ d0; have e1 := cell_of_row w1 (w.heap.size) 1 _ _ _ d0; have e2 := cell_of_row w1 (w.heap.size) 2 _ _ _ d0; have e3 := cell_of_row w1 (w.heap.size) 3 _ _ _ d0; have e4 := cell_of_row w1 (w.heap.size) 4 _ _ _ d0; have ef0 := frozen_of_row w1 (w.heap.size) 0 _ _ d0; have ef1 := frozen_of_row w1 (w.heap.size) 1 _ _ d0; have ef2 := frozen_of_row w1 (w.heap.size) 2 _ _ d0; have ef3 := frozen_of_row w1 (w.heap.size) 3 _ _ d0; have ef4 := frozen_of_row w1 (w.heap.size) 4 _ _ d0)
      | go_in)
    have hW1 : Below w.heap.size w (((((w1.setCell ⟨w.heap.size, 0, none⟩ (.slice A1 R.sure.length c1)).setCell ⟨w.heap.size, 1, none⟩ (.slice A2 R.now.length c2)).setCell ⟨w.heap.size, 2, none⟩ (.slice A3 R.fresh.length c3)).setCell ⟨w.heap.size, 3, none⟩ (.int .i64 (stepS R.steps R.left))).setCell ⟨w.heap.size, 4, none⟩ (.int .i64 (stepL R.left))) := below_put w w1 (HW2.out.1.trans (lower' hb1 (by omega))) _ _ _ _ _
    have hs1 : w.heap.size + 1 < (((((w1.setCell ⟨w.heap.size, 0, none⟩ (.slice A1 R.sure.length c1)).setCell ⟨w.heap.size, 1, none⟩ (.slice A2 R.now.length c2)).setCell ⟨w.heap.size, 2, none⟩ (.slice A3 R.fresh.length c3)).setCell ⟨w.heap.size, 3, none⟩ (.int .i64 (stepS R.steps R.left))).setCell ⟨w.heap.size, 4, none⟩ (.int .i64 (stepL R.left))).heap.size := by have := hb1.size; have := HW2.out.2.1; simp [World.setCell]; omega
    have q0 := set5 d0 (.slice A1 R.sure.length c1) (.slice A2 R.now.length c2) (.slice A3 R.fresh.length c3) (.int .i64 (stepS R.steps R.left)) (.int .i64 (stepL R.left))
    have q1 := (other_put w1 w.heap.size (w.heap.size + 1) (by omega) (.slice A1 R.sure.length c1) (.slice A2 R.now.length c2) (.slice A3 R.fresh.length c3) (.int .i64 (stepS R.steps R.left)) (.int .i64 (stepL R.left))).trans d1
    clear d0 d1 hb1 e0 ef0 e1 ef1 e2 ef2 e3 ef3 e4 ef4
    generalize (((((w1.setCell ⟨w.heap.size, 0, none⟩ (.slice A1 R.sure.length c1)).setCell ⟨w.heap.size, 1, none⟩ (.slice A2 R.now.length c2)).setCell ⟨w.heap.size, 2, none⟩ (.slice A3 R.fresh.length c3)).setCell ⟨w.heap.size, 3, none⟩ (.int .i64 (stepS R.steps R.left))).setCell ⟨w.heap.size, 4, none⟩ (.int .i64 (stepL R.left))) = W1 at hW1 hs1 q0 q1 ⊢
    have e0 := cell_of_row W1 (w.heap.size) 0 _ _ _ q0
    have e1 := cell_of_row W1 (w.heap.size) 1 _ _ _ q0
    have e2 := cell_of_row W1 (w.heap.size) 2 _ _ _ q0
    have e3 := cell_of_row W1 (w.heap.size) 3 _ _ _ q0
    have e4 := cell_of_row W1 (w.heap.size) 4 _ _ _ q0
    have ef0 := frozen_of_row W1 (w.heap.size) 0 _ _ q0
    have ef1 := frozen_of_row W1 (w.heap.size) 1 _ _ q0
    have ef2 := frozen_of_row W1 (w.heap.size) 2 _ _ q0
    have ef3 := frozen_of_row W1 (w.heap.size) 3 _ _ q0
    have ef4 := frozen_of_row W1 (w.heap.size) 4 _ _ q0
    have m0 := cell_of_row W1 (w.heap.size + 1) 0 _ _ _ q1
    have m1 := cell_of_row W1 (w.heap.size + 1) 1 _ _ _ q1
    have m2 := cell_of_row W1 (w.heap.size + 1) 2 _ _ _ q1
    have m3 := cell_of_row W1 (w.heap.size + 1) 3 _ _ _ q1
    have m4 := cell_of_row W1 (w.heap.size + 1) 4 _ _ _ q1
    have mf0 := frozen_of_row W1 (w.heap.size + 1) 0 _ _ q1
    have mf1 := frozen_of_row W1 (w.heap.size + 1) 1 _ _ q1
    have mf2 := frozen_of_row W1 (w.heap.size + 1) 2 _ _ q1
    have mf3 := frozen_of_row W1 (w.heap.size + 1) 3 _ _ q1
    have mf4 := frozen_of_row W1 (w.heap.size + 1) 4 _ _ q1
    have hS2 := h2.below hW1
    obtain ⟨i0, hi, hz0, hz1, hz2⟩ := info_parts infoStr
    have hn := hk.n
    have HX := Lib.hid hX
    have HW1 := Lib.hid (And.intro hW1 (And.intro hs1 (And.intro q0 (And.intro q1 hS2))))
    have HH := Lib.hid (And.intro h2 hk)
    clear hW1 q0 q1 hS2 h1 h2 h3 hh hX
    have qa := (Below.heap_alloc W1 (.cells #[] 9) w.heap.size (by omega)).trans HW1.out.2.2.1
    have a0 := cell_of_row (W1.alloc (.cells #[] 9)) (w.heap.size) 0 _ _ _ qa
    have a1 := cell_of_row (W1.alloc (.cells #[] 9)) (w.heap.size) 1 _ _ _ qa
    have a2 := cell_of_row (W1.alloc (.cells #[] 9)) (w.heap.size) 2 _ _ _ qa
    have a3 := cell_of_row (W1.alloc (.cells #[] 9)) (w.heap.size) 3 _ _ _ qa
    have a4 := cell_of_row (W1.alloc (.cells #[] 9)) (w.heap.size) 4 _ _ _ qa
    have af0 := frozen_of_row (W1.alloc (.cells #[] 9)) (w.heap.size) 0 _ _ qa
    have af1 := frozen_of_row (W1.alloc (.cells #[] 9)) (w.heap.size) 1 _ _ qa
    have af2 := frozen_of_row (W1.alloc (.cells #[] 9)) (w.heap.size) 2 _ _ qa
    have af3 := frozen_of_row (W1.alloc (.cells #[] 9)) (w.heap.size) 3 _ _ qa
    have af4 := frozen_of_row (W1.alloc (.cells #[] 9)) (w.heap.size) 4 _ _ qa
    clear qa
    go_wp2_with (first
      | (at_builtin; refine wpList_appR _ rfl (.tmp 13) (.tmp 15) _ rfl W1.heap.size 9 i0 _ 1 16 Try.underlying30 hi hz0 hz1 hz2 rfl (by omega) (.slice (some ⟨W1.heap.size, 0, none⟩) 0 0) 0 [] rfl (own_lit0 W1 (Nat.le_refl _)) (W1.heap.size + 1) A2 R.now.length c2 (strs R.now) rfl (by simp) ((HW1.out.2.2.2.2.below ((Below.refl _ _).alloc (Nat.le_refl _) _)).1.more (by simp)) (strs_one _) (by omega) (by omega) (by simp) ?_; intro v2 w2 hown2 hg2 hat2; rw [Nat.zero_add, List.nil_append] at hown2; have hB2 := append0_below hg2; clear hg2 hat2; have s2 := hB2.size; obtain ⟨Av, cv, rfl, hvc, hvm, sv⟩ := own_sl hown2 (ext_X HX.out hs1); have p0 := (hB2.block w.heap.size (by omega)).trans HW1.out.2.2.1; have p1 := (hB2.block (w.heap.size + 1) (by omega)).trans HW1.out.2.2.2.1; have k0 := cell_of_row w2 (w.heap.size) 0 _ _ _ p0; have k1 := cell_of_row w2 (w.heap.size) 1 _ _ _ p0; have k2 := cell_of_row w2 (w.heap.size) 2 _ _ _ p0; have k3 := cell_of_row w2 (w.heap.size) 3 _ _ _ p0; have k4 := cell_of_row w2 (w.heap.size) 4 _ _ _ p0; have kf0 := frozen_of_row w2 (w.heap.size) 0 _ _ p0; have kf1 := frozen_of_row w2 (w.heap.size) 1 _ _ p0; have kf2 := frozen_of_row w2 (w.heap.size) 2 _ _ p0; have kf3 := frozen_of_row w2 (w.heap.size) 3 _ _ p0; have kf4 := frozen_of_row w2 (w.heap.size) 4 _ _ p0; have km0 := cell_of_row w2 (w.heap.size + 1) 0 _ _ _ p1; have km1 := cell_of_row w2 (w.heap.size + 1) 1 _ _ _ p1; have km2 := cell_of_row w2 (w.heap.size + 1) 2 _ _ _ p1; have km3 := cell_of_row w2 (w.heap.size + 1) 3 _ _ _ p1; have km4 := cell_of_row w2 (w.heap.size + 1) 4 _ _ _ p1; have kmf0 := frozen_of_row w2 (w.heap.size + 1) 0 _ _ p1; have kmf1 := frozen_of_row w2 (w.heap.size + 1) 1 _ _ p1; have kmf2 := frozen_of_row w2 (w.heap.size + 1) 2 _ _ p1; have kmf3 := frozen_of_row w2 (w.heap.size + 1) 3 _ _ p1; have kmf4 := frozen_of_row w2 (w.heap.size + 1) 4 _ _ p1; have hmk := makeBools R.now.length hn (w2.setCell ⟨w.heap.size, 0, none⟩ (.slice Av R.now.length cv)); have r0 := (Below.heap_alloc (w2.setCell ⟨w.heap.size, 0, none⟩ (.slice Av R.now.length cv)) (.cells (bools (List.replicate R.now.length false)).toArray 4) w.heap.size (by simp [World.setCell]; omega)).trans (heap_setCell_same w2 w.heap.size 0 _ _ (.slice Av R.now.length cv) p0); have r1 := (Below.heap_alloc (w2.setCell ⟨w.heap.size, 0, none⟩ (.slice Av R.now.length cv)) (.cells (bools (List.replicate R.now.length false)).toArray 4) (w.heap.size + 1) (by simp [World.setCell]; omega)).trans ((Below.heap_setCell w2 ⟨w.heap.size, 0, none⟩ (.slice Av R.now.length cv) (w.heap.size + 1) (by simp)).trans p1); have j0 := cell_of_row ((w2.setCell ⟨w.heap.size, 0, none⟩ (.slice Av R.now.length cv)).alloc (.cells (bools (List.replicate R.now.length false)).toArray 4)) (w.heap.size) 0 _ _ _ r0; have j1 := cell_of_row ((w2.setCell ⟨w.heap.size, 0, none⟩ (.slice Av R.now.length cv)).alloc (.cells (bools (List.replicate R.now.length false)).toArray 4)) (w.heap.size) 1 _ _ _ r0; have j2 := cell_of_row ((w2.setCell ⟨w.heap.size, 0, none⟩ (.slice Av R.now.length cv)).alloc (.cells (bools (List.replicate R.now.length false)).toArray 4)) (w.heap.size) 2 _ _ _ r0; have j3 := cell_of_row ((w2.setCell ⟨w.heap.size, 0, none⟩ (.slice Av R.now.length cv)).alloc (.cells (bools (List.replicate R.now.length false)).toArray 4)) (w.heap.size) 3 _ _ _ r0; have j4 := cell_of_row ((w2.setCell ⟨w.heap.size, 0, none⟩ (.slice Av R.now.length cv)).alloc (.cells (bools (List.replicate R.now.length false)).toArray 4)) (w.heap.size) 4 _ _ _ r0; have jf0 := frozen_of_row ((w2.setCell ⟨w.heap.size, 0, none⟩ (.slice Av R.now.length cv)).alloc (.cells (bools (List.replicate R.now.length false)).toArray 4)) (w.heap.size) 0 _ _ r0; have jf1 := frozen_of_row ((w2.setCell ⟨w.heap.size, 0, none⟩ (.slice Av R.now.length cv)).alloc (.cells (bools (List.replicate R.now.length false)).toArray 4)) (w.heap.size) 1 _ _ r0; have jf2 := frozen_of_row ((w2.setCell ⟨w.heap.size, 0, none⟩ (.slice Av R.now.length cv)).alloc (.cells (bools (List.replicate R.now.length false)).toArray 4)) (w.heap.size) 2 _ _ r0; have jf3 := frozen_of_row ((w2.setCell ⟨w.heap.size, 0, none⟩ (.slice Av R.now.length cv)).alloc (.cells (bools (List.replicate R.now.length false)).toArray 4)) (w.heap.size) 3 _ _ r0; have jf4 := frozen_of_row ((w2.setCell ⟨w.heap.size, 0, none⟩ (.slice Av R.now.length cv)).alloc (.cells (bools (List.replicate R.now.length false)).toArray 4)) (w.heap.size) 4 _ _ r0; have jm0 := cell_of_row ((w2.setCell ⟨w.heap.size, 0, none⟩ (.slice Av R.now.length cv)).alloc (.cells (bools (List.replicate R.now.length false)).toArray 4)) (w.heap.size + 1) 0 _ _ _ r1; have jm1 := cell_of_row ((w2.setCell ⟨w.heap.size, 0, none⟩ (.slice Av R.now.length cv)).alloc (.cells (bools (List.replicate R.now.length false)).toArray 4)) (w.heap.size + 1) 1 _ _ _ r1; have jm2 := cell_of_row ((w2.setCell ⟨w.heap.size, 0, none⟩ (.slice Av R.now.length cv)).alloc (.cells (bools (List.replicate R.now.length false)).toArray 4)) (w.heap.size + 1) 2 _ _ _ r1; have jm3 := cell_of_row ((w2.setCell ⟨w.heap.size, 0, none⟩ (.slice Av R.now.length cv)).alloc (.cells (bools (List.replicate R.now.length false)).toArray 4)) (w.heap.size + 1) 3 _ _ _ r1; have jm4 := cell_of_row ((w2.setCell ⟨w.heap.size, 0, none⟩ (.slice Av R.now.length cv)).alloc (.cells (bools (List.replicate R.now.length false)).toArray 4)) (w.heap.size + 1) 4 _ _ _ r1; have jmf0 := frozen_of_row ((w2.setCell ⟨w.heap.size, 0, none⟩ (.slice Av R.now.length cv)).alloc (.cells (bools (List.replicate R.now.length false)).toArray 4)) (w.heap.size + 1) 0 _ _ r1; have jmf1 := frozen_of_row ((w2.setCell ⟨w.heap.size, 0, none⟩ (.slice Av R.now.length cv)).alloc (.cells (bools (List.replicate R.now.length false)).toArray 4)) (w.heap.size + 1) 1 _ _ r1; have jmf2 := frozen_of_row ((w2.setCell ⟨w.heap.size, 0, none⟩ (.slice Av R.now.length cv)).alloc (.cells (bools (List.replicate R.now.length false)).toArray 4)) (w.heap.size + 1) 2 _ _ r1; have jmf3 := frozen_of_row ((w2.setCell ⟨w.heap.size, 0, none⟩ (.slice Av R.now.length cv)).alloc (.cells (bools (List.replicate R.now.length false)).toArray 4)) (w.heap.size + 1) 3 _ _ r1; have jmf4 := frozen_of_row ((w2.setCell ⟨w.heap.size, 0, none⟩ (.slice Av R.now.length cv)).alloc (.cells (bools (List.replicate R.now.length false)).toArray 4)) (w.heap.size + 1) 4 _ _ r1)
      | go_in)
    have e1 : (w2.setCell ⟨w.heap.size, 0, none⟩ (.slice Av R.now.length cv)).heap.size = w2.heap.size := by simp [World.setCell]
    have sF := new_sl (w2.setCell ⟨w.heap.size, 0, none⟩ (.slice Av R.now.length cv)) (bools (List.replicate R.now.length false)) 4 (X := (w.heap.size + 1) :: w.heap.size :: X) (by rw [e1]; exact ext_X HX.out (by omega))
    rw [e1] at sF
    have f3 : Fr w2 ((w2.setCell ⟨w.heap.size, 0, none⟩ (.slice Av R.now.length cv)).alloc (.cells (bools (List.replicate R.now.length false)).toArray 4)) [w.heap.size + 1, w.heap.size] := ((Fr.refl _ _).setCell (by simp) _).alloc _
    have f4 : Fr ((w2.setCell ⟨w.heap.size, 0, none⟩ (.slice Av R.now.length cv)).alloc (.cells (bools (List.replicate R.now.length false)).toArray 4)) ((((((((w2.setCell ⟨w.heap.size, 0, none⟩ (.slice Av R.now.length cv)).alloc (.cells (bools (List.replicate R.now.length false)).toArray 4)).setCell ⟨w.heap.size, 2, none⟩ (.slice (some ⟨w2.heap.size, 0, none⟩) R.now.length R.now.length)).setCell ⟨w.heap.size + 1, 0, none⟩ (.slice Av R.now.length cv)).setCell ⟨w.heap.size + 1, 1, none⟩ (.slice A2 R.now.length c2)).setCell ⟨w.heap.size + 1, 2, none⟩ (.slice (some ⟨w2.heap.size, 0, none⟩) R.now.length R.now.length)).setCell ⟨w.heap.size + 1, 3, none⟩ (.int .i64 (stepS R.steps R.left))).setCell ⟨w.heap.size + 1, 4, none⟩ (.int .i64 (stepL R.left))) [w.heap.size + 1, w.heap.size] := ((((((Fr.refl _ _).setCell (by simp) _).setCell (by simp) _).setCell (by simp) _).setCell (by simp) _).setCell (by simp) _).setCell (by simp) _
    have hBf : Below w.heap.size w ((((((((w2.setCell ⟨w.heap.size, 0, none⟩ (.slice Av R.now.length cv)).alloc (.cells (bools (List.replicate R.now.length false)).toArray 4)).setCell ⟨w.heap.size, 2, none⟩ (.slice (some ⟨w2.heap.size, 0, none⟩) R.now.length R.now.length)).setCell ⟨w.heap.size + 1, 0, none⟩ (.slice Av R.now.length cv)).setCell ⟨w.heap.size + 1, 1, none⟩ (.slice A2 R.now.length c2)).setCell ⟨w.heap.size + 1, 2, none⟩ (.slice (some ⟨w2.heap.size, 0, none⟩) R.now.length R.now.length)).setCell ⟨w.heap.size + 1, 3, none⟩ (.int .i64 (stepS R.steps R.left))).setCell ⟨w.heap.size + 1, 4, none⟩ (.int .i64 (stepL R.left))) := HW1.out.1.trans ((lower' hB2 (by omega)).trans ((f3.trans f4).below (by omega) (by simp)))
    have r2 := (Below.heap_setCell ((w2.setCell ⟨w.heap.size, 0, none⟩ (.slice Av R.now.length cv)).alloc (.cells (bools (List.replicate R.now.length false)).toArray 4)) ⟨w.heap.size, 2, none⟩ (.slice (some ⟨w2.heap.size, 0, none⟩) R.now.length R.now.length) (w.heap.size + 1) (by simp)).trans r1
    refine bodyPost_ret (resFlush (set5 r2 _ _ _ _ _) _ rfl) rfl ⟨dv Av A2 (some ⟨w2.heap.size, 0, none⟩) R.now.length R.now.length R.now.length cv c2 R.now.length (stepS R.steps R.left) (stepL R.left), ?_, ?_, hBf⟩
    · rw [show R.flushE = 0 from if_neg h0]; rfl
    · rw [show R.flushM = ⟨R.now, R.now, List.replicate R.now.length false, stepS R.steps R.left, stepL R.left⟩ from if_neg h0]
      exact ⟨Av, A2, _, cv, c2, R.now.length, by simp [dv], (sv.fr (f3.trans f4) (by simp)).sub (fun y hy => by simp [hy]), HH.out.1.below hBf, (sF.fr f4 (by simp)).sub (fun y hy => by simp [hy])⟩
end Go.Proofs.Ytajakmfloeefpaa
/- The document's disk: Write. -/
namespace Go.Proofs.Ytajakmfloeefpaa
open Go.RowKit Go.Maps

theorem grown_set (w : World) (b k : Nat) (u : Value) : w.grownBy (w.setCell ⟨b, k, none⟩ u) (some b) := ⟨rfl, rfl, rfl, by simp [World.setCell], fun i _ h => Below.heap_setCell _ _ _ _ fun e => h (by rw [e])⟩
theorem strs_get (L : List (List UInt8)) (i : Nat) (h : i < L.length) : (strs L)[i]? = some (.string ⟨L[i].toArray⟩) := by simp [strs, h]
theorem bools_get (L : List Bool) (i : Nat) (h : i < L.length) : (bools L)[i]? = some (.bool L[i]) := by simp [bools, h]
theorem strs_set (L : List (List UInt8)) (i : Nat) (l : List UInt8) : strs (L.set i l) = (strs L).set i (.string ⟨l.toArray⟩) := by simp [strs, List.map_set]
theorem bools_set (L : List Bool) (i : Nat) (b : Bool) : bools (L.set i b) = (bools L).set i (.bool b) := by simp [bools, List.map_set]
def RD.writeBad (R : RD) (i : Int) (l : List UInt8) : Prop := ¬ (0 ≤ i ∧ i < R.now.length) ∨ l.length ≠ 64
instance (R : RD) (i : Int) (l : List UInt8) : Decidable (R.writeBad i l) := inferInstanceAs (Decidable (¬ (0 ≤ i ∧ i < R.now.length) ∨ l.length ≠ 64))
def RD.writeE (R : RD) (i : Int) (l : List UInt8) : Int := if R.writeBad i l then 1 else if R.left = 0 then 30 else 0
def RD.writeM (R : RD) (i : Int) (l : List UInt8) : RD := if R.writeBad i l then R else if R.left = 0 then R else ⟨R.sure, R.now.set i.toNat l, R.fresh.set i.toNat true, stepS R.steps R.left, stepL R.left⟩
set_option maxRecDepth 100000 in
set_option maxHeartbeats 2000000 in
theorem rwrite_bad (w : World) (X : List Nat) (R : RD) (v : Value) (h : RefV w X R v) (i : Int) (l : List UInt8) (hb : R.writeBad i l) :
    Calls Try.prog 17 #[v, .int .i64 i, .string ⟨l.toArray⟩] w fun e w' => ∃ v', e = .returned (.tuple #[v', .int .i64 1]) ∧ RefV w' X R v' ∧ Below w.heap.size w w' := by
  have hh := h
  obtain ⟨A1, A2, A3, c1, c2, c3, rfl, h1, h2, h3⟩ := h
  have hsz : (⟨l.toArray⟩ : ByteArray).size = l.length := rfl
  by_cases hi0 : i < 0
  · go_enter Try.func17, Try.ntmps17
    go_wp2
    exact bodyPost_ret (resWrite (lastAgg _ _ _ _ _ _) _ rfl) rfl ⟨_, rfl, hh.below (below2 _ _ _), below2 _ _ _⟩
  · by_cases hin : (R.now.length : Int) ≤ i
    · go_enter Try.func17, Try.ntmps17
      go_wp2
      exact bodyPost_ret (resWrite (lastAgg _ _ _ _ _ _) _ rfl) rfl ⟨_, rfl, hh.below (below2 _ _ _), below2 _ _ _⟩
    · have hl : ¬ ((l.length : Int) = 64) := by
        rcases hb with hb | hb
        · exact absurd ⟨by omega, by omega⟩ hb
        · omega
      go_enter Try.func17, Try.ntmps17
      go_wp2
      exact bodyPost_ret (resWrite (lastAgg _ _ _ _ _ _) _ rfl) rfl ⟨_, rfl, hh.below (below2 _ _ _), below2 _ _ _⟩

set_option maxRecDepth 100000 in
set_option maxHeartbeats 4000000 in
theorem rwrite_good (w : World) (X : List Nat) (R : RD) (v : Value) (h : RefV w X R v) (hk : R.Ok) (hX : ∀ x ∈ X, x < w.heap.size) (i : Nat) (l : List UInt8) (hi : i < R.now.length) (hl : l.length = 64) :
    Calls Try.prog 17 #[v, .int .i64 (i : Int), .string ⟨l.toArray⟩] w fun e w' => ∃ v', e = .returned (.tuple #[v', .int .i64 (if R.left = 0 then 30 else 0)]) ∧ RefV w' X (if R.left = 0 then R else ⟨R.sure, R.now.set i l, R.fresh.set i true, stepS R.steps R.left, stepL R.left⟩) v' ∧ Below w.heap.size w w' := by
  have hh := h
  obtain ⟨A1, A2, A3, c1, c2, c3, rfl, h1, h2, h3⟩ := h
  have HST := Lib.hid (fun (W : World) => rstep_any W A1 A2 A3 R.sure.length R.now.length R.fresh.length c1 c2 c3 R.steps R.left hk.left hk.steps)
  unfold dv at HST
  have hb2 : Below w.heap.size w ((w.alloc (.cells #[.slice A1 R.sure.length c1, .slice A2 R.now.length c2, .slice A3 R.fresh.length c3, .int .i64 R.steps, .int .i64 R.left] 33)).alloc (.cells #[.slice none 0 0, .slice none 0 0, .slice none 0 0, .int .i64 0, .int .i64 0] 33)) := below2 _ _ _
  have hs2 : ((w.alloc (.cells #[.slice A1 R.sure.length c1, .slice A2 R.now.length c2, .slice A3 R.fresh.length c3, .int .i64 R.steps, .int .i64 R.left] 33)).alloc (.cells #[.slice none 0 0, .slice none 0 0, .slice none 0 0, .int .i64 0, .int .i64 0] 33)).heap.size = w.heap.size + 2 := by simp
  obtain ⟨g0, g1⟩ := two_new w (.cells #[.slice A1 R.sure.length c1, .slice A2 R.now.length c2, .slice A3 R.fresh.length c3, .int .i64 R.steps, .int .i64 R.left] 33) (.cells #[.slice none 0 0, .slice none 0 0, .slice none 0 0, .int .i64 0, .int .i64 0] 33)
  have HW2 := Lib.hid (And.intro hb2 (And.intro hs2 (And.intro g0 g1)))
  have hiI : (i : Int) < (R.now.length : Int) := by omega
  have hlI : (l.length : Int) = 64 := by omega
  have hfI : (i : Int) < (R.fresh.length : Int) := by have := hk.fresh; omega
  have hfN : i < R.fresh.length := by omega
  have hsz : (⟨l.toArray⟩ : ByteArray).size = l.length := rfl
  have HK := Lib.hid hk
  have HI2 := Lib.hid hi
  have HI := Lib.hid (show 0 < R.now.length ∧ 0 < R.fresh.length from ⟨by omega, by have := hk.fresh; omega⟩)
  clear hb2 hs2 g0 g1 hi hl hk
  by_cases h0 : R.left = 0
  · rw [decide_eq_true h0] at HST
    rw [if_pos h0, if_pos h0]
    have H0 := Lib.hid h0
    clear h0
    go_enter Try.func17, Try.ntmps17
    go_upto_region 4 with (first
      | (go_at_call 45; (with_reducible refine (HST.out _).mono ?_); rintro e w1 ⟨rfl, hb1⟩; rw [HW2.out.2.1] at hb1; have d0 := (hb1.block w.heap.size (by omega)).trans HW2.out.2.2.1; have d1 := (hb1.block (w.heap.size + 1) (by omega)).trans HW2.out.2.2.2; have e0 := cell_of_row w1 (w.heap.size) 0 _ _ _ d0; have e1 := cell_of_row w1 (w.heap.size) 1 _ _ _ d0; have e2 := cell_of_row w1 (w.heap.size) 2 _ _ _ d0; have e3 := cell_of_row w1 (w.heap.size) 3 _ _ _ d0; have e4 := cell_of_row w1 (w.heap.size) 4 _ _ _ d0; have ef0 := frozen_of_row w1 (w.heap.size) 0 _ _ d0; have ef1 := frozen_of_row w1 (w.heap.size) 1 _ _ d0; have ef2 := frozen_of_row w1 (w.heap.size) 2 _ _ d0; have ef3 := frozen_of_row w1 (w.heap.size) 3 _ _ d0; have ef4 := frozen_of_row w1 (w.heap.size) 4 _ _ d0)
      | go_in)
    have hW1 : Below w.heap.size w (((((w1.setCell ⟨w.heap.size, 0, none⟩ (.slice A1 R.sure.length c1)).setCell ⟨w.heap.size, 1, none⟩ (.slice A2 R.now.length c2)).setCell ⟨w.heap.size, 2, none⟩ (.slice A3 R.fresh.length c3)).setCell ⟨w.heap.size, 3, none⟩ (.int .i64 (stepS R.steps R.left))).setCell ⟨w.heap.size, 4, none⟩ (.int .i64 (stepL R.left))) := below_put w w1 (HW2.out.1.trans (lower' hb1 (by omega))) _ _ _ _ _
    have hs1 : w.heap.size + 1 < (((((w1.setCell ⟨w.heap.size, 0, none⟩ (.slice A1 R.sure.length c1)).setCell ⟨w.heap.size, 1, none⟩ (.slice A2 R.now.length c2)).setCell ⟨w.heap.size, 2, none⟩ (.slice A3 R.fresh.length c3)).setCell ⟨w.heap.size, 3, none⟩ (.int .i64 (stepS R.steps R.left))).setCell ⟨w.heap.size, 4, none⟩ (.int .i64 (stepL R.left))).heap.size := by have := hb1.size; have := HW2.out.2.1; simp [World.setCell]; omega
    have q0 := set5 d0 (.slice A1 R.sure.length c1) (.slice A2 R.now.length c2) (.slice A3 R.fresh.length c3) (.int .i64 (stepS R.steps R.left)) (.int .i64 (stepL R.left))
    have q1 := (other_put w1 w.heap.size (w.heap.size + 1) (by omega) (.slice A1 R.sure.length c1) (.slice A2 R.now.length c2) (.slice A3 R.fresh.length c3) (.int .i64 (stepS R.steps R.left)) (.int .i64 (stepL R.left))).trans d1
    clear d0 d1 hb1 e0 ef0 e1 ef1 e2 ef2 e3 ef3 e4 ef4
    generalize (((((w1.setCell ⟨w.heap.size, 0, none⟩ (.slice A1 R.sure.length c1)).setCell ⟨w.heap.size, 1, none⟩ (.slice A2 R.now.length c2)).setCell ⟨w.heap.size, 2, none⟩ (.slice A3 R.fresh.length c3)).setCell ⟨w.heap.size, 3, none⟩ (.int .i64 (stepS R.steps R.left))).setCell ⟨w.heap.size, 4, none⟩ (.int .i64 (stepL R.left))) = W1 at hW1 hs1 q0 q1 ⊢
    have e0 := cell_of_row W1 (w.heap.size) 0 _ _ _ q0
    have e1 := cell_of_row W1 (w.heap.size) 1 _ _ _ q0
    have e2 := cell_of_row W1 (w.heap.size) 2 _ _ _ q0
    have e3 := cell_of_row W1 (w.heap.size) 3 _ _ _ q0
    have e4 := cell_of_row W1 (w.heap.size) 4 _ _ _ q0
    have ef0 := frozen_of_row W1 (w.heap.size) 0 _ _ q0
    have ef1 := frozen_of_row W1 (w.heap.size) 1 _ _ q0
    have ef2 := frozen_of_row W1 (w.heap.size) 2 _ _ q0
    have ef3 := frozen_of_row W1 (w.heap.size) 3 _ _ q0
    have ef4 := frozen_of_row W1 (w.heap.size) 4 _ _ q0
    have m0 := cell_of_row W1 (w.heap.size + 1) 0 _ _ _ q1
    have m1 := cell_of_row W1 (w.heap.size + 1) 1 _ _ _ q1
    have m2 := cell_of_row W1 (w.heap.size + 1) 2 _ _ _ q1
    have m3 := cell_of_row W1 (w.heap.size + 1) 3 _ _ _ q1
    have m4 := cell_of_row W1 (w.heap.size + 1) 4 _ _ _ q1
    have mf0 := frozen_of_row W1 (w.heap.size + 1) 0 _ _ q1
    have mf1 := frozen_of_row W1 (w.heap.size + 1) 1 _ _ q1
    have mf2 := frozen_of_row W1 (w.heap.size + 1) 2 _ _ q1
    have mf3 := frozen_of_row W1 (w.heap.size + 1) 3 _ _ q1
    have mf4 := frozen_of_row W1 (w.heap.size + 1) 4 _ _ q1
    clear h1 h2 h3
    go_wp2_with go_in
    refine bodyPost_ret (resWrite (set5 q1 _ _ _ _ _) _ rfl) rfl ⟨dv A1 A2 A3 R.sure.length R.now.length R.fresh.length c1 c2 c3 (stepS R.steps R.left) (stepL R.left), ?_, ?_, ?_⟩
    · rfl
    · rw [show stepS R.steps R.left = R.steps from if_pos H0.out, show stepL R.left = R.left from (if_pos H0.out).trans H0.out.symm]
      exact hh.below (below_put1 w W1 hW1 _ _ _ _ _)
    · exact below_put1 w W1 hW1 _ _ _ _ _
  · rw [decide_eq_false h0] at HST
    rw [if_neg h0, if_neg h0]
    have H0 := Lib.hid h0
    clear h0
    go_enter Try.func17, Try.ntmps17
    go_upto_region 4 with (first
      | (go_at_call 45; (with_reducible refine (HST.out _).mono ?_); rintro e w1 ⟨rfl, hb1⟩; rw [HW2.out.2.1] at hb1; have d0 := (hb1.block w.heap.size (by omega)).trans HW2.out.2.2.1; have d1 := (hb1.block (w.heap.size + 1) (by omega)).trans HW2.out.2.2.2; have e0 := cell_of_row w1 (w.heap.size) 0 _ _ _ d0; have e1 := cell_of_row w1 (w.heap.size) 1 _ _ _ d0; have e2 := cell_of_row w1 (w.heap.size) 2 _ _ _ d0; have e3 := cell_of_row w1 (w.heap.size) 3 _ _ _ d0; have e4 := cell_of_row w1 (w.heap.size) 4 _ _ _ d0; have ef0 := frozen_of_row w1 (w.heap.size) 0 _ _ d0; have ef1 := frozen_of_row w1 (w.heap.size) 1 _ _ d0; have ef2 := frozen_of_row w1 (w.heap.size) 2 _ _ d0; have ef3 := frozen_of_row w1 (w.heap.size) 3 _ _ d0; have ef4 := frozen_of_row w1 (w.heap.size) 4 _ _ d0)
      | go_in)
    have hW1 : Below w.heap.size w (((((w1.setCell ⟨w.heap.size, 0, none⟩ (.slice A1 R.sure.length c1)).setCell ⟨w.heap.size, 1, none⟩ (.slice A2 R.now.length c2)).setCell ⟨w.heap.size, 2, none⟩ (.slice A3 R.fresh.length c3)).setCell ⟨w.heap.size, 3, none⟩ (.int .i64 (stepS R.steps R.left))).setCell ⟨w.heap.size, 4, none⟩ (.int .i64 (stepL R.left))) := below_put w w1 (HW2.out.1.trans (lower' hb1 (by omega))) _ _ _ _ _
    have hs1 : w.heap.size + 1 < (((((w1.setCell ⟨w.heap.size, 0, none⟩ (.slice A1 R.sure.length c1)).setCell ⟨w.heap.size, 1, none⟩ (.slice A2 R.now.length c2)).setCell ⟨w.heap.size, 2, none⟩ (.slice A3 R.fresh.length c3)).setCell ⟨w.heap.size, 3, none⟩ (.int .i64 (stepS R.steps R.left))).setCell ⟨w.heap.size, 4, none⟩ (.int .i64 (stepL R.left))).heap.size := by have := hb1.size; have := HW2.out.2.1; simp [World.setCell]; omega
    have q0 := set5 d0 (.slice A1 R.sure.length c1) (.slice A2 R.now.length c2) (.slice A3 R.fresh.length c3) (.int .i64 (stepS R.steps R.left)) (.int .i64 (stepL R.left))
    have q1 := (other_put w1 w.heap.size (w.heap.size + 1) (by omega) (.slice A1 R.sure.length c1) (.slice A2 R.now.length c2) (.slice A3 R.fresh.length c3) (.int .i64 (stepS R.steps R.left)) (.int .i64 (stepL R.left))).trans d1
    clear d0 d1 hb1 e0 ef0 e1 ef1 e2 ef2 e3 ef3 e4 ef4
    generalize (((((w1.setCell ⟨w.heap.size, 0, none⟩ (.slice A1 R.sure.length c1)).setCell ⟨w.heap.size, 1, none⟩ (.slice A2 R.now.length c2)).setCell ⟨w.heap.size, 2, none⟩ (.slice A3 R.fresh.length c3)).setCell ⟨w.heap.size, 3, none⟩ (.int .i64 (stepS R.steps R.left))).setCell ⟨w.heap.size, 4, none⟩ (.int .i64 (stepL R.left))) = W1 at hW1 hs1 q0 q1 ⊢
    have e0 := cell_of_row W1 (w.heap.size) 0 _ _ _ q0
    have e1 := cell_of_row W1 (w.heap.size) 1 _ _ _ q0
    have e2 := cell_of_row W1 (w.heap.size) 2 _ _ _ q0
    have e3 := cell_of_row W1 (w.heap.size) 3 _ _ _ q0
    have e4 := cell_of_row W1 (w.heap.size) 4 _ _ _ q0
    have ef0 := frozen_of_row W1 (w.heap.size) 0 _ _ q0
    have ef1 := frozen_of_row W1 (w.heap.size) 1 _ _ q0
    have ef2 := frozen_of_row W1 (w.heap.size) 2 _ _ q0
    have ef3 := frozen_of_row W1 (w.heap.size) 3 _ _ q0
    have ef4 := frozen_of_row W1 (w.heap.size) 4 _ _ q0
    have m0 := cell_of_row W1 (w.heap.size + 1) 0 _ _ _ q1
    have m1 := cell_of_row W1 (w.heap.size + 1) 1 _ _ _ q1
    have m2 := cell_of_row W1 (w.heap.size + 1) 2 _ _ _ q1
    have m3 := cell_of_row W1 (w.heap.size + 1) 3 _ _ _ q1
    have m4 := cell_of_row W1 (w.heap.size + 1) 4 _ _ _ q1
    have mf0 := frozen_of_row W1 (w.heap.size + 1) 0 _ _ q1
    have mf1 := frozen_of_row W1 (w.heap.size + 1) 1 _ _ q1
    have mf2 := frozen_of_row W1 (w.heap.size + 1) 2 _ _ q1
    have mf3 := frozen_of_row W1 (w.heap.size + 1) 3 _ _ q1
    have mf4 := frozen_of_row W1 (w.heap.size + 1) 4 _ _ q1
    have hS2 := h2.below hW1
    obtain ⟨s0, hs, hsz0, hsz1, hsz2⟩ := info_parts infoStr
    obtain ⟨b0, hb, hbz0, hbz1, hbz2⟩ := info_parts infoBool
    clear e0 e1 e2 e3 e4 ef0 ef1 ef2 ef3 ef4 m0 m1 m2 m3 m4 mf0 mf1 mf2 mf3 mf4
    have tok1 : True := trivial
    have HX := Lib.hid hX
    have HW1 := Lib.hid (And.intro hW1 (And.intro hs1 (And.intro q0 (And.intro q1 hS2))))
    have HH := Lib.hid (And.intro h1 h3)
    clear hW1 q0 q1 hS2 h1 h2 h3 hh hX
    have qa := (Below.heap_alloc W1 (.cells #[] 9) w.heap.size (by omega)).trans HW1.out.2.2.1
    have a0 := cell_of_row (W1.alloc (.cells #[] 9)) (w.heap.size) 0 _ _ _ qa
    have a1 := cell_of_row (W1.alloc (.cells #[] 9)) (w.heap.size) 1 _ _ _ qa
    have a2 := cell_of_row (W1.alloc (.cells #[] 9)) (w.heap.size) 2 _ _ _ qa
    have a3 := cell_of_row (W1.alloc (.cells #[] 9)) (w.heap.size) 3 _ _ _ qa
    have a4 := cell_of_row (W1.alloc (.cells #[] 9)) (w.heap.size) 4 _ _ _ qa
    have af0 := frozen_of_row (W1.alloc (.cells #[] 9)) (w.heap.size) 0 _ _ qa
    have af1 := frozen_of_row (W1.alloc (.cells #[] 9)) (w.heap.size) 1 _ _ qa
    have af2 := frozen_of_row (W1.alloc (.cells #[] 9)) (w.heap.size) 2 _ _ qa
    have af3 := frozen_of_row (W1.alloc (.cells #[] 9)) (w.heap.size) 3 _ _ qa
    have af4 := frozen_of_row (W1.alloc (.cells #[] 9)) (w.heap.size) 4 _ _ qa
    clear qa
    go_wp2_with (first
      | (at_builtin; have _t := tok1; go_loud (refine wpList_appR _ rfl (.tmp 32) (.tmp 34) _ rfl W1.heap.size 9 s0 _ 1 16 Try.underlying30 hs hsz0 hsz1 hsz2 rfl (by omega) (.slice (some ⟨W1.heap.size, 0, none⟩) 0 0) 0 [] rfl (own_lit0 W1 (Nat.le_refl _)) (W1.heap.size + 1) A2 R.now.length c2 (strs R.now) rfl (by simp) ((HW1.out.2.2.2.2.below ((Below.refl _ _).alloc (Nat.le_refl _) _)).1.more (by simp)) (strs_one _) (by have := HK.out.fresh; have := HK.out.n; omega) (by omega) (by simp) ?_; intro v2 w2 hown2 hg2 hat2; rw [Nat.zero_add, List.nil_append] at hown2; have hB2 := append0_below hg2; clear hg2 hat2; have s2 := hB2.size; obtain ⟨g2, cv2, rfl, hg21, hg22, hvc2, hvm2⟩ := own_form hown2 HI.out.1; have p0 := (hB2.block w.heap.size (by omega)).trans HW1.out.2.2.1; have p1 := (hB2.block (w.heap.size + 1) (by omega)).trans HW1.out.2.2.2.1; have k1 := cell_of_row w2 (w.heap.size) 1 _ _ _ p0; have kf1 := frozen_of_row w2 (w.heap.size) 1 _ _ p0; have r0 := (Below.heap_alloc (w2.setCell ⟨w.heap.size, 1, none⟩ (.slice (some ⟨g2, 0, none⟩) R.now.length cv2)) (.cells #[] 4) w.heap.size (by simp [World.setCell]; omega)).trans (heap_setCell_same w2 w.heap.size 1 _ _ (.slice (some ⟨g2, 0, none⟩) R.now.length cv2) p0); have j2 := cell_of_row ((w2.setCell ⟨w.heap.size, 1, none⟩ (.slice (some ⟨g2, 0, none⟩) R.now.length cv2)).alloc (.cells #[] 4)) (w.heap.size) 2 _ _ _ r0; have bUA : Below w.heap.size w ((w2.setCell ⟨w.heap.size, 1, none⟩ (.slice (some ⟨g2, 0, none⟩) R.now.length cv2)).alloc (.cells #[] 4)) := ((HW1.out.1.trans (lower' hB2 (by omega))).setCell (by simp) _).alloc (by simp [World.setCell]; omega) _; have hrF := (HH.out.2.below bUA).1; have su2 : (w2.setCell ⟨w.heap.size, 1, none⟩ (.slice (some ⟨g2, 0, none⟩) R.now.length cv2)).heap.size = w2.heap.size := (by simp [World.setCell]); have ol := own_lit0' (e := 4) (size := 1) (w2.setCell ⟨w.heap.size, 1, none⟩ (.slice (some ⟨g2, 0, none⟩) R.now.length cv2)) su2; clear tok1 _t))
      | (at_builtin; go_loud (refine wpList_appR _ rfl (.tmp 37) (.tmp 39) _ rfl w2.heap.size 4 b0 _ 1 1 Try.underlying31 hb hbz0 hbz1 hbz2 rfl (by omega) (.slice (some ⟨w2.heap.size, 0, none⟩) 0 0) 0 [] rfl ol ((w2.setCell ⟨w.heap.size, 1, none⟩ (.slice (some ⟨g2, 0, none⟩) R.now.length cv2)).alloc (.cells #[] 4)).heap.size A3 R.fresh.length c3 (bools R.fresh) rfl (by simp) hrF (bools_one _) (by have := HK.out.fresh; have := HK.out.n; omega) (by omega) (by simp) ?_; intro v3 w3 hown3 hg3 hat3; rw [Nat.zero_add, List.nil_append] at hown3; have hB3 := append0_below' su2 hg3; clear hg3 hat3; have s3 := hB3.size; rw [su2] at s3; obtain ⟨g3, cv3, rfl, hg31, hg32, hvc3, hvm3⟩ := own_form hown3 HI.out.2; have t0 := (hB3.block w.heap.size (by omega)).trans (heap_setCell_same w2 w.heap.size 1 _ _ (.slice (some ⟨g2, 0, none⟩) R.now.length cv2) p0); have t1 := (hB3.block (w.heap.size + 1) (by omega)).trans ((Below.heap_setCell w2 ⟨w.heap.size, 1, none⟩ (.slice (some ⟨g2, 0, none⟩) R.now.length cv2) (w.heap.size + 1) (by simp)).trans p1); have x2 := cell_of_row w3 (w.heap.size) 2 _ _ _ t0; have xf2 := frozen_of_row w3 (w.heap.size) 2 _ _ t0; have u0 := heap_setCell_same w3 w.heap.size 2 _ _ (.slice (some ⟨g3, 0, none⟩) R.fresh.length cv3) t0; have u1 := (Below.heap_setCell w3 ⟨w.heap.size, 2, none⟩ (.slice (some ⟨g3, 0, none⟩) R.fresh.length cv3) (w.heap.size + 1) (by simp)).trans t1; have y1 := cell_of_row (w3.setCell ⟨w.heap.size, 2, none⟩ (.slice (some ⟨g3, 0, none⟩) R.fresh.length cv3)) (w.heap.size) 1 _ _ _ u0; have o2 := own_keptBy (own_below (own_keptBy hown2 (grown_set w2 w.heap.size 1 (.slice (some ⟨g2, 0, none⟩) R.now.length cv2)) (by omega)) hB3 (by omega)) (grown_set w3 w.heap.size 2 (.slice (some ⟨g3, 0, none⟩) R.fresh.length cv3)) (by omega); have o3 := own_keptBy hown3 (grown_set w3 w.heap.size 2 (.slice (some ⟨g3, 0, none⟩) R.fresh.length cv3)) (by omega); have z2 := World.ownsRow.cellAt o2 i (by have := HI2.out; omega); have zf2 := World.ownsRow.frozenAt o2 i; rw [strs_get R.now i (by have := HI2.out; omega)] at z2; have o2' := (World.ownsRow.stored o2 i (.string ⟨l.toArray⟩)).1; have o3' := own_keptBy o3 (World.ownsRow.stored o2 i (.string ⟨l.toArray⟩)).2 (by omega); have u0' := (Below.heap_setCell (w3.setCell ⟨w.heap.size, 2, none⟩ (.slice (some ⟨g3, 0, none⟩) R.fresh.length cv3)) ⟨g2, i, none⟩ (.string ⟨l.toArray⟩) w.heap.size (by show w.heap.size ≠ g2; omega)).trans u0; have u1' := (Below.heap_setCell (w3.setCell ⟨w.heap.size, 2, none⟩ (.slice (some ⟨g3, 0, none⟩) R.fresh.length cv3)) ⟨g2, i, none⟩ (.string ⟨l.toArray⟩) (w.heap.size + 1) (by show w.heap.size + 1 ≠ g2; omega)).trans u1; have n2 := cell_of_row ((w3.setCell ⟨w.heap.size, 2, none⟩ (.slice (some ⟨g3, 0, none⟩) R.fresh.length cv3)).setCell ⟨g2, i, none⟩ (.string ⟨l.toArray⟩)) (w.heap.size) 2 _ _ _ u0'; have z3 := World.ownsRow.cellAt o3' i (by have := HI2.out; have := HK.out.fresh; omega); have zf3 := World.ownsRow.frozenAt o3' i; rw [bools_get R.fresh i (by have := HI2.out; have := HK.out.fresh; omega)] at z3; have o3'' := (World.ownsRow.stored o3' i (.bool true)).1; have o2'' := World.ownsRow.kept o2' (World.ownsRow.stored o3' i (.bool true)).2 (.inr (by simp [Value.ownBlock]; omega)); have u0'' := (Below.heap_setCell ((w3.setCell ⟨w.heap.size, 2, none⟩ (.slice (some ⟨g3, 0, none⟩) R.fresh.length cv3)).setCell ⟨g2, i, none⟩ (.string ⟨l.toArray⟩)) ⟨g3, i, none⟩ (.bool true) w.heap.size (by show w.heap.size ≠ g3; omega)).trans u0'; have u1'' := (Below.heap_setCell ((w3.setCell ⟨w.heap.size, 2, none⟩ (.slice (some ⟨g3, 0, none⟩) R.fresh.length cv3)).setCell ⟨g2, i, none⟩ (.string ⟨l.toArray⟩)) ⟨g3, i, none⟩ (.bool true) (w.heap.size + 1) (by show w.heap.size + 1 ≠ g3; omega)).trans u1'; have cc0 := cell_of_row (((w3.setCell ⟨w.heap.size, 2, none⟩ (.slice (some ⟨g3, 0, none⟩) R.fresh.length cv3)).setCell ⟨g2, i, none⟩ (.string ⟨l.toArray⟩)).setCell ⟨g3, i, none⟩ (.bool true)) (w.heap.size) 0 _ _ _ u0''; have cc1 := cell_of_row (((w3.setCell ⟨w.heap.size, 2, none⟩ (.slice (some ⟨g3, 0, none⟩) R.fresh.length cv3)).setCell ⟨g2, i, none⟩ (.string ⟨l.toArray⟩)).setCell ⟨g3, i, none⟩ (.bool true)) (w.heap.size) 1 _ _ _ u0''; have cc2 := cell_of_row (((w3.setCell ⟨w.heap.size, 2, none⟩ (.slice (some ⟨g3, 0, none⟩) R.fresh.length cv3)).setCell ⟨g2, i, none⟩ (.string ⟨l.toArray⟩)).setCell ⟨g3, i, none⟩ (.bool true)) (w.heap.size) 2 _ _ _ u0''; have cc3 := cell_of_row (((w3.setCell ⟨w.heap.size, 2, none⟩ (.slice (some ⟨g3, 0, none⟩) R.fresh.length cv3)).setCell ⟨g2, i, none⟩ (.string ⟨l.toArray⟩)).setCell ⟨g3, i, none⟩ (.bool true)) (w.heap.size) 3 _ _ _ u0''; have cc4 := cell_of_row (((w3.setCell ⟨w.heap.size, 2, none⟩ (.slice (some ⟨g3, 0, none⟩) R.fresh.length cv3)).setCell ⟨g2, i, none⟩ (.string ⟨l.toArray⟩)).setCell ⟨g3, i, none⟩ (.bool true)) (w.heap.size) 4 _ _ _ u0''; have cm0 := cell_of_row (((w3.setCell ⟨w.heap.size, 2, none⟩ (.slice (some ⟨g3, 0, none⟩) R.fresh.length cv3)).setCell ⟨g2, i, none⟩ (.string ⟨l.toArray⟩)).setCell ⟨g3, i, none⟩ (.bool true)) (w.heap.size + 1) 0 _ _ _ u1''; have cm1 := cell_of_row (((w3.setCell ⟨w.heap.size, 2, none⟩ (.slice (some ⟨g3, 0, none⟩) R.fresh.length cv3)).setCell ⟨g2, i, none⟩ (.string ⟨l.toArray⟩)).setCell ⟨g3, i, none⟩ (.bool true)) (w.heap.size + 1) 1 _ _ _ u1''; have cm2 := cell_of_row (((w3.setCell ⟨w.heap.size, 2, none⟩ (.slice (some ⟨g3, 0, none⟩) R.fresh.length cv3)).setCell ⟨g2, i, none⟩ (.string ⟨l.toArray⟩)).setCell ⟨g3, i, none⟩ (.bool true)) (w.heap.size + 1) 2 _ _ _ u1''; have cm3 := cell_of_row (((w3.setCell ⟨w.heap.size, 2, none⟩ (.slice (some ⟨g3, 0, none⟩) R.fresh.length cv3)).setCell ⟨g2, i, none⟩ (.string ⟨l.toArray⟩)).setCell ⟨g3, i, none⟩ (.bool true)) (w.heap.size + 1) 3 _ _ _ u1''; have cm4 := cell_of_row (((w3.setCell ⟨w.heap.size, 2, none⟩ (.slice (some ⟨g3, 0, none⟩) R.fresh.length cv3)).setCell ⟨g2, i, none⟩ (.string ⟨l.toArray⟩)).setCell ⟨g3, i, none⟩ (.bool true)) (w.heap.size + 1) 4 _ _ _ u1''; have cmf0 := frozen_of_row (((w3.setCell ⟨w.heap.size, 2, none⟩ (.slice (some ⟨g3, 0, none⟩) R.fresh.length cv3)).setCell ⟨g2, i, none⟩ (.string ⟨l.toArray⟩)).setCell ⟨g3, i, none⟩ (.bool true)) (w.heap.size + 1) 0 _ _ u1''; have cmf1 := frozen_of_row (((w3.setCell ⟨w.heap.size, 2, none⟩ (.slice (some ⟨g3, 0, none⟩) R.fresh.length cv3)).setCell ⟨g2, i, none⟩ (.string ⟨l.toArray⟩)).setCell ⟨g3, i, none⟩ (.bool true)) (w.heap.size + 1) 1 _ _ u1''; have cmf2 := frozen_of_row (((w3.setCell ⟨w.heap.size, 2, none⟩ (.slice (some ⟨g3, 0, none⟩) R.fresh.length cv3)).setCell ⟨g2, i, none⟩ (.string ⟨l.toArray⟩)).setCell ⟨g3, i, none⟩ (.bool true)) (w.heap.size + 1) 2 _ _ u1''; have cmf3 := frozen_of_row (((w3.setCell ⟨w.heap.size, 2, none⟩ (.slice (some ⟨g3, 0, none⟩) R.fresh.length cv3)).setCell ⟨g2, i, none⟩ (.string ⟨l.toArray⟩)).setCell ⟨g3, i, none⟩ (.bool true)) (w.heap.size + 1) 3 _ _ u1''; have cmf4 := frozen_of_row (((w3.setCell ⟨w.heap.size, 2, none⟩ (.slice (some ⟨g3, 0, none⟩) R.fresh.length cv3)).setCell ⟨g2, i, none⟩ (.string ⟨l.toArray⟩)).setCell ⟨g3, i, none⟩ (.bool true)) (w.heap.size + 1) 4 _ _ u1''))
      | go_in)
    have fF : Fr (((w3.setCell ⟨w.heap.size, 2, none⟩ (.slice (some ⟨g3, 0, none⟩) R.fresh.length cv3)).setCell ⟨g2, i, none⟩ (.string ⟨l.toArray⟩)).setCell ⟨g3, i, none⟩ (.bool true)) ((((((((w3.setCell ⟨w.heap.size, 2, none⟩ (.slice (some ⟨g3, 0, none⟩) R.fresh.length cv3)).setCell ⟨g2, i, none⟩ (.string ⟨l.toArray⟩)).setCell ⟨g3, i, none⟩ (.bool true)).setCell ⟨w.heap.size + 1, 0, none⟩ (.slice A1 R.sure.length c1)).setCell ⟨w.heap.size + 1, 1, none⟩ (.slice (some ⟨g2, 0, none⟩) R.now.length cv2)).setCell ⟨w.heap.size + 1, 2, none⟩ (.slice (some ⟨g3, 0, none⟩) R.fresh.length cv3)).setCell ⟨w.heap.size + 1, 3, none⟩ (.int .i64 (stepS R.steps R.left))).setCell ⟨w.heap.size + 1, 4, none⟩ (.int .i64 (stepL R.left))) [w.heap.size + 1] := (((((Fr.refl _ _).setCell (by simp) _).setCell (by simp) _).setCell (by simp) _).setCell (by simp) _).setCell (by simp) _
    have b5 : Below w.heap.size w (((w3.setCell ⟨w.heap.size, 2, none⟩ (.slice (some ⟨g3, 0, none⟩) R.fresh.length cv3)).setCell ⟨g2, i, none⟩ (.string ⟨l.toArray⟩)).setCell ⟨g3, i, none⟩ (.bool true)) := ((((HW1.out.1.trans (lower' hB2 (by omega))).setCell (by simp) _).trans (lower' hB3 (by omega))).setCell (by simp) _ |>.setCell (by show w.heap.size ≤ g2; omega) _).setCell (by show w.heap.size ≤ g3; omega) _
    have hBf : Below w.heap.size w ((((((((w3.setCell ⟨w.heap.size, 2, none⟩ (.slice (some ⟨g3, 0, none⟩) R.fresh.length cv3)).setCell ⟨g2, i, none⟩ (.string ⟨l.toArray⟩)).setCell ⟨g3, i, none⟩ (.bool true)).setCell ⟨w.heap.size + 1, 0, none⟩ (.slice A1 R.sure.length c1)).setCell ⟨w.heap.size + 1, 1, none⟩ (.slice (some ⟨g2, 0, none⟩) R.now.length cv2)).setCell ⟨w.heap.size + 1, 2, none⟩ (.slice (some ⟨g3, 0, none⟩) R.fresh.length cv3)).setCell ⟨w.heap.size + 1, 3, none⟩ (.int .i64 (stepS R.steps R.left))).setCell ⟨w.heap.size + 1, 4, none⟩ (.int .i64 (stepL R.left))) := b5.trans (fF.below (by have := b5.size; omega) (by simp))
    obtain ⟨Ax, cx, ex, _, _, sx⟩ := own_sl o2'' (X := (w.heap.size + 1) :: w.heap.size :: X) (ext_X HX.out (by omega))
    obtain ⟨Ay, cy, ey, _, _, sy⟩ := own_sl o3'' (X := (w.heap.size + 1) :: w.heap.size :: X) (ext_X HX.out (by omega))
    cases ex
    cases ey
    refine bodyPost_ret (resWrite (set5 u1'' _ _ _ _ _) _ rfl) rfl ⟨dv A1 (some ⟨g2, 0, none⟩) (some ⟨g3, 0, none⟩) R.sure.length R.now.length R.fresh.length c1 cv2 cv3 (stepS R.steps R.left) (stepL R.left), ?_, ?_, hBf⟩
    · rfl
    · refine ⟨A1, some ⟨g2, 0, none⟩, some ⟨g3, 0, none⟩, c1, cv2, cv3, by simp [dv], HH.out.1.below hBf, ?_, ?_⟩
      · rw [strs_set]; exact (sx.fr fF (by simp)).sub (fun y hy => by simp [hy])
      · rw [bools_set]; exact (sy.fr fF (by simp)).sub (fun y hy => by simp [hy])
theorem rwrite_any (w : World) (X : List Nat) (R : RD) (v : Value) (h : RefV w X R v) (hk : R.Ok) (hX : ∀ x ∈ X, x < w.heap.size) (i : Int) (l : List UInt8) :
    Calls Try.prog 17 #[v, .int .i64 i, .string ⟨l.toArray⟩] w fun e w' => ∃ v', e = .returned (.tuple #[v', .int .i64 (R.writeE i l)]) ∧ RefV w' X (R.writeM i l) v' ∧ Below w.heap.size w w' := by
  by_cases hb : R.writeBad i l
  · have e1 : R.writeE i l = 1 := if_pos hb
    have e2 : R.writeM i l = R := if_pos hb
    rw [e1, e2]
    exact rwrite_bad w X R v h i l hb
  · have hi : 0 ≤ i ∧ i < R.now.length := Classical.not_not.1 fun h => hb (.inl h)
    have hl : l.length = 64 := Classical.not_not.1 fun h => hb (.inr h)
    obtain ⟨k, rfl⟩ : ∃ k : Nat, i = k := ⟨i.toNat, by omega⟩
    have e1 : R.writeE (k : Int) l = if R.left = 0 then 30 else 0 := if_neg hb
    have e2 : R.writeM (k : Int) l = if R.left = 0 then R else ⟨R.sure, R.now.set k l, R.fresh.set k true, stepS R.steps R.left, stepL R.left⟩ := if_neg hb
    rw [e1, e2]
    exact rwrite_good w X R v h hk hX k l (by omega) hl
end Go.Proofs.Ytajakmfloeefpaa
