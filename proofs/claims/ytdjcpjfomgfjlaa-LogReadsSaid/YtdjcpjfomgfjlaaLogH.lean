/- data, heads, others. -/
import Derived.Test.YtdjcpjfomgfjlaaLogG
import Derived.Test.YtdjcpjfomgfjlaaLogD
namespace Go.Proofs.Ytdjcpjfomgfjlaa
open Go.RowKit Go.Maps

/-- A slice of the call's own, read. -/
def Own (w w' : World) (l : List UInt8) (e : Ending) : Prop :=
  ∃ A c, e = .returned (.slice A l.length c) ∧ (∀ a, A = some a → w.heap.size ≤ a.block ∧ ∃ cs, w'.heap[a.block]? = some (.cells cs 5 (0, 0))) ∧ Rd w' w'.heap.size A (u8s l) ∧ l.length ≤ c ∧ c ≤ maxLen ∧ Below w.heap.size w w'
theorem own_typed {w : World} {base size n c : Nat} {e : TypeId} {A : Option Addr} {xs : List Value} (h : w.ownsRow base e size (.slice A n c) n xs) : ∀ a, A = some a → ∃ cs, w.heap[a.block]? = some (.cells cs e (0, 0)) := by
  intro a ha
  rcases h.2 with ⟨hv, _⟩ | ⟨g, cap, cur, hv, _, hgg, _⟩
  · cases hv; cases ha
  · cases hv; cases ha
    exact ⟨_, hgg⟩
theorem cat_take_len (M : DM) (a n : Nat) (h : ∀ i, i < secs n → (M.get (a + i)).length = 64) : ((cat M.get a (secs n)).take n).length = n := by
  rw [List.length_take, cat_len h]
  unfold secs
  omega

set_option maxRecDepth 100000 in
set_option maxHeartbeats 2000000 in
theorem data_any {w : World} {base q p bs bw T : Nat} {L : LG} {v : Value} {M : DM} (h : LogAt w base q p L v) (hD : DiskM w p bs bw M T) (hz : M.size ≤ 4096) (n : Nat) (hn : n ≤ 4000) (hfit : L.endd + secs n < M.size) :
    Calls Try.prog 71 #[.pointer (some ⟨q, 0, none⟩), .int .i64 (n : Int)] w fun e w' => Own w w' ((cat M.get (L.endd + 1) (secs n)).take n) e := by
  obtain ⟨i0, hi, hz0, hz1, hz2⟩ := info_parts infoU8
  have hsec := secs_any n w (by omega)
  have hss : secs n ≤ 63 := by unfold secs; omega
  have hfull := hD.full
  have HS := Lib.hid hsec
  have hlen : ∀ k, k ≤ secs n → (cat M.get (L.endd + 1) k).length = 64 * k := fun k hk => cat_len (fun i hi => (hfull _ (by omega)).2)
  have HL := Lib.hid hlen
  have HH := Lib.hid (And.intro h (And.intro hD (And.intro hz (And.intro hn (And.intro hfit hss)))))
  have hsI : (secs n : Int) ≤ 63 := by omega
  have hnI : (n : Int) ≤ 4000 := by omega
  clear hsec hlen h hD hz hfit hfull hn hss
  go_enter Try.func71, Try.ntmps71
  go_upto_region 3 with (first
    | (go_at_call 70; (with_reducible refine HS.out.mono ?_); rintro e w1 ⟨rfl, rfl⟩)
    | go_in)
  go_wp2_with go_in
  go_loopw [5, 6, 9] (fun u _ i wr => ∃ k : Nat, k ≤ secs n ∧ i = .int .i64 (k : Int) ∧ OwnB wr w.heap.size 5 u (cat M.get (L.endd + 1) k) ∧ Below w.heap.size w wr)
    (fun _ _ i _ => secs n - (intOf i).toNat)
  case atStart => exact ⟨0, by omega, rfl, OwnB.nil _ _ _, Below.refl _ _⟩
  case round =>
    obtain ⟨k, hk, rfl, ho, hb⟩ := hrel
    by_cases hkl : k < secs n
    · have hkI : (k : Int) < (secs n : Int) := by omega
      have hblk := ((HH.out.1.kept hb).blk)
      unfold LG.cells at hblk
      have a3 := cell_of_row wr q 3 _ _ _ hblk
      have hsc := sector_any (HH.out.1.kept hb) (HH.out.2.1.kept hb) HH.out.2.2.1 (i := L.endd + 1 + k) (by have := HH.out.2.2.2.2.1; omega)
      have hcast : (((L.endd + 1 + k : Nat)) : Int) = (L.endd : Int) + 1 + (k : Int) := by omega
      rw [hcast] at hsc
      have hend : (L.endd : Int) ≤ 4096 := by have := HH.out.2.2.2.2.1; have := HH.out.2.2.1; omega
      obtain ⟨Ao, co, rfl, _, _, _⟩ := ho.shape
      have HSC := Lib.hid hsc
      have HX := Lib.hid (And.intro ho (And.intro hb hkl))
      have HSZ := Lib.hid hb.size
      clear hsc hcast hblk ho hb hkl
      go_wp2_with (first
        | (go_at_call 69; (with_reducible refine HSC.out.mono ?_); rintro e w2 ⟨g2, rfl, hg1, hg2, hr2, hl2, hb2⟩)
        | (at_builtin; refine wpList_appB _ rfl (.tmp 12) (.tmp 21) _ rfl w.heap.size 5 i0 _ Try.underlying45 hi hz0 hz1 hz2 rfl (.slice Ao (cat M.get (L.endd + 1) k).length co) (cat M.get (L.endd + 1) k) rfl (HX.out.1.below hb2 (Nat.le_refl _)) _ (some ⟨g2, 0, none⟩) 64 64 (M.get (L.endd + 1 + k)) rfl hl2.symm hr2 (by have := HL.out k (by omega); omega) (by have := HSZ.out; have := hb2.size; omega) ?_; intro v3 w3 hown3 hg3 hat3)
        | go_in)
      have hsz2 := hb2.size
      have hown2 := HX.out.1.below hb2 (Nat.le_refl _)
      have hb3 : Below w.heap.size w w3 := (HX.out.2.1.trans (lower' hb2 HSZ.out)).trans (grown_below' hg3 (fun j hj => (World.ownsRow.lt (by have h := hown2; unfold OwnB at h; exact h) j hj).1) (by have := HSZ.out; omega))
      exact ⟨⟨k + 1, HX.out.2.2, by simp, by rw [cat_succ]; exact hown3, hb3⟩, by simp [intOf]; have := HX.out.2.2; omega⟩
    · obtain rfl : k = secs n := by omega
      obtain ⟨Ao, co, rfl, hc1, hc2, hr2⟩ := ho.shape
      have hl := HL.out (secs n) (Nat.le_refl _)
      have hq : n ≤ 64 * secs n := by unfold secs; omega
      have hnl : (n : Int) ≤ (co : Int) := by omega
      have HX := Lib.hid (And.intro ho (And.intro hb (And.intro hc1 (And.intro hc2 (And.intro hr2 hl)))))
      have HQ := Lib.hid hq
      clear ho hb hc1 hc2 hr2 hl hk hq
      go_wp2_with go_in
      go_ret
      have hx := HX.out
      have hq := HQ.out
      have htl : ((cat M.get (L.endd + 1) (secs n)).take n).length = n := by rw [List.length_take, hx.2.2.2.2.2]; omega
      refine ⟨Ao, co, by rw [htl]; rfl, fun a ha => ⟨hx.2.2.2.2.1.2 a ha, own_typed (by have h := hx.1; unfold OwnB at h; exact h) a ha⟩, ?_, by rw [htl]; omega, hx.2.2.2.1, hx.2.1⟩
      rw [u8s_take]
      exact hx.2.2.2.2.1.1.take _

/-- The k-th place. -/
theorem plc_get (r : List Rec) : ∀ (a i : Nat) (h : i < r.length), ∃ x : Nat, (heads a r)[i]? = some x ∧ (plc a r)[i * 2]? = some (.int .i64 (x : Int)) ∧ (plc a r)[i * 2 + 1]? = some (.int .i64 (secs (r[i].2).length : Int)) := by
  induction r with
  | nil => intro a i h; exact absurd h (by simp)
  | cons y r ih =>
    obtain ⟨s, d⟩ := y
    intro a i h
    cases i with
    | zero => exact ⟨a, rfl, rfl, rfl⟩
    | succ i =>
      obtain ⟨x, h1, h2, h3⟩ := ih (a + 1 + secs d.length) i (by simpa using h)
      refine ⟨x, by simpa [heads] using h1, ?_, ?_⟩
      · rw [show (i + 1) * 2 = i * 2 + 2 by omega]; simpa [plc] using h2
      · rw [show (i + 1) * 2 + 1 = i * 2 + 1 + 2 by omega]; simpa [plc] using h3
theorem heads_take (r : List Rec) (a k x : Nat) (h : (heads a r)[k]? = some x) : (heads a r).take (k + 1) = (heads a r).take k ++ [x] := by
  obtain ⟨hk, e⟩ := List.getElem?_eq_some_iff.1 h
  rw [List.take_succ_eq_append_getElem hk, e]
theorem rd_two (wr : World) (x m : Nat) : Rd ((wr.alloc (.cells #[.int .i64 (x : Int), .int .i64 (m : Int)] 134)).alloc (.cells #[.int .i64 (x : Int)] 3)) (wr.heap.size + 2) (some ⟨wr.heap.size + 1, 0, none⟩) [.int .i64 (x : Int)] := by
  have := Rd.new (wr.alloc (.cells #[.int .i64 (x : Int), .int .i64 (m : Int)] 134)) #[.int .i64 (x : Int)] 3 (0, 0)
  rw [alloc1_size] at this
  exact this
set_option maxRecDepth 100000 in
set_option maxHeartbeats 2000000 in
theorem heads_any {w : World} {base q p : Nat} {L : LG} {v : Value} (h : LogAt w base q p L v) (hlen : L.recs.length ≤ 4096) :
    Calls Try.prog 49 #[.pointer (some ⟨q, 0, none⟩)] w fun e w' => ∃ v', e = .returned v' ∧ w'.ownsRow w.heap.size 3 1 v' (heads L.first L.recs).length (ints (heads L.first L.recs)) ∧ Below w.heap.size w w' := by
  obtain ⟨i0, hi, hz0, hz1, hz2⟩ := info_parts infoInt
  have hblk := h.blk
  unfold LG.cells at hblk
  have a5 := cell_of_row w q 5 _ _ _ hblk
  have hhl := heads_len L.first L.recs
  obtain ⟨Ap, cp, rfl, _, _, hrp⟩ := own_shape h.row
  have HH := Lib.hid (And.intro h (And.intro hlen (And.intro hhl hrp)))
  have hlI : (L.recs.length : Int) ≤ 4096 := by omega
  clear h hblk hlen hhl hrp
  go_enter Try.func49, Try.ntmps49
  go_wp2_with go_in
  go_loopw [3, 5, 11] (fun u _ i wr => ∃ k : Nat, k ≤ L.recs.length ∧ i = .int .i64 (k : Int) ∧ wr.ownsRow w.heap.size 3 1 u k (ints ((heads L.first L.recs).take k)) ∧ Below w.heap.size w wr)
    (fun _ _ i _ => L.recs.length - (intOf i).toNat)
  case atStart => exact ⟨0, by omega, rfl, by have := World.ownsRow_nil w w.heap.size 3 1; simpa [ints] using this, Below.refl _ _⟩
  case round =>
    obtain ⟨k, hk, rfl, ho, hb⟩ := hrel
    by_cases hkl : k < L.recs.length
    · have hkI : (k : Int) < (L.recs.length : Int) := by omega
      obtain ⟨x, e1, e2, e3⟩ := plc_get L.recs L.first k hkl
      obtain ⟨ab, ao, rfl, hab, hcc⟩ := HH.out.2.2.2 (by intro e; have := plc_len L.first L.recs; rw [e] at this; simp at this; omega)
      have p0 : wr.cell? ⟨ab, ao + k * 2, none⟩ = some (.int .i64 (x : Int)) := (hb.cell (p := ⟨ab, ao + k * 2, none⟩) hab).trans (hcc _ _ e2)
      have p1 : wr.cell? ⟨ab, ao + k * 2 + 1, none⟩ = some (.int .i64 (secs (L.recs[k].2).length : Int)) := (hb.cell (p := ⟨ab, ao + k * 2 + 1, none⟩) hab).trans (hcc _ _ e3)
      generalize secs (L.recs[k].2).length = m at p1
      have htk := heads_take L.recs L.first k x e1
      have HX := Lib.hid (And.intro ho (And.intro hb (And.intro hkl htk)))
      obtain ⟨Ao, co, rfl, _, _, _⟩ := own_shape ho
      have HSZ := Lib.hid hb.size
      clear ho hb e1 e2 e3 hcc htk hkl
      go_wp2_with (first
        | (at_builtin; refine wpList_appR _ rfl (.tmp 15) (.tmp 18) _ rfl w.heap.size 3 i0 _ 1 8 Try.underlying88 hi hz0 hz1 hz2 rfl (by omega) (.slice Ao k co) k (ints ((heads L.first L.recs).take k)) rfl (World.ownsRow.alloc (World.ownsRow.alloc HX.out.1 _) _) (wr.heap.size + 2) (some ⟨wr.heap.size + 1, 0, none⟩) 1 1 [.int .i64 (x : Int)] rfl rfl (rd_two wr x m) (by simp [Value.oneCell']) (by have := HX.out.2.2.1; have := HH.out.2.1; omega) (by omega) (by have := HSZ.out; simp; omega) ?_; intro v2 w2 hown2 hg2 hat2)
        | go_in)
      rw [ints_snoc, ← HX.out.2.2.2] at hown2
      have hb2 : Below w.heap.size w w2 := ((HX.out.2.1.alloc HSZ.out _).alloc (by have := HSZ.out; simp; omega) _).trans (grown_below' hg2 (fun j hj => (World.ownsRow.lt HX.out.1 j hj).1) (by have := HSZ.out; simp; omega))
      exact ⟨⟨k + 1, HX.out.2.2.1, by simp, hown2, hb2⟩, by simp [intOf]; have := HX.out.2.2.1; omega⟩
    · obtain rfl : k = L.recs.length := by omega
      have HX := Lib.hid (And.intro ho hb)
      clear ho hb
      go_wp2_with go_in
      go_ret
      refine ⟨_, rfl, ?_, HX.out.2⟩
      have h := HX.out.1
      rw [List.take_of_length_le (by rw [heads_len]; exact Nat.le_refl _)] at h
      rw [heads_len]
      exact h

/-- The other sectors of the first k records, and i of the next one. -/
def oth (a : Nat) (r : List Rec) (k i : Nat) : List Nat := others a (r.take k) ++ (List.range i).map fun j => endR a (r.take k) + 1 + j
theorem oth_snoc (a : Nat) (r : List Rec) (k i : Nat) : oth a r k (i + 1) = oth a r k i ++ [endR a (r.take k) + 1 + i] := by
  unfold oth
  rw [List.range_succ, List.map_append, ← List.append_assoc]
  rfl
theorem others_append (a : Nat) (r r' : List Rec) : others a (r ++ r') = others a r ++ others (endR a r) r' := by
  induction r generalizing a with
  | nil => rfl
  | cons x r ih => obtain ⟨s, d⟩ := x; simp only [List.cons_append, others, endR, ih, List.append_assoc]
theorem oth_next (a : Nat) (r : List Rec) (k : Nat) (h : k < r.length) : oth a r k (secs (r[k].2).length) = oth a r (k + 1) 0 := by
  unfold oth
  have e : r.take (k + 1) = r.take k ++ [r[k]] := List.take_succ_eq_append_getElem h
  rw [e, others_append]
  simp only [List.range_zero, List.map_nil, List.append_nil]
  congr 1
  obtain ⟨s, d⟩ := r[k]
  simp [others]
theorem oth_end (a : Nat) (r : List Rec) : oth a r r.length 0 = others a r := by
  unfold oth
  rw [List.take_length]
  simp
theorem heads_at (r : List Rec) : ∀ (a i : Nat) (h : i < r.length), (heads a r)[i]? = some (endR a (r.take i)) := by
  induction r with
  | nil => intro a i h; exact absurd h (by simp)
  | cons y r ih =>
    obtain ⟨s, d⟩ := y
    intro a i h
    cases i with
    | zero => rfl
    | succ i => exact ih (a + 1 + secs d.length) i (by simpa using h)
theorem end_take (r : List Rec) : ∀ (a i : Nat) (h : i < r.length), endR a (r.take i) + 1 + secs (r[i].2).length ≤ endR a r := by
  induction r with
  | nil => intro a i h; exact absurd h (by simp)
  | cons y r ih =>
    obtain ⟨s, d⟩ := y
    intro a i h
    cases i with
    | zero =>
      show a + 1 + secs d.length ≤ endR (a + 1 + secs d.length) r
      have := endR_le (a + 1 + secs d.length) r
      omega
    | succ i => exact ih (a + 1 + secs d.length) i (by simpa using h)
theorem others_len (r : List Rec) (a : Nat) : (others a r).length + r.length + a = endR a r := by
  induction r generalizing a with
  | nil => simp [others, endR]
  | cons x r ih =>
    obtain ⟨s, d⟩ := x
    have := ih (a + 1 + secs d.length)
    simp only [others, endR, List.length_append, List.length_map, List.length_range, List.length_cons]
    omega
theorem oth_len (a : Nat) (r : List Rec) (k i : Nat) : (oth a r k i).length ≤ endR a (r.take k) + i := by
  unfold oth
  have := others_len (r.take k) a
  simp only [List.length_append, List.length_map, List.length_range]
  omega
set_option maxRecDepth 100000 in
set_option maxHeartbeats 4000000 in
theorem others_any {w : World} {base q p : Nat} {L : LG} {v : Value} (h : LogAt w base q p L v) :
    Calls Try.prog 50 #[.pointer (some ⟨q, 0, none⟩)] w fun e w' => ∃ v', e = .returned v' ∧ w'.ownsRow w.heap.size 3 1 v' (others L.first L.recs).length (ints (others L.first L.recs)) ∧ Below w.heap.size w w' := by
  obtain ⟨i0, hi, hz0, hz1, hz2⟩ := info_parts infoInt
  have hblk := h.blk
  unfold LG.cells at hblk
  have a5 := cell_of_row w q 5 _ _ _ hblk
  have hend : endR L.first L.recs ≤ 4096 := Nat.le_trans h.ok.endd h.ok.behind
  have hlen : L.recs.length ≤ 4096 := by have := endR_le L.first L.recs; omega
  obtain ⟨Ap, cp, rfl, _, _, hrp⟩ := own_shape h.row
  have HH := Lib.hid (And.intro h (And.intro hlen (And.intro hend hrp)))
  have hlI : (L.recs.length : Int) ≤ 4096 := by omega
  clear h hblk hlen hend hrp
  go_enter Try.func50, Try.ntmps50
  go_wp2_with go_in
  go_loopw [3, 5, 6, 12, 18] (fun u _ _ i _ wr => ∃ k : Nat, k ≤ L.recs.length ∧ i = .int .i64 (k : Int) ∧ wr.ownsRow w.heap.size 3 1 u (oth L.first L.recs k 0).length (ints (oth L.first L.recs k 0)) ∧ Below w.heap.size w wr)
    (fun _ _ _ i _ _ => L.recs.length - (intOf i).toNat)
  case atStart => exact ⟨0, by omega, rfl, by have := World.ownsRow_nil w w.heap.size 3 1; simpa [ints, oth, others] using this, Below.refl _ _⟩
  case round =>
    obtain ⟨k, hk, rfl, ho, hb⟩ := hrel
    by_cases hkl : k < L.recs.length
    · have hkI : (k : Int) < (L.recs.length : Int) := by omega
      obtain ⟨x, e1, e2, e3⟩ := plc_get L.recs L.first k hkl
      have hxe : x = endR L.first (L.recs.take k) := by have := heads_at L.recs L.first k hkl; rw [e1] at this; injection this
      have hxs : x + 1 + secs (L.recs[k].2).length ≤ 4096 := by have := end_take L.recs L.first k hkl; have := HH.out.2.2.1; omega
      have hnx := oth_next L.first L.recs k hkl
      obtain ⟨ab, ao, rfl, hab, hcc⟩ := HH.out.2.2.2 (by intro e; have := plc_len L.first L.recs; rw [e] at this; simp at this; omega)
      have p0 : wr.cell? ⟨ab, ao + k * 2, none⟩ = some (.int .i64 (x : Int)) := (hb.cell (p := ⟨ab, ao + k * 2, none⟩) hab).trans (hcc _ _ e2)
      have p1 : wr.cell? ⟨ab, ao + k * 2 + 1, none⟩ = some (.int .i64 (secs (L.recs[k].2).length : Int)) := (hb.cell (p := ⟨ab, ao + k * 2 + 1, none⟩) hab).trans (hcc _ _ e3)
      generalize secs (L.recs[k].2).length = m at p1 hxs hnx
      have HX := Lib.hid (And.intro ho (And.intro hb (And.intro hkl (And.intro hxe (And.intro hxs hnx)))))
      obtain ⟨Ao, co, rfl, _, _, _⟩ := own_shape ho
      have HSZ := Lib.hid hb.size
      clear ho hb e1 e2 e3 hcc hkl hxe hxs hnx
      go_upto_region 6 with go_in
      have hg5 := heap_alloc_new wr (.cells #[.int .i64 (x : Int), .int .i64 (m : Int)] 134)
      have ho1 : (wr.alloc (.cells #[.int .i64 (x : Int), .int .i64 (m : Int)] 134)).ownsRow w.heap.size 3 1 (.slice Ao (oth L.first L.recs k 0).length co) (oth L.first L.recs k 0).length (ints (oth L.first L.recs k 0)) := World.ownsRow.alloc HX.out.1 _
      have hb1 : Below w.heap.size w (wr.alloc (.cells #[.int .i64 (x : Int), .int .i64 (m : Int)] 134)) := HX.out.2.1.alloc HSZ.out _
      have hap : ∀ g, (Value.slice Ao (oth L.first L.recs k 0).length co).ownBlock = some g → g ≠ wr.heap.size := fun g hg => by have := (World.ownsRow.lt HX.out.1 g hg).2; omega
      obtain ⟨b5, hb5⟩ : ∃ b5, b5 = wr.heap.size := ⟨_, rfl⟩
      have hz5 : w.heap.size ≤ b5 := by have := HSZ.out; omega
      rw [← hb5] at hg5 hap ⊢
      generalize wr.alloc (.cells #[.int .i64 (x : Int), .int .i64 (m : Int)] 134) = W1 at hg5 ho1 hb1 ⊢
      have H1 := Lib.hid (And.intro hg5 (And.intro ho1 (And.intro hb1 (And.intro hap hz5))))
      clear hg5 ho1 hb1 hap hb5 p0 p1 hz5
      go_wp2_with go_in
      go_loopw [3, 6, 18] (fun u _ i wi => ∃ j : Nat, j ≤ m ∧ i = .int .i64 (j : Int) ∧ wi.ownsRow w.heap.size 3 1 u (oth L.first L.recs k j).length (ints (oth L.first L.recs k j)) ∧ Below w.heap.size w wi ∧ wi.heap[b5]? = some (.cells #[.int .i64 (x : Int), .int .i64 (m : Int)] 134 (0, 0)) ∧ ∀ g, u.ownBlock = some g → g ≠ b5)
        (fun _ _ i _ => m - (intOf i).toNat)
      case atStart => exact ⟨0, by omega, rfl, H1.out.2.1, H1.out.2.2.1, H1.out.1, H1.out.2.2.2.1⟩
      case round =>
        obtain ⟨j, hj, rfl, hoj, hbj, hgj, hapj⟩ := hrel
        by_cases hjm : j < m
        · have hjI : (j : Int) < (m : Int) := by omega
          have hxI : (x : Int) + 1 + (m : Int) ≤ 4096 := by have := HX.out.2.2.2.2.1; omega
          have r0 := cell_of_row wr b5 0 _ _ _ hgj
          have hsn := oth_snoc L.first L.recs k j
          rw [← HX.out.2.2.2.1] at hsn
          have hlj := oth_len L.first L.recs k j
          rw [← HX.out.2.2.2.1] at hlj
          have HY := Lib.hid (And.intro hoj (And.intro hbj (And.intro hgj (And.intro hapj (And.intro hjm (And.intro hsn hlj))))))
          obtain ⟨Aj, cj, rfl, _, _, _⟩ := own_shape hoj
          have HZ := Lib.hid hbj.size
          have hcast : (((x + 1 + j : Nat)) : Int) = (x : Int) + 1 + (j : Int) := by omega
          have HCA := Lib.hid hcast
          clear hoj hbj hgj hapj hjm hsn hcast hlj
          go_wp2_with (first
            | (at_builtin; refine wpList_appR _ rfl (.tmp 21) (.tmp 27) _ rfl w.heap.size 3 i0 _ 1 8 Try.underlying88 hi hz0 hz1 hz2 rfl (by omega) (.slice Aj (oth L.first L.recs k j).length cj) (oth L.first L.recs k j).length (ints (oth L.first L.recs k j)) rfl (World.ownsRow.alloc HY.out.1 _) (wr.heap.size + 1) (some ⟨wr.heap.size, 0, none⟩) 1 1 [.int .i64 ((x : Int) + 1 + (j : Int))] rfl rfl (Rd.new wr #[.int .i64 ((x : Int) + 1 + (j : Int))] 3 (0, 0)) (by simp [Value.oneCell']) (by have := HY.out.2.2.2.2.2.2; omega) (by omega) (by have := HZ.out; simp; omega) ?_; intro v2 w2 hown2 hg2 hat2)
            | go_in)
          rw [← HCA.out, ints_snoc, ← HY.out.2.2.2.2.2.1] at hown2
          have hl : (oth L.first L.recs k j).length + 1 = (oth L.first L.recs k (j + 1)).length := by rw [HY.out.2.2.2.2.2.1]; simp
          rw [hl] at hown2
          have hb2 : Below w.heap.size w w2 := (HY.out.2.1.alloc HZ.out _).trans (grown_below' hg2 (fun j' hj' => (World.ownsRow.lt HY.out.1 j' hj').1) (by have := HZ.out; simp; omega))
          have hlt5 := heap_lt HY.out.2.2.1
          have hg6 : w2.heap[b5]? = some (.cells #[.int .i64 (x : Int), .int .i64 (m : Int)] 134 (0, 0)) := (hg2.block b5 (by simp; omega) (fun e => HY.out.2.2.2.1 b5 e.symm rfl)).trans ((Below.heap_alloc _ _ _ hlt5).trans HY.out.2.2.1)
          have hap2 : ∀ g, v2.ownBlock = some g → g ≠ b5 := fun g hg => by
            rcases hat2 with e | e
            · exact HY.out.2.2.2.1 g (e ▸ hg)
            · rw [e] at hg; simp at hg; omega
          exact ⟨⟨j + 1, HY.out.2.2.2.2.1, by simp, hown2, hb2, hg6, hap2⟩, by simp [intOf]; have := HY.out.2.2.2.2.1; omega⟩
        · obtain rfl : j = m := by omega
          rw [HX.out.2.2.2.2.2] at hoj
          have HY := Lib.hid (And.intro hoj hbj)
          clear hoj hbj hgj hapj hjm
          go_wp2_with go_in
          exact ⟨⟨k + 1, HX.out.2.2.1, by simp, HY.out.1, HY.out.2⟩, by simp [intOf]; have := HX.out.2.2.1; omega⟩
    · obtain rfl : k = L.recs.length := by omega
      have HX := Lib.hid (And.intro ho hb)
      clear ho hb
      go_wp2_with go_in
      go_ret
      refine ⟨_, rfl, ?_, HX.out.2⟩
      have h := HX.out.1
      rw [oth_end] at h
      exact h
end Go.Proofs.Ytdjcpjfomgfjlaa
