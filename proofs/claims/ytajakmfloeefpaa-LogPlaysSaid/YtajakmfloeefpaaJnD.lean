/- Joined: LogE LogF LogG LogC LogD. -/
import Derived.Test.YtajakmfloeefpaaJnC
import Derived.Deep.RegionWith
import Derived.Laws.Bits64b
import Derived.IntWalk
/- A log in memory; Next, Room, sectorsOf, sector. -/
namespace Go.Proofs.Ytajakmfloeefpaa
open Go.RowKit Go.Maps

/-- A log, plainly: its sectors, its records, the next number. -/
structure LG where
  first : Nat
  behind : Nat
  recs : List Rec
  next : Nat
def LG.endd (L : LG) : Nat := endR L.first L.recs
/-- Where records stand: each head's sector, and how many of data. -/
def plc : Nat → List Rec → List Value
  | _, [] => []
  | a, (_, d) :: r => .int .i64 (a : Int) :: .int .i64 (secs d.length : Int) :: plc (a + 1 + secs d.length) r
theorem plc_len (a : Nat) (r : List Rec) : (plc a r).length = r.length * 2 := by
  induction r generalizing a with
  | nil => rfl
  | cons x r ih => obtain ⟨s, d⟩ := x; simp [plc, ih]; omega
theorem plc_append (a : Nat) (r r' : List Rec) : plc a (r ++ r') = plc a r ++ plc (endR a r) r' := by
  induction r generalizing a with
  | nil => rfl
  | cons x r ih => obtain ⟨s, d⟩ := x; simp [plc, endR, ih]
structure LG.Ok (L : LG) : Prop where
  first : L.first < L.behind
  behind : L.behind ≤ 4096
  endd : L.endd ≤ L.behind
  pos : 1 ≤ L.next
  next : L.next ≤ 4611686018427387905
def LG.cells (L : LG) (p : Nat) (v : Value) : Array Value := #[.pointer (some ⟨p, 0, none⟩), .int .i64 (L.first : Int), .int .i64 (L.behind : Int), .int .i64 (L.endd : Int), .int .i64 (L.next : Int), v]
/-- It lies at q, over the disk at p; its places lie in a block of their own, from base on. -/
structure LogAt (w : World) (base q p : Nat) (L : LG) (v : Value) : Prop where
  blk : w.heap[q]? = some (.cells (L.cells p v) 68 (0, 0))
  row : w.ownsRow base 106 2 v L.recs.length (plc L.first L.recs)
  lt : q < base
  ok : L.Ok
section
variable {w w' : World} {base q p : Nat} {L : LG} {v : Value}
theorem LogAt.size (h : LogAt w base q p L v) : q < w.heap.size := (Array.getElem?_eq_some_iff.1 h.blk).1
theorem rowFr {base size n : Nat} {e : TypeId} {xs : List Value} {S : List Nat} (h : w.ownsRow base e size v n xs) (hf : Fr w w' S) (hS : ∀ s ∈ S, s < base) : w'.ownsRow base e size v n xs := by
  refine ⟨h.1, ?_⟩
  rcases h.2 with h2 | ⟨g, cap, cur, hv, hg, hgg, r⟩
  · exact .inl h2
  · refine .inr ⟨g, cap, cur, hv, hg, ?_, r⟩
    rw [hf.block g (Array.getElem?_eq_some_iff.1 hgg).1 (fun hs => by have := hS g hs; omega)]
    exact hgg
theorem LogAt.fr (h : LogAt w base q p L v) {S : List Nat} (hf : Fr w w' S) (hS : ∀ s ∈ S, s < base ∧ s ≠ q) : LogAt w' base q p L v :=
  ⟨(hf.block q h.size (fun hm => (hS q hm).2 rfl)).trans h.blk, rowFr h.row hf (fun s hs => (hS s hs).1), h.lt, h.ok⟩
theorem LogAt.kept (h : LogAt w base q p L v) (hb : Below w.heap.size w w') : LogAt w' base q p L v := h.fr (Fr.of_below hb []) (by simp)
end

set_option maxRecDepth 100000 in
theorem next_any {w : World} {base q p : Nat} {L : LG} {v : Value} (h : LogAt w base q p L v) :
    Calls Try.prog 22 #[.pointer (some ⟨q, 0, none⟩)] w fun e w' => e = .returned (.int .i64 (L.next : Int)) ∧ w = w' := by
  have hg := h.blk
  unfold LG.cells at hg
  have a4 := cell_of_row w q 4 _ _ _ hg
  clear h hg
  go_enter Try.func22, Try.ntmps22
  go_wp2
  go_ret
  exact ⟨rfl, rfl⟩

def LG.room (L : LG) : Int := if L.endd = L.behind ∨ 4611686018427387904 < L.next then -1 else min (((L.behind - L.endd - 1 : Nat) : Int) * 64) 4000
set_option maxRecDepth 100000 in
set_option maxHeartbeats 1000000 in
theorem room_any {w : World} {base q p : Nat} {L : LG} {v : Value} (h : LogAt w base q p L v) :
    Calls Try.prog 23 #[.pointer (some ⟨q, 0, none⟩)] w fun e w' => e = .returned (.int .i64 L.room) ∧ Below w.heap.size w w' := by
  have hg := h.blk
  have hk := h.ok
  unfold LG.cells at hg
  have a2 := cell_of_row w q 2 _ _ _ hg
  have a3 := cell_of_row w q 3 _ _ _ hg
  have a4 := cell_of_row w q 4 _ _ _ hg
  clear h hg
  obtain ⟨k1, k2, k3, k4, k5⟩ := hk
  obtain ⟨e, he⟩ : ∃ e, e = L.endd := ⟨_, rfl⟩
  obtain ⟨b, hb⟩ : ∃ b, b = L.behind := ⟨_, rfl⟩
  obtain ⟨n, hn⟩ : ∃ n, n = L.next := ⟨_, rfl⟩
  have HR : Hid (L.room = if e = b ∨ 4611686018427387904 < n then -1 else min (((b - e - 1 : Nat) : Int) * 64) 4000) := Lib.hid (by rw [he, hb, hn]; rfl)
  rw [← he] at a3 k3
  rw [← hb] at a2 k2 k3
  rw [← hn] at a4 k5
  clear he hb hn k1 k4
  by_cases h1 : e = b
  · subst h1
    have hbt : decide ((e : Int) = (e : Int)) = true := by simp
    clear k3
    go_enter Try.func23, Try.ntmps23
    go_upto_region 1 with go_in
    go_quiet (fail)
    go_wp2_with go_in
    go_ret
    exact ⟨by (rw [HR.out, if_pos (.inl (by trivial))]) <;> rfl, Below.drewN' (Below.refl _ _) _⟩
  · have hbf : ((e : Int) == (b : Int)) = false := beq_eq_false_iff_ne.2 (by omega)
    by_cases h2 : 4611686018427387904 < n
    · have hnt : (4611686018427387904 : Int) < (n : Int) := by omega
      go_enter Try.func23, Try.ntmps23
      go_upto_region 1 with go_in
      go_quiet (fail)
      go_wp2_with go_in
      go_ret
      exact ⟨by (rw [HR.out, if_pos (.inr h2)]) <;> rfl, Below.drewN' (Below.refl _ _) _⟩
    · have hnf : ¬ (4611686018427387904 : Int) < (n : Int) := by omega
      have HN := Lib.hid (And.intro h1 h2)
      have hle : (e : Int) < (b : Int) := by omega
      have hb4 : (b : Int) ≤ 4096 := by omega
      clear h1 h2 k2 k3 k5
      go_enter Try.func23, Try.ntmps23
      go_upto_region 1 with go_in
      go_quiet (fail)
      go_upto_region 3 with go_in
      have c2 : (w.drewN nq).cell? ⟨q, 2, none⟩ = _ := a2
      have c3 : (w.drewN nq).cell? ⟨q, 3, none⟩ = _ := a3
      have HB : Hid (Below w.heap.size w (w.drewN nq)) := Lib.hid (Below.drewN' (Below.refl _ _) _)
      generalize w.drewN nq = W at c2 c3 HB ⊢
      clear a2 a3 a4
      go_region
      all_goals
        go_wp2_with go_in
        go_ret
        refine ⟨?_, HB.out.drew⟩
        rw [HR.out, if_neg (by have := HN.out; omega)]

        exact ret_int (by omega)

set_option maxRecDepth 100000 in
theorem secs_any (n : Nat) (w : World) (hn : n ≤ 1000000000) :
    Calls Try.prog 54 #[.int .i64 (n : Int)] w fun e w' => e = .returned (.int .i64 (secs n : Int)) ∧ w = w' := by
  have hn' : (n : Int) ≤ 1000000000 := by omega
  have h0 : (((n : Int) + 64 - 1).tdiv 64) = (secs n : Int) := by
    rw [Int.tdiv_eq_ediv_of_nonneg (by omega)]
    unfold secs; omega
  have h1 : (((n : Int) + 64 - 1) / 64) = (secs n : Int) := by unfold secs; omega
  have H0 := Lib.hid (And.intro h0 h1)
  clear h0 h1
  go_enter Try.func54, Try.ntmps54
  go_wp2
  go_ret
  exact ⟨by first | rfl | (rw [H0.out.2] <;> rfl) | (rw [H0.out.1] <;> rfl), rfl⟩

/-- A new row of 64 bytes. -/
def New64 (w w' : World) (l : List UInt8) (e : Ending) : Prop :=
  ∃ g, e = .returned (.slice (some ⟨g, 0, none⟩) 64 64) ∧ w.heap.size ≤ g ∧ g < w'.heap.size ∧ Rd w' w'.heap.size (some ⟨g, 0, none⟩) (u8s l) ∧ l.length = 64 ∧ Below w.heap.size w w'
set_option maxRecDepth 100000 in
theorem sector_any {w : World} {base q p bs bw T : Nat} {L : LG} {v : Value} {M : DM} (h : LogAt w base q p L v) (hD : DiskM w p bs bw M T) (hz : M.size ≤ 4096) {i : Nat} (hi : i < M.size) :
    Calls Try.prog 53 #[.pointer (some ⟨q, 0, none⟩), .int .i64 (i : Int)] w fun e w' => New64 w w' (M.get i) e := by
  have hg := h.blk
  unfold LG.cells at hg
  have a0 := cell_of_row w q 0 _ _ _ hg
  have hr := readC hD hz hi
  have HR := Lib.hid hr
  clear h hg hr hD
  go_enter Try.func53, Try.ntmps53
  go_wp2_with (go_at_call 51; (with_reducible refine HR.out.mono ?_); rintro e w' ⟨g, rfl, h1, h2, h3, h4, h5⟩)
  go_ret
  exact ⟨g, rfl, h1, h2, h3, h4, h5⟩
end Go.Proofs.Ytajakmfloeefpaa
/- headOf. -/
namespace Go.Proofs.Ytajakmfloeefpaa
open Go.RowKit Go.Maps

theorem be8_get (s k : Nat) (h : k < 8) : (be8 s)[k]'(by rw [be8_len]; exact h) = UInt8.ofNat (s / 2 ^ (56 - 8 * k)) := by
  match k, h with
  | 0, _ => rfl
  | 1, _ => rfl
  | 2, _ => rfl
  | 3, _ => rfl
  | 4, _ => rfl
  | 5, _ => rfl
  | 6, _ => rfl
  | 7, _ => simp [be8]
/-- A head, of whose Seq k bytes are written. -/
def hdK (s k : Nat) : List UInt8 := 82 :: ((be8 s).take k ++ (List.replicate (62 - k) 0 ++ [165]))
theorem hdK_len (s k : Nat) (h : k ≤ 8) : (hdK s k).length = 64 := by simp [hdK, be8_len]; omega
theorem hdK_set (s k : Nat) (h : k < 8) (x : UInt8) (hx : x = (be8 s)[k]'(by rw [be8_len]; exact h)) : (hdK s k).set (1 + k) x = hdK s (k + 1) := by
  unfold hdK
  rw [Nat.add_comm 1 k, List.set_cons_succ]
  congr 1
  have hl : ((be8 s).take k).length = k := by rw [List.length_take, be8_len]; omega
  rw [List.set_append_right _ _ (by omega), hl, Nat.sub_self, List.take_succ_eq_append_getElem (by rw [be8_len]; exact h), ← hx, List.append_assoc]
  congr 1
  rw [show 62 - k = (62 - (k + 1)) + 1 by omega, List.replicate_succ]
  rfl
theorem hdK_end (s n : Nat) : ((hdK s 8).set 9 (UInt8.ofNat (n / 256))).set 10 (UInt8.ofNat n) = headL s n := rfl
theorem hdK_zero (s : Nat) : (zero64.set 0 82).set 63 165 = hdK s 0 := rfl
theorem mod256 (n : Nat) : ((UInt8.ofNat n).toNat : Int) = (n : Int) % 256 := by
  rw [UInt8.toNat_ofNat']
  simp
theorem row_set {w : World} {b i : Nat} {l : List UInt8} {t : TypeId} (h : w.heap[b]? = some (.cells (u8s l).toArray t (0, 0))) (x : UInt8) : (w.setCell ⟨b, i, none⟩ (.int .u8 (x.toNat : Int))).heap[b]? = some (.cells (u8s (l.set i x)).toArray t (0, 0)) := by
  have := heap_setCell_same w b i _ _ (.int .u8 (x.toNat : Int)) h
  rw [u8s_set]
  simpa using this
theorem row_cell {w : World} {b : Nat} {l : List UInt8} {t : TypeId} (h : w.heap[b]? = some (.cells (u8s l).toArray t (0, 0))) {i : Nat} (hi : i < l.length) : ∃ v, w.cell? ⟨b, i, none⟩ = some v := by
  refine ⟨(u8s l)[i]'(by rw [u8s_len]; exact hi), ?_⟩
  rw [cell_of_row w b i _ _ _ h, List.getElem?_toArray, List.getElem?_eq_getElem (by rw [u8s_len]; exact hi)]
theorem new64_row {w w' : World} {g : Nat} {l : List UInt8} {t : TypeId} (hg : w.heap.size ≤ g) (h : w'.heap[g]? = some (.cells (u8s l).toArray t (0, 0))) (hl : l.length = 64) (hb : Below w.heap.size w w') : New64 w w' l (.returned (.slice (some ⟨g, 0, none⟩) 64 64)) := by
  have hlt := (Array.getElem?_eq_some_iff.1 h).1
  refine ⟨g, rfl, hg, hlt, fun _ => ⟨g, 0, rfl, hlt, fun j u hu => ?_⟩, hl, hb⟩
  rw [cell_of_row _ _ _ _ _ _ h]
  simpa using hu

set_option maxRecDepth 100000 in
set_option maxHeartbeats 1000000 in
theorem headOf_any (s n : Nat) (w : World) (hs : s ≤ 4611686018427387904) (hn : n ≤ 65535) :
    Calls Try.prog 59 #[.int .i64 (s : Int), .int .i64 (n : Int)] w fun e w' => New64 w w' (headL s n) e := by
  have hmk := make64 w
  have h0 : ((u8s zero64).set 0 (.int .u8 82)).set 63 (.int .u8 165) = u8s (hdK s 0) := rfl
  have hg : (w.alloc (.cells (((u8s zero64).set 0 (.int .u8 82)).set 63 (.int .u8 165)).toArray 5)).heap[w.heap.size]? = some (.cells (u8s (hdK s 0)).toArray 5 (0, 0)) := by rw [h0]; exact heap_alloc_new w _
  have hB1 : Below w.heap.size w (w.alloc (.cells (((u8s zero64).set 0 (.int .u8 82)).set 63 (.int .u8 165)).toArray 5)) := (Below.refl _ w).alloc (Nat.le_refl _) _
  have HG := Lib.hid (And.intro hg hB1)
  have HS := Lib.hid (And.intro hs hn)
  have hs' : (s : Int) ≤ 4611686018427387904 := by omega
  have hn' : (n : Int) ≤ 65535 := by omega
  clear hB1 hg h0 hs hn
  go_enter Try.func59, Try.ntmps59
  go_wp2
  go_loopw [6, 12] (fun _ i wr => ∃ k : Nat, k ≤ 8 ∧ i = .int .i64 (k : Int) ∧ wr.heap[w.heap.size]? = some (.cells (u8s (hdK s k)).toArray 5 (0, 0)) ∧ Below w.heap.size w wr)
    (fun _ i _ => 8 - (intOf i).toNat)
  case atStart => exact ⟨0, by omega, rfl, HG.out.1, HG.out.2⟩
  case round =>
    obtain ⟨k, hk, rfl, hg, hb⟩ := hrel
    by_cases hk8 : k < 8
    · have hkI : (k : Int) < 8 := by omega
      have hk9 : 8 * (k : Int) ≤ 56 := by omega
      obtain ⟨x, hx⟩ : ∃ x, x = (be8 s)[k]'(by rw [be8_len]; exact hk8) := ⟨_, rfl⟩
      have hxv : (s : Int) / 2 ^ (56 - 8 * k) % 256 = (x.toNat : Int) := by
        rw [hx, be8_get s k hk8, mod256]
        simp
      obtain ⟨v1, hv1⟩ := row_cell (i := 1 + k) hg (by rw [hdK_len s k (by omega)]; omega)
      have zf1 := frozen_of_row wr w.heap.size (1 + k) _ _ hg
      have hg2 := row_set (i := 1 + k) hg x
      rw [hdK_set s k hk8 x hx] at hg2
      have HX := Lib.hid (And.intro hg2 (And.intro (hb.setCell (p := ⟨w.heap.size, 1 + k, none⟩) (Nat.le_refl _) (.int .u8 (x.toNat : Int))) hxv))
      have hi1 : (1 : Int) + (k : Int) < 64 := by omega
      have hi2 : (0 : Int) ≤ 1 + (k : Int) := by omega
      have hi3 : ((1 : Int) + (k : Int)).toNat = 1 + k := by omega
      clear hg hb hg2 hxv hx
      go_wp2_with go_in
      rw [HX.out.2.2]
      exact ⟨⟨k + 1, by omega, by simp, HX.out.1, HX.out.2.1⟩, by simp [intOf]; omega⟩
    · obtain rfl : k = 8 := by omega
      obtain ⟨v9, hv9⟩ := row_cell (i := 9) hg (by rw [hdK_len s 8 (by omega)]; omega)
      have hg9 := row_set (i := 9) hg (UInt8.ofNat (n / 256))
      obtain ⟨v10, hv10⟩ := row_cell (i := 10) hg9 (by rw [List.length_set, hdK_len s 8 (by omega)]; omega)
      have zf9 := frozen_of_row wr w.heap.size 9 _ _ hg
      have zf10 := frozen_of_row _ w.heap.size 10 _ _ hg9
      have hg10 := row_set (i := 10) hg9 (UInt8.ofNat n)
      rw [hdK_end] at hg10
      have hb10 := (hb.setCell (p := ⟨w.heap.size, 9, none⟩) (Nat.le_refl _) (.int .u8 ((UInt8.ofNat (n / 256)).toNat : Int))).setCell (p := ⟨w.heap.size, 10, none⟩) (Nat.le_refl _) (.int .u8 ((UInt8.ofNat n).toNat : Int))
      have m1 : ((UInt8.ofNat (n / 256)).toNat : Int) = (n : Int) / 256 := by rw [mod256]; simp; omega
      rw [mod256 n] at hg10 hb10
      rw [m1] at hg10 hb10 hv10 zf10
      have HX := Lib.hid (And.intro hg10 hb10)
      clear hg hb hg9 hg10 hb10 m1
      go_wp2_with go_in

      go_ret
      exact new64_row (Nat.le_refl _) HX.out.1 (headL_len _ _) HX.out.2
end Go.Proofs.Ytajakmfloeefpaa
/- bytes.Equal, readHead. -/
namespace Go.Proofs.Ytajakmfloeefpaa
open Go.RowKit Go.Maps

set_option maxRecDepth 100000 in
theorem equal_any (A1 A2 : Option Addr) (l1 l2 : List UInt8) (n1 n2 c1 c2 B1 B2 : Nat) (w : World) (h1 : Rd w B1 A1 (u8s l1)) (h2 : Rd w B2 A2 (u8s l2)) (hn1 : n1 = l1.length) (hn2 : n2 = l2.length) :
    Calls Try.prog 56 #[.slice A1 n1 c1, .slice A2 n2 c2] w fun e w' => e = .returned (.bool (l1 == l2)) ∧ w = w' := by
  have s1 := strAt (c := c1) h1 hn1
  have s2 := strAt (c := c2) h2 hn2
  clear h1 h2 hn1 hn2
  obtain ⟨b, hb⟩ : ∃ b, b = (l1 == l2) := ⟨_, rfl⟩
  rw [← hb]
  cases b with
  | true =>
    have hl : l1 = l2 := by simpa using hb.symm
    subst hl
    clear hb
    go_enter Try.func56, Try.ntmps56
    go_wp2
    go_ret
    exact ⟨rfl, rfl⟩
  | false =>
    have hl : ¬ l1 = l2 := by intro e; rw [e] at hb; simp at hb
    have hl2 : (l1 == l2) = false := hb.symm
    clear hb
    go_enter Try.func56, Try.ntmps56
    go_wp2
    go_ret
    exact ⟨rfl, rfl⟩

theorem wrap_i64 (n : Int) : IntKind.i64.wrap n = wrap64 n := by
  simp [IntKind.wrap, IntKind.bits, IntKind.signed, wrap64]
  omega
theorem or_byte (V : Nat) (x : UInt8) (hV : V < 72057594037927936) : bits .or .i64 (wrap64 (wrap64 (V : Int) * 256)) (wrap64 (x.toNat : Int)) = wrap64 ((V * 256 + x.toNat : Nat) : Int) := by
  have hx := x.toNat_lt
  have e0 : wrap64 (V : Int) = (V : Int) := by unfold wrap64; omega
  have e9 : wrap64 (x.toNat : Int) = (x.toNat : Int) := wrap_byte x
  rw [e9]
  have h1 : (BitVec.ofInt 64 (wrap64 (wrap64 (V : Int) * 256))).toNat = V * 256 := by
    rw [e0, BitVec.toNat_ofInt]
    unfold wrap64
    omega
  have h2 : (BitVec.ofInt 64 (x.toNat : Int)).toNat = x.toNat := by
    rw [BitVec.ofInt_natCast, BitVec.toNat_ofNat]; exact Nat.mod_eq_of_lt (by omega)
  show IntKind.i64.wrap ((BitVec.ofInt 64 (wrap64 (wrap64 (V : Int) * 256)) ||| BitVec.ofInt 64 (x.toNat : Int)).toNat : Int) = _
  rw [BitVec.toNat_or, h1, h2, wrap_i64]
  have w3 : V * 256 ||| x.toNat = V * 256 + x.toNat := by
    have := Nat.shiftLeft_add_eq_or_of_lt (show x.toNat < 2 ^ 8 by omega) V
    rw [Nat.shiftLeft_eq] at this
    exact this.symm
  rw [w3]
theorem take_snoc' (l : List UInt8) (k : Nat) (h : k < l.length) : l.take (k + 1) = l.take k ++ [l[k]] := by
  rw [List.take_succ_eq_append_getElem h]
/-- What readHead tells. -/
def seqX (b : List UInt8) : Int := wrap64 (seqV b : Int)
theorem lenV_lt (b : List UInt8) : lenV b < 65536 := by
  have := beV_lt ((b.drop 9).take 2)
  have h2 : ((b.drop 9).take 2).length ≤ 2 := List.length_take_le _ _
  have h3 : 256 ^ ((b.drop 9).take 2).length ≤ 256 ^ 2 := Nat.pow_le_pow_right (by omega) h2
  unfold lenV
  omega
theorem seqV_lt (b : List UInt8) : seqV b < 18446744073709551616 := by
  have := beV_lt ((b.drop 1).take 8)
  have h2 : ((b.drop 1).take 8).length ≤ 8 := List.length_take_le _ _
  have h3 : 256 ^ ((b.drop 1).take 8).length ≤ 256 ^ 8 := Nat.pow_le_pow_right (by omega) h2
  unfold seqV
  omega
theorem lenV_two (b : List UInt8) (h : b.length = 64) : lenV b = b[9].toNat * 256 + b[10].toNat := by
  have : (b.drop 9).take 2 = [b[9], b[10]] := by
    apply List.ext_getElem
    · simp; omega
    · intro i h1 h2
      have : i < 2 := by simpa using h2
      match i, this with
      | 0, _ => simp
      | 1, _ => simp
  unfold lenV
  rw [this]
  simp [beV]
/-- Is it a head? -/
def isHd (b : List UInt8) : Bool := (hdr b).isSome
theorem isHd_no {b : List UInt8} (h : ¬ (1 ≤ seqX b ∧ seqX b ≤ 4611686018427387904 ∧ lenV b ≤ 4000)) : isHd b = false := by
  unfold isHd hdr
  rw [if_neg]
  · rfl
  · rintro ⟨h1, h2, h3, _⟩
    apply h
    have : seqX b = (seqV b : Int) := by unfold seqX wrap64; omega
    rw [this]
    omega
theorem isHd_yes {b : List UInt8} (h1 : 1 ≤ seqX b) (h2 : seqX b ≤ 4611686018427387904) (h3 : lenV b ≤ 4000) : seqX b = (seqV b : Int) ∧ isHd b = (b == headL (seqV b) (lenV b)) := by
  have hs := seqV_lt b
  have e : seqX b = (seqV b : Int) := by
    unfold seqX wrap64 at h1 h2 ⊢
    omega
  refine ⟨e, ?_⟩
  rw [e] at h1 h2
  unfold isHd hdr
  by_cases hb : b = headL (seqV b) (lenV b)
  · rw [if_pos ⟨by omega, by omega, h3, hb⟩]
    exact (beq_iff_eq.2 hb).symm
  · rw [if_neg (fun h => hb h.2.2.2)]
    exact (beq_eq_false_iff_ne.2 hb).symm

set_option maxRecDepth 100000 in
set_option maxHeartbeats 2000000 in
theorem readHead_any (g : Nat) (b : List UInt8) (B : Nat) (w : World) (hr : Rd w B (some ⟨g, 0, none⟩) (u8s b)) (hl : b.length = 64) (hB : B ≤ w.heap.size) :
    Calls Try.prog 52 #[.slice (some ⟨g, 0, none⟩) 64 64] w fun e w' => e = .returned (.tuple #[.int .i64 (seqX b), .int .i64 (lenV b : Int), .bool (isHd b)]) ∧ Below w.heap.size w w' := by
  have HR := Lib.hid hr
  have HL := Lib.hid (And.intro hl hB)
  have hd8 : ((b.drop 1).take 8).length = 8 := by simp; omega
  have HD := Lib.hid hd8
  have hc : ∀ k x, b[k]? = some x → w.cell? ⟨g, k, none⟩ = some (.int .u8 (x.toNat : Int)) := fun k x hx => rd_cell hr hx
  have HC := Lib.hid hc
  clear hr hl hB hd8 hc
  go_enter Try.func52, Try.ntmps52
  go_wp2
  go_loop [2, 6, 10] (fun u _ i => ∃ k : Nat, k ≤ 8 ∧ i = .int .i64 (k : Int) ∧ u = .int .i64 (wrap64 (beV (((b.drop 1).take 8).take k) : Int))) (fun _ _ i => 8 - (intOf i).toNat)
  case atStart => exact ⟨0, by omega, rfl, by simp [beV, wrap64]⟩
  case round =>
    obtain ⟨k, hk, rfl, rfl⟩ := hrel
    by_cases hk8 : k < 8
    · have hkI : (k : Int) < 8 := by omega
      obtain ⟨x, hx⟩ : ∃ x, x = ((b.drop 1).take 8)[k]'(by rw [HD.out]; exact hk8) := ⟨_, rfl⟩
      have hbk : b[1 + k]? = some x := by
        rw [hx, List.getElem?_eq_getElem (by have := HL.out.1; omega)]
        simp [Nat.add_comm]
      have hsn : beV (((b.drop 1).take 8).take (k + 1)) = beV (((b.drop 1).take 8).take k) * 256 + x.toNat := by
        rw [take_snoc' _ k (by rw [HD.out]; exact hk8), beV_snoc, hx]
      have hlt : beV (((b.drop 1).take 8).take k) < 72057594037927936 := by
        have := beV_lt (((b.drop 1).take 8).take k)
        have h2 : (((b.drop 1).take 8).take k).length ≤ 7 := by have := List.length_take_le k ((b.drop 1).take 8); omega
        have h3 : 256 ^ (((b.drop 1).take 8).take k).length ≤ 256 ^ 7 := Nat.pow_le_pow_right (by omega) h2
        omega
      have hc1 := HC.out (1 + k) x hbk
      have HS := Lib.hid (And.intro hsn hlt)
      obtain ⟨V, hV⟩ : ∃ V, V = beV (((b.drop 1).take 8).take k) := ⟨_, rfl⟩
      rw [← hV] at HS ⊢
      clear hsn hlt hbk hx hV
      go_wp2
      go_round
      case rel =>
        refine ⟨k + 1, by omega, by simp, ?_⟩
        rw [or_byte V x HS.out.2, HS.out.1]
      case measure => simp [intOf]; omega
    · obtain rfl : k = 8 := by omega
      have hl := HL.out.1
      have h9 : b[9]? = some b[9] := List.getElem?_eq_getElem (by omega)
      have h10 : b[10]? = some b[10] := List.getElem?_eq_getElem (by omega)
      have c9 := HC.out 9 _ h9
      have c10 := HC.out 10 _ h10
      obtain ⟨x9, hx9⟩ : ∃ x, x = b[9]'(by omega) := ⟨_, rfl⟩
      obtain ⟨x10, hx10⟩ : ∃ x, x = b[10]'(by omega) := ⟨_, rfl⟩
      have hlen : lenV b = x9.toNat * 256 + x10.toNat := by rw [lenV_two b hl, hx9, hx10]
      rw [← hx9] at c9
      rw [← hx10] at c10
      have hX : wrap64 (beV (((b.drop 1).take 8).take 8) : Int) = seqX b := by rw [List.take_of_length_le (by rw [HD.out]; omega)]; rfl
      rw [hX]
      have ho : bits .or .i64 (wrap64 ((x9.toNat : Int) * 256)) (x10.toNat : Int) = (lenV b : Int) := by
        have h1 := or_byte x9.toNat x10 (by have := x9.toNat_lt; omega)
        rw [wrap_byte x9, wrap_byte x10] at h1
        rw [h1, hlen]
        have := x9.toNat_lt
        have := x10.toNat_lt
        unfold wrap64
        omega
      have e9 : wrap64 (x9.toNat : Int) = (x9.toNat : Int) := wrap_byte x9
      have e10 : wrap64 (x10.toNat : Int) = (x10.toNat : Int) := wrap_byte x10
      have HLEN := Lib.hid (And.intro hlen ho)
      have HYN : isHd b = true ∨ isHd b = false := by cases isHd b <;> simp
      obtain ⟨X, hXX⟩ : ∃ X, X = seqX b := ⟨_, rfl⟩
      rw [← hXX]
      have HXX := Lib.hid hXX
      clear hX hlen h9 h10 hx9 hx10 hl hXX ho
      go_upto_region 6 with go_in
      go_quiet (fail)
      rw [HLEN.out.2]
      have hb9 : Below w.heap.size w (w.drewN nq) := Below.drewN' (Below.refl _ _) _
      have hr9 := HR.out.drewN nq
      have HW := Lib.hid (And.intro hb9 (And.intro hr9 (show B ≤ (w.drewN nq).heap.size from HL.out.2)))
      clear hb9 hr9 c9 c10 e9 e10
      generalize w.drewN nq = W at HW ⊢
      obtain ⟨Y, hY⟩ : ∃ Y, Y = lenV b := ⟨_, rfl⟩
      have hYb : (Y : Int) ≤ 65535 := by have := lenV_lt b; omega
      rw [← hY]
      by_cases hall : 1 ≤ X ∧ X ≤ 4611686018427387904 ∧ Y ≤ 4000
      · obtain ⟨h1, h2, h3⟩ := hall
        have hyes := isHd_yes (b := b) (by rw [← HXX.out]; exact h1) (by rw [← HXX.out]; exact h2) (by rw [← hY]; exact h3)
        obtain ⟨S, hS⟩ : ∃ S, S = seqV b := ⟨_, rfl⟩
        have hXS : X = (S : Int) := by rw [HXX.out, hyes.1, hS]
        subst hXS
        have hho := headOf_any S Y W (by omega) (by omega)
        have HH := Lib.hid hho
        have HE : Hid ((b == headL S Y) = isHd b) := Lib.hid (by rw [hyes.2, hY, hS])
        have h3' : (Y : Int) ≤ 4000 := by omega
        have hS2 : (S : Int) ≤ 4611686018427387904 := h2
        have hS1 : 1 ≤ (S : Int) := h1
        have HYY := Lib.hid hY
        clear hyes hho hS h3 HYN h1 h2 hY
        go_wp2_with (first
          | (go_at_call 59; (with_reducible refine HH.out.mono ?_); rintro e w2 ⟨g2, rfl, hg1, hg2, hr2, hl2, hb2⟩)
          | (go_at_call 56; (refine (equal_any _ _ b (headL S Y) 64 64 64 64 _ _ w2 (HW.out.2.1.below hb2 HW.out.2.2) hr2 HL.out.1.symm hl2.symm).mono ?_); rintro e w3 ⟨rfl, rfl⟩; rw [HE.out])
          | go_in)
        go_ret3
        refine ⟨?_, HW.out.1.trans ⟨hb2.os, hb2.tape, hb2.output, hb2.size, fun k hk => hb2.block k (by have := HW.out.1.size; omega)⟩⟩
        rw [← HYY.out, ← HXX.out]
        rfl
      · have hno : isHd b = false := isHd_no (by rw [← HXX.out, ← hY]; exact hall)
        have HNO := Lib.hid (And.intro hall hno)
        have HYY := Lib.hid hY
        clear hno hall HYN hY
        have hfin : (Ending.returned (.tuple #[.int .i64 X, .int .i64 (Y : Int), .bool false]) = .returned (.tuple #[.int .i64 (seqX b), .int .i64 (lenV b : Int), .bool (isHd b)])) := by rw [HNO.out.2, ← HXX.out, ← HYY.out]
        have HF := Lib.hid hfin
        clear hfin
        by_cases h1 : 1 ≤ X
        · by_cases h2 : X ≤ 4611686018427387904
          · have h3 : ¬ (Y : Int) ≤ 4000 := by have := HNO.out.1; omega
            go_wp2_with go_in
            go_ret3
            exact ⟨HF.out, HW.out.1⟩
          · go_wp2_with go_in
            go_ret3
            exact ⟨HF.out, HW.out.1⟩
        · go_wp2_with go_in
          go_ret3
          exact ⟨HF.out, HW.out.1⟩
end Go.Proofs.Ytajakmfloeefpaa
/- Wherever the power goes within an Append, or an Open. -/
namespace Go.Proofs.Ytajakmfloeefpaa

/-- Records that are whole, and behind them no head's end. -/
structure Whole (g : Nat → List UInt8) (first behind : Nat) (rs : List Rec) : Prop where
  laid : Laid g behind first none rs
  stop : endR first rs < behind → (g (endR first rs))[63]? = some 0
theorem Whole.scan {g : Nat → List UInt8} {first behind : Nat} {rs : List Rec} (h : Whole g first behind rs) : Go.Proofs.Ytajakmfloeefpaa.scan g behind first none = rs := by
  rw [h.laid.scan, scan_none, List.append_nil]
  intro hl
  refine hdr_last ?_
  rw [h.stop hl]
  decide
structure Clean (M : DM) (first behind : Nat) (rs : List Rec) : Prop where
  calm : Calm M
  laid : Laid M.sure behind first none rs
  zero : ∀ i, endR first rs ≤ i → i < behind → M.sure i = zero64
theorem Clean.whole {M : DM} {first behind : Nat} {rs : List Rec} (h : Clean M first behind rs) : Whole M.sure first behind rs :=
  ⟨h.laid, fun hl => by rw [h.zero _ (Nat.le_refl _) hl]; simp [zero64]⟩
/-- A crash behind steps: each sector is as it was sure, as it was written, or a beginning of the one and the end of the other. -/
def Crashes (M : DM) (behind : Nat) (g : Nat → List UInt8) : Prop := ∀ i, i < behind → Mix M i (g i)
theorem crashes_left1 (M : DM) (h : M.full) (keep : List Bool) (torn cut : Int) {behind : Nat} (hb : behind ≤ M.size) : Crashes M behind (M.left1 keep torn cut) := fun _ hi => mix_left1 M h keep torn cut (by omega)
theorem Whole.congr {g g' : Nat → List UInt8} {first behind : Nat} {rs : List Rec} (h : Whole g first behind rs) (hf : first ≤ behind) (hg : ∀ i, first ≤ i → i < behind → i < endR first rs → g' i = g i)
    (he : endR first rs < behind → (g' (endR first rs))[63]? = some 0) : Whole g' first behind rs :=
  ⟨h.laid.congr (fun i h1 h2 => hg i h1 (by have := h.laid.end_le hf; omega) h2), he⟩
theorem Clean.crash {M : DM} {first behind : Nat} {rs : List Rec} {g : Nat → List UInt8} (h : Clean M first behind rs) (hf : first ≤ behind) (hg : Crashes M behind g) : Whole g first behind rs := by
  have e : ∀ i, i < behind → g i = M.sure i := fun i hi => mix_zero (hg i hi) (h.calm i)
  exact h.whole.congr hf (fun i _ h2 _ => e i h2) (fun hl => by rw [e _ hl]; exact h.whole.stop hl)

def appOps (first : Nat) (rs : List Rec) (next : Nat) (d : List UInt8) : List DOp :=
  wrs (endR first rs + 1) (chunks d) ++ (none :: some (endR first rs, headL next d.length) :: none :: [])
theorem appOps_len (first : Nat) (rs : List Rec) (next : Nat) (d : List UInt8) : (appOps first rs next d).length = secs d.length + 3 := by simp [appOps, wrs_len, chunks_len]
section
variable {M : DM} {first behind next : Nat} {rs : List Rec} {d : List UInt8}
/-- The disk behind the data's flush. -/
def atData (M : DM) (first : Nat) (rs : List Rec) (d : List UInt8) : DM := (doneOps (wrs (endR first rs + 1) (chunks d)) M).flushed
theorem atData_facts (hc : Calm M) : Calm (atData M first rs d) ∧ (∀ i, ¬ (endR first rs + 1 ≤ i ∧ i < endR first rs + 1 + secs d.length) → (atData M first rs d).sure i = M.sure i) ∧ ∀ i, i < secs d.length → some ((atData M first rs d).sure (endR first rs + 1 + i)) = (chunks d)[i]? := by
  obtain ⟨h1, h2⟩ := done_wrs (endR first rs + 1) (chunks d) M
  rw [chunks_len] at h2
  refine ⟨fun i => rfl, fun i hi => ?_, fun i hi => ?_⟩
  · show ((doneOps (wrs (endR first rs + 1) (chunks d)) M).wr i).getD ((doneOps (wrs (endR first rs + 1) (chunks d)) M).sure i) = _
    rw [h2, if_neg hi, hc i, h1]
    rfl
  · show some (((doneOps (wrs (endR first rs + 1) (chunks d)) M).wr _).getD ((doneOps (wrs (endR first rs + 1) (chunks d)) M).sure _)) = _
    rw [h2, if_pos (by omega), h1, show endR first rs + 1 + i - (endR first rs + 1) = i by omega, chunks_get d i hi]
    rfl
theorem laid_more {g : Nat → List UInt8} (hl : Laid g behind first none rs) (hn : nextR none rs = none ∨ nextR none rs = some next) (h1 : 1 ≤ next) (h2 : next ≤ 4611686018427387904) (h3 : d.length ≤ 4000)
    (hfit : endR first rs + secs d.length < behind) (hh : g (endR first rs) = headL next d.length) (hd : ∀ i, i < secs d.length → some (g (endR first rs + 1 + i)) = (chunks d)[i]?) : Laid g behind first none (rs ++ [(next, d)]) :=
  Laid.append.2 ⟨hl, by rw [hh]; exact hdr_head h1 h2 h3, hn, hfit, cat_chunks d g _ hd, trivial⟩
theorem append_all (h : Clean M first behind rs) (hn : nextR none rs = none ∨ nextR none rs = some next) (h1 : 1 ≤ next) (h2 : next ≤ 4611686018427387904) (h3 : d.length ≤ 4000)
    (hfit : endR first rs + secs d.length < behind) : Clean (doneOps (appOps first rs next d) M) first behind (rs ++ [(next, d)]) := by
  obtain ⟨f1, f2, f3⟩ := atData_facts (first := first) (rs := rs) (d := d) h.calm
  have e : doneOps (appOps first rs next d) M = ((atData M first rs d).written (endR first rs) (headL next d.length)).flushed := by
    unfold appOps
    rw [doneOps_append]
    rfl
  have hs : ∀ i, ((atData M first rs d).written (endR first rs) (headL next d.length)).flushed.sure i = if i = endR first rs then headL next d.length else (atData M first rs d).sure i := by
    intro i
    show ((if i = endR first rs then some (headL next d.length) else (atData M first rs d).wr i)).getD ((atData M first rs d).sure i) = _
    by_cases hi : i = endR first rs
    · rw [if_pos hi, if_pos hi]; rfl
    · rw [if_neg hi, if_neg hi, f1 i]; rfl
  rw [e]
  refine ⟨fun i => rfl, laid_more ?_ hn h1 h2 h3 hfit ?_ ?_, fun i hi hb => ?_⟩
  · exact h.laid.congr fun i _ hi => by rw [hs, if_neg (by omega), f2 i (by omega)]
  · rw [hs, if_pos rfl]
  · intro i hi; rw [hs, if_neg (by omega)]; exact f3 i hi
  · rw [endR_append] at hi
    change endR first rs + 1 + secs d.length ≤ i at hi
    rw [hs, if_neg (by omega), f2 i (by omega)]
    exact h.zero i (by omega) hb
/-- Wherever the power goes within an Append: the records, or these and the new one. -/
theorem append_cut (h : Clean M first behind rs) (hf : first ≤ behind) (hn : nextR none rs = none ∨ nextR none rs = some next) (h1 : 1 ≤ next) (h2 : next ≤ 4611686018427387904) (h3 : d.length ≤ 4000)
    (hfit : endR first rs + secs d.length < behind) {k : Nat} {g : Nat → List UInt8} (hg : Crashes (doneOps ((appOps first rs next d).take k) M) behind g) :
    Whole g first behind rs ∨ Whole g first behind (rs ++ [(next, d)]) := by
  have hW := h.whole
  have heb : endR first rs < behind := by omega
  by_cases c1 : k ≤ secs d.length
  · left
    have e : (appOps first rs next d).take k = wrs (endR first rs + 1) ((chunks d).take k) := by
      unfold appOps
      rw [List.take_append_of_le_length (by rw [wrs_len, chunks_len]; exact c1), wrs_take]
    rw [e] at hg
    obtain ⟨q1, q2⟩ := done_wrs (endR first rs + 1) ((chunks d).take k) M
    have hsame : ∀ i, i ≤ endR first rs → i < behind → g i = M.sure i := fun i hi hb => by
      have := mix_zero (hg i hb) (by rw [q2, if_neg (by omega)]; exact h.calm i)
      rw [this, q1]
    exact hW.congr hf (fun i _ hb hi => hsame i (by omega) hb) (fun hl => by rw [hsame _ (Nat.le_refl _) hl]; exact hW.stop hl)
  · obtain ⟨f1, f2, f3⟩ := atData_facts (first := first) (rs := rs) (d := d) h.calm
    by_cases c2 : k = secs d.length + 1
    · left
      have e : doneOps ((appOps first rs next d).take k) M = atData M first rs d := by
        unfold appOps
        rw [c2, List.take_append, wrs_len, chunks_len, List.take_of_length_le (by rw [wrs_len, chunks_len]; omega), show secs d.length + 1 - secs d.length = 1 by omega, doneOps_append]
        rfl
      rw [e] at hg
      have hsame : ∀ i, i ≤ endR first rs → i < behind → g i = M.sure i := fun i hi hb => by
        rw [mix_zero (hg i hb) (f1 i), f2 i (by omega)]
      exact hW.congr hf (fun i _ hb hi => hsame i (by omega) hb) (fun hl => by rw [hsame _ (Nat.le_refl _) hl]; exact hW.stop hl)
    · by_cases c3 : k = secs d.length + 2
      · have e : doneOps ((appOps first rs next d).take k) M = (atData M first rs d).written (endR first rs) (headL next d.length) := by
          unfold appOps
          rw [c3, List.take_append, wrs_len, chunks_len, List.take_of_length_le (by rw [wrs_len, chunks_len]; omega), show secs d.length + 2 - secs d.length = 2 by omega, doneOps_append]
          rfl
        rw [e] at hg
        have hwr : ∀ i, i ≠ endR first rs → ((atData M first rs d).written (endR first rs) (headL next d.length)).wr i = none := fun i hi => by
          show (if i = endR first rs then some (headL next d.length) else (atData M first rs d).wr i) = none
          rw [if_neg hi]; exact f1 i
        have hoth : ∀ i, i ≠ endR first rs → i < behind → g i = (atData M first rs d).sure i := fun i hi hb => mix_zero (M := (atData M first rs d).written (endR first rs) (headL next d.length)) (hg i hb) (hwr i hi)
        have hpre : ∀ i, i < endR first rs → i < behind → g i = M.sure i := fun i hi hb => by rw [hoth i (by omega) hb, f2 i (by omega)]
        have hat := hg (endR first rs) heb
        have hz : ((atData M first rs d).written (endR first rs) (headL next d.length)).sure (endR first rs) = zero64 := by
          show (atData M first rs d).sure _ = _
          rw [f2 _ (by omega)]; exact h.zero _ (Nat.le_refl _) heb
        have hget : ∃ c, g (endR first rs) = (headL next d.length).take c ++ zero64.drop c := by
          rcases hat with ⟨hw, _⟩ | ⟨l, c, hw, hb⟩
          · exfalso
            change (if endR first rs = endR first rs then some (headL next d.length) else _) = none at hw
            rw [if_pos rfl] at hw; cases hw
          · change (if endR first rs = endR first rs then some (headL next d.length) else _) = some l at hw
            rw [if_pos rfl] at hw
            injection hw with hw
            exact ⟨c, by rw [hb, hz, ← hw]⟩
        obtain ⟨c, hc⟩ := hget
        by_cases h64 : 64 ≤ c
        · right
          have hhead : g (endR first rs) = headL next d.length := by rw [hc, List.take_of_length_le (by rw [headL_len]; exact h64), List.drop_of_length_le (by simpa [zero64] using h64), List.append_nil]
          refine ⟨laid_more (h.laid.congr fun i _ hi => hpre i hi (by omega)) hn h1 h2 h3 hfit hhead ?_, ?_⟩
          · intro i hi; rw [hoth _ (by omega) (by omega)]; exact f3 i hi
          · rw [endR_append]
            intro hl
            change endR first rs + 1 + secs d.length < behind at hl
            show (g (endR first rs + 1 + secs d.length))[63]? = some 0
            rw [hoth _ (by omega) hl, f2 _ (by omega), h.zero _ (by omega) hl]
            simp [zero64]
        · left
          refine hW.congr hf (fun i _ hb hi => hpre i hi hb) (fun hl => ?_)
          have hcl : ((headL next d.length).take c).length = c := by rw [List.length_take, headL_len]; omega
          rw [hc, List.getElem?_append_right (by omega), hcl, List.getElem?_drop, show c + (63 - c) = 63 by omega]
          simp [zero64]
      · right
        have hk : (appOps first rs next d).take k = appOps first rs next d := List.take_of_length_le (by rw [appOps_len]; omega)
        rw [hk] at hg
        exact (append_all h hn h1 h2 h3 hfit).crash hf hg
end

/-- Wherever the power goes within a wiping of what is behind the records, these stay. -/
theorem wipe_cut {M : DM} {first behind : Nat} {rs : List Rec} {L : List Nat} (h : Whole M.sure first behind rs) (hc : Calm M) (hf : first ≤ behind) (hL : ∀ i ∈ L, endR first rs ≤ i)
    {k : Nat} {g : Nat → List UInt8} (hg : Crashes (doneOps ((wipeOps L).take k) M) behind g) : Whole g first behind rs := by
  have key : ∀ (M' : DM), (∀ i, i < endR first rs → M'.wr i = none ∧ M'.sure i = M.sure i) → (endR first rs < behind → (M'.sure (endR first rs))[63]? = some 0 ∧ (M'.wr (endR first rs) = none ∨ M'.wr (endR first rs) = some zero64)) → Crashes M' behind g → Whole g first behind rs := by
    intro M' h1 h2 h3
    refine h.congr hf (fun i _ hb hi => ?_) (fun hl => ?_)
    · rw [mix_zero (h3 i hb) (h1 i hi).1, (h1 i hi).2]
    · obtain ⟨h4, h5⟩ := h2 hl
      rcases h3 _ hl with ⟨_, hb⟩ | ⟨l, c, hw, hb⟩
      · rw [hb]; exact h4
      · have : l = zero64 := by
          rcases h5 with h5 | h5
          · rw [h5] at hw; cases hw
          · rw [h5] at hw; injection hw with hw; exact hw.symm
        rw [hb, this]
        by_cases h64 : 64 ≤ c
        · rw [List.take_of_length_le (by simpa [zero64] using h64), List.getElem?_append_left (by simp [zero64])]
          simp [zero64]
        · rw [List.getElem?_append_right (by simp [zero64]; omega)]
          have : (zero64.take c).length = c := by simp [zero64]; omega
          rw [this, List.getElem?_drop, show c + (63 - c) = 63 by omega]
          exact h4
  by_cases c1 : k ≤ L.length
  · have e : (wipeOps L).take k = zeroOps (L.take k) := by
      unfold wipeOps
      rw [List.take_append_of_le_length (by simpa [zeroOps] using c1), zeroOps_take]
    rw [e] at hg
    obtain ⟨q1, q2⟩ := done_zero (L.take k) M
    refine key _ (fun i hi => ⟨?_, by rw [q1]⟩) (fun hl => ⟨by rw [q1]; exact h.stop hl, ?_⟩) hg
    · rw [q2, if_neg (fun hm => by have := hL i (List.mem_of_mem_take hm); omega)]; exact hc i
    · rw [q2]
      split
      · exact .inr rfl
      · exact .inl (hc _)
  · have e : (wipeOps L).take k = wipeOps L := List.take_of_length_le (by simp [wipeOps, zeroOps]; omega)
    rw [e] at hg
    unfold wipeOps at hg
    rw [doneOps_append] at hg
    obtain ⟨q1, q2⟩ := done_zero L M
    refine key _ (fun i hi => ⟨rfl, ?_⟩) (fun hl => ⟨?_, .inl rfl⟩) hg
    · show ((doneOps (zeroOps L) M).wr i).getD ((doneOps (zeroOps L) M).sure i) = _
      rw [q2, if_neg (fun hm => by have := hL i hm; omega), hc i, q1]; rfl
    · show (((doneOps (zeroOps L) M).wr (endR first rs)).getD ((doneOps (zeroOps L) M).sure (endR first rs)))[63]? = _
      rw [q2]
      split
      · simp [zero64]
      · rw [hc, q1]; exact h.stop hl
end Go.Proofs.Ytajakmfloeefpaa
/- Wherever the power goes within a Reset. -/
namespace Go.Proofs.Ytajakmfloeefpaa

def heads : Nat → List Rec → List Nat
  | _, [] => []
  | a, (_, d) :: r => a :: heads (a + 1 + secs d.length) r
def others : Nat → List Rec → List Nat
  | _, [] => []
  | a, (_, d) :: r => ((List.range (secs d.length)).map fun i => a + 1 + i) ++ others (a + 1 + secs d.length) r
theorem heads_ge {i : Nat} : ∀ {a : Nat} {rs : List Rec}, i ∈ heads a rs → a ≤ i ∧ i < endR a rs
  | a, (s, d) :: r, h => by
    have hle := endR_le (a + 1 + secs d.length) r
    rcases List.mem_cons.1 h with rfl | h
    · refine ⟨Nat.le_refl _, ?_⟩; show _ < endR (_ + 1 + secs d.length) r; omega
    · have := heads_ge h; refine ⟨by omega, ?_⟩; show _ < endR (_ + 1 + secs d.length) r; omega
theorem others_ge {i : Nat} : ∀ {a : Nat} {rs : List Rec}, i ∈ others a rs → a < i ∧ i < endR a rs
  | a, (s, d) :: r, h => by
    have hle := endR_le (a + 1 + secs d.length) r
    rcases List.mem_append.1 h with h | h
    · obtain ⟨j, hj, rfl⟩ := List.mem_map.1 h
      have := List.mem_range.1 hj
      refine ⟨by omega, ?_⟩; show _ < endR (_ + 1 + secs d.length) r; omega
    · have := others_ge h; refine ⟨by omega, ?_⟩; show _ < endR (_ + 1 + secs d.length) r; omega
theorem apart {i : Nat} : ∀ {a : Nat} {rs : List Rec}, i ∈ heads a rs → i ∉ others a rs
  | a, (s, d) :: r, h, h' => by
    rcases List.mem_cons.1 h with rfl | h
    · have := others_ge h'; omega
    · rcases List.mem_append.1 h' with h' | h'
      · obtain ⟨j, hj, rfl⟩ := List.mem_map.1 h'
        have := List.mem_range.1 hj
        have := heads_ge h
        omega
      · exact apart h h'
theorem heads_len (a : Nat) (rs : List Rec) : (heads a rs).length = rs.length := by
  induction rs generalizing a with
  | nil => rfl
  | cons x r ih => obtain ⟨s, d⟩ := x; simp [heads, ih]
/-- With some heads gone the records ahead of the first of them are left. -/
theorem scan_less {g g' : Nat → List UInt8} {behind : Nat} : ∀ {a : Nat} {nx : Option Nat} {rs : List Rec}, Laid g behind a nx rs → (∀ i ∈ heads a rs, g' i = g i ∨ hdr (g' i) = none) → (∀ i ∈ others a rs, g' i = g i) →
    (endR a rs < behind → hdr (g' (endR a rs)) = none) → scan g' behind a nx <+: rs
  | a, nx, [], _, _, _, h4 => by rw [scan_none (a := a) (fun h => h4 h)]; exact List.prefix_refl _
  | a, nx, (s, d) :: r, ⟨h1, h2, h3, h4, h5⟩, hh, ho, he => by
    rcases hh a (by simp [heads]) with e | e
    · have hc : ∀ i, i < secs d.length → g' (a + 1 + i) = g (a + 1 + i) := fun i hi => ho _ (List.mem_append_left _ (List.mem_map.2 ⟨i, List.mem_range.2 hi, rfl⟩))
      rw [scan_some (by rw [e]; exact h1) h2 h3, cat_congr hc, h4]
      exact (List.prefix_cons_inj _).2 (scan_less h5 (fun i hi => hh i (List.mem_cons_of_mem _ hi)) (fun i hi => ho i (List.mem_append_right _ hi)) he)
    · rw [scan_none (fun _ => e)]; exact List.nil_prefix
def rstOps (first : Nat) (rs : List Rec) : List DOp := if rs = [] then [] else wipeOps (heads first rs) ++ wipeOps (others first rs)
/-- Wherever the power goes within a Reset: the records ahead of some one, or all, or none. -/
theorem reset_cut {M : DM} {first behind : Nat} {rs : List Rec} (h : Clean M first behind rs) {k : Nat} {g : Nat → List UInt8} (hg : Crashes (doneOps ((rstOps first rs).take k) M) behind g) (hf : first ≤ behind) :
    scan g behind first none <+: rs ∧ ((rstOps first rs).length ≤ k → scan g behind first none = []) := by
  by_cases h0 : rs = []
  · subst h0
    have hg' : Crashes M behind g := by simpa [rstOps, doneOps] using hg
    have := (h.crash hf hg').scan
    exact ⟨by rw [this]; exact List.prefix_refl _, fun _ => this⟩
  · have hops : rstOps first rs = wipeOps (heads first rs) ++ wipeOps (others first rs) := if_neg h0
    have hwl : (wipeOps (heads first rs)).length = rs.length + 1 := by simp [wipeOps, zeroOps, heads_len]
    have hend := h.laid.end_le hf
    by_cases c1 : k ≤ rs.length
    · have e : (rstOps first rs).take k = zeroOps ((heads first rs).take k) := by
        rw [hops, List.take_append_of_le_length (by omega)]
        unfold wipeOps
        rw [List.take_append_of_le_length (by simp [zeroOps, heads_len]; omega), zeroOps_take]
      rw [e] at hg
      obtain ⟨q1, q2⟩ := done_zero ((heads first rs).take k) M
      refine ⟨?_, fun hl => by rw [hops, List.length_append, hwl] at hl; omega⟩
      refine scan_less h.laid (fun i hi => ?_) (fun i hi => ?_) (fun hl => ?_)
      · have hib := heads_ge hi
        rcases hg i (by omega) with ⟨hw, hb⟩ | ⟨l, c, hw, hb⟩
        · left; rw [hb, q1]
        · rw [q2] at hw
          split at hw
          · injection hw with hw
            by_cases hc : c = 0
            · left; rw [hb, hc, q1]; simp
            · right
              refine hdr_first ?_
              rw [hb, ← hw, List.getElem?_append_left (by simp [zero64]; omega), List.getElem?_take_of_lt (by omega)]
              simp [zero64]
          · rw [h.calm i] at hw; cases hw
      · have hib := others_ge hi
        rw [mix_zero (hg i (by omega)) (by rw [q2, if_neg (fun hm => apart (List.mem_of_mem_take hm) hi)]; exact h.calm i), q1]
      · rw [mix_zero (hg _ hl) (by rw [q2, if_neg (fun hm => by have := heads_ge (List.mem_of_mem_take hm); omega)]; exact h.calm _), q1, h.zero _ (Nat.le_refl _) hl]
        exact hdr_zero
    · have hz : first < behind → g first = zero64 := by
        intro hl
        obtain ⟨j, hj⟩ : ∃ j, k = rs.length + 1 + j := ⟨k - (rs.length + 1), by omega⟩
        have e : (rstOps first rs).take k = wipeOps (heads first rs) ++ (wipeOps (others first rs)).take j := by
          rw [hops, List.take_append, List.take_of_length_le (by omega), hwl, show k - (rs.length + 1) = j by omega]
        rw [e, doneOps_append] at hg
        have hmem : first ∈ heads first rs := by
          cases rs with
          | nil => exact absurd rfl h0
          | cons x r => obtain ⟨s, d⟩ := x; simp [heads]
        have hno : first ∉ others first rs := apart hmem
        obtain ⟨q1, q2⟩ := done_zero (heads first rs) M
        have hs1 : (doneOps (wipeOps (heads first rs)) M).sure first = zero64 ∧ (doneOps (wipeOps (heads first rs)) M).wr first = none := by
          unfold wipeOps
          rw [doneOps_append]
          refine ⟨?_, rfl⟩
          show ((doneOps (zeroOps (heads first rs)) M).wr first).getD _ = _
          rw [q2, if_pos hmem]; rfl
        generalize doneOps (wipeOps (heads first rs)) M = M1 at hs1 hg
        have hs2 : (doneOps ((wipeOps (others first rs)).take j) M1).sure first = zero64 ∧ (doneOps ((wipeOps (others first rs)).take j) M1).wr first = none := by
          by_cases c2 : j ≤ (others first rs).length
          · have e2 : (wipeOps (others first rs)).take j = zeroOps ((others first rs).take j) := by
              unfold wipeOps
              rw [List.take_append_of_le_length (by simpa [zeroOps] using c2), zeroOps_take]
            obtain ⟨p1, p2⟩ := done_zero ((others first rs).take j) M1
            rw [e2, p1, p2, if_neg (fun hm => hno (List.mem_of_mem_take hm))]
            exact hs1
          · have e2 : (wipeOps (others first rs)).take j = wipeOps (others first rs) := List.take_of_length_le (by simp [wipeOps, zeroOps]; omega)
            obtain ⟨p1, p2⟩ := done_zero (others first rs) M1
            rw [e2]
            unfold wipeOps
            rw [doneOps_append]
            refine ⟨?_, rfl⟩
            show ((doneOps (zeroOps (others first rs)) M1).wr first).getD ((doneOps (zeroOps (others first rs)) M1).sure first) = _
            rw [p2, if_neg hno, hs1.2, p1]
            exact hs1.1
        rw [mix_zero (hg first hl) hs2.2, hs2.1]
      have hs : scan g behind first none = [] := scan_none (fun hl => by rw [hz hl]; exact hdr_zero)
      exact ⟨by rw [hs]; exact List.nil_prefix, fun _ => hs⟩
end Go.Proofs.Ytajakmfloeefpaa
