/- Package lex: token, number, first. -/
import Derived.Test.YtombkcdoeiffiaaDoorLexB
import Derived.Test.YtombkcdoeiffiaaDoorShelf
import Derived.WalkSmall
namespace Go.Proofs.YtombkcdoeiffiaaDoor
open Go.RowKit
set_option linter.unusedVariables false
set_option linter.unusedSimpArgs false

/-- The two errors of strconv hold something. -/
def Errs (w : World) : Prop := 0 < w.heap.size ∧ 1 < w.heap.size ∧ ∃ (t : TypeId) (p : Value) (t' : TypeId) (p' : Value), w.cell? ⟨0, 0, none⟩ = some (.iface t p) ∧ w.cell? ⟨1, 0, none⟩ = some (.iface t' p')
theorem Errs.below {W w : World} {B : Nat} (h : Errs W) (hb : Below B W w) (hB : W.heap.size ≤ B) : Errs w := by
  obtain ⟨h0, h0', t, p, t', p', h1, h2⟩ := h
  exact ⟨Nat.lt_of_lt_of_le h0 hb.size, Nat.lt_of_lt_of_le h0' hb.size, t, p, t', p', (hb.cell (p := ⟨0, 0, none⟩) (Nat.lt_of_lt_of_le h0 hB)).trans h1, (hb.cell (p := ⟨1, 0, none⟩) (Nat.lt_of_lt_of_le h0' hB)).trans h2⟩

def str (b : List UInt8) : ByteArray := ⟨b.toArray⟩
theorem str_data (s : ByteArray) : str s.data.toList = s := by cases s; simp [str]
theorem str_of (s : ByteArray) (l : List UInt8) (h : s.data.toList = l) : s = str l := by rw [← h, str_data]
def tokV (k : Nat) (b : List UInt8) (line col : Nat) : Value := .agg #[.int .i64 k, .string (str b), .int .i64 line, .int .i64 col]
def cutV : Cut → Value
  | .ok k b s => .tuple #[tokV k b 0 0, .int .i64 s, .int .i64 0]
  | .bad c => .tuple #[tokV 0 [] 0 0, .int .i64 0, .int .i64 c]

theorem Clone_any (s : ByteArray) (hs : s.size ≤ 281474976710656) (W : World) :
    Calls Tryd.prog 31 #[.string s] W fun e w' => e = .returned (.string s) ∧ Below W.heap.size W w' := by
  go_enter Tryd.func31, Tryd.ntmps31
  go_wp2_with ((with_reducible refine (Tryd.stringslite_Clone _ _ hs).mono ?_); rintro e w' ⟨rfl, hb⟩)
  go_ret
  exact ⟨rfl, hb⟩
/-- A block of four cells of the call's own, that may be written. -/
def Four (c : Nat) (v0 v1 v2 v3 : Value) (w : World) : Prop :=
  c < w.heap.size ∧ w.cell? ⟨c, 0, none⟩ = some v0 ∧ w.cell? ⟨c, 1, none⟩ = some v1 ∧ w.cell? ⟨c, 2, none⟩ = some v2 ∧ w.cell? ⟨c, 3, none⟩ = some v3 ∧
  w.frozen? ⟨c, 0, none⟩ = false ∧ w.frozen? ⟨c, 1, none⟩ = false ∧ w.frozen? ⟨c, 2, none⟩ = false ∧ w.frozen? ⟨c, 3, none⟩ = false
theorem Four.new (W : World) (v0 v1 v2 v3 : Value) (t : TypeId) : Four W.heap.size v0 v1 v2 v3 (W.alloc (.cells #[v0, v1, v2, v3] t)) := by
  refine ⟨by simp, ?_, ?_, ?_, ?_, World.frozen?_alloc_at _ _ _ _ rfl, World.frozen?_alloc_at _ _ _ _ rfl, World.frozen?_alloc_at _ _ _ _ rfl, World.frozen?_alloc_at _ _ _ _ rfl⟩ <;> (rw [World.cell?_alloc_at _ _ _ _ rfl]; rfl)
theorem Four.below {c : Nat} {v0 v1 v2 v3 : Value} {W w : World} {B : Nat} (h : Four c v0 v1 v2 v3 W) (hb : Below B W w) (hc : c < B) : Four c v0 v1 v2 v3 w := by
  obtain ⟨z, y0, y1, y2, y3, f0, f1, f2, f3⟩ := h
  exact ⟨Nat.lt_of_lt_of_le z hb.size, (hb.cell (p := ⟨c, 0, none⟩) hc).trans y0, (hb.cell (p := ⟨c, 1, none⟩) hc).trans y1, (hb.cell (p := ⟨c, 2, none⟩) hc).trans y2, (hb.cell (p := ⟨c, 3, none⟩) hc).trans y3,
    (hb.frozen (p := ⟨c, 0, none⟩) hc).trans f0, (hb.frozen (p := ⟨c, 1, none⟩) hc).trans f1, (hb.frozen (p := ⟨c, 2, none⟩) hc).trans f2, (hb.frozen (p := ⟨c, 3, none⟩) hc).trans f3⟩
theorem Four.kept {W w : World} {v0 v1 v2 v3 : Value} {t : TypeId} (hb : Below (W.alloc (.cells #[v0, v1, v2, v3] t)).heap.size (W.alloc (.cells #[v0, v1, v2, v3] t)) w) : Four W.heap.size v0 v1 v2 v3 w :=
  (Four.new W v0 v1 v2 v3 t).below hb (by simp)
/-- From w on, nothing below B has changed. -/
def Past (B : Nat) (W w : World) : Prop := B ≤ W.heap.size ∧ Below B W w
theorem Past.refl {B : Nat} {W : World} (h : B ≤ W.heap.size) : Past B W W := ⟨h, Below.refl _ _⟩
theorem Past.size {B : Nat} {W w : World} (h : Past B W w) : B ≤ w.heap.size := Nat.le_trans h.1 h.2.size
theorem Past.alloc {B : Nat} {W w : World} (h : Past B W w) (o : Obj) : Past B W (w.alloc o) := ⟨h.1, h.2.alloc h.size o⟩
theorem Past.set {B : Nat} {W w : World} (h : Past B W w) {a : Addr} (ha : B ≤ a.block) (v : Value) : Past B W (w.setCell a v) := ⟨h.1, h.2.setCell ha v⟩
theorem Past.trans {B : Nat} {a b c : World} (h : Past B a b) (k : Past B b c) : Past B a c := ⟨h.1, h.2.trans k.2⟩
theorem Past.on {B : Nat} {a b c : World} (h : Past B a b) (k : Below b.heap.size b c) : Past B a c := ⟨h.1, h.2.trans (k.mono h.size)⟩
theorem Past.drew {B : Nat} {W w : World} (h : Past B W w) : Past B W w.drew := ⟨h.1, ⟨h.2.os, h.2.tape, h.2.output, h.2.size, h.2.block⟩⟩

theorem token_any (k : Int) (s : ByteArray) (hs : s.size ≤ 281474976710656) (W : World) :
    Calls Tryd.prog 23 #[.int .i64 k, .string s] W fun e w' => e = .returned (.agg #[.int .i64 k, .string s, .int .i64 0, .int .i64 0]) ∧ Below W.heap.size W w' := by
  have c1 := Clone_any s hs
  have hP := Past.refl (Nat.le_refl W.heap.size)
  go_enter Tryd.func23, Tryd.ntmps23
  go_wp2_with ((with_reducible refine (c1 _).mono ?_); rintro e w' ⟨rfl, hb⟩; obtain ⟨z, y0, y1, y2, y3, f0, f1, f2, f3⟩ := Four.kept hb)
  refine bodyPost_ret (v := .agg #[.int .i64 k, .string s, .int .i64 0, .int .i64 0]) (by simp [results, Tryd.results23, go_sem, y0, y1, y2, y3]) rfl ⟨rfl, ?_⟩
  exact ((((hP.alloc _).on hb).set (a := ⟨W.heap.size, 0, none⟩) (Nat.le_refl _) _).set (a := ⟨W.heap.size, 1, none⟩) (Nat.le_refl _) _ |>.set (a := ⟨W.heap.size, 2, none⟩) (Nat.le_refl _) _ |>.set (a := ⟨W.heap.size, 3, none⟩) (Nat.le_refl _) _).2

theorem number_pass (k : Nat) (l : List UInt8) (m x : Nat) : number k l m x = match number k l m 0 with | .ok k b s => .ok k b (x + s) | .bad c => .bad c := by
  unfold number
  split
  · rfl
  · split
    · split <;> simp
    · rfl
theorem parse_ok (d : ByteArray) (hd : d.size ≤ 281474976710656) (u : Nat) (h : Lib.parseUintB 64 d.data.toList = .ok u) (w : World) :
    Calls Tryd.prog 32 #[.string d, .int .i64 10, .int .i64 64] w fun e w' => e = .returned (.tuple #[.int .u64 u, .nilIface]) ∧ Below w.heap.size w w' := by
  refine (Tryd.strconv_ParseUint_10_at64_ok d (by omega) u h w).mono ?_
  rintro e w' ⟨rfl, hw⟩
  refine ⟨rfl, ?_⟩
  rcases hw with rfl | rfl
  · exact Below.refl _ _
  · exact Lib.bytesWorld_below _ _ _
theorem parse_bad (d : ByteArray) (hd : d.size ≤ 281474976710656) (h : ∀ u, Lib.parseUintB 64 d.data.toList ≠ .ok u) (w : World) (hE : Errs w) :
    Calls Tryd.prog 32 #[.string d, .int .i64 10, .int .i64 64] w fun e w' => ∃ (x : Int) (t : TypeId) (p : Value), e = .returned (.tuple #[.int .u64 x, .iface t p]) ∧ Below w.heap.size w w' := by
  obtain ⟨_, _, t, p, t', p', h1, h2⟩ := hE
  cases hp : Lib.parseUintB 64 d.data.toList
  · exact absurd hp (h _)
  · have c : Calls Tryd.prog 32 #[.string d, .int .i64 10, .int .i64 64] w fun e w' => ∃ N, e = .returned (.tuple #[.int .u64 0, .iface 61 (.pointer (some ⟨N, 0, none⟩))]) ∧ w.heap.size ≤ N ∧ w'.heap[N]? = some (.cells #[.string ⟨#[80, 97, 114, 115, 101, 85, 105, 110, 116]⟩, .string d, .iface t p] 65 (0, 0)) ∧ Below w.heap.size w w' :=
      Any.strconv_ParseUint_10_at64_syntax Tryd.laysPu14 d hd hp _ w h1 (Or.inr ⟨t, p, rfl⟩)
    refine c.mono ?_
    rintro e w' ⟨N, rfl, _, _, hb⟩
    exact ⟨_, _, _, rfl, hb⟩
  · have c : Calls Tryd.prog 32 #[.string d, .int .i64 10, .int .i64 64] w fun e w' => ∃ N, e = .returned (.tuple #[.int .u64 18446744073709551615, .iface 61 (.pointer (some ⟨N, 0, none⟩))]) ∧ w.heap.size ≤ N ∧ w'.heap[N]? = some (.cells #[.string ⟨#[80, 97, 114, 115, 101, 85, 105, 110, 116]⟩, .string d, .iface t' p'] 65 (0, 0)) ∧ Below w.heap.size w w' :=
      Any.strconv_ParseUint_10_at64_range Tryd.laysPu14 d hd hp _ w h2 (Or.inr ⟨t', p', rfl⟩)
    refine c.mono ?_
    rintro e w' ⟨N, rfl, _, _, hb⟩
    exact ⟨_, _, _, rfl, hb⟩

/-- What number makes of the digits d. -/
def numCut (k : Nat) (b : List UInt8) (most : Nat) (n : Nat) : Cut := match Lib.parseUintB 64 b with
  | .ok u => if most < u then .bad 2 else .ok k b (0 + n)
  | _ => .bad 2
set_option maxHeartbeats 2000000 in
theorem number_any (k : Nat) (s : ByteArray) (most : Nat) (hs : s.size ≤ 281474976710656) (hm : most < 18446744073709551616) (W : World) (hE : Errs W) :
    Calls Tryd.prog 26 #[.int .i64 k, .string s, .int .u64 most] W fun e w' => e = .returned (cutV (number k s.data.toList most 0)) ∧ Below W.heap.size W w' := by
  have c1 := sizeOf_any s 25 isDigit sort_digit (by omega)
  have hn := runOf_le isDigit s.data.toList
  rw [← Lib.size_eq] at hn
  have hd : (s.extract 0 (runOf isDigit s.data.toList)).data.toList = s.data.toList.takeWhile isDigit := by rw [Lib.extract_data]; simp [take_runOf]
  have hnum : number k s.data.toList most 0 = if 1 < runOf isDigit s.data.toList ∧ (s.data.toList.head?.map UInt8.toNat) = some 48 then .bad 2 else numCut k (s.data.toList.takeWhile isDigit) most (runOf isDigit s.data.toList) := rfl
  rw [hnum, ← hd]
  have hz : (s.extract 0 (runOf isDigit s.data.toList)).size = runOf isDigit s.data.toList := by rw [Lib.size_eq, hd]; rfl
  have h0 : ∀ (h : 0 < (s.extract 0 (runOf isDigit s.data.toList)).size), (s.data.toList.head?.map UInt8.toNat) = some (s.extract 0 (runOf isDigit s.data.toList))[0].toNat := by
    intro h
    have h2 := cons_of (s.extract 0 (runOf isDigit s.data.toList)) 0 h
    rw [List.drop_zero, hd] at h2
    have h3 : ∀ l x y, List.takeWhile isDigit l = x :: y → l.head? = some x := by
      intro l x y h2
      cases l with
      | nil => simp at h2
      | cons c r =>
        rw [List.takeWhile_cons] at h2
        split at h2
        · injection h2 with h4; rw [List.head?_cons, h4]
        · cases h2
    rw [h3 _ _ _ h2]; rfl
  have hP := Past.refl (Nat.le_refl W.heap.size)
  have hE1 : ∀ v t, Errs (W.alloc (.cells v t)) := fun v t => hE.below (((Past.refl (Nat.le_refl _)).alloc _).2) (Nat.le_refl _)
  clear hd hnum
  generalize hdd : s.extract 0 (runOf isDigit s.data.toList) = d at *
  generalize runOf isDigit s.data.toList = n at *
  generalize s.data.toList.head?.map UInt8.toNat = hh at *
  rcases Nat.lt_or_ge 1 n with h1 | h1
  · have hx : 0 < d.size := by omega
    have h2 := h0 hx
    subst h2
    have h1' : (1 : Int) < (n : Int) := by omega
    by_cases h48 : d[0].toNat = 48
    · have h48' : ((d[0].toNat : Int) == 48) = true := by rw [h48]; rfl
      rw [if_pos ⟨h1, by rw [h48]⟩]
      go_enter Tryd.func26, Tryd.ntmps26
      go_wp2_with ((with_reducible refine (c1 _).mono ?_); rintro e w' ⟨rfl, rfl⟩)
      refine bodyPost_ret (v := cutV (.bad 2)) (by simp [results, Tryd.results26, go_sem, cutV, tokV, str]) rfl ⟨rfl, (hP.alloc _).2⟩
    · have h48' : ((d[0].toNat : Int) == 48) = false := by simp; omega
      rw [if_neg (fun h => h48 (by injection h.2))]
      clear h48 h0 h1
      cases hp : Lib.parseUintB 64 d.data.toList with
      | ok u =>
        have hb64 : u < 18446744073709551616 := by rw [Lib.parseUintB_64] at hp; exact Lib.parseMag_lt hp
        by_cases hu : most < u
        · have hcut : numCut k d.data.toList most n = .bad 2 := by simp [numCut, hp, hu]
          rw [hcut]
          go_enter Tryd.func26, Tryd.ntmps26
          go_wp2_with (first
            | ((with_reducible refine (c1 _).mono ?_); rintro e w' ⟨rfl, rfl⟩)
            | ((with_reducible refine (parse_ok d (by omega) u hp _).mono ?_); rintro e w1 ⟨rfl, hb1⟩; obtain ⟨z, y0, y1, y2, y3, f0, f1, f2, f3⟩ := Four.kept hb1))
          refine bodyPost_ret (v := cutV (.bad 2)) (by simp [results, Tryd.results26, go_sem, cutV, tokV, str, y0, y1, y2, y3]) rfl ⟨rfl, ?_⟩
          exact (((((hP.alloc _).on hb1).set (a := ⟨W.heap.size, 0, none⟩) (Nat.le_refl _) _).set (a := ⟨W.heap.size, 1, none⟩) (Nat.le_refl _) _).set (a := ⟨W.heap.size, 2, none⟩) (Nat.le_refl _) _).set (a := ⟨W.heap.size, 3, none⟩) (Nat.le_refl _) _ |>.2
        · have hcut : numCut k d.data.toList most n = .ok k d.data.toList (0 + n) := by simp [numCut, hp, hu]
          rw [hcut]
          go_enter Tryd.func26, Tryd.ntmps26
          go_wp2_with (first
            | ((with_reducible refine (c1 _).mono ?_); rintro e w' ⟨rfl, rfl⟩)
            | ((with_reducible refine (parse_ok d (by omega) u hp _).mono ?_); rintro e w1 ⟨rfl, hb1⟩; have q1 := Four.kept hb1; obtain ⟨z, y0, y1, y2, y3, f0, f1, f2, f3⟩ := id q1)
            | ((with_reducible refine (token_any k d (by omega) _).mono ?_); rintro e w2 ⟨rfl, hb2⟩; have q2 := q1.below hb2 q1.1; clear y0 y1 y2 y3 f0 f1 f2 f3; obtain ⟨z, y0, y1, y2, y3, f0, f1, f2, f3⟩ := id q2))
          refine bodyPost_ret (v := cutV (.ok k d.data.toList (0 + n))) (by simp [results, Tryd.results26, go_sem, cutV, tokV, str_data, y0, y1, y2, y3]) rfl ⟨rfl, ?_⟩
          exact ((((((hP.alloc _).on hb1).on hb2).set (a := ⟨W.heap.size, 0, none⟩) (Nat.le_refl _) _).set (a := ⟨W.heap.size, 1, none⟩) (Nat.le_refl _) _).set (a := ⟨W.heap.size, 2, none⟩) (Nat.le_refl _) _).set (a := ⟨W.heap.size, 3, none⟩) (Nat.le_refl _) _ |>.2
      | _ =>
        have hcut : numCut k d.data.toList most n = .bad 2 := by simp [numCut, hp]
        rw [hcut]
        have hno : ∀ u, Lib.parseUintB 64 d.data.toList ≠ .ok u := fun u h => by rw [hp] at h; cases h
        go_enter Tryd.func26, Tryd.ntmps26
        go_wp2_with (first
          | ((with_reducible refine (c1 _).mono ?_); rintro e w' ⟨rfl, rfl⟩)
          | ((with_reducible refine (parse_bad d (by omega) hno _ (hE1 _ _)).mono ?_); rintro e w1 ⟨x, tt, pp, rfl, hb1⟩; obtain ⟨z, y0, y1, y2, y3, f0, f1, f2, f3⟩ := Four.kept hb1))
        refine bodyPost_ret (v := cutV (.bad 2)) (by simp [results, Tryd.results26, go_sem, cutV, tokV, str, y0, y1, y2, y3]) rfl ⟨rfl, ?_⟩
        exact (((((hP.alloc _).on hb1).set (a := ⟨W.heap.size, 0, none⟩) (Nat.le_refl _) _).set (a := ⟨W.heap.size, 1, none⟩) (Nat.le_refl _) _).set (a := ⟨W.heap.size, 2, none⟩) (Nat.le_refl _) _).set (a := ⟨W.heap.size, 3, none⟩) (Nat.le_refl _) _ |>.2
  · have hc : ¬ (1 < n ∧ hh = some 48) := fun h => by omega
    have h1' : ¬ ((1 : Int) < (n : Int)) := by omega
    rw [if_neg hc]
    clear h0 hc
    cases hp : Lib.parseUintB 64 d.data.toList with
    | ok u =>
      have hb64 : u < 18446744073709551616 := by rw [Lib.parseUintB_64] at hp; exact Lib.parseMag_lt hp
      by_cases hu : most < u
      · have hcut : numCut k d.data.toList most n = .bad 2 := by simp [numCut, hp, hu]
        rw [hcut]
        go_enter Tryd.func26, Tryd.ntmps26
        go_wp2_with (first
          | ((with_reducible refine (c1 _).mono ?_); rintro e w' ⟨rfl, rfl⟩)
          | ((with_reducible refine (parse_ok d (by omega) u hp _).mono ?_); rintro e w1 ⟨rfl, hb1⟩; obtain ⟨z, y0, y1, y2, y3, f0, f1, f2, f3⟩ := Four.kept hb1))
        refine bodyPost_ret (v := cutV (.bad 2)) (by simp [results, Tryd.results26, go_sem, cutV, tokV, str, y0, y1, y2, y3]) rfl ⟨rfl, ?_⟩
        exact (((((hP.alloc _).on hb1).set (a := ⟨W.heap.size, 0, none⟩) (Nat.le_refl _) _).set (a := ⟨W.heap.size, 1, none⟩) (Nat.le_refl _) _).set (a := ⟨W.heap.size, 2, none⟩) (Nat.le_refl _) _).set (a := ⟨W.heap.size, 3, none⟩) (Nat.le_refl _) _ |>.2
      · have hcut : numCut k d.data.toList most n = .ok k d.data.toList (0 + n) := by simp [numCut, hp, hu]
        rw [hcut]
        go_enter Tryd.func26, Tryd.ntmps26
        go_wp2_with (first
          | ((with_reducible refine (c1 _).mono ?_); rintro e w' ⟨rfl, rfl⟩)
          | ((with_reducible refine (parse_ok d (by omega) u hp _).mono ?_); rintro e w1 ⟨rfl, hb1⟩; have q1 := Four.kept hb1; obtain ⟨z, y0, y1, y2, y3, f0, f1, f2, f3⟩ := id q1)
          | ((with_reducible refine (token_any k d (by omega) _).mono ?_); rintro e w2 ⟨rfl, hb2⟩; have q2 := q1.below hb2 q1.1; clear y0 y1 y2 y3 f0 f1 f2 f3; obtain ⟨z, y0, y1, y2, y3, f0, f1, f2, f3⟩ := id q2))
        refine bodyPost_ret (v := cutV (.ok k d.data.toList (0 + n))) (by simp [results, Tryd.results26, go_sem, cutV, tokV, str_data, y0, y1, y2, y3]) rfl ⟨rfl, ?_⟩
        exact ((((((hP.alloc _).on hb1).on hb2).set (a := ⟨W.heap.size, 0, none⟩) (Nat.le_refl _) _).set (a := ⟨W.heap.size, 1, none⟩) (Nat.le_refl _) _).set (a := ⟨W.heap.size, 2, none⟩) (Nat.le_refl _) _).set (a := ⟨W.heap.size, 3, none⟩) (Nat.le_refl _) _ |>.2
    | _ =>
      have hcut : numCut k d.data.toList most n = .bad 2 := by simp [numCut, hp]
      rw [hcut]
      have hno : ∀ u, Lib.parseUintB 64 d.data.toList ≠ .ok u := fun u h => by rw [hp] at h; cases h
      go_enter Tryd.func26, Tryd.ntmps26
      go_wp2_with (first
        | ((with_reducible refine (c1 _).mono ?_); rintro e w' ⟨rfl, rfl⟩)
        | ((with_reducible refine (parse_bad d (by omega) hno _ (hE1 _ _)).mono ?_); rintro e w1 ⟨x, tt, pp, rfl, hb1⟩; obtain ⟨z, y0, y1, y2, y3, f0, f1, f2, f3⟩ := Four.kept hb1))
      refine bodyPost_ret (v := cutV (.bad 2)) (by simp [results, Tryd.results26, go_sem, cutV, tokV, str, y0, y1, y2, y3]) rfl ⟨rfl, ?_⟩
      exact (((((hP.alloc _).on hb1).set (a := ⟨W.heap.size, 0, none⟩) (Nat.le_refl _) _).set (a := ⟨W.heap.size, 1, none⟩) (Nat.le_refl _) _).set (a := ⟨W.heap.size, 2, none⟩) (Nat.le_refl _) _).set (a := ⟨W.heap.size, 3, none⟩) (Nat.le_refl _) _ |>.2
end Go.Proofs.YtombkcdoeiffiaaDoor
