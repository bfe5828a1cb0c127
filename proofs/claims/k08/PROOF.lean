import PyProof.Rows.All
import Wide.All
import OpenK.AllK
import Wide.FinOn
import HandS.ForMost
import HandS.IsInst
import HandS.Style
import HandS.TupLe
import HandS.Zip
import HandS.Wide
import HandS.NoneIn
import HandS.Codes
import HandS.TupAny
import HandS.Strs
import HandS.More
import HandS.Replace
import HandS.ReplaceLit
import HandS.ListItems
import HandS.Star
import PySem.Challenge.RW_storedesk_k08_folded_conditions
set_option Elab.async false
set_option maxRecDepth 100000
set_option maxHeartbeats 4000000
namespace SD
open PySem L2

/-! ### scalars and their order -/
def isSc : V → Bool
  | .non => true | .bl _ => true | .int _ => true | .str _ => true | _ => false
def rank : V → Int
  | .non => 0 | .bl _ => 1 | .int _ => 2 | _ => 3
def skB : V → V
  | .non => .int 0 | .bl b => .int (if b then 1 else 0) | v => v
def sk (v : V) : List V := [.int (rank v), skB v]
def ltB : V → V → Bool
  | .int i, .int j => decide (i < j)
  | .str s, .str t => decide (s.cps.toList < t.cps.toList)
  | _, _ => false
def keyLt (v w : V) : Bool := if rank v = rank w then ltB (skB v) (skB w) else decide (rank v < rank w)
def ordV (v w : V) : Int := if v = w then 0 else if keyLt v w = true then -1 else 1
def bi (b : Bool) : Int := if b then 1 else 0

theorem str_eq {x y : Str} (h : x.cps.toList = y.cps.toList) : x = y := by
  cases x; cases y; simp at h; rw [h]
theorem lts_irr (x : List Nat) : ¬ x < x := List.lt_irrefl x
theorem lts_as {x y : List Nat} (h : x < y) : ¬ y < x := fun g => List.lt_irrefl x (List.lt_trans h g)
theorem lts_tri {x y : List Nat} (h : ¬ x < y) (g : ¬ y < x) : x = y := List.le_antisymm (List.not_lt.mp g) (List.not_lt.mp h)

theorem due_ord (v w : V) (hv : isSc v = true) (hw : isSc w = true) : bi (keyLt w v) - bi (keyLt v w) = ordV v w := by
  cases v <;> cases w <;> simp [isSc] at hv hw
  case bl.bl a b => cases a <;> cases b <;> simp [ordV, keyLt, rank, skB, ltB, bi]
  case int.int i j =>
    simp only [ordV, keyLt, rank, skB, ltB, bi, V.int.injEq, if_true, decide_eq_true_eq]
    by_cases e : i = j
    · subst e; simp
    · by_cases l : i < j
      · have : ¬ j < i := by omega
        simp [e, l, this]
      · have : j < i := by omega
        simp [e, l, this]
  case str.str s t =>
    simp only [ordV, keyLt, rank, skB, ltB, bi, V.str.injEq, if_true, decide_eq_true_eq]
    by_cases e : s = t
    · subst e
      rw [if_neg (lts_irr _), if_pos rfl]; rfl
    · rw [if_neg e]
      by_cases l : s.cps.toList < t.cps.toList
      · rw [if_neg (lts_as l)]; simp [l]
      · have : t.cps.toList < s.cps.toList := by
          by_cases g : t.cps.toList < s.cps.toList
          · exact g
          · exact absurd (str_eq (lts_tri l g)) e
        rw [if_pos this]; simp [l]
  all_goals simp [ordV, keyLt, rank, skB, ltB, bi]
theorem keyLt_irr (v : V) (hv : isSc v = true) : keyLt v v = false := by
  cases v <;> simp [isSc] at hv
  case str s => simp only [keyLt, rank, skB, ltB, if_true, decide_eq_false_iff_not]; exact lts_irr _
  all_goals simp [keyLt, rank, skB, ltB]
theorem keyLt_ne {v w : V} (hv : isSc v = true) (h : keyLt v w = true) : v ≠ w := by
  intro e
  subst e
  rw [keyLt_irr v hv] at h
  cases h

section
variable {X : Cx}
theorem OpR.of {f : Value → Value → Sem Value} {r r' : R2} (h : OpR X f r) (k : ∀ x y H Q, r' x y H Q → r x y H Q) : OpR X f r' :=
  fun pins s σ H x y v u Q I rx ry q => h pins s σ H x y v u Q I rx ry (k x y H Q q)
def rK (K : PySem.W.Frag) (g : V → V → Bool) : R2 := fun x y H Q => ∃ a b v w, x = .ref a ∧ y = .ref b ∧ isSc v = true ∧ isSc w = true ∧ SqT K H a (sk v) ∧ SqT K H b (sk w) ∧ Q (.bl (g v w)) H
/-- one item of a key against another: == | < | > -/
theorem skB_kind (v : V) (hv : isSc v = true) : (∃ i, skB v = .int i ∧ rank v ≠ 3) ∨ (∃ s, skB v = .str s ∧ rank v = 3) := by
  cases v <;> simp [isSc] at hv <;> simp [skB, rank]
theorem key_items {s : Shared} {a : Addr} {v : V} {its : List Value} (r : Vals (sk v) its) : ∃ t u, its = [.int (rank v) t, u] ∧ RelV (skB v) u := by
  unfold sk at r
  cases r with
  | cons r1 r2 =>
    cases r2 with
    | cons r3 r4 =>
      cases r4
      obtain ⟨t, rfl⟩ := r1
      exact ⟨t, _, rfl, r3⟩
theorem key_eqB {A : Around} {s : Shared} {v w : V} {y z : Value} (hv : isSc v = true) (hw : isSc w = true) (ry : RelV (skB v) y) (rz : RelV (skB w) z) : SeqAt.EqAt A s y z (decide (skB v = skB w)) := by
  rcases skB_kind v hv with ⟨i, e1, n1⟩ | ⟨x, e1, n1⟩ <;> rcases skB_kind w hw with ⟨j, e2, n2⟩ | ⟨x2, e2, n2⟩
  · rw [e1] at ry ⊢; rw [e2] at rz ⊢
    obtain ⟨t, rfl⟩ := ry; obtain ⟨t2, rfl⟩ := rz
    have z : decide (V.int i = V.int j) = (i == j) := by by_cases q : i = j <;> simp [q]
    rw [z]
    exact SeqAt.EqAt.int_int _ _ _ _
  · rw [e1] at ry ⊢; rw [e2] at rz ⊢
    obtain ⟨t, rfl⟩ := ry; obtain ⟨t2, rfl⟩ := rz
    exact SeqAt.EqAt.int_str _ _ _ _
  · rw [e1] at ry ⊢; rw [e2] at rz ⊢
    obtain ⟨t, rfl⟩ := ry; obtain ⟨t2, rfl⟩ := rz
    exact SeqAt.EqAt.str_int _ _ _ _
  · rw [e1] at ry ⊢; rw [e2] at rz ⊢
    obtain ⟨t, rfl⟩ := ry; obtain ⟨t2, rfl⟩ := rz
    have z : decide (V.str x = V.str x2) = (x == x2) := by by_cases q : x = x2 <;> simp [q]
    rw [z]
    exact SeqAt.EqAt.str_str _ _ _ _
theorem sk_inj {v w : V} (hv : isSc v = true) (hw : isSc w = true) (h1 : rank v = rank w) (h2 : skB v = skB w) : v = w := by
  cases v <;> cases w <;> simp [isSc] at hv hw <;> simp [rank, skB] at h1 h2 ⊢
  case bl.bl a b => cases a <;> cases b <;> simp at h2 ⊢
  all_goals first | exact h2 | skip
theorem key_ltB {A : Around} {s : Shared} {v w : V} {y z : Value} (e : rank v = rank w) (hv : isSc v = true) (hw : isSc w = true) (ry : RelV (skB v) y) (rz : RelV (skB w) z) : Ob.RcOp .Lt A s y z (ltB (skB v) (skB w)) := by
  rcases skB_kind v hv with ⟨i, e1, n1⟩ | ⟨x, e1, n1⟩ <;> rcases skB_kind w hw with ⟨j, e2, n2⟩ | ⟨x2, e2, n2⟩
  · rw [e1] at ry ⊢; rw [e2] at rz ⊢
    obtain ⟨t, rfl⟩ := ry; obtain ⟨t2, rfl⟩ := rz
    exact Ob.RcOp.lt_int _ _ _ _
  · omega
  · omega
  · rw [e1] at ry ⊢; rw [e2] at rz ⊢
    obtain ⟨t, rfl⟩ := ry; obtain ⟨t2, rfl⟩ := rz
    exact fun _ _ _ _ h => PyProof.Rows.lt_str h
theorem key_gtB {A : Around} {s : Shared} {v w : V} {y z : Value} (e : rank v = rank w) (hv : isSc v = true) (hw : isSc w = true) (ry : RelV (skB v) y) (rz : RelV (skB w) z) : Ob.RcOp .Gt A s y z (ltB (skB w) (skB v)) := by
  rcases skB_kind v hv with ⟨i, e1, n1⟩ | ⟨x, e1, n1⟩ <;> rcases skB_kind w hw with ⟨j, e2, n2⟩ | ⟨x2, e2, n2⟩
  · rw [e1] at ry ⊢; rw [e2] at rz ⊢
    obtain ⟨t, rfl⟩ := ry; obtain ⟨t2, rfl⟩ := rz
    exact Ob.RcOp.gt_int _ _ _ _
  · omega
  · omega
  · rw [e1] at ry ⊢; rw [e2] at rz ⊢
    obtain ⟨t, rfl⟩ := ry; obtain ⟨t2, rfl⟩ := rz
    exact fun _ _ _ _ h => PySem.P.gt_str h

/-! ### the first pair that differs decides -/
inductive Dec (op : CmpOp) (A : Around) (s : Shared) (fin : Bool) : List (Value × Value) → Bool → Prop
  | nil : Dec op A s fin [] fin
  | eq {x y : Value} {r : List (Value × Value)} {k : Bool} : SeqAt.EqAt A s x y true → Dec op A s fin r k → Dec op A s fin ((x, y) :: r) k
  | ne {x y : Value} {r : List (Value × Value)} {k : Bool} : SeqAt.EqAt A s x y false → Ob.RcOp op A s x y k → Dec op A s fin ((x, y) :: r) k
end
end SD
namespace SD
open PySem L2 PySem.SeqAt
open PySem.AutoSeq1 (wpAny_loadPart')
open PySem.MeetsSeq PySem.MeetsSeq2 PySem.MeetsSeq3
theorem tup_lt_dec (l b : Addr) (xs ys : Array Value) (n m : Nat) (d1 d2 : Option Addr) (s1 s2 : Array (Option Value)) (k : Bool) : Meets (Builtin.«tuple.__lt__» ⟨[.ref l, .ref b], []⟩)
    (fun A R s => s.heap.get? l = some { cls := .type "tuple", dict := d1, data := .seq xs n, slots := s1 } ∧ s.heap.get? b = some { cls := .type "tuple", dict := d2, data := .seq ys m, slots := s2 } ∧
      Dec .Lt A.in1 s (decide (xs.size < ys.size)) (xs.toList.zip ys.toList) k ∧ R (.ok (.ret (.bool k))) s) :=
  .of_wp fun prog w A R s h => by
    obtain ⟨hp, g, d, tk, os⟩ := s
    obtain ⟨h1, h2, hd, hR⟩ := h
    have f2 := AutoSeq1.sub_tuple_tuple
    wp_walk using wpAny_loadPart' h1, wpAny_loadPart' h2, wpAny_forIn_list _ (fun rest b s' => b.1 = none ∧ s' = ⟨hp, g, d, tk, os⟩ ∧ Dec .Lt A.in1 ⟨hp, g, d, tk, os⟩ (decide (xs.size < ys.size)) rest k) _
    case turn =>
      rintro ⟨x, y⟩ rest b s' ⟨hb, rfl, hD⟩
      cases hD with
      | eq he hr =>
        refine wpAny_bind (he prog w _ _ ?_)
        wp_walk
        exact ⟨rfl, rfl, hr⟩
      | ne he hr =>
        have hr2 := hr prog w
        refine wpAny_bind (he prog w _ _ ?_)
        generalize richCompare CmpOp.Lt x y = rc at hr2 ⊢
        wp_walk
        refine hr2 _ _ ?_
        wp_walk
        exact ⟨_, rfl, hR⟩
    case fin =>
      rintro ⟨b1, b2⟩ s' ⟨hb, rfl, hD⟩
      simp only at hb
      subst hb
      cases hD
      wp_walk
      exact ⟨_, rfl, by simpa [Builtin.Tuple.tupleCompareSizes] using hR⟩
    exact ⟨rfl, rfl, hd⟩
theorem tup_gt_dec (l b : Addr) (xs ys : Array Value) (n m : Nat) (d1 d2 : Option Addr) (s1 s2 : Array (Option Value)) (k : Bool) : Meets (Builtin.«tuple.__gt__» ⟨[.ref l, .ref b], []⟩)
    (fun A R s => s.heap.get? l = some { cls := .type "tuple", dict := d1, data := .seq xs n, slots := s1 } ∧ s.heap.get? b = some { cls := .type "tuple", dict := d2, data := .seq ys m, slots := s2 } ∧
      Dec .Gt A.in1 s (decide (xs.size > ys.size)) (xs.toList.zip ys.toList) k ∧ R (.ok (.ret (.bool k))) s) :=
  .of_wp fun prog w A R s h => by
    obtain ⟨hp, g, d, tk, os⟩ := s
    obtain ⟨h1, h2, hd, hR⟩ := h
    have f2 := AutoSeq1.sub_tuple_tuple
    wp_walk using wpAny_loadPart' h1, wpAny_loadPart' h2, wpAny_forIn_list _ (fun rest b s' => b.1 = none ∧ s' = ⟨hp, g, d, tk, os⟩ ∧ Dec .Gt A.in1 ⟨hp, g, d, tk, os⟩ (decide (xs.size > ys.size)) rest k) _
    case turn =>
      rintro ⟨x, y⟩ rest b s' ⟨hb, rfl, hD⟩
      cases hD with
      | eq he hr =>
        refine wpAny_bind (he prog w _ _ ?_)
        wp_walk
        exact ⟨rfl, rfl, hr⟩
      | ne he hr =>
        have hr2 := hr prog w
        refine wpAny_bind (he prog w _ _ ?_)
        generalize richCompare CmpOp.Gt x y = rc at hr2 ⊢
        wp_walk
        refine hr2 _ _ ?_
        wp_walk
        exact ⟨_, rfl, hR⟩
    case fin =>
      rintro ⟨b1, b2⟩ s' ⟨hb, rfl, hD⟩
      simp only at hb
      subst hb
      cases hD
      wp_walk
      exact ⟨_, rfl, by simpa [Builtin.Tuple.tupleCompareSizes] using hR⟩
    exact ⟨rfl, rfl, hd⟩
theorem rc_lt {A : Around} {s : Shared} {l b : Addr} {xs ys : Array Value} {k : Bool} (hl : s.heap.IsTuple l xs) (hb : s.heap.IsTuple b ys) (hu : A.units < cLine) (hd : Dec .Lt A.in1 s (decide (xs.size < ys.size)) (xs.toList.zip ys.toList) k) : Ob.RcOp .Lt A s (.ref l) (.ref b) k := fun prog w E Q h => by
  obtain ⟨⟨c1, d1, t1, s1⟩, o1, e1, n, f1⟩ := id hl
  obtain ⟨⟨c2, d2, t2, s2⟩, o2, e2, m, f2⟩ := id hb
  simp only at e1 f1 e2 f2
  subst e1 f1 e2 f2
  exact richCompare_meets_room (op := .Lt) ⟨_, o1, rfl⟩ ⟨_, o2, rfl⟩ F.slot_tuple_lt F.entry_tuple_lt (F.args_tuple_lt_2 _ _) (tup_lt_dec l b xs ys n m d1 d2 s1 s2 k) ⟨o1, o2, hd, ⟨(fun x => nomatch x), h⟩⟩ hu
theorem rc_gt {A : Around} {s : Shared} {l b : Addr} {xs ys : Array Value} {k : Bool} (hl : s.heap.IsTuple l xs) (hb : s.heap.IsTuple b ys) (hu : A.units < cLine) (hd : Dec .Gt A.in1 s (decide (xs.size > ys.size)) (xs.toList.zip ys.toList) k) : Ob.RcOp .Gt A s (.ref l) (.ref b) k := fun prog w E Q h => by
  obtain ⟨⟨c1, d1, t1, s1⟩, o1, e1, n, f1⟩ := id hl
  obtain ⟨⟨c2, d2, t2, s2⟩, o2, e2, m, f2⟩ := id hb
  simp only at e1 f1 e2 f2
  subst e1 f1 e2 f2
  exact richCompare_meets_room (op := .Gt) ⟨_, o1, rfl⟩ ⟨_, o2, rfl⟩ F.slot_tuple_gt F.entry_tuple_gt (F.args_tuple_gt_2 _ _) (tup_gt_dec l b xs ys n m d1 d2 s1 s2 k) ⟨o1, o2, hd, ⟨(fun x => nomatch x), h⟩⟩ hu
end SD
namespace SD
open PySem L2
section
variable {X : Cx}
theorem int_eqB {A : Around} {s : Shared} (i j : Int) (t u : Tok) : SeqAt.EqAt A s (.int i t) (.int j u) (decide (i = j)) := by
  have z : decide (i = j) = (i == j) := by by_cases q : i = j <;> simp [q]
  rw [z]
  exact SeqAt.EqAt.int_int _ _ _ _
theorem key_lt_dec {A : Around} {s : Shared} {p q : V} {t1 t2 : Tok} {y1 y2 : Value} {f : Bool} (hp : isSc p = true) (hq : isSc q = true) (r1 : RelV (skB p) y1) (r2 : RelV (skB q) y2) : Dec .Lt A s false [(.int (rank p) t1, .int (rank q) t2), (y1, y2)] (keyLt p q) := by
  unfold keyLt
  have h0 := int_eqB (A := A) (s := s) (rank p) (rank q) t1 t2
  by_cases e : rank p = rank q
  · rw [if_pos e]
    rw [decide_eq_true e] at h0
    refine .eq h0 ?_
    have h1 := key_eqB (A := A) (s := s) hp hq r1 r2
    by_cases e2 : skB p = skB q
    · rw [decide_eq_true e2] at h1
      have : ltB (skB p) (skB q) = false := by
        rw [← e2]
        rcases skB_kind p hp with ⟨i, z, _⟩ | ⟨x, z, _⟩
        · rw [z]; simp [ltB]
        · rw [z]; simp only [ltB, decide_eq_false_iff_not]; exact lts_irr _
      rw [this]
      exact .eq h1 .nil
    · rw [decide_eq_false e2] at h1
      exact .ne h1 (key_ltB e hp hq r1 r2)
  · rw [if_neg e]
    rw [decide_eq_false e] at h0
    exact .ne h0 (Ob.RcOp.lt_int _ _ _ _)
theorem key_gt_dec {A : Around} {s : Shared} {p q : V} {t1 t2 : Tok} {y1 y2 : Value} {f : Bool} (hp : isSc p = true) (hq : isSc q = true) (r1 : RelV (skB p) y1) (r2 : RelV (skB q) y2) : Dec .Gt A s false [(.int (rank p) t1, .int (rank q) t2), (y1, y2)] (keyLt q p) := by
  unfold keyLt
  have h0 := int_eqB (A := A) (s := s) (rank p) (rank q) t1 t2
  by_cases e : rank p = rank q
  · rw [if_pos e.symm]
    rw [decide_eq_true e] at h0
    refine .eq h0 ?_
    have h1 := key_eqB (A := A) (s := s) hp hq r1 r2
    by_cases e2 : skB p = skB q
    · rw [decide_eq_true e2] at h1
      have : ltB (skB q) (skB p) = false := by
        rw [← e2]
        rcases skB_kind p hp with ⟨i, z, _⟩ | ⟨x, z, _⟩
        · rw [z]; simp [ltB]
        · rw [z]; simp only [ltB, decide_eq_false_iff_not]; exact lts_irr _
      rw [this]
      exact .eq h1 .nil
    · rw [decide_eq_false e2] at h1
      exact .ne h1 (key_gtB e hp hq r1 r2)
  · rw [if_neg (fun z => e z.symm)]
    rw [decide_eq_false e] at h0
    exact .ne h0 (Ob.RcOp.gt_int _ _ _ _)
theorem op_eqK (hu : X.A.units < cLine) : OpR X (compareOp .Eq) (rK X.K fun v w => decide (v = w)) := by
  intro pins s σ H x y v u Q I rx ry h
  obtain ⟨a, b, p, q, rfl, rfl, hv, hw, ha, hb, k⟩ := h
  cases rx
  cases ry
  obtain ⟨its, r1, p1, _⟩ := I.tuple ha
  obtain ⟨its2, r2, p2, _⟩ := I.tuple hb
  obtain ⟨t1, y1, rfl, ry1⟩ := key_items (s := s) (a := a) r1
  obtain ⟨t2, y2, rfl, ry2⟩ := key_items (s := s) (a := b) r2
  refine SeqAt.eq_tupleAt (e := fun j => if j = 0 then decide (rank p = rank q) else decide (skB p = skB q)) p1 p2 hu (fun j h1 h2 => ?_) ⟨.bl _, H, I, rfl, ?_⟩
  · match j, h1, h2 with
    | 0, _, _ => exact int_eqB _ _ _ _
    | 1, _, _ => exact key_eqB hv hw ry1 ry2
  · have z : decide (p = q) = (decide (rank p = rank q) && decide (skB p = skB q)) := by
      by_cases e1 : rank p = rank q
      · by_cases e2 : skB p = skB q
        · simp [e1, e2, sk_inj hv hw e1 e2]
        · have : p ≠ q := fun e => e2 (by rw [e])
          simp [e2, this]
      · have : p ≠ q := fun e => e1 (by rw [e])
        simp [e1, this]
    have k : Q (.bl (decide (p = q))) H := k
    rw [z] at k
    simpa [List.range, List.range.loop] using k
theorem op_ltK (hu : X.A.units < cLine) : OpR X (compareOp .Lt) (rK X.K keyLt) := by
  intro pins s σ H x y v u Q I rx ry h
  obtain ⟨a, b, p, q, rfl, rfl, hv, hw, ha, hb, k⟩ := h
  cases rx
  cases ry
  obtain ⟨its, r1, p1, _⟩ := I.tuple ha
  obtain ⟨its2, r2, p2, _⟩ := I.tuple hb
  obtain ⟨t1, y1, rfl, ry1⟩ := key_items (s := s) (a := a) r1
  obtain ⟨t2, y2, rfl, ry2⟩ := key_items (s := s) (a := b) r2
  exact rc_lt (A := X.A) (s := s) p1 p2 hu (key_lt_dec (f := true) hv hw ry1 ry2) X.prog X.w X.xe (EP X pins σ Q) ⟨.bl _, H, I, rfl, k⟩
theorem op_gtK (hu : X.A.units < cLine) : OpR X (compareOp .Gt) (rK X.K fun v w => keyLt w v) := by
  intro pins s σ H x y v u Q I rx ry h
  obtain ⟨a, b, p, q, rfl, rfl, hv, hw, ha, hb, k⟩ := h
  cases rx
  cases ry
  obtain ⟨its, r1, p1, _⟩ := I.tuple ha
  obtain ⟨its2, r2, p2, _⟩ := I.tuple hb
  obtain ⟨t1, y1, rfl, ry1⟩ := key_items (s := s) (a := a) r1
  obtain ⟨t2, y2, rfl, ry2⟩ := key_items (s := s) (a := b) r2
  exact rc_gt (A := X.A) (s := s) p1 p2 hu (key_gt_dec (f := true) hv hw ry1 ry2) X.prog X.w X.xe (EP X pins σ Q) ⟨.bl _, H, I, rfl, k⟩
end
end SD
namespace SD
open PySem L2
/-! ### the store of draws -/
def StoC (st c : Addr) (H : Hp) : Prop := ∃ (ns : List Int) (i x t s : Int), H st = some (.lst [.ref c, .int i, .int x, .int t, .int s]) ∧ H c = some (.lst (ns.map V.int)) ∧ 0 ≤ i ∧ 0 ≤ x
structure Ext (st c : Addr) (H H' : Hp) : Prop where
  sto : StoC st c H'
  keep : ∀ b o, b ≠ st → H b = some o → H' b = some o
theorem StoC.ne {st c : Addr} {H : Hp} (h : StoC st c H) : c ≠ st := by
  obtain ⟨ns, i, x, t, s, h1, h2, _⟩ := h
  intro e
  rw [e, h1] at h2
  cases ns with
  | nil => simp at h2
  | cons n r => simp at h2
theorem StoC.same {st c : Addr} {H H' : Hp} (h : StoC st c H) (s : Same H H') : StoC st c H' := by
  obtain ⟨ns, i, x, t, z, h1, h2, h3⟩ := h
  exact ⟨ns, i, x, t, z, s _ _ h1, s _ _ h2, h3⟩
theorem StoC.st_some {st c : Addr} {H : Hp} (h : StoC st c H) : H st ≠ none := by
  obtain ⟨ns, i, x, t, s, h1, h2, _⟩ := h
  rw [h1]; simp
theorem StoC.c_some {st c : Addr} {H : Hp} (h : StoC st c H) : H c ≠ none := by
  obtain ⟨ns, i, x, t, s, h1, h2, _⟩ := h
  rw [h2]; simp
theorem Same.new {H : Hp} {p : Addr} {o : HO} (h : H p = none) : Same H (upd H p o) := fun b u e => by
  rw [upd_ne (ne_of_none e h)]
  exact e
theorem Same.mut {H H' : Hp} {p : Addr} {o : HO} (s : Same H H') (h : H p = none) : Same H (upd H' p o) := fun b u e => by
  rw [upd_ne (ne_of_none e h)]
  exact s b u e
theorem Ext.refl {st c : Addr} {H : Hp} (h : StoC st c H) : Ext st c H H := ⟨h, fun _ _ _ e => e⟩
theorem Ext.trans {st c : Addr} {H H1 H2 : Hp} (a : Ext st c H H1) (b : Ext st c H1 H2) : Ext st c H H2 := ⟨b.sto, fun x o n e => b.keep x o n (a.keep x o n e)⟩
theorem Ext.same {st c : Addr} {H H1 H2 : Hp} (a : Ext st c H H1) (s : Same H1 H2) : Ext st c H H2 := ⟨a.sto.same s, fun x o n e => s _ _ (a.keep x o n e)⟩
theorem Ext.of {st c : Addr} {H H' : Hp} (h : StoC st c H) (s : Same H H') : Ext st c H H' := (Ext.refl h).same s
theorem Ext.new {st c : Addr} {H H' : Hp} {p : Addr} {o : HO} (a : Ext st c H H') (h : H' p = none) : Ext st c H (upd H' p o) := a.same (Same.new h)
/-- an object that H does not know may change -/
theorem Ext.mut {st c : Addr} {H H' : Hp} {p : Addr} {o : HO} (h0 : StoC st c H) (a : Ext st c H H') (h : H p = none) : Ext st c H (upd H' p o) := by
  have n1 : st ≠ p := fun e => h0.st_some (by rw [e]; exact h)
  have n2 : c ≠ p := fun e => h0.c_some (by rw [e]; exact h)
  obtain ⟨ns, i, x, t, z, h1, h2, h3⟩ := a.sto
  refine ⟨⟨ns, i, x, t, z, by rw [upd_ne n1]; exact h1, by rw [upd_ne n2]; exact h2, h3⟩, fun b u n e => ?_⟩
  rw [upd_ne (ne_of_none e h)]
  exact a.keep b u n e
theorem Ext.free {st c : Addr} {H H' : Hp} (h0 : StoC st c H) (a : Ext st c H H') {p : Addr} (h : H' p = none) : H p = none := by
  by_cases e : p = st
  · subst e
    exact absurd h a.sto.st_some
  · cases q : H p with
    | none => rfl
    | some o => rw [a.keep p o e q] at h; cases h
theorem Ext.seqL {K : PySem.W.Frag} {st c : Addr} {H H' : Hp} (e : Ext st c H H') {a : Addr} {xs : List V} (n : a ≠ st) (h : SqL K H a xs) : SqL K H' a xs := by
  rcases h with (h | ⟨o, h⟩) | h
  · exact .inl (.inl (e.keep _ _ n h))
  · exact .inl (.inr ⟨o, e.keep _ _ n h⟩)
  · exact .inr h
theorem StoC.tup_ne {K : PySem.W.Frag} {st c : Addr} {H : Hp} (h0 : StoC st c H) {a : Addr} {xs : List V} (h : Rd H a (.tup xs)) : a ≠ st := by
  obtain ⟨ns, i, x, t, s, h1, h2, _⟩ := h0
  intro e
  rcases h with h | ⟨o, h⟩ <;> rw [e, h1] at h <;> cases h
theorem Ext.seqT {K : PySem.W.Frag} {st c : Addr} {H H' : Hp} (h0 : StoC st c H) (e : Ext st c H H') {a : Addr} {xs : List V} (h : SqT K H a xs) : SqT K H' a xs := by
  rcases h with h | h
  · have n := StoC.tup_ne (K := K) h0 h
    rcases h with h | ⟨o, h⟩
    · exact .inl (.inl (e.keep _ _ n h))
    · exact .inl (.inr ⟨o, e.keep _ _ n h⟩)
  · exact .inr h
theorem Same.seqT {K : PySem.W.Frag} {H H' : Hp} (e : Same H H') {a : Addr} {xs : List V} (h : SqT K H a xs) : SqT K H' a xs := by
  rcases h with (h | ⟨o, h⟩) | h
  · exact .inl (.inl (e _ _ h))
  · exact .inl (.inr ⟨o, e _ _ h⟩)
  · exact .inr h
/-! ### scalars with bounds -/
def Sc : V → Prop
  | .non => True | .bl _ => True | .int i => i.natAbs ≤ 10 ^ 31 | .str s => s.length ≤ 2000 | _ => False
theorem Sc.is {v : V} (h : Sc v) : isSc v = true := by cases v <;> first | rfl | exact False.elim h
/-! ### nested tuples -/
inductive D where
  | sc (v : V)
  | tup (ds : List D)
mutual
inductive Rep (K : PySem.W.Frag) (H : Hp) : V → D → Prop
  | sc {v : V} : isSc v = true → Rep K H v (.sc v)
  | tup {a : Addr} {xs : List V} {ds : List D} : SqT K H a xs → xs.length ≤ 100000 → RepAll K H xs ds → Rep K H (.ref a) (.tup ds)
inductive RepAll (K : PySem.W.Frag) (H : Hp) : List V → List D → Prop
  | nil : RepAll K H [] []
  | cons {v : V} {vs : List V} {d : D} {ds : List D} : Rep K H v d → RepAll K H vs ds → RepAll K H (v :: vs) (d :: ds)
end
mutual
def sameD : D → D → Bool
  | .sc v, .sc w => decide (v = w)
  | .tup ds, .tup es => sameAll ds es
  | .sc _, .tup _ => false
  | .tup _, .sc _ => false
def sameAll : List D → List D → Bool
  | [], [] => true
  | d :: ds, e :: es => sameD d e && sameAll ds es
  | [], _ :: _ => false
  | _ :: _, [] => false
end
mutual
def dep : D → Nat
  | .sc _ => 0
  | .tup ds => depAll ds + 1
def depAll : List D → Nat
  | [] => 0
  | d :: ds => max (dep d) (depAll ds)
end
mutual
theorem sameD_comm : ∀ d e : D, sameD d e = sameD e d
  | .sc v, .sc w => by simp only [sameD]; by_cases q : v = w <;> simp [q]; intro h; exact q h.symm
  | .tup ds, .tup es => by simp only [sameD]; exact sameAll_comm ds es
  | .sc _, .tup _ => by simp only [sameD]
  | .tup _, .sc _ => by simp only [sameD]
theorem sameAll_comm : ∀ ds es : List D, sameAll ds es = sameAll es ds
  | [], [] => rfl
  | d :: ds, e :: es => by simp only [sameAll]; rw [sameD_comm d e, sameAll_comm ds es]
  | [], _ :: _ => by simp only [sameAll]
  | _ :: _, [] => by simp only [sameAll]
end
mutual
theorem sameD_refl : ∀ d : D, sameD d d = true
  | .sc v => by simp [sameD]
  | .tup ds => by simp only [sameD]; exact sameAll_refl ds
theorem sameAll_refl : ∀ ds : List D, sameAll ds ds = true
  | [] => rfl
  | d :: ds => by simp only [sameAll]; rw [sameD_refl d, sameAll_refl ds]; rfl
end
theorem sameD_dep : ∀ d : D, sameD (.tup [d]) d = false := by
  suffices h : ∀ d e : D, sameD d e = true → dep d = dep e by
    intro d
    cases q : sameD (.tup [d]) d with
    | false => rfl
    | true =>
      have := h _ _ q
      simp only [dep, depAll] at this
      omega
  intro d e
  exact go d e
where
  go : ∀ d e : D, sameD d e = true → dep d = dep e
    | .sc v, .sc w, _ => rfl
    | .tup ds, .tup es, h => by simp only [sameD] at h; simp only [dep]; rw [goAll ds es h]
    | .sc _, .tup _, h => by simp [sameD] at h
    | .tup _, .sc _, h => by simp [sameD] at h
  goAll : ∀ ds es : List D, sameAll ds es = true → depAll ds = depAll es
    | [], [], _ => rfl
    | d :: ds, e :: es, h => by
      simp only [sameAll, Bool.and_eq_true] at h
      simp only [depAll]
      rw [go d e h.1, goAll ds es h.2]
    | [], _ :: _, h => by simp [sameAll] at h
    | _ :: _, [], h => by simp [sameAll] at h
theorem sameAll_len : ∀ {ds es : List D}, ds.length ≠ es.length → sameAll ds es = false
  | [], [], h => absurd rfl h
  | d :: ds, e :: es, h => by
    simp only [sameAll]
    rw [sameAll_len (ds := ds) (es := es) (fun q => h (by simp [q]))]
    simp
  | [], _ :: _, _ => by simp only [sameAll]
  | _ :: _, [], _ => by simp only [sameAll]
theorem sameAll_at : ∀ {ds es : List D} (i : Nat) {d e : D}, ds[i]? = some d → es[i]? = some e → sameD d e = false → sameAll ds es = false
  | x :: ds, y :: es, 0, d, e, h1, h2, h => by
    simp at h1 h2; subst h1 h2
    simp [sameAll, h]
  | x :: ds, y :: es, i + 1, d, e, h1, h2, h => by
    simp at h1 h2
    simp only [sameAll]
    rw [sameAll_at i h1 h2 h]
    simp
  | [], _, _, _, _, h1, _, _ => by simp at h1
  | _ :: _, [], _, _, _, _, h2, _ => by simp at h2
theorem sameAll_all : ∀ {ds es : List D}, ds.length = es.length → (∀ (i : Nat) (d e : D), ds[i]? = some d → es[i]? = some e → sameD d e = true) → sameAll ds es = true
  | [], [], _, _ => rfl
  | d :: ds, e :: es, h, k => by
    simp only [sameAll]
    rw [k 0 d e rfl rfl, sameAll_all (by simpa using h) fun i x y h1 h2 => k (i + 1) x y h1 h2]
    rfl
  | [], _ :: _, h, _ => by simp at h
  | _ :: _, [], h, _ => by simp at h
theorem RepAll.len {K : PySem.W.Frag} {H : Hp} : ∀ {xs : List V} {ds : List D}, RepAll K H xs ds → xs.length = ds.length
  | _, _, .nil => rfl
  | _, _, .cons _ h => by simp [RepAll.len h]
theorem RepAll.at {K : PySem.W.Frag} {H : Hp} : ∀ {xs : List V} {ds : List D} (i : Nat) {x : V}, RepAll K H xs ds → xs[i]? = some x → ∃ d, ds[i]? = some d ∧ Rep K H x d
  | _, _, 0, x, .cons h _, e => by simp at e; subst e; exact ⟨_, rfl, h⟩
  | _, _, i + 1, x, .cons _ h, e => by simp at e; obtain ⟨d, h1, h2⟩ := RepAll.at i h e; exact ⟨d, by simpa using h1, h2⟩
  | _, _, i, x, .nil, e => by simp at e
theorem depAll_at : ∀ {ds : List D} (i : Nat) {d : D}, ds[i]? = some d → dep d ≤ depAll ds
  | x :: ds, 0, d, h => by simp at h; subst h; simp only [depAll]; omega
  | x :: ds, i + 1, d, h => by
    simp at h
    have := depAll_at i h
    simp only [depAll]; omega
  | [], _, _, h => by simp at h
mutual
theorem Rep.map {K : PySem.W.Frag} {H H' : Hp} (s : ∀ a xs, SqT K H a xs → SqT K H' a xs) : ∀ {v : V} {d : D}, Rep K H v d → Rep K H' v d
  | _, _, .sc h => .sc h
  | _, _, .tup h z r => .tup (s _ _ h) z (RepAll.map s r)
theorem RepAll.map {K : PySem.W.Frag} {H H' : Hp} (s : ∀ a xs, SqT K H a xs → SqT K H' a xs) : ∀ {vs : List V} {ds : List D}, RepAll K H vs ds → RepAll K H' vs ds
  | _, _, .nil => .nil
  | _, _, .cons h r => .cons (Rep.map s h) (RepAll.map s r)
end
theorem Rep.same {K : PySem.W.Frag} {H H' : Hp} (s : Same H H') {v : V} {d : D} (h : Rep K H v d) : Rep K H' v d := h.map fun _ _ q => Same.seqT s q
theorem Rep.ext {K : PySem.W.Frag} {st c : Addr} {H H' : Hp} (h0 : StoC st c H) (e : Ext st c H H') {v : V} {d : D} (h : Rep K H v d) : Rep K H' v d := h.map fun _ _ q => e.seqT h0 q

/-! ### promises -/
def kindS : V → Str
  | .non => "none" | .bl _ => "truth" | .int _ => "number" | _ => "text"
def spKind : Sp := fun vs H Q _ => ∃ v, vs = [v] ∧ isSc v = true ∧ Q (.str (kindS v)) H
def spKey : Sp := fun vs H Q _ => ∃ v, vs = [v] ∧ isSc v = true ∧ ∀ p H', H p = none → Same H H' → H' p = some (.tup (sk v)) → Q (.ref p) H'
def spOrder (K : PySem.W.Frag) : Sp := fun vs H Q _ => ∃ a b v w, vs = [.ref a, .ref b] ∧ isSc v = true ∧ isSc w = true ∧ SqT K H a (sk v) ∧ SqT K H b (sk w) ∧ Q (.int (ordV v w)) H
def spCompare : Sp := fun vs H Q _ => ∃ v w, vs = [v, w] ∧ isSc v = true ∧ isSc w = true ∧ ∀ H', Same H H' → Q (.int (ordV v w)) H'
def spSame (K : PySem.W.Frag) (n : Nat) : Sp := fun vs H Q _ => ∃ x y d e, vs = [x, y] ∧ Rep K H x d ∧ Rep K H y e ∧ dep d < n ∧ ∀ H', Same H H' → Q (.bl (sameD d e)) H'
def spLawSame (K : PySem.W.Frag) (n : Nat) : Sp := fun vs H Q _ => ∃ x y d e, vs = [x, y] ∧ Rep K H x d ∧ Rep K H y e ∧ dep d < n ∧ ∀ H', Same H H' → Q (.bl (sameD d e)) H'
def spMix : Sp := fun vs H Q _ => ∃ n t, vs = [.int n, .int t] ∧ ∀ r, 0 ≤ r → r < 2147483629 → Q (.int r) H
def spStore (K : PySem.W.Frag) : Sp := fun vs H Q _ => ∃ (a : Addr) (ns : List Int), vs = [.ref a] ∧ SqL K H a (ns.map V.int) ∧ ns.length ≤ 63 ∧ ∀ st c H', H st = none → H c = none → Same H H' → StoC st c H' → Q (.ref st) H'
def spTake : Sp := fun vs H Q _ => ∃ st c n, vs = [.ref st, .int n] ∧ StoC st c H ∧ n.natAbs < 2 ^ 200 ∧ ∀ r H', Ext st c H H' → 0 ≤ r → (r < n ∨ (n < 2 ∧ r = 0)) → Q (.int r) H'
def spOdds : Sp := fun vs H Q _ => ∃ st c n, vs = [.ref st, .int n] ∧ StoC st c H ∧ n.natAbs < 2 ^ 200 ∧ ∀ b H', Ext st c H H' → Q (.bl b) H'
def spCount : Sp := fun vs H Q _ => ∃ st c l u m, vs = [.ref st, .int l, .int u, .int m] ∧ StoC st c H ∧ 0 ≤ l ∧ l ≤ u ∧ u ≤ m ∧ m < 2 ^ 100 ∧ ∀ r H', Ext st c H H' → l ≤ r → r ≤ m → Q (.int r) H'
def spOne (K : PySem.W.Frag) : Sp := fun vs H Q _ => ∃ st c a xs, vs = [.ref st, .ref a] ∧ StoC st c H ∧ a ≠ st ∧ (SqL K H a xs ∨ SqT K H a xs) ∧ xs.length ≤ 100000 ∧ ∀ y H', Ext st c H H' → (xs = [] ∧ y = .non ∨ y ∈ xs) → Q y H'
def spNumber : Sp := fun vs H Q _ => ∃ st c, vs = [.ref st] ∧ StoC st c H ∧ ∀ i H', Ext st c H H' → i.natAbs ≤ 10 ^ 31 → Q (.int i) H'
def spText : Sp := fun vs H Q _ => ∃ st c m, vs = [.ref st, .int m] ∧ StoC st c H ∧ 0 ≤ m ∧ m ≤ 1000 ∧ ∀ s H', Ext st c H H' → s.length ≤ 2000 → Q (.str s) H'
def spValue : Sp := fun vs H Q _ => ∃ st c, vs = [.ref st] ∧ StoC st c H ∧ ∀ v H', Ext st c H H' → Sc v → Q v H'
def spLike : Sp := fun vs H Q _ => ∃ st c v, vs = [.ref st, v] ∧ StoC st c H ∧ Sc v ∧ ∀ w H', Ext st c H H' → Sc w → Q w H'
def spNested (K : PySem.W.Frag) : Sp := fun vs H Q _ => ∃ st c a xs, vs = [.ref st, .ref a] ∧ StoC st c H ∧ a ≠ st ∧ SqL K H a xs ∧ xs.length ≤ 1000 ∧ xs ≠ [] ∧ (∀ v ∈ xs, Sc v) ∧
  ∀ p x y d e H', Ext st c H H' → p ≠ st → H' p = some (.lst [x, y]) → Rep K H' x d → Rep K H' y e → dep d ≤ 129 → dep e ≤ 129 → Q (.ref p) H'

/-! ### a def of the top, called -/
structure Cal (P : Program) (w : World) (K : PySem.W.Frag) (mg : Str → Option Value) (base : Heap) (x : Str) (k : Nat) (ps : List Str) (sp : Sp) : Prop where
  ex : ∃ (f : Addr) (fd : FuncData), mg x = some (.ref f) ∧ PySem.W.keepIn K (.ref f) = true ∧ Binds K fd ps [] ∧ (∀ (s : Shared) (us : List Value), us.length = ps.length → BindsTo s fd ⟨[], ps.zip us⟩ (ps.zip us)) ∧ FnOk P w K mg base CX0 k f fd ps sp
section
variable {X : Cx} {x : Str} {k : Nat} {ps : List Str} {sp : Sp} {p pos : Pos} {e : Expr} {es : List Expr} {kws : List Keyword} {t : TA}
theorem pe_c (C : Cal X.prog X.w X.K X.mg X.base x k ps sp) (hr : Room k X.A) (hg : Gl X x) (ha : PA X (e :: es) t) (hdb : (x == ("__debug__" : Str)) = false := by decide)
    (he : starEach (e :: es) X.env = (false, eval e X.env) :: starEach es X.env := by rfl) (hpl : (backTo pos (starEach es X.env)).any (·.1) = false := by rfl) : PE X (.Call (.Name x p) (e :: es) [] pos) (tCall sp [] E0 t) := by
  obtain ⟨f, fd, hm, kp, b, _, G⟩ := C.ex
  exact pe_call G hr hg hm kp b .nil pass0 ha hdb he hpl
def tCalW (n : Nat) (sp : Sp) (tk : TA) : TE := fun σ H Q => tk σ H fun zs H2 => zs.length = n ∧ sp zs H2 Q E0
/-- f(k = v, ..) with all parameters in their order -/
theorem pe_w (C : Cal X.prog X.w X.K X.mg X.base x k ps sp) (hr : Room k X.A) (hg : Gl X x) (hkw : PK X kws t) (hall : (backToKw pos (keywordEach kws X.env)).all (·.1.isSome) = true := by rfl)
    (hks : (backToKw pos (keywordEach kws X.env)).filterMap (·.1) = ps := by rfl) (hdb : (x == ("__debug__" : Str)) = false := by decide)
    (hpl : ((backTo pos (starEach [] X.env)).any (·.1) || (backToKw pos (keywordEach kws X.env)).any (·.1.isNone)) = false := by rfl) : PE X (.Call (.Name x p) [] kws pos) (tCalW ps.length sp t) := by
  obtain ⟨f, fd, hm, kp, _, b, G⟩ := C.ex
  refine ⟨fun pins s σ H Q I h => ?_⟩
  refine wpAny_Call_Name_kw (ld_glob I hg hm ?_ hdb)
  refine PySem.W.callWith_KW0 (h₀ := X.base) I.ok.mod.kin kp hall (thn (hkw.run pos pins s σ H _ I h) fun ws s2 ⟨zs, H2, I2, rz, l2, q2⟩ => ⟨I2.kIn, ?_⟩) hpl
  rw [hks]
  have lw : ws.length = ps.length := rz.length.symm.trans l2
  refine wpAny_call (codeAny_mono (G.run X.A X.stack s2 H2 ⟨[], ps.zip ws⟩ ws zs Q E0 hr I2.env0 (b s2 ws lw) rz q2) fun r s' hq => ?_)
  cases r with
  | error e => exact pass0 pins σ H2 s2 e s' I2 hq
  | ok fl =>
    cases fl with
    | ret u => exact I2.after hq
    | next => exact False.elim hq
    | brk => exact False.elim hq
    | cont => exact False.elim hq
end
/-- what stands behind the top: the built-ins' names are free -/
structure Tx (mg : Str → Option Value) : Prop where
  len : mg "len" = none
  int : mg "int" = none
  isi : mg "isinstance" = none
  tup : mg "tuple" = none
  lst : mg "list" = none
  bool : mg "bool" = none
  str : mg "str" = none
  dict : mg "dict" = none
  range : mg "range" = none
  min : mg "min" = none
  zip : mg "zip" = none
  srt : mg "sorted" = none
  sum : mg "sum" = none
  max : mg "max" = none
  rvd : mg "reversed" = none
section
variable {P : Program} {w : World} {K : PySem.W.Frag} {mg : Str → Option Value} {base : Heap}
def BK (x : Str) (st : Stmt) (ps : List Str) : Prop := ∀ (kV doc pm : Value) (an : Option Addr) (cdv ct : Value) (us : List Value), us.length = ps.length → bindArgs (PySem.W.fnOf x x (defArgs st) (defBody st) (defScope st) .none kV doc pm an cdv ct) ⟨[], ps.zip us⟩ = pure (ps.zip us)
/-- from a def as it stands to its call -/
theorem cal_of {x : Str} {st : Stmt} {f : Addr} {fd : FuncData} {k : Nat} {ps : List Str} {sp : Sp} (F : Fun K x x st f fd) (hm : mg x = some (.ref f)) (b : Binds K fd ps [])
    (bk : BK x st ps)
    (G : FnOk P w K mg base CX0 k f fd ps sp) : Cal P w K mg base x k ps sp := by
  refine ⟨f, fd, hm, F.kp, b, fun s us hl => ?_, G⟩
  obtain ⟨oc, od, kV, doc, pm, an, cdv, ct, osl, rfl, lk, hcd⟩ := F.ex
  exact .of_eq (bk kV doc pm an cdv ct us hl)
end
theorem sto_put {st c : Addr} {H : Hp} {ns : List Int} {i x t s : V} (h1 : H st = some (.lst [.ref c, i, x, t, s])) (h2 : H c = some (.lst (ns.map V.int))) (n : c ≠ st) (i' x' t' s' : Int) (hi : 0 ≤ i') (hx : 0 ≤ x') :
    Ext st c H (upd H st (.lst [.ref c, .int i', .int x', .int t', .int s'])) := by
  refine ⟨⟨ns, i', x', t', s', upd_same, by rw [upd_ne n]; exact h2, hi, hx⟩, fun b o nb e => by rw [upd_ne nb]; exact e⟩
theorem at_mem {xs : List V} {i : Int} (h0 : 0 ≤ i) (h1 : i < xs.length) : ∃ v, atI xs i = some v ∧ v ∈ xs := by
  have hl : i.toNat < xs.length := by omega
  have q := atI_nat (List.getElem?_eq_getElem hl)
  rw [Int.toNat_of_nonneg h0] at q
  exact ⟨_, q, List.getElem_mem hl⟩
theorem at_memN {xs : List Nat} {i : Int} (h0 : 0 ≤ i) (h1 : i < xs.length) : ∃ v, atI xs i = some v := by
  have hl : i.toNat < xs.length := by omega
  have q := atI_nat (List.getElem?_eq_getElem hl)
  rw [Int.toNat_of_nonneg h0] at q
  exact ⟨_, q⟩
def scB : V → Bool
  | .non => true | .bl _ => true | .int i => decide (i.natAbs ≤ 10 ^ 31) | .str s => decide (s.length ≤ 2000) | _ => false
theorem sc_of {v : V} (h : scB v = true) : Sc v := by
  cases v with
  | non => trivial
  | bl _ => trivial
  | int i => exact of_decide_eq_true (p := i.natAbs ≤ 10 ^ 31) h
  | str s => exact of_decide_eq_true (p := s.length ≤ 2000) h
  | byt _ => exact (Bool.false_ne_true h).elim
  | flt _ => exact (Bool.false_ne_true h).elim
  | ref _ => exact (Bool.false_ne_true h).elim
  | ty _ => exact (Bool.false_ne_true h).elim
theorem sc_all {xs : List V} (h : xs.all scB = true) : ∀ v ∈ xs, Sc v := fun v hv => sc_of (List.all_eq_true.mp h v hv)
theorem joinL_len : ∀ l : List (List Nat), (TL.joinL [] l).length = (l.map List.length).sum
  | [] => rfl
  | [p] => by simp [TL.joinL]
  | p :: q :: r => by
    show (p ++ ([] ++ TL.joinL [] (q :: r))).length = _
    rw [List.nil_append, List.length_append, joinL_len (q :: r)]
    simp
theorem str_len (z : Str) : z.length = z.cps.toList.length := by show z.cps.size = _; simp
theorem join_len (ys : List Str) : (Txt.join ("" : Str) ys).length = (ys.map (·.length)).sum := by
  rw [TL.join_eq, str_len]
  have h := TL.tl_join ("" : Str) ys
  have e : TL.tl ("" : Str) = [] := by decide +kernel
  rw [e] at h
  have h2 : (TL.tl (Str.join ("" : Str) ys)).length = ((ys.map TL.tl).map List.length).sum := by rw [h, joinL_len]
  have e2 : (ys.map TL.tl).map List.length = ys.map (·.length) := by
    rw [List.map_map]
    refine List.map_congr_left fun z _ => ?_
    show (TL.tl z).length = z.length
    rw [str_len]
    try rfl
  rw [e2] at h2
  exact h2
theorem ones_sum : ∀ {ys : List Str}, (∀ y ∈ ys, y.length = 1) → (ys.map (·.length)).sum = ys.length
  | [], _ => rfl
  | y :: r, h => by
    rw [List.map_cons, List.sum_cons, h y (List.mem_cons_self ..), ones_sum fun z hz => h z (List.mem_cons_of_mem _ hz), List.length_cons]
    omega
theorem cut_le (z : Str) (lo hi : Option Int) : (cutS z lo hi).length ≤ z.length := by
  rw [str_len, str_len]
  unfold cutS
  simp
  omega
theorem str_app (a b : Str) : (a ++ b).length = a.length + b.length := by
  show (a.cps ++ b.cps).size = a.cps.size + b.cps.size
  simp
theorem cut40 (z : Str) : (cutS z none (some 40)).length ≤ 40 := by
  rw [str_len]
  have e : HT.sIx z.length z.length (some 40) = min 40 z.length := HT.sIx_nat _ _ 40
  have e0 : HT.sIx z.length 0 none = 0 := rfl
  unfold cutS
  rw [e, e0]
  simp
  omega
theorem int_str {i : Int} (h : i.natAbs ≤ 10 ^ 31) : i.natAbs.log2 < 1920 := by
  have : i.natAbs.log2 < 200 := PySem.Flt.log2_lt_of (by decide) (Nat.lt_of_le_of_lt h (by decide +kernel))
  omega
theorem Rep.mk {K : PySem.W.Frag} {H : Hp} {a : Addr} {xs : List V} {ds : List D} (h : H a = some (.tup xs)) (z : xs.length ≤ 100000) (r : RepAll K H xs ds) : Rep K H (.ref a) (.tup ds) := .tup (SqT.of h) z r
theorem RepAll.app {K : PySem.W.Frag} {H : Hp} : ∀ {xs : List V} {ds : List D} {ys : List V} {es : List D}, RepAll K H xs ds → RepAll K H ys es → RepAll K H (xs ++ ys) (ds ++ es)
  | _, _, _, _, .nil, h => h
  | _, _, _, _, .cons a b, h => .cons a (RepAll.app b h)
theorem depAll_app : ∀ (ds es : List D), depAll (ds ++ es) = max (depAll ds) (depAll es)
  | [], es => by simp [depAll]
  | d :: ds, es => by
    show max (dep d) (depAll (ds ++ es)) = max (max (dep d) (depAll ds)) (depAll es)
    rw [depAll_app ds es]; omega
end SD
namespace SD
open PySem L2
/-! ### isinstance, by the value's type -/
inductive TyN (K : PySem.W.Frag) (H : Hp) : V → String → Prop
  | non : TyN K H .non "NoneType"
  | bl (b : Bool) : TyN K H (.bl b) "bool"
  | int (i : Int) : TyN K H (.int i) "int"
  | str (x : Str) : TyN K H (.str x) "str"
  | lst {a : Addr} {xs : List V} (h : SqL K H a xs) : TyN K H (.ref a) "list"
  | tup {a : Addr} {xs : List V} (h : SqT K H a xs) : TyN K H (.ref a) "tuple"
theorem TyN.x {K : PySem.W.Frag} {H : Hp} {v : V} {n : String} (t : TyN K H v n) : TyX K H v (.type n) := by
  cases t with
  | non => exact .base .non
  | bl b => exact .base (.bl b)
  | int i => exact .base (.int i)
  | str x => exact .base (.str x)
  | lst h =>
    rcases h with (h | ⟨o, h⟩) | ⟨o, its, n, hk, hc, _⟩
    · exact .base (.lst h)
    · exact .base (.frz h)
    · exact .kList hk hc
  | tup h =>
    rcases h with (h | ⟨o, h⟩) | ⟨o, its, n, hk, hc, _⟩
    · exact .base (.tup h)
    · exact .fTuple h
    · exact .kTuple hk hc
def tyS : V → String
  | .non => "NoneType" | .bl _ => "bool" | .int _ => "int" | _ => "str"
theorem tyN_sc {K : PySem.W.Frag} {H : Hp} {v : V} (h : isSc v = true) : TyN K H v (tyS v) := by
  cases v <;> first | cases h | skip
  · exact .non
  · exact .bl _
  · exact .int _
  · exact .str _
def rIsN (K : PySem.W.Frag) (T : String) : List V → Hp → VK → Prop := fun xs H Q => ∃ (x : V) (n : String) (b : Bool), xs = [x, .ty T] ∧ TyN K H x n ∧ kitB n T = some b ∧ Q (.bl b) H
def rIsN2 (K : PySem.W.Frag) (T U : String) : List V → Hp → VK → Prop := fun xs H Q => ∃ (x : V) (tp : Addr) (n : String) (b c : Bool), xs = [x, .ref tp] ∧ H tp = some (.tup [.ty T, .ty U]) ∧ TyN K H x n ∧ kitB n T = some b ∧ kitB n U = some c ∧ Q (.bl (b || c)) H
section
variable {X : Cx}
theorem call_isN {T : String} : CallR X (.builtin "isinstance") (rIsN X.K T) := fun pins s σ H xs us Q I r h => by
  obtain ⟨x, n, b, rfl, ht, hk, q⟩ := h
  exact call_isi pins s σ H _ us Q I r ⟨x, .ty T, .type n, .type T, b, rfl, .ty T, ht.x, kit_ty hk, q⟩
theorem call_isN2 {T U : String} : CallR X (.builtin "isinstance") (rIsN2 X.K T U) := fun pins s σ H xs us Q I r h => by
  obtain ⟨x, tp, n, b, c, rfl, hT, ht, hk, hk2, q⟩ := h
  refine call_isiT pins s σ H _ us Q I r ⟨x, tp, [.ty T, .ty U], .type n, [.type T, .type U], b || c, rfl, hT, .cons (.ty T) (.cons (.ty U) .nil), ht.x, ?_, q⟩
  refine kitAny_cons (kit_ty hk) (fun e => ?_) fun e => by rw [e]; rfl
  rw [e]
  refine kitAny_cons (kit_ty hk2) (fun e => ?_) fun e => by rw [e]; rfl
  rw [e]
  exact kitAny_nil
/-- x is True, x is False: x any scalar -/
theorem op_isSB : OpR X (compareOp .Is) (fun x y H Q => ∃ b, y = .bl b ∧ isSc x = true ∧ Q (.bl (decide (x = .bl b))) H) := by
  intro pins s σ H x y v u Q I rx ry h
  obtain ⟨b, rfl, hs, q⟩ := h
  cases (show u = Value.bool b from ry)
  cases x with
  | bl a =>
    cases (show v = Value.bool a from rx)
    by_cases e : a = b
    · subst e
      exact PySem.wpAny_is_self rfl ⟨.bl true, H, I, rfl, by simpa using q⟩
    · exact PySem.wpAny_is_other rfl (fun z => e (Value.bool.inj z)) ⟨.bl false, H, I, rfl, by simpa [e] using q⟩
  | non =>
    cases (show v = Value.none from rx)
    exact PySem.wpAny_is_other rfl (fun z => nomatch z) ⟨.bl false, H, I, rfl, by simpa using q⟩
  | int i =>
    obtain ⟨t, rfl⟩ := (show ∃ t, v = Value.int i t from rx)
    exact PySem.wpAny_is_other rfl (fun z => nomatch z) ⟨.bl false, H, I, rfl, by simpa using q⟩
  | str i =>
    obtain ⟨t, rfl⟩ := (show ∃ t, v = Value.str i t from rx)
    exact PySem.wpAny_is_other rfl (fun z => nomatch z) ⟨.bl false, H, I, rfl, by simpa using q⟩
  | byt _ => cases hs
  | flt _ => cases hs
  | ref _ => cases hs
  | ty _ => cases hs
end
theorem strB (a b : Str) (r : Bool) (h : decide (a = b) = r) : V.bl (decide (V.str a = V.str b)) = V.bl r := by
  rw [← h]
  by_cases e : a = b <;> simp [e]
theorem k_NoneType_tuple : kitB "NoneType" "tuple" = some false := by decide +kernel
theorem k_NoneType_list : kitB "NoneType" "list" = some false := by decide +kernel
theorem k_NoneType_dict : kitB "NoneType" "dict" = some false := by decide +kernel
theorem k_NoneType_bool : kitB "NoneType" "bool" = some false := by decide +kernel
theorem k_NoneType_int : kitB "NoneType" "int" = some false := by decide +kernel
theorem k_NoneType_str : kitB "NoneType" "str" = some false := by decide +kernel
theorem k_bool_tuple : kitB "bool" "tuple" = some false := by decide +kernel
theorem k_bool_list : kitB "bool" "list" = some false := by decide +kernel
theorem k_bool_dict : kitB "bool" "dict" = some false := by decide +kernel
theorem k_bool_bool : kitB "bool" "bool" = some true := by decide +kernel
theorem k_bool_int : kitB "bool" "int" = some true := by decide +kernel
theorem k_bool_str : kitB "bool" "str" = some false := by decide +kernel
theorem k_int_tuple : kitB "int" "tuple" = some false := by decide +kernel
theorem k_int_list : kitB "int" "list" = some false := by decide +kernel
theorem k_int_dict : kitB "int" "dict" = some false := by decide +kernel
theorem k_int_bool : kitB "int" "bool" = some false := by decide +kernel
theorem k_int_int : kitB "int" "int" = some true := by decide +kernel
theorem k_int_str : kitB "int" "str" = some false := by decide +kernel
theorem k_str_tuple : kitB "str" "tuple" = some false := by decide +kernel
theorem k_str_list : kitB "str" "list" = some false := by decide +kernel
theorem k_str_dict : kitB "str" "dict" = some false := by decide +kernel
theorem k_str_bool : kitB "str" "bool" = some false := by decide +kernel
theorem k_str_int : kitB "str" "int" = some false := by decide +kernel
theorem k_str_str : kitB "str" "str" = some true := by decide +kernel
theorem k_tuple_tuple : kitB "tuple" "tuple" = some true := by decide +kernel
theorem k_tuple_list : kitB "tuple" "list" = some false := by decide +kernel
theorem k_tuple_dict : kitB "tuple" "dict" = some false := by decide +kernel
theorem k_tuple_bool : kitB "tuple" "bool" = some false := by decide +kernel
theorem k_tuple_int : kitB "tuple" "int" = some false := by decide +kernel
theorem k_tuple_str : kitB "tuple" "str" = some false := by decide +kernel
theorem k_list_tuple : kitB "list" "tuple" = some false := by decide +kernel
theorem k_list_list : kitB "list" "list" = some true := by decide +kernel
theorem k_list_dict : kitB "list" "dict" = some false := by decide +kernel
theorem k_list_bool : kitB "list" "bool" = some false := by decide +kernel
theorem k_list_int : kitB "list" "int" = some false := by decide +kernel
theorem k_list_str : kitB "list" "str" = some false := by decide +kernel
theorem k_dict_tuple : kitB "dict" "tuple" = some false := by decide +kernel
theorem k_dict_list : kitB "dict" "list" = some false := by decide +kernel
theorem k_dict_dict : kitB "dict" "dict" = some true := by decide +kernel
theorem k_dict_bool : kitB "dict" "bool" = some false := by decide +kernel
theorem k_dict_int : kitB "dict" "int" = some false := by decide +kernel
theorem k_dict_str : kitB "dict" "str" = some false := by decide +kernel
theorem two : 2 ≤ sizeLine := by decide
end SD
namespace SD
open PySem L2
section
variable {K : PySem.W.Frag}
def isT : D → Bool
  | .sc _ => false
  | .tup _ => true
theorem rep_ty {H : Hp} {x : V} {d : D} (h : Rep K H x d) : ∃ n, TyN K H x n ∧ kitB n "tuple" = some (isT d) := by
  cases h with
  | sc hv =>
    refine ⟨_, tyN_sc hv, ?_⟩
    cases x <;> first | cases hv | skip
    · show kitB "NoneType" "tuple" = some false
      decide +kernel
    · show kitB "bool" "tuple" = some false
      decide +kernel
    · show kitB "int" "tuple" = some false
      decide +kernel
    · show kitB "str" "tuple" = some false
      decide +kernel
  | tup h z r => exact ⟨_, .tup h, show kitB "tuple" "tuple" = some true by decide +kernel⟩
end
theorem str_lens : (∀ v ∈ [V.str "a", .str "b", .str "", .str "ab", .str "A", .str "z"], ∃ z, v = .str z ∧ z.length ≤ 10) ∧ (∀ v ∈ [V.str "\"", .str "none", .str "\\", .str "1", .str "\\\"", .str "true", .str " ", .str "a b", .str "-0", .str "~", .str "from", .str "a.b"], ∃ z, v = .str z ∧ z.length ≤ 10) := by
  refine ⟨fun v hm => ?_, fun v hm => ?_⟩
  · simp only [List.mem_cons, List.not_mem_nil, or_false] at hm
    rcases hm with h | h | h | h | h | h <;> exact ⟨_, h, by decide +kernel⟩
  · simp only [List.mem_cons, List.not_mem_nil, or_false] at hm
    rcases hm with h | h | h | h | h | h | h | h | h | h | h | h <;> exact ⟨_, h, by decide +kernel⟩
def spLaw (K : PySem.W.Frag) : Sp := fun vs H Q _ => ∃ (a : Addr) (ns : List Int), vs = [.ref a] ∧ SqL K H a (ns.map V.int) ∧ ns.length ≤ 63 ∧ ∀ H', Q (.bl true) H'
theorem ord0 {v w : V} : decide (V.int (ordV v w) = V.int 0) = decide (v = w) := by
  unfold ordV
  by_cases e : v = w
  · simp [e]
  · by_cases l : keyLt v w = true <;> simp [e, l]
theorem d0 (v : V) : dep (D.sc v) < 132 := by show (0 : Nat) < 132; decide
theorem same_bl (b : Bool) : sameD (.sc (.bl b)) (.sc (.bl b)) = true := sameD_refl _
end SD
namespace SD
open PySem L2
/-! ### tuples: +, slices, tuple(x), whichever object it is -/
section
variable {X : Cx}
def rCatX (K : PySem.W.Frag) : R2 := fun x y H Q => ∃ a b xs ys, x = .ref a ∧ y = .ref b ∧ SqT K H a xs ∧ SqT K H b ys ∧ xs.length + ys.length ≤ sizeLine ∧ ∀ p H', Same H H' → SqT K H' p (xs ++ ys) → Q (.ref p) H'
theorem op_catX : OpR X (binaryOp .Add) (rCatX X.K) := OpR.of op_catA fun x y H Q ⟨a, b, xs, ys, e1, e2, h1, h2, hz, k⟩ =>
  ⟨a, b, xs, ys, e1, e2, h1, h2, hz, fun e => k b H (Same.refl H) (by rw [e]; exact h2), fun _ e => k a H (Same.refl H) (by rw [e, List.append_nil]; exact h1), fun _ _ p hp => k p _ (SD.Same.new hp) (SqT.of upd_same)⟩
def rSlX (K : PySem.W.Frag) : V → Option Int → Option Int → Hp → VK → Prop := fun x lo hi H Q => ∃ a xs, x = .ref a ∧ SqT K H a xs ∧ ∀ p H', Same H H' → SqT K H' p (cutV xs lo hi) → Q (.ref p) H'
theorem sl_tupX : SlR X (rSlX X.K) := by
  intro pins s σ H x v vl vu lo hi sl Q I rx hs pl pu h
  obtain ⟨a, xs, e, hx, k⟩ := h
  refine sl_tupA pins s σ H x v vl vu lo hi sl Q I rx hs pl pu ⟨a, xs, e, hx, fun hw => k a H (Same.refl H) ?_, fun _ p hp => k p _ (SD.Same.new hp) (SqT.of upd_same)⟩
  have : cutV xs lo hi = xs := by unfold cutV; rw [hw.1, hw.2]; simp
  rw [this]; exact hx
theorem call_tupX : CallR X (.type "tuple") (fun xs H Q => ∃ p ys, xs = [.ref p] ∧ (SqL X.K H p ys ∨ SqT X.K H p ys) ∧ ∀ q H', Same H H' → SqT X.K H' q ys → Q (.ref q) H') := fun pins s σ H xs us Q I r h => by
  obtain ⟨p, ys, e, hq, k⟩ := h
  refine call_tuple_of pins s σ H xs us Q I r ⟨p, ys, e, ?_⟩
  rcases hq with h | h
  · exact .inl ⟨h, fun l hl => k l _ (SD.Same.new hl) (SqT.of upd_same)⟩
  · exact .inr ⟨h, k p H (Same.refl H) h⟩
end
/-! ### != of two keys -/
inductive DecN (A : Around) (s : Shared) : List (Value × Value) → Bool → Prop
  | nil : DecN A s [] false
  | eq {x y : Value} {r : List (Value × Value)} {k : Bool} : SeqAt.EqAt A s x y true → DecN A s r k → DecN A s ((x, y) :: r) k
  | ne {x y : Value} {r : List (Value × Value)} : SeqAt.EqAt A s x y false → DecN A s ((x, y) :: r) true
end SD
namespace SD
open PySem L2 PySem.SeqAt
open PySem.AutoSeq1 (wpAny_loadPart')
open PySem.MeetsSeq PySem.MeetsSeq2 PySem.MeetsSeq3
theorem tup_ne_dec (l b : Addr) (xs ys : Array Value) (n m : Nat) (d1 d2 : Option Addr) (s1 s2 : Array (Option Value)) (k : Bool) (hsz : xs.size = ys.size) : Meets (Builtin.«tuple.__ne__» ⟨[.ref l, .ref b], []⟩)
    (fun A R s => s.heap.get? l = some { cls := .type "tuple", dict := d1, data := .seq xs n, slots := s1 } ∧ s.heap.get? b = some { cls := .type "tuple", dict := d2, data := .seq ys m, slots := s2 } ∧
      DecN A.in1 s (xs.toList.zip ys.toList) k ∧ R (.ok (.ret (.bool k))) s) :=
  .of_wp fun prog w A R s h => by
    obtain ⟨hp, g, d, tk, os⟩ := s
    obtain ⟨h1, h2, hd, hR⟩ := h
    have f2 := AutoSeq1.sub_tuple_tuple
    wp_walk using wpAny_loadPart' h1, wpAny_loadPart' h2, wpAny_forIn_list _ (fun rest b s' => b.1 = none ∧ s' = ⟨hp, g, d, tk, os⟩ ∧ DecN A.in1 ⟨hp, g, d, tk, os⟩ rest k) _
    case turn =>
      rintro ⟨x, y⟩ rest b s' ⟨hb, rfl, hD⟩
      cases hD with
      | eq he hr =>
        refine wpAny_bind (he prog w _ _ ?_)
        wp_walk
        exact ⟨rfl, rfl, hr⟩
      | ne he =>
        refine wpAny_bind (he prog w _ _ ?_)
        wp_walk
        exact ⟨_, rfl, hR⟩
    case fin =>
      rintro ⟨b1, b2⟩ s' ⟨hb, rfl, hD⟩
      simp only at hb
      subst hb
      cases hD
      wp_walk
      exact ⟨_, rfl, by simpa [Builtin.Tuple.tupleCompareSizes, hsz] using hR⟩
    exact ⟨rfl, rfl, hd⟩
theorem rc_ne {A : Around} {s : Shared} {l b : Addr} {xs ys : Array Value} {k : Bool} (hl : s.heap.IsTuple l xs) (hb : s.heap.IsTuple b ys) (hsz : xs.size = ys.size) (hu : A.units < cLine) (hd : DecN A.in1 s (xs.toList.zip ys.toList) k) : Ob.RcOp .NotEq A s (.ref l) (.ref b) k := fun prog w E Q h => by
  obtain ⟨⟨c1, d1, t1, s1⟩, o1, e1, n, f1⟩ := id hl
  obtain ⟨⟨c2, d2, t2, s2⟩, o2, e2, m, f2⟩ := id hb
  simp only at e1 f1 e2 f2
  subst e1 f1 e2 f2
  exact richCompare_meets_room (op := .NotEq) ⟨_, o1, rfl⟩ ⟨_, o2, rfl⟩ F.slot_tuple_ne F.entry_tuple_ne (F.args_tuple_ne_2 _ _) (tup_ne_dec l b xs ys n m d1 d2 s1 s2 k hsz) ⟨o1, o2, hd, ⟨(fun x => nomatch x), h⟩⟩ hu
end SD
namespace SD
open PySem L2
/-! ### rows and their keys -/
def dKey (v : V) : D := .tup [.sc (.int (rank v)), .sc (skB v)]
def KRow (K : PySem.W.Frag) (H : Hp) (a : Addr) (xs : List V) : Prop := ∃ ps : List Addr, SqT K H a (ps.map V.ref) ∧ ps.length = xs.length ∧ ∀ (i : Nat) p v, ps[i]? = some p → xs[i]? = some v → SqT K H p (sk v)
theorem KRow.same {K : PySem.W.Frag} {H H' : Hp} (s : Same H H') {a : Addr} {xs : List V} (h : KRow K H a xs) : KRow K H' a xs := by
  obtain ⟨ps, h1, h2, h3⟩ := h
  exact ⟨ps, SD.Same.seqT s h1, h2, fun i p v e1 e2 => SD.Same.seqT s (h3 i p v e1 e2)⟩
theorem KRow.ext {K : PySem.W.Frag} {st c : Addr} {H H' : Hp} (h0 : StoC st c H) (s : Ext st c H H') {a : Addr} {xs : List V} (h : KRow K H a xs) : KRow K H' a xs := by
  obtain ⟨ps, h1, h2, h3⟩ := h
  exact ⟨ps, s.seqT h0 h1, h2, fun i p v e1 e2 => s.seqT h0 (h3 i p v e1 e2)⟩
theorem skB_sc {v : V} (h : isSc v = true) : isSc (skB v) = true := by cases v <;> first | rfl | cases h
theorem key_rep {K : PySem.W.Frag} {H : Hp} {p : Addr} {v : V} (h : isSc v = true) (hp : SqT K H p (sk v)) : Rep K H (.ref p) (dKey v) := .tup hp (by show 2 ≤ 100000; decide) (.cons (.sc rfl) (.cons (.sc (skB_sc h)) .nil))
theorem krow_all {K : PySem.W.Frag} {H : Hp} : ∀ {ps : List Addr} {xs : List V}, ps.length = xs.length → (∀ v ∈ xs, isSc v = true) → (∀ (i : Nat) p v, ps[i]? = some p → xs[i]? = some v → SqT K H p (sk v)) → RepAll K H (ps.map V.ref) (xs.map dKey)
  | [], [], _, _, _ => .nil
  | p :: ps, x :: xs, h, hs, k => .cons (key_rep (hs x (List.mem_cons_self ..)) (k 0 p x rfl rfl)) (krow_all (by simpa using h) (fun v hv => hs v (List.mem_cons_of_mem _ hv)) fun i p v e1 e2 => k (i + 1) p v e1 e2)
  | [], _ :: _, h, _, _ => by simp at h
  | _ :: _, [], h, _, _ => by simp at h
theorem KRow.rep {K : PySem.W.Frag} {H : Hp} {a : Addr} {xs : List V} (h : KRow K H a xs) (hs : ∀ v ∈ xs, isSc v = true) (hl : xs.length ≤ 100000) : Rep K H (.ref a) (.tup (xs.map dKey)) := by
  obtain ⟨ps, h1, h2, h3⟩ := h
  exact .tup h1 (by rw [List.length_map, h2]; exact hl) (krow_all h2 hs h3)
theorem dep_keys : ∀ xs : List V, depAll (xs.map dKey) ≤ 1
  | [] => by simp [depAll]
  | x :: xs => by
    have := dep_keys xs
    simp only [List.map_cons, depAll, dKey, dep]
    omega
/-- the order of rows -/
def ordR : List V → List V → Int
  | [], [] => 0
  | [], _ :: _ => -1
  | _ :: _, [] => 1
  | x :: xs, y :: ys => if x = y then ordR xs ys else ordV x y
def ltR (f : Bool) : List V → List V → Bool
  | x :: xs, y :: ys => if x = y then ltR f xs ys else keyLt x y
  | [], _ => f
  | _ :: _, [] => f
def lenLt (xs ys : List V) : Bool := decide (xs.length < ys.length)
theorem lt_swap : ∀ (xs ys : List V) (f g : Bool), (∀ v ∈ xs, isSc v = true) → (∀ v ∈ ys, isSc v = true) → (f = lenLt xs ys) → (g = lenLt ys xs) → bi (ltR g ys xs) - bi (ltR f xs ys) = ordR xs ys
  | [], [], f, g, _, _, hf, hg => by subst hf hg; simp [ltR, lenLt, bi, ordR]
  | [], y :: ys, f, g, _, _, hf, hg => by subst hf hg; simp [ltR, lenLt, bi, ordR]
  | x :: xs, [], f, g, _, _, hf, hg => by subst hf hg; simp [ltR, lenLt, bi, ordR]
  | x :: xs, y :: ys, f, g, hx, hy, hf, hg => by
    simp only [ltR, ordR]
    by_cases e : x = y
    · subst e
      rw [if_pos rfl, if_pos rfl, if_pos rfl]
      refine lt_swap xs ys f g (fun v h => hx v (List.mem_cons_of_mem _ h)) (fun v h => hy v (List.mem_cons_of_mem _ h)) ?_ ?_
      · rw [hf]; simp [lenLt]
      · rw [hg]; simp [lenLt]
    · rw [if_neg e, if_neg e, if_neg (fun z => e z.symm)]
      exact due_ord x y (hx x (List.mem_cons_self ..)) (hy y (List.mem_cons_self ..))
theorem ordR_refl : ∀ xs : List V, ordR xs xs = 0
  | [] => rfl
  | x :: xs => by simp only [ordR, if_true]; exact ordR_refl xs
theorem ordV_zero {x y : V} (h : ordV x y = 0) : x = y := by
  unfold ordV at h
  by_cases e : x = y
  · exact e
  · rw [if_neg e] at h
    by_cases l : keyLt x y = true
    · rw [if_pos l] at h; omega
    · rw [if_neg l] at h; omega
theorem ordR_zero : ∀ {xs ys : List V}, ordR xs ys = 0 → xs = ys
  | [], [], _ => rfl
  | [], _ :: _, h => by simp [ordR] at h
  | _ :: _, [], h => by simp [ordR] at h
  | x :: xs, y :: ys, h => by
    simp only [ordR] at h
    by_cases e : x = y
    · rw [if_pos e] at h; rw [e, ordR_zero h]
    · rw [if_neg e] at h; exact absurd (ordV_zero h) e
theorem ordR_of {xs ys : List V} (hx : ∀ v ∈ xs, isSc v = true) (hy : ∀ v ∈ ys, isSc v = true) : ordR xs ys = if xs = ys then 0 else if ltR (lenLt xs ys) xs ys = true then -1 else 1 := by
  have h := lt_swap xs ys _ _ hx hy rfl rfl
  by_cases e : xs = ys
  · rw [if_pos e, e]; exact ordR_refl ys
  · rw [if_neg e]
    have n : ordR xs ys ≠ 0 := fun z => e (ordR_zero z)
    cases a : ltR (lenLt xs ys) xs ys <;> cases b : ltR (lenLt ys xs) ys xs <;> simp [a, b, bi] at h <;> simp <;> omega
/-! ### == < > of keys and of rows' keys, in the machine -/
section
variable {X : Cx} {pins : List (Addr × Obj)} {σ : St} {H : Hp} {s : Shared}
theorem key_eqAt {A : Around} (I : Inv X pins σ H s) (hu : A.units < cLine) {p q : Addr} {v w : V} (hv : isSc v = true) (hw : isSc w = true) (h1 : SqT X.K H p (sk v)) (h2 : SqT X.K H q (sk w)) : SeqAt.EqAt A s (.ref p) (.ref q) (decide (v = w)) := by
  by_cases e : p = q
  · subst e
    have := I.tuple_inj h1 h2
    have e2 : v = w := by
      unfold sk at this
      simp only [List.cons.injEq, V.int.injEq, and_true] at this
      exact sk_inj hv hw this.1 this.2
    rw [decide_eq_true e2]
    exact SeqAt.EqAt.same _
  · refine SeqAt.EqAt.of_refs e ?_
    obtain ⟨its, r1, p1, _⟩ := I.tuple h1
    obtain ⟨its2, r2, p2, _⟩ := I.tuple h2
    obtain ⟨t1, y1, rfl, ry1⟩ := key_items (s := s) (a := p) r1
    obtain ⟨t2, y2, rfl, ry2⟩ := key_items (s := s) (a := q) r2
    have R := SeqAt.RcAt.tuples (A := A) (s := s) (e := fun j => if j = 0 then decide (rank v = rank w) else decide (skB v = skB w)) p1 p2 hu (fun j h1 h2 => by
      match j, h1, h2 with
      | 0, _, _ => exact int_eqB _ _ _ _
      | 1, _, _ => exact key_eqB hv hw ry1 ry2)
    have z : decide (v = w) = (decide (rank v = rank w) && decide (skB v = skB w)) := by
      by_cases e1 : rank v = rank w
      · by_cases e2 : skB v = skB w
        · simp [e1, e2, sk_inj hv hw e1 e2]
        · have : v ≠ w := fun e => e2 (by rw [e])
          simp [e2, this]
      · have : v ≠ w := fun e => e1 (by rw [e])
        simp [e1, this]
    rw [z]
    simpa [List.range, List.range.loop] using R
theorem op_neK (hu : X.A.units < cLine) : OpR X (compareOp .NotEq) (rK X.K fun v w => !decide (v = w)) := by
  intro pins s σ H x y v u Q I rx ry h
  obtain ⟨a, b, p, q, rfl, rfl, hv, hw, ha, hb, k⟩ := h
  cases rx
  cases ry
  obtain ⟨its, r1, p1, _⟩ := I.tuple ha
  obtain ⟨its2, r2, p2, _⟩ := I.tuple hb
  obtain ⟨t1, y1, rfl, ry1⟩ := key_items (s := s) (a := a) r1
  obtain ⟨t2, y2, rfl, ry2⟩ := key_items (s := s) (a := b) r2
  have hd : DecN X.A.in1 s [(.int (rank p) t1, .int (rank q) t2), (y1, y2)] (!decide (p = q)) := by
    have h0 := int_eqB (A := X.A.in1) (s := s) (rank p) (rank q) t1 t2
    have h1 := key_eqB (A := X.A.in1) (s := s) hv hw ry1 ry2
    by_cases e1 : rank p = rank q
    · rw [decide_eq_true e1] at h0
      by_cases e2 : skB p = skB q
      · rw [decide_eq_true e2] at h1
        have : p = q := sk_inj hv hw e1 e2
        subst this
        simp
        exact .eq h0 (.eq h1 .nil)
      · rw [decide_eq_false e2] at h1
        have : p ≠ q := fun e => e2 (by rw [e])
        simp only [decide_eq_false this, Bool.not_false]
        exact .eq h0 (.ne h1)
    · rw [decide_eq_false e1] at h0
      have : p ≠ q := fun e => e1 (by rw [e])
      simp only [decide_eq_false this, Bool.not_false]
      exact .ne h0
  exact rc_ne (A := X.A) (s := s) p1 p2 rfl hu hd X.prog X.w X.xe (EP X pins σ Q) ⟨.bl _, H, I, rfl, k⟩
theorem key_rc {A : Around} (I : Inv X pins σ H s) (hu : A.units < cLine) {p q : Addr} {v w : V} (hv : isSc v = true) (hw : isSc w = true) (h1 : SqT X.K H p (sk v)) (h2 : SqT X.K H q (sk w)) :
    Ob.RcOp .Lt A s (.ref p) (.ref q) (keyLt v w) ∧ Ob.RcOp .Gt A s (.ref p) (.ref q) (keyLt w v) := by
  obtain ⟨its, r1, p1, _⟩ := I.tuple h1
  obtain ⟨its2, r2, p2, _⟩ := I.tuple h2
  obtain ⟨t1, y1, rfl, ry1⟩ := key_items (s := s) (a := p) r1
  obtain ⟨t2, y2, rfl, ry2⟩ := key_items (s := s) (a := q) r2
  exact ⟨rc_lt (A := A) (s := s) p1 p2 hu (key_lt_dec (f := true) hv hw ry1 ry2), rc_gt (A := A) (s := s) p1 p2 hu (key_gt_dec (f := true) hv hw ry1 ry2)⟩
theorem rows_dec {A : Around} (I : Inv X pins σ H s) (hu : A.units < cLine) (f g : Bool) : ∀ (ps qs : List Addr) (xs ys : List V) (us ws : List Value), Vals (ps.map V.ref) us → Vals (qs.map V.ref) ws → ps.length = xs.length → qs.length = ys.length → (∀ v ∈ xs, isSc v = true) → (∀ v ∈ ys, isSc v = true) →
    (∀ (i : Nat) p v, ps[i]? = some p → xs[i]? = some v → SqT X.K H p (sk v)) → (∀ (i : Nat) p v, qs[i]? = some p → ys[i]? = some v → SqT X.K H p (sk v)) →
    Dec .Lt A s f (us.zip ws) (ltR f xs ys) ∧ Dec .Gt A s g (us.zip ws) (ltR g ys xs)
  | [], qs, [], ys, us, ws, r1, _, _, h2, _, _, _, _ => by
    cases r1
    cases ys <;> exact ⟨.nil, .nil⟩
  | p :: ps, [], x :: xs, [], us, ws, _, r2, _, _, _, _, _, _ => by
    cases r2
    cases us <;> exact ⟨.nil, .nil⟩
  | p :: ps, q :: qs, x :: xs, y :: ys, us, ws, r1, r2, h1, h2, hx, hy, k1, k2 => by
    cases r1 with
    | cons a1 b1 =>
      cases r2 with
      | cons a2 b2 =>
        cases a1
        cases a2
        have ex := hx x (List.mem_cons_self ..)
        have ey := hy y (List.mem_cons_self ..)
        have q1 := k1 0 p x rfl rfl
        have q2 := k2 0 q y rfl rfl
        have he := key_eqAt (A := A) I hu ex ey q1 q2
        have hr := key_rc (A := A) I hu ex ey q1 q2
        have ih := rows_dec I hu f g ps qs xs ys _ _ b1 b2 (by simpa using h1) (by simpa using h2) (fun v h => hx v (List.mem_cons_of_mem _ h)) (fun v h => hy v (List.mem_cons_of_mem _ h)) (fun i p v e1 e2 => k1 (i + 1) p v e1 e2) fun i p v e1 e2 => k2 (i + 1) p v e1 e2
        simp only [ltR, List.zip_cons_cons]
        by_cases e : x = y
        · rw [if_pos e, if_pos e.symm]
          rw [decide_eq_true e] at he
          exact ⟨.eq he ih.1, .eq he ih.2⟩
        · rw [if_neg e, if_neg (fun z => e z.symm)]
          rw [decide_eq_false e] at he
          exact ⟨.ne he hr.1, .ne he hr.2⟩
  | [], _, _ :: _, _, _, _, _, _, h, _, _, _, _, _ => by simp at h
  | _ :: _, _, [], _, _, _, _, _, h, _, _, _, _, _ => by simp at h
  | _, [], _, _ :: _, _, _, _, _, _, h, _, _, _, _ => by simp at h
  | _, _ :: _, _, [], _, _, _, _, _, h, _, _, _, _ => by simp at h
theorem eq_rows : ∀ {xs ys : List V}, xs.length = ys.length → (∀ (i : Nat), xs[i]? = ys[i]?) → xs = ys := fun _ h => List.ext_getElem? h
def rKR (K : PySem.W.Frag) (g : List V → List V → Bool) : R2 := fun x y H Q => ∃ a b xs ys, x = .ref a ∧ y = .ref b ∧ (∀ v ∈ xs, isSc v = true) ∧ (∀ v ∈ ys, isSc v = true) ∧ KRow K H a xs ∧ KRow K H b ys ∧ Q (.bl (g xs ys)) H
theorem op_ltR (hu : X.A.units + 1 < cLine) : OpR X (compareOp .Lt) (rKR X.K fun xs ys => ltR (lenLt xs ys) xs ys) := by
  intro pins s σ H x y v u Q I rx ry h
  obtain ⟨a, b, xs, ys, rfl, rfl, hx, hy, ⟨ps, h1, l1, k1⟩, ⟨qs, h2, l2, k2⟩, k⟩ := h
  cases rx
  cases ry
  obtain ⟨its, r1, p1, _⟩ := I.tuple h1
  obtain ⟨its2, r2, p2, _⟩ := I.tuple h2
  have hd := (rows_dec (A := X.A.in1) I hu (lenLt xs ys) true ps qs xs ys its its2 r1 r2 l1 l2 hx hy k1 k2).1
  refine rc_lt (A := X.A) (s := s) p1 p2 (by omega) ?_ X.prog X.w X.xe (EP X pins σ Q) ⟨.bl _, H, I, rfl, k⟩
  have e : decide (its.toArray.size < its2.toArray.size) = lenLt xs ys := by
    have a1 := r1.length
    have a2 := r2.length
    simp only [List.length_map] at a1 a2
    simp [lenLt, ← a1, ← a2, l1, l2]
  rw [e]
  exact hd
theorem op_gtR (hu : X.A.units + 1 < cLine) : OpR X (compareOp .Gt) (rKR X.K fun xs ys => ltR (lenLt ys xs) ys xs) := by
  intro pins s σ H x y v u Q I rx ry h
  obtain ⟨a, b, xs, ys, rfl, rfl, hx, hy, ⟨ps, h1, l1, k1⟩, ⟨qs, h2, l2, k2⟩, k⟩ := h
  cases rx
  cases ry
  obtain ⟨its, r1, p1, _⟩ := I.tuple h1
  obtain ⟨its2, r2, p2, _⟩ := I.tuple h2
  have hd := (rows_dec (A := X.A.in1) I hu true (lenLt ys xs) ps qs xs ys its its2 r1 r2 l1 l2 hx hy k1 k2).2
  refine rc_gt (A := X.A) (s := s) p1 p2 (by omega) ?_ X.prog X.w X.xe (EP X pins σ Q) ⟨.bl _, H, I, rfl, k⟩
  have e : decide (its.toArray.size > its2.toArray.size) = lenLt ys xs := by
    have a1 := r1.length
    have a2 := r2.length
    simp only [List.length_map] at a1 a2
    simp [lenLt, ← a1, ← a2, l1, l2]
  rw [e]
  exact hd
theorem op_eqR (hu : X.A.units + 1 < cLine) : OpR X (compareOp .Eq) (rKR X.K fun xs ys => decide (xs = ys)) := by
  intro pins s σ H x y v u Q I rx ry h
  obtain ⟨a, b, xs, ys, rfl, rfl, hx, hy, ⟨ps, h1, l1, k1⟩, ⟨qs, h2, l2, k2⟩, k⟩ := h
  cases rx
  cases ry
  obtain ⟨its, r1, p1, _⟩ := I.tuple h1
  obtain ⟨its2, r2, p2, _⟩ := I.tuple h2
  have a1 := r1.length
  have a2 := r2.length
  simp only [List.length_map] at a1 a2
  have at1 : ∀ {ps : List Addr} {its : List Value}, Vals (ps.map V.ref) its → ∀ (j : Nat) (h : j < its.length), ∃ p, ps[j]? = some p ∧ its[j] = .ref p := by
    intro ps
    induction ps with
    | nil => intro its r j h; cases r; simp at h
    | cons p ps ih =>
      intro its r j h
      cases r with
      | cons r1 r2 =>
        cases r1
        cases j with
        | zero => exact ⟨p, rfl, rfl⟩
        | succ j =>
          obtain ⟨q, h1, h2⟩ := ih r2 j (by simpa using h)
          exact ⟨q, by simpa using h1, by simpa using h2⟩
  refine SeqAt.eq_tupleAt (e := fun j => decide (xs[j]? = ys[j]?)) p1 p2 (by omega) (fun j g1 g2 => ?_) ⟨.bl _, H, I, rfl, ?_⟩
  · simp only [List.size_toArray] at g1 g2
    obtain ⟨p, e1, e2⟩ := at1 r1 j g1
    obtain ⟨q, e3, e4⟩ := at1 r2 j g2
    have jx : j < xs.length := by omega
    have jy : j < ys.length := by omega
    have hxj : xs[j]? = some xs[j] := List.getElem?_eq_getElem jx
    have hyj : ys[j]? = some ys[j] := List.getElem?_eq_getElem jy
    have := key_eqAt (A := X.A.in1) I hu (hx _ (List.getElem_mem jx)) (hy _ (List.getElem_mem jy)) (k1 j p _ e1 hxj) (k2 j q _ e3 hyj)
    have z : decide (xs[j]? = ys[j]?) = decide (xs[j] = ys[j]) := by rw [hxj, hyj]; simp
    rw [z]
    simpa [e2, e4] using this
  · have z : decide (xs = ys) = (((List.range (min its.toArray.size its2.toArray.size)).all fun j => decide (xs[j]? = ys[j]?)) && its.toArray.size == its2.toArray.size) := by
      simp only [List.size_toArray, ← a1, ← a2, l1, l2]
      by_cases e : xs = ys
      · subst e
        simp
      · rw [decide_eq_false e]
        symm
        by_cases hl : xs.length = ys.length
        · have : ¬ ∀ (i : Nat), xs[i]? = ys[i]? := fun h => e (List.ext_getElem? h)
          have : ∃ i, xs[i]? ≠ ys[i]? := Classical.not_forall.mp this
          obtain ⟨i, hi⟩ := this
          have il : i < xs.length := by
            by_cases q : i < xs.length
            · exact q
            · exact absurd (by rw [List.getElem?_eq_none (by omega), List.getElem?_eq_none (by omega)]) hi
          rw [Bool.and_eq_false_iff]
          left
          rw [List.all_eq_false]
          exact ⟨i, by rw [List.mem_range]; omega, by simpa using hi⟩
        · simp [hl]
    have k : Q (.bl (decide (xs = ys))) H := k
    rw [z] at k
    exact k
end
/-! ### promises -/
def Row (K : PySem.W.Frag) (H : Hp) (r : V) : Prop := ∃ a xs, r = .ref a ∧ SqT K H a xs ∧ (∀ v ∈ xs, Sc v) ∧ xs.length ≤ 12
theorem Row.ext {K : PySem.W.Frag} {st c : Addr} {H H' : Hp} (h0 : StoC st c H) (s : Ext st c H H') {r : V} (h : Row K H r) : Row K H' r := by
  obtain ⟨a, xs, e, h1, h2⟩ := h
  exact ⟨a, xs, e, s.seqT h0 h1, h2⟩
theorem Row.same {K : PySem.W.Frag} {H H' : Hp} (s : Same H H') {r : V} (h : Row K H r) : Row K H' r := by
  obtain ⟨a, xs, e, h1, h2⟩ := h
  exact ⟨a, xs, e, SD.Same.seqT s h1, h2⟩
def spRowKey (K : PySem.W.Frag) : Sp := fun vs H Q _ => ∃ a xs, vs = [.ref a] ∧ SqT K H a xs ∧ (∀ v ∈ xs, isSc v = true) ∧ xs.length ≤ 100000 ∧ ∀ p H', Same H H' → KRow K H' p xs → Q (.ref p) H'
def spOrderR (K : PySem.W.Frag) : Sp := fun vs H Q _ => ∃ a b xs ys, vs = [.ref a, .ref b] ∧ (∀ v ∈ xs, isSc v = true) ∧ (∀ v ∈ ys, isSc v = true) ∧ KRow K H a xs ∧ KRow K H b ys ∧ Q (.int (ordR xs ys)) H
def spCmpRows (K : PySem.W.Frag) : Sp := fun vs H Q _ => ∃ a b xs ys, vs = [.ref a, .ref b] ∧ (∀ v ∈ xs, isSc v = true) ∧ (∀ v ∈ ys, isSc v = true) ∧ SqT K H a xs ∧ SqT K H b ys ∧ xs.length ≤ 100000 ∧ ys.length ≤ 100000 ∧ ∀ H', Same H H' → Q (.int (ordR xs ys)) H'
def spRow (K : PySem.W.Frag) : Sp := fun vs H Q _ => ∃ st c, vs = [.ref st] ∧ StoC st c H ∧ ∀ r H', Ext st c H H' → Row K H' r → Q r H'
def spNear (K : PySem.W.Frag) : Sp := fun vs H Q _ => ∃ st c r, vs = [.ref st, r] ∧ StoC st c H ∧ Row K H r ∧ ∀ r2 H', Ext st c H H' → Row K H' r2 → Q r2 H'
def spRows (K : PySem.W.Frag) : Sp := fun vs H Q _ => ∃ st c u m, vs = [.ref st, .int u, .int m] ∧ StoC st c H ∧ 0 ≤ u ∧ u ≤ m ∧ m ≤ 5000 ∧
  ∀ p rs H', Ext st c H H' → p ≠ st → H p = none → H' p = some (.lst rs) → (rs.length : Int) ≤ m → (∀ r ∈ rs, Row K H' r) → Q (.ref p) H'
end SD
namespace SD
open PySem L2
theorem seqT_upd {K : PySem.W.Frag} {H : Hp} {D p : Addr} {ys : List V} {o : HO} {xs : List V} (h : SqT K H p xs) (hD : H D = some (.lst ys)) : SqT K (upd H D o) p xs := by
  rcases h with h | h
  · refine .inl ?_
    have n : p ≠ D := fun e => by
      rcases h with h | ⟨z, h⟩ <;> rw [e, hD] at h <;> cases h
    rcases h with h | ⟨z, h⟩
    · exact .inl (by rw [upd_ne n]; exact h)
    · exact .inr ⟨z, by rw [upd_ne n]; exact h⟩
  · exact .inr h
theorem KRow.upd {K : PySem.W.Frag} {H : Hp} {D p : Addr} {ys : List V} {o : HO} {xs : List V} (h : KRow K H p xs) (hD : H D = some (.lst ys)) : KRow K (L2.upd H D o) p xs := by
  obtain ⟨ps, h1, h2, h3⟩ := h
  exact ⟨ps, seqT_upd h1 hD, h2, fun i p v e1 e2 => seqT_upd (h3 i p v e1 e2) hD⟩
theorem Row.upd {K : PySem.W.Frag} {H : Hp} {D : Addr} {ys : List V} {o : HO} {r : V} (h : Row K H r) (hD : H D = some (.lst ys)) : Row K (L2.upd H D o) r := by
  obtain ⟨a, xs, e, h1, h2⟩ := h
  exact ⟨a, xs, e, seqT_upd h1 hD, h2⟩
theorem cutV_mem {xs : List V} {lo hi : Option Int} {v : V} (h : v ∈ cutV xs lo hi) : v ∈ xs := List.mem_of_mem_drop (List.mem_of_mem_take h)
theorem cutV_pre (xs : List V) (k : Nat) (h : k ≤ xs.length) : (cutV xs none (some (k : Int))).length = k := by
  unfold cutV
  rw [HT.sIx_nat, HT.sIx_none]
  simp
  omega
theorem cutV_suf (xs : List V) (k : Nat) (h : k ≤ xs.length) : (cutV xs (some (k : Int)) none).length = xs.length - k := by
  unfold cutV
  rw [HT.sIx_nat, HT.sIx_none]
  simp
  omega
/-- the rows as lists -/
theorem rows_vals {K : PySem.W.Frag} {H : Hp} : ∀ rs : List V, (∀ r ∈ rs, Row K H r) → ∃ X : List (List V), X.length = rs.length ∧ ∀ (i : Nat) (r : V) (xs : List V), rs[i]? = some r → X[i]? = some xs → ∃ a, r = .ref a ∧ SqT K H a xs ∧ (∀ v ∈ xs, Sc v) ∧ xs.length ≤ 12
  | [], _ => ⟨[], rfl, fun i r xs h => by simp at h⟩
  | r :: rs, h => by
    obtain ⟨X, h1, h2⟩ := rows_vals rs fun r hr => h r (List.mem_cons_of_mem _ hr)
    obtain ⟨a, xs, e, h3⟩ := h r (List.mem_cons_self ..)
    refine ⟨xs :: X, by simp [h1], fun i r' xs' e1 e2 => ?_⟩
    cases i with
    | zero => simp at e1 e2; subst e1 e2; exact ⟨a, e, h3⟩
    | succ i => exact h2 i r' xs' (by simpa using e1) (by simpa using e2)
theorem ordR_drop {xs ys : List V} {i : Nat} {x y : V} (hx : xs[i]? = some x) (hy : ys[i]? = some y) : ordR (xs.drop i) (ys.drop i) = if x = y then ordR (xs.drop (i + 1)) (ys.drop (i + 1)) else ordV x y := by
  have e1 : xs.drop i = x :: xs.drop (i + 1) := by
    obtain ⟨h, e⟩ := List.getElem?_eq_some_iff.mp hx
    rw [← e]; exact List.drop_eq_getElem_cons h
  have e2 : ys.drop i = y :: ys.drop (i + 1) := by
    obtain ⟨h, e⟩ := List.getElem?_eq_some_iff.mp hy
    rw [← e]; exact List.drop_eq_getElem_cons h
  rw [e1, e2]
  rfl
theorem ordR_end (xs ys : List V) : ordR (xs.drop (min xs.length ys.length)) (ys.drop (min xs.length ys.length)) = bi (decide (ys.length < xs.length)) - bi (decide (xs.length < ys.length)) := by
  rcases Nat.lt_trichotomy xs.length ys.length with h | h | h
  · have e1 : xs.drop (min xs.length ys.length) = [] := List.drop_of_length_le (by omega)
    have e2 : (ys.drop (min xs.length ys.length)).length = ys.length - xs.length := by rw [List.length_drop]; omega
    rw [e1]
    cases q : ys.drop (min xs.length ys.length) with
    | nil => rw [q] at e2; simp at e2; omega
    | cons y r =>
      have n : ¬ ys.length < xs.length := by omega
      simp [ordR, bi, h, n]
  · have e1 : xs.drop (min xs.length ys.length) = [] := List.drop_of_length_le (by omega)
    have e2 : ys.drop (min xs.length ys.length) = [] := List.drop_of_length_le (by omega)
    rw [e1, e2]
    simp [ordR, bi, h]
  · have e1 : ys.drop (min xs.length ys.length) = [] := List.drop_of_length_le (by omega)
    have e2 : (xs.drop (min xs.length ys.length)).length = xs.length - ys.length := by rw [List.length_drop]; omega
    rw [e1]
    cases q : xs.drop (min xs.length ys.length) with
    | nil => rw [q] at e2; simp at e2; omega
    | cons y r =>
      have n : ¬ xs.length < ys.length := by omega
      simp [ordR, bi, h, n]
def spRowOrder (K : PySem.W.Frag) : Sp := fun vs H Q _ => ∃ a b xs ys, vs = [.ref a, .ref b] ∧ (∀ v ∈ xs, isSc v = true) ∧ (∀ v ∈ ys, isSc v = true) ∧ SqT K H a xs ∧ SqT K H b ys ∧ xs.length ≤ 100000 ∧ ys.length ≤ 100000 ∧ ∀ H', Same H H' → Q (.int (ordR xs ys)) H'
end SD
namespace SD
open PySem L2 PySem.SeqAt
open PySem.AutoSeq1 (wpAny_loadPart')
open PySem.MeetsSeq PySem.MeetsSeq2 PySem.MeetsSeq3
theorem tup_le_dec (l b : Addr) (xs ys : Array Value) (n m : Nat) (d1 d2 : Option Addr) (s1 s2 : Array (Option Value)) (k : Bool) : Meets (Builtin.«tuple.__le__» ⟨[.ref l, .ref b], []⟩)
    (fun A R s => s.heap.get? l = some { cls := .type "tuple", dict := d1, data := .seq xs n, slots := s1 } ∧ s.heap.get? b = some { cls := .type "tuple", dict := d2, data := .seq ys m, slots := s2 } ∧
      Dec .LtE A.in1 s (decide (xs.size ≤ ys.size)) (xs.toList.zip ys.toList) k ∧ R (.ok (.ret (.bool k))) s) :=
  .of_wp fun prog w A R s h => by
    obtain ⟨hp, g, d, tk, os⟩ := s
    obtain ⟨h1, h2, hd, hR⟩ := h
    have f2 := AutoSeq1.sub_tuple_tuple
    wp_walk using wpAny_loadPart' h1, wpAny_loadPart' h2, wpAny_forIn_list _ (fun rest b s' => b.1 = none ∧ s' = ⟨hp, g, d, tk, os⟩ ∧ Dec .LtE A.in1 ⟨hp, g, d, tk, os⟩ (decide (xs.size ≤ ys.size)) rest k) _
    case turn =>
      rintro ⟨x, y⟩ rest b s' ⟨hb, rfl, hD⟩
      cases hD with
      | eq he hr =>
        refine wpAny_bind (he prog w _ _ ?_)
        wp_walk
        exact ⟨rfl, rfl, hr⟩
      | ne he hr =>
        have hr2 := hr prog w
        refine wpAny_bind (he prog w _ _ ?_)
        generalize richCompare CmpOp.LtE x y = rc at hr2 ⊢
        wp_walk
        refine hr2 _ _ ?_
        wp_walk
        exact ⟨_, rfl, hR⟩
    case fin =>
      rintro ⟨b1, b2⟩ s' ⟨hb, rfl, hD⟩
      simp only at hb
      subst hb
      cases hD
      wp_walk
      exact ⟨_, rfl, by simpa [Builtin.Tuple.tupleCompareSizes] using hR⟩
    exact ⟨rfl, rfl, hd⟩
theorem tup_ge_dec (l b : Addr) (xs ys : Array Value) (n m : Nat) (d1 d2 : Option Addr) (s1 s2 : Array (Option Value)) (k : Bool) : Meets (Builtin.«tuple.__ge__» ⟨[.ref l, .ref b], []⟩)
    (fun A R s => s.heap.get? l = some { cls := .type "tuple", dict := d1, data := .seq xs n, slots := s1 } ∧ s.heap.get? b = some { cls := .type "tuple", dict := d2, data := .seq ys m, slots := s2 } ∧
      Dec .GtE A.in1 s (decide (xs.size ≥ ys.size)) (xs.toList.zip ys.toList) k ∧ R (.ok (.ret (.bool k))) s) :=
  .of_wp fun prog w A R s h => by
    obtain ⟨hp, g, d, tk, os⟩ := s
    obtain ⟨h1, h2, hd, hR⟩ := h
    have f2 := AutoSeq1.sub_tuple_tuple
    wp_walk using wpAny_loadPart' h1, wpAny_loadPart' h2, wpAny_forIn_list _ (fun rest b s' => b.1 = none ∧ s' = ⟨hp, g, d, tk, os⟩ ∧ Dec .GtE A.in1 ⟨hp, g, d, tk, os⟩ (decide (xs.size ≥ ys.size)) rest k) _
    case turn =>
      rintro ⟨x, y⟩ rest b s' ⟨hb, rfl, hD⟩
      cases hD with
      | eq he hr =>
        refine wpAny_bind (he prog w _ _ ?_)
        wp_walk
        exact ⟨rfl, rfl, hr⟩
      | ne he hr =>
        have hr2 := hr prog w
        refine wpAny_bind (he prog w _ _ ?_)
        generalize richCompare CmpOp.GtE x y = rc at hr2 ⊢
        wp_walk
        refine hr2 _ _ ?_
        wp_walk
        exact ⟨_, rfl, hR⟩
    case fin =>
      rintro ⟨b1, b2⟩ s' ⟨hb, rfl, hD⟩
      simp only at hb
      subst hb
      cases hD
      wp_walk
      exact ⟨_, rfl, by simpa [Builtin.Tuple.tupleCompareSizes] using hR⟩
    exact ⟨rfl, rfl, hd⟩
theorem rc_le {A : Around} {s : Shared} {l b : Addr} {xs ys : Array Value} {k : Bool} (hl : s.heap.IsTuple l xs) (hb : s.heap.IsTuple b ys) (hu : A.units < cLine) (hd : Dec .LtE A.in1 s (decide (xs.size ≤ ys.size)) (xs.toList.zip ys.toList) k) : Ob.RcOp .LtE A s (.ref l) (.ref b) k := fun prog w E Q h => by
  obtain ⟨⟨c1, d1, t1, s1⟩, o1, e1, n, f1⟩ := id hl
  obtain ⟨⟨c2, d2, t2, s2⟩, o2, e2, m, f2⟩ := id hb
  simp only at e1 f1 e2 f2
  subst e1 f1 e2 f2
  exact richCompare_meets_room (op := .LtE) ⟨_, o1, rfl⟩ ⟨_, o2, rfl⟩ F.slot_tuple_le F.entry_tuple_le (F.args_tuple_le_2 _ _) (tup_le_dec l b xs ys n m d1 d2 s1 s2 k) ⟨o1, o2, hd, ⟨(fun x => nomatch x), h⟩⟩ hu
theorem rc_ge {A : Around} {s : Shared} {l b : Addr} {xs ys : Array Value} {k : Bool} (hl : s.heap.IsTuple l xs) (hb : s.heap.IsTuple b ys) (hu : A.units < cLine) (hd : Dec .GtE A.in1 s (decide (xs.size ≥ ys.size)) (xs.toList.zip ys.toList) k) : Ob.RcOp .GtE A s (.ref l) (.ref b) k := fun prog w E Q h => by
  obtain ⟨⟨c1, d1, t1, s1⟩, o1, e1, n, f1⟩ := id hl
  obtain ⟨⟨c2, d2, t2, s2⟩, o2, e2, m, f2⟩ := id hb
  simp only at e1 f1 e2 f2
  subst e1 f1 e2 f2
  exact richCompare_meets_room (op := .GtE) ⟨_, o1, rfl⟩ ⟨_, o2, rfl⟩ F.slot_tuple_ge F.entry_tuple_ge (F.args_tuple_ge_2 _ _) (tup_ge_dec l b xs ys n m d1 d2 s1 s2 k) ⟨o1, o2, hd, ⟨(fun x => nomatch x), h⟩⟩ hu
end SD
namespace SD
open PySem L2
theorem keyLt_as {v w : V} (hv : isSc v = true) (hw : isSc w = true) (h : keyLt v w = true) : keyLt w v = false := by
  cases q : keyLt w v with
  | false => rfl
  | true =>
    have d := due_ord v w hv hw
    rw [h, q] at d
    have : ordV v w = 0 := by rw [← d]; simp [bi]
    have e := ordV_zero this
    subst e
    rw [keyLt_irr v hv] at h
    cases h
theorem keyLt_tri {v w : V} (hv : isSc v = true) (hw : isSc w = true) (hne : v ≠ w) : keyLt v w = !keyLt w v := by
  cases q : keyLt w v with
  | true => rw [keyLt_as hw hv q]; rfl
  | false =>
    cases r : keyLt v w with
    | true => rfl
    | false =>
      have d := due_ord v w hv hw
      rw [q, r] at d
      exact absurd (ordV_zero (by rw [← d]; simp [bi])) hne
section
variable {X : Cx}
theorem ltB_as {v w : V} (hv : isSc v = true) (hw : isSc w = true) (e : rank v = rank w) : ltB (skB v) (skB w) = keyLt v w := by
  unfold keyLt; rw [if_pos e]
theorem key_leB {A : Around} {s : Shared} {v w : V} {y z : Value} (e : rank v = rank w) (hv : isSc v = true) (hw : isSc w = true) (ry : RelV (skB v) y) (rz : RelV (skB w) z) : Ob.RcOp .LtE A s y z (!ltB (skB w) (skB v)) ∧ Ob.RcOp .GtE A s y z (!ltB (skB v) (skB w)) := by
  rcases skB_kind v hv with ⟨i, e1, n1⟩ | ⟨x, e1, n1⟩ <;> rcases skB_kind w hw with ⟨j, e2, n2⟩ | ⟨x2, e2, n2⟩
  · rw [e1] at ry ⊢; rw [e2] at rz ⊢
    obtain ⟨t, rfl⟩ := ry; obtain ⟨t2, rfl⟩ := rz
    have z1 : (!ltB (V.int j) (V.int i)) = decide (i ≤ j) := by simp only [ltB]; by_cases q : i ≤ j <;> simp [q] <;> omega
    have z2 : (!ltB (V.int i) (V.int j)) = decide (j ≤ i) := by simp only [ltB]; by_cases q : j ≤ i <;> simp [q] <;> omega
    rw [z1, z2]
    exact ⟨Ob.RcOp.le_int _ _ _ _, Ob.RcOp.ge_int _ _ _ _⟩
  · omega
  · omega
  · rw [e1] at ry ⊢; rw [e2] at rz ⊢
    obtain ⟨t, rfl⟩ := ry; obtain ⟨t2, rfl⟩ := rz
    exact ⟨fun _ _ _ _ h => PySem.P.le_str h, fun _ _ _ _ h => PySem.P.ge_str h⟩
theorem key_le_dec {A : Around} {s : Shared} {p q : V} {t1 t2 : Tok} {y1 y2 : Value} (hp : isSc p = true) (hq : isSc q = true) (r1 : RelV (skB p) y1) (r2 : RelV (skB q) y2) :
    Dec .LtE A s true [(.int (rank p) t1, .int (rank q) t2), (y1, y2)] (!keyLt q p) ∧ Dec .GtE A s true [(.int (rank p) t1, .int (rank q) t2), (y1, y2)] (!keyLt p q) := by
  have h0 := int_eqB (A := A) (s := s) (rank p) (rank q) t1 t2
  by_cases e : rank p = rank q
  · rw [decide_eq_true e] at h0
    have h1 := key_eqB (A := A) (s := s) hp hq r1 r2
    by_cases e2 : skB p = skB q
    · rw [decide_eq_true e2] at h1
      have := sk_inj hp hq e e2
      subst this
      rw [keyLt_irr p hp]
      exact ⟨.eq h0 (.eq h1 .nil), .eq h0 (.eq h1 .nil)⟩
    · rw [decide_eq_false e2] at h1
      have := key_leB (A := A) (s := s) e hp hq r1 r2
      rw [ltB_as hp hq e, ltB_as hq hp e.symm] at this
      exact ⟨.eq h0 (.ne h1 this.1), .eq h0 (.ne h1 this.2)⟩
  · rw [decide_eq_false e] at h0
    have z1 : (!keyLt q p) = decide (rank p ≤ rank q) := by
      unfold keyLt; rw [if_neg (fun z => e z.symm)]
      by_cases l : rank p ≤ rank q
      · have : ¬ rank q < rank p := by omega
        simp [l, this]
      · have : rank q < rank p := by omega
        simp [l, this]
    have z2 : (!keyLt p q) = decide (rank q ≤ rank p) := by
      unfold keyLt; rw [if_neg e]
      by_cases l : rank q ≤ rank p
      · have : ¬ rank p < rank q := by omega
        simp [l, this]
      · have : rank p < rank q := by omega
        simp [l, this]
    rw [z1, z2]
    exact ⟨.ne h0 (Ob.RcOp.le_int _ _ _ _), .ne h0 (Ob.RcOp.ge_int _ _ _ _)⟩
theorem op_leK (hu : X.A.units < cLine) : OpR X (compareOp .LtE) (rK X.K fun v w => !keyLt w v) := by
  intro pins s σ H x y v u Q I rx ry h
  obtain ⟨a, b, p, q, rfl, rfl, hv, hw, ha, hb, k⟩ := h
  cases rx
  cases ry
  obtain ⟨its, r1, p1, _⟩ := I.tuple ha
  obtain ⟨its2, r2, p2, _⟩ := I.tuple hb
  obtain ⟨t1, y1, rfl, ry1⟩ := key_items (s := s) (a := a) r1
  obtain ⟨t2, y2, rfl, ry2⟩ := key_items (s := s) (a := b) r2
  exact rc_le (A := X.A) (s := s) p1 p2 hu (key_le_dec hv hw ry1 ry2).1 X.prog X.w X.xe (EP X pins σ Q) ⟨.bl _, H, I, rfl, k⟩
theorem op_geK (hu : X.A.units < cLine) : OpR X (compareOp .GtE) (rK X.K fun v w => !keyLt v w) := by
  intro pins s σ H x y v u Q I rx ry h
  obtain ⟨a, b, p, q, rfl, rfl, hv, hw, ha, hb, k⟩ := h
  cases rx
  cases ry
  obtain ⟨its, r1, p1, _⟩ := I.tuple ha
  obtain ⟨its2, r2, p2, _⟩ := I.tuple hb
  obtain ⟨t1, y1, rfl, ry1⟩ := key_items (s := s) (a := a) r1
  obtain ⟨t2, y2, rfl, ry2⟩ := key_items (s := s) (a := b) r2
  exact rc_ge (A := X.A) (s := s) p1 p2 hu (key_le_dec hv hw ry1 ry2).2 X.prog X.w X.xe (EP X pins σ Q) ⟨.bl _, H, I, rfl, k⟩
end
/-! ### conditions -/
inductive Tm where
  | col (l : Str)
  | val (v : V)
inductive Op where
  | eq | ne | lt | le | gt | ge
inductive Cn where
  | tt | ff
  | cmp (o : Op) (a b : Tm)
  | no (c : Cn)
  | an (a b : Cn)
  | oo (a b : Cn)
def opS : Op → Str
  | .eq => "=" | .ne => "!=" | .lt => "<" | .le => "<=" | .gt => ">" | .ge => ">="
def wT : Tm → Str
  | .col _ => "column" | .val _ => "value"
def uT : Tm → V
  | .col l => .str l | .val v => v
def dT (t : Tm) : D := .tup [.sc (.str (wT t)), .sc (uT t)]
def wC : Cn → Str
  | .tt => "true" | .ff => "false" | .cmp _ _ _ => "compare" | .no _ => "not" | .an _ _ => "and" | .oo _ _ => "or"
def dC : Cn → D
  | .tt => .tup [.sc (.str "true")]
  | .ff => .tup [.sc (.str "false")]
  | .cmp o a b => .tup [.sc (.str "compare"), .sc (.str (opS o)), dT a, dT b]
  | .no c => .tup [.sc (.str "not"), dC c]
  | .an a b => .tup [.sc (.str "and"), dC a, dC b]
  | .oo a b => .tup [.sc (.str "or"), dC a, dC b]
def gT (ls : List Str) : Tm → Prop
  | .col l => l ∈ ls
  | .val v => Sc v
def gC (ls : List Str) : Cn → Prop
  | .tt => True | .ff => True
  | .cmp _ a b => gT ls a ∧ gT ls b
  | .no c => gC ls c
  | .an a b => gC ls a ∧ gC ls b
  | .oo a b => gC ls a ∧ gC ls b
def dpC : Cn → Nat
  | .no c => dpC c + 1
  | .an a b => max (dpC a) (dpC b) + 1
  | .oo a b => max (dpC a) (dpC b) + 1
  | _ => 0
def szC : Cn → Nat
  | .no c => szC c + 1
  | .an a b => szC a + szC b + 1
  | .oo a b => szC a + szC b + 1
  | _ => 1
theorem dep_dT (t : Tm) : dep (dT t) = 1 := by simp [dT, dep, depAll]
theorem dep_dC : ∀ c : Cn, dep (dC c) ≤ dpC c + 2
  | .tt => by simp [dC, dep, depAll]
  | .ff => by simp [dC, dep, depAll]
  | .cmp o a b => by simp [dC, dep, depAll, dep_dT]
  | .no c => by have := dep_dC c; simp only [dC, dep, depAll, dpC]; omega
  | .an a b => by have := dep_dC a; have := dep_dC b; simp only [dC, dep, depAll, dpC]; omega
  | .oo a b => by have := dep_dC a; have := dep_dC b; simp only [dC, dep, depAll, dpC]; omega
def posL (l : Str) : List Str → Nat
  | [] => 0
  | x :: r => if x = l then 0 else posL l r + 1
theorem posL_at {l : Str} : ∀ {ls : List Str}, l ∈ ls → ls[posL l ls]? = some l
  | x :: r, h => by
    unfold posL
    by_cases e : x = l
    · rw [if_pos e, e]; rfl
    · rw [if_neg e]
      rcases List.mem_cons.mp h with h | h
      · exact absurd h.symm e
      · simpa using posL_at h
theorem posL_not {l : Str} : ∀ {ls : List Str} (m : Nat), m < posL l ls → ls[m]? ≠ some l
  | x :: r, 0, h => by
    unfold posL at h
    by_cases e : x = l
    · rw [if_pos e] at h; omega
    · simpa using e
  | x :: r, m + 1, h => by
    unfold posL at h
    by_cases e : x = l
    · rw [if_pos e] at h; omega
    · rw [if_neg e] at h
      simpa using posL_not (ls := r) m (by omega)
  | [], m, h => by simp [posL] at h
def wth (ls : List Str) (vs : List V) : Tm → V
  | .col l => vs.getD (posL l ls) .non
  | .val v => v
def cmpB : Op → V → V → Bool
  | .eq, v, w => decide (v = w)
  | .ne, v, w => !decide (v = w)
  | .lt, v, w => keyLt v w
  | .le, v, w => !keyLt w v
  | .gt, v, w => keyLt w v
  | .ge, v, w => !keyLt v w
def evl (ls : List Str) (vs : List V) : Cn → Bool
  | .tt => true
  | .ff => false
  | .cmp o a b => cmpB o (wth ls vs a) (wth ls vs b)
  | .no c => !evl ls vs c
  | .an a b => evl ls vs a && evl ls vs b
  | .oo a b => evl ls vs a || evl ls vs b
theorem ord_facts (v w : V) (hv : isSc v = true) (hw : isSc w = true) : decide (ordV v w < 0) = keyLt v w ∧ decide (ordV v w ≤ 0) = (!keyLt w v) ∧ decide (0 < ordV v w) = keyLt w v ∧ decide (0 ≤ ordV v w) = (!keyLt v w) := by
  have d := due_ord v w hv hw
  rw [← d]
  cases a : keyLt w v <;> cases b : keyLt v w <;> simp [bi]
  rw [keyLt_as hv hw b] at a
  cases a
/-! what stands there -/
section
variable {K : PySem.W.Frag} {H : Hp}
theorem rep_sc {x v : V} (h : Rep K H x (.sc v)) : x = v ∧ isSc v = true := by
  cases h with | sc h => exact ⟨rfl, h⟩
theorem rep_tup {x : V} {ds : List D} (h : Rep K H x (.tup ds)) : ∃ a xs, x = .ref a ∧ SqT K H a xs ∧ RepAll K H xs ds := by
  cases h with | tup h z r => exact ⟨_, _, rfl, h, r⟩
theorem rep1 {x : V} {d0 : D} (h : Rep K H x (.tup [d0])) : ∃ a x0, x = .ref a ∧ SqT K H a [x0] ∧ Rep K H x0 d0 := by
  obtain ⟨a, xs, e, hs, r⟩ := rep_tup h
  cases r with | cons r0 r => cases r; exact ⟨a, _, e, hs, r0⟩
theorem rep2 {x : V} {d0 d1 : D} (h : Rep K H x (.tup [d0, d1])) : ∃ a x0 x1, x = .ref a ∧ SqT K H a [x0, x1] ∧ Rep K H x0 d0 ∧ Rep K H x1 d1 := by
  obtain ⟨a, xs, e, hs, r⟩ := rep_tup h
  cases r with | cons r0 r => cases r with | cons r1 r => cases r; exact ⟨a, _, _, e, hs, r0, r1⟩
theorem rep3 {x : V} {d0 d1 d2 : D} (h : Rep K H x (.tup [d0, d1, d2])) : ∃ a x0 x1 x2, x = .ref a ∧ SqT K H a [x0, x1, x2] ∧ Rep K H x0 d0 ∧ Rep K H x1 d1 ∧ Rep K H x2 d2 := by
  obtain ⟨a, xs, e, hs, r⟩ := rep_tup h
  cases r with | cons r0 r => cases r with | cons r1 r => cases r with | cons r2 r => cases r; exact ⟨a, _, _, _, e, hs, r0, r1, r2⟩
theorem rep4 {x : V} {d0 d1 d2 d3 : D} (h : Rep K H x (.tup [d0, d1, d2, d3])) : ∃ a x0 x1 x2 x3, x = .ref a ∧ SqT K H a [x0, x1, x2, x3] ∧ Rep K H x0 d0 ∧ Rep K H x1 d1 ∧ Rep K H x2 d2 ∧ Rep K H x3 d3 := by
  obtain ⟨a, xs, e, hs, r⟩ := rep_tup h
  cases r with | cons r0 r => cases r with | cons r1 r => cases r with | cons r2 r => cases r with | cons r3 r => cases r; exact ⟨a, _, _, _, _, e, hs, r0, r1, r2, r3⟩
theorem repT {x : V} {t : Tm} (h : Rep K H x (dT t)) : ∃ a, x = .ref a ∧ SqT K H a [.str (wT t), uT t] ∧ isSc (uT t) = true := by
  obtain ⟨a, x0, x1, e, hs, r0, r1⟩ := rep2 h
  obtain ⟨rfl, _⟩ := rep_sc r0
  obtain ⟨rfl, h1⟩ := rep_sc r1
  exact ⟨a, e, hs, h1⟩
theorem repTT {x : V} (h : Rep K H x (dC .tt)) : ∃ a, x = .ref a ∧ SqT K H a [.str "true"] := by
  obtain ⟨a, x0, e, hs, r0⟩ := rep1 h
  obtain ⟨rfl, _⟩ := rep_sc r0
  exact ⟨a, e, hs⟩
theorem repFF {x : V} (h : Rep K H x (dC .ff)) : ∃ a, x = .ref a ∧ SqT K H a [.str "false"] := by
  obtain ⟨a, x0, e, hs, r0⟩ := rep1 h
  obtain ⟨rfl, _⟩ := rep_sc r0
  exact ⟨a, e, hs⟩
theorem repCmp {x : V} {o : Op} {s t : Tm} (h : Rep K H x (dC (.cmp o s t))) : ∃ a x2 x3, x = .ref a ∧ SqT K H a [.str "compare", .str (opS o), x2, x3] ∧ Rep K H x2 (dT s) ∧ Rep K H x3 (dT t) := by
  obtain ⟨a, x0, x1, x2, x3, e, hs, r0, r1, r2, r3⟩ := rep4 h
  obtain ⟨rfl, _⟩ := rep_sc r0
  obtain ⟨rfl, _⟩ := rep_sc r1
  exact ⟨a, _, _, e, hs, r2, r3⟩
theorem repNo {x : V} {c : Cn} (h : Rep K H x (dC (.no c))) : ∃ a x1, x = .ref a ∧ SqT K H a [.str "not", x1] ∧ Rep K H x1 (dC c) := by
  obtain ⟨a, x0, x1, e, hs, r0, r1⟩ := rep2 h
  obtain ⟨rfl, _⟩ := rep_sc r0
  exact ⟨a, _, e, hs, r1⟩
theorem repAn {x : V} {c d : Cn} (h : Rep K H x (dC (.an c d))) : ∃ a x1 x2, x = .ref a ∧ SqT K H a [.str "and", x1, x2] ∧ Rep K H x1 (dC c) ∧ Rep K H x2 (dC d) := by
  obtain ⟨a, x0, x1, x2, e, hs, r0, r1, r2⟩ := rep3 h
  obtain ⟨rfl, _⟩ := rep_sc r0
  exact ⟨a, _, _, e, hs, r1, r2⟩
theorem repOo {x : V} {c d : Cn} (h : Rep K H x (dC (.oo c d))) : ∃ a x1 x2, x = .ref a ∧ SqT K H a [.str "or", x1, x2] ∧ Rep K H x1 (dC c) ∧ Rep K H x2 (dC d) := by
  obtain ⟨a, x0, x1, x2, e, hs, r0, r1, r2⟩ := rep3 h
  obtain ⟨rfl, _⟩ := rep_sc r0
  exact ⟨a, _, _, e, hs, r1, r2⟩
end
/-! ### a tuple whose record is known to have no dict: its methods -/
def SqF (H : Hp) (a : Addr) (xs : List V) : Prop := ∃ o : Obj, H a = some (.frz o (.tup xs)) ∧ o.dict = none
theorem SqF.t {K : PySem.W.Frag} {H : Hp} {a : Addr} {xs : List V} (h : SqF H a xs) : SqT K H a xs := by
  obtain ⟨o, h, _⟩ := h
  exact .inl (.inr ⟨o, h⟩)
theorem SqF.same {H H' : Hp} (s : Same H H') {a : Addr} {xs : List V} (h : SqF H a xs) : SqF H' a xs := by
  obtain ⟨o, h, e⟩ := h
  exact ⟨o, s _ _ h, e⟩
theorem SqF.ext {st c : Addr} {H H' : Hp} (h0 : StoC st c H) (s : Ext st c H H') {a : Addr} {xs : List V} (h : SqF H a xs) : SqF H' a xs := by
  obtain ⟨o, h, e⟩ := h
  refine ⟨o, s.keep _ _ (fun z => ?_) h, e⟩
  obtain ⟨ns, i, x, t, s1, h1, _⟩ := h0
  rw [z, h1] at h
  cases h
section
variable {X : Cx}
theorem call_tupF : CallR X (.type "tuple") (fun xs H Q => ∃ p ys, xs = [.ref p] ∧ SqL X.K H p ys ∧ ∀ q o, H q = none → o.dict = none → Q (.ref q) (upd H q (.frz o (.tup ys)))) := fun pins s σ H xs us Q I r h => by
  obtain ⟨p, ys, e0, hq, k⟩ := h
  subst e0
  cases r with
  | cons r1 r2 =>
    cases r2
    cases r1
    obtain ⟨its, rv, pl, hz⟩ := I.list hq
    have hlen := rv.length
    refine call_tuple_list pl.isList (fun g kp => ?_) (by simp only [List.size_toArray]; omega)
    have J : Inv X pins σ H { s with heap := g } := I.kept (t' := s.toks) kp
    have e2 : (g.push { cls := .type "tuple", data := .seq its.toArray }).get? g.objs.size = some { cls := .type "tuple", data := .seq its.toArray } := Heap.get?_push_size _ rfl
    have J2 : Inv X pins σ (upd H g.objs.size (.frz { cls := .type "tuple", data := .seq its.toArray } (.tup ys))) { s with heap := g.push { cls := .type "tuple", data := .seq its.toArray } } :=
      J.laid (t' := s.toks) (fun b u z => Heap.get?_push_of_some _ z) (Nat.le_refl _) ⟨e2, hz, its, rv, PyProof.Rows.IsTup.new _ _⟩
    exact ⟨.ref g.objs.size, _, J2, rfl, k _ _ (J.hok.fresh (Nat.le_refl _)) rfl⟩
/-- t.m(e, ..) of such a tuple -/
def tBF (r : V → List V → Hp → VK → Prop) (to : TE) (t : TA) : TE := fun σ H Q => to σ H fun x H1 => (∃ a xs, x = .ref a ∧ SqF H1 a xs) ∧ t σ H1 fun vs H2 => r x vs H2 Q
theorem pe_bmF {o e : Expr} {es : List Expr} {to : TE} {t : TA} {name : Str} {ap cp : Pos} {id : String} {r : V → List V → Hp → VK → Prop} (sl : Slot "tuple" name id) (ht : typeOf (.builtin id) = pure (.type "method_descriptor")) (hm : MtR X id r) (ho : PE X o to) (ha : PA X (e :: es) t)
    (h1 : attributeBase o name X.env (eval o X.env) = eval o X.env := by rfl)
    (h2 : ((backTo cp (starEach (e :: es) X.env)).all (fun x => !x.1) && (backToKw cp (keywordEach [] X.env)).all (fun x => x.1.isSome) && decide ((e :: es).length + ([] : List Keyword).length + (if ([] : List Keyword).isEmpty then 0 else 1) < 30)) = true := by rfl)
    (h3 : (ap.endLine == cp.line) = true := by rfl) (h4 : starEach (e :: es) X.env = (false, eval e X.env) :: starEach es X.env := by rfl) (h5 : (backTo cp (starEach es X.env)).any (·.1) = false := by rfl) :
    PE X (.Call (.Attribute o name ap) (e :: es) [] cp) (tBF r to t) := ⟨fun pins s σ H Q I h => by
  refine wpAny_Call_method_late h1 h2 h3 rfl (thn (ho.run pins s σ H _ I h) fun v s1 ⟨x, H1, I1, r1, ⟨a, xs, ex, u, hu, hd⟩, q1⟩ => ?_)
  subst ex
  cases r1
  obtain ⟨g1, _, its, _, ⟨u', g2, c2, _⟩⟩ := (show ObjOk X.prog X.w H1 s1.heap a (.frz u (.tup xs)) from I1.hok a _ hu)
  rw [g1] at g2
  cases g2
  refine ⟨"tuple", id, PySem.F.plainAttrs_tuple, sl, ht, ⟨u, g1, c2⟩, fun b z => by cases z; exact ⟨u, g1, hd⟩, ?_⟩
  have hA := ha.run cp pins s1 σ H1 _ I1 q1
  rw [h4] at hA ⊢
  refine Calls.callWith_builtin (by show (false || (backTo cp (starEach es X.env)).any (·.1)) = false; rw [h5]; rfl) (Calls.evalArgs_plain ?_)
  exact thn hA fun us s2 ⟨vs, H2, I2, r2, q2⟩ => hm pins s2 σ H2 (V.ref a) vs _ us Q I2 rfl r2 q2⟩
end
/-! ### promises -/
def spCompared : Sp := fun vs H Q _ => ∃ o v w, vs = [.str (opS o), v, w] ∧ isSc v = true ∧ isSc w = true ∧ ∀ H', Same H H' → Q (.bl (cmpB o v w)) H'
def spWorth (K : PySem.W.Frag) : Sp := fun vs H Q _ => ∃ x t ca ra ls ws, vs = [x, .ref ca, .ref ra] ∧ Rep K H x (dT t) ∧ SqF H ca (ls.map V.str) ∧ SqT K H ra ws ∧ gT ls t ∧ ws.length = ls.length ∧ Q (wth ls ws t) H
def spHolds (K : PySem.W.Frag) (n : Nat) : Sp := fun vs H Q _ => ∃ x c ca ra ls ws, vs = [x, .ref ca, .ref ra] ∧ Rep K H x (dC c) ∧ dpC c < n ∧ SqF H ca (ls.map V.str) ∧ SqT K H ra ws ∧ gC ls c ∧ ws.length = ls.length ∧ (∀ v ∈ ws, Sc v) ∧ ∀ H', Same H H' → Q (.bl (evl ls ws c)) H'
def SqE (K : PySem.W.Frag) (H : Hp) (a : Addr) (xs : List V) : Prop := SqL K H a xs ∨ SqT K H a xs
theorem SqE.same {K : PySem.W.Frag} {H H' : Hp} (s : Same H H') {a : Addr} {xs : List V} (h : SqE K H a xs) : SqE K H' a xs := h.elim (fun h => .inl (s.seq h)) fun h => .inr (SD.Same.seqT s h)
theorem SqE.ext {K : PySem.W.Frag} {st c : Addr} {H H' : Hp} (h0 : StoC st c H) (s : Ext st c H H') {a : Addr} {xs : List V} (n : a ≠ st) (h : SqE K H a xs) : SqE K H' a xs := h.elim (fun h => .inl (s.seqL n h)) fun h => .inr (s.seqT h0 h)
def spLWorth (K : PySem.W.Frag) : Sp := fun vs H Q _ => ∃ x t ca ra ls ws, vs = [x, .ref ca, .ref ra] ∧ Rep K H x (dT t) ∧ SqE K H ca (ls.map V.str) ∧ SqT K H ra ws ∧ gT ls t ∧ ws.length = ls.length ∧ ∀ H', Same H H' → Q (wth ls ws t) H'
def spLHolds (K : PySem.W.Frag) (n : Nat) : Sp := fun vs H Q _ => ∃ x c ca ra ls ws, vs = [x, .ref ca, .ref ra] ∧ Rep K H x (dC c) ∧ dpC c < n ∧ SqE K H ca (ls.map V.str) ∧ SqT K H ra ws ∧ gC ls c ∧ ws.length = ls.length ∧ (∀ v ∈ ws, Sc v) ∧ ∀ H', Same H H' → Q (.bl (evl ls ws c)) H'
def Lbs (ls : List Str) : Prop := ∀ l ∈ ls, l.length ≤ 1000
def spName (K : PySem.W.Frag) : Sp := fun vs H Q _ => ∃ st c ta ts, vs = [.ref st, .ref ta] ∧ StoC st c H ∧ ta ≠ st ∧ SqL K H ta (ts.map V.str) ∧ ts.length ≤ 1000 ∧ Lbs ts ∧ ∀ w H', Ext st c H H' → w.length ≤ 100 → Q (.str w) H'
def spLabel (K : PySem.W.Frag) : Sp := fun vs H Q _ => ∃ st c ta ts, vs = [.ref st, .ref ta] ∧ StoC st c H ∧ ta ≠ st ∧ SqL K H ta (ts.map V.str) ∧ ts.length ≤ 1000 ∧ Lbs ts ∧ ∀ w H', Ext st c H H' → w.length ≤ 1000 → Q (.str w) H'
def spLeaf (K : PySem.W.Frag) : Sp := fun vs H Q _ => ∃ st c la ls, vs = [.ref st, .ref la] ∧ StoC st c H ∧ la ≠ st ∧ SqL K H la (ls.map V.str) ∧ ls.length ≤ 1000 ∧ ∀ x d H', Ext st c H H' → Rep K H' x (dC d) → gC ls d → dpC d = 0 → szC d = 1 → Q x H'
def spCond (K : PySem.W.Frag) (n : Nat) : Sp := fun vs H Q _ => ∃ st c la ls nd dp, vs = [.ref st, .ref la, .int nd, .int dp] ∧ StoC st c H ∧ la ≠ st ∧ SqL K H la (ls.map V.str) ∧ ls.length ≤ 1000 ∧ dp.toNat < n ∧ 0 ≤ dp ∧ 1 ≤ nd ∧ nd ≤ 1000 ∧
  ∀ x d H', Ext st c H H' → Rep K H' x (dC d) → gC ls d → (dpC d : Int) ≤ dp → (szC d : Int) ≤ nd → Q x H'
def spUnlike : Sp := fun vs H Q _ => ∃ st c m, vs = [.ref st, .int m] ∧ StoC st c H ∧ 0 ≤ m ∧ m ≤ 500 ∧ ∀ p ls H', Ext st c H H' → H p = none → p ≠ st → H' p = some (.lst (ls.map V.str)) → (ls.length : Int) = m → Lbs ls → Q (.ref p) H'
def spConsts (K : PySem.W.Frag) (n : Nat) : Sp := fun vs H Q _ => ∃ x ls c, vs = [x] ∧ Rep K H x (dC c) ∧ gC ls c ∧ dpC c < n ∧ szC c ≤ 1000 ∧ ∀ p ws H', Same H H' → H p = none → H' p = some (.lst ws) → (∀ v ∈ ws, Sc v) → ws.length ≤ 2 * szC c → Q (.ref p) H'
def spMet (K : PySem.W.Frag) : Sp := fun vs H Q _ => ∃ st c la va ls ws, vs = [.ref st, .ref la, .ref va] ∧ StoC st c H ∧ la ≠ st ∧ va ≠ st ∧ SqL K H la ls ∧ SqL K H va ws ∧ ls.length ≤ 1000 ∧ ws.length ≤ 100000 ∧ (∀ v ∈ ws, Sc v) ∧
  ∀ p xs H', Ext st c H H' → SqT K H' p xs → xs.length = ls.length → (∀ v ∈ xs, Sc v) → Q (.ref p) H'
def sgS : Str := "abcdefghijklmnopqrstuvwxyz0123456789_"
theorem sgS_len : (sgS.cps.toList.length : Int) = 37 := by decide +kernel
theorem cutk (z : Str) (k : Nat) : (cutS z none (some (k : Int))).length ≤ k := by
  rw [str_len]
  unfold cutS
  rw [HT.sIx_nat, HT.sIx_none]
  simp
  omega
theorem one_len (c : Nat) : (⟨#[c]⟩ : Str).length = 1 := rfl
theorem strk {i : Nat} (h : i < 100000) : (0 + (i : Int)).natAbs.log2 < 1920 ∧ (Str.ofString (toString (0 + (i : Int)))).length ≤ 5 := by
  constructor
  · have : (0 + (i : Int)).natAbs < 2 ^ 20 := by
      have : (2 : Nat) ^ 20 = 1048576 := by decide
      omega
    have := PySem.Flt.log2_lt_of (by decide : 0 < 20) this
    omega
  · refine PyProof.Rows.toString_length_le (by omega) (by decide) ?_
    have : (10 : Int) ^ 5 = 100000 := by decide
    omega
end SD
namespace SD
open PySem L2
/-! ### one def, two promises -/
section
variable {P : Program} {w : World} {K : PySem.W.Frag} {mg : Str → Option Value} {base : Heap} {CX : CXT} {k : Nat} {f : Addr} {fd : FuncData} {ps : List Str} {sp1 sp2 : Sp}
def orS (a b : Sp) : Sp := fun vs H Q E => a vs H Q E ∨ b vs H Q E
theorem fn_or (h1 : FnOk P w K mg base CX k f fd ps sp1) (h2 : FnOk P w K mg base CX k f fd ps sp2) : FnOk P w K mg base CX k f fd ps (orS sp1 sp2) := by
  refine ⟨fun vs H Q E h => h.elim (h1.len vs H Q E) (h2.len vs H Q E), ?_⟩
  intro A outer s H args us vs Q E hr e0 hb r hsp
  exact hsp.elim (fun h => h1.run A outer s H args us vs Q E hr e0 hb r h) fun h => h2.run A outer s H args us vs Q E hr e0 hb r h
end
def spLawSameL (K : PySem.W.Frag) (n : Nat) : Sp := fun vs H Q _ => ∃ a b xs ys ds es, vs = [.ref a, .ref b] ∧ SqL K H a xs ∧ SqL K H b ys ∧ xs.length ≤ 100000 ∧ RepAll K H xs ds ∧ RepAll K H ys es ∧ depAll ds < n ∧ ∀ H', Same H H' → Q (.bl (sameAll ds es)) H'
def spLawSameX (K : PySem.W.Frag) (n : Nat) : Sp := orS (spLawSame K n) (spLawSameL K n)
/-! ### conjuncts -/
def conj : Cn → List Cn
  | .an a b => conj a ++ conj b
  | .tt => []
  | c => [c]
def chain : List Cn → Cn
  | [] => .tt
  | c :: cs => cs.foldl .an c
theorem chain_next (c : Cn) (r : List Cn) (i : Nat) {d : Cn} (h : r[i]? = some d) : (r.take (i + 1)).foldl Cn.an c = .an ((r.take i).foldl Cn.an c) d := by
  rw [List.take_succ, h, List.foldl_append]
  rfl
theorem conj_fold : ∀ (r : List Cn) (c : Cn), conj (r.foldl .an c) = conj c ++ r.flatMap conj
  | [], c => by simp
  | d :: r, c => by
    rw [List.foldl_cons, conj_fold r (.an c d)]
    simp [conj, List.flatMap_cons]
theorem conj_chain : ∀ cs : List Cn, conj (chain cs) = cs.flatMap conj
  | [] => rfl
  | c :: cs => by show conj (cs.foldl .an c) = _; rw [conj_fold, List.flatMap_cons]
theorem evl_fold (ls : List Str) (vs : List V) : ∀ (r : List Cn) (c : Cn), evl ls vs (r.foldl .an c) = (evl ls vs c && r.all (evl ls vs))
  | [], c => by simp
  | d :: r, c => by
    rw [List.foldl_cons, evl_fold ls vs r (.an c d)]
    simp [evl, Bool.and_assoc]
theorem evl_chain (ls : List Str) (vs : List V) : ∀ cs : List Cn, evl ls vs (chain cs) = cs.all (evl ls vs)
  | [] => rfl
  | c :: cs => by show evl ls vs (cs.foldl .an c) = _; rw [evl_fold]; simp
theorem evl_conj (ls : List Str) (vs : List V) : ∀ c : Cn, (conj c).all (evl ls vs) = evl ls vs c
  | .an a b => by simp only [conj, evl, List.all_append]; rw [evl_conj ls vs a, evl_conj ls vs b]
  | .tt => rfl
  | .ff => by simp [conj]
  | .cmp o a b => by simp [conj]
  | .no c => by simp [conj]
  | .oo a b => by simp [conj]
theorem gC_conj {ls : List Str} : ∀ {c : Cn}, gC ls c → ∀ d ∈ conj c, gC ls d
  | .an a b, h, d, hd => (List.mem_append.mp (show d ∈ conj a ++ conj b from hd)).elim (gC_conj (c := a) h.1 d) (gC_conj (c := b) h.2 d)
  | .tt, _, d, hd => by simp [conj] at hd
  | .ff, h, d, hd => by simp [conj] at hd; subst hd; exact h
  | .cmp o a b, h, d, hd => by simp [conj] at hd; subst hd; exact h
  | .no c, h, d, hd => by simp [conj] at hd; subst hd; exact h
  | .oo a b, h, d, hd => by simp [conj] at hd; subst hd; exact h
theorem dp_conj : ∀ {c : Cn}, ∀ d ∈ conj c, dpC d ≤ dpC c
  | .an a b, d, hd => by
    rcases List.mem_append.mp (show d ∈ conj a ++ conj b from hd) with h | h
    · have := dp_conj (c := a) d h; simp only [dpC]; omega
    · have := dp_conj (c := b) d h; simp only [dpC]; omega
  | .tt, d, hd => by simp [conj] at hd
  | .ff, d, hd => by simp [conj] at hd; subst hd; exact Nat.le_refl _
  | .cmp o a b, d, hd => by simp [conj] at hd; subst hd; exact Nat.le_refl _
  | .no c, d, hd => by simp [conj] at hd; subst hd; exact Nat.le_refl _
  | .oo a b, d, hd => by simp [conj] at hd; subst hd; exact Nat.le_refl _
theorem len_conj : ∀ c : Cn, (conj c).length ≤ szC c
  | .an a b => by have := len_conj a; have := len_conj b; simp only [conj, szC, List.length_append]; omega
  | .tt => by simp [conj]
  | .ff => by simp [conj, szC]
  | .cmp o a b => by simp [conj, szC]
  | .no c => by simp [conj, szC]
  | .oo a b => by simp [conj, szC]
theorem dp_fold {m : Nat} : ∀ (r : List Cn) (c : Cn), dpC c ≤ m → (∀ d ∈ r, dpC d ≤ m) → dpC (r.foldl .an c) ≤ m + r.length
  | [], c, h, _ => by simpa using h
  | d :: r, c, h, hr => by
    rw [List.foldl_cons]
    have h1 := hr d (List.mem_cons_self ..)
    have := dp_fold (m := m + 1) r (.an c d) (by simp only [dpC]; omega) fun e he => Nat.le_succ_of_le (hr e (List.mem_cons_of_mem _ he))
    simp only [List.length_cons]
    omega
theorem dp_chain {m : Nat} : ∀ cs : List Cn, (∀ d ∈ cs, dpC d ≤ m) → dpC (chain cs) ≤ m + cs.length
  | [], _ => by simp [chain, dpC]
  | c :: cs, h => by
    have := dp_fold (m := m) cs c (h c (List.mem_cons_self ..)) fun e he => h e (List.mem_cons_of_mem _ he)
    show dpC (cs.foldl .an c) ≤ _
    simp only [List.length_cons]
    omega
theorem gC_fold {ls : List Str} : ∀ (r : List Cn) (c : Cn), gC ls c → (∀ d ∈ r, gC ls d) → gC ls (r.foldl .an c)
  | [], c, h, _ => h
  | d :: r, c, h, hr => gC_fold r (.an c d) ⟨h, hr d (List.mem_cons_self ..)⟩ fun e he => hr e (List.mem_cons_of_mem _ he)
theorem gC_chain {ls : List Str} : ∀ cs : List Cn, (∀ d ∈ cs, gC ls d) → gC ls (chain cs)
  | [], _ => trivial
  | c :: cs, h => gC_fold cs c (h c (List.mem_cons_self ..)) fun e he => h e (List.mem_cons_of_mem _ he)
theorem sz_pos : ∀ c : Cn, 1 ≤ szC c
  | .tt => Nat.le_refl _ | .ff => Nat.le_refl _ | .cmp _ _ _ => Nat.le_refl _
  | .no c => by simp only [szC]; omega
  | .an a b => by simp only [szC]; omega
  | .oo a b => by simp only [szC]; omega
/-! lists of conditions -/
def CL (K : PySem.W.Frag) (H : Hp) (xs : List V) (cs : List Cn) : Prop := RepAll K H xs (cs.map dC)
section
variable {K : PySem.W.Frag} {H H' : Hp}
theorem CL.len {xs : List V} {cs : List Cn} (h : CL K H xs cs) : xs.length = cs.length := by have := RepAll.len h; simpa using this
theorem CL.at {xs : List V} {cs : List Cn} (i : Nat) {x : V} (h : CL K H xs cs) (e : xs[i]? = some x) : ∃ d, cs[i]? = some d ∧ Rep K H x (dC d) := by
  obtain ⟨d, h1, h2⟩ := RepAll.at i h e
  rw [List.getElem?_map] at h1
  cases q : cs[i]? with
  | none => rw [q] at h1; cases h1
  | some c => rw [q] at h1; cases h1; exact ⟨c, rfl, h2⟩
theorem CL.same (s : Same H H') {xs : List V} {cs : List Cn} (h : CL K H xs cs) : CL K H' xs cs := RepAll.map (fun _ _ q => SD.Same.seqT s q) h
theorem CL.ext {st c : Addr} (h0 : StoC st c H) (s : Ext st c H H') {xs : List V} {cs : List Cn} (h : CL K H xs cs) : CL K H' xs cs := RepAll.map (fun _ _ q => s.seqT h0 q) h
theorem CL.upd {D : Addr} {ys : List V} {o : HO} {xs : List V} {cs : List Cn} (h : CL K H xs cs) (hD : H D = some (.lst ys)) : CL K (L2.upd H D o) xs cs := RepAll.map (fun _ _ q => seqT_upd q hD) h
theorem Rep.upd {D : Addr} {ys : List V} {o : HO} {x : V} {d : SD.D} (h : Rep K H x d) (hD : H D = some (.lst ys)) : Rep K (L2.upd H D o) x d := h.map fun _ _ q => seqT_upd q hD
theorem CL.app {xs ys : List V} {cs ds : List Cn} (h : CL K H xs cs) (g : CL K H ys ds) : CL K H (xs ++ ys) (cs ++ ds) := by
  unfold CL
  rw [List.map_append]
  exact RepAll.app h g
theorem CL.one {x : V} {c : Cn} (h : Rep K H x (dC c)) : CL K H [x] [c] := .cons h .nil
theorem CL.of : ∀ {xs : List V} {cs : List Cn}, xs.length = cs.length → (∀ (i : Nat) x d, xs[i]? = some x → cs[i]? = some d → Rep K H x (dC d)) → CL K H xs cs
  | [], [], _, _ => .nil
  | x :: xs, c :: cs, h, k => .cons (k 0 x c rfl rfl) (CL.of (by simpa using h) fun i y d h1 h2 => k (i + 1) y d h1 h2)
  | [], _ :: _, h, _ => by simp at h
  | _ :: _, [], h, _ => by simp at h
theorem CL.take {xs : List V} {cs : List Cn} (h : CL K H xs cs) (n : Nat) : CL K H (xs.take n) (cs.take n) := CL.of (by simp [h.len]) fun i x d h1 h2 => by
  rw [List.getElem?_take] at h1 h2
  split at h1
  · rename_i hi
    rw [if_pos hi] at h2
    obtain ⟨e, h3, h4⟩ := h.at i h1
    rw [h2] at h3; cases h3; exact h4
  · cases h1
theorem CL.drop {xs : List V} {cs : List Cn} (h : CL K H xs cs) (n : Nat) : CL K H (xs.drop n) (cs.drop n) := CL.of (by simp [h.len]) fun i x d h1 h2 => by
  rw [List.getElem?_drop] at h1 h2
  obtain ⟨e, h3, h4⟩ := h.at _ h1
  rw [h2] at h3; cases h3; exact h4
end
theorem dep_CL {n : Nat} : ∀ cs : List Cn, (∀ d ∈ cs, dpC d ≤ n) → depAll (cs.map dC) ≤ n + 2
  | [], _ => by simp [depAll]
  | c :: cs, h => by
    have h1 := dep_CL cs fun d hd => h d (List.mem_cons_of_mem _ hd)
    have h2 := dep_dC c
    have h3 := h c (List.mem_cons_self ..)
    simp only [List.map_cons, depAll]
    omega
/-! ### promises -/
def spConj (K : PySem.W.Frag) (n : Nat) : Sp := fun vs H Q _ => ∃ x c, vs = [x] ∧ Rep K H x (dC c) ∧ dpC c < n ∧ szC c ≤ 1000 ∧ ∀ p xs H', Same H H' → H p = none → H' p = some (.lst xs) → CL K H' xs (conj c) → Q (.ref p) H'
def spJoinL (K : PySem.W.Frag) : Sp := fun vs H Q _ => ∃ a xs cs, vs = [.ref a] ∧ SqL K H a xs ∧ CL K H xs cs ∧ xs.length ≤ 1000 ∧ ∀ y H', Same H H' → Rep K H' y (dC (chain cs)) → Q y H'
def spJoinT (K : PySem.W.Frag) : Sp := fun vs H Q _ => ∃ a xs cs, vs = [.ref a] ∧ SqT K H a xs ∧ CL K H xs cs ∧ xs.length ≤ 1000 ∧ ∀ y H', Same H H' → Rep K H' y (dC (chain cs)) → Q y H'
def spJoin (K : PySem.W.Frag) : Sp := orS (spJoinL K) (spJoinT K)
def spFlat (K : PySem.W.Frag) : Sp := fun vs H Q _ => ∃ x c, vs = [x] ∧ Rep K H x (dC c) ∧ szC c ≤ 63 ∧ ∀ p xs H', Same H H' → H p = none → H' p = some (.lst xs) → CL K H' xs (conj c) → Q (.ref p) H'
def szL (cs : List Cn) : Nat := (cs.map szC).sum
def spNest (K : PySem.W.Frag) : Sp := fun vs H Q _ => ∃ st c a xs cs ls m, vs = [.ref st, .ref a] ∧ StoC st c H ∧ a ≠ st ∧ SqL K H a xs ∧ CL K H xs cs ∧ cs ≠ [] ∧ cs.length ≤ 1000 ∧ (∀ d ∈ cs, gC ls d ∧ dpC d ≤ m) ∧
  ∀ y d H', Ext st c H H' → Rep K H' y (dC d) → gC ls d → dpC d ≤ m + cs.length → szC d ≤ szL cs + cs.length → Q y H'
def spRight (K : PySem.W.Frag) : Sp := fun vs H Q _ => ∃ st c la ls x d, vs = [.ref st, .ref la, x] ∧ StoC st c H ∧ la ≠ st ∧ SqL K H la (ls.map V.str) ∧ ls.length ≤ 1000 ∧ Rep K H x (dC d) ∧ gC ls d ∧ dpC d ≤ 20 ∧ szC d ≤ 30 ∧ ∀ H', Ext st c H H' → Q (.bl true) H'
def rTF (K : PySem.W.Frag) : List V → Hp → VK → Prop := fun xs H Q => ∃ p ys, xs = [.ref p] ∧ SqL K H p ys ∧ ∀ q o, H q = none → o.dict = none → Q (.ref q) (L2.upd H q (.frz o (.tup ys)))
theorem call_tupFK {X : Cx} : CallR X (.type "tuple") (rTF X.K) := call_tupF
end SD
namespace SD
open PySem L2
/-! ### folding, as a function -/
def opp : Op → Op
  | .eq => .ne | .ne => .eq | .lt => .ge | .ge => .lt | .gt => .le | .le => .gt
def flp : Op → Op
  | .eq => .eq | .ne => .ne | .lt => .gt | .gt => .lt | .le => .ge | .ge => .le
def refl : Op → Bool
  | .eq => true | .le => true | .ge => true | _ => false
def cst (b : Bool) : Cn := if b then .tt else .ff
def leafC (o : Op) : Tm → Tm → Cn
  | .val v, .val w => cst (cmpB o v w)
  | .val v, .col l => .cmp (flp o) (.col l) (.val v)
  | .col l, .val v => .cmp o (.col l) (.val v)
  | .col l, .col m => if l = m then cst (refl o) else .cmp o (.col l) (.col m)
def isTT : Cn → Bool
  | .tt => true | _ => false
def isFF : Cn → Bool
  | .ff => true | _ => false
/-- the word that stops, for 'and' (n = true): false -/
def isFin (n : Bool) (c : Cn) : Bool := if n then isFF c else isTT c
def isIdle (n : Bool) (c : Cn) : Bool := if n then isTT c else isFF c
def pairC (n : Bool) (l r : Cn) : Cn :=
  if isFin n l || isFin n r then cst (!n)
  else if isIdle n l then r
  else if isIdle n r || sameD (dC l) (dC r) then l
  else if n then .an l r else .oo l r
def foldC : Bool → Cn → Cn
  | t, .tt => cst (!t)
  | t, .ff => cst t
  | t, .cmp o a b => leafC (if t then opp o else o) a b
  | t, .no c => foldC (!t) c
  | t, .an a b => pairC (!t) (foldC t a) (foldC t b)
  | t, .oo a b => pairC t (foldC t a) (foldC t b)
/-- how deep the calls go -/
def lvC : Bool → Cn → Nat
  | false, .no c => lvC true c + 1
  | true, .no c => lvC false c + 1
  | false, .an a b => max (lvC false a) (lvC false b) + 1
  | false, .oo a b => max (lvC false a) (lvC false b) + 1
  | true, .an a b => max (lvC true a) (lvC true b) + 3
  | true, .oo a b => max (lvC true a) (lvC true b) + 3
  | _, _ => 1
theorem lv_dp : ∀ (c : Cn) (t : Bool), lvC t c ≤ 3 * dpC c + 1
  | .tt, t => by cases t <;> simp [lvC]
  | .ff, t => by cases t <;> simp [lvC]
  | .cmp _ _ _, t => by cases t <;> simp [lvC]
  | .no c, t => by have := lv_dp c true; have := lv_dp c false; cases t <;> simp only [lvC, dpC] <;> omega
  | .an a b, t => by have := lv_dp a true; have := lv_dp a false; have := lv_dp b true; have := lv_dp b false; cases t <;> simp only [lvC, dpC] <;> omega
  | .oo a b, t => by have := lv_dp a true; have := lv_dp a false; have := lv_dp b true; have := lv_dp b false; cases t <;> simp only [lvC, dpC] <;> omega
theorem dp_cst (b : Bool) : dpC (cst b) = 0 := by cases b <;> rfl
theorem sz_cst (b : Bool) : szC (cst b) = 1 := by cases b <;> rfl
theorem dp_leaf (o : Op) (a b : Tm) : dpC (leafC o a b) = 0 := by
  cases a <;> cases b <;> simp only [leafC] <;> first | rfl | exact dp_cst _ | (split <;> first | rfl | exact dp_cst _)
theorem dp_pair (n : Bool) (l r : Cn) : dpC (pairC n l r) ≤ max (dpC l) (dpC r) + 1 := by
  unfold pairC
  split
  · rw [dp_cst]; omega
  split
  · omega
  split
  · omega
  cases n <;> simp [dpC]
theorem dp_foldC : ∀ (c : Cn) (t : Bool), dpC (foldC t c) ≤ dpC c
  | .tt, t => by simp [foldC, dp_cst]
  | .ff, t => by simp [foldC, dp_cst]
  | .cmp o a b, t => by simp [foldC, dp_leaf]
  | .no c, t => by simp only [foldC, dpC]; have := dp_foldC c (!t); omega
  | .an a b, t => by simp only [foldC, dpC]; have := dp_pair (!t) (foldC t a) (foldC t b); have := dp_foldC a t; have := dp_foldC b t; omega
  | .oo a b, t => by simp only [foldC, dpC]; have := dp_pair t (foldC t a) (foldC t b); have := dp_foldC a t; have := dp_foldC b t; omega
theorem g_cst (ls : List Str) (b : Bool) : gC ls (cst b) := by cases b <;> trivial
theorem g_leaf {ls : List Str} {o : Op} {a b : Tm} (ha : gT ls a) (hb : gT ls b) : gC ls (leafC o a b) := by
  cases a <;> cases b <;> simp only [leafC]
  · split
    · exact g_cst _ _
    · exact ⟨ha, hb⟩
  · exact ⟨ha, hb⟩
  · exact ⟨hb, ha⟩
  · exact g_cst _ _
theorem g_pair {ls : List Str} {n : Bool} {l r : Cn} (hl : gC ls l) (hr : gC ls r) : gC ls (pairC n l r) := by
  unfold pairC
  split
  · exact g_cst _ _
  split
  · exact hr
  split
  · exact hl
  cases n <;> exact ⟨hl, hr⟩
theorem g_foldC {ls : List Str} : ∀ (c : Cn) (t : Bool), gC ls c → gC ls (foldC t c)
  | .tt, t, _ => g_cst _ _
  | .ff, t, _ => g_cst _ _
  | .cmp o a b, t, h => g_leaf h.1 h.2
  | .no c, t, h => g_foldC c (!t) h
  | .an a b, t, h => g_pair (g_foldC a t h.1) (g_foldC b t h.2)
  | .oo a b, t, h => g_pair (g_foldC a t h.1) (g_foldC b t h.2)
/-! same trees are one tree -/
mutual
theorem sameD_eq : ∀ d e : D, sameD d e = true → d = e
  | .sc v, .sc w, h => by simp only [sameD, decide_eq_true_eq] at h; rw [h]
  | .tup ds, .tup es, h => by simp only [sameD] at h; rw [sameAll_eq ds es h]
  | .sc _, .tup _, h => by simp [sameD] at h
  | .tup _, .sc _, h => by simp [sameD] at h
theorem sameAll_eq : ∀ ds es : List D, sameAll ds es = true → ds = es
  | [], [], _ => rfl
  | d :: ds, e :: es, h => by
    simp only [sameAll, Bool.and_eq_true] at h
    rw [sameD_eq d e h.1, sameAll_eq ds es h.2]
  | [], _ :: _, h => by simp [sameAll] at h
  | _ :: _, [], h => by simp [sameAll] at h
end
theorem dT_inj {a b : Tm} (h : dT a = dT b) : a = b := by
  cases a <;> cases b <;> simp only [dT, wT, uT, D.tup.injEq, List.cons.injEq, D.sc.injEq, V.str.injEq, and_true, true_and] at h
  · rw [h]
  · exact absurd h.1 (by decide)
  · exact absurd h.1 (by decide)
  · rw [h]
theorem opS_inj {o p : Op} (h : opS o = opS p) : o = p := by
  cases o <;> cases p <;> first | rfl | exact absurd h (by decide)
theorem dC_word (c : Cn) : ∃ r, dC c = .tup (.sc (.str (wC c)) :: r) := by cases c <;> exact ⟨_, rfl⟩
theorem wC_of {c d : Cn} (h : dC c = dC d) : wC c = wC d := by
  obtain ⟨r, h1⟩ := dC_word c
  obtain ⟨q, h2⟩ := dC_word d
  rw [h1, h2] at h
  injection h with h
  injection h with h _
  injection h with h
  injection h
theorem dC_inj : ∀ {c d : Cn}, dC c = dC d → c = d := by
  intro c
  induction c with
  | tt => intro d h; cases d <;> first | rfl | (have := wC_of h; simp only [wC] at this; exact absurd this (by decide))
  | ff => intro d h; cases d <;> first | rfl | (have := wC_of h; simp only [wC] at this; exact absurd this (by decide))
  | cmp o a b =>
    intro d h
    cases d with
    | cmp p x y =>
      simp only [dC, D.tup.injEq, List.cons.injEq, D.sc.injEq, V.str.injEq, and_true, true_and] at h
      rw [opS_inj h.1, dT_inj h.2.1, dT_inj h.2.2]
    | _ => have := wC_of h; simp only [wC] at this; exact absurd this (by decide)
  | no c ih =>
    intro d h
    cases d with
    | no x =>
      simp only [dC, D.tup.injEq, List.cons.injEq, and_true, true_and] at h
      rw [ih h]
    | _ => have := wC_of h; simp only [wC] at this; exact absurd this (by decide)
  | an a b ia ib =>
    intro d h
    cases d with
    | an x y =>
      simp only [dC, D.tup.injEq, List.cons.injEq, and_true, true_and] at h
      rw [ia h.1, ib h.2]
    | _ => have := wC_of h; simp only [wC] at this; exact absurd this (by decide)
  | oo a b ia ib =>
    intro d h
    cases d with
    | oo x y =>
      simp only [dC, D.tup.injEq, List.cons.injEq, and_true, true_and] at h
      rw [ia h.1, ib h.2]
    | _ => have := wC_of h; simp only [wC] at this; exact absurd this (by decide)
theorem same_iff {c d : Cn} (h : sameD (dC c) (dC d) = true) : c = d := dC_inj (sameD_eq _ _ h)
/-! folding keeps the answer -/
theorem cmp_opp (o : Op) (v w : V) : cmpB (opp o) v w = !cmpB o v w := by
  cases o <;> simp [opp, cmpB]
theorem cmp_flp (o : Op) (v w : V) : cmpB (flp o) w v = cmpB o v w := by
  have : decide (w = v) = decide (v = w) := by by_cases e : v = w <;> simp [e]; exact fun z => e z.symm
  cases o <;> simp [flp, cmpB, this]
theorem cmp_same (o : Op) {v : V} (h : isSc v = true) : cmpB o v v = refl o := by
  cases o <;> simp [cmpB, refl, keyLt_irr v h]
theorem wth_is {ls : List Str} {ws : List V} {t : Tm} (h : gT ls t) (hl : ws.length = ls.length) (hw : ∀ v ∈ ws, Sc v) : isSc (wth ls ws t) = true := by
  cases t with
  | val v => exact Sc.is h
  | col l =>
    have : posL l ls < ws.length := by
      have := (List.getElem?_eq_some_iff.mp (posL_at h)).1
      omega
    show isSc (ws.getD (posL l ls) .non) = true
    rw [List.getD_eq_getElem?_getD, List.getElem?_eq_getElem this]
    exact Sc.is (hw _ (List.getElem_mem this))
theorem evl_cst (ls : List Str) (ws : List V) (b : Bool) : evl ls ws (cst b) = b := by cases b <;> rfl
theorem evl_leaf {ls : List Str} {ws : List V} {o : Op} {a b : Tm} (ha : gT ls a) (hb : gT ls b) (hl : ws.length = ls.length) (hw : ∀ v ∈ ws, Sc v) : evl ls ws (leafC o a b) = cmpB o (wth ls ws a) (wth ls ws b) := by
  have sa := wth_is ha hl hw
  cases a <;> cases b <;> simp only [leafC]
  · split
    · rename_i e; subst e; rw [evl_cst, cmp_same o sa]
    · rfl
  · rfl
  · simp only [evl, wth]; exact cmp_flp ..
  · rw [evl_cst]; rfl
theorem evl_pair (ls : List Str) (ws : List V) (n : Bool) (l r : Cn) : evl ls ws (pairC n l r) = (if n then evl ls ws l && evl ls ws r else evl ls ws l || evl ls ws r) := by
  have fin : ∀ c, isFin n c = true → evl ls ws c = !n := by
    intro c h; cases n <;> cases c <;> first | rfl | simp [isFin, isTT, isFF] at h
  have idl : ∀ c, isIdle n c = true → evl ls ws c = n := by
    intro c h; cases n <;> cases c <;> first | rfl | simp [isIdle, isTT, isFF] at h
  unfold pairC
  split
  · rename_i h
    rw [evl_cst]
    rcases Bool.or_eq_true _ _ ▸ h with h | h
    · have := fin _ h; cases n <;> simp [this]
    · have := fin _ h; cases n <;> simp [this]
  split
  · rename_i h
    have := idl _ h; cases n <;> simp [this]
  split
  · rename_i h
    rcases Bool.or_eq_true _ _ ▸ h with h | h
    · have := idl _ h; cases n <;> simp [this]
    · have := same_iff h; subst this; cases n <;> simp
  cases n <;> rfl
theorem evl_foldC {ls : List Str} {ws : List V} (hl : ws.length = ls.length) (hw : ∀ v ∈ ws, Sc v) : ∀ (c : Cn) (t : Bool), gC ls c → evl ls ws (foldC t c) = (evl ls ws c ^^ t)
  | .tt, t, _ => by simp only [foldC, evl_cst, evl]; cases t <;> rfl
  | .ff, t, _ => by simp only [foldC, evl_cst, evl]; cases t <;> rfl
  | .cmp o a b, t, h => by
    simp only [foldC]
    rw [evl_leaf h.1 h.2 hl hw]
    cases t
    · simp [evl]
    · simp [evl, cmp_opp]
  | .no c, t, h => by simp only [foldC, evl]; rw [evl_foldC hl hw c (!t) h]; cases t <;> simp
  | .an a b, t, h => by simp only [foldC, evl]; rw [evl_pair, evl_foldC hl hw a t h.1, evl_foldC hl hw b t h.2]; cases t <;> simp
  | .oo a b, t, h => by simp only [foldC, evl]; rw [evl_pair, evl_foldC hl hw a t h.1, evl_foldC hl hw b t h.2]; cases t <;> simp
/-! folding twice -/
def nrm : Cn → Prop
  | .tt => True | .ff => True
  | .no _ => False
  | .cmp o a b => leafC o a b = .cmp o a b
  | .an a b => nrm a ∧ nrm b ∧ pairC true a b = .an a b
  | .oo a b => nrm a ∧ nrm b ∧ pairC false a b = .oo a b
theorem nrm_cst (b : Bool) : nrm (cst b) := by cases b <;> trivial
theorem nrm_leaf (o : Op) (a b : Tm) : nrm (leafC o a b) := by
  cases a <;> cases b <;> simp only [leafC]
  · split
    · exact nrm_cst _
    · rename_i h; simp only [nrm, leafC]; rw [if_neg h]
  · rfl
  · rfl
  · exact nrm_cst _
theorem nrm_pair (n : Bool) {l r : Cn} (hl : nrm l) (hr : nrm r) : nrm (pairC n l r) := by
  by_cases h1 : (isFin n l || isFin n r) = true
  · unfold pairC; rw [if_pos h1]; exact nrm_cst _
  by_cases h2 : isIdle n l = true
  · unfold pairC; rw [if_neg h1, if_pos h2]; exact hr
  by_cases h3 : (isIdle n r || sameD (dC l) (dC r)) = true
  · unfold pairC; rw [if_neg h1, if_neg h2, if_pos h3]; exact hl
  have e : pairC n l r = if n then .an l r else .oo l r := by unfold pairC; rw [if_neg h1, if_neg h2, if_neg h3]
  rw [e]
  cases n with
  | true => exact ⟨hl, hr, e⟩
  | false => exact ⟨hl, hr, e⟩
theorem nrm_foldC : ∀ (c : Cn) (t : Bool), nrm (foldC t c)
  | .tt, t => nrm_cst _
  | .ff, t => nrm_cst _
  | .cmp o a b, t => nrm_leaf _ _ _
  | .no c, t => nrm_foldC c (!t)
  | .an a b, t => nrm_pair _ (nrm_foldC a t) (nrm_foldC b t)
  | .oo a b, t => nrm_pair _ (nrm_foldC a t) (nrm_foldC b t)
theorem fold_nrm : ∀ {c : Cn}, nrm c → foldC false c = c
  | .tt, _ => rfl
  | .ff, _ => rfl
  | .cmp o a b, h => h
  | .no c, h => h.elim
  | .an a b, h => by simp only [foldC]; rw [fold_nrm h.1, fold_nrm h.2.1]; exact h.2.2
  | .oo a b, h => by simp only [foldC]; rw [fold_nrm h.1, fold_nrm h.2.1]; exact h.2.2
theorem fold_fold (c : Cn) (t : Bool) : foldC false (foldC t c) = foldC t c := fold_nrm (nrm_foldC c t)
end SD
namespace SD
open PySem L2
section
variable {X : Cx}
/-! ### == of a tuple that begins with a text and of a tuple of one text -/
def rEq1 (K : PySem.W.Frag) : R2 := fun x y H Q => ∃ a b h xs w, x = .ref a ∧ y = .ref b ∧ SqT K H a (.str h :: xs) ∧ SqT K H b [.str w] ∧ Q (.bl (decide (h = w) && xs.isEmpty)) H
theorem op_eq1 (hu : X.A.units < cLine) : OpR X (compareOp .Eq) (rEq1 X.K) := by
  intro pins s σ H x y v u Q I rx ry h
  obtain ⟨a, b, h0, xs, w, rfl, rfl, ha, hb, k⟩ := h
  cases rx
  cases ry
  obtain ⟨its, r1, p1, _⟩ := I.tuple ha
  obtain ⟨its2, r2, p2, _⟩ := I.tuple hb
  have l1 := r1.length
  have l2 := r2.length
  refine SeqAt.eq_tupleAt (e := fun _ => decide (h0 = w)) p1 p2 hu (fun j h1 h2 => ?_) ⟨.bl _, H, I, rfl, ?_⟩
  · cases r1 with
    | cons q1 r1 =>
      cases r2 with
      | cons q2 r2 =>
        cases r2
        have : j = 0 := by simp at h2; omega
        subst this
        have := key_eqB (A := X.A.in1) (s := s) (v := .str h0) (w := .str w) rfl rfl (y := _) (z := _) q1 q2
        have z : decide (skB (.str h0) = skB (.str w)) = decide (h0 = w) := by
          show decide (V.str h0 = V.str w) = _
          by_cases e : h0 = w <;> simp [e]
        rw [z] at this
        exact this
  · simp only [List.length_cons, List.length_nil] at l1 l2
    simp only [List.size_toArray, ← l1, ← l2]
    have m : min (xs.length + 1) (0 + 1) = 1 := by omega
    rw [m]
    have z : (((List.range 1).all fun _ => decide (h0 = w)) && (xs.length + 1 == 0 + 1)) = (decide (h0 = w) && xs.isEmpty) := by
      cases xs <;> simp [List.range, List.range.loop]
    rw [z]
    exact k
/-! ### a written list of texts: behind it a token is out -/
theorem pss_lstT {i : Nat} {x c : Str} {es : List Expr} {j : Nat} {p px lp pos : Pos} {ta : TA} {rest : List Stmt} {u : TS} (hN : X.N.Nodup) (hi : X.N[i]? = some x) (hx : Loc X.env.scope x) (ha : PA X es ta) (h2 : PSsT X rest u)
    (hst : starEach (.Constant (.str c) j p :: es) X.env = (false, eval (.Constant (.str c) j p) X.env) :: starEach es X.env := by rfl)
    (hs : swapsWith (.List (.Constant (.str c) j p :: es) lp) (some (.Name x px)) pos.line X.env = pure false := by rfl) (hf : X.fn x = true ∨ X.env.scope.names.lookup x = some .local := by first | exact .inl rfl | exact .inr rfl | assumption) :
    PSs X (.Assign [.Name x px] (.List (.Constant (.str c) j p :: es) lp) pos :: rest) (tSeq (tAsg (tLst (tCons (tC (.str c)) ta)) (gName i)) u) := by
  refine ⟨fun pins s σ H D I h => ?_⟩
  refine wpAny_execs_cons (wpAny_Assign_Name (wpAny_List_spliced ?_) hs)
  rw [hst]
  show wpAny _ _ (spliced ((false, eval (.Constant (.str c) j p) X.env) :: backTo lp (starEach es X.env))) _ _ s
  refine Calls.spliced_cons (Calls.Constant_str ?_)
  refine wpAny_mono (PySem.wpAny_toks (ha.run lp pins { s with toks := s.toks + 1 } σ H _ (I.tok _) h)) (fun us s1 q => ?_) fun _ _ z => z.2
  obtain ⟨hk, xs, H1, I1, r, z, q⟩ := q
  have hk : s.toks + 1 ≤ s1.toks := hk
  have hz : (Value.str c s.toks :: us).length ≤ sizeLine := by
    have := r.length
    simp only [List.length_cons] at z ⊢
    rw [← this]; exact z
  refine ⟨hz, ?_⟩
  have hfr : H1 s1.heap.objs.size = none := I1.hok.fresh (Nat.le_refl _)
  have J : Inv X pins σ (upd H1 s1.heap.objs.size (.lst (.str c :: xs))) { s1 with heap := s1.heap.push { cls := .type "list", data := .seq (Value.str c s.toks :: us).toArray } } :=
    I1.laid (t' := s1.toks) (fun b u e => Heap.get?_push_of_some _ e) (Nat.le_refl _) ⟨z, Value.str c s.toks :: us, 0, .cons ⟨_, rfl⟩ r, Heap.get?_push_size _ rfl⟩
  have q := q _ hfr
  refine wpAny_mono (PySem.wpAny_toks (store_ok (v := V.ref s1.heap.objs.size) (u := Value.ref s1.heap.objs.size) (Q := fun _ s2 => Inv X pins (σ.set i (some (V.ref s1.heap.objs.size))) (upd H1 s1.heap.objs.size (.lst (.str c :: xs))) s2) J hN hi hx rfl (fun _ I2 => I2) hf)) (fun _ s2 q2 => ?_) fun _ _ z => z.2
  have hk2 : s1.toks ≤ s2.toks := q2.1
  exact h2 pins s2 _ _ D (by omega) q2.2 q
theorem pst_set {i : Nat} {x : Str} {e : Expr} {te : TE} {pos' pos : Pos} (hN : X.N.Nodup) (hi : X.N[i]? = some x) (hx : Loc X.env.scope x) (he : PET X e te) (hs : swapsWith e (some (.Name x pos')) pos.line X.env = pure false := by rfl) (hf : X.fn x = true ∨ X.env.scope.names.lookup x = some .local := by first | exact .inl rfl | exact .inr rfl | assumption) :
    PST X (.Assign [.Name x pos'] e pos) (tAsg te (gName i)) := by
  intro pins s σ H D h0 I h
  refine wpAny_Assign_Name (thn (he pins s σ H _ h0 I h) fun v s1 ⟨y, H1, I1, r1, q1⟩ => ?_) hs
  exact store_ok I1 hN hi hx r1 (fun s2 I2 => ⟨_, H1, I2, q1⟩) hf
end
/-! ### a written dict from one comparison to another -/
def DF (K : PySem.W.Frag) (w : World) (mg : Str → Option Value) (x : Str) (g : Op → Op) : Prop := ∃ a, mg x = some (.ref a) ∧ ∀ o, KDct K w a (opS o) (.str (opS (g o)))
/-! ### promises -/
def fits (c : Cn) : Prop := dpC c ≤ 12
def spFold (K : PySem.W.Frag) (n : Nat) : Sp := fun vs H Q _ => ∃ x c, vs = [x] ∧ Rep K H x (dC c) ∧ lvC false c < n ∧ dpC c ≤ 12 ∧ ∀ y H', Same H H' → Rep K H' y (dC (foldC false c)) → Q y H'
def spFoldNot (K : PySem.W.Frag) (n : Nat) : Sp := fun vs H Q _ => ∃ x c, vs = [x] ∧ Rep K H x (dC c) ∧ lvC true c < n ∧ dpC c ≤ 11 ∧ ∀ y H', Same H H' → Rep K H' y (dC (foldC true c)) → Q y H'
def spFoldCmp (K : PySem.W.Frag) : Sp := fun vs H Q _ => ∃ x o a b, vs = [x] ∧ Rep K H x (dC (.cmp o a b)) ∧ ∀ y H', Same H H' → Rep K H' y (dC (leafC o a b)) → Q y H'
def spFlip (K : PySem.W.Frag) : Sp := fun vs H Q _ => ∃ x o a b, vs = [x] ∧ Rep K H x (dC (.cmp o a b)) ∧ ∀ y H', Same H H' → Rep K H' y (dC (.cmp (flp o) b a)) → Q y H'
def spCst (K : PySem.W.Frag) : Sp := fun vs H Q _ => ∃ b, vs = [.bl b] ∧ ∀ y H', Same H H' → Rep K H' y (dC (cst b)) → Q y H'
def spPair (K : PySem.W.Frag) : Sp := fun vs H Q _ => ∃ n x y i f l r, vs = [.str (if n then "and" else "or"), x, y, .ref i, .ref f] ∧ Rep K H x (dC l) ∧ Rep K H y (dC r) ∧ SqT K H i [.str (if n then "true" else "false")] ∧ SqT K H f [.str (if n then "false" else "true")] ∧ dpC l ≤ 12 ∧ dpC r ≤ 12 ∧
  ∀ z H', Same H H' → Rep K H' z (dC (pairC n l r)) → Q z H'
def spNear2 (K : PySem.W.Frag) : Sp := fun vs H Q _ => ∃ st c a xs, vs = [.ref st, .ref a] ∧ StoC st c H ∧ SqT K H a xs ∧ (∀ v ∈ xs, Sc v) ∧ xs.length ≤ 12 ∧ ∀ q ys H', Ext st c H H' → SqT K H' q ys → (∀ v ∈ ys, Sc v) → xs.length ≤ ys.length + 1 → Q (.ref q) H'
def spFolding (K : PySem.W.Frag) : Sp := fun vs H Q _ => ∃ st c la ls, vs = [.ref st, .ref la] ∧ StoC st c H ∧ la ≠ st ∧ SqL K H la (ls.map V.str) ∧ ls ≠ [] ∧ ls.length ≤ 1000 ∧ ∀ x d H', Ext st c H H' → Rep K H' x (dC d) → gC ls d → dpC d ≤ 8 → szC d ≤ 40 → Q x H'
def spLeafF (K : PySem.W.Frag) : Sp := fun vs H Q _ => ∃ x o a b t, vs = [x, .bl t] ∧ Rep K H x (dC (.cmp o a b)) ∧ (∃ ls, gT ls a ∧ gT ls b) ∧ ∀ y H', Same H H' → Rep K H' y (dC (leafC (if t then opp o else o) a b)) → Q y H'
def spLFold (K : PySem.W.Frag) (n : Nat) : Sp := fun vs H Q _ => ∃ x c t, vs = [x, .bl t] ∧ Rep K H x (dC c) ∧ (∃ ls, gC ls c) ∧ dpC c < n ∧ dpC c ≤ 12 ∧ ∀ y H', Same H H' → Rep K H' y (dC (foldC t c)) → Q y H'
end SD
namespace SD
open PySem L2
theorem cut1 (a b c d : V) : cutV [a, b, c, d] (some 1) none = [b, c, d] := by
  unfold cutV
  rw [HT.sIx_none, show ((1 : Int)) = ((1 : Nat) : Int) from rfl, HT.sIx_nat]
  simp
theorem rep_cst {K : PySem.W.Frag} {H : Hp} {p : Addr} (b : Bool) (h : H p = some (.tup [.str (if b then "true" else "false")])) : Rep K H (.ref p) (dC (cst b)) := by
  cases b
  · exact Rep.mk h (by simp) (.cons (.sc rfl) .nil)
  · exact Rep.mk h (by simp) (.cons (.sc rfl) .nil)
theorem repW {K : PySem.W.Frag} {H : Hp} {x : V} {c : Cn} (h : Rep K H x (dC c)) : ∃ a xs, x = .ref a ∧ SqT K H a (.str (wC c) :: xs) ∧ xs.isEmpty = (isTT c || isFF c) := by
  cases c with
  | tt => obtain ⟨a, rfl, ha⟩ := repTT h; exact ⟨a, _, rfl, ha, rfl⟩
  | ff => obtain ⟨a, rfl, ha⟩ := repFF h; exact ⟨a, _, rfl, ha, rfl⟩
  | cmp o s t => obtain ⟨a, _, _, rfl, ha, _⟩ := repCmp h; exact ⟨a, _, rfl, ha, rfl⟩
  | no c => obtain ⟨a, _, rfl, ha, _⟩ := repNo h; exact ⟨a, _, rfl, ha, rfl⟩
  | an c d => obtain ⟨a, _, _, rfl, ha, _⟩ := repAn h; exact ⟨a, _, rfl, ha, rfl⟩
  | oo c d => obtain ⟨a, _, _, rfl, ha, _⟩ := repOo h; exact ⟨a, _, rfl, ha, rfl⟩
theorem wTT (c : Cn) : decide (wC c = "true") = isTT c := by
  cases c with
  | tt => exact (by decide +kernel : decide (("true" : Str) = "true") = true)
  | ff => exact (by decide +kernel : decide (("false" : Str) = "true") = false)
  | cmp o a b => exact (by decide +kernel : decide (("compare" : Str) = "true") = false)
  | no c => exact (by decide +kernel : decide (("not" : Str) = "true") = false)
  | an a b => exact (by decide +kernel : decide (("and" : Str) = "true") = false)
  | oo a b => exact (by decide +kernel : decide (("or" : Str) = "true") = false)
theorem wFF (c : Cn) : decide (wC c = "false") = isFF c := by
  cases c with
  | tt => exact (by decide +kernel : decide (("true" : Str) = "false") = false)
  | ff => exact (by decide +kernel : decide (("false" : Str) = "false") = true)
  | cmp o a b => exact (by decide +kernel : decide (("compare" : Str) = "false") = false)
  | no c => exact (by decide +kernel : decide (("not" : Str) = "false") = false)
  | an a b => exact (by decide +kernel : decide (("and" : Str) = "false") = false)
  | oo a b => exact (by decide +kernel : decide (("or" : Str) = "false") = false)
theorem eqTT {c : Cn} {xs : List V} (h : xs.isEmpty = (isTT c || isFF c)) : V.bl (decide (wC c = "true") && xs.isEmpty) = .bl (isTT c) := by
  rw [wTT, h]; cases isTT c <;> rfl
theorem eqFF {c : Cn} {xs : List V} (h : xs.isEmpty = (isTT c || isFF c)) : V.bl (decide (wC c = "false") && xs.isEmpty) = .bl (isFF c) := by
  rw [wFF, h]; cases c <;> rfl
theorem eqFin (n : Bool) {c : Cn} {xs : List V} (h : xs.isEmpty = (isTT c || isFF c)) : V.bl (decide (wC c = (if n then "false" else "true" : Str)) && xs.isEmpty) = .bl (isFin n c) := by
  cases n
  · exact eqTT h
  · exact eqFF h
theorem eqIdle (n : Bool) {c : Cn} {xs : List V} (h : xs.isEmpty = (isTT c || isFF c)) : V.bl (decide (wC c = (if n then "true" else "false" : Str)) && xs.isEmpty) = .bl (isIdle n c) := by
  cases n
  · exact eqFF h
  · exact eqTT h
theorem leT {n : Nat} (h : n ≤ 1000 := by simp) : n ≤ sizeLine := Nat.le_trans h (by decide)
end SD
namespace SD
open PySem L2
section
variable {X : Cx} {st : Stmt} {rest : List Stmt} {t u : TS}
theorem psst_cut (h1 : PST X st t) (h2 : PSsT X rest u) : PSsT X (st :: rest) (C8.tCut t u) := by
  intro pins s σ H D h0 I h
  obtain ⟨Mid, hm, hu⟩ := h
  refine wpAny_execs_cons (wpAny_mono (PySem.wpAny_toks (h1 pins s σ H { D with nx := Mid } h0 I hm)) (fun f s1 q => ?_) fun _ _ x => x.2)
  obtain ⟨hk, q⟩ := q
  cases f with
  | next =>
    obtain ⟨σ', H', I', q⟩ := q
    exact h2 pins s1 σ' H' D (Nat.le_trans h0 hk) I' (hu σ' H' q)
  | ret v => exact q
  | brk => exact q
  | cont => exact q
end
theorem notBefore {xs : List V} {x : V} {j : Nat} (h : (xs.take j).all (fun z => !eqV z x) = true) : ∀ m z, m < j → xs[m]? = some z → eqV z x = false := fun m z hm hz => by
  have : z ∈ xs.take j := by
    rw [List.mem_iff_getElem?]
    exact ⟨m, by rw [List.getElem?_take_of_lt hm]; exact hz⟩
  have := List.all_eq_true.mp h z this
  simpa using this
def opsL : List V := [.str "=", .str "!=", .str "<", .str ">=", .str ">", .str "<="]
def opI : Op → Nat
  | .eq => 0 | .ne => 1 | .lt => 2 | .ge => 3 | .gt => 4 | .le => 5
theorem opI_at (o : Op) : opsL[opI o]? = some (.str (opS o)) := by cases o <;> rfl
theorem opI_nb (o : Op) : (opsL.take (opI o)).all (fun z => !eqV z (.str (opS o))) = true := by cases o <;> decide +kernel
theorem opI_eq (o : Op) : eqV (.str (opS o)) (.str (opS o)) = true := by cases o <;> decide +kernel
theorem opI_opp (o : Op) : atI opsL ((opI o : Int) + 1 - 2 * (if decide (V.int ((opI o : Int) % 2) = V.int 1) = true then 1 else 0)) = some (.str (opS (opp o))) := by cases o <;> decide +kernel
theorem flipRep (o : Op) : Txt.replace (Txt.replace (Txt.replace (opS o) "<" "~") ">" "<") "~" ">" = opS (flp o) := by cases o <;> decide +kernel
theorem repB1 (o : Op) : (opS o).length + ((opS o).length + 1) * ("~" : Str).length ≤ 16777216 := by cases o <;> decide +kernel
theorem repB2 (o : Op) : (Txt.replace (opS o) "<" "~").length + ((Txt.replace (opS o) "<" "~").length + 1) * ("<" : Str).length ≤ 16777216 := by cases o <;> decide +kernel
theorem repB3 (o : Op) : (Txt.replace (Txt.replace (opS o) "<" "~") ">" "<").length + ((Txt.replace (Txt.replace (opS o) "<" "~") ">" "<").length + 1) * (">" : Str).length ≤ 16777216 := by cases o <;> decide +kernel
theorem reflIn (o : Op) : V.bl (inV (.str (opS o)) [.str "=", .str "<=", .str ">="]) = V.bl (refl o) := by cases o <;> decide +kernel
end SD
namespace SD
open PySem L2
def binC (m : Bool) (a b : Cn) : Cn := if m then .an a b else .oo a b
def binW (m : Bool) : Str := if m then "and" else "or"
theorem binW_an (m : Bool) : decide (binW m = "and") = m := by cases m <;> decide +kernel
theorem binW_no {m : Bool} {w : Str} (h1 : decide (("and" : Str) = w) = false) (h2 : decide (("or" : Str) = w) = false) : decide (binW m = w) = false := by cases m <;> assumption
theorem fold_bin (t m : Bool) (a b : Cn) : foldC t (binC m a b) = pairC (m ^^ t) (foldC t a) (foldC t b) := by cases m <;> cases t <;> rfl
theorem dp_bin (m : Bool) (a b : Cn) : dpC (binC m a b) = max (dpC a) (dpC b) + 1 := by cases m <;> rfl
theorem g_bin {ls : List Str} {m : Bool} {a b : Cn} (h : gC ls (binC m a b)) : gC ls a ∧ gC ls b := by cases m <;> exact h
theorem repBin {K : PySem.W.Frag} {H : Hp} {x : V} {m : Bool} {c d : Cn} (h : Rep K H x (dC (binC m c d))) : ∃ a x1 x2, x = .ref a ∧ SqT K H a [.str (binW m), x1, x2] ∧ Rep K H x1 (dC c) ∧ Rep K H x2 (dC d) := by
  cases m
  · exact repOo h
  · exact repAn h
theorem mkBin {K : PySem.W.Frag} {H : Hp} {p : Addr} {m : Bool} {x y : V} {c d : Cn} (h : H p = some (.tup [.str (binW m), x, y])) (h1 : Rep K H x (dC c)) (h2 : Rep K H y (dC d)) : Rep K H (.ref p) (dC (binC m c d)) := by
  cases m
  · exact Rep.mk h (by simp) (.cons (.sc rfl) (.cons h1 (.cons h2 .nil)))
  · exact Rep.mk h (by simp) (.cons (.sc rfl) (.cons h1 (.cons h2 .nil)))
def stopW (n : Bool) : Str := if n then "false" else "true"
def idleW (n : Bool) : Str := if n then "true" else "false"
theorem wFin (n : Bool) (c : Cn) : decide (wC c = stopW n) = isFin n c := by
  cases n
  · exact wTT c
  · exact wFF c
theorem wIdle (n : Bool) (c : Cn) : decide (wC c = idleW n) = isIdle n c := by
  cases n
  · exact wFF c
  · exact wTT c
theorem rep_stop {K : PySem.W.Frag} {H : Hp} {p : Addr} (n : Bool) (h : H p = some (.tup [.str (stopW n)])) : Rep K H (.ref p) (dC (cst (!n))) := by
  cases n
  · exact Rep.mk h (by simp) (.cons (.sc rfl) .nil)
  · exact Rep.mk h (by simp) (.cons (.sc rfl) .nil)
theorem cn_split (c : Cn) : c = .tt ∨ c = .ff ∨ (∃ o a b, c = .cmp o a b) ∨ (∃ d, c = .no d) ∨ ∃ m a b, c = binC m a b := by
  cases c with
  | tt => exact .inl rfl
  | ff => exact .inr (.inl rfl)
  | cmp o a b => exact .inr (.inr (.inl ⟨o, a, b, rfl⟩))
  | no d => exact .inr (.inr (.inr (.inl ⟨d, rfl⟩)))
  | an a b => exact .inr (.inr (.inr (.inr ⟨true, a, b, rfl⟩)))
  | oo a b => exact .inr (.inr (.inr (.inr ⟨false, a, b, rfl⟩)))
end SD
namespace SD
open PySem L2
theorem cutV_last (xs : List V) : xs.length ≤ (cutV xs none (some (-1))).length + 1 := by
  unfold cutV
  rw [HT.sIx_none]
  have : HT.sIx xs.length xs.length (some (-1)) = xs.length - 1 := by
    show (if (-1 : Int) < 0 then ((-1 : Int) + (xs.length : Int)).toNat else min (-1 : Int).toNat xs.length) = _
    rw [if_pos (by decide)]
    omega
  rw [this, List.length_take, List.length_drop]
  omega
theorem op_of_mem {v : V} {a b c d e f : Op} (h : v ∈ [V.str (opS a), .str (opS b), .str (opS c), .str (opS d), .str (opS e), .str (opS f)]) : ∃ o, v = .str (opS o) := by
  simp only [List.mem_cons, List.not_mem_nil, or_false] at h
  rcases h with h | h | h | h | h | h
  · exact ⟨_, h⟩
  · exact ⟨_, h⟩
  · exact ⟨_, h⟩
  · exact ⟨_, h⟩
  · exact ⟨_, h⟩
  · exact ⟨_, h⟩
theorem rep_term {K : PySem.W.Frag} {H : Hp} {q : Addr} (t : Tm) (h1 : H q = some (.tup [.str (wT t), uT t])) (h2 : isSc (uT t) = true) : Rep K H (.ref q) (dT t) := Rep.mk h1 (by simp) (.cons (.sc rfl) (.cons (.sc h2) .nil))
theorem rep_cmp {K : PySem.W.Frag} {H : Hp} {q : Addr} {o : Op} {a b : Tm} {x y : V} (h : H q = some (.tup [.str "compare", .str (opS o), x, y])) (h1 : Rep K H x (dT a)) (h2 : Rep K H y (dT b)) : Rep K H (.ref q) (dC (.cmp o a b)) := Rep.mk h (by simp) (.cons (.sc rfl) (.cons (.sc rfl) (.cons h1 (.cons h2 .nil))))
theorem rep_no {K : PySem.W.Frag} {H : Hp} {q : Addr} {c : Cn} {x : V} (h : H q = some (.tup [.str "not", x])) (h1 : Rep K H x (dC c)) : Rep K H (.ref q) (dC (.no c)) := Rep.mk h (by simp) (.cons (.sc rfl) (.cons h1 .nil))
theorem g_mkbin {ls : List Str} {a b : Cn} (m : Bool) (h1 : gC ls a) (h2 : gC ls b) : gC ls (binC m a b) := by cases m <;> exact ⟨h1, h2⟩
theorem sz_bin (m : Bool) (a b : Cn) : szC (binC m a b) = szC a + szC b + 1 := by cases m <;> rfl
end SD
namespace SD
open PySem L2
/-! ### the labels of a condition -/
def lbT : Tm → List Str
  | .col l => [l]
  | .val _ => []
def lbC : Cn → List Str
  | .tt => [] | .ff => []
  | .cmp _ a b => lbT a ++ lbT b
  | .no c => lbC c
  | .an a b => lbC a ++ lbC b
  | .oo a b => lbC a ++ lbC b
theorem len_lb : ∀ c : Cn, (lbC c).length ≤ 2 * szC c
  | .tt => by simp [lbC] | .ff => by simp [lbC]
  | .cmp _ a b => by cases a <;> cases b <;> simp [lbC, lbT, szC]
  | .no c => by have := len_lb c; simp only [lbC, szC]; omega
  | .an a b => by have := len_lb a; have := len_lb b; simp only [lbC, szC, List.length_append]; omega
  | .oo a b => by have := len_lb a; have := len_lb b; simp only [lbC, szC, List.length_append]; omega
def addL (acc : List Str) (l : Str) : List Str := if l ∈ acc then acc else acc ++ [l]
def uniq (ls : List Str) : List Str := ls.foldl addL []
theorem uniq_next {ls : List Str} {i : Nat} {l : Str} (h : ls[i]? = some l) : uniq (ls.take (i + 1)) = addL (uniq (ls.take i)) l := by
  unfold uniq
  rw [List.take_succ, h, List.foldl_append]
  rfl
theorem addL_len (acc : List Str) (l : Str) : (addL acc l).length ≤ acc.length + 1 := by
  unfold addL; split <;> simp
theorem uniq_len (ls : List Str) : (uniq ls).length ≤ ls.length := by
  suffices h : ∀ (ls acc : List Str), (ls.foldl addL acc).length ≤ acc.length + ls.length by have := h ls []; unfold uniq; simpa using this
  intro ls
  induction ls with
  | nil => intro acc; simp
  | cons l ls ih =>
    intro acc
    rw [List.foldl_cons]
    have := ih (addL acc l)
    have := addL_len acc l
    simp only [List.length_cons]
    omega
/-! ### other names -/
def kvN (nm : List (Str × Str)) : List (Key × V) := nm.map fun p => (Sum.inr p.1, V.str p.2)
def ren (nm : List (Str × Str)) (l : Str) : Str := ((nm.find? fun p => decide (p.1 = l)).map (·.2)).getD l
theorem valV_N (l : Str) : ∀ nm : List (Str × Str), (valV (kvN nm) (.inr l)).getD (.str l) = .str (ren nm l)
  | [] => rfl
  | p :: nm => by
    by_cases e : p.1 = l
    · have : valV (kvN (p :: nm)) (.inr l) = some (.str p.2) := valV_pos (p := ((Sum.inr p.1 : Key), V.str p.2)) (by rw [e])
      rw [this]
      simp [ren, e]
    · have : valV (kvN (p :: nm)) (.inr l) = valV (kvN nm) (.inr l) := valV_neg (p := ((Sum.inr p.1 : Key), V.str p.2)) (fun z => e (by injection z))
      rw [this, valV_N l nm]
      simp [ren, e]
def renT (nm : List (Str × Str)) : Tm → Tm
  | .col l => .col (ren nm l)
  | .val v => .val v
def renC (nm : List (Str × Str)) : Cn → Cn
  | .tt => .tt | .ff => .ff
  | .cmp o a b => .cmp o (renT nm a) (renT nm b)
  | .no c => .no (renC nm c)
  | .an a b => .an (renC nm a) (renC nm b)
  | .oo a b => .oo (renC nm a) (renC nm b)
theorem dp_ren (nm : List (Str × Str)) : ∀ c, dpC (renC nm c) = dpC c
  | .tt => rfl | .ff => rfl | .cmp _ _ _ => rfl
  | .no c => by simp only [renC, dpC]; rw [dp_ren nm c]
  | .an a b => by simp only [renC, dpC]; rw [dp_ren nm a, dp_ren nm b]
  | .oo a b => by simp only [renC, dpC]; rw [dp_ren nm a, dp_ren nm b]
/-! ### promises -/
def spLbs (K : PySem.W.Frag) (n : Nat) : Sp := fun vs H Q _ => ∃ x c, vs = [x] ∧ Rep K H x (dC c) ∧ dpC c < n ∧ szC c ≤ 1000 ∧ ∀ p H', Same H H' → H p = none → H' p = some (.lst ((lbC c).map V.str)) → Q (.ref p) H'
def spLabelsOf (K : PySem.W.Frag) : Sp := fun vs H Q _ => ∃ x c, vs = [x] ∧ Rep K H x (dC c) ∧ dpC c < 60 ∧ szC c ≤ 1000 ∧ ∀ p H', Same H H' → H p = none → H' p = some (.lst ((uniq (lbC c)).map V.str)) → Q (.ref p) H'
def spRenT (K : PySem.W.Frag) : Sp := fun vs H Q _ => ∃ x t na nm, vs = [x, .ref na] ∧ Rep K H x (dT t) ∧ H na = some (.dK (kvN nm)) ∧ ∀ y H', Same H H' → Rep K H' y (dT (renT nm t)) → Q y H'
def spRen (K : PySem.W.Frag) (n : Nat) : Sp := fun vs H Q _ => ∃ x c na nm, vs = [x, .ref na] ∧ Rep K H x (dC c) ∧ dpC c < n ∧ H na = some (.dK (kvN nm)) ∧ ∀ y H', Same H H' → Rep K H' y (dC (renC nm c)) → Q y H'
def spOrd (K : PySem.W.Frag) : Sp := fun vs H Q _ => ∃ st c a xs, vs = [.ref st, .ref a] ∧ StoC st c H ∧ a ≠ st ∧ SqL K H a xs ∧ xs.length ≤ 1000 ∧ ∀ p ys H', Ext st c H H' → H p = none → p ≠ st → H' p = some (.lst ys) → ys.Perm xs → Q (.ref p) H'
def spCmpRight : Sp := fun vs H Q _ => ∃ v w, vs = [v, w] ∧ isSc v = true ∧ isSc w = true ∧ ∀ H', Same H H' → Q (.bl true) H'
end SD
namespace SD
open PySem L2
def entL (l : Str) : List Key × V := ([.inl 3, .inr l], .bl true)
theorem valV_ent (l : Str) : ∀ acc : List Str, (valV (acc.map entL) [.inl 3, .inr l]).isSome = decide (l ∈ acc)
  | [] => by simp [valV]
  | m :: acc => by
    by_cases e : m = l
    · rw [List.map_cons, valV_pos (p := entL m) (by show [Sum.inl 3, Sum.inr m] = _; rw [e])]
      simp [e]
    · rw [List.map_cons, valV_neg (p := entL m) (fun z => e (by
        have z : ([Sum.inl 3, Sum.inr m] : List Key) = [Sum.inl 3, Sum.inr l] := z
        injection z with _ z; injection z with z _; injection z)), valV_ent l acc]
      have : ¬ l = m := fun z => e z.symm
      simp [this]
theorem str_at {ls : List Str} {i : Nat} {y : V} (h : (ls.map V.str)[i]? = some y) : ∃ l, ls[i]? = some l ∧ y = .str l := by
  rw [List.getElem?_map] at h
  cases e : ls[i]? with
  | none => rw [e] at h; cases h
  | some l => rw [e] at h; cases h; exact ⟨l, rfl, rfl⟩
end SD
namespace SD
theorem erase_perm : ∀ {xs : List V} {n : Nat} (h : n < xs.length), ([xs[n]] ++ xs.eraseIdx n).Perm xs
  | x :: xs, 0, _ => List.Perm.refl _
  | x :: xs, n + 1, h => List.Perm.trans (List.Perm.swap x (xs[n]'(by simpa using h)) (xs.eraseIdx n)) (List.Perm.cons x (erase_perm (by simpa using h)))
end SD
namespace SD
open PySem L2
theorem vals_app {a c : List V} {b d : List Value} (h : Vals a b) (g : Vals c d) : Vals (a ++ c) (b ++ d) := by
  induction h with
  | nil => exact g
  | cons r _ ih => exact .cons r ih
theorem vals_rev {a : List V} {b : List Value} (h : Vals a b) : Vals a.reverse b.reverse := by
  induction h with
  | nil => exact .nil
  | cons r _ ih => rw [List.reverse_cons, List.reverse_cons]; exact vals_app ih (.cons r .nil)
/-! ### a def of the top, called with its keywords in the other order -/
structure CalR (P : Program) (w : World) (K : PySem.W.Frag) (mg : Str → Option Value) (base : Heap) (x : Str) (k : Nat) (ps : List Str) (sp : Sp) : Prop where
  ex : ∃ (f : Addr) (fd : FuncData), mg x = some (.ref f) ∧ PySem.W.keepIn K (.ref f) = true ∧ (∀ (s : Shared) (us : List Value), us.length = ps.length → BindsTo s fd ⟨[], ps.reverse.zip us⟩ (ps.zip us.reverse)) ∧ FnOk P w K mg base CX0 k f fd ps sp
section
variable {X : Cx} {x : Str} {k : Nat} {ps : List Str} {sp : Sp} {p pos : Pos} {e : Expr} {es : List Expr} {kws : List Keyword} {t : TA}
def tCalR (n : Nat) (sp : Sp) (tk : TA) : TE := fun σ H Q => tk σ H fun zs H2 => zs.length = n ∧ sp zs.reverse H2 Q E0
theorem pe_wr (C : CalR X.prog X.w X.K X.mg X.base x k ps sp) (hr : Room k X.A) (hg : Gl X x) (hkw : PK X kws t) (hall : (backToKw pos (keywordEach kws X.env)).all (·.1.isSome) = true := by rfl)
    (hks : (backToKw pos (keywordEach kws X.env)).filterMap (·.1) = ps.reverse := by rfl) (hdb : (x == ("__debug__" : Str)) = false := by decide)
    (hpl : ((backTo pos (starEach [] X.env)).any (·.1) || (backToKw pos (keywordEach kws X.env)).any (·.1.isNone)) = false := by rfl) : PE X (.Call (.Name x p) [] kws pos) (tCalR ps.length sp t) := by
  obtain ⟨f, fd, hm, kp, b, G⟩ := C.ex
  refine ⟨fun pins s σ H Q I h => ?_⟩
  refine wpAny_Call_Name_kw (ld_glob I hg hm ?_ hdb)
  refine PySem.W.callWith_KW0 (h₀ := X.base) I.ok.mod.kin kp hall (thn (hkw.run pos pins s σ H _ I h) fun ws s2 ⟨zs, H2, I2, rz, l2, q2⟩ => ⟨I2.kIn, ?_⟩) hpl
  rw [hks]
  have lw : ws.length = ps.length := rz.length.symm.trans l2
  refine wpAny_call (codeAny_mono (G.run X.A X.stack s2 H2 ⟨[], ps.reverse.zip ws⟩ ws.reverse zs.reverse Q E0 hr I2.env0 (b s2 ws lw) (vals_rev rz) q2) fun r s' hq => ?_)
  cases r with
  | error e => exact pass0 pins σ H2 s2 e s' I2 hq
  | ok fl =>
    cases fl with
    | ret u => exact I2.after hq
    | next => exact False.elim hq
    | brk => exact False.elim hq
    | cont => exact False.elim hq
end
section
variable {P : Program} {w : World} {K : PySem.W.Frag} {mg : Str → Option Value} {base : Heap}
def BKR (x : Str) (st : Stmt) (ps : List Str) : Prop := ∀ (kV doc pm : Value) (an : Option Addr) (cdv ct : Value) (us : List Value), us.length = ps.length → bindArgs (PySem.W.fnOf x x (defArgs st) (defBody st) (defScope st) .none kV doc pm an cdv ct) ⟨[], ps.reverse.zip us⟩ = pure (ps.zip us.reverse)
end
end SD
namespace SD
open PySem L2
def prts : Cn → List Cn
  | .no c => [c]
  | .an a b => [a, b]
  | .oo a b => [a, b]
  | _ => []
theorem prts_dp {c d : Cn} (h : d ∈ prts c) : dpC d < dpC c := by
  cases c <;> simp [prts] at h
  · subst h; simp only [dpC]; omega
  · rcases h with h | h <;> subst h <;> simp only [dpC] <;> omega
  · rcases h with h | h <;> subst h <;> simp only [dpC] <;> omega
theorem prts_len (c : Cn) : (prts c).length ≤ 2 := by cases c <;> simp [prts]
theorem prts_rep {K : PySem.W.Frag} {H : Hp} {x : V} {c : Cn} (h : Rep K H x (dC c)) (hn : ∀ o a b, c ≠ .cmp o a b) : ∃ a xs, x = .ref a ∧ SqT K H a (.str (wC c) :: xs) ∧ CL K H xs (prts c) := by
  cases c with
  | tt => obtain ⟨a, rfl, ha⟩ := repTT h; exact ⟨a, [], rfl, ha, .nil⟩
  | ff => obtain ⟨a, rfl, ha⟩ := repFF h; exact ⟨a, [], rfl, ha, .nil⟩
  | cmp o s t => exact absurd rfl (hn o s t)
  | no c => obtain ⟨a, x1, rfl, ha, r1⟩ := repNo h; exact ⟨a, [x1], rfl, ha, .cons r1 .nil⟩
  | an c d => obtain ⟨a, x1, x2, rfl, ha, r1, r2⟩ := repAn h; exact ⟨a, [x1, x2], rfl, ha, .cons r1 (.cons r2 .nil)⟩
  | oo c d => obtain ⟨a, x1, x2, rfl, ha, r1, r2⟩ := repOo h; exact ⟨a, [x1, x2], rfl, ha, .cons r1 (.cons r2 .nil)⟩
theorem ren_rep {K : PySem.W.Frag} {H : Hp} {a : Addr} {xs : List V} {nm : List (Str × Str)} {c : Cn} (hs : SqT K H a (.str (wC c) :: xs)) (hr : CL K H xs ((prts c).map (renC nm))) (hn : ∀ o a b, c ≠ .cmp o a b) : Rep K H (.ref a) (dC (renC nm c)) := by
  have hl : (V.str (wC c) :: xs).length ≤ 100000 := by
    have := hr.len
    have h2 := prts_len c
    simp only [List.length_map] at this
    simp only [List.length_cons]
    omega
  cases c with
  | tt => exact Rep.tup hs hl (.cons (.sc rfl) hr)
  | ff => exact Rep.tup hs hl (.cons (.sc rfl) hr)
  | cmp o s t => exact absurd rfl (hn o s t)
  | no c => exact Rep.tup hs hl (.cons (.sc rfl) hr)
  | an c d => exact Rep.tup hs hl (.cons (.sc rfl) hr)
  | oo c d => exact Rep.tup hs hl (.cons (.sc rfl) hr)
theorem wC_cmp {c : Cn} (hn : ∀ o a b, c ≠ .cmp o a b) : decide (wC c = "compare") = false := by
  cases c with
  | cmp o s t => exact absurd rfl (hn o s t)
  | tt => exact (by decide +kernel : decide (("true" : Str) = "compare") = false)
  | ff => exact (by decide +kernel : decide (("false" : Str) = "compare") = false)
  | no c => exact (by decide +kernel : decide (("not" : Str) = "compare") = false)
  | an c d => exact (by decide +kernel : decide (("and" : Str) = "compare") = false)
  | oo c d => exact (by decide +kernel : decide (("or" : Str) = "compare") = false)
theorem cut1V (w : V) (ps : List V) : cutV (w :: ps) (some 1) none = ps := by
  unfold cutV
  rw [HT.sIx_none, show ((1 : Int)) = ((1 : Nat) : Int) from rfl, HT.sIx_nat]
  simp
theorem cutTo1 (w : V) (ps : List V) : cutV (w :: ps) none (some 1) = [w] := by
  unfold cutV
  rw [HT.sIx_none, show ((1 : Int)) = ((1 : Nat) : Int) from rfl, HT.sIx_nat]
  simp
theorem cutTo2 (a b c d : V) : cutV [a, b, c, d] none (some 2) = [a, b] := by
  unfold cutV
  rw [HT.sIx_none, show ((2 : Int)) = ((2 : Nat) : Int) from rfl, HT.sIx_nat]
  simp
theorem cut2V (a b c d : V) : cutV [a, b, c, d] (some 2) none = [c, d] := by
  unfold cutV
  rw [HT.sIx_none, show ((2 : Int)) = ((2 : Nat) : Int) from rfl, HT.sIx_nat]
  simp
theorem ren_take {cs : List Cn} {i : Nat} {d : Cn} (f : Cn → Cn) (h : cs[i]? = some d) : (cs.take (i + 1)).map f = (cs.take i).map f ++ [f d] := by
  rw [List.take_succ, h]; simp
end SD
namespace SD
open PySem L2
def spMetT (K : PySem.W.Frag) : Sp := fun vs H Q _ => ∃ st c la va ls ws, vs = [.ref st, .ref la, .ref va] ∧ StoC st c H ∧ True ∧ va ≠ st ∧ SqT K H la ls ∧ SqL K H va ws ∧ ls.length ≤ 1000 ∧ ws.length ≤ 100000 ∧ (∀ v ∈ ws, Sc v) ∧
  ∀ p xs H', Ext st c H H' → SqT K H' p xs → xs.length = ls.length → (∀ v ∈ xs, Sc v) → Q (.ref p) H'
theorem repStrs {K : PySem.W.Frag} {H : Hp} : ∀ ls : List Str, RepAll K H (ls.map V.str) (ls.map fun l => D.sc (.str l))
  | [] => .nil
  | l :: ls => .cons (.sc rfl) (repStrs ls)
theorem depStrs : ∀ ls : List Str, depAll (ls.map fun l => D.sc (.str l)) = 0
  | [] => rfl
  | l :: ls => by simp only [List.map_cons, depAll, dep, depStrs ls]; rfl
theorem inV_str (l : Str) : ∀ acc : List Str, inV (.str l) (acc.map V.str) = decide (l ∈ acc)
  | [] => by simp [inV]
  | m :: acc => by
    have ih := inV_str l acc
    unfold inV at ih ⊢
    rw [List.map_cons, List.any_cons, ih]
    show ((m == l) || _) = _
    by_cases e : m = l
    · subst e; simp
    · have : ¬ l = m := fun z => e z.symm
      simp [e, this]
theorem flat_str (acc : List Str) : (acc.map V.str).all flatV = true := by
  rw [List.all_map]; exact List.all_eq_true.mpr fun _ _ => rfl
theorem put_N (l m : Str) (nm : List (Str × Str)) : ∃ nm', putK (kvN nm) (.inr l) (.str m) = kvN nm' ∧ nm'.length ≤ nm.length + 1 := by
  unfold putK
  split
  · refine ⟨nm.map fun p => if p.1 = l then (p.1, m) else p, ?_, by simp⟩
    unfold kvN
    rw [List.map_map, List.map_map]
    refine List.map_congr_left fun p _ => ?_
    by_cases e : p.1 = l
    · simp [e]
    · have : ¬ (Sum.inr p.1 : Key) = Sum.inr l := fun z => e (by injection z)
      simp [e, this]
  · exact ⟨nm ++ [(l, m)], by simp [kvN], by simp⟩
def dN (nm : List (Str × Str)) : List D := nm.map fun p => .tup [.sc (.str p.1), .sc (.str p.2)]
theorem dep_N : ∀ nm, depAll (dN nm) ≤ 1
  | [] => by simp [dN, depAll]
  | p :: nm => by
    have := dep_N nm
    show max (dep (.tup [.sc (.str p.1), .sc (.str p.2)])) (depAll (dN nm)) ≤ 1
    simp only [dep, depAll]
    omega
theorem rep_N {K : PySem.W.Frag} {H : Hp} : ∀ {ts : List Addr} {nm : List (Str × Str)}, Paired (fun (t : Addr) (q : Key × V) => H t = some (.tup [kV q.1, q.2])) ts (kvN nm) → RepAll K H (ts.map V.ref) (dN nm)
  | [], [], _ => .nil
  | t :: ts, p :: nm, h => by
    cases h with
    | cons h1 h2 => exact .cons (Rep.mk h1 (by simp) (.cons (.sc rfl) (.cons (.sc rfl) .nil))) (rep_N h2)
  | [], _ :: _, h => by cases h
  | _ :: _, [], h => by cases h
theorem lb_in {ls : List Str} : ∀ {c : Cn}, gC ls c → gC (ls ++ [w]) c := by
  intro c
  have ht : ∀ t, gT ls t → gT (ls ++ [w]) t := fun t h => by cases t <;> first | exact List.mem_append_left _ h | exact h
  induction c with
  | tt => intro h; exact h
  | ff => intro h; exact h
  | cmp o a b => intro h; exact ⟨ht _ h.1, ht _ h.2⟩
  | no c ih => intro h; exact ih h
  | an a b i j => intro h; exact ⟨i h.1, j h.2⟩
  | oo a b i j => intro h; exact ⟨i h.1, j h.2⟩
theorem gC_sub {ls ms : List Str} (hs : ∀ l ∈ ls, l ∈ ms) : ∀ {c : Cn}, gC ls c → gC ms c := by
  intro c
  have ht : ∀ t, gT ls t → gT ms t := fun t h => by cases t <;> first | exact hs _ h | exact h
  induction c with
  | tt => intro h; exact h
  | ff => intro h; exact h
  | cmp o a b => intro h; exact ⟨ht _ h.1, ht _ h.2⟩
  | no c ih => intro h; exact ih h
  | an a b i j => intro h; exact ⟨i h.1, j h.2⟩
  | oo a b i j => intro h; exact ⟨i h.1, j h.2⟩
theorem perm_strs {ys : List V} {ls : List Str} (h : ys.Perm (ls.map V.str)) : ∃ ms : List Str, ys = ms.map V.str ∧ ms.length = ls.length ∧ ∀ l ∈ ls, l ∈ ms := by
  refine ⟨ys.filterMap fun v => match v with | .str s => some s | _ => none, ?_, ?_, ?_⟩
  · have : ∀ y ∈ ys, ∃ s, y = .str s := fun y hy => by
      have := h.mem_iff.mp hy
      obtain ⟨s, _, e⟩ := List.mem_map.mp this
      exact ⟨s, e.symm⟩
    clear h
    induction ys with
    | nil => rfl
    | cons y ys ih =>
      obtain ⟨s, rfl⟩ := this y (List.mem_cons_self ..)
      rw [List.filterMap_cons]
      simp only [List.map_cons]
      rw [← ih fun z hz => this z (List.mem_cons_of_mem _ hz)]
  · have := (h.filterMap fun v => match v with | .str s => some s | _ => none).length_eq
    rw [this, List.filterMap_map]
    have : ((fun v : V => match v with | .str s => some s | _ => none) ∘ V.str) = some := rfl
    rw [this, List.filterMap_some]
  · intro l hl
    rw [List.mem_filterMap]
    exact ⟨.str l, h.mem_iff.mpr (List.mem_map.mpr ⟨l, hl, rfl⟩), rfl⟩
end SD
namespace SD
open PySem L2
theorem calR_of {P : Program} {w : World} {K : PySem.W.Frag} {mg : Str → Option Value} {base : Heap} {x : Str} {st : Stmt} {f : Addr} {fd : FuncData} {k : Nat} {ps : List Str} {sp : Sp} (F : Fun K x x st f fd) (hm : mg x = some (.ref f))
    (bk : BKR x st ps) (G : FnOk P w K mg base CX0 k f fd ps sp) : CalR P w K mg base x k ps sp := by
  refine ⟨f, fd, hm, F.kp, fun s us hl => ?_, G⟩
  obtain ⟨oc, od, kV, doc, pm, an, cdv, ct, osl, rfl, lk, hcd⟩ := F.ex
  exact .of_eq (bk kV doc pm an cdv ct us hl)
end SD
namespace SD
open PySem L2
theorem small1000' {n : Nat} (h : n ≤ 100000) : n < sizeLine := Nat.lt_of_le_of_lt h (by decide)
end SD
namespace SD
open PySem L2
theorem leT' {n : Nat} (h : n ≤ 100000) : n ≤ sizeLine := Nat.le_trans h (by decide)
end SD
namespace SD
open PySem L2
/-! ### limits of a label (law k09, under way) -/
/-- a comparison of a column and a value: sw tells that the value stands first -/
def spLimit (K : PySem.W.Frag) : Sp := fun vs H Q _ => ∃ (x : V) (o : Op) (l : Str) (v : V) (sw : Bool), vs = [x] ∧ Rep K H x (dC (if sw then .cmp o (.val v) (.col l) else .cmp o (.col l) (.val v))) ∧
  ∀ p H', Same H H' → H' p = some (.tup [.str (opS (if sw then flp o else o)), v]) → Q (.ref p) H'
end SD
namespace SD
open PySem L2
section
variable {X : Cx}
/-- == of two tuples of scalars, place by place -/
def eqF (xs ys : List V) : Bool := ((List.range (min xs.length ys.length)).all fun j => eqV (xs.getD j .non) (ys.getD j .non)) && xs.length == ys.length
def rEqF (K : PySem.W.Frag) : R2 := fun x y H Q => ∃ a b xs ys, x = .ref a ∧ y = .ref b ∧ SqT K H a xs ∧ SqT K H b ys ∧ xs.all flatV = true ∧ ys.all flatV = true ∧ Q (.bl (eqF xs ys)) H
theorem vals_at : ∀ {xs : List V} {us : List Value} (j : Nat) (h : j < us.length), Vals xs us → RelV (xs.getD j .non) us[j] ∧ (xs.getD j .non) ∈ xs
  | x :: xs, u :: us, 0, _, .cons r _ => ⟨r, List.mem_cons_self ..⟩
  | x :: xs, u :: us, j + 1, h, .cons _ r => by
    have := vals_at (xs := xs) (us := us) j (by simpa using h) r
    exact ⟨this.1, List.mem_cons_of_mem _ this.2⟩
  | [], us, j, h, r => by cases r; simp at h
theorem op_eqF (hu : X.A.units < cLine) : OpR X (compareOp .Eq) (rEqF X.K) := by
  intro pins s σ H x y v u Q I rx ry h
  obtain ⟨a, b, xs, ys, rfl, rfl, ha, hb, fx, fy, k⟩ := h
  cases rx
  cases ry
  obtain ⟨its, r1, p1, _⟩ := I.tuple ha
  obtain ⟨its2, r2, p2, _⟩ := I.tuple hb
  have l1 := r1.length
  have l2 := r2.length
  refine SeqAt.eq_tupleAt (e := fun j => eqV (xs.getD j .non) (ys.getD j .non)) p1 p2 hu (fun j h1 h2 => ?_) ⟨.bl _, H, I, rfl, ?_⟩
  · simp only [List.size_toArray] at h1 h2
    have q1 := vals_at j h1 r1
    have q2 := vals_at j h2 r2
    have := eqAt_V (A := X.A.in1) (s := s) q1.1 q2.1 (List.all_eq_true.mp fx _ q1.2) (List.all_eq_true.mp fy _ q2.2)
    simpa using this
  · simp only [List.size_toArray, ← l1, ← l2]
    exact k
end
def isLim (l : Str) : Cn → Bool
  | .cmp _ (.col m) (.val _) => decide (m = l)
  | .cmp _ (.val _) (.col m) => decide (m = l)
  | _ => false
def spIsLimit (K : PySem.W.Frag) : Sp := fun vs H Q _ => ∃ x c l, vs = [x, .str l] ∧ Rep K H x (dC c) ∧ ∀ H', Same H H' → Q (.bl (isLim l c)) H'
theorem sc_flat {v : V} (h : isSc v = true) : flatV v = true := by cases v <;> first | rfl | exact h
theorem eqF_T (t : Tm) (l : Str) : eqF [.str (wT t), uT t] [.str "column", .str l] = (match t with | .col m => decide (m = l) | .val _ => false) := by
  cases t with
  | col m =>
    show (([0, 1] : List Nat).all _ && _) = _
    have e1 : eqV (.str "column") (.str "column") = true := by decide +kernel
    have e2 : eqV (.str m) (.str l) = decide (m = l) := by show (m == l) = _; by_cases e : m = l <;> simp [e]
    simp [wT, uT, e1, e2]
  | val v =>
    show (([0, 1] : List Nat).all _ && _) = _
    have e1 : eqV (.str "value") (.str "column") = false := by decide +kernel
    simp [wT, uT, e1]
end SD
namespace SD
open PySem L2
def top (i : Nat) : Stmt := PySem.Challenge.pw_storedesk_k08_folded_conditions.main.body.getD i (.Pass ⟨0, 0, 0, 0⟩)
abbrev st_kind_of : Stmt := top 1
abbrev st_sort_key : Stmt := top 2
abbrev st_compare : Stmt := top 3
abbrev st__order : Stmt := top 4
abbrev st_same : Stmt := top 5
abbrev st_compared : Stmt := top 9
abbrev st_holds : Stmt := top 10
abbrev st__worth : Stmt := top 11
abbrev st_folded : Stmt := top 12
abbrev st__folded_comparison : Stmt := top 13
abbrev st__constant : Stmt := top 14
abbrev st__flipped : Stmt := top 15
abbrev st__folded_not : Stmt := top 16
abbrev st__folded_pair : Stmt := top 17
abbrev st__law_mix : Stmt := top 19
abbrev st__law_store : Stmt := top 20
abbrev st__law_take : Stmt := top 21
abbrev st__law_odds : Stmt := top 22
abbrev st__law_count : Stmt := top 23
abbrev st__law_one : Stmt := top 24
abbrev st__law_number : Stmt := top 25
abbrev st__law_text : Stmt := top 26
abbrev st__law_value : Stmt := top 27
abbrev st__law_near : Stmt := top 28
abbrev st__law_name : Stmt := top 29
abbrev st__law_label : Stmt := top 30
abbrev st__law_same : Stmt := top 31
abbrev st__law_sort_key : Stmt := top 32
abbrev st__law_leaf : Stmt := top 33
abbrev st__law_condition : Stmt := top 34
abbrev st__law_worth : Stmt := top 35
abbrev st__law_holds : Stmt := top 36
abbrev st__law_unlike_labels : Stmt := top 37
abbrev st__law_constants : Stmt := top 38
abbrev st__law_met_row : Stmt := top 39
abbrev st__law_folding : Stmt := top 40
abbrev st__law_folded_leaf : Stmt := top 41
abbrev st__law_fold : Stmt := top 42
abbrev st_law : Stmt := top 43
end SD
namespace SD
open PySem L2
section
variable {P : Program} {w : World} {K : PySem.W.Frag} {mg : Str → Option Value} {base : Heap} {f : Addr} {fd : FuncData}
theorem sc_kind_of : FnScope ["value"] ["value"] (defScope st_kind_of) := ⟨rfl, rfl, rfl, by decide +kernel, rfl, by decide +kernel, by decide +kernel⟩
theorem ok_kind_of (F : Fun K "kind_of" "kind_of" st_kind_of f fd) (T : Tx mg) : FnOk P w K mg base CX0 1 f fd ["value"] spKind := by
  refine F.ok sc_kind_of (fun vs H Q E h => ?_) (fun cdv A outer s H vs Q E hr h => ?_)
  · obtain ⟨v, rfl, _⟩ := h
    rfl
  · obtain ⟨v, rfl, hv, k⟩ := h
    refine ⟨_, pss_cons (ps_if (pt_cmpR op_isN (pv 0) pe_non (nomark _)) (pss_one (ps_ret pe_str)) pss_nil)
      (pss_cons (ps_if (PW.pt (pw_or (pt_cmpR op_isSB (pv 0) pe_bl (nomark _)) (pw_or1 (pt_cmpR op_isSB (pv 0) pe_bl (nomark _))))) (pss_one (ps_ret pe_str)) pss_nil)
      (pss_cons (ps_if (pt_val (pe_callB (call_isN (T := "int")) (by rfl) T.isi PyProof.Rows.boot_isinstance (pa_cons (pv 0) (pa_cons (pe_bltn (v := .ty "int") (by rfl) T.int PyProof.Rows.boot_int rfl) pa_nil)))) (pss_one (ps_ret pe_str)) pss_nil)
      (pss_one (ps_ret pe_str)))), ?_⟩
    refine ⟨_, rfl, rfl, _, rfl, ?_⟩
    cases v with
    | non => exact k
    | bl b =>
      refine ⟨_, rfl, true, rfl, rfl, _, rfl, ?_⟩
      cases b with
      | true => exact k
      | false => exact ⟨_, rfl, false, rfl, rfl, _, rfl, k⟩
    | int i =>
      refine ⟨_, rfl, true, rfl, rfl, _, rfl, ?_⟩
      refine ⟨_, rfl, false, rfl, rfl, _, rfl, ?_⟩
      exact ⟨_, rfl, _, _, true, rfl, .int i, by decide +kernel, true, rfl, k⟩
    | str i =>
      refine ⟨_, rfl, true, rfl, rfl, _, rfl, ?_⟩
      refine ⟨_, rfl, false, rfl, rfl, _, rfl, ?_⟩
      exact ⟨_, rfl, _, _, false, rfl, .str i, by decide +kernel, false, rfl, k⟩
    | byt _ => cases hv
    | flt _ => cases hv
    | ref _ => cases hv
    | ty _ => cases hv
end
end SD
namespace SD
open PySem L2
section
variable {P : Program} {w : World} {K : PySem.W.Frag} {mg : Str → Option Value} {base : Heap} {f : Addr} {fd : FuncData}
theorem sc_sort_key : FnScope ["value", "kind"] ["value"] (defScope st_sort_key) := ⟨rfl, rfl, rfl, by decide +kernel, rfl, by decide +kernel, by decide +kernel⟩
theorem ok_sort_key (F : Fun K "sort_key" "sort_key" st_sort_key f fd) (T : Tx mg) (c1 : Cal P w K mg base "kind_of" 1 ["value"] spKind) : FnOk P w K mg base CX0 2 f fd ["value"] spKey := by
  refine F.ok sc_sort_key (fun vs H Q E h => ?_) (fun cdv A outer s H vs Q E hr h => ?_)
  · obtain ⟨v, rfl, _⟩ := h
    rfl
  · obtain ⟨v, rfl, hv, k⟩ := h
    refine ⟨_, pss_cons (ps_set (i := 1) sc_sort_key.nd rfl (Or.inl rfl) (pe_c c1 hr rfl (pa_cons (pv 0) pa_nil)))
      (pss_cons (ps_if (pt_cmpR op_eq (pv 1) pe_str (nomark _)) (pss_one (ps_ret (pe_tup (pa_cons pe_int (pa_cons pe_int pa_nil))))) pss_nil)
      (pss_cons (ps_if (pt_cmpR op_eq (pv 1) pe_str (nomark _)) (pss_one (ps_ret (pe_tup (pa_cons pe_int (pa_cons (pe_ifExp (pt_val (pv 0)) pe_int pe_int) pa_nil))))) pss_nil)
      (pss_cons (ps_if (pt_cmpR op_eq (pv 1) pe_str (nomark _)) (pss_one (ps_ret (pe_tup (pa_cons pe_int (pa_cons (pv 0) pa_nil))))) pss_nil)
      (pss_one (ps_ret (pe_tup (pa_cons pe_int (pa_cons (pv 0) pa_nil)))))))), ?_⟩
    refine ⟨_, rfl, v, rfl, hv, ?_⟩
    refine ⟨_, rfl, rfl, ?_⟩
    have fin : ∀ a b : V, sk v = [a, b] → ∀ p, H p = none → Q (.ref p) (upd H p (.tup [a, b])) := fun a b e p hp => k p _ hp (Same.new hp) (by rw [e]; exact upd_same)
    cases v with
    | non => exact ⟨true, by decide +kernel, by show 2 ≤ sizeLine; decide, fun p hp => fin _ _ rfl p hp⟩
    | bl b =>
      refine ⟨false, strB "truth" "none" _ (by decide +kernel), _, rfl, rfl, true, strB "truth" "truth" _ (by decide +kernel), _, rfl, b, rfl, ?_⟩
      cases b with
      | true => exact ⟨by show 2 ≤ sizeLine; decide, fun p hp => fin _ _ rfl p hp⟩
      | false => exact ⟨by show 2 ≤ sizeLine; decide, fun p hp => fin _ _ rfl p hp⟩
    | int i => exact ⟨false, strB "number" "none" _ (by decide +kernel), _, rfl, rfl, false, strB "number" "truth" _ (by decide +kernel), _, rfl, rfl, true, strB "number" "number" _ (by decide +kernel), _, rfl, by show 2 ≤ sizeLine; decide, fun p hp => fin _ _ rfl p hp⟩
    | str i => exact ⟨false, strB "text" "none" _ (by decide +kernel), _, rfl, rfl, false, strB "text" "truth" _ (by decide +kernel), _, rfl, rfl, false, strB "text" "number" _ (by decide +kernel), _, rfl, by show 2 ≤ sizeLine; decide, fun p hp => fin _ _ rfl p hp⟩
    | byt _ => cases hv
    | flt _ => cases hv
    | ref _ => cases hv
    | ty _ => cases hv
end
end SD
namespace SD
open PySem L2
section
variable {P : Program} {w : World} {K : PySem.W.Frag} {mg : Str → Option Value} {base : Heap} {f : Addr} {fd : FuncData}
theorem sc__order : FnScope ["left", "right"] ["left", "right"] (defScope st__order) := ⟨rfl, rfl, rfl, by decide +kernel, rfl, by decide +kernel, by decide +kernel⟩
theorem ok__order (F : Fun K "_order" "_order" st__order f fd) : FnOk P w K mg base CX0 1 f fd ["left", "right"] (spOrder K) := by
  refine F.ok sc__order (fun vs H Q E h => ?_) (fun cdv A outer s H vs Q E hr h => ?_)
  · obtain ⟨a, b, v, u, rfl, _⟩ := h
    rfl
  · obtain ⟨a, b, v, u, rfl, hv, hu, ha, hb, k⟩ := h
    have u0 := hr.units0
    refine ⟨_, pss_cons (ps_if (pt_cmpR (op_eqK u0) (pv 0) (pv 1) (nomark _)) (pss_one (ps_ret pe_int)) pss_nil)
      (pss_one (ps_ret (pe_ifExp (pt_cmpR (op_ltK u0) (pv 0) (pv 1) (nomark _)) (pe_un un_neg pe_int) pe_int))), ?_⟩
    refine ⟨_, rfl, _, rfl, a, b, v, u, rfl, rfl, hv, hu, ha, hb, decide (v = u), rfl, ?_⟩
    unfold ordV at k
    by_cases e : v = u
    · rw [if_pos e] at k
      rw [decide_eq_true e]
      exact iteT k
    · rw [if_neg e] at k
      rw [decide_eq_false e]
      refine iteF ⟨_, rfl, _, rfl, a, b, v, u, rfl, rfl, hv, hu, ha, hb, keyLt v u, rfl, ?_⟩
      cases q : keyLt v u with
      | true =>
        rw [q, if_pos rfl] at k
        exact iteT ⟨_, rfl, k⟩
      | false =>
        rw [q, if_neg (by decide)] at k
        exact iteF k
end
end SD
namespace SD
open PySem L2
section
variable {P : Program} {w : World} {K : PySem.W.Frag} {mg : Str → Option Value} {base : Heap} {f : Addr} {fd : FuncData}
theorem sc_compare : FnScope ["left", "right"] ["left", "right"] (defScope st_compare) := ⟨rfl, rfl, rfl, by decide +kernel, rfl, by decide +kernel, by decide +kernel⟩
theorem ok_compare (F : Fun K "compare" "compare" st_compare f fd) (c1 : Cal P w K mg base "sort_key" 2 ["value"] spKey) (c2 : Cal P w K mg base "_order" 1 ["left", "right"] (spOrder K)) : FnOk P w K mg base CX0 3 f fd ["left", "right"] spCompare := by
  refine F.ok sc_compare (fun vs H Q E h => ?_) (fun cdv A outer s H vs Q E hr h => ?_)
  · obtain ⟨v, u, rfl, _⟩ := h
    rfl
  · obtain ⟨v, u, rfl, hv, hu, k⟩ := h
    refine ⟨_, pss_one (ps_ret (pe_c c2 (hr.mono (by decide)) rfl (pa_cons (pe_c c1 hr rfl (pa_cons (pv 0) pa_nil)) (pa_cons (pe_c c1 hr rfl (pa_cons (pv 1) pa_nil)) pa_nil)))), ?_⟩
    refine ⟨_, rfl, v, rfl, hv, fun p H1 np s1 h1 => ⟨_, rfl, u, rfl, hu, fun q H2 nq s2 h2 => ?_⟩⟩
    exact ⟨p, q, v, u, rfl, hv, hu, SqT.of (s2 _ _ h1), SqT.of h2, k _ (s1.trans s2)⟩
end
end SD
namespace SD
open PySem L2
section
variable {P : Program} {w : World} {K : PySem.W.Frag} {mg : Str → Option Value} {base : Heap} {f : Addr} {fd : FuncData}
theorem sc_same : FnScope ["left", "right", "one", "other"] ["left", "right"] (defScope st_same) := ⟨rfl, rfl, rfl, by decide +kernel, rfl, by decide +kernel, by decide +kernel⟩
theorem ok_same (F : Fun K "same" "same" st_same f fd) (T : Tx mg) (hm : mg "same" = some (.ref f)) (b : Binds K fd ["left", "right"] [])
    (bk : BK "same" st_same ["left", "right"])
    (c_sort_key : Cal P w K mg base "sort_key" 2 ["value"] spKey) : ∀ n : Nat, FnOk P w K mg base CX0 (n + 4) f fd ["left", "right"] (spSame K n)
  | 0 => by
    refine F.ok (k := 3) sc_same (fun vs H Q E h => ?_) (fun cdv A outer s H vs Q E hr h => ?_)
    · obtain ⟨x, y, d, e, rfl, _⟩ := h
      rfl
    · obtain ⟨x, y, d, e, rfl, _, _, h0, _⟩ := h
      exact absurd h0 (Nat.not_lt_zero _)
  | n + 1 => by
    have c_same : Cal P w K mg base "same" (n + 4) ["left", "right"] (spSame K n) := cal_of F hm b bk (ok_same F T hm b bk c_sort_key n)
    refine F.ok (k := n + 4) sc_same (fun vs H Q E h => ?_) (fun cdv A outer s H vs Q E hr h => ?_)
    · obtain ⟨x, y, d, e, rfl, _⟩ := h
      rfl
    · obtain ⟨x, y, d, e, rfl, rx, ry, hd, k⟩ := h
      have u0 := hr.units0
      have hr2 : Room 2 _ := hr.mono (by omega)
      refine ⟨_, (pss_cons (ps_if (pt_cmpR op_ne (pe_callB (call_isN (T := "tuple")) (by rfl) T.isi PyProof.Rows.boot_isinstance (pa_cons (pv 0) (pa_cons (pe_bltn (v := .ty "tuple") (by rfl) T.tup PyProof.Rows.boot_tuple rfl) pa_nil))) (pe_callB (call_isN (T := "tuple")) (by rfl) T.isi PyProof.Rows.boot_isinstance (pa_cons (pv 1) (pa_cons (pe_bltn (v := .ty "tuple") (by rfl) T.tup PyProof.Rows.boot_tuple rfl) pa_nil))) (nomark _)) (pss_one (ps_ret pe_bl)) pss_nil) (pss_cons (ps_if (pt_not (pt_val (pe_callB (call_isN (T := "tuple")) (by rfl) T.isi PyProof.Rows.boot_isinstance (pa_cons (pv 0) (pa_cons (pe_bltn (v := .ty "tuple") (by rfl) T.tup PyProof.Rows.boot_tuple rfl) pa_nil))))) (pss_one (ps_ret (pe_cmpR (op_eqK u0) (pe_c c_sort_key hr2 rfl (pa_cons (pv 0) pa_nil)) (pe_c c_sort_key hr2 rfl (pa_cons (pv 1) pa_nil)) (nomark _)))) pss_nil) (pss_cons (ps_if (pt_cmpR op_ne (pe_callB call_len_seq (by rfl) T.len PySem.boot_len (pa_cons (pv 0) pa_nil)) (pe_callB call_len_seq (by rfl) T.len PySem.boot_len (pa_cons (pv 1) pa_nil)) (nomark _)) (pss_one (ps_ret pe_bl)) pss_nil) (pss_cons (ps_for PassesOwn.never rfl (RZ.pi_zipA (by rfl) T.zip (pa_cons (pv 0) (pa_cons (pv 1) pa_nil))) (pg_tup rfl (pgs_cons (pg_name (i := 2) sc_same.nd rfl (Or.inl rfl)) (pgs_cons (pg_name (i := 3) sc_same.nd rfl (Or.inl rfl)) pgs_nil))) (pss_one (ps_if (pt_not (pt_val (pe_c c_same hr rfl (pa_cons (pv 2) (pa_cons (pv 3) pa_nil))))) (pss_one (ps_ret pe_bl)) pss_nil))) (pss_one (ps_ret pe_bl)))))), ?_⟩
      obtain ⟨tx, hx1, hx2⟩ := rep_ty rx
      obtain ⟨ty, hy1, hy2⟩ := rep_ty ry
      refine ⟨_, rfl, _, _, _, rfl, hx1, hx2, _, rfl, _, _, _, rfl, hy1, hy2, rfl, _, rfl, ?_⟩
      cases rx with
      | sc hv =>
        cases ry with
        | tup h2 z2 r2 => exact k H (Same.refl H)
        | sc hw =>
          refine ⟨_, rfl, _, _, _, rfl, hx1, hx2, false, rfl, ?_⟩
          refine ⟨_, rfl, x, rfl, hv, fun p H1 np s1 h1 => ⟨_, rfl, y, rfl, hw, fun q H2 nq s2 h2 => ?_⟩⟩
          exact ⟨p, q, x, y, rfl, rfl, hv, hw, SqT.of (s2 _ _ h1), SqT.of h2, k _ (s1.trans s2)⟩
      | @tup a xs ds h1 z1 r1 =>
        cases ry with
        | sc hw => exact k H (Same.refl H)
        | @tup b2 ys es h2 z2 r2 =>
          refine ⟨_, rfl, _, _, _, rfl, hx1, hx2, true, rfl, ?_⟩
          refine ⟨_, rfl, a, xs, rfl, .inr h1, _, rfl, b2, ys, rfl, .inr h2, rfl, _, rfl, ?_⟩
          by_cases hl : xs.length = ys.length
          · have e1 : (!decide (V.int (xs.length : Int) = V.int (ys.length : Int))) = false := by rw [hl]; simp
            rw [e1]
            refine iteF ?_
            have hds : ds.length = es.length := by rw [← r1.len, ← r2.len, hl]
            refine ⟨_, rfl, _, rfl, a, b2, xs, ys, rfl, .inr ⟨h1, h2, ?_⟩⟩
            refine RZ.for_zipT hl (fun i σ H' => ∃ o1 o2, σ = [some (.ref a), some (.ref b2), o1, o2] ∧ Same H H' ∧ ∀ (j : Nat) (d e : D), j < i → ds[j]? = some d → es[j]? = some e → sameD d e = true)
              ⟨none, none, rfl, Same.refl H, fun j d e hj => absurd hj (Nat.not_lt_zero _)⟩ (fun i σ H' ⟨_, _, _, s, _⟩ => ⟨SD.Same.seqT s h1, SD.Same.seqT s h2⟩) ?_ ?_
            · rintro i x2 y2 t σ H' hx hy ⟨o1, o2, rfl, s1, hall⟩ ht
              obtain ⟨d1, hd1, rd1⟩ := RepAll.at i r1 hx
              obtain ⟨d2, hd2, rd2⟩ := RepAll.at i r2 hy
              have s2 := s1.trans (Same.new (o := .tup [x2, y2]) ht)
              refine ⟨t, [x2, y2], rfl, SqT.of upd_same, rfl, _, _, rfl, _, _, rfl, rfl, ?_⟩
              have dd := depAll_at i hd1
              have hdd : depAll ds + 1 < n + 1 := hd
              refine ⟨_, rfl, _, rfl, x2, y2, d1, d2, rfl, rd1.same s2, rd2.same s2, by omega, fun H3 s3 => ⟨_, rfl, ?_⟩⟩
              cases q : sameD d1 d2 with
              | true =>
                refine ⟨_, _, rfl, s2.trans s3, fun j d e hj h3 h4 => ?_⟩
                by_cases ej : j = i
                · subst ej
                  rw [hd1] at h3; cases h3
                  rw [hd2] at h4; cases h4
                  exact q
                · exact hall j d e (by omega) h3 h4
              | false =>
                have : sameD (.tup ds) (.tup es) = false := by simp only [sameD]; exact sameAll_at i hd1 hd2 q
                rw [this] at k
                exact k _ (s2.trans s3)
            · rintro σ H' ⟨o1, o2, rfl, s1, hall⟩
              have : sameD (.tup ds) (.tup es) = true := by
                simp only [sameD]
                refine sameAll_all hds fun i d e h3 h4 => hall i d e ?_ h3 h4
                have := (List.getElem?_eq_some_iff.mp h3).1
                rw [r1.len]; exact this
              rw [this] at k
              exact k _ s1
          · have e1 : (!decide (V.int (xs.length : Int) = V.int (ys.length : Int))) = true := by
              have : ¬ V.int (xs.length : Int) = V.int (ys.length : Int) := fun z => hl (by injection z with z; exact Int.ofNat.inj z)
              simp [this]
            rw [e1]
            refine iteT ?_
            have : sameD (.tup ds) (.tup es) = false := by
              simp only [sameD]
              exact sameAll_len (by rw [← r1.len, ← r2.len]; exact hl)
            rw [this] at k
            exact k H (Same.refl H)
end
end SD
namespace SD
open PySem L2
section
variable {P : Program} {w : World} {K : PySem.W.Frag} {mg : Str → Option Value} {base : Heap} {f : Addr} {fd : FuncData}
theorem sc_compared : FnScope ["op", "left", "right", "order"] ["op", "left", "right"] (defScope st_compared) := ⟨rfl, rfl, rfl, by decide +kernel, rfl, by decide +kernel, by decide +kernel⟩
theorem ok_compared (F : Fun K "compared" "compared" st_compared f fd) (c_compare : Cal P w K mg base "compare" 3 ["left", "right"] spCompare) : FnOk P w K mg base CX0 4 f fd ["op", "left", "right"] spCompared := by
  refine F.ok sc_compared (fun vs H Q E h => ?_) (fun cdv A outer s H vs Q E hr h => ?_)
  · obtain ⟨o, v, u, rfl, _⟩ := h
    rfl
  · obtain ⟨o, v, u, rfl, hv, hu, k⟩ := h
    refine ⟨_, (pss_cons (ps_set (i := 3) sc_compared.nd rfl (Or.inl rfl) (pe_c c_compare hr rfl (pa_cons (pv 1) (pa_cons (pv 2) pa_nil)))) (pss_cons (ps_if (pt_cmpR op_eq (pv 0) pe_str (nomark _)) (pss_one (ps_ret (pe_cmpR op_eq (pv 3) pe_int (nomark _)))) pss_nil) (pss_cons (ps_if (pt_cmpR op_eq (pv 0) pe_str (nomark _)) (pss_one (ps_ret (pe_cmpR op_ne (pv 3) pe_int (nomark _)))) pss_nil) (pss_cons (ps_if (pt_cmpR op_eq (pv 0) pe_str (nomark _)) (pss_one (ps_ret (pe_cmpR op_lt (pv 3) pe_int (nomark _)))) pss_nil) (pss_cons (ps_if (pt_cmpR op_eq (pv 0) pe_str (nomark _)) (pss_one (ps_ret (pe_cmpR op_le (pv 3) pe_int (nomark _)))) pss_nil) (pss_cons (ps_if (pt_cmpR op_eq (pv 0) pe_str (nomark _)) (pss_one (ps_ret (pe_cmpR op_gt (pv 3) pe_int (nomark _)))) pss_nil) (pss_one (ps_ret (pe_cmpR op_ge (pv 3) pe_int (nomark _)))))))))), ?_⟩
    refine ⟨_, rfl, _, rfl, v, u, rfl, hv, hu, fun H1 s1 => ?_⟩
    have q := k H1 s1
    obtain ⟨f1, f2, f3, f4⟩ := ord_facts v u hv hu
    cases o with
    | eq => exact ⟨_, rfl, rfl, true, strB "=" "=" _ (by decide +kernel), _, rfl, rfl, by rw [ord0]; exact q⟩
    | ne => exact ⟨_, rfl, rfl, false, strB "!=" "=" _ (by decide +kernel), _, rfl, rfl, true, strB "!=" "!=" _ (by decide +kernel), _, rfl, rfl, by rw [ord0]; exact q⟩
    | lt => exact ⟨_, rfl, rfl, false, strB "<" "=" _ (by decide +kernel), _, rfl, rfl, false, strB "<" "!=" _ (by decide +kernel), _, rfl, rfl, true, strB "<" "<" _ (by decide +kernel), _, rfl, _, _, rfl, rfl, (show Q (V.bl (decide (ordV v u < 0))) H1 by rw [f1]; exact q)⟩
    | le => exact ⟨_, rfl, rfl, false, strB "<=" "=" _ (by decide +kernel), _, rfl, rfl, false, strB "<=" "!=" _ (by decide +kernel), _, rfl, rfl, false, strB "<=" "<" _ (by decide +kernel), _, rfl, rfl, true, strB "<=" "<=" _ (by decide +kernel), _, rfl, _, _, rfl, rfl, (show Q (V.bl (decide (ordV v u ≤ 0))) H1 by rw [f2]; exact q)⟩
    | gt => exact ⟨_, rfl, rfl, false, strB ">" "=" _ (by decide +kernel), _, rfl, rfl, false, strB ">" "!=" _ (by decide +kernel), _, rfl, rfl, false, strB ">" "<" _ (by decide +kernel), _, rfl, rfl, false, strB ">" "<=" _ (by decide +kernel), _, rfl, rfl, true, strB ">" ">" _ (by decide +kernel), _, rfl, _, _, rfl, rfl, (show Q (V.bl (decide (0 < ordV v u))) H1 by rw [f3]; exact q)⟩
    | ge => exact ⟨_, rfl, rfl, false, strB ">=" "=" _ (by decide +kernel), _, rfl, rfl, false, strB ">=" "!=" _ (by decide +kernel), _, rfl, rfl, false, strB ">=" "<" _ (by decide +kernel), _, rfl, rfl, false, strB ">=" "<=" _ (by decide +kernel), _, rfl, rfl, false, strB ">=" ">" _ (by decide +kernel), _, rfl, _, _, rfl, rfl, (show Q (V.bl (decide (0 ≤ ordV v u))) H1 by rw [f4]; exact q)⟩
end
end SD
namespace SD
open PySem L2
section
variable {P : Program} {w : World} {K : PySem.W.Frag} {mg : Str → Option Value} {base : Heap} {f : Addr} {fd : FuncData}
theorem sc__worth : FnScope ["term", "columns", "row"] ["term", "columns", "row"] (defScope st__worth) := ⟨rfl, rfl, rfl, by decide +kernel, rfl, by decide +kernel, by decide +kernel⟩
theorem ok__worth (F : Fun K "_worth" "_worth" st__worth f fd) : FnOk P w K mg base CX0 1 f fd ["term", "columns", "row"] (spWorth K) := by
  refine F.ok sc__worth (fun vs H Q E h => ?_) (fun cdv A outer s H vs Q E hr h => ?_)
  · obtain ⟨x, t, ca, ra, ls, ws, rfl, _⟩ := h
    rfl
  · obtain ⟨x, t, ca, ra, ls, ws, rfl, hx, hc, hw, hg, hl, k⟩ := h
    refine ⟨_, (pss_cons (ps_if (pt_cmpR op_eq (pe_ix ix_tup (pv 0) pe_int (fun _ _ => rfl)) pe_str (nomark _)) (pss_one (ps_ret (pe_ix ix_tup (pv 2) (pe_bmF PySem.F.slot_tuple_index PySem.F.type_tuple_index mt_tup_index (pv 1) (pa_cons (pe_ix ix_tup (pv 0) pe_int (fun _ _ => rfl)) pa_nil)) (fun _ _ => rfl)))) pss_nil) (pss_one (ps_ret (pe_ix ix_tup (pv 0) pe_int (fun _ _ => rfl))))), ?_⟩
    obtain ⟨a, rfl, ha, hsc⟩ := repT hx
    cases t with
    | col l =>
      refine ⟨_, rfl, a, _, 0, _, rfl, rfl, ha, rfl, rfl, true, strB "column" "column" _ (by decide +kernel), ?_⟩
      have hp := posL_at (show l ∈ ls from hg)
      have hlt : posL l ls < ws.length := by rw [hl]; exact (List.getElem?_eq_some_iff.mp hp).1
      refine ⟨_, rfl, _, rfl, ⟨ca, _, rfl, hc⟩, _, rfl, a, _, 1, .str l, rfl, rfl, ha, rfl, ca, ls, l, posL l ls, rfl, rfl, hc.t, hp, fun m hm => posL_not m hm, ?_⟩
      refine ⟨ra, ws, _, ws.getD (posL l ls) .non, rfl, rfl, hw, atI_nat ?_, k⟩
      rw [List.getD_eq_getElem?_getD, List.getElem?_eq_getElem hlt]
      rfl
    | val v =>
      exact ⟨_, rfl, a, _, 0, _, rfl, rfl, ha, rfl, rfl, false, strB "value" "column" _ (by decide +kernel), _, rfl, a, _, 1, _, rfl, rfl, ha, rfl, k⟩
end
end SD
namespace SD
open PySem L2
section
variable {P : Program} {w : World} {K : PySem.W.Frag} {mg : Str → Option Value} {base : Heap} {f : Addr} {fd : FuncData}
theorem sc_holds : FnScope ["condition", "columns", "row", "word"] ["condition", "columns", "row"] (defScope st_holds) := ⟨rfl, rfl, rfl, by decide +kernel, rfl, by decide +kernel, by decide +kernel⟩
theorem wth_sc {ls : List Str} {ws : List V} {t : Tm} (hg : gT ls t) (hl : ws.length = ls.length) (hw : ∀ v ∈ ws, Sc v) : isSc (wth ls ws t) = true := by
  cases t with
  | col l =>
    have hp := posL_at (show l ∈ ls from hg)
    have hlt : posL l ls < ws.length := by rw [hl]; exact (List.getElem?_eq_some_iff.mp hp).1
    show isSc (ws.getD (posL l ls) .non) = true
    rw [List.getD_eq_getElem?_getD, List.getElem?_eq_getElem hlt]
    exact (hw _ (List.getElem_mem hlt)).is
  | val v => exact Sc.is hg
theorem ok_holds (F : Fun K "holds" "holds" st_holds f fd) (hm : mg "holds" = some (.ref f)) (b : Binds K fd ["condition", "columns", "row"] []) (bk : BK "holds" st_holds ["condition", "columns", "row"])
    (c_compared : Cal P w K mg base "compared" 4 ["op", "left", "right"] spCompared) (c__worth : Cal P w K mg base "_worth" 1 ["term", "columns", "row"] (spWorth K)) : ∀ n : Nat, FnOk P w K mg base CX0 (n + 5) f fd ["condition", "columns", "row"] (spHolds K n)
  | 0 => by
    refine F.ok (k := 4) sc_holds (fun vs H Q E h => ?_) (fun cdv A outer s H vs Q E hr h => ?_)
    · obtain ⟨x, c, ca, ra, ls, ws, rfl, _⟩ := h
      rfl
    · obtain ⟨x, c, ca, ra, ls, ws, rfl, _, h0, _⟩ := h
      exact absurd h0 (Nat.not_lt_zero _)
  | n + 1 => by
    have c_rec : Cal P w K mg base "holds" (n + 5) ["condition", "columns", "row"] (spHolds K n) := cal_of F hm b bk (ok_holds F hm b bk c_compared c__worth n)
    refine F.ok (k := n + 5) sc_holds (fun vs H Q E h => ?_) (fun cdv A outer s H vs Q E hr h => ?_)
    · obtain ⟨x, c, ca, ra, ls, ws, rfl, _⟩ := h
      rfl
    · obtain ⟨x, c, ca, ra, ls, ws, rfl, hx, hd, hc, hw, hg, hl, hsc, k⟩ := h
      have h4 : Room 4 _ := hr.mono (by omega)
      have h1 : Room 1 _ := hr.mono (by omega)
      refine ⟨_, (pss_cons (ps_set (i := 3) sc_holds.nd rfl (Or.inl rfl) (pe_ix ix_tup (pv 0) pe_int (fun _ _ => rfl))) (pss_cons (ps_if (pt_cmpR op_eq (pv 3) pe_str (nomark _)) (pss_one (ps_ret (pe_c c_compared h4 rfl (pa_cons (pe_ix ix_tup (pv 0) pe_int (fun _ _ => rfl)) (pa_cons (pe_c c__worth h1 rfl (pa_cons (pe_ix ix_tup (pv 0) pe_int (fun _ _ => rfl)) (pa_cons (pv 1) (pa_cons (pv 2) pa_nil)))) (pa_cons (pe_c c__worth h1 rfl (pa_cons (pe_ix ix_tup (pv 0) pe_int (fun _ _ => rfl)) (pa_cons (pv 1) (pa_cons (pv 2) pa_nil)))) pa_nil)))))) pss_nil) (pss_cons (ps_if (pt_cmpR op_eq (pv 3) pe_str (nomark _)) (pss_one (ps_ret (pe_not (pe_c c_rec hr rfl (pa_cons (pe_ix ix_tup (pv 0) pe_int (fun _ _ => rfl)) (pa_cons (pv 1) (pa_cons (pv 2) pa_nil))))))) pss_nil) (pss_cons (ps_if (pt_cmpR op_eq (pv 3) pe_str (nomark _)) (pss_one (ps_ret (pe_and (pe_c c_rec hr rfl (pa_cons (pe_ix ix_tup (pv 0) pe_int (fun _ _ => rfl)) (pa_cons (pv 1) (pa_cons (pv 2) pa_nil)))) (pe_one (pe_c c_rec hr rfl (pa_cons (pe_ix ix_tup (pv 0) pe_int (fun _ _ => rfl)) (pa_cons (pv 1) (pa_cons (pv 2) pa_nil)))))))) pss_nil) (pss_cons (ps_if (pt_cmpR op_eq (pv 3) pe_str (nomark _)) (pss_one (ps_ret (pe_or (pe_c c_rec hr rfl (pa_cons (pe_ix ix_tup (pv 0) pe_int (fun _ _ => rfl)) (pa_cons (pv 1) (pa_cons (pv 2) pa_nil)))) (pe_one (pe_c c_rec hr rfl (pa_cons (pe_ix ix_tup (pv 0) pe_int (fun _ _ => rfl)) (pa_cons (pv 1) (pa_cons (pv 2) pa_nil)))))))) pss_nil) (pss_one (ps_ret (pe_cmpR op_eq (pv 3) pe_str (nomark _))))))))), ?_⟩
      cases c with
      | tt =>
        obtain ⟨a, rfl, ha⟩ := repTT hx
        exact ⟨_, rfl, a, _, 0, _, rfl, rfl, ha, rfl, _, rfl, rfl, false, strB "true" "compare" _ (by decide +kernel), _, rfl, rfl, false, strB "true" "not" _ (by decide +kernel), _, rfl, rfl, false, strB "true" "and" _ (by decide +kernel), _, rfl, rfl, false, strB "true" "or" _ (by decide +kernel), _, rfl, rfl, by rw [strB "true" "true" true (by decide +kernel)]; exact k H (Same.refl H)⟩
      | ff =>
        obtain ⟨a, rfl, ha⟩ := repFF hx
        exact ⟨_, rfl, a, _, 0, _, rfl, rfl, ha, rfl, _, rfl, rfl, false, strB "false" "compare" _ (by decide +kernel), _, rfl, rfl, false, strB "false" "not" _ (by decide +kernel), _, rfl, rfl, false, strB "false" "and" _ (by decide +kernel), _, rfl, rfl, false, strB "false" "or" _ (by decide +kernel), _, rfl, rfl, by rw [strB "false" "true" false (by decide +kernel)]; exact k H (Same.refl H)⟩
      | cmp o s t =>
        obtain ⟨a, x2, x3, rfl, ha, r2, r3⟩ := repCmp hx
        refine ⟨_, rfl, a, _, 0, _, rfl, rfl, ha, rfl, _, rfl, rfl, true, strB "compare" "compare" _ (by decide +kernel), ?_⟩
        refine ⟨_, rfl, a, _, 1, _, rfl, rfl, ha, rfl, _, rfl, a, _, 2, _, rfl, rfl, ha, rfl, _, rfl, _, rfl, x2, s, ca, ra, ls, ws, rfl, r2, hc, hw, hg.1, hl, ?_⟩
        refine ⟨_, rfl, a, _, 3, _, rfl, rfl, ha, rfl, _, rfl, _, rfl, x3, t, ca, ra, ls, ws, rfl, r3, hc, hw, hg.2, hl, ?_⟩
        exact ⟨o, _, _, rfl, wth_sc hg.1 hl hsc, wth_sc hg.2 hl hsc, k⟩
      | no c =>
        obtain ⟨a, x1, rfl, ha, r1⟩ := repNo hx
        refine ⟨_, rfl, a, _, 0, _, rfl, rfl, ha, rfl, _, rfl, rfl, false, strB "not" "compare" _ (by decide +kernel), _, rfl, rfl, true, strB "not" "not" _ (by decide +kernel), ?_⟩
        have hd' : dpC c + 1 < n + 1 := hd
        exact ⟨_, rfl, a, _, 1, _, rfl, rfl, ha, rfl, _, rfl, _, rfl, x1, c, ca, ra, ls, ws, rfl, r1, by omega, hc, hw, hg, hl, hsc, fun H1 s1 => ⟨_, rfl, k H1 s1⟩⟩
      | an c d =>
        obtain ⟨a, x1, x2, rfl, ha, r1, r2⟩ := repAn hx
        have hd' : max (dpC c) (dpC d) + 1 < n + 1 := hd
        refine ⟨_, rfl, a, _, 0, _, rfl, rfl, ha, rfl, _, rfl, rfl, false, strB "and" "compare" _ (by decide +kernel), _, rfl, rfl, false, strB "and" "not" _ (by decide +kernel), _, rfl, rfl, true, strB "and" "and" _ (by decide +kernel), ?_⟩
        refine ⟨_, rfl, a, _, 1, _, rfl, rfl, ha, rfl, _, rfl, _, rfl, x1, c, ca, ra, ls, ws, rfl, r1, by omega, hc, hw, hg.1, hl, hsc, fun H1 s1 => ⟨_, rfl, ?_⟩⟩
        cases q : evl ls ws c with
        | false =>
          have := k H1 s1
          simp only [evl, q, Bool.false_and] at this
          exact this
        | true =>
          refine ⟨_, rfl, a, _, 2, _, rfl, rfl, SD.Same.seqT s1 ha, rfl, _, rfl, _, rfl, x2, d, ca, ra, ls, ws, rfl, r2.same s1, by omega, hc.same s1, SD.Same.seqT s1 hw, hg.2, hl, hsc, fun H2 s2 => ?_⟩
          have := k H2 (s1.trans s2)
          simp only [evl, q, Bool.true_and] at this
          exact this
      | oo c d =>
        obtain ⟨a, x1, x2, rfl, ha, r1, r2⟩ := repOo hx
        have hd' : max (dpC c) (dpC d) + 1 < n + 1 := hd
        refine ⟨_, rfl, a, _, 0, _, rfl, rfl, ha, rfl, _, rfl, rfl, false, strB "or" "compare" _ (by decide +kernel), _, rfl, rfl, false, strB "or" "not" _ (by decide +kernel), _, rfl, rfl, false, strB "or" "and" _ (by decide +kernel), _, rfl, rfl, true, strB "or" "or" _ (by decide +kernel), ?_⟩
        refine ⟨_, rfl, a, _, 1, _, rfl, rfl, ha, rfl, _, rfl, _, rfl, x1, c, ca, ra, ls, ws, rfl, r1, by omega, hc, hw, hg.1, hl, hsc, fun H1 s1 => ⟨_, rfl, ?_⟩⟩
        cases q : evl ls ws c with
        | true =>
          have := k H1 s1
          simp only [evl, q, Bool.true_or] at this
          exact this
        | false =>
          refine ⟨_, rfl, a, _, 2, _, rfl, rfl, SD.Same.seqT s1 ha, rfl, _, rfl, _, rfl, x2, d, ca, ra, ls, ws, rfl, r2.same s1, by omega, hc.same s1, SD.Same.seqT s1 hw, hg.2, hl, hsc, fun H2 s2 => ?_⟩
          have := k H2 (s1.trans s2)
          simp only [evl, q, Bool.false_or] at this
          exact this
end
end SD
namespace SD
open PySem L2
section
variable {P : Program} {w : World} {K : PySem.W.Frag} {mg : Str → Option Value} {base : Heap} {f : Addr} {fd : FuncData}
theorem sc__constant : FnScope ["truth"] ["truth"] (defScope st__constant) := ⟨rfl, rfl, rfl, by decide +kernel, rfl, by decide +kernel, by decide +kernel⟩
theorem ok__constant (F : Fun K "_constant" "_constant" st__constant f fd) : FnOk P w K mg base CX0 1 f fd ["truth"] (spCst K) := by
  refine F.ok sc__constant (fun vs H Q E h => ?_) (fun cdv A outer s H vs Q E hr h => ?_)
  · obtain ⟨b, rfl, _⟩ := h
    rfl
  · obtain ⟨b, rfl, k⟩ := h
    refine ⟨_, (pss_one (ps_ret (pe_ifExp (pt_val (pv 0)) (pe_tup (pa_cons pe_str pa_nil)) (pe_tup (pa_cons pe_str pa_nil))))), ?_⟩
    refine ⟨_, rfl, b, rfl, ?_⟩
    cases b
    · exact ⟨leT, fun p hp => k _ _ (SD.Same.new hp) (rep_cst false upd_same)⟩
    · exact ⟨leT, fun p hp => k _ _ (SD.Same.new hp) (rep_cst true upd_same)⟩
end
end SD
namespace SD
open PySem L2
section
variable {P : Program} {w : World} {K : PySem.W.Frag} {mg : Str → Option Value} {base : Heap} {f : Addr} {fd : FuncData}
theorem sc__flipped : FnScope ["condition", "op", "left", "right"] ["condition"] (defScope st__flipped) := ⟨rfl, rfl, rfl, by decide +kernel, rfl, by decide +kernel, by decide +kernel⟩
theorem ok__flipped (F : Fun K "_flipped" "_flipped" st__flipped f fd) (D : DF K w mg "FLIPPED" flp) : FnOk P w K mg base CX0 1 f fd ["condition"] (spFlip K) := by
  refine F.ok sc__flipped (fun vs H Q E h => ?_) (fun cdv A outer s H vs Q E hr h => ?_)
  · obtain ⟨x, o, a, b, rfl, _⟩ := h
    rfl
  · obtain ⟨x, o, a, b, rfl, hx, k⟩ := h
    obtain ⟨da, hmg, hk⟩ := D
    obtain ⟨ca, x2, x3, rfl, hs, r2, r3⟩ := repCmp hx
    refine ⟨_, (pss_cons (ps_asg (pe_slice sl_tupX (pv 0) (po_some pe_int) po_none) (pg_tup rfl (pgs_cons (pg_name (i := 1) sc__flipped.nd rfl (Or.inl rfl)) (pgs_cons (pg_name (i := 2) sc__flipped.nd rfl (Or.inl rfl)) (pgs_cons (pg_name (i := 3) sc__flipped.nd rfl (Or.inl rfl)) pgs_nil))))) (pss_one (ps_ret (pe_tup (pa_cons pe_str (pa_cons (pe_ix ix_kdict (pe_glob (v := .ref da) (by rfl) hmg rfl) (pv 1) (fun _ _ => rfl)) (pa_cons (pv 3) (pa_cons (pv 2) pa_nil)))))))), ?_⟩
    refine ⟨_, rfl, 1, rfl, ca, _, rfl, hs, fun q H1 s1 g1 => ?_⟩
    rw [cut1] at g1
    refine ⟨q, _, rfl, g1, rfl, _, _, rfl, _, _, rfl, _, _, rfl, rfl, ?_⟩
    refine ⟨_, rfl, da, _, _, rfl, rfl, hk o, _, rfl, _, rfl, leT, fun p hp => ?_⟩
    have s2 := SD.Same.new (o := .tup [.str "compare", .str (opS (flp o)), x3, x2]) hp
    exact k _ _ (s1.trans s2) (Rep.mk upd_same (by simp) (.cons (.sc rfl) (.cons (.sc rfl) (.cons (r3.same (s1.trans s2)) (.cons (r2.same (s1.trans s2)) .nil)))))
end
end SD
namespace SD
open PySem L2
section
variable {P : Program} {w : World} {K : PySem.W.Frag} {mg : Str → Option Value} {base : Heap} {f : Addr} {fd : FuncData}
theorem sc__folded_comparison : FnScope ["condition", "op", "left", "right"] ["condition"] (defScope st__folded_comparison) := ⟨rfl, rfl, rfl, by decide +kernel, rfl, by decide +kernel, by decide +kernel⟩
theorem ok__folded_comparison (F : Fun K "_folded_comparison" "_folded_comparison" st__folded_comparison f fd) (c_compared : Cal P w K mg base "compared" 4 ["op", "left", "right"] spCompared) (c__constant : Cal P w K mg base "_constant" 1 ["truth"] (spCst K)) (c__flipped : Cal P w K mg base "_flipped" 1 ["condition"] (spFlip K)) : FnOk P w K mg base CX0 5 f fd ["condition"] (spFoldCmp K) := by
  refine F.ok sc__folded_comparison (fun vs H Q E h => ?_) (fun cdv A outer s H vs Q E hr h => ?_)
  · obtain ⟨x, o, a, b, rfl, _⟩ := h
    rfl
  · obtain ⟨x, o, a, b, rfl, hx, k⟩ := h
    have h1 : Room 1 _ := hr.mono (by decide)
    obtain ⟨ca, x2, x3, rfl, hs, r2, r3⟩ := repCmp hx
    refine ⟨_, (pss_cons (ps_asg (pe_slice sl_tupX (pv 0) (po_some pe_int) po_none) (pg_tup rfl (pgs_cons (pg_name (i := 1) sc__folded_comparison.nd rfl (Or.inl rfl)) (pgs_cons (pg_name (i := 2) sc__folded_comparison.nd rfl (Or.inl rfl)) (pgs_cons (pg_name (i := 3) sc__folded_comparison.nd rfl (Or.inl rfl)) pgs_nil))))) (pss_cons (ps_if (PW.pt (pw_and (pt_cmpR op_eq (pe_ix ix_tup (pv 2) pe_int (fun _ _ => rfl)) pe_str (nomark _)) (pw_and1 (pt_cmpR op_eq (pe_ix ix_tup (pv 3) pe_int (fun _ _ => rfl)) pe_str (nomark _))))) (pss_one (ps_ret (pe_c c__constant h1 rfl (pa_cons (pe_c c_compared hr rfl (pa_cons (pv 1) (pa_cons (pe_ix ix_tup (pv 2) pe_int (fun _ _ => rfl)) (pa_cons (pe_ix ix_tup (pv 3) pe_int (fun _ _ => rfl)) pa_nil)))) pa_nil)))) pss_nil) (pss_cons (ps_if (PW.pt (pw_and (pt_cmpR op_eq (pe_ix ix_tup (pv 2) pe_int (fun _ _ => rfl)) pe_str (nomark _)) (pw_and (pt_cmpR op_eq (pe_ix ix_tup (pv 3) pe_int (fun _ _ => rfl)) pe_str (nomark _)) (pw_and1 (pt_cmpR op_eq (pe_ix ix_tup (pv 2) pe_int (fun _ _ => rfl)) (pe_ix ix_tup (pv 3) pe_int (fun _ _ => rfl)) (nomark _)))))) (pss_one (ps_ret (pe_c c__constant h1 rfl (pa_cons (pe_cmpR op_in_seq (pv 1) (pe_tup (pa_cons pe_str (pa_cons pe_str (pa_cons pe_str pa_nil)))) (by rfl)) pa_nil)))) pss_nil) (pss_cons (ps_if (pt_cmpR op_eq (pe_ix ix_tup (pv 2) pe_int (fun _ _ => rfl)) pe_str (nomark _)) (pss_one (ps_ret (pe_c c__flipped h1 rfl (pa_cons (pv 0) pa_nil)))) pss_nil) (pss_one (ps_ret (pv 0))))))), ?_⟩
    refine ⟨_, rfl, 1, rfl, ca, _, rfl, hs, fun q H1 s1 g1 => ?_⟩
    rw [cut1] at g1
    refine ⟨q, _, rfl, g1, rfl, _, _, rfl, _, _, rfl, _, _, rfl, rfl, ?_⟩
    have hx1 := hx.same s1
    obtain ⟨pa, rfl, ha, va⟩ := repT (r2.same s1)
    obtain ⟨pb, rfl, hb, vb⟩ := repT (r3.same s1)
    have vv : ("value" : Str) = "value" := rfl
    cases a with
    | val v =>
      refine ⟨_, rfl, pa, _, 0, _, rfl, rfl, ha, rfl, rfl, true, strB "value" "value" _ (by decide +kernel), ?_⟩
      cases b with
      | val u =>
        refine ⟨_, rfl, pb, _, 0, _, rfl, rfl, hb, rfl, rfl, true, strB "value" "value" _ (by decide +kernel), ?_⟩
        refine ⟨_, rfl, _, rfl, pa, _, 1, _, rfl, rfl, ha, rfl, _, rfl, pb, _, 1, _, rfl, rfl, hb, rfl, o, v, u, rfl, va, vb, fun H2 s2 => ⟨_, rfl, fun y H3 s3 r3 => k y H3 ((s1.trans s2).trans s3) r3⟩⟩
      | col l =>
        refine ⟨_, rfl, pb, _, 0, _, rfl, rfl, hb, rfl, rfl, false, strB "column" "value" _ (by decide +kernel), ?_⟩
        refine ⟨_, rfl, pa, _, 0, _, rfl, rfl, ha, rfl, rfl, false, strB "value" "column" _ (by decide +kernel), ?_⟩
        refine ⟨_, rfl, pa, _, 0, _, rfl, rfl, ha, rfl, rfl, true, strB "value" "value" _ (by decide +kernel), ?_⟩
        exact ⟨_, rfl, _, o, _, _, rfl, hx1, fun y H3 s3 r3 => k y H3 (s1.trans s3) r3⟩
    | col l =>
      refine ⟨_, rfl, pa, _, 0, _, rfl, rfl, ha, rfl, rfl, false, strB "column" "value" _ (by decide +kernel), ?_⟩
      refine ⟨_, rfl, pa, _, 0, _, rfl, rfl, ha, rfl, rfl, true, strB "column" "column" _ (by decide +kernel), ?_⟩
      cases b with
      | val u =>
        refine ⟨_, rfl, pb, _, 0, _, rfl, rfl, hb, rfl, rfl, false, strB "value" "column" _ (by decide +kernel), ?_⟩
        refine ⟨_, rfl, pa, _, 0, _, rfl, rfl, ha, rfl, rfl, false, strB "column" "value" _ (by decide +kernel), ?_⟩
        exact ⟨_, rfl, k _ _ s1 hx1⟩
      | col m =>
        refine ⟨_, rfl, pb, _, 0, _, rfl, rfl, hb, rfl, rfl, true, strB "column" "column" _ (by decide +kernel), ?_⟩
        refine ⟨_, rfl, pa, _, 1, _, rfl, rfl, ha, rfl, _, rfl, pb, _, 1, _, rfl, rfl, hb, rfl, rfl, decide (l = m), strB l m _ rfl, ?_⟩
        refine ite2 (fun e => ?_) fun e => ?_
        · refine ⟨_, rfl, leT, fun p hp => ⟨p, [.str "=", .str "<=", .str ">="], rfl, .inr (SqT.of upd_same), rfl, rfl, ?_⟩⟩
          refine ⟨refl o, ?_, fun y H3 s3 r3 => k y H3 ((s1.trans (SD.Same.new hp)).trans s3) ?_⟩
          · cases o <;> decide +kernel
          · have e := of_decide_eq_true e
            have : leafC o (.col l) (.col m) = cst (refl o) := by simp only [leafC]; rw [if_pos e]
            rw [this]; exact r3
        · refine ⟨_, rfl, pa, _, 0, _, rfl, rfl, ha, rfl, rfl, false, strB "column" "value" _ (by decide +kernel), ?_⟩
          refine ⟨_, rfl, k _ _ s1 ?_⟩
          have : leafC o (.col l) (.col m) = .cmp o (.col l) (.col m) := by simp only [leafC]; rw [if_neg (fun z => e (decide_eq_true z))]
          rw [this]; exact hx1
end
end SD
namespace SD
open PySem L2
section
variable {P : Program} {w : World} {K : PySem.W.Frag} {mg : Str → Option Value} {base : Heap} {f : Addr} {fd : FuncData}
theorem sc__folded_pair : FnScope ["word", "left", "right", "idle", "final"] ["word", "left", "right", "idle", "final"] (defScope st__folded_pair) := ⟨rfl, rfl, rfl, by decide +kernel, rfl, by decide +kernel, by decide +kernel⟩
theorem ok__folded_pair (F : Fun K "_folded_pair" "_folded_pair" st__folded_pair f fd) (c_same : Cal P w K mg base "same" 24 ["left", "right"] (spSame K 20)) : FnOk P w K mg base CX0 25 f fd ["word", "left", "right", "idle", "final"] (spPair K) := by
  refine F.ok sc__folded_pair (fun vs H Q E h => ?_) (fun cdv A outer s H vs Q E hr h => ?_)
  · obtain ⟨n, x, y, i, f, l, r, rfl, _⟩ := h
    rfl
  · obtain ⟨n, x, y, i, f, l, r, rfl, hx, hy, hi, hf, dl, dr, k⟩ := h
    have u0 := hr.units0
    refine ⟨_, (pss_cons (ps_if (PW.pt (pw_or (pt_cmpR (op_eq1 u0) (pv 1) (pv 4) (nomark _)) (pw_or1 (pt_cmpR (op_eq1 u0) (pv 2) (pv 4) (nomark _))))) (pss_one (ps_ret (pv 4))) pss_nil) (pss_cons (ps_if (pt_cmpR (op_eq1 u0) (pv 1) (pv 3) (nomark _)) (pss_one (ps_ret (pv 2))) pss_nil) (pss_cons (ps_if (PW.pt (pw_or (pt_cmpR (op_eq1 u0) (pv 2) (pv 3) (nomark _)) (pw_or1 (pt_val (pe_c c_same hr rfl (pa_cons (pv 1) (pa_cons (pv 2) pa_nil))))))) (pss_one (ps_ret (pv 1))) pss_nil) (pss_one (ps_ret (pe_tup (pa_cons (pv 0) (pa_cons (pv 1) (pa_cons (pv 2) pa_nil))))))))), ?_⟩
    obtain ⟨a, xs, rfl, ha, ea⟩ := repW hx
    obtain ⟨b, ys, rfl, hb, eb⟩ := repW hy
    have fin : (isFin n l || isFin n r) = true → Q (.ref f) H := fun e => by
      refine k _ _ (Same.refl H) ?_
      have : pairC n l r = cst (!n) := by unfold pairC; rw [if_pos e]
      rw [this]
      cases n
      · exact Rep.tup hf (by simp) (.cons (.sc rfl) .nil)
      · exact Rep.tup hf (by simp) (.cons (.sc rfl) .nil)
    refine ⟨_, rfl, _, rfl, a, f, _, _, _, rfl, rfl, ha, hf, isFin n l, eqFin n ea, ?_⟩
    refine ite2 (fun e => ⟨_, rfl, fin (by rw [e]; rfl)⟩) fun e1 => ?_
    refine ⟨_, rfl, _, rfl, b, f, _, _, _, rfl, rfl, hb, hf, isFin n r, eqFin n eb, ?_⟩
    refine ite2 (fun e => ⟨_, rfl, fin (by rw [e]; simp)⟩) fun e2 => ?_
    have e12 : ¬ (isFin n l || isFin n r) = true := by simp only [Bool.not_eq_true] at e1 e2 ⊢; rw [e1, e2]; rfl
    refine ⟨_, rfl, _, rfl, a, i, _, _, _, rfl, rfl, ha, hi, isIdle n l, eqIdle n ea, ?_⟩
    refine ite2 (fun e => ⟨_, rfl, k _ _ (Same.refl H) ?_⟩) fun e3 => ?_
    · have : pairC n l r = r := by unfold pairC; rw [if_neg e12, if_pos e]
      rw [this]; exact hy
    refine ⟨_, rfl, _, rfl, b, i, _, _, _, rfl, rfl, hb, hi, isIdle n r, eqIdle n eb, ?_⟩
    refine ite2 (fun e => ⟨_, rfl, k _ _ (Same.refl H) ?_⟩) fun e4 => ?_
    · have : pairC n l r = l := by unfold pairC; rw [if_neg e12, if_neg e3, if_pos (by rw [e]; rfl)]
      rw [this]; exact hx
    have d1 := dep_dC l
    refine ⟨_, rfl, _, rfl, _, _, _, _, rfl, hx, hy, by omega, fun H1 s1 => ⟨_, rfl, ?_⟩⟩
    refine ite2 (fun e => ⟨_, rfl, k _ _ s1 ?_⟩) fun e5 => ?_
    · have : pairC n l r = l := by unfold pairC; rw [if_neg e12, if_neg e3, if_pos (by rw [e]; simp)]
      rw [this]; exact hx.same s1
    refine ⟨_, rfl, _, rfl, _, rfl, leT, fun p hp => k _ _ (s1.trans (SD.Same.new hp)) ?_⟩
    have : pairC n l r = if n then .an l r else .oo l r := by
      unfold pairC
      rw [if_neg e12, if_neg e3, if_neg (by simp only [Bool.not_eq_true] at e4 e5 ⊢; rw [e4, e5]; rfl)]
    rw [this]
    have s2 := s1.trans (SD.Same.new (o := .tup [V.str (if n then "and" else "or"), .ref a, .ref b]) hp)
    cases n
    · exact Rep.mk upd_same (by simp) (.cons (.sc rfl) (.cons (hx.same s2) (.cons (hy.same s2) .nil)))
    · exact Rep.mk upd_same (by simp) (.cons (.sc rfl) (.cons (hx.same s2) (.cons (hy.same s2) .nil)))
end
end SD
namespace SD
open PySem L2
section
variable {P : Program} {w : World} {K : PySem.W.Frag} {mg : Str → Option Value} {base : Heap} {f : Addr} {fd : FuncData}
theorem sc__folded_not : FnScope ["condition", "word", "op", "left", "right"] ["condition"] (defScope st__folded_not) := ⟨rfl, rfl, rfl, by decide +kernel, rfl, by decide +kernel, by decide +kernel⟩
theorem step__folded_not (F : Fun K "_folded_not" "_folded_not" st__folded_not f fd) (D : DF K w mg "OPPOSITE" opp) (n : Nat) (c_folded : Cal P w K mg base "folded" (n + 26) ["condition"] (spFold K n)) (c__folded_comparison : Cal P w K mg base "_folded_comparison" 5 ["condition"] (spFoldCmp K)) (c__constant : Cal P w K mg base "_constant" 1 ["truth"] (spCst K)) : FnOk P w K mg base CX0 (n + 27) f fd ["condition"] (spFoldNot K (n + 1)) := by
  refine F.ok (k := n + 26) sc__folded_not (fun vs H Q E h => ?_) (fun cdv A outer s H vs Q E hr h => ?_)
  · obtain ⟨x, c, rfl, _⟩ := h
    rfl
  · obtain ⟨x, c, rfl, hx, hl, hd, k⟩ := h
    obtain ⟨da, hmg, hk⟩ := D
    have h1 : Room 1 _ := hr.mono (by omega)
    have h5 : Room 5 _ := hr.mono (by omega)
    refine ⟨_, (pss_cons (ps_set (i := 1) sc__folded_not.nd rfl (Or.inl rfl) (pe_ix ix_tup (pv 0) pe_int (fun _ _ => rfl))) (pss_cons (ps_if (pt_cmpR op_eq (pv 1) pe_str (nomark _)) (pss_cons (ps_asg (pe_slice sl_tupX (pv 0) (po_some pe_int) po_none) (pg_tup rfl (pgs_cons (pg_name (i := 2) sc__folded_not.nd rfl (Or.inl rfl)) (pgs_cons (pg_name (i := 3) sc__folded_not.nd rfl (Or.inl rfl)) (pgs_cons (pg_name (i := 4) sc__folded_not.nd rfl (Or.inl rfl)) pgs_nil))))) (pss_one (ps_ret (pe_c c__folded_comparison h5 rfl (pa_cons (pe_tup (pa_cons pe_str (pa_cons (pe_ix ix_kdict (pe_glob (v := .ref da) (by rfl) hmg rfl) (pv 2) (fun _ _ => rfl)) (pa_cons (pv 3) (pa_cons (pv 4) pa_nil))))) pa_nil))))) pss_nil) (pss_cons (ps_if (pt_cmpR op_eq (pv 1) pe_str (nomark _)) (pss_one (ps_ret (pe_c c_folded hr rfl (pa_cons (pe_ix ix_tup (pv 0) pe_int (fun _ _ => rfl)) pa_nil)))) pss_nil) (pss_cons (ps_if (pt_cmpR op_eq (pv 1) pe_str (nomark _)) (pss_one (ps_ret (pe_c c_folded hr rfl (pa_cons (pe_tup (pa_cons pe_str (pa_cons (pe_tup (pa_cons pe_str (pa_cons (pe_ix ix_tup (pv 0) pe_int (fun _ _ => rfl)) pa_nil))) (pa_cons (pe_tup (pa_cons pe_str (pa_cons (pe_ix ix_tup (pv 0) pe_int (fun _ _ => rfl)) pa_nil))) pa_nil)))) pa_nil)))) pss_nil) (pss_cons (ps_if (pt_cmpR op_eq (pv 1) pe_str (nomark _)) (pss_one (ps_ret (pe_c c_folded hr rfl (pa_cons (pe_tup (pa_cons pe_str (pa_cons (pe_tup (pa_cons pe_str (pa_cons (pe_ix ix_tup (pv 0) pe_int (fun _ _ => rfl)) pa_nil))) (pa_cons (pe_tup (pa_cons pe_str (pa_cons (pe_ix ix_tup (pv 0) pe_int (fun _ _ => rfl)) pa_nil))) pa_nil)))) pa_nil)))) pss_nil) (pss_one (ps_ret (pe_c c__constant h1 rfl (pa_cons (pe_cmpR op_eq (pv 1) pe_str (nomark _)) pa_nil))))))))), ?_⟩
    cases c with
    | tt =>
      obtain ⟨a, rfl, ha⟩ := repTT hx
      refine ⟨_, rfl, a, _, 0, _, rfl, rfl, ha, rfl, ?_⟩
      refine ⟨_, rfl, rfl, false, strB "true" "compare" _ (by decide +kernel), ?_⟩
      refine ⟨_, rfl, rfl, false, strB "true" "not" _ (by decide +kernel), ?_⟩
      refine ⟨_, rfl, rfl, false, strB "true" "and" _ (by decide +kernel), ?_⟩
      refine ⟨_, rfl, rfl, false, strB "true" "or" _ (by decide +kernel), ?_⟩
      exact ⟨_, rfl, rfl, _, rfl, fun y H1 s1 r1 => k y H1 s1 (by rw [V.bl.inj (strB "true" "false" false (by decide +kernel))] at r1; exact r1)⟩
    | ff =>
      obtain ⟨a, rfl, ha⟩ := repFF hx
      refine ⟨_, rfl, a, _, 0, _, rfl, rfl, ha, rfl, ?_⟩
      refine ⟨_, rfl, rfl, false, strB "false" "compare" _ (by decide +kernel), ?_⟩
      refine ⟨_, rfl, rfl, false, strB "false" "not" _ (by decide +kernel), ?_⟩
      refine ⟨_, rfl, rfl, false, strB "false" "and" _ (by decide +kernel), ?_⟩
      refine ⟨_, rfl, rfl, false, strB "false" "or" _ (by decide +kernel), ?_⟩
      exact ⟨_, rfl, rfl, _, rfl, fun y H1 s1 r1 => k y H1 s1 (by rw [V.bl.inj (strB "false" "false" true (by decide +kernel))] at r1; exact r1)⟩
    | cmp o s t =>
      obtain ⟨a, x2, x3, rfl, ha, r2, r3⟩ := repCmp hx
      refine ⟨_, rfl, a, _, 0, _, rfl, rfl, ha, rfl, ?_⟩
      refine ⟨_, rfl, rfl, true, strB "compare" "compare" _ (by decide +kernel), ?_⟩
      refine ⟨_, rfl, 1, rfl, a, _, rfl, ha, fun q H1 s1 g1 => ?_⟩
      rw [cut1] at g1
      refine ⟨q, _, rfl, g1, rfl, _, _, rfl, _, _, rfl, _, _, rfl, rfl, ?_⟩
      refine ⟨_, rfl, da, _, _, rfl, rfl, hk o, _, rfl, _, rfl, leT, fun p hp => ?_⟩
      have s2 := s1.trans (SD.Same.new (o := .tup [.str "compare", .str (opS (opp o)), x2, x3]) hp)
      exact ⟨_, opp o, s, t, rfl, Rep.mk upd_same (by simp) (.cons (.sc rfl) (.cons (.sc rfl) (.cons (r2.same s2) (.cons (r3.same s2) .nil)))), fun y H3 s3 r3 => k y H3 (s2.trans s3) r3⟩
    | no c =>
      obtain ⟨a, x1, rfl, ha, r1⟩ := repNo hx
      simp only [lvC, dpC] at hl hd
      refine ⟨_, rfl, a, _, 0, _, rfl, rfl, ha, rfl, ?_⟩
      refine ⟨_, rfl, rfl, false, strB "not" "compare" _ (by decide +kernel), ?_⟩
      refine ⟨_, rfl, rfl, true, strB "not" "not" _ (by decide +kernel), ?_⟩
      exact ⟨_, rfl, a, _, 1, _, rfl, rfl, ha, rfl, _, c, rfl, r1, by omega, by omega, k⟩
    | an c d =>
      obtain ⟨a, x1, x2, rfl, ha, r1, r2⟩ := repAn hx
      simp only [lvC, dpC] at hl hd
      refine ⟨_, rfl, a, _, 0, _, rfl, rfl, ha, rfl, ?_⟩
      refine ⟨_, rfl, rfl, false, strB "and" "compare" _ (by decide +kernel), ?_⟩
      refine ⟨_, rfl, rfl, false, strB "and" "not" _ (by decide +kernel), ?_⟩
      refine ⟨_, rfl, rfl, true, strB "and" "and" _ (by decide +kernel), ?_⟩
      refine ⟨_, rfl, a, _, 1, _, rfl, rfl, ha, rfl, leT, fun p hp => ?_⟩
      have s1 := SD.Same.new (o := .tup [.str "not", x1]) hp
      refine ⟨_, rfl, a, _, 2, _, rfl, rfl, SD.Same.seqT s1 ha, rfl, leT, fun q hq => ?_⟩
      have s2 := SD.Same.new (o := .tup [.str "not", x2]) hq
      refine ⟨leT, fun z hz => ?_⟩
      have s3 := SD.Same.new (o := .tup [.str "or", .ref p, .ref q]) hz
      have ra : Rep K (upd (upd (upd H p (.tup [.str "not", x1])) q (.tup [.str "not", x2])) z (.tup [.str "or", .ref p, .ref q])) (.ref p) (dC (.no c)) := Rep.mk (s3 _ _ (s2 _ _ upd_same)) (by simp) (.cons (.sc rfl) (.cons (r1.same ((s1.trans s2).trans s3)) .nil))
      have rb : Rep K (upd (upd (upd H p (.tup [.str "not", x1])) q (.tup [.str "not", x2])) z (.tup [.str "or", .ref p, .ref q])) (.ref q) (dC (.no d)) := Rep.mk (s3 _ _ upd_same) (by simp) (.cons (.sc rfl) (.cons (r2.same ((s1.trans s2).trans s3)) .nil))
      exact ⟨_, .oo (.no c) (.no d), rfl, Rep.mk upd_same (by simp) (.cons (.sc rfl) (.cons ra (.cons rb .nil))), by simp only [lvC]; omega, by simp only [dpC]; omega, fun y H4 s4 r4 => k y H4 (((s1.trans s2).trans s3).trans s4) r4⟩
    | oo c d =>
      obtain ⟨a, x1, x2, rfl, ha, r1, r2⟩ := repOo hx
      simp only [lvC, dpC] at hl hd
      refine ⟨_, rfl, a, _, 0, _, rfl, rfl, ha, rfl, ?_⟩
      refine ⟨_, rfl, rfl, false, strB "or" "compare" _ (by decide +kernel), ?_⟩
      refine ⟨_, rfl, rfl, false, strB "or" "not" _ (by decide +kernel), ?_⟩
      refine ⟨_, rfl, rfl, false, strB "or" "and" _ (by decide +kernel), ?_⟩
      refine ⟨_, rfl, rfl, true, strB "or" "or" _ (by decide +kernel), ?_⟩
      refine ⟨_, rfl, a, _, 1, _, rfl, rfl, ha, rfl, leT, fun p hp => ?_⟩
      have s1 := SD.Same.new (o := .tup [.str "not", x1]) hp
      refine ⟨_, rfl, a, _, 2, _, rfl, rfl, SD.Same.seqT s1 ha, rfl, leT, fun q hq => ?_⟩
      have s2 := SD.Same.new (o := .tup [.str "not", x2]) hq
      refine ⟨leT, fun z hz => ?_⟩
      have s3 := SD.Same.new (o := .tup [.str "and", .ref p, .ref q]) hz
      have ra : Rep K (upd (upd (upd H p (.tup [.str "not", x1])) q (.tup [.str "not", x2])) z (.tup [.str "and", .ref p, .ref q])) (.ref p) (dC (.no c)) := Rep.mk (s3 _ _ (s2 _ _ upd_same)) (by simp) (.cons (.sc rfl) (.cons (r1.same ((s1.trans s2).trans s3)) .nil))
      have rb : Rep K (upd (upd (upd H p (.tup [.str "not", x1])) q (.tup [.str "not", x2])) z (.tup [.str "and", .ref p, .ref q])) (.ref q) (dC (.no d)) := Rep.mk (s3 _ _ upd_same) (by simp) (.cons (.sc rfl) (.cons (r2.same ((s1.trans s2).trans s3)) .nil))
      exact ⟨_, .an (.no c) (.no d), rfl, Rep.mk upd_same (by simp) (.cons (.sc rfl) (.cons ra (.cons rb .nil))), by simp only [lvC]; omega, by simp only [dpC]; omega, fun y H4 s4 r4 => k y H4 (((s1.trans s2).trans s3).trans s4) r4⟩
theorem sc_folded : FnScope ["condition", "word"] ["condition"] (defScope st_folded) := ⟨rfl, rfl, rfl, by decide +kernel, rfl, by decide +kernel, by decide +kernel⟩
theorem step_folded (F : Fun K "folded" "folded" st_folded f fd) (n : Nat) (c_folded : Cal P w K mg base "folded" (n + 26) ["condition"] (spFold K n)) (c__folded_not : Cal P w K mg base "_folded_not" (n + 26) ["condition"] (spFoldNot K n)) (c__folded_comparison : Cal P w K mg base "_folded_comparison" 5 ["condition"] (spFoldCmp K)) (c__folded_pair : Cal P w K mg base "_folded_pair" 25 ["word", "left", "right", "idle", "final"] (spPair K)) : FnOk P w K mg base CX0 (n + 27) f fd ["condition"] (spFold K (n + 1)) := by
  refine F.ok (k := n + 26) sc_folded (fun vs H Q E h => ?_) (fun cdv A outer s H vs Q E hr h => ?_)
  · obtain ⟨x, c, rfl, _⟩ := h
    rfl
  · obtain ⟨x, c, rfl, hx, hl, hd, k⟩ := h
    have h5 : Room 5 _ := hr.mono (by omega)
    have h25 : Room 25 _ := hr.mono (by omega)
    refine ⟨_, (pss_cons (ps_set (i := 1) sc_folded.nd rfl (Or.inl rfl) (pe_ix ix_tup (pv 0) pe_int (fun _ _ => rfl))) (pss_cons (ps_if (pt_cmpR op_eq (pv 1) pe_str (nomark _)) (pss_one (ps_ret (pe_c c__folded_comparison h5 rfl (pa_cons (pv 0) pa_nil)))) pss_nil) (pss_cons (ps_if (pt_cmpR op_eq (pv 1) pe_str (nomark _)) (pss_one (ps_ret (pe_c c__folded_not hr rfl (pa_cons (pe_ix ix_tup (pv 0) pe_int (fun _ _ => rfl)) pa_nil)))) pss_nil) (pss_cons (ps_if (pt_cmpR op_eq (pv 1) pe_str (nomark _)) (pss_one (ps_ret (pe_c c__folded_pair h25 rfl (pa_cons pe_str (pa_cons (pe_c c_folded hr rfl (pa_cons (pe_ix ix_tup (pv 0) pe_int (fun _ _ => rfl)) pa_nil)) (pa_cons (pe_c c_folded hr rfl (pa_cons (pe_ix ix_tup (pv 0) pe_int (fun _ _ => rfl)) pa_nil)) (pa_cons (pe_tup (pa_cons pe_str pa_nil)) (pa_cons (pe_tup (pa_cons pe_str pa_nil)) pa_nil)))))))) pss_nil) (pss_cons (ps_if (pt_cmpR op_eq (pv 1) pe_str (nomark _)) (pss_one (ps_ret (pe_c c__folded_pair h25 rfl (pa_cons pe_str (pa_cons (pe_c c_folded hr rfl (pa_cons (pe_ix ix_tup (pv 0) pe_int (fun _ _ => rfl)) pa_nil)) (pa_cons (pe_c c_folded hr rfl (pa_cons (pe_ix ix_tup (pv 0) pe_int (fun _ _ => rfl)) pa_nil)) (pa_cons (pe_tup (pa_cons pe_str pa_nil)) (pa_cons (pe_tup (pa_cons pe_str pa_nil)) pa_nil)))))))) pss_nil) (pss_one (ps_ret (pv 0)))))))), ?_⟩
    cases c with
    | tt =>
      obtain ⟨a, rfl, ha⟩ := repTT hx
      refine ⟨_, rfl, a, _, 0, _, rfl, rfl, ha, rfl, ?_⟩
      refine ⟨_, rfl, rfl, false, strB "true" "compare" _ (by decide +kernel), ?_⟩
      refine ⟨_, rfl, rfl, false, strB "true" "not" _ (by decide +kernel), ?_⟩
      refine ⟨_, rfl, rfl, false, strB "true" "and" _ (by decide +kernel), ?_⟩
      refine ⟨_, rfl, rfl, false, strB "true" "or" _ (by decide +kernel), ?_⟩
      exact ⟨_, rfl, k _ _ (Same.refl H) hx⟩
    | ff =>
      obtain ⟨a, rfl, ha⟩ := repFF hx
      refine ⟨_, rfl, a, _, 0, _, rfl, rfl, ha, rfl, ?_⟩
      refine ⟨_, rfl, rfl, false, strB "false" "compare" _ (by decide +kernel), ?_⟩
      refine ⟨_, rfl, rfl, false, strB "false" "not" _ (by decide +kernel), ?_⟩
      refine ⟨_, rfl, rfl, false, strB "false" "and" _ (by decide +kernel), ?_⟩
      refine ⟨_, rfl, rfl, false, strB "false" "or" _ (by decide +kernel), ?_⟩
      exact ⟨_, rfl, k _ _ (Same.refl H) hx⟩
    | cmp o s t =>
      obtain ⟨a, x2, x3, rfl, ha, r2, r3⟩ := repCmp hx
      refine ⟨_, rfl, a, _, 0, _, rfl, rfl, ha, rfl, ?_⟩
      refine ⟨_, rfl, rfl, true, strB "compare" "compare" _ (by decide +kernel), ?_⟩
      exact ⟨_, rfl, _, o, s, t, rfl, hx, k⟩
    | no c =>
      obtain ⟨a, x1, rfl, ha, r1⟩ := repNo hx
      simp only [lvC, dpC] at hl hd
      refine ⟨_, rfl, a, _, 0, _, rfl, rfl, ha, rfl, ?_⟩
      refine ⟨_, rfl, rfl, false, strB "not" "compare" _ (by decide +kernel), ?_⟩
      refine ⟨_, rfl, rfl, true, strB "not" "not" _ (by decide +kernel), ?_⟩
      exact ⟨_, rfl, a, _, 1, _, rfl, rfl, ha, rfl, _, c, rfl, r1, by omega, by omega, k⟩
    | an c d =>
      obtain ⟨a, x1, x2, rfl, ha, r1, r2⟩ := repAn hx
      simp only [lvC, dpC] at hl hd
      refine ⟨_, rfl, a, _, 0, _, rfl, rfl, ha, rfl, ?_⟩
      refine ⟨_, rfl, rfl, false, strB "and" "compare" _ (by decide +kernel), ?_⟩
      refine ⟨_, rfl, rfl, false, strB "and" "not" _ (by decide +kernel), ?_⟩
      refine ⟨_, rfl, rfl, true, strB "and" "and" _ (by decide +kernel), ?_⟩
      refine ⟨_, rfl, a, _, 1, _, rfl, rfl, ha, rfl, _, c, rfl, r1, by omega, by omega, fun y1 H1 s1 q1 => ?_⟩
      refine ⟨_, rfl, a, _, 2, _, rfl, rfl, SD.Same.seqT s1 ha, rfl, _, d, rfl, r2.same s1, by omega, by omega, fun y2 H2 s2 q2 => ?_⟩
      refine ⟨leT, fun p hp => ⟨leT, fun q hq => ?_⟩⟩
      have s3 := SD.Same.new (o := .tup [.str "true"]) hp
      have s4 := SD.Same.new (o := .tup [.str "false"]) hq
      have e1 := dp_foldC c false
      have e2 := dp_foldC d false
      exact ⟨true, y1, y2, p, q, _, _, rfl, q1.same ((s2.trans s3).trans s4), q2.same (s3.trans s4), SqT.of (s4 _ _ upd_same), SqT.of upd_same, by omega, by omega, fun z H5 s5 r5 => k z H5 ((((s1.trans s2).trans s3).trans s4).trans s5) r5⟩
    | oo c d =>
      obtain ⟨a, x1, x2, rfl, ha, r1, r2⟩ := repOo hx
      simp only [lvC, dpC] at hl hd
      refine ⟨_, rfl, a, _, 0, _, rfl, rfl, ha, rfl, ?_⟩
      refine ⟨_, rfl, rfl, false, strB "or" "compare" _ (by decide +kernel), ?_⟩
      refine ⟨_, rfl, rfl, false, strB "or" "not" _ (by decide +kernel), ?_⟩
      refine ⟨_, rfl, rfl, false, strB "or" "and" _ (by decide +kernel), ?_⟩
      refine ⟨_, rfl, rfl, true, strB "or" "or" _ (by decide +kernel), ?_⟩
      refine ⟨_, rfl, a, _, 1, _, rfl, rfl, ha, rfl, _, c, rfl, r1, by omega, by omega, fun y1 H1 s1 q1 => ?_⟩
      refine ⟨_, rfl, a, _, 2, _, rfl, rfl, SD.Same.seqT s1 ha, rfl, _, d, rfl, r2.same s1, by omega, by omega, fun y2 H2 s2 q2 => ?_⟩
      refine ⟨leT, fun p hp => ⟨leT, fun q hq => ?_⟩⟩
      have s3 := SD.Same.new (o := .tup [.str "false"]) hp
      have s4 := SD.Same.new (o := .tup [.str "true"]) hq
      have e1 := dp_foldC c false
      have e2 := dp_foldC d false
      exact ⟨false, y1, y2, p, q, _, _, rfl, q1.same ((s2.trans s3).trans s4), q2.same (s3.trans s4), SqT.of (s4 _ _ upd_same), SqT.of upd_same, by omega, by omega, fun z H5 s5 r5 => k z H5 ((((s1.trans s2).trans s3).trans s4).trans s5) r5⟩
theorem ok_folds {f2 : Addr} {fd2 : FuncData} (F : Fun K "folded" "folded" st_folded f fd) (G : Fun K "_folded_not" "_folded_not" st__folded_not f2 fd2)
    (hm : mg "folded" = some (.ref f)) (b : Binds K fd ["condition"] []) (bk : BK "folded" st_folded ["condition"])
    (hm2 : mg "_folded_not" = some (.ref f2)) (b2 : Binds K fd2 ["condition"] []) (bk2 : BK "_folded_not" st__folded_not ["condition"])
    (D : DF K w mg "OPPOSITE" opp) (c__folded_comparison : Cal P w K mg base "_folded_comparison" 5 ["condition"] (spFoldCmp K)) (c__constant : Cal P w K mg base "_constant" 1 ["truth"] (spCst K)) (c__folded_pair : Cal P w K mg base "_folded_pair" 25 ["word", "left", "right", "idle", "final"] (spPair K)) : ∀ n : Nat,
    FnOk P w K mg base CX0 (n + 26) f fd ["condition"] (spFold K n) ∧ FnOk P w K mg base CX0 (n + 26) f2 fd2 ["condition"] (spFoldNot K n)
  | 0 => by
    refine ⟨F.ok (k := 25) sc_folded (fun vs H Q E h => ?_) (fun cdv A outer s H vs Q E hr h => ?_), G.ok (k := 25) sc__folded_not (fun vs H Q E h => ?_) (fun cdv A outer s H vs Q E hr h => ?_)⟩
    · obtain ⟨x, c, rfl, _⟩ := h
      rfl
    · obtain ⟨x, c, rfl, _, h0, _⟩ := h
      exact absurd h0 (Nat.not_lt_zero _)
    · obtain ⟨x, c, rfl, _⟩ := h
      rfl
    · obtain ⟨x, c, rfl, _, h0, _⟩ := h
      exact absurd h0 (Nat.not_lt_zero _)
  | n + 1 => by
    have i := ok_folds F G hm b bk hm2 b2 bk2 D c__folded_comparison c__constant c__folded_pair n
    have c1 : Cal P w K mg base "folded" (n + 26) ["condition"] (spFold K n) := cal_of F hm b bk i.1
    have c2 : Cal P w K mg base "_folded_not" (n + 26) ["condition"] (spFoldNot K n) := cal_of G hm2 b2 bk2 i.2
    exact ⟨step_folded F n c1 c2 c__folded_comparison c__folded_pair, step__folded_not G D n c1 c__folded_comparison c__constant⟩
end
end SD
namespace SD
open PySem L2
section
variable {P : Program} {w : World} {K : PySem.W.Frag} {mg : Str → Option Value} {base : Heap} {f : Addr} {fd : FuncData}

end
end SD
namespace SD
open PySem L2
section
variable {P : Program} {w : World} {K : PySem.W.Frag} {mg : Str → Option Value} {base : Heap} {f : Addr} {fd : FuncData}
theorem sc__law_mix : FnScope ["number", "turn", "low", "high", "once", "twice"] ["number", "turn"] (defScope st__law_mix) := ⟨rfl, rfl, rfl, by decide +kernel, rfl, by decide +kernel, by decide +kernel⟩
theorem ok__law_mix (F : Fun K "_law_mix" "_law_mix" st__law_mix f fd) (T : Tx mg) : FnOk P w K mg base CX0 1 f fd ["number", "turn"] spMix := by
  refine F.ok sc__law_mix (fun vs H Q E h => ?_) (fun cdv A outer s H vs Q E hr h => ?_)
  · obtain ⟨n, t, rfl, _⟩ := h
    rfl
  · obtain ⟨n, t, rfl, k⟩ := h
    refine ⟨_, (pss_cons (ps_set (i := 2) sc__law_mix.nd rfl (Or.inl rfl) (pe_op op_mod (pe_callTy call_int1 (by rfl) T.int PyProof.Rows.boot_int (pa_cons (pv 0) pa_nil)) pe_int)) (pss_cons (ps_set (i := 3) sc__law_mix.nd rfl (Or.inl rfl) (pe_op op_mod (pe_callTy call_int1 (by rfl) T.int PyProof.Rows.boot_int (pa_cons (pe_op op_fdivW (pe_callTy call_int1 (by rfl) T.int PyProof.Rows.boot_int (pa_cons (pv 0) pa_nil)) pe_int) pa_nil)) pe_int)) (pss_cons (ps_set (i := 4) sc__law_mix.nd rfl (Or.inl rfl) (pe_op op_mod (pe_callTy call_int1 (by rfl) T.int PyProof.Rows.boot_int (pa_cons (pe_op op_add (pe_op op_add (pe_op op_add (pe_op op_mul (pv 2) pe_int) (pe_op op_mul (pv 3) pe_int)) (pe_op op_mul (pv 1) pe_int)) pe_int) pa_nil)) pe_int)) (pss_cons (ps_set (i := 5) sc__law_mix.nd rfl (Or.inl rfl) (pe_op op_mod (pe_callTy call_int1 (by rfl) T.int PyProof.Rows.boot_int (pa_cons (pe_op op_add (pe_op op_add (pe_op op_mul (pe_op op_fdiv (pv 4) pe_int) (pv 4)) (pe_op op_mul (pv 1) pe_int)) (pv 2)) pa_nil)) pe_int)) (pss_one (ps_ret (pe_op op_fdiv (pv 5) pe_int))))))), ?_⟩
    refine ⟨_, rfl, .inl ⟨n, rfl, _, _, rfl, rfl, by show (0 : Int) < 2147483647; decide, ?_⟩⟩
    refine ⟨_, rfl, .inl ⟨n, rfl, _, _, rfl, rfl, ⟨by decide, by decide +kernel⟩, .inl ⟨_, rfl, _, _, rfl, rfl, by show (0 : Int) < 2147483629; decide, ?_⟩⟩⟩
    generalize n % 2147483647 = lo
    generalize n / 2147483647 % 2147483629 = hi
    refine ⟨_, rfl, _, _, rfl, rfl, .inr ⟨by decide, by decide⟩, _, rfl, _, _, rfl, rfl, .inr ⟨by decide, by decide⟩, _, _, rfl, rfl, _, rfl, _, _, rfl, rfl, .inr ⟨by decide, by decide⟩, _, _, rfl, rfl, _, _, rfl, rfl, ?_⟩
    refine .inl ⟨_, rfl, _, _, rfl, rfl, by show (0 : Int) < 2147483647; decide, ?_⟩
    generalize lo * 742938285 + hi * 950706376 + t * 1226874159 + 62089911 = big
    have o1 : 0 ≤ big % 2147483647 := Int.emod_nonneg _ (by decide)
    have o2 : big % 2147483647 < 2147483647 := Int.emod_lt_of_pos _ (by decide)
    generalize big % 2147483647 = once at o1 o2 ⊢
    refine ⟨_, rfl, _, _, rfl, rfl, ⟨by decide, by decide⟩, _, rfl, _, _, rfl, rfl, .inr ⟨by omega, by omega⟩, _, rfl, _, _, rfl, rfl, .inr ⟨by decide, by decide⟩, _, _, rfl, rfl, _, rfl, _, _, rfl, rfl, ?_⟩
    refine .inl ⟨_, rfl, _, _, rfl, rfl, by show (0 : Int) < 2147483629; decide, ?_⟩
    generalize once / 127 * once + t * 16807 + lo = b2
    have p1 : 0 ≤ b2 % 2147483629 := Int.emod_nonneg _ (by decide)
    have p2 : b2 % 2147483629 < 2147483629 := Int.emod_lt_of_pos _ (by decide)
    generalize b2 % 2147483629 = tw at p1 p2 ⊢
    exact ⟨_, rfl, _, _, rfl, rfl, ⟨by decide, by decide⟩, k _ (by omega) (by omega)⟩
end
end SD
namespace SD
open PySem L2
section
variable {P : Program} {w : World} {K : PySem.W.Frag} {mg : Str → Option Value} {base : Heap} {f : Addr} {fd : FuncData}
theorem sc__law_store : FnScope ["script", "cell", "cells", "seed"] ["script"] (defScope st__law_store) := ⟨rfl, rfl, rfl, by decide +kernel, rfl, by decide +kernel, by decide +kernel⟩
theorem ok__law_store (F : Fun K "_law_store" "_law_store" st__law_store f fd) (T : Tx mg) (c__law_mix : Cal P w K mg base "_law_mix" 1 ["number", "turn"] spMix) : FnOk P w K mg base CX0 2 f fd ["script"] (spStore K) := by
  refine F.ok sc__law_store (fun vs H Q E h => ?_) (fun cdv A outer s H vs Q E hr h => ?_)
  · obtain ⟨a, ns, rfl, _⟩ := h
    rfl
  · obtain ⟨a, ns, rfl, hS, hl, k⟩ := h
    refine ⟨_, (pss_cons (ps_setLc (i := 2) (own := [("cell", 1)]) (g := gName 1) (tt := tYes) rfl sc__law_store.nd rfl rfl (sw_true rfl rfl rfl (by decide +kernel)) (pi_list (pv 0)) (blkOk_by (N := ["script", "cell", "cells", "seed"]) (sc := defScope st__law_store) (by decide +kernel))
          (fun _ _ _ _ _ => pg_name (i := 1) sc__law_store.nd rfl (Or.inl rfl)) (fun _ _ _ _ _ => pts_nil) (fun _ _ _ _ _ => (pe_callTy call_int1 (by rfl) T.int PyProof.Rows.boot_int (pa_cons (pv 1) pa_nil)))) (pss_cons (ps_set (i := 3) sc__law_store.nd rfl (Or.inl rfl) (pe_callB call_len_seq (by rfl) T.len PySem.boot_len (pa_cons (pv 2) pa_nil))) (pss_cons (ps_for PassesOwn.never rfl (pi_list (pv 2)) (pg_name (i := 1) sc__law_store.nd rfl (Or.inl rfl)) (pss_one (ps_set (i := 3) sc__law_store.nd rfl (Or.inl rfl) (pe_c c__law_mix hr rfl (pa_cons (pv 1) (pa_cons (pv 3) pa_nil)))))) (pss_one (ps_ret (pe_lst (pa_cons (pv 2) (pa_cons pe_int (pa_cons pe_int (pa_cons pe_int (pa_cons (pv 3) pa_nil))))))))))), ?_⟩
    refine ⟨_, rfl, a, rfl, ⟨_, hS⟩, fun D hD => ?_⟩
    have slot : ∀ (i : Nat) (y : V), (ns.map V.int)[i]? = some y → i < ns.length ∧ ∃ z : Int, y = .int z ∧ ns[i]? = some z := fun i y hy => by
      rw [List.getElem?_map] at hy
      cases e : ns[i]? with
      | none => rw [e] at hy; cases hy
      | some z => rw [e] at hy; exact ⟨(List.getElem?_eq_some_iff.mp e).1, z, (Option.some.inj hy).symm, rfl⟩
    refine lc_list (K := K) (a := a) (xs := ns.map V.int) (fun i H' => ∃ ms : List Int, H' D = some (.lst (ms.map V.int)) ∧ ms.length = i ∧ Same H H') ⟨[], upd_same, rfl, SD.Same.new hD⟩ (fun i H' _ ⟨_, _, _, s⟩ => s.seq hS) ?_ ?_
    · rintro i y H' hy ⟨ms, h1, h2, h3⟩
      obtain ⟨hi, z, rfl, _⟩ := slot i y hy
      refine ⟨rfl, _, rfl, .inl ⟨z, rfl, ms.map V.int, h1, small1000 (by rw [List.length_map]; omega), ms ++ [z], ?_, by simp [h2], SD.Same.mut h3 hD⟩⟩
      rw [upd_same]; simp
    · rintro H' ⟨ms, h1, h2, h3⟩
      have nD : ∀ {b : Addr} {o : HO}, H b = some o → b ≠ D := fun e => ne_of_none e hD
      refine ⟨_, rfl, D, ms.map V.int, rfl, .inl (SqL.of h1), ?_⟩
      refine ⟨_, rfl, D, rfl, ⟨_, SqL.of h1⟩, ?_⟩
      refine for_list (K := K) (a := D) (xs := ms.map V.int) (fun i σ H2 => ∃ (o : Option V) (z : Int), σ = [some (.ref a), o, some (.ref D), some (.int z)] ∧ H2 = H') ⟨_, _, rfl, rfl⟩ (fun i σ H2 _ ⟨_, _, _, e⟩ => by rw [e]; exact SqL.of h1) ?_ ?_
      · rintro i y σ H2 hy ⟨o, z, rfl, rfl⟩
        obtain ⟨m, rfl⟩ : ∃ m, y = V.int m := by
          rw [List.getElem?_map] at hy
          cases e : ms[i]? with
          | none => rw [e] at hy; cases hy
          | some m => rw [e] at hy; exact ⟨m, (Option.some.inj hy).symm⟩
        exact ⟨_, rfl, _, rfl, m, z, rfl, fun r _ _ => ⟨_, r, rfl, rfl⟩⟩
      · rintro σ H2 ⟨o, z, rfl, rfl⟩
        refine ⟨_, rfl, _, rfl, by show 5 ≤ sizeLine; decide, fun st hst => ?_⟩
        have ns1 : D ≠ st := fun e => by rw [e, hst] at h1; cases h1
        have hst0 : H st = none := h3.free hst
        exact k st D _ hst0 hD (h3.trans (SD.Same.new hst)) ⟨ms, 0, 0, 0, z, upd_same, by rw [upd_ne ns1]; exact h1, by decide, by decide⟩
end
end SD
namespace SD
open PySem L2
section
variable {P : Program} {w : World} {K : PySem.W.Frag} {mg : Str → Option Value} {base : Heap} {f : Addr} {fd : FuncData}
theorem sc__law_take : FnScope ["store", "many", "cell", "rest"] ["store", "many"] (defScope st__law_take) := ⟨rfl, rfl, rfl, by decide +kernel, rfl, by decide +kernel, by decide +kernel⟩
theorem ok__law_take (F : Fun K "_law_take" "_law_take" st__law_take f fd) (T : Tx mg) (c__law_mix : Cal P w K mg base "_law_mix" 1 ["number", "turn"] spMix) : FnOk P w K mg base CX0 2 f fd ["store", "many"] spTake := by
  refine F.ok sc__law_take (fun vs H Q E h => ?_) (fun cdv A outer s H vs Q E hr h => ?_)
  · obtain ⟨st, c, n, rfl, _⟩ := h
    rfl
  · obtain ⟨st, c, n, rfl, hS, hn, k⟩ := h
    refine ⟨_, (pss_cons (ps_if (pt_cmpR op_lt (pv 1) pe_int (nomark _)) (pss_one (ps_ret pe_int)) pss_nil) (pss_cons (ps_if (PW.pt (pw_and (pt_cmpR op_eq (pe_ix ix_list (pv 0) pe_int (fun _ _ => rfl)) pe_int (nomark _)) (pw_and1 (pt_cmpR op_lt (pe_ix ix_list (pv 0) pe_int (fun _ _ => rfl)) (pe_callB call_len_seq (by rfl) T.len PySem.boot_len (pa_cons (pe_ix ix_list (pv 0) pe_int (fun _ _ => rfl)) pa_nil)) (nomark _))))) (pss_cons (ps_set (i := 2) sc__law_take.nd rfl (Or.inl rfl) (pe_ix ix_list (pe_ix ix_list (pv 0) pe_int (fun _ _ => rfl)) (pe_ix ix_list (pv 0) pe_int (fun _ _ => rfl)) (fun _ _ => rfl))) (pss_cons (ps_asg (pe_op op_add (pe_ix ix_list (pv 0) pe_int (fun _ _ => rfl)) pe_int) (pg_sub (pv 0) pe_int set_list)) (pss_cons (ps_if (pt_cmpR op_lt (pv 2) (pe_op op_pow pe_int pe_int) (nomark _)) (pss_cons (ps_asg (pe_op op_add (pe_ix ix_list (pv 0) pe_int (fun _ _ => rfl)) pe_int) (pg_sub (pv 0) pe_int set_list)) (pss_one (ps_ret (pe_op op_mod (pe_callTy call_int1 (by rfl) T.int PyProof.Rows.boot_int (pa_cons (pe_c c__law_mix hr rfl (pa_cons (pv 2) (pa_cons (pe_ix ix_list (pv 0) pe_int (fun _ _ => rfl)) pa_nil))) pa_nil)) (pv 1))))) pss_nil) (pss_one (ps_asg (pv 2) (pg_sub (pv 0) pe_int set_list)))))) pss_nil) (pss_cons (ps_if (pt_cmpR op_gt (pe_ix ix_list (pv 0) pe_int (fun _ _ => rfl)) pe_int (nomark _)) (pss_cons (ps_set (i := 3) sc__law_take.nd rfl (Or.inl rfl) (pe_ix ix_list (pv 0) pe_int (fun _ _ => rfl))) (pss_cons (ps_asg (pe_op op_fdivW (pv 3) (pv 1)) (pg_sub (pv 0) pe_int set_list)) (pss_one (ps_ret (pe_op op_mod (pe_callTy call_int1 (by rfl) T.int PyProof.Rows.boot_int (pa_cons (pv 3) pa_nil)) (pv 1)))))) pss_nil) (pss_cons (ps_asg (pe_op op_add (pe_ix ix_list (pv 0) pe_int (fun _ _ => rfl)) pe_int) (pg_sub (pv 0) pe_int set_list)) (pss_one (ps_ret (pe_op op_mod (pe_callTy call_int1 (by rfl) T.int PyProof.Rows.boot_int (pa_cons (pe_c c__law_mix hr rfl (pa_cons (pe_ix ix_list (pv 0) pe_int (fun _ _ => rfl)) (pa_cons (pe_ix ix_list (pv 0) pe_int (fun _ _ => rfl)) pa_nil))) pa_nil)) (pv 1)))))))), ?_⟩
    obtain ⟨ns, i, x, t, z, h1, h2, hi, hx⟩ := id hS
    have ne := hS.ne
    refine ⟨_, rfl, _, _, rfl, rfl, decide (n < 2), rfl, ?_⟩
    by_cases hn2 : n < 2
    · rw [decide_eq_true hn2]
      exact iteT (k 0 H (Ext.refl hS) (by omega) (.inr ⟨hn2, rfl⟩))
    rw [decide_eq_false hn2]
    refine iteF ?_
    have np : 0 < n := by omega
    have md : ∀ (r : Int) H', Ext st c H H' → Q (.int (r % n)) H' := fun r H' e => k _ _ e (Int.emod_nonneg _ (by omega)) (.inl (Int.emod_lt_of_pos _ np))
    have dv : CDivW x n := wide_div np hn (by decide) (by decide)
    -- the end, from any store of ours
    have last : ∀ (H' : Hp) (i x t : Int) (a b : Option V), Ext st c H H' → H' st = some (.lst [.ref c, .int i, .int x, .int t, .int z]) → H' c = some (.lst (ns.map V.int)) → 0 ≤ i → 0 ≤ x →
        (tIfS (tTest (tOp (rI0 fun i j => .bl (decide (j < i))) (tOp (rIxL K) (tVar 0) (tC (.int 2))) (tC (.int 0))))
          (tSeq (tAsg (tOp (rIxL K) (tVar 0) (tC (.int 2))) (gName 3)) (tSeq (tAsg (tOp (rI CDivW fun i j => .int (i / j)) (tVar 3) (tVar 1)) (gSub (tVar 0) (tC (.int 2)) rSetL)) (tRet (tOp (rI (fun _ j => 0 < j) fun i j => .int (i % j)) (tCB (fun xs H Q => (∃ i, xs = [.int i] ∧ Q (.int i) H) ∨ ∃ k, xs = [.bl k] ∧ Q (.int (if k then 1 else 0)) H) (tCons (tVar 3) tNil)) (tVar 1))))) tNext)
          { nx := tSeq (tAsg (tOp (rI0 fun i j => .int (i + j)) (tOp (rIxL K) (tVar 0) (tC (.int 3))) (tC (.int 1))) (gSub (tVar 0) (tC (.int 3)) rSetL))
              (tRet (tOp (rI (fun _ j => 0 < j) fun i j => .int (i % j)) (tCB (fun xs H Q => (∃ i, xs = [.int i] ∧ Q (.int i) H) ∨ ∃ k, xs = [.bl k] ∧ Q (.int (if k then 1 else 0)) H) (tCons (tCall spMix [] E0 (tCons (tOp (rIxL K) (tVar 0) (tC (.int 4))) (tCons (tOp (rIxL K) (tVar 0) (tC (.int 3))) tNil))) tNil)) (tVar 1)))
              { nx := fun _ H' => Q .non H', rt := Q }, rt := Q } [some (.ref st), some (.int n), a, b] H' := by
      intro H' i x t a b e g1 g2 hi hx
      refine ⟨_, rfl, st, _, _, _, rfl, rfl, SqL.of g1, rfl, _, _, rfl, rfl, decide (0 < x), rfl, ?_⟩
      by_cases hx0 : 0 < x
      · rw [decide_eq_true hx0]
        refine iteT ⟨_, rfl, st, _, _, _, rfl, rfl, SqL.of g1, rfl, ?_⟩
        refine ⟨_, rfl, _, rfl, x, n, rfl, rfl, wide_div np hn (by decide) (by decide), _, rfl, st, _, _, 2, rfl, rfl, g1, rfl, ?_⟩
        exact ⟨_, rfl, .inl ⟨x, rfl, _, rfl, x, n, rfl, rfl, np, md x _ (e.trans (sto_put g1 g2 ne i (x / n) t z hi (Int.ediv_nonneg (by omega) (by omega))))⟩⟩
      · rw [decide_eq_false hx0]
        refine iteF ⟨_, rfl, st, _, _, _, rfl, rfl, SqL.of g1, rfl, t, 1, rfl, rfl, _, rfl, st, _, _, 3, rfl, rfl, g1, rfl, ?_⟩
        have e2 := e.trans (sto_put g1 g2 ne i x (t + 1) z hi hx)
        refine ⟨_, rfl, st, _, _, _, rfl, rfl, SqL.of upd_same, rfl, _, rfl, st, _, _, _, rfl, rfl, SqL.of upd_same, rfl, z, t + 1, rfl, fun r r0 r1 => ?_⟩
        exact .inl ⟨r, rfl, _, rfl, r, n, rfl, rfl, np, md r _ e2⟩
    refine ⟨_, rfl, st, _, _, _, rfl, rfl, SqL.of h1, rfl, rfl, decide (V.int x = V.int 0), rfl, ?_⟩
    by_cases hx0 : x = 0
    · subst hx0
      rw [decide_eq_true rfl]
      refine iteT ⟨_, rfl, st, _, _, _, rfl, rfl, SqL.of h1, rfl, _, rfl, st, _, _, _, rfl, rfl, SqL.of h1, rfl, c, ns.map V.int, rfl, .inl (SqL.of h2), i, _, rfl, rfl, decide (i < ((ns.map V.int).length : Int)), rfl, ?_⟩
      by_cases hlt : i < ((ns.map V.int).length : Int)
      · rw [decide_eq_true hlt]
        refine iteT ?_
        have hl2 : i.toNat < ns.length := by
          rw [List.length_map] at hlt
          omega
        have hat : atI (ns.map V.int) i = some (.int (ns[i.toNat])) := by
          have : (ns.map V.int)[i.toNat]? = some (.int (ns[i.toNat])) := by simp [hl2]
          have q := atI_nat this
          rw [Int.toNat_of_nonneg hi] at q
          exact q
        generalize ns[i.toNat] = cell at hat
        refine ⟨_, rfl, st, _, _, _, rfl, rfl, SqL.of h1, rfl, _, rfl, st, _, _, _, rfl, rfl, SqL.of h1, rfl, c, ns.map V.int, i, .int cell, rfl, rfl, SqL.of h2, hat, ?_⟩
        refine ⟨_, rfl, st, _, _, _, rfl, rfl, SqL.of h1, rfl, i, 1, rfl, rfl, _, rfl, st, _, _, 1, rfl, rfl, h1, rfl, ?_⟩
        have e1 := sto_put h1 h2 ne (i + 1) 0 t z (by omega) (by omega)
        have g1 : (upd H st (.lst [.ref c, .int (i + 1), .int 0, .int t, .int z])) st = some (.lst [.ref c, .int (i + 1), .int 0, .int t, .int z]) := upd_same
        have g2 : (upd H st (.lst [.ref c, .int (i + 1), .int 0, .int t, .int z])) c = some (.lst (ns.map V.int)) := by rw [upd_ne ne]; exact h2
        refine ⟨_, rfl, 10, 18, rfl, rfl, ⟨by decide, by decide, by decide⟩, cell, _, rfl, rfl, decide (cell < 10 ^ (18 : Int).toNat), rfl, ?_⟩
        by_cases hc : cell < 10 ^ (18 : Int).toNat
        · rw [decide_eq_true hc]
          refine iteT ⟨_, rfl, st, _, _, _, rfl, rfl, SqL.of g1, rfl, t, 1, rfl, rfl, _, rfl, st, _, _, 3, rfl, rfl, g1, rfl, ?_⟩
          refine ⟨_, rfl, _, rfl, st, _, _, _, rfl, rfl, SqL.of upd_same, rfl, cell, t + 1, rfl, fun r r0 r1 => ?_⟩
          exact .inl ⟨r, rfl, _, rfl, r, n, rfl, rfl, np, md r _ (e1.trans (sto_put g1 g2 ne (i + 1) 0 (t + 1) z (by omega) (by omega)))⟩
        · rw [decide_eq_false hc]
          have hc0 : 0 ≤ cell := by
            have : (10 : Int) ^ (18 : Int).toNat = 1000000000000000000 := by decide
            rw [this] at hc
            omega
          refine iteF ⟨_, rfl, _, rfl, st, _, _, 2, rfl, rfl, g1, rfl, ?_⟩
          exact last _ (i + 1) cell t _ _ (e1.trans (sto_put g1 g2 ne (i + 1) cell t z (by omega) hc0)) upd_same (by rw [upd_ne ne]; exact g2) (by omega) hc0
      · rw [decide_eq_false hlt]
        exact iteF (last H i 0 t _ _ (Ext.refl hS) h1 h2 hi hx)
    · have : ¬ V.int x = V.int 0 := fun q => hx0 (by injection q)
      rw [decide_eq_false this]
      exact iteF (last H i x t _ _ (Ext.refl hS) h1 h2 hi hx)
end
end SD
namespace SD
open PySem L2
section
variable {P : Program} {w : World} {K : PySem.W.Frag} {mg : Str → Option Value} {base : Heap} {f : Addr} {fd : FuncData}
theorem sc__law_odds : FnScope ["store", "many"] ["store", "many"] (defScope st__law_odds) := ⟨rfl, rfl, rfl, by decide +kernel, rfl, by decide +kernel, by decide +kernel⟩
theorem ok__law_odds (F : Fun K "_law_odds" "_law_odds" st__law_odds f fd) (c__law_take : Cal P w K mg base "_law_take" 2 ["store", "many"] spTake) : FnOk P w K mg base CX0 3 f fd ["store", "many"] spOdds := by
  refine F.ok sc__law_odds (fun vs H Q E h => ?_) (fun cdv A outer s H vs Q E hr h => ?_)
  · obtain ⟨st, c, n, rfl, _⟩ := h
    rfl
  · obtain ⟨st, c, n, rfl, hS, hn, k⟩ := h
    refine ⟨_, (pss_one (ps_ret (pe_cmpR op_eq (pe_c c__law_take hr rfl (pa_cons (pv 0) (pa_cons (pv 1) pa_nil))) pe_int (nomark _)))), ?_⟩
    exact ⟨_, rfl, _, rfl, st, c, n, rfl, hS, hn, fun r H' e _ _ => ⟨rfl, k _ _ e⟩⟩
end
end SD
namespace SD
open PySem L2
section
variable {P : Program} {w : World} {K : PySem.W.Frag} {mg : Str → Option Value} {base : Heap} {f : Addr} {fd : FuncData}
theorem sc__law_count : FnScope ["store", "least", "usual", "most", "edge"] ["store", "least", "usual", "most"] (defScope st__law_count) := ⟨rfl, rfl, rfl, by decide +kernel, rfl, by decide +kernel, by decide +kernel⟩
theorem ok__law_count (F : Fun K "_law_count" "_law_count" st__law_count f fd) (c__law_take : Cal P w K mg base "_law_take" 2 ["store", "many"] spTake) : FnOk P w K mg base CX0 3 f fd ["store", "least", "usual", "most"] spCount := by
  refine F.ok sc__law_count (fun vs H Q E h => ?_) (fun cdv A outer s H vs Q E hr h => ?_)
  · obtain ⟨st, c, l, u, m, rfl, _⟩ := h
    rfl
  · obtain ⟨st, c, l, u, m, rfl, hS, hl, hu, hm, hb, k⟩ := h
    have p2 : (2 : Int) ^ 100 = 1267650600228229401496703205376 := by decide +kernel
    have p3 : (2 : Nat) ^ 200 = 1606938044258990275541962092341162602522202993782792835301376 := by decide +kernel
    rw [p2] at hb
    refine ⟨_, (pss_cons (ps_set (i := 4) sc__law_count.nd rfl (Or.inl rfl) (pe_c c__law_take hr rfl (pa_cons (pv 0) (pa_cons pe_int pa_nil)))) (pss_cons (ps_if (pt_cmpR op_eq (pv 4) pe_int (nomark _)) (pss_one (ps_ret (pv 3))) pss_nil) (pss_cons (ps_if (pt_cmpR op_eq (pv 4) pe_int (nomark _)) (pss_one (ps_ret (pe_op op_add (pv 1) (pe_c c__law_take hr rfl (pa_cons (pv 0) (pa_cons (pe_op op_add (pe_op op_sub (pv 3) (pv 1)) pe_int) pa_nil)))))) pss_nil) (pss_cons (ps_if (pt_cmpR op_gt (pv 4) pe_int (nomark _)) (pss_one (ps_ret (pv 1))) pss_nil) (pss_one (ps_ret (pe_op op_add (pv 1) (pe_c c__law_take hr rfl (pa_cons (pv 0) (pa_cons (pe_op op_add (pe_op op_sub (pv 2) (pv 1)) pe_int) pa_nil)))))))))), ?_⟩
    refine ⟨_, rfl, st, c, 12, rfl, hS, by decide, fun r H1 e1 r0 r1 => ?_⟩
    refine ⟨_, rfl, rfl, decide (V.int r = V.int 11), rfl, ?_⟩
    refine ite2 (fun _ => ⟨_, rfl, k m H1 e1 (by omega) (by omega)⟩) fun _ => ?_
    refine ⟨_, rfl, rfl, decide (V.int r = V.int 10), rfl, ?_⟩
    refine ite2 (fun _ => ?_) fun _ => ?_
    · refine ⟨_, rfl, _, rfl, _, rfl, _, rfl, m, l, rfl, rfl, _, _, rfl, rfl, st, c, m - l + 1, rfl, e1.sto, by rw [p3]; omega, fun r2 H2 e2 q0 q1 => ?_⟩
      exact ⟨l, r2, rfl, rfl, k _ _ (e1.trans e2) (by omega) (by omega)⟩
    refine ⟨_, rfl, r, 6, rfl, rfl, decide (6 < r), rfl, ?_⟩
    refine ite2 (fun _ => ⟨_, rfl, k l H1 e1 (by omega) (by omega)⟩) fun _ => ?_
    refine ⟨_, rfl, _, rfl, _, rfl, _, rfl, u, l, rfl, rfl, _, _, rfl, rfl, st, c, u - l + 1, rfl, e1.sto, by rw [p3]; omega, fun r2 H2 e2 q0 q1 => ?_⟩
    exact ⟨l, r2, rfl, rfl, k _ _ (e1.trans e2) (by omega) (by omega)⟩
end
end SD
namespace SD
open PySem L2
section
variable {P : Program} {w : World} {K : PySem.W.Frag} {mg : Str → Option Value} {base : Heap} {f : Addr} {fd : FuncData}
theorem sc__law_one : FnScope ["store", "row"] ["store", "row"] (defScope st__law_one) := ⟨rfl, rfl, rfl, by decide +kernel, rfl, by decide +kernel, by decide +kernel⟩
theorem ok__law_one (F : Fun K "_law_one" "_law_one" st__law_one f fd) (T : Tx mg) (c__law_take : Cal P w K mg base "_law_take" 2 ["store", "many"] spTake) : FnOk P w K mg base CX0 3 f fd ["store", "row"] (spOne K) := by
  refine F.ok sc__law_one (fun vs H Q E h => ?_) (fun cdv A outer s H vs Q E hr h => ?_)
  · obtain ⟨st, c, a, xs, rfl, _⟩ := h
    rfl
  · obtain ⟨st, c, a, xs, rfl, hS, na, hq, hl, k⟩ := h
    refine ⟨_, (pss_cons (ps_if (pt_cmpR op_eq (pe_callB call_len_seq (by rfl) T.len PySem.boot_len (pa_cons (pv 1) pa_nil)) pe_int (nomark _)) (pss_one (ps_ret pe_non)) pss_nil) (pss_one (ps_ret (pe_ix ix_seq (pv 1) (pe_c c__law_take hr rfl (pa_cons (pv 0) (pa_cons (pe_callB call_len_seq (by rfl) T.len PySem.boot_len (pa_cons (pv 1) pa_nil)) pa_nil))) (fun _ _ => rfl))))), ?_⟩
    refine ⟨_, rfl, a, xs, rfl, hq, rfl, decide (V.int (xs.length : Int) = V.int 0), rfl, ?_⟩
    refine ite2 (fun e => ?_) fun e => ?_
    · have e0 := of_decide_eq_true e
      have : xs = [] := by
        injection e0 with e0
        exact List.eq_nil_of_length_eq_zero (by omega)
      exact k .non H (Ext.refl hS) (.inl ⟨this, rfl⟩)
    · have h0 : xs.length ≠ 0 := fun z => e (decide_eq_true (by rw [z]; rfl))
      have p3 : (2 : Nat) ^ 200 = 1606938044258990275541962092341162602522202993782792835301376 := by decide +kernel
      refine ⟨_, rfl, _, rfl, _, rfl, a, xs, rfl, hq, st, c, (xs.length : Int), rfl, hS, by rw [p3]; omega, fun r H1 e1 r0 r1 => ?_⟩
      obtain ⟨v, hv, hm⟩ := at_mem (xs := xs) r0 (by omega)
      rcases hq with hq | hq
      · exact .inl ⟨a, xs, r, v, rfl, rfl, e1.seqL na hq, hv, k v H1 e1 (.inr hm)⟩
      · exact .inr (.inl ⟨a, xs, r, v, rfl, rfl, e1.seqT hS hq, hv, k v H1 e1 (.inr hm)⟩)
end
end SD
namespace SD
open PySem L2
section
variable {P : Program} {w : World} {K : PySem.W.Frag} {mg : Str → Option Value} {base : Heap} {f : Addr} {fd : FuncData}
theorem sc__law_number : FnScope ["store", "kind", "large", "k"] ["store"] (defScope st__law_number) := ⟨rfl, rfl, rfl, by decide +kernel, rfl, by decide +kernel, by decide +kernel⟩
theorem ok__law_number (F : Fun K "_law_number" "_law_number" st__law_number f fd) (T : Tx mg) (c__law_take : Cal P w K mg base "_law_take" 2 ["store", "many"] spTake) : FnOk P w K mg base CX0 3 f fd ["store"] spNumber := by
  refine F.ok sc__law_number (fun vs H Q E h => ?_) (fun cdv A outer s H vs Q E hr h => ?_)
  · obtain ⟨st, c, rfl, _⟩ := h
    rfl
  · obtain ⟨st, c, rfl, hS, k⟩ := h
    refine ⟨_, (pss_cons (ps_set (i := 1) sc__law_number.nd rfl (Or.inl rfl) (pe_c c__law_take hr rfl (pa_cons (pv 0) (pa_cons pe_int pa_nil)))) (pss_cons (ps_if (pt_cmpR op_lt (pv 1) pe_int (nomark _)) (pss_one (ps_ret (pe_op op_sub (pe_c c__law_take hr rfl (pa_cons (pv 0) (pa_cons pe_int pa_nil))) pe_int))) pss_nil) (pss_cons (ps_if (pt_cmpR op_eq (pv 1) pe_int (nomark _)) (pss_one (ps_ret (pe_op op_sub (pe_c c__law_take hr rfl (pa_cons (pv 0) (pa_cons pe_int pa_nil))) pe_int))) pss_nil) (pss_cons (ps_if (pt_cmpR op_eq (pv 1) pe_int (nomark _)) (pss_one (ps_ret (pe_ix ix_list (pe_lst (pa_cons pe_int (pa_cons pe_int (pa_cons (pe_un un_neg pe_int) (pa_cons pe_int (pa_cons pe_int (pa_cons (pe_op op_sub pe_int (pe_op op_pow pe_int pe_int)) (pa_cons (pe_op op_sub (pe_op op_pow pe_int pe_int) pe_int) (pa_cons (pe_op op_pow pe_int pe_int) (pa_cons (pe_un un_neg pe_int) (pa_cons pe_int pa_nil))))))))))) (pe_c c__law_take hr rfl (pa_cons (pv 0) (pa_cons pe_int pa_nil))) (fun _ _ => rfl)))) pss_nil) (pss_cons (ps_set (i := 2) sc__law_number.nd rfl (Or.inl rfl) pe_int) (pss_cons (ps_for PassesOwn.never rfl (pi_range1 (by rfl) T.range (pa_cons (pe_op op_add pe_int (pe_c c__law_take hr rfl (pa_cons (pv 0) (pa_cons pe_int pa_nil)))) pa_nil)) (pg_name (i := 3) sc__law_number.nd rfl (Or.inl rfl)) (pss_one (ps_set (i := 2) sc__law_number.nd rfl (Or.inl rfl) (pe_op op_add (pe_op op_mul (pv 2) pe_int) (pe_c c__law_take hr rfl (pa_cons (pv 0) (pa_cons pe_int pa_nil))))))) (pss_cons (ps_if (pt_cmpR op_eq (pv 1) pe_int (nomark _)) (pss_one (ps_ret (pv 2))) pss_nil) (pss_one (ps_ret (pe_un un_neg (pv 2))))))))))), ?_⟩
    refine ⟨_, rfl, st, c, 8, rfl, hS, by decide, fun r H1 e1 r0 r1 => ?_⟩
    have pb : (10 : Nat) ^ 31 = 10000000000000000000000000000000 := by decide +kernel
    refine ⟨_, rfl, r, 4, rfl, rfl, decide (r < 4), rfl, ?_⟩
    refine ite2 (fun _ => ?_) fun _ => ?_
    · exact ⟨_, rfl, st, c, 5, rfl, e1.sto, by decide, fun r2 H2 e2 q0 q1 => ⟨r2, 1, rfl, rfl, k _ _ (e1.trans e2) (by omega)⟩⟩
    refine ⟨_, rfl, rfl, decide (V.int r = V.int 4), rfl, ?_⟩
    refine ite2 (fun _ => ?_) fun _ => ?_
    · exact ⟨_, rfl, st, c, 41, rfl, e1.sto, by decide, fun r2 H2 e2 q0 q1 => ⟨r2, 20, rfl, rfl, k _ _ (e1.trans e2) (by omega)⟩⟩
    refine ⟨_, rfl, rfl, decide (V.int r = V.int 5), rfl, ?_⟩
    refine ite2 (fun _ => ?_) fun _ => ?_
    · have cp : ∀ i j : Int, (0 ≤ j ∧ j ≤ 1000000 ∧ i.natAbs < 2 ^ 64) → CPow i j := fun i j h => h
      refine ⟨_, rfl, 10, 30, rfl, rfl, ⟨by decide, by decide, by decide⟩, _, _, rfl, rfl, 10, 30, rfl, rfl, ⟨by decide, by decide, by decide⟩, _, _, rfl, rfl, 10, 18, rfl, rfl, ⟨by decide, by decide, by decide⟩, _, rfl, ?_⟩
      refine ⟨by show 10 ≤ sizeLine; decide, fun p hp => ?_⟩
      have n1 : p ≠ st := fun e => e1.sto.st_some (by rw [← e]; exact hp)
      have e2 := e1.new (o := .lst [V.int 0, .int 9, .int (-10), .int 10, .int 255, .int (1 - 10 ^ (30 : Int).toNat), .int (10 ^ (30 : Int).toNat - 1), .int (10 ^ (18 : Int).toNat), .int (-1), .int 99]) hp
      refine ⟨_, rfl, st, c, 10, rfl, e2.sto, by decide, fun r2 H3 e3 q0 q1 => ?_⟩
      obtain ⟨v, hv, hm⟩ := at_mem (xs := [V.int 0, .int 9, .int (-10), .int 10, .int 255, .int (1 - 10 ^ (30 : Int).toNat), .int (10 ^ (30 : Int).toNat - 1), .int (10 ^ (18 : Int).toNat), .int (-1), .int 99]) q0 (by show r2 < 10; omega)
      have hs : Sc v ∧ ∃ i, v = .int i := by
        refine ⟨sc_all (by decide +kernel) v hm, ?_⟩
        simp only [List.mem_cons, List.not_mem_nil, or_false] at hm
        rcases hm with h | h | h | h | h | h | h | h | h | h <;> exact ⟨_, h⟩
      obtain ⟨hs, i, rfl⟩ := hs
      exact ⟨p, _, r2, _, rfl, rfl, SqL.of (e3.keep _ _ n1 upd_same), hv, k i _ (e2.trans e3) hs⟩
    refine ⟨_, rfl, st, c, 5, rfl, e1.sto, by decide, fun r2 H2 e2 q0 q1 => ?_⟩
    refine ⟨1, r2, rfl, rfl, 1 + r2, rfl, by omega, by omega, ?_⟩
    have e12 := e1.trans e2
    refine for_range (lo := 0) (n := (1 + r2).toNat) (fun i σ H' => ∃ l o, σ = [some (.ref st), some (.int r), some (.int l), o] ∧ Ext st c H H' ∧ 0 ≤ l ∧ l < 1000000 ^ i) ⟨0, none, rfl, e12, by decide, by simp⟩ ?_ ?_
    · rintro i σ H3 hi ⟨l, o, rfl, e3, l0, l1⟩
      refine ⟨_, rfl, l, 1000000, rfl, rfl, .inr ⟨by decide, by decide⟩, _, rfl, st, c, 1000000, rfl, e3.sto, by decide, fun r3 H4 e4 w0 w1 => ⟨_, _, rfl, rfl, ?_⟩⟩
      refine ⟨_, _, rfl, e3.trans e4, by omega, ?_⟩
      rw [Int.pow_succ]
      omega
    · rintro σ H3 ⟨l, o, rfl, e3, l0, l1⟩
      have l2 : l < 1000000000000000000000000000000 := by
        have : (1 + r2).toNat = 1 ∨ (1 + r2).toNat = 2 ∨ (1 + r2).toNat = 3 ∨ (1 + r2).toNat = 4 ∨ (1 + r2).toNat = 5 := by omega
        rcases this with h | h | h | h | h <;> rw [h] at l1 <;> simp at l1 <;> omega
      refine ⟨_, rfl, rfl, decide (V.int r = V.int 6), rfl, ?_⟩
      refine ite2 (fun _ => ⟨_, rfl, k l _ e3 (by omega)⟩) fun _ => ⟨_, rfl, l, rfl, k _ _ e3 (by omega)⟩
end
end SD
namespace SD
open PySem L2
section
variable {P : Program} {w : World} {K : PySem.W.Frag} {mg : Str → Option Value} {base : Heap} {f : Addr} {fd : FuncData}
theorem sc__law_text : FnScope ["store", "most", "signs", "kind", "word", "long", "k"] ["store", "most"] (defScope st__law_text) := ⟨rfl, rfl, rfl, by decide +kernel, rfl, by decide +kernel, by decide +kernel⟩
theorem ok__law_text (F : Fun K "_law_text" "_law_text" st__law_text f fd) (T : Tx mg) (c__law_take : Cal P w K mg base "_law_take" 2 ["store", "many"] spTake) (c__law_count : Cal P w K mg base "_law_count" 3 ["store", "least", "usual", "most"] spCount) : FnOk P w K mg base CX0 4 f fd ["store", "most"] spText := by
  refine F.ok sc__law_text (fun vs H Q E h => ?_) (fun cdv A outer s H vs Q E hr h => ?_)
  · obtain ⟨st, c, m, rfl, _⟩ := h
    rfl
  · obtain ⟨st, c, m, rfl, hS, hm0, hm1, k⟩ := h
    have hr2 : Room 2 _ := hr.mono (by decide)
    refine ⟨_, (pss_cons (ps_set (i := 2) sc__law_text.nd rfl (Or.inr rfl) pe_str) (pss_cons (ps_set (i := 3) sc__law_text.nd rfl (Or.inl rfl) (pe_c c__law_take hr2 rfl (pa_cons (pv 0) (pa_cons pe_int pa_nil)))) (pss_cons (ps_if (pt_cmpR op_lt (pv 3) pe_int (nomark _)) (pss_one (ps_ret (pe_slice sl_str (pe_ix ix_list (pe_lst (pa_cons pe_str (pa_cons pe_str (pa_cons pe_str (pa_cons pe_str (pa_cons pe_str (pa_cons pe_str pa_nil))))))) (pe_c c__law_take hr2 rfl (pa_cons (pv 0) (pa_cons pe_int pa_nil))) (fun _ _ => rfl)) po_none (po_some (pv 1))))) pss_nil) (pss_cons (ps_if (pt_cmpR op_eq (pv 3) pe_int (nomark _)) (pss_cons (ps_set (i := 4) sc__law_text.nd rfl (Or.inl rfl) (pe_ix ix_list (pe_lst (pa_cons pe_str (pa_cons pe_str (pa_cons pe_str (pa_cons pe_str (pa_cons pe_str (pa_cons pe_str (pa_cons pe_str (pa_cons pe_str (pa_cons pe_str (pa_cons pe_str (pa_cons pe_str (pa_cons pe_str pa_nil))))))))))))) (pe_c c__law_take hr2 rfl (pa_cons (pv 0) (pa_cons pe_int pa_nil))) (fun _ _ => rfl))) (pss_one (ps_ret (pe_slice sl_str (pv 4) po_none (po_some (pv 1)))))) pss_nil) (pss_cons (ps_set (i := 5) sc__law_text.nd rfl (Or.inl rfl) (pe_c c__law_count hr rfl (pa_cons (pv 0) (pa_cons pe_int (pa_cons (pe_callB (call_min2 rfl) (by rfl) T.min PyProof.Rows.boot_min (pa_cons pe_int (pa_cons (pv 1) pa_nil))) (pa_cons (pv 1) pa_nil)))))) (pss_one (ps_ret (pe_join pe_str (pe_lc (own := [("k", 6)]) (g := gName 6) (tt := tYes) rfl sc__law_text.nd (pi_range1 (by rfl) T.range (pa_cons (pv 5) pa_nil)) (blkOk_by (N := ["store", "most", "signs", "kind", "word", "long", "k"]) (sc := defScope st__law_text) (by decide +kernel))
          (fun _ _ _ _ _ => pg_name (i := 6) sc__law_text.nd rfl (Or.inl rfl)) (fun _ _ _ _ _ => pts_nil) (fun _ _ _ _ _ => (pe_ix ix_str (pv 2) (pe_c c__law_take hr2 rfl (pa_cons (pv 0) (pa_cons pe_int pa_nil))) (fun _ _ => rfl)))))))))))), ?_⟩
    have small : ∀ n : Nat, n ≤ 2000 → n ≤ sizeLine := fun n h => Nat.le_trans h (by decide)
    refine ⟨_, rfl, st, c, 6, rfl, hS, by decide, fun r H1 e1 r0 r1 => ?_⟩
    refine ⟨_, rfl, r, 3, rfl, rfl, decide (r < 3), rfl, ?_⟩
    refine ite2 (fun _ => ?_) fun _ => ?_
    · refine ⟨by show 6 ≤ sizeLine; decide, fun p hp => ?_⟩
      have n1 : p ≠ st := fun e => e1.sto.st_some (by rw [← e]; exact hp)
      have e2 := e1.new (o := .lst [V.str "a", .str "b", .str "", .str "ab", .str "A", .str "z"]) hp
      refine ⟨_, rfl, st, c, 6, rfl, e2.sto, by decide, fun r2 H3 e3 q0 q1 => ?_⟩
      obtain ⟨v, hv, hm⟩ := at_mem (xs := [V.str "a", .str "b", .str "", .str "ab", .str "A", .str "z"]) q0 (by show r2 < 6; omega)
      obtain ⟨z, rfl, hz⟩ := str_lens.1 v hm
      refine ⟨p, _, r2, _, rfl, rfl, SqL.of (e3.keep _ _ n1 upd_same), hv, _, rfl, m, rfl, z, rfl, small _ (by omega), k _ _ (e2.trans e3) (Nat.le_trans (cut_le _ _ _) (by omega))⟩
    refine ⟨_, rfl, rfl, decide (V.int r = V.int 3), rfl, ?_⟩
    refine ite2 (fun _ => ?_) fun _ => ?_
    · refine ⟨by show 12 ≤ sizeLine; decide, fun p hp => ?_⟩
      have n1 : p ≠ st := fun e => e1.sto.st_some (by rw [← e]; exact hp)
      have e2 := e1.new (o := .lst [V.str "\"", .str "none", .str "\\", .str "1", .str "\\\"", .str "true", .str " ", .str "a b", .str "-0", .str "~", .str "from", .str "a.b"]) hp
      refine ⟨_, rfl, st, c, 12, rfl, e2.sto, by decide, fun r2 H3 e3 q0 q1 => ?_⟩
      obtain ⟨v, hv, hm⟩ := at_mem (xs := [V.str "\"", .str "none", .str "\\", .str "1", .str "\\\"", .str "true", .str " ", .str "a b", .str "-0", .str "~", .str "from", .str "a.b"]) q0 (by show r2 < 12; omega)
      obtain ⟨z, rfl, hz⟩ := str_lens.2 v hm
      refine ⟨p, _, r2, _, rfl, rfl, SqL.of (e3.keep _ _ n1 upd_same), hv, ?_⟩
      exact ⟨_, rfl, _, rfl, m, rfl, z, rfl, small _ (by omega), k _ _ (e2.trans e3) (Nat.le_trans (cut_le _ _ _) (by omega))⟩
    have p2 : (2 : Int) ^ 100 = 1267650600228229401496703205376 := by decide +kernel
    refine ⟨_, rfl, _, rfl, 4, m, rfl, _, rfl, st, c, 0, (if m < 4 then m else 4), m, rfl, e1.sto, by decide, by split <;> omega, by split <;> omega, by rw [p2]; omega, fun lg H2 e2 q0 q1 => ?_⟩
    have e12 := e1.trans e2
    refine ⟨⟨_, rfl⟩, _, rfl, lg, rfl, by omega, by omega, fun D hD => ?_⟩
    refine lc_range (lo := 0) (n := lg.toNat) (fun i H' => ∃ ys : List Str, H' D = some (.lst (ys.map V.str)) ∧ ys.length = i ∧ (∀ y ∈ ys, y.length = 1) ∧ Ext st c H2 H') ⟨[], upd_same, rfl, fun _ h => absurd h (by simp), (Ext.refl e2.sto).new hD⟩ ?_ ?_
    · rintro i H' hi ⟨ys, h1, h2, h3, h4⟩
      have nD : D ≠ st := fun e => e2.sto.st_some (by rw [← e]; exact hD)
      refine ⟨rfl, _, rfl, _, rfl, st, c, 94, rfl, h4.sto, by decide, fun r2 H3 e3 w0 w1 => ?_⟩
      have hl : ((" !\"#$&'()*+,-./0123456789:;<=>?@ABCDEFGHIJKLMNOPQRSTUVWXYZ[\\]^_`abcdefghijklmnopqrstuvwxyz{|}~" : Str).cps.toList.length : Int) = 94 := by decide +kernel
      obtain ⟨cc, hcc⟩ := at_memN (xs := (" !\"#$&'()*+,-./0123456789:;<=>?@ABCDEFGHIJKLMNOPQRSTUVWXYZ[\\]^_`abcdefghijklmnopqrstuvwxyz{|}~" : Str).cps.toList) w0 (by rw [hl]; omega)
      refine ⟨_, r2, cc, rfl, rfl, by decide +kernel, hcc, ys.map V.str, e3.keep _ _ nD h1, small1000 (by rw [List.length_map]; omega), ys ++ [⟨#[cc]⟩], ?_, by simp [h2], ?_, (h4.trans e3).mut e2.sto hD⟩
      · rw [upd_same]; simp
      · intro y hy
        rcases List.mem_append.mp hy with h | h
        · exact h3 y h
        · rw [List.mem_singleton] at h; subst h; rfl
    · rintro H' ⟨ys, h1, h2, h3, h4⟩
      have hs := ones_sum h3
      have hj := join_len ys
      refine ⟨("" : Str), D, ys, rfl, rfl, .inl (SqL.of h1), ?_, k _ _ (e12.trans h4) ?_⟩
      · rw [hs]
        have : ("" : Str).length = 0 := by decide +kernel
        rw [this]; omega
      · rw [hj, hs]; omega
end
end SD
namespace SD
open PySem L2
section
variable {P : Program} {w : World} {K : PySem.W.Frag} {mg : Str → Option Value} {base : Heap} {f : Addr} {fd : FuncData}
theorem sc__law_value : FnScope ["store", "kind"] ["store"] (defScope st__law_value) := ⟨rfl, rfl, rfl, by decide +kernel, rfl, by decide +kernel, by decide +kernel⟩
theorem ok__law_value (F : Fun K "_law_value" "_law_value" st__law_value f fd) (T : Tx mg) (c__law_take : Cal P w K mg base "_law_take" 2 ["store", "many"] spTake) (c__law_number : Cal P w K mg base "_law_number" 3 ["store"] spNumber) (c__law_text : Cal P w K mg base "_law_text" 4 ["store", "most"] spText) : FnOk P w K mg base CX0 5 f fd ["store"] spValue := by
  refine F.ok sc__law_value (fun vs H Q E h => ?_) (fun cdv A outer s H vs Q E hr h => ?_)
  · obtain ⟨st, c, rfl, _⟩ := h
    rfl
  · obtain ⟨st, c, rfl, hS, k⟩ := h
    have hr2 : Room 2 _ := hr.mono (by decide)
    have hr3 : Room 3 _ := hr.mono (by decide)
    refine ⟨_, (pss_cons (ps_set (i := 1) sc__law_value.nd rfl (Or.inl rfl) (pe_c c__law_take hr2 rfl (pa_cons (pv 0) (pa_cons pe_int pa_nil)))) (pss_cons (ps_if (pt_cmpR op_lt (pv 1) pe_int (nomark _)) (pss_one (ps_ret (pe_c c__law_take hr2 rfl (pa_cons (pv 0) (pa_cons pe_int pa_nil))))) pss_nil) (pss_cons (ps_if (pt_cmpR op_eq (pv 1) pe_int (nomark _)) (pss_one (ps_ret (pe_ix ix_list (pe_lst (pa_cons pe_non (pa_cons pe_bl (pa_cons pe_bl pa_nil)))) (pe_c c__law_take hr2 rfl (pa_cons (pv 0) (pa_cons pe_int pa_nil))) (fun _ _ => rfl)))) pss_nil) (pss_cons (ps_if (pt_cmpR op_eq (pv 1) pe_int (nomark _)) (pss_one (ps_ret (pe_ix ix_list (pe_lst (pa_cons pe_int (pa_cons pe_bl (pa_cons pe_str (pa_cons pe_non (pa_cons pe_int (pa_cons pe_bl (pa_cons pe_str (pa_cons (pe_un un_neg pe_int) (pa_cons pe_str (pa_cons pe_str pa_nil))))))))))) (pe_c c__law_take hr2 rfl (pa_cons (pv 0) (pa_cons pe_int pa_nil))) (fun _ _ => rfl)))) pss_nil) (pss_cons (ps_if (pt_cmpR op_lt (pv 1) pe_int (nomark _)) (pss_one (ps_ret (pe_c c__law_number hr3 rfl (pa_cons (pv 0) pa_nil)))) pss_nil) (pss_one (ps_ret (pe_c c__law_text hr rfl (pa_cons (pv 0) (pa_cons pe_int pa_nil)))))))))), ?_⟩
    have pb : (10 : Nat) ^ 31 = 10000000000000000000000000000000 := by decide +kernel
    refine ⟨_, rfl, st, c, 8, rfl, hS, by decide, fun r H1 e1 r0 r1 => ?_⟩
    refine ⟨_, rfl, r, 3, rfl, rfl, decide (r < 3), rfl, ?_⟩
    refine ite2 (fun _ => ?_) fun _ => ?_
    · exact ⟨_, rfl, st, c, 4, rfl, e1.sto, by decide, fun r2 H2 e2 q0 q1 => k _ _ (e1.trans e2) (by show r2.natAbs ≤ 10 ^ 31; omega)⟩
    refine ⟨_, rfl, rfl, decide (V.int r = V.int 3), rfl, ?_⟩
    refine ite2 (fun _ => ?_) fun _ => ?_
    · refine ⟨by show 3 ≤ sizeLine; decide, fun p hp => ?_⟩
      have n1 : p ≠ st := fun e => e1.sto.st_some (by rw [← e]; exact hp)
      have e2 := e1.new (o := .lst [V.non, .bl true, .bl false]) hp
      refine ⟨_, rfl, st, c, 3, rfl, e2.sto, by decide, fun r2 H3 e3 q0 q1 => ?_⟩
      obtain ⟨v, hv, hm⟩ := at_mem (xs := [V.non, .bl true, .bl false]) q0 (by show r2 < 3; omega)
      exact ⟨p, _, r2, _, rfl, rfl, SqL.of (e3.keep _ _ n1 upd_same), hv, k _ _ (e2.trans e3) (sc_all (by decide +kernel) v hm)⟩
    refine ⟨_, rfl, rfl, decide (V.int r = V.int 4), rfl, ?_⟩
    refine ite2 (fun _ => ?_) fun _ => ?_
    · refine ⟨_, rfl, ?_⟩
      refine ⟨by show 10 ≤ sizeLine; decide, fun p hp => ?_⟩
      have n1 : p ≠ st := fun e => e1.sto.st_some (by rw [← e]; exact hp)
      have e2 := e1.new (o := .lst [V.int 0, .bl false, .str "", .non, .int 1, .bl true, .str "1", .int (-1), .str "none", .str "0"]) hp
      refine ⟨_, rfl, st, c, 10, rfl, e2.sto, by decide, fun r2 H3 e3 q0 q1 => ?_⟩
      obtain ⟨v, hv, hm⟩ := at_mem (xs := [V.int 0, .bl false, .str "", .non, .int 1, .bl true, .str "1", .int (-1), .str "none", .str "0"]) q0 (by show r2 < 10; omega)
      exact ⟨p, _, r2, _, rfl, rfl, SqL.of (e3.keep _ _ n1 upd_same), hv, k _ _ (e2.trans e3) (sc_all (by decide +kernel) v hm)⟩
    refine ⟨_, rfl, r, 6, rfl, rfl, decide (r < 6), rfl, ?_⟩
    refine ite2 (fun _ => ?_) fun _ => ?_
    · exact ⟨_, rfl, st, c, rfl, e1.sto, fun i H2 e2 hi => k _ _ (e1.trans e2) hi⟩
    · exact ⟨_, rfl, st, c, 40, rfl, e1.sto, by decide, by decide, fun z H2 e2 hz => k _ _ (e1.trans e2) hz⟩
end
end SD
namespace SD
open PySem L2
section
variable {P : Program} {w : World} {K : PySem.W.Frag} {mg : Str → Option Value} {base : Heap} {f : Addr} {fd : FuncData}
theorem sc__law_near : FnScope ["store", "row", "kind", "at", "value"] ["store", "row"] (defScope st__law_near) := ⟨rfl, rfl, rfl, by decide +kernel, rfl, by decide +kernel, by decide +kernel⟩
theorem ok__law_near (F : Fun K "_law_near" "_law_near" st__law_near f fd) (T : Tx mg) (c__law_take : Cal P w K mg base "_law_take" 2 ["store", "many"] spTake) (c__law_value : Cal P w K mg base "_law_value" 5 ["store"] spValue) : FnOk P w K mg base CX0 6 f fd ["store", "row"] (spNear2 K) := by
  refine F.ok sc__law_near (fun vs H Q E h => ?_) (fun cdv A outer s H vs Q E hr h => ?_)
  · obtain ⟨st, c, a, xs, rfl, _⟩ := h
    rfl
  · obtain ⟨st, c, a, xs, rfl, hS, hX, hsc, hl, k⟩ := h
    have h2 : Room 2 _ := hr.mono (by decide)
    refine ⟨_, (pss_cons (ps_set (i := 2) sc__law_near.nd rfl (Or.inl rfl) (pe_c c__law_take h2 rfl (pa_cons (pv 0) (pa_cons pe_int pa_nil)))) (C8.pss_cut (ps_if (PW.pt (pw_and (pt_cmpR op_eq (pv 2) pe_int (nomark _)) (pw_and1 (pt_cmpR op_lt (pe_callB call_len_seq (by rfl) T.len PySem.boot_len (pa_cons (pv 1) pa_nil)) pe_int (nomark _))))) (pss_one (ps_ret (pe_op op_catX (pe_callTy call_tupX (by rfl) T.tup PyProof.Rows.boot_tuple (pa_cons (pv 1) pa_nil)) (pe_tup (pa_cons (pe_c c__law_value hr rfl (pa_cons (pv 0) pa_nil)) pa_nil))))) pss_nil) (pss_cons (ps_if (pt_cmpR op_eq (pe_callB call_len_seq (by rfl) T.len PySem.boot_len (pa_cons (pv 1) pa_nil)) pe_int (nomark _)) (pss_one (ps_ret (pe_tup (pa_cons pe_non pa_nil)))) pss_nil) (pss_cons (ps_if (pt_cmpR op_eq (pv 2) pe_int (nomark _)) (pss_one (ps_ret (pe_callTy call_tupX (by rfl) T.tup PyProof.Rows.boot_tuple (pa_cons (pe_slice sl_tupX (pv 1) po_none (po_some (pe_un un_neg pe_int))) pa_nil)))) pss_nil) (pss_cons (ps_set (i := 3) sc__law_near.nd rfl (Or.inl rfl) (pe_c c__law_take h2 rfl (pa_cons (pv 0) (pa_cons (pe_callB call_len_seq (by rfl) T.len PySem.boot_len (pa_cons (pv 1) pa_nil)) pa_nil)))) (pss_cons (ps_set (i := 4) sc__law_near.nd rfl (Or.inl rfl) (pe_ix ix_tup (pv 1) (pv 3) (fun _ _ => rfl))) (C8.pss_cut (ps_if (pt_val (pe_callB (call_isN (T := "bool")) (by rfl) T.isi PyProof.Rows.boot_isinstance (pa_cons (pv 4) (pa_cons (pe_bltn (v := .ty "bool") (by rfl) T.bool PyProof.Rows.boot_bool rfl) pa_nil)))) (pss_one (ps_set (i := 4) sc__law_near.nd rfl (Or.inl rfl) (pe_callTy call_int1 (by rfl) T.int PyProof.Rows.boot_int (pa_cons (pv 4) pa_nil)))) (pss_one (ps_if (pt_val (pe_callB (call_isN (T := "int")) (by rfl) T.isi PyProof.Rows.boot_isinstance (pa_cons (pv 4) (pa_cons (pe_bltn (v := .ty "int") (by rfl) T.int PyProof.Rows.boot_int rfl) pa_nil)))) (pss_one (ps_set (i := 4) sc__law_near.nd rfl (Or.inl rfl) (pe_ix ix_list (pe_lst (pa_cons (pe_slice sl_str (pe_callTy call_str_int (by rfl) T.str PyProof.Rows.boot_str (pa_cons (pv 4) pa_nil)) po_none (po_some pe_int)) (pa_cons (pe_cmpR op_eq (pv 4) pe_int (nomark _)) (pa_cons (pe_op op_sub (pe_op op_add (pv 4) pe_int) (pe_op op_mul pe_int (pe_callTy call_int1 (by rfl) T.int PyProof.Rows.boot_int (pa_cons (pe_cmpR op_gt (pv 4) pe_int (nomark _)) pa_nil)))) pa_nil)))) (pe_c c__law_take h2 rfl (pa_cons (pv 0) (pa_cons pe_int pa_nil))) (fun _ _ => rfl)))) (pss_one (ps_set (i := 4) sc__law_near.nd rfl (Or.inl rfl) (pe_c c__law_value hr rfl (pa_cons (pv 0) pa_nil))))))) (pss_one (ps_ret (pe_op op_catX (pe_op op_catX (pe_callTy call_tupX (by rfl) T.tup PyProof.Rows.boot_tuple (pa_cons (pe_slice sl_tupX (pv 1) po_none (po_some (pv 3))) pa_nil)) (pe_tup (pa_cons (pv 4) pa_nil))) (pe_callTy call_tupX (by rfl) T.tup PyProof.Rows.boot_tuple (pa_cons (pe_slice sl_tupX (pv 1) (po_some (pe_op op_add (pv 3) pe_int)) po_none) pa_nil)))))))))))), ?_⟩
    have small : ∀ n : Nat, n ≤ 100000 → n ≤ sizeLine := fun n h => Nat.le_trans h (by decide)
    have p3 : (2 : Nat) ^ 200 = 1606938044258990275541962092341162602522202993782792835301376 := by decide +kernel
    refine ⟨_, rfl, st, c, 3, rfl, hS, by decide, fun kd H1 e1 k0 k1 => ?_⟩
    have hX1 := e1.seqT hS hX
    refine ⟨fun σ H' => σ = [some (.ref st), some (.ref a), some (.int kd), none, none] ∧ H' = H1, ?_, ?_⟩
    · refine ⟨_, rfl, rfl, decide (V.int kd = V.int 1), rfl, ?_⟩
      refine ite2 (fun _ => ?_) fun _ => ⟨rfl, rfl⟩
      refine ⟨_, rfl, a, xs, rfl, .inr hX1, _, _, rfl, rfl, decide ((xs.length : Int) < 12), rfl, ?_⟩
      refine ite2 (fun c1 => ?_) fun _ => ⟨rfl, rfl⟩
      have c1 := of_decide_eq_true c1
      refine ⟨_, rfl, a, xs, rfl, .inr hX1, fun q H2 s2 g2 => ?_⟩
      have e2 := e1.same s2
      refine ⟨_, rfl, st, c, rfl, e2.sto, fun v H3 e3 hv => ⟨small _ (by simp), fun p hp => ?_⟩⟩
      have e23 := e2.trans e3
      have g3 := e3.seqT e2.sto g2
      refine ⟨q, p, xs, [v], rfl, rfl, SD.Same.seqT (SD.Same.new hp) g3, SqT.of upd_same, small _ (by simp; omega), fun p2 H4 s4 g4 => k p2 _ H4 ((e23.new hp).same s4) g4 (fun z hz => ?_) (by simp only [List.length_append]; omega)⟩
      rcases List.mem_append.mp hz with h | h
      · exact hsc z h
      · rw [List.mem_singleton] at h; subst h; exact hv
    rintro σ H1' ⟨rfl, rfl⟩
    refine ⟨_, rfl, a, xs, rfl, .inr hX1, rfl, decide (V.int (xs.length : Int) = V.int 0), rfl, ?_⟩
    refine ite2 (fun h0 => ?_) fun hne => ?_
    · have h0 := of_decide_eq_true h0
      injection h0 with h0
      exact ⟨small _ (by simp), fun p hp => k p [.non] _ (e1.new hp) (SqT.of upd_same) (fun z hz => by rw [List.mem_singleton] at hz; subst hz; trivial) (by simp only [List.length_cons, List.length_nil]; omega)⟩
    have hpos : 0 < xs.length := by
      by_cases e : xs.length = 0
      · exact absurd (decide_eq_true (by rw [e]; rfl)) hne
      · omega
    refine ⟨_, rfl, rfl, decide (V.int kd = V.int 2), rfl, ?_⟩
    refine ite2 (fun _ => ?_) fun _ => ?_
    · refine ⟨_, rfl, 1, rfl, -1, rfl, a, xs, rfl, hX1, fun q H2 s2 g2 => ⟨q, _, rfl, .inr g2, fun q2 H3 s3 g3 => k q2 _ _ ((e1.same s2).same s3) g3 (fun v hv => hsc v (cutV_mem hv)) (cutV_last xs)⟩⟩
    refine ⟨_, rfl, _, rfl, a, xs, rfl, .inr hX1, st, c, (xs.length : Int), rfl, e1.sto, by rw [p3]; omega, fun at_ H2 e2 a0 a1 => ?_⟩
    have e12 := e1.trans e2
    have hX2 := e2.seqT e1.sto hX1
    obtain ⟨v, hv, hm⟩ := at_mem (xs := xs) a0 (by omega)
    have sv := hsc v hm
    refine ⟨_, rfl, _, rfl, a, xs, at_, v, rfl, rfl, hX2, hv, ?_⟩
    refine ⟨fun σ H' => ∃ z, σ = [some (.ref st), some (.ref a), some (.int kd), some (.int at_), some z] ∧ Ext st c H2 H' ∧ Sc z, ?_, ?_⟩
    · cases v with
      | non => exact ⟨_, rfl, _, "NoneType", false, rfl, .non, k_NoneType_bool, false, rfl, _, rfl, _, "NoneType", false, rfl, .non, k_NoneType_int, false, rfl, _, rfl, st, c, rfl, e2.sto, fun w H3 e3 hw => ⟨w, rfl, e3, hw⟩⟩
      | str i => exact ⟨_, rfl, _, "str", false, rfl, .str _, k_str_bool, false, rfl, _, rfl, _, "str", false, rfl, .str _, k_str_int, false, rfl, _, rfl, st, c, rfl, e2.sto, fun w H3 e3 hw => ⟨w, rfl, e3, hw⟩⟩
      | bl b => exact ⟨_, rfl, _, "bool", true, rfl, .bl _, k_bool_bool, true, rfl, _, rfl, .inr ⟨b, rfl, _, rfl, Ext.refl e2.sto, by cases b <;> exact sc_of (by decide +kernel)⟩⟩
      | int i =>
        have hi : i.natAbs ≤ 10 ^ 31 := sv
        have pb : (10 : Nat) ^ 31 = 10000000000000000000000000000000 := by decide +kernel
        have hstr : (Str.ofString (toString i)).length ≤ 1921 := PyProof.Rows.int_text_len_1921 (int_str hi)
        refine ⟨_, rfl, _, "int", false, rfl, .int _, k_int_bool, false, rfl, _, rfl, _, "int", true, rfl, .int _, k_int_int, true, rfl, ?_⟩
        refine ⟨_, rfl, i, rfl, int_str hi, 30, rfl, _, rfl, small _ (Nat.le_trans hstr (by decide)), ?_⟩
        refine ⟨_, rfl, rfl, ?_⟩
        refine ⟨_, rfl, i, 1, rfl, rfl, _, rfl, i, 0, rfl, rfl, .inr ⟨decide (0 < i), rfl, ?_⟩⟩
        refine ⟨2, _, rfl, rfl, .inl ⟨by decide, by decide⟩, _, _, rfl, rfl, ?_⟩
        refine ⟨small _ (by simp), fun p hp => ?_⟩
        have np : p ≠ st := fun z => e2.sto.st_some (by rw [← z]; exact hp)
        have e3 := (Ext.refl e2.sto).new (o := .lst [V.str (cutS (Str.ofString (toString i)) none (some 30)), .bl (decide (V.int i = V.int 1)), .int (i + 1 - 2 * (if decide (0 < i) = true then 1 else 0))]) hp
        refine ⟨_, rfl, st, c, 3, rfl, e3.sto, by decide, fun r H4 e4 r0 r1 => ?_⟩
        obtain ⟨w, hw, hwm⟩ := at_mem (xs := [V.str (cutS (Str.ofString (toString i)) none (some 30)), .bl (decide (V.int i = V.int 1)), .int (i + 1 - 2 * (if decide (0 < i) = true then 1 else 0))]) r0 (by show r < 3; omega)
        refine ⟨p, _, r, w, rfl, rfl, SqL.of (e4.keep _ _ np upd_same), hw, w, rfl, e3.trans e4, ?_⟩
        simp only [List.mem_cons, List.not_mem_nil, or_false] at hwm
        rcases hwm with h | h | h
        · subst h
          show (cutS (Str.ofString (toString i)) none (some 30)).length ≤ 2000
          exact Nat.le_trans (cut_le _ _ _) (by omega)
        · subst h; trivial
        · subst h
          show (i + 1 - 2 * (if decide (0 < i) = true then 1 else 0)).natAbs ≤ 10 ^ 31
          rw [pb] at hi ⊢
          by_cases h0 : 0 < i
          · rw [if_pos (decide_eq_true h0)]; omega
          · rw [if_neg (by simpa using h0)]; omega
      | byt _ => exact False.elim sv
      | flt _ => exact False.elim sv
      | ref _ => exact False.elim sv
      | ty _ => exact False.elim sv
    rintro σ H3 ⟨z, rfl, e3, sz⟩
    have e13 := e12.trans e3
    have hX3 := e3.seqT e2.sto hX2
    obtain ⟨n, rfl⟩ : ∃ n : Nat, at_ = (n : Int) := ⟨at_.toNat, by omega⟩
    have hn : n < xs.length := by omega
    refine ⟨_, rfl, _, rfl, (n : Int), rfl, a, xs, rfl, hX3, fun q1 H4 s4 g4 => ⟨q1, _, rfl, .inr g4, fun q2 H5 s5 g5 => ?_⟩⟩
    refine ⟨_, rfl, small _ (by simp), fun q3 hq3 => ?_⟩
    have s6 := SD.Same.new (o := .tup [z]) hq3
    have c1 := cutV_pre xs n (by omega)
    have c2 := cutV_suf xs (n + 1) (by omega)
    refine ⟨q2, q3, _, [z], rfl, rfl, SD.Same.seqT s6 g5, SqT.of upd_same, small _ (by rw [c1]; simp; omega), fun q4 H7 s7 g7 => ?_⟩
    have t7 := ((s4.trans s5).trans s6).trans s7
    refine ⟨_, rfl, _, rfl, (n : Int), 1, rfl, rfl, (n : Int) + 1, rfl, a, xs, rfl, SD.Same.seqT t7 hX3, fun q5 H8 s8 g8 => ⟨q5, _, rfl, .inr g8, fun q6 H9 s9 g9 => ?_⟩⟩
    have e1' : ((n : Int) + 1) = ((n + 1 : Nat) : Int) := by omega
    rw [e1'] at g9 g8
    refine ⟨q4, q6, _, _, rfl, rfl, SD.Same.seqT (s8.trans s9) g7, g9, small _ (by rw [List.length_append, c1, c2]; simp; omega), fun q7 H10 s10 g10 => k q7 _ H10 (e13.same (((t7.trans s8).trans s9).trans s10)) g10 (fun v hv => ?_) ?_⟩
    · rcases List.mem_append.mp hv with h | h
      · rcases List.mem_append.mp h with h | h
        · exact hsc v (cutV_mem h)
        · rw [List.mem_singleton] at h; subst h; exact sz
      · exact hsc v (cutV_mem h)
    · rw [List.length_append, List.length_append, c1, c2]
      simp
      omega
end
end SD
namespace SD
open PySem L2
section
variable {P : Program} {w : World} {K : PySem.W.Frag} {mg : Str → Option Value} {base : Heap} {f : Addr} {fd : FuncData}
theorem sc__law_name : FnScope ["store", "taken", "signs", "barred", "word", "k", "old", "at"] ["store", "taken"] (defScope st__law_name) := ⟨rfl, rfl, rfl, by decide +kernel, rfl, by decide +kernel, by decide +kernel⟩
theorem ok__law_name (F : Fun K "_law_name" "_law_name" st__law_name f fd) (T : Tx mg) (c__law_take : Cal P w K mg base "_law_take" 2 ["store", "many"] spTake) (c__law_odds : Cal P w K mg base "_law_odds" 3 ["store", "many"] spOdds) (c__law_one : Cal P w K mg base "_law_one" 3 ["store", "row"] (spOne K)) : FnOk P w K mg base CX0 4 f fd ["store", "taken"] (spName K) := by
  refine F.ok sc__law_name (fun vs H Q E h => ?_) (fun cdv A outer s H vs Q E hr h => ?_)
  · obtain ⟨st, c, ta, ts, rfl, _⟩ := h
    rfl
  · obtain ⟨st, c, ta, ts, rfl, hS, na, hL, hlen, hlb, k⟩ := h
    have h2 : Room 2 _ := hr.mono (by decide)
    refine ⟨_, (pss_cons (ps_set (i := 2) sc__law_name.nd rfl (Or.inl rfl) pe_str) (pss_cons (ps_set (i := 3) sc__law_name.nd rfl (Or.inl rfl) pe_str) (pss_cons (ps_set (i := 3) sc__law_name.nd rfl (Or.inl rfl) (pe_op op_add_str (pv 3) pe_str)) (pss_cons (ps_set (i := 4) sc__law_name.nd rfl (Or.inl rfl) (pe_ix ix_str (pv 2) (pe_c c__law_take h2 rfl (pa_cons (pv 0) (pa_cons pe_int pa_nil))) (fun _ _ => rfl))) (pss_cons (ps_for PassesOwn.never rfl (pi_range1 (by rfl) T.range (pa_cons (pe_ix ix_list (pe_lst (pa_cons pe_int (pa_cons pe_int (pa_cons pe_int (pa_cons pe_int (pa_cons pe_int (pa_cons pe_int (pa_cons pe_int (pa_cons pe_int pa_nil))))))))) (pe_c c__law_take h2 rfl (pa_cons (pv 0) (pa_cons pe_int pa_nil))) (fun _ _ => rfl)) pa_nil)) (pg_name (i := 5) sc__law_name.nd rfl (Or.inl rfl)) (pss_one (ps_set (i := 4) sc__law_name.nd rfl (Or.inl rfl) (pe_op op_add_str (pv 4) (pe_ix ix_str (pv 2) (pe_c c__law_take h2 rfl (pa_cons (pv 0) (pa_cons pe_int pa_nil))) (fun _ _ => rfl)))))) (C8.pss_cut (ps_if (PW.pt (pw_and (pt_cmpR op_gt (pe_callB call_len_seq (by rfl) T.len PySem.boot_len (pa_cons (pv 1) pa_nil)) pe_int (nomark _)) (pw_and1 (pt_val (pe_c c__law_odds hr rfl (pa_cons (pv 0) (pa_cons pe_int pa_nil))))))) (pss_cons (ps_set (i := 6) sc__law_name.nd rfl (Or.inl rfl) (pe_c c__law_one hr rfl (pa_cons (pv 0) (pa_cons (pv 1) pa_nil)))) (pss_cons (ps_set (i := 7) sc__law_name.nd rfl (Or.inl rfl) (pe_op op_add pe_int (pe_c c__law_take h2 rfl (pa_cons (pv 0) (pa_cons (pe_callB call_len_str (by rfl) T.len PySem.boot_len (pa_cons (pv 6) pa_nil)) pa_nil))))) (pss_one (ps_set (i := 4) sc__law_name.nd rfl (Or.inl rfl) (pe_slice sl_str (pe_op op_add_str (pe_op op_add_str (pe_slice sl_str (pv 6) po_none (po_some (pv 7))) (pe_ix ix_str (pv 2) (pe_c c__law_take h2 rfl (pa_cons (pv 0) (pa_cons pe_int pa_nil))) (fun _ _ => rfl))) (pe_slice sl_str (pv 6) (po_some (pe_op op_add (pv 7) pe_int)) po_none)) po_none (po_some pe_int)))))) pss_nil) (pss_cons (ps_for PassesOwn.never rfl (pi_range1 (by rfl) T.range (pa_cons (pe_op op_add (pe_callB call_len_seq (by rfl) T.len PySem.boot_len (pa_cons (pv 1) pa_nil)) pe_int) pa_nil)) (pg_name (i := 5) sc__law_name.nd rfl (Or.inl rfl)) (pss_cons (ps_if (PW.pt (pw_and (pt_cmpR op_notIn_seq (pv 4) (pv 1) (by rfl)) (pw_and1 (pt_cmpR op_notin_str (pe_op op_add_str (pe_op op_add_str pe_str (pv 4)) pe_str) (pv 3) (by rfl))))) (pss_one (ps_ret (pv 4))) pss_nil) (pss_one (ps_set (i := 4) sc__law_name.nd rfl (Or.inl rfl) (pe_op op_add_str (pe_op op_add_str (pe_slice sl_str (pv 4) po_none (po_some pe_int)) pe_str) (pe_callTy call_str_int (by rfl) T.str PyProof.Rows.boot_str (pa_cons (pv 5) pa_nil))))))) (pss_one (ps_ret (pv 4)))))))))), ?_⟩
    have small : ∀ n : Nat, n ≤ 100000 → n ≤ sizeLine := fun n h => Nat.le_trans h (by decide)
    have p3 : (2 : Nat) ^ 200 = 1606938044258990275541962092341162602522202993782792835301376 := by decide +kernel
    have sign : ∀ {r : Int}, 0 ≤ r → r < 37 → ∃ v, atI sgS.cps.toList r = some v := fun h0 h1 => at_memN h0 (by rw [sgS_len]; exact h1)
    refine ⟨_, rfl, _, _, rfl, rfl, by decide +kernel, ?_⟩
    refine ⟨_, rfl, _, rfl, st, c, 26, rfl, hS, by decide, fun r H1 e1 r0 r1 => ?_⟩
    obtain ⟨c1, hc1⟩ := sign r0 (by omega)
    refine ⟨sgS, r, c1, rfl, rfl, by decide +kernel, hc1, ?_⟩
    refine ⟨by show 8 ≤ sizeLine; decide, fun p hp => ?_⟩
    have np : p ≠ st := fun z => e1.sto.st_some (by rw [← z]; exact hp)
    have e2 := e1.new (o := .lst [V.int 0, .int 0, .int 1, .int 1, .int 2, .int 3, .int 6, .int 11]) hp
    refine ⟨_, rfl, st, c, 8, rfl, e2.sto, by decide, fun r2 H3 e3 q0 q1 => ?_⟩
    obtain ⟨v, hv, hm⟩ := at_mem (xs := [V.int 0, .int 0, .int 1, .int 1, .int 2, .int 3, .int 6, .int 11]) q0 (by show r2 < 8; omega)
    obtain ⟨n, rfl, n0, n1⟩ : ∃ n : Int, v = .int n ∧ 0 ≤ n ∧ n ≤ 11 := by
      simp only [List.mem_cons, List.not_mem_nil, or_false] at hm
      rcases hm with h | h | h | h | h | h | h | h <;> exact ⟨_, h, by decide, by decide⟩
    refine ⟨p, _, r2, _, rfl, rfl, SqL.of (e3.keep _ _ np upd_same), hv, n, rfl, by omega, by omega, ?_⟩
    have e13 := e2.trans e3
    generalize hbd : ((" from as empty with where read group by tell union minus top up down count sum least most not and or " : Str) ++ ("always never none true false put take set to " : Str)) = bd
    refine for_range (lo := 0) (n := n.toNat) (fun i σ H' => ∃ (wd : Str) (o5 : Option V), σ = [some (.ref st), some (.ref ta), some (.str sgS), some (.str bd), some (.str wd), o5, none, none] ∧ Ext st c H H' ∧ wd.length ≤ 1 + i) ⟨_, none, rfl, e13, by rw [one_len]; omega⟩ ?_ ?_
    · rintro i σ H4 hi ⟨wd, o5, rfl, e4, hw⟩
      refine ⟨_, rfl, _, rfl, _, rfl, st, c, 37, rfl, e4.sto, by decide, fun r3 H5 e5 w0 w1 => ?_⟩
      obtain ⟨c2, hc2⟩ := sign w0 (by omega)
      refine ⟨sgS, r3, c2, rfl, rfl, by decide +kernel, hc2, _, _, rfl, rfl, small _ (by rw [one_len]; omega), _, _, rfl, e4.trans e5, by rw [str_app, one_len]; omega⟩
    rintro σ H4 ⟨wd, o5, rfl, e4, hw⟩
    refine ⟨fun σ H' => ∃ (wd : Str) (o5 o6 o7 : Option V), σ = [some (.ref st), some (.ref ta), some (.str sgS), some (.str bd), some (.str wd), o5, o6, o7] ∧ Ext st c H H' ∧ wd.length ≤ 100, ?_, ?_⟩
    · have stay : ∀ H', Ext st c H4 H' → ∃ (wd' : Str) (o5' o6 o7 : Option V), [some (V.ref st), some (.ref ta), some (.str sgS), some (.str bd), some (.str wd), o5, none, none] = [some (.ref st), some (.ref ta), some (.str sgS), some (.str bd), some (.str wd'), o5', o6, o7] ∧ Ext st c H H' ∧ wd'.length ≤ 100 := fun H' e => ⟨wd, o5, none, none, rfl, e4.trans e, by omega⟩
      have hL4 := e4.seqL na hL
      refine ⟨_, rfl, ta, ts.map V.str, rfl, .inl hL4, _, _, rfl, rfl, decide (0 < ((ts.map V.str).length : Int)), rfl, ?_⟩
      refine ite2 (fun h0 => ?_) fun _ => stay H4 (Ext.refl e4.sto)
      have h0 := of_decide_eq_true h0
      refine ⟨_, rfl, st, c, 4, rfl, e4.sto, by decide, fun bb H5 e5 => ⟨bb, rfl, ?_⟩⟩
      cases bb with
      | false => exact stay H5 e5
      | true =>
        have e45 := e4.trans e5
        refine ⟨_, rfl, _, rfl, st, c, ta, ts.map V.str, rfl, e5.sto, na, .inl (e45.seqL na hL), by rw [List.length_map]; omega, fun y H6 e6 hy => ?_⟩
        obtain ⟨od, hod, rfl⟩ : ∃ l ∈ ts, V.str l = y := by
          rcases hy with ⟨z, _⟩ | hy
          · rw [z] at h0; simp at h0
          · exact List.mem_map.mp hy
        have lo := hlb od hod
        have e46 := e45.trans e6
        refine ⟨_, rfl, _, rfl, od, rfl, small _ (by omega), st, c, (od.length : Int), rfl, e6.sto, by rw [p3]; omega, fun at0 H7 e7 a0 a1 => ⟨1, at0, rfl, rfl, ?_⟩⟩
        refine ⟨_, rfl, _, rfl, 1 + at0, rfl, od, rfl, small _ (by omega), _, rfl, _, rfl, st, c, 37, rfl, e7.sto, by decide, fun r3 H8 e8 w0 w1 => ?_⟩
        obtain ⟨c2, hc2⟩ := sign w0 (by omega)
        have d1 := cut_le od none (some (1 + at0))
        have d2 := cut_le od (some (1 + at0 + 1)) none
        refine ⟨sgS, r3, c2, rfl, rfl, by decide +kernel, hc2, _, _, rfl, rfl, small _ (by rw [one_len]; omega), _, rfl, _, rfl, 1 + at0, 1, rfl, rfl, 1 + at0 + 1, rfl, od, rfl, small _ (by omega), _, _, rfl, rfl, small _ (by rw [str_app, one_len]; omega), 12, rfl, _, rfl, small _ (by rw [str_app, str_app, one_len]; omega), ?_⟩
        exact ⟨_, _, _, _, rfl, (e46.trans e7).trans e8, Nat.le_trans (cutk _ 12) (by decide)⟩
    rintro σ H5 ⟨wd, o5, o6, o7, rfl, e5, hw⟩
    have hL5 := e5.seqL na hL
    refine ⟨_, rfl, ta, ts.map V.str, rfl, .inl hL5, _, _, rfl, rfl, _, rfl, by rw [List.length_map]; omega, by rw [List.length_map]; omega, ?_⟩
    have hbl : bd.length ≤ 1000 := by rw [← hbd]; decide +kernel
    refine for_range (lo := 0) (n := (((ts.map V.str).length : Int) + 3).toNat) (fun i σ H' => ∃ (wd : Str) (o5 o6 o7 : Option V), σ = [some (.ref st), some (.ref ta), some (.str sgS), some (.str bd), some (.str wd), o5, o6, o7] ∧ H' = H5 ∧ wd.length ≤ 100) ⟨_, _, _, _, rfl, rfl, hw⟩ ?_ ?_
    · rintro i σ H6 hi ⟨wd, o5, o6, o7, rfl, rfl, hw⟩
      rw [List.length_map] at hi
      have more : (tSeq (tAsg (tOp (fun x y H Q => ∃ i j, x = .str i ∧ y = .str j ∧ i.length + j.length ≤ sizeLine ∧ Q (.str (i ++ j)) H) (tOp (fun x y H Q => ∃ i j, x = .str i ∧ y = .str j ∧ i.length + j.length ≤ sizeLine ∧ Q (.str (i ++ j)) H) (tSl rSlS (tVar 4) tNoPart (tPart (tC (.int 9)))) (tC (.str "_")))
            (tCB (fun xs H Q => ∃ i, xs = [.int i] ∧ i.natAbs.log2 < 1920 ∧ Q (.str (toString i)) H) (tCons (tVar 5) tNil))) (gName 4)) tNext)
          { nx := fun σ H' => ∃ (wd : Str) (o5 o6 o7 : Option V), σ = [some (.ref st), some (.ref ta), some (.str sgS), some (.str bd), some (.str wd), o5, o6, o7] ∧ H' = H6 ∧ wd.length ≤ 100, rt := Q } [some (.ref st), some (.ref ta), some (.str sgS), some (.str bd), some (.str wd), some (.int (0 + (i : Int))), o6, o7] H6 := by
        have hk := strk (i := i) (by omega)
        have d1 : (cutS wd none (some 9)).length ≤ 9 := cutk wd 9
        have l2 : ("_" : Str).length = 1 := by decide +kernel
        refine ⟨_, rfl, 9, rfl, wd, rfl, small _ (by omega), _, _, rfl, rfl, small _ (by omega), _, rfl, _, rfl, hk.1, _, _, rfl, rfl, ?_, ?_⟩
        · refine small _ ?_
          rw [str_app]
          have : ("_" : Str).length = 1 := by decide +kernel
          have := hk.2
          show _ + (Str.ofString (toString (0 + (i : Int)))).length ≤ 100000
          omega
        · refine ⟨_, _, _, _, rfl, rfl, ?_⟩
          rw [str_app, str_app]
          have : ("_" : Str).length = 1 := by decide +kernel
          have := hk.2
          show _ + (Str.ofString (toString (0 + (i : Int)))).length ≤ 100
          omega
      refine ⟨_, rfl, _, rfl, ta, ts.map V.str, rfl, .inl hL5, rfl, by rw [List.all_map]; exact List.all_eq_true.mpr fun _ _ => rfl, !inV (.str wd) (ts.map V.str), rfl, ?_⟩
      refine ite2 (fun _ => ?_) fun _ => more
      have l1 : (" " : Str).length = 1 := by decide +kernel
      refine ⟨_, rfl, _, _, rfl, rfl, small _ (by omega), _, _, rfl, rfl, small _ (by rw [str_app]; omega), _, rfl, _, _, rfl, rfl, _, rfl, ?_⟩
      refine ite2 (fun _ => ?_) fun _ => more
      exact ⟨_, rfl, k _ _ e5 hw⟩
    · rintro σ H6 ⟨wd, o5, o6, o7, rfl, rfl, hw⟩
      exact ⟨_, rfl, k _ _ e5 hw⟩
end
end SD
namespace SD
open PySem L2
section
variable {P : Program} {w : World} {K : PySem.W.Frag} {mg : Str → Option Value} {base : Heap} {f : Addr} {fd : FuncData}
theorem sc__law_label : FnScope ["store", "taken", "word", "k"] ["store", "taken"] (defScope st__law_label) := ⟨rfl, rfl, rfl, by decide +kernel, rfl, by decide +kernel, by decide +kernel⟩
theorem ok__law_label (F : Fun K "_law_label" "_law_label" st__law_label f fd) (T : Tx mg) (c__law_name : Cal P w K mg base "_law_name" 4 ["store", "taken"] (spName K)) (c__law_odds : Cal P w K mg base "_law_odds" 3 ["store", "many"] spOdds) : FnOk P w K mg base CX0 5 f fd ["store", "taken"] (spLabel K) := by
  refine F.ok sc__law_label (fun vs H Q E h => ?_) (fun cdv A outer s H vs Q E hr h => ?_)
  · obtain ⟨st, c, ta, ts, rfl, _⟩ := h
    rfl
  · obtain ⟨st, c, ta, ts, rfl, hS, na, hL, hlen, hlb, k⟩ := h
    have h3 : Room 3 _ := hr.mono (by decide)
    refine ⟨_, (pss_cons (ps_set (i := 2) sc__law_label.nd rfl (Or.inl rfl) (pe_c c__law_name hr rfl (pa_cons (pv 0) (pa_cons (pe_lst pa_nil) pa_nil)))) (C8.pss_cut (ps_if (pt_val (pe_c c__law_odds h3 rfl (pa_cons (pv 0) (pa_cons pe_int pa_nil)))) (pss_one (ps_set (i := 2) sc__law_label.nd rfl (Or.inl rfl) (pe_op op_add_str (pe_op op_add_str (pv 2) pe_str) (pe_c c__law_name hr rfl (pa_cons (pv 0) (pa_cons (pe_lst pa_nil) pa_nil)))))) pss_nil) (pss_cons (ps_for PassesOwn.never rfl (pi_range1 (by rfl) T.range (pa_cons (pe_op op_add (pe_callB call_len_seq (by rfl) T.len PySem.boot_len (pa_cons (pv 1) pa_nil)) pe_int) pa_nil)) (pg_name (i := 3) sc__law_label.nd rfl (Or.inl rfl)) (pss_cons (ps_if (pt_cmpR op_notIn_seq (pv 2) (pv 1) (by rfl)) (pss_one (ps_ret (pv 2))) pss_nil) (pss_one (ps_set (i := 2) sc__law_label.nd rfl (Or.inl rfl) (pe_op op_add_str (pe_op op_add_str (pe_slice sl_str (pe_ix ix_list (pe_split (pv 2) pe_str) pe_int (fun _ _ => rfl)) po_none (po_some pe_int)) pe_str) (pe_callTy call_str_int (by rfl) T.str PyProof.Rows.boot_str (pa_cons (pv 3) pa_nil))))))) (pss_one (ps_ret (pv 2)))))), ?_⟩
    have small : ∀ n : Nat, n ≤ 100000 → n ≤ sizeLine := fun n h => Nat.le_trans h (by decide)
    have l1 : ("." : Str).length = 1 := by decide +kernel
    have l2 : ("_" : Str).length = 1 := by decide +kernel
    refine ⟨_, rfl, Nat.zero_le _, fun p hp => ?_⟩
    have np : p ≠ st := fun z => hS.st_some (by rw [← z]; exact hp)
    have e0 := (Ext.refl hS).new (o := .lst []) hp
    refine ⟨st, c, p, [], rfl, e0.sto, np, SqL.of upd_same, by simp, fun _ h => absurd h (by simp), fun wd H1 e1 hw => ?_⟩
    have e01 := e0.trans e1
    refine ⟨fun σ H' => ∃ wd : Str, σ = [some (.ref st), some (.ref ta), some (.str wd), none] ∧ Ext st c H H' ∧ wd.length ≤ 300, ?_, ?_⟩
    · refine ⟨_, rfl, st, c, 3, rfl, e1.sto, by decide, fun bb H2 e2 => ⟨bb, rfl, ?_⟩⟩
      have e02 := e01.trans e2
      cases bb with
      | false => exact ⟨wd, rfl, e02, by omega⟩
      | true =>
        refine ⟨_, rfl, _, _, rfl, rfl, small _ (by omega), _, rfl, Nat.zero_le _, fun q hq => ?_⟩
        have nq : q ≠ st := fun z => e02.sto.st_some (by rw [← z]; exact hq)
        have e3 := e02.new (o := .lst []) hq
        refine ⟨st, c, q, [], rfl, e3.sto, nq, SqL.of upd_same, by simp, fun _ h => absurd h (by simp), fun w2 H3 e4 hw2 => ⟨_, _, rfl, rfl, small _ (by rw [str_app]; omega), _, rfl, e3.trans e4, by rw [str_app, str_app]; omega⟩⟩
    rintro σ H2 ⟨wd, rfl, e2, hw⟩
    have hL2 := e2.seqL na hL
    refine ⟨_, rfl, ta, ts.map V.str, rfl, .inl hL2, _, _, rfl, rfl, _, rfl, by rw [List.length_map]; omega, by rw [List.length_map]; omega, ?_⟩
    refine for_range (lo := 0) (n := (((ts.map V.str).length : Int) + 3).toNat) (fun i σ H' => ∃ (wd : Str) (o3 : Option V), σ = [some (.ref st), some (.ref ta), some (.str wd), o3] ∧ Ext st c H H' ∧ wd.length ≤ 300) ⟨_, _, rfl, e2, hw⟩ ?_ ?_
    · rintro i σ H3 hi ⟨wd, o3, rfl, e3, hw⟩
      rw [List.length_map] at hi
      refine ⟨_, rfl, _, rfl, ta, ts.map V.str, rfl, .inl (e3.seqL na hL), rfl, by rw [List.all_map]; exact List.all_eq_true.mpr fun _ _ => rfl, !inV (.str wd) (ts.map V.str), rfl, ?_⟩
      refine ite2 (fun _ => ⟨_, rfl, k _ _ e3 (by omega)⟩) fun _ => ?_
      have hk := strk (i := i) (by omega)
      refine ⟨_, rfl, ⟨_, rfl⟩, wd, _, rfl, rfl, by decide +kernel, small _ (by omega), fun p hp => ?_⟩
      have e4 := e3.new (o := .lst ((Txt.split wd ".").map V.str)) hp
      have pos := PyProof.Rows.split_pos wd "."
      obtain ⟨z0, zr, hz⟩ : ∃ z0 zr, Txt.split wd "." = z0 :: zr := by
        cases q : Txt.split wd "." with
        | nil => rw [q] at pos; simp at pos
        | cons a b => exact ⟨a, b, rfl⟩
      have zl : z0.length ≤ wd.length := PyProof.Rows.part_short (y := ".") (by rw [hz]; exact List.mem_cons_self ..)
      have d1 : (cutS z0 none (some 9)).length ≤ 9 := cutk z0 9
      refine ⟨p, (Txt.split wd ".").map V.str, 0, .str z0, rfl, rfl, SqL.of upd_same, atI_nat (j := 0) (by rw [hz]; rfl), 9, rfl, z0, rfl, small _ (by omega), _, _, rfl, rfl, small _ (by omega), _, rfl, _, rfl, hk.1, _, _, rfl, rfl, ?_, ?_⟩
      · refine small _ ?_
        rw [str_app]
        have := hk.2
        show _ + (Str.ofString (toString (0 + (i : Int)))).length ≤ 100000
        omega
      · refine ⟨_, _, rfl, e4, ?_⟩
        rw [str_app, str_app]
        have := hk.2
        show _ + (Str.ofString (toString (0 + (i : Int)))).length ≤ 300
        omega
    · rintro σ H3 ⟨wd, o3, rfl, e3, hw⟩
      exact ⟨_, rfl, k _ _ e3 (by omega)⟩
end
end SD
namespace SD
open PySem L2
section
variable {P : Program} {w : World} {K : PySem.W.Frag} {mg : Str → Option Value} {base : Heap} {f : Addr} {fd : FuncData}
theorem sc__law_same : FnScope ["left", "right", "k", "name"] ["left", "right"] (defScope st__law_same) := ⟨rfl, rfl, rfl, by decide +kernel, rfl, by decide +kernel, by decide +kernel⟩
theorem ok__law_same (F : Fun K "_law_same" "_law_same" st__law_same f fd) (T : Tx mg) (hm : mg "_law_same" = some (.ref f)) (b : Binds K fd ["left", "right"] []) (bk : BK "_law_same" st__law_same ["left", "right"]) : ∀ n : Nat, FnOk P w K mg base CX0 (n + 1) f fd ["left", "right"] (spLawSame K n)
  | 0 => by
    refine F.ok (k := 0) sc__law_same (fun vs H Q E h => ?_) (fun cdv A outer s H vs Q E hr h => ?_)
    · obtain ⟨x, y, d, e, rfl, _⟩ := h
      rfl
    · obtain ⟨x, y, d, e, rfl, _, _, h0, _⟩ := h
      exact absurd h0 (Nat.not_lt_zero _)
  | n + 1 => by
    have c_same : Cal P w K mg base "_law_same" (n + 1) ["left", "right"] (spLawSame K n) := cal_of F hm b bk (ok__law_same F T hm b bk n)
    refine F.ok (k := n + 1) sc__law_same (fun vs H Q E h => ?_) (fun cdv A outer s H vs Q E hr h => ?_)
    · obtain ⟨x, y, d, e, rfl, _⟩ := h
      rfl
    · obtain ⟨x, y, d, e, rfl, rx, ry, hd, k⟩ := h
      refine ⟨_, (pss_cons (ps_if (pt_val (pe_callB (call_isN2 (T := "tuple") (U := "list")) (by rfl) T.isi PyProof.Rows.boot_isinstance (pa_cons (pv 0) (pa_cons (pe_tup (pa_cons (pe_bltn (v := .ty "tuple") (by rfl) T.tup PyProof.Rows.boot_tuple rfl) (pa_cons (pe_bltn (v := .ty "list") (by rfl) T.lst PyProof.Rows.boot_list rfl) pa_nil))) pa_nil)))) (pss_cons (ps_if (PW.pt (pw_and (pt_not (pt_val (pe_callB (call_isN (T := "tuple")) (by rfl) T.isi PyProof.Rows.boot_isinstance (pa_cons (pv 1) (pa_cons (pe_bltn (v := .ty "tuple") (by rfl) T.tup PyProof.Rows.boot_tuple rfl) pa_nil))))) (pw_and1 (pt_not (pt_val (pe_callB (call_isN (T := "list")) (by rfl) T.isi PyProof.Rows.boot_isinstance (pa_cons (pv 1) (pa_cons (pe_bltn (v := .ty "list") (by rfl) T.lst PyProof.Rows.boot_list rfl) pa_nil)))))))) (pss_one (ps_ret pe_bl)) pss_nil) (pss_cons (ps_if (PW.pt (pw_or (pt_cmpR op_ne (pe_callB (call_isN (T := "tuple")) (by rfl) T.isi PyProof.Rows.boot_isinstance (pa_cons (pv 0) (pa_cons (pe_bltn (v := .ty "tuple") (by rfl) T.tup PyProof.Rows.boot_tuple rfl) pa_nil))) (pe_callB (call_isN (T := "tuple")) (by rfl) T.isi PyProof.Rows.boot_isinstance (pa_cons (pv 1) (pa_cons (pe_bltn (v := .ty "tuple") (by rfl) T.tup PyProof.Rows.boot_tuple rfl) pa_nil))) (nomark _)) (pw_or1 (pt_cmpR op_ne (pe_callB call_len_seq (by rfl) T.len PySem.boot_len (pa_cons (pv 0) pa_nil)) (pe_callB call_len_seq (by rfl) T.len PySem.boot_len (pa_cons (pv 1) pa_nil)) (nomark _))))) (pss_one (ps_ret pe_bl)) pss_nil) (pss_cons (ps_for PassesOwn.never rfl (pi_range1 (by rfl) T.range (pa_cons (pe_callB call_len_seq (by rfl) T.len PySem.boot_len (pa_cons (pv 0) pa_nil)) pa_nil)) (pg_name (i := 2) sc__law_same.nd rfl (Or.inl rfl)) (pss_one (ps_if (pt_not (pt_val (pe_c c_same hr rfl (pa_cons (pe_ix ix_tup (pv 0) (pv 2) (fun _ _ => rfl)) (pa_cons (pe_ix ix_tup (pv 1) (pv 2) (fun _ _ => rfl)) pa_nil))))) (pss_one (ps_ret pe_bl)) pss_nil))) (pss_one (ps_ret pe_bl))))) pss_nil) (pss_cons (ps_if (pt_val (pe_callB (call_isN (T := "dict")) (by rfl) T.isi PyProof.Rows.boot_isinstance (pa_cons (pv 0) (pa_cons (pe_bltn (v := .ty "dict") (by rfl) T.dict PyProof.Rows.boot_dict rfl) pa_nil)))) pss_never pss_nil) (pss_cons (ps_if (PW.pt (pw_or (pt_cmpR op_isN (pv 0) pe_non (nomark _)) (pw_or1 (pt_cmpR op_isN (pv 1) pe_non (nomark _))))) (pss_one (ps_ret (pe_and (pe_cmpR op_isN (pv 0) pe_non (nomark _)) (pe_one (pe_cmpR op_isN (pv 1) pe_non (nomark _)))))) pss_nil) (pss_cons (ps_if (PW.pt (pw_or (pt_val (pe_callB (call_isN (T := "bool")) (by rfl) T.isi PyProof.Rows.boot_isinstance (pa_cons (pv 0) (pa_cons (pe_bltn (v := .ty "bool") (by rfl) T.bool PyProof.Rows.boot_bool rfl) pa_nil)))) (pw_or1 (pt_val (pe_callB (call_isN (T := "bool")) (by rfl) T.isi PyProof.Rows.boot_isinstance (pa_cons (pv 1) (pa_cons (pe_bltn (v := .ty "bool") (by rfl) T.bool PyProof.Rows.boot_bool rfl) pa_nil))))))) (pss_one (ps_ret (pe_and (pe_callB (call_isN (T := "bool")) (by rfl) T.isi PyProof.Rows.boot_isinstance (pa_cons (pv 0) (pa_cons (pe_bltn (v := .ty "bool") (by rfl) T.bool PyProof.Rows.boot_bool rfl) pa_nil))) (pe_and (pe_callB (call_isN (T := "bool")) (by rfl) T.isi PyProof.Rows.boot_isinstance (pa_cons (pv 1) (pa_cons (pe_bltn (v := .ty "bool") (by rfl) T.bool PyProof.Rows.boot_bool rfl) pa_nil))) (pe_one (pe_cmpR op_eq (pv 0) (pv 1) (nomark _))))))) pss_nil) (pss_cons (ps_if (pt_val (pe_callB (call_isN (T := "int")) (by rfl) T.isi PyProof.Rows.boot_isinstance (pa_cons (pv 0) (pa_cons (pe_bltn (v := .ty "int") (by rfl) T.int PyProof.Rows.boot_int rfl) pa_nil)))) (pss_one (ps_ret (pe_and (pe_callB (call_isN (T := "int")) (by rfl) T.isi PyProof.Rows.boot_isinstance (pa_cons (pv 1) (pa_cons (pe_bltn (v := .ty "int") (by rfl) T.int PyProof.Rows.boot_int rfl) pa_nil))) (pe_one (pe_cmpR op_eq (pv 0) (pv 1) (nomark _)))))) pss_nil) (pss_one (ps_ret (pe_and (pe_callB (call_isN (T := "str")) (by rfl) T.isi PyProof.Rows.boot_isinstance (pa_cons (pv 0) (pa_cons (pe_bltn (v := .ty "str") (by rfl) T.str PyProof.Rows.boot_str rfl) pa_nil))) (pe_and (pe_callB (call_isN (T := "str")) (by rfl) T.isi PyProof.Rows.boot_isinstance (pa_cons (pv 1) (pa_cons (pe_bltn (v := .ty "str") (by rfl) T.str PyProof.Rows.boot_str rfl) pa_nil))) (pe_one (pe_cmpR op_eq (pv 0) (pv 1) (nomark _)))))))))))), ?_⟩
      cases rx with
      | sc hv =>
        cases x with
        | non =>
          cases ry with
          | @tup b2 ys es h2 z2 r2 => exact ⟨_, rfl, two, fun p hp => ⟨_, p, "NoneType", false, false, rfl, upd_same, .non, k_NoneType_tuple, k_NoneType_list, false, rfl, _, rfl, _, "NoneType", false, rfl, .non, k_NoneType_dict, false, rfl, _, rfl, rfl, true, rfl, _, rfl, rfl, true, rfl, _, rfl, rfl, k _ (SD.Same.new hp)⟩⟩
          | sc hw =>
            cases y with
            | non => exact ⟨_, rfl, two, fun p hp => ⟨_, p, "NoneType", false, false, rfl, upd_same, .non, k_NoneType_tuple, k_NoneType_list, false, rfl, _, rfl, _, "NoneType", false, rfl, .non, k_NoneType_dict, false, rfl, _, rfl, rfl, true, rfl, _, rfl, rfl, true, rfl, _, rfl, rfl, k _ (SD.Same.new hp)⟩⟩
            | bl j => exact ⟨_, rfl, two, fun p hp => ⟨_, p, "NoneType", false, false, rfl, upd_same, .non, k_NoneType_tuple, k_NoneType_list, false, rfl, _, rfl, _, "NoneType", false, rfl, .non, k_NoneType_dict, false, rfl, _, rfl, rfl, true, rfl, _, rfl, rfl, true, rfl, _, rfl, rfl, k _ (SD.Same.new hp)⟩⟩
            | int j => exact ⟨_, rfl, two, fun p hp => ⟨_, p, "NoneType", false, false, rfl, upd_same, .non, k_NoneType_tuple, k_NoneType_list, false, rfl, _, rfl, _, "NoneType", false, rfl, .non, k_NoneType_dict, false, rfl, _, rfl, rfl, true, rfl, _, rfl, rfl, true, rfl, _, rfl, rfl, k _ (SD.Same.new hp)⟩⟩
            | str j => exact ⟨_, rfl, two, fun p hp => ⟨_, p, "NoneType", false, false, rfl, upd_same, .non, k_NoneType_tuple, k_NoneType_list, false, rfl, _, rfl, _, "NoneType", false, rfl, .non, k_NoneType_dict, false, rfl, _, rfl, rfl, true, rfl, _, rfl, rfl, true, rfl, _, rfl, rfl, k _ (SD.Same.new hp)⟩⟩
            | byt _ => cases hw
            | flt _ => cases hw
            | ref _ => cases hw
            | ty _ => cases hw
        | bl i =>
          cases ry with
          | @tup b2 ys es h2 z2 r2 => exact ⟨_, rfl, two, fun p hp => ⟨_, p, "bool", false, false, rfl, upd_same, (.bl _), k_bool_tuple, k_bool_list, false, rfl, _, rfl, _, "bool", false, rfl, (.bl _), k_bool_dict, false, rfl, _, rfl, rfl, false, rfl, _, rfl, rfl, false, rfl, _, rfl, _, "bool", true, rfl, (.bl _), k_bool_bool, true, rfl, _, rfl, _, "bool", true, rfl, (.bl _), k_bool_bool, true, rfl, _, rfl, _, "tuple", false, rfl, (.tup (SD.Same.seqT (SD.Same.new hp) h2)), k_tuple_bool, false, rfl, k _ (SD.Same.new hp)⟩⟩
          | sc hw =>
            cases y with
            | non => exact ⟨_, rfl, two, fun p hp => ⟨_, p, "bool", false, false, rfl, upd_same, (.bl _), k_bool_tuple, k_bool_list, false, rfl, _, rfl, _, "bool", false, rfl, (.bl _), k_bool_dict, false, rfl, _, rfl, rfl, false, rfl, _, rfl, rfl, true, rfl, _, rfl, rfl, false, rfl, k _ (SD.Same.new hp)⟩⟩
            | bl j => exact ⟨_, rfl, two, fun p hp => ⟨_, p, "bool", false, false, rfl, upd_same, (.bl _), k_bool_tuple, k_bool_list, false, rfl, _, rfl, _, "bool", false, rfl, (.bl _), k_bool_dict, false, rfl, _, rfl, rfl, false, rfl, _, rfl, rfl, false, rfl, _, rfl, _, "bool", true, rfl, (.bl _), k_bool_bool, true, rfl, _, rfl, _, "bool", true, rfl, (.bl _), k_bool_bool, true, rfl, _, rfl, _, "bool", true, rfl, (.bl _), k_bool_bool, true, rfl, _, rfl, _, rfl, rfl, by simpa [sameD] using k _ (SD.Same.new hp)⟩⟩
            | int j => exact ⟨_, rfl, two, fun p hp => ⟨_, p, "bool", false, false, rfl, upd_same, (.bl _), k_bool_tuple, k_bool_list, false, rfl, _, rfl, _, "bool", false, rfl, (.bl _), k_bool_dict, false, rfl, _, rfl, rfl, false, rfl, _, rfl, rfl, false, rfl, _, rfl, _, "bool", true, rfl, (.bl _), k_bool_bool, true, rfl, _, rfl, _, "bool", true, rfl, (.bl _), k_bool_bool, true, rfl, _, rfl, _, "int", false, rfl, (.int _), k_int_bool, false, rfl, k _ (SD.Same.new hp)⟩⟩
            | str j => exact ⟨_, rfl, two, fun p hp => ⟨_, p, "bool", false, false, rfl, upd_same, (.bl _), k_bool_tuple, k_bool_list, false, rfl, _, rfl, _, "bool", false, rfl, (.bl _), k_bool_dict, false, rfl, _, rfl, rfl, false, rfl, _, rfl, rfl, false, rfl, _, rfl, _, "bool", true, rfl, (.bl _), k_bool_bool, true, rfl, _, rfl, _, "bool", true, rfl, (.bl _), k_bool_bool, true, rfl, _, rfl, _, "str", false, rfl, (.str _), k_str_bool, false, rfl, k _ (SD.Same.new hp)⟩⟩
            | byt _ => cases hw
            | flt _ => cases hw
            | ref _ => cases hw
            | ty _ => cases hw
        | int i =>
          cases ry with
          | @tup b2 ys es h2 z2 r2 => exact ⟨_, rfl, two, fun p hp => ⟨_, p, "int", false, false, rfl, upd_same, (.int _), k_int_tuple, k_int_list, false, rfl, _, rfl, _, "int", false, rfl, (.int _), k_int_dict, false, rfl, _, rfl, rfl, false, rfl, _, rfl, rfl, false, rfl, _, rfl, _, "int", false, rfl, (.int _), k_int_bool, false, rfl, _, rfl, _, "tuple", false, rfl, (.tup (SD.Same.seqT (SD.Same.new hp) h2)), k_tuple_bool, false, rfl, _, rfl, _, "int", true, rfl, (.int _), k_int_int, true, rfl, _, rfl, _, "tuple", false, rfl, (.tup (SD.Same.seqT (SD.Same.new hp) h2)), k_tuple_int, false, rfl, k _ (SD.Same.new hp)⟩⟩
          | sc hw =>
            cases y with
            | non => exact ⟨_, rfl, two, fun p hp => ⟨_, p, "int", false, false, rfl, upd_same, (.int _), k_int_tuple, k_int_list, false, rfl, _, rfl, _, "int", false, rfl, (.int _), k_int_dict, false, rfl, _, rfl, rfl, false, rfl, _, rfl, rfl, true, rfl, _, rfl, rfl, false, rfl, k _ (SD.Same.new hp)⟩⟩
            | bl j => exact ⟨_, rfl, two, fun p hp => ⟨_, p, "int", false, false, rfl, upd_same, (.int _), k_int_tuple, k_int_list, false, rfl, _, rfl, _, "int", false, rfl, (.int _), k_int_dict, false, rfl, _, rfl, rfl, false, rfl, _, rfl, rfl, false, rfl, _, rfl, _, "int", false, rfl, (.int _), k_int_bool, false, rfl, _, rfl, _, "bool", true, rfl, (.bl _), k_bool_bool, true, rfl, _, rfl, _, "int", false, rfl, (.int _), k_int_bool, false, rfl, k _ (SD.Same.new hp)⟩⟩
            | int j => exact ⟨_, rfl, two, fun p hp => ⟨_, p, "int", false, false, rfl, upd_same, (.int _), k_int_tuple, k_int_list, false, rfl, _, rfl, _, "int", false, rfl, (.int _), k_int_dict, false, rfl, _, rfl, rfl, false, rfl, _, rfl, rfl, false, rfl, _, rfl, _, "int", false, rfl, (.int _), k_int_bool, false, rfl, _, rfl, _, "int", false, rfl, (.int _), k_int_bool, false, rfl, _, rfl, _, "int", true, rfl, (.int _), k_int_int, true, rfl, _, rfl, _, "int", true, rfl, (.int _), k_int_int, true, rfl, _, rfl, _, rfl, rfl, by simpa [sameD] using k _ (SD.Same.new hp)⟩⟩
            | str j => exact ⟨_, rfl, two, fun p hp => ⟨_, p, "int", false, false, rfl, upd_same, (.int _), k_int_tuple, k_int_list, false, rfl, _, rfl, _, "int", false, rfl, (.int _), k_int_dict, false, rfl, _, rfl, rfl, false, rfl, _, rfl, rfl, false, rfl, _, rfl, _, "int", false, rfl, (.int _), k_int_bool, false, rfl, _, rfl, _, "str", false, rfl, (.str _), k_str_bool, false, rfl, _, rfl, _, "int", true, rfl, (.int _), k_int_int, true, rfl, _, rfl, _, "str", false, rfl, (.str _), k_str_int, false, rfl, k _ (SD.Same.new hp)⟩⟩
            | byt _ => cases hw
            | flt _ => cases hw
            | ref _ => cases hw
            | ty _ => cases hw
        | str i =>
          cases ry with
          | @tup b2 ys es h2 z2 r2 => exact ⟨_, rfl, two, fun p hp => ⟨_, p, "str", false, false, rfl, upd_same, (.str _), k_str_tuple, k_str_list, false, rfl, _, rfl, _, "str", false, rfl, (.str _), k_str_dict, false, rfl, _, rfl, rfl, false, rfl, _, rfl, rfl, false, rfl, _, rfl, _, "str", false, rfl, (.str _), k_str_bool, false, rfl, _, rfl, _, "tuple", false, rfl, (.tup (SD.Same.seqT (SD.Same.new hp) h2)), k_tuple_bool, false, rfl, _, rfl, _, "str", false, rfl, (.str _), k_str_int, false, rfl, _, rfl, _, "str", true, rfl, (.str _), k_str_str, true, rfl, _, rfl, _, "tuple", false, rfl, (.tup (SD.Same.seqT (SD.Same.new hp) h2)), k_tuple_str, false, rfl, k _ (SD.Same.new hp)⟩⟩
          | sc hw =>
            cases y with
            | non => exact ⟨_, rfl, two, fun p hp => ⟨_, p, "str", false, false, rfl, upd_same, (.str _), k_str_tuple, k_str_list, false, rfl, _, rfl, _, "str", false, rfl, (.str _), k_str_dict, false, rfl, _, rfl, rfl, false, rfl, _, rfl, rfl, true, rfl, _, rfl, rfl, false, rfl, k _ (SD.Same.new hp)⟩⟩
            | bl j => exact ⟨_, rfl, two, fun p hp => ⟨_, p, "str", false, false, rfl, upd_same, (.str _), k_str_tuple, k_str_list, false, rfl, _, rfl, _, "str", false, rfl, (.str _), k_str_dict, false, rfl, _, rfl, rfl, false, rfl, _, rfl, rfl, false, rfl, _, rfl, _, "str", false, rfl, (.str _), k_str_bool, false, rfl, _, rfl, _, "bool", true, rfl, (.bl _), k_bool_bool, true, rfl, _, rfl, _, "str", false, rfl, (.str _), k_str_bool, false, rfl, k _ (SD.Same.new hp)⟩⟩
            | int j => exact ⟨_, rfl, two, fun p hp => ⟨_, p, "str", false, false, rfl, upd_same, (.str _), k_str_tuple, k_str_list, false, rfl, _, rfl, _, "str", false, rfl, (.str _), k_str_dict, false, rfl, _, rfl, rfl, false, rfl, _, rfl, rfl, false, rfl, _, rfl, _, "str", false, rfl, (.str _), k_str_bool, false, rfl, _, rfl, _, "int", false, rfl, (.int _), k_int_bool, false, rfl, _, rfl, _, "str", false, rfl, (.str _), k_str_int, false, rfl, _, rfl, _, "str", true, rfl, (.str _), k_str_str, true, rfl, _, rfl, _, "int", false, rfl, (.int _), k_int_str, false, rfl, k _ (SD.Same.new hp)⟩⟩
            | str j => exact ⟨_, rfl, two, fun p hp => ⟨_, p, "str", false, false, rfl, upd_same, (.str _), k_str_tuple, k_str_list, false, rfl, _, rfl, _, "str", false, rfl, (.str _), k_str_dict, false, rfl, _, rfl, rfl, false, rfl, _, rfl, rfl, false, rfl, _, rfl, _, "str", false, rfl, (.str _), k_str_bool, false, rfl, _, rfl, _, "str", false, rfl, (.str _), k_str_bool, false, rfl, _, rfl, _, "str", false, rfl, (.str _), k_str_int, false, rfl, _, rfl, _, "str", true, rfl, (.str _), k_str_str, true, rfl, _, rfl, _, "str", true, rfl, (.str _), k_str_str, true, rfl, _, rfl, _, rfl, rfl, by simpa [sameD] using k _ (SD.Same.new hp)⟩⟩
            | byt _ => cases hw
            | flt _ => cases hw
            | ref _ => cases hw
            | ty _ => cases hw
        | byt _ => cases hv
        | flt _ => cases hv
        | ref _ => cases hv
        | ty _ => cases hv
      | @tup a xs ds h1 z1 r1 =>
        cases ry with
        | sc hw =>
          cases y with
          | non => exact ⟨_, rfl, two, fun p hp => ⟨_, p, "tuple", true, false, rfl, upd_same, .tup (SD.Same.seqT (SD.Same.new hp) h1), k_tuple_tuple, k_tuple_list, true, rfl, _, rfl, _, "NoneType", false, rfl, .non, k_NoneType_tuple, false, rfl, _, rfl, _, "NoneType", false, rfl, .non, k_NoneType_list, false, rfl, k _ (SD.Same.new hp)⟩⟩
          | bl j => exact ⟨_, rfl, two, fun p hp => ⟨_, p, "tuple", true, false, rfl, upd_same, .tup (SD.Same.seqT (SD.Same.new hp) h1), k_tuple_tuple, k_tuple_list, true, rfl, _, rfl, _, "bool", false, rfl, (.bl _), k_bool_tuple, false, rfl, _, rfl, _, "bool", false, rfl, (.bl _), k_bool_list, false, rfl, k _ (SD.Same.new hp)⟩⟩
          | int j => exact ⟨_, rfl, two, fun p hp => ⟨_, p, "tuple", true, false, rfl, upd_same, .tup (SD.Same.seqT (SD.Same.new hp) h1), k_tuple_tuple, k_tuple_list, true, rfl, _, rfl, _, "int", false, rfl, (.int _), k_int_tuple, false, rfl, _, rfl, _, "int", false, rfl, (.int _), k_int_list, false, rfl, k _ (SD.Same.new hp)⟩⟩
          | str j => exact ⟨_, rfl, two, fun p hp => ⟨_, p, "tuple", true, false, rfl, upd_same, .tup (SD.Same.seqT (SD.Same.new hp) h1), k_tuple_tuple, k_tuple_list, true, rfl, _, rfl, _, "str", false, rfl, (.str _), k_str_tuple, false, rfl, _, rfl, _, "str", false, rfl, (.str _), k_str_list, false, rfl, k _ (SD.Same.new hp)⟩⟩
          | byt _ => cases hw
          | flt _ => cases hw
          | ref _ => cases hw
          | ty _ => cases hw
        | @tup b2 ys es h2 z2 r2 =>
          refine ⟨_, rfl, two, fun p hp => ⟨_, p, "tuple", true, false, rfl, upd_same, .tup (SD.Same.seqT (SD.Same.new hp) h1), k_tuple_tuple, k_tuple_list, true, rfl, ?_⟩⟩
          have s0 : Same H (upd H p (.tup [.ty "tuple", .ty "list"])) := SD.Same.new hp
          have g1 := SD.Same.seqT s0 h1
          have g2 := SD.Same.seqT s0 h2
          refine ⟨_, rfl, _, "tuple", true, rfl, .tup g2, k_tuple_tuple, true, rfl, ?_⟩
          refine ⟨_, rfl, _, "tuple", true, rfl, .tup g1, k_tuple_tuple, _, rfl, _, "tuple", true, rfl, .tup g2, k_tuple_tuple, rfl, false, rfl, ?_⟩
          refine ⟨_, rfl, a, xs, rfl, .inr g1, _, rfl, b2, ys, rfl, .inr g2, rfl, _, rfl, ?_⟩
          by_cases hl : xs.length = ys.length
          · have e1 : (!decide (V.int (xs.length : Int) = V.int (ys.length : Int))) = false := by rw [hl]; simp
            rw [e1]
            refine iteF ?_
            have hds : ds.length = es.length := by rw [← r1.len, ← r2.len, hl]
            refine ⟨_, rfl, a, xs, rfl, .inr g1, (xs.length : Int), rfl, by omega, by omega, ?_⟩
            refine for_range (lo := 0) (n := xs.length) (fun i σ H' => ∃ o1, σ = [some (.ref a), some (.ref b2), o1, none] ∧ Same H H' ∧ ∀ (j : Nat) (d e : D), j < i → ds[j]? = some d → es[j]? = some e → sameD d e = true)
              ⟨none, rfl, s0, fun j d e hj => absurd hj (Nat.not_lt_zero _)⟩ ?_ ?_
            · rintro i σ H' hi ⟨o1, rfl, s1, hall⟩
              have hx : xs[i]? = some xs[i] := List.getElem?_eq_getElem hi
              have hy : ys[i]? = some (ys[i]'(hl ▸ hi)) := List.getElem?_eq_getElem _
              obtain ⟨d1, hd1, rd1⟩ := RepAll.at i r1 hx
              obtain ⟨d2, hd2, rd2⟩ := RepAll.at i r2 hy
              have dd := depAll_at i hd1
              have hdd : depAll ds + 1 < n + 1 := hd
              refine ⟨_, rfl, _, rfl, a, xs, _, _, rfl, rfl, SD.Same.seqT s1 h1, by rw [Int.zero_add]; exact atI_nat hx, ?_⟩
              refine ⟨_, rfl, _, rfl, b2, ys, _, _, rfl, rfl, SD.Same.seqT s1 h2, by rw [Int.zero_add]; exact atI_nat hy, ?_⟩
              refine ⟨_, _, d1, d2, rfl, rd1.same s1, rd2.same s1, by omega, fun H3 s3 => ⟨_, rfl, ?_⟩⟩
              cases q : sameD d1 d2 with
              | true =>
                refine ⟨_, rfl, s1.trans s3, fun j d e hj h3 h4 => ?_⟩
                by_cases ej : j = i
                · subst ej
                  rw [hd1] at h3; cases h3
                  rw [hd2] at h4; cases h4
                  exact q
                · exact hall j d e (by omega) h3 h4
              | false =>
                have : sameD (.tup ds) (.tup es) = false := by simp only [sameD]; exact sameAll_at i hd1 hd2 q
                rw [this] at k
                exact k _ (s1.trans s3)
            · rintro σ H' ⟨o1, rfl, s1, hall⟩
              have : sameD (.tup ds) (.tup es) = true := by
                simp only [sameD]
                refine sameAll_all hds fun i d e h3 h4 => hall i d e ?_ h3 h4
                have := (List.getElem?_eq_some_iff.mp h3).1
                rw [r1.len]; exact this
              rw [this] at k
              exact k _ s1
          · have e1 : (!decide (V.int (xs.length : Int) = V.int (ys.length : Int))) = true := by
              have : ¬ V.int (xs.length : Int) = V.int (ys.length : Int) := fun z => hl (by injection z with z; exact Int.ofNat.inj z)
              simp [this]
            rw [e1]
            refine iteT ?_
            have : sameD (.tup ds) (.tup es) = false := by
              simp only [sameD]
              exact sameAll_len (by rw [← r1.len, ← r2.len]; exact hl)
            rw [this] at k
            exact k _ s0
theorem ok__law_sameL (F : Fun K "_law_same" "_law_same" st__law_same f fd) (T : Tx mg) (hm : mg "_law_same" = some (.ref f)) (b : Binds K fd ["left", "right"] []) (bk : BK "_law_same" st__law_same ["left", "right"]) (n : Nat) : FnOk P w K mg base CX0 (n + 2) f fd ["left", "right"] (spLawSameL K n) := by
  have c_same : Cal P w K mg base "_law_same" (n + 1) ["left", "right"] (spLawSame K n) := cal_of F hm b bk (ok__law_same F T hm b bk n)
  refine F.ok (k := n + 1) sc__law_same (fun vs H Q E h => ?_) (fun cdv A outer s H vs Q E hr h => ?_)
  · obtain ⟨a, b, xs, ys, ds, es, rfl, _⟩ := h
    rfl
  · obtain ⟨a, b2, xs, ys, ds, es, rfl, h1, h2, z1, r1, r2, hd, k⟩ := h
    refine ⟨_, (pss_cons (ps_if (pt_val (pe_callB (call_isN2 (T := "tuple") (U := "list")) (by rfl) T.isi PyProof.Rows.boot_isinstance (pa_cons (pv 0) (pa_cons (pe_tup (pa_cons (pe_bltn (v := .ty "tuple") (by rfl) T.tup PyProof.Rows.boot_tuple rfl) (pa_cons (pe_bltn (v := .ty "list") (by rfl) T.lst PyProof.Rows.boot_list rfl) pa_nil))) pa_nil)))) (pss_cons (ps_if (PW.pt (pw_and (pt_not (pt_val (pe_callB (call_isN (T := "tuple")) (by rfl) T.isi PyProof.Rows.boot_isinstance (pa_cons (pv 1) (pa_cons (pe_bltn (v := .ty "tuple") (by rfl) T.tup PyProof.Rows.boot_tuple rfl) pa_nil))))) (pw_and1 (pt_not (pt_val (pe_callB (call_isN (T := "list")) (by rfl) T.isi PyProof.Rows.boot_isinstance (pa_cons (pv 1) (pa_cons (pe_bltn (v := .ty "list") (by rfl) T.lst PyProof.Rows.boot_list rfl) pa_nil)))))))) (pss_one (ps_ret pe_bl)) pss_nil) (pss_cons (ps_if (PW.pt (pw_or (pt_cmpR op_ne (pe_callB (call_isN (T := "tuple")) (by rfl) T.isi PyProof.Rows.boot_isinstance (pa_cons (pv 0) (pa_cons (pe_bltn (v := .ty "tuple") (by rfl) T.tup PyProof.Rows.boot_tuple rfl) pa_nil))) (pe_callB (call_isN (T := "tuple")) (by rfl) T.isi PyProof.Rows.boot_isinstance (pa_cons (pv 1) (pa_cons (pe_bltn (v := .ty "tuple") (by rfl) T.tup PyProof.Rows.boot_tuple rfl) pa_nil))) (nomark _)) (pw_or1 (pt_cmpR op_ne (pe_callB call_len_seq (by rfl) T.len PySem.boot_len (pa_cons (pv 0) pa_nil)) (pe_callB call_len_seq (by rfl) T.len PySem.boot_len (pa_cons (pv 1) pa_nil)) (nomark _))))) (pss_one (ps_ret pe_bl)) pss_nil) (pss_cons (ps_for PassesOwn.never rfl (pi_range1 (by rfl) T.range (pa_cons (pe_callB call_len_seq (by rfl) T.len PySem.boot_len (pa_cons (pv 0) pa_nil)) pa_nil)) (pg_name (i := 2) sc__law_same.nd rfl (Or.inl rfl)) (pss_one (ps_if (pt_not (pt_val (pe_c c_same hr rfl (pa_cons (pe_ix ix_list (pv 0) (pv 2) (fun _ _ => rfl)) (pa_cons (pe_ix ix_list (pv 1) (pv 2) (fun _ _ => rfl)) pa_nil))))) (pss_one (ps_ret pe_bl)) pss_nil))) (pss_one (ps_ret pe_bl))))) pss_nil) pss_never), ?_⟩
    refine ⟨_, rfl, two, fun p hp => ⟨_, p, "list", false, true, rfl, upd_same, .lst ((SD.Same.new hp).seq h1), k_list_tuple, k_list_list, true, rfl, ?_⟩⟩
    have s0 : Same H (upd H p (.tup [.ty "tuple", .ty "list"])) := SD.Same.new hp
    have g1 := s0.seq h1
    have g2 := s0.seq h2
    refine ⟨_, rfl, _, "list", false, rfl, .lst g2, k_list_tuple, false, rfl, ?_⟩
    refine ⟨_, rfl, _, "list", true, rfl, .lst g2, k_list_list, true, rfl, ?_⟩
    refine ⟨_, rfl, _, "list", false, rfl, .lst g1, k_list_tuple, _, rfl, _, "list", false, rfl, .lst g2, k_list_tuple, rfl, false, rfl, ?_⟩
    refine ⟨_, rfl, a, xs, rfl, .inl g1, _, rfl, b2, ys, rfl, .inl g2, rfl, _, rfl, ?_⟩
    by_cases hl : xs.length = ys.length
    · have e1 : (!decide (V.int (xs.length : Int) = V.int (ys.length : Int))) = false := by rw [hl]; simp
      rw [e1]
      refine iteF ?_
      have hds : ds.length = es.length := by rw [← r1.len, ← r2.len, hl]
      refine ⟨_, rfl, a, xs, rfl, .inl g1, (xs.length : Int), rfl, by omega, by omega, ?_⟩
      refine for_range (lo := 0) (n := xs.length) (fun i σ H' => ∃ o1, σ = [some (.ref a), some (.ref b2), o1, none] ∧ Same H H' ∧ ∀ (j : Nat) (d e : D), j < i → ds[j]? = some d → es[j]? = some e → sameD d e = true)
        ⟨none, rfl, s0, fun j d e hj => absurd hj (Nat.not_lt_zero _)⟩ ?_ ?_
      · rintro i σ H' hi ⟨o1, rfl, s1, hall⟩
        have hx : xs[i]? = some xs[i] := List.getElem?_eq_getElem hi
        have hy : ys[i]? = some (ys[i]'(hl ▸ hi)) := List.getElem?_eq_getElem _
        obtain ⟨d1, hd1, rd1⟩ := RepAll.at i r1 hx
        obtain ⟨d2, hd2, rd2⟩ := RepAll.at i r2 hy
        have dd := depAll_at i hd1
        refine ⟨_, rfl, _, rfl, a, xs, _, _, rfl, rfl, s1.seq h1, by rw [Int.zero_add]; exact atI_nat hx, ?_⟩
        refine ⟨_, rfl, _, rfl, b2, ys, _, _, rfl, rfl, s1.seq h2, by rw [Int.zero_add]; exact atI_nat hy, ?_⟩
        refine ⟨_, _, d1, d2, rfl, rd1.same s1, rd2.same s1, by omega, fun H3 s3 => ⟨_, rfl, ?_⟩⟩
        cases q : sameD d1 d2 with
        | true =>
          refine ⟨_, rfl, s1.trans s3, fun j d e hj h3 h4 => ?_⟩
          by_cases ej : j = i
          · subst ej
            rw [hd1] at h3; cases h3
            rw [hd2] at h4; cases h4
            exact q
          · exact hall j d e (by omega) h3 h4
        | false =>
          rw [sameAll_at i hd1 hd2 q] at k
          exact k _ (s1.trans s3)
      · rintro σ H' ⟨o1, rfl, s1, hall⟩
        rw [sameAll_all hds fun i d e h3 h4 => hall i d e (by
          have := (List.getElem?_eq_some_iff.mp h3).1
          rw [r1.len]; exact this) h3 h4] at k
        exact k _ s1
    · have e1 : (!decide (V.int (xs.length : Int) = V.int (ys.length : Int))) = true := by
        have : ¬ V.int (xs.length : Int) = V.int (ys.length : Int) := fun z => hl (by injection z with z; exact Int.ofNat.inj z)
        simp [this]
      rw [e1]
      refine iteT ?_
      rw [sameAll_len (by rw [← r1.len, ← r2.len]; exact hl)] at k
      exact k _ s0
end
end SD
namespace SD
open PySem L2
section
variable {P : Program} {w : World} {K : PySem.W.Frag} {mg : Str → Option Value} {base : Heap} {f : Addr} {fd : FuncData}
theorem sc__law_sort_key : FnScope ["value"] ["value"] (defScope st__law_sort_key) := ⟨rfl, rfl, rfl, by decide +kernel, rfl, by decide +kernel, by decide +kernel⟩
theorem ok__law_sort_key (F : Fun K "_law_sort_key" "_law_sort_key" st__law_sort_key f fd) (T : Tx mg) : FnOk P w K mg base CX0 1 f fd ["value"] spKey := by
  refine F.ok sc__law_sort_key (fun vs H Q E h => ?_) (fun cdv A outer s H vs Q E hr h => ?_)
  · obtain ⟨v, rfl, _⟩ := h
    rfl
  · obtain ⟨v, rfl, hv, k⟩ := h
    refine ⟨_, pss_cons (ps_if (pt_cmpR op_isN (pv 0) pe_non (nomark _)) (pss_one (ps_ret (pe_tup (pa_cons pe_int (pa_cons pe_int pa_nil))))) pss_nil)
      (pss_cons (ps_if (pt_val (pe_callB (call_isN (T := "bool")) (by rfl) T.isi PyProof.Rows.boot_isinstance (pa_cons (pv 0) (pa_cons (pe_bltn (v := .ty "bool") (by rfl) T.bool PyProof.Rows.boot_bool rfl) pa_nil))))
        (pss_one (ps_ret (pe_tup (pa_cons pe_int (pa_cons (pe_callTy call_int1 (by rfl) T.int PyProof.Rows.boot_int (pa_cons (pv 0) pa_nil)) pa_nil))))) pss_nil)
      (pss_cons (ps_if (pt_val (pe_callB (call_isN (T := "int")) (by rfl) T.isi PyProof.Rows.boot_isinstance (pa_cons (pv 0) (pa_cons (pe_bltn (v := .ty "int") (by rfl) T.int PyProof.Rows.boot_int rfl) pa_nil))))
        (pss_one (ps_ret (pe_tup (pa_cons pe_int (pa_cons (pv 0) pa_nil))))) pss_nil)
      (pss_one (ps_ret (pe_tup (pa_cons pe_int (pa_cons (pv 0) pa_nil))))))), ?_⟩
    refine ⟨_, rfl, rfl, _, rfl, ?_⟩
    have fin : ∀ a b : V, sk v = [a, b] → ∀ p, H p = none → Q (.ref p) (upd H p (.tup [a, b])) := fun a b e p hp => k p _ hp (Same.new hp) (by rw [e]; exact upd_same)
    cases v with
    | non => exact ⟨by show 2 ≤ sizeLine; decide, fun p hp => fin _ _ rfl p hp⟩
    | bl b => exact ⟨_, rfl, _, _, true, rfl, .bl b, by decide +kernel, true, rfl, _, rfl, .inr ⟨b, rfl, by show 2 ≤ sizeLine; decide, fun p hp => fin _ _ rfl p hp⟩⟩
    | int i => exact ⟨_, rfl, _, _, false, rfl, .int i, by decide +kernel, false, rfl, _, rfl, _, _, true, rfl, .int i, by decide +kernel, true, rfl, _, rfl, by show 2 ≤ sizeLine; decide, fun p hp => fin _ _ rfl p hp⟩
    | str i => exact ⟨_, rfl, _, _, false, rfl, .str i, by decide +kernel, false, rfl, _, rfl, _, _, false, rfl, .str i, by decide +kernel, false, rfl, _, rfl, by show 2 ≤ sizeLine; decide, fun p hp => fin _ _ rfl p hp⟩
    | byt _ => cases hv
    | flt _ => cases hv
    | ref _ => cases hv
    | ty _ => cases hv
end
end SD
namespace SD
open PySem L2
section
variable {P : Program} {w : World} {K : PySem.W.Frag} {mg : Str → Option Value} {base : Heap} {f : Addr} {fd : FuncData}
theorem sc__law_leaf : FnScope ["store", "labels", "kind", "op", "right", "left"] ["store", "labels"] (defScope st__law_leaf) := ⟨rfl, rfl, rfl, by decide +kernel, rfl, by decide +kernel, by decide +kernel⟩
theorem ok__law_leaf (F : Fun K "_law_leaf" "_law_leaf" st__law_leaf f fd) (T : Tx mg) (c__law_take : Cal P w K mg base "_law_take" 2 ["store", "many"] spTake) (c__law_value : Cal P w K mg base "_law_value" 5 ["store"] spValue) (c__law_one : Cal P w K mg base "_law_one" 3 ["store", "row"] (spOne K)) : FnOk P w K mg base CX0 6 f fd ["store", "labels"] (spLeaf K) := by
  refine F.ok sc__law_leaf (fun vs H Q E h => ?_) (fun cdv A outer s H vs Q E hr h => ?_)
  · obtain ⟨st, c, la, ls, rfl, _⟩ := h
    rfl
  · obtain ⟨st, c, la, ls, rfl, hS, na, hL, hlen, k⟩ := h
    have h2 : Room 2 _ := hr.mono (by decide)
    have h3 : Room 3 _ := hr.mono (by decide)
    refine ⟨_, (pss_cons (ps_set (i := 2) sc__law_leaf.nd rfl (Or.inl rfl) (pe_c c__law_take h2 rfl (pa_cons (pv 0) (pa_cons pe_int pa_nil)))) (pss_cons (ps_if (pt_cmpR op_gt (pv 2) pe_int (nomark _)) (pss_one (ps_ret (pe_ifExp (pt_cmpR op_eq (pv 2) pe_int (nomark _)) (pe_tup (pa_cons pe_str pa_nil)) (pe_tup (pa_cons pe_str pa_nil))))) pss_nil) (pss_cons (ps_set (i := 3) sc__law_leaf.nd rfl (Or.inl rfl) (pe_ix ix_list (pe_lst (pa_cons pe_str (pa_cons pe_str (pa_cons pe_str (pa_cons pe_str (pa_cons pe_str (pa_cons pe_str pa_nil))))))) (pe_c c__law_take h2 rfl (pa_cons (pv 0) (pa_cons pe_int pa_nil))) (fun _ _ => rfl))) (pss_cons (ps_set (i := 4) sc__law_leaf.nd rfl (Or.inl rfl) (pe_tup (pa_cons pe_str (pa_cons (pe_c c__law_value hr rfl (pa_cons (pv 0) pa_nil)) pa_nil)))) (C8.pss_cut (ps_if (PW.pt (pw_or (pt_cmpR op_eq (pe_callB call_len_seq (by rfl) T.len PySem.boot_len (pa_cons (pv 1) pa_nil)) pe_int (nomark _)) (pw_or1 (pt_cmpR op_eq (pv 2) pe_int (nomark _))))) (pss_one (ps_ret (pe_tup (pa_cons pe_str (pa_cons (pv 3) (pa_cons (pe_tup (pa_cons pe_str (pa_cons (pe_c c__law_value hr rfl (pa_cons (pv 0) pa_nil)) pa_nil))) (pa_cons (pv 4) pa_nil))))))) pss_nil) (pss_cons (ps_set (i := 5) sc__law_leaf.nd rfl (Or.inl rfl) (pe_tup (pa_cons pe_str (pa_cons (pe_c c__law_one h3 rfl (pa_cons (pv 0) (pa_cons (pv 1) pa_nil))) pa_nil)))) (C8.pss_cut (ps_if (pt_cmpR op_gt (pv 2) pe_int (nomark _)) (pss_one (ps_set (i := 4) sc__law_leaf.nd rfl (Or.inl rfl) (pe_tup (pa_cons pe_str (pa_cons (pe_c c__law_one h3 rfl (pa_cons (pv 0) (pa_cons (pv 1) pa_nil))) pa_nil))))) pss_nil) (C8.pss_cut (ps_if (PW.pt (pw_and (pt_cmpR op_gt (pv 2) pe_int (nomark _)) (pw_and1 (pt_cmpR op_lt (pv 2) pe_int (nomark _))))) (pss_one (ps_ret (pe_tup (pa_cons pe_str (pa_cons (pv 3) (pa_cons (pv 4) (pa_cons (pv 5) pa_nil))))))) pss_nil) (pss_one (ps_ret (pe_tup (pa_cons pe_str (pa_cons (pv 3) (pa_cons (pv 5) (pa_cons (pv 4) pa_nil))))))))))))))), ?_⟩
    have t1 : (1 : Nat) ≤ sizeLine := by decide
    have t4 : (4 : Nat) ≤ sizeLine := by decide
    refine ⟨_, rfl, st, c, 16, rfl, hS, by decide, fun kd H1 e1 k0 k1 => ?_⟩
    refine ⟨_, rfl, _, _, rfl, rfl, decide (13 < kd), rfl, ?_⟩
    refine ite2 (fun _ => ?_) fun _ => ?_
    · refine ⟨_, rfl, rfl, decide (V.int kd = V.int 14), rfl, ?_⟩
      refine ite2 (fun _ => ?_) fun _ => ?_
      · exact ⟨t1, fun p hp => k _ .tt _ (e1.new hp) (Rep.mk upd_same (by simp) (.cons (.sc rfl) .nil)) trivial rfl rfl⟩
      · exact ⟨t1, fun p hp => k _ .ff _ (e1.new hp) (Rep.mk upd_same (by simp) (.cons (.sc rfl) .nil)) trivial rfl rfl⟩
    refine ⟨by show 6 ≤ sizeLine; decide, fun p hp => ?_⟩
    have np : p ≠ st := fun z => e1.sto.st_some (by rw [← z]; exact hp)
    have e2 := e1.new (o := .lst [V.str "=", .str "<", .str ">=", .str "!=", .str "<=", .str ">"]) hp
    refine ⟨_, rfl, st, c, 6, rfl, e2.sto, by decide, fun r H3 e3 r0 r1 => ?_⟩
    obtain ⟨v, hv, hm⟩ := at_mem (xs := [V.str "=", .str "<", .str ">=", .str "!=", .str "<=", .str ">"]) r0 (by show r < 6; omega)
    obtain ⟨o, rfl⟩ : ∃ o : Op, v = .str (opS o) := by
      simp only [List.mem_cons, List.not_mem_nil, or_false] at hm
      rcases hm with h | h | h | h | h | h
      · exact ⟨.eq, h⟩
      · exact ⟨.lt, h⟩
      · exact ⟨.ge, h⟩
      · exact ⟨.ne, h⟩
      · exact ⟨.le, h⟩
      · exact ⟨.gt, h⟩
    refine ⟨p, _, r, _, rfl, rfl, SqL.of (e3.keep _ _ np upd_same), hv, ?_⟩
    have e13 := e2.trans e3
    -- a term made
    have mk : ∀ {H' : Hp} {q : Addr} (t : Tm), H' q = some (.tup [.str (wT t), uT t]) → isSc (uT t) = true → Rep K H' (.ref q) (dT t) := fun t h1 h2 => Rep.mk h1 (by simp) (.cons (.sc rfl) (.cons (.sc h2) .nil))
    refine ⟨_, rfl, st, c, rfl, e13.sto, fun v1 H4 e4 hv1 => ⟨two, fun q1 hq1 => ?_⟩⟩
    have e14 := e13.trans e4
    have e15 := e14.new (o := .tup [.str "value", v1]) hq1
    have rr : Rep K (upd H4 q1 (.tup [.str "value", v1])) (.ref q1) (dT (.val v1)) := mk (.val v1) upd_same hv1.is
    generalize upd H4 q1 (.tup [.str "value", v1]) = H5 at e15 rr
    refine ⟨fun σ H' => σ = [some (.ref st), some (.ref la), some (.int kd), some (.str (opS o)), some (.ref q1), none] ∧ H' = H5 ∧ ls ≠ [], ?_, ?_⟩
    · have fin : ∃ v, [some (V.ref st), some (.ref la), some (.int kd), some (.str (opS o)), some (.ref q1), none][3]? = some (some v) ∧ (tCons (tTup (tCons (tC (.str "value")) (tCons (tCall spValue [] E0 (tCons (tVar 0) tNil)) tNil))) (tCons (tVar 4) tNil)) [some (V.ref st), some (.ref la), some (.int kd), some (.str (opS o)), some (.ref q1), none] H5 (fun xs H1 => (V.str "compare" :: v :: xs).length ≤ sizeLine ∧ ∀ p, H1 p = none → Q (.ref p) (upd H1 p (.tup (V.str "compare" :: v :: xs)))) := by
        refine ⟨_, rfl, _, rfl, st, c, rfl, e15.sto, fun v2 H6 e6 hv2 => ⟨two, fun q2 hq2 => ⟨_, rfl, t4, fun q3 hq3 => ?_⟩⟩⟩
        have s1 := SD.Same.new (o := .tup [.str "value", v2]) hq2
        have s2 := SD.Same.new (o := .tup [.str "compare", .str (opS o), .ref q2, .ref q1]) hq3
        refine k _ (.cmp o (.val v2) (.val v1)) _ (((e15.trans e6).same s1).same s2) ?_ ⟨hv2, hv1⟩ rfl rfl
        exact Rep.mk upd_same (by simp) (.cons (.sc rfl) (.cons (.sc rfl) (.cons ((mk (.val v2) upd_same hv2.is).same s2) (.cons (((rr.ext e15.sto e6).same s1).same s2) .nil))))
      refine ⟨_, rfl, la, ls.map V.str, rfl, .inl (e15.seqL na hL), rfl, decide (V.int ((ls.map V.str).length : Int) = V.int 0), rfl, ?_⟩
      refine ite2 (fun _ => fin) fun hne => ?_
      refine ⟨_, rfl, rfl, decide (V.int kd = V.int 13), rfl, ?_⟩
      refine ite2 (fun _ => fin) fun _ => ⟨rfl, rfl, fun z => hne (decide_eq_true (by rw [z]; rfl))⟩
    rintro σ H5' ⟨rfl, rfl, hne⟩
    -- one of the labels
    have one : ∀ {y : V}, (ls.map V.str = [] ∧ y = V.non ∨ y ∈ ls.map V.str) → ∃ l, y = .str l ∧ l ∈ ls := fun {y} h => by
      rcases h with ⟨z, _⟩ | h
      · exact absurd (List.map_eq_nil_iff.mp z) hne
      · obtain ⟨l, h1, h2⟩ := List.mem_map.mp h
        exact ⟨l, h2.symm, h1⟩
    refine ⟨_, rfl, _, rfl, st, c, la, ls.map V.str, rfl, e15.sto, na, .inl (e15.seqL na hL), by rw [List.length_map]; omega, fun y H6 e6 hy => ⟨two, fun q2 hq2 => ?_⟩⟩
    obtain ⟨l1, rfl, hl1⟩ := one hy
    have s6 := SD.Same.new (o := .tup [V.str "column", .str l1]) hq2
    have e16 := (e15.trans e6).same s6
    have rl : Rep K (upd H6 q2 (.tup [V.str "column", .str l1])) (.ref q2) (dT (.col l1)) := mk (.col l1) upd_same rfl
    have rr6 := (rr.ext e15.sto e6).same s6
    generalize upd H6 q2 (.tup [V.str "column", .str l1]) = H7 at e16 rl rr6
    refine ⟨fun σ H' => ∃ (x : V) (t : Tm), σ = [some (.ref st), some (.ref la), some (.int kd), some (.str (opS o)), some x, some (.ref q2)] ∧ Ext st c H H' ∧ Rep K H' x (dT t) ∧ Rep K H' (.ref q2) (dT (.col l1)) ∧ gT ls t, ?_, ?_⟩
    · refine ⟨_, rfl, _, _, rfl, rfl, decide (10 < kd), rfl, ?_⟩
      refine ite2 (fun _ => ?_) fun _ => ⟨_, .val v1, rfl, e16, rr6, rl, hv1⟩
      refine ⟨_, rfl, _, rfl, st, c, la, ls.map V.str, rfl, e16.sto, na, .inl (e16.seqL na hL), by rw [List.length_map]; omega, fun y H8 e8 hy => ⟨two, fun q3 hq3 => ?_⟩⟩
      obtain ⟨l2, rfl, hl2⟩ := one hy
      have s8 := SD.Same.new (o := .tup [V.str "column", .str l2]) hq3
      exact ⟨_, .col l2, rfl, (e16.trans e8).same s8, mk (.col l2) upd_same rfl, (rl.ext e16.sto e8).same s8, hl2⟩
    rintro σ H8 ⟨x, t, rfl, e8, rx, rl8, ht⟩
    refine ⟨fun σ H' => σ = [some (.ref st), some (.ref la), some (.int kd), some (.str (opS o)), some x, some (.ref q2)] ∧ H' = H8, ?_, ?_⟩
    · have fin : ∀ q, H8 q = none → Q (.ref q) (upd H8 q (.tup [.str "compare", .str (opS o), x, .ref q2])) := fun q hq => by
        have s2 := SD.Same.new (o := .tup [.str "compare", .str (opS o), x, .ref q2]) hq
        exact k _ (.cmp o t (.col l1)) _ (e8.same s2) (Rep.mk upd_same (by simp) (.cons (.sc rfl) (.cons (.sc rfl) (.cons (rx.same s2) (.cons (rl8.same s2) .nil))))) ⟨ht, hl1⟩ rfl rfl
      refine ⟨_, rfl, _, _, rfl, rfl, decide (6 < kd), rfl, ?_⟩
      refine ite2 (fun _ => ?_) fun _ => ⟨rfl, rfl⟩
      refine ⟨_, rfl, _, _, rfl, rfl, decide (kd < 11), rfl, ?_⟩
      exact ite2 (fun _ => ⟨_, rfl, _, rfl, _, rfl, t4, fin⟩) fun _ => ⟨rfl, rfl⟩
    rintro σ H9 ⟨rfl, rfl⟩
    refine ⟨_, rfl, _, rfl, _, rfl, t4, fun q hq => ?_⟩
    have s2 := SD.Same.new (o := .tup [.str "compare", .str (opS o), .ref q2, x]) hq
    exact k _ (.cmp o (.col l1) t) _ (e8.same s2) (Rep.mk upd_same (by simp) (.cons (.sc rfl) (.cons (.sc rfl) (.cons (rl8.same s2) (.cons (rx.same s2) .nil))))) ⟨hl1, ht⟩ rfl rfl
end
end SD
namespace SD
open PySem L2
section
variable {P : Program} {w : World} {K : PySem.W.Frag} {mg : Str → Option Value} {base : Heap} {f : Addr} {fd : FuncData}
theorem sc__law_condition : FnScope ["store", "labels", "nodes", "deep", "kind", "many", "word", "left"] ["store", "labels", "nodes", "deep"] (defScope st__law_condition) := ⟨rfl, rfl, rfl, by decide +kernel, rfl, by decide +kernel, by decide +kernel⟩
theorem ok__law_condition (F : Fun K "_law_condition" "_law_condition" st__law_condition f fd) (T : Tx mg) (hm : mg "_law_condition" = some (.ref f)) (b : Binds K fd ["store", "labels", "nodes", "deep"] []) (bk : BK "_law_condition" st__law_condition ["store", "labels", "nodes", "deep"])
    (c__law_take : Cal P w K mg base "_law_take" 2 ["store", "many"] spTake) (c__law_leaf : Cal P w K mg base "_law_leaf" 6 ["store", "labels"] (spLeaf K)) : ∀ n : Nat, FnOk P w K mg base CX0 (n + 7) f fd ["store", "labels", "nodes", "deep"] (spCond K n)
  | 0 => by
    refine F.ok (k := 6) sc__law_condition (fun vs H Q E h => ?_) (fun cdv A outer s H vs Q E hr h => ?_)
    · obtain ⟨st, c, la, ls, nd, dp, rfl, _⟩ := h
      rfl
    · obtain ⟨st, c, la, ls, nd, dp, rfl, _, _, _, _, h0, _⟩ := h
      exact absurd h0 (Nat.not_lt_zero _)
  | n + 1 => by
    have c_rec : Cal P w K mg base "_law_condition" (n + 7) ["store", "labels", "nodes", "deep"] (spCond K n) := cal_of F hm b bk (ok__law_condition F T hm b bk c__law_take c__law_leaf n)
    refine F.ok (k := n + 7) sc__law_condition (fun vs H Q E h => ?_) (fun cdv A outer s H vs Q E hr h => ?_)
    · obtain ⟨st, c, la, ls, nd, dp, rfl, _⟩ := h
      rfl
    · obtain ⟨st, c, la, ls, nd, dp, rfl, hS, na, hL, hlen, hdn, d0, n0, n1, k⟩ := h
      have h2 : Room 2 _ := hr.mono (by omega)
      have h6 : Room 6 _ := hr.mono (by omega)
      have p3 : (2 : Nat) ^ 200 = 1606938044258990275541962092341162602522202993782792835301376 := by decide +kernel
      refine ⟨_, (pss_cons (ps_set (i := 4) sc__law_condition.nd rfl (Or.inl rfl) (pe_c c__law_take h2 rfl (pa_cons (pv 0) (pa_cons pe_int pa_nil)))) (C8.pss_cut (ps_if (PW.pt (pw_or (pt_cmpR op_lt (pv 2) pe_int (nomark _)) (pw_or (pt_cmpR op_lt (pv 3) pe_int (nomark _)) (pw_or1 (pt_cmpR op_eq (pv 4) pe_int (nomark _)))))) (pss_one (ps_ret (pe_c c__law_leaf h6 rfl (pa_cons (pv 0) (pa_cons (pv 1) pa_nil))))) pss_nil) (C8.pss_cut (ps_if (PW.pt (pw_or (pt_cmpR op_eq (pv 4) pe_int (nomark _)) (pw_or1 (pt_cmpR op_lt (pv 2) pe_int (nomark _))))) (pss_one (ps_ret (pe_tup (pa_cons pe_str (pa_cons (pe_c c_rec hr rfl (pa_cons (pv 0) (pa_cons (pv 1) (pa_cons (pe_op op_sub (pv 2) pe_int) (pa_cons (pe_op op_sub (pv 3) pe_int) pa_nil))))) pa_nil))))) pss_nil) (pss_cons (ps_set (i := 5) sc__law_condition.nd rfl (Or.inl rfl) (pe_op op_add pe_int (pe_c c__law_take h2 rfl (pa_cons (pv 0) (pa_cons (pe_op op_sub (pv 2) pe_int) pa_nil))))) (pss_cons (ps_set (i := 6) sc__law_condition.nd rfl (Or.inl rfl) (pe_ix ix_list (pe_lst (pa_cons pe_str (pa_cons pe_str pa_nil))) (pe_c c__law_take h2 rfl (pa_cons (pv 0) (pa_cons pe_int pa_nil))) (fun _ _ => rfl))) (pss_cons (ps_set (i := 7) sc__law_condition.nd rfl (Or.inl rfl) (pe_c c_rec hr rfl (pa_cons (pv 0) (pa_cons (pv 1) (pa_cons (pv 5) (pa_cons (pe_op op_sub (pv 3) pe_int) pa_nil)))))) (pss_one (ps_ret (pe_tup (pa_cons (pv 6) (pa_cons (pv 7) (pa_cons (pe_c c_rec hr rfl (pa_cons (pv 0) (pa_cons (pv 1) (pa_cons (pe_op op_sub (pe_op op_sub (pv 2) pe_int) (pv 5)) (pa_cons (pe_op op_sub (pv 3) pe_int) pa_nil))))) pa_nil)))))))))))), ?_⟩
      refine ⟨_, rfl, st, c, 6, rfl, hS, by decide, fun kd H1 e1 k0 k1 => ?_⟩
      refine ⟨fun σ H' => σ = [some (.ref st), some (.ref la), some (.int nd), some (.int dp), some (.int kd), none, none, none] ∧ H' = H1 ∧ 2 ≤ nd ∧ 2 ≤ dp, ?_, ?_⟩
      · have leaf : (tCall (spLeaf K) [] E0 (tCons (tVar 0) (tCons (tVar 1) tNil))) [some (.ref st), some (.ref la), some (.int nd), some (.int dp), some (.int kd), none, none, none] H1 Q :=
          ⟨_, rfl, _, rfl, st, c, la, ls, rfl, e1.sto, na, e1.seqL na hL, hlen, fun x d H2 e2 r2 g2 z2 s2 => k x d H2 (e1.trans e2) r2 g2 (by omega) (by omega)⟩
        refine ⟨_, rfl, _, _, rfl, rfl, decide (nd < 2), rfl, ?_⟩
        refine ite2 (fun _ => leaf) fun a1 => ?_
        refine ⟨_, rfl, _, _, rfl, rfl, decide (dp < 2), rfl, ?_⟩
        refine ite2 (fun _ => leaf) fun a2 => ?_
        refine ⟨_, rfl, rfl, decide (V.int kd = V.int 0), rfl, ?_⟩
        refine ite2 (fun _ => leaf) fun _ => ⟨rfl, rfl, ?_, ?_⟩
        · simp at a1; exact a1
        · simp at a2; exact a2
      rintro σ H1' ⟨rfl, rfl, b1, b2⟩
      refine ⟨fun σ H' => σ = [some (.ref st), some (.ref la), some (.int nd), some (.int dp), some (.int kd), none, none, none] ∧ H' = H1' ∧ 3 ≤ nd, ?_, ?_⟩
      · have no : (tTup (tCons (tC (.str "not")) (tCons (tCall (spCond K n) [] E0 (tCons (tVar 0) (tCons (tVar 1) (tCons (tOp (rI0 fun i j => .int (i - j)) (tVar 2) (tC (.int 1))) (tCons (tOp (rI0 fun i j => .int (i - j)) (tVar 3) (tC (.int 1))) tNil))))) tNil))) [some (.ref st), some (.ref la), some (.int nd), some (.int dp), some (.int kd), none, none, none] H1' Q := by
          refine ⟨_, rfl, _, rfl, _, rfl, _, _, rfl, rfl, _, rfl, _, _, rfl, rfl, st, c, la, ls, nd - 1, dp - 1, rfl, e1.sto, na, e1.seqL na hL, hlen, by omega, by omega, by omega, by omega, fun x d H2 e2 r2 g2 z2 s2 => ⟨two, fun p hp => ?_⟩⟩
          have sp := SD.Same.new (o := .tup [.str "not", x]) hp
          exact k _ (.no d) _ ((e1.trans e2).same sp) (Rep.mk upd_same (by simp) (.cons (.sc rfl) (.cons (r2.same sp) .nil))) g2 (by simp only [dpC]; omega) (by simp only [szC]; omega)
        refine ⟨_, rfl, rfl, decide (V.int kd = V.int 1), rfl, ?_⟩
        refine ite2 (fun _ => no) fun _ => ?_
        refine ⟨_, rfl, _, _, rfl, rfl, decide (nd < 3), rfl, ?_⟩
        refine ite2 (fun _ => no) fun a1 => ⟨rfl, rfl, ?_⟩
        simp at a1; exact a1
      rintro σ H1'' ⟨rfl, rfl, b3⟩
      refine ⟨_, rfl, _, rfl, _, _, rfl, rfl, st, c, nd - 2, rfl, e1.sto, by rw [p3]; omega, fun r H2 e2 r0 r1 => ⟨_, _, rfl, rfl, ?_⟩⟩
      have e12 := e1.trans e2
      refine ⟨two, fun p hp => ?_⟩
      have np : p ≠ st := fun z => e12.sto.st_some (by rw [← z]; exact hp)
      have e3 := e12.new (o := .lst [V.str "and", .str "or"]) hp
      refine ⟨_, rfl, st, c, 2, rfl, e3.sto, by decide, fun r2 H4 e4 q0 q1 => ?_⟩
      obtain ⟨v, hv, hm2⟩ := at_mem (xs := [V.str "and", .str "or"]) q0 (by show r2 < 2; omega)
      refine ⟨p, _, r2, _, rfl, rfl, SqL.of (e4.keep _ _ np upd_same), hv, ?_⟩
      have e14 := e3.trans e4
      refine ⟨_, rfl, _, rfl, _, rfl, _, rfl, _, _, rfl, rfl, st, c, la, ls, 1 + r, dp - 1, rfl, e14.sto, na, e14.seqL na hL, hlen, by omega, by omega, by omega, by omega, fun x1 d1 H5 e5 rx1 g1 z1 s1 => ?_⟩
      have e15 := e14.trans e5
      refine ⟨_, rfl, _, rfl, _, rfl, _, rfl, _, rfl, _, _, rfl, rfl, _, rfl, _, _, rfl, rfl, _, rfl, _, _, rfl, rfl, st, c, la, ls, nd - 1 - (1 + r), dp - 1, rfl, e15.sto, na, e15.seqL na hL, hlen, by omega, by omega, by omega, by omega, fun x2 d2 H6 e6 rx2 g2 z2 s2 => ⟨by show 3 ≤ sizeLine; decide, fun q hq => ?_⟩⟩
      have sp := SD.Same.new (o := .tup [v, x1, x2]) hq
      have rx1' := (rx1.ext e15.sto e6).same sp
      simp only [List.mem_cons, List.not_mem_nil, or_false] at hm2
      rcases hm2 with h | h
      · subst h
        exact k _ (.an d1 d2) _ ((e15.trans e6).same sp) (Rep.mk upd_same (by simp) (.cons (.sc rfl) (.cons rx1' (.cons (rx2.same sp) .nil)))) ⟨g1, g2⟩ (by simp only [dpC]; omega) (by simp only [szC]; omega)
      · subst h
        exact k _ (.oo d1 d2) _ ((e15.trans e6).same sp) (Rep.mk upd_same (by simp) (.cons (.sc rfl) (.cons rx1' (.cons (rx2.same sp) .nil)))) ⟨g1, g2⟩ (by simp only [dpC]; omega) (by simp only [szC]; omega)
end
end SD
namespace SD
open PySem L2
section
variable {P : Program} {w : World} {K : PySem.W.Frag} {mg : Str → Option Value} {base : Heap} {f : Addr} {fd : FuncData}
theorem sc__law_worth : FnScope ["term", "labels", "row"] ["term", "labels", "row"] (defScope st__law_worth) := ⟨rfl, rfl, rfl, by decide +kernel, rfl, by decide +kernel, by decide +kernel⟩
theorem ok__law_worth (F : Fun K "_law_worth" "_law_worth" st__law_worth f fd) (T : Tx mg) : FnOk P w K mg base CX0 1 f fd ["term", "labels", "row"] (spLWorth K) := by
  refine F.ok sc__law_worth (fun vs H Q E h => ?_) (fun cdv A outer s H vs Q E hr h => ?_)
  · obtain ⟨x, t, ca, ra, ls, ws, rfl, _⟩ := h
    rfl
  · obtain ⟨x, t, ca, ra, ls, ws, rfl, hx, hc, hw, hg, hl, k⟩ := h
    refine ⟨_, (pss_cons (ps_if (pt_cmpR op_eq (pe_ix ix_tup (pv 0) pe_int (fun _ _ => rfl)) pe_str (nomark _)) (pss_one (ps_ret (pe_ix ix_tup (pv 0) pe_int (fun _ _ => rfl)))) pss_nil) (pss_one (ps_ret (pe_ix ix_tup (pv 2) (pe_bm PySem.F.plainAttrs_list PySem.F.slot_list_index PySem.F.type_list_index mt_index (pe_callTy call_list_of (by rfl) T.lst PyProof.Rows.boot_list (pa_cons (pv 1) pa_nil)) (pa_cons (pe_ix ix_tup (pv 0) pe_int (fun _ _ => rfl)) pa_nil)) (fun _ _ => rfl))))), ?_⟩
    obtain ⟨a, rfl, ha, hsc⟩ := repT hx
    cases t with
    | val v =>
      exact ⟨_, rfl, a, _, 0, _, rfl, rfl, ha, rfl, rfl, true, strB "value" "value" _ (by decide +kernel), _, rfl, a, _, 1, _, rfl, rfl, ha, rfl, k H (Same.refl H)⟩
    | col l =>
      refine ⟨_, rfl, a, _, 0, _, rfl, rfl, ha, rfl, rfl, false, strB "column" "value" _ (by decide +kernel), ?_⟩
      have hp := posL_at (show l ∈ ls from hg)
      have hlt : posL l ls < ws.length := by rw [hl]; exact (List.getElem?_eq_some_iff.mp hp).1
      refine ⟨_, rfl, _, rfl, ca, ls.map V.str, rfl, hc, fun q hq => ?_⟩
      have s1 := SD.Same.new (o := .lst (ls.map V.str)) hq
      refine ⟨.inl ⟨rfl, _, SqL.of upd_same⟩, _, rfl, a, _, 1, .str l, rfl, rfl, SD.Same.seqT s1 ha, rfl, q, ls.map V.str, .str l, posL l ls, .str l, rfl, rfl, SqL.of upd_same, rfl, ?_, ?_, ?_, ?_, ?_⟩
      · rw [List.all_map]; exact List.all_eq_true.mpr fun _ _ => rfl
      · rw [List.getElem?_map, hp]; rfl
      · simp [eqV]
      · intro m z hm hz
        rw [List.getElem?_map] at hz
        cases e : ls[m]? with
        | none => rw [e] at hz; cases hz
        | some y =>
          rw [e] at hz
          cases hz
          have := posL_not m hm
          rw [e] at this
          have : y ≠ l := fun z => this (by rw [z])
          simp [eqV, this]
      · refine ⟨ra, ws, _, ws.getD (posL l ls) .non, rfl, rfl, SD.Same.seqT s1 hw, atI_nat ?_, k _ s1⟩
        rw [List.getD_eq_getElem?_getD, List.getElem?_eq_getElem hlt]
        rfl
end
end SD
namespace SD
open PySem L2
section
variable {P : Program} {w : World} {K : PySem.W.Frag} {mg : Str → Option Value} {base : Heap} {f : Addr} {fd : FuncData}
theorem sc__law_holds : FnScope ["condition", "labels", "row", "word", "left", "right"] ["condition", "labels", "row"] (defScope st__law_holds) := ⟨rfl, rfl, rfl, by decide +kernel, rfl, by decide +kernel, by decide +kernel⟩
theorem wthl_sc {ls : List Str} {ws : List V} {t : Tm} (hg : gT ls t) (hl : ws.length = ls.length) (hw : ∀ v ∈ ws, Sc v) : isSc (wth ls ws t) = true := by
  cases t with
  | col l =>
    have hp := posL_at (show l ∈ ls from hg)
    have hlt : posL l ls < ws.length := by rw [hl]; exact (List.getElem?_eq_some_iff.mp hp).1
    show isSc (ws.getD (posL l ls) .non) = true
    rw [List.getD_eq_getElem?_getD, List.getElem?_eq_getElem hlt]
    exact (hw _ (List.getElem_mem hlt)).is
  | val v => exact Sc.is hg
theorem ok__law_holds (F : Fun K "_law_holds" "_law_holds" st__law_holds f fd) (hm : mg "_law_holds" = some (.ref f)) (b : Binds K fd ["condition", "labels", "row"] []) (bk : BK "_law_holds" st__law_holds ["condition", "labels", "row"])
    (c__law_sort_key : Cal P w K mg base "_law_sort_key" 1 ["value"] spKey) (c__law_worth : Cal P w K mg base "_law_worth" 1 ["term", "labels", "row"] (spLWorth K)) : ∀ n : Nat, FnOk P w K mg base CX0 (n + 2) f fd ["condition", "labels", "row"] (spLHolds K n)
  | 0 => by
    refine F.ok (k := 1) sc__law_holds (fun vs H Q E h => ?_) (fun cdv A outer s H vs Q E hr h => ?_)
    · obtain ⟨x, c, ca, ra, ls, ws, rfl, _⟩ := h
      rfl
    · obtain ⟨x, c, ca, ra, ls, ws, rfl, _, h0, _⟩ := h
      exact absurd h0 (Nat.not_lt_zero _)
  | n + 1 => by
    have c_rec : Cal P w K mg base "_law_holds" (n + 2) ["condition", "labels", "row"] (spLHolds K n) := cal_of F hm b bk (ok__law_holds F hm b bk c__law_sort_key c__law_worth n)
    refine F.ok (k := n + 2) sc__law_holds (fun vs H Q E h => ?_) (fun cdv A outer s H vs Q E hr h => ?_)
    · obtain ⟨x, c, ca, ra, ls, ws, rfl, _⟩ := h
      rfl
    · obtain ⟨x, c, ca, ra, ls, ws, rfl, hx, hd, hc, hw, hg, hl, hsc, k⟩ := h
      have h1 : Room 1 _ := hr.mono (by omega)
      have u0 := hr.units0
      refine ⟨_, (pss_cons (ps_set (i := 3) sc__law_holds.nd rfl (Or.inl rfl) (pe_ix ix_tup (pv 0) pe_int (fun _ _ => rfl))) (pss_cons (ps_if (PW.pt (pw_or (pt_cmpR op_eq (pv 3) pe_str (nomark _)) (pw_or1 (pt_cmpR op_eq (pv 3) pe_str (nomark _))))) (pss_one (ps_ret (pe_cmpR op_eq (pv 3) pe_str (nomark _)))) pss_nil) (pss_cons (ps_if (pt_cmpR op_eq (pv 3) pe_str (nomark _)) (pss_one (ps_ret (pe_not (pe_c c_rec hr rfl (pa_cons (pe_ix ix_tup (pv 0) pe_int (fun _ _ => rfl)) (pa_cons (pv 1) (pa_cons (pv 2) pa_nil))))))) pss_nil) (pss_cons (ps_if (pt_cmpR op_eq (pv 3) pe_str (nomark _)) (pss_one (ps_ret (pe_and (pe_c c_rec hr rfl (pa_cons (pe_ix ix_tup (pv 0) pe_int (fun _ _ => rfl)) (pa_cons (pv 1) (pa_cons (pv 2) pa_nil)))) (pe_one (pe_c c_rec hr rfl (pa_cons (pe_ix ix_tup (pv 0) pe_int (fun _ _ => rfl)) (pa_cons (pv 1) (pa_cons (pv 2) pa_nil)))))))) pss_nil) (pss_cons (ps_if (pt_cmpR op_eq (pv 3) pe_str (nomark _)) (pss_one (ps_ret (pe_or (pe_c c_rec hr rfl (pa_cons (pe_ix ix_tup (pv 0) pe_int (fun _ _ => rfl)) (pa_cons (pv 1) (pa_cons (pv 2) pa_nil)))) (pe_one (pe_c c_rec hr rfl (pa_cons (pe_ix ix_tup (pv 0) pe_int (fun _ _ => rfl)) (pa_cons (pv 1) (pa_cons (pv 2) pa_nil)))))))) pss_nil) (pss_cons (ps_set (i := 4) sc__law_holds.nd rfl (Or.inl rfl) (pe_c c__law_sort_key h1 rfl (pa_cons (pe_c c__law_worth h1 rfl (pa_cons (pe_ix ix_tup (pv 0) pe_int (fun _ _ => rfl)) (pa_cons (pv 1) (pa_cons (pv 2) pa_nil)))) pa_nil))) (pss_cons (ps_set (i := 5) sc__law_holds.nd rfl (Or.inl rfl) (pe_c c__law_sort_key h1 rfl (pa_cons (pe_c c__law_worth h1 rfl (pa_cons (pe_ix ix_tup (pv 0) pe_int (fun _ _ => rfl)) (pa_cons (pv 1) (pa_cons (pv 2) pa_nil)))) pa_nil))) (pss_cons (ps_if (pt_cmpR op_eq (pe_ix ix_tup (pv 0) pe_int (fun _ _ => rfl)) pe_str (nomark _)) (pss_one (ps_ret (pe_cmpR (op_eqK u0) (pv 4) (pv 5) (nomark _)))) pss_nil) (pss_cons (ps_if (pt_cmpR op_eq (pe_ix ix_tup (pv 0) pe_int (fun _ _ => rfl)) pe_str (nomark _)) (pss_one (ps_ret (pe_cmpR (op_neK u0) (pv 4) (pv 5) (nomark _)))) pss_nil) (pss_cons (ps_if (pt_cmpR op_eq (pe_ix ix_tup (pv 0) pe_int (fun _ _ => rfl)) pe_str (nomark _)) (pss_one (ps_ret (pe_cmpR (op_ltK u0) (pv 4) (pv 5) (nomark _)))) pss_nil) (pss_cons (ps_if (pt_cmpR op_eq (pe_ix ix_tup (pv 0) pe_int (fun _ _ => rfl)) pe_str (nomark _)) (pss_one (ps_ret (pe_cmpR (op_leK u0) (pv 4) (pv 5) (nomark _)))) pss_nil) (pss_cons (ps_if (pt_cmpR op_eq (pe_ix ix_tup (pv 0) pe_int (fun _ _ => rfl)) pe_str (nomark _)) (pss_one (ps_ret (pe_cmpR (op_gtK u0) (pv 4) (pv 5) (nomark _)))) pss_nil) (pss_one (ps_ret (pe_cmpR (op_geK u0) (pv 4) (pv 5) (nomark _)))))))))))))))), ?_⟩
      cases c with
      | tt =>
        obtain ⟨a, rfl, ha⟩ := repTT hx
        exact ⟨_, rfl, a, _, 0, _, rfl, rfl, ha, rfl, _, rfl, rfl, true, strB "true" "true" _ (by decide +kernel), _, rfl, rfl, by rw [strB "true" "true" true (by decide +kernel)]; exact k H (Same.refl H)⟩
      | ff =>
        obtain ⟨a, rfl, ha⟩ := repFF hx
        exact ⟨_, rfl, a, _, 0, _, rfl, rfl, ha, rfl, _, rfl, rfl, false, strB "false" "true" _ (by decide +kernel), _, rfl, rfl, true, strB "false" "false" _ (by decide +kernel), _, rfl, rfl, by rw [strB "false" "true" false (by decide +kernel)]; exact k H (Same.refl H)⟩
      | cmp o s t =>
        obtain ⟨a, x2, x3, rfl, ha, r2, r3⟩ := repCmp hx
        refine ⟨_, rfl, a, _, 0, _, rfl, rfl, ha, rfl, _, rfl, rfl, false, strB "compare" "true" _ (by decide +kernel), _, rfl, rfl, false, strB "compare" "false" _ (by decide +kernel), ?_⟩
        refine ⟨_, rfl, rfl, false, strB "compare" "not" _ (by decide +kernel), _, rfl, rfl, false, strB "compare" "and" _ (by decide +kernel), _, rfl, rfl, false, strB "compare" "or" _ (by decide +kernel), ?_⟩
        have q1 := wthl_sc hg.1 hl hsc
        have q2 := wthl_sc hg.2 hl hsc
        refine ⟨_, rfl, a, _, 2, _, rfl, rfl, ha, rfl, _, rfl, _, rfl, x2, s, ca, ra, ls, ws, rfl, r2, hc, hw, hg.1, hl, fun H1 s1 => ⟨_, rfl, q1, fun p1 H2 _ s2 g2 => ?_⟩⟩
        have t2 := s1.trans s2
        refine ⟨_, rfl, a, _, 3, _, rfl, rfl, SD.Same.seqT t2 ha, rfl, _, rfl, _, rfl, x3, t, ca, ra, ls, ws, rfl, r3.same t2, hc.same t2, SD.Same.seqT t2 hw, hg.2, hl, fun H3 s3 => ⟨_, rfl, q2, fun p2 H4 _ s4 g4 => ?_⟩⟩
        have t4 := (t2.trans s3).trans s4
        have ha4 := SD.Same.seqT t4 ha
        have g2' : SqT K H4 p1 (sk (wth ls ws s)) := SqT.of ((s3.trans s4) _ _ g2)
        have fin := k H4 t4
        cases o with
        | eq => exact ⟨_, rfl, a, _, 1, _, rfl, rfl, ha4, rfl, rfl, true, strB "=" "=" _ (by decide +kernel), _, rfl, _, rfl, p1, p2, _, _, rfl, rfl, q1, q2, g2', SqT.of g4, fin⟩
        | ne => exact ⟨_, rfl, a, _, 1, _, rfl, rfl, ha4, rfl, rfl, false, strB "!=" "=" _ (by decide +kernel), _, rfl, a, _, 1, _, rfl, rfl, ha4, rfl, rfl, true, strB "!=" "!=" _ (by decide +kernel), _, rfl, _, rfl, p1, p2, _, _, rfl, rfl, q1, q2, g2', SqT.of g4, fin⟩
        | lt => exact ⟨_, rfl, a, _, 1, _, rfl, rfl, ha4, rfl, rfl, false, strB "<" "=" _ (by decide +kernel), _, rfl, a, _, 1, _, rfl, rfl, ha4, rfl, rfl, false, strB "<" "!=" _ (by decide +kernel), _, rfl, a, _, 1, _, rfl, rfl, ha4, rfl, rfl, true, strB "<" "<" _ (by decide +kernel), _, rfl, _, rfl, p1, p2, _, _, rfl, rfl, q1, q2, g2', SqT.of g4, fin⟩
        | le => exact ⟨_, rfl, a, _, 1, _, rfl, rfl, ha4, rfl, rfl, false, strB "<=" "=" _ (by decide +kernel), _, rfl, a, _, 1, _, rfl, rfl, ha4, rfl, rfl, false, strB "<=" "!=" _ (by decide +kernel), _, rfl, a, _, 1, _, rfl, rfl, ha4, rfl, rfl, false, strB "<=" "<" _ (by decide +kernel), _, rfl, a, _, 1, _, rfl, rfl, ha4, rfl, rfl, true, strB "<=" "<=" _ (by decide +kernel), _, rfl, _, rfl, p1, p2, _, _, rfl, rfl, q1, q2, g2', SqT.of g4, fin⟩
        | gt => exact ⟨_, rfl, a, _, 1, _, rfl, rfl, ha4, rfl, rfl, false, strB ">" "=" _ (by decide +kernel), _, rfl, a, _, 1, _, rfl, rfl, ha4, rfl, rfl, false, strB ">" "!=" _ (by decide +kernel), _, rfl, a, _, 1, _, rfl, rfl, ha4, rfl, rfl, false, strB ">" "<" _ (by decide +kernel), _, rfl, a, _, 1, _, rfl, rfl, ha4, rfl, rfl, false, strB ">" "<=" _ (by decide +kernel), _, rfl, a, _, 1, _, rfl, rfl, ha4, rfl, rfl, true, strB ">" ">" _ (by decide +kernel), _, rfl, _, rfl, p1, p2, _, _, rfl, rfl, q1, q2, g2', SqT.of g4, fin⟩
        | ge => exact ⟨_, rfl, a, _, 1, _, rfl, rfl, ha4, rfl, rfl, false, strB ">=" "=" _ (by decide +kernel), _, rfl, a, _, 1, _, rfl, rfl, ha4, rfl, rfl, false, strB ">=" "!=" _ (by decide +kernel), _, rfl, a, _, 1, _, rfl, rfl, ha4, rfl, rfl, false, strB ">=" "<" _ (by decide +kernel), _, rfl, a, _, 1, _, rfl, rfl, ha4, rfl, rfl, false, strB ">=" "<=" _ (by decide +kernel), _, rfl, a, _, 1, _, rfl, rfl, ha4, rfl, rfl, false, strB ">=" ">" _ (by decide +kernel), _, rfl, _, rfl, p1, p2, _, _, rfl, rfl, q1, q2, g2', SqT.of g4, fin⟩
      | no c =>
        obtain ⟨a, x1, rfl, ha, r1⟩ := repNo hx
        refine ⟨_, rfl, a, _, 0, _, rfl, rfl, ha, rfl, _, rfl, rfl, false, strB "not" "true" _ (by decide +kernel), _, rfl, rfl, false, strB "not" "false" _ (by decide +kernel), _, rfl, rfl, true, strB "not" "not" _ (by decide +kernel), ?_⟩
        have hd' : dpC c + 1 < n + 1 := hd
        exact ⟨_, rfl, a, _, 1, _, rfl, rfl, ha, rfl, _, rfl, _, rfl, x1, c, ca, ra, ls, ws, rfl, r1, by omega, hc, hw, hg, hl, hsc, fun H1 s1 => ⟨_, rfl, k H1 s1⟩⟩
      | an c d =>
        obtain ⟨a, x1, x2, rfl, ha, r1, r2⟩ := repAn hx
        have hd' : max (dpC c) (dpC d) + 1 < n + 1 := hd
        refine ⟨_, rfl, a, _, 0, _, rfl, rfl, ha, rfl, _, rfl, rfl, false, strB "and" "true" _ (by decide +kernel), _, rfl, rfl, false, strB "and" "false" _ (by decide +kernel), _, rfl, rfl, false, strB "and" "not" _ (by decide +kernel), _, rfl, rfl, true, strB "and" "and" _ (by decide +kernel), ?_⟩
        refine ⟨_, rfl, a, _, 1, _, rfl, rfl, ha, rfl, _, rfl, _, rfl, x1, c, ca, ra, ls, ws, rfl, r1, by omega, hc, hw, hg.1, hl, hsc, fun H1 s1 => ⟨_, rfl, ?_⟩⟩
        cases q : evl ls ws c with
        | false =>
          have := k H1 s1
          simp only [evl, q, Bool.false_and] at this
          exact this
        | true =>
          refine ⟨_, rfl, a, _, 2, _, rfl, rfl, SD.Same.seqT s1 ha, rfl, _, rfl, _, rfl, x2, d, ca, ra, ls, ws, rfl, r2.same s1, by omega, hc.same s1, SD.Same.seqT s1 hw, hg.2, hl, hsc, fun H2 s2 => ?_⟩
          have := k H2 (s1.trans s2)
          simp only [evl, q, Bool.true_and] at this
          exact this
      | oo c d =>
        obtain ⟨a, x1, x2, rfl, ha, r1, r2⟩ := repOo hx
        have hd' : max (dpC c) (dpC d) + 1 < n + 1 := hd
        refine ⟨_, rfl, a, _, 0, _, rfl, rfl, ha, rfl, _, rfl, rfl, false, strB "or" "true" _ (by decide +kernel), _, rfl, rfl, false, strB "or" "false" _ (by decide +kernel), _, rfl, rfl, false, strB "or" "not" _ (by decide +kernel), _, rfl, rfl, false, strB "or" "and" _ (by decide +kernel), _, rfl, rfl, true, strB "or" "or" _ (by decide +kernel), ?_⟩
        refine ⟨_, rfl, a, _, 1, _, rfl, rfl, ha, rfl, _, rfl, _, rfl, x1, c, ca, ra, ls, ws, rfl, r1, by omega, hc, hw, hg.1, hl, hsc, fun H1 s1 => ⟨_, rfl, ?_⟩⟩
        cases q : evl ls ws c with
        | true =>
          have := k H1 s1
          simp only [evl, q, Bool.true_or] at this
          exact this
        | false =>
          refine ⟨_, rfl, a, _, 2, _, rfl, rfl, SD.Same.seqT s1 ha, rfl, _, rfl, _, rfl, x2, d, ca, ra, ls, ws, rfl, r2.same s1, by omega, hc.same s1, SD.Same.seqT s1 hw, hg.2, hl, hsc, fun H2 s2 => ?_⟩
          have := k H2 (s1.trans s2)
          simp only [evl, q, Bool.false_or] at this
          exact this
end
end SD
namespace SD
open PySem L2
section
variable {P : Program} {w : World} {K : PySem.W.Frag} {mg : Str → Option Value} {base : Heap} {f : Addr} {fd : FuncData}
theorem sc__law_folded_leaf : FnScope ["condition", "turned", "ops", "op", "one", "two", "at", "truth"] ["condition", "turned"] (defScope st__law_folded_leaf) := ⟨rfl, rfl, rfl, by decide +kernel, rfl, by decide +kernel, by decide +kernel⟩
theorem ok__law_folded_leaf (F : Fun K "_law_folded_leaf" "_law_folded_leaf" st__law_folded_leaf f fd) (T : Tx mg) (c__law_holds : Cal P w K mg base "_law_holds" 62 ["condition", "labels", "row"] (spLHolds K 60)) : FnOk P w K mg base CX0 63 f fd ["condition", "turned"] (spLeafF K) := by
  refine F.ok sc__law_folded_leaf (fun vs H Q E h => ?_) (fun cdv A outer s H vs Q E hr h => ?_)
  · obtain ⟨x, o, a, b, t, rfl, _⟩ := h
    rfl
  · obtain ⟨x, o, a, b, t, rfl, hx, ⟨ls, hga, hgb⟩, k⟩ := h
    refine ⟨_, (pss_lstT sc__law_folded_leaf.nd (i := 2) rfl (Or.inl rfl) (pa_cons pe_str (pa_cons pe_str (pa_cons pe_str (pa_cons pe_str (pa_cons pe_str pa_nil)))))
      (psst_cons (PST.of (ps_par3 (i := 3) (j := 4) (l := 5) (by rfl) sc__law_folded_leaf.nd rfl rfl rfl (by decide) (by decide) (by decide) rfl rfl rfl (pa_cons (pe_ix ix_tup (pv 0) pe_int (fun _ _ => rfl)) (pa_cons (pe_ix ix_tup (pv 0) pe_int (fun _ _ => rfl)) (pa_cons (pe_ix ix_tup (pv 0) pe_int (fun _ _ => rfl)) pa_nil))) (by rfl)))
      (psst_cut (PST.of (ps_if (pt_val (pv 1)) (pss_cons (ps_set (i := 6) sc__law_folded_leaf.nd rfl (Or.inl rfl) (pe_bm PySem.F.plainAttrs_list PySem.F.slot_list_index PySem.F.type_list_index mt_index (pv 2) (pa_cons (pv 3) pa_nil))) (pss_one (ps_set (i := 3) sc__law_folded_leaf.nd rfl (Or.inl rfl) (pe_ix ix_list (pv 2) (pe_op op_sub (pe_op op_add (pv 6) pe_int) (pe_op op_mul pe_int (pe_callTy call_int1 (by rfl) T.int PyProof.Rows.boot_int (pa_cons (pe_cmpR op_eq (pe_op op_mod (pe_callTy call_int1 (by rfl) T.int PyProof.Rows.boot_int (pa_cons (pv 6) pa_nil)) pe_int) pe_int (nomark _)) pa_nil)))) (fun _ _ => rfl))))) pss_nil))
      (psst_cons (PST.of (ps_if (PW.pt (pw_and (pt_cmpR op_eq (pe_ix ix_tup (pv 4) pe_int (fun _ _ => rfl)) pe_str (nomark _)) (pw_and1 (pt_cmpR op_eq (pe_ix ix_tup (pv 5) pe_int (fun _ _ => rfl)) pe_str (nomark _))))) (pss_cons (ps_set (i := 7) sc__law_folded_leaf.nd rfl (Or.inl rfl) (pe_c c__law_holds hr rfl (pa_cons (pe_tup (pa_cons pe_str (pa_cons (pv 3) (pa_cons (pv 4) (pa_cons (pv 5) pa_nil))))) (pa_cons (pe_lst pa_nil) (pa_cons (pe_tup pa_nil) pa_nil))))) (pss_one (ps_ret (pe_ifExp (pt_val (pv 7)) (pe_tup (pa_cons pe_str pa_nil)) (pe_tup (pa_cons pe_str pa_nil)))))) pss_nil))
      (psst_cons (CwR.pst_if (pt_cmpR op_eq (pe_ix ix_tup (pv 4) pe_int (fun _ _ => rfl)) pe_str (nomark _)) (psst_cons (pst_set (i := 3) sc__law_folded_leaf.nd rfl (Or.inl rfl) (CwR.pet_replT (CwR.pet_replT (CwR.pet_replC (pv 3))))) (CwR.psst_one (PST.of (ps_ret (pe_tup (pa_cons pe_str (pa_cons (pv 3) (pa_cons (pv 5) (pa_cons (pv 4) pa_nil))))))))) CwR.psst_nil)
      (PSsT.of (pss_cons (ps_if (PW.pt (pw_and (pt_cmpR op_eq (pe_ix ix_tup (pv 5) pe_int (fun _ _ => rfl)) pe_str (nomark _)) (pw_and1 (pt_cmpR op_eq (pe_ix ix_tup (pv 4) pe_int (fun _ _ => rfl)) (pe_ix ix_tup (pv 5) pe_int (fun _ _ => rfl)) (nomark _))))) (pss_one (ps_ret (pe_ifExp (pt_cmpR op_in_seq (pv 3) (pe_lst (pa_cons pe_str (pa_cons pe_str (pa_cons pe_str pa_nil)))) (by rfl)) (pe_tup (pa_cons pe_str pa_nil)) (pe_tup (pa_cons pe_str pa_nil))))) pss_nil) (pss_one (ps_ret (pe_tup (pa_cons pe_str (pa_cons (pv 3) (pa_cons (pv 4) (pa_cons (pv 5) pa_nil)))))))))))))), ?_⟩
    obtain ⟨ca, x2, x3, rfl, hs, r2, r3⟩ := repCmp hx
    refine ⟨leT, fun p hp => ?_⟩
    have s1 := SD.Same.new (o := .lst opsL) hp
    have gp : (upd H p (.lst opsL)) p = some (.lst opsL) := upd_same
    show _
    generalize hH1 : upd H p (.lst opsL) = H1 at s1 gp
    have hs1 := SD.Same.seqT s1 hs
    have r21 := r2.same s1
    have r31 := r3.same s1
    obtain ⟨pa, rfl, ha, va⟩ := repT r21
    obtain ⟨pb, rfl, hb, vb⟩ := repT r31
    have hH1' : upd H p (.lst [V.str "=", .str "!=", .str "<", .str ">=", .str ">", .str "<="]) = H1 := hH1
    rw [hH1']
    refine ⟨_, rfl, ca, _, 1, _, rfl, rfl, hs1, rfl, _, rfl, ca, _, 2, _, rfl, rfl, hs1, rfl, _, rfl, ca, _, 3, _, rfl, rfl, hs1, rfl, _, _, _, rfl, ?_⟩
    refine ⟨fun σ H' => ∃ s6, σ = [some (.ref ca), some (.bl t), some (.ref p), some (.str (opS (if t then opp o else o))), some (.ref pa), some (.ref pb), s6, none] ∧ H' = H1, ?_, ?_⟩
    · refine ⟨_, rfl, t, rfl, ?_⟩
      cases t with
      | false => exact iteF ⟨none, rfl, rfl⟩
      | true =>
        refine iteT ?_
        refine ⟨_, rfl, .inl ⟨rfl, _, SqL.of gp⟩, _, rfl, p, opsL, _, opI o, _, rfl, rfl, SqL.of gp, rfl, rfl, opI_at o, opI_eq o, notBefore (opI_nb o), ?_⟩
        refine ⟨_, rfl, _, rfl, _, 1, rfl, rfl, _, rfl, .inl ⟨_, rfl, _, 2, rfl, rfl, (show (0 : Int) < 2 by decide), rfl, .inr ⟨_, rfl, 2, _, rfl, rfl, .inl ⟨by decide, ?_⟩, _, _, rfl, rfl, p, opsL, _, _, rfl, rfl, SqL.of gp, opI_opp o, _, rfl, rfl⟩⟩⟩
        cases o <;> decide
    rintro σ H1' ⟨s6, rfl, rfl⟩
    generalize (if t = true then opp o else o) = o' at k ⊢
    have mk2 : ∀ (q : Addr) (H2 : Hp) (b : Bool), Same H1' H2 → leafC o' a _ = cst b → H2 q = some (.tup [.str (if b then "true" else "false")]) → Q (.ref q) H2 := fun q H2 b s2 e h => k _ _ (s1.trans s2) (by rw [e]; exact rep_cst b h)
    cases a with
    | val v =>
      refine ⟨_, rfl, pa, _, 0, _, rfl, rfl, ha, rfl, rfl, true, strB "value" "value" _ (by decide +kernel), ?_⟩
      cases b with
      | val u =>
        refine ⟨_, rfl, pb, _, 0, _, rfl, rfl, hb, rfl, rfl, true, strB "value" "value" _ (by decide +kernel), ?_⟩
        refine ⟨_, rfl, _, rfl, _, rfl, leT, fun q hq => ⟨Nat.zero_le _, fun e he => ⟨Nat.zero_le _, fun d hd => ?_⟩⟩⟩
        have s2 := SD.Same.new (o := .tup [.str "compare", .str (opS o'), .ref pa, .ref pb]) hq
        have s3 := SD.Same.new (o := .lst []) he
        have s4 := SD.Same.new (o := .tup []) hd
        have s24 := (s2.trans s3).trans s4
        refine ⟨_, .cmp o' (.val v) (.val u), e, d, [], [], rfl, Rep.mk (s4 _ _ (s3 _ _ upd_same)) (by simp) (.cons (.sc rfl) (.cons (.sc rfl) (.cons (r21.same s24) (.cons (r31.same s24) .nil)))), (show 0 < 60 by decide), .inl (SqL.of (s4 _ _ upd_same)), SqT.of upd_same, ⟨hga, hgb⟩, rfl, fun _ h => absurd h (by simp), fun H5 s5 => ?_⟩
        refine ⟨_, rfl, _, rfl, ?_⟩
        refine ite2 (fun e => ⟨leT, fun z hz => ?_⟩) fun e => ⟨leT, fun z hz => ?_⟩
        · exact mk2 z _ true ((s24.trans s5).trans (SD.Same.new hz)) (by simp only [leafC]; rw [show cmpB o' v u = true from e]) upd_same
        · exact mk2 z _ false ((s24.trans s5).trans (SD.Same.new hz)) (by simp only [leafC]; rw [show cmpB o' v u = false from by rw [Bool.not_eq_true] at e; exact e]) upd_same
      | col l =>
        refine ⟨_, rfl, pb, _, 0, _, rfl, rfl, hb, rfl, rfl, false, strB "column" "value" _ (by decide +kernel), ?_⟩
        refine ⟨_, rfl, pa, _, 0, _, rfl, rfl, ha, rfl, rfl, true, strB "value" "value" _ (by decide +kernel), ?_⟩
        refine ⟨_, rfl, _, rfl, repB1 o', _, rfl, repB2 o', _, rfl, repB3 o', ?_⟩
        rw [flipRep]
        refine ⟨_, rfl, _, rfl, _, rfl, leT, fun z hz => k _ _ (s1.trans (SD.Same.new hz)) ?_⟩
        have s2 := SD.Same.new (o := .tup [.str "compare", .str (opS (flp o')), .ref pb, .ref pa]) hz
        exact Rep.mk upd_same (by simp) (.cons (.sc rfl) (.cons (.sc rfl) (.cons (r31.same s2) (.cons (r21.same s2) .nil))))
    | col l =>
      refine ⟨_, rfl, pa, _, 0, _, rfl, rfl, ha, rfl, rfl, false, strB "column" "value" _ (by decide +kernel), ?_⟩
      refine ⟨_, rfl, pa, _, 0, _, rfl, rfl, ha, rfl, rfl, false, strB "column" "value" _ (by decide +kernel), ?_⟩
      have plain : ∀ (b : Tm), Rep K H1' (.ref pb) (dT b) → ∀ z, H1' z = none → Rep K (upd H1' z (.tup [.str "compare", .str (opS o'), .ref pa, .ref pb])) (.ref z) (dC (.cmp o' (.col l) b)) := fun b rb z hz => by
        have s2 := SD.Same.new (o := .tup [.str "compare", .str (opS o'), .ref pa, .ref pb]) hz
        exact Rep.mk upd_same (by simp) (.cons (.sc rfl) (.cons (.sc rfl) (.cons (r21.same s2) (.cons (rb.same s2) .nil))))
      cases b with
      | val u =>
        refine ⟨_, rfl, pb, _, 0, _, rfl, rfl, hb, rfl, rfl, false, strB "value" "column" _ (by decide +kernel), ?_⟩
        exact ⟨_, rfl, _, rfl, _, rfl, leT, fun z hz => k _ _ (s1.trans (SD.Same.new hz)) (plain _ r31 z hz)⟩
      | col m =>
        refine ⟨_, rfl, pb, _, 0, _, rfl, rfl, hb, rfl, rfl, true, strB "column" "column" _ (by decide +kernel), ?_⟩
        refine ⟨_, rfl, pa, _, 1, _, rfl, rfl, ha, rfl, _, rfl, pb, _, 1, _, rfl, rfl, hb, rfl, rfl, decide (l = m), strB l m _ rfl, ?_⟩
        refine ite2 (fun e => ?_) fun e => ?_
        · have el : leafC o' (.col l) (.col m) = cst (refl o') := by simp only [leafC]; rw [if_pos (of_decide_eq_true e)]
          refine ⟨_, rfl, leT, fun d hd => ⟨d, [.str "=", .str "<=", .str ">="], rfl, .inl (SqL.of upd_same), rfl, rfl, refl o', reflIn o', ?_⟩⟩
          have s2 := SD.Same.new (o := .lst [.str "=", .str "<=", .str ">="]) hd
          refine ite2 (fun e2 => ⟨leT, fun z hz => ?_⟩) fun e2 => ⟨leT, fun z hz => ?_⟩
          · exact mk2 z _ true (s2.trans (SD.Same.new hz)) (by rw [el, e2]) upd_same
          · exact mk2 z _ false (s2.trans (SD.Same.new hz)) (by rw [el]; simp only [Bool.not_eq_true] at e2; rw [e2]) upd_same
        · have el : leafC o' (.col l) (.col m) = .cmp o' (.col l) (.col m) := by simp only [leafC]; rw [if_neg (fun z => e (decide_eq_true z))]
          exact ⟨_, rfl, _, rfl, _, rfl, leT, fun z hz => k _ _ (s1.trans (SD.Same.new hz)) (by rw [el]; exact plain _ r31 z hz)⟩
end
end SD
namespace SD
open PySem L2
section
variable {P : Program} {w : World} {K : PySem.W.Frag} {mg : Str → Option Value} {base : Heap} {f : Addr} {fd : FuncData}
theorem sc__law_fold : FnScope ["condition", "turned", "word", "one", "two", "stop", "idle"] ["condition", "turned"] (defScope st__law_fold) := ⟨rfl, rfl, rfl, by decide +kernel, rfl, by decide +kernel, by decide +kernel⟩
theorem ok__law_fold (F : Fun K "_law_fold" "_law_fold" st__law_fold f fd) (hm : mg "_law_fold" = some (.ref f)) (b : Binds K fd ["condition", "turned"] []) (bk : BK "_law_fold" st__law_fold ["condition", "turned"]) (c__law_folded_leaf : Cal P w K mg base "_law_folded_leaf" 63 ["condition", "turned"] (spLeafF K)) (c__law_same : Cal P w K mg base "_law_same" 22 ["left", "right"] (spLawSameX K 20)) : ∀ n : Nat, FnOk P w K mg base CX0 (n + 64) f fd ["condition", "turned"] (spLFold K n)
  | 0 => by
    refine F.ok (k := 63) sc__law_fold (fun vs H Q E h => ?_) (fun cdv A outer s H vs Q E hr h => ?_)
    · obtain ⟨x, c, t, rfl, _⟩ := h
      rfl
    · obtain ⟨x, c, t, rfl, _, _, h0, _⟩ := h
      exact absurd h0 (Nat.not_lt_zero _)
  | n + 1 => by
    have c_rec : Cal P w K mg base "_law_fold" (n + 64) ["condition", "turned"] (spLFold K n) := cal_of F hm b bk (ok__law_fold F hm b bk c__law_folded_leaf c__law_same n)
    refine F.ok (k := n + 64) sc__law_fold (fun vs H Q E h => ?_) (fun cdv A outer s H vs Q E hr h => ?_)
    · obtain ⟨x, c, t, rfl, _⟩ := h
      rfl
    · obtain ⟨x, c, t, rfl, hx, ⟨ls, hg⟩, hd, hd2, k⟩ := h
      have h22 : Room 22 _ := hr.mono (by omega)
      have h63 : Room 63 _ := hr.mono (by omega)
      refine ⟨_, (pss_cons (ps_set (i := 2) sc__law_fold.nd rfl (Or.inl rfl) (pe_ix ix_tup (pv 0) pe_int (fun _ _ => rfl))) (pss_cons (ps_if (pt_cmpR op_eq (pv 2) pe_str (nomark _)) (pss_one (ps_ret (pe_c c_rec hr rfl (pa_cons (pe_ix ix_tup (pv 0) pe_int (fun _ _ => rfl)) (pa_cons (pe_not (pv 1)) pa_nil))))) pss_nil) (pss_cons (ps_if (pt_cmpR op_eq (pv 2) pe_str (nomark _)) (pss_one (ps_ret (pe_c c__law_folded_leaf h63 rfl (pa_cons (pv 0) (pa_cons (pv 1) pa_nil))))) pss_nil) (pss_cons (ps_if (PW.pt (pw_or (pt_cmpR op_eq (pv 2) pe_str (nomark _)) (pw_or1 (pt_cmpR op_eq (pv 2) pe_str (nomark _))))) (pss_one (ps_ret (pe_ifExp (pt_cmpR op_ne (pe_cmpR op_eq (pv 2) pe_str (nomark _)) (pv 1) (nomark _)) (pe_tup (pa_cons pe_str pa_nil)) (pe_tup (pa_cons pe_str pa_nil))))) pss_nil) (pss_cons (ps_set (i := 3) sc__law_fold.nd rfl (Or.inl rfl) (pe_c c_rec hr rfl (pa_cons (pe_ix ix_tup (pv 0) pe_int (fun _ _ => rfl)) (pa_cons (pv 1) pa_nil)))) (pss_cons (ps_set (i := 4) sc__law_fold.nd rfl (Or.inl rfl) (pe_c c_rec hr rfl (pa_cons (pe_ix ix_tup (pv 0) pe_int (fun _ _ => rfl)) (pa_cons (pv 1) pa_nil)))) (C8.pss_cut (ps_if (pt_val (pv 1)) (pss_one (ps_set (i := 2) sc__law_fold.nd rfl (Or.inl rfl) (pe_ifExp (pt_cmpR op_eq (pv 2) pe_str (nomark _)) pe_str pe_str))) pss_nil) (C8.pss_cut (ps_set (i := 5) sc__law_fold.nd rfl (Or.inl rfl) (pe_ifExp (pt_cmpR op_eq (pv 2) pe_str (nomark _)) pe_str pe_str)) (C8.pss_cut (ps_set (i := 6) sc__law_fold.nd rfl (Or.inl rfl) (pe_ifExp (pt_cmpR op_eq (pv 2) pe_str (nomark _)) pe_str pe_str)) (pss_cons (ps_if (PW.pt (pw_or (pt_cmpR op_eq (pe_ix ix_tup (pv 3) pe_int (fun _ _ => rfl)) (pv 5) (nomark _)) (pw_or1 (pt_cmpR op_eq (pe_ix ix_tup (pv 4) pe_int (fun _ _ => rfl)) (pv 5) (nomark _))))) (pss_one (ps_ret (pe_tup (pa_cons (pv 5) pa_nil)))) pss_nil) (pss_cons (ps_if (pt_cmpR op_eq (pe_ix ix_tup (pv 3) pe_int (fun _ _ => rfl)) (pv 6) (nomark _)) (pss_one (ps_ret (pv 4))) pss_nil) (pss_cons (ps_if (PW.pt (pw_or (pt_cmpR op_eq (pe_ix ix_tup (pv 4) pe_int (fun _ _ => rfl)) (pv 6) (nomark _)) (pw_or1 (pt_val (pe_c c__law_same h22 rfl (pa_cons (pv 3) (pa_cons (pv 4) pa_nil))))))) (pss_one (ps_ret (pv 3))) pss_nil) (pss_one (ps_ret (pe_tup (pa_cons (pv 2) (pa_cons (pv 3) (pa_cons (pv 4) pa_nil)))))))))))))))))), ?_⟩
      rcases cn_split c with rfl | rfl | ⟨o, ta, tb, rfl⟩ | ⟨d, rfl⟩ | ⟨m, c1, c2, rfl⟩
      · obtain ⟨a, rfl, ha⟩ := repTT hx
        refine ⟨_, rfl, a, _, 0, _, rfl, rfl, ha, rfl, ?_⟩
        refine ⟨_, rfl, rfl, false, strB "true" "not" _ (by decide +kernel), _, rfl, rfl, false, strB "true" "compare" _ (by decide +kernel), _, rfl, rfl, true, strB "true" "true" _ (by decide +kernel), ?_⟩
        refine ⟨_, rfl, rfl, _, rfl, rfl, !t, ?_, ?_⟩
        · rw [strB "true" "true" true (by decide +kernel)]; cases t <;> decide +kernel
        cases t
        · exact iteT ⟨leT, fun p hp => k _ _ (SD.Same.new hp) (rep_cst true upd_same)⟩
        · exact iteF ⟨leT, fun p hp => k _ _ (SD.Same.new hp) (rep_cst false upd_same)⟩
      · obtain ⟨a, rfl, ha⟩ := repFF hx
        refine ⟨_, rfl, a, _, 0, _, rfl, rfl, ha, rfl, ?_⟩
        refine ⟨_, rfl, rfl, false, strB "false" "not" _ (by decide +kernel), _, rfl, rfl, false, strB "false" "compare" _ (by decide +kernel), _, rfl, rfl, false, strB "false" "true" _ (by decide +kernel), _, rfl, rfl, true, strB "false" "false" _ (by decide +kernel), ?_⟩
        refine ⟨_, rfl, rfl, _, rfl, rfl, t, ?_, ?_⟩
        · rw [strB "false" "true" false (by decide +kernel)]; cases t <;> decide +kernel
        cases t
        · exact iteF ⟨leT, fun p hp => k _ _ (SD.Same.new hp) (rep_cst false upd_same)⟩
        · exact iteT ⟨leT, fun p hp => k _ _ (SD.Same.new hp) (rep_cst true upd_same)⟩
      · obtain ⟨a, x2, x3, rfl, ha, r2, r3⟩ := repCmp hx
        refine ⟨_, rfl, a, _, 0, _, rfl, rfl, ha, rfl, ?_⟩
        refine ⟨_, rfl, rfl, false, strB "compare" "not" _ (by decide +kernel), _, rfl, rfl, true, strB "compare" "compare" _ (by decide +kernel), ?_⟩
        exact ⟨_, rfl, _, rfl, _, o, ta, tb, t, rfl, hx, ⟨ls, hg⟩, k⟩
      · obtain ⟨a, x1, rfl, ha, r1⟩ := repNo hx
        simp only [dpC] at hd hd2
        refine ⟨_, rfl, a, _, 0, _, rfl, rfl, ha, rfl, ?_⟩
        refine ⟨_, rfl, rfl, true, strB "not" "not" _ (by decide +kernel), ?_⟩
        exact ⟨_, rfl, a, _, 1, _, rfl, rfl, ha, rfl, _, rfl, t, rfl, _, d, !t, rfl, r1, ⟨ls, hg⟩, by omega, by omega, k⟩
      · obtain ⟨a, x1, x2, rfl, ha, r1, r2⟩ := repBin hx
        rw [dp_bin] at hd hd2
        rw [fold_bin] at k
        obtain ⟨g1, g2⟩ := g_bin hg
        refine ⟨_, rfl, a, _, 0, _, rfl, rfl, ha, rfl, ?_⟩
        refine ⟨_, rfl, rfl, false, strB _ "not" _ (binW_no (by decide +kernel) (by decide +kernel)), _, rfl, rfl, false, strB _ "compare" _ (binW_no (by decide +kernel) (by decide +kernel)), _, rfl, rfl, false, strB _ "true" _ (binW_no (by decide +kernel) (by decide +kernel)), _, rfl, rfl, false, strB _ "false" _ (binW_no (by decide +kernel) (by decide +kernel)), ?_⟩
        refine ⟨_, rfl, a, _, 1, _, rfl, rfl, ha, rfl, _, rfl, _, c1, t, rfl, r1, ⟨ls, g1⟩, by omega, by omega, fun y1 H1 s1 q1 => ?_⟩
        refine ⟨_, rfl, a, _, 2, _, rfl, rfl, SD.Same.seqT s1 ha, rfl, _, rfl, _, c2, t, rfl, r2.same s1, ⟨ls, g2⟩, by omega, by omega, fun y2 H2 s2 q2 => ?_⟩
        have e1 := dp_foldC c1 t
        have e2 := dp_foldC c2 t
        have q1 := q1.same s2
        have s12 := s1.trans s2
        refine ⟨fun σ H' => σ = [some (.ref a), some (.bl t), some (.str (binW (m ^^ t))), some y1, some y2, none, none] ∧ H' = H2, ?_, ?_⟩
        · refine ⟨_, rfl, t, rfl, ?_⟩
          cases t
          · exact iteF ⟨by rw [Bool.xor_false]; rfl, rfl⟩
          · refine iteT ⟨_, rfl, rfl, m, strB _ _ _ (binW_an m), ?_⟩
            cases m
            · exact iteF ⟨rfl, rfl⟩
            · exact iteT ⟨rfl, rfl⟩
        rintro σ H2' ⟨rfl, rfl⟩
        generalize (m ^^ t) = n' at k ⊢
        generalize foldC t c1 = l at k q1 e1
        generalize foldC t c2 = r at k q2 e2
        refine ⟨fun σ H' => σ = [some (.ref a), some (.bl t), some (.str (binW n')), some y1, some y2, some (.str (stopW n')), none] ∧ H' = H2', ?_, ?_⟩
        · refine ⟨_, rfl, rfl, n', strB _ _ _ (binW_an n'), ?_⟩
          cases n'
          · exact iteF ⟨rfl, rfl⟩
          · exact iteT ⟨rfl, rfl⟩
        rintro σ H2'' ⟨rfl, rfl⟩
        refine ⟨fun σ H' => σ = [some (.ref a), some (.bl t), some (.str (binW n')), some y1, some y2, some (.str (stopW n')), some (.str (idleW n'))] ∧ H' = H2'', ?_, ?_⟩
        · refine ⟨_, rfl, rfl, n', strB _ _ _ (binW_an n'), ?_⟩
          cases n'
          · exact iteF ⟨rfl, rfl⟩
          · exact iteT ⟨rfl, rfl⟩
        rintro σ H3 ⟨rfl, rfl⟩
        obtain ⟨pa, xs, rfl, ga, ea⟩ := repW q1
        obtain ⟨pb, ys, rfl, gb, eb⟩ := repW q2
        have fin : (isFin n' l || isFin n' r) = true → ∀ p, H3 p = none → Q (.ref p) (upd H3 p (.tup [.str (stopW n')])) := fun e p hp => by
          refine k _ _ (s12.trans (SD.Same.new hp)) ?_
          have : pairC n' l r = cst (!n') := by unfold pairC; rw [if_pos e]
          rw [this]
          exact rep_stop n' upd_same
        refine ⟨_, rfl, pa, _, 0, _, rfl, rfl, ga, atI_nat (j := 0) rfl, _, rfl, rfl, isFin n' l, strB _ _ _ (wFin n' l), ?_⟩
        refine ite2 (fun e => ⟨_, rfl, leT, fin (by rw [e]; rfl)⟩) fun f1 => ?_
        refine ⟨_, rfl, pb, _, 0, _, rfl, rfl, gb, atI_nat (j := 0) rfl, _, rfl, rfl, isFin n' r, strB _ _ _ (wFin n' r), ?_⟩
        refine ite2 (fun e => ⟨_, rfl, leT, fin (by rw [e]; simp)⟩) fun f2 => ?_
        have f12 : ¬ (isFin n' l || isFin n' r) = true := by simp only [Bool.not_eq_true] at f1 f2 ⊢; rw [f1, f2]; rfl
        refine ⟨_, rfl, pa, _, 0, _, rfl, rfl, ga, atI_nat (j := 0) rfl, _, rfl, rfl, isIdle n' l, strB _ _ _ (wIdle n' l), ?_⟩
        refine ite2 (fun e => ⟨_, rfl, k _ _ s12 ?_⟩) fun f3 => ?_
        · have : pairC n' l r = r := by unfold pairC; rw [if_neg f12, if_pos e]
          rw [this]; exact q2
        refine ⟨_, rfl, pb, _, 0, _, rfl, rfl, gb, atI_nat (j := 0) rfl, _, rfl, rfl, isIdle n' r, strB _ _ _ (wIdle n' r), ?_⟩
        refine ite2 (fun e => ⟨_, rfl, k _ _ s12 ?_⟩) fun f4 => ?_
        · have : pairC n' l r = l := by unfold pairC; rw [if_neg f12, if_neg f3, if_pos (by rw [e]; rfl)]
          rw [this]; exact q1
        have d1 := dep_dC l
        refine ⟨_, rfl, _, rfl, .inl ⟨_, _, _, _, rfl, q1, q2, by omega, fun H4 s4 => ⟨_, rfl, ?_⟩⟩⟩
        refine ite2 (fun e => ⟨_, rfl, k _ _ (s12.trans s4) ?_⟩) fun f5 => ?_
        · have : pairC n' l r = l := by unfold pairC; rw [if_neg f12, if_neg f3, if_pos (by rw [e]; simp)]
          rw [this]; exact q1.same s4
        refine ⟨_, rfl, _, rfl, _, rfl, leT, fun p hp => k _ _ ((s12.trans s4).trans (SD.Same.new hp)) ?_⟩
        have : pairC n' l r = binC n' l r := by
          unfold pairC
          rw [if_neg f12, if_neg f3, if_neg (by simp only [Bool.not_eq_true] at f4 f5 ⊢; rw [f4, f5]; rfl)]
          rfl
        rw [this]
        have s5 := s4.trans (SD.Same.new (o := .tup [V.str (binW n'), .ref pa, .ref pb]) hp)
        exact mkBin upd_same (q1.same s5) (q2.same s5)
end
end SD
namespace SD
open PySem L2
section
variable {P : Program} {w : World} {K : PySem.W.Frag} {mg : Str → Option Value} {base : Heap} {f : Addr} {fd : FuncData}
theorem sc__law_folding : FnScope ["store", "labels", "kind", "one", "two", "column", "at", "value", "itself", "whole"] ["store", "labels"] (defScope st__law_folding) := ⟨rfl, rfl, rfl, by decide +kernel, rfl, by decide +kernel, by decide +kernel⟩
theorem ok__law_folding (F : Fun K "_law_folding" "_law_folding" st__law_folding f fd) (T : Tx mg) (c__law_take : Cal P w K mg base "_law_take" 2 ["store", "many"] spTake) (c__law_odds : Cal P w K mg base "_law_odds" 3 ["store", "many"] spOdds) (c__law_count : Cal P w K mg base "_law_count" 3 ["store", "least", "usual", "most"] spCount) (c__law_one : Cal P w K mg base "_law_one" 3 ["store", "row"] (spOne K)) (c__law_value : Cal P w K mg base "_law_value" 5 ["store"] spValue) (c__law_near : Cal P w K mg base "_law_near" 6 ["store", "row"] (spNear2 K)) (c__law_condition : Cal P w K mg base "_law_condition" 67 ["store", "labels", "nodes", "deep"] (spCond K 60)) : FnOk P w K mg base CX0 68 f fd ["store", "labels"] (spFolding K) := by
  refine F.ok sc__law_folding (fun vs H Q E h => ?_) (fun cdv A outer s H vs Q E hr h => ?_)
  · obtain ⟨st, c, la, ls, rfl, _⟩ := h
    rfl
  · obtain ⟨st, c, la, ls, rfl, hS, na, hL, hne, hlen, k⟩ := h
    have h2 : Room 2 _ := hr.mono (by decide)
    have h3 : Room 3 _ := hr.mono (by decide)
    have h5 : Room 5 _ := hr.mono (by decide)
    have h6 : Room 6 _ := hr.mono (by decide)
    refine ⟨_, (pss_cons (ps_set (i := 2) sc__law_folding.nd rfl (Or.inl rfl) (pe_c c__law_take h2 rfl (pa_cons (pv 0) (pa_cons pe_int pa_nil)))) (pss_cons (ps_if (pt_cmpR op_eq (pv 2) pe_int (nomark _)) (pss_one (ps_ret (pe_c c__law_condition hr rfl (pa_cons (pv 0) (pa_cons (pv 1) (pa_cons (pe_c c__law_count h3 rfl (pa_cons (pv 0) (pa_cons pe_int (pa_cons pe_int (pa_cons pe_int pa_nil))))) (pa_cons pe_int pa_nil))))))) pss_nil) (pss_cons (ps_set (i := 3) sc__law_folding.nd rfl (Or.inl rfl) (pe_c c__law_condition hr rfl (pa_cons (pv 0) (pa_cons (pv 1) (pa_cons (pe_op op_add pe_int (pe_c c__law_take h2 rfl (pa_cons (pv 0) (pa_cons pe_int pa_nil)))) (pa_cons pe_int pa_nil)))))) (C8.pss_cut (ps_set (i := 4) sc__law_folding.nd rfl (Or.inl rfl) (pe_ix ix_list (pe_lst (pa_cons (pv 3) (pa_cons (pe_tup (pa_cons pe_str (pa_cons (pe_tup (pa_cons pe_str (pa_cons (pv 3) pa_nil))) pa_nil))) pa_nil))) (pe_c c__law_take h2 rfl (pa_cons (pv 0) (pa_cons pe_int pa_nil))) (fun _ _ => rfl))) (pss_cons (ps_set (i := 5) sc__law_folding.nd rfl (Or.inl rfl) (pe_tup (pa_cons pe_str (pa_cons (pe_c c__law_one h3 rfl (pa_cons (pv 0) (pa_cons (pv 1) pa_nil))) pa_nil)))) (pss_cons (ps_set (i := 6) sc__law_folding.nd rfl (Or.inl rfl) (pe_c c__law_take h2 rfl (pa_cons (pv 0) (pa_cons pe_int pa_nil)))) (C8.pss_cut (ps_if (pt_cmpR op_eq (pv 2) pe_int (nomark _)) (pss_cons (ps_set (i := 7) sc__law_folding.nd rfl (Or.inl rfl) (pe_c c__law_value h5 rfl (pa_cons (pv 0) pa_nil))) (pss_cons (ps_set (i := 3) sc__law_folding.nd rfl (Or.inl rfl) (pe_tup (pa_cons pe_str (pa_cons (pe_ix ix_list (pe_lst (pa_cons pe_str (pa_cons pe_str (pa_cons pe_str (pa_cons pe_str (pa_cons pe_str (pa_cons pe_str pa_nil))))))) (pv 6) (fun _ _ => rfl)) (pa_cons (pv 5) (pa_cons (pe_tup (pa_cons pe_str (pa_cons (pv 7) pa_nil))) pa_nil)))))) (pss_cons (ps_set (i := 7) sc__law_folding.nd rfl (Or.inl rfl) (pe_ix ix_tup (pe_c c__law_near h6 rfl (pa_cons (pv 0) (pa_cons (pe_tup (pa_cons (pv 7) (pa_cons pe_int pa_nil))) pa_nil))) pe_int (fun _ _ => rfl))) (pss_one (ps_set (i := 4) sc__law_folding.nd rfl (Or.inl rfl) (pe_tup (pa_cons pe_str (pa_cons (pe_ix ix_list (pe_lst (pa_cons pe_str (pa_cons pe_str (pa_cons pe_str (pa_cons pe_str (pa_cons pe_str (pa_cons pe_str pa_nil))))))) (pv 6) (fun _ _ => rfl)) (pa_cons (pe_tup (pa_cons pe_str (pa_cons (pv 7) pa_nil))) (pa_cons (pv 5) pa_nil)))))))))) (pss_one (ps_if (pt_cmpR op_eq (pv 2) pe_int (nomark _)) (pss_cons (ps_set (i := 8) sc__law_folding.nd rfl (Or.inl rfl) (pe_tup (pa_cons pe_str (pa_cons (pe_ix ix_list (pe_lst (pa_cons pe_str (pa_cons pe_str (pa_cons pe_str (pa_cons pe_str (pa_cons pe_str (pa_cons pe_str pa_nil))))))) (pv 6) (fun _ _ => rfl)) (pa_cons (pv 5) (pa_cons (pv 5) pa_nil)))))) (pss_one (ps_set (i := 4) sc__law_folding.nd rfl (Or.inl rfl) (pe_ix ix_list (pe_lst (pa_cons (pe_tup (pa_cons pe_str pa_nil)) (pa_cons (pe_tup (pa_cons pe_str pa_nil)) (pa_cons (pv 8) pa_nil)))) (pe_c c__law_take h2 rfl (pa_cons (pv 0) (pa_cons pe_int pa_nil))) (fun _ _ => rfl))))) pss_nil))) (C8.pss_cut (ps_if (pt_val (pe_c c__law_odds h3 rfl (pa_cons (pv 0) (pa_cons pe_int pa_nil)))) (pss_one (ps_par (i := 3) (j := 4) (by rfl) sc__law_folding.nd rfl rfl (by decide) rfl rfl (pa_cons (pv 4) (pa_cons (pv 3) pa_nil)) (by rfl))) pss_nil) (pss_cons (ps_set (i := 9) sc__law_folding.nd rfl (Or.inl rfl) (pe_tup (pa_cons (pe_ix ix_list (pe_lst (pa_cons pe_str (pa_cons pe_str pa_nil))) (pe_c c__law_take h2 rfl (pa_cons (pv 0) (pa_cons pe_int pa_nil))) (fun _ _ => rfl)) (pa_cons (pv 3) (pa_cons (pv 4) pa_nil))))) (pss_one (ps_ret (pe_ifExp (pt_val (pe_c c__law_odds h3 rfl (pa_cons (pv 0) (pa_cons pe_int pa_nil)))) (pe_tup (pa_cons pe_str (pa_cons (pv 9) pa_nil))) (pv 9))))))))))))), ?_⟩
    have ne' : ls.map V.str ≠ [] := fun z => hne (List.map_eq_nil_iff.mp z)
    have one : ∀ {y : V}, (ls.map V.str = [] ∧ y = V.non ∨ y ∈ ls.map V.str) → ∃ l, y = .str l ∧ l ∈ ls := fun {y} h => by
      rcases h with ⟨z, _⟩ | h
      · exact absurd z ne'
      · obtain ⟨l, h1, h2⟩ := List.mem_map.mp h
        exact ⟨l, h2.symm, h1⟩
    refine ⟨_, rfl, st, c, 4, rfl, hS, by decide, fun kd H1 e1 k0 k1 => ?_⟩
    refine ⟨_, rfl, rfl, decide (V.int kd = V.int 0), rfl, ?_⟩
    refine ite2 (fun _ => ?_) fun _ => ?_
    · refine ⟨_, rfl, _, rfl, _, rfl, st, c, 1, 8, 24, rfl, e1.sto, by decide, by decide, by decide, by decide +kernel, fun n H2 e2 m0 m1 => ?_⟩
      have e12 := e1.trans e2
      exact ⟨st, c, la, ls, n, 8, rfl, e12.sto, na, e12.seqL na hL, hlen, by decide, by decide, by omega, by omega, fun x d H3 e3 r g z s => k x d H3 (e12.trans e3) r g (by omega) (by omega)⟩
    refine ⟨_, rfl, _, rfl, _, rfl, st, c, 6, rfl, e1.sto, by decide, fun r H2 e2 r0 r1 => ⟨_, _, rfl, rfl, ?_⟩⟩
    have e12 := e1.trans e2
    refine ⟨st, c, la, ls, 1 + r, 4, rfl, e12.sto, na, e12.seqL na hL, hlen, by decide, by decide, by omega, by omega, fun x1 d1 H3 e3 rx1 g1 z1 w1 => ?_⟩
    have e13 := e12.trans e3
    have z1 : dpC d1 ≤ 4 := by omega
    have w1 : szC d1 ≤ 6 := by omega
    -- two
    refine ⟨fun σ H' => ∃ x2 d2, σ = [some (.ref st), some (.ref la), some (.int kd), some x1, some x2, none, none, none, none, none] ∧ Ext st c H3 H' ∧ Rep K H' x2 (dC d2) ∧ gC ls d2 ∧ dpC d2 ≤ 6 ∧ szC d2 ≤ 8, ?_, ?_⟩
    · refine ⟨_, rfl, _, rfl, leT, fun p hp => ⟨leT, fun q hq => ⟨leT, fun l hl => ?_⟩⟩⟩
      have s1 := SD.Same.new (o := .tup [.str "not", x1]) hp
      have s2 := SD.Same.new (o := .tup [.str "not", .ref p]) hq
      have s3 := SD.Same.new (o := .lst [x1, .ref q]) hl
      have e4 : Ext st c H3 _ := (Ext.refl e13.sto).same ((s1.trans s2).trans s3)
      have nl : l ≠ st := fun z => ((Ext.refl e13.sto).same (s1.trans s2)).sto.st_some (by rw [← z]; exact hl)
      have gl : (upd (upd (upd H3 p (.tup [.str "not", x1])) q (.tup [.str "not", .ref p])) l (.lst [x1, .ref q])) l = some (.lst [x1, .ref q]) := upd_same
      have ra := rx1.same ((s1.trans s2).trans s3)
      have rb : Rep K (upd (upd (upd H3 p (.tup [.str "not", x1])) q (.tup [.str "not", .ref p])) l (.lst [x1, .ref q])) (.ref q) (dC (.no (.no d1))) := rep_no (s3 _ _ upd_same) (rep_no (s3 _ _ (s2 _ _ upd_same)) ra)
      generalize upd (upd (upd H3 p (.tup [.str "not", x1])) q (.tup [.str "not", .ref p])) l (.lst [x1, .ref q]) = H4 at e4 gl ra rb
      refine ⟨_, rfl, st, c, 2, rfl, e4.sto, by decide, fun r2 H5 e5 q0 q1 => ?_⟩
      obtain ⟨v, hv, hm⟩ := at_mem (xs := [x1, V.ref q]) q0 (by show r2 < 2; omega)
      refine ⟨l, _, r2, v, rfl, rfl, SqL.of (e5.keep _ _ nl gl), hv, ?_⟩
      simp only [List.mem_cons, List.not_mem_nil, or_false] at hm
      rcases hm with h | h
      · subst h; exact ⟨_, d1, rfl, e4.trans e5, ra.ext e4.sto e5, g1, by omega, by omega⟩
      · subst h; exact ⟨_, .no (.no d1), rfl, e4.trans e5, rb.ext e4.sto e5, g1, by simp only [dpC]; omega, by simp only [szC]; omega⟩
    rintro σ H6 ⟨x2, d2, rfl, e6, rx2, g2, z2, w2⟩
    have e16 := e13.trans e6
    have rx16 := rx1.ext e13.sto e6
    -- column
    refine ⟨_, rfl, _, rfl, st, c, la, ls.map V.str, rfl, e16.sto, na, .inl (e16.seqL na hL), by rw [List.length_map]; omega, fun y H7 e7 hy => ⟨leT, fun q hq => ?_⟩⟩
    obtain ⟨l1, rfl, hl1⟩ := one hy
    have s7 := SD.Same.new (o := .tup [V.str "column", .str l1]) hq
    have e67 := e7.same s7
    have rl : Rep K (upd H7 q (.tup [.str "column", .str l1])) (.ref q) (dT (.col l1)) := rep_term (.col l1) upd_same rfl
    have rx17 := rx16.ext e16.sto e67
    have rx27 := rx2.ext e16.sto e67
    have e17 := e16.trans e67
    generalize upd H7 q (.tup [V.str "column", .str l1]) = H8 at e67 rl rx17 rx27 e17
    -- at
    refine ⟨_, rfl, st, c, 6, rfl, e17.sto, by decide, fun at_ H9 e9 a0 a1 => ?_⟩
    have rl9 := rl.ext e17.sto e9
    have rx19 := rx17.ext e17.sto e9
    have rx29 := rx27.ext e17.sto e9
    have e19 := e17.trans e9
    -- the kinds
    refine ⟨fun σ H' => ∃ y1 y2 c1 c2 s7 s8, σ = [some (.ref st), some (.ref la), some (.int kd), some y1, some y2, some (.ref q), some (.int at_), s7, s8, none] ∧ Ext st c H9 H' ∧ Rep K H' y1 (dC c1) ∧ Rep K H' y2 (dC c2) ∧ gC ls c1 ∧ gC ls c2 ∧ dpC c1 ≤ 6 ∧ dpC c2 ≤ 6 ∧ szC c1 ≤ 8 ∧ szC c2 ≤ 8, ?_, ?_⟩
    · refine ⟨_, rfl, rfl, decide (V.int kd = V.int 2), rfl, ?_⟩
      refine ite2 (fun _ => ?_) fun _ => ?_
      · refine ⟨_, rfl, st, c, rfl, e19.sto, fun v Ha ea hv => ?_⟩
        refine ⟨leT, fun l hl => ?_⟩
        have sa := SD.Same.new (o := .lst [V.str (opS .eq), .str (opS .lt), .str (opS .le), .str (opS .ne), .str (opS .gt), .str (opS .ge)]) hl
        obtain ⟨w, hw, hm⟩ := at_mem (xs := [V.str (opS .eq), .str (opS .lt), .str (opS .le), .str (opS .ne), .str (opS .gt), .str (opS .ge)]) a0 (by show at_ < 6; omega)
        obtain ⟨o, rfl⟩ := op_of_mem hm
        refine ⟨_, rfl, l, _, at_, _, rfl, rfl, SqL.of upd_same, hw, _, rfl, _, rfl, leT, fun p hp => ⟨leT, fun p2 hp2 => ?_⟩⟩
        have sb := SD.Same.new (o := .tup [V.str "value", v]) hp
        have sc' := SD.Same.new (o := .tup [V.str "compare", .str (opS o), .ref q, .ref p]) hp2
        have eb := ea.same ((sa.trans sb).trans sc')
        have rv : Rep K _ (.ref p2) (dC (.cmp o (.col l1) (.val v))) := rep_cmp (K := K) (upd_same (a := p2) (o := .tup [V.str "compare", .str (opS o), .ref q, .ref p])) (rl9.ext e19.sto eb) ((rep_term (.val v) (sc' _ _ upd_same) hv.is))
        have rlb := rl9.ext e19.sto eb
        have e1b := e19.trans eb
        generalize upd _ p2 (.tup [V.str "compare", .str (opS o), .ref q, .ref p]) = Hb at eb rv rlb e1b
        refine ⟨_, rfl, _, rfl, leT, fun p3 hp3 => ?_⟩
        have sd := SD.Same.new (o := .tup [v, .int 0]) hp3
        refine ⟨st, c, p3, [v, .int 0], rfl, (e1b.same sd).sto, SqT.of upd_same, fun z hz => ?_, by simp, fun q4 ys Hc ec gy hsy hly => ?_⟩
        · simp only [List.mem_cons, List.not_mem_nil, or_false] at hz
          rcases hz with h | h
          · subst h; exact hv
          · subst h; exact sc_of (by decide +kernel)
        have hly : 1 ≤ ys.length := by simp only [List.length_cons, List.length_nil] at hly; omega
        obtain ⟨y0, hy0⟩ : ∃ y0, ys[0]? = some y0 := ⟨_, List.getElem?_eq_getElem (show 0 < ys.length by omega)⟩
        have hsy0 := hsy y0 (List.mem_of_getElem? hy0)
        have ec' := ((Ext.refl e1b.sto).same sd).trans ec
        have rv2 := rv.ext e1b.sto ec'
        have rlc := rlb.ext e1b.sto ec'
        have e1c := e1b.trans ec'
        refine ⟨q4, ys, 0, y0, rfl, rfl, gy, atI_nat (j := 0) hy0, ?_⟩
        refine ⟨leT, fun l' hl' => ?_⟩
        have se := SD.Same.new (o := .lst [V.str (opS .eq), .str (opS .gt), .str (opS .ge), .str (opS .ne), .str (opS .lt), .str (opS .le)]) hl'
        obtain ⟨w', hw', hm'⟩ := at_mem (xs := [V.str (opS .eq), .str (opS .gt), .str (opS .ge), .str (opS .ne), .str (opS .lt), .str (opS .le)]) a0 (by show at_ < 6; omega)
        obtain ⟨o2, rfl⟩ := op_of_mem hm'
        refine ⟨_, rfl, l', _, at_, _, rfl, rfl, SqL.of upd_same, hw', _, rfl, leT, fun p4 hp4 => ⟨_, rfl, leT, fun p5 hp5 => ?_⟩⟩
        have sf := SD.Same.new (o := .tup [V.str "value", y0]) hp4
        have sg := SD.Same.new (o := .tup [V.str "compare", .str (opS o2), .ref p4, .ref q]) hp5
        have s3 := (se.trans sf).trans sg
        exact ⟨.ref p2, .ref p5, .cmp o (.col l1) (.val v), .cmp o2 (.val y0) (.col l1), _, _, rfl, (eb.trans ec').same s3, rv2.same s3, rep_cmp upd_same (rep_term (.val y0) (sg _ _ upd_same) hsy0.is) (rlc.same s3), ⟨hl1, hv⟩, ⟨hsy0, hl1⟩, (show 0 ≤ 6 by decide), (show 0 ≤ 6 by decide), (show 1 ≤ 8 by decide), (show 1 ≤ 8 by decide)⟩
      refine ⟨_, rfl, rfl, decide (V.int kd = V.int 3), rfl, ?_⟩
      refine ite2 (fun _ => ?_) fun _ => ⟨x1, x2, d1, d2, _, _, rfl, Ext.refl e19.sto, rx19, rx29, g1, g2, by omega, z2, by omega, w2⟩
      refine ⟨leT, fun l hl => ?_⟩
      have sa := SD.Same.new (o := .lst [V.str (opS .eq), .str (opS .lt), .str (opS .le), .str (opS .ne), .str (opS .gt), .str (opS .ge)]) hl
      obtain ⟨w, hw, hm⟩ := at_mem (xs := [V.str (opS .eq), .str (opS .lt), .str (opS .le), .str (opS .ne), .str (opS .gt), .str (opS .ge)]) a0 (by show at_ < 6; omega)
      obtain ⟨o, rfl⟩ := op_of_mem hm
      refine ⟨_, rfl, l, _, at_, _, rfl, rfl, SqL.of upd_same, hw, _, rfl, _, rfl, leT, fun p2 hp2 => ?_⟩
      have sb := SD.Same.new (o := .tup [V.str "compare", .str (opS o), .ref q, .ref q]) hp2
      refine ⟨leT, fun p3 hp3 => ⟨leT, fun p4 hp4 => ⟨_, rfl, leT, fun p5 hp5 => ?_⟩⟩⟩
      have sc' := SD.Same.new (o := .tup [V.str "true"]) hp3
      have sd := SD.Same.new (o := .tup [V.str "false"]) hp4
      have se := SD.Same.new (o := .lst [.ref p3, .ref p4, .ref p2]) hp5
      have s4 := (((sa.trans sb).trans sc').trans sd)
      have n5 : p5 ≠ st := fun z => ((Ext.refl e19.sto).same s4).sto.st_some (by rw [← z]; exact hp5)
      have eb := (Ext.refl e19.sto).same (s4.trans se)
      have rlb := rl9.same (s4.trans se)
      refine ⟨_, rfl, st, c, 3, rfl, eb.sto, by decide, fun r3 Hc ec q0 q1 => ?_⟩
      obtain ⟨u, hu, hmu⟩ := at_mem (xs := [V.ref p3, .ref p4, .ref p2]) q0 (by show r3 < 3; omega)
      refine ⟨p5, _, r3, u, rfl, rfl, SqL.of (ec.keep _ _ n5 upd_same), hu, ?_⟩
      have rx1c := (rx19.same (s4.trans se)).ext eb.sto ec
      simp only [List.mem_cons, List.not_mem_nil, or_false] at hmu
      rcases hmu with h | h | h
      · subst h
        exact ⟨x1, .ref p3, d1, .tt, _, _, rfl, eb.trans ec, rx1c, (Rep.mk (se _ _ (sd _ _ upd_same)) (by simp) (.cons (.sc rfl) .nil)).ext eb.sto ec, g1, trivial, by omega, by decide, by omega, by decide⟩
      · subst h
        exact ⟨x1, .ref p4, d1, .ff, _, _, rfl, eb.trans ec, rx1c, (Rep.mk (se _ _ upd_same) (by simp) (.cons (.sc rfl) .nil)).ext eb.sto ec, g1, trivial, by omega, by decide, by omega, by decide⟩
      · subst h
        exact ⟨x1, .ref p2, d1, .cmp o (.col l1) (.col l1), _, _, rfl, eb.trans ec, rx1c, (rep_cmp (se _ _ (sd _ _ (sc' _ _ upd_same))) rlb rlb).ext eb.sto ec, g1, ⟨hl1, hl1⟩, by omega, (show 0 ≤ 6 by decide), by omega, (show 1 ≤ 8 by decide)⟩
    rintro σ Hm ⟨y1, y2, c1, c2, s7', s8', rfl, em, ry1, ry2, gg1, gg2, zz1, zz2, ww1, ww2⟩
    have e1m := e19.trans em
    -- the order
    refine ⟨fun σ H' => ∃ y1 y2 c1 c2, σ = [some (.ref st), some (.ref la), some (.int kd), some y1, some y2, some (.ref q), some (.int at_), s7', s8', none] ∧ Ext st c Hm H' ∧ Rep K H' y1 (dC c1) ∧ Rep K H' y2 (dC c2) ∧ gC ls c1 ∧ gC ls c2 ∧ dpC c1 ≤ 6 ∧ dpC c2 ≤ 6 ∧ szC c1 ≤ 8 ∧ szC c2 ≤ 8, ?_, ?_⟩
    · refine ⟨_, rfl, st, c, 2, rfl, e1m.sto, by decide, fun b Hn en => ⟨_, rfl, ?_⟩⟩
      refine ite2 (fun _ => ⟨_, rfl, _, rfl, _, _, rfl, y2, y1, c2, c1, rfl, en, ry2.ext e1m.sto en, ry1.ext e1m.sto en, gg2, gg1, zz2, zz1, ww2, ww1⟩) fun _ => ⟨y1, y2, c1, c2, rfl, en, ry1.ext e1m.sto en, ry2.ext e1m.sto en, gg1, gg2, zz1, zz2, ww1, ww2⟩
    clear ry1 ry2 gg1 gg2 zz1 zz2 ww1 ww2
    rintro σ Hn ⟨y1, y2, c1, c2, rfl, en, ry1, ry2, gg1, gg2, zz1, zz2, ww1, ww2⟩
    have e1n := e1m.trans en
    refine ⟨leT, fun l hl => ?_⟩
    have sa := SD.Same.new (o := .lst [V.str (binW true), .str (binW false)]) hl
    have nl : l ≠ st := fun z => e1n.sto.st_some (by rw [← z]; exact hl)
    have e1o := e1n.same sa
    refine ⟨_, rfl, st, c, 2, rfl, e1o.sto, by decide, fun r2 Hp ep q0 q1 => ?_⟩
    obtain ⟨v, hv, hm⟩ := at_mem (xs := [V.str (binW true), .str (binW false)]) q0 (by show r2 < 2; omega)
    obtain ⟨m, rfl⟩ : ∃ m, v = .str (binW m) := by
      simp only [List.mem_cons, List.not_mem_nil, or_false] at hm
      rcases hm with h | h
      · exact ⟨_, h⟩
      · exact ⟨_, h⟩
    refine ⟨l, _, r2, _, rfl, rfl, SqL.of (ep.keep _ _ nl upd_same), hv, _, rfl, _, rfl, leT, fun p hp => ?_⟩
    have e1p := e1o.trans ep
    have sb := SD.Same.new (o := .tup [.str (binW m), y1, y2]) hp
    have rw1 : Rep K (upd Hp p (.tup [.str (binW m), y1, y2])) (.ref p) (dC (binC m c1 c2)) := mkBin upd_same (((ry1.same sa).ext e1o.sto ep).same sb) (((ry2.same sa).ext e1o.sto ep).same sb)
    have e1q := e1p.same sb
    have gw := g_mkbin m gg1 gg2
    have zw := dp_bin m c1 c2
    have ww := sz_bin m c1 c2
    generalize upd Hp p (.tup [.str (binW m), y1, y2]) = Hq at rw1 e1q
    refine ⟨_, rfl, st, c, 3, rfl, e1q.sto, by decide, fun b Hr er => ⟨_, rfl, ?_⟩⟩
    have rw2 := rw1.ext e1q.sto er
    refine ite2 (fun _ => ?_) fun _ => ?_
    · refine ⟨_, rfl, leT, fun z hz => ?_⟩
      have sz := SD.Same.new (o := .tup [.str "not", .ref p]) hz
      exact k _ (.no (binC m c1 c2)) _ ((e1q.trans er).same sz) (rep_no upd_same (rw2.same sz)) gw (by simp only [dpC]; omega) (by simp only [szC]; omega)
    · exact ⟨_, rfl, k _ (binC m c1 c2) _ (e1q.trans er) rw2 gw (by omega) (by omega)⟩
end
end SD
namespace SD
open PySem L2
section
variable {P : Program} {w : World} {K : PySem.W.Frag} {mg : Str → Option Value} {base : Heap} {f : Addr} {fd : FuncData}
theorem sc__law_unlike_labels : FnScope ["store", "many", "labels", "k"] ["store", "many"] (defScope st__law_unlike_labels) := ⟨rfl, rfl, rfl, by decide +kernel, rfl, by decide +kernel, by decide +kernel⟩
theorem ok__law_unlike_labels (F : Fun K "_law_unlike_labels" "_law_unlike_labels" st__law_unlike_labels f fd) (T : Tx mg) (c__law_label : Cal P w K mg base "_law_label" 5 ["store", "taken"] (spLabel K)) : FnOk P w K mg base CX0 6 f fd ["store", "many"] spUnlike := by
  refine F.ok sc__law_unlike_labels (fun vs H Q E h => ?_) (fun cdv A outer s H vs Q E hr h => ?_)
  · obtain ⟨st, c, m, rfl, _⟩ := h
    rfl
  · obtain ⟨st, c, m, rfl, hS, m0, m1, k⟩ := h
    refine ⟨_, (pss_cons (ps_set (i := 2) sc__law_unlike_labels.nd rfl (Or.inl rfl) (pe_lst pa_nil)) (pss_cons (ps_for PassesOwn.never rfl (pi_range1 (by rfl) T.range (pa_cons (pv 1) pa_nil)) (pg_name (i := 3) sc__law_unlike_labels.nd rfl (Or.inl rfl)) (pss_one (ps_expr (pe_bm PySem.F.plainAttrs_list PySem.F.slot_list_append PySem.F.type_list_append mt_append (pv 2) (pa_cons (pe_c c__law_label hr rfl (pa_cons (pv 0) (pa_cons (pv 2) pa_nil))) pa_nil))))) (pss_one (ps_ret (pv 2))))), ?_⟩
    refine ⟨Nat.zero_le _, fun p hp => ?_⟩
    have np : p ≠ st := fun z => hS.st_some (by rw [← z]; exact hp)
    refine ⟨_, rfl, m, rfl, by omega, by omega, ?_⟩
    refine for_range (lo := 0) (n := m.toNat) (fun i σ H' => ∃ (o3 : Option V) (ls : List Str), σ = [some (.ref st), some (.int m), some (.ref p), o3] ∧ H' p = some (.lst (ls.map V.str)) ∧ ls.length = i ∧ Lbs ls ∧ Ext st c H H') ⟨none, [], rfl, upd_same, rfl, fun _ h => absurd h (by simp), (Ext.refl hS).new hp⟩ ?_ ?_
    · rintro i σ H1 hi ⟨o3, ls, rfl, g1, g2, g3, g4⟩
      refine ⟨_, rfl, .inl ⟨rfl, _, SqL.of g1⟩, _, rfl, _, rfl, st, c, p, ls, rfl, g4.sto, np, SqL.of g1, by omega, g3, fun w H2 e2 hw => ⟨p, ls.map V.str, .str w, rfl, rfl, e2.keep _ _ np g1, small1000 (by rw [List.length_map]; omega), _, ls ++ [w], rfl, by rw [upd_same]; simp, by simp [g2], fun l hl => ?_, (g4.trans e2).mut hS hp⟩⟩
      rcases List.mem_append.mp hl with h | h
      · exact g3 l h
      · rw [List.mem_singleton] at h; subst h; exact hw
    · rintro σ H1 ⟨o3, ls, rfl, g1, g2, g3, g4⟩
      exact ⟨_, rfl, k p ls H1 g4 hp np g1 (by omega) g3⟩
end
end SD
namespace SD
open PySem L2
section
variable {P : Program} {w : World} {K : PySem.W.Frag} {mg : Str → Option Value} {base : Heap} {f : Addr} {fd : FuncData}
theorem sc__law_constants : FnScope ["condition", "out", "part", "term"] ["condition"] (defScope st__law_constants) := ⟨rfl, rfl, rfl, by decide +kernel, rfl, by decide +kernel, by decide +kernel⟩
theorem ok__law_constants (F : Fun K "_law_constants" "_law_constants" st__law_constants f fd) (hm : mg "_law_constants" = some (.ref f)) (b : Binds K fd ["condition"] []) (bk : BK "_law_constants" st__law_constants ["condition"]) : ∀ n : Nat, FnOk P w K mg base CX0 (n + 1) f fd ["condition"] (spConsts K n)
  | 0 => by
    refine F.ok (k := 0) sc__law_constants (fun vs H Q E h => ?_) (fun cdv A outer s H vs Q E hr h => ?_)
    · obtain ⟨x, ls, c, rfl, _⟩ := h
      rfl
    · obtain ⟨x, ls, c, rfl, _, _, h0, _⟩ := h
      exact absurd h0 (Nat.not_lt_zero _)
  | n + 1 => by
    have c_rec : Cal P w K mg base "_law_constants" (n + 1) ["condition"] (spConsts K n) := cal_of F hm b bk (ok__law_constants F hm b bk n)
    refine F.ok (k := n + 1) sc__law_constants (fun vs H Q E h => ?_) (fun cdv A outer s H vs Q E hr h => ?_)
    · obtain ⟨x, ls, c, rfl, _⟩ := h
      rfl
    · obtain ⟨x, ls, c, rfl, hx, hg, hd, hz, k⟩ := h
      refine ⟨_, (pss_cons (ps_if (pt_cmpR op_eq (pe_ix ix_tup (pv 0) pe_int (fun _ _ => rfl)) pe_str (nomark _)) (pss_one (ps_ret (pe_lc (own := [("term", 3)]) (g := gName 3) (tt := _) rfl sc__law_constants.nd (pi_tup (pe_slice sl_tupX (pv 0) (po_some pe_int) po_none)) (blkOk_by (N := ["condition", "out", "part", "term"]) (sc := defScope st__law_constants) (by decide +kernel)) (fun _ _ _ _ _ => pg_name (i := 3) sc__law_constants.nd rfl (Or.inl rfl)) (fun _ _ _ _ _ => pts_one (pt_cmpR op_eq (pe_ix (r := rIxT K) ix_tup (pv 3) pe_int (fun _ _ => rfl)) pe_str (nomark _))) (fun _ _ _ _ _ => (pe_ix (r := rIxT K) ix_tup (pv 3) pe_int (fun _ _ => rfl)))))) pss_nil) (pss_cons (ps_set (i := 1) sc__law_constants.nd rfl (Or.inl rfl) (pe_lst pa_nil)) (pss_cons (ps_for PassesOwn.never rfl (pi_tup (pe_slice sl_tupX (pv 0) (po_some pe_int) po_none)) (pg_name (i := 2) sc__law_constants.nd rfl (Or.inl rfl)) (pss_one (ps_set (i := 1) sc__law_constants.nd rfl (Or.inl rfl) (pe_op op_cat (pv 1) (pe_c c_rec hr rfl (pa_cons (pv 2) pa_nil)))))) (pss_one (ps_ret (pv 1)))))), ?_⟩
      -- the parts, one after another
      have walk : ∀ (a : Addr) (w : Str) (ps : List V) (cs : List Cn), x = .ref a → SqT K H a (.str w :: ps) → (decide (w = ("compare" : Str)) = false) → ps.length = cs.length → (∀ (i : Nat) y d, ps[i]? = some y → cs[i]? = some d → Rep K H y (dC d) ∧ gC ls d ∧ dpC d < n ∧ szC d ≤ 1000) → ((cs.map szC).sum ≤ szC c) →
          (tSeq (tIfS (tTest (tOp rEq (tOp (rIxT K) (tVar 0) (tC (.int 0))) (tC (.str "compare")))) (tRet (tLc (iTup K (tSl (rSlX K) (tVar 0) (tPart (tC (.int 2))) tNoPart)) (gName 3) (tTest (tOp rEq (tOp (rIxT K) (tVar 3) (tC (.int 0))) (tC (.str "value")))) (tOp (rIxT K) (tVar 3) (tC (.int 1))) [3])) tNext)
            (tSeq (tAsg (tLst tNil) (gName 1)) (tSeq (tFor (iTup K (tSl (rSlX K) (tVar 0) (tPart (tC (.int 1))) tNoPart)) (gName 2) (tAsg (tOp rCat (tVar 1) (tCall (spConsts K n) [] E0 (tCons (tVar 2) tNil))) (gName 1))) (tRet (tVar 1)))))
            { nx := fun _ H' => Q .non H', rt := Q } [some x, none, none, none] H := by
        intro a w ps cs ex ha hw hlen hps hsz
        subst ex
        refine ⟨_, rfl, a, _, 0, .str w, rfl, rfl, ha, atI_nat (j := 0) rfl, rfl, false, strB _ _ _ hw, ?_⟩
        refine ⟨Nat.zero_le _, fun p hp => ?_⟩
        have s0 := SD.Same.new (o := .lst []) hp
        refine ⟨_, rfl, 1, rfl, a, _, rfl, SD.Same.seqT s0 ha, fun q H1 s1 g1 => ?_⟩
        have ec : cutV (.str w :: ps) (some 1) none = ps := by
          unfold cutV
          have : HT.sIx (V.str w :: ps).length 0 (some 1) = 1 := by
            have := HT.sIx_nat (V.str w :: ps).length 0 1
            simp at this
            rw [show (1 : Int) = ((1 : Nat) : Int) from rfl, HT.sIx_nat]
            simp
          rw [this, HT.sIx_none]
          simp
        rw [ec] at g1
        refine ⟨q, rfl, ⟨_, g1⟩, ?_⟩
        have s01 := s0.trans s1
        refine for_tup (K := K) (a := q) (xs := ps) (fun i σ H' => ∃ (o2 : Option V) (l : Addr) (ws : List V), σ = [some (.ref a), some (.ref l), o2, none] ∧ Same H H' ∧ SqT K H' q ps ∧ H l = none ∧ H' l = some (.lst ws) ∧ (∀ v ∈ ws, Sc v) ∧ ws.length ≤ 2 * ((cs.take i).map szC).sum)
          ⟨none, p, [], rfl, s01, g1, hp, s1 _ _ upd_same, fun _ h => absurd h (by simp), by simp⟩ (fun i σ H' _ ⟨_, _, _, _, _, g, _⟩ => g) ?_ ?_
        · rintro i y σ H2 hy ⟨o2, l, ws, rfl, s2, g2, hl, hw2, hsc, hwl⟩
          have hi := (List.getElem?_eq_some_iff.mp hy).1
          have hci : cs[i]? = some (cs[i]'(by omega)) := List.getElem?_eq_getElem _
          obtain ⟨r1, r2, r3, r4⟩ := hps i y _ hy hci
          generalize cs[i]'(by omega) = d at hci r1 r2 r3 r4
          refine ⟨_, rfl, _, rfl, y, ls, d, rfl, r1.same s2, r2, r3, r4, fun p2 zs H3 s3 _ h3 hz3 hl3 => ?_⟩
          have et : ((cs.take (i + 1)).map szC).sum = ((cs.take i).map szC).sum + szC d := by
            rw [List.take_succ, hci]
            simp
          have tot : ((cs.take (i + 1)).map szC).sum ≤ (cs.map szC).sum := by
            have := congrArg (fun z => (List.map szC z).sum) (List.take_append_drop (i + 1) cs)
            simp only [List.map_append, List.sum_append] at this
            omega
          refine ⟨l, p2, ws, zs, rfl, rfl, s3 _ _ hw2, h3, Nat.le_trans (show ws.length + zs.length ≤ 100000 by omega) (by decide), fun p3 hp3 => ?_⟩
          have s4 := SD.Same.new (o := .lst (ws ++ zs)) hp3
          refine ⟨_, p3, ws ++ zs, rfl, (s2.trans s3).trans s4, SD.Same.seqT (s3.trans s4) g2, (s2.trans s3).free hp3, upd_same, fun v hv => ?_, by rw [List.length_append, et]; omega⟩
          exact (List.mem_append.mp hv).elim (hsc v) (hz3 v)
        · rintro σ H2 ⟨o2, l, ws, rfl, s2, g2, hl, hw2, hsc, hwl⟩
          refine ⟨_, rfl, k l ws H2 s2 hl hw2 hsc ?_⟩
          rw [hlen, List.take_length] at hwl
          omega
      cases c with
      | tt =>
        obtain ⟨a, rfl, ha⟩ := repTT hx
        exact walk a _ [] [] rfl ha (by decide +kernel) rfl (fun i y d h => by simp at h) (by simp)
      | ff =>
        obtain ⟨a, rfl, ha⟩ := repFF hx
        exact walk a _ [] [] rfl ha (by decide +kernel) rfl (fun i y d h => by simp at h) (by simp)
      | no c =>
        obtain ⟨a, x1, rfl, ha, r1⟩ := repNo hx
        have hd' : dpC c + 1 < n + 1 := hd
        have hz' : szC c + 1 ≤ 1000 := hz
        refine walk a _ [x1] [c] rfl ha (by decide +kernel) rfl (fun i y d h1 h2 => ?_) (by simp [szC])
        match i, h1, h2 with
        | 0, h1, h2 => cases h1; cases h2; exact ⟨r1, hg, by omega, by omega⟩
        | i + 1, h1, h2 => simp at h1
      | an c d =>
        obtain ⟨a, x1, x2, rfl, ha, r1, r2⟩ := repAn hx
        have hd' : max (dpC c) (dpC d) + 1 < n + 1 := hd
        have hz' : szC c + szC d + 1 ≤ 1000 := hz
        refine walk a _ [x1, x2] [c, d] rfl ha (by decide +kernel) rfl (fun i y e h1 h2 => ?_) (by simp [szC])
        match i, h1, h2 with
        | 0, h1, h2 => cases h1; cases h2; exact ⟨r1, hg.1, by omega, by omega⟩
        | 1, h1, h2 => cases h1; cases h2; exact ⟨r2, hg.2, by omega, by omega⟩
        | i + 2, h1, h2 => simp at h1
      | oo c d =>
        obtain ⟨a, x1, x2, rfl, ha, r1, r2⟩ := repOo hx
        have hd' : max (dpC c) (dpC d) + 1 < n + 1 := hd
        have hz' : szC c + szC d + 1 ≤ 1000 := hz
        refine walk a _ [x1, x2] [c, d] rfl ha (by decide +kernel) rfl (fun i y e h1 h2 => ?_) (by simp [szC])
        match i, h1, h2 with
        | 0, h1, h2 => cases h1; cases h2; exact ⟨r1, hg.1, by omega, by omega⟩
        | 1, h1, h2 => cases h1; cases h2; exact ⟨r2, hg.2, by omega, by omega⟩
        | i + 2, h1, h2 => simp at h1
      | cmp o s t =>
        obtain ⟨a, x2, x3, rfl, ha, r2, r3⟩ := repCmp hx
        refine ⟨_, rfl, a, _, 0, _, rfl, rfl, ha, rfl, rfl, true, strB "compare" "compare" _ (by decide +kernel), ?_⟩
        refine ⟨_, rfl, 2, rfl, a, _, rfl, ha, fun q H1 s1 g1 => ?_⟩
        have g1 : SqT K H1 q [x2, x3] := g1
        refine ⟨q, rfl, ⟨_, g1⟩, fun D hD => ?_⟩
        refine lc_tup (K := K) (a := q) (xs := [x2, x3]) (fun i H' => ∃ ws : List V, H' D = some (.lst ws) ∧ ws.length ≤ i ∧ (∀ v ∈ ws, Sc v) ∧ Same H1 H') ⟨[], upd_same, Nat.le_refl _, fun _ h => absurd h (by simp), SD.Same.new hD⟩ (fun i H' _ ⟨_, _, _, _, s⟩ => SD.Same.seqT s g1) ?_ ?_
        · rintro i y H' hy ⟨ws, w1, w2, w3, w4⟩
          have il : i < 2 := (List.getElem?_eq_some_iff.mp hy).1
          obtain ⟨t', ry, hg'⟩ : ∃ t', Rep K H y (dT t') ∧ gT ls t' := by
            match i, hy with
            | 0, hy => cases hy; exact ⟨s, r2, hg.1⟩
            | 1, hy => cases hy; exact ⟨t, r3, hg.2⟩
            | i + 2, hy => simp at hy
          obtain ⟨ya, rfl, hya, hsy⟩ := repT ry
          have hya' := SD.Same.seqT (s1.trans w4) hya
          cases t' with
          | col l => exact ⟨rfl, _, rfl, ya, _, 0, _, rfl, rfl, hya', rfl, rfl, false, strB "column" "value" _ (by decide +kernel), ws, w1, by omega, w3, w4⟩
          | val v =>
            refine ⟨rfl, _, rfl, ya, _, 0, _, rfl, rfl, hya', rfl, rfl, true, strB "value" "value" _ (by decide +kernel), ?_⟩
            refine ⟨_, rfl, ya, _, 1, _, rfl, rfl, hya', rfl, ws, w1, small1000 (by omega), ws ++ [v], upd_same, by simp; omega, fun z hz => ?_, SD.Same.mut w4 hD⟩
            rcases List.mem_append.mp hz with h | h
            · exact w3 z h
            · rw [List.mem_singleton] at h; subst h; exact hg'
        · rintro H' ⟨ws, w1, w2, w3, w4⟩
          exact k D ws H' (s1.trans w4) (s1.free hD) w1 w3 (by simpa [szC] using w2)
end
end SD
namespace SD
open PySem L2
section
variable {P : Program} {w : World} {K : PySem.W.Frag} {mg : Str → Option Value} {base : Heap} {f : Addr} {fd : FuncData}
theorem sc__law_met_row : FnScope ["store", "columns", "values", "row", "column", "value"] ["store", "columns", "values"] (defScope st__law_met_row) := ⟨rfl, rfl, rfl, by decide +kernel, rfl, by decide +kernel, by decide +kernel⟩
theorem ok__law_met_row (F : Fun K "_law_met_row" "_law_met_row" st__law_met_row f fd) (T : Tx mg) (c__law_value : Cal P w K mg base "_law_value" 5 ["store"] spValue) (c__law_one : Cal P w K mg base "_law_one" 3 ["store", "row"] (spOne K)) (c__law_odds : Cal P w K mg base "_law_odds" 3 ["store", "many"] spOdds) : FnOk P w K mg base CX0 6 f fd ["store", "columns", "values"] (spMet K) := by
  refine F.ok sc__law_met_row (fun vs H Q E h => ?_) (fun cdv A outer s H vs Q E hr h => ?_)
  · obtain ⟨st, c, la, va, ls, ws, rfl, _⟩ := h
    rfl
  · obtain ⟨st, c, la, va, ls, ws, rfl, hS, nl, nv, hL, hV, ll, lw, hsc, k⟩ := h
    have h3 : Room 3 _ := hr.mono (by decide)
    refine ⟨_, (pss_cons (ps_set (i := 3) sc__law_met_row.nd rfl (Or.inl rfl) (pe_lst pa_nil)) (pss_cons (ps_for PassesOwn.never rfl (pi_list (pv 1)) (pg_name (i := 4) sc__law_met_row.nd rfl (Or.inl rfl)) (pss_cons (ps_set (i := 5) sc__law_met_row.nd rfl (Or.inl rfl) (pe_c c__law_value hr rfl (pa_cons (pv 0) pa_nil))) (pss_one (ps_expr (pe_bm PySem.F.plainAttrs_list PySem.F.slot_list_append PySem.F.type_list_append mt_append (pv 3) (pa_cons (pe_ifExp (pt_val (pe_c c__law_odds h3 rfl (pa_cons (pv 0) (pa_cons pe_int pa_nil)))) (pe_c c__law_one h3 rfl (pa_cons (pv 0) (pa_cons (pv 2) pa_nil))) (pv 5)) pa_nil)))))) (pss_one (ps_ret (pe_callTy call_tupX (by rfl) T.tup PyProof.Rows.boot_tuple (pa_cons (pv 3) pa_nil)))))), ?_⟩
    refine ⟨Nat.zero_le _, fun p hp => ?_⟩
    have np : p ≠ st := fun z => hS.st_some (by rw [← z]; exact hp)
    have e0 := (Ext.refl hS).new (o := .lst []) hp
    refine ⟨_, rfl, la, rfl, ⟨_, e0.seqL nl hL⟩, ?_⟩
    refine for_list (K := K) (a := la) (xs := ls) (fun i σ H' => ∃ (o4 o5 : Option V) (xs : List V), σ = [some (.ref st), some (.ref la), some (.ref va), some (.ref p), o4, o5] ∧ H' p = some (.lst xs) ∧ xs.length = i ∧ (∀ v ∈ xs, Sc v) ∧ Ext st c H H') ⟨none, none, [], rfl, upd_same, rfl, fun _ h => absurd h (by simp), e0⟩ (fun i σ H' _ ⟨_, _, _, _, _, _, _, e⟩ => e.seqL nl hL) ?_ ?_
    · rintro i y σ H1 hy ⟨o4, o5, xs, rfl, g1, g2, g3, g4⟩
      have il := (List.getElem?_eq_some_iff.mp hy).1
      refine ⟨_, rfl, st, c, rfl, g4.sto, fun v H2 e2 hv => ?_⟩
      have g12 := e2.keep _ _ np g1
      have e02 := g4.trans e2
      have add : ∀ (H3 : Hp) (v' : V), Ext st c H2 H3 → Sc v' → rAppend (.ref p) [v'] H3 (fun _ H1 => ∃ (o4 o5 : Option V) (xs : List V), [some (V.ref st), some (.ref la), some (.ref va), some (.ref p), some y, some v] = [some (.ref st), some (.ref la), some (.ref va), some (.ref p), o4, o5] ∧ H1 p = some (.lst xs) ∧ xs.length = i + 1 ∧ (∀ v ∈ xs, Sc v) ∧ Ext st c H H1) := by
        intro H3 v' e3 hv'
        refine ⟨p, xs, v', rfl, rfl, e3.keep _ _ np g12, small1000 (by omega), _, _, xs ++ [v'], rfl, upd_same, by simp [g2], fun z hz => ?_, (e02.trans e3).mut hS hp⟩
        rcases List.mem_append.mp hz with h | h
        · exact g3 z h
        · rw [List.mem_singleton] at h; subst h; exact hv'
      refine ⟨_, rfl, .inl ⟨rfl, _, SqL.of g12⟩, _, rfl, st, c, 2, rfl, e2.sto, by decide, fun bb H3 e3 => ⟨bb, rfl, ?_⟩⟩
      cases bb with
      | false => exact ⟨_, rfl, add H3 v e3 hv⟩
      | true =>
        refine ⟨_, rfl, _, rfl, st, c, va, ws, rfl, e3.sto, nv, .inl ((e02.trans e3).seqL nv hV), lw, fun z H4 e4 hz => add H4 z (e3.trans e4) ?_⟩
        rcases hz with ⟨_, h⟩ | h
        · rw [h]; trivial
        · exact hsc z h
    · rintro σ H1 ⟨o4, o5, xs, rfl, g1, g2, g3, g4⟩
      exact ⟨_, rfl, p, xs, rfl, .inl (SqL.of g1), fun q H2 s2 h2 => k q xs H2 (g4.same s2) h2 g2 g3⟩
end
end SD
namespace SD
open PySem L2
section
variable {P : Program} {w : World} {K : PySem.W.Frag} {mg : Str → Option Value} {base : Heap} {f : Addr} {fd : FuncData}
theorem sc_law : FnScope ["script", "store", "labels", "k", "condition", "due", "told", "values", "n", "row"] ["script"] (defScope st_law) := ⟨rfl, rfl, rfl, by decide +kernel, rfl, by decide +kernel, by decide +kernel⟩
theorem ok_law (F : Fun K "law" "law" st_law f fd) (T : Tx mg) (c_folded : Cal P w K mg base "folded" 66 ["condition"] (spFold K 40)) (c_holds : Cal P w K mg base "holds" 65 ["condition", "columns", "row"] (spHolds K 60)) (c__law_store : Cal P w K mg base "_law_store" 2 ["script"] (spStore K)) (c__law_take : Cal P w K mg base "_law_take" 2 ["store", "many"] spTake) (c__law_value : Cal P w K mg base "_law_value" 5 ["store"] spValue) (c__law_unlike_labels : Cal P w K mg base "_law_unlike_labels" 6 ["store", "many"] spUnlike)
    (c__law_same : Cal P w K mg base "_law_same" 22 ["left", "right"] (spLawSameX K 20)) (c__law_holds : Cal P w K mg base "_law_holds" 62 ["condition", "labels", "row"] (spLHolds K 60)) (c__law_constants : Cal P w K mg base "_law_constants" 61 ["condition"] (spConsts K 60)) (c__law_met_row : Cal P w K mg base "_law_met_row" 6 ["store", "columns", "values"] (spMet K)) (c__law_folding : Cal P w K mg base "_law_folding" 68 ["store", "labels"] (spFolding K)) (c__law_fold : Cal P w K mg base "_law_fold" 84 ["condition", "turned"] (spLFold K 20)) : FnOk P w K mg base CX0 85 f fd ["script"] (spLaw K) := by
  refine F.ok sc_law (fun vs H Q E h => ?_) (fun cdv A outer s H vs Q E hr h => ?_)
  · obtain ⟨a, ns, rfl, _⟩ := h
    rfl
  · obtain ⟨a, ns, rfl, hS, hl, k⟩ := h
    have h2 : Room 2 _ := hr.mono (by decide)
    have h5 : Room 5 _ := hr.mono (by decide)
    have h6 : Room 6 _ := hr.mono (by decide)
    have h22 : Room 22 _ := hr.mono (by decide)
    have h61 : Room 61 _ := hr.mono (by decide)
    have h62 : Room 62 _ := hr.mono (by decide)
    have h65 : Room 65 _ := hr.mono (by decide)
    have h66 : Room 66 _ := hr.mono (by decide)
    have h68 : Room 68 _ := hr.mono (by decide)
    refine ⟨_, (pss_cons (ps_set (i := 1) sc_law.nd rfl (Or.inl rfl) (pe_c c__law_store h2 rfl (pa_cons (pv 0) pa_nil))) (pss_cons (ps_set (i := 2) sc_law.nd rfl (Or.inl rfl) (pe_c c__law_unlike_labels h6 rfl (pa_cons (pv 1) (pa_cons (pe_op op_add pe_int (pe_c c__law_take h2 rfl (pa_cons (pv 1) (pa_cons pe_int pa_nil)))) pa_nil)))) (pss_cons (ps_for PassesOwn.never rfl (pi_range1 (by rfl) T.range (pa_cons pe_int pa_nil)) (pg_name (i := 3) sc_law.nd rfl (Or.inl rfl)) (pss_cons (ps_set (i := 4) sc_law.nd rfl (Or.inl rfl) (pe_c c__law_folding h68 rfl (pa_cons (pv 1) (pa_cons (pv 2) pa_nil)))) (pss_cons (ps_set (i := 5) sc_law.nd rfl (Or.inl rfl) (pe_c c__law_fold hr rfl (pa_cons (pv 4) (pa_cons pe_bl pa_nil)))) (pss_cons (ps_set (i := 6) sc_law.nd rfl (Or.inl rfl) (pe_c c_folded h66 rfl (pa_cons (pv 4) pa_nil))) (pss_cons (ps_if (PW.pt (pw_or (pt_not (pt_val (pe_c c__law_same h22 rfl (pa_cons (pv 5) (pa_cons (pv 6) pa_nil))))) (pw_or1 (pt_not (pt_val (pe_c c__law_same h22 rfl (pa_cons (pv 5) (pa_cons (pe_w c_folded h66 rfl (pk_cons (pv 6) pk_nil)) pa_nil)))))))) (pss_one (ps_ret pe_bl)) pss_nil) (pss_cons (ps_set (i := 7) sc_law.nd rfl (Or.inl rfl) (pe_op op_cat (pe_c c__law_constants h61 rfl (pa_cons (pv 4) pa_nil)) (pe_lst (pa_cons (pe_c c__law_value h5 rfl (pa_cons (pv 1) pa_nil)) pa_nil)))) (pss_one (ps_for PassesOwn.never rfl (pi_range1 (by rfl) T.range (pa_cons pe_int pa_nil)) (pg_name (i := 8) sc_law.nd rfl (Or.inl rfl)) (pss_cons (ps_set (i := 9) sc_law.nd rfl (Or.inl rfl) (pe_c c__law_met_row h6 rfl (pa_cons (pv 1) (pa_cons (pv 2) (pa_cons (pv 7) pa_nil))))) (pss_one (ps_if (pt_not (pt_val (pe_c c__law_same h22 rfl (pa_cons (pe_c c__law_holds h62 rfl (pa_cons (pv 4) (pa_cons (pv 2) (pa_cons (pv 9) pa_nil)))) (pa_cons (pe_c c_holds h65 rfl (pa_cons (pv 6) (pa_cons (pe_callTy call_tupF (by rfl) T.tup PyProof.Rows.boot_tuple (pa_cons (pv 2) pa_nil)) (pa_cons (pv 9) pa_nil)))) pa_nil))))) (pss_one (ps_ret pe_bl)) pss_nil))))))))))) (pss_one (ps_ret pe_bl))))), ?_⟩
    refine ⟨_, rfl, a, ns, rfl, hS, hl, fun st c H1 n1 n2 s1 hst => ?_⟩
    refine ⟨_, rfl, _, rfl, st, c, 4, rfl, hst, by decide, fun r H2 e2 r0 r1 => ⟨_, _, rfl, rfl, ?_⟩⟩
    refine ⟨st, c, 1 + r, rfl, e2.sto, by omega, by omega, fun la ls H3 e3 nla0 nla gla lla hlb => ?_⟩
    have h03 := e3.sto
    have hne : ls ≠ [] := fun z => by rw [z] at lla; simp at lla; omega
    have hlen : ls.length ≤ 1000 := by omega
    have hL : SqL K H3 la (ls.map V.str) := SqL.of gla
    refine ⟨3, rfl, by decide, by decide, ?_⟩
    refine for_range (lo := 0) (n := 3) (fun i σ H' => ∃ o3 o4 o5 o6 o7 o8 o9 : Option V, σ = [some (.ref a), some (.ref st), some (.ref la), o3, o4, o5, o6, o7, o8, o9] ∧ Ext st c H3 H') ⟨none, none, none, none, none, none, none, rfl, Ext.refl h03⟩ ?_ ?_
    · rintro i σ H4 hi ⟨o3, o4, o5, o6, o7, o8, o9, rfl, e4⟩
      refine ⟨_, rfl, _, rfl, st, c, la, ls, rfl, e4.sto, nla, e4.seqL nla hL, hne, hlen, fun x d H5 e5 rx hg z w => ?_⟩
      have e35 := e4.trans e5
      have ddx := dep_dC (foldC false d)
      have dfd := dp_foldC d false
      have lv1 := lv_dp d false
      have lv2 := lv_dp (foldC false d) false
      have sc : sameD (dC (foldC false d)) (dC (foldC false d)) = true := sameD_refl _
      refine ⟨_, rfl, x, d, false, rfl, rx, ⟨ls, hg⟩, by omega, by omega, fun y6 H6 s6 r6 => ?_⟩
      refine ⟨_, rfl, x, d, rfl, rx.same s6, by omega, by omega, fun y7 H7 s7 r7 => ?_⟩
      refine ⟨_, rfl, _, rfl, .inl ⟨y6, y7, _, _, rfl, r6.same s7, r7, by omega, fun H8 s8 => ⟨_, rfl, ?_⟩⟩⟩
      rw [sc]
      refine ⟨_, rfl, _, rfl, rfl, y7, foldC false d, rfl, r7.same s8, by omega, by omega, fun y9 H9 s9 r9 => ?_⟩
      rw [fold_fold] at r9
      refine .inl ⟨y6, y9, _, _, rfl, r6.same (s7.trans (s8.trans s9)), r9, by omega, fun H10 s10 => ⟨_, rfl, ?_⟩⟩
      rw [sc]
      have t10 := (s6.trans s7).trans ((s8.trans s9).trans s10)
      have rt := r7.same ((s8.trans s9).trans s10)
      have rx10 := rx.same t10
      have e10 := e35.same t10
      refine ⟨_, rfl, x, ls, d, rfl, rx10, hg, by omega, by omega, fun pc xc H11 s11 nc gc hc11 lc11 => ?_⟩
      have e11 := e10.same s11
      have npc : pc ≠ st := fun z => e10.sto.st_some (by rw [← z]; exact nc)
      refine ⟨_, rfl, st, c, rfl, e11.sto, fun v H12 e12 hv => ⟨leT, fun pl hpl => ?_⟩⟩
      have s12 := SD.Same.new (o := .lst [v]) hpl
      refine ⟨pc, pl, xc, [v], rfl, rfl, s12 _ _ (e12.keep _ _ npc gc), upd_same, Nat.le_trans (show xc.length + 1 ≤ 100000 by omega) (by decide), fun va hva => ?_⟩
      have s13 := SD.Same.new (o := .lst (xc ++ [v])) hva
      have eV : Ext st c H10 (upd (upd H12 pl (.lst [v])) va (.lst (xc ++ [v]))) := ((Ext.refl e10.sto).same s11).trans (e12.same (s12.trans s13))
      have nva : va ≠ st := fun z => (e12.same s12).sto.st_some (by rw [← z]; exact hva)
      have gva : (upd (upd H12 pl (.lst [v])) va (.lst (xc ++ [v]))) va = some (.lst (xc ++ [v])) := upd_same
      have hsv : ∀ z ∈ xc ++ [v], Sc z := fun z hz => (List.mem_append.mp hz).elim (hc11 z) fun h => by rw [List.mem_singleton] at h; subst h; exact hv
      have lva : (xc ++ [v]).length ≤ 1000 := by simp only [List.length_append, List.length_cons, List.length_nil]; omega
      generalize upd (upd H12 pl (.lst [v])) va (.lst (xc ++ [v])) = H13 at eV gva
      generalize xc ++ [v] = vals at gva hsv lva
      have rxV := rx10.ext e10.sto eV
      have rtV := rt.ext e10.sto eV
      have e3V := e10.trans eV
      refine ⟨3, rfl, by decide, by decide, ?_⟩
      refine for_range (lo := 0) (n := 3) (fun i' σ H' => ∃ p8 p9 : Option V, σ = [some (.ref a), some (.ref st), some (.ref la), some (.int (0 + (i : Int))), some x, some y6, some y7, some (.ref va), p8, p9] ∧ Ext st c H13 H') ⟨_, _, rfl, Ext.refl e3V.sto⟩ ?_ ?_
      · rintro j σ H14 hj ⟨p8, p9, rfl, e14⟩
        have e314 := e3V.trans e14
        refine ⟨_, rfl, _, rfl, _, rfl, st, c, la, va, ls.map V.str, vals, rfl, e14.sto, nla, nva, e314.seqL nla hL, SqL.of (e14.keep _ _ nva gva), by rw [List.length_map]; omega, by omega, hsv, fun pr ws H15 e15 hr15 lr hws => ?_⟩
        have lr' : ws.length = ls.length := by rw [lr, List.length_map]
        have e315 := e314.trans e15
        have e1315 := e14.trans e15
        refine ⟨_, rfl, _, rfl, _, rfl, x, d, la, pr, ls, ws, rfl, rxV.ext e3V.sto e1315, by omega, .inl (e315.seqL nla hL), hr15, hg, lr', hws, fun H16 s16 => ?_⟩
        have e316 := e315.same s16
        refine ⟨_, rfl, _, rfl, la, ls.map V.str, rfl, e316.seqL nla hL, fun q o hq ho => ?_⟩
        have sq := SD.Same.new (o := .frz o (.tup (ls.map V.str))) hq
        have fq : SqF (upd H16 q (.frz o (.tup (ls.map V.str)))) q (ls.map V.str) := ⟨o, upd_same, ho⟩
        have e17 := e1315.same (s16.trans sq)
        refine ⟨_, rfl, y7, foldC false d, q, pr, ls, ws, rfl, rtV.ext e3V.sto e17, by omega, fq, SD.Same.seqT (s16.trans sq) hr15, g_foldC d false hg, lr', hws, fun H18 s18 => ?_⟩
        have ev : evl ls ws (foldC false d) = evl ls ws d := by rw [evl_foldC lr' hws d false hg, Bool.xor_false]
        rw [ev]
        refine .inl ⟨_, _, .sc _, .sc _, rfl, .sc rfl, .sc rfl, by show 0 < 20; decide, fun H19 s19 => ⟨_, rfl, ?_⟩⟩
        rw [same_bl]
        exact ⟨_, _, rfl, e17.same (s18.trans s19)⟩
      · rintro σ H14 ⟨p8, p9, rfl, e14⟩
        exact ⟨_, _, _, _, _, _, _, rfl, e3V.trans e14⟩
    · rintro σ H4 ⟨o3, o4, o5, o6, o7, o8, o9, rfl, e4⟩
      exact k H4
end
end SD
namespace SD
open PySem L2
theorem all_mk {l : PySem.W.OpenLaw} {w : World} {K : PySem.W.Frag} {h : Heap} {mg : Str → Option Value} {fa f0  f1  f2  f3  f4  f5  f6  f7  f8  f9  f10  f11  f12  f13  f14  f15  f16  f17  f18  f19  f20  f21  f22  f23  f24  f25  f26  f27  f28  f29  f30  f31  f32  f33  f34  f35  f36  f37  f38 : Addr} (X : K.In h) (G : h.Ns mainGlobals mg) (hfa : mg "law" = some (.ref fa))
    {od0 an0 od1 an1 od2 an2 od3 an3 od4 an4 od5 an5 od6 an6 od7 an7 od8 an8 od9 an9 od10 an10 od11 an11 od12 an12 od13 an13 od14 an14 od15 an15 od16 an16 od17 an17 od18 an18 od19 an19 od20 an20 od21 an21 od22 an22 od23 an23 od24 an24 od25 an25 od26 an26 od27 an27 od28 an28 od29 an29 od30 an30 od31 an31 od32 an32 od33 an33 od34 an34 od35 an35 od36 an36 od37 an37 od38 an38 : Option Addr} {sl0 sl1 sl2 sl3 sl4 sl5 sl6 sl7 sl8 sl9 sl10 sl11 sl12 sl13 sl14 sl15 sl16 sl17 sl18 sl19 sl20 sl21 sl22 sl23 sl24 sl25 sl26 sl27 sl28 sl29 sl30 sl31 sl32 sl33 sl34 sl35 sl36 sl37 sl38 : Array (Option Value)} {oc0 kV0 dc0 pm0 cd0 ct0 oc1 kV1 dc1 pm1 cd1 ct1 oc2 kV2 dc2 pm2 cd2 ct2 oc3 kV3 dc3 pm3 cd3 ct3 oc4 kV4 dc4 pm4 cd4 ct4 oc5 kV5 dc5 pm5 cd5 ct5 oc6 kV6 dc6 pm6 cd6 ct6 oc7 kV7 dc7 pm7 cd7 ct7 oc8 kV8 dc8 pm8 cd8 ct8 oc9 kV9 dc9 pm9 cd9 ct9 oc10 kV10 dc10 pm10 cd10 ct10 oc11 kV11 dc11 pm11 cd11 ct11 oc12 kV12 dc12 pm12 cd12 ct12 oc13 kV13 dc13 pm13 cd13 ct13 oc14 kV14 dc14 pm14 cd14 ct14 oc15 kV15 dc15 pm15 cd15 ct15 oc16 kV16 dc16 pm16 cd16 ct16 oc17 kV17 dc17 pm17 cd17 ct17 oc18 kV18 dc18 pm18 cd18 ct18 oc19 kV19 dc19 pm19 cd19 ct19 oc20 kV20 dc20 pm20 cd20 ct20 oc21 kV21 dc21 pm21 cd21 ct21 oc22 kV22 dc22 pm22 cd22 ct22 oc23 kV23 dc23 pm23 cd23 ct23 oc24 kV24 dc24 pm24 cd24 ct24 oc25 kV25 dc25 pm25 cd25 ct25 oc26 kV26 dc26 pm26 cd26 ct26 oc27 kV27 dc27 pm27 cd27 ct27 oc28 kV28 dc28 pm28 cd28 ct28 oc29 kV29 dc29 pm29 cd29 ct29 oc30 kV30 dc30 pm30 cd30 ct30 oc31 kV31 dc31 pm31 cd31 ct31 oc32 kV32 dc32 pm32 cd32 ct32 oc33 kV33 dc33 pm33 cd33 ct33 oc34 kV34 dc34 pm34 cd34 ct34 oc35 kV35 dc35 pm35 cd35 ct35 oc36 kV36 dc36 pm36 cd36 ct36 oc37 kV37 dc37 pm37 cd37 ct37 oc38 kV38 dc38 pm38 cd38 ct38 : Value}
    (a0 : PySem.W.nsIn K mainGlobals "kind_of" = some (some (.ref f0))) (l0 : K.lookup f0 = some ⟨oc0, od0, .func (PySem.W.fnOf "kind_of" "kind_of" (defArgs st_kind_of) (defBody st_kind_of) (defScope st_kind_of) .none kV0 dc0 pm0 an0 cd0 ct0), sl0⟩) (c0 : PySem.W.codeIn K cd0 "kind_of" = true) (k0 : PySem.W.keepIn K (.ref f0) = true)
    (a1 : PySem.W.nsIn K mainGlobals "sort_key" = some (some (.ref f1))) (l1 : K.lookup f1 = some ⟨oc1, od1, .func (PySem.W.fnOf "sort_key" "sort_key" (defArgs st_sort_key) (defBody st_sort_key) (defScope st_sort_key) .none kV1 dc1 pm1 an1 cd1 ct1), sl1⟩) (c1 : PySem.W.codeIn K cd1 "sort_key" = true) (k1 : PySem.W.keepIn K (.ref f1) = true)
    (a2 : PySem.W.nsIn K mainGlobals "_order" = some (some (.ref f2))) (l2 : K.lookup f2 = some ⟨oc2, od2, .func (PySem.W.fnOf "_order" "_order" (defArgs st__order) (defBody st__order) (defScope st__order) .none kV2 dc2 pm2 an2 cd2 ct2), sl2⟩) (c2 : PySem.W.codeIn K cd2 "_order" = true) (k2 : PySem.W.keepIn K (.ref f2) = true)
    (a3 : PySem.W.nsIn K mainGlobals "compare" = some (some (.ref f3))) (l3 : K.lookup f3 = some ⟨oc3, od3, .func (PySem.W.fnOf "compare" "compare" (defArgs st_compare) (defBody st_compare) (defScope st_compare) .none kV3 dc3 pm3 an3 cd3 ct3), sl3⟩) (c3 : PySem.W.codeIn K cd3 "compare" = true) (k3 : PySem.W.keepIn K (.ref f3) = true)
    (a4 : PySem.W.nsIn K mainGlobals "same" = some (some (.ref f4))) (l4 : K.lookup f4 = some ⟨oc4, od4, .func (PySem.W.fnOf "same" "same" (defArgs st_same) (defBody st_same) (defScope st_same) .none kV4 dc4 pm4 an4 cd4 ct4), sl4⟩) (c4 : PySem.W.codeIn K cd4 "same" = true) (k4 : PySem.W.keepIn K (.ref f4) = true)
    (a5 : PySem.W.nsIn K mainGlobals "compared" = some (some (.ref f5))) (l5 : K.lookup f5 = some ⟨oc5, od5, .func (PySem.W.fnOf "compared" "compared" (defArgs st_compared) (defBody st_compared) (defScope st_compared) .none kV5 dc5 pm5 an5 cd5 ct5), sl5⟩) (c5 : PySem.W.codeIn K cd5 "compared" = true) (k5 : PySem.W.keepIn K (.ref f5) = true)
    (a6 : PySem.W.nsIn K mainGlobals "_worth" = some (some (.ref f6))) (l6 : K.lookup f6 = some ⟨oc6, od6, .func (PySem.W.fnOf "_worth" "_worth" (defArgs st__worth) (defBody st__worth) (defScope st__worth) .none kV6 dc6 pm6 an6 cd6 ct6), sl6⟩) (c6 : PySem.W.codeIn K cd6 "_worth" = true) (k6 : PySem.W.keepIn K (.ref f6) = true)
    (a7 : PySem.W.nsIn K mainGlobals "holds" = some (some (.ref f7))) (l7 : K.lookup f7 = some ⟨oc7, od7, .func (PySem.W.fnOf "holds" "holds" (defArgs st_holds) (defBody st_holds) (defScope st_holds) .none kV7 dc7 pm7 an7 cd7 ct7), sl7⟩) (c7 : PySem.W.codeIn K cd7 "holds" = true) (k7 : PySem.W.keepIn K (.ref f7) = true)
    (a8 : PySem.W.nsIn K mainGlobals "_constant" = some (some (.ref f8))) (l8 : K.lookup f8 = some ⟨oc8, od8, .func (PySem.W.fnOf "_constant" "_constant" (defArgs st__constant) (defBody st__constant) (defScope st__constant) .none kV8 dc8 pm8 an8 cd8 ct8), sl8⟩) (c8 : PySem.W.codeIn K cd8 "_constant" = true) (k8 : PySem.W.keepIn K (.ref f8) = true)
    (a9 : PySem.W.nsIn K mainGlobals "_flipped" = some (some (.ref f9))) (l9 : K.lookup f9 = some ⟨oc9, od9, .func (PySem.W.fnOf "_flipped" "_flipped" (defArgs st__flipped) (defBody st__flipped) (defScope st__flipped) .none kV9 dc9 pm9 an9 cd9 ct9), sl9⟩) (c9 : PySem.W.codeIn K cd9 "_flipped" = true) (k9 : PySem.W.keepIn K (.ref f9) = true)
    (a10 : PySem.W.nsIn K mainGlobals "_folded_comparison" = some (some (.ref f10))) (l10 : K.lookup f10 = some ⟨oc10, od10, .func (PySem.W.fnOf "_folded_comparison" "_folded_comparison" (defArgs st__folded_comparison) (defBody st__folded_comparison) (defScope st__folded_comparison) .none kV10 dc10 pm10 an10 cd10 ct10), sl10⟩) (c10 : PySem.W.codeIn K cd10 "_folded_comparison" = true) (k10 : PySem.W.keepIn K (.ref f10) = true)
    (a11 : PySem.W.nsIn K mainGlobals "_folded_pair" = some (some (.ref f11))) (l11 : K.lookup f11 = some ⟨oc11, od11, .func (PySem.W.fnOf "_folded_pair" "_folded_pair" (defArgs st__folded_pair) (defBody st__folded_pair) (defScope st__folded_pair) .none kV11 dc11 pm11 an11 cd11 ct11), sl11⟩) (c11 : PySem.W.codeIn K cd11 "_folded_pair" = true) (k11 : PySem.W.keepIn K (.ref f11) = true)
    (a12 : PySem.W.nsIn K mainGlobals "folded" = some (some (.ref f12))) (l12 : K.lookup f12 = some ⟨oc12, od12, .func (PySem.W.fnOf "folded" "folded" (defArgs st_folded) (defBody st_folded) (defScope st_folded) .none kV12 dc12 pm12 an12 cd12 ct12), sl12⟩) (c12 : PySem.W.codeIn K cd12 "folded" = true) (k12 : PySem.W.keepIn K (.ref f12) = true)
    (a13 : PySem.W.nsIn K mainGlobals "_folded_not" = some (some (.ref f13))) (l13 : K.lookup f13 = some ⟨oc13, od13, .func (PySem.W.fnOf "_folded_not" "_folded_not" (defArgs st__folded_not) (defBody st__folded_not) (defScope st__folded_not) .none kV13 dc13 pm13 an13 cd13 ct13), sl13⟩) (c13 : PySem.W.codeIn K cd13 "_folded_not" = true) (k13 : PySem.W.keepIn K (.ref f13) = true)
    (a14 : PySem.W.nsIn K mainGlobals "_law_mix" = some (some (.ref f14))) (l14 : K.lookup f14 = some ⟨oc14, od14, .func (PySem.W.fnOf "_law_mix" "_law_mix" (defArgs st__law_mix) (defBody st__law_mix) (defScope st__law_mix) .none kV14 dc14 pm14 an14 cd14 ct14), sl14⟩) (c14 : PySem.W.codeIn K cd14 "_law_mix" = true) (k14 : PySem.W.keepIn K (.ref f14) = true)
    (a15 : PySem.W.nsIn K mainGlobals "_law_store" = some (some (.ref f15))) (l15 : K.lookup f15 = some ⟨oc15, od15, .func (PySem.W.fnOf "_law_store" "_law_store" (defArgs st__law_store) (defBody st__law_store) (defScope st__law_store) .none kV15 dc15 pm15 an15 cd15 ct15), sl15⟩) (c15 : PySem.W.codeIn K cd15 "_law_store" = true) (k15 : PySem.W.keepIn K (.ref f15) = true)
    (a16 : PySem.W.nsIn K mainGlobals "_law_take" = some (some (.ref f16))) (l16 : K.lookup f16 = some ⟨oc16, od16, .func (PySem.W.fnOf "_law_take" "_law_take" (defArgs st__law_take) (defBody st__law_take) (defScope st__law_take) .none kV16 dc16 pm16 an16 cd16 ct16), sl16⟩) (c16 : PySem.W.codeIn K cd16 "_law_take" = true) (k16 : PySem.W.keepIn K (.ref f16) = true)
    (a17 : PySem.W.nsIn K mainGlobals "_law_odds" = some (some (.ref f17))) (l17 : K.lookup f17 = some ⟨oc17, od17, .func (PySem.W.fnOf "_law_odds" "_law_odds" (defArgs st__law_odds) (defBody st__law_odds) (defScope st__law_odds) .none kV17 dc17 pm17 an17 cd17 ct17), sl17⟩) (c17 : PySem.W.codeIn K cd17 "_law_odds" = true) (k17 : PySem.W.keepIn K (.ref f17) = true)
    (a18 : PySem.W.nsIn K mainGlobals "_law_count" = some (some (.ref f18))) (l18 : K.lookup f18 = some ⟨oc18, od18, .func (PySem.W.fnOf "_law_count" "_law_count" (defArgs st__law_count) (defBody st__law_count) (defScope st__law_count) .none kV18 dc18 pm18 an18 cd18 ct18), sl18⟩) (c18 : PySem.W.codeIn K cd18 "_law_count" = true) (k18 : PySem.W.keepIn K (.ref f18) = true)
    (a19 : PySem.W.nsIn K mainGlobals "_law_one" = some (some (.ref f19))) (l19 : K.lookup f19 = some ⟨oc19, od19, .func (PySem.W.fnOf "_law_one" "_law_one" (defArgs st__law_one) (defBody st__law_one) (defScope st__law_one) .none kV19 dc19 pm19 an19 cd19 ct19), sl19⟩) (c19 : PySem.W.codeIn K cd19 "_law_one" = true) (k19 : PySem.W.keepIn K (.ref f19) = true)
    (a20 : PySem.W.nsIn K mainGlobals "_law_number" = some (some (.ref f20))) (l20 : K.lookup f20 = some ⟨oc20, od20, .func (PySem.W.fnOf "_law_number" "_law_number" (defArgs st__law_number) (defBody st__law_number) (defScope st__law_number) .none kV20 dc20 pm20 an20 cd20 ct20), sl20⟩) (c20 : PySem.W.codeIn K cd20 "_law_number" = true) (k20 : PySem.W.keepIn K (.ref f20) = true)
    (a21 : PySem.W.nsIn K mainGlobals "_law_text" = some (some (.ref f21))) (l21 : K.lookup f21 = some ⟨oc21, od21, .func (PySem.W.fnOf "_law_text" "_law_text" (defArgs st__law_text) (defBody st__law_text) (defScope st__law_text) .none kV21 dc21 pm21 an21 cd21 ct21), sl21⟩) (c21 : PySem.W.codeIn K cd21 "_law_text" = true) (k21 : PySem.W.keepIn K (.ref f21) = true)
    (a22 : PySem.W.nsIn K mainGlobals "_law_value" = some (some (.ref f22))) (l22 : K.lookup f22 = some ⟨oc22, od22, .func (PySem.W.fnOf "_law_value" "_law_value" (defArgs st__law_value) (defBody st__law_value) (defScope st__law_value) .none kV22 dc22 pm22 an22 cd22 ct22), sl22⟩) (c22 : PySem.W.codeIn K cd22 "_law_value" = true) (k22 : PySem.W.keepIn K (.ref f22) = true)
    (a23 : PySem.W.nsIn K mainGlobals "_law_near" = some (some (.ref f23))) (l23 : K.lookup f23 = some ⟨oc23, od23, .func (PySem.W.fnOf "_law_near" "_law_near" (defArgs st__law_near) (defBody st__law_near) (defScope st__law_near) .none kV23 dc23 pm23 an23 cd23 ct23), sl23⟩) (c23 : PySem.W.codeIn K cd23 "_law_near" = true) (k23 : PySem.W.keepIn K (.ref f23) = true)
    (a24 : PySem.W.nsIn K mainGlobals "_law_name" = some (some (.ref f24))) (l24 : K.lookup f24 = some ⟨oc24, od24, .func (PySem.W.fnOf "_law_name" "_law_name" (defArgs st__law_name) (defBody st__law_name) (defScope st__law_name) .none kV24 dc24 pm24 an24 cd24 ct24), sl24⟩) (c24 : PySem.W.codeIn K cd24 "_law_name" = true) (k24 : PySem.W.keepIn K (.ref f24) = true)
    (a25 : PySem.W.nsIn K mainGlobals "_law_label" = some (some (.ref f25))) (l25 : K.lookup f25 = some ⟨oc25, od25, .func (PySem.W.fnOf "_law_label" "_law_label" (defArgs st__law_label) (defBody st__law_label) (defScope st__law_label) .none kV25 dc25 pm25 an25 cd25 ct25), sl25⟩) (c25 : PySem.W.codeIn K cd25 "_law_label" = true) (k25 : PySem.W.keepIn K (.ref f25) = true)
    (a26 : PySem.W.nsIn K mainGlobals "_law_same" = some (some (.ref f26))) (l26 : K.lookup f26 = some ⟨oc26, od26, .func (PySem.W.fnOf "_law_same" "_law_same" (defArgs st__law_same) (defBody st__law_same) (defScope st__law_same) .none kV26 dc26 pm26 an26 cd26 ct26), sl26⟩) (c26 : PySem.W.codeIn K cd26 "_law_same" = true) (k26 : PySem.W.keepIn K (.ref f26) = true)
    (a27 : PySem.W.nsIn K mainGlobals "_law_sort_key" = some (some (.ref f27))) (l27 : K.lookup f27 = some ⟨oc27, od27, .func (PySem.W.fnOf "_law_sort_key" "_law_sort_key" (defArgs st__law_sort_key) (defBody st__law_sort_key) (defScope st__law_sort_key) .none kV27 dc27 pm27 an27 cd27 ct27), sl27⟩) (c27 : PySem.W.codeIn K cd27 "_law_sort_key" = true) (k27 : PySem.W.keepIn K (.ref f27) = true)
    (a28 : PySem.W.nsIn K mainGlobals "_law_leaf" = some (some (.ref f28))) (l28 : K.lookup f28 = some ⟨oc28, od28, .func (PySem.W.fnOf "_law_leaf" "_law_leaf" (defArgs st__law_leaf) (defBody st__law_leaf) (defScope st__law_leaf) .none kV28 dc28 pm28 an28 cd28 ct28), sl28⟩) (c28 : PySem.W.codeIn K cd28 "_law_leaf" = true) (k28 : PySem.W.keepIn K (.ref f28) = true)
    (a29 : PySem.W.nsIn K mainGlobals "_law_condition" = some (some (.ref f29))) (l29 : K.lookup f29 = some ⟨oc29, od29, .func (PySem.W.fnOf "_law_condition" "_law_condition" (defArgs st__law_condition) (defBody st__law_condition) (defScope st__law_condition) .none kV29 dc29 pm29 an29 cd29 ct29), sl29⟩) (c29 : PySem.W.codeIn K cd29 "_law_condition" = true) (k29 : PySem.W.keepIn K (.ref f29) = true)
    (a30 : PySem.W.nsIn K mainGlobals "_law_worth" = some (some (.ref f30))) (l30 : K.lookup f30 = some ⟨oc30, od30, .func (PySem.W.fnOf "_law_worth" "_law_worth" (defArgs st__law_worth) (defBody st__law_worth) (defScope st__law_worth) .none kV30 dc30 pm30 an30 cd30 ct30), sl30⟩) (c30 : PySem.W.codeIn K cd30 "_law_worth" = true) (k30 : PySem.W.keepIn K (.ref f30) = true)
    (a31 : PySem.W.nsIn K mainGlobals "_law_holds" = some (some (.ref f31))) (l31 : K.lookup f31 = some ⟨oc31, od31, .func (PySem.W.fnOf "_law_holds" "_law_holds" (defArgs st__law_holds) (defBody st__law_holds) (defScope st__law_holds) .none kV31 dc31 pm31 an31 cd31 ct31), sl31⟩) (c31 : PySem.W.codeIn K cd31 "_law_holds" = true) (k31 : PySem.W.keepIn K (.ref f31) = true)
    (a32 : PySem.W.nsIn K mainGlobals "_law_folded_leaf" = some (some (.ref f32))) (l32 : K.lookup f32 = some ⟨oc32, od32, .func (PySem.W.fnOf "_law_folded_leaf" "_law_folded_leaf" (defArgs st__law_folded_leaf) (defBody st__law_folded_leaf) (defScope st__law_folded_leaf) .none kV32 dc32 pm32 an32 cd32 ct32), sl32⟩) (c32 : PySem.W.codeIn K cd32 "_law_folded_leaf" = true) (k32 : PySem.W.keepIn K (.ref f32) = true)
    (a33 : PySem.W.nsIn K mainGlobals "_law_fold" = some (some (.ref f33))) (l33 : K.lookup f33 = some ⟨oc33, od33, .func (PySem.W.fnOf "_law_fold" "_law_fold" (defArgs st__law_fold) (defBody st__law_fold) (defScope st__law_fold) .none kV33 dc33 pm33 an33 cd33 ct33), sl33⟩) (c33 : PySem.W.codeIn K cd33 "_law_fold" = true) (k33 : PySem.W.keepIn K (.ref f33) = true)
    (a34 : PySem.W.nsIn K mainGlobals "_law_folding" = some (some (.ref f34))) (l34 : K.lookup f34 = some ⟨oc34, od34, .func (PySem.W.fnOf "_law_folding" "_law_folding" (defArgs st__law_folding) (defBody st__law_folding) (defScope st__law_folding) .none kV34 dc34 pm34 an34 cd34 ct34), sl34⟩) (c34 : PySem.W.codeIn K cd34 "_law_folding" = true) (k34 : PySem.W.keepIn K (.ref f34) = true)
    (a35 : PySem.W.nsIn K mainGlobals "_law_unlike_labels" = some (some (.ref f35))) (l35 : K.lookup f35 = some ⟨oc35, od35, .func (PySem.W.fnOf "_law_unlike_labels" "_law_unlike_labels" (defArgs st__law_unlike_labels) (defBody st__law_unlike_labels) (defScope st__law_unlike_labels) .none kV35 dc35 pm35 an35 cd35 ct35), sl35⟩) (c35 : PySem.W.codeIn K cd35 "_law_unlike_labels" = true) (k35 : PySem.W.keepIn K (.ref f35) = true)
    (a36 : PySem.W.nsIn K mainGlobals "_law_constants" = some (some (.ref f36))) (l36 : K.lookup f36 = some ⟨oc36, od36, .func (PySem.W.fnOf "_law_constants" "_law_constants" (defArgs st__law_constants) (defBody st__law_constants) (defScope st__law_constants) .none kV36 dc36 pm36 an36 cd36 ct36), sl36⟩) (c36 : PySem.W.codeIn K cd36 "_law_constants" = true) (k36 : PySem.W.keepIn K (.ref f36) = true)
    (a37 : PySem.W.nsIn K mainGlobals "_law_met_row" = some (some (.ref f37))) (l37 : K.lookup f37 = some ⟨oc37, od37, .func (PySem.W.fnOf "_law_met_row" "_law_met_row" (defArgs st__law_met_row) (defBody st__law_met_row) (defScope st__law_met_row) .none kV37 dc37 pm37 an37 cd37 ct37), sl37⟩) (c37 : PySem.W.codeIn K cd37 "_law_met_row" = true) (k37 : PySem.W.keepIn K (.ref f37) = true)
    (a38 : PySem.W.nsIn K mainGlobals "law" = some (some (.ref f38))) (l38 : K.lookup f38 = some ⟨oc38, od38, .func (PySem.W.fnOf "law" "law" (defArgs st_law) (defBody st_law) (defScope st_law) .none kV38 dc38 pm38 an38 cd38 ct38), sl38⟩) (c38 : PySem.W.codeIn K cd38 "law" = true) (k38 : PySem.W.keepIn K (.ref f38) = true)
    (z0 : PySem.W.nsIn K mainGlobals "len" = some none) (z1 : PySem.W.nsIn K mainGlobals "int" = some none) (z2 : PySem.W.nsIn K mainGlobals "isinstance" = some none) (z3 : PySem.W.nsIn K mainGlobals "tuple" = some none) (z4 : PySem.W.nsIn K mainGlobals "list" = some none) (z5 : PySem.W.nsIn K mainGlobals "bool" = some none) (z6 : PySem.W.nsIn K mainGlobals "str" = some none) (z7 : PySem.W.nsIn K mainGlobals "dict" = some none) (z8 : PySem.W.nsIn K mainGlobals "range" = some none) (z9 : PySem.W.nsIn K mainGlobals "min" = some none) (z10 : PySem.W.nsIn K mainGlobals "zip" = some none) (z11 : PySem.W.nsIn K mainGlobals "sorted" = some none) (z12 : PySem.W.nsIn K mainGlobals "sum" = some none) (z13 : PySem.W.nsIn K mainGlobals "max" = some none) (z14 : PySem.W.nsIn K mainGlobals "reversed" = some none)
    {xd0 : Addr} {xes0 : Array DictEntry} {xnn0 : Nat} {xt0_0 xt0_1 xt0_2 xt0_3 xt0_4 xt0_5 : Tok}
    (xa0 : PySem.W.nsIn K mainGlobals "FLIPPED" = some (some (.ref xd0))) (xl0 : K.lookup xd0 = some ⟨.type "dict", none, .dict xes0 xnn0, #[]⟩) (xk0 : PySem.W.KeysLit w.params xes0.toList)
    (xe0_0 : PySem.W.nsIn K xd0 "=" = some (some (.str "=" xt0_0))) (xe0_1 : PySem.W.nsIn K xd0 "!=" = some (some (.str "!=" xt0_1))) (xe0_2 : PySem.W.nsIn K xd0 "<" = some (some (.str ">" xt0_2))) (xe0_3 : PySem.W.nsIn K xd0 "<=" = some (some (.str ">=" xt0_3))) (xe0_4 : PySem.W.nsIn K xd0 ">" = some (some (.str "<" xt0_4))) (xe0_5 : PySem.W.nsIn K xd0 ">=" = some (some (.str "<=" xt0_5)))
    {xd1 : Addr} {xes1 : Array DictEntry} {xnn1 : Nat} {xt1_0 xt1_1 xt1_2 xt1_3 xt1_4 xt1_5 : Tok}
    (xa1 : PySem.W.nsIn K mainGlobals "OPPOSITE" = some (some (.ref xd1))) (xl1 : K.lookup xd1 = some ⟨.type "dict", none, .dict xes1 xnn1, #[]⟩) (xk1 : PySem.W.KeysLit w.params xes1.toList)
    (xe1_0 : PySem.W.nsIn K xd1 "=" = some (some (.str "!=" xt1_0))) (xe1_1 : PySem.W.nsIn K xd1 "!=" = some (some (.str "=" xt1_1))) (xe1_2 : PySem.W.nsIn K xd1 "<" = some (some (.str ">=" xt1_2))) (xe1_3 : PySem.W.nsIn K xd1 "<=" = some (some (.str ">" xt1_3))) (xe1_4 : PySem.W.nsIn K xd1 ">" = some (some (.str "<=" xt1_4))) (xe1_5 : PySem.W.nsIn K xd1 ">=" = some (some (.str "<" xt1_5))) :
    ∃ fd : FuncData, (∀ (s : Shared) (v : Value), BindsTo s fd ⟨[v], []⟩ [("script", v)]) ∧ ∀ base : Heap, K.In base → base.Ns mainGlobals mg → FnOk l.prog w K mg base CX0 85 fa fd ["script"] (spLaw K) := by
  have e := hfa.symm.trans (PySem.W.mg_of X G a38)
  cases e
  have T : Tx mg := ⟨PySem.W.mg_none_of X G z0, PySem.W.mg_none_of X G z1, PySem.W.mg_none_of X G z2, PySem.W.mg_none_of X G z3, PySem.W.mg_none_of X G z4, PySem.W.mg_none_of X G z5, PySem.W.mg_none_of X G z6, PySem.W.mg_none_of X G z7, PySem.W.mg_none_of X G z8, PySem.W.mg_none_of X G z9, PySem.W.mg_none_of X G z10, PySem.W.mg_none_of X G z11, PySem.W.mg_none_of X G z12, PySem.W.mg_none_of X G z13, PySem.W.mg_none_of X G z14⟩
  have DFL : DF K w mg "FLIPPED" flp := ⟨xd0, PySem.W.mg_of X G xa0, fun o => match o with | .eq => ⟨_, _, _, xl0, xk0, xe0_0, ⟨_, rfl⟩⟩ | .ne => ⟨_, _, _, xl0, xk0, xe0_1, ⟨_, rfl⟩⟩ | .lt => ⟨_, _, _, xl0, xk0, xe0_2, ⟨_, rfl⟩⟩ | .le => ⟨_, _, _, xl0, xk0, xe0_3, ⟨_, rfl⟩⟩ | .gt => ⟨_, _, _, xl0, xk0, xe0_4, ⟨_, rfl⟩⟩ | .ge => ⟨_, _, _, xl0, xk0, xe0_5, ⟨_, rfl⟩⟩⟩
  have DOP : DF K w mg "OPPOSITE" opp := ⟨xd1, PySem.W.mg_of X G xa1, fun o => match o with | .eq => ⟨_, _, _, xl1, xk1, xe1_0, ⟨_, rfl⟩⟩ | .ne => ⟨_, _, _, xl1, xk1, xe1_1, ⟨_, rfl⟩⟩ | .lt => ⟨_, _, _, xl1, xk1, xe1_2, ⟨_, rfl⟩⟩ | .le => ⟨_, _, _, xl1, xk1, xe1_3, ⟨_, rfl⟩⟩ | .gt => ⟨_, _, _, xl1, xk1, xe1_4, ⟨_, rfl⟩⟩ | .ge => ⟨_, _, _, xl1, xk1, xe1_5, ⟨_, rfl⟩⟩⟩
  have F_kind_of := fun_mk (st := st_kind_of) l0 c0 k0
  have m_kind_of := PySem.W.mg_of X G a0
  have b_kind_of := F_kind_of.binds (ps := ["value"]) fun _ _ _ _ _ _ us hl => match us, hl with | [_], _ => rfl
  have q_kind_of : BK "kind_of" st_kind_of ["value"] := fun _ _ _ _ _ _ us hl => match us, hl with | [_], _ => rfl
  have F_sort_key := fun_mk (st := st_sort_key) l1 c1 k1
  have m_sort_key := PySem.W.mg_of X G a1
  have b_sort_key := F_sort_key.binds (ps := ["value"]) fun _ _ _ _ _ _ us hl => match us, hl with | [_], _ => rfl
  have q_sort_key : BK "sort_key" st_sort_key ["value"] := fun _ _ _ _ _ _ us hl => match us, hl with | [_], _ => rfl
  have F__order := fun_mk (st := st__order) l2 c2 k2
  have m__order := PySem.W.mg_of X G a2
  have b__order := F__order.binds (ps := ["left", "right"]) fun _ _ _ _ _ _ us hl => match us, hl with | [_, _], _ => rfl
  have q__order : BK "_order" st__order ["left", "right"] := fun _ _ _ _ _ _ us hl => match us, hl with | [_, _], _ => rfl
  have F_compare := fun_mk (st := st_compare) l3 c3 k3
  have m_compare := PySem.W.mg_of X G a3
  have b_compare := F_compare.binds (ps := ["left", "right"]) fun _ _ _ _ _ _ us hl => match us, hl with | [_, _], _ => rfl
  have q_compare : BK "compare" st_compare ["left", "right"] := fun _ _ _ _ _ _ us hl => match us, hl with | [_, _], _ => rfl
  have F_same := fun_mk (st := st_same) l4 c4 k4
  have m_same := PySem.W.mg_of X G a4
  have b_same := F_same.binds (ps := ["left", "right"]) fun _ _ _ _ _ _ us hl => match us, hl with | [_, _], _ => rfl
  have q_same : BK "same" st_same ["left", "right"] := fun _ _ _ _ _ _ us hl => match us, hl with | [_, _], _ => rfl
  have F_compared := fun_mk (st := st_compared) l5 c5 k5
  have m_compared := PySem.W.mg_of X G a5
  have b_compared := F_compared.binds (ps := ["op", "left", "right"]) fun _ _ _ _ _ _ us hl => match us, hl with | [_, _, _], _ => rfl
  have q_compared : BK "compared" st_compared ["op", "left", "right"] := fun _ _ _ _ _ _ us hl => match us, hl with | [_, _, _], _ => rfl
  have F__worth := fun_mk (st := st__worth) l6 c6 k6
  have m__worth := PySem.W.mg_of X G a6
  have b__worth := F__worth.binds (ps := ["term", "columns", "row"]) fun _ _ _ _ _ _ us hl => match us, hl with | [_, _, _], _ => rfl
  have q__worth : BK "_worth" st__worth ["term", "columns", "row"] := fun _ _ _ _ _ _ us hl => match us, hl with | [_, _, _], _ => rfl
  have F_holds := fun_mk (st := st_holds) l7 c7 k7
  have m_holds := PySem.W.mg_of X G a7
  have b_holds := F_holds.binds (ps := ["condition", "columns", "row"]) fun _ _ _ _ _ _ us hl => match us, hl with | [_, _, _], _ => rfl
  have q_holds : BK "holds" st_holds ["condition", "columns", "row"] := fun _ _ _ _ _ _ us hl => match us, hl with | [_, _, _], _ => rfl
  have F__constant := fun_mk (st := st__constant) l8 c8 k8
  have m__constant := PySem.W.mg_of X G a8
  have b__constant := F__constant.binds (ps := ["truth"]) fun _ _ _ _ _ _ us hl => match us, hl with | [_], _ => rfl
  have q__constant : BK "_constant" st__constant ["truth"] := fun _ _ _ _ _ _ us hl => match us, hl with | [_], _ => rfl
  have F__flipped := fun_mk (st := st__flipped) l9 c9 k9
  have m__flipped := PySem.W.mg_of X G a9
  have b__flipped := F__flipped.binds (ps := ["condition"]) fun _ _ _ _ _ _ us hl => match us, hl with | [_], _ => rfl
  have q__flipped : BK "_flipped" st__flipped ["condition"] := fun _ _ _ _ _ _ us hl => match us, hl with | [_], _ => rfl
  have F__folded_comparison := fun_mk (st := st__folded_comparison) l10 c10 k10
  have m__folded_comparison := PySem.W.mg_of X G a10
  have b__folded_comparison := F__folded_comparison.binds (ps := ["condition"]) fun _ _ _ _ _ _ us hl => match us, hl with | [_], _ => rfl
  have q__folded_comparison : BK "_folded_comparison" st__folded_comparison ["condition"] := fun _ _ _ _ _ _ us hl => match us, hl with | [_], _ => rfl
  have F__folded_pair := fun_mk (st := st__folded_pair) l11 c11 k11
  have m__folded_pair := PySem.W.mg_of X G a11
  have b__folded_pair := F__folded_pair.binds (ps := ["word", "left", "right", "idle", "final"]) fun _ _ _ _ _ _ us hl => match us, hl with | [_, _, _, _, _], _ => rfl
  have q__folded_pair : BK "_folded_pair" st__folded_pair ["word", "left", "right", "idle", "final"] := fun _ _ _ _ _ _ us hl => match us, hl with | [_, _, _, _, _], _ => rfl
  have F_folded := fun_mk (st := st_folded) l12 c12 k12
  have m_folded := PySem.W.mg_of X G a12
  have b_folded := F_folded.binds (ps := ["condition"]) fun _ _ _ _ _ _ us hl => match us, hl with | [_], _ => rfl
  have q_folded : BK "folded" st_folded ["condition"] := fun _ _ _ _ _ _ us hl => match us, hl with | [_], _ => rfl
  have F__folded_not := fun_mk (st := st__folded_not) l13 c13 k13
  have m__folded_not := PySem.W.mg_of X G a13
  have b__folded_not := F__folded_not.binds (ps := ["condition"]) fun _ _ _ _ _ _ us hl => match us, hl with | [_], _ => rfl
  have q__folded_not : BK "_folded_not" st__folded_not ["condition"] := fun _ _ _ _ _ _ us hl => match us, hl with | [_], _ => rfl
  have F__law_mix := fun_mk (st := st__law_mix) l14 c14 k14
  have m__law_mix := PySem.W.mg_of X G a14
  have b__law_mix := F__law_mix.binds (ps := ["number", "turn"]) fun _ _ _ _ _ _ us hl => match us, hl with | [_, _], _ => rfl
  have q__law_mix : BK "_law_mix" st__law_mix ["number", "turn"] := fun _ _ _ _ _ _ us hl => match us, hl with | [_, _], _ => rfl
  have F__law_store := fun_mk (st := st__law_store) l15 c15 k15
  have m__law_store := PySem.W.mg_of X G a15
  have b__law_store := F__law_store.binds (ps := ["script"]) fun _ _ _ _ _ _ us hl => match us, hl with | [_], _ => rfl
  have q__law_store : BK "_law_store" st__law_store ["script"] := fun _ _ _ _ _ _ us hl => match us, hl with | [_], _ => rfl
  have F__law_take := fun_mk (st := st__law_take) l16 c16 k16
  have m__law_take := PySem.W.mg_of X G a16
  have b__law_take := F__law_take.binds (ps := ["store", "many"]) fun _ _ _ _ _ _ us hl => match us, hl with | [_, _], _ => rfl
  have q__law_take : BK "_law_take" st__law_take ["store", "many"] := fun _ _ _ _ _ _ us hl => match us, hl with | [_, _], _ => rfl
  have F__law_odds := fun_mk (st := st__law_odds) l17 c17 k17
  have m__law_odds := PySem.W.mg_of X G a17
  have b__law_odds := F__law_odds.binds (ps := ["store", "many"]) fun _ _ _ _ _ _ us hl => match us, hl with | [_, _], _ => rfl
  have q__law_odds : BK "_law_odds" st__law_odds ["store", "many"] := fun _ _ _ _ _ _ us hl => match us, hl with | [_, _], _ => rfl
  have F__law_count := fun_mk (st := st__law_count) l18 c18 k18
  have m__law_count := PySem.W.mg_of X G a18
  have b__law_count := F__law_count.binds (ps := ["store", "least", "usual", "most"]) fun _ _ _ _ _ _ us hl => match us, hl with | [_, _, _, _], _ => rfl
  have q__law_count : BK "_law_count" st__law_count ["store", "least", "usual", "most"] := fun _ _ _ _ _ _ us hl => match us, hl with | [_, _, _, _], _ => rfl
  have F__law_one := fun_mk (st := st__law_one) l19 c19 k19
  have m__law_one := PySem.W.mg_of X G a19
  have b__law_one := F__law_one.binds (ps := ["store", "row"]) fun _ _ _ _ _ _ us hl => match us, hl with | [_, _], _ => rfl
  have q__law_one : BK "_law_one" st__law_one ["store", "row"] := fun _ _ _ _ _ _ us hl => match us, hl with | [_, _], _ => rfl
  have F__law_number := fun_mk (st := st__law_number) l20 c20 k20
  have m__law_number := PySem.W.mg_of X G a20
  have b__law_number := F__law_number.binds (ps := ["store"]) fun _ _ _ _ _ _ us hl => match us, hl with | [_], _ => rfl
  have q__law_number : BK "_law_number" st__law_number ["store"] := fun _ _ _ _ _ _ us hl => match us, hl with | [_], _ => rfl
  have F__law_text := fun_mk (st := st__law_text) l21 c21 k21
  have m__law_text := PySem.W.mg_of X G a21
  have b__law_text := F__law_text.binds (ps := ["store", "most"]) fun _ _ _ _ _ _ us hl => match us, hl with | [_, _], _ => rfl
  have q__law_text : BK "_law_text" st__law_text ["store", "most"] := fun _ _ _ _ _ _ us hl => match us, hl with | [_, _], _ => rfl
  have F__law_value := fun_mk (st := st__law_value) l22 c22 k22
  have m__law_value := PySem.W.mg_of X G a22
  have b__law_value := F__law_value.binds (ps := ["store"]) fun _ _ _ _ _ _ us hl => match us, hl with | [_], _ => rfl
  have q__law_value : BK "_law_value" st__law_value ["store"] := fun _ _ _ _ _ _ us hl => match us, hl with | [_], _ => rfl
  have F__law_near := fun_mk (st := st__law_near) l23 c23 k23
  have m__law_near := PySem.W.mg_of X G a23
  have b__law_near := F__law_near.binds (ps := ["store", "row"]) fun _ _ _ _ _ _ us hl => match us, hl with | [_, _], _ => rfl
  have q__law_near : BK "_law_near" st__law_near ["store", "row"] := fun _ _ _ _ _ _ us hl => match us, hl with | [_, _], _ => rfl
  have F__law_name := fun_mk (st := st__law_name) l24 c24 k24
  have m__law_name := PySem.W.mg_of X G a24
  have b__law_name := F__law_name.binds (ps := ["store", "taken"]) fun _ _ _ _ _ _ us hl => match us, hl with | [_, _], _ => rfl
  have q__law_name : BK "_law_name" st__law_name ["store", "taken"] := fun _ _ _ _ _ _ us hl => match us, hl with | [_, _], _ => rfl
  have F__law_label := fun_mk (st := st__law_label) l25 c25 k25
  have m__law_label := PySem.W.mg_of X G a25
  have b__law_label := F__law_label.binds (ps := ["store", "taken"]) fun _ _ _ _ _ _ us hl => match us, hl with | [_, _], _ => rfl
  have q__law_label : BK "_law_label" st__law_label ["store", "taken"] := fun _ _ _ _ _ _ us hl => match us, hl with | [_, _], _ => rfl
  have F__law_same := fun_mk (st := st__law_same) l26 c26 k26
  have m__law_same := PySem.W.mg_of X G a26
  have b__law_same := F__law_same.binds (ps := ["left", "right"]) fun _ _ _ _ _ _ us hl => match us, hl with | [_, _], _ => rfl
  have q__law_same : BK "_law_same" st__law_same ["left", "right"] := fun _ _ _ _ _ _ us hl => match us, hl with | [_, _], _ => rfl
  have F__law_sort_key := fun_mk (st := st__law_sort_key) l27 c27 k27
  have m__law_sort_key := PySem.W.mg_of X G a27
  have b__law_sort_key := F__law_sort_key.binds (ps := ["value"]) fun _ _ _ _ _ _ us hl => match us, hl with | [_], _ => rfl
  have q__law_sort_key : BK "_law_sort_key" st__law_sort_key ["value"] := fun _ _ _ _ _ _ us hl => match us, hl with | [_], _ => rfl
  have F__law_leaf := fun_mk (st := st__law_leaf) l28 c28 k28
  have m__law_leaf := PySem.W.mg_of X G a28
  have b__law_leaf := F__law_leaf.binds (ps := ["store", "labels"]) fun _ _ _ _ _ _ us hl => match us, hl with | [_, _], _ => rfl
  have q__law_leaf : BK "_law_leaf" st__law_leaf ["store", "labels"] := fun _ _ _ _ _ _ us hl => match us, hl with | [_, _], _ => rfl
  have F__law_condition := fun_mk (st := st__law_condition) l29 c29 k29
  have m__law_condition := PySem.W.mg_of X G a29
  have b__law_condition := F__law_condition.binds (ps := ["store", "labels", "nodes", "deep"]) fun _ _ _ _ _ _ us hl => match us, hl with | [_, _, _, _], _ => rfl
  have q__law_condition : BK "_law_condition" st__law_condition ["store", "labels", "nodes", "deep"] := fun _ _ _ _ _ _ us hl => match us, hl with | [_, _, _, _], _ => rfl
  have F__law_worth := fun_mk (st := st__law_worth) l30 c30 k30
  have m__law_worth := PySem.W.mg_of X G a30
  have b__law_worth := F__law_worth.binds (ps := ["term", "labels", "row"]) fun _ _ _ _ _ _ us hl => match us, hl with | [_, _, _], _ => rfl
  have q__law_worth : BK "_law_worth" st__law_worth ["term", "labels", "row"] := fun _ _ _ _ _ _ us hl => match us, hl with | [_, _, _], _ => rfl
  have F__law_holds := fun_mk (st := st__law_holds) l31 c31 k31
  have m__law_holds := PySem.W.mg_of X G a31
  have b__law_holds := F__law_holds.binds (ps := ["condition", "labels", "row"]) fun _ _ _ _ _ _ us hl => match us, hl with | [_, _, _], _ => rfl
  have q__law_holds : BK "_law_holds" st__law_holds ["condition", "labels", "row"] := fun _ _ _ _ _ _ us hl => match us, hl with | [_, _, _], _ => rfl
  have F__law_folded_leaf := fun_mk (st := st__law_folded_leaf) l32 c32 k32
  have m__law_folded_leaf := PySem.W.mg_of X G a32
  have b__law_folded_leaf := F__law_folded_leaf.binds (ps := ["condition", "turned"]) fun _ _ _ _ _ _ us hl => match us, hl with | [_, _], _ => rfl
  have q__law_folded_leaf : BK "_law_folded_leaf" st__law_folded_leaf ["condition", "turned"] := fun _ _ _ _ _ _ us hl => match us, hl with | [_, _], _ => rfl
  have F__law_fold := fun_mk (st := st__law_fold) l33 c33 k33
  have m__law_fold := PySem.W.mg_of X G a33
  have b__law_fold := F__law_fold.binds (ps := ["condition", "turned"]) fun _ _ _ _ _ _ us hl => match us, hl with | [_, _], _ => rfl
  have q__law_fold : BK "_law_fold" st__law_fold ["condition", "turned"] := fun _ _ _ _ _ _ us hl => match us, hl with | [_, _], _ => rfl
  have F__law_folding := fun_mk (st := st__law_folding) l34 c34 k34
  have m__law_folding := PySem.W.mg_of X G a34
  have b__law_folding := F__law_folding.binds (ps := ["store", "labels"]) fun _ _ _ _ _ _ us hl => match us, hl with | [_, _], _ => rfl
  have q__law_folding : BK "_law_folding" st__law_folding ["store", "labels"] := fun _ _ _ _ _ _ us hl => match us, hl with | [_, _], _ => rfl
  have F__law_unlike_labels := fun_mk (st := st__law_unlike_labels) l35 c35 k35
  have m__law_unlike_labels := PySem.W.mg_of X G a35
  have b__law_unlike_labels := F__law_unlike_labels.binds (ps := ["store", "many"]) fun _ _ _ _ _ _ us hl => match us, hl with | [_, _], _ => rfl
  have q__law_unlike_labels : BK "_law_unlike_labels" st__law_unlike_labels ["store", "many"] := fun _ _ _ _ _ _ us hl => match us, hl with | [_, _], _ => rfl
  have F__law_constants := fun_mk (st := st__law_constants) l36 c36 k36
  have m__law_constants := PySem.W.mg_of X G a36
  have b__law_constants := F__law_constants.binds (ps := ["condition"]) fun _ _ _ _ _ _ us hl => match us, hl with | [_], _ => rfl
  have q__law_constants : BK "_law_constants" st__law_constants ["condition"] := fun _ _ _ _ _ _ us hl => match us, hl with | [_], _ => rfl
  have F__law_met_row := fun_mk (st := st__law_met_row) l37 c37 k37
  have m__law_met_row := PySem.W.mg_of X G a37
  have b__law_met_row := F__law_met_row.binds (ps := ["store", "columns", "values"]) fun _ _ _ _ _ _ us hl => match us, hl with | [_, _, _], _ => rfl
  have q__law_met_row : BK "_law_met_row" st__law_met_row ["store", "columns", "values"] := fun _ _ _ _ _ _ us hl => match us, hl with | [_, _, _], _ => rfl
  have F_law := fun_mk (st := st_law) l38 c38 k38
  refine ⟨PySem.W.fnOf "law" "law" (defArgs st_law) (defBody st_law) (defScope st_law) .none kV38 dc38 pm38 an38 cd38 ct38, fun s v => .of_eq rfl, fun base _ _ => ?_⟩
  have c_kind_of : Cal l.prog w K mg base "kind_of" 1 ["value"] spKind := cal_of F_kind_of m_kind_of b_kind_of q_kind_of (ok_kind_of F_kind_of T)
  have c_sort_key : Cal l.prog w K mg base "sort_key" 2 ["value"] spKey := cal_of F_sort_key m_sort_key b_sort_key q_sort_key (ok_sort_key F_sort_key T c_kind_of)
  have c__order : Cal l.prog w K mg base "_order" 1 ["left", "right"] (spOrder K) := cal_of F__order m__order b__order q__order (ok__order F__order )
  have c_compare : Cal l.prog w K mg base "compare" 3 ["left", "right"] spCompare := cal_of F_compare m_compare b_compare q_compare (ok_compare F_compare c_sort_key c__order)
  have c_same : Cal l.prog w K mg base "same" 24 ["left", "right"] (spSame K 20) := cal_of F_same m_same b_same q_same (ok_same F_same T m_same b_same q_same c_sort_key 20)
  have c_compared : Cal l.prog w K mg base "compared" 4 ["op", "left", "right"] spCompared := cal_of F_compared m_compared b_compared q_compared (ok_compared F_compared c_compare)
  have c__worth : Cal l.prog w K mg base "_worth" 1 ["term", "columns", "row"] (spWorth K) := cal_of F__worth m__worth b__worth q__worth (ok__worth F__worth )
  have c_holds : Cal l.prog w K mg base "holds" 65 ["condition", "columns", "row"] (spHolds K 60) := cal_of F_holds m_holds b_holds q_holds (ok_holds F_holds m_holds b_holds q_holds c_compared c__worth 60)
  have c__constant : Cal l.prog w K mg base "_constant" 1 ["truth"] (spCst K) := cal_of F__constant m__constant b__constant q__constant (ok__constant F__constant )
  have c__flipped : Cal l.prog w K mg base "_flipped" 1 ["condition"] (spFlip K) := cal_of F__flipped m__flipped b__flipped q__flipped (ok__flipped F__flipped DFL)
  have c__folded_comparison : Cal l.prog w K mg base "_folded_comparison" 5 ["condition"] (spFoldCmp K) := cal_of F__folded_comparison m__folded_comparison b__folded_comparison q__folded_comparison (ok__folded_comparison F__folded_comparison c_compared c__constant c__flipped)
  have c__folded_pair : Cal l.prog w K mg base "_folded_pair" 25 ["word", "left", "right", "idle", "final"] (spPair K) := cal_of F__folded_pair m__folded_pair b__folded_pair q__folded_pair (ok__folded_pair F__folded_pair c_same)
  have c_folded : Cal l.prog w K mg base "folded" 66 ["condition"] (spFold K 40) := cal_of F_folded m_folded b_folded q_folded ((ok_folds F_folded F__folded_not m_folded b_folded q_folded m__folded_not b__folded_not q__folded_not DOP c__folded_comparison c__constant c__folded_pair 40).1)
  have c__folded_not : Cal l.prog w K mg base "_folded_not" 66 ["condition"] (spFoldNot K 40) := cal_of F__folded_not m__folded_not b__folded_not q__folded_not ((ok_folds F_folded F__folded_not m_folded b_folded q_folded m__folded_not b__folded_not q__folded_not DOP c__folded_comparison c__constant c__folded_pair 40).2)
  have c__law_mix : Cal l.prog w K mg base "_law_mix" 1 ["number", "turn"] spMix := cal_of F__law_mix m__law_mix b__law_mix q__law_mix (ok__law_mix F__law_mix T)
  have c__law_store : Cal l.prog w K mg base "_law_store" 2 ["script"] (spStore K) := cal_of F__law_store m__law_store b__law_store q__law_store (ok__law_store F__law_store T c__law_mix)
  have c__law_take : Cal l.prog w K mg base "_law_take" 2 ["store", "many"] spTake := cal_of F__law_take m__law_take b__law_take q__law_take (ok__law_take F__law_take T c__law_mix)
  have c__law_odds : Cal l.prog w K mg base "_law_odds" 3 ["store", "many"] spOdds := cal_of F__law_odds m__law_odds b__law_odds q__law_odds (ok__law_odds F__law_odds c__law_take)
  have c__law_count : Cal l.prog w K mg base "_law_count" 3 ["store", "least", "usual", "most"] spCount := cal_of F__law_count m__law_count b__law_count q__law_count (ok__law_count F__law_count c__law_take)
  have c__law_one : Cal l.prog w K mg base "_law_one" 3 ["store", "row"] (spOne K) := cal_of F__law_one m__law_one b__law_one q__law_one (ok__law_one F__law_one T c__law_take)
  have c__law_number : Cal l.prog w K mg base "_law_number" 3 ["store"] spNumber := cal_of F__law_number m__law_number b__law_number q__law_number (ok__law_number F__law_number T c__law_take)
  have c__law_text : Cal l.prog w K mg base "_law_text" 4 ["store", "most"] spText := cal_of F__law_text m__law_text b__law_text q__law_text (ok__law_text F__law_text T c__law_take c__law_count)
  have c__law_value : Cal l.prog w K mg base "_law_value" 5 ["store"] spValue := cal_of F__law_value m__law_value b__law_value q__law_value (ok__law_value F__law_value T c__law_take c__law_number c__law_text)
  have c__law_near : Cal l.prog w K mg base "_law_near" 6 ["store", "row"] (spNear2 K) := cal_of F__law_near m__law_near b__law_near q__law_near (ok__law_near F__law_near T c__law_take c__law_value)
  have c__law_name : Cal l.prog w K mg base "_law_name" 4 ["store", "taken"] (spName K) := cal_of F__law_name m__law_name b__law_name q__law_name (ok__law_name F__law_name T c__law_take c__law_odds c__law_one)
  have c__law_label : Cal l.prog w K mg base "_law_label" 5 ["store", "taken"] (spLabel K) := cal_of F__law_label m__law_label b__law_label q__law_label (ok__law_label F__law_label T c__law_name c__law_odds)
  have c__law_same : Cal l.prog w K mg base "_law_same" 22 ["left", "right"] (spLawSameX K 20) := cal_of F__law_same m__law_same b__law_same q__law_same (fn_or ((ok__law_same F__law_same T m__law_same b__law_same q__law_same 20).mono (by decide)) (ok__law_sameL F__law_same T m__law_same b__law_same q__law_same 20))
  have c__law_sort_key : Cal l.prog w K mg base "_law_sort_key" 1 ["value"] spKey := cal_of F__law_sort_key m__law_sort_key b__law_sort_key q__law_sort_key (ok__law_sort_key F__law_sort_key T)
  have c__law_leaf : Cal l.prog w K mg base "_law_leaf" 6 ["store", "labels"] (spLeaf K) := cal_of F__law_leaf m__law_leaf b__law_leaf q__law_leaf (ok__law_leaf F__law_leaf T c__law_take c__law_value c__law_one)
  have c__law_condition : Cal l.prog w K mg base "_law_condition" 67 ["store", "labels", "nodes", "deep"] (spCond K 60) := cal_of F__law_condition m__law_condition b__law_condition q__law_condition (ok__law_condition F__law_condition T m__law_condition b__law_condition q__law_condition c__law_take c__law_leaf 60)
  have c__law_worth : Cal l.prog w K mg base "_law_worth" 1 ["term", "labels", "row"] (spLWorth K) := cal_of F__law_worth m__law_worth b__law_worth q__law_worth (ok__law_worth F__law_worth T)
  have c__law_holds : Cal l.prog w K mg base "_law_holds" 62 ["condition", "labels", "row"] (spLHolds K 60) := cal_of F__law_holds m__law_holds b__law_holds q__law_holds (ok__law_holds F__law_holds m__law_holds b__law_holds q__law_holds c__law_sort_key c__law_worth 60)
  have c__law_folded_leaf : Cal l.prog w K mg base "_law_folded_leaf" 63 ["condition", "turned"] (spLeafF K) := cal_of F__law_folded_leaf m__law_folded_leaf b__law_folded_leaf q__law_folded_leaf (ok__law_folded_leaf F__law_folded_leaf T c__law_holds)
  have c__law_fold : Cal l.prog w K mg base "_law_fold" 84 ["condition", "turned"] (spLFold K 20) := cal_of F__law_fold m__law_fold b__law_fold q__law_fold (ok__law_fold F__law_fold m__law_fold b__law_fold q__law_fold c__law_folded_leaf c__law_same 20)
  have c__law_folding : Cal l.prog w K mg base "_law_folding" 68 ["store", "labels"] (spFolding K) := cal_of F__law_folding m__law_folding b__law_folding q__law_folding (ok__law_folding F__law_folding T c__law_take c__law_odds c__law_count c__law_one c__law_value c__law_near c__law_condition)
  have c__law_unlike_labels : Cal l.prog w K mg base "_law_unlike_labels" 6 ["store", "many"] spUnlike := cal_of F__law_unlike_labels m__law_unlike_labels b__law_unlike_labels q__law_unlike_labels (ok__law_unlike_labels F__law_unlike_labels T c__law_label)
  have c__law_constants : Cal l.prog w K mg base "_law_constants" 61 ["condition"] (spConsts K 60) := cal_of F__law_constants m__law_constants b__law_constants q__law_constants (ok__law_constants F__law_constants m__law_constants b__law_constants q__law_constants 60)
  have c__law_met_row : Cal l.prog w K mg base "_law_met_row" 6 ["store", "columns", "values"] (spMet K) := cal_of F__law_met_row m__law_met_row b__law_met_row q__law_met_row (ok__law_met_row F__law_met_row T c__law_value c__law_one c__law_odds)
  exact ok_law F_law T c_folded c_holds c__law_store c__law_take c__law_value c__law_unlike_labels c__law_same c__law_holds c__law_constants c__law_met_row c__law_folding c__law_fold
theorem walk {l : PySem.W.OpenLaw} {q : Program} {loose : List Str} {XP : (Str → Option Value) → Heap → Prop} {YP : World → Heap → Prop} {d : DefRec} {K : Params → PySem.W.Frag} (hn : l.most = some 63) (hdf : d.params.defaults = [])
    (hY : ∀ (w : World) (h : Heap), YP w h → (K w.params).In h)
    (F : ∀ (w : World) (mg : Str → Option Value) (fa : Addr) (h : Heap), (K w.params).In h → h.Ns mainGlobals mg → mg d.name = some (.ref fa) →
      ∃ fd : FuncData, (∀ (s : Shared) (u : Value), BindsTo s fd ⟨[u], []⟩ [("script", u)]) ∧ ∀ base : Heap, (K w.params).In base → base.Ns mainGlobals mg → FnOk l.prog w (K w.params) mg base CX0 85 fa fd ["script"] (spLaw (K w.params))) :
    PySem.W.WalkO q loose XP YP l.row.toRowW d [] (fun f vs => PySem.call f vs) :=
  L2.walk_of (n := 63) (k := 85) (x := "script") (CX := fun _ => CX0) (sp := fun w => spLaw (K w.params)) hn (by decide) hdf ⟨rfl, by decide, by decide⟩ hY F (fun _ _ a ns hl _ hS => ⟨a, ns, rfl, hS, hl, fun _ => rfl⟩) fun _ _ _ _ _ z => z
end SD

open PySem PySem.W PyProof.Rows in
set_option maxRecDepth 100000 in
set_option maxHeartbeats 0 in
theorem PySem.Challenge.cw_storedesk_k08_folded_conditions_holds : PySem.Challenge.rw_storedesk_k08_folded_conditions.Holds := by
  w_on; o_law; k_head; (case hw => w_witness2)
  k_fill
  refine SD.walk (l := PySem.Challenge.rw_storedesk_k08_folded_conditions) rfl rfl (fun w h Y => PySem.W.kIn_of Y) ?F
  case F =>
    intro w mg fa h KX G hmg
    refine' SD.all_mk KX G hmg ?a0 ?l0 ?c0 ?k0 ?a1 ?l1 ?c1 ?k1 ?a2 ?l2 ?c2 ?k2 ?a3 ?l3 ?c3 ?k3 ?a4 ?l4 ?c4 ?k4 ?a5 ?l5 ?c5 ?k5 ?a6 ?l6 ?c6 ?k6 ?a7 ?l7 ?c7 ?k7 ?a8 ?l8 ?c8 ?k8 ?a9 ?l9 ?c9 ?k9 ?a10 ?l10 ?c10 ?k10 ?a11 ?l11 ?c11 ?k11 ?a12 ?l12 ?c12 ?k12 ?a13 ?l13 ?c13 ?k13 ?a14 ?l14 ?c14 ?k14 ?a15 ?l15 ?c15 ?k15 ?a16 ?l16 ?c16 ?k16 ?a17 ?l17 ?c17 ?k17 ?a18 ?l18 ?c18 ?k18 ?a19 ?l19 ?c19 ?k19 ?a20 ?l20 ?c20 ?k20 ?a21 ?l21 ?c21 ?k21 ?a22 ?l22 ?c22 ?k22 ?a23 ?l23 ?c23 ?k23 ?a24 ?l24 ?c24 ?k24 ?a25 ?l25 ?c25 ?k25 ?a26 ?l26 ?c26 ?k26 ?a27 ?l27 ?c27 ?k27 ?a28 ?l28 ?c28 ?k28 ?a29 ?l29 ?c29 ?k29 ?a30 ?l30 ?c30 ?k30 ?a31 ?l31 ?c31 ?k31 ?a32 ?l32 ?c32 ?k32 ?a33 ?l33 ?c33 ?k33 ?a34 ?l34 ?c34 ?k34 ?a35 ?l35 ?c35 ?k35 ?a36 ?l36 ?c36 ?k36 ?a37 ?l37 ?c37 ?k37 ?a38 ?l38 ?c38 ?k38 ?z0 ?z1 ?z2 ?z3 ?z4 ?z5 ?z6 ?z7 ?z8 ?z9 ?z10 ?z11 ?z12 ?z13 ?z14 ?xa0 ?xl0 ?xk0 ?xe0_0 ?xe0_1 ?xe0_2 ?xe0_3 ?xe0_4 ?xe0_5 ?xa1 ?xl1 ?xk1 ?xe1_0 ?xe1_1 ?xe1_2 ?xe1_3 ?xe1_4 ?xe1_5
    (case a0 => k_is)
    (case l0 => k_is)
    (case c0 => k_is)
    (case k0 => k_is)
    (case a1 => k_is)
    (case l1 => k_is)
    (case c1 => k_is)
    (case k1 => k_is)
    (case a2 => k_is)
    (case l2 => k_is)
    (case c2 => k_is)
    (case k2 => k_is)
    (case a3 => k_is)
    (case l3 => k_is)
    (case c3 => k_is)
    (case k3 => k_is)
    (case a4 => k_is)
    (case l4 => k_is)
    (case c4 => k_is)
    (case k4 => k_is)
    (case a5 => k_is)
    (case l5 => k_is)
    (case c5 => k_is)
    (case k5 => k_is)
    (case a6 => k_is)
    (case l6 => k_is)
    (case c6 => k_is)
    (case k6 => k_is)
    (case a7 => k_is)
    (case l7 => k_is)
    (case c7 => k_is)
    (case k7 => k_is)
    (case a8 => k_is)
    (case l8 => k_is)
    (case c8 => k_is)
    (case k8 => k_is)
    (case a9 => k_is)
    (case l9 => k_is)
    (case c9 => k_is)
    (case k9 => k_is)
    (case a10 => k_is)
    (case l10 => k_is)
    (case c10 => k_is)
    (case k10 => k_is)
    (case a11 => k_is)
    (case l11 => k_is)
    (case c11 => k_is)
    (case k11 => k_is)
    (case a12 => k_is)
    (case l12 => k_is)
    (case c12 => k_is)
    (case k12 => k_is)
    (case a13 => k_is)
    (case l13 => k_is)
    (case c13 => k_is)
    (case k13 => k_is)
    (case a14 => k_is)
    (case l14 => k_is)
    (case c14 => k_is)
    (case k14 => k_is)
    (case a15 => k_is)
    (case l15 => k_is)
    (case c15 => k_is)
    (case k15 => k_is)
    (case a16 => k_is)
    (case l16 => k_is)
    (case c16 => k_is)
    (case k16 => k_is)
    (case a17 => k_is)
    (case l17 => k_is)
    (case c17 => k_is)
    (case k17 => k_is)
    (case a18 => k_is)
    (case l18 => k_is)
    (case c18 => k_is)
    (case k18 => k_is)
    (case a19 => k_is)
    (case l19 => k_is)
    (case c19 => k_is)
    (case k19 => k_is)
    (case a20 => k_is)
    (case l20 => k_is)
    (case c20 => k_is)
    (case k20 => k_is)
    (case a21 => k_is)
    (case l21 => k_is)
    (case c21 => k_is)
    (case k21 => k_is)
    (case a22 => k_is)
    (case l22 => k_is)
    (case c22 => k_is)
    (case k22 => k_is)
    (case a23 => k_is)
    (case l23 => k_is)
    (case c23 => k_is)
    (case k23 => k_is)
    (case a24 => k_is)
    (case l24 => k_is)
    (case c24 => k_is)
    (case k24 => k_is)
    (case a25 => k_is)
    (case l25 => k_is)
    (case c25 => k_is)
    (case k25 => k_is)
    (case a26 => k_is)
    (case l26 => k_is)
    (case c26 => k_is)
    (case k26 => k_is)
    (case a27 => k_is)
    (case l27 => k_is)
    (case c27 => k_is)
    (case k27 => k_is)
    (case a28 => k_is)
    (case l28 => k_is)
    (case c28 => k_is)
    (case k28 => k_is)
    (case a29 => k_is)
    (case l29 => k_is)
    (case c29 => k_is)
    (case k29 => k_is)
    (case a30 => k_is)
    (case l30 => k_is)
    (case c30 => k_is)
    (case k30 => k_is)
    (case a31 => k_is)
    (case l31 => k_is)
    (case c31 => k_is)
    (case k31 => k_is)
    (case a32 => k_is)
    (case l32 => k_is)
    (case c32 => k_is)
    (case k32 => k_is)
    (case a33 => k_is)
    (case l33 => k_is)
    (case c33 => k_is)
    (case k33 => k_is)
    (case a34 => k_is)
    (case l34 => k_is)
    (case c34 => k_is)
    (case k34 => k_is)
    (case a35 => k_is)
    (case l35 => k_is)
    (case c35 => k_is)
    (case k35 => k_is)
    (case a36 => k_is)
    (case l36 => k_is)
    (case c36 => k_is)
    (case k36 => k_is)
    (case a37 => k_is)
    (case l37 => k_is)
    (case c37 => k_is)
    (case k37 => k_is)
    (case a38 => k_is)
    (case l38 => k_is)
    (case c38 => k_is)
    (case k38 => k_is)
    (case z0 => k_is)
    (case z1 => k_is)
    (case z2 => k_is)
    (case z3 => k_is)
    (case z4 => k_is)
    (case z5 => k_is)
    (case z6 => k_is)
    (case z7 => k_is)
    (case z8 => k_is)
    (case z9 => k_is)
    (case z10 => k_is)
    (case z11 => k_is)
    (case z12 => k_is)
    (case z13 => k_is)
    (case z14 => k_is)
    (case xa0 => k_is)
    (case xl0 => k_is)
    (case xk0 => k_keys)
    (case xe0_0 => k_is)
    (case xe0_1 => k_is)
    (case xe0_2 => k_is)
    (case xe0_3 => k_is)
    (case xe0_4 => k_is)
    (case xe0_5 => k_is)
    (case xa1 => k_is)
    (case xl1 => k_is)
    (case xk1 => k_keys)
    (case xe1_0 => k_is)
    (case xe1_1 => k_is)
    (case xe1_2 => k_is)
    (case xe1_3 => k_is)
    (case xe1_4 => k_is)
    (case xe1_5 => k_is)
