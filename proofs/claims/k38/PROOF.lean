import PyProof.Rows.All
import Wide.All
import OpenK.AllK
import Wide.FinOn
import HandS.ForMost
import HandS.Codes
import HandS.IsInst
import HandS.WideBits
import KE.Datum
import PyProof.ReprRoads
import PyProof.ReprLen
import PyProof.Rows.SetFrom
import HandS.Set
import HandS.SetFor
import HandS.Strs
import HandS.SortInts
import HandS.TupSets
import HandS.Star
import HandS.Comp
import HandS.DictComp
import HandS.Walk
import HandS.Iter
import HandS.More
import HandS.Deep
import HandS.Small
import HandS.TupLen
import HandS.Conv
import HandS.Sort
import HandS.Wide
import HandS.RevRange
import HandS.WordsDict
import PySem.Challenge.RW_cellcloth_k38_whole_tidy_nets
set_option Elab.async false
set_option linter.all false
set_option maxRecDepth 100000
set_option maxHeartbeats 4000000
/-! data with a Lean type in the abstract heap: what a value holds, kept by growth; the heap but for what is mutable -/
namespace V0
open PySem PySem.Spec PyProof.Rows L2
open PySem.W (Datum)
/-- a def of the text as callers need it -/
structure Def (K : PySem.W.Frag) (mg : Str → Option Value) (x : Str) (f : Addr) (fd : FuncData) (ps : List Str) : Prop where
  m : mg x = some (.ref f)
  k : PySem.W.keepIn K (.ref f) = true
  b : Binds K fd ps []
abbrev vLen (K : PySem.W.Frag) : List V → Hp → VK → Prop := fun xs H Q => ∃ p ys, xs = [.ref p] ∧ (SqL K H p ys ∨ SqT K H p ys) ∧ Q (.int ys.length) H
abbrev vListOf (K : PySem.W.Frag) : List V → Hp → VK → Prop := fun xs H Q => ∃ p ys, xs = [.ref p] ∧ (SqL K H p ys ∨ SqT K H p ys) ∧ ∀ l, H l = none → Q (.ref l) (upd H l (.lst ys))
abbrev vTupleOf (K : PySem.W.Frag) : List V → Hp → VK → Prop := fun xs H Q => ∃ p ys, xs = [.ref p] ∧ ((SqL K H p ys ∧ ∀ l, H l = none → Q (.ref l) (upd H l (.tup ys))) ∨ (SqT K H p ys ∧ Q (.ref p) H))
/-- a statement that is never reached -/
theorem ps_never {X : Cx} {st : Stmt} : PS X st (fun _ _ _ => False) := ⟨fun _ _ _ _ _ _ h => h.elim⟩
def tTru (K : PySem.W.Frag) (ta : TE) : TT := fun σ H Q => ta σ H fun x H' => ∃ k, TruV K x H' k ∧ Q k H'
/-- as pt_truth, K told -/
theorem pt_truthK {X : Cx} {K : PySem.W.Frag} {a : Expr} {ta : TE} (hK : X.K = K) (ha : PE X a ta) (he : ∀ whole, isTrue a X.env whole = (do let v ← whole; standAt a.pos; holding [v] (truthy v))) :
    PT X a (tTru K ta) := by
  subst hK
  exact pt_truth ha he
theorem hu65 {A : Around} {k : Nat} (hr : Room k A) : A.units + 65 < cLine := by
  have := hr.un
  omega
theorem same_new {H : Hp} {p : Addr} {o : HO} (h : H p = none) : Same H (upd H p o) := fun b x e => by
  rw [upd_ne (ne_of_none e h)]
  exact e
theorem same_mut {H H' : Hp} {p : Addr} {o : HO} (e : Same H H') (h : H p = none) : Same H (upd H' p o) := fun a u ha => by
  rw [upd_ne (ne_of_none ha h)]
  exact e a u ha
theorem tup_same {K : PySem.W.Frag} {H H' : Hp} {a : Addr} {xs : List V} (e : Same H H') (h : SqT K H a xs) : SqT K H' a xs := by
  rcases h with (h | ⟨o, h⟩) | h
  · exact .inl (.inl (e _ _ h))
  · exact .inl (.inr ⟨o, e _ _ h⟩)
  · exact .inr h
theorem map_range_succ {α : Type} (f : Nat → α) (i : Nat) : (List.range (i + 1)).map f = (List.range i).map f ++ [f i] := by
  rw [List.range_succ, List.map_append]
  rfl
/-! ### data -/
class Dm (α : Type) [DecidableEq α] extends Datum α where
  lay : ∀ a : α, (Datum.toD a).canLay0 = true
instance : Dm Int where
  lay _ := by simp only [Datum.toD, PyData.canLay0]
instance : Dm Bool where
  lay _ := by simp only [Datum.toD, PyData.canLay0]
instance : Datum Nat where
  toD n := .int (n : Int)
  plain _ := rfl
  eqv a b := by
    simp only [PyData.eqv]
    rw [PySem.W.beq_decide]
    exact decide_eq_decide.mpr ⟨fun e => by omega, fun e => by rw [e]⟩
  depth := 0
  depth_le _ := Nat.le_refl _
instance : Dm Nat where
  lay _ := by simp only [Datum.toD, PyData.canLay0]
section
variable {α β : Type} [DecidableEq α] [Dm α] [DecidableEq β] [Dm β]
theorem lay_all : ∀ xs : List α, PyData.canLayAll0 (xs.map Datum.toD) = true
  | [] => by simp only [List.map_nil, PyData.canLayAll0]
  | x :: xs => by
    rw [List.map_cons, PyData.canLayAll0, Dm.lay x, lay_all xs]
    rfl
instance : Dm (List α) where
  lay xs := by
    simp only [Datum.toD, PyData.canLay0]
    exact lay_all xs
instance : Dm (α × β) where
  lay p := by
    simp only [Datum.toD, PyData.canLay0, PyData.canLayAll0, Bool.and_true, Bool.and_eq_true]
    exact ⟨Dm.lay p.1, Dm.lay p.2⟩
end
mutual
/-- as Dp, of what stands in the abstract heap alone -/
inductive Dh (H : Hp) : V → PyData → Prop
  | non : Dh H .non .none
  | bl (b : Bool) : Dh H (.bl b) (.bool b)
  | int (i : Int) : Dh H (.int i) (.int i)
  | str (x : Str) : Dh H (.str x) (.str x)
  | lst {a : Addr} {xs : List V} {ds : List PyData} : H a = some (.lst xs) → DhAll H xs ds → Dh H (.ref a) (.list ds)
  | tup {a : Addr} {xs : List V} {ds : List PyData} : H a = some (.tup xs) → DhAll H xs ds → Dh H (.ref a) (.tuple ds)
inductive DhAll (H : Hp) : List V → List PyData → Prop
  | nil : DhAll H [] []
  | cons {v : V} {vs : List V} {d : PyData} {ds : List PyData} : Dh H v d → DhAll H vs ds → DhAll H (v :: vs) (d :: ds)
end
mutual
theorem dh_same {H H' : Hp} (s : Same H H') : ∀ (d : PyData) (v : V), Dh H v d → Dh H' v d
  | .none, _, h => by cases h; exact .non
  | .bool b, _, h => by cases h; exact .bl b
  | .int i, _, h => by cases h; exact .int i
  | .str x, _, h => by cases h; exact .str x
  | .list ds, _, h => by
    cases h with
    | lst h1 h2 => exact .lst (s _ _ h1) (dh_sameAll s ds _ h2)
  | .tuple ds, _, h => by
    cases h with
    | tup h1 h2 => exact .tup (s _ _ h1) (dh_sameAll s ds _ h2)
  | .dict _, _, h => by cases h
theorem dh_sameAll {H H' : Hp} (s : Same H H') : ∀ (ds : List PyData) (vs : List V), DhAll H vs ds → DhAll H' vs ds
  | [], _, h => by cases h; exact .nil
  | d :: ds, _, h => by
    cases h with
    | cons h1 h2 => exact .cons (dh_same s d _ h1) (dh_sameAll s ds _ h2)
end
mutual
theorem dh_dp {K : PySem.W.Frag} {H : Hp} : ∀ (d : PyData) (v : V), Dh H v d → Dp K H v d
  | .none, _, h => by cases h; exact .non
  | .bool b, _, h => by cases h; exact .bl b
  | .int i, _, h => by cases h; exact .int i
  | .str x, _, h => by cases h; exact .str x
  | .list ds, _, h => by
    cases h with
    | lst h1 h2 => exact .lst (SqL.of h1) (dh_dpAll ds _ h2)
  | .tuple ds, _, h => by
    cases h with
    | tup h1 h2 => exact .tup (SqT.of h1) (dh_dpAll ds _ h2)
  | .dict _, _, h => by cases h
theorem dh_dpAll {K : PySem.W.Frag} {H : Hp} : ∀ (ds : List PyData) (vs : List V), DhAll H vs ds → DpAll K H vs ds
  | [], _, h => by cases h; exact .nil
  | d :: ds, _, h => by
    cases h with
    | cons h1 h2 => exact .cons (dh_dp d _ h1) (dh_dpAll ds _ h2)
end
section
variable {α β : Type} [DecidableEq α] [Dm α] [DecidableEq β] [Dm β]
/-- v holds x -/
def Dv (H : Hp) (v : V) (x : α) : Prop := Dh H v (Datum.toD x)
def Dvs (H : Hp) (vs : List V) (xs : List α) : Prop := DhAll H vs (xs.map Datum.toD)
theorem Dv.same {H H' : Hp} {v : V} {x : α} (h : Dv H v x) (s : Same H H') : Dv H' v x := dh_same s _ _ h
theorem Dvs.same {H H' : Hp} {vs : List V} {xs : List α} (h : Dvs H vs xs) (s : Same H H') : Dvs H' vs xs := dh_sameAll s _ _ h
theorem Dv.int {H : Hp} (i : Int) : Dv H (.int i) i := Dh.int i
theorem Dv.nat {H : Hp} (n : Nat) : Dv H (.int (n : Int)) n := Dh.int (n : Int)
theorem Dv.bl {H : Hp} (b : Bool) : Dv H (.bl b) b := Dh.bl b
theorem Dv.int_inv {H : Hp} {v : V} {i : Int} (h : Dv H v i) : v = .int i := by
  unfold Dv at h
  cases h
  rfl
theorem Dv.nat_inv {H : Hp} {v : V} {n : Nat} (h : Dv H v n) : v = .int (n : Int) := by
  unfold Dv at h
  cases h
  rfl
theorem Dvs.nil {H : Hp} : Dvs H [] ([] : List α) := DhAll.nil
theorem Dvs.cons {H : Hp} {v : V} {vs : List V} {x : α} {xs : List α} (h : Dv H v x) (hs : Dvs H vs xs) : Dvs H (v :: vs) (x :: xs) := DhAll.cons h hs
theorem Dvs.cons_inv {H : Hp} {vs : List V} {x : α} {xs : List α} (h : Dvs H vs (x :: xs)) : ∃ v us, vs = v :: us ∧ Dv H v x ∧ Dvs H us xs := by
  unfold Dvs at h
  cases h with
  | cons h1 h2 => exact ⟨_, _, rfl, h1, h2⟩
theorem Dvs.nil_inv {H : Hp} {vs : List V} (h : Dvs H vs ([] : List α)) : vs = [] := by
  unfold Dvs at h
  cases h
  rfl
theorem Dvs.app {H : Hp} : ∀ {vs us : List V} {xs ys : List α}, Dvs H vs xs → Dvs H us ys → Dvs H (vs ++ us) (xs ++ ys)
  | _, _, [], _, h, g => by rw [h.nil_inv]; exact g
  | _, _, _ :: _, _, h, g => by
    obtain ⟨v, us, rfl, h1, h2⟩ := h.cons_inv
    exact .cons h1 (h2.app g)
theorem Dvs.len {H : Hp} : ∀ {vs : List V} {xs : List α}, Dvs H vs xs → vs.length = xs.length
  | _, [], h => by rw [h.nil_inv]; rfl
  | _, _ :: _, h => by
    obtain ⟨v, us, rfl, h1, h2⟩ := h.cons_inv
    rw [List.length_cons, List.length_cons, h2.len]
theorem Dvs.get {H : Hp} : ∀ {vs : List V} {xs : List α} {i : Nat} {x : α}, Dvs H vs xs → xs[i]? = some x → ∃ v, vs[i]? = some v ∧ Dv H v x
  | _, [], i, _, h, e => by simp at e
  | _, _ :: _, 0, _, h, e => by
    obtain ⟨v, us, rfl, h1, h2⟩ := h.cons_inv
    cases e
    exact ⟨_, rfl, h1⟩
  | _, _ :: _, i + 1, _, h, e => by
    obtain ⟨v, us, rfl, h1, h2⟩ := h.cons_inv
    exact h2.get (i := i) e
theorem Dvs.at {H : Hp} {vs : List V} {xs : List α} {i : Nat} {v : V} (h : Dvs H vs xs) (e : vs[i]? = some v) : ∃ x, xs[i]? = some x ∧ Dv H v x := by
  have hi : i < xs.length := by
    rw [← h.len]
    exact (List.getElem?_eq_some_iff.mp e).1
  obtain ⟨u, e2, d⟩ := h.get (List.getElem?_eq_getElem hi)
  rw [e] at e2
  cases e2
  exact ⟨_, List.getElem?_eq_getElem hi, d⟩
theorem Dv.list {H : Hp} {a : Addr} {vs : List V} {xs : List α} (h : H a = some (.lst vs)) (hs : Dvs H vs xs) : Dv H (.ref a) xs := Dh.lst h hs
theorem Dv.list_inv {H : Hp} {v : V} {xs : List α} (h : Dv H v xs) : ∃ a vs, v = .ref a ∧ H a = some (.lst vs) ∧ Dvs H vs xs := by
  unfold Dv at h
  cases h with
  | lst h1 h2 => exact ⟨_, _, rfl, h1, h2⟩
theorem Dv.pair {H : Hp} {a : Addr} {u v : V} {x : α} {y : β} (h : H a = some (.tup [u, v])) (h1 : Dv H u x) (h2 : Dv H v y) : Dv H (.ref a) (x, y) := Dh.tup h (.cons h1 (.cons h2 .nil))
theorem Dv.pair_inv {H : Hp} {v : V} {p : α × β} (h : Dv H v p) : ∃ a u w, v = .ref a ∧ H a = some (.tup [u, w]) ∧ Dv H u p.1 ∧ Dv H w p.2 := by
  unfold Dv at h
  cases h with
  | tup h1 h2 =>
    cases h2 with
    | cons h3 h4 =>
      cases h4 with
      | cons h5 h6 =>
        cases h6
        exact ⟨_, _, _, rfl, h1, h3, h5⟩
abbrev vi (xs : List Int) : List V := xs.map V.int
abbrev vn (xs : List Nat) : List V := xs.map (fun (b : Nat) => V.int (b : Int))
theorem vn_len (xs : List Nat) : (vn xs).length = xs.length := List.length_map _
theorem vn_get {xs : List Nat} {i n : Nat} (h : xs[i]? = some n) : (vn xs)[i]? = some (.int (n : Int)) := by
  rw [List.getElem?_map, h]
  rfl
theorem Dvs.ints_inv {H : Hp} : ∀ {vs : List V} {xs : List Int}, Dvs H vs xs → vs = vi xs
  | _, [], h => h.nil_inv
  | _, _ :: _, h => by
    obtain ⟨v, us, rfl, h1, h2⟩ := h.cons_inv
    rw [h1.int_inv, h2.ints_inv]
    rfl
theorem Dvs.nats_inv {H : Hp} : ∀ {vs : List V} {xs : List Nat}, Dvs H vs xs → vs = vn xs
  | _, [], h => h.nil_inv
  | _, _ :: _, h => by
    obtain ⟨v, us, rfl, h1, h2⟩ := h.cons_inv
    rw [h1.nat_inv, h2.nats_inv]
    rfl
theorem Dvs.ints {H : Hp} : ∀ xs : List Int, Dvs H (vi xs) xs
  | [] => .nil
  | x :: r => .cons (.int x) (Dvs.ints r)
theorem Dvs.nats {H : Hp} : ∀ xs : List Nat, Dvs H (vn xs) xs
  | [] => .nil
  | x :: r => .cons (.nat x) (Dvs.nats r)
theorem Dvs.bls {H : Hp} : ∀ xs : List Bool, Dvs H (xs.map V.bl) xs
  | [] => .nil
  | x :: r => .cons (.bl x) (Dvs.bls r)
/-- a list of whole numbers from 0 on -/
theorem Dv.natl {H : Hp} {a : Addr} {xs : List Nat} (h : H a = some (.lst (vn xs))) : Dv H (.ref a) xs := .list h (Dvs.nats xs)
theorem Dv.natl_inv {H : Hp} {v : V} {xs : List Nat} (h : Dv H v xs) : ∃ a, v = .ref a ∧ H a = some (.lst (vn xs)) := by
  obtain ⟨a, vs, rfl, h1, h2⟩ := h.list_inv
  rw [h2.nats_inv] at h1
  exact ⟨a, rfl, h1⟩
theorem Dv.intl {H : Hp} {a : Addr} {xs : List Int} (h : H a = some (.lst (vi xs))) : Dv H (.ref a) xs := .list h (Dvs.ints xs)
theorem Dv.intl_inv {H : Hp} {v : V} {xs : List Int} (h : Dv H v xs) : ∃ a, v = .ref a ∧ H a = some (.lst (vi xs)) := by
  obtain ⟨a, vs, rfl, h1, h2⟩ := h.list_inv
  rw [h2.ints_inv] at h1
  exact ⟨a, rfl, h1⟩
theorem shaped_of (x : α) (hd : Datum.depth α ≤ 64) : SeqAt.shaped (Datum.toD x) = true := by
  unfold SeqAt.shaped
  rw [Dm.lay x, Bool.true_and]
  exact decide_eq_true (Nat.le_trans (Datum.depth_le x) hd)
theorem eqD {K : PySem.W.Frag} {H : Hp} {x y : V} {Q : VK} {a b : α} (hx : Dv H x a) (hy : Dv H y b) (hd : Datum.depth α ≤ 64) (q : Q (.bl (decide (a = b))) H) : rEqD K x y H Q := by
  refine ⟨_, _, dh_dp _ _ hx, dh_dp _ _ hy, shaped_of a hd, shaped_of b hd, ?_⟩
  rw [Datum.eqv]
  exact q
theorem neD {K : PySem.W.Frag} {H : Hp} {x y : V} {Q : VK} {a b : α} (hx : Dv H x a) (hy : Dv H y b) (hd : Datum.depth α ≤ 64) (q : Q (.bl (!decide (a = b))) H) : rNeD K x y H Q := by
  refine ⟨_, _, dh_dp _ _ hx, dh_dp _ _ hy, shaped_of a hd, shaped_of b hd, ?_⟩
  rw [Datum.eqv]
  exact q
end
/-! ### the heap but for two objects that change -/
def res (p c : Addr) (H : Hp) : Hp := fun b => if b = p ∨ b = c then none else H b
theorem res_eq {p c b : Addr} {H : Hp} (h1 : b ≠ p) (h2 : b ≠ c) : res p c H b = H b := if_neg (fun h => h.elim h1 h2)
theorem res_some {p c b : Addr} {H : Hp} {o : HO} (h : res p c H b = some o) : b ≠ p ∧ b ≠ c ∧ H b = some o := by
  unfold res at h
  by_cases e : b = p ∨ b = c
  · rw [if_pos e] at h
    cases h
  · rw [if_neg e] at h
    exact ⟨fun z => e (.inl z), fun z => e (.inr z), h⟩
theorem res_same (p c : Addr) (H : Hp) : Same (res p c H) H := fun _ _ h => (res_some h).2.2
theorem Same.res {H H' : Hp} (s : Same H H') (p c : Addr) : Same (res p c H) (res p c H') := fun b o h => by
  obtain ⟨h1, h2, h3⟩ := res_some h
  rw [res_eq h1 h2]
  exact s _ _ h3
theorem res_of {p c b : Addr} {H : Hp} {o : HO} (h1 : b ≠ p) (h2 : b ≠ c) (h : H b = some o) : res p c H b = some o := by
  rw [res_eq h1 h2]
  exact h
/-- the heap but for one object -/
def hid (q : Addr) (H : Hp) : Hp := fun b => if b = q then none else H b
theorem hid_eq {q b : Addr} {H : Hp} (h : b ≠ q) : hid q H b = H b := if_neg h
theorem hid_some {q b : Addr} {H : Hp} {o : HO} (h : hid q H b = some o) : b ≠ q ∧ H b = some o := by
  unfold hid at h
  by_cases e : b = q
  · rw [if_pos e] at h
    cases h
  · rw [if_neg e] at h
    exact ⟨e, h⟩
theorem hid_of {q b : Addr} {H : Hp} {o : HO} (h : b ≠ q) (e : H b = some o) : hid q H b = some o := by
  rw [hid_eq h]
  exact e
theorem hid_same (q : Addr) (H : Hp) : Same (hid q H) H := fun _ _ h => (hid_some h).2
theorem hid_mono {q : Addr} {H H' : Hp} (s : Same H H') : Same (hid q H) (hid q H') := fun b o h => by
  obtain ⟨h1, h2⟩ := hid_some h
  exact hid_of h1 (s _ _ h2)
theorem hid_mut {q : Addr} {H : Hp} {o : HO} : Same (hid q H) (hid q (upd H q o)) := fun b u h => by
  obtain ⟨h1, h2⟩ := hid_some h
  exact hid_of h1 (by rw [upd_ne h1]; exact h2)
theorem hid_res_mut {p c q : Addr} {H : Hp} {o : HO} : Same (hid q (res p c H)) (hid q (res p c (upd H q o))) := fun b u h => by
  obtain ⟨h1, h2⟩ := hid_some h
  obtain ⟨h3, h4, h5⟩ := res_some h2
  exact hid_of h1 (res_of h3 h4 (by rw [upd_ne h1]; exact h5))
theorem res_upd {p c q : Addr} {H : Hp} {o : HO} (h1 : q ≠ p) (h2 : q ≠ c) : res p c (upd H q o) q = some o := by
  rw [res_eq h1 h2]
  exact upd_same
theorem res_mut {p c D : Addr} {H H' : Hp} {o : HO} (e : Same (res p c H) (res p c H')) (h : H D = none) : Same (res p c H) (res p c (upd H' D o)) := fun b u hb => by
  obtain ⟨h1, h2, h3⟩ := res_some hb
  have h4 : b ≠ D := fun z => by
    rw [z, h] at h3
    cases h3
  rw [res_eq h1 h2, upd_ne h4]
  exact (res_some (e _ _ hb)).2.2
/-- the state of the draws: the script's numbers, from 0 on, and a seed -/
structure Dr (H : Hp) (p c : Addr) : Prop where
  ne : p ≠ c
  st : ∃ (cs : List Nat) (s : Int), H p = some (.lst [.ref c, .int s]) ∧ H c = some (.lst (vn cs)) ∧ cs.length ≤ 63
theorem Dr.same {H H' : Hp} {p c : Addr} (h : Dr H p c) (s : Same H H') : Dr H' p c := by
  obtain ⟨n, cs, z, h1, h2, h3⟩ := h
  exact ⟨n, cs, z, s _ _ h1, s _ _ h2, h3⟩
theorem Dr.off {H : Hp} {p c q : Addr} (h : Dr H p c) (hq : H q = none) : q ≠ p ∧ q ≠ c := by
  obtain ⟨n, cs, z, h1, h2, h3⟩ := h
  exact ⟨fun e => (by rw [e, h1] at hq; cases hq), fun e => (by rw [e, h2] at hq; cases hq)⟩
/-- from H to H' all but the state of the draws stays -/
structure Go (p c : Addr) (H H' : Hp) : Prop where
  a : Dr H p c
  b : Dr H' p c
  s : Same (res p c H) (res p c H')
theorem Go.refl {p c : Addr} {H : Hp} (h : Dr H p c) : Go p c H H := ⟨h, h, Same.refl _⟩
theorem Go.trans {p c : Addr} {H H1 H2 : Hp} (x : Go p c H H1) (y : Go p c H1 H2) : Go p c H H2 := ⟨x.a, y.b, x.s.trans y.s⟩
theorem Go.of {p c : Addr} {H H' : Hp} (h : Dr H p c) (s : Same H H') : Go p c H H' := ⟨h, h.same s, V0.Same.res s p c⟩
theorem Go.more {p c : Addr} {H H1 H2 : Hp} (x : Go p c H H1) (s : Same H1 H2) : Go p c H H2 := x.trans (Go.of x.b s)
theorem Go.mut {p c D : Addr} {H H' : Hp} {o : HO} (x : Go p c H H') (h : H D = none) : Go p c H (upd H' D o) := by
  refine ⟨x.a, ?_, res_mut x.s h⟩
  obtain ⟨h1, h2⟩ := x.a.off h
  obtain ⟨n, cs, z, e1, e2, e3⟩ := x.b
  exact ⟨n, cs, z, (by rw [upd_ne (fun e => h1 e.symm)]; exact e1), (by rw [upd_ne (fun e => h2 e.symm)]; exact e2), e3⟩
theorem Go.get {p c b : Addr} {H H' : Hp} {o : HO} (x : Go p c H H') (h1 : b ≠ p) (h2 : b ≠ c) (h : H b = some o) : H' b = some o := by
  rw [← res_eq (p := p) (c := c) (H := H) h1 h2] at h
  exact (res_some (x.s _ _ h)).2.2
/-- what was new at H and stands at H1 stands at H' -/
theorem Go.get' {p c b : Addr} {H H1 H' : Hp} {o : HO} (x : Go p c H1 H') (d : Dr H p c) (n : H b = none) (h : H1 b = some o) : H' b = some o := x.get (d.off n).1 (d.off n).2 h
theorem Go.up {p c b : Addr} {H H' : Hp} {o : HO} (x : Go p c H H') (h : res p c H b = some o) : H' b = some o := (res_some (x.s _ _ h)).2.2
theorem Go.none {p c b : Addr} {H H' : Hp} (x : Go p c H H') (h : H' b = none) : H b = none := by
  obtain ⟨h1, h2⟩ := x.b.off h
  cases e : H b with
  | none => rfl
  | some o =>
    rw [x.get h1 h2 e] at h
    cases h
theorem Dv.up {α : Type} [DecidableEq α] [Dm α] {p c : Addr} {H : Hp} {v : V} {x : α} (h : Dv (res p c H) v x) : Dv H v x := h.same (res_same p c H)
theorem Dvs.up {α : Type} [DecidableEq α] [Dm α] {p c : Addr} {H : Hp} {vs : List V} {x : List α} (h : Dvs (res p c H) vs x) : Dvs H vs x := h.same (res_same p c H)
theorem emod_range {x m : Int} (h : 0 < m) : 0 ≤ x.fmod m ∧ x.fmod m < m := by
  rw [Int.fmod_eq_emod_of_nonneg x (by omega)]
  exact ⟨Int.emod_nonneg _ (by omega), Int.emod_lt_of_pos _ h⟩
theorem ix_nat {n j : Nat} (h : j < n) : ixN n (j : Int) = some j := by
  unfold ixN
  rw [if_pos (Int.natCast_nonneg _), if_pos (by omega), Int.toNat_natCast]
/-- what is new at H' -/
def fresh (H H' : Hp) : Hp := fun b => match H b with
  | none => H' b
  | some _ => none
theorem fresh_some {H H' : Hp} {b : Addr} {o : HO} (h : fresh H H' b = some o) : H b = none ∧ H' b = some o := by
  unfold fresh at h
  cases e : H b with
  | none =>
    rw [e] at h
    exact ⟨rfl, h⟩
  | some u =>
    rw [e] at h
    cases h
theorem fresh_of {H H' : Hp} {b : Addr} {o : HO} (h : H b = none) (e : H' b = some o) : fresh H H' b = some o := by
  unfold fresh
  rw [h]
  exact e
theorem fresh_same {H H' : Hp} : Same (fresh H H') H' := fun _ _ h => (fresh_some h).2
theorem fresh_pre {H H1 H' : Hp} (s : Same H H1) : Same (fresh H1 H') (fresh H H') := fun b o h => by
  obtain ⟨h1, h2⟩ := fresh_some h
  refine fresh_of ?_ h2
  cases e : H b with
  | none => rfl
  | some u =>
    rw [s _ _ e] at h1
    cases h1
theorem fresh_post {H H' H2 : Hp} (s : Same H' H2) : Same (fresh H H') (fresh H H2) := fun b o h => by
  obtain ⟨h1, h2⟩ := fresh_some h
  exact fresh_of h1 (s _ _ h2)
theorem fresh_hid {H H' : Hp} {q : Addr} {o : HO} (h : H q = some o) : Same (fresh H H') (hid q H') := fun b u e => by
  obtain ⟨h1, h2⟩ := fresh_some e
  refine hid_of (fun z => ?_) h2
  rw [z, h] at h1
  cases h1
/-- new at H', as H goes to H' by growth -/
theorem none_of {H H' : Hp} {b : Addr} (s : Same H H') (h : H' b = none) : H b = none := by
  cases e : H b with
  | none => rfl
  | some u =>
    rw [s _ _ e] at h
    cases h
theorem upd_id {H : Hp} {a : Addr} {o : HO} (h : H a = some o) : upd H a o = H := funext fun b => by
  by_cases e : b = a
  · rw [e, upd_same, h]
  · rw [upd_ne e]
theorem small64k {n : Nat} (h : n ≤ 65536) : n < sizeLine := Nat.lt_of_le_of_lt h (by decide)
theorem fresh_res {p c : Addr} {H H' : Hp} (d : Dr H p c) : Same (fresh H H') (res p c H') := fun b o h => by
  obtain ⟨h1, h2⟩ := fresh_some h
  obtain ⟨h3, h4⟩ := d.off h1
  exact res_of h3 h4 h2
end V0
/-! nets as data, and what the laws make of them -/
namespace V0
open PySem PySem.Spec PyProof.Rows L2
open PySem.W (Datum)
structure Net where
  ins : Nat
  starts : List Nat
  gates : List (Nat × Nat)
  nexts : List Nat
  outs : List Nat
  deriving DecidableEq
theorem eqv_net (a b : Str) : PyData.eqv (.str a) (.str b) = decide (a = b) := by
  simp only [PyData.eqv]
  exact PySem.W.beq_decide a b
instance : Datum Net where
  toD n := .tuple [.str "net", Datum.toD n.ins, Datum.toD n.starts, Datum.toD n.gates, Datum.toD n.nexts, Datum.toD n.outs]
  plain n := by simp only [PyData.plain, PyData.plainAll, Datum.plain, Bool.and_self]
  eqv a b := by
    simp only [PyData.eqv, PyData.eqvAll, Datum.eqv, Bool.and_true]
    rw [PySem.W.beq_decide, ← Bool.decide_and, ← Bool.decide_and, ← Bool.decide_and, ← Bool.decide_and, ← Bool.decide_and]
    refine decide_eq_decide.mpr ⟨fun ⟨_, h1, h2, h3, h4, h5⟩ => ?_, fun e => by rw [e]; exact ⟨rfl, rfl, rfl, rfl, rfl, rfl⟩⟩
    cases a
    cases b
    simp only at h1 h2 h3 h4 h5
    rw [h1, h2, h3, h4, h5]
  depth := 3
  depth_le n := by
    have h1 := Datum.depth_le n.ins
    have h2 := Datum.depth_le n.starts
    have h3 := Datum.depth_le n.gates
    have h4 := Datum.depth_le n.nexts
    have h5 := Datum.depth_le n.outs
    have e1 : Datum.depth Nat = 0 := rfl
    have e2 : Datum.depth (List Nat) = 1 := rfl
    have e3 : Datum.depth (List (Nat × Nat)) = 2 := rfl
    rw [e1] at h1
    rw [e2] at h2 h4 h5
    rw [e3] at h3
    simp only [PyData.depth, PyData.depthAll]
    omega
instance : Dm Net where
  lay n := by
    have h1 := Dm.lay n.ins
    have h2 := Dm.lay n.starts
    have h3 := Dm.lay n.gates
    have h4 := Dm.lay n.nexts
    have h5 := Dm.lay n.outs
    simp only [Datum.toD] at h1 h2 h3 h4 h5 ⊢
    simp only [PyData.canLay0, PyData.canLayAll0, Bool.and_true] at h1 h2 h3 h4 h5 ⊢
    rw [h2, h3, h4, h5]
    decide +kernel
section
theorem Dv.net_inv {H : Hp} {v : V} {n : Net} (h : Dv H v n) : ∃ a s g x o, v = .ref a ∧ H a = some (.tup [.str "net", .int (n.ins : Int), .ref s, .ref g, .ref x, .ref o]) ∧
    Dv H (.ref s) n.starts ∧ Dv H (.ref g) n.gates ∧ Dv H (.ref x) n.nexts ∧ Dv H (.ref o) n.outs := by
  unfold Dv at h
  cases h with
  | tup h1 h2 =>
    cases h2 with
    | cons a1 h2 =>
      cases h2 with
      | cons a2 h2 =>
        cases h2 with
        | cons a3 h2 =>
          cases h2 with
          | cons a4 h2 =>
            cases h2 with
            | cons a5 h2 =>
              cases h2 with
              | cons a6 h2 =>
                cases h2
                cases a1
                have e2 := Dv.nat_inv (n := n.ins) a2
                subst e2
                obtain ⟨s, _, rfl, _⟩ := Dv.list_inv (xs := n.starts) a3
                obtain ⟨g, _, rfl, _⟩ := Dv.list_inv (xs := n.gates) a4
                obtain ⟨x, _, rfl, _⟩ := Dv.list_inv (xs := n.nexts) a5
                obtain ⟨o, _, rfl, _⟩ := Dv.list_inv (xs := n.outs) a6
                exact ⟨_, _, _, _, _, rfl, h1, a3, a4, a5, a6⟩
theorem Dv.net {H : Hp} {a : Addr} {n : Net} {s g x o : V} (h : H a = some (.tup [.str "net", .int (n.ins : Int), s, g, x, o])) (h1 : Dv H s n.starts) (h2 : Dv H g n.gates) (h3 : Dv H x n.nexts) (h4 : Dv H o n.outs) : Dv H (.ref a) n :=
  Dh.tup h (.cons (.str _) (.cons (.int _) (.cons h1 (.cons h2 (.cons h3 (.cons h4 .nil))))))
end
/-- how many nodes there are behind the inputs and flops -/
def Net.base (n : Net) : Nat := 1 + n.ins + n.starts.length
def Net.many (n : Net) : Nat := n.base + n.gates.length
structure Net.Ok (n : Net) (ins flops most : Nat) : Prop where
  ins : n.ins ≤ ins
  fl : n.starts.length ≤ flops
  bits : ∀ b ∈ n.starts, b < 2
  most : n.gates.length ≤ most
  g : ∀ j g, n.gates[j]? = some g → g.1 < 2 * (n.base + j) ∧ g.2 < 2 * (n.base + j)
  nl : n.nexts.length = n.starts.length
  nx : ∀ x ∈ n.nexts, x < 2 * n.many
  ol : n.outs.length ≤ 3
  ox : ∀ x ∈ n.outs, x < 2 * n.many
/-- a literal's bit in a row of values -/
def bitv (row : List Nat) (l : Nat) : Nat := (row[l / 2]?.getD 0) ^^^ (l % 2)
def rowOf (gs : List (Nat × Nat)) (row : List Nat) : List Nat := gs.foldl (fun r g => r ++ [bitv r g.1 * bitv r g.2]) row
def Net.row (n : Net) (held bits : List Nat) : List Nat := rowOf n.gates (0 :: bits ++ held)
theorem rowOf_len (gs : List (Nat × Nat)) (r : List Nat) : (rowOf gs r).length = r.length + gs.length := by
  induction gs generalizing r with
  | nil => rfl
  | cons g gs ih =>
    show (rowOf gs _).length = _
    rw [ih, List.length_append, List.length_cons, List.length_cons, List.length_nil]
    omega
theorem rowOf_snoc (gs : List (Nat × Nat)) (g : Nat × Nat) (r : List Nat) : rowOf (gs ++ [g]) r = rowOf gs r ++ [bitv (rowOf gs r) g.1 * bitv (rowOf gs r) g.2] := by
  unfold rowOf
  rw [List.foldl_append]
  rfl
theorem bitv_lt {row : List Nat} (h : ∀ b ∈ row, b < 2) (l : Nat) : bitv row l < 2 := by
  have h1 : row[l / 2]?.getD 0 < 2 := by
    cases e : row[l / 2]? with
    | none => decide
    | some x => exact h x (List.mem_of_getElem? e)
  exact Nat.xor_lt_two_pow (n := 1) h1 (Nat.mod_lt _ (by decide))
theorem mul_lt2 {a b : Nat} (ha : a < 2) (hb : b < 2) : a * b < 2 := by
  have : a = 0 ∨ a = 1 := by omega
  rcases this with rfl | rfl <;> omega
theorem rowOf_lt {gs : List (Nat × Nat)} {r : List Nat} (h : ∀ b ∈ r, b < 2) : ∀ b ∈ rowOf gs r, b < 2 := by
  induction gs generalizing r with
  | nil => exact h
  | cons g gs ih =>
    refine ih (r := r ++ [_]) fun b hb => ?_
    rcases List.mem_append.mp hb with hb | hb
    · exact h b hb
    · rw [List.mem_singleton.mp hb]
      exact mul_lt2 (bitv_lt h _) (bitv_lt h _)
theorem take_snoc {α : Type} {xs : List α} {i : Nat} {x : α} (h : xs[i]? = some x) : xs.take (i + 1) = xs.take i ++ [x] := by
  rw [List.take_add_one, h]
  rfl
theorem get_snoc {α : Type} {xs : List α} {x y : α} {k : Nat} (h : (xs ++ [x])[k]? = some y) : (k < xs.length ∧ xs[k]? = some y) ∨ (k = xs.length ∧ y = x) := by
  by_cases hk : k < xs.length
  · rw [List.getElem?_append_left hk] at h
    exact .inl ⟨hk, h⟩
  · rw [List.getElem?_append_right (by omega)] at h
    have e : k - xs.length = 0 := by
      cases e : k - xs.length with
      | zero => rfl
      | succ j =>
        rw [e] at h
        simp at h
    rw [e] at h
    cases h
    exact .inr ⟨by omega, rfl⟩
theorem mem_snoc {α : Type} {P : α → Prop} {xs : List α} {x : α} (h : ∀ y ∈ xs, P y) (hx : P x) : ∀ y ∈ xs ++ [x], P y := by
  intro y hy
  rcases List.mem_append.mp hy with hy | hy
  · exact h y hy
  · rw [List.mem_singleton.mp hy]
    exact hx
theorem vn_snoc (xs : List Nat) (x : Nat) : vn xs ++ [V.int (x : Int)] = vn (xs ++ [x]) := by
  unfold vn
  rw [List.map_append]
  rfl
theorem cut_nn (xs : List Nat) {a b : Nat} (h1 : a ≤ b) (h2 : b ≤ xs.length) : cutV (vn xs) (some (a : Int)) (some (b : Int)) = vn ((xs.drop a).take (b - a)) := by
  unfold cutV
  rw [HT.sIx_nat, HT.sIx_nat, vn_len, Nat.min_eq_left h2, Nat.min_eq_left (Nat.le_trans h1 h2)]
  unfold vn
  rw [← List.map_drop, ← List.map_take]
theorem set_vn (xs : List Nat) (i x : Nat) : (vn xs).set i (.int (x : Int)) = vn (xs.set i x) := by
  unfold vn
  rw [List.map_set]
theorem mem_set {α : Type} {P : α → Prop} {xs : List α} {i : Nat} {x : α} (h : ∀ y ∈ xs, P y) (hx : P x) : ∀ y ∈ xs.set i x, P y := by
  intro y hy
  rcases List.mem_or_eq_of_mem_set hy with hy | rfl
  · exact h y hy
  · exact hx
theorem dec_bool (a b : Bool) : decide (V.bl a = V.bl b) = decide (a = b) := by rw [Bool.eq_iff_iff]; simp
theorem dec_int (a b : Int) : decide (V.int a = V.int b) = decide (a = b) := by rw [Bool.eq_iff_iff]; simp
theorem dec_nat (a b : Nat) : decide (V.int (a : Int) = V.int (b : Int)) = decide (a = b) := by
  rw [dec_int]
  exact decide_eq_decide.mpr ⟨fun e => by omega, fun e => by rw [e]⟩
theorem dec_one (a : Nat) : decide (V.int (a : Int) = V.int 1) = decide (a = 1) := dec_nat a 1
theorem flat_vn : ∀ xs : List Nat, (vn xs).all flatV = true
  | [] => rfl
  | y :: r => by
    show (true && (vn r).all flatV) = true
    rw [flat_vn r]
    rfl
theorem inV_vn (c : Nat) : ∀ xs : List Nat, inV (.int (c : Int)) (vn xs) = decide (c ∈ xs)
  | [] => by rfl
  | y :: r => by
    have ih := inV_vn c r
    show (eqV (.int (y : Int)) (.int (c : Int)) || inV (.int (c : Int)) (vn r)) = _
    rw [ih]
    show (((y : Int) == (c : Int)) || decide (c ∈ r)) = _
    by_cases h : c ∈ r
    · rw [decide_eq_true h, Bool.or_true, decide_eq_true (List.mem_cons_of_mem _ h)]
    · by_cases e : y = c
      · subst e
        rw [beq_self_eq_true, Bool.true_or, decide_eq_true List.mem_cons_self]
      · rw [beq_eq_false_iff_ne.mpr (fun z => e (by omega)), decide_eq_false h, Bool.or_false, decide_eq_false (fun m => ?_)]
        rcases List.mem_cons.mp m with m | m
        · exact e m.symm
        · exact h m
theorem bxor (a b : Nat) : Builtin.bitXor (a : Int) (b : Int) = ((a ^^^ b : Nat) : Int) := by
  rw [Bits.bitXor_pp (Int.natCast_nonneg _) (Int.natCast_nonneg _), Int.toNat_natCast, Int.toNat_natCast]
theorem fdiv_nat (a b : Nat) : ((a : Int)).fdiv (b : Int) = ((a / b : Nat) : Int) := by
  rw [Int.fdiv_eq_ediv_of_nonneg _ (by omega)]
  rfl
theorem fmod_nat (a b : Nat) : ((a : Int)).fmod (b : Int) = ((a % b : Nat) : Int) := by
  rw [Int.fmod_eq_emod_of_nonneg _ (by omega)]
  rfl
theorem nfdiv2 (a : Nat) : ((a : Int)).fdiv 2 = ((a / 2 : Nat) : Int) := fdiv_nat a 2
theorem nfmod2 (a : Nat) : ((a : Int)).fmod 2 = ((a % 2 : Nat) : Int) := fmod_nat a 2
end V0
/-! repr of data, where nothing is being shown; the law's call with what stands around it -/
namespace V0
open PySem PySem.Spec PyProof.Rows L2
open PySem.W (Datum)
def rRepr (K : PySem.W.Frag) : List V → Hp → VK → Prop := fun xs H Q => ∃ (a : Addr) (d : PyData), xs = [.ref a] ∧ Dp K H (.ref a) d ∧ (d.showable = true ∧ d.hasDict = false ∧ d.depth ≤ 60 ∧ d.shown.length ≤ sizeLine) ∧ Q (.str d.shown) H
theorem call_reprD {X : Cx} (hg : X.A.guards = some []) (hu : X.A.units + 64 < cLine) : CallR X (.builtin "repr") (rRepr X.K) := by
  intro pins s σ H xs us Q I r h
  obtain ⟨a, d, rfl, hd, ⟨h1, h2, h3, h4⟩, q⟩ := h
  obtain ⟨u, rfl, rx⟩ := vals1 r
  obtain ⟨as, rd⟩ := Dp.reads I d _ _ hd rx
  obtain rfl : u = Value.ref a := rx
  refine repr_of_reads' rd h1 (PyData.noDict_hsm h2) hg (by omega) (fun _ _ e => e) (fun h' t tk hk => ?_) h4
  exact ⟨.str _, H, I.kept hk, ⟨t, rfl⟩, q⟩
/-- data whose text is short -/
structure Sm (d : PyData) (n : Nat) : Prop where
  sh : d.showable = true
  lv : d.leavesShort 13 = true
  wt : d.weight ≤ n
structure SmA (ds : List PyData) (n : Nat) : Prop where
  sh : PyData.showableAll ds = true
  lv : PyData.leavesShortAll 13 ds = true
  wt : PyData.weightAll ds ≤ n
theorem Sm.mono {d : PyData} {n m : Nat} (h : Sm d n) (l : n ≤ m) : Sm d m := ⟨h.sh, h.lv, Nat.le_trans h.wt l⟩
theorem Sm.int {i : Int} (h : i.natAbs < 10 ^ 12) : Sm (.int i) 40 := by
  have hl : i.natAbs.log2 < 40 := by
    by_cases h0 : i.natAbs = 0
    · rw [h0]
      decide
    · exact (Nat.log2_lt h0).mpr (Nat.lt_trans h (by decide))
  refine ⟨?_, ?_, ?_⟩
  · simp only [PyData.showable, decide_eq_true_eq]
    omega
  · simp only [PyData.leavesShort, decide_eq_true_eq]
    exact PyData.shown_int_le h
  · simp only [PyData.weight]
    split <;> omega
theorem Sm.nat {n : Nat} (h : n < 10 ^ 12) : Sm (.int (n : Int)) 40 := Sm.int (by rw [Int.natAbs_natCast]; exact h)
theorem SmA.nil : SmA [] 0 := ⟨by simp only [PyData.showableAll], by simp only [PyData.leavesShortAll], by simp only [PyData.weightAll]; exact Nat.le_refl _⟩
theorem SmA.cons {d : PyData} {ds : List PyData} {n m : Nat} (h : Sm d n) (hs : SmA ds m) : SmA (d :: ds) (n + 1 + m) :=
  ⟨by simp only [PyData.showableAll, h.sh, hs.sh, Bool.and_self], by simp only [PyData.leavesShortAll, h.lv, hs.lv, Bool.and_self], by simp only [PyData.weightAll]; have := h.wt; have := hs.wt; omega⟩
theorem SmA.all {n : Nat} : ∀ {ds : List PyData}, (∀ d ∈ ds, Sm d n) → SmA ds (ds.length * (n + 1))
  | [], _ => by rw [List.length_nil, Nat.zero_mul]; exact SmA.nil
  | d :: ds, h => by
    have a := SmA.cons (h d List.mem_cons_self) (SmA.all (ds := ds) fun e he => h e (List.mem_cons_of_mem _ he))
    have e : (d :: ds).length * (n + 1) = n + 1 + ds.length * (n + 1) := by
      rw [List.length_cons, Nat.add_mul, Nat.one_mul]
      omega
    rw [e]
    exact a
theorem Sm.list {ds : List PyData} {n : Nat} (h : SmA ds n) : Sm (.list ds) n := ⟨by simp only [PyData.showable, h.sh], by simp only [PyData.leavesShort, h.lv], by simp only [PyData.weight]; exact h.wt⟩
theorem Sm.tup {ds : List PyData} {n : Nat} (h : SmA ds n) : Sm (.tuple ds) n := ⟨by simp only [PyData.showable, h.sh], by simp only [PyData.leavesShort, h.lv], by simp only [PyData.weight]; exact h.wt⟩
theorem Sm.bl (b : Bool) : Sm (.bool b) 0 := ⟨by simp only [PyData.showable], by simp only [PyData.leavesShort], by simp only [PyData.weight]; exact Nat.le_refl _⟩
section
variable {α : Type} [DecidableEq α] [Dm α]
theorem Sm.of_list {xs : List α} {n : Nat} (h : ∀ x ∈ xs, Sm (Datum.toD x) n) : Sm (Datum.toD xs) (xs.length * (n + 1)) := by
  have a := SmA.all (ds := xs.map Datum.toD) (n := n) fun d hd => by
    obtain ⟨x, hx, rfl⟩ := List.mem_map.mp hd
    exact h x hx
  rw [List.length_map] at a
  exact Sm.list a
theorem Sm.nats {xs : List Nat} (h : ∀ x ∈ xs, x < 10 ^ 12) : Sm (Datum.toD xs) (xs.length * 41) := Sm.of_list fun x hx => Sm.nat (h x hx)
theorem Sm.ints {xs : List Int} (h : ∀ x ∈ xs, x.natAbs < 10 ^ 12) : Sm (Datum.toD xs) (xs.length * 41) := Sm.of_list fun x hx => Sm.int (h x hx)
/-- what repr tells of x -/
def txt (x : α) : Str := (Datum.toD x).shown
theorem reprD {K : PySem.W.Frag} {H : Hp} {a : Addr} {x : α} {n : Nat} {Q : VK} (hx : Dv H (.ref a) x) (s : Sm (Datum.toD x) n) (hn : n ≤ 2 ^ 20) (hd : Datum.depth α ≤ 60) (q : Q (.str (txt x)) H) : rRepr K [.ref a] H Q :=
  ⟨a, _, rfl, dh_dp _ _ hx, ⟨s.sh, PyData.hasDict_of_canLay _ (Dm.lay x), Nat.le_trans (Datum.depth_le x) hd, PyData.shown_fits (by decide) (by decide) s.lv (Nat.le_trans s.wt hn)⟩, q⟩
theorem four (x : α) {n : Nat} (s : Sm (Datum.toD x) n) (hn : n ≤ 2 ^ 20) (hd : Datum.depth α ≤ 60) : (Datum.toD x).showable = true ∧ (Datum.toD x).hasDict = false ∧ (Datum.toD x).depth ≤ 60 ∧ (Datum.toD x).shown.length ≤ sizeLine :=
  ⟨s.sh, PyData.hasDict_of_canLay _ (Dm.lay x), Nat.le_trans (Datum.depth_le x) hd, PyData.shown_fits (by decide) (by decide) s.lv (Nat.le_trans s.wt hn)⟩
end
/-! ### the law's call -/
/-- the law's def from where a claim calls it -/
def LawOk (P : Program) (w : World) (K : PySem.W.Frag) (mg : Str → Option Value) (base : Heap) (f : Addr) (fd : FuncData) (ps : List Str) (sp : Sp) : Prop :=
  ∀ (s : Shared) (H : Hp) (args : Args) (us : List Value) (vs : List V) (Q : VK) (E : XK), Env0 P w K mg base callerA [] s H → BindsTo s fd args (ps.zip us) → Vals vs us → sp vs H Q E → codeAny (model P w) callerA (.call (.ref f) args) (CR CX0 [] P w H s Q E) s
theorem lawOk {P : Program} {w : World} {K : PySem.W.Frag} {mg : Str → Option Value} {base : Heap} {x qual : Str} {st : Stmt} {f : Addr} {fd : FuncData} {N ps : List Str} {k : Nat} {sp : Sp} (F : Fun K x qual st f fd) (S : FnScope N ps (defScope st)) (room : Room (k + 1) callerA)
    (len : ∀ vs H Q E, sp vs H Q E → vs.length = ps.length)
    (body : ∀ (cdv : Value) (A : Around) (outer : List Env) (s : Shared) (H : Hp) (vs : List V) (Q : VK) (E : XK), Room k (A.deeper (envOfC qual (defScope st) s.heap.objs.size f cdv)) → (A.deeper (envOfC qual (defScope st) s.heap.objs.size f cdv)).guards = some [] → sp vs H Q E →
      ∃ t, PSs (cxOf CX0 P w K mg base N qual (defScope st) f cdv A outer s H E).nox (defBody st) t ∧ t { nx := fun _ H' => Q .non H', rt := Q } (L2.start N vs) H) : LawOk P w K mg base f fd ps sp := by
  obtain ⟨_, _, _, _, _, _, cdv, _, _, rfl, look, cod⟩ := F.ex
  intro s H args us vs Q E env bind rel want
  have inK : K.In s.heap := env.mod.kin.keeps fun b o g => (env.bs b o g).1
  have free : s.heap.NoLimit := env.mod.nolimit.keeps fun b o g => (env.bs b o g).1
  have vis : ∀ y ∈ ps.zip us, (defScope st).names.lookup y.1 = some .local ∨ ((defScope st).names.lookup y.1 = some .cell ∧ ((cellsFrom (s.heap.objs.size + 1) (defScope st).names []).lookup y.1).isSome = true) := by
    rintro ⟨n, v⟩ hy
    exact (S.par n (List.of_mem_zip hy).1).imp id fun c => ⟨c, PySem.W.cellsFrom_some _ _ _ (.inl c)⟩
  refine codeAny_call_function room.depth (inK _ _ look) rfl S.co S.gen rfl (PySem.W.codeRec_of inK cod) (bind _ _ _ _ ?_)
  refine wpAny_newFunctionEnv_cells S.kind vis fun env1 he s1 made => ?_
  subst he
  refine ⟨free.keeps made.toInCall.keep, codeAny_func ?_⟩
  obtain ⟨t, ht, ok⟩ := body cdv callerA [] s H vs Q E (room.deeper _) rfl want
  have I := inv_start (CX := CX0) (E := E) S room.hd env (len _ _ _ _ want) rel made
  refine wpAny_mono ((ht.nox).run [] s1 (L2.start N vs) H _ I ok) (fun fl s' told => ?_) fun e s' told => told
  cases fl with
  | next =>
    obtain ⟨_, H', J, done⟩ := told
    exact ⟨.non, H', J.os, J.bare, J.base, J.hok, rfl, done⟩
  | ret u =>
    obtain ⟨v, _, H', J, rv, done⟩ := told
    exact ⟨v, H', J.os, J.bare, J.base, J.hok, rv, done⟩
  | brk => exact told.elim fun _ h => h.elim fun _ h => h.2.elim
  | cont => exact told.elim fun _ h => h.elim fun _ h => h.2.elim
theorem law_at {P : Program} {w : World} {K : PySem.W.Frag} {mg mb : Str → Option Value} {f a : Addr} {fd : FuncData} {x : Str} {sp : Sp} {s : Shared} {us : List Value} {ns : List Int}
    (kin : K.In s.heap) (glob : s.heap.Ns mainGlobals mg) (blt : s.heap.Ns builtinsNs mb) (same : ∀ y : Str, y ≠ "__name__" → mb y = bootBuiltins y) (free : s.heap.NoLimit) (gens : s.gens = #[])
    (script : s.heap.get? a = some { cls := .type "list", data := .seq us.toArray }) (whole : IntsAre us ns) (few : ns.length ≤ sizeLine)
    (F : ∀ base : Heap, K.In base → base.Ns mainGlobals mg → LawOk P w K mg base f fd [x] sp) (binds : ∀ (t : Shared) (u : Value), BindsTo t fd ⟨[u], []⟩ [(x, u)])
    (want : ∀ H : Hp, Only H → SqL K H a (ns.map V.int) → sp [.ref a] H (fun v _ => v = .bl true) fun _ _ _ => False) :
    codeAny (model P w) callerA (.call (.ref f) ⟨[.ref a], []⟩) (fun r t => r = .ok (.ret (.bool true)) ∧ OldK s.heap t.heap ∧ t.os = s.os ∧ AllBare t.gens) s := by
  have rel := vals_ints whole
  have long := whole.length
  -- what is tracked at the start: the script, if it is not one of the module's own objects
  obtain ⟨H, only, seq, fits, dom, own⟩ : ∃ H : Hp, Only H ∧ SqL K H a (ns.map V.int) ∧ HOk P w H s.heap ∧ (∀ b o, H b = some o → b = a) ∧ (∀ o, H a = some o → K.lookup a = none) := by
    cases kl : K.lookup a with
    | some o =>
      have g := kin a o kl
      rw [script] at g
      cases g
      refine ⟨fun _ => none, fun _ => .inl rfl, .inr ⟨_, us.toArray, _, kl, rfl, rfl, rfl, ?_, ?_⟩, ?_, ?_, ?_⟩
      · rw [List.size_toArray, long]
        exact few
      · rw [List.toList_toArray]
        exact rel
      · intro b u z
        cases z
      · intro b u z
        cases z
      · intro u z
        cases z
    | none =>
      let fz : HO := .frz { cls := .type "list", data := .seq us.toArray } (.lst (ns.map V.int))
      have at_a : (fun b => if b = a then some fz else none : Hp) a = some fz := if_pos rfl
      have off_a : ∀ {b : Addr}, b ≠ a → (fun b => if b = a then some fz else none : Hp) b = none := fun h => if_neg h
      refine ⟨fun b => if b = a then some fz else none, fun b => ?_, .inl (.inr ⟨_, at_a⟩), fun b u z => ?_, fun b u z => ?_, fun _ _ => rfl⟩
      · by_cases e : b = a
        · subst e
          exact .inr ⟨_, _, at_a⟩
        · exact .inl (off_a e)
      · by_cases e : b = a
        · subst e
          rw [at_a] at z
          cases z
          refine ⟨script, ?_, us, _, rel, script⟩
          rw [List.length_map]
          exact few
        · rw [off_a e] at z
          cases z
      · by_cases e : b = a
        · exact e
        · rw [off_a e] at z
          cases z
  have under : ∀ {b : Addr} {o : Obj}, s.heap.get? b = some o → H b = none → (hidT s.heap H).get? b = some o := fun g n => hidT_get g n
  have dicts : ∀ {b : Addr} {m : Str → Option Value}, s.heap.Ns b m → (hidT s.heap H).Ns b m := by
    rintro b m ⟨o, es, ep, g, d, r⟩
    refine ⟨o, es, ep, under g ?_, d, r⟩
    cases hb : H b with
    | none => rfl
    | some u =>
      obtain rfl := dom b u hb
      rw [script] at g
      cases g
      cases d
  have kinB : K.In (hidT s.heap H) := by
    intro b o kl
    refine under (kin b o kl) ?_
    cases hb : H b with
    | none => rfl
    | some u =>
      obtain rfl := dom b u hb
      rw [own u hb] at kl
      cases kl
  have modB : Mod K mg (hidT s.heap H) := by
    refine ⟨kinB, dicts glob, ⟨mb, dicts blt, same⟩, ?_⟩
    obtain ⟨mc, z1, z2⟩ := free
    exact ⟨mc, dicts z1, z2⟩
  have env : Env0 P w K mg (hidT s.heap H) callerA [] s H :=
    ⟨rfl, modB, fun b o g => of_hidT g, Nat.le_of_eq (hidT_size _ _), trivial, fun b hb => (by cases hb), fits, .of_eq gens⟩
  refine codeAny_mono (F _ kinB (dicts glob) s H ⟨[.ref a], []⟩ [.ref a] [.ref a] _ _ env (binds s (.ref a)) (.cons rfl .nil) (want H only seq)) fun r t told => ?_
  match r, told with
  | .error e, told => exact told.elim
  | .ok .next, told => exact told.elim
  | .ok .brk, told => exact told.elim
  | .ok .cont, told => exact told.elim
  | .ok (.ret u), ⟨v, H', os, bare, un, fits', rv, yes⟩ =>
    have yes' : v = .bl true := yes
    subst yes'
    have eu : u = Value.bool true := rv
    subst eu
    refine ⟨rfl, OldK.of_keep fun b o g => ?_, os, bare⟩
    cases hb : H b with
    | none => exact un.keep b o g hb (fun z => (by cases z)) (by simp)
    | some u2 =>
      rcases only b with z | ⟨ob, xs, z⟩
      · rw [z] at hb
        cases hb
      · obtain ⟨e1, _⟩ := fits b _ z
        obtain ⟨e2, _⟩ := fits' b _ (un.frzs b ob _ z)
        rw [g] at e1
        cases e1
        exact e2
/-- the goal that k_head leaves, where the law's promise is LawOk -/
theorem walk_at {l : PySem.W.OpenLaw} {n : Nat} {q : Program} {loose : List Str} {XP : (Str → Option Value) → Heap → Prop} {YP : World → Heap → Prop} {d : DefRec} {K : Params → PySem.W.Frag} {sp : PySem.W.Frag → Sp} {x : Str}
    (hn : l.most = some n) (hs : n ≤ sizeLine) (plain : d.params.defaults = []) (hY : ∀ (w : World) (h : Heap), YP w h → (K w.params).In h)
    (F : ∀ (w : World) (mg : Str → Option Value) (f : Addr) (h : Heap), (K w.params).In h → h.Ns mainGlobals mg → mg d.name = some (.ref f) →
      ∃ fd : FuncData, (∀ (s : Shared) (u : Value), BindsTo s fd ⟨[u], []⟩ [(x, u)]) ∧ ∀ base : Heap, (K w.params).In base → base.Ns mainGlobals mg → LawOk l.prog w (K w.params) mg base f fd [x] (sp (K w.params)))
    (want : ∀ (K : PySem.W.Frag) (H : Hp) (a : Addr) (ns : List Int), ns.length ≤ n → Only H → SqL K H a (ns.map V.int) → sp K [.ref a] H (fun v _ => v = .bl true) fun _ _ _ => False) :
    PySem.W.WalkO q loose XP YP l.row.toRowW d [] (fun f vs => PySem.call f vs) := by
  refine Att.attach_call hn plain fun w _ s1 mg mb f _ _ _ _ a us ns G Y _ _ _ named obj whole few gens => ?_
  have kin := hY w _ Y
  obtain ⟨fd, binds, told⟩ := F w mg f _ kin G.T.g named
  exact law_at kin G.T.g G.T.b G.T.builtins G.T.nolimit gens obj whole (Nat.le_trans few hs) told binds fun H only seq => want _ H a ns few only seq
end V0
/-! set(xs) of a list of whole numbers, and len of such a set -/
namespace V0
open PySem PySem.Spec PyProof.Rows L2
/-- the set that set.__new__ leaves -/
def bare (w : World) : Obj := { cls := .type "set", dict := none, data := .set #[] 0 (.fresh 0 0 (!w.params.followText "set-order")) }
section
variable {P : Program} {w : World} {A : Around} {E : Value → Shared → Prop} {s : Shared}
/-- what set.__init__ does with a list of ints -/
theorem set_filled {l : Addr} {arr : Array Value} {xs : List Int} {R : Value → Shared → Prop} (calm : A.handled = none) (lst : s.heap.IsList l arr) (num : IntsAre arr.toList xs) (few : xs.length + 1 < scanBound)
    (told : ∀ (h' : Heap) (tk c : Nat), SetR w h' s.heap.objs.size (fun j => decide (j ∈ xs)) c → c ≤ xs.length → (∀ b o, s.heap.get? b = some o → h'.get? b = some o) → R .none { s with heap := h', toks := tk }) :
    codeAny (model P w) A (.call (.builtin "set.__init__") ⟨[.ref s.heap.objs.size, .ref l], []⟩) (wants R E) { s with heap := s.heap.push (bare w) } := by
  have own : (s.heap.push (bare w)).get? s.heap.objs.size = some (bare w) := Heap.get?_push_size _ rfl
  have kind : Shared.TypeIs { s with heap := s.heap.push (bare w) } (.ref s.heap.objs.size) "set" := ⟨_, own, rfl⟩
  have many : arr.size = xs.length := by rw [← Array.length_toList, IntsAre.length num]
  refine codeAny_call_builtin F.called_set.init.plain F.entry_set_init (check_set_init_1 kind ?_)
  obtain ⟨⟨cl, od, dat, sl⟩, at_l, is_l, nn, is_d⟩ := lst
  dsimp only at is_l is_d
  subst is_l is_d
  have below := Heap.lt_size at_l
  have at_l1 : (s.heap.push (bare w)).get? l = some ⟨.type "list", od, .seq arr nn, sl⟩ := Heap.get?_push_of_some _ at_l
  have lst1 : (s.heap.push (bare w)).IsList l arr := ⟨_, at_l1, rfl, nn, rfl⟩
  have no1 := F.sub_list_set
  have no2 := F.sub_list_frozenset
  have no3 : (Value.type "list" == Value.type "dict") = false := by decide
  unfold Builtin.«set.__init__» noKeywords Builtin.Frozenset.updateFrom
  generalize walker : pyIter = PI
  wp_walk
  subst walker
  refine wpAny_pyIter_list lst1 (wpAny_bind (wpAny_runValue ?_))
  have size1 : (s.heap.push (bare w)).objs.size = s.heap.objs.size + 1 := Heap.size_push ..
  have ne1 : l ≠ (s.heap.push (bare w)).objs.size := size1 ▸ Nat.ne_of_lt (Nat.lt_succ_of_lt below)
  have calm3 : A.in1.in1.handled = none := by simp [calm]
  have out : s.heap.objs.size ∉ [(s.heap.push (bare w)).objs.size, l] := by
    intro hm
    rcases List.mem_cons.mp hm with e | hm
    · rw [size1] at e
      exact Nat.ne_of_lt (Nat.lt_succ_self _) e
    · exact Nat.ne_of_lt below (List.mem_singleton.mp hm).symm
  have each : ∀ (i : Nat) (v : Value), arr[i]? = some v → ∃ k t, xs[i]? = some k ∧ v = .int k t := by
    intro i v hv
    have hi : i < xs.length := many ▸ (Array.getElem?_eq_some_iff.mp hv).1
    obtain ⟨t, e⟩ := PyProof.Rows.IntsAre.int_at num i v ((Array.getElem?_toList ..).trans hv)
    refine ⟨xs[i], t, List.getElem?_eq_getElem hi, ?_⟩
    rw [e, List.getD_eq_getElem?_getD, List.getElem?_eq_getElem hi]
    rfl
  refine set_update_ints ((Walks.list calm3 _ l ne1 arr).toS) s.heap.objs.size out xs many few each (arr.size - 0) 0 _ (by omega) (Nat.zero_le _) ⟨⟨_, Heap.get?_push_size _ rfl, rfl, rfl⟩, lst1.push _⟩ ⟨0, Nat.le_refl 0, setR_new_at (Heap.get?_push_of_some _ own)⟩ ?_
  rintro ⟨h', g', d', tk', os'⟩ c moved bound full
  obtain rfl : g' = s.gens := moved.gens
  obtain rfl : d' = s.drawn := moved.drawn
  obtain rfl : os' = s.os := moved.os
  show wpAny _ _ _ _ _ _
  refine wpAny_pure ?_
  show wpAny _ _ (ret Value.none) _ _ _
  refine wpAny_pure (told h' tk' c full (many ▸ bound) fun b o e => ?_)
  have low := Heap.lt_size e
  refine moved.heap b o ?_ (Heap.get?_push_of_some _ (Heap.get?_push_of_some _ e))
  intro hm
  rcases List.mem_cons.mp hm with z | hm
  · exact Nat.ne_of_lt low z
  · have z := List.mem_singleton.mp hm
    rw [size1] at z
    exact Nat.ne_of_lt (Nat.lt_succ_of_lt low) z
theorem call_set_ints {l : Addr} {arr : Array Value} {xs : List Int} {Q : Value → Shared → Prop} (calm : A.handled = none) (lst : s.heap.IsList l arr) (num : IntsAre arr.toList xs) (few : xs.length + 1 < scanBound)
    (then_ : ∀ (h' : Heap) (tk c : Nat), SetR w h' s.heap.objs.size (fun j => decide (j ∈ xs)) c → c ≤ xs.length → (∀ b o, s.heap.get? b = some o → h'.get? b = some o) → Q (.ref s.heap.objs.size) { s with heap := h', toks := tk }) :
    wpAny (model P w) A (call (.type "set") [.ref l]) Q E s := by
  obtain ⟨_, _, order⟩ := F.called_set.mro
  have made := F.called_set.made
  have below := F.called_set.sub
  refine wpAny_call (codeAny_of_tree ?_)
  show wpAny _ _ (callAny (.type "set") ⟨[.ref l], []⟩) _ _ s
  refine wpAny_pure ⟨Code.quiet_builtin _ (by decide +kernel), codeAny_builtin F.entry_type_call ?_⟩
  rw [Around.under_plain (weight_type_call_type "set" [.ref l] []) rfl]
  have f1 := F.called_set.notType
  have f2 := F.called_set.canCreate
  have f3 := F.typeCall_set_1 (.ref l)
  repeat (any_goals (first | assumption | wp_step))
  refine codeAny_mono (code_set_led1 (.ref l) (E := E) (Q₁ := fun u t => u = .ref s.heap.objs.size ∧ t = { s with heap := s.heap.push (bare w) }) ⟨rfl, rfl⟩) fun r t first => ?_
  match r, first with
  | .error e, first => exact first
  | .ok .next, first => exact first.elim
  | .ok .brk, first => exact first.elim
  | .ok .cont, first => exact first.elim
  | .ok (.ret u), ⟨eu, et⟩ =>
    subst eu et
    have kind : Shared.TypeIs { s with heap := s.heap.push (bare w) } (.ref s.heap.objs.size) "set" := ⟨_, Heap.get?_push_size _ rfl, rfl⟩
    have f4 := F.called_set.init.lookup
    have f5 := F.called_set.init.bind (.ref s.heap.objs.size)
    repeat (any_goals (first | assumption | wp_step))
    refine codeAny_mono (set_filled (A := _) (E := E) (R := fun v t => v = .none ∧ ∃ h' tk c, t = { s with heap := h', toks := tk } ∧ SetR w h' s.heap.objs.size (fun j => decide (j ∈ xs)) c ∧ c ≤ xs.length ∧ (∀ b o, s.heap.get? b = some o → h'.get? b = some o)) (by simp [calm]) lst num few fun h' tk c a b k => ⟨rfl, h', tk, c, rfl, a, b, k⟩) fun r t second => ?_
    match r, second with
    | .error e, second => exact second
    | .ok .next, second => exact second.elim
    | .ok .brk, second => exact second.elim
    | .ok .cont, second => exact second.elim
    | .ok (.ret v), ⟨ev, h', tk, c, et, a, b, k⟩ =>
      subst ev et
      repeat (any_goals (first | assumption | wp_step))
      exact then_ _ _ _ a b k
end
/-- set(xs) -/
def rSetOf (K : PySem.W.Frag) (w : World) : List V → Hp → VK → Prop := fun vs H Q => ∃ (l : Addr) (xs : List Int), vs = [.ref l] ∧ SqL K H l (xs.map V.int) ∧ xs.length ≤ 4000 ∧ ∀ p c, H p = none → c ≤ xs.length → Q (.ref p) (upd H p (SetO w p (fun j => decide (j ∈ xs)) c))
theorem cr_setOf {X : Cx} (hc : X.calm = true) : CallR X (.type "set") (rSetOf X.K X.w) := by
  intro pins s σ H vs us Q I r h
  obtain ⟨l, xs, rfl, seq, few, q⟩ := h
  obtain rfl := Vals.ref1 r
  obtain ⟨its, rv, pl, _⟩ := I.list seq
  have num : IntsAre its xs := intsAre_of rv
  refine call_set_ints (I.ok.hd hc) pl.isList (by simpa using num) (by unfold scanBound; omega) fun h' tk c full bound k => ?_
  exact ⟨.ref _, _, I.laid (t' := tk) k (Nat.le_refl _) (setO_new full), rfl, q _ c (I.hok.fresh (Nat.le_refl _)) bound⟩
/-- the ascending list of what stands in xs -/
theorem asc_mem {ns : List Int} {xs : List Nat} (h1 : ns.Pairwise (· < ·)) (h2 : ∀ k : Int, k ∈ ns ↔ k ∈ xs.map (fun (x : Nat) => (x : Int))) : ∃ ys : List Nat, ns = ys.map (fun (x : Nat) => (x : Int)) ∧ ys.Pairwise (· < ·) ∧ ∀ y, y ∈ ys ↔ y ∈ xs := by
  refine ⟨ns.map Int.toNat, ?_, ?_, ?_⟩
  · rw [List.map_map]
    refine (List.map_id ns).symm.trans (List.map_congr_left fun k hk => ?_)
    obtain ⟨x, _, rfl⟩ := List.mem_map.mp ((h2 k).mp hk)
    rfl
  · rw [List.pairwise_map]
    refine h1.imp_of_mem fun {a b} ha hb hab => ?_
    obtain ⟨x, _, rfl⟩ := List.mem_map.mp ((h2 a).mp ha)
    obtain ⟨y, _, rfl⟩ := List.mem_map.mp ((h2 b).mp hb)
    show (x : Int).toNat < (y : Int).toNat
    omega
  · intro y
    rw [List.mem_map]
    constructor
    · rintro ⟨k, hk, rfl⟩
      obtain ⟨x, hx, rfl⟩ := List.mem_map.mp ((h2 k).mp hk)
      exact hx
    · intro hy
      exact ⟨(y : Int), (h2 _).mpr (List.mem_map.mpr ⟨y, hy, rfl⟩), rfl⟩
theorem asc_unique : ∀ {xs ys : List Nat}, xs.Pairwise (· < ·) → ys.Pairwise (· < ·) → (∀ y, y ∈ xs ↔ y ∈ ys) → xs = ys
  | [], [], _, _, _ => rfl
  | [], y :: ys, _, _, h => by
    have := (h y).mpr List.mem_cons_self
    cases this
  | x :: xs, [], _, _, h => by
    have := (h x).mp List.mem_cons_self
    cases this
  | x :: xs, y :: ys, h1, h2, h => by
    rw [List.pairwise_cons] at h1 h2
    have e : x = y := by
      have a := (h x).mp List.mem_cons_self
      have b := (h y).mpr List.mem_cons_self
      rcases List.mem_cons.mp a with a | a
      · exact a
      · rcases List.mem_cons.mp b with b | b
        · exact b.symm
        · have c := h1.1 y b
          have d := h2.1 x a
          omega
    subst e
    rw [asc_unique h1.2 h2.2 fun z => ?_]
    have hz := h z
    rw [List.mem_cons, List.mem_cons] at hz
    constructor
    · intro m
      rcases hz.mp (.inr m) with rfl | m2
      · exact absurd (h1.1 z m) (Nat.lt_irrefl _)
      · exact m2
    · intro m
      rcases hz.mpr (.inr m) with rfl | m2
      · exact absurd (h2.1 z m) (Nat.lt_irrefl _)
      · exact m2
abbrev toI (xs : List Nat) : List Int := xs.map (fun (b : Nat) => (b : Int))
theorem vn_int (xs : List Nat) : vn xs = (toI xs).map V.int := by
  unfold toI
  rw [List.map_map]
  rfl
/-- sorted(set(xs)) -/
theorem sorted_set_nat {K : PySem.W.Frag} {w : World} {H : Hp} {l : Addr} {xs : List Nat} {Q : VK} (h : H l = some (.lst (vn xs))) (few : xs.length < 64)
    (q : ∀ p ys H', Same H H' → H p = none → H' p = some (.lst (vn ys)) → ys.Pairwise (· < ·) → (∀ y, y ∈ ys ↔ y ∈ xs) → ys.length ≤ xs.length → Q (.ref p) H') :
    rSetOf K w [.ref l] H (fun z Hz => rSortedSet w [z] Hz Q) := by
  refine ⟨l, toI xs, rfl, SqL.of (by rw [h, vn_int]), by rw [List.length_map]; omega, fun pz c nz hc => ⟨pz, _, c, rfl, upd_same, ?_, fun ns p asc mem len np => ?_⟩⟩
  · rw [List.length_map] at hc
    omega
  · obtain ⟨ys, rfl, h1, h2⟩ := asc_mem (xs := xs) asc fun k => by rw [mem k, decide_eq_true_eq]
    rw [List.length_map] at hc len
    have s1 := same_new (o := SetO w pz (fun j => decide (j ∈ toI xs)) c) nz
    refine q p ys _ (s1.trans (same_new np)) (none_of s1 np) ?_ h1 h2 (by omega)
    rw [upd_same, vn_int]
theorem perm_asc {ns : List Int} {ks : List Nat} (h1 : ns.Perm (toI ks)) (h2 : ns.Pairwise (· ≤ ·)) (nd : ks.Nodup) : ∃ zs : List Nat, ns = toI zs ∧ zs.Pairwise (· < ·) ∧ ∀ y, y ∈ zs ↔ y ∈ ks := by
  have nd1 : (toI ks).Nodup := by
    show List.Pairwise (· ≠ ·) (List.map _ ks)
    rw [List.pairwise_map]
    have nd' : ks.Pairwise (· ≠ ·) := nd
    exact nd'.imp fun {a b} h e => h (by omega)
  have nd2 : ns.Nodup := h1.nodup_iff.mpr nd1
  have h3 : ns.Pairwise (· < ·) := by
    have h4 : ns.Pairwise (· ≠ ·) := nd2
    exact (h2.and h4).imp fun {a b} h => by omega
  exact asc_mem h3 fun k => h1.mem_iff
/-! ### marks in a dict -/
def mkD (ks : List Nat) : List (Key × V) := ks.map fun (x : Nat) => (Sum.inl (x : Int), V.bl true)
theorem mkD_val (ks : List Nat) (y : Nat) : valV (mkD ks) (Sum.inl (y : Int)) = if y ∈ ks then some (V.bl true) else none := by
  induction ks with
  | nil =>
    rw [if_neg List.not_mem_nil]
    rfl
  | cons x r ih =>
    show valV ((Sum.inl (x : Int), V.bl true) :: mkD r) _ = _
    by_cases e : x = y
    · subst e
      rw [valV_pos (p := (Sum.inl (x : Int), V.bl true)) rfl, if_pos List.mem_cons_self]
    · rw [valV_neg (p := (Sum.inl (x : Int), V.bl true)) (fun z => e (by have := Sum.inl.inj z; omega)), ih]
      by_cases h : y ∈ r
      · rw [if_pos h, if_pos (List.mem_cons_of_mem _ h)]
      · rw [if_neg h, if_neg (fun m => (List.mem_cons.mp m).elim (fun z => e z.symm) h)]
def addN (ks : List Nat) (y : Nat) : List Nat := if y ∈ ks then ks else ks ++ [y]
theorem mkD_put (ks : List Nat) (y : Nat) : putK (mkD ks) (Sum.inl (y : Int)) (V.bl true) = mkD (addN ks y) := by
  unfold addN
  have hv := mkD_val ks y
  by_cases h : y ∈ ks
  · rw [if_pos h]
    rw [if_pos h] at hv
    have ha : ((mkD ks).any fun kv => decide (kv.1 = Sum.inl (y : Int))) = true := by rw [valV_any, hv]; rfl
    unfold putK
    rw [if_pos ha]
    unfold mkD
    rw [List.map_map]
    refine List.map_congr_left fun x _ => ?_
    show (if (Sum.inl (x : Int) : Key) = Sum.inl (y : Int) then ((Sum.inl (x : Int) : Key), V.bl true) else (Sum.inl (x : Int), V.bl true)) = _
    split <;> rfl
  · rw [if_neg h] at hv ⊢
    rw [putK_new _ hv]
    unfold mkD
    rw [List.map_append]
    rfl
theorem addN_mem (ks : List Nat) (y z : Nat) : z ∈ addN ks y ↔ z ∈ ks ∨ z = y := by
  unfold addN
  split
  · rename_i h
    constructor
    · exact .inl
    · rintro (m | rfl)
      · exact m
      · exact h
  · rw [List.mem_append, List.mem_singleton]
theorem addN_nodup {ks : List Nat} (h : ks.Nodup) (y : Nat) : (addN ks y).Nodup := by
  unfold addN
  split
  · exact h
  · rename_i hy
    rw [List.nodup_append]
    refine ⟨h, by simp, fun a ha b hb e => ?_⟩
    rw [List.mem_singleton.mp hb] at e
    exact hy (e ▸ ha)
theorem sum_int : ∀ xs : List Nat, (toI xs).sum = ((xs.sum : Nat) : Int)
  | [] => rfl
  | b :: r => by
    show ((b : Int) :: toI r).sum = ((b + r.sum : Nat) : Int)
    rw [List.sum_cons, sum_int r]
    omega
end V0
/-! set(xs) of a long list of whole numbers that are few -/
namespace V0
open PySem PySem.Spec PyProof.Rows L2
theorem nodup_sub_len {xs ds : List Int} (h : xs.Nodup) (s : ∀ x ∈ xs, x ∈ ds) : xs.length ≤ ds.length := by
  induction xs generalizing ds with
  | nil => exact Nat.zero_le _
  | cons x r ih =>
    have h1 := List.nodup_cons.mp h
    have hx := s x List.mem_cons_self
    have := ih (ds := ds.erase x) h1.2 fun y hy => by
      refine (List.mem_erase_of_ne fun e => ?_).mpr (s y (List.mem_cons_of_mem _ hy))
      subst e
      exact h1.1 hy
    rw [List.length_erase_of_mem hx] at this
    have hp := List.length_pos_of_mem hx
    show r.length + 1 ≤ _
    omega
section
variable {P : Program} {w : World} {A : Around} {E : Value → Shared → Prop} {s : Shared}
theorem set_update_few {I : Addr} {fp wr : List Addr} {G : Array GenState → Array GenState → Prop} {n : Nat} {Pv : Nat → Value → Prop} {St : Nat → Shared → Prop} {R : Result → Shared → Prop}
    (W : WalksS P w A.in1 I fp wr G n Pv St) (S : Addr) (hSf : S ∉ fp) (ns ds : List Int) (hn : n = ns.length) (sub : ∀ x ∈ ns, x ∈ ds) (hb : ds.length + 1 < scanBound) (hval : ∀ i v, Pv i v → ∃ k t, ns[i]? = some k ∧ v = .int k t) :
    ∀ (k i : Nat) (s : Shared), n - i = k → i ≤ n → St i s → (∃ L : List Int, L.Nodup ∧ (∀ j, j ∈ L ↔ j ∈ ns.take i) ∧ SetR w s.heap S (fun j => decide (j ∈ ns.take i)) L.length) →
      (∀ s' c, Moved (S :: wr) G s s' → c ≤ ds.length → SetR w s'.heap S (fun j => decide (j ∈ ns)) c → R (.ok (.ret .none)) s') →
      codeAny (model P w) A (.builtin "set.update.loop" ⟨[.ref S, .ref I], []⟩) R s := by
  have hSw : S ∉ wr := fun h => hSf (W.sub _ h)
  have hsub : ∀ b ∈ wr, b ∈ S :: wr := fun b hb => List.mem_cons_of_mem _ hb
  have room : ∀ (L : List Int) (i : Nat), L.Nodup → (∀ j, j ∈ L ↔ j ∈ ns.take i) → L.length ≤ ds.length := fun L i nd h => nodup_sub_len nd fun x hx => sub x (List.mem_of_mem_take ((h x).mp hx))
  intro k
  induction k with
  | zero =>
    intro i s hk' hi hst ⟨L, nd, hL, hS⟩ hR
    have hin : i = n := by omega
    subst hin
    refine codeAny_builtin F.entry_set_update_loop ?_
    rw [Around.under_plainId F.plain_set_update_loop _]
    show wpAny _ A.in1 (pyNext (.ref I) >>= _) _ _ s
    refine wpAny_bind (W.done s _ _ hst fun s' hm => ?_)
    show wpAny _ A.in1 (ret Value.none) _ _ s'
    have lim := room L i nd hL
    have e : ns.take i = ns := List.take_of_length_le (by omega)
    rw [e] at hS
    exact wpAny_pure (hR s' _ (hm.mono hsub) lim (hS.at fun o e => hm.heap S o hSw e))
  | succ k ih =>
    intro i s hk' hi hst ⟨L, nd, hL, hS⟩ hR
    have hlt : i < n := by omega
    have lim := room L i nd hL
    refine codeAny_builtin F.entry_set_update_loop ?_
    rw [Around.under_plainId F.plain_set_update_loop _]
    show wpAny _ A.in1 (pyNext (.ref I) >>= _) _ _ s
    refine wpAny_bind (W.item i s _ _ hlt hst fun v s' hP hst' hm => ?_)
    obtain ⟨z, t, hz, rfl⟩ := hval i v hP
    have hS' : SetR w s'.heap S (fun j => decide (j ∈ ns.take i)) L.length := hS.at fun o e => hm.heap S o hSw e
    show wpAny _ A.in1 (holding [Value.int z t] (setAdd S (.int z t)) >>= _) _ _ s'
    refine wpAny_bind (wpAny_holding ?_)
    unfold setAdd
    refine wpAny_holding ?_
    refine wpAny_bind ((intKind P w).pyHash (k := z) (intKind_is _ _ _ _) ?_)
    refine setR_add_hashed (s := { s' with toks := s'.toks + 1 }) hS' (by omega) fun h' hsb hS2 => ?_
    have hS3 : SetR w h' S (fun j => decide (j ∈ ns.take (i + 1))) (if decide (z ∈ ns.take i) = true then L.length else L.length + 1) := hS2.congr fun j => by
      rw [List.take_add_one, hz]
      simp [List.mem_append]
    have hc3 : ∃ L' : List Int, L'.Nodup ∧ (∀ j, j ∈ L' ↔ j ∈ ns.take (i + 1)) ∧ SetR w h' S (fun j => decide (j ∈ ns.take (i + 1))) L'.length := by
      have em : ∀ j, j ∈ ns.take (i + 1) ↔ j ∈ ns.take i ∨ j = z := fun j => by rw [List.take_add_one, hz]; simp [List.mem_append]
      by_cases hm : z ∈ ns.take i
      · rw [if_pos (decide_eq_true hm)] at hS3
        refine ⟨L, nd, fun j => ?_, hS3⟩
        rw [hL j, em j]
        exact ⟨.inl, fun h => h.elim id fun e => e ▸ hm⟩
      · rw [if_neg (by simp [hm])] at hS3
        refine ⟨z :: L, List.nodup_cons.mpr ⟨fun h => hm ((hL z).mp h), nd⟩, fun j => ?_, hS3⟩
        rw [List.mem_cons, hL j, em j]
        exact Or.comm
    refine wpAny_pure ⟨plainId_quiet F.plain_set_update_loop _, ih (i + 1) _ (by omega) hlt (W.frame _ s' _ _ hst' (Nat.le_succ _) fun b hb o e => ?_) hc3 fun s'' c2 hm'' hc'' hS'' => ?_⟩
    · rw [hsb.2 b (fun h : b = S => hSf (by rw [← h]; exact hb))]; exact e
    · refine hR s'' c2 (Moved.trans W.gtrans ((hm.mono hsub).then_heap (Nat.le_succ _) fun b o hb e => ?_) hm'') hc'' hS''
      rw [hsb.2 b (fun h : b = S => hb (by rw [h]; exact List.mem_cons_self))]; exact e
theorem set_filledD {l : Addr} {arr : Array Value} {xs ds : List Int} {R : Value → Shared → Prop} (calm : A.handled = none) (lst : s.heap.IsList l arr) (num : IntsAre arr.toList xs) (sub : ∀ x ∈ xs, x ∈ ds) (few : ds.length + 1 < scanBound)
    (told : ∀ (h' : Heap) (tk c : Nat), SetR w h' s.heap.objs.size (fun j => decide (j ∈ xs)) c → c ≤ ds.length → (∀ b o, s.heap.get? b = some o → h'.get? b = some o) → R .none { s with heap := h', toks := tk }) :
    codeAny (model P w) A (.call (.builtin "set.__init__") ⟨[.ref s.heap.objs.size, .ref l], []⟩) (wants R E) { s with heap := s.heap.push (bare w) } := by
  have own : (s.heap.push (bare w)).get? s.heap.objs.size = some (bare w) := Heap.get?_push_size _ rfl
  have kind : Shared.TypeIs { s with heap := s.heap.push (bare w) } (.ref s.heap.objs.size) "set" := ⟨_, own, rfl⟩
  have many : arr.size = xs.length := by rw [← Array.length_toList, IntsAre.length num]
  refine codeAny_call_builtin F.called_set.init.plain F.entry_set_init (check_set_init_1 kind ?_)
  obtain ⟨⟨cl, od, dat, sl⟩, at_l, is_l, nn, is_d⟩ := lst
  dsimp only at is_l is_d
  subst is_l is_d
  have below := Heap.lt_size at_l
  have at_l1 : (s.heap.push (bare w)).get? l = some ⟨.type "list", od, .seq arr nn, sl⟩ := Heap.get?_push_of_some _ at_l
  have lst1 : (s.heap.push (bare w)).IsList l arr := ⟨_, at_l1, rfl, nn, rfl⟩
  have no1 := F.sub_list_set
  have no2 := F.sub_list_frozenset
  have no3 : (Value.type "list" == Value.type "dict") = false := by decide
  unfold Builtin.«set.__init__» noKeywords Builtin.Frozenset.updateFrom
  generalize walker : pyIter = PI
  wp_walk
  subst walker
  refine wpAny_pyIter_list lst1 (wpAny_bind (wpAny_runValue ?_))
  have size1 : (s.heap.push (bare w)).objs.size = s.heap.objs.size + 1 := Heap.size_push ..
  have ne1 : l ≠ (s.heap.push (bare w)).objs.size := size1 ▸ Nat.ne_of_lt (Nat.lt_succ_of_lt below)
  have calm3 : A.in1.in1.handled = none := by simp [calm]
  have out : s.heap.objs.size ∉ [(s.heap.push (bare w)).objs.size, l] := by
    intro hm
    rcases List.mem_cons.mp hm with e | hm
    · rw [size1] at e
      exact Nat.ne_of_lt (Nat.lt_succ_self _) e
    · exact Nat.ne_of_lt below (List.mem_singleton.mp hm).symm
  have each : ∀ (i : Nat) (v : Value), arr[i]? = some v → ∃ k t, xs[i]? = some k ∧ v = .int k t := by
    intro i v hv
    have hi : i < xs.length := many ▸ (Array.getElem?_eq_some_iff.mp hv).1
    obtain ⟨t, e⟩ := PyProof.Rows.IntsAre.int_at num i v ((Array.getElem?_toList ..).trans hv)
    refine ⟨xs[i], t, List.getElem?_eq_getElem hi, ?_⟩
    rw [e, List.getD_eq_getElem?_getD, List.getElem?_eq_getElem hi]
    rfl
  refine set_update_few ((Walks.list calm3 _ l ne1 arr).toS) s.heap.objs.size out xs ds many sub few each (arr.size - 0) 0 _ (by omega) (Nat.zero_le _) ⟨⟨_, Heap.get?_push_size _ rfl, rfl, rfl⟩, lst1.push _⟩ ⟨[], List.nodup_nil, fun j => by simp, setR_new_at (Heap.get?_push_of_some _ own)⟩ ?_
  rintro ⟨h', g', d', tk', os'⟩ c moved bound full
  obtain rfl : g' = s.gens := moved.gens
  obtain rfl : d' = s.drawn := moved.drawn
  obtain rfl : os' = s.os := moved.os
  show wpAny _ _ _ _ _ _
  refine wpAny_pure ?_
  show wpAny _ _ (ret Value.none) _ _ _
  refine wpAny_pure (told h' tk' c full bound fun b o e => ?_)
  have low := Heap.lt_size e
  refine moved.heap b o ?_ (Heap.get?_push_of_some _ (Heap.get?_push_of_some _ e))
  intro hm
  rcases List.mem_cons.mp hm with z | hm
  · exact Nat.ne_of_lt low z
  · have z := List.mem_singleton.mp hm
    rw [size1] at z
    exact Nat.ne_of_lt (Nat.lt_succ_of_lt low) z
theorem call_set_few {l : Addr} {arr : Array Value} {xs ds : List Int} {Q : Value → Shared → Prop} (calm : A.handled = none) (lst : s.heap.IsList l arr) (num : IntsAre arr.toList xs) (sub : ∀ x ∈ xs, x ∈ ds) (few : ds.length + 1 < scanBound)
    (then_ : ∀ (h' : Heap) (tk c : Nat), SetR w h' s.heap.objs.size (fun j => decide (j ∈ xs)) c → c ≤ ds.length → (∀ b o, s.heap.get? b = some o → h'.get? b = some o) → Q (.ref s.heap.objs.size) { s with heap := h', toks := tk }) :
    wpAny (model P w) A (call (.type "set") [.ref l]) Q E s := by
  obtain ⟨_, _, order⟩ := F.called_set.mro
  have made := F.called_set.made
  have below := F.called_set.sub
  refine wpAny_call (codeAny_of_tree ?_)
  show wpAny _ _ (callAny (.type "set") ⟨[.ref l], []⟩) _ _ s
  refine wpAny_pure ⟨Code.quiet_builtin _ (by decide +kernel), codeAny_builtin F.entry_type_call ?_⟩
  rw [Around.under_plain (weight_type_call_type "set" [.ref l] []) rfl]
  have f1 := F.called_set.notType
  have f2 := F.called_set.canCreate
  have f3 := F.typeCall_set_1 (.ref l)
  repeat (any_goals (first | assumption | wp_step))
  refine codeAny_mono (code_set_led1 (.ref l) (E := E) (Q₁ := fun u t => u = .ref s.heap.objs.size ∧ t = { s with heap := s.heap.push (bare w) }) ⟨rfl, rfl⟩) fun r t first => ?_
  match r, first with
  | .error e, first => exact first
  | .ok .next, first => exact first.elim
  | .ok .brk, first => exact first.elim
  | .ok .cont, first => exact first.elim
  | .ok (.ret u), ⟨eu, et⟩ =>
    subst eu et
    have kind : Shared.TypeIs { s with heap := s.heap.push (bare w) } (.ref s.heap.objs.size) "set" := ⟨_, Heap.get?_push_size _ rfl, rfl⟩
    have f4 := F.called_set.init.lookup
    have f5 := F.called_set.init.bind (.ref s.heap.objs.size)
    repeat (any_goals (first | assumption | wp_step))
    refine codeAny_mono (set_filledD (A := _) (E := E) (R := fun v t => v = .none ∧ ∃ h' tk c, t = { s with heap := h', toks := tk } ∧ SetR w h' s.heap.objs.size (fun j => decide (j ∈ xs)) c ∧ c ≤ ds.length ∧ (∀ b o, s.heap.get? b = some o → h'.get? b = some o)) (by simp [calm]) lst num sub few fun h' tk c a b k => ⟨rfl, h', tk, c, rfl, a, b, k⟩) fun r t second => ?_
    match r, second with
    | .error e, second => exact second
    | .ok .next, second => exact second.elim
    | .ok .brk, second => exact second.elim
    | .ok .cont, second => exact second.elim
    | .ok (.ret v), ⟨ev, h', tk, c, et, a, b, k⟩ =>
      subst ev et
      repeat (any_goals (first | assumption | wp_step))
      exact then_ _ _ _ a b k
end
/-- set(xs), of few numbers -/
def rSetFew (K : PySem.W.Frag) (w : World) : List V → Hp → VK → Prop := fun vs H Q => ∃ (l : Addr) (xs ds : List Int), vs = [.ref l] ∧ SqL K H l (xs.map V.int) ∧ (∀ x ∈ xs, x ∈ ds) ∧ ds.length ≤ 4000 ∧ ∀ p c, H p = none → c ≤ ds.length → Q (.ref p) (upd H p (SetO w p (fun j => decide (j ∈ xs)) c))
theorem cr_setFew {X : Cx} (hc : X.calm = true) : CallR X (.type "set") (rSetFew X.K X.w) := by
  intro pins s σ H vs us Q I r h
  obtain ⟨l, xs, ds, rfl, seq, sub, few, q⟩ := h
  obtain rfl := Vals.ref1 r
  obtain ⟨its, rv, pl, _⟩ := I.list seq
  have num : IntsAre its xs := intsAre_of rv
  refine call_set_few (I.ok.hd hc) pl.isList (by simpa using num) sub (by unfold scanBound; omega) fun h' tk c full bound k => ?_
  exact ⟨.ref _, _, I.laid (t' := tk) k (Nat.le_refl _) (setO_new full), rfl, q _ c (I.hok.fresh (Nat.le_refl _)) bound⟩
end V0
/-! sorted(a set of ints), of any number of them -/
namespace V0
open PySem PySem.Spec PyProof.Rows L2
section
variable {P : Program} {w : World} {A : Around} {E : Value → Shared → Prop} {s : Shared} {a : Addr}
theorem sorted_setW {S : Int → Bool} {n : Nat} {Q : Value → Shared → Prop} (R : SetR w s.heap a S n) (hh : A.handled = none)
    (hQ : ∀ s' p (out : Array Value) (c : Nat) (ns : List Int), (∀ b o, s.heap.get? b = some o → s'.heap.get? b = some o) → s'.gens = s.gens → s'.os = s.os → s.heap.objs.size ≤ p →
      s'.heap.get? p = some (seqObj "list" out c) → IntsAre out.toList ns → ns.Pairwise (· < ·) → (∀ k, k ∈ ns ↔ S k = true) → ns.length = n → n ≤ sizeLine → Q (.ref p) s') :
    wpAny (model P w) A (call (.builtin "sorted") [.ref a]) Q E s := by
  obtain ⟨o, es, ep, t, ho, hex, hd, g, nd, hm, hb, hf, hn, hr, hl⟩ := R
  have hz : n ≤ sizeLine := by rw [← hn]; exact fits_of_scanBound hb
  refine Calls.call_function_entry kind_sorted plain_sorted entry_sorted (args_sorted1 _) ?_
  unfold Builtin.«sorted»
  refine wpAny_bind (m := checkCount "sorted" 1 1 _) (wpAny_pure ?_)
  refine wpAny_bind (collect_set (A := A.in1) hh ⟨o, ho, hex.1, hd⟩ hf hb hr hl fun s1 vs k1 hz1 g1 o1 pm => ?_)
  have hvl : vs.length = n := by rw [pm.length_eq, List.length_map, Array.length_toList]; exact hn
  have hI : IntsAre vs (vs.map Builtin.Re.reRawOf) := ints_of vs fun v hv => by
    obtain ⟨e, he, q⟩ := List.mem_map.mp (pm.mem_iff.mp hv)
    obtain ⟨k, tk, h1, _⟩ := g e he
    exact ⟨k, tk, by rw [← q]; exact h1⟩
  have pk : (vs.map Builtin.Re.reRawOf).Perm (es.toList.map keyOf) := by
    have q := pm.map Builtin.Re.reRawOf
    rw [List.map_map] at q
    exact q
  refine wpAny_bind (wpAny_newList ?_ (by rw [hvl]; exact hz))
  have hoL : (s1.heap.push (seqObj "list" vs.toArray 0)).get? s1.heap.objs.size = some (seqObj "list" vs.toArray 0) := Heap.get?_push_size _ rfl
  refine wpAny_bind (wpAny_holding (wpAny_call_entry slot_list_sort ⟨_, hoL, rfl⟩ entry_list_sort (SrtO.list_sort_ord SrtO.swo_int hoL (by rw [hvl]; exact hz) (fun h2 => SrtO.ints_sortable hI h2) fun out h1 h2 => ⟨_, rfl, ?_⟩) (args_list_sort _)))
  obtain ⟨k1', a2, a1⟩ := SrtO.ints_out hI h1 h2
  obtain ⟨c, hc⟩ := sortedHeap_at (vs := vs) (out := out.toArray) hoL
  have pn : (out.map SrtO.iv).Perm (es.toList.map keyOf) := a2.trans pk
  refine wpAny_pure ⟨_, rfl, hQ _ s1.heap.objs.size out.toArray c (out.map SrtO.iv) (fun b u e => ?_) g1 o1 hz1 hc k1' (lt_of_le_nodup _ a1 (pn.nodup_iff.mpr nd)) (fun k => by rw [pn.mem_iff, ← hm k]) ?_ hz⟩
  · have q := k1 b u e
    have hlt := Heap.lt_size q
    show (sortedHeap (s1.heap.push (seqObj "list" vs.toArray 0)) s1.heap.objs.size vs out.toArray).get? b = some u
    rw [sortedHeap_old (Nat.ne_of_lt hlt) (by rw [size_push']; exact Nat.lt_succ_of_lt hlt)]
    exact Heap.get?_push_of_some _ q
  · rw [pn.length_eq, List.length_map, Array.length_toList]; exact hn
end
/-- sorted(found), any number of members -/
def rSortedSetW (w : World) : List V → Hp → VK → Prop := fun vs H Q => ∃ (a : Addr) (S : Int → Bool) (n : Nat), vs = [V.ref a] ∧ H a = some (SetO w a S n) ∧
  ∀ (ns : List Int) (p : Addr), ns.Pairwise (· < ·) → (∀ k : Int, k ∈ ns ↔ S k = true) → ns.length = n → H p = none → Q (.ref p) (upd H p (.lst (ns.map V.int)))
section
variable {X : Cx}
theorem cr_sortedSetW (hc : X.calm = true) : CallR X (.builtin "sorted") (rSortedSetW X.w) := by
  intro pins s σ H vs us Q I r h
  obtain ⟨a, S, n, rfl, ha, q⟩ := h
  have R := setO_get I ha
  rw [Vals.ref1 r]
  refine sorted_setW R (I.ok.hd hc) fun s' p out c ns k g o hp hg hi hs hm hl hz => ?_
  have hlen : (ns.map V.int).length ≤ sizeLine := by rw [List.length_map, hl]; exact hz
  have hn : H p = none := I.hok.fresh hp
  have J : Inv X pins σ (upd H p (.lst (ns.map V.int))) { s with heap := s'.heap, gens := s'.gens, drawn := s'.drawn, toks := s'.toks } :=
    I.call (ch := []) (Un.laid k hp hn) (I.hok.laid k hp ⟨hlen, out.toList, c, vals_of_ints hi, hg⟩) (by rw [g]; exact I.bare) (fun _ z => nomatch z)
  have e : s' = { s with heap := s'.heap, gens := s'.gens, drawn := s'.drawn, toks := s'.toks } := by
    cases s'
    cases s
    cases o
    rfl
  rw [e]
  exact ⟨.ref p, _, J, rfl, q ns p hs hm hl hn⟩
end
end V0
/-! cuts of nets, bits of tables -/
namespace V0
open PySem PySem.Spec PyProof.Rows L2
open PySem.W (Datum)
/-! ### numbers by their bits -/
def num : List Nat → Nat
  | [] => 0
  | b :: r => b + 2 * num r
theorem num_append (xs ys : List Nat) : num (xs ++ ys) = num xs + 2 ^ xs.length * num ys := by
  induction xs with
  | nil => simp [num]
  | cons b r ih =>
    show b + 2 * num (r ++ ys) = b + 2 * num r + 2 ^ (r.length + 1) * num ys
    rw [ih, Nat.pow_succ, Nat.mul_add, Nat.mul_comm (2 ^ r.length) 2, Nat.mul_assoc, Nat.add_assoc]
theorem num_snoc (xs : List Nat) (b : Nat) : num (xs ++ [b]) = num xs + b * 2 ^ xs.length := by
  rw [num_append]
  show num xs + 2 ^ xs.length * (b + 2 * 0) = _
  rw [Nat.mul_zero, Nat.add_zero, Nat.mul_comm]
theorem num_lt {xs : List Nat} (h : ∀ b ∈ xs, b < 2) : num xs < 2 ^ xs.length := by
  induction xs with
  | nil => decide
  | cons b r ih =>
    have h1 := h b List.mem_cons_self
    have h2 := ih fun c hc => h c (List.mem_cons_of_mem _ hc)
    show b + 2 * num r < 2 ^ (r.length + 1)
    rw [Nat.pow_succ]
    omega
theorem num_testBit {xs : List Nat} (h : ∀ b ∈ xs, b < 2) (i : Nat) : (num xs).testBit i = decide (xs[i]? = some 1) := by
  induction xs generalizing i with
  | nil => simp [num]
  | cons b r ih =>
    have h1 := h b List.mem_cons_self
    have hb : b = 0 ∨ b = 1 := by omega
    have h2 := fun j => ih (fun c hc => h c (List.mem_cons_of_mem _ hc)) j
    cases i with
    | zero =>
      show (b + 2 * num r).testBit 0 = decide (some b = some 1)
      rw [Nat.testBit_zero]
      rcases hb with rfl | rfl
      · have : (0 + 2 * num r) % 2 = 0 := by omega
        rw [this]
        rfl
      · have : (1 + 2 * num r) % 2 = 1 := by omega
        rw [this]
        rfl
    | succ j =>
      show (b + 2 * num r).testBit (j + 1) = decide (r[j]? = some 1)
      rw [Nat.testBit_succ, ← h2 j]
      congr 1
      omega
/-- the columns of bits f 0, f 1, .. -/
def colN (m : Nat) (f : Nat → Nat) : Nat := num ((List.range m).map f)
theorem col_succ (m : Nat) (f : Nat → Nat) : colN (m + 1) f = colN m f + f m * 2 ^ m := by
  unfold colN
  rw [map_range_succ, num_snoc, List.length_map, List.length_range]
theorem col_lt (m : Nat) (f : Nat → Nat) (h : ∀ i, i < m → f i < 2) : colN m f < 2 ^ m := by
  have := num_lt (xs := (List.range m).map f) fun b hb => by
    obtain ⟨i, hi, rfl⟩ := List.mem_map.mp hb
    exact h i (List.mem_range.mp hi)
  rw [List.length_map, List.length_range] at this
  exact this
theorem col_testBit {m : Nat} {f : Nat → Nat} (h : ∀ i, i < m → f i < 2) (i : Nat) : (colN m f).testBit i = (decide (i < m) && decide (f i = 1)) := by
  unfold colN
  rw [num_testBit]
  · by_cases hi : i < m
    · rw [List.getElem?_map, List.getElem?_range hi, decide_eq_true hi, Bool.true_and]
      show decide (some (f i) = some 1) = _
      exact decide_eq_decide.mpr ⟨fun e => Option.some.inj e, fun e => by rw [e]⟩
    · rw [List.getElem?_eq_none (by rw [List.length_map, List.length_range]; omega), decide_eq_false hi]
      rfl
  · intro b hb
    obtain ⟨i, hi, rfl⟩ := List.mem_map.mp hb
    exact h i (List.mem_range.mp hi)
theorem col_and {m : Nat} {f g : Nat → Nat} (hf : ∀ i, i < m → f i < 2) (hg : ∀ i, i < m → g i < 2) : colN m f &&& colN m g = colN m (fun i => f i * g i) := by
  apply Nat.eq_of_testBit_eq
  intro i
  rw [Nat.testBit_and, col_testBit hf, col_testBit hg, col_testBit (fun i hi => mul_lt2 (hf i hi) (hg i hi))]
  by_cases hi : i < m
  · rw [decide_eq_true hi, Bool.true_and, Bool.true_and, Bool.true_and]
    have h1 := hf i hi
    have h2 := hg i hi
    have e1 : f i = 0 ∨ f i = 1 := by omega
    have e2 : g i = 0 ∨ g i = 1 := by omega
    rcases e1 with e1 | e1 <;> rcases e2 with e2 | e2 <;> rw [e1, e2] <;> decide
  · rw [decide_eq_false hi]
    rfl
theorem col_xor {m : Nat} {f : Nat → Nat} (hf : ∀ i, i < m → f i < 2) (l : Nat) : colN m f ^^^ (if l % 2 = 1 then 2 ^ m - 1 else 0) = colN m (fun i => f i ^^^ (l % 2)) := by
  have hx : ∀ i, i < m → f i ^^^ (l % 2) < 2 := fun i hi => Nat.xor_lt_two_pow (n := 1) (hf i hi) (Nat.mod_lt _ (by decide))
  apply Nat.eq_of_testBit_eq
  intro i
  rw [Nat.testBit_xor, col_testBit hf, col_testBit hx]
  rcases Nat.mod_two_eq_zero_or_one l with e | e
  · rw [if_neg (by omega), e, Nat.zero_testBit, Bool.xor_false]
    simp
  · rw [if_pos e, e, Nat.testBit_two_pow_sub_one]
    by_cases hi : i < m
    · rw [decide_eq_true hi, Bool.true_and, Bool.true_and]
      have h1 := hf i hi
      have e1 : f i = 0 ∨ f i = 1 := by omega
      rcases e1 with e1 | e1 <;> rw [e1] <;> decide
    · rw [decide_eq_false hi]
      rfl
/-- the sum of the powers whose bit is set -/
theorem sum_pows (m : Nat) (f : Nat → Nat) (h : ∀ i, i < m → f i < 2) : (((List.range m).filter fun i => decide (f i = 1)).map fun i => 2 ^ i).sum = colN m f := by
  induction m with
  | zero => rfl
  | succ m ih =>
    rw [List.range_succ, List.filter_append, List.map_append, List.sum_append, ih fun i hi => h i (by omega), col_succ]
    have h1 := h m (by omega)
    have e1 : f m = 0 ∨ f m = 1 := by omega
    rcases e1 with e1 | e1
    · simp [e1]
    · simp [e1]
/-! ### cuts -/
inductive Sep (n : Net) (cut : List Nat) : Nat → Prop
  | hit {x : Nat} : x ∈ cut → Sep n cut x
  | gate {x : Nat} {g : Nat × Nat} : n.base ≤ x → n.gates[x - n.base]? = some g → Sep n cut (g.1 / 2) → Sep n cut (g.2 / 2) → Sep n cut x
def kids (n : Net) (x : Nat) : List Nat := if x < n.base then [] else match n.gates[x - n.base]? with
  | some g => [g.1 / 2, g.2 / 2]
  | none => []
theorem Sep.expand {n : Net} {cut other : List Nat} {node : Nat} (hn : kids n node ≠ []) (hk : ∀ y ∈ kids n node, y ∈ other) (ho : ∀ y ∈ cut, y ≠ node → y ∈ other) {x : Nat} (h : Sep n cut x) : Sep n other x := by
  induction h with
  | @hit x hx =>
    by_cases e : x = node
    · subst e
      unfold kids at hn hk
      by_cases hb : x < n.base
      · rw [if_pos hb] at hn
        exact absurd rfl hn
      · rw [if_neg hb] at hn hk
        cases eg : n.gates[x - n.base]? with
        | none =>
          rw [eg] at hn
          exact absurd rfl hn
        | some g =>
          rw [eg] at hk
          exact .gate (by omega) eg (.hit (hk _ (by simp))) (.hit (hk _ (by simp)))
    · exact .hit (ho x hx e)
  | gate hb hg _ _ i1 i2 => exact .gate hb hg i1 i2
theorem Sep.mono {n : Net} {cut other : List Nat} (ho : ∀ y ∈ cut, y ∈ other) {x : Nat} (h : Sep n cut x) : Sep n other x := by
  induction h with
  | hit hx => exact .hit (ho _ hx)
  | gate hb hg _ _ i1 i2 => exact .gate hb hg i1 i2
theorem Sep.some {n : Net} {cut : List Nat} {x : Nat} (h : Sep n cut x) : cut ≠ [] := by
  induction h with
  | hit hx => exact List.ne_nil_of_mem hx
  | gate _ _ _ _ i1 _ => exact i1
/-- a net as the law draws it -/
structure TOk (n : Net) : Prop where
  i1 : 1 ≤ n.ins
  i4 : n.ins ≤ 4
  fl : n.starts.length ≤ 2
  gl : n.gates.length ≤ 9
  g : ∀ j g, n.gates[j]? = some g → (2 ≤ g.1 ∧ g.1 < 2 * (n.base + j)) ∧ (2 ≤ g.2 ∧ g.2 < 2 * (n.base + j)) ∧ g.1 / 2 ≠ g.2 / 2
theorem TOk.kid {n : Net} (t : TOk n) {x y : Nat} (h : y ∈ kids n x) : 1 ≤ y ∧ y < x ∧ n.base ≤ x := by
  unfold kids at h
  by_cases hb : x < n.base
  · rw [if_pos hb] at h
    cases h
  · rw [if_neg hb] at h
    cases eg : n.gates[x - n.base]? with
    | none =>
      rw [eg] at h
      cases h
    | some g =>
      rw [eg] at h
      have := t.g _ _ eg
      simp only [List.mem_cons, List.not_mem_nil, or_false] at h
      rcases h with rfl | rfl <;> omega
structure IsCut (n : Net) (gate : Nat) (cut : List Nat) (k : Nat) : Prop where
  len : cut.length ≤ k
  asc : cut.Pairwise (· < ·)
  bnd : ∀ x ∈ cut, 0 < x ∧ x < gate
  sep : ∀ y ∈ kids n gate, Sep n cut y
theorem kids_gate {n : Net} {x : Nat} (h1 : n.base ≤ x) (h2 : x < n.many) : ∃ g, n.gates[x - n.base]? = some g ∧ kids n x = [g.1 / 2, g.2 / 2] := by
  have hj : x - n.base < n.gates.length := by
    unfold Net.many at h2
    omega
  refine ⟨_, List.getElem?_eq_getElem hj, ?_⟩
  unfold kids
  rw [if_neg (by omega), List.getElem?_eq_getElem hj]
theorem IsCut.some {n : Net} {gate k : Nat} {cut : List Nat} (c : IsCut n gate cut k) (h1 : n.base ≤ gate) (h2 : gate < n.many) : cut ≠ [] := by
  obtain ⟨g, _, e⟩ := kids_gate h1 h2
  exact (c.sep (g.1 / 2) (by rw [e]; simp)).some
theorem Sep.gate_of {n : Net} {cut : List Nat} {x : Nat} (h : Sep n cut x) (hx : x ∉ cut) : n.base ≤ x ∧ x < n.many ∧ ∀ y ∈ kids n x, Sep n cut y := by
  cases h with
  | hit h => exact absurd h hx
  | @gate _ g hb hg h1 h2 =>
    have hj := (List.getElem?_eq_some_iff.mp hg).1
    refine ⟨hb, by unfold Net.many; omega, fun y hy => ?_⟩
    unfold kids at hy
    rw [if_neg (by omega), hg] at hy
    simp only [List.mem_cons, List.not_mem_nil, or_false] at hy
    rcases hy with rfl | rfl
    · exact h1
    · exact h2
theorem kids_len (n : Net) (x : Nat) : (kids n x).length ≤ 2 := by
  unfold kids
  split
  · decide
  · split <;> simp
theorem nodup_bound : ∀ {m : Nat} {xs : List Nat}, xs.Nodup → (∀ x ∈ xs, x < m) → xs.length ≤ m
  | 0, xs, _, b => by
    cases xs with
    | nil => exact Nat.le_refl _
    | cons x r => exact absurd (b x List.mem_cons_self) (Nat.not_lt_zero _)
  | m + 1, xs, h, b => by
    have ih := nodup_bound (m := m) (xs := xs.erase m) (h.erase m) fun x hx => by
      have h1 := (h.mem_erase_iff).mp hx
      have h2 := b x h1.2
      have h3 := h1.1
      omega
    rw [List.length_erase] at ih
    split at ih <;> omega
theorem many16 {n : Net} (ok : TOk n) : n.many ≤ 16 := by
  have := ok.i4
  have := ok.fl
  have := ok.gl
  unfold Net.many Net.base
  omega
/-! ### bits of gates -/
def gbit (n : Net) (kn : Nat → Option Nat) (x : Nat) : Nat := match kn x with
  | some b => b
  | none => match n.gates[x - n.base]? with
    | none => 0
    | some g => if h : g.1 / 2 < x ∧ g.2 / 2 < x then (gbit n kn (g.1 / 2) ^^^ (g.1 % 2)) * (gbit n kn (g.2 / 2) ^^^ (g.2 % 2)) else 0
termination_by x
decreasing_by
  · exact h.1
  · exact h.2
theorem gbit_hit {n : Net} {kn : Nat → Option Nat} {x b : Nat} (h : kn x = some b) : gbit n kn x = b := by
  rw [gbit, h]
theorem gbit_gate {n : Net} {kn : Nat → Option Nat} {x : Nat} {g : Nat × Nat} (h : kn x = none) (hg : n.gates[x - n.base]? = some g) (h1 : g.1 / 2 < x) (h2 : g.2 / 2 < x) :
    gbit n kn x = (gbit n kn (g.1 / 2) ^^^ (g.1 % 2)) * (gbit n kn (g.2 / 2) ^^^ (g.2 % 2)) := by
  rw [gbit, h]
  simp only [hg]
  rw [dif_pos ⟨h1, h2⟩]
theorem gbit_lt {n : Net} {kn : Nat → Option Nat} (hk : ∀ x b, kn x = some b → b < 2) (x : Nat) : gbit n kn x < 2 := by
  induction x using Nat.strongRecOn with
  | ind x ih =>
    rw [gbit]
    cases e : kn x with
    | some b => exact hk x b e
    | none =>
      simp only
      cases eg : n.gates[x - n.base]? with
      | none =>
        show 0 < 2
        decide
      | some g =>
        simp only
        split
        · rename_i h
          exact mul_lt2 (Nat.xor_lt_two_pow (n := 1) (ih _ h.1) (Nat.mod_lt _ (by decide))) (Nat.xor_lt_two_pow (n := 1) (ih _ h.2) (Nat.mod_lt _ (by decide)))
        · decide
/-- what is known of the m-th choice of values of a cut -/
def kn (cut : List Nat) (m x : Nat) : Option Nat := if x ∈ cut then some (m / 2 ^ (cut.idxOf x) % 2) else none
theorem kn_lt (cut : List Nat) (m : Nat) : ∀ x b, kn cut m x = some b → b < 2 := by
  intro x b h
  unfold kn at h
  split at h
  · cases h
    exact Nat.mod_lt _ (by decide)
  · cases h
def colOf (n : Net) (cut : List Nat) (x : Nat) : Nat := colN (2 ^ cut.length) fun m => gbit n (kn cut m) x
theorem colOf_hit {n : Net} {cut : List Nat} {x : Nat} (h : x ∈ cut) : colOf n cut x = colN (2 ^ cut.length) fun m => m / 2 ^ (cut.idxOf x) % 2 := by
  unfold colOf
  congr 1
  funext m
  exact gbit_hit (if_pos h)
theorem colOf_gate {n : Net} {cut : List Nat} {x : Nat} {g : Nat × Nat} (h : x ∉ cut) (hg : n.gates[x - n.base]? = some g) (h1 : g.1 / 2 < x) (h2 : g.2 / 2 < x) :
    colOf n cut x = (colOf n cut (g.1 / 2) ^^^ (if g.1 % 2 = 1 then 2 ^ 2 ^ cut.length - 1 else 0)) &&& (colOf n cut (g.2 / 2) ^^^ (if g.2 % 2 = 1 then 2 ^ 2 ^ cut.length - 1 else 0)) := by
  have hx : ∀ (y l : Nat), ∀ i, i < 2 ^ cut.length → gbit n (kn cut i) y ^^^ (l % 2) < 2 := fun y l i _ => Nat.xor_lt_two_pow (n := 1) (gbit_lt (kn_lt cut i) y) (Nat.mod_lt _ (by decide))
  unfold colOf
  rw [col_xor fun i _ => gbit_lt (kn_lt cut i) _, col_xor fun i _ => gbit_lt (kn_lt cut i) _, col_and (hx _ _) (hx _ _)]
  congr 1
  funext m
  exact gbit_gate (if_neg h) hg h1 h2
/-! ### what stands above a cut -/
structure MK (n : Net) (gate : Nat) (cut ks : List Nat) : Prop where
  nd : ks.Nodup
  g : gate ∈ ks
  b : ∀ x ∈ ks, n.base ≤ x ∧ x ≤ gate ∧ x ∉ cut ∧ ∀ y ∈ kids n x, Sep n cut y
structure Above (n : Net) (gate : Nat) (cut ab : List Nat) : Prop where
  asc : ab.Pairwise (· < ·)
  g : gate ∈ ab
  b : ∀ x ∈ ab, n.base ≤ x ∧ x ≤ gate ∧ x ∉ cut
  k : ∀ x ∈ ab, ∀ y ∈ kids n x, y ∈ cut ∨ y ∈ ab
theorem band (a b : Nat) : Builtin.bitAnd (a : Int) (b : Int) = ((a &&& b : Nat) : Int) := by
  rw [bitAnd_pp (Int.natCast_nonneg _) (Int.natCast_nonneg _), Int.toNat_natCast, Int.toNat_natCast]
theorem band_one (a : Nat) : Builtin.bitAnd (a : Int) 1 = ((a % 2 : Nat) : Int) := by
  have h := PySem.W.kbt_mask ((a : Nat) : Int) 1
  rw [show (2 : Int) ^ 1 - 1 = 1 by decide, show (2 : Int) ^ 1 = 2 by decide] at h
  rw [h]
  rfl
theorem shl_nat (a k : Nat) : (a : Int) * 2 ^ ((k : Int)).toNat = ((a * 2 ^ k : Nat) : Int) := by
  rw [Int.toNat_natCast, Int.natCast_mul, Int.natCast_pow]
  rfl
theorem shl_one (k : Nat) : (1 : Int) * 2 ^ ((k : Int)).toNat = ((2 ^ k : Nat) : Int) := by
  rw [Int.one_mul, Int.toNat_natCast, Int.natCast_pow]
  rfl
theorem shr_nat (a k : Nat) : (a : Int) / 2 ^ ((k : Int)).toNat = ((a / 2 ^ k : Nat) : Int) := by
  rw [Int.toNat_natCast, Int.natCast_ediv, Int.natCast_pow]
  rfl
theorem shr_one (a : Nat) : (a : Int) / 2 ^ ((1 : Int)).toNat = ((a / 2 : Nat) : Int) := rfl
end V0
/-! methods and classes of the text as callers need them; len of a set of tuples -/
namespace V0
open PySem PySem.Spec PyProof.Rows L2
structure MDef (K : PySem.W.Frag) (C : Addr) (m : Str) (f : Addr) (fd : FuncData) (ps : List Str) : Prop where
  m : Meth K C m f
  b : Binds K fd ps []
structure IDef (K : PySem.W.Frag) (C : Addr) (f : Addr) (fd : FuncData) (ps : List Str) : Prop where
  k : Mk K C f
  b : Binds K fd ps []
/-- len of a set of tuples -/
def rLenST (P : Program) (w : World) : List V → Hp → VK → Prop := fun vs H Q => ∃ (a : Addr) (L : List (Addr × List Int)), vs = [.ref a] ∧ H a = some (SetTO P w a L) ∧ ((L.map (·.2)).Nodup → Q (.int (L.length : Nat)) H)
theorem call_lenST {X : Cx} : CallR X (.builtin "len") (rLenST X.prog X.w) := by
  intro pins s σ H vs us Q I r h
  obtain ⟨a, L, rfl, ha, q⟩ := h
  obtain rfl := Vals.ref1 r
  have R0 : SetT0 X.prog X.w s.heap a L := (I.hok a _ ha).1
  obtain ⟨es, ep, t, ⟨o, ho, hex, hd⟩, rows, tab, nd, _, _, room, few⟩ := R0.ex
  have hl : es.size = L.length := by
    rw [← Array.length_toList, rows]
    exact List.length_map _
  have hfits : t.fits es.size = true := by
    unfold SetTable.fits SetTable.fill
    have hsz := tab.sz
    rw [List.length_map] at hsz
    rw [tab.dm, Bool.and_eq_true, beq_iff_eq, decide_eq_true_eq]
    show t.place.size = es.size ∧ t.place.size + 0 ≤ t.mask
    omega
  refine call_len_set ho hex hd hfits (by omega) ⟨.int (L.length : Nat), H, I.tok _, ⟨_, by rw [hl]⟩, q nd⟩
end V0
/-! xs[i] op= e; more operators in place; comprehensions of two clauses by an invariant -/
namespace V0
open PySem PySem.Spec PyProof.Rows L2
theorem pg_ixL {X : Cx} : PGet X (rIxL X.K) := by
  intro pins s σ H x y v u Q I rx ry h
  obtain ⟨p, xs, i, z, rfl, rfl, hq, he, q⟩ := h
  cases rx
  obtain ⟨t, rfl⟩ := ry
  obtain ⟨its, r, pl, hz⟩ := I.list hq
  obtain ⟨j, h1, h2, h3, h4, h5⟩ := atI_get he
  obtain ⟨w, ew, rw'⟩ := r.get h2
  have hl := r.length
  have hn := line63
  have fin : EP X pins σ Q w s := ⟨z, H, I, rw', q⟩
  by_cases h0 : 0 ≤ i
  · have hj : i.toNat = j := by
      rw [seqIndex_of h0 h5] at h1
      exact Option.some.inj h1
    exact wpAny_getItem_list pl.isList h0 (by omega) (by rw [hj]; simpa using ew) fin
  · have hj : (i + (its.toArray.size : Int)).toNat = j := by
      rw [seqIndex_neg (by omega) h4] at h1
      rw [List.size_toArray, ← hl]
      exact Option.some.inj h1
    exact wpAny_getItem_list_neg pl.isList (by omega) (by rw [List.size_toArray] <;> omega) (by omega) (by rw [hj]; simpa using ew) fin
theorem ip_or {X : Cx} : PIp X .BitOr (ipI fun i j => Builtin.bitOr i j) := by
  intro pins s σ H x y v u Q I r1 r2 h
  obtain ⟨i, j, e1, e2, q⟩ := h
  subst e1; subst e2
  obtain ⟨t, rfl⟩ := r1
  obtain ⟨t', rfl⟩ := r2
  exact ior_int ⟨.int _, H, I.tok _, ⟨_, rfl⟩, q⟩
/-- a star in a display, K told -/
theorem pa_starK {X : Cx} {K : PySem.W.Frag} {e : Expr} {es : List Expr} {te : TE} {t : TA} {p : Pos} (hK : X.K = K) (he : PE X e te) (hr : PA X es t) (hs : starEach (.Starred e p :: es) X.env = (true, eval e X.env) :: starEach es X.env := by rfl) : PA X (.Starred e p :: es) (StX.tStar K te t) := by
  subst hK
  exact StX.pa_star he hr hs
/-- a if t else b: what both ways give -/
theorem ifx {b : Bool} {A B : VK → Prop} {Q : VK} (R : V → Hp → Prop) (hA : b = true → ∀ Q : VK, (∀ y H', R y H' → Q y H') → A Q) (hB : b = false → ∀ Q : VK, (∀ y H', R y H' → Q y H') → B Q) (fin : ∀ y H', R y H' → Q y H') : if b = true then A Q else B Q := by
  cases b with
  | true => exact iteT (hA rfl Q fin)
  | false => exact iteF (hB rfl Q fin)
/-- a walked thing's number of turns, and what each turn gives -/
structure Wk (J : It) (n : Nat) (Y : Nat → Hp → V → Hp → Prop) (S : Nat → Hp → Prop) : Prop where
  stop : ∀ H, S n H → J.stop n H
  go : ∀ i H, i < n → S i H → J.go i H
  yld : ∀ i H x H', i < n → S i H → J.yld i H x H' → Y i H x H'
theorem wk_range {lo : Int} {n : Nat} : Wk (Itr lo n) n (fun i H x H' => x = .int (lo + i) ∧ H' = H) (fun _ _ => True) := by
  refine ⟨fun H _ => Nat.le_refl _, fun i H h _ => h, fun i H x H' _ _ y => ?_⟩
  obtain ⟨e, y⟩ := y
  exact ⟨y, e⟩
theorem wk_list {K : PySem.W.Frag} {a : Addr} {xs : List V} : Wk (Itl K a) xs.length (fun i H x H' => xs[i]? = some x ∧ H' = H) (fun _ H => SqL K H a xs) := by
  refine ⟨fun H h => ⟨xs, h, Nat.le_refl _⟩, fun i H h s => ⟨xs, xs[i], s, by simp [h]⟩, fun i H x H' _ s y => ?_⟩
  obtain ⟨e, y⟩ := y
  subst e
  exact ⟨y xs s, rfl⟩
theorem wk_tup {K : PySem.W.Frag} {a : Addr} {xs : List V} : Wk (Itt K a) xs.length (fun i H x H' => xs[i]? = some x ∧ H' = H) (fun _ H => SqT K H a xs) := by
  refine ⟨fun H h => ⟨xs, h, Nat.le_refl _⟩, fun i H h s => ⟨xs, xs[i], s, by simp [h]⟩, fun i H x H' _ s y => ?_⟩
  obtain ⟨e, y⟩ := y
  subst e
  exact ⟨y xs s, rfl⟩
/-- the outer clause of a comprehension of two, and its inner one -/
theorem lc2_out {J : It} {n : Nat} {Y : Nat → Hp → V → Hp → Prop} {S : Nat → Hp → Prop} {g : TG} {tt : TT} {inner : L2.St → Hp → (Hp → Prop) → Prop} {vs : List Nat} {σ : L2.St} {H1 : Hp} {Qd : Hp → Prop} (w : Wk J n Y S) (Pv : Nat → Hp → Prop) (h0 : Pv 0 H1) (hl : ∀ i H, i ≤ n → Pv i H → S i H)
    (hs : ∀ i H x H', i < n → Pv i H → Y i H x H' → g x (wipe σ vs) H' fun σ2 H2 => wipe σ2 vs = wipe σ vs ∧ tt σ2 H2 fun b H3 => if b = true then inner σ2 H3 (Pv (i + 1)) else Pv (i + 1) H3) (hd : ∀ H, Pv n H → Qd H) :
    ∃ W : Nat → Nat → Hp → Prop, (∃ m, W 0 m H1) ∧ ∀ i m H, W i m H →
      (J.stop i H ∧ Qd H) ∨ (J.go i H ∧ ∃ Nx : Hp → Prop, (∀ H', Nx H' → ∃ m', m' < m ∧ W (i + 1) m' H') ∧ ∀ x H', J.yld i H x H' → g x (wipe σ vs) H' fun σ2 H2 => wipe σ2 vs = wipe σ vs ∧ tt σ2 H2 fun b H3 =>
        if b = true then inner σ2 H3 Nx else Nx H3) := by
  refine ⟨fun i m H => m = n - i ∧ i ≤ n ∧ Pv i H, ⟨n, by simp, Nat.zero_le _, h0⟩, ?_⟩
  rintro i m H ⟨rfl, hi, p⟩
  by_cases hlt : i < n
  · refine .inr ⟨w.go i H hlt (hl i H hi p), Pv (i + 1), fun H' p' => ⟨n - (i + 1), by omega, rfl, hlt, p'⟩, fun x H' y => ?_⟩
    exact hs i H x H' hlt p (w.yld i H x H' hlt (hl i H hi p) y)
  · have e : i = n := by omega
    subst e
    exact .inl ⟨w.stop H (hl i H hi p), hd H p⟩
end V0
/-! a dict comprehension set to a name -/
namespace V0
open PySem PySem.Spec PyProof.Rows L2
theorem ps_setDc {X : Cx} {i : Nat} {y : Str} {py : Pos} {kx vx tg iter : Expr} {ifs : List Expr} {scope : Scope} {own : List (Str × Nat)} {pos spos : Pos} {wi : TI} {g : TG} {tt : TT} {tk tv : TE} (hc : X.calm = true) (hN : X.N.Nodup) (hy : X.N[i]? = some y) (hyl : X.env.scope.names.lookup y = some .local)
    (hsw : swapsWith (.DictComp kx vx [⟨tg, iter, ifs, 0⟩] scope pos) (some (.Name y py)) spos.line X.env = pure true) (hi : PI X tg iter wi) (ok : BlkOk X.N X.env.scope scope own)
    (hg : ∀ (s : Shared) (H : Hp) (C : Addr) (cl : List (Str × Addr)) (fp : List Addr), PG (X.blk s H scope (compEnvC scope cl C X.env) fp) tg g) (ht : ∀ (s : Shared) (H : Hp) (C : Addr) (cl : List (Str × Addr)) (fp : List Addr), PTs (X.blk s H scope (compEnvC scope cl C X.env) fp) ifs tt)
    (hk : ∀ (s : Shared) (H : Hp) (C : Addr) (cl : List (Str × Addr)) (fp : List Addr), PE (X.blk s H scope (compEnvC scope cl C X.env) fp) kx tk)
    (he : ∀ (s : Shared) (H : Hp) (C : Addr) (cl : List (Str × Addr)) (fp : List Addr), PE (X.blk s H scope (compEnvC scope cl C X.env) fp) vx tv) (hs : ∀ x, foldedSetIterable iter X.env x = pure x := by intro _; rfl) :
    PS X (.Assign [.Name y py] (.DictComp kx vx [⟨tg, iter, ifs, 0⟩] scope pos) spos) (tAsg (tDc wi g tt tk tv (own.map (·.2))) (gName i)) := by
  refine ⟨fun pins s σ H D I h => ?_⟩
  rw [exec_Assign_Name_used _ _ _ _ hsw]
  refine wpAny_bind (wpAny_standAt (wpAny_bind ?_))
  show wpAny _ X.A (do let _ ← comprehension (.DictComp kx vx [⟨tg, iter, ifs, 0⟩] scope pos) scope X.env (firstIterPos [⟨tg, iter, ifs, 0⟩] pos) newDict false (eval iter X.env) (some (assign (.Name y py) X.env))) _ _ s
  have h : tDc wi g tt tk tv (own.map (·.2)) σ H (fun x H1 => gName i x σ H1 D.nx) := h
  refine wpAny_bind (thn (dc_core (Qf := fun _ s' => SP X pins D .next s') hc hN I hi ok hg ht hk he hs h fun L C s' m H' I' q hn f => ?_) fun _ s' hq => wpAny_pure (wpAny_pure hq))
  show wpAny _ _ (assign (.Name y py) X.env (.ref L)) _ _ _
  refine wpAny_assign_Name (store_ok2 (v := V.ref L) I' hN hy (.inl hyl) rfl (fun s2 I2 ⟨a, sb, ha⟩ => ?_) (.inr hyl))
  obtain ⟨f0, f1, f2, f3, f4, f5⟩ := f
  have haC : C ≠ a := by
    rcases ha with z | z
    · rw [z]; exact f1
    · exact fun e => f4 y a z e.symm
  refine ⟨m, hn.sameBut sb haC, fun h3 sb3 => ?_⟩
  exact ⟨_, H', I2.turned (t' := s2.toks) (fun b o hb e => (sb3.2 b hb).trans e) f0 f1 f3 f4 f5, q⟩
theorem swd_true {kx vx : Expr} {gs : List Comprehension} {scope : Scope} {pos py : Pos} {y : Str} {l : Nat} {env : Env} (hk : env.scope.kind = .function) (hy : env.scope.names.lookup y = some .local) (hl : (py.line == pos.line) = true)
    (ha : (scope.names.any fun (n, k) => n == y && (k == .local || k == .cell)) = false) : swapsWith (.DictComp kx vx gs scope pos) (some (.Name y py)) l env = pure true := by
  have ky : env.kindOf y = some .local := hy
  have hb : env.blockKind = .function := by unfold Env.blockKind; rw [hk]; rfl
  unfold swapsWith
  simp only [hb, ky, ha, Expr.pos, hl]
  rfl
end V0
/-! comprehensions over whole numbers whose parts change nothing that stands -/
namespace V0
open PySem PySem.Spec PyProof.Rows L2
theorem lcN {J : It} {G : Hp → Prop} {Y : Nat → Hp → V → Hp → Prop} {xs : List Nat} (w : Walk J xs.length G Y) {sl : Nat} {tt : TT} {te : TE} {σ : L2.St} {H1 : Hp} {D : Addr} {Qd : Hp → Prop} (p : Nat → Bool) (f : Nat → Nat)
    (nD : H1 D = none) (few : xs.length ≤ 60000) (hw : ∀ v, wipe ((wipe σ [sl]).set sl v) [sl] = wipe σ [sl]) (hG : ∀ Hz, Same H1 Hz → G Hz) (hY : ∀ i Hz x H', Y i Hz x H' → H' = Hz ∧ ∃ k, xs[i]? = some k ∧ x = .int (k : Nat))
    (ht : ∀ x ∈ xs, ∀ (Hz : Hp) (Q : Bool → Hp → Prop), Same H1 Hz → (∀ H', Same Hz H' → Q (p x) H') → tt ((wipe σ [sl]).set sl (some (.int (x : Nat)))) Hz Q)
    (hs : ∀ x ∈ xs, p x = true → ∀ (Hz : Hp) (Q : VK), Same H1 Hz → (∀ H', Same Hz H' → Q (.int (f x : Nat)) H') → te ((wipe σ [sl]).set sl (some (.int (x : Nat)))) Hz Q)
    (hd : ∀ H', Same H1 H' → H' D = some (.lst (vn ((xs.filter p).map f))) → Qd H') :
    ∃ W : Nat → Nat → Hp → Prop, (∃ m, W 0 m (upd H1 D (.lst []))) ∧ ∀ i m H, W i m H →
      (J.stop i H ∧ Qd H) ∨ (J.go i H ∧ ∃ Nx : Hp → Prop, (∀ H', Nx H' → ∃ m', m' < m ∧ W (i + 1) m' H') ∧ ∀ x H', J.yld i H x H' → gName sl x (wipe σ [sl]) H' fun σ2 H2 => wipe σ2 [sl] = wipe σ [sl] ∧ tt σ2 H2 fun b H3 =>
        if b = true then te σ2 H3 fun y H4 => ∃ acc, H4 D = some (.lst acc) ∧ acc.length < sizeLine ∧ Nx (upd H4 D (.lst (acc ++ [y]))) else Nx H3) := by
  refine lc_it w (fun i Hz => Same H1 Hz ∧ Hz D = some (.lst (vn (((xs.take i).filter p).map f)))) ⟨same_new nD, upd_same⟩ (fun i Hz _ h => hG _ h.1) ?_ ?_
  · rintro i x Hz H' hi ⟨sz, hZ⟩ y
    obtain ⟨rfl, k, hk, rfl⟩ := hY _ _ _ _ y
    have mem := List.mem_of_getElem? hk
    refine ⟨hw _, ht k mem _ _ sz fun H2 s2 => ?_⟩
    have e : ((xs.take (i + 1)).filter p).map f = ((xs.take i).filter p).map f ++ (if p k = true then [f k] else []) := by
      rw [take_snoc hk, List.filter_append, List.map_append, List.filter_cons]
      split <;> rfl
    by_cases c : p k = true
    · rw [if_pos c]
      refine hs k mem c _ _ (sz.trans s2) fun H3 s3 => ⟨_, s3 _ _ (s2 _ _ hZ), ?_, same_mut (sz.trans (s2.trans s3)) nD, ?_⟩
      · rw [vn_len, List.length_map]
        have h1 := List.length_filter_le p (xs.take i)
        rw [List.length_take] at h1
        exact small64k (by omega)
      · rw [upd_same, e, if_pos c, vn_snoc]
    · rw [if_neg c]
      refine ⟨sz.trans s2, ?_⟩
      rw [e, if_neg c, List.append_nil]
      exact s2 _ _ hZ
  · rintro Hz ⟨sz, hZ⟩
    rw [List.take_length] at hZ
    exact hd Hz sz hZ
section
variable {K : PySem.W.Frag} {a : Addr} {xs : List Nat} {sl : Nat} {tt : TT} {te : TE} {σ : L2.St} {H1 : Hp} {D : Addr} {Qd : Hp → Prop}
theorem yat_nat {i : Nat} {Hz H' : Hp} {x : V} (h : YAt (vn xs) i Hz x H') : H' = Hz ∧ ∃ k, xs[i]? = some k ∧ x = .int (k : Nat) := by
  refine ⟨h.1, ?_⟩
  have h := h.2
  unfold vn at h
  rw [List.getElem?_map] at h
  obtain ⟨k, e1, e2⟩ := Option.map_eq_some_iff.mp h
  exact ⟨k, e1, e2.symm⟩
/-- [f(x) for x in xs if p(x)] -/
theorem lcLf (p : Nat → Bool) (f : Nat → Nat) (nD : H1 D = none) (hx : H1 a = some (.lst (vn xs))) (few : xs.length ≤ 60000) (hw : ∀ v, wipe ((wipe σ [sl]).set sl v) [sl] = wipe σ [sl])
    (ht : ∀ x ∈ xs, ∀ (Hz : Hp) (Q : Bool → Hp → Prop), Same H1 Hz → (∀ H', Same Hz H' → Q (p x) H') → tt ((wipe σ [sl]).set sl (some (.int (x : Nat)))) Hz Q)
    (hs : ∀ x ∈ xs, p x = true → ∀ (Hz : Hp) (Q : VK), Same H1 Hz → (∀ H', Same Hz H' → Q (.int (f x : Nat)) H') → te ((wipe σ [sl]).set sl (some (.int (x : Nat)))) Hz Q)
    (hd : ∀ H', Same H1 H' → H' D = some (.lst (vn ((xs.filter p).map f))) → Qd H') :
    ∃ W : Nat → Nat → Hp → Prop, (∃ m, W 0 m (upd H1 D (.lst []))) ∧ ∀ i m H, W i m H →
      ((Itl K a).stop i H ∧ Qd H) ∨ ((Itl K a).go i H ∧ ∃ Nx : Hp → Prop, (∀ H', Nx H' → ∃ m', m' < m ∧ W (i + 1) m' H') ∧ ∀ x H', (Itl K a).yld i H x H' → gName sl x (wipe σ [sl]) H' fun σ2 H2 => wipe σ2 [sl] = wipe σ [sl] ∧ tt σ2 H2 fun b H3 =>
        if b = true then te σ2 H3 fun y H4 => ∃ acc, H4 D = some (.lst acc) ∧ acc.length < sizeLine ∧ Nx (upd H4 D (.lst (acc ++ [y]))) else Nx H3) := by
  have w := walk_list (K := K) (a := a) (xs := vn xs)
  rw [vn_len] at w
  exact lcN w p f nD few hw (fun Hz s => SqL.of (s _ _ hx)) (fun i Hz x H' y => yat_nat y) ht hs hd
/-- [f(x) for x in xs] -/
theorem lcL (f : Nat → Nat) (nD : H1 D = none) (hx : H1 a = some (.lst (vn xs))) (few : xs.length ≤ 60000) (hw : ∀ v, wipe ((wipe σ [sl]).set sl v) [sl] = wipe σ [sl])
    (hs : ∀ x ∈ xs, ∀ (Hz : Hp) (Q : VK), Same H1 Hz → (∀ H', Same Hz H' → Q (.int (f x : Nat)) H') → te ((wipe σ [sl]).set sl (some (.int (x : Nat)))) Hz Q)
    (hd : ∀ H', Same H1 H' → H' D = some (.lst (vn (xs.map f))) → Qd H') :
    ∃ W : Nat → Nat → Hp → Prop, (∃ m, W 0 m (upd H1 D (.lst []))) ∧ ∀ i m H, W i m H →
      ((Itl K a).stop i H ∧ Qd H) ∨ ((Itl K a).go i H ∧ ∃ Nx : Hp → Prop, (∀ H', Nx H' → ∃ m', m' < m ∧ W (i + 1) m' H') ∧ ∀ x H', (Itl K a).yld i H x H' → gName sl x (wipe σ [sl]) H' fun σ2 H2 => wipe σ2 [sl] = wipe σ [sl] ∧ tYes σ2 H2 fun b H3 =>
        if b = true then te σ2 H3 fun y H4 => ∃ acc, H4 D = some (.lst acc) ∧ acc.length < sizeLine ∧ Nx (upd H4 D (.lst (acc ++ [y]))) else Nx H3) :=
  lcLf (fun _ => true) f nD hx few hw (fun _ _ _ _ _ q => q _ (Same.refl _)) (fun x m _ => hs x m) fun H' s h => hd H' s (by rw [List.filter_eq_self.mpr (fun _ _ => rfl)] at h; exact h)
/-- [f(x) for x in t], t a tuple -/
theorem lcT (f : Nat → Nat) (nD : H1 D = none) (hx : SqT K H1 a (vn xs)) (few : xs.length ≤ 60000) (hw : ∀ v, wipe ((wipe σ [sl]).set sl v) [sl] = wipe σ [sl])
    (hs : ∀ x ∈ xs, ∀ (Hz : Hp) (Q : VK), Same H1 Hz → (∀ H', Same Hz H' → Q (.int (f x : Nat)) H') → te ((wipe σ [sl]).set sl (some (.int (x : Nat)))) Hz Q)
    (hd : ∀ H', Same H1 H' → H' D = some (.lst (vn (xs.map f))) → Qd H') :
    ∃ W : Nat → Nat → Hp → Prop, (∃ m, W 0 m (upd H1 D (.lst []))) ∧ ∀ i m H, W i m H →
      ((Itt K a).stop i H ∧ Qd H) ∨ ((Itt K a).go i H ∧ ∃ Nx : Hp → Prop, (∀ H', Nx H' → ∃ m', m' < m ∧ W (i + 1) m' H') ∧ ∀ x H', (Itt K a).yld i H x H' → gName sl x (wipe σ [sl]) H' fun σ2 H2 => wipe σ2 [sl] = wipe σ [sl] ∧ tYes σ2 H2 fun b H3 =>
        if b = true then te σ2 H3 fun y H4 => ∃ acc, H4 D = some (.lst acc) ∧ acc.length < sizeLine ∧ Nx (upd H4 D (.lst (acc ++ [y]))) else Nx H3) := by
  have w := walk_tup (K := K) (a := a) (xs := vn xs)
  rw [vn_len] at w
  exact lcN w (fun _ => true) f nD few hw (fun Hz s => tup_same s hx) (fun i Hz x H' y => yat_nat y) (fun _ _ _ _ _ q => q _ (Same.refl _)) (fun x m _ => hs x m) fun H' s h => hd H' s (by rw [List.filter_eq_self.mpr (fun _ _ => rfl)] at h; exact h)
/-- [f(x) for x in range(n) if p(x)] -/
theorem lcRf {n : Nat} (p : Nat → Bool) (f : Nat → Nat) (nD : H1 D = none) (few : n ≤ 60000) (hw : ∀ v, wipe ((wipe σ [sl]).set sl v) [sl] = wipe σ [sl])
    (ht : ∀ x, x < n → ∀ (Hz : Hp) (Q : Bool → Hp → Prop), Same H1 Hz → (∀ H', Same Hz H' → Q (p x) H') → tt ((wipe σ [sl]).set sl (some (.int (x : Nat)))) Hz Q)
    (hs : ∀ x, x < n → p x = true → ∀ (Hz : Hp) (Q : VK), Same H1 Hz → (∀ H', Same Hz H' → Q (.int (f x : Nat)) H') → te ((wipe σ [sl]).set sl (some (.int (x : Nat)))) Hz Q)
    (hd : ∀ H', Same H1 H' → H' D = some (.lst (vn (((List.range n).filter p).map f))) → Qd H') :
    ∃ W : Nat → Nat → Hp → Prop, (∃ m, W 0 m (upd H1 D (.lst []))) ∧ ∀ i m H, W i m H →
      ((Itr 0 n).stop i H ∧ Qd H) ∨ ((Itr 0 n).go i H ∧ ∃ Nx : Hp → Prop, (∀ H', Nx H' → ∃ m', m' < m ∧ W (i + 1) m' H') ∧ ∀ x H', (Itr 0 n).yld i H x H' → gName sl x (wipe σ [sl]) H' fun σ2 H2 => wipe σ2 [sl] = wipe σ [sl] ∧ tt σ2 H2 fun b H3 =>
        if b = true then te σ2 H3 fun y H4 => ∃ acc, H4 D = some (.lst acc) ∧ acc.length < sizeLine ∧ Nx (upd H4 D (.lst (acc ++ [y]))) else Nx H3) := by
  have w : Walk (Itr 0 n) (List.range n).length (fun _ => True) (fun i Hz x H' => i < n ∧ YFn (fun i => .int ((0 : Int) + (i : Nat))) i Hz x H') := by
    rw [List.length_range]
    have w0 := walk_range (lo := 0) (n := n)
    exact ⟨w0.goes, w0.stops, fun i Hz x H' hi t y => ⟨hi, w0.yields i Hz x H' hi t y⟩⟩
  refine lcN w p f nD (by rw [List.length_range]; exact few) hw (fun _ _ => trivial) (fun i Hz x H' y => ⟨y.2.1, i, List.getElem?_range y.1, ?_⟩) (fun x m => ht x (List.mem_range.mp m)) (fun x m => hs x (List.mem_range.mp m)) hd
  rw [y.2.2]
  show V.int (0 + (i : Int)) = _
  rw [Int.zero_add]
/-- [f(x) for x in range(n)] -/
theorem lcR {n : Nat} (f : Nat → Nat) (nD : H1 D = none) (few : n ≤ 60000) (hw : ∀ v, wipe ((wipe σ [sl]).set sl v) [sl] = wipe σ [sl])
    (hs : ∀ x, x < n → ∀ (Hz : Hp) (Q : VK), Same H1 Hz → (∀ H', Same Hz H' → Q (.int (f x : Nat)) H') → te ((wipe σ [sl]).set sl (some (.int (x : Nat)))) Hz Q)
    (hd : ∀ H', Same H1 H' → H' D = some (.lst (vn ((List.range n).map f))) → Qd H') :
    ∃ W : Nat → Nat → Hp → Prop, (∃ m, W 0 m (upd H1 D (.lst []))) ∧ ∀ i m H, W i m H →
      ((Itr 0 n).stop i H ∧ Qd H) ∨ ((Itr 0 n).go i H ∧ ∃ Nx : Hp → Prop, (∀ H', Nx H' → ∃ m', m' < m ∧ W (i + 1) m' H') ∧ ∀ x H', (Itr 0 n).yld i H x H' → gName sl x (wipe σ [sl]) H' fun σ2 H2 => wipe σ2 [sl] = wipe σ [sl] ∧ tYes σ2 H2 fun b H3 =>
        if b = true then te σ2 H3 fun y H4 => ∃ acc, H4 D = some (.lst acc) ∧ acc.length < sizeLine ∧ Nx (upd H4 D (.lst (acc ++ [y]))) else Nx H3) :=
  lcRf (fun _ => true) f nD few hw (fun _ _ _ _ _ q => q _ (Same.refl _)) (fun x m _ => hs x m) fun H' s h => hd H' s (by rw [List.filter_eq_self.mpr (fun _ _ => rfl)] at h; exact h)
end
end V0
namespace K38
open PySem PySem.Spec PyProof.Rows L2 V0
def topS (i : Nat) : Stmt := PySem.Challenge.pw_cellcloth_k38_whole_tidy_nets.main.body.getD i (.Pass ⟨0, 0, 0, 0⟩)
abbrev s__law_state : Stmt := topS 23
abbrev N__law_state : List Str := ["script", "seed", "cell"]
theorem sc_law_state : FnScope ["script", "seed", "cell"] ["script"] (defScope s__law_state) := ⟨rfl, rfl, rfl, by decide +kernel, rfl, by decide +kernel, by decide +kernel⟩
abbrev s__law_draw : Stmt := topS 24
abbrev N__law_draw : List Str := ["state", "many", "cells", "value", "mixed"]
theorem sc_law_draw : FnScope ["state", "many", "cells", "value", "mixed"] ["state", "many"] (defScope s__law_draw) := ⟨rfl, rfl, rfl, by decide +kernel, rfl, by decide +kernel, by decide +kernel⟩
abbrev s__law_pick : Stmt := topS 25
abbrev N__law_pick : List Str := ["state", "row"]
theorem sc_law_pick : FnScope ["state", "row"] ["state", "row"] (defScope s__law_pick) := ⟨rfl, rfl, rfl, by decide +kernel, rfl, by decide +kernel, by decide +kernel⟩
abbrev s__law_net : Stmt := topS 26
abbrev N__law_net : List Str := ["state", "ins", "flops", "most", "k", "starts", "gates", "many", "low", "nexts"]
theorem sc_law_net : FnScope ["state", "ins", "flops", "most", "k", "starts", "gates", "many", "low", "nexts"] ["state", "ins", "flops", "most"] (defScope s__law_net) := ⟨rfl, rfl, rfl, by decide +kernel, rfl, by decide +kernel, by decide +kernel⟩
abbrev s__law_rows : Stmt := topS 30
abbrev N__law_rows : List Str := ["state", "ins", "most", "j", "k"]
theorem sc_law_rows : FnScope ["state", "ins", "most", "j", "k"] ["state", "ins", "most"] (defScope s__law_rows) := ⟨rfl, rfl, rfl, by decide +kernel, rfl, by decide +kernel, by decide +kernel⟩
abbrev s_Builder___init__ : Stmt := inClass (topS 1) 0
abbrev N_Builder___init__ : List Str := ["self", "ins", "starts"]
theorem scBuilder___init__ : FnScope ["self", "ins", "starts"] ["self", "ins", "starts"] (defScope s_Builder___init__) := ⟨rfl, rfl, rfl, by decide +kernel, rfl, by decide +kernel, by decide +kernel⟩
abbrev s_base_of : Stmt := topS 8
abbrev N_base_of : List Str := ["net"]
theorem scbase_of : FnScope ["net"] ["net"] (defScope s_base_of) := ⟨rfl, rfl, rfl, by decide +kernel, rfl, by decide +kernel, by decide +kernel⟩
abbrev s__bases : Stmt := topS 17
abbrev N__bases : List Str := ["net", "node"]
theorem sc_bases : FnScope ["net", "node"] ["net"] (defScope s__bases) := ⟨rfl, rfl, rfl, by decide +kernel, rfl, by decide +kernel, by decide +kernel⟩
abbrev s_Builder_net : Stmt := inClass (topS 1) 3
abbrev N_Builder_net : List Str := ["self", "nexts", "outs"]
theorem scBuilder_net : FnScope ["self", "nexts", "outs"] ["self", "nexts", "outs"] (defScope s_Builder_net) := ⟨rfl, rfl, rfl, by decide +kernel, rfl, by decide +kernel, by decide +kernel⟩
abbrev s_many_nodes : Stmt := topS 9
abbrev N_many_nodes : List Str := ["net"]
theorem scmany_nodes : FnScope ["net"] ["net"] (defScope s_many_nodes) := ⟨rfl, rfl, rfl, by decide +kernel, rfl, by decide +kernel, by decide +kernel⟩
abbrev s_needed : Stmt := topS 14
abbrev N_needed : List Str := ["net", "literals", "base", "marked", "literal", "k", "node", "is_needed"]
theorem scneeded : FnScope ["net", "literals", "base", "marked", "literal", "k", "node", "is_needed"] ["net", "literals"] (defScope s_needed) := ⟨rfl, rfl, rfl, by decide +kernel, rfl, by decide +kernel, by decide +kernel⟩
abbrev s__needed_nodes : Stmt := topS 20
abbrev N__needed_nodes : List Str := ["net", "_", "ins", "nexts", "outs", "literals", "known", "nodes", "node", "found"]
theorem sc_needed_nodes : FnScope ["net", "_", "ins", "nexts", "outs", "literals", "known", "nodes", "node", "found"] ["net"] (defScope s__needed_nodes) := ⟨rfl, rfl, rfl, by decide +kernel, rfl, by decide +kernel, by decide +kernel⟩
abbrev s__renumbered : Stmt := topS 21
abbrev N__renumbered : List Str := ["literals", "numbers", "literal"]
theorem sc_renumbered : FnScope ["literals", "numbers", "literal"] ["literals", "numbers"] (defScope s__renumbered) := ⟨rfl, rfl, rfl, by decide +kernel, rfl, by decide +kernel, by decide +kernel⟩
abbrev s__without_rest : Stmt := topS 19
abbrev N__without_rest : List Str := ["net", "_", "ins", "starts", "gates", "nexts", "outs", "first_gate", "nodes", "node", "flops", "numbers", "kept", "k", "pair"]
theorem sc_without_rest : FnScope ["net", "_", "ins", "starts", "gates", "nexts", "outs", "first_gate", "nodes", "node", "flops", "numbers", "kept", "k", "pair"] ["net"] (defScope s__without_rest) := ⟨rfl, rfl, rfl, by decide +kernel, rfl, by decide +kernel, by decide +kernel⟩
abbrev s_Builder_standing : Stmt := inClass (topS 1) 2
abbrev N_Builder_standing : List Str := ["self", "a", "b", "low", "high"]
theorem scBuilder_standing : FnScope ["self", "a", "b", "low", "high"] ["self", "a", "b"] (defScope s_Builder_standing) := ⟨rfl, rfl, rfl, by decide +kernel, rfl, by decide +kernel, by decide +kernel⟩
abbrev s_Builder_both : Stmt := inClass (topS 1) 1
abbrev N_Builder_both : List Str := ["self", "a", "b", "told", "pair"]
theorem scBuilder_both : FnScope ["self", "a", "b", "told", "pair"] ["self", "a", "b"] (defScope s_Builder_both) := ⟨rfl, rfl, rfl, by decide +kernel, rfl, by decide +kernel, by decide +kernel⟩
abbrev s__stands : Stmt := topS 18
abbrev N__stands : List Str := ["standing", "literal"]
theorem sc_stands : FnScope ["standing", "literal"] ["standing", "literal"] (defScope s__stands) := ⟨rfl, rfl, rfl, by decide +kernel, rfl, by decide +kernel, by decide +kernel⟩
abbrev s_tidied : Stmt := topS 16
abbrev N_tidied : List Str := ["net", "_", "ins", "starts", "gates", "nexts", "outs", "made", "standing", "a", "b", "plain", "x"]
theorem sctidied : FnScope ["net", "_", "ins", "starts", "gates", "nexts", "outs", "made", "standing", "a", "b", "plain", "x"] ["net"] (defScope s_tidied) := ⟨rfl, rfl, rfl, by decide +kernel, rfl, by decide +kernel, by decide +kernel⟩
abbrev s_valued : Stmt := topS 11
abbrev N_valued : List Str := ["row", "literal"]
theorem scvalued : FnScope ["row", "literal"] ["row", "literal"] (defScope s_valued) := ⟨rfl, rfl, rfl, by decide +kernel, rfl, by decide +kernel, by decide +kernel⟩
abbrev s_values : Stmt := topS 10
abbrev N_values : List Str := ["net", "state", "bits", "row", "first", "second"]
theorem scvalues : FnScope ["net", "state", "bits", "row", "first", "second"] ["net", "state", "bits"] (defScope s_values) := ⟨rfl, rfl, rfl, by decide +kernel, rfl, by decide +kernel, by decide +kernel⟩
abbrev s_step : Stmt := topS 12
abbrev N_step : List Str := ["net", "state", "bits", "row", "literal"]
theorem scstep : FnScope ["net", "state", "bits", "row", "literal"] ["net", "state", "bits"] (defScope s_step) := ⟨rfl, rfl, rfl, by decide +kernel, rfl, by decide +kernel, by decide +kernel⟩
abbrev s_run : Stmt := topS 13
abbrev N_run : List Str := ["net", "rows", "told", "state", "bits", "row"]
theorem scrun : FnScope ["net", "rows", "told", "state", "bits", "row"] ["net", "rows"] (defScope s_run) := ⟨rfl, rfl, rfl, by decide +kernel, rfl, by decide +kernel, by decide +kernel⟩
abbrev s__law_bit : Stmt := topS 27
abbrev N__law_bit : List Str := ["row", "literal"]
theorem sc_law_bit : FnScope ["row", "literal"] ["row", "literal"] (defScope s__law_bit) := ⟨rfl, rfl, rfl, by decide +kernel, rfl, by decide +kernel, by decide +kernel⟩
abbrev s__law_row : Stmt := topS 28
abbrev N__law_row : List Str := ["net", "held", "bits", "row", "a", "b"]
theorem sc_law_row : FnScope ["net", "held", "bits", "row", "a", "b"] ["net", "held", "bits"] (defScope s__law_row) := ⟨rfl, rfl, rfl, by decide +kernel, rfl, by decide +kernel, by decide +kernel⟩
abbrev s__law_run : Stmt := topS 29
abbrev N__law_run : List Str := ["net", "rows", "held", "told", "bits", "row", "literal"]
theorem sc_law_run : FnScope ["net", "rows", "held", "told", "bits", "row", "literal"] ["net", "rows"] (defScope s__law_run) := ⟨rfl, rfl, rfl, by decide +kernel, rfl, by decide +kernel, by decide +kernel⟩
abbrev s__law_image : Stmt := topS 32
abbrev N__law_image : List Str := ["images", "literal", "one"]
theorem sc_law_image : FnScope ["images", "literal", "one"] ["images", "literal"] (defScope s__law_image) := ⟨rfl, rfl, rfl, by decide +kernel, rfl, by decide +kernel, by decide +kernel⟩
abbrev s__law_need : Stmt := topS 33
abbrev N__law_need : List Str := ["net", "literals", "first", "need", "node", "literal"]
theorem sc_law_need : FnScope ["net", "literals", "first", "need", "node", "literal"] ["net", "literals"] (defScope s__law_need) := ⟨rfl, rfl, rfl, by decide +kernel, rfl, by decide +kernel, by decide +kernel⟩
abbrev s__law_both : Stmt := topS 31
abbrev N__law_both : List Str := ["made", "a", "b"]
theorem sc_law_both : FnScope ["made", "a", "b"] ["made", "a", "b"] (defScope s__law_both) := ⟨rfl, rfl, rfl, by decide +kernel, rfl, by decide +kernel, by decide +kernel⟩
abbrev s__law_tidy : Stmt := topS 34
abbrev N__law_tidy : List Str := ["net", "first", "made", "node", "images", "a", "b", "nexts", "outs", "small", "flops", "turn", "ends", "need", "place", "gates", "pairs", "told", "literal", "k"]
theorem sc_law_tidy : FnScope ["net", "first", "made", "node", "images", "a", "b", "nexts", "outs", "small", "flops", "turn", "ends", "need", "place", "gates", "pairs", "told", "literal", "k"] ["net"] (defScope s__law_tidy) := ⟨rfl, rfl, rfl, by decide +kernel, rfl, by decide +kernel, by decide +kernel⟩
abbrev s_fault_of : Stmt := topS 7
abbrev N_fault_of : List Str := ["net", "_", "starts", "gates", "nexts", "outs", "base", "k", "start", "gate", "literal", "word", "literals"]
theorem scfault_of : FnScope ["net", "_", "starts", "gates", "nexts", "outs", "base", "k", "start", "gate", "literal", "word", "literals"] ["net"] (defScope s_fault_of) := ⟨rfl, rfl, rfl, by decide +kernel, rfl, by decide +kernel, by decide +kernel⟩
abbrev s_check : Stmt := topS 6
abbrev N_check : List Str := ["net", "fault"]
theorem sccheck : FnScope ["net", "fault"] ["net"] (defScope s_check) := ⟨rfl, rfl, rfl, by decide +kernel, rfl, by decide +kernel, by decide +kernel⟩
abbrev s_law : Stmt := topS 35
abbrev N_law : List Str := ["script", "state", "big", "net", "before", "rows", "told"]
theorem sclaw : FnScope ["script", "state", "big", "net", "before", "rows", "told"] ["script"] (defScope s_law) := ⟨rfl, rfl, rfl, by decide +kernel, rfl, by decide +kernel, by decide +kernel⟩
structure Txt (K : PySem.W.Frag) (mg : Str → Option Value) (C_Builder : Addr) : Prop where
  c_Builder : Cls K C_Builder
  m_Builder : mg "Builder" = some (.ref C_Builder)
  n_Builder_ins : NoAttr K C_Builder "ins"
  n_Builder_starts : NoAttr K C_Builder "starts"
  n_Builder_gates : NoAttr K C_Builder "gates"
  n_Builder_known : NoAttr K C_Builder "known"
  m_abs : mg "abs" = none
  m_any : mg "any" = none
  m_enumerate : mg "enumerate" = none
  m_int : mg "int" = none
  m_len : mg "len" = none
  m_list : mg "list" = none
  m_max : mg "max" = none
  m_min : mg "min" = none
  m_range : mg "range" = none
  m_repr : mg "repr" = none
  m_reversed : mg "reversed" = none
  m_set : mg "set" = none
  m_sorted : mg "sorted" = none
  m_tuple : mg "tuple" = none
end K38
namespace K38
open PySem PySem.Spec PyProof.Rows L2 V0
/-! ### the draws -/
def sp__law_state (K : PySem.W.Frag) : Sp := fun vs H Q _ => ∃ (a : Addr) (ns : List Int), vs = [.ref a] ∧ SqL K H a (vi ns) ∧ ns.length ≤ 63 ∧ ∀ H' p c, Same H H' → Dr H' p c → Q (.ref p) H'
theorem ok__law_state {P : Program} {w : World} {K : PySem.W.Frag} {mg : Str → Option Value} {base : Heap} {C_Builder : Addr} {f  : Addr} {fd  : FuncData} (F : Fun K "_law_state" "_law_state" s__law_state f fd) (T : Txt K mg C_Builder) :
    FnOk P w K mg base CX0 1 f fd ["script"] (sp__law_state K) := by
  refine F.ok sc_law_state (fun vs H Q E h => ?_) (fun cdv A outer s H vs Q E hr h => ?_)
  · obtain ⟨a, ns, rfl, _⟩ := h
    rfl
  · obtain ⟨a, ns, rfl, hS, hl, q⟩ := h
    refine ⟨_, (pss_cons (ps_set (i := 1) sc_law_state.nd rfl (.inl rfl) pe_int)
      (pss_cons (ps_for PassesOwn.never rfl (pi_list (pv 0)) (pg_name (i := 2) sc_law_state.nd rfl (Or.inl rfl)) (pss_one (ps_set (i := 1) sc_law_state.nd rfl (.inl rfl) (pe_op op_modN (pe_callTy call_int1 (by rfl) T.m_int (by decide +kernel) (pa_cons (pe_op op_add (pe_op op_mul (pv 1) pe_int) (pv 2)) pa_nil)) pe_int))))
      (pss_one (ps_ret (pe_lst (pa_cons (pe_lc (own := [("cell", 2)]) (g := gName 2) (tt := tYes) rfl sc_law_state.nd (pi_list (pv 0)) (blkOk_by (N := N__law_state) (sc := defScope s__law_state) (by decide +kernel)) (fun _ _ _ _ _ => (pg_name (i := 2) sc_law_state.nd rfl (Or.inl rfl))) (fun _ _ _ _ _ => pts_nil) (fun _ _ _ _ _ => (pe_callB call_abs (by rfl) T.m_abs (by decide +kernel) (pa_cons (pe_callTy call_int1 (by rfl) T.m_int (by decide +kernel) (pa_cons (pv 2) pa_nil)) pa_nil)))) (pa_cons (pe_op op_add (pv 1) pe_int) pa_nil))))))), ?_⟩
    refine ⟨_, rfl, a, rfl, ⟨_, hS⟩, for_list (xs := vi ns) (fun _ σ H' => ∃ (z : Int) (y : Option V), σ = [some (.ref a), some (.int z), y] ∧ H' = H) ⟨7, none, rfl, rfl⟩ (fun i σ H' _ h => ?_) ?_ ?_⟩
    · obtain ⟨z, y, _, rfl⟩ := h
      exact hS
    · rintro i v σ H' hv ⟨z, y, rfl, rfl⟩
      obtain ⟨n, hn, rfl⟩ := List.mem_map.mp (List.mem_of_getElem? hv)
      refine ⟨_, rfl, _, _, rfl, rfl, .inr ⟨by decide, by decide⟩, _, rfl, _, _, rfl, rfl, .inl ⟨_, rfl, _, _, rfl, rfl, (show (1000003 : Int) ≠ 0 by decide), ?_⟩⟩
      exact ⟨_, _, rfl, rfl⟩
    · rintro σ H' ⟨z, y, rfl, rfl⟩
      refine ⟨_, rfl, a, rfl, ⟨_, hS⟩, fun D hD => lc_list (xs := vi ns) (fun i H'' => Same H' H'' ∧ H'' D = some (.lst (vn ((ns.take i).map Int.natAbs)))) ⟨same_new hD, upd_same⟩ (fun i H'' _ h => h.1.seq hS) ?_ ?_⟩
      · rintro i v H'' hv ⟨sm, hD'⟩
        have hi : i < ns.length := by
          have h := (List.getElem?_eq_some_iff.mp hv).1
          rw [List.length_map] at h
          exact h
        rw [List.getElem?_map, List.getElem?_eq_getElem hi] at hv
        cases hv
        refine ⟨rfl, _, rfl, .inl ⟨_, rfl, _, rfl, _, hD', ?_, same_mut sm hD, ?_⟩⟩
        · rw [vn_len, List.length_map, List.length_take]
          exact small1000 (by omega)
        · rw [upd_same, List.take_add_one, List.getElem?_eq_getElem hi]
          have e : (if ns[i] < 0 then -ns[i] else ns[i]) = ((ns[i].natAbs : Nat) : Int) := by
            by_cases h : ns[i] < 0
            · rw [if_pos h]
              omega
            · rw [if_neg h]
              omega
          rw [e]
          unfold vn
          rw [List.map_append, List.map_append]
          rfl
      · rintro H'' ⟨sm, hD'⟩
        refine ⟨_, rfl, _, _, rfl, rfl, by show 2 ≤ sizeLine; decide, fun p hp => ?_⟩
        have hDp : D ≠ p := fun e => by
          rw [e, hp] at hD'
          cases hD'
        refine q _ p D (same_mut sm (by rcases hq : H' p with _ | o; rfl; rw [sm _ _ hq] at hp; cases hp)) ⟨fun e => hDp e.symm, (ns.take (vi ns).length).map Int.natAbs, z + 1, upd_same, ?_, ?_⟩
        · rw [upd_ne hDp]
          exact hD'
        · rw [List.length_map, List.length_take]
          omega
def sp__law_draw (K : PySem.W.Frag) : Sp := fun vs H Q _ => ∃ (p c : Addr) (n : Nat), vs = [.ref p, .int n] ∧ Dr H p c ∧ 0 < n ∧ n < 1073741824 ∧ ∀ H' (d : Nat), Go p c H H' → d < n → Q (.int d) H'
theorem ok__law_draw {P : Program} {w : World} {K : PySem.W.Frag} {mg : Str → Option Value} {base : Heap} {C_Builder : Addr} {f  : Addr} {fd  : FuncData} (F : Fun K "_law_draw" "_law_draw" s__law_draw f fd) (T : Txt K mg C_Builder) :
    FnOk P w K mg base CX0 1 f fd ["state", "many"] (sp__law_draw K) := by
  refine F.ok sc_law_draw (fun vs H Q E h => ?_) (fun cdv A outer s H vs Q E hr h => ?_)
  · obtain ⟨p, c, n, rfl, _⟩ := h
    rfl
  · obtain ⟨p, c, n, rfl, d0, h0, h1, q⟩ := h
    have nz : ((n : Nat) : Int) ≠ 0 := by omega
    have fm : ∀ x : Nat, ((x : Int)).fmod (n : Int) = ((x % n : Nat) : Int) := fun x => by rw [Int.fmod_eq_emod_of_nonneg _ (by omega)]; omega
    obtain ⟨nc, cs0, z0, hp0, hc0, hl0⟩ := d0
    refine ⟨_, (pss_cons (ps_set (i := 2) sc_law_draw.nd rfl (.inl rfl) (pe_ix (r := rIxL K) ix_list (pv 0) pe_int (fun _ _ => rfl)))
      (C8.pss_cut (ps_while PassesOwn.never (PW.pt (pw_and (pt_cmpR op_gt (pe_callB call_len_seq (by rfl) T.m_len (by decide +kernel) (pa_cons (pv 2) pa_nil)) pe_int (nomark _)) (pw_and1 (pt_cmpR op_eq (pe_ix (r := rIxL K) ix_list (pv 2) pe_int (fun _ _ => rfl)) pe_int (nomark _))))) (pss_one (ps_expr (pe_bm PySem.F.plainAttrs_list PySem.F.slot_list_pop PySem.F.type_list_pop mt_popAt (pv 2) (pa_cons pe_int pa_nil)))))
      (pss_cons (ps_if (pt_cmpR op_gt (pe_callB call_len_seq (by rfl) T.m_len (by decide +kernel) (pa_cons (pv 2) pa_nil)) pe_int (nomark _)) (pss_cons (ps_set (i := 3) sc_law_draw.nd rfl (.inl rfl) (pe_ix (r := rIxL K) ix_list (pv 2) pe_int (fun _ _ => rfl)))
      (pss_cons (ps_asg (pe_op op_fdivN (pv 3) (pv 1)) (pg_sub (pv 2) pe_int set_list))
      (pss_one (ps_ret (pe_op op_modN (pe_callTy call_int1 (by rfl) T.m_int (by decide +kernel) (pa_cons (pv 3) pa_nil)) (pv 1)))))) pss_nil)
      (pss_cons (ps_set (i := 4) sc_law_draw.nd rfl (.inl rfl) (pe_op op_modN (pe_callTy call_int1 (by rfl) T.m_int (by decide +kernel) (pa_cons (pe_op op_add (pe_op op_mul (pe_ix (r := rIxL K) ix_list (pv 0) pe_int (fun _ _ => rfl)) pe_int) pe_int) pa_nil)) pe_int))
      (pss_cons (ps_asg (pv 4) (pg_sub (pv 0) pe_int set_list))
      (pss_one (ps_ret (pe_op op_modN (pe_callTy call_int1 (by rfl) T.m_int (by decide +kernel) (pa_cons (pe_op op_fdivN (pv 4) pe_int) pa_nil)) (pv 1))))))))), ?_⟩
    refine ⟨_, rfl, p, _, 0, _, rfl, rfl, SqL.of hp0, atI_nat (j := 0) rfl, ?_⟩
    have go : ∀ (cs : List Nat) (z : Int), cs.length ≤ 63 → Go p c H (upd (upd H c (.lst (vn cs))) p (.lst [.ref c, .int z])) := fun cs z hl =>
      ⟨⟨nc, _, _, hp0, hc0, hl0⟩, ⟨nc, cs, z, upd_same, by rw [upd_ne (fun e => nc e.symm)]; exact upd_same, hl⟩, fun b o hb => by
        obtain ⟨b1, b2, b3⟩ := res_some hb
        rw [res_eq b1 b2, upd_ne b1, upd_ne b2]
        exact b3⟩
    have hpc : ∀ cs : List Nat, (upd H c (.lst (vn cs))) p = some (.lst [.ref c, .int z0]) := fun cs => by
      rw [upd_ne nc]
      exact hp0
    refine ⟨fun σ H' => ∃ cs : List Nat, σ = [some (.ref p), some (.int n), some (.ref c), none, none] ∧ H' = upd H c (.lst (vn cs)) ∧ cs.length ≤ 63, ?_, ?_⟩
    · refine while_by (fun σ H' => ∃ cs : List Nat, σ = [some (.ref p), some (.int n), some (.ref c), none, none] ∧ H' = upd H c (.lst (vn cs)) ∧ cs.length ≤ 63) (fun _ H' => match H' c with | some (.lst xs) => xs.length | _ => 0) ⟨cs0, rfl, (upd_id hc0).symm, hl0⟩ ?_ ?_
      · rintro σ H' ⟨cs, rfl, rfl, hl⟩
        refine ⟨_, rfl, c, _, rfl, .inl (SqL.of upd_same), _, _, rfl, rfl, _, rfl, ?_⟩
        cases cs with
        | nil => exact iteF (iteF ⟨[], rfl, rfl, hl⟩)
        | cons x r =>
          have e : decide ((((vn (x :: r)).length : Nat) : Int) > 0) = true := decide_eq_true (by rw [vn_len, List.length_cons]; omega)
          rw [e]
          refine iteT ?_
          refine ⟨_, rfl, c, _, 0, _, rfl, rfl, SqL.of upd_same, atI_nat (j := 0) rfl, rfl, _, rfl, ?_⟩
          refine ite2 (fun _ => ?_) (fun _ => ⟨x :: r, rfl, rfl, hl⟩)
          refine ⟨_, rfl, .inl ⟨rfl, _, SqL.of upd_same⟩, c, _, 0, 0, _, rfl, rfl, upd_same, by decide, by decide, ?_, rfl, ?_, ?_⟩
          · rw [vn_len, List.length_cons]
            unfold seqIndex?
            simp
          · exact ⟨r, rfl, by rw [upd_upd]; rfl, by rw [List.length_cons] at hl; omega⟩
          · show (match (upd _ c _) c with | some (.lst xs) => xs.length | _ => 0) < (match (upd H c (.lst (vn (x :: r)))) c with | some (.lst xs) => xs.length | _ => 0)
            rw [upd_same, upd_same]
            show ((vn (x :: r)).eraseIdx 0).length < (vn (x :: r)).length
            simp
      · intro σ H' Q Q' hq h
        obtain ⟨x, e1, p', ys, e2, e3, i, j, e4, e5, k, e6, h⟩ := h
        refine ⟨x, e1, p', ys, e2, e3, i, j, e4, e5, k, e6, ?_⟩
        cases k with
        | false => exact iteF (hq _ _ (by rw [if_neg Bool.false_ne_true] at h; exact h))
        | true =>
          rw [if_pos rfl] at h
          obtain ⟨y, f1, l, xs, i2, v, f2, f3, f4, f5, f6, k2, f7, h⟩ := h
          exact iteT ⟨y, f1, l, xs, i2, v, f2, f3, f4, f5, f6, k2, f7, hq _ _ h⟩
    · rintro σ H' ⟨cs, rfl, rfl, hl⟩
      refine ⟨_, rfl, c, _, rfl, .inl (SqL.of upd_same), _, _, rfl, rfl, _, rfl, ?_⟩
      cases cs with
      | nil =>
        refine iteF ?_
        refine ⟨_, rfl, p, _, 1, _, rfl, rfl, SqL.of (hpc []), atI_nat (j := 1) rfl, _, _, rfl, rfl, .inr ⟨by decide, by decide⟩, _, _, rfl, rfl, .inl ⟨_, rfl, _, _, rfl, rfl, (show (2147483647 : Int) ≠ 0 by decide), ?_⟩⟩
        refine ⟨_, rfl, _, rfl, p, _, 1, 1, rfl, rfl, hpc [], rfl, ?_⟩
        have r := emod_range (x := z0 * 48271 + 12345) (show (0 : Int) < 2147483647 by decide)
        refine ⟨_, rfl, _, _, rfl, rfl, ⟨by decide, by decide⟩, .inl ⟨_, rfl, _, rfl, _, _, rfl, rfl, nz, ?_⟩⟩
        obtain ⟨y, hy⟩ : ∃ y : Nat, ((z0 * 48271 + 12345).fmod 2147483647).fdiv 64 = (y : Int) := ⟨_, (Int.toNat_of_nonneg (by
          rw [Int.fdiv_eq_ediv_of_nonneg _ (by decide)]
          omega)).symm⟩
        show Q (V.int ((((z0 * 48271 + 12345).fmod 2147483647).fdiv 64).fmod n)) _
        rw [hy, fm]
        exact q _ _ (go [] _ hl) (Nat.mod_lt _ h0)
      | cons x r =>
        have e : decide ((((vn (x :: r)).length : Nat) : Int) > 0) = true := decide_eq_true (by rw [vn_len, List.length_cons]; omega)
        rw [e]
        refine iteT ?_
        refine ⟨_, rfl, c, _, 0, _, rfl, rfl, SqL.of upd_same, atI_nat (j := 0) rfl, ?_⟩
        refine ⟨_, rfl, _, rfl, _, _, rfl, rfl, ⟨nz, by show ((n : Nat) : Int).natAbs < 1073741824; omega⟩, ?_⟩
        refine ⟨_, rfl, c, _, 0, 0, rfl, rfl, upd_same, ix_nat (j := 0) (by rw [vn_len, List.length_cons]; omega), ?_⟩
        refine ⟨_, rfl, .inl ⟨_, rfl, _, rfl, _, _, rfl, rfl, nz, ?_⟩⟩
        show Q (V.int ((x : Int).fmod n)) _
        rw [fm, upd_upd]
        have ed : (x : Int).fdiv n = ((x / n : Nat) : Int) := by
          rw [Int.fdiv_eq_ediv_of_nonneg _ (by omega)]
          rfl
        show Q _ (upd H c (.lst ((V.int ((x : Int).fdiv n)) :: vn r)))
        rw [ed]
        have g := go (x / n :: r) z0 hl
        rw [upd_id (show (upd H c (.lst (vn (x / n :: r)))) p = _ from hpc _)] at g
        exact q _ _ g (Nat.mod_lt _ h0)
def sp__law_pick (K : PySem.W.Frag) : Sp := fun vs H Q _ => ∃ (p c r : Addr) (xs : List Nat), vs = [.ref p, .ref r] ∧ Dr H p c ∧ r ≠ p ∧ r ≠ c ∧ H r = some (.lst (vn xs)) ∧ 0 < xs.length ∧ xs.length ≤ 1000 ∧ ∀ H' (d : Nat), Go p c H H' → d ∈ xs → Q (.int d) H'
theorem ok__law_pick {P : Program} {w : World} {K : PySem.W.Frag} {mg : Str → Option Value} {base : Heap} {C_Builder : Addr} {f f_law_draw : Addr} {fd fd_law_draw : FuncData} (F : Fun K "_law_pick" "_law_pick" s__law_pick f fd) (T : Txt K mg C_Builder)
    (G__law_draw : FnOk P w K mg base CX0 1 f_law_draw fd_law_draw ["state", "many"] (sp__law_draw K)) (D__law_draw : Def K mg "_law_draw" f_law_draw fd_law_draw ["state", "many"]) :
    FnOk P w K mg base CX0 2 f fd ["state", "row"] (sp__law_pick K) := by
  refine F.ok sc_law_pick (fun vs H Q E h => ?_) (fun cdv A outer s H vs Q E hr h => ?_)
  · obtain ⟨p, c, r, xs, rfl, _⟩ := h
    rfl
  · obtain ⟨p, c, r, xs, rfl, d0, n1, n2, hS, hl0, hl1, q⟩ := h
    refine ⟨_, (pss_one (ps_ret (pe_ix (r := rIxL K) ix_list (pv 1) (pe_call G__law_draw (hr.mono (by omega)) (by rfl) D__law_draw.m D__law_draw.k D__law_draw.b .nil pass0 (pa_cons (pv 0) (pa_cons (pe_callB call_len_seq (by rfl) T.m_len (by decide +kernel) (pa_cons (pv 1) pa_nil)) pa_nil))) (fun _ _ => rfl)))), ?_⟩
    refine ⟨_, rfl, _, rfl, _, rfl, r, _, rfl, .inl (SqL.of hS), p, c, xs.length, ?_, d0, hl0, by omega, fun H' d g hd => ?_⟩
    · rw [vn_len]
      rfl
    · exact ⟨r, _, _, _, rfl, rfl, SqL.of (g.get n1 n2 hS), atI_nat (vn_get (List.getElem?_eq_getElem hd)), q _ _ g (List.getElem_mem hd)⟩

/-! ### drawn nets, their rows -/
def sp__law_net (K : PySem.W.Frag) : Sp := fun vs H Q _ => ∃ (p c : Addr) (i f m : Nat), vs = [.ref p, .int i, .int f, .int m] ∧ Dr H p c ∧ i ≤ 1000 ∧ f ≤ 1000 ∧ m ≤ 1000 ∧ ∀ H' q (n : Net), Go p c H H' → H q = none → Dv (res p c H') (.ref q) n → n.Ok i f m → Q (.ref q) H'
theorem ok__law_net {P : Program} {w : World} {K : PySem.W.Frag} {mg : Str → Option Value} {base : Heap} {C_Builder : Addr} {f f_law_draw f_law_pick : Addr} {fd fd_law_draw fd_law_pick : FuncData} (F : Fun K "_law_net" "_law_net" s__law_net f fd) (T : Txt K mg C_Builder)
    (G__law_draw : FnOk P w K mg base CX0 1 f_law_draw fd_law_draw ["state", "many"] (sp__law_draw K)) (D__law_draw : Def K mg "_law_draw" f_law_draw fd_law_draw ["state", "many"])
    (G__law_pick : FnOk P w K mg base CX0 2 f_law_pick fd_law_pick ["state", "row"] (sp__law_pick K)) (D__law_pick : Def K mg "_law_pick" f_law_pick fd_law_pick ["state", "row"]) :
    FnOk P w K mg base CX0 3 f fd ["state", "ins", "flops", "most"] (sp__law_net K) := by
  refine F.ok sc_law_net (fun vs H Q E h => ?_) (fun cdv A outer s H vs Q E hr h => ?_)
  · obtain ⟨p, c, i, f, m, rfl, _⟩ := h
    rfl
  · obtain ⟨p, c, i, f, m, rfl, d0, hi, hf, hm, q⟩ := h
    refine ⟨_, (pss_cons (ps_set (i := 1) sc_law_net.nd rfl (.inl rfl) (pe_call G__law_draw (hr.mono (by omega)) (by rfl) D__law_draw.m D__law_draw.k D__law_draw.b .nil pass0 (pa_cons (pv 0) (pa_cons (pe_op op_add (pv 1) pe_int) pa_nil))))
      (pss_cons (ps_setLc (i := 5) (own := [("k", 4)]) (g := gName 4) (tt := tYes) rfl sc_law_net.nd rfl rfl (sw_true rfl rfl rfl (by decide +kernel)) (pi_range1 rfl T.m_range (pa_cons (pe_call G__law_draw (hr.mono (by omega)) (by rfl) D__law_draw.m D__law_draw.k D__law_draw.b .nil pass0 (pa_cons (pv 0) (pa_cons (pe_op op_add (pv 2) pe_int) pa_nil))) pa_nil)) (blkOk_by (N := N__law_net) (sc := defScope s__law_net) (by decide +kernel)) (fun _ _ _ _ _ => (pg_name (i := 4) sc_law_net.nd rfl (Or.inl rfl))) (fun _ _ _ _ _ => pts_nil) (fun _ _ _ _ _ => (pe_call G__law_draw (hr.mono (by omega)) (by rfl) D__law_draw.m D__law_draw.k D__law_draw.b .nil pass0 (pa_cons (pv 0) (pa_cons pe_int pa_nil)))))
      (pss_cons (ps_set (i := 6) sc_law_net.nd rfl (.inl rfl) (pe_lst pa_nil))
      (pss_cons (ps_set (i := 7) sc_law_net.nd rfl (.inr rfl) (pe_op op_add (pe_op op_add pe_int (pv 1)) (pe_callB call_len_seq (by rfl) T.m_len (by decide +kernel) (pa_cons (pv 5) pa_nil))))
      (pss_cons (ps_for PassesOwn.never rfl (pi_range1 rfl T.m_range (pa_cons (pe_call G__law_draw (hr.mono (by omega)) (by rfl) D__law_draw.m D__law_draw.k D__law_draw.b .nil pass0 (pa_cons (pv 0) (pa_cons (pe_op op_add (pv 3) pe_int) pa_nil))) pa_nil)) (pg_name (i := 4) sc_law_net.nd rfl (Or.inl rfl)) (pss_cons (ps_set (i := 8) sc_law_net.nd rfl (.inl rfl) (pe_call G__law_pick (hr.mono (by omega)) (by rfl) D__law_pick.m D__law_pick.k D__law_pick.b .nil pass0 (pa_cons (pv 0) (pa_cons (pe_lst (pa_cons pe_int (pa_cons pe_int (pa_cons (pe_callB (call_max2 (by rfl)) (by rfl) T.m_max (by decide +kernel) (pa_cons pe_int (pa_cons (pe_op op_sub (pv 7) pe_int) pa_nil))) pa_nil)))) pa_nil))))
      (pss_cons (ps_expr (pe_bm PySem.F.plainAttrs_list PySem.F.slot_list_append PySem.F.type_list_append mt_append (pv 6) (pa_cons (pe_tup (pa_cons (pe_op op_add (pe_op op_mul pe_int (pv 8)) (pe_call G__law_draw (hr.mono (by omega)) (by rfl) D__law_draw.m D__law_draw.k D__law_draw.b .nil pass0 (pa_cons (pv 0) (pa_cons (pe_op op_mul pe_int (pe_op op_sub (pv 7) (pv 8))) pa_nil)))) (pa_cons (pe_call G__law_draw (hr.mono (by omega)) (by rfl) D__law_draw.m D__law_draw.k D__law_draw.b .nil pass0 (pa_cons (pv 0) (pa_cons (pe_op op_mul pe_int (pv 7)) pa_nil))) pa_nil))) pa_nil)))
      (pss_one (ps_set (i := 7) sc_law_net.nd rfl (.inr rfl) (pe_op op_add (pv 7) pe_int))))))
      (pss_cons (ps_setLc (i := 9) (own := [("k", 4)]) (g := gName 4) (tt := tYes) rfl sc_law_net.nd rfl rfl (sw_true rfl rfl rfl (by decide +kernel)) (pi_list (pv 5)) (blkOk_by (N := N__law_net) (sc := defScope s__law_net) (by decide +kernel)) (fun _ _ _ _ _ => (pg_name (i := 4) sc_law_net.nd rfl (Or.inl rfl))) (fun _ _ _ _ _ => pts_nil) (fun _ _ _ _ _ => (pe_call G__law_draw (hr.mono (by omega)) (by rfl) D__law_draw.m D__law_draw.k D__law_draw.b .nil pass0 (pa_cons (pv 0) (pa_cons (pe_op op_mul pe_int (pv 7)) pa_nil)))))
      (pss_one (ps_ret (pe_tup (pa_cons pe_str (pa_cons (pv 1) (pa_cons (pv 5) (pa_cons (pv 6) (pa_cons (pv 9) (pa_cons (pe_lc (own := [("k", 4)]) (g := gName 4) (tt := tYes) rfl sc_law_net.nd (pi_range1 rfl T.m_range (pa_cons (pe_call G__law_draw (hr.mono (by omega)) (by rfl) D__law_draw.m D__law_draw.k D__law_draw.b .nil pass0 (pa_cons (pv 0) (pa_cons pe_int pa_nil))) pa_nil)) (blkOk_by (N := N__law_net) (sc := defScope s__law_net) (by decide +kernel)) (fun _ _ _ _ _ => (pg_name (i := 4) sc_law_net.nd rfl (Or.inl rfl))) (fun _ _ _ _ _ => pts_nil) (fun _ _ _ _ _ => (pe_call G__law_draw (hr.mono (by omega)) (by rfl) D__law_draw.m D__law_draw.k D__law_draw.b .nil pass0 (pa_cons (pv 0) (pa_cons (pe_op op_mul pe_int (pv 7)) pa_nil))))) pa_nil))))))))))))))), ?_⟩
    refine ⟨_, rfl, _, rfl, _, _, rfl, rfl, p, c, i + 1, rfl, d0, by omega, by omega, fun H1 ins g1 h1 => ?_⟩
    -- starts
    refine ⟨_, rfl, _, rfl, _, _, rfl, rfl, p, c, f + 1, rfl, g1.b, by omega, by omega, fun H2 fl g2 h2 => ⟨_, rfl, by omega, by omega, fun pS nS => lc_range (n := fl) (fun j H' => ∃ bs : List Nat, Go p c H2 H' ∧ H' pS = some (.lst (vn bs)) ∧ bs.length = j ∧ ∀ b ∈ bs, b < 2) ⟨[], Go.of g2.b (same_new nS), upd_same, rfl, by simp⟩ ?_ ?_⟩⟩
    · rintro j H' hj ⟨bs, g, hp, hl, hb⟩
      refine ⟨rfl, _, rfl, p, c, 2, rfl, g.b, by decide, by decide, fun H'' d g' hd => ⟨_, g'.get' g2.b nS hp, by rw [vn_len]; exact small64k (by omega), bs ++ [d], (g.trans g').mut nS, ?_, by rw [List.length_append, hl]; rfl, ?_⟩⟩
      · rw [upd_same]
        unfold vn
        rw [List.map_append]
        rfl
      · intro b hb'
        rcases List.mem_append.mp hb' with h | h
        · exact hb b h
        · rw [List.mem_singleton.mp h]
          exact hd
    rintro H3 ⟨bs, g3, hS3, hlS, hbS⟩
    have oS := g2.b.off nS
    -- gates, many
    refine ⟨by show 0 ≤ sizeLine; decide, fun pG nG => ?_⟩
    have oG := g3.b.off nG
    have nSG : pS ≠ pG := ne_of_none hS3 nG
    have g4 : Go p c H (upd H3 pG (.lst [])) := ((g1.trans g2).trans g3).more (same_new nG)
    refine ⟨_, rfl, _, _, rfl, rfl, _, rfl, pS, _, rfl, .inl (SqL.of ((same_new nG) _ _ hS3)), _, _, rfl, rfl, ?_⟩
    have eB : (1 : Int) + (ins : Int) + ((vn bs).length : Int) = ((1 + ins + fl : Nat) : Int) := by
      rw [vn_len, hlS]
      omega
    refine ⟨_, rfl, _, rfl, _, _, rfl, rfl, p, c, m + 1, rfl, g4.b, by omega, by omega, fun H5 mg g5 hmg => ⟨_, rfl, by omega, by omega, for_range (n := mg) (fun j σ H' => ∃ (y4 y8 : Option V) (us : List V) (gs : List (Nat × Nat)), σ = [some (.ref p), some (.int ins), some (.int f), some (.int m), y4, some (.ref pS), some (.ref pG), some (.int ((1 + ins + fl + j : Nat) : Int)), y8, none] ∧ Go p c H H' ∧ H' pS = some (.lst (vn bs)) ∧ H' pG = some (.lst us) ∧ Dvs (hid pG (res p c H')) us gs ∧ gs.length = j ∧ ∀ k g, gs[k]? = some g → g.1 < 2 * (1 + ins + fl + k) ∧ g.2 < 2 * (1 + ins + fl + k)) ⟨none, none, [], [], ?_, g4.trans g5, g5.get oS.1 oS.2 ((same_new nG) _ _ hS3), g5.get oG.1 oG.2 upd_same, .nil, rfl, by simp⟩ ?_ ?_⟩⟩
    · show [some (V.ref p), some (V.int ins), some (V.int f), some (V.int m), none, some (V.ref pS), some (V.ref pG), some (V.int ((1 : Int) + (ins : Int) + ((vn bs).length : Int))), none, none] = _
      rw [eB]
      rfl
    · rintro j σ H' hj ⟨y4, y8, us, gs, rfl, g, hS, hG, hus, hlg, hgs⟩
      -- low
      refine ⟨_, rfl, _, rfl, _, _, rfl, rfl, _, _, rfl, by show 3 ≤ sizeLine; decide, fun l nl => ?_⟩
      obtain ⟨x, ex⟩ : ∃ x : Nat, (if ((1 + ins + fl + j : Nat) : Int) - 3 > 0 then ((1 + ins + fl + j : Nat) : Int) - 3 else 0) = (x : Int) ∧ x < 1 + ins + fl + j := by
        by_cases h : ((1 + ins + fl + j : Nat) : Int) - 3 > 0
        · rw [if_pos h]
          exact ⟨1 + ins + fl + j - 3, by omega, by omega⟩
        · rw [if_neg h]
          exact ⟨0, rfl, by omega⟩
      have ol := g.b.off nl
      refine ⟨p, c, l, [0, 0, x], rfl, g.b.same (same_new nl), ol.1, ol.2, ?_, by show 0 < 3; decide, by show 3 ≤ 1000; decide, fun H6 low g6 hlow => ?_⟩
      · rw [upd_same]
        show some (HO.lst [V.int 0, V.int 0, V.int (if ((1 + ins + fl + j : Nat) : Int) - 3 > 0 then ((1 + ins + fl + j : Nat) : Int) - 3 else 0)]) = _
        rw [ex.1]
        rfl
      have hlow' : low < 1 + ins + fl + j := by
        simp only [List.mem_cons, List.not_mem_nil, or_false] at hlow
        rcases hlow with rfl | rfl | rfl <;> omega
      have g7 : Go p c H' H6 := (Go.of g.b (same_new nl)).trans g6
      -- gates.append((2 * low + draw(2 * (many - low)), draw(2 * many)))
      refine ⟨_, rfl, .inl ⟨rfl, _, SqL.of (g7.get oG.1 oG.2 hG)⟩, ?_⟩
      refine ⟨_, rfl, _, _, rfl, rfl, .inl ⟨by decide, by decide⟩, _, rfl, _, rfl, _, rfl, _, _, rfl, rfl, _, _, rfl, rfl, .inl ⟨by decide, by decide⟩, p, c, 2 * (1 + ins + fl + j - low), ?_, g6.b, by omega, by omega, fun H7 d1 g8 hd1 => ⟨_, _, rfl, rfl, _, rfl, _, rfl, _, _, rfl, rfl, .inl ⟨by decide, by decide⟩, p, c, 2 * (1 + ins + fl + j), ?_, g8.b, by omega, by omega, fun H8 d2 g9 hd2 => ⟨by show 2 ≤ sizeLine; decide, fun t nt => ?_⟩⟩⟩
      · show [V.ref p, V.int (2 * (((1 + ins + fl + j : Nat) : Int) - (low : Int)))] = _
        rw [show (2 * (((1 + ins + fl + j : Nat) : Int) - (low : Int))) = ((2 * (1 + ins + fl + j - low) : Nat) : Int) by omega]
      · rfl
      have g10 : Go p c H' H8 := (g7.trans g8).trans g9
      have ntG : t ≠ pG := ne_of_none (g10.get oG.1 oG.2 hG) nt |>.symm
      have ot := g10.b.off nt
      refine ⟨pG, us, _, rfl, rfl, by rw [upd_ne ntG.symm]; exact g10.get oG.1 oG.2 hG, ?_, ?_⟩
      · rw [hus.len, hlg]
        exact small64k (by omega)
      refine ⟨_, rfl, _, _, rfl, rfl, ?_⟩
      have g11 : Go p c H' (upd H8 t (.tup [.int (2 * (low : Int) + (d1 : Int)), .int d2])) := g10.more (same_new nt)
      refine ⟨some (.int (0 + (j : Int))), some (.int low), us ++ [.ref t], gs ++ [(2 * low + d1, d2)], rfl, ?_, ?_, upd_same, ?_, by rw [List.length_append, hlg]; rfl, ?_⟩
      · exact (g.trans g11).mut (((g1.trans g2).trans g3).none nG)
      · rw [upd_ne nSG]
        exact g11.get oS.1 oS.2 hS
      · refine ((hus.same (hid_mono g11.s)).same hid_res_mut).app (.cons (.pair (hid_of ntG (res_of ot.1 ot.2 (by rw [upd_ne ntG]; exact upd_same))) (Dv.nat (2 * low + d1)) (Dv.nat d2)) .nil)
      · intro k g' hk
        rcases get_snoc hk with ⟨_, h⟩ | ⟨rfl, rfl⟩
        · exact hgs k g' h
        · rw [hlg]
          exact ⟨by show 2 * low + d1 < _; omega, hd2⟩
    · rintro σ H6 ⟨y4, y8, us, gs, rfl, g, hS, hG, hus, hlg, hgs⟩
      -- nexts
      refine ⟨_, rfl, pS, rfl, ⟨_, SqL.of hS⟩, fun pN nN => lc_list (xs := vn bs) (fun j H' => ∃ xs : List Nat, Go p c H6 H' ∧ H' pN = some (.lst (vn xs)) ∧ xs.length = j ∧ ∀ x ∈ xs, x < 2 * (1 + ins + fl + mg)) ⟨[], Go.of g.b (same_new nN), upd_same, rfl, by simp⟩ (fun j H' _ h => ?_) ?_ ?_⟩
      · obtain ⟨xs, g', _⟩ := h
        exact SqL.of (g'.get oS.1 oS.2 hS)
      · rintro j v H' hv ⟨xs, g', hp, hl, hx⟩
        have hj : j < bs.length := by
          have h := (List.getElem?_eq_some_iff.mp hv).1
          rw [vn_len] at h
          exact h
        refine ⟨rfl, _, rfl, _, rfl, _, _, rfl, rfl, .inl ⟨by decide, by decide⟩, p, c, 2 * (1 + ins + fl + mg), rfl, g'.b, by omega, by omega, fun H'' d g'' hd => ⟨_, g''.get' g.b nN hp, by rw [vn_len]; exact small64k (by omega), xs ++ [d], (g'.trans g'').mut nN, ?_, by rw [List.length_append, hl]; rfl, mem_snoc hx hd⟩⟩
        rw [upd_same, vn_snoc]
      · rintro H7 ⟨xs, g7, hN, hlN, hxN⟩
        rw [vn_len] at hlN
        have oN := g.b.off nN
        -- outs and the net
        refine ⟨_, rfl, _, rfl, _, rfl, _, rfl, _, rfl, p, c, 4, rfl, g7.b, by decide, by decide, fun H8 no g8 hno => ⟨_, rfl, by omega, by omega, fun pO nO => lc_range (n := no) (fun j H' => ∃ os : List Nat, Go p c H8 H' ∧ H' pO = some (.lst (vn os)) ∧ os.length = j ∧ ∀ x ∈ os, x < 2 * (1 + ins + fl + mg)) ⟨[], Go.of g8.b (same_new nO), upd_same, rfl, by simp⟩ ?_ ?_⟩⟩
        · rintro j H' hj ⟨os, g', hp, hl, hx⟩
          refine ⟨rfl, _, rfl, _, rfl, _, _, rfl, rfl, .inl ⟨by decide, by decide⟩, p, c, 2 * (1 + ins + fl + mg), rfl, g'.b, by omega, by omega, fun H'' d g'' hd => ⟨_, g''.get' g8.b nO hp, by rw [vn_len]; exact small64k (by omega), os ++ [d], (g'.trans g'').mut nO, ?_, by rw [List.length_append, hl]; rfl, mem_snoc hx hd⟩⟩
          rw [upd_same, vn_snoc]
        · rintro H9 ⟨os, g9, hO, hlO, hxO⟩
          have oO := g8.b.off nO
          refine ⟨by show 6 ≤ sizeLine; decide, fun t nt => ?_⟩
          have ot := g9.b.off nt
          have gE : Go p c H6 (upd H9 t (.tup [.str "net", .int ins, .ref pS, .ref pG, .ref pN, .ref pO])) := ((g7.trans g8).trans g9).more (same_new nt)
          have gT := same_new (o := .tup [.str "net", .int ins, .ref pS, .ref pG, .ref pN, .ref pO]) nt
          refine q _ t ⟨ins, bs, gs, xs, os⟩ (g.trans gE) ((g.trans ((g7.trans g8).trans g9)).none nt) (.net (res_of ot.1 ot.2 upd_same) ?_ ?_ ?_ ?_) ?_
          · exact .natl (res_of oS.1 oS.2 (gE.get oS.1 oS.2 hS))
          · exact .list (res_of oG.1 oG.2 (gE.get oG.1 oG.2 hG)) ((hus.same (hid_same _ _)).same gE.s)
          · exact .natl (res_of oN.1 oN.2 (gT _ _ ((g8.trans g9).get oN.1 oN.2 hN)))
          · exact .natl (res_of oO.1 oO.2 (gT _ _ hO))
          · have eb : Net.base ⟨ins, bs, gs, xs, os⟩ = 1 + ins + fl := by
              show 1 + ins + bs.length = _
              rw [hlS]
            have em : Net.many ⟨ins, bs, gs, xs, os⟩ = 1 + ins + fl + mg := by
              show 1 + ins + bs.length + gs.length = _
              rw [hlS, hlg]
            refine ⟨by show ins ≤ i; omega, by show bs.length ≤ f; omega, hbS, by show gs.length ≤ m; omega, ?_, hlN, ?_, by show os.length ≤ 3; omega, ?_⟩
            · rw [eb]
              exact hgs
            · rw [em]
              exact hxN
            · rw [em]
              exact hxO

/-! ### base_of -/
def sp_base_of (K : PySem.W.Frag) : Sp := fun vs H Q _ => ∃ (v : V) (n : Net), vs = [v] ∧ Dv H v n ∧ Q (.int (n.base : Nat)) H
theorem ok_base_of {P : Program} {w : World} {K : PySem.W.Frag} {mg : Str → Option Value} {base : Heap} {C_Builder : Addr} {f  : Addr} {fd  : FuncData} (F : Fun K "base_of" "base_of" s_base_of f fd) (T : Txt K mg C_Builder) :
    FnOk P w K mg base CX0 1 f fd ["net"] (sp_base_of K) := by
  refine F.ok scbase_of (fun vs H Q E h => ?_) (fun cdv A outer s H vs Q E hr h => ?_)
  · obtain ⟨l, n, rfl, _⟩ := h
    rfl
  · obtain ⟨v, n, rfl, hn, q⟩ := h
    obtain ⟨a, aS, aG, aN, aO, rfl, hA, hS, hG, hN, hO⟩ := hn.net_inv
    obtain ⟨_, e, hS⟩ := hS.natl_inv
    cases e
    refine ⟨_, (pss_one (ps_ret (pe_op op_add (pe_op op_add pe_int (pe_ix (r := rIxT K) ix_tup (pv 0) pe_int (fun _ _ => rfl))) (pe_callB call_len_seq (by rfl) T.m_len (by decide +kernel) (pa_cons (pe_ix (r := rIxT K) ix_tup (pv 0) pe_int (fun _ _ => rfl)) pa_nil))))), ?_⟩
    refine ⟨_, rfl, a, _, 1, _, rfl, rfl, SqT.of hA, atI_nat (j := 1) rfl, _, _, rfl, rfl, _, rfl, a, _, 2, _, rfl, rfl, SqT.of hA, atI_nat (j := 2) rfl, aS, _, rfl, .inl (SqL.of hS), _, _, rfl, rfl, ?_⟩
    show Q (V.int ((1 : Int) + (n.ins : Int) + ((vn n.starts).length : Int))) H
    rw [vn_len]
    exact q

end K38
namespace K38
open PySem PySem.Spec PyProof.Rows L2 V0
/-! ### the builder -/
theorem fn1 : ¬ (("ins" : Str) = "starts") := by decide +kernel
theorem fn2 : ¬ (("ins" : Str) = "gates") := by decide +kernel
theorem fn3 : ¬ (("ins" : Str) = "known") := by decide +kernel
theorem fn4 : ¬ (("starts" : Str) = "gates") := by decide +kernel
theorem fn5 : ¬ (("starts" : Str) = "known") := by decide +kernel
theorem fn6 : ¬ (("gates" : Str) = "known") := by decide +kernel
def bflds (ins : Nat) (s g d : Addr) : List (Str × V) := putF "known" (.ref d) (putF "gates" (.ref g) (putF "starts" (.ref s) (putF "ins" (.int (ins : Nat)) [])))
theorem bf_known (ins : Nat) (s g d : Addr) : (bflds ins s g d).lookup ("known" : Str) = some (.ref d) := by
  unfold bflds
  rw [lookup_putF, if_pos rfl]
theorem bf_gates (ins : Nat) (s g d : Addr) : (bflds ins s g d).lookup ("gates" : Str) = some (.ref g) := by
  unfold bflds
  rw [lookup_putF, if_neg fn6, lookup_putF, if_pos rfl]
theorem bf_starts (ins : Nat) (s g d : Addr) : (bflds ins s g d).lookup ("starts" : Str) = some (.ref s) := by
  unfold bflds
  rw [lookup_putF, if_neg fn5, lookup_putF, if_neg fn4, lookup_putF, if_pos rfl]
theorem bf_ins (ins : Nat) (s g d : Addr) : (bflds ins s g d).lookup ("ins" : Str) = some (.int (ins : Nat)) := by
  unfold bflds
  rw [lookup_putF, if_neg fn3, lookup_putF, if_neg fn2, lookup_putF, if_neg fn1, lookup_putF, if_pos rfl]
theorem bf_no (ins : Nat) (s g d : Addr) {m : Str} (h1 : ¬ m = "known") (h2 : ¬ m = "gates") (h3 : ¬ m = "starts") (h4 : ¬ m = "ins") : (bflds ins s g d).lookup m = none := by
  unfold bflds
  rw [lookup_putF, if_neg h1, lookup_putF, if_neg h2, lookup_putF, if_neg h3, lookup_putF, if_neg h4]
  rfl
/-- gates made, and what is known of pairs of literals -/
structure BSt where
  ins : Nat
  starts : List Nat
  gates : List (Nat × Nat)
def BSt.first (b : BSt) : Nat := 1 + b.ins + b.starts.length
def keyOf2 (p : Nat × Nat) : List Key := [Sum.inl (p.1 : Int), Sum.inl (p.2 : Int)]
/-- the dict of pairs: each gate's pair with its literal -/
def kdict (first : Nat) (gs : List (Nat × Nat)) : List (List Key × V) := gs.zipIdx.map fun q => (keyOf2 q.1, V.int ((2 * (first + q.2) : Nat) : Int))
/-- a Builder stands at p -/
structure BAt (C : Addr) (H : Hp) (p s g d : Addr) (b : BSt) : Prop where
  ob : ∃ dx, H p = some (.ins C dx (bflds b.ins s g d))
  st : H s = some (.lst (vn b.starts))
  gt : ∃ us, H g = some (.lst us) ∧ Dvs (hid g (hid d (hid p H))) us b.gates
  kn : H d = some (.dT (kdict b.first b.gates))
  nd : b.gates.Nodup
  sg : s ≠ g
def sp_Builder___init__ (K : PySem.W.Frag) (C : Addr) : Sp := fun vs H Q _ => ∃ (p dx r : Addr) (ins : Nat) (ss : List Nat), vs = [.ref p, .int (ins : Nat), .ref r] ∧ H p = some (.ins C dx []) ∧ H r = some (.lst (vn ss)) ∧ r ≠ p ∧
  ∀ (s g d : Addr) (H' : Hp), H s = none → H g = none → H d = none → BAt C H' p s g d ⟨ins, ss, []⟩ → (∀ b o, H b = some o → b ≠ p → H' b = some o) → Q .non H'
theorem ok_Builder___init__ {P : Program} {w : World} {K : PySem.W.Frag} {mg : Str → Option Value} {base : Heap} {C_Builder : Addr} {f  : Addr} {fd  : FuncData} (F : Fun K "__init__" "Builder.__init__" s_Builder___init__ f fd) (T : Txt K mg C_Builder) :
    FnOk P w K mg base CX0 1 f fd ["self", "ins", "starts"] (sp_Builder___init__ K C_Builder) := by
  refine F.ok scBuilder___init__ (fun vs H Q E h => ?_) (fun cdv A outer s H vs Q E hr h => ?_)
  · obtain ⟨p, dx, r, ins, ss, rfl, _⟩ := h
    rfl
  · obtain ⟨p, dx, r, ins, ss, rfl, hp, hr', nrp, q⟩ := h
    refine ⟨_, (pss_cons (ps_fld (pv 0) (pv 1) rfl)
      (pss_cons (ps_fld (pv 0) (pe_callTy call_list_of (by rfl) T.m_list (by decide +kernel) (pa_cons (pv 2) pa_nil)) rfl)
      (pss_cons (ps_fld (pv 0) (pe_lst pa_nil) rfl)
      (pss_one (ps_fld (pv 0) pe_dnewT rfl))))), ?_⟩
    refine ⟨_, rfl, _, rfl, p, C_Builder, dx, [], rfl, hp, T.c_Builder, T.n_Builder_ins, (by show 0 < 1000; decide), ?_⟩
    have k1 : ∀ b o, H b = some o → b ≠ p → (upd H p (.ins C_Builder dx (putF "ins" (.int (ins : Nat)) []))) b = some o := fun b o e hb => by rw [upd_ne hb]; exact e
    have e1 : (upd H p (.ins C_Builder dx (putF "ins" (.int (ins : Nat)) []))) p = some (.ins C_Builder dx (putF "ins" (.int (ins : Nat)) [])) := upd_same
    have r1 := k1 _ _ hr' nrp
    generalize (upd H p (.ins C_Builder dx (putF "ins" (.int (ins : Nat)) []))) = H1 at k1 e1 r1 ⊢
    refine ⟨_, rfl, r, _, rfl, .inl (SqL.of r1), fun s ns => ?_⟩
    have nps : p ≠ s := ne_of_none e1 ns
    have e2 := same_new (o := .lst (vn ss)) ns _ _ e1
    have k2 : ∀ b o, H b = some o → b ≠ p → (upd H1 s (.lst (vn ss))) b = some o := fun b o e hb => same_new ns _ _ (k1 b o e hb)
    have s2 : (upd H1 s (.lst (vn ss))) s = some (.lst (vn ss)) := upd_same
    have ns0 : H s = none := by
      cases e : H s with
      | none => rfl
      | some o => rw [k1 _ _ e nps.symm] at ns; cases ns
    generalize (upd H1 s (.lst (vn ss))) = H2 at k2 e2 s2 ⊢
    refine ⟨_, rfl, p, C_Builder, dx, _, rfl, e2, T.c_Builder, T.n_Builder_starts, (by show 1 < 1000; decide), ?_⟩
    have k3 : ∀ b o, H b = some o → b ≠ p → (upd H2 p (.ins C_Builder dx (putF "starts" (.ref s) (putF "ins" (.int (ins : Nat)) [])))) b = some o := fun b o e hb => by rw [upd_ne hb]; exact k2 b o e hb
    have e3 : (upd H2 p (.ins C_Builder dx (putF "starts" (.ref s) (putF "ins" (.int (ins : Nat)) [])))) p = some (.ins C_Builder dx (putF "starts" (.ref s) (putF "ins" (.int (ins : Nat)) []))) := upd_same
    have s3 : (upd H2 p (.ins C_Builder dx (putF "starts" (.ref s) (putF "ins" (.int (ins : Nat)) [])))) s = some (.lst (vn ss)) := by rw [upd_ne nps.symm]; exact s2
    generalize (upd H2 p (.ins C_Builder dx (putF "starts" (.ref s) (putF "ins" (.int (ins : Nat)) [])))) = H3 at k3 e3 s3 ⊢
    refine ⟨by show 0 ≤ sizeLine; decide, fun g ng => ?_⟩
    have npg : p ≠ g := ne_of_none e3 ng
    have nsg : s ≠ g := ne_of_none s3 ng
    have e4 := same_new (o := .lst []) ng _ _ e3
    have s4 := same_new (o := .lst []) ng _ _ s3
    have k4 : ∀ b o, H b = some o → b ≠ p → (upd H3 g (.lst [])) b = some o := fun b o e hb => same_new ng _ _ (k3 b o e hb)
    have g4 : (upd H3 g (.lst [])) g = some (.lst []) := upd_same
    have ng0 : H g = none := by
      cases e : H g with
      | none => rfl
      | some o => rw [k3 _ _ e npg.symm] at ng; cases ng
    generalize (upd H3 g (.lst [])) = H4 at k4 e4 s4 g4 ⊢
    refine ⟨_, rfl, p, C_Builder, dx, _, rfl, e4, T.c_Builder, T.n_Builder_gates, (by show 2 < 1000; decide), ?_⟩
    have k5 : ∀ b o, H b = some o → b ≠ p → (upd H4 p (.ins C_Builder dx (putF "gates" (.ref g) (putF "starts" (.ref s) (putF "ins" (.int (ins : Nat)) []))))) b = some o := fun b o e hb => by rw [upd_ne hb]; exact k4 b o e hb
    have e5 : (upd H4 p (.ins C_Builder dx (putF "gates" (.ref g) (putF "starts" (.ref s) (putF "ins" (.int (ins : Nat)) []))))) p = some (.ins C_Builder dx (putF "gates" (.ref g) (putF "starts" (.ref s) (putF "ins" (.int (ins : Nat)) [])))) := upd_same
    have s5 : (upd H4 p (.ins C_Builder dx (putF "gates" (.ref g) (putF "starts" (.ref s) (putF "ins" (.int (ins : Nat)) []))))) s = some (.lst (vn ss)) := by rw [upd_ne nps.symm]; exact s4
    have g5 : (upd H4 p (.ins C_Builder dx (putF "gates" (.ref g) (putF "starts" (.ref s) (putF "ins" (.int (ins : Nat)) []))))) g = some (.lst []) := by rw [upd_ne npg.symm]; exact g4
    generalize (upd H4 p (.ins C_Builder dx (putF "gates" (.ref g) (putF "starts" (.ref s) (putF "ins" (.int (ins : Nat)) []))))) = H5 at k5 e5 s5 g5 ⊢
    refine fun d nd => ?_
    have npd : p ≠ d := ne_of_none e5 nd
    have nsd : s ≠ d := ne_of_none s5 nd
    have ngd : g ≠ d := ne_of_none g5 nd
    have e6 := same_new (o := .dT []) nd _ _ e5
    have nd0 : H d = none := by
      cases e : H d with
      | none => rfl
      | some o => rw [k5 _ _ e npd.symm] at nd; cases nd
    refine ⟨_, rfl, p, C_Builder, dx, _, rfl, e6, T.c_Builder, T.n_Builder_known, (by show 3 < 1000; decide), ?_⟩
    refine q s g d _ ns0 ng0 nd0 ⟨⟨dx, upd_same⟩, ?_, ⟨[], ?_, .nil⟩, ?_, List.nodup_nil, nsg⟩ fun b o e hb => ?_
    · rw [upd_ne nps.symm]
      exact same_new nd _ _ s5
    · rw [upd_ne npg.symm]
      exact same_new nd _ _ g5
    · rw [upd_ne npd.symm, upd_same]
      rfl
    · rw [upd_ne hb]
      exact same_new nd _ _ (k5 b o e hb)
theorem vmin2 (a b : Nat) : V.int (if (b : Int) < (a : Int) then (b : Int) else (a : Int)) = V.int ((min a b : Nat) : Int) := by
  congr 1
  split
  · rw [Nat.min_eq_right (by omega)]
  · rw [Nat.min_eq_left (by omega)]
theorem vmax2 (a b : Nat) : V.int (if (b : Int) > (a : Int) then (b : Int) else (a : Int)) = V.int ((max a b : Nat) : Int) := by
  congr 1
  split
  · rw [Nat.max_eq_right (by omega)]
  · rw [Nat.max_eq_left (by omega)]
theorem keyOf2_inj {p q : Nat × Nat} (h : keyOf2 p = keyOf2 q) : p = q := by
  obtain ⟨a, b⟩ := p
  obtain ⟨c, d⟩ := q
  unfold keyOf2 at h
  simp only [List.cons.injEq, Sum.inl.injEq, and_true] at h
  have h1 := h.1
  have h2 := h.2
  rw [show a = c by omega, show b = d by omega]
theorem kd_val : ∀ (gs : List (Nat × Nat)) (m : Nat) (f : Nat → V) (p : Nat × Nat), (p ∉ gs → valV ((gs.zipIdx m).map fun q => (keyOf2 q.1, f q.2)) (keyOf2 p) = none) ∧ (p ∈ gs → ∃ j, gs[j]? = some p ∧ valV ((gs.zipIdx m).map fun q => (keyOf2 q.1, f q.2)) (keyOf2 p) = some (f (m + j)))
  | [], m, f, p => ⟨fun _ => rfl, fun h => by cases h⟩
  | g :: gs, m, f, p => by
    have ih := kd_val gs (m + 1) f p
    rw [List.zipIdx_cons, List.map_cons]
    by_cases e : g = p
    · subst e
      rw [valV_pos (p := (keyOf2 g, f m)) rfl]
      exact ⟨fun h => absurd List.mem_cons_self h, fun _ => ⟨0, rfl, rfl⟩⟩
    · rw [valV_neg (p := (keyOf2 g, f m)) (fun z => e (keyOf2_inj z))]
      refine ⟨fun h => ih.1 fun m => h (List.mem_cons_of_mem _ m), fun h => ?_⟩
      rcases List.mem_cons.mp h with h | h
      · exact absurd h.symm e
      · obtain ⟨j, hj, hv⟩ := ih.2 h
        exact ⟨j + 1, hj, by rw [hv, show m + 1 + j = m + (j + 1) by omega]⟩
theorem kdict_eq (first : Nat) (gs : List (Nat × Nat)) : kdict first gs = (gs.zipIdx 0).map fun q => (keyOf2 q.1, V.int ((2 * (first + q.2) : Nat) : Int)) := rfl
theorem kdict_no {first : Nat} {gs : List (Nat × Nat)} {p : Nat × Nat} (h : p ∉ gs) : valV (kdict first gs) (keyOf2 p) = none := (kd_val gs 0 (fun j => V.int ((2 * (first + j) : Nat) : Int)) p).1 h
theorem kdict_at {first : Nat} {gs : List (Nat × Nat)} {p : Nat × Nat} (h : p ∈ gs) : ∃ j, gs[j]? = some p ∧ valV (kdict first gs) (keyOf2 p) = some (V.int ((2 * (first + j) : Nat) : Int)) := by
  obtain ⟨j, hj, e⟩ := (kd_val gs 0 (fun j => V.int ((2 * (first + j) : Nat) : Int)) p).2 h
  exact ⟨j, hj, by rw [kdict_eq, e, Nat.zero_add]⟩
theorem kdict_put {first : Nat} {gs : List (Nat × Nat)} {p : Nat × Nat} (h : p ∉ gs) : putK (kdict first gs) (keyOf2 p) (V.int ((2 * (first + gs.length) : Nat) : Int)) = kdict first (gs ++ [p]) := by
  rw [putK_new _ (kdict_no h)]
  unfold kdict
  rw [List.zipIdx_append, List.map_append]
  simp
theorem kdict_len (first : Nat) (gs : List (Nat × Nat)) : (kdict first gs).length = gs.length := by
  unfold kdict
  rw [List.length_map, List.length_zipIdx]
/-- what stands for the pair lo, hi already -/
inductive Stands (b : BSt) (lo hi : Nat) : V → Prop
  | zero : lo = 0 ∨ lo = hi ^^^ 1 → Stands b lo hi (.int ((0 : Nat) : Int))
  | high : ¬ (lo = 0 ∨ lo = hi ^^^ 1) → lo = 1 ∨ lo = hi → Stands b lo hi (.int (hi : Int))
  | gate {j : Nat} : ¬ (lo = 0 ∨ lo = hi ^^^ 1) → ¬ (lo = 1 ∨ lo = hi) → b.gates[j]? = some (lo, hi) → Stands b lo hi (.int ((2 * (b.first + j) : Nat) : Int))
  | none : ¬ (lo = 0 ∨ lo = hi ^^^ 1) → ¬ (lo = 1 ∨ lo = hi) → (lo, hi) ∉ b.gates → Stands b lo hi .non
def sp_Builder_standing (K : PySem.W.Frag) (C : Addr) : Sp := fun vs H Q _ => ∃ (p s g d : Addr) (b : BSt) (x y : Nat), vs = [.ref p, .int (x : Nat), .int (y : Nat)] ∧ BAt C H p s g d b ∧ ∀ H' v, Same H H' → Stands b (min x y) (max x y) v → Q v H'
theorem ok_Builder_standing {P : Program} {w : World} {K : PySem.W.Frag} {mg : Str → Option Value} {base : Heap} {C_Builder : Addr} {f  : Addr} {fd  : FuncData} (F : Fun K "standing" "Builder.standing" s_Builder_standing f fd) (T : Txt K mg C_Builder) :
    FnOk P w K mg base CX0 1 f fd ["self", "a", "b"] (sp_Builder_standing K C_Builder) := by
  refine F.ok scBuilder_standing (fun vs H Q E h => ?_) (fun cdv A outer s H vs Q E hr h => ?_)
  · obtain ⟨p, s, g, d, b, x, y, rfl, _⟩ := h
    rfl
  · obtain ⟨p, s, g, d, b, x, y, rfl, hB, q⟩ := h
    obtain ⟨⟨dx, hp⟩, hs, hg, hd, nd, nsg⟩ := id hB
    refine ⟨_, (pss_cons (ps_set (i := 3) scBuilder_standing.nd rfl (.inl rfl) (pe_callB (call_min2 (by rfl)) (by rfl) T.m_min (by decide +kernel) (pa_cons (pv 1) (pa_cons (pv 2) pa_nil))))
      (pss_cons (ps_set (i := 4) scBuilder_standing.nd rfl (.inl rfl) (pe_callB (call_max2 (by rfl)) (by rfl) T.m_max (by decide +kernel) (pa_cons (pv 1) (pa_cons (pv 2) pa_nil))))
      (pss_cons (ps_if (PW.pt (pw_or (pt_cmpR op_eq (pv 3) pe_int (nomark _)) (pw_or1 (pt_cmpR op_eq (pv 3) (pe_op op_xor (pv 4) pe_int) (nomark _))))) (pss_one (ps_ret pe_int)) pss_nil)
      (pss_cons (ps_if (PW.pt (pw_or (pt_cmpR op_eq (pv 3) pe_int (nomark _)) (pw_or1 (pt_cmpR op_eq (pv 3) (pv 4) (nomark _))))) (pss_one (ps_ret (pv 4))) pss_nil)
      (pss_one (ps_ret (pe_dget1 (hu_of hr) (pe_fld (pv 0) rfl) (pe_tup (pa_cons (pv 3) (pa_cons (pv 4) pa_nil))) ⟨rfl, rfl, rfl, rfl⟩))))))), ?_⟩
    refine ⟨_, rfl, _, rfl, _, _, rfl, ?_⟩
    simp only [vmin2]
    refine ⟨_, rfl, _, rfl, _, _, rfl, ?_⟩
    simp only [vmax2]
    generalize min x y = lo at q ⊢
    generalize max x y = hi at q ⊢
    -- low == 0 or low == high ^ 1
    refine ⟨_, rfl, rfl, _, rfl, ?_⟩
    rw [show decide (V.int (lo : Int) = V.int 0) = decide (lo = 0) from dec_nat lo 0]
    by_cases h0 : lo = 0
    · rw [decide_eq_true h0]
      exact iteT (q H _ (fun _ _ h => h) (.zero (.inl h0)))
    rw [decide_eq_false h0]
    refine iteF ?_
    refine ⟨_, rfl, _, rfl, _, _, rfl, rfl, rfl, _, rfl, ?_⟩
    simp only [show (Builtin.bitXor (hi : Int) 1) = ((hi ^^^ 1 : Nat) : Int) from bxor hi 1]
    rw [show decide (V.int (lo : Int) = V.int ((hi ^^^ 1 : Nat) : Int)) = decide (lo = hi ^^^ 1) from dec_nat _ _]
    by_cases h1 : lo = hi ^^^ 1
    · rw [decide_eq_true h1]
      exact iteT (q H _ (fun _ _ h => h) (.zero (.inr h1)))
    rw [decide_eq_false h1]
    refine iteF ?_
    have n01 : ¬ (lo = 0 ∨ lo = hi ^^^ 1) := fun h => h.elim h0 h1
    refine ⟨_, rfl, rfl, _, rfl, ?_⟩
    rw [show decide (V.int (lo : Int) = V.int 1) = decide (lo = 1) from dec_nat lo 1]
    by_cases h2 : lo = 1
    · rw [decide_eq_true h2]
      exact iteT ⟨_, rfl, q H _ (fun _ _ h => h) (.high n01 (.inl h2))⟩
    rw [decide_eq_false h2]
    refine iteF ?_
    refine ⟨_, rfl, _, rfl, rfl, _, rfl, ?_⟩
    rw [show decide (V.int (lo : Int) = V.int (hi : Int)) = decide (lo = hi) from dec_nat _ _]
    by_cases h3 : lo = hi
    · rw [decide_eq_true h3]
      exact iteT ⟨_, rfl, q H _ (fun _ _ h => h) (.high n01 (.inr h3))⟩
    rw [decide_eq_false h3]
    refine iteF ?_
    have n23 : ¬ (lo = 1 ∨ lo = hi) := fun h => h.elim h2 h3
    refine ⟨_, rfl, p, C_Builder, dx, _, _, rfl, hp, T.c_Builder, T.n_Builder_known, bf_known _ _ _ _, d, rfl, .inr ⟨_, .inl hd⟩, ?_⟩
    refine ⟨_, rfl, _, rfl, by show 2 ≤ sizeLine; decide, fun t nt => ?_⟩
    have st := same_new (o := .tup [.int (lo : Int), .int (hi : Int)]) nt
    refine ⟨_, DGet.t (k := keyOf2 (lo, hi)) (st _ _ hd) upd_same, ?_⟩
    by_cases hm : (lo, hi) ∈ b.gates
    · obtain ⟨j, hj, e⟩ := kdict_at (first := b.first) hm
      rw [e]
      exact q _ _ st (.gate n01 n23 hj)
    · rw [kdict_no hm]
      exact q _ _ st (.none n01 n23 hm)
/-- what both leaves -/
inductive Both (b : BSt) (lo hi : Nat) : Nat → BSt → Prop
  | old {r : Nat} : Stands b lo hi (.int (r : Int)) → Both b lo hi r b
  | new : ¬ (lo = 0 ∨ lo = hi ^^^ 1) → ¬ (lo = 1 ∨ lo = hi) → (lo, hi) ∉ b.gates → Both b lo hi (2 * (b.first + b.gates.length)) ⟨b.ins, b.starts, b.gates ++ [(lo, hi)]⟩
def hidB (p g d : Addr) (H : Hp) : Hp := hid g (hid d (hid p H))
theorem hidB_same (p g d : Addr) (H : Hp) : Same (hidB p g d H) H := ((hid_same _ _).trans (hid_same _ _)).trans (hid_same _ _)
theorem hidB_mono {p g d : Addr} {H H' : Hp} (s : Same H H') : Same (hidB p g d H) (hidB p g d H') := hid_mono (hid_mono (hid_mono s))
theorem hidB_some {p g d b : Addr} {H : Hp} {o : HO} (h : hidB p g d H b = some o) : b ≠ p ∧ b ≠ g ∧ b ≠ d ∧ H b = some o := by
  obtain ⟨h1, h⟩ := hid_some h
  obtain ⟨h2, h⟩ := hid_some h
  obtain ⟨h3, h⟩ := hid_some h
  exact ⟨h3, h1, h2, h⟩
theorem hidB_of {p g d b : Addr} {H : Hp} {o : HO} (h1 : b ≠ p) (h2 : b ≠ g) (h3 : b ≠ d) (h : H b = some o) : hidB p g d H b = some o := hid_of h2 (hid_of h3 (hid_of h1 h))
def sp_Builder_both (K : PySem.W.Frag) (C : Addr) : Sp := fun vs H Q _ => ∃ (p s g d : Addr) (b : BSt) (x y : Nat), vs = [.ref p, .int (x : Nat), .int (y : Nat)] ∧ BAt C H p s g d b ∧ b.gates.length ≤ 1000 ∧
  ∀ H' (r : Nat) b', Same (hidB p g d H) (hidB p g d H') → BAt C H' p s g d b' → Both b (min x y) (max x y) r b' → Q (.int (r : Nat)) H'
theorem ok_Builder_both {P : Program} {w : World} {K : PySem.W.Frag} {mg : Str → Option Value} {base : Heap} {C_Builder : Addr} {f fBuilder_standing : Addr} {fd fdBuilder_standing : FuncData} (F : Fun K "both" "Builder.both" s_Builder_both f fd) (T : Txt K mg C_Builder)
    (G_Builder_standing : FnOk P w K mg base CX0 1 fBuilder_standing fdBuilder_standing ["self", "a", "b"] (sp_Builder_standing K C_Builder)) (D_Builder_standing : MDef K C_Builder "standing" fBuilder_standing fdBuilder_standing ["self", "a", "b"]) :
    FnOk P w K mg base CX0 2 f fd ["self", "a", "b"] (sp_Builder_both K C_Builder) := by
  refine F.ok scBuilder_both (fun vs H Q E h => ?_) (fun cdv A outer s H vs Q E hr h => ?_)
  · obtain ⟨p, s, g, d, b, x, y, rfl, _⟩ := h
    rfl
  · obtain ⟨p, s, g, d, b, x, y, rfl, hB, hbl, q⟩ := h
    obtain ⟨⟨dx, hp⟩, hs, ⟨us, hg, hus⟩, hd, nd, nsg⟩ := id hB
    refine ⟨_, (pss_cons (ps_set (i := 3) scBuilder_both.nd rfl (.inl rfl) (pe_meth (pv 0) T.c_Builder D_Builder_standing.m G_Builder_standing (hr.mono (by omega)) D_Builder_standing.b .nil pass0 (pa_cons (pv 1) (pa_cons (pv 2) pa_nil))))
      (pss_cons (ps_if (pt_cmpR op_notN (pv 3) pe_non (nomark _)) (pss_one (ps_ret (pv 3))) pss_nil)
      (pss_cons (ps_set (i := 3) scBuilder_both.nd rfl (.inl rfl) (pe_op op_mul pe_int (pe_op op_add (pe_op op_add (pe_op op_add pe_int (pe_fld (pv 0) rfl)) (pe_callB call_len_seq (by rfl) T.m_len (by decide +kernel) (pa_cons (pe_fld (pv 0) rfl) pa_nil))) (pe_callB call_len_seq (by rfl) T.m_len (by decide +kernel) (pa_cons (pe_fld (pv 0) rfl) pa_nil)))))
      (pss_cons (ps_set (i := 4) scBuilder_both.nd rfl (.inl rfl) (pe_tup (pa_cons (pe_callB (call_min2 (by rfl)) (by rfl) T.m_min (by decide +kernel) (pa_cons (pv 1) (pa_cons (pv 2) pa_nil))) (pa_cons (pe_callB (call_max2 (by rfl)) (by rfl) T.m_max (by decide +kernel) (pa_cons (pv 1) (pa_cons (pv 2) pa_nil))) pa_nil))))
      (pss_cons (ps_expr (pe_bm PySem.F.plainAttrs_list PySem.F.slot_list_append PySem.F.type_list_append mt_append (pe_fld (pv 0) rfl) (pa_cons (pv 4) pa_nil)))
      (pss_cons (ps_dput (hu_of hr) (pe_fld (pv 0) rfl) (pv 4) (pv 3) rfl)
      (pss_one (ps_ret (pv 3))))))))), ?_⟩
    refine ⟨_, rfl, p, dx, _, rfl, hp, bf_no _ _ _ _ (by decide +kernel) (by decide +kernel) (by decide +kernel) (by decide +kernel), _, rfl, _, rfl, p, s, g, d, b, x, y, rfl, hB, fun H1 v s1 sv => ?_⟩
    have hB1 : BAt C_Builder H1 p s g d b := ⟨⟨dx, s1 _ _ hp⟩, s1 _ _ hs, ⟨us, s1 _ _ hg, hus.same (hidB_mono s1)⟩, s1 _ _ hd, nd, nsg⟩
    refine ⟨_, rfl, rfl, _, rfl, ?_⟩
    have s1' := hidB_mono (p := p) (g := g) (d := d) s1
    cases sv with
    | zero h => exact iteT ⟨_, rfl, q H1 0 b s1' hB1 (.old (.zero h))⟩
    | high h1 h2 => exact iteT ⟨_, rfl, q H1 _ b s1' hB1 (.old (.high h1 h2))⟩
    | gate h1 h2 h3 => exact iteT ⟨_, rfl, q H1 _ b s1' hB1 (.old (.gate h1 h2 h3))⟩
    | none h1 h2 h3 =>
      refine iteF ?_
      have hp1 := s1 _ _ hp
      have hg1 := s1 _ _ hg
      have hs1 := s1 _ _ hs
      have hd1 := s1 _ _ hd
      have lus := hus.len
      refine ⟨_, rfl, p, C_Builder, dx, _, _, rfl, hp1, T.c_Builder, T.n_Builder_ins, bf_ins _ _ _ _, _, _, rfl, rfl, _, rfl, p, C_Builder, dx, _, _, rfl, hp1, T.c_Builder, T.n_Builder_starts, bf_starts _ _ _ _, s, _, rfl, .inl (SqL.of hs1), _, _, rfl, rfl, _, rfl, p, C_Builder, dx, _, _, rfl, hp1, T.c_Builder, T.n_Builder_gates, bf_gates _ _ _ _, g, _, rfl, .inl (SqL.of hg1), _, _, rfl, rfl, _, _, rfl, rfl, .inl ⟨by decide, by decide⟩, ?_⟩
      have eT : V.int ((2 : Int) * ((1 : Int) + (b.ins : Int) + ((vn b.starts).length : Int) + (us.length : Int))) = V.int ((2 * (b.first + b.gates.length) : Nat) : Int) := by
        rw [vn_len, lus]
        rfl
      simp only [eT]
      refine ⟨_, rfl, _, rfl, _, _, rfl, ?_⟩
      simp only [vmin2]
      refine ⟨_, rfl, _, rfl, _, _, rfl, ?_⟩
      simp only [vmax2]
      generalize min x y = lo at q h1 h2 h3 ⊢
      generalize max x y = hi at q h1 h2 h3 ⊢
      refine ⟨by show 2 ≤ sizeLine; decide, fun t nt => ?_⟩
      have st := same_new (o := .tup [.int (lo : Int), .int (hi : Int)]) nt
      have et : (upd H1 t (.tup [.int (lo : Int), .int (hi : Int)])) t = some (.tup [.int (lo : Int), .int (hi : Int)]) := upd_same
      have hp2 := st _ _ hp1
      have hg2 := st _ _ hg1
      have hs2 := st _ _ hs1
      have hd2 := st _ _ hd1
      have s2 := s1.trans st
      have ntp : t ≠ p := fun z => by rw [z, hp1] at nt; cases nt
      have ntg : t ≠ g := fun z => by rw [z, hg1] at nt; cases nt
      have ntd : t ≠ d := fun z => by rw [z, hd1] at nt; cases nt
      generalize (upd H1 t (.tup [.int (lo : Int), .int (hi : Int)])) = H2 at et hp2 hg2 hs2 hd2 s2 ⊢
      clear st
      have npg : p ≠ g := ne_of hp2 hg2 (by intro z; cases z)
      have npd : p ≠ d := ne_of hp2 hd2 (by intro z; cases z)
      have ngd : g ≠ d := ne_of hg2 hd2 (by intro z; cases z)
      refine ⟨_, rfl, p, C_Builder, dx, _, _, rfl, hp2, T.c_Builder, T.n_Builder_gates, bf_gates _ _ _ _, .inl ⟨rfl, _, SqL.of hg2⟩, _, rfl, g, _, _, rfl, rfl, hg2, by rw [lus]; exact small1000 hbl, ?_⟩
      have e3 : ∀ b o, b ≠ g → H2 b = some o → (upd H2 g (.lst (us ++ [V.ref t]))) b = some o := fun b o hb e => by rw [upd_ne hb]; exact e
      have g3 : (upd H2 g (.lst (us ++ [V.ref t]))) g = some (.lst (us ++ [V.ref t])) := upd_same
      generalize (upd H2 g (.lst (us ++ [V.ref t]))) = H3 at e3 g3 ⊢
      have hd3 := e3 _ _ ngd.symm hd2
      refine ⟨_, rfl, _, rfl, p, C_Builder, dx, _, _, rfl, e3 _ _ npg hp2, T.c_Builder, T.n_Builder_known, bf_known _ _ _ _, _, rfl, d, _, rfl, DPut.t (k := keyOf2 (lo, hi)) hd3 (e3 _ _ ntg et) (by rw [kdict_len]; exact small1000 hbl), ?_⟩
      rw [kdict_put h3]
      have e4 : ∀ b' o, b' ≠ g → b' ≠ d → H2 b' = some o → (upd H3 d (.dT (kdict b.first (b.gates ++ [(lo, hi)])))) b' = some o := fun b' o hb hb2 e => by rw [upd_ne hb2]; exact e3 _ _ hb e
      have sB : Same (hidB p g d H) (hidB p g d (upd H3 d (.dT (kdict b.first (b.gates ++ [(lo, hi)]))))) := fun b' o h => by
        obtain ⟨n1, n2, n3, e⟩ := hidB_some h
        exact hidB_of n1 n2 n3 (e4 _ _ n2 n3 (s2 _ _ e))
      have nsd : s ≠ d := ne_of hs2 hd2 (by intro z; cases z)
      refine ⟨_, rfl, q _ _ ⟨b.ins, b.starts, b.gates ++ [(lo, hi)]⟩ sB ⟨⟨dx, e4 _ _ npg npd hp2⟩, ?_, ⟨us ++ [V.ref t], ?_, ?_⟩, ?_, ?_, nsg⟩ (.new h1 h2 h3)⟩
      · exact e4 _ _ nsg nsd hs2
      · rw [upd_ne ngd]
        exact g3
      · refine (hus.same sB).app (.cons (.pair (hidB_of ntp ntg ntd (e4 _ _ ntg ntd et)) (Dv.nat _) (Dv.nat _)) .nil)
      · rw [upd_same]
        rfl
      · rw [List.nodup_append]
        refine ⟨nd, by simp, fun x hx y hy e => ?_⟩
        rw [List.mem_singleton.mp hy] at e
        exact h3 (e ▸ hx)
theorem bdvs_pairs {H H' : Hp} (k : ∀ t xs, H t = some (.tup xs) → H' t = some (.tup xs)) : ∀ {us : List V} {gs : List (Nat × Nat)}, Dvs H us gs → Dvs H' us gs
  | _, [], h => by rw [h.nil_inv]; exact .nil
  | _, g :: gs, h => by
    obtain ⟨u, us, rfl, h1, h2⟩ := h.cons_inv
    obtain ⟨t, x, y, rfl, ht, hx, hy⟩ := h1.pair_inv
    have hx := hx.nat_inv
    have hy := hy.nat_inv
    subst hx hy
    exact .cons (.pair (k _ _ ht) (Dv.nat _) (Dv.nat _)) (bdvs_pairs k h2)
def BSt.net (b : BSt) (nexts outs : List Nat) : Net := ⟨b.ins, b.starts, b.gates, nexts, outs⟩
def sp_Builder_net (K : PySem.W.Frag) (C : Addr) : Sp := fun vs H Q _ => ∃ (p s g d x o : Addr) (b : BSt) (nexts outs : List Nat), vs = [.ref p, .ref x, .ref o] ∧ BAt C H p s g d b ∧ H x = some (.lst (vn nexts)) ∧ H o = some (.lst (vn outs)) ∧
  ∀ H' q, Same H H' → H q = none → (∀ P c, Dr H P c → Dv (hidB p g d (res P c H')) (.ref q) (b.net nexts outs)) → Q (.ref q) H'
theorem ok_Builder_net {P : Program} {w : World} {K : PySem.W.Frag} {mg : Str → Option Value} {base : Heap} {C_Builder : Addr} {f  : Addr} {fd  : FuncData} (F : Fun K "net" "Builder.net" s_Builder_net f fd) (T : Txt K mg C_Builder) :
    FnOk P w K mg base CX0 1 f fd ["self", "nexts", "outs"] (sp_Builder_net K C_Builder) := by
  refine F.ok scBuilder_net (fun vs H Q E h => ?_) (fun cdv A outer s H vs Q E hr h => ?_)
  · obtain ⟨p, s, g, d, x, o, b, nexts, outs, rfl, _⟩ := h
    rfl
  · obtain ⟨p, s, g, d, x, o, b, nexts, outs, rfl, hB, hx, ho, q⟩ := h
    obtain ⟨⟨dx, hp⟩, hs, ⟨us, hg, hus⟩, hd, nd, nsg⟩ := id hB
    refine ⟨_, (pss_one (ps_ret (pe_tup (pa_cons pe_str (pa_cons (pe_fld (pv 0) rfl) (pa_cons (pe_callTy call_list_of (by rfl) T.m_list (by decide +kernel) (pa_cons (pe_fld (pv 0) rfl) pa_nil)) (pa_cons (pe_callTy call_list_of (by rfl) T.m_list (by decide +kernel) (pa_cons (pe_fld (pv 0) rfl) pa_nil)) (pa_cons (pe_callTy call_list_of (by rfl) T.m_list (by decide +kernel) (pa_cons (pv 1) pa_nil)) (pa_cons (pe_callTy call_list_of (by rfl) T.m_list (by decide +kernel) (pa_cons (pv 2) pa_nil)) pa_nil))))))))), ?_⟩
    refine ⟨_, rfl, p, C_Builder, dx, _, _, rfl, hp, T.c_Builder, T.n_Builder_ins, bf_ins _ _ _ _, _, rfl, p, C_Builder, dx, _, _, rfl, hp, T.c_Builder, T.n_Builder_starts, bf_starts _ _ _ _, s, _, rfl, .inl (SqL.of hs), fun a1 n1 => ?_⟩
    have s1 := same_new (o := .lst (vn b.starts)) n1
    have e1 : (upd H a1 (.lst (vn b.starts))) a1 = some (.lst (vn b.starts)) := upd_same
    have w1 : ∀ {z : Addr} {u : HO}, H z = some u → a1 ≠ z := fun h e => by rw [e, h] at n1; cases n1
    generalize (upd H a1 (.lst (vn b.starts))) = H1 at s1 e1 ⊢
    refine ⟨_, rfl, p, C_Builder, dx, _, _, rfl, s1 _ _ hp, T.c_Builder, T.n_Builder_gates, bf_gates _ _ _ _, g, _, rfl, .inl (SqL.of (s1 _ _ hg)), fun a2 n2 => ?_⟩
    have s2 := same_new (o := .lst us) n2
    have e2 : (upd H1 a2 (.lst us)) a2 = some (.lst us) := upd_same
    have e1 := s2 _ _ e1
    have w2 : ∀ {z : Addr} {u : HO}, H z = some u → a2 ≠ z := fun h e => by rw [e, s1 _ _ h] at n2; cases n2
    have s2 := s1.trans s2
    generalize (upd H1 a2 (.lst us)) = H2 at s2 e2 e1 ⊢
    refine ⟨_, rfl, x, _, rfl, .inl (SqL.of (s2 _ _ hx)), fun a3 n3 => ?_⟩
    have s3 := same_new (o := .lst (vn nexts)) n3
    have e3 : (upd H2 a3 (.lst (vn nexts))) a3 = some (.lst (vn nexts)) := upd_same
    have e1 := s3 _ _ e1
    have e2 := s3 _ _ e2
    have w3 : ∀ {z : Addr} {u : HO}, H z = some u → a3 ≠ z := fun h e => by rw [e, s2 _ _ h] at n3; cases n3
    have s3 := s2.trans s3
    generalize (upd H2 a3 (.lst (vn nexts))) = H3 at s3 e3 e2 e1 ⊢
    refine ⟨_, rfl, o, _, rfl, .inl (SqL.of (s3 _ _ ho)), fun a4 n4 => ?_⟩
    have s4 := same_new (o := .lst (vn outs)) n4
    have e4 : (upd H3 a4 (.lst (vn outs))) a4 = some (.lst (vn outs)) := upd_same
    have e1 := s4 _ _ e1
    have e2 := s4 _ _ e2
    have e3 := s4 _ _ e3
    have w4 : ∀ {z : Addr} {u : HO}, H z = some u → a4 ≠ z := fun h e => by rw [e, s3 _ _ h] at n4; cases n4
    have s4 := s3.trans s4
    generalize (upd H3 a4 (.lst (vn outs))) = H4 at s4 e4 e3 e2 e1 ⊢
    refine ⟨by show 6 ≤ sizeLine; decide, fun t nt => ?_⟩
    have s5 := same_new (o := .tup [.str "net", .int (b.ins : Nat), .ref a1, .ref a2, .ref a3, .ref a4]) nt
    have w5 : ∀ {z : Addr} {u : HO}, H z = some u → t ≠ z := fun h e => by rw [e, s4 _ _ h] at nt; cases nt
    have s5' := s4.trans s5
    refine q _ t s5' (none_of s4 nt) fun P c dr => ?_
    obtain ⟨_, cs, z, l1, l2, _⟩ := dr
    refine Dv.net (hidB_of (w5 hp) (w5 hg) (w5 hd) (res_of (w5 l1) (w5 l2) upd_same)) (.natl (hidB_of (w1 hp) (w1 hg) (w1 hd) (res_of (w1 l1) (w1 l2) (s5 _ _ e1)))) (.list (hidB_of (w2 hp) (w2 hg) (w2 hd) (res_of (w2 l1) (w2 l2) (s5 _ _ e2))) ?_) (.natl (hidB_of (w3 hp) (w3 hg) (w3 hd) (res_of (w3 l1) (w3 l2) (s5 _ _ e3)))) (.natl (hidB_of (w4 hp) (w4 hg) (w4 hd) (res_of (w4 l1) (w4 l2) (s5 _ _ e4))))
    refine bdvs_pairs (fun t xs e => ?_) hus
    obtain ⟨h1, h2, h3, e⟩ := hidB_some e
    exact hidB_of h1 h2 h3 (res_of (ne_of e l1 (by intro z; cases z)) (ne_of e l2 (by intro z; cases z)) (s5' _ _ e))
end K38
namespace K38
open PySem PySem.Spec PyProof.Rows L2 V0
/-! ### the faults of nets: there is none -/
structure Kind (n : Net) : Prop where
  bits : ∀ b ∈ n.starts, b < 2
  g : ∀ j g, n.gates[j]? = some g → g.1 < 2 * (n.base + j) ∧ g.2 < 2 * (n.base + j)
  nl : n.nexts.length = n.starts.length
  nx : ∀ x ∈ n.nexts, x < 2 * n.many
  ox : ∀ x ∈ n.outs, x < 2 * n.many
theorem kind_of {n : Net} {i f m : Nat} (h : n.Ok i f m) : Kind n := ⟨h.bits, h.g, h.nl, h.nx, h.ox⟩
def sp_many_nodes (K : PySem.W.Frag) : Sp := fun vs H Q _ => ∃ (v : V) (n : Net), vs = [v] ∧ Dv H v n ∧ Q (.int (n.many : Nat)) H
theorem ok_many_nodes {P : Program} {w : World} {K : PySem.W.Frag} {mg : Str → Option Value} {base : Heap} {C_Builder : Addr} {f fbase_of : Addr} {fd fdbase_of : FuncData} (F : Fun K "many_nodes" "many_nodes" s_many_nodes f fd) (T : Txt K mg C_Builder)
    (G_base_of : FnOk P w K mg base CX0 1 fbase_of fdbase_of ["net"] (sp_base_of K)) (D_base_of : Def K mg "base_of" fbase_of fdbase_of ["net"]) :
    FnOk P w K mg base CX0 2 f fd ["net"] (sp_many_nodes K) := by
  refine F.ok scmany_nodes (fun vs H Q E h => ?_) (fun cdv A outer s H vs Q E hr h => ?_)
  · obtain ⟨l, n, rfl, _⟩ := h
    rfl
  · obtain ⟨v, n, rfl, hn, q⟩ := h
    have hn0 := hn
    obtain ⟨a, aS, aG, aN, aO, rfl, hA, hS, hG, hN, hO⟩ := hn.net_inv
    obtain ⟨_, us, e, hGl, hus⟩ := hG.list_inv
    cases e
    refine ⟨_, (pss_one (ps_ret (pe_op op_add (pe_call G_base_of (hr.mono (by omega)) (by rfl) D_base_of.m D_base_of.k D_base_of.b .nil pass0 (pa_cons (pv 0) pa_nil)) (pe_callB call_len_seq (by rfl) T.m_len (by decide +kernel) (pa_cons (pe_ix (r := rIxT K) ix_tup (pv 0) pe_int (fun _ _ => rfl)) pa_nil))))), ?_⟩
    refine ⟨_, rfl, .ref a, n, rfl, hn0, _, rfl, a, _, 3, _, rfl, rfl, SqT.of hA, atI_nat (j := 3) rfl, aG, _, rfl, .inl (SqL.of hGl), _, _, rfl, rfl, ?_⟩
    show Q (V.int ((n.base : Int) + (us.length : Int))) H
    rw [hus.len]
    exact q
def sp_fault_of (K : PySem.W.Frag) : Sp := fun vs H Q _ => ∃ (v : V) (n : Net), vs = [v] ∧ Dv H v n ∧ Kind n ∧ ∀ H', Same H H' → Q .non H'
theorem ok_fault_of {P : Program} {w : World} {K : PySem.W.Frag} {mg : Str → Option Value} {base : Heap} {C_Builder : Addr} {f fbase_of fmany_nodes : Addr} {fd fdbase_of fdmany_nodes : FuncData} (F : Fun K "fault_of" "fault_of" s_fault_of f fd) (T : Txt K mg C_Builder)
    (G_base_of : FnOk P w K mg base CX0 1 fbase_of fdbase_of ["net"] (sp_base_of K)) (D_base_of : Def K mg "base_of" fbase_of fdbase_of ["net"])
    (G_many_nodes : FnOk P w K mg base CX0 2 fmany_nodes fdmany_nodes ["net"] (sp_many_nodes K)) (D_many_nodes : Def K mg "many_nodes" fmany_nodes fdmany_nodes ["net"]) :
    FnOk P w K mg base CX0 3 f fd ["net"] (sp_fault_of K) := by
  refine F.ok scfault_of (fun vs H Q E h => ?_) (fun cdv A outer s H vs Q E hr h => ?_)
  · obtain ⟨l, n, rfl, _⟩ := h
    rfl
  · obtain ⟨v, n, rfl, hn, kd, q⟩ := h
    have hn0 := hn
    obtain ⟨a, aS, aG, aN, aO, rfl, hA, hS, hG, hN, hO⟩ := hn.net_inv
    obtain ⟨_, us, e, hGl, hus⟩ := hG.list_inv
    cases e
    obtain ⟨_, e, hS⟩ := hS.natl_inv
    cases e
    obtain ⟨_, e, hN⟩ := hN.natl_inv
    cases e
    obtain ⟨_, e, hO⟩ := hO.natl_inv
    cases e
    refine ⟨_, (pss_cons (ps_asg (pv 0) (pg_tup (by rfl) (pgs_cons (pg_name (i := 1) scfault_of.nd rfl (Or.inl rfl)) (pgs_cons (pg_name (i := 1) scfault_of.nd rfl (Or.inl rfl)) (pgs_cons (pg_name (i := 2) scfault_of.nd rfl (Or.inl rfl)) (pgs_cons (pg_name (i := 3) scfault_of.nd rfl (Or.inl rfl)) (pgs_cons (pg_name (i := 4) scfault_of.nd rfl (Or.inl rfl)) (pgs_cons (pg_name (i := 5) scfault_of.nd rfl (Or.inl rfl)) pgs_nil))))))))
      (pss_cons (ps_set (i := 6) scfault_of.nd rfl (.inr rfl) (pe_call G_base_of (hr.mono (by omega)) (by rfl) D_base_of.m D_base_of.k D_base_of.b .nil pass0 (pa_cons (pv 0) pa_nil)))
      (pss_cons (ps_for PassesOwn.never rfl (pi_enum (by rfl) T.m_enumerate (pa_cons (pv 2) pa_nil)) (pg_tup (by rfl) (pgs_cons (pg_name (i := 7) scfault_of.nd rfl (Or.inr rfl)) (pgs_cons (pg_name (i := 8) scfault_of.nd rfl (Or.inl rfl)) pgs_nil))) (pss_one (ps_if (pt_cmpR (r := rIn K true) op_notIn_seq (pv 8) (pe_tup (pa_cons pe_int (pa_cons pe_int pa_nil))) (by rfl)) (pss_one V0.ps_never) pss_nil)))
      (pss_cons (ps_for PassesOwn.never rfl (pi_enum (by rfl) T.m_enumerate (pa_cons (pv 3) pa_nil)) (pg_tup (by rfl) (pgs_cons (pg_name (i := 7) scfault_of.nd rfl (Or.inr rfl)) (pgs_cons (pg_name (i := 9) scfault_of.nd rfl (Or.inl rfl)) pgs_nil))) (pss_one (ps_if (pt_val (pe_callB (cr_any (by rfl)) (by rfl) T.m_any (by decide +kernel) (pa_cons (pe_lc (own := [("literal", 10)]) (g := gName 10) (tt := tYes) rfl scfault_of.nd (pi_tup (pv 9)) (blkOk_by (N := N_fault_of) (sc := defScope s_fault_of) (by decide +kernel)) (fun _ _ _ _ _ => (pg_name (i := 10) scfault_of.nd rfl (Or.inl rfl))) (fun _ _ _ _ _ => pts_nil) (fun _ _ _ _ _ => (pe_or (pe_cmpR op_lt (pv 10) pe_int (nomark _)) (pe_one (pe_cmpR op_ge (pv 10) (pe_op op_mul pe_int (pe_op op_add (pv 6) (pv 7))) (nomark _)))))) pa_nil))) (pss_one V0.ps_never) pss_nil)))
      (pss_cons (ps_if (pt_cmpR op_ne (pe_callB call_len_seq (by rfl) T.m_len (by decide +kernel) (pa_cons (pv 4) pa_nil)) (pe_callB call_len_seq (by rfl) T.m_len (by decide +kernel) (pa_cons (pv 2) pa_nil)) (nomark _)) (pss_one V0.ps_never) pss_nil)
      (pss_cons (ps_for PassesOwn.never rfl (pi_tup (pe_tup (pa_cons (pe_tup (pa_cons pe_str (pa_cons (pv 4) pa_nil))) (pa_cons (pe_tup (pa_cons pe_str (pa_cons (pv 5) pa_nil))) pa_nil)))) (pg_tup (by rfl) (pgs_cons (pg_name (i := 11) scfault_of.nd rfl (Or.inl rfl)) (pgs_cons (pg_name (i := 12) scfault_of.nd rfl (Or.inl rfl)) pgs_nil))) (pss_one (ps_for PassesOwn.never rfl (pi_enum (by rfl) T.m_enumerate (pa_cons (pv 12) pa_nil)) (pg_tup (by rfl) (pgs_cons (pg_name (i := 7) scfault_of.nd rfl (Or.inr rfl)) (pgs_cons (pg_name (i := 10) scfault_of.nd rfl (Or.inl rfl)) pgs_nil))) (pss_one (ps_if (PW.pt (pw_or (pt_cmpR op_lt (pv 10) pe_int (nomark _)) (pw_or1 (pt_cmpR op_ge (pv 10) (pe_op op_mul pe_int (pe_call G_many_nodes (hr.mono (by omega)) (by rfl) D_many_nodes.m D_many_nodes.k D_many_nodes.b .nil pass0 (pa_cons (pv 0) pa_nil))) (nomark _))))) (pss_one V0.ps_never) pss_nil)))))
      (pss_one (ps_ret pe_non)))))))), ?_⟩
    refine ⟨_, rfl, a, _, rfl, SqT.of hA, rfl, _, _, rfl, _, _, rfl, _, _, rfl, _, _, rfl, _, _, rfl, _, _, rfl, rfl, ?_⟩
    refine ⟨_, rfl, .ref a, n, rfl, hn0, ?_⟩
    -- starts
    refine ⟨_, rfl, aS, _, rfl, SqL.of hS, for_it walk_enum (fun i σ Hx => ∃ y7 y8 : Option V, σ = [some (.ref a), some (.int (n.ins : Nat)), some (.ref aS), some (.ref aG), some (.ref aN), some (.ref aO), some (.int (n.base : Nat)), y7, y8, none, none, none, none] ∧ Same H Hx) ⟨none, none, rfl, fun _ _ h => h⟩ (fun i σ Hx _ ⟨_, _, _, s'⟩ => SqL.of (s' _ _ hS)) ?_ ?_⟩
    · rintro i v σ Hx Hx' hi ⟨y7, y8, rfl, sx⟩ ⟨T1, x, y, rfl, nT, rfl, ex, ey⟩
      cases ex
      rw [vn_len] at hi
      have hx := List.getElem?_eq_getElem hi
      have ey : (vn n.starts)[i]? = some y := ey
      rw [vn_get hx] at ey
      cases ey
      have hb := kd.bits _ (List.getElem_mem hi)
      have sT := same_new (o := .tup [.int (i : Nat), .int ((n.starts[i] : Nat) : Int)]) nT
      refine ⟨T1, _, rfl, SqT.of upd_same, rfl, _, _, rfl, _, _, rfl, rfl, ?_⟩
      refine ⟨_, rfl, by show 2 ≤ sizeLine; decide, fun T2 nT2 => ?_⟩
      refine ⟨T2, _, rfl, .inr (SqT.of upd_same), rfl, rfl, _, rfl, ?_⟩
      show if (if true = true then !inV (.int ((n.starts[i] : Nat) : Int)) (vn [0, 1]) else inV (.int ((n.starts[i] : Nat) : Int)) (vn [0, 1])) = true then _ else _
      rw [if_pos rfl, inV_vn, decide_eq_true (show n.starts[i] ∈ [0, 1] by simp; omega)]
      refine iteF ⟨_, _, rfl, sx.trans (sT.trans (same_new nT2))⟩
    rintro σ Hx ⟨y7, y8, rfl, sx⟩
    -- gates
    refine ⟨_, rfl, aG, _, rfl, SqL.of (sx _ _ hGl), for_it walk_enum (fun i σ Hx => ∃ y7 y8 y9 y10 : Option V, σ = [some (.ref a), some (.int (n.ins : Nat)), some (.ref aS), some (.ref aG), some (.ref aN), some (.ref aO), some (.int (n.base : Nat)), y7, y8, y9, y10, none, none] ∧ Same H Hx) ⟨_, _, _, _, rfl, sx⟩ (fun i σ Hx _ ⟨_, _, _, _, _, s'⟩ => SqL.of (s' _ _ hGl)) ?_ ?_⟩
    · rintro i v σ Hx Hx' hi ⟨y7, y8, y9, y10, rfl, sx⟩ ⟨T1, x, y, rfl, nT, rfl, ex, ey⟩
      cases ex
      have ey : us[i]? = some y := ey
      obtain ⟨g, hg, hd⟩ := hus.at ey
      obtain ⟨t, u1, u2, rfl, ht, hx1, hx2⟩ := hd.pair_inv
      have hx1 := hx1.nat_inv
      have hx2 := hx2.nat_inv
      subst hx1 hx2
      have hb := kd.g i g hg
      have sT := same_new (o := .tup [.int (i : Nat), .ref t]) nT
      have sy := sx.trans sT
      refine ⟨T1, _, rfl, SqT.of upd_same, rfl, _, _, rfl, _, _, rfl, rfl, ?_⟩
      refine ⟨_, rfl, t, rfl, ⟨_, SqT.of (sy _ _ ht)⟩, fun D nD => lc_tup (xs := [.int (g.1 : Int), .int (g.2 : Int)]) (fun j Hz => Same (upd Hx T1 (.tup [.int (i : Nat), .ref t])) Hz ∧ Hz D = some (.lst ((List.replicate j false).map V.bl))) ⟨same_new nD, upd_same⟩ (fun j Hz _ h => SqT.of (h.1 _ _ (sy _ _ ht))) ?_ ?_⟩
      · rintro j v Hz hv ⟨sz, hp⟩
        obtain ⟨l, rfl, hl, hj2⟩ : ∃ l : Nat, v = V.int (l : Int) ∧ l < 2 * (n.base + i) ∧ j < 2 := by
          have hj : j = 0 ∨ j = 1 := by
            have h : j < 2 := (List.getElem?_eq_some_iff.mp hv).1
            omega
          rcases hj with rfl | rfl
          · cases hv
            exact ⟨g.1, rfl, hb.1, by decide⟩
          · cases hv
            exact ⟨g.2, rfl, hb.2, by decide⟩
        refine ⟨rfl, _, rfl, _, _, rfl, rfl, _, rfl, ?_⟩
        rw [decide_eq_false (show ¬ (l : Int) < 0 by omega)]
        refine iteF ?_
        refine ⟨_, rfl, _, rfl, _, rfl, _, _, rfl, rfl, _, _, rfl, rfl, .inl ⟨by decide, by decide⟩, _, _, rfl, rfl, ?_⟩
        refine ⟨_, hp, by rw [List.length_map, List.length_replicate]; exact small1000 (by omega), same_mut sz nD, ?_⟩
        rw [upd_same]
        show some (HO.lst (_ ++ [V.bl (decide ((l : Int) ≥ 2 * ((n.base : Int) + (i : Int))))])) = _
        rw [decide_eq_false (show ¬ (l : Int) ≥ 2 * ((n.base : Int) + (i : Int)) by omega), List.replicate_succ', List.map_append]
        rfl
      · rintro Hz ⟨sz, hp⟩
        refine ⟨D, _, rfl, SqL.of hp, _, rfl, ?_⟩
        rw [show (List.replicate [V.int (g.1 : Int), V.int (g.2 : Int)].length false).any id = false from rfl]
        exact iteF ⟨_, _, _, _, rfl, sy.trans sz⟩
    rintro σ Hx ⟨y7, y8, y9, y10, rfl, sx⟩
    refine ⟨_, rfl, aN, _, rfl, .inl (SqL.of (sx _ _ hN)), _, rfl, aS, _, rfl, .inl (SqL.of (sx _ _ hS)), rfl, _, rfl, ?_⟩
    rw [show (!decide (V.int ((vn n.nexts).length : Nat) = V.int ((vn n.starts).length : Nat))) = false by rw [vn_len, vn_len, kd.nl, decide_eq_true rfl]; rfl]
    refine iteF ?_
    -- nexts, outs
    refine ⟨_, rfl, by show 2 ≤ sizeLine; decide, fun t1 nt1 => ?_⟩
    have s1 := sx.trans (same_new (o := .tup [.str "next", .ref aN]) nt1)
    have e1 : (upd Hx t1 (.tup [.str "next", .ref aN])) t1 = some (.tup [.str "next", .ref aN]) := upd_same
    generalize (upd Hx t1 (.tup [.str "next", .ref aN])) = H1 at s1 e1 ⊢
    refine ⟨_, rfl, by show 2 ≤ sizeLine; decide, fun t2 nt2 => ?_⟩
    have s2 := same_new (o := .tup [.str "out", .ref aO]) nt2
    have e2 : (upd H1 t2 (.tup [.str "out", .ref aO])) t2 = some (.tup [.str "out", .ref aO]) := upd_same
    have e1 := s2 _ _ e1
    have s2 := s1.trans s2
    generalize (upd H1 t2 (.tup [.str "out", .ref aO])) = H2 at s2 e2 e1 ⊢
    refine ⟨by show 2 ≤ sizeLine; decide, fun t3 nt3 => ?_⟩
    have s3 := same_new (o := .tup [.ref t1, .ref t2]) nt3
    have e3 : (upd H2 t3 (.tup [.ref t1, .ref t2])) t3 = some (.tup [.ref t1, .ref t2]) := upd_same
    have e1 := s3 _ _ e1
    have e2 := s3 _ _ e2
    have s3 := s2.trans s3
    generalize (upd H2 t3 (.tup [.ref t1, .ref t2])) = H3 at s3 e3 e1 e2 ⊢
    refine ⟨t3, rfl, ⟨_, SqT.of e3⟩, for_tup (xs := [.ref t1, .ref t2]) (fun j σ Hy => ∃ y7 y8 y9 y10 y11 y12 : Option V, σ = [some (.ref a), some (.int (n.ins : Nat)), some (.ref aS), some (.ref aG), some (.ref aN), some (.ref aO), some (.int (n.base : Nat)), y7, y8, y9, y10, y11, y12] ∧ Same H3 Hy) ⟨_, _, _, _, _, _, rfl, fun _ _ h => h⟩ (fun j σ Hy _ ⟨_, _, _, _, _, _, _, s'⟩ => SqT.of (s' _ _ e3)) ?_ ?_⟩
    · rintro j v σ Hy hv ⟨y7, y8, y9, y10, y11, y12, rfl, sy⟩
      obtain ⟨wd, tt, ls, hls, rfl, et, el, bl⟩ : ∃ (wd : Str) (tt ls : Addr) (xs : List Nat), v = V.ref tt ∧ H3 tt = some (.tup [.str wd, .ref ls]) ∧ H3 ls = some (.lst (vn xs)) ∧ ∀ x ∈ xs, x < 2 * n.many := by
        have hj : j = 0 ∨ j = 1 := by
          have h : j < 2 := (List.getElem?_eq_some_iff.mp hv).1
          omega
        rcases hj with rfl | rfl
        · cases hv
          exact ⟨"next", t1, aN, n.nexts, rfl, e1, s3 _ _ hN, kd.nx⟩
        · cases hv
          exact ⟨"out", t2, aO, n.outs, rfl, e2, s3 _ _ hO, kd.ox⟩
      refine ⟨tt, _, rfl, SqT.of (sy _ _ et), rfl, _, _, rfl, _, _, rfl, rfl, ?_⟩
      refine ⟨_, rfl, ls, _, rfl, SqL.of (sy _ _ el), for_it walk_enum (fun i σ Hz => ∃ y7 y10 : Option V, σ = [some (.ref a), some (.int (n.ins : Nat)), some (.ref aS), some (.ref aG), some (.ref aN), some (.ref aO), some (.int (n.base : Nat)), y7, y8, y9, y10, some (.str wd), some (.ref ls)] ∧ Same H3 Hz) ⟨_, _, rfl, sy⟩ (fun i σ Hz _ ⟨_, _, _, s'⟩ => SqL.of (s' _ _ el)) ?_ ?_⟩
      · rintro i v σ Hz Hz' hi ⟨y7, y10, rfl, sz⟩ ⟨T1, x, y, rfl, nT, rfl, ex, ey⟩
        cases ex
        rw [vn_len] at hi
        have hx := List.getElem?_eq_getElem hi
        have ey : (vn hls)[i]? = some y := ey
        rw [vn_get hx] at ey
        cases ey
        have hb := bl _ (List.getElem_mem hi)
        have sT := same_new (o := .tup [.int (i : Nat), .int ((hls[i] : Nat) : Int)]) nT
        have s4 := sz.trans sT
        refine ⟨T1, _, rfl, SqT.of upd_same, rfl, _, _, rfl, _, _, rfl, rfl, ?_⟩
        refine ⟨_, rfl, _, _, rfl, rfl, _, rfl, ?_⟩
        rw [decide_eq_false (show ¬ ((hls[i] : Nat) : Int) < 0 by omega)]
        refine iteF ?_
        refine ⟨_, rfl, _, rfl, .ref a, n, rfl, (hn0.same s3).same s4, _, _, rfl, rfl, .inl ⟨by decide, by decide⟩, _, _, rfl, rfl, _, rfl, ?_⟩
        rw [decide_eq_false (show ¬ ((hls[i] : Nat) : Int) ≥ 2 * (n.many : Int) by omega)]
        exact iteF ⟨_, _, rfl, s4⟩
      · rintro σ Hz ⟨y7, y10, rfl, sz⟩
        exact ⟨_, _, _, _, _, _, rfl, sz⟩
    rintro σ Hy ⟨y7, y8, y9, y10, y11, y12, rfl, sy⟩
    exact q Hy (s3.trans sy)
def sp_check (K : PySem.W.Frag) : Sp := fun vs H Q _ => ∃ (v : V) (n : Net), vs = [v] ∧ Dv H v n ∧ Kind n ∧ ∀ H', Same H H' → Q .non H'
theorem ok_check {P : Program} {w : World} {K : PySem.W.Frag} {mg : Str → Option Value} {base : Heap} {C_Builder : Addr} {f ffault_of : Addr} {fd fdfault_of : FuncData} (F : Fun K "check" "check" s_check f fd) (T : Txt K mg C_Builder)
    (G_fault_of : FnOk P w K mg base CX0 3 ffault_of fdfault_of ["net"] (sp_fault_of K)) (D_fault_of : Def K mg "fault_of" ffault_of fdfault_of ["net"]) :
    FnOk P w K mg base CX0 4 f fd ["net"] (sp_check K) := by
  refine F.ok sccheck (fun vs H Q E h => ?_) (fun cdv A outer s H vs Q E hr h => ?_)
  · obtain ⟨l, n, rfl, _⟩ := h
    rfl
  · obtain ⟨v, n, rfl, hn, kd, q⟩ := h
    refine ⟨_, (pss_cons (ps_set (i := 1) sccheck.nd rfl (.inl rfl) (pe_call G_fault_of (hr.mono (by omega)) (by rfl) D_fault_of.m D_fault_of.k D_fault_of.b .nil pass0 (pa_cons (pv 0) pa_nil)))
      (pss_one (ps_if (pt_cmpR op_notN (pv 1) pe_non (nomark _)) (pss_one V0.ps_never) pss_nil))), ?_⟩
    refine ⟨_, rfl, v, n, rfl, hn, kd, fun H1 s1 => ?_⟩
    exact ⟨_, rfl, rfl, _, rfl, iteF (q H1 s1)⟩

end K38
namespace K38
open PySem PySem.Spec PyProof.Rows L2 V0
/-! ### runs of nets -/
theorem and_mul {a b : Nat} (ha : a < 2) (hb : b < 2) : a &&& b = a * b := by
  have e1 : a = 0 ∨ a = 1 := by omega
  have e2 : b = 0 ∨ b = 1 := by omega
  rcases e1 with rfl | rfl <;> rcases e2 with rfl | rfl <;> decide
def sp_valued (K : PySem.W.Frag) : Sp := fun vs H Q _ => ∃ (r : Addr) (row : List Nat) (l : Nat), vs = [.ref r, .int l] ∧ H r = some (.lst (vn row)) ∧ l / 2 < row.length ∧ Q (.int (bitv row l : Nat)) H
theorem ok_valued {P : Program} {w : World} {K : PySem.W.Frag} {mg : Str → Option Value} {base : Heap} {C_Builder : Addr} {f  : Addr} {fd  : FuncData} (F : Fun K "valued" "valued" s_valued f fd) (T : Txt K mg C_Builder) :
    FnOk P w K mg base CX0 1 f fd ["row", "literal"] (sp_valued K) := by
  refine F.ok scvalued (fun vs H Q E h => ?_) (fun cdv A outer s H vs Q E hr h => ?_)
  · obtain ⟨r, row, l, rfl, _⟩ := h
    rfl
  · obtain ⟨r, row, l, rfl, hr', hl, q⟩ := h
    refine ⟨_, (pss_one (ps_ret (pe_op op_xor (pe_ix (r := rIxL K) ix_list (pv 0) (pe_op op_shr (pv 1) pe_int) (fun _ _ => rfl)) (pe_op op_and (pv 1) pe_int)))), ?_⟩
    refine ⟨_, rfl, _, rfl, _, _, rfl, rfl, (show (0 : Int) ≤ 1 by decide), r, _, _, _, rfl, rfl, SqL.of hr', atI_nat (vn_get (List.getElem?_eq_getElem hl)), _, rfl, _, _, rfl, rfl, ?_⟩
    refine ⟨_, _, rfl, rfl, ?_⟩
    show Q (V.int (Builtin.bitXor ((row[l / 2] : Nat) : Int) (Builtin.bitAnd ((l : Nat) : Int) 1))) H
    rw [band_one, bxor]
    unfold bitv at q
    rw [List.getElem?_eq_getElem hl] at q
    exact q
def Fits (n : Net) : Prop := n.many ≤ 60000 ∧ ∀ j g, n.gates[j]? = some g → g.1 < 2 * (n.base + j) ∧ g.2 < 2 * (n.base + j)
def sp_values (K : PySem.W.Frag) : Sp := fun vs H Q _ => ∃ (v : V) (n : Net) (h b : Addr) (held bits : List Nat), vs = [v, .ref h, .ref b] ∧ Dv H v n ∧ H h = some (.lst (vn held)) ∧ H b = some (.lst (vn bits)) ∧
  held.length = n.starts.length ∧ bits.length = n.ins ∧ (∀ x ∈ held, x < 2) ∧ (∀ x ∈ bits, x < 2) ∧ Fits n ∧
  ∀ H' q, Same H H' → H q = none → H' q = some (.lst (vn (n.row held bits))) → Q (.ref q) H'
theorem ok_values {P : Program} {w : World} {K : PySem.W.Frag} {mg : Str → Option Value} {base : Heap} {C_Builder : Addr} {f fvalued : Addr} {fd fdvalued : FuncData} (F : Fun K "values" "values" s_values f fd) (T : Txt K mg C_Builder)
    (G_valued : FnOk P w K mg base CX0 1 fvalued fdvalued ["row", "literal"] (sp_valued K)) (D_valued : Def K mg "valued" fvalued fdvalued ["row", "literal"]) :
    FnOk P w K mg base CX0 2 f fd ["net", "state", "bits"] (sp_values K) := by
  refine F.ok scvalues (fun vs H Q E h => ?_) (fun cdv A outer s H vs Q E hr h => ?_)
  · obtain ⟨v, n, h, b, held, bits, rfl, _⟩ := h
    rfl
  · obtain ⟨v, n, h, b, held, bits, rfl, hn, hh, hb, lh, lb, bh, bb, ⟨hm, hg⟩, q⟩ := h
    obtain ⟨a, aS, aG, aN, aO, rfl, hA, hS, hG, hN, hO⟩ := hn.net_inv
    obtain ⟨_, us, e, hGl, hus⟩ := hG.list_inv
    cases e
    unfold Net.many Net.base at hm
    refine ⟨_, (pss_cons (ps_set (i := 3) scvalues.nd rfl (.inl rfl) (pe_lst (pa_cons pe_int (V0.pa_starK (K := K) rfl (pv 2) (V0.pa_starK (K := K) rfl (pv 1) pa_nil)))))
      (pss_cons (ps_for PassesOwn.never rfl (pi_list (pe_ix (r := rIxT K) ix_tup (pv 0) pe_int (fun _ _ => rfl))) (pg_tup (by rfl) (pgs_cons (pg_name (i := 4) scvalues.nd rfl (Or.inl rfl)) (pgs_cons (pg_name (i := 5) scvalues.nd rfl (Or.inl rfl)) pgs_nil))) (pss_one (ps_expr (pe_bm PySem.F.plainAttrs_list PySem.F.slot_list_append PySem.F.type_list_append mt_append (pv 3) (pa_cons (pe_op op_and (pe_call G_valued (hr.mono (by omega)) (by rfl) D_valued.m D_valued.k D_valued.b .nil pass0 (pa_cons (pv 3) (pa_cons (pv 4) pa_nil))) (pe_call G_valued (hr.mono (by omega)) (by rfl) D_valued.m D_valued.k D_valued.b .nil pass0 (pa_cons (pv 3) (pa_cons (pv 5) pa_nil)))) pa_nil)))))
      (pss_one (ps_ret (pv 3))))), ?_⟩
    refine ⟨_, rfl, b, _, rfl, .inr (SqL.of hb), _, rfl, h, _, rfl, .inr (SqL.of hh), ?_, fun l3 n3 => ?_⟩
    · show ([V.int 0] ++ (vn bits ++ (vn held ++ []))).length ≤ sizeLine
      rw [List.length_append, List.length_append, List.append_nil, vn_len, vn_len]
      exact Nat.le_of_lt (small64k (by show 1 + _ ≤ _; omega))
    have e3 : (upd H l3 (.lst (V.int 0 :: (vn bits ++ (vn held ++ []))))) l3 = some (.lst (vn (0 :: bits ++ held))) := by
      rw [upd_same]
      unfold vn
      rw [List.map_append, List.append_nil]
      rfl
    have sm : Same H (upd H l3 (.lst (V.int 0 :: (vn bits ++ (vn held ++ []))))) := same_new n3
    generalize (upd H l3 (.lst (V.int 0 :: (vn bits ++ (vn held ++ []))))) = H3 at sm e3 ⊢
    have lr : (0 :: bits ++ held).length = n.base := by
      rw [List.length_append, List.length_cons]
      unfold Net.base
      omega
    have br : ∀ x ∈ 0 :: bits ++ held, x < 2 := by
      intro x hx
      rcases List.mem_append.mp hx with hx | hx
      · rcases List.mem_cons.mp hx with rfl | hx
        · decide
        · exact bb x hx
      · exact bh x hx
    refine ⟨_, rfl, a, _, 3, _, rfl, rfl, SqT.of (sm _ _ hA), atI_nat (j := 3) rfl, aG, rfl, ⟨_, SqL.of (sm _ _ hGl)⟩, for_list (xs := us) (fun j σ H' => ∃ y4 y5 : Option V, σ = [some (.ref a), some (.ref h), some (.ref b), some (.ref l3), y4, y5] ∧ Same H H' ∧ H' l3 = some (.lst (vn (rowOf (n.gates.take j) (0 :: bits ++ held))))) ⟨none, none, rfl, sm, e3⟩ (fun j σ H' _ ⟨_, _, _, s', _⟩ => SqL.of (s' _ _ hGl)) ?_ ?_⟩
    · rintro j u σ H' hu ⟨y4, y5, rfl, s', hp⟩
      obtain ⟨⟨x, y⟩, hg1, hd⟩ := hus.at hu
      obtain ⟨t, u1, u2, rfl, ht, hx, hy⟩ := hd.pair_inv
      have hx := hx.nat_inv
      have hy := hy.nat_inv
      subst hx hy
      have hj : j < n.gates.length := (List.getElem?_eq_some_iff.mp hg1).1
      have hb2 := hg j _ hg1
      have lrow : (rowOf (n.gates.take j) (0 :: bits ++ held)).length = n.base + j := by
        rw [rowOf_len, lr, List.length_take]
        omega
      have b2 := rowOf_lt (gs := n.gates.take j) br
      refine ⟨t, _, rfl, SqT.of (s' _ _ ht), rfl, _, _, rfl, _, _, rfl, rfl, ?_⟩
      refine ⟨_, rfl, .inl ⟨rfl, _, SqL.of hp⟩, _, rfl, _, rfl, l3, _, x, rfl, hp, by rw [lrow]; omega, _, rfl, _, rfl, l3, _, y, rfl, hp, by rw [lrow]; omega, _, _, rfl, rfl, l3, _, _, rfl, rfl, hp, ?_, ?_⟩
      · rw [vn_len, lrow]
        exact small64k (by unfold Net.base; omega)
      · refine ⟨some (.int x), some (.int y), rfl, same_mut s' n3, ?_⟩
        rw [upd_same, take_snoc hg1, rowOf_snoc, ← vn_snoc]
        simp only [band, and_mul (bitv_lt b2 x) (bitv_lt b2 y)]
    · rintro σ H' ⟨y4, y5, rfl, s', hp⟩
      refine ⟨_, rfl, q _ _ s' n3 ?_⟩
      rw [hp, hus.len, List.take_length]
      rfl
theorem row_len {n : Net} {held bits : List Nat} (lh : held.length = n.starts.length) (lb : bits.length = n.ins) : (n.row held bits).length = n.many := by
  unfold Net.row
  rw [rowOf_len, List.length_append, List.length_cons]
  unfold Net.many Net.base
  omega
def sp_step (K : PySem.W.Frag) : Sp := fun vs H Q _ => ∃ (v : V) (n : Net) (h b : Addr) (held bits : List Nat), vs = [v, .ref h, .ref b] ∧ Dv H v n ∧ H h = some (.lst (vn held)) ∧ H b = some (.lst (vn bits)) ∧
  held.length = n.starts.length ∧ bits.length = n.ins ∧ (∀ x ∈ held, x < 2) ∧ (∀ x ∈ bits, x < 2) ∧ Fits n ∧ (∀ x ∈ n.nexts, x < 2 * n.many) ∧ (∀ x ∈ n.outs, x < 2 * n.many) ∧ n.nexts.length ≤ 1000 ∧ n.outs.length ≤ 1000 ∧
  ∀ H' t o x, Same H H' → H t = none → H' t = some (.tup [.ref o, .ref x]) → H o = none → H' o = some (.lst (vn (n.outs.map (bitv (n.row held bits))))) → H x = none → H' x = some (.lst (vn (n.nexts.map (bitv (n.row held bits))))) → Q (.ref t) H'
theorem ok_step {P : Program} {w : World} {K : PySem.W.Frag} {mg : Str → Option Value} {base : Heap} {C_Builder : Addr} {f fvalues fvalued : Addr} {fd fdvalues fdvalued : FuncData} (F : Fun K "step" "step" s_step f fd) (T : Txt K mg C_Builder)
    (G_values : FnOk P w K mg base CX0 2 fvalues fdvalues ["net", "state", "bits"] (sp_values K)) (D_values : Def K mg "values" fvalues fdvalues ["net", "state", "bits"])
    (G_valued : FnOk P w K mg base CX0 1 fvalued fdvalued ["row", "literal"] (sp_valued K)) (D_valued : Def K mg "valued" fvalued fdvalued ["row", "literal"]) :
    FnOk P w K mg base CX0 3 f fd ["net", "state", "bits"] (sp_step K) := by
  refine F.ok scstep (fun vs H Q E h => ?_) (fun cdv A outer s H vs Q E hr h => ?_)
  · obtain ⟨v, n, h, b, held, bits, rfl, _⟩ := h
    rfl
  · obtain ⟨v, n, h, b, held, bits, rfl, hn, hh, hb, lh, lb, bh, bb, fit, bx, bo, lx, lo, q⟩ := h
    have hn0 := hn
    obtain ⟨a, aS, aG, aN, aO, rfl, hA, hS, hG, hN, hO⟩ := hn.net_inv
    obtain ⟨_, e, hN⟩ := hN.natl_inv
    cases e
    obtain ⟨_, e, hO⟩ := hO.natl_inv
    cases e
    have lr := row_len lh lb
    refine ⟨_, (pss_cons (ps_set (i := 3) scstep.nd rfl (.inr rfl) (pe_call G_values (hr.mono (by omega)) (by rfl) D_values.m D_values.k D_values.b .nil pass0 (pa_cons (pv 0) (pa_cons (pv 1) (pa_cons (pv 2) pa_nil)))))
      (pss_one (ps_ret (pe_tup (pa_cons (pe_lc (own := [("literal", 4)]) (g := gName 4) (tt := tYes) rfl scstep.nd (pi_list (pe_ix (r := rIxT K) ix_tup (pv 0) pe_int (fun _ _ => rfl))) (blkOk_by (N := N_step) (sc := defScope s_step) (by decide +kernel)) (fun _ _ _ _ _ => (pg_name (i := 4) scstep.nd rfl (Or.inl rfl))) (fun _ _ _ _ _ => pts_nil) (fun _ _ _ _ _ => (pe_call G_valued (hr.mono (by omega)) (by rfl) D_valued.m D_valued.k D_valued.b .nil pass0 (pa_cons (pv 3) (pa_cons (pv 4) pa_nil))))) (pa_cons (pe_lc (own := [("literal", 4)]) (g := gName 4) (tt := tYes) rfl scstep.nd (pi_list (pe_ix (r := rIxT K) ix_tup (pv 0) pe_int (fun _ _ => rfl))) (blkOk_by (N := N_step) (sc := defScope s_step) (by decide +kernel)) (fun _ _ _ _ _ => (pg_name (i := 4) scstep.nd rfl (Or.inl rfl))) (fun _ _ _ _ _ => pts_nil) (fun _ _ _ _ _ => (pe_call G_valued (hr.mono (by omega)) (by rfl) D_valued.m D_valued.k D_valued.b .nil pass0 (pa_cons (pv 3) (pa_cons (pv 4) pa_nil))))) pa_nil)))))), ?_⟩
    refine ⟨_, rfl, _, rfl, _, rfl, .ref a, n, h, b, held, bits, rfl, hn0, hh, hb, lh, lb, bh, bb, fit, fun H1 r s1 nr er => ?_⟩
    generalize n.row held bits = row at er lr q
    refine ⟨_, rfl, a, _, 5, _, rfl, rfl, SqT.of (s1 _ _ hA), atI_nat (j := 5) rfl, aO, rfl, ⟨_, SqL.of (s1 _ _ hO)⟩, fun D nD => lc_list (xs := vn n.outs) (fun i Hz => Same H1 Hz ∧ Hz D = some (.lst (vn ((n.outs.take i).map (bitv row))))) ⟨same_new nD, upd_same⟩ (fun i Hz _ h => SqL.of (h.1 _ _ (s1 _ _ hO))) ?_ ?_⟩
    · rintro i v Hz hv ⟨sz, hp⟩
      have hi : i < n.outs.length := by
        have h := (List.getElem?_eq_some_iff.mp hv).1
        rw [vn_len] at h
        exact h
      have hx := List.getElem?_eq_getElem hi
      rw [vn_get hx] at hv
      cases hv
      have hb := bo _ (List.getElem_mem hi)
      refine ⟨rfl, _, rfl, _, rfl, r, row, _, rfl, sz _ _ er, by omega, _, hp, ?_, same_mut sz nD, ?_⟩
      · rw [vn_len, List.length_map, List.length_take]
        exact small1000 (by omega)
      · rw [upd_same, vn_snoc, take_snoc hx, List.map_append]
        rfl
    rintro H2 ⟨s2, e2⟩
    rw [vn_len, List.take_length] at e2
    have s12 := s1.trans s2
    refine ⟨_, rfl, a, _, 4, _, rfl, rfl, SqT.of (s12 _ _ hA), atI_nat (j := 4) rfl, aN, rfl, ⟨_, SqL.of (s12 _ _ hN)⟩, fun D2 nD2 => lc_list (xs := vn n.nexts) (fun i Hz => Same H2 Hz ∧ Hz D2 = some (.lst (vn ((n.nexts.take i).map (bitv row))))) ⟨same_new nD2, upd_same⟩ (fun i Hz _ h => SqL.of (h.1 _ _ (s12 _ _ hN))) ?_ ?_⟩
    · rintro i v Hz hv ⟨sz, hp⟩
      have hi : i < n.nexts.length := by
        have h := (List.getElem?_eq_some_iff.mp hv).1
        rw [vn_len] at h
        exact h
      have hx := List.getElem?_eq_getElem hi
      rw [vn_get hx] at hv
      cases hv
      have hb := bx _ (List.getElem_mem hi)
      refine ⟨rfl, _, rfl, _, rfl, r, row, _, rfl, sz _ _ (s2 _ _ er), by omega, _, hp, ?_, same_mut sz nD2, ?_⟩
      · rw [vn_len, List.length_map, List.length_take]
        exact small1000 (by omega)
      · rw [upd_same, vn_snoc, take_snoc hx, List.map_append]
        rfl
    rintro H3 ⟨s3, e3⟩
    rw [vn_len, List.take_length] at e3
    have s13 := s12.trans s3
    refine ⟨by show 2 ≤ sizeLine; decide, fun t nt => ?_⟩
    have st := same_new (o := .tup [.ref D, .ref D2]) nt
    exact q _ t D D2 (s13.trans st) (none_of s13 nt) upd_same (none_of s1 nD) (st _ _ (s3 _ _ e2)) (none_of s12 nD2) (st _ _ e3)
end K38
namespace K38
open PySem PySem.Spec PyProof.Rows L2 V0
/-! ### a net run over rows of bits -/
def Net.ran (n : Net) (rows : List (List Nat)) : List Nat × List (List Nat) := rows.foldl (fun s b => (n.nexts.map (bitv (n.row s.1 b)), s.2 ++ [n.outs.map (bitv (n.row s.1 b))])) (n.starts, [])
theorem ran_snoc (n : Net) (rows : List (List Nat)) (b : List Nat) : Net.ran n (rows ++ [b]) = (n.nexts.map (bitv (n.row (Net.ran n rows).1 b)), (Net.ran n rows).2 ++ [n.outs.map (bitv (n.row (Net.ran n rows).1 b))]) := by
  unfold Net.ran
  rw [List.foldl_append]
  rfl
theorem row_lt {n : Net} {held bits : List Nat} (h1 : ∀ x ∈ held, x < 2) (h2 : ∀ x ∈ bits, x < 2) : ∀ x ∈ n.row held bits, x < 2 := by
  refine rowOf_lt fun x hx => ?_
  rcases List.mem_append.mp hx with hx | hx
  · rcases List.mem_cons.mp hx with rfl | hx
    · decide
    · exact h2 x hx
  · exact h1 x hx
theorem map_lt {row xs : List Nat} (h : ∀ x ∈ row, x < 2) : ∀ x ∈ xs.map (bitv row), x < 2 := fun x hx => by
  obtain ⟨l, _, rfl⟩ := List.mem_map.mp hx
  exact bitv_lt h l
structure RunOk (n : Net) (rows : List (List Nat)) : Prop where
  kd : Kind n
  fit : Fits n
  lx : n.nexts.length ≤ 1000
  lo : n.outs.length ≤ 1000
  lr : rows.length ≤ 1000
  r : ∀ b ∈ rows, b.length = n.ins ∧ ∀ x ∈ b, x < 2
theorem ran_ok {n : Net} {rows : List (List Nat)} (ok : RunOk n rows) (i : Nat) : (Net.ran n (rows.take i)).1.length = n.starts.length ∧ ∀ x ∈ (Net.ran n (rows.take i)).1, x < 2 := by
  induction i with
  | zero => exact ⟨rfl, ok.kd.bits⟩
  | succ i ih =>
    cases e : rows[i]? with
    | none =>
      have : rows.take (i + 1) = rows.take i := by rw [List.take_add_one, e]; simp
      rw [this]
      exact ih
    | some b =>
      rw [take_snoc e, ran_snoc]
      refine ⟨?_, map_lt (row_lt ih.2 (ok.r b (List.mem_of_getElem? e)).2)⟩
      show (n.nexts.map _).length = _
      rw [List.length_map, ok.kd.nl]
def sp_run (K : PySem.W.Frag) : Sp := fun vs H Q _ => ∃ (v u : V) (n : Net) (rows : List (List Nat)), vs = [v, u] ∧ Dv H v n ∧ Dv H u rows ∧ RunOk n rows ∧ ∀ H' q, Same H H' → H q = none → Dv H' (.ref q) (Net.ran n rows).2 → Q (.ref q) H'
theorem ok_run {P : Program} {w : World} {K : PySem.W.Frag} {mg : Str → Option Value} {base : Heap} {C_Builder : Addr} {f fstep : Addr} {fd fdstep : FuncData} (F : Fun K "run" "run" s_run f fd) (T : Txt K mg C_Builder)
    (G_step : FnOk P w K mg base CX0 3 fstep fdstep ["net", "state", "bits"] (sp_step K)) (D_step : Def K mg "step" fstep fdstep ["net", "state", "bits"]) :
    FnOk P w K mg base CX0 4 f fd ["net", "rows"] (sp_run K) := by
  refine F.ok scrun (fun vs H Q E h => ?_) (fun cdv A outer s H vs Q E hr h => ?_)
  · obtain ⟨v, u, n, rows, rfl, _⟩ := h
    rfl
  · obtain ⟨v, u, n, rows, rfl, hn, hrw, ok, q⟩ := h
    have hn0 := hn
    obtain ⟨a, aS, aG, aN, aO, rfl, hA, hS, hG, hN, hO⟩ := hn.net_inv
    obtain ⟨_, e, hS⟩ := hS.natl_inv
    cases e
    obtain ⟨r, ws, rfl, hR, hws⟩ := hrw.list_inv
    have hwl := hws.len
    refine ⟨_, (pss_cons (ps_set (i := 2) scrun.nd rfl (.inl rfl) (pe_lst pa_nil))
      (pss_cons (ps_set (i := 3) scrun.nd rfl (.inl rfl) (pe_ix (r := rIxT K) ix_tup (pv 0) pe_int (fun _ _ => rfl)))
      (pss_cons (ps_for PassesOwn.never rfl (pi_list (pv 1)) (pg_name (i := 4) scrun.nd rfl (Or.inl rfl)) (pss_cons (ps_asg (pe_call G_step (hr.mono (by omega)) (by rfl) D_step.m D_step.k D_step.b .nil pass0 (pa_cons (pv 0) (pa_cons (pv 3) (pa_cons (pv 4) pa_nil)))) (pg_tup (by rfl) (pgs_cons (pg_name (i := 5) scrun.nd rfl (Or.inl rfl)) (pgs_cons (pg_name (i := 3) scrun.nd rfl (Or.inl rfl)) pgs_nil))))
      (pss_one (ps_expr (pe_bm PySem.F.plainAttrs_list PySem.F.slot_list_append PySem.F.type_list_append mt_append (pv 2) (pa_cons (pv 5) pa_nil))))))
      (pss_one (ps_ret (pv 2)))))), ?_⟩
    refine ⟨by show 0 ≤ sizeLine; decide, fun p np => ?_⟩
    have s0 := same_new (o := .lst []) np
    refine ⟨_, rfl, a, _, 2, _, rfl, rfl, SqT.of (s0 _ _ hA), atI_nat (j := 2) rfl, ?_⟩
    refine ⟨_, rfl, r, rfl, ⟨_, SqL.of (s0 _ _ hR)⟩, ?_⟩
    have e0 : (upd H p (.lst [])) p = some (.lst []) := upd_same
    generalize (upd H p (.lst [])) = H0 at s0 e0 ⊢
    refine for_list (xs := ws) (fun i σ Hx => ∃ (y4 y5 : Option V) (st : Addr) (us : List V), σ = [some (.ref a), some (.ref r), some (.ref p), some (.ref st), y4, y5] ∧ Same H Hx ∧ Hx p = some (.lst us) ∧ st ≠ p ∧ Hx st = some (.lst (vn (Net.ran n (rows.take i)).1)) ∧ Dvs (hid p Hx) us (Net.ran n (rows.take i)).2 ∧ us.length = i) ⟨none, none, aS, [], rfl, s0, e0, ne_of_none hS np, s0 _ _ hS, .nil, rfl⟩ (fun i σ Hx _ ⟨_, _, _, _, _, s', _⟩ => SqL.of (s' _ _ hR)) ?_ ?_
    · rintro i v σ Hx hv ⟨y4, y5, st, us, rfl, sx, hp, nst, hst, hus, hl⟩
      obtain ⟨bits, hb, db⟩ := hws.at hv
      obtain ⟨b, rfl, hbl⟩ := db.natl_inv
      have rk := ok.r bits (List.mem_of_getElem? hb)
      have ro := ran_ok ok i
      have hi : i < rows.length := (List.getElem?_eq_some_iff.mp hb).1
      have hlr := ok.lr
      refine ⟨_, rfl, _, rfl, _, rfl, .ref a, n, st, b, _, bits, rfl, hn0.same sx, hst, sx _ _ hbl, ro.1, rk.1, ro.2, rk.2, ok.fit, ok.kd.nx, ok.kd.ox, ok.lx, ok.lo, fun H1 t o x s1 nt et no eo nx ex => ?_⟩
      have nop : o ≠ p := fun z => by rw [z, hp] at no; cases no
      have nxp : x ≠ p := fun z => by rw [z, hp] at nx; cases nx
      have hp1 := s1 _ _ hp
      refine ⟨t, _, rfl, SqT.of et, rfl, _, _, rfl, _, _, rfl, rfl, ?_⟩
      refine ⟨_, rfl, .inl ⟨rfl, _, SqL.of hp1⟩, _, rfl, p, _, _, rfl, rfl, hp1, by rw [hl]; exact small1000 (by omega), ?_⟩
      refine ⟨_, _, x, us ++ [.ref o], rfl, same_mut (sx.trans s1) np, upd_same, nxp, ?_, ?_, by rw [List.length_append, hl]; rfl⟩
      · rw [upd_ne nxp, ex, take_snoc hb, ran_snoc]
      · rw [take_snoc hb, ran_snoc]
        refine ((hus.same (hid_mono s1)).same hid_mut).app (.cons (.natl (hid_of nop ?_)) .nil)
        rw [upd_ne nop]
        exact eo
    · rintro σ Hx ⟨y4, y5, st, us, rfl, sx, hp, nst, hst, hus, hl⟩
      rw [hwl, List.take_length] at hus
      exact ⟨_, rfl, q Hx p sx np (.list hp (hus.same (hid_same _ _)))⟩
end K38
namespace K38
open PySem PySem.Spec PyProof.Rows L2 V0
/-! ### bits and rows of values -/
def sp__law_bit (K : PySem.W.Frag) : Sp := fun vs H Q _ => ∃ (r : Addr) (row : List Nat) (l : Nat), vs = [.ref r, .int l] ∧ H r = some (.lst (vn row)) ∧ l / 2 < row.length ∧ Q (.int (bitv row l : Nat)) H
theorem ok__law_bit {P : Program} {w : World} {K : PySem.W.Frag} {mg : Str → Option Value} {base : Heap} {C_Builder : Addr} {f  : Addr} {fd  : FuncData} (F : Fun K "_law_bit" "_law_bit" s__law_bit f fd) (T : Txt K mg C_Builder) :
    FnOk P w K mg base CX0 1 f fd ["row", "literal"] (sp__law_bit K) := by
  refine F.ok sc_law_bit (fun vs H Q E h => ?_) (fun cdv A outer s H vs Q E hr h => ?_)
  · obtain ⟨r, row, l, rfl, _⟩ := h
    rfl
  · obtain ⟨r, row, l, rfl, hr', hl, q⟩ := h
    refine ⟨_, (pss_one (ps_ret (pe_op op_xor (pe_ix (r := rIxL K) ix_list (pv 0) (pe_op op_fdivN (pv 1) pe_int) (fun _ _ => rfl)) (pe_op op_modN (pe_callTy call_int1 (by rfl) T.m_int (by decide +kernel) (pa_cons (pv 1) pa_nil)) pe_int)))), ?_⟩
    refine ⟨_, rfl, _, rfl, _, _, rfl, rfl, ⟨by decide, by decide⟩, r, _, _, _, rfl, rfl, SqL.of hr', (by rw [nfdiv2]; exact atI_nat (vn_get (List.getElem?_eq_getElem hl))), _, rfl, .inl ⟨_, rfl, _, _, rfl, rfl, (show (2 : Int) ≠ 0 by decide), _, _, rfl, rfl, ?_⟩⟩
    show Q (V.int (Builtin.bitXor ((row[l / 2] : Nat) : Int) (((l : Nat) : Int).fmod 2))) H
    rw [nfmod2, bxor]
    unfold bitv at q
    rw [List.getElem?_eq_getElem hl] at q
    exact q
def sp__law_row (K : PySem.W.Frag) : Sp := fun vs H Q _ => ∃ (v : V) (n : Net) (h b : Addr) (held bits : List Nat), vs = [v, .ref h, .ref b] ∧ Dv H v n ∧ H h = some (.lst (vn held)) ∧ H b = some (.lst (vn bits)) ∧
  held.length = n.starts.length ∧ bits.length = n.ins ∧ (∀ x ∈ held, x < 2) ∧ (∀ x ∈ bits, x < 2) ∧ n.many ≤ 60000 ∧ (∀ j g, n.gates[j]? = some g → g.1 < 2 * (n.base + j) ∧ g.2 < 2 * (n.base + j)) ∧
  ∀ H' q, Same H H' → H q = none → H' q = some (.lst (vn (n.row held bits))) → Q (.ref q) H'
theorem ok__law_row {P : Program} {w : World} {K : PySem.W.Frag} {mg : Str → Option Value} {base : Heap} {C_Builder : Addr} {f f_law_bit : Addr} {fd fd_law_bit : FuncData} (F : Fun K "_law_row" "_law_row" s__law_row f fd) (T : Txt K mg C_Builder)
    (G__law_bit : FnOk P w K mg base CX0 1 f_law_bit fd_law_bit ["row", "literal"] (sp__law_bit K)) (D__law_bit : Def K mg "_law_bit" f_law_bit fd_law_bit ["row", "literal"]) :
    FnOk P w K mg base CX0 2 f fd ["net", "held", "bits"] (sp__law_row K) := by
  refine F.ok sc_law_row (fun vs H Q E h => ?_) (fun cdv A outer s H vs Q E hr h => ?_)
  · obtain ⟨v, n, h, b, held, bits, rfl, _⟩ := h
    rfl
  · obtain ⟨v, n, h, b, held, bits, rfl, hn, hh, hb, lh, lb, bh, bb, hm, hg, q⟩ := h
    obtain ⟨a, aS, aG, aN, aO, rfl, hA, hS, hG, hN, hO⟩ := hn.net_inv
    obtain ⟨_, us, e, hGl, hus⟩ := hG.list_inv
    cases e
    unfold Net.many Net.base at hm
    refine ⟨_, (pss_cons (ps_set (i := 3) sc_law_row.nd rfl (.inl rfl) (pe_op op_cat (pe_op op_cat (pe_lst (pa_cons pe_int pa_nil)) (pv 2)) (pv 1)))
      (pss_cons (ps_for PassesOwn.never rfl (pi_list (pe_ix (r := rIxT K) ix_tup (pv 0) pe_int (fun _ _ => rfl))) (pg_tup (by rfl) (pgs_cons (pg_name (i := 4) sc_law_row.nd rfl (Or.inl rfl)) (pgs_cons (pg_name (i := 5) sc_law_row.nd rfl (Or.inl rfl)) pgs_nil))) (pss_one (ps_expr (pe_bm PySem.F.plainAttrs_list PySem.F.slot_list_append PySem.F.type_list_append mt_append (pv 3) (pa_cons (pe_op op_mul (pe_call G__law_bit (hr.mono (by omega)) (by rfl) D__law_bit.m D__law_bit.k D__law_bit.b .nil pass0 (pa_cons (pv 3) (pa_cons (pv 4) pa_nil))) (pe_call G__law_bit (hr.mono (by omega)) (by rfl) D__law_bit.m D__law_bit.k D__law_bit.b .nil pass0 (pa_cons (pv 3) (pa_cons (pv 5) pa_nil)))) pa_nil)))))
      (pss_one (ps_ret (pv 3))))), ?_⟩
    refine ⟨by show 1 ≤ sizeLine; decide, fun l1 n1 => ⟨_, rfl, l1, b, _, _, rfl, rfl, upd_same, (same_new n1) _ _ hb, ?_, fun l2 n2 => ⟨_, rfl, l2, h, _, _, rfl, rfl, upd_same, ((same_new n1).trans (same_new n2)) _ _ hh, ?_, fun l3 n3 => ?_⟩⟩⟩
    · show 1 + (vn bits).length ≤ sizeLine
      rw [vn_len]
      exact Nat.le_of_lt (small64k (by omega))
    · show ([V.int 0] ++ vn bits).length + (vn held).length ≤ sizeLine
      rw [List.length_append, vn_len, vn_len]
      exact Nat.le_of_lt (small64k (by show 1 + _ + _ ≤ _; omega))
    have sm : Same H (upd (upd (upd H l1 (.lst [.int 0])) l2 (.lst ([V.int 0] ++ vn bits))) l3 (.lst ([V.int 0] ++ vn bits ++ vn held))) := ((same_new n1).trans (same_new n2)).trans (same_new n3)
    have e3 : (upd (upd (upd H l1 (.lst [.int 0])) l2 (.lst ([V.int 0] ++ vn bits))) l3 (.lst ([V.int 0] ++ vn bits ++ vn held))) l3 = some (.lst (vn (0 :: bits ++ held))) := by
      rw [upd_same]
      unfold vn
      rw [List.map_append]
      rfl
    have n0 : H l3 = none := by
      cases e : H l3 with
      | none => rfl
      | some o =>
        rw [((same_new n1).trans (same_new n2)) _ _ e] at n3
        cases n3
    generalize (upd (upd (upd H l1 (.lst [.int 0])) l2 (.lst ([V.int 0] ++ vn bits))) l3 (.lst ([V.int 0] ++ vn bits ++ vn held))) = H3 at sm e3 ⊢
    clear n1 n2 n3
    have lr : (0 :: bits ++ held).length = n.base := by
      rw [List.length_append, List.length_cons]
      unfold Net.base
      omega
    have br : ∀ x ∈ 0 :: bits ++ held, x < 2 := by
      intro x hx
      rcases List.mem_append.mp hx with hx | hx
      · rcases List.mem_cons.mp hx with rfl | hx
        · decide
        · exact bb x hx
      · exact bh x hx
    refine ⟨_, rfl, a, _, 3, _, rfl, rfl, SqT.of (sm _ _ hA), atI_nat (j := 3) rfl, aG, rfl, ⟨_, SqL.of (sm _ _ hGl)⟩, for_list (xs := us) (fun j σ H' => ∃ y4 y5 : Option V, σ = [some (.ref a), some (.ref h), some (.ref b), some (.ref l3), y4, y5] ∧ Same H H' ∧ H' l3 = some (.lst (vn (rowOf (n.gates.take j) (0 :: bits ++ held))))) ⟨none, none, rfl, sm, e3⟩ (fun j σ H' _ ⟨_, _, _, s', _⟩ => SqL.of (s' _ _ hGl)) ?_ ?_⟩
    · rintro j u σ H' hu ⟨y4, y5, rfl, s', hp⟩
      obtain ⟨⟨x, y⟩, hg1, hd⟩ := hus.at hu
      obtain ⟨t, u1, u2, rfl, ht, hx, hy⟩ := hd.pair_inv
      have hx := hx.nat_inv
      have hy := hy.nat_inv
      subst hx hy
      have hj : j < n.gates.length := (List.getElem?_eq_some_iff.mp hg1).1
      have hb2 := hg j _ hg1
      have lrow : (rowOf (n.gates.take j) (0 :: bits ++ held)).length = n.base + j := by
        rw [rowOf_len, lr, List.length_take]
        omega
      have b2 := rowOf_lt (gs := n.gates.take j) br
      refine ⟨t, _, rfl, SqT.of (s' _ _ ht), rfl, _, _, rfl, _, _, rfl, rfl, ?_⟩
      refine ⟨_, rfl, .inl ⟨rfl, _, SqL.of hp⟩, _, rfl, _, rfl, l3, _, x, rfl, hp, by rw [lrow]; omega, _, rfl, _, rfl, l3, _, y, rfl, hp, by rw [lrow]; omega, _, _, rfl, rfl, .inl ?_, l3, _, _, rfl, rfl, hp, ?_, ?_⟩
      · have := bitv_lt b2 x
        omega
      · rw [vn_len, lrow]
        exact small64k (by unfold Net.base; omega)
      · refine ⟨some (.int x), some (.int y), rfl, same_mut s' n0, ?_⟩
        rw [upd_same, take_snoc hg1, rowOf_snoc, ← vn_snoc]
        rfl
    · rintro σ H' ⟨y4, y5, rfl, s', hp⟩
      refine ⟨_, rfl, q _ _ s' n0 ?_⟩
      rw [hp, hus.len, List.take_length]
      rfl

/-! ### the law's rows and its own run -/
def sp__law_rows (K : PySem.W.Frag) : Sp := fun vs H Q _ => ∃ (p c : Addr) (ins most : Nat), vs = [.ref p, .int ins, .int most] ∧ Dr H p c ∧ ins ≤ 1000 ∧ most ≤ 1000 ∧
  ∀ H' q (rows : List (List Nat)), Go p c H H' → H q = none → Dv (res p c H') (.ref q) rows → rows.length ≤ most → (∀ b ∈ rows, b.length = ins ∧ ∀ x ∈ b, x < 2) → Q (.ref q) H'
theorem ok__law_rows {P : Program} {w : World} {K : PySem.W.Frag} {mg : Str → Option Value} {base : Heap} {C_Builder : Addr} {f f_law_draw : Addr} {fd fd_law_draw : FuncData} (F : Fun K "_law_rows" "_law_rows" s__law_rows f fd) (T : Txt K mg C_Builder)
    (G__law_draw : FnOk P w K mg base CX0 1 f_law_draw fd_law_draw ["state", "many"] (sp__law_draw K)) (D__law_draw : Def K mg "_law_draw" f_law_draw fd_law_draw ["state", "many"]) :
    FnOk P w K mg base CX0 2 f fd ["state", "ins", "most"] (sp__law_rows K) := by
  refine F.ok sc_law_rows (fun vs H Q E h => ?_) (fun cdv A outer s H vs Q E hr h => ?_)
  · obtain ⟨p, c, ins, most, rfl, _⟩ := h
    rfl
  · obtain ⟨p, c, ins, most, rfl, d0, hi, hm, q⟩ := h
    refine ⟨_, (pss_one (ps_ret (pe_lc (own := [("j", 3)]) (g := gName 3) (tt := tYes) rfl sc_law_rows.nd (pi_range1 rfl T.m_range (pa_cons (pe_call G__law_draw (hr.mono (by omega)) (by rfl) D__law_draw.m D__law_draw.k D__law_draw.b .nil pass0 (pa_cons (pv 0) (pa_cons (pe_op op_add (pv 2) pe_int) pa_nil))) pa_nil)) (blkOk_by (N := N__law_rows) (sc := defScope s__law_rows) (by decide +kernel)) (fun _ _ _ _ _ => (pg_name (i := 3) sc_law_rows.nd rfl (Or.inl rfl))) (fun _ _ _ _ _ => pts_nil) (fun _ _ _ _ _ => (pe_lc (own := [("k", 4)]) (g := gName 4) (tt := tYes) rfl sc_law_rows.nd (pi_range1 rfl T.m_range (pa_cons (pv 1) pa_nil)) (blkOk_by (N := N__law_rows) (sc := relS _ (defScope s__law_rows)) (by decide +kernel)) (fun _ _ _ _ _ => (pg_name (i := 4) sc_law_rows.nd rfl (Or.inl rfl))) (fun _ _ _ _ _ => pts_nil) (fun _ _ _ _ _ => (pe_call G__law_draw (hr.mono (by omega)) (by rfl) D__law_draw.m D__law_draw.k D__law_draw.b .nil pass0 (pa_cons (pv 0) (pa_cons pe_int pa_nil))))))))), ?_⟩
    refine ⟨_, rfl, _, rfl, _, _, rfl, rfl, p, c, most + 1, rfl, d0, by omega, by omega, fun H1 d g1 hd => ⟨_, rfl, by omega, by omega, fun D nD => lc_range (n := d) (fun j Hx => ∃ (us : List V) (rows : List (List Nat)), Go p c H1 Hx ∧ Hx D = some (.lst us) ∧ Dvs (hid D (res p c Hx)) us rows ∧ us.length = j ∧ ∀ b ∈ rows, b.length = ins ∧ ∀ x ∈ b, x < 2) ⟨[], [], Go.of g1.b (same_new nD), upd_same, .nil, rfl, by simp⟩ ?_ ?_⟩⟩
    · rintro j Hx hj ⟨us, rows, gx, hD, hus, hl, bs⟩
      have oD := g1.b.off nD
      refine ⟨rfl, _, rfl, _, rfl, by omega, by omega, fun D2 nD2 => lc_range (n := ins) (fun k Hy => ∃ xs : List Nat, Go p c Hx Hy ∧ Hy D2 = some (.lst (vn xs)) ∧ xs.length = k ∧ ∀ x ∈ xs, x < 2) ⟨[], Go.of gx.b (same_new nD2), upd_same, rfl, by simp⟩ ?_ ?_⟩
      · rintro k Hy hk ⟨xs, gy, h2, hl2, hx2⟩
        refine ⟨rfl, _, rfl, p, c, 2, rfl, gy.b, by decide, by decide, fun Hz x g hx => ⟨_, g.get' gx.b nD2 h2, by rw [vn_len]; exact small64k (by omega), xs ++ [x], (gy.trans g).mut nD2, ?_, by rw [List.length_append, hl2]; rfl, mem_snoc hx2 hx⟩⟩
        rw [upd_same, vn_snoc]
      rintro Hy ⟨xs, gy, h2, hl2, hx2⟩
      have o2 := gx.b.off nD2
      have n2D : D2 ≠ D := fun z => by rw [z, hD] at nD2; cases nD2
      refine ⟨us, gy.get oD.1 oD.2 hD, by rw [hl]; exact small1000 (by omega), us ++ [.ref D2], rows ++ [xs], (gx.trans gy).mut nD, upd_same, ?_, by rw [List.length_append, hl]; rfl, mem_snoc bs ⟨hl2, hx2⟩⟩
      refine ((hus.same (hid_mono gy.s)).same hid_res_mut).app (.cons (.natl (hid_of n2D (res_of o2.1 o2.2 ?_))) .nil)
      rw [upd_ne n2D]
      exact h2
    · rintro Hx ⟨us, rows, gx, hD, hus, hl, bs⟩
      have oD := g1.b.off nD
      refine q Hx D rows (g1.trans gx) (g1.none nD) (.list (res_of oD.1 oD.2 hD) (hus.same (hid_same _ _))) ?_ bs
      rw [← hus.len]
      omega
def sp__law_run (K : PySem.W.Frag) : Sp := fun vs H Q _ => ∃ (v u : V) (n : Net) (rows : List (List Nat)), vs = [v, u] ∧ Dv H v n ∧ Dv H u rows ∧ RunOk n rows ∧ ∀ H' q, Same H H' → H q = none → Dv H' (.ref q) (Net.ran n rows).2 → Q (.ref q) H'
theorem ok__law_run {P : Program} {w : World} {K : PySem.W.Frag} {mg : Str → Option Value} {base : Heap} {C_Builder : Addr} {f f_law_row f_law_bit : Addr} {fd fd_law_row fd_law_bit : FuncData} (F : Fun K "_law_run" "_law_run" s__law_run f fd) (T : Txt K mg C_Builder)
    (G__law_row : FnOk P w K mg base CX0 2 f_law_row fd_law_row ["net", "held", "bits"] (sp__law_row K)) (D__law_row : Def K mg "_law_row" f_law_row fd_law_row ["net", "held", "bits"])
    (G__law_bit : FnOk P w K mg base CX0 1 f_law_bit fd_law_bit ["row", "literal"] (sp__law_bit K)) (D__law_bit : Def K mg "_law_bit" f_law_bit fd_law_bit ["row", "literal"]) :
    FnOk P w K mg base CX0 3 f fd ["net", "rows"] (sp__law_run K) := by
  refine F.ok sc_law_run (fun vs H Q E h => ?_) (fun cdv A outer s H vs Q E hr h => ?_)
  · obtain ⟨v, u, n, rows, rfl, _⟩ := h
    rfl
  · obtain ⟨v, u, n, rows, rfl, hn, hrw, ok, q⟩ := h
    have hn0 := hn
    obtain ⟨a, aS, aG, aN, aO, rfl, hA, hS, hG, hN, hO⟩ := hn.net_inv
    obtain ⟨_, e, hS⟩ := hS.natl_inv
    cases e
    obtain ⟨_, e, hN⟩ := hN.natl_inv
    cases e
    obtain ⟨_, e, hO⟩ := hO.natl_inv
    cases e
    obtain ⟨r, ws, rfl, hR, hws⟩ := hrw.list_inv
    have hwl := hws.len
    have bx := ok.kd.nx
    have bo := ok.kd.ox
    have lx := ok.lx
    have lo := ok.lo
    refine ⟨_, (pss_cons (ps_set (i := 2) sc_law_run.nd rfl (.inl rfl) (pe_ix (r := rIxT K) ix_tup (pv 0) pe_int (fun _ _ => rfl)))
      (pss_cons (ps_set (i := 3) sc_law_run.nd rfl (.inl rfl) (pe_lst pa_nil))
      (pss_cons (ps_for PassesOwn.never rfl (pi_list (pv 1)) (pg_name (i := 4) sc_law_run.nd rfl (Or.inl rfl)) (pss_cons (ps_set (i := 5) sc_law_run.nd rfl (.inr rfl) (pe_call G__law_row (hr.mono (by omega)) (by rfl) D__law_row.m D__law_row.k D__law_row.b .nil pass0 (pa_cons (pv 0) (pa_cons (pv 2) (pa_cons (pv 4) pa_nil)))))
      (pss_cons (ps_expr (pe_bm PySem.F.plainAttrs_list PySem.F.slot_list_append PySem.F.type_list_append mt_append (pv 3) (pa_cons (pe_lc (own := [("literal", 6)]) (g := gName 6) (tt := tYes) rfl sc_law_run.nd (pi_list (pe_ix (r := rIxT K) ix_tup (pv 0) pe_int (fun _ _ => rfl))) (blkOk_by (N := N__law_run) (sc := defScope s__law_run) (by decide +kernel)) (fun _ _ _ _ _ => (pg_name (i := 6) sc_law_run.nd rfl (Or.inl rfl))) (fun _ _ _ _ _ => pts_nil) (fun _ _ _ _ _ => (pe_call G__law_bit (hr.mono (by omega)) (by rfl) D__law_bit.m D__law_bit.k D__law_bit.b .nil pass0 (pa_cons (pv 5) (pa_cons (pv 6) pa_nil))))) pa_nil)))
      (pss_one (ps_setLc (i := 2) (own := [("literal", 6)]) (g := gName 6) (tt := tYes) rfl sc_law_run.nd rfl rfl (sw_true rfl rfl rfl (by decide +kernel)) (pi_list (pe_ix (r := rIxT K) ix_tup (pv 0) pe_int (fun _ _ => rfl))) (blkOk_by (N := N__law_run) (sc := defScope s__law_run) (by decide +kernel)) (fun _ _ _ _ _ => (pg_name (i := 6) sc_law_run.nd rfl (Or.inl rfl))) (fun _ _ _ _ _ => pts_nil) (fun _ _ _ _ _ => (pe_call G__law_bit (hr.mono (by omega)) (by rfl) D__law_bit.m D__law_bit.k D__law_bit.b .nil pass0 (pa_cons (pv 5) (pa_cons (pv 6) pa_nil)))))))))
      (pss_one (ps_ret (pv 3)))))), ?_⟩
    refine ⟨_, rfl, a, _, 2, _, rfl, rfl, SqT.of hA, atI_nat (j := 2) rfl, ?_⟩
    refine ⟨by show 0 ≤ sizeLine; decide, fun p np => ?_⟩
    have s0 := same_new (o := .lst []) np
    refine ⟨_, rfl, r, rfl, ⟨_, SqL.of (s0 _ _ hR)⟩, ?_⟩
    have e0 : (upd H p (.lst [])) p = some (.lst []) := upd_same
    generalize (upd H p (.lst [])) = H0 at s0 e0 ⊢
    refine for_list (xs := ws) (fun i σ Hx => ∃ (y4 y5 y6 : Option V) (st : Addr) (us : List V), σ = [some (.ref a), some (.ref r), some (.ref st), some (.ref p), y4, y5, y6] ∧ Same H Hx ∧ Hx p = some (.lst us) ∧ st ≠ p ∧ Hx st = some (.lst (vn (Net.ran n (rows.take i)).1)) ∧ Dvs (hid p Hx) us (Net.ran n (rows.take i)).2 ∧ us.length = i) ⟨none, none, none, aS, [], rfl, s0, e0, ne_of_none hS np, s0 _ _ hS, .nil, rfl⟩ (fun i σ Hx _ ⟨_, _, _, _, _, _, s', _⟩ => SqL.of (s' _ _ hR)) ?_ ?_
    · rintro i v σ Hx hv ⟨y4, y5, y6, st, us, rfl, sx, hp, nst, hst, hus, hl⟩
      obtain ⟨bits, hb, db⟩ := hws.at hv
      obtain ⟨b, rfl, hbl⟩ := db.natl_inv
      have rk := ok.r bits (List.mem_of_getElem? hb)
      have ro := ran_ok ok i
      have hi : i < rows.length := (List.getElem?_eq_some_iff.mp hb).1
      have hlr := ok.lr
      have lrow := row_len ro.1 rk.1
      rw [take_snoc hb, ran_snoc]
      refine ⟨_, rfl, _, rfl, _, rfl, .ref a, n, st, b, _, bits, rfl, hn0.same sx, hst, sx _ _ hbl, ro.1, rk.1, ro.2, rk.2, ok.fit.1, ok.fit.2, fun H1 rw_ s1 nr er => ?_⟩
      generalize n.row (Net.ran n (rows.take i)).1 bits = row at er lrow ⊢
      have nrp : rw_ ≠ p := fun z => by rw [z, hp] at nr; cases nr
      have hp1 := s1 _ _ hp
      have s1H := sx.trans s1
      refine ⟨_, rfl, .inl ⟨rfl, _, SqL.of hp1⟩, ?_⟩
      refine ⟨_, rfl, a, _, 5, _, rfl, rfl, SqT.of (s1H _ _ hA), atI_nat (j := 5) rfl, aO, rfl, ⟨_, SqL.of (s1H _ _ hO)⟩, fun D nD => lc_list (xs := vn n.outs) (fun i Hz => Same H1 Hz ∧ Hz D = some (.lst (vn ((n.outs.take i).map (bitv row))))) ⟨same_new nD, upd_same⟩ (fun i Hz _ h => SqL.of (h.1 _ _ (s1H _ _ hO))) ?_ ?_⟩
      · rintro i v Hz hv ⟨sz, hpz⟩
        have hi : i < n.outs.length := by
          have h := (List.getElem?_eq_some_iff.mp hv).1
          rw [vn_len] at h
          exact h
        have hx := List.getElem?_eq_getElem hi
        rw [vn_get hx] at hv
        cases hv
        have hb := bo _ (List.getElem_mem hi)
        refine ⟨rfl, _, rfl, _, rfl, rw_, row, _, rfl, sz _ _ er, by omega, _, hpz, ?_, same_mut sz nD, ?_⟩
        · rw [vn_len, List.length_map, List.length_take]
          exact small1000 (by omega)
        · rw [upd_same, vn_snoc, take_snoc hx, List.map_append]
          rfl
      rintro H2 ⟨s2, e2⟩
      rw [vn_len, List.take_length] at e2
      have s12 := s1H.trans s2
      have hp2 := s2 _ _ hp1
      have nDp : D ≠ p := fun z => by rw [z, hp1] at nD; cases nD
      refine ⟨p, _, _, rfl, rfl, hp2, by rw [hl]; exact small1000 (by omega), ?_⟩
      have sm := same_mut (o := .lst (us ++ [V.ref D])) s12 np
      have hus2 : Dvs (hid p (upd H2 p (.lst (us ++ [V.ref D])))) (us ++ [V.ref D]) ((Net.ran n (rows.take i)).2 ++ [n.outs.map (bitv row)]) := by
        refine ((hus.same (hid_mono (s1.trans s2))).same hid_mut).app (.cons (.natl (hid_of nDp ?_)) .nil)
        rw [upd_ne nDp]
        exact e2
      have er2 : (upd H2 p (.lst (us ++ [V.ref D]))) rw_ = some (.lst (vn row)) := by
        rw [upd_ne nrp]
        exact s2 _ _ er
      have ep2 : (upd H2 p (.lst (us ++ [V.ref D]))) p = some (.lst (us ++ [V.ref D])) := upd_same
      generalize (upd H2 p (.lst (us ++ [V.ref D]))) = H3 at sm hus2 er2 ep2 ⊢
      refine ⟨_, rfl, a, _, 4, _, rfl, rfl, SqT.of (sm _ _ hA), atI_nat (j := 4) rfl, aN, rfl, ⟨_, SqL.of (sm _ _ hN)⟩, fun D2 nD2 => lc_list (xs := vn n.nexts) (fun i Hz => Same H3 Hz ∧ Hz D2 = some (.lst (vn ((n.nexts.take i).map (bitv row))))) ⟨same_new nD2, upd_same⟩ (fun i Hz _ h => SqL.of (h.1 _ _ (sm _ _ hN))) ?_ ?_⟩
      · rintro i v Hz hv ⟨sz, hpz⟩
        have hi : i < n.nexts.length := by
          have h := (List.getElem?_eq_some_iff.mp hv).1
          rw [vn_len] at h
          exact h
        have hx := List.getElem?_eq_getElem hi
        rw [vn_get hx] at hv
        cases hv
        have hb := bx _ (List.getElem_mem hi)
        refine ⟨rfl, _, rfl, _, rfl, rw_, row, _, rfl, sz _ _ er2, by omega, _, hpz, ?_, same_mut sz nD2, ?_⟩
        · rw [vn_len, List.length_map, List.length_take]
          exact small1000 (by omega)
        · rw [upd_same, vn_snoc, take_snoc hx, List.map_append]
          rfl
      rintro H4 ⟨s4, e4⟩
      rw [vn_len, List.take_length] at e4
      have n2p : D2 ≠ p := fun z => by rw [z, ep2] at nD2; cases nD2
      exact ⟨_, _, _, D2, us ++ [.ref D], rfl, sm.trans s4, s4 _ _ ep2, n2p, e4, hus2.same (hid_mono s4), by rw [List.length_append, hl]; rfl⟩
    · rintro σ Hx ⟨y4, y5, y6, st, us, rfl, sx, hp, nst, hst, hus, hl⟩
      rw [hwl, List.take_length] at hus
      exact ⟨_, rfl, q Hx p sx np (.list hp (hus.same (hid_same _ _)))⟩
end K38
namespace K38
open PySem PySem.Spec PyProof.Rows L2 V0
theorem rep_flat (k : Nat) (v : V) : (List.replicate k [v]).flatten = List.replicate k v := by
  induction k with
  | zero => rfl
  | succ k ih =>
    rw [List.replicate_succ, List.flatten_cons, ih, List.replicate_succ]
    rfl

/-! ### what stands below a node -/
inductive Below (n : Net) (x : Nat) : Nat → Prop
  | refl : Below n x x
  | kid {y z : Nat} : Below n x y → z ∈ kids n y → Below n x z
theorem below_head {n : Net} {x y z : Nat} (h : y ∈ kids n x) (b : Below n y z) : Below n x z := by
  induction b with
  | refl => exact .kid .refl h
  | kid _ hz ih => exact .kid ih hz
theorem below_cases {n : Net} {x z : Nat} (b : Below n x z) : z = x ∨ ∃ y ∈ kids n x, Below n y z := by
  induction b with
  | refl => exact .inl rfl
  | @kid y z _ hz ih =>
    rcases ih with rfl | ⟨w, hw, hb⟩
    · exact .inr ⟨z, hz, .refl⟩
    · exact .inr ⟨w, hw, .kid hb hz⟩
theorem kids_lt {n : Net} (f : Fits n) {x y : Nat} (h : y ∈ kids n x) : y < x := by
  unfold kids at h
  by_cases hb : x < n.base
  · rw [if_pos hb] at h
    cases h
  · rw [if_neg hb] at h
    cases eg : n.gates[x - n.base]? with
    | none =>
      rw [eg] at h
      cases h
    | some g =>
      rw [eg] at h
      have := f.2 _ _ eg
      simp only [List.mem_cons, List.not_mem_nil, or_false] at h
      rcases h with rfl | rfl <;> omega
theorem below_le {n : Net} (f : Fits n) {x z : Nat} (b : Below n x z) : z ≤ x := by
  induction b with
  | refl => exact Nat.le_refl _
  | kid _ hz ih => exact Nat.le_trans (Nat.le_of_lt (kids_lt f hz)) ih
theorem kids_base {n : Net} {x : Nat} (h : x < n.base) : kids n x = [] := by
  unfold kids
  rw [if_pos h]
theorem mark_iff {ms : List Bool} {j x : Nat} (hj : j < ms.length) : (ms.set j true)[x]? = some true ↔ x = j ∨ ms[x]? = some true := by
  rw [List.getElem?_set]
  by_cases e : j = x
  · subst e
    rw [if_pos rfl, if_pos hj]
    simp
  · rw [if_neg e]
    constructor
    · exact .inr
    · rintro (h | h)
      · exact absurd h.symm e
      · exact h
theorem set_bl (ms : List Bool) (j : Nat) (b : Bool) : (ms.map V.bl).set j (.bl b) = (ms.set j b).map V.bl := by
  rw [List.map_set]
def sp_needed (K : PySem.W.Frag) : Sp := fun vs H Q _ => ∃ (v : V) (n : Net) (r : Addr) (lits : List Nat), vs = [v, .ref r] ∧ Dv H v n ∧ H r = some (.lst (vn lits)) ∧ Fits n ∧ (∀ l ∈ lits, l < 2 * n.many) ∧
  ∀ H' q ys, Same H H' → H q = none → H' q = some (.lst (vn ys)) → ys.Pairwise (· < ·) → (∀ y, y ∈ ys ↔ ∃ l ∈ lits, Below n (l / 2) y) → Q (.ref q) H'
theorem ok_needed {P : Program} {w : World} {K : PySem.W.Frag} {mg : Str → Option Value} {base : Heap} {C_Builder : Addr} {f fbase_of fmany_nodes : Addr} {fd fdbase_of fdmany_nodes : FuncData} (F : Fun K "needed" "needed" s_needed f fd) (T : Txt K mg C_Builder)
    (G_base_of : FnOk P w K mg base CX0 1 fbase_of fdbase_of ["net"] (sp_base_of K)) (D_base_of : Def K mg "base_of" fbase_of fdbase_of ["net"])
    (G_many_nodes : FnOk P w K mg base CX0 2 fmany_nodes fdmany_nodes ["net"] (sp_many_nodes K)) (D_many_nodes : Def K mg "many_nodes" fmany_nodes fdmany_nodes ["net"]) :
    FnOk P w K mg base CX0 3 f fd ["net", "literals"] (sp_needed K) := by
  refine F.ok scneeded (fun vs H Q E h => ?_) (fun cdv A outer s H vs Q E hr h => ?_)
  · obtain ⟨v, n, r, lits, rfl, _⟩ := h
    rfl
  · obtain ⟨v, n, r, lits, rfl, hn, hlit, fit, bl, q⟩ := h
    have hn0 := hn
    obtain ⟨a, aS, aG, aN, aO, rfl, hA, hS, hG, hN, hO⟩ := hn.net_inv
    obtain ⟨_, us, e, hGl, hus⟩ := hG.list_inv
    cases e
    have hgl := hus.len
    have hm := fit.1
    refine ⟨_, (pss_cons (ps_set (i := 2) scneeded.nd rfl (.inl rfl) (pe_call G_base_of (hr.mono (by omega)) (by rfl) D_base_of.m D_base_of.k D_base_of.b .nil pass0 (pa_cons (pv 0) pa_nil)))
      (pss_cons (ps_set (i := 3) scneeded.nd rfl (.inl rfl) (pe_op op_rep (pe_lst (pa_cons pe_bl pa_nil)) (pe_call G_many_nodes (hr.mono (by omega)) (by rfl) D_many_nodes.m D_many_nodes.k D_many_nodes.b .nil pass0 (pa_cons (pv 0) pa_nil))))
      (pss_cons (ps_for PassesOwn.never rfl (pi_list (pv 1)) (pg_name (i := 4) scneeded.nd rfl (Or.inl rfl)) (pss_one (ps_asg pe_bl (pg_sub (pv 3) (pe_op op_shr (pv 4) pe_int) set_list))))
      (pss_cons (ps_for PassesOwn.never rfl (pi_revR (by rfl) T.m_reversed (prg_1 (by rfl) T.m_range (pe_callB call_len_seq (by rfl) T.m_len (by decide +kernel) (pa_cons (pe_ix (r := rIxT K) ix_tup (pv 0) pe_int (fun _ _ => rfl)) pa_nil)))) (pg_name (i := 5) scneeded.nd rfl (Or.inl rfl)) (pss_one (ps_if (pt_val (pe_ix (r := rIxL K) ix_list (pv 3) (pe_op op_add (pv 2) (pv 5)) (fun _ _ => rfl))) (pss_one (ps_for PassesOwn.never rfl (pi_tup (pe_ix (r := rIxL K) ix_list (pe_ix (r := rIxT K) ix_tup (pv 0) pe_int (fun _ _ => rfl)) (pv 5) (fun _ _ => rfl))) (pg_name (i := 4) scneeded.nd rfl (Or.inl rfl)) (pss_one (ps_asg pe_bl (pg_sub (pv 3) (pe_op op_shr (pv 4) pe_int) set_list))))) pss_nil)))
      (pss_one (ps_ret (pe_lc (own := [("node", 6), ("is_needed", 7)]) (g := gTup K 2 (gCons (gName 6) (gCons (gName 7) (gNil)))) rfl scneeded.nd (pi_enum (by rfl) T.m_enumerate (pa_cons (pv 3) pa_nil)) (blkOk_by (N := N_needed) (sc := defScope s_needed) (by decide +kernel)) (fun _ _ _ _ _ => (pg_tup (by rfl) (pgs_cons (pg_name (i := 6) scneeded.nd rfl (Or.inl rfl)) (pgs_cons (pg_name (i := 7) scneeded.nd rfl (Or.inl rfl)) pgs_nil)))) (fun _ _ _ _ _ => (pts_one (pt_val (pv 7)))) (fun _ _ _ _ _ => (pv 6))))))))), ?_⟩
    refine ⟨_, rfl, .ref a, n, rfl, hn0, ?_⟩
    refine ⟨by show 1 ≤ sizeLine; decide, fun l nl => ⟨_, rfl, .ref a, n, rfl, hn0.same (same_new nl), l, _, _, rfl, rfl, upd_same, by omega, by omega, ?_, fun p np => ?_⟩⟩
    · show 1 * ((n.many : Int)).toNat ≤ sizeLine
      rw [Int.toNat_natCast, Nat.one_mul]
      exact Nat.le_of_lt (small64k (by omega))
    have s0 := (same_new (o := .lst [.bl false]) nl).trans (same_new (o := .lst (List.replicate ((n.many : Int)).toNat [V.bl false]).flatten) np)
    have nHp : H p = none := none_of (same_new nl) np
    have e0 : (upd (upd H l (.lst [.bl false])) p (.lst (List.replicate ((n.many : Int)).toNat [V.bl false]).flatten)) p = some (.lst ((List.replicate n.many false).map V.bl)) := by
      rw [upd_same, rep_flat, Int.toNat_natCast, List.map_replicate]
    generalize (upd (upd H l (.lst [.bl false])) p (.lst (List.replicate ((n.many : Int)).toNat [V.bl false]).flatten)) = H0 at s0 e0 ⊢
    -- the literals' nodes
    refine ⟨_, rfl, r, rfl, ⟨_, SqL.of (s0 _ _ hlit)⟩, for_list (xs := vn lits) (fun i σ Hx => ∃ (y4 : Option V) (ms : List Bool), σ = [some (.ref a), some (.ref r), some (.int (n.base : Nat)), some (.ref p), y4, none, none, none] ∧ Same H Hx ∧ Hx p = some (.lst (ms.map V.bl)) ∧ ms.length = n.many ∧ ∀ x, ms[x]? = some true ↔ ∃ l ∈ lits.take i, l / 2 = x) ⟨none, _, rfl, s0, e0, List.length_replicate, fun x => ?_⟩ (fun i σ Hx _ ⟨_, _, _, s', _⟩ => SqL.of (s' _ _ hlit)) ?_ ?_⟩
    · constructor
      · intro h
        have := List.mem_replicate.mp (List.mem_of_getElem? h)
        exact absurd this.2 (by decide)
      · rintro ⟨l, hl, _⟩
        simp at hl
    · rintro i v σ Hx hv ⟨y4, ms, rfl, sx, hp, lm, mk⟩
      have hi : i < lits.length := by
        have h := (List.getElem?_eq_some_iff.mp hv).1
        rw [vn_len] at h
        exact h
      have hx := List.getElem?_eq_getElem hi
      rw [vn_get hx] at hv
      cases hv
      have hb := bl _ (List.getElem_mem hi)
      have hj : lits[i] / 2 < ms.length := by omega
      refine ⟨_, rfl, _, rfl, _, _, rfl, rfl, (show (0 : Int) ≤ 1 by decide), p, _, _, lits[i] / 2, rfl, rfl, hp, ix_nat (by rw [List.length_map]; exact hj), ?_⟩
      refine ⟨_, ms.set (lits[i] / 2) true, rfl, same_mut sx nHp, by rw [upd_same, set_bl], by rw [List.length_set, lm], fun x => ?_⟩
      rw [mark_iff hj, mk x, take_snoc hx]
      constructor
      · rintro (rfl | ⟨l, hl, rfl⟩)
        · exact ⟨_, List.mem_append_right _ (List.mem_singleton.mpr rfl), rfl⟩
        · exact ⟨l, List.mem_append_left _ hl, rfl⟩
      · rintro ⟨l, hl, rfl⟩
        rcases List.mem_append.mp hl with hl | hl
        · exact .inr ⟨l, hl, rfl⟩
        · exact .inl (by rw [List.mem_singleton.mp hl])
    rintro σ Hx ⟨y4, ms, rfl, sx, hp, lm, mk⟩
    rw [vn_len, List.take_length] at mk
    -- down the gates
    have eG : ((0 : Int) + ((((us.length : Nat) : Int) - 0).toNat : Nat) - 1) = ((us.length : Nat) : Int) - 1 := by omega
    have eN : (((us.length : Nat) : Int) - 0).toNat = us.length := by omega
    refine ⟨_, rfl, a, _, 3, _, rfl, rfl, SqT.of (sx _ _ hA), atI_nat (j := 3) rfl, aG, _, rfl, .inl (SqL.of (sx _ _ hGl)), _, rfl, by omega, by omega, by omega, by have := hm; unfold Net.many at this; omega, ?_⟩
    rw [eG, eN]
    refine for_rangeC (fun i σ Hy => ∃ (y4 y5 : Option V) (ms : List Bool), σ = [some (.ref a), some (.ref r), some (.int (n.base : Nat)), some (.ref p), y4, y5, none, none] ∧ Same H Hy ∧ Hy p = some (.lst (ms.map V.bl)) ∧ ms.length = n.many ∧ (∀ x, ms[x]? = some true → ∃ l ∈ lits, Below n (l / 2) x) ∧ (∀ l ∈ lits, ms[l / 2]? = some true) ∧ ∀ x, ms[x]? = some true → n.many ≤ x + i → ∀ z ∈ kids n x, ms[z]? = some true) ⟨_, none, ms, rfl, sx, hp, lm, fun x hx => ?_, fun l hl => (mk _).mpr ⟨l, hl, rfl⟩, fun x hx hle => ?_⟩ ?_ ?_
    · obtain ⟨l, hl, e⟩ := (mk x).mp hx
      exact ⟨l, hl, e ▸ .refl⟩
    · have := (List.getElem?_eq_some_iff.mp hx).1
      omega
    · rintro i σ Hy hi ⟨y4, y5, ms, rfl, sy, hp, lm, snd, all, clo⟩
      have ek : V.int (((us.length : Nat) : Int) - 1 + (i : Nat) * (-1)) = V.int ((us.length - 1 - i : Nat) : Int) := by rw [show ((us.length : Nat) : Int) - 1 + (i : Nat) * (-1) = ((us.length - 1 - i : Nat) : Int) by omega]
      rw [ek]
      have hmm : n.many = n.base + us.length := by unfold Net.many; omega
      have hxm : n.base + (us.length - 1 - i) < ms.length := by omega
      refine ⟨_, rfl, _, rfl, _, rfl, _, _, rfl, rfl, p, _, _, _, rfl, rfl, SqL.of hp, (by rw [← Int.natCast_add]; exact atI_nat (by rw [List.getElem?_map, List.getElem?_eq_getElem hxm]; rfl)), _, rfl, ?_⟩
      have hx0 : n.base + (us.length - 1 - i) < n.many := by omega
      obtain ⟨x0, ex0⟩ : ∃ x0, x0 = n.base + (us.length - 1 - i) := ⟨_, rfl⟩
      have hm0 : ms[n.base + (us.length - 1 - i)]? = some ms[n.base + (us.length - 1 - i)] := List.getElem?_eq_getElem hxm
      by_cases hb : ms[n.base + (us.length - 1 - i)] = true
      · rw [hb] at hm0 ⊢
        refine iteT ?_
        obtain ⟨g, hg, hkd⟩ := kids_gate (n := n) (x := n.base + (us.length - 1 - i)) (by omega) hx0
        rw [show n.base + (us.length - 1 - i) - n.base = us.length - 1 - i by omega] at hg
        have hgb := fit.2 _ _ hg
        obtain ⟨u, hu, du⟩ := hus.get hg
        obtain ⟨t, u1, u2, rfl, ht, hx1, hx2⟩ := du.pair_inv
        have hx1 := hx1.nat_inv
        have hx2 := hx2.nat_inv
        subst hx1 hx2
        rw [← ex0] at hkd hm0
        refine ⟨_, rfl, a, _, 3, _, rfl, rfl, SqT.of (sy _ _ hA), atI_nat (j := 3) rfl, _, rfl, aG, _, _, _, rfl, rfl, SqL.of (sy _ _ hGl), atI_nat hu, t, rfl, ⟨_, SqT.of (sy _ _ ht)⟩, for_tup (xs := [.int (g.1 : Int), .int (g.2 : Int)]) (fun j σ Hz => ∃ (y4 : Option V) (ms2 : List Bool), σ = [some (.ref a), some (.ref r), some (.int (n.base : Nat)), some (.ref p), y4, some (.int ((us.length - 1 - i : Nat) : Int)), none, none] ∧ Same H Hz ∧ Hz p = some (.lst (ms2.map V.bl)) ∧ ms2.length = n.many ∧ ∀ x, ms2[x]? = some true ↔ ms[x]? = some true ∨ x ∈ (kids n x0).take j) ⟨_, ms, rfl, sy, hp, lm, fun x => by simp⟩ (fun j σ Hz _ ⟨_, _, _, s', _⟩ => SqT.of (s' _ _ ht)) ?_ ?_⟩
        · rintro j v σ Hz hv ⟨y4, ms2, rfl, sz, hpz, lz, mz⟩
          obtain ⟨l, rfl, hl, hlb⟩ : ∃ l : Nat, v = V.int (l : Int) ∧ (kids n x0)[j]? = some (l / 2) ∧ l / 2 < n.many := by
            have hj : j = 0 ∨ j = 1 := by
              have h : j < 2 := (List.getElem?_eq_some_iff.mp hv).1
              omega
            rcases hj with rfl | rfl
            · cases hv
              exact ⟨g.1, rfl, by rw [hkd]; rfl, by omega⟩
            · cases hv
              exact ⟨g.2, rfl, by rw [hkd]; rfl, by omega⟩
          have hj2 : l / 2 < ms2.length := by omega
          refine ⟨_, rfl, _, rfl, _, _, rfl, rfl, (show (0 : Int) ≤ 1 by decide), p, _, _, l / 2, rfl, rfl, hpz, ix_nat (by rw [List.length_map]; exact hj2), ?_⟩
          refine ⟨_, ms2.set (l / 2) true, rfl, same_mut sz nHp, by rw [upd_same, set_bl], by rw [List.length_set, lz], fun x => ?_⟩
          rw [mark_iff hj2, mz x, take_snoc hl, List.mem_append, List.mem_singleton]
          constructor
          · rintro (h | h | h)
            · exact .inr (.inr h)
            · exact .inl h
            · exact .inr (.inl h)
          · rintro (h | h | h)
            · exact .inr (.inl h)
            · exact .inr (.inr h)
            · exact .inl h
        · rintro σ Hz ⟨y4, ms2, rfl, sz, hpz, lz, mz⟩
          have mz : ∀ x, ms2[x]? = some true ↔ ms[x]? = some true ∨ x ∈ kids n x0 := fun x => by
            rw [mz x, List.take_of_length_le (by rw [hkd]; exact Nat.le_refl 2)]
          refine ⟨_, _, ms2, rfl, sz, hpz, lz, fun x hx => ?_, fun l hl => (mz _).mpr (.inl (all l hl)), fun x hx hle z hz => ?_⟩
          · rcases (mz x).mp hx with h | h
            · exact snd x h
            · obtain ⟨l, hl, b⟩ := snd x0 hm0
              exact ⟨l, hl, .kid b h⟩
          · refine (mz z).mpr ?_
            rcases (mz x).mp hx with h | h
            · by_cases e : x = x0
              · subst e
                exact .inr hz
              · exact .inl (clo x h (by omega) z hz)
            · have := kids_lt fit h
              omega
      · rw [show ms[n.base + (us.length - 1 - i)] = false by simpa using hb]
        refine iteF ⟨_, _, ms, rfl, sy, hp, lm, snd, all, fun x hx hle z hz => clo x hx ?_ z hz⟩
        have e : x ≠ n.base + (us.length - 1 - i) := fun e => by
          rw [e, hm0] at hx
          exact hb (Option.some.inj hx)
        omega
    rintro σ Hy ⟨y4, y5, ms, rfl, sy, hp, lm, snd, all, clo⟩
    have hmm : n.many = n.base + us.length := by unfold Net.many; omega
    have closed : ∀ x z, Below n x z → ms[x]? = some true → ms[z]? = some true := by
      intro x z b hx
      induction b with
      | refl => exact hx
      | @kid y z b hz ih =>
        by_cases hy : y < n.base
        · rw [kids_base hy] at hz
          cases hz
        · exact clo y ih (by omega) z hz
    refine ⟨_, rfl, p, _, rfl, SqL.of hp, fun D nD => lc_it walk_enum (fun i Hz => Same Hy Hz ∧ Hz D = some (.lst (vn ((List.range i).filter fun x => decide (ms[x]? = some true))))) ⟨same_new nD, upd_same⟩ (fun i Hz _ h => SqL.of (h.1 _ _ hp)) ?_ ?_⟩
    · rintro i v Hz Hz' hi ⟨sz, hpz⟩ ⟨T1, x, y, rfl, nT, rfl, ex, ey⟩
      cases ex
      rw [List.length_map] at hi
      have hx := List.getElem?_eq_getElem hi
      have ey : (ms.map V.bl)[i]? = some y := ey
      rw [List.getElem?_map, hx] at ey
      cases ey
      have sT := same_new (o := .tup [.int (i : Nat), .bl ms[i]]) nT
      refine ⟨T1, _, rfl, SqT.of upd_same, rfl, _, _, rfl, _, _, rfl, rfl, rfl, _, rfl, _, rfl, ?_⟩
      have hpT := sT _ _ hpz
      by_cases hb : ms[i] = true
      · rw [hb]
        refine iteT ⟨_, rfl, _, by rw [← hb]; exact hpT, ?_, by rw [← hb]; exact same_mut (sz.trans sT) nD, ?_⟩
        · rw [vn_len]
          exact small64k (Nat.le_trans (List.length_filter_le _ _) (by rw [List.length_range]; omega))
        · rw [upd_same, vn_snoc, List.range_succ, List.filter_append]
          rw [show [i].filter (fun x => decide (ms[x]? = some true)) = [i] by simp [hx, hb]]
      · rw [show ms[i] = false by simpa using hb]
        refine iteF ⟨by rw [← show ms[i] = false by simpa using hb]; exact sz.trans sT, ?_⟩
        rw [List.range_succ, List.filter_append, show [i].filter (fun x => decide (ms[x]? = some true)) = [] by simp [hx, hb], List.append_nil]
        rw [← show ms[i] = false by simpa using hb]
        exact hpT
    rintro Hz ⟨sz, hpz⟩
    rw [List.length_map] at hpz
    refine q Hz D _ (sy.trans sz) (none_of sy nD) hpz ?_ fun y => ?_
    · exact List.Pairwise.filter _ List.pairwise_lt_range
    · rw [List.mem_filter, List.mem_range, decide_eq_true_eq]
      constructor
      · rintro ⟨_, h⟩
        exact snd y h
      · rintro ⟨l, hl, b⟩
        have h := closed _ _ b (all l hl)
        exact ⟨(List.getElem?_eq_some_iff.mp h).1, h⟩
end K38
namespace K38
open PySem PySem.Spec PyProof.Rows L2 V0
/-! ### gates made once: the numbers -/
def pos (p : Nat × Nat) : List (Nat × Nat) → Option Nat
  | [] => none
  | g :: gs => if g = p then some 0 else (pos p gs).map (· + 1)
theorem pos_some {p : Nat × Nat} : ∀ {gs : List (Nat × Nat)} {j : Nat}, pos p gs = some j → gs[j]? = some p
  | [], _, h => by cases h
  | g :: gs, j, h => by
    unfold pos at h
    by_cases c : g = p
    · rw [if_pos c] at h
      cases h
      rw [c]
      rfl
    · rw [if_neg c] at h
      obtain ⟨i, hi, rfl⟩ := Option.map_eq_some_iff.mp h
      show gs[i]? = some p
      exact pos_some hi
theorem pos_none {p : Nat × Nat} : ∀ {gs : List (Nat × Nat)}, pos p gs = none ↔ p ∉ gs
  | [] => ⟨fun _ h => (by cases h), fun _ => rfl⟩
  | g :: gs => by
    unfold pos
    by_cases c : g = p
    · rw [if_pos c]
      exact ⟨fun h => (by cases h), fun h => absurd (by rw [c]; exact List.mem_cons_self) h⟩
    · rw [if_neg c, Option.map_eq_none_iff, pos_none]
      exact ⟨fun h m => (List.mem_cons.mp m).elim (fun e => c e.symm) h, fun h m => h (List.mem_cons_of_mem _ m)⟩
theorem pos_at {p : Nat × Nat} {gs : List (Nat × Nat)} (nd : gs.Nodup) {j : Nat} (h : gs[j]? = some p) : pos p gs = some j := by
  cases e : pos p gs with
  | none => exact absurd (List.mem_of_getElem? h) (pos_none.mp e)
  | some i =>
    have hi := pos_some e
    have a := List.getElem?_eq_some_iff.mp h
    have b := List.getElem?_eq_some_iff.mp hi
    exact congrArg some ((List.getElem_inj nd).mp (b.2.trans a.2.symm))
/-- both of two literals, lo at most hi: the literal, the gates then -/
def mkb (first : Nat) (gs : List (Nat × Nat)) (lo hi : Nat) : Nat × List (Nat × Nat) :=
  if lo = 0 ∨ lo = hi ^^^ 1 then (0, gs) else if lo = 1 ∨ lo = hi then (hi, gs) else match pos (lo, hi) gs with
    | some j => (2 * (first + j), gs)
    | none => (2 * (first + gs.length), gs ++ [(lo, hi)])
theorem both_mkb {b b' : BSt} {lo hi r : Nat} (nd : b.gates.Nodup) (h : Both b lo hi r b') : b' = ⟨b.ins, b.starts, (mkb b.first b.gates lo hi).2⟩ ∧ r = (mkb b.first b.gates lo hi).1 := by
  unfold mkb
  cases h with
  | old st =>
    generalize hv : V.int (r : Int) = v at st
    cases st with
    | zero c =>
      have := V.int.inj hv
      rw [if_pos c]
      exact ⟨rfl, by show r = 0; omega⟩
    | high c1 c2 =>
      have := V.int.inj hv
      rw [if_neg c1, if_pos c2]
      exact ⟨rfl, by show r = hi; omega⟩
    | gate c1 c2 hj =>
      have := V.int.inj hv
      rw [if_neg c1, if_neg c2, pos_at nd hj]
      exact ⟨rfl, by show r = 2 * (b.first + _); omega⟩
    | none c1 c2 c3 => cases hv
  | new c1 c2 c3 =>
    rw [if_neg c1, if_neg c2, pos_none.mpr c3]
    exact ⟨rfl, rfl⟩
/-- gates as the maker leaves them -/
structure Made (first : Nat) (gs : List (Nat × Nat)) : Prop where
  nd : gs.Nodup
  g : ∀ j p, gs[j]? = some p → p.2 < 2 * (first + j) ∧ p.1 < p.2 ∧ 2 ≤ p.1 ∧ p.1 ≠ p.2 ^^^ 1
theorem bitv_app {r s : List Nat} {l : Nat} (h : l / 2 < r.length) : bitv (r ++ s) l = bitv r l := by
  unfold bitv
  rw [List.getElem?_append_left h]
theorem rowOf_pre (gs ts : List (Nat × Nat)) (r : List Nat) : ∃ s, rowOf (gs ++ ts) r = rowOf gs r ++ s := by
  induction ts generalizing gs with
  | nil => exact ⟨[], by rw [List.append_nil, List.append_nil]⟩
  | cons t ts ih =>
    obtain ⟨s, e⟩ := ih (gs ++ [t])
    rw [List.append_assoc] at e
    exact ⟨[bitv (rowOf gs r) t.1 * bitv (rowOf gs r) t.2] ++ s, by rw [show gs ++ t :: ts = gs ++ ([t] ++ ts) from rfl, e, rowOf_snoc, List.append_assoc]⟩
theorem bitv_pre {gs ts : List (Nat × Nat)} {r : List Nat} {l : Nat} (h : l < 2 * (r.length + gs.length)) : bitv (rowOf (gs ++ ts) r) l = bitv (rowOf gs r) l := by
  obtain ⟨s, e⟩ := rowOf_pre gs ts r
  rw [e]
  exact bitv_app (by rw [rowOf_len]; omega)
theorem rowOf_gate {gs : List (Nat × Nat)} {r : List Nat} {j : Nat} {p : Nat × Nat} (h : gs[j]? = some p) (h1 : p.1 < 2 * (r.length + j)) (h2 : p.2 < 2 * (r.length + j)) :
    (rowOf gs r)[r.length + j]? = some (bitv (rowOf gs r) p.1 * bitv (rowOf gs r) p.2) := by
  have hj := (List.getElem?_eq_some_iff.mp h).1
  have e : gs = gs.take j ++ (p :: gs.drop (j + 1)) := by
    rw [← (List.getElem?_eq_some_iff.mp h).2, ← List.drop_eq_getElem_cons hj, List.take_append_drop]
  have lt : (gs.take j).length = j := by rw [List.length_take]; omega
  have b1 : bitv (rowOf gs r) p.1 = bitv (rowOf (gs.take j) r) p.1 := by
    rw [e]
    rw [bitv_pre (by rw [lt]; exact h1)]
    rw [← e]
  have b2 : bitv (rowOf gs r) p.2 = bitv (rowOf (gs.take j) r) p.2 := by
    rw [e]
    rw [bitv_pre (by rw [lt]; exact h2)]
    rw [← e]
  obtain ⟨s, es⟩ := rowOf_pre (gs.take j ++ [p]) (gs.drop (j + 1)) r
  rw [List.append_assoc, show [p] ++ gs.drop (j + 1) = p :: gs.drop (j + 1) from rfl, ← e, rowOf_snoc] at es
  rw [b1, b2]
  rw [es, List.append_assoc, List.getElem?_append_right (by rw [rowOf_len, lt]; omega), rowOf_len, lt, Nat.sub_self]
  rfl
theorem xor_self_mul {a : Nat} (h : a < 2) : a * (a ^^^ 1) = 0 := by
  have : a = 0 ∨ a = 1 := by omega
  rcases this with rfl | rfl <;> decide
theorem bitv_flip (r : List Nat) (l : Nat) : bitv r (l ^^^ 1) = bitv r l ^^^ 1 := by
  unfold bitv
  have e1 : (l ^^^ 1) / 2 = l / 2 := by
    rw [show (2 : Nat) = 2 ^ 1 from rfl, ← Nat.shiftRight_eq_div_pow, ← Nat.shiftRight_eq_div_pow, Nat.shiftRight_xor_distrib, show 1 >>> 1 = 0 from rfl, Nat.xor_zero]
  have e2 : (l ^^^ 1) % 2 = (l % 2) ^^^ 1 := by
    rw [show (2 : Nat) = 2 ^ 1 from rfl, Nat.xor_mod_two_pow]
  rw [e1, e2, Nat.xor_assoc]
section
variable {first lo hi : Nat} {gs : List (Nat × Nat)}
theorem mkb_made (m : Made first gs) (h : lo ≤ hi) (b : hi < 2 * (first + gs.length)) : Made first (mkb first gs lo hi).2 := by
  unfold mkb
  by_cases c1 : lo = 0 ∨ lo = hi ^^^ 1
  · rw [if_pos c1]
    exact m
  · rw [if_neg c1]
    by_cases c2 : lo = 1 ∨ lo = hi
    · rw [if_pos c2]
      exact m
    · rw [if_neg c2]
      cases e : pos (lo, hi) gs with
      | some j => exact m
      | none =>
        refine ⟨List.nodup_append.mpr ⟨m.nd, List.nodup_cons.mpr ⟨by simp, List.nodup_nil⟩, fun x hx y hy => ?_⟩, fun j p hp => ?_⟩
        · rw [List.mem_singleton.mp hy]
          exact fun z => pos_none.mp e (z ▸ hx)
        · rcases get_snoc hp with ⟨_, hp⟩ | ⟨rfl, rfl⟩
          · exact m.g j p hp
          · refine ⟨b, ?_, ?_, fun z => c1 (.inr z)⟩
            · show lo < hi
              have : lo ≠ hi := fun z => c2 (.inr z)
              omega
            · show 2 ≤ lo
              have : lo ≠ 0 := fun z => c1 (.inl z)
              have : lo ≠ 1 := fun z => c2 (.inl z)
              omega
theorem mkb_pre : ∃ ts, (mkb first gs lo hi).2 = gs ++ ts := by
  unfold mkb
  split
  · exact ⟨[], (List.append_nil _).symm⟩
  · split
    · exact ⟨[], (List.append_nil _).symm⟩
    · split
      · exact ⟨[], (List.append_nil _).symm⟩
      · exact ⟨_, rfl⟩
theorem mkb_lt (h : lo ≤ hi) (f : 0 < first) (b : hi < 2 * (first + gs.length)) : (mkb first gs lo hi).1 < 2 * (first + (mkb first gs lo hi).2.length) := by
  unfold mkb
  split
  · show 0 < 2 * (first + gs.length)
    omega
  · split
    · exact b
    · split
      · rename_i j e
        have := (List.getElem?_eq_some_iff.mp (pos_some e)).1
        show 2 * (first + j) < 2 * (first + gs.length)
        omega
      · show 2 * (first + gs.length) < 2 * (first + (gs ++ [(lo, hi)]).length)
        rw [List.length_append]
        show _ < 2 * (first + (gs.length + 1))
        omega
/-- what the literal made stands for -/
theorem mkb_val (m : Made first gs) (h : lo ≤ hi) (b : hi < 2 * (first + gs.length)) {r : List Nat} (rl : r.length = first) (r0 : r[0]? = some 0) (rb : ∀ x ∈ r, x < 2) :
    bitv (rowOf (mkb first gs lo hi).2 r) (mkb first gs lo hi).1 = bitv (rowOf gs r) lo * bitv (rowOf gs r) hi := by
  have rb2 := rowOf_lt (gs := gs) rb
  have z0 : bitv (rowOf gs r) 0 = 0 := by
    obtain ⟨s, e⟩ := rowOf_pre [] gs r
    have e : rowOf gs r = r ++ s := e
    rw [e, bitv_app (by have := (List.getElem?_eq_some_iff.mp r0).1; omega)]
    unfold bitv
    rw [show 0 / 2 = 0 from rfl, r0]
    rfl
  have z1 : bitv (rowOf gs r) 1 = 1 := by
    have := bitv_flip (rowOf gs r) 0
    rw [z0] at this
    exact this
  have lt := bitv_lt rb2
  unfold mkb
  by_cases c1 : lo = 0 ∨ lo = hi ^^^ 1
  · rw [if_pos c1]
    show bitv (rowOf gs r) 0 = _
    rcases c1 with rfl | rfl
    · rw [z0, Nat.zero_mul]
    · rw [z0, bitv_flip, Nat.mul_comm]
      exact (xor_self_mul (lt hi)).symm
  · rw [if_neg c1]
    by_cases c2 : lo = 1 ∨ lo = hi
    · rw [if_pos c2]
      show bitv (rowOf gs r) hi = _
      rcases c2 with rfl | rfl
      · rw [z1, Nat.one_mul]
      · have := lt lo
        have : bitv (rowOf gs r) lo = 0 ∨ bitv (rowOf gs r) lo = 1 := by omega
        rcases this with e | e <;> rw [e]
    · rw [if_neg c2]
      have even : ∀ (row : List Nat) (k : Nat), bitv row (2 * k) = row[k]?.getD 0 := fun row k => by
        unfold bitv
        rw [Nat.mul_div_cancel_left _ (by decide), Nat.mul_mod_right, Nat.xor_zero]
      cases e : pos (lo, hi) gs with
      | some j =>
        have hj := pos_some e
        have mg := m.g j _ hj
        show bitv (rowOf gs r) (2 * (first + j)) = _
        rw [even, ← rl, rowOf_gate hj (by rw [rl]; omega) (by rw [rl]; exact mg.1)]
        rfl
      | none =>
        show bitv (rowOf (gs ++ [(lo, hi)]) r) (2 * (first + gs.length)) = _
        rw [even, rowOf_snoc, ← rl, ← rowOf_len, List.getElem?_append_right (Nat.le_refl _), Nat.sub_self]
        rfl
end

end K38
namespace K38
open PySem PySem.Spec PyProof.Rows L2 V0
/-! ### a net made anew: all its gates once -/
def tstep (first : Nat) (s : List Nat × List (Nat × Nat)) (g : Nat × Nat) : List Nat × List (Nat × Nat) :=
  (s.1 ++ [(mkb first s.2 (min (bitv s.1 g.1) (bitv s.1 g.2)) (max (bitv s.1 g.1) (bitv s.1 g.2))).1], (mkb first s.2 (min (bitv s.1 g.1) (bitv s.1 g.2)) (max (bitv s.1 g.1) (bitv s.1 g.2))).2)
def tfold (first : Nat) (gs : List (Nat × Nat)) : List Nat × List (Nat × Nat) := gs.foldl (tstep first) ((List.range first).map (fun k => 2 * k), [])
theorem tfold_snoc (first : Nat) (gs : List (Nat × Nat)) (g : Nat × Nat) : tfold first (gs ++ [g]) = tstep first (tfold first gs) g := by
  unfold tfold
  rw [List.foldl_append]
  rfl
theorem bitv_xor (r : List Nat) (l : Nat) {b : Nat} (h : b < 2) : bitv r (l ^^^ b) = bitv r l ^^^ b := by
  have : b = 0 ∨ b = 1 := by omega
  rcases this with rfl | rfl
  · rw [Nat.xor_zero, Nat.xor_zero]
  · exact bitv_flip r l
theorem xor_half (a b : Nat) (h : b < 2) : (a ^^^ b) / 2 = a / 2 := by
  rw [show (2 : Nat) = 2 ^ 1 from rfl, ← Nat.shiftRight_eq_div_pow, ← Nat.shiftRight_eq_div_pow, Nat.shiftRight_xor_distrib]
  have : b >>> 1 = 0 := by
    rw [Nat.shiftRight_eq_div_pow]
    omega
  rw [this, Nat.xor_zero]
/-- a row that a net may start from -/
structure Row0 (first : Nat) (r : List Nat) : Prop where
  len : r.length = first
  z : r[0]? = some 0
  b : ∀ x ∈ r, x < 2
structure TFI (first : Nat) (gs : List (Nat × Nat)) (st : List Nat) (ms : List (Nat × Nat)) : Prop where
  len : st.length = first + gs.length
  made : Made first ms
  few : ms.length ≤ gs.length
  lt : ∀ x ∈ st, x < 2 * (first + ms.length)
  val : ∀ (r : List Nat), Row0 first r → ∀ (i x : Nat), st[i]? = some x → (rowOf gs r)[i]? = some (bitv (rowOf ms r) x)
theorem TFI.lit {first : Nat} {gs ms : List (Nat × Nat)} {st : List Nat} (t : TFI first gs st ms) {l : Nat} (h : l < 2 * (first + gs.length)) : bitv st l < 2 * (first + ms.length) ∧ ∀ r, Row0 first r → bitv (rowOf gs r) l = bitv (rowOf ms r) (bitv st l) := by
  have hl : l / 2 < st.length := by rw [t.len]; omega
  have e : st[l / 2]? = some st[l / 2] := List.getElem?_eq_getElem hl
  have b2 : l % 2 < 2 := Nat.mod_lt _ (by decide)
  have eb : bitv st l = st[l / 2] ^^^ (l % 2) := by
    unfold bitv
    rw [e]
    rfl
  refine ⟨?_, fun r hr => ?_⟩
  · have := t.lt _ (List.getElem_mem hl)
    have x2 := xor_half st[l / 2] (l % 2) b2
    rw [eb]
    omega
  · have v := t.val r hr _ _ e
    rw [eb, bitv_xor _ _ b2]
    show ((rowOf gs r)[l / 2]?.getD 0) ^^^ (l % 2) = _
    rw [v]
    rfl
theorem ti_fold (first : Nat) (hf : 0 < first) : ∀ (gs : List (Nat × Nat)), (∀ j g, gs[j]? = some g → g.1 < 2 * (first + j) ∧ g.2 < 2 * (first + j)) → TFI first gs (tfold first gs).1 (tfold first gs).2 := by
  intro gs
  induction hn : gs.length generalizing gs with
  | zero =>
    intro _
    have : gs = [] := List.length_eq_zero_iff.mp hn
    subst this
    refine ⟨?_, ⟨List.nodup_nil, fun j p h => (by cases h)⟩, Nat.le_refl _, fun x hx => ?_, fun r hr i x hx => ?_⟩
    · show ((List.range first).map _).length = _
      rw [List.length_map, List.length_range]
      rfl
    · obtain ⟨k, hk, rfl⟩ := List.mem_map.mp hx
      have := List.mem_range.mp hk
      show 2 * k < 2 * (first + 0)
      omega
    · have hx : ((List.range first).map fun k => 2 * k)[i]? = some x := hx
      rw [List.getElem?_map] at hx
      obtain ⟨k, hk, rfl⟩ := Option.map_eq_some_iff.mp hx
      have hi := List.getElem?_eq_some_iff.mp hk
      have hi2 : i < first := by have := hi.1; rw [List.length_range] at this; exact this
      have : k = i := by
        have := hi.2
        rw [List.getElem_range] at this
        exact this.symm
      subst this
      show r[k]? = some (bitv r (2 * k))
      unfold bitv
      rw [Nat.mul_div_cancel_left _ (by decide), Nat.mul_mod_right, Nat.xor_zero, List.getElem?_eq_getElem (by rw [hr.len]; exact hi2)]
      rfl
  | succ m ih =>
    intro hg
    obtain ⟨g0, g, rfl⟩ : ∃ g0 g, gs = g0 ++ [g] := by
      rcases List.eq_nil_or_concat gs with rfl | ⟨a, b, rfl⟩
      · cases hn
      · exact ⟨a, b, List.concat_eq_append⟩
    have l0 : g0.length = m := by
      rw [List.length_append] at hn
      have : g0.length + 1 = m + 1 := hn
      omega
    have t := ih g0 l0 fun j p h => hg j p (by rw [List.getElem?_append_left (List.getElem?_eq_some_iff.mp h).1]; exact h)
    have gb := hg g0.length g (by rw [List.getElem?_append_right (Nat.le_refl _), Nat.sub_self]; rfl)
    rw [tfold_snoc]
    generalize tfold first g0 = s at t
    obtain ⟨st, ms⟩ := s
    have t : TFI first g0 st ms := t
    obtain ⟨a1, a2⟩ := t.lit gb.1
    obtain ⟨b1, b2⟩ := t.lit gb.2
    have le : min (bitv st g.1) (bitv st g.2) ≤ max (bitv st g.1) (bitv st g.2) := by omega
    have hb : max (bitv st g.1) (bitv st g.2) < 2 * (first + ms.length) := by omega
    obtain ⟨ts, ets⟩ := mkb_pre (first := first) (gs := ms) (lo := min (bitv st g.1) (bitv st g.2)) (hi := max (bitv st g.1) (bitv st g.2))
    have made := mkb_made t.made le hb
    have lt2 := mkb_lt le hf hb
    have few : (mkb first ms (min (bitv st g.1) (bitv st g.2)) (max (bitv st g.1) (bitv st g.2))).2.length ≤ ms.length + 1 := by
      unfold mkb
      split
      · exact Nat.le_succ _
      · split
        · exact Nat.le_succ _
        · split
          · exact Nat.le_succ _
          · rw [List.length_append]
            exact Nat.le_refl _
    refine ⟨?_, made, ?_, fun x hx => ?_, fun r hr i x hx => ?_⟩
    · show (st ++ [_]).length = _
      rw [List.length_append, List.length_append, t.len]
      rfl
    · rw [List.length_append]
      exact Nat.le_trans few (Nat.succ_le_succ t.few)
    · rcases List.mem_append.mp hx with hx | hx
      · have := t.lt x hx
        show x < 2 * (first + (mkb first ms _ _).2.length)
        rw [ets, List.length_append]
        omega
      · rw [List.mem_singleton.mp hx]
        exact lt2
    · rw [rowOf_snoc]
      rcases get_snoc hx with ⟨hi, hx⟩ | ⟨rfl, rfl⟩
      · have v := t.val r hr i x hx
        rw [List.getElem?_append_left (List.getElem?_eq_some_iff.mp v).1, v]
        show some (bitv (rowOf ms r) x) = some (bitv (rowOf (mkb first ms _ _).2 r) x)
        rw [ets, bitv_pre (by rw [hr.len]; exact t.lt x (List.mem_of_getElem? hx))]
      · show (rowOf g0 r ++ _)[st.length]? = some (bitv (rowOf (mkb first ms _ _).2 r) (mkb first ms _ _).1)
        rw [mkb_val t.made le hb hr.len hr.z hr.b, List.getElem?_append_right (by rw [rowOf_len, hr.len, t.len]; exact Nat.le_refl _), rowOf_len, hr.len, t.len, Nat.sub_self]
        show some (bitv (rowOf g0 r) g.1 * bitv (rowOf g0 r) g.2) = _
        rw [a2 r hr, b2 r hr]
        congr 1
        rcases Nat.le_total (bitv st g.1) (bitv st g.2) with c | c
        · rw [Nat.min_eq_left c, Nat.max_eq_right c]
        · rw [Nat.min_eq_right c, Nat.max_eq_left c, Nat.mul_comm]
/-- the net with every gate once -/
def plain (n : Net) : Net := ⟨n.ins, n.starts, (tfold n.base n.gates).2, n.nexts.map (bitv (tfold n.base n.gates).1), n.outs.map (bitv (tfold n.base n.gates).1)⟩

end K38
namespace K38
open PySem PySem.Spec PyProof.Rows L2 V0
/-! ### a net without what nothing asks for -/
inductive Reach (n : Net) : Nat → Prop
  | out {l : Nat} : l ∈ n.outs → Reach n (l / 2)
  | next {k l : Nat} : Reach n (1 + n.ins + k) → k < n.starts.length → n.nexts[k]? = some l → Reach n (l / 2)
  | kid1 {j : Nat} {g : Nat × Nat} : Reach n (n.base + j) → n.gates[j]? = some g → Reach n (g.1 / 2)
  | kid2 {j : Nat} {g : Nat × Nat} : Reach n (n.base + j) → n.gates[j]? = some g → Reach n (g.2 / 2)
theorem reach_lt {n : Net} (kd : Kind n) {x : Nat} (h : Reach n x) : x < n.many := by
  cases h with
  | out m => have := kd.ox _ m; omega
  | next r hk e => have := kd.nx _ (List.mem_of_getElem? e); omega
  | @kid1 j g r e =>
    have := kd.g j g e
    have := (List.getElem?_eq_some_iff.mp e).1
    unfold Net.many
    omega
  | @kid2 j g r e =>
    have := kd.g j g e
    have := (List.getElem?_eq_some_iff.mp e).1
    unfold Net.many
    omega
/-- the place of x among nd, which is sorted -/
def below (nd : List Nat) (x : Nat) : Nat := (nd.filter (· < x)).length
def num (ins : Nat) (nd : List Nat) (x : Nat) : Nat := if x ≤ ins then x else 1 + ins + below nd x
def ren (ins : Nat) (nd : List Nat) (l : Nat) : Nat := 2 * num ins nd (l / 2) + l % 2
theorem below_get : ∀ {nd : List Nat}, nd.Pairwise (· < ·) → ∀ {i x : Nat}, nd[i]? = some x → below nd x = i
  | [], _, i, x, h => by simp at h
  | y :: nd, p, i, x, h => by
    obtain ⟨p1, p2⟩ := List.pairwise_cons.mp p
    unfold below
    cases i with
    | zero =>
      cases h
      rw [List.filter_cons, if_neg (by rw [decide_eq_true_eq]; exact Nat.lt_irrefl _)]
      rw [List.filter_eq_nil_iff.mpr fun z hz => by
        rw [decide_eq_true_eq]
        have := p1 z hz
        omega]
      rfl
    | succ i =>
      have h : nd[i]? = some x := h
      have lt := p1 x (List.mem_of_getElem? h)
      rw [List.filter_cons, if_pos (decide_eq_true lt), List.length_cons]
      have := below_get p2 h
      unfold below at this
      rw [this]
theorem below_mono {nd : List Nat} (p : nd.Pairwise (· < ·)) {x y : Nat} (hx : x ∈ nd) (hy : y ∈ nd) (h : x < y) : below nd x < below nd y := by
  obtain ⟨i, hi, rfl⟩ := List.mem_iff_getElem.mp hx
  obtain ⟨j, hj, rfl⟩ := List.mem_iff_getElem.mp hy
  rw [below_get p (List.getElem?_eq_getElem hi), below_get p (List.getElem?_eq_getElem hj)]
  have ij : ¬ j ≤ i := fun c => by
    rcases Nat.lt_or_eq_of_le c with c | rfl
    · have := List.pairwise_iff_getElem.mp p j i hj hi c
      omega
    · omega
  omega
theorem num_mono {ins : Nat} {nd : List Nat} (p : nd.Pairwise (· < ·)) {x y : Nat} (hx : x ≤ ins ∨ x ∈ nd) (hy : y ≤ ins ∨ y ∈ nd) (h : x < y) : num ins nd x < num ins nd y := by
  unfold num
  by_cases cy : y ≤ ins
  · rw [if_pos cy, if_pos (by omega)]
    exact h
  · rw [if_neg cy]
    by_cases cx : x ≤ ins
    · rw [if_pos cx]
      omega
    · rw [if_neg cx]
      have := below_mono p (hx.resolve_left cx) (hy.resolve_left cy) h
      omega
theorem num_inj {ins : Nat} {nd : List Nat} (p : nd.Pairwise (· < ·)) {x y : Nat} (hx : x ≤ ins ∨ x ∈ nd) (hy : y ≤ ins ∨ y ∈ nd) (h : num ins nd x = num ins nd y) : x = y := by
  rcases Nat.lt_trichotomy x y with c | c | c
  · have := num_mono p hx hy c
    omega
  · exact c
  · have := num_mono p hy hx c
    omega
theorem num_get {ins : Nat} {nd : List Nat} (p : nd.Pairwise (· < ·)) {i x : Nat} (h : nd[i]? = some x) (hx : ins < x) : num ins nd x = 1 + ins + i := by
  unfold num
  rw [if_neg (by omega), below_get p h]
theorem ren_half (ins : Nat) (nd : List Nat) (l : Nat) : ren ins nd l / 2 = num ins nd (l / 2) := by
  unfold ren
  omega
theorem ren_bit (ins : Nat) (nd : List Nat) (l : Nat) : ren ins nd l % 2 = l % 2 := by
  unfold ren
  omega
theorem ren_inj {ins : Nat} {nd : List Nat} (p : nd.Pairwise (· < ·)) {a b : Nat} (ha : a / 2 ≤ ins ∨ a / 2 ∈ nd) (hb : b / 2 ≤ ins ∨ b / 2 ∈ nd) (h : ren ins nd a = ren ins nd b) : a = b := by
  have e1 := ren_half ins nd a
  have e2 := ren_half ins nd b
  have e3 := ren_bit ins nd a
  have e4 := ren_bit ins nd b
  rw [h] at e1 e3
  have := num_inj p ha hb (e1.symm.trans e2)
  omega
/-- what is asked for of a net, in order, inputs left out -/
structure Asked (n : Net) (nd : List Nat) : Prop where
  so : nd.Pairwise (· < ·)
  iff : ∀ x, x ∈ nd ↔ n.ins < x ∧ Reach n x
def fls (n : Net) (nd : List Nat) : List Nat := (nd.filter (· < n.base)).map (· - 1 - n.ins)
def kepts (n : Net) (nd : List Nat) : List Nat := nd.filter (n.base ≤ ·)
def pruned (n : Net) (nd : List Nat) : Net :=
  ⟨n.ins, (fls n nd).map fun k => n.starts[k]?.getD 0, (kepts n nd).map fun x => (ren n.ins nd ((n.gates[x - n.base]?.getD (0, 0)).1), ren n.ins nd ((n.gates[x - n.base]?.getD (0, 0)).2)),
    (fls n nd).map fun k => ren n.ins nd (n.nexts[k]?.getD 0), n.outs.map (ren n.ins nd)⟩
/-- a sorted list is its low part, then its high part -/
theorem split_at {nd : List Nat} (p : nd.Pairwise (· < ·)) (b : Nat) : nd = nd.filter (· < b) ++ nd.filter (b ≤ ·) := by
  induction nd with
  | nil => rfl
  | cons y nd ih =>
    obtain ⟨p1, p2⟩ := List.pairwise_cons.mp p
    by_cases c : y < b
    · rw [List.filter_cons, if_pos (decide_eq_true c), List.filter_cons, if_neg (by rw [decide_eq_true_eq]; omega), List.cons_append, ← ih p2]
    · have e : nd.filter (· < b) = [] := List.filter_eq_nil_iff.mpr fun z hz => by
        rw [decide_eq_true_eq]
        have := p1 z hz
        omega
      have e2 := ih p2
      rw [e, List.nil_append] at e2
      rw [List.filter_cons, if_neg (by rw [decide_eq_true_eq]; exact c), e, List.nil_append, List.filter_cons, if_pos (decide_eq_true (by omega)), ← e2]
section
variable {n : Net} {nd : List Nat}
theorem Asked.lit (a : Asked n nd) {x : Nat} (h : Reach n x) : x ≤ n.ins ∨ x ∈ nd := by
  by_cases c : x ≤ n.ins
  · exact .inl c
  · exact .inr ((a.iff x).mpr ⟨by omega, h⟩)
theorem kept_get (a : Asked n nd) {j x : Nat} (h : (kepts n nd)[j]? = some x) : nd[(fls n nd).length + j]? = some x ∧ n.base ≤ x := by
  have m := List.mem_filter.mp (List.mem_of_getElem? h)
  refine ⟨?_, of_decide_eq_true m.2⟩
  have e := split_at a.so n.base
  have e3 : (fls n nd).length = (nd.filter (· < n.base)).length := List.length_map _
  rw [e3]
  refine (congrArg (fun l : List Nat => l[(nd.filter (· < n.base)).length + j]?) e).trans ?_
  show (nd.filter (· < n.base) ++ nd.filter (n.base ≤ ·))[(nd.filter (· < n.base)).length + j]? = some x
  rw [List.getElem?_append_right (Nat.le_add_right _ _), Nat.add_sub_cancel_left]
  exact h
theorem fl_get (a : Asked n nd) {i k : Nat} (h : (fls n nd)[i]? = some k) : nd[i]? = some (1 + n.ins + k) ∧ k < n.starts.length := by
  unfold fls at h
  rw [List.getElem?_map] at h
  obtain ⟨x, hx, rfl⟩ := Option.map_eq_some_iff.mp h
  have m := List.mem_filter.mp (List.mem_of_getElem? hx)
  have xb : x < n.base := of_decide_eq_true m.2
  have xi := ((a.iff x).mp m.1).1
  have e := split_at a.so n.base
  have hx2 : nd[i]? = some x := by
    refine (congrArg (fun l : List Nat => l[i]?) e).trans ?_
    show (nd.filter (· < n.base) ++ nd.filter (n.base ≤ ·))[i]? = some x
    rw [List.getElem?_append_left (List.getElem?_eq_some_iff.mp hx).1]
    exact hx
  unfold Net.base at xb
  exact ⟨by rw [hx2, show 1 + n.ins + (x - 1 - n.ins) = x by omega], by omega⟩
theorem pruned_base : (pruned n nd).base = 1 + n.ins + (fls n nd).length := by
  show 1 + n.ins + ((fls n nd).map _).length = _
  rw [List.length_map]
end

end K38
namespace K38
open PySem PySem.Spec PyProof.Rows L2 V0
/-! ### pruned nets answer alike -/
section
variable {n : Net} {nd : List Nat}
theorem fl_of (a : Asked n nd) {x : Nat} (h : x ∈ nd) (b : x < n.base) : ∃ i, (fls n nd)[i]? = some (x - 1 - n.ins) ∧ num n.ins nd x = 1 + n.ins + i := by
  have m : x ∈ nd.filter (· < n.base) := List.mem_filter.mpr ⟨h, decide_eq_true b⟩
  obtain ⟨i, hi, e⟩ := List.mem_iff_getElem.mp m
  have hx : (nd.filter (· < n.base))[i]? = some x := by rw [List.getElem?_eq_getElem hi, e]
  have hf : (fls n nd)[i]? = some (x - 1 - n.ins) := by
    unfold fls
    rw [List.getElem?_map, hx]
    rfl
  have xi := ((a.iff x).mp h).1
  have g := (fl_get a hf).1
  rw [show 1 + n.ins + (x - 1 - n.ins) = x by omega] at g
  exact ⟨i, hf, num_get a.so g xi⟩
theorem kept_of (a : Asked n nd) {x : Nat} (h : x ∈ nd) (b : n.base ≤ x) : ∃ j, (kepts n nd)[j]? = some x ∧ num n.ins nd x = (pruned n nd).base + j := by
  have m : x ∈ nd.filter (n.base ≤ ·) := List.mem_filter.mpr ⟨h, decide_eq_true b⟩
  obtain ⟨j, hj, e⟩ := List.mem_iff_getElem.mp m
  have hx : (kepts n nd)[j]? = some x := by
    unfold kepts
    rw [List.getElem?_eq_getElem hj, e]
  have xi := ((a.iff x).mp h).1
  refine ⟨j, hx, ?_⟩
  rw [num_get a.so (kept_get a hx).1 xi, pruned_base]
  omega
theorem pr_gate {j x : Nat} {g : Nat × Nat} (h : (kepts n nd)[j]? = some x) (hg : n.gates[x - n.base]? = some g) : (pruned n nd).gates[j]? = some (ren n.ins nd g.1, ren n.ins nd g.2) := by
  show ((kepts n nd).map _)[j]? = _
  rw [List.getElem?_map, h]
  show some (ren n.ins nd ((n.gates[x - n.base]?.getD (0, 0)).1), ren n.ins nd ((n.gates[x - n.base]?.getD (0, 0)).2)) = _
  rw [hg]
  rfl
/-- a gate asked for: its literals are asked for, and lie lower -/
theorem gate_asked (kd : Kind n) (a : Asked n nd) {x : Nat} (h : x ∈ nd) (b : n.base ≤ x) : ∃ g, n.gates[x - n.base]? = some g ∧ (g.1 / 2 ≤ n.ins ∨ g.1 / 2 ∈ nd) ∧ (g.2 / 2 ≤ n.ins ∨ g.2 / 2 ∈ nd) ∧ g.1 / 2 < x ∧ g.2 / 2 < x := by
  have re := ((a.iff x).mp h).2
  have lt := reach_lt kd re
  have hj : x - n.base < n.gates.length := by
    unfold Net.many at lt
    omega
  have hg := List.getElem?_eq_getElem hj
  have kg := kd.g _ _ hg
  rw [show x = n.base + (x - n.base) by omega] at re
  exact ⟨_, hg, a.lit (.kid1 re hg), a.lit (.kid2 re hg), by omega, by omega⟩
theorem pr_fits (kd : Kind n) (a : Asked n nd) : ∀ j g, (pruned n nd).gates[j]? = some g → g.1 < 2 * ((pruned n nd).base + j) ∧ g.2 < 2 * ((pruned n nd).base + j) := by
  intro j g hg
  have hg2 : ((kepts n nd).map fun x => (ren n.ins nd ((n.gates[x - n.base]?.getD (0, 0)).1), ren n.ins nd ((n.gates[x - n.base]?.getD (0, 0)).2)))[j]? = some g := hg
  rw [List.getElem?_map] at hg2
  obtain ⟨x, hx, _⟩ := Option.map_eq_some_iff.mp hg2
  obtain ⟨hn, xb⟩ := kept_get a hx
  have xm := List.mem_of_getElem? hn
  obtain ⟨g0, h0, l1, l2, b1, b2⟩ := gate_asked kd a xm xb
  rw [pr_gate hx h0] at hg
  cases hg
  have e : num n.ins nd x = (pruned n nd).base + j := by
    rw [num_get a.so hn ((a.iff x).mp xm).1, pruned_base]
    omega
  have m1 := num_mono a.so l1 (.inr xm) b1
  have m2 := num_mono a.so l2 (.inr xm) b2
  have h1 := ren_half n.ins nd g0.1
  have h2 := ren_half n.ins nd g0.2
  constructor
  · show ren n.ins nd g0.1 < _
    omega
  · show ren n.ins nd g0.2 < _
    omega
/-- the flops kept, of a row of held bits -/
def heldOf (n : Net) (nd held : List Nat) : List Nat := (fls n nd).map fun k => held[k]?.getD 0
theorem heldOf_len (held : List Nat) : (heldOf n nd held).length = (fls n nd).length := List.length_map _
theorem pr_row (kd : Kind n) (a : Asked n nd) {held bits : List Nat} (hl : held.length = n.starts.length) (bl : bits.length = n.ins) :
    ∀ x, (x ≤ n.ins ∨ x ∈ nd) → ((pruned n nd).row (heldOf n nd held) bits)[num n.ins nd x]? = (n.row held bits)[x]? := by
  intro x
  induction x using Nat.strongRecOn with
  | ind x ih =>
    intro hx
    have len1 : (0 :: bits ++ held).length = n.base := by
      show (bits ++ held).length + 1 = 1 + n.ins + n.starts.length
      rw [List.length_append, hl, bl]
      omega
    have len2 : (0 :: bits ++ heldOf n nd held).length = (pruned n nd).base := by
      rw [pruned_base]
      show (bits ++ heldOf n nd held).length + 1 = _
      rw [List.length_append, heldOf_len, bl]
      omega
    obtain ⟨s1, e1⟩ := rowOf_pre [] n.gates (0 :: bits ++ held)
    obtain ⟨s2, e2⟩ := rowOf_pre [] (pruned n nd).gates (0 :: bits ++ heldOf n nd held)
    have e1 : n.row held bits = (0 :: bits ++ held) ++ s1 := e1
    have e2 : (pruned n nd).row (heldOf n nd held) bits = (0 :: bits ++ heldOf n nd held) ++ s2 := e2
    have lb : (0 :: bits).length = 1 + n.ins := by
      show bits.length + 1 = _
      omega
    have q1 : ∀ i, i < n.base → (n.row held bits)[i]? = (0 :: bits ++ held)[i]? := fun i hi => by
      rw [e1]
      exact List.getElem?_append_left (by rw [len1]; exact hi)
    have q2 : ∀ i, i < (pruned n nd).base → ((pruned n nd).row (heldOf n nd held) bits)[i]? = (0 :: bits ++ heldOf n nd held)[i]? := fun i hi => by
      rw [e2]
      exact List.getElem?_append_left (by rw [len2]; exact hi)
    by_cases c1 : x ≤ n.ins
    · have en : num n.ins nd x = x := if_pos c1
      rw [en, q2 x (by rw [pruned_base]; omega), q1 x (by unfold Net.base; omega)]
      exact (List.getElem?_append_left (by rw [lb]; omega)).trans (List.getElem?_append_left (by rw [lb]; omega)).symm
    · have hx := hx.resolve_left c1
      by_cases c2 : x < n.base
      · obtain ⟨i, hf, en⟩ := fl_of a hx c2
        have fi := (List.getElem?_eq_some_iff.mp hf).1
        have kl := (fl_get a hf).2
        rw [en, q2 _ (by rw [pruned_base]; omega), q1 _ c2]
        have xi := ((a.iff x).mp hx).1
        refine (List.getElem?_append_right (by rw [lb]; omega)).trans (Eq.trans ?_ (List.getElem?_append_right (by rw [lb]; omega)).symm)
        rw [lb, show 1 + n.ins + i - (1 + n.ins) = i by omega, show x - (1 + n.ins) = x - 1 - n.ins by omega]
        unfold heldOf
        rw [List.getElem?_map, hf]
        show some (held[x - 1 - n.ins]?.getD 0) = _
        rw [List.getElem?_eq_getElem (by rw [hl]; exact kl)]
        rfl
      · obtain ⟨j, hk, en⟩ := kept_of a hx (by omega)
        obtain ⟨g, hg, l1, l2, b1, b2⟩ := gate_asked kd a hx (by omega)
        have kg := kd.g _ _ hg
        have pg := pr_gate hk hg
        have pf := pr_fits kd a _ _ pg
        have r1 := rowOf_gate (r := 0 :: bits ++ held) hg (by rw [len1]; exact kg.1) (by rw [len1]; exact kg.2)
        have r2 := rowOf_gate (r := 0 :: bits ++ heldOf n nd held) pg (by rw [len2]; exact pf.1) (by rw [len2]; exact pf.2)
        rw [len1, show n.base + (x - n.base) = x by omega] at r1
        rw [len2, ← en] at r2
        have r1 : (n.row held bits)[x]? = some (bitv (n.row held bits) g.1 * bitv (n.row held bits) g.2) := r1
        have r2 : ((pruned n nd).row (heldOf n nd held) bits)[num n.ins nd x]? = some (bitv ((pruned n nd).row (heldOf n nd held) bits) (ren n.ins nd g.1) * bitv ((pruned n nd).row (heldOf n nd held) bits) (ren n.ins nd g.2)) := r2
        have lit : ∀ l, l / 2 < x → (l / 2 ≤ n.ins ∨ l / 2 ∈ nd) → bitv ((pruned n nd).row (heldOf n nd held) bits) (ren n.ins nd l) = bitv (n.row held bits) l := fun l hl hm => by
          unfold bitv
          rw [ren_half, ren_bit, ih _ hl hm]
        rw [r1, r2, lit _ b1 l1, lit _ b2 l2]
theorem pr_lit (kd : Kind n) (a : Asked n nd) {held bits : List Nat} (hl : held.length = n.starts.length) (bl : bits.length = n.ins) {l : Nat} (h : Reach n (l / 2)) :
    bitv ((pruned n nd).row (heldOf n nd held) bits) (ren n.ins nd l) = bitv (n.row held bits) l := by
  unfold bitv
  rw [ren_half, ren_bit, pr_row kd a hl bl _ (a.lit h)]
end

end K38
namespace K38
open PySem PySem.Spec PyProof.Rows L2 V0
/-! ### runs of nets made anew and pruned -/
theorem snoc_ind {α : Type} {P : List α → Prop} (h0 : P []) (h1 : ∀ xs x, P xs → P (xs ++ [x])) : ∀ xs, P xs := by
  intro xs
  induction hn : xs.length generalizing xs with
  | zero =>
    have : xs = [] := List.length_eq_zero_iff.mp hn
    subst this
    exact h0
  | succ m ih =>
    rcases List.eq_nil_or_concat xs with rfl | ⟨a, b, rfl⟩
    · exact h0
    · rw [List.concat_eq_append] at hn ⊢
      rw [List.length_append] at hn
      exact h1 a b (ih a (by have : a.length + 1 = m + 1 := hn; omega))
theorem ran_len {n : Net} (nl : n.nexts.length = n.starts.length) : ∀ rows, (Net.ran n rows).1.length = n.starts.length := by
  refine snoc_ind rfl fun rows b ih => ?_
  rw [ran_snoc]
  show (n.nexts.map _).length = _
  rw [List.length_map]
  exact nl
theorem ran_pruned {n : Net} {nd : List Nat} (kd : Kind n) (a : Asked n nd) : ∀ rows : List (List Nat), (∀ b ∈ rows, b.length = n.ins) → (Net.ran (pruned n nd) rows).1 = heldOf n nd (Net.ran n rows).1 ∧ (Net.ran (pruned n nd) rows).2 = (Net.ran n rows).2 := by
  refine snoc_ind (fun _ => ⟨rfl, rfl⟩) fun rows b ih hb => ?_
  obtain ⟨i1, i2⟩ := ih fun c hc => hb c (List.mem_append_left _ hc)
  have bl := hb b (List.mem_append_right _ List.mem_cons_self)
  have hl := ran_len kd.nl rows
  rw [ran_snoc, ran_snoc, i1, i2]
  constructor
  · show ((fls n nd).map fun k => ren n.ins nd (n.nexts[k]?.getD 0)).map _ = (fls n nd).map _
    rw [List.map_map]
    refine List.map_congr_left fun k hk => ?_
    obtain ⟨i, hi, e⟩ := List.mem_iff_getElem.mp hk
    obtain ⟨g1, g2⟩ := fl_get a (by rw [List.getElem?_eq_getElem hi, e])
    have hr := ((a.iff _).mp (List.mem_of_getElem? g1)).2
    have kl : k < n.nexts.length := by rw [kd.nl]; exact g2
    have hx := List.getElem?_eq_getElem kl
    show bitv _ (ren n.ins nd (n.nexts[k]?.getD 0)) = (n.nexts.map _)[k]?.getD 0
    rw [List.getElem?_map, hx]
    exact pr_lit kd a hl bl (.next hr g2 hx)
  · show (Net.ran n rows).2 ++ [(n.outs.map (ren n.ins nd)).map _] = (Net.ran n rows).2 ++ [n.outs.map _]
    rw [List.map_map]
    exact congrArg (fun z => (Net.ran n rows).2 ++ [z]) (List.map_congr_left fun l hm => pr_lit kd a hl bl (.out hm))
theorem row0_of {n : Net} {held bits : List Nat} (hl : held.length = n.starts.length) (bl : bits.length = n.ins) (hb : ∀ x ∈ held, x < 2) (bb : ∀ x ∈ bits, x < 2) : Row0 n.base (0 :: bits ++ held) := by
  refine ⟨?_, rfl, fun x hx => ?_⟩
  · show (bits ++ held).length + 1 = 1 + n.ins + n.starts.length
    rw [List.length_append, hl, bl]
    omega
  · rcases List.mem_append.mp hx with h | h
    · rcases List.mem_cons.mp h with rfl | h
      · decide
      · exact bb x h
    · exact hb x h
theorem ran_bits {n : Net} (bits : ∀ b ∈ n.starts, b < 2) : ∀ rows : List (List Nat), (∀ b ∈ rows, ∀ x ∈ b, x < 2) → ∀ x ∈ (Net.ran n rows).1, x < 2 := by
  refine snoc_ind (fun _ => bits) fun rows b ih hb => ?_
  have i1 := ih fun c hc => hb c (List.mem_append_left _ hc)
  rw [ran_snoc]
  exact map_lt (row_lt i1 (hb b (List.mem_append_right _ List.mem_cons_self)))
theorem ran_plain {n : Net} (kd : Kind n) : ∀ rows : List (List Nat), (∀ b ∈ rows, b.length = n.ins ∧ ∀ x ∈ b, x < 2) → Net.ran (plain n) rows = Net.ran n rows := by
  have t := ti_fold n.base (by unfold Net.base; omega) n.gates kd.g
  refine snoc_ind (fun _ => rfl) fun rows b ih hb => ?_
  have i1 := ih fun c hc => hb c (List.mem_append_left _ hc)
  have bb := hb b (List.mem_append_right _ List.mem_cons_self)
  have r0 := row0_of (ran_len kd.nl rows) bb.1 (ran_bits kd.bits rows fun c hc => (hb c (List.mem_append_left _ hc)).2) bb.2
  rw [ran_snoc, ran_snoc, i1]
  have lit : ∀ l, l < 2 * n.many → bitv ((plain n).row (Net.ran n rows).1 b) (bitv (tfold n.base n.gates).1 l) = bitv (n.row (Net.ran n rows).1 b) l := fun l hl => ((t.lit hl).2 _ r0).symm
  congr 1
  · show (n.nexts.map _).map _ = _
    rw [List.map_map]
    exact List.map_congr_left fun l hm => lit l (kd.nx l hm)
  · congr 2
    show (n.outs.map _).map _ = _
    rw [List.map_map]
    exact List.map_congr_left fun l hm => lit l (kd.ox l hm)
/-- the net with every gate once is a net -/
theorem plain_kind {n : Net} (kd : Kind n) : Kind (plain n) := by
  have t := ti_fold n.base (by unfold Net.base; omega) n.gates kd.g
  have lit : ∀ l, l < 2 * n.many → bitv (tfold n.base n.gates).1 l < 2 * (plain n).many := fun l hl => (t.lit hl).1
  refine ⟨kd.bits, fun j g h => ?_, ?_, fun x hx => ?_, fun x hx => ?_⟩
  · have := t.made.g j g h
    show g.1 < 2 * (n.base + j) ∧ g.2 < 2 * (n.base + j)
    omega
  · show (n.nexts.map _).length = _
    rw [List.length_map]
    exact kd.nl
  · obtain ⟨l, hl, rfl⟩ := List.mem_map.mp hx
    exact lit l (kd.nx l hl)
  · obtain ⟨l, hl, rfl⟩ := List.mem_map.mp hx
    exact lit l (kd.ox l hl)
theorem pruned_kind {n : Net} {nd : List Nat} (kd : Kind n) (a : Asked n nd) : Kind (pruned n nd) := by
  have many : (pruned n nd).many = 1 + n.ins + nd.length := by
    show (pruned n nd).base + ((kepts n nd).map _).length = _
    rw [pruned_base, List.length_map]
    have e := congrArg List.length (split_at a.so n.base)
    rw [List.length_append] at e
    unfold fls kepts
    rw [List.length_map]
    omega
  have lit : ∀ l, Reach n (l / 2) → ren n.ins nd l < 2 * (pruned n nd).many := fun l h => by
    have e := ren_half n.ins nd l
    rw [many]
    have : num n.ins nd (l / 2) < 1 + n.ins + nd.length := by
      rcases a.lit h with c | c
      · unfold num
        rw [if_pos c]
        omega
      · obtain ⟨i, hi, ei⟩ := List.mem_iff_getElem.mp c
        rw [num_get a.so (List.getElem?_eq_some_iff.mpr ⟨hi, ei⟩) ((a.iff _).mp c).1]
        omega
    omega
  refine ⟨fun b hb => ?_, pr_fits kd a, ?_, fun x hx => ?_, fun x hx => ?_⟩
  · obtain ⟨k, hk, rfl⟩ := List.mem_map.mp hb
    cases e : n.starts[k]? with
    | none => decide
    | some x => exact kd.bits x (List.mem_of_getElem? e)
  · show ((fls n nd).map _).length = ((fls n nd).map _).length
    rw [List.length_map, List.length_map]
  · obtain ⟨k, hk, rfl⟩ := List.mem_map.mp hx
    obtain ⟨i, hi, e⟩ := List.mem_iff_getElem.mp hk
    obtain ⟨g1, g2⟩ := fl_get a (by rw [List.getElem?_eq_getElem hi, e])
    have kl : k < n.nexts.length := by rw [kd.nl]; exact g2
    have hx := List.getElem?_eq_getElem kl
    rw [hx]
    exact lit _ (.next ((a.iff _).mp (List.mem_of_getElem? g1)).2 g2 hx)
  · obtain ⟨l, hl, rfl⟩ := List.mem_map.mp hx
    exact lit l (.out hl)

end K38
namespace K38
open PySem PySem.Spec PyProof.Rows L2 V0
/-! ### tidy nets stay as they are -/
theorem reach_pruned {n : Net} {nd : List Nat} (kd : Kind n) (a : Asked n nd) {x : Nat} (h : Reach n x) : Reach (pruned n nd) (num n.ins nd x) := by
  induction h with
  | @out l m =>
    rw [← ren_half]
    exact .out (List.mem_map.mpr ⟨l, m, rfl⟩)
  | @next k l r hk e ih =>
    have xm := (a.iff _).mpr ⟨by omega, r⟩
    obtain ⟨i, hf, en⟩ := fl_of a xm (by unfold Net.base; omega)
    rw [show 1 + n.ins + k - 1 - n.ins = k by omega] at hf
    rw [en] at ih
    rw [← ren_half]
    refine .next (k := i) ih ?_ ?_
    · show i < ((fls n nd).map _).length
      rw [List.length_map]
      exact (List.getElem?_eq_some_iff.mp hf).1
    · show ((fls n nd).map _)[i]? = _
      rw [List.getElem?_map, hf]
      show some (ren n.ins nd (n.nexts[k]?.getD 0)) = _
      rw [e]
      rfl
  | @kid1 j g r e ih =>
    have xm := (a.iff _).mpr ⟨by unfold Net.base; omega, r⟩
    obtain ⟨i, hk, en⟩ := kept_of a xm (by omega)
    rw [en] at ih
    rw [← ren_half]
    exact .kid1 ih (pr_gate hk (by rw [show n.base + j - n.base = j by omega]; exact e))
  | @kid2 j g r e ih =>
    have xm := (a.iff _).mpr ⟨by unfold Net.base; omega, r⟩
    obtain ⟨i, hk, en⟩ := kept_of a xm (by omega)
    rw [en] at ih
    rw [← ren_half]
    exact .kid2 ih (pr_gate hk (by rw [show n.base + j - n.base = j by omega]; exact e))
/-- all nodes behind the inputs -/
def allnd (ins m : Nat) : List Nat := (List.range m).map fun i => 1 + ins + i
theorem allnd_get {ins m i : Nat} (h : i < m) : (allnd ins m)[i]? = some (1 + ins + i) := by
  unfold allnd
  rw [List.getElem?_map, List.getElem?_range h]
  rfl
theorem allnd_mem {ins m x : Nat} : x ∈ allnd ins m ↔ ins < x ∧ x < 1 + ins + m := by
  unfold allnd
  rw [List.mem_map]
  constructor
  · rintro ⟨k, hk, rfl⟩
    have := List.mem_range.mp hk
    omega
  · rintro ⟨h1, h2⟩
    exact ⟨x - 1 - ins, List.mem_range.mpr (by omega), by omega⟩
theorem allnd_so (ins m : Nat) : (allnd ins m).Pairwise (· < ·) := by
  unfold allnd
  rw [List.pairwise_map]
  exact List.pairwise_lt_range.imp fun h => by omega
theorem pruned_many {n : Net} {nd : List Nat} (a : Asked n nd) : (pruned n nd).many = 1 + n.ins + nd.length := by
  show (pruned n nd).base + ((kepts n nd).map _).length = _
  rw [pruned_base, List.length_map]
  have e := congrArg List.length (split_at a.so n.base)
  rw [List.length_append] at e
  unfold fls kepts
  rw [List.length_map]
  omega
theorem asked_pruned {n : Net} {nd : List Nat} (kd : Kind n) (a : Asked n nd) : Asked (pruned n nd) (allnd n.ins nd.length) := by
  refine ⟨allnd_so _ _, fun x => ⟨fun h => ?_, fun h => ?_⟩⟩
  · have hx := allnd_mem.mp h
    refine ⟨hx.1, ?_⟩
    have hi : x - 1 - n.ins < nd.length := by omega
    have e := List.getElem?_eq_getElem hi
    have m := (a.iff _).mp (List.getElem_mem hi)
    have r := reach_pruned kd a m.2
    rw [num_get a.so e m.1, show 1 + n.ins + (x - 1 - n.ins) = x by omega] at r
    exact r
  · have := reach_lt (pruned_kind kd a) h.2
    rw [pruned_many a] at this
    exact allnd_mem.mpr ⟨h.1, this⟩
theorem num_all {ins m x : Nat} (h : x < 1 + ins + m) : num ins (allnd ins m) x = x := by
  by_cases c : x ≤ ins
  · exact if_pos c
  · have e : (allnd ins m)[x - 1 - ins]? = some x := by
      rw [allnd_get (ins := ins) (m := m) (i := x - 1 - ins) (by omega), show 1 + ins + (x - 1 - ins) = x by omega]
    rw [num_get (allnd_so ins m) e (by omega)]
    omega
theorem ren_all {ins m l : Nat} (h : l < 2 * (1 + ins + m)) : ren ins (allnd ins m) l = l := by
  unfold ren
  rw [num_all (by omega)]
  omega
theorem fls_all {n : Net} : fls n (allnd n.ins (n.starts.length + n.gates.length)) = List.range n.starts.length := by
  unfold fls allnd
  rw [List.filter_map, List.map_map]
  have e : (List.range (n.starts.length + n.gates.length)).filter ((fun x => decide (x < n.base)) ∘ fun i => 1 + n.ins + i) = List.range n.starts.length := by
    rw [List.range_add, List.filter_append]
    have e1 : (List.range n.starts.length).filter ((fun x => decide (x < n.base)) ∘ fun i => 1 + n.ins + i) = List.range n.starts.length := List.filter_eq_self.mpr fun x hx => by
      have := List.mem_range.mp hx
      exact decide_eq_true (by show 1 + n.ins + x < n.base; unfold Net.base; omega)
    have e2 : ((List.range n.gates.length).map (n.starts.length + ·)).filter ((fun x => decide (x < n.base)) ∘ fun i => 1 + n.ins + i) = [] := List.filter_eq_nil_iff.mpr fun x hx => by
      obtain ⟨k, _, rfl⟩ := List.mem_map.mp hx
      show ¬ decide (1 + n.ins + (n.starts.length + k) < n.base) = true
      rw [decide_eq_true_eq]
      unfold Net.base
      omega
    rw [e1, e2, List.append_nil]
  rw [e]
  refine (List.map_congr_left fun k _ => ?_).trans (List.map_id _)
  show 1 + n.ins + k - 1 - n.ins = k
  omega
theorem kepts_all {n : Net} : kepts n (allnd n.ins (n.starts.length + n.gates.length)) = (List.range n.gates.length).map (n.base + ·) := by
  unfold kepts allnd
  rw [List.filter_map, List.range_add, List.filter_append]
  have e1 : (List.range n.starts.length).filter ((fun x => decide (n.base ≤ x)) ∘ fun i => 1 + n.ins + i) = [] := List.filter_eq_nil_iff.mpr fun x hx => by
    have := List.mem_range.mp hx
    show ¬ decide (n.base ≤ 1 + n.ins + x) = true
    rw [decide_eq_true_eq]
    unfold Net.base
    omega
  have e2 : ((List.range n.gates.length).map (n.starts.length + ·)).filter ((fun x => decide (n.base ≤ x)) ∘ fun i => 1 + n.ins + i) = (List.range n.gates.length).map (n.starts.length + ·) := List.filter_eq_self.mpr fun x hx => by
    obtain ⟨k, _, rfl⟩ := List.mem_map.mp hx
    exact decide_eq_true (by show n.base ≤ 1 + n.ins + (n.starts.length + k); unfold Net.base; omega)
  rw [e1, e2, List.nil_append, List.map_map]
  refine List.map_congr_left fun k _ => ?_
  show 1 + n.ins + (n.starts.length + k) = n.base + k
  unfold Net.base
  omega
theorem map_range_get {α : Type} (xs : List α) (d : α) : (List.range xs.length).map (fun k => xs[k]?.getD d) = xs := by
  refine List.ext_getElem? fun i => ?_
  rw [List.getElem?_map]
  by_cases h : i < xs.length
  · rw [List.getElem?_range h, List.getElem?_eq_getElem h]
    show some (xs[i]?.getD d) = _
    rw [List.getElem?_eq_getElem h]
    rfl
  · rw [List.getElem?_eq_none (by rw [List.length_range]; omega), List.getElem?_eq_none (by omega)]
    rfl
/-- a net of which all is asked stays -/
theorem pruned_all {n : Net} (kd : Kind n) : pruned n (allnd n.ins (n.starts.length + n.gates.length)) = n := by
  have many : n.many = 1 + n.ins + (n.starts.length + n.gates.length) := by unfold Net.many Net.base; omega
  have re : ∀ l, l < 2 * n.many → ren n.ins (allnd n.ins (n.starts.length + n.gates.length)) l = l := fun l h => ren_all (by rw [← many]; exact h)
  unfold pruned
  rw [fls_all, kepts_all]
  have e1 : (List.range n.starts.length).map (fun k => n.starts[k]?.getD 0) = n.starts := map_range_get _ _
  have e2 : (List.range n.starts.length).map (fun k => ren n.ins (allnd n.ins (n.starts.length + n.gates.length)) (n.nexts[k]?.getD 0)) = n.nexts := by
    have e0 : (List.range n.starts.length).map (fun k => n.nexts[k]?.getD 0) = n.nexts := by
      rw [← kd.nl]
      exact map_range_get n.nexts 0
    refine Eq.trans (List.map_congr_left fun k hk => re _ ?_) e0
    have := List.mem_range.mp hk
    rw [List.getElem?_eq_getElem (by rw [kd.nl]; exact this)]
    exact kd.nx _ (List.getElem_mem _)
  have e3 : n.outs.map (ren n.ins (allnd n.ins (n.starts.length + n.gates.length))) = n.outs := (List.map_congr_left fun l hl => re l (kd.ox l hl)).trans (List.map_id _)
  have e4 : ((List.range n.gates.length).map (n.base + ·)).map (fun x => (ren n.ins (allnd n.ins (n.starts.length + n.gates.length)) ((n.gates[x - n.base]?.getD (0, 0)).1), ren n.ins (allnd n.ins (n.starts.length + n.gates.length)) ((n.gates[x - n.base]?.getD (0, 0)).2))) = n.gates := by
    rw [List.map_map]
    refine Eq.trans (List.map_congr_left fun k hk => ?_) (map_range_get n.gates (0, 0))
    have hk := List.mem_range.mp hk
    have hg := List.getElem?_eq_getElem hk
    have kg := kd.g _ _ hg
    show (ren _ _ ((n.gates[n.base + k - n.base]?.getD (0, 0)).1), ren _ _ ((n.gates[n.base + k - n.base]?.getD (0, 0)).2)) = n.gates[k]?.getD (0, 0)
    rw [Nat.add_sub_cancel_left, hg]
    show (ren _ _ (n.gates[k]).1, ren _ _ (n.gates[k]).2) = n.gates[k]
    rw [re _ (by unfold Net.many; omega), re _ (by unfold Net.many; omega)]
  rw [e1, e2, e3, e4]

end K38
namespace K38
open PySem PySem.Spec PyProof.Rows L2 V0
theorem xor_add (k : Nat) {b : Nat} (h : b < 2) : (2 * k) ^^^ b = 2 * k + b := by
  have e1 := xor_half (2 * k) b h
  have e2 : ((2 * k) ^^^ b) % 2 = b := by
    rw [show (2 : Nat) = 2 ^ 1 from rfl, Nat.xor_mod_two_pow]
    rw [show (2 ^ 1 * k) % 2 ^ 1 = 0 from Nat.mul_mod_right _ _, Nat.zero_xor]
    exact Nat.mod_eq_of_lt h
  omega
theorem bitv_id {m l : Nat} (h : l < 2 * m) : bitv ((List.range m).map fun k => 2 * k) l = l := by
  unfold bitv
  rw [List.getElem?_map, List.getElem?_range (by omega)]
  show (2 * (l / 2)) ^^^ (l % 2) = l
  rw [xor_add _ (Nat.mod_lt _ (by decide))]
  omega
theorem Made.pre {first : Nat} {gs : List (Nat × Nat)} {p : Nat × Nat} (m : Made first (gs ++ [p])) : Made first gs ∧ p ∉ gs ∧ p.2 < 2 * (first + gs.length) ∧ p.1 < p.2 ∧ 2 ≤ p.1 ∧ p.1 ≠ p.2 ^^^ 1 := by
  have nd := List.nodup_append.mp m.nd
  refine ⟨⟨nd.1, fun j q h => m.g j q (by rw [List.getElem?_append_left (List.getElem?_eq_some_iff.mp h).1]; exact h)⟩, fun h => nd.2.2 p h p List.mem_cons_self rfl, ?_⟩
  exact m.g gs.length p (by rw [List.getElem?_append_right (Nat.le_refl _), Nat.sub_self]; rfl)
theorem tfold_made (first : Nat) : ∀ gs : List (Nat × Nat), Made first gs → tfold first gs = ((List.range (first + gs.length)).map (fun k => 2 * k), gs) := by
  refine snoc_ind (fun _ => rfl) fun gs p ih m => ?_
  obtain ⟨m1, np, p2, p1, pl, px⟩ := m.pre
  rw [tfold_snoc, ih m1]
  unfold tstep
  rw [bitv_id (show p.1 < 2 * (first + gs.length) by omega), bitv_id p2, Nat.min_eq_left (by omega), Nat.max_eq_right (by omega)]
  have e : mkb first gs p.1 p.2 = (2 * (first + gs.length), gs ++ [p]) := by
    unfold mkb
    rw [if_neg (fun z => z.elim (fun h => by omega) px), if_neg (fun z => z.elim (fun h => by omega) (fun h => by omega)), pos_none.mpr np]
  rw [e, List.length_append]
  show ((List.range (first + gs.length)).map _ ++ [2 * (first + gs.length)], gs ++ [p]) = ((List.range (first + gs.length + 1)).map _, gs ++ [p])
  rw [List.range_succ, List.map_append]
  rfl
/-- a net whose gates stand as the maker leaves them stays -/
theorem plain_made {n : Net} (kd : Kind n) (m : Made n.base n.gates) : plain n = n := by
  unfold plain
  rw [tfold_made n.base n.gates m]
  have re : ∀ l, l < 2 * n.many → bitv ((List.range (n.base + n.gates.length)).map fun k => 2 * k) l = l := fun l h => bitv_id h
  have e1 : n.nexts.map (bitv ((List.range (n.base + n.gates.length)).map fun k => 2 * k)) = n.nexts := (List.map_congr_left fun l hl => re l (kd.nx l hl)).trans (List.map_id _)
  have e2 : n.outs.map (bitv ((List.range (n.base + n.gates.length)).map fun k => 2 * k)) = n.outs := (List.map_congr_left fun l hl => re l (kd.ox l hl)).trans (List.map_id _)
  show Net.mk n.ins n.starts n.gates (n.nexts.map _) (n.outs.map _) = n
  rw [e1, e2]
theorem plain_is_made {n : Net} (kd : Kind n) : Made (plain n).base (plain n).gates := (ti_fold n.base (by unfold Net.base; omega) n.gates kd.g).made
theorem nodes_lt {a b : Nat} (h : a < b) (x : a ≠ b ^^^ 1) : a / 2 < b / 2 := by
  by_cases c : a / 2 = b / 2
  · exfalso
    have e : b = 2 * (b / 2) + 1 := by omega
    have e2 : b ^^^ 1 = a := by
      have h1 := xor_half b 1 (by decide)
      have h2 : (b ^^^ 1) % 2 = 0 := by
        rw [show (2 : Nat) = 2 ^ 1 from rfl, Nat.xor_mod_two_pow, show b % 2 ^ 1 = 1 by omega]
        rfl
      omega
    exact x e2.symm
  · omega
theorem pruned_made {n : Net} {nd : List Nat} (kd : Kind n) (a : Asked n nd) (m : Made n.base n.gates) : Made (pruned n nd).base (pruned n nd).gates := by
  have at_ : ∀ {j : Nat} {p : Nat × Nat}, (pruned n nd).gates[j]? = some p → ∃ x g, (kepts n nd)[j]? = some x ∧ n.base ≤ x ∧ n.gates[x - n.base]? = some g ∧ p = (ren n.ins nd g.1, ren n.ins nd g.2) ∧ (g.1 / 2 ≤ n.ins ∨ g.1 / 2 ∈ nd) ∧ (g.2 / 2 ≤ n.ins ∨ g.2 / 2 ∈ nd) := fun {j p} hp => by
    have hg2 : ((kepts n nd).map fun x => (ren n.ins nd ((n.gates[x - n.base]?.getD (0, 0)).1), ren n.ins nd ((n.gates[x - n.base]?.getD (0, 0)).2)))[j]? = some p := hp
    rw [List.getElem?_map] at hg2
    obtain ⟨x, hx, _⟩ := Option.map_eq_some_iff.mp hg2
    obtain ⟨hn, xb⟩ := kept_get a hx
    obtain ⟨g, h0, l1, l2, _, _⟩ := gate_asked kd a (List.mem_of_getElem? hn) xb
    rw [pr_gate hx h0] at hp
    cases hp
    exact ⟨x, g, hx, xb, h0, rfl, l1, l2⟩
  refine ⟨List.pairwise_iff_getElem.mpr fun i j hi hj ij e => ?_, fun j p hp => ?_⟩
  · obtain ⟨x, g, hx, xb, hg, ep, l1, l2⟩ := at_ (List.getElem?_eq_getElem hi)
    obtain ⟨y, g', hy, yb, hg', ep', l1', l2'⟩ := at_ (List.getElem?_eq_getElem hj)
    rw [e] at ep
    have e2 := ep.symm.trans ep'
    have q1 := ren_inj a.so l1 l1' (congrArg Prod.fst e2)
    have q2 := ren_inj a.so l2 l2' (congrArg Prod.snd e2)
    have eg : g = g' := Prod.ext q1 q2
    subst eg
    have ga := List.getElem?_eq_some_iff.mp hg
    have gb := List.getElem?_eq_some_iff.mp hg'
    have xy := (List.getElem_inj m.nd).mp (ga.2.trans gb.2.symm)
    have xe : x = y := by omega
    subst xe
    have kx := (kept_get a hx).1
    have ky := (kept_get a hy).1
    have b1 := below_get a.so kx
    have b2 := below_get a.so ky
    omega
  · obtain ⟨x, g, hx, xb, hg, rfl, l1, l2⟩ := at_ hp
    have mg := m.g _ _ hg
    have lt := nodes_lt mg.2.1 mg.2.2.2
    have nm := num_mono a.so l1 l2 lt
    have h1 := ren_half n.ins nd g.1
    have h2 := ren_half n.ins nd g.2
    have pos1 : 1 ≤ num n.ins nd (g.1 / 2) := by
      unfold num
      split
      · omega
      · omega
    refine ⟨(pr_fits kd a j _ hp).2, ?_, ?_, fun z => ?_⟩
    · show ren n.ins nd g.1 < ren n.ins nd g.2
      omega
    · show 2 ≤ ren n.ins nd g.1
      omega
    · have z : ren n.ins nd g.1 = ren n.ins nd g.2 ^^^ 1 := z
      have := xor_half (ren n.ins nd g.2) 1 (by decide)
      rw [← z] at this
      omega
/-- what is asked for is told once -/
theorem asked_one {n : Net} {nd nd' : List Nat} (a : Asked n nd) (b : Asked n nd') : nd = nd' := by
  have perm : nd.Perm nd' := (List.perm_ext_iff_of_nodup (a.so.imp fun h => Nat.ne_of_lt h) (b.so.imp fun h => Nat.ne_of_lt h)).mpr fun x => (a.iff x).trans (b.iff x).symm
  exact List.Perm.eq_of_pairwise (fun x y _ _ h1 h2 => by omega) a.so b.so perm
/-- tidied again: nothing is changed -/
theorem twice {n : Net} {nd nd' : List Nat} (kd : Kind n) (a : Asked (plain n) nd) (b : Asked (plain (pruned (plain n) nd)) nd') :
    plain (pruned (plain n) nd) = pruned (plain n) nd ∧ pruned (pruned (plain n) nd) nd' = pruned (plain n) nd ∧ fls (pruned (plain n) nd) nd' = List.range (fls (plain n) nd).length := by
  have kp := plain_kind kd
  have kq := pruned_kind kp a
  have e1 := plain_made kq (pruned_made kp a (plain_is_made kd))
  rw [e1] at b
  have e2 : nd' = allnd n.ins nd.length := asked_one b (asked_pruned kp a)
  have e3 : nd.length = (pruned (plain n) nd).starts.length + (pruned (plain n) nd).gates.length := by
    have h := pruned_many a
    unfold Net.many Net.base at h
    have : (pruned (plain n) nd).ins = (plain n).ins := rfl
    omega
  subst e2
  rw [e3]
  refine ⟨e1, pruned_all kq, ?_⟩
  have h : fls (pruned (plain n) nd) (allnd (pruned (plain n) nd).ins ((pruned (plain n) nd).starts.length + (pruned (plain n) nd).gates.length)) = _ := fls_all
  refine h.trans (congrArg List.range ?_)
  show ((fls (plain n) nd).map _).length = _
  rw [List.length_map]

end K38
namespace K38
open PySem PySem.Spec PyProof.Rows L2 V0
/-! ### literals by what they stand for -/
def sp__stands (K : PySem.W.Frag) : Sp := fun vs H Q _ => ∃ (r : Addr) (row : List Nat) (l : Nat), vs = [.ref r, .int l] ∧ H r = some (.lst (vn row)) ∧ l / 2 < row.length ∧ Q (.int (bitv row l : Nat)) H
theorem ok__stands {P : Program} {w : World} {K : PySem.W.Frag} {mg : Str → Option Value} {base : Heap} {C_Builder : Addr} {f  : Addr} {fd  : FuncData} (F : Fun K "_stands" "_stands" s__stands f fd) (T : Txt K mg C_Builder) :
    FnOk P w K mg base CX0 1 f fd ["standing", "literal"] (sp__stands K) := by
  refine F.ok sc_stands (fun vs H Q E h => ?_) (fun cdv A outer s H vs Q E hr h => ?_)
  · obtain ⟨r, row, l, rfl, _⟩ := h
    rfl
  · obtain ⟨r, row, l, rfl, hr', hl, q⟩ := h
    refine ⟨_, (pss_one (ps_ret (pe_op op_xor (pe_ix (r := rIxL K) ix_list (pv 0) (pe_op op_shr (pv 1) pe_int) (fun _ _ => rfl)) (pe_op op_and (pv 1) pe_int)))), ?_⟩
    refine ⟨_, rfl, _, rfl, _, _, rfl, rfl, (show (0 : Int) ≤ 1 by decide), r, _, _, _, rfl, rfl, SqL.of hr', atI_nat (vn_get (List.getElem?_eq_getElem hl)), _, rfl, _, _, rfl, rfl, ?_⟩
    refine ⟨_, _, rfl, rfl, ?_⟩
    show Q (V.int (Builtin.bitXor ((row[l / 2] : Nat) : Int) (Builtin.bitAnd ((l : Nat) : Int) 1))) H
    rw [band_one, bxor]
    unfold bitv at q
    rw [List.getElem?_eq_getElem hl] at q
    exact q
def sp__bases (K : PySem.W.Frag) : Sp := fun vs H Q _ => ∃ (v : V) (n : Net), vs = [v] ∧ Dv H v n ∧ n.base ≤ 1000 ∧ ∀ H' r, Same H H' → H r = none → H' r = some (.lst (vn ((List.range n.base).map fun k => 2 * k))) → Q (.ref r) H'
theorem ok__bases {P : Program} {w : World} {K : PySem.W.Frag} {mg : Str → Option Value} {base : Heap} {C_Builder : Addr} {f fbase_of : Addr} {fd fdbase_of : FuncData} (F : Fun K "_bases" "_bases" s__bases f fd) (T : Txt K mg C_Builder)
    (G_base_of : FnOk P w K mg base CX0 1 fbase_of fdbase_of ["net"] (sp_base_of K)) (D_base_of : Def K mg "base_of" fbase_of fdbase_of ["net"]) :
    FnOk P w K mg base CX0 2 f fd ["net"] (sp__bases K) := by
  refine F.ok sc_bases (fun vs H Q E h => ?_) (fun cdv A outer s H vs Q E hr h => ?_)
  · obtain ⟨v, n, rfl, _⟩ := h
    rfl
  · obtain ⟨v, n, rfl, hn, few, q⟩ := h
    refine ⟨_, (pss_one (ps_ret (pe_lc (own := [("node", 1)]) (g := gName 1) (tt := tYes) rfl sc_bases.nd (pi_range1 rfl T.m_range (pa_cons (pe_call G_base_of (hr.mono (by omega)) (by rfl) D_base_of.m D_base_of.k D_base_of.b .nil pass0 (pa_cons (pv 0) pa_nil)) pa_nil)) (blkOk_by (N := N__bases) (sc := defScope s__bases) (by decide +kernel)) (fun _ _ _ _ _ => (pg_name (i := 1) sc_bases.nd rfl (Or.inl rfl))) (fun _ _ _ _ _ => pts_nil) (fun _ _ _ _ _ => (pe_op op_mul pe_int (pv 1)))))), ?_⟩
    refine ⟨_, rfl, v, n, rfl, hn, _, rfl, by omega, by omega, fun D nD => lc_range (n := n.base) (fun i Hx => Same H Hx ∧ Hx D = some (.lst (vn ((List.range i).map fun k => 2 * k)))) ⟨same_new nD, upd_same⟩ ?_ ?_⟩
    · rintro i Hx hi ⟨sx, hD⟩
      refine ⟨rfl, _, rfl, _, _, rfl, rfl, .inl ⟨by decide, by decide⟩, _, hD, by rw [vn_len, List.length_map, List.length_range]; exact small1000 (by omega), same_mut sx nD, ?_⟩
      rw [upd_same, List.range_succ, List.map_append]
      have e : V.int ((2 : Int) * (0 + (i : Int))) = V.int ((2 * i : Nat) : Int) := by
        congr 1
        omega
      show some (HO.lst (vn _ ++ [V.int ((2 : Int) * (0 + (i : Int)))])) = _
      rw [e, vn_snoc]
      rfl
    · rintro Hx ⟨sx, hD⟩
      exact q Hx D sx nD hD

end K38
namespace K38
open PySem PySem.Spec PyProof.Rows L2 V0
/-- all but three things that change -/
def fz (p q r : Addr) (H : Hp) : Hp := fun b => if b = p ∨ b = q ∨ b = r then none else H b
theorem fz_some {p q r b : Addr} {H : Hp} {o : HO} (h : fz p q r H b = some o) : (b ≠ p ∧ b ≠ q ∧ b ≠ r) ∧ H b = some o := by
  unfold fz at h
  by_cases c : b = p ∨ b = q ∨ b = r
  · rw [if_pos c] at h
    cases h
  · rw [if_neg c] at h
    exact ⟨⟨fun e => c (.inl e), fun e => c (.inr (.inl e)), fun e => c (.inr (.inr e))⟩, h⟩
theorem fz_of {p q r b : Addr} {H : Hp} {o : HO} (h1 : b ≠ p) (h2 : b ≠ q) (h3 : b ≠ r) (h : H b = some o) : fz p q r H b = some o := by
  unfold fz
  rw [if_neg (fun e => e.elim h1 fun e => e.elim h2 h3)]
  exact h
theorem fz_mono {p q r : Addr} {H H' : Hp} (s : Same H H') : Same (fz p q r H) (fz p q r H') := fun b o h => by
  obtain ⟨⟨h1, h2, h3⟩, e⟩ := fz_some h
  exact fz_of h1 h2 h3 (s _ _ e)
theorem fz_mut {p q r b : Addr} {H : Hp} {o : HO} (h : b = p ∨ b = q ∨ b = r) : Same (fz p q r H) (fz p q r (upd H b o)) := fun d u e => by
  obtain ⟨⟨h1, h2, h3⟩, e⟩ := fz_some e
  refine fz_of h1 h2 h3 ?_
  rw [upd_ne (fun z => by subst z; exact h.elim h1 fun z => z.elim h2 h3)]
  exact e
theorem fz_up {p q r : Addr} {H : Hp} : Same (fz p q r H) H := fun b o h => (fz_some h).2

def usum (f : Nat → Nat) (S : List Nat) : List Nat → Nat
  | [] => 0
  | y :: N => (if y ∈ S then 0 else f y) + usum f S N
theorem usum_le {f : Nat → Nat} {S S' : List Nat} (h : ∀ y, y ∈ S → y ∈ S') : ∀ N : List Nat, usum f S' N ≤ usum f S N
  | [] => Nat.le_refl _
  | y :: N => by
    have ih := usum_le (f := f) h N
    unfold usum
    by_cases c : y ∈ S
    · rw [if_pos c, if_pos (h _ c)]
      omega
    · rw [if_neg c]
      by_cases d : y ∈ S'
      · rw [if_pos d]
        omega
      · rw [if_neg d]
        omega
theorem usum_congr {f : Nat → Nat} {S S' : List Nat} (h : ∀ y, y ∈ S ↔ y ∈ S') (N : List Nat) : usum f S' N = usum f S N := Nat.le_antisymm (usum_le (fun y => (h y).mp) N) (usum_le (fun y => (h y).mpr) N)
theorem usum_more {f : Nat → Nat} {S S' : List Nat} {u : Nat} (hu : u ∉ S) (h : ∀ y, y ∈ S' ↔ y = u ∨ y ∈ S) : ∀ N : List Nat, u ∈ N → usum f S' N + f u ≤ usum f S N
  | y :: N, m => by
    have le := usum_le (f := f) (fun y hy => (h y).mpr (.inr hy)) N
    unfold usum
    by_cases e : y = u
    · subst e
      rw [if_neg hu, if_pos ((h y).mpr (.inl rfl))]
      omega
    · have ih := usum_more (f := f) hu h N ((List.mem_cons.mp m).resolve_left fun z => e z.symm)
      by_cases c : y ∈ S
      · rw [if_pos c, if_pos ((h y).mpr (.inr c))]
        omega
      · rw [if_neg c, if_neg (fun z => ((h y).mp z).elim e c)]
        omega
theorem usum_one (S : List Nat) : ∀ N : List Nat, usum (fun _ => 1) S N ≤ N.length
  | [] => Nat.le_refl _
  | y :: N => by
    have ih := usum_one S N
    unfold usum
    show _ ≤ N.length + 1
    split <;> omega
structure Seen (ks : List (Key × V)) (N S : List Nat) : Prop where
  i : ∀ y : Nat, (valV ks (Sum.inl (y : Int))).isSome = true ↔ y ∈ S
  n : ks.length + usum (fun _ => 1) S N ≤ N.length
  m : S.length ≤ ks.length
theorem Seen.congr {ks : List (Key × V)} {N S S' : List Nat} (h : Seen ks N S) (k : ∀ y, y ∈ S ↔ y ∈ S') (l : S'.length = S.length) : Seen ks N S' :=
  ⟨fun y => (h.i y).trans (k y), by rw [usum_congr k N]; exact h.n, by rw [l]; exact h.m⟩
theorem Seen.put {ks : List (Key × V)} {N S S' : List Nat} {u : Nat} (h : Seen ks N S) (hu : u ∉ S) (uN : u ∈ N) (k : ∀ y, y ∈ S' ↔ y = u ∨ y ∈ S) (l : S'.length = S.length + 1) (v : V) : Seen (putK ks (Sum.inl (u : Int)) v) N S' := by
  have hv : valV ks (Sum.inl (u : Int)) = none := by
    cases e : valV ks (Sum.inl (u : Int)) with
    | none => rfl
    | some w => exact absurd ((h.i u).mp (by rw [e]; rfl)) hu
  have hl : (putK ks (Sum.inl (u : Int)) v).length = ks.length + 1 := by
    rw [putK_new v hv, List.length_append]
    rfl
  refine ⟨fun y => ?_, ?_, ?_⟩
  · rw [valV_put, k y]
    by_cases e : y = u
    · subst e
      rw [if_pos rfl]
      exact ⟨fun _ => .inl rfl, fun _ => rfl⟩
    · rw [if_neg (fun z : (Sum.inl (y : Int) : Key) = Sum.inl (u : Int) => e (by have := Sum.inl.inj z; omega)), h.i y]
      exact ⟨.inr, fun z => z.resolve_left e⟩
  · have := usum_more (f := fun _ => 1) hu k N uN
    have := h.n
    omega
  · have := h.m
    omega

/-! ### the nodes asked for -/
theorem vn_snoc' (xs : List Nat) (x : Nat) : vn xs ++ [V.int (x : Nat)] = vn (xs ++ [x]) := by
  unfold vn
  rw [List.map_append]
  rfl
def fnodes (n : Net) : List Nat := (List.range n.starts.length).map fun k => 1 + n.ins + k
theorem fnodes_mem {n : Net} {x : Nat} : x ∈ fnodes n ↔ n.ins < x ∧ x < n.base := by
  unfold fnodes Net.base
  rw [List.mem_map]
  constructor
  · rintro ⟨k, hk, rfl⟩
    have := List.mem_range.mp hk
    omega
  · rintro ⟨h1, h2⟩
    exact ⟨x - 1 - n.ins, List.mem_range.mpr (by omega), by omega⟩
theorem reach_below {n : Net} {x y : Nat} (h : Reach n x) (b : Below n x y) : Reach n y := by
  induction b with
  | refl => exact h
  | @kid y z _ hz ih =>
    unfold kids at hz
    by_cases c : y < n.base
    · rw [if_pos c] at hz
      cases hz
    · rw [if_neg c] at hz
      cases e : n.gates[y - n.base]? with
      | none =>
        rw [e] at hz
        cases hz
      | some g =>
        rw [e] at hz
        rw [show y = n.base + (y - n.base) by omega] at ih
        rcases List.mem_cons.mp hz with rfl | hz
        · exact .kid1 ih e
        · rw [List.mem_singleton.mp hz]
          exact .kid2 ih e
theorem sorted_len {m : Nat} : ∀ {ys : List Nat} {a : Nat}, ys.Pairwise (· < ·) → (∀ y ∈ ys, a ≤ y ∧ y < m) → ys.length ≤ m - a
  | [], _, _, _ => Nat.zero_le _
  | y :: ys, a, p, h => by
    obtain ⟨p1, p2⟩ := List.pairwise_cons.mp p
    have hy := h y List.mem_cons_self
    have := sorted_len (a := y + 1) p2 fun z hz => ⟨p1 z hz, (h z (List.mem_cons_of_mem _ hz)).2⟩
    show ys.length + 1 ≤ m - a
    omega
/-- what is known while the nodes are looked for -/
structure NI (n : Net) (ks : List (Key × V)) (S lits : List Nat) : Prop where
  seen : Seen ks (fnodes n) S
  r : ∀ y ∈ S, Reach n y
  l : ∀ l ∈ lits, Reach n (l / 2) ∧ l < 2 * n.many
  o : ∀ l ∈ n.outs, l ∈ lits
  x : ∀ k l, 1 + n.ins + k ∈ S → n.nexts[k]? = some l → l ∈ lits
  few : lits.length ≤ n.outs.length + S.length
theorem NI.all {n : Net} {ks : List (Key × V)} {S lits ys : List Nat} (h : NI n ks S lits) (hy : ∀ y, y ∈ ys ↔ ∃ l ∈ lits, Below n (l / 2) y) (no : ∀ y ∈ ys, n.ins < y → y < n.base → y ∈ S) (y : Nat) : y ∈ ys ↔ Reach n y := by
  constructor
  · intro m
    obtain ⟨l, hl, b⟩ := (hy y).mp m
    exact reach_below (h.l l hl).1 b
  · intro r
    induction r with
    | @out l m => exact (hy _).mpr ⟨l, h.o l m, .refl⟩
    | @next k l r hk e ih => exact (hy _).mpr ⟨l, h.x k l (no _ ih (by omega) (by unfold Net.base; omega)) e, .refl⟩
    | @kid1 j g r e ih =>
      obtain ⟨l, hl, b⟩ := (hy _).mp ih
      refine (hy _).mpr ⟨l, hl, .kid b ?_⟩
      unfold kids
      rw [if_neg (by omega), show n.base + j - n.base = j by omega, e]
      exact List.mem_cons_self
    | @kid2 j g r e ih =>
      obtain ⟨l, hl, b⟩ := (hy _).mp ih
      refine (hy _).mpr ⟨l, hl, .kid b ?_⟩
      unfold kids
      rw [if_neg (by omega), show n.base + j - n.base = j by omega, e]
      exact List.mem_cons_of_mem _ List.mem_cons_self
theorem NI.put {n : Net} {ks : List (Key × V)} {S lits : List Nat} {u l : Nat} (kd : Kind n) (h : NI n ks S lits) (hu : u ∉ S) (r : Reach n u) (u1 : n.ins < u) (u2 : u < n.base) (e : n.nexts[u - 1 - n.ins]? = some l) (v : V) :
    NI n (putK ks (Sum.inl (u : Int)) v) (S ++ [u]) (lits ++ [l]) := by
  have lt := kd.nx _ (List.mem_of_getElem? e)
  have rl : Reach n (l / 2) := .next (k := u - 1 - n.ins) (by rw [show 1 + n.ins + (u - 1 - n.ins) = u by omega]; exact r) (by unfold Net.base at u2; omega) e
  refine ⟨h.seen.put hu (fnodes_mem.mpr ⟨u1, u2⟩) (fun y => ?_) (by rw [List.length_append]; rfl) v, ?_, ?_, fun l' hl' => List.mem_append_left _ (h.o l' hl'), fun k l' hk hl' => ?_, ?_⟩
  · rw [List.mem_append, List.mem_singleton]
    exact Or.comm
  · exact mem_snoc h.r r
  · exact mem_snoc h.l ⟨rl, lt⟩
  · rcases List.mem_append.mp hk with hk | hk
    · exact List.mem_append_left _ (h.x k l' hk hl')
    · have := List.mem_singleton.mp hk
      have : k = u - 1 - n.ins := by omega
      subst this
      rw [e] at hl'
      cases hl'
      exact List.mem_append_right _ List.mem_cons_self
  · have := h.few
    rw [List.length_append, List.length_append]
    show lits.length + 1 ≤ n.outs.length + (S.length + 1)
    omega
def sp__needed_nodes (K : PySem.W.Frag) : Sp := fun vs H Q _ => ∃ (a : Addr) (n : Net), vs = [.ref a] ∧ Dv H (.ref a) n ∧ Kind n ∧ n.many ≤ 1000 ∧ n.outs.length ≤ 100 ∧
  ∀ H' q ys, Same H H' → H q = none → H' q = some (.lst (vn ys)) → ys.Pairwise (· < ·) → (∀ y, y ∈ ys ↔ Reach n y) → Q (.ref q) H'
theorem ok__needed_nodes {P : Program} {w : World} {K : PySem.W.Frag} {mg : Str → Option Value} {base : Heap} {C_Builder : Addr} {f fneeded fbase_of : Addr} {fd fdneeded fdbase_of : FuncData} (F : Fun K "_needed_nodes" "_needed_nodes" s__needed_nodes f fd) (T : Txt K mg C_Builder)
    (G_needed : FnOk P w K mg base CX0 3 fneeded fdneeded ["net", "literals"] (sp_needed K)) (D_needed : Def K mg "needed" fneeded fdneeded ["net", "literals"])
    (G_base_of : FnOk P w K mg base CX0 1 fbase_of fdbase_of ["net"] (sp_base_of K)) (D_base_of : Def K mg "base_of" fbase_of fdbase_of ["net"]) :
    FnOk P w K mg base CX0 4 f fd ["net"] (sp__needed_nodes K) := by
  refine F.ok sc_needed_nodes (fun vs H Q E h => ?_) (fun cdv A outer s H vs Q E hr h => ?_)
  · obtain ⟨a, n, rfl, _⟩ := h
    rfl
  · obtain ⟨a, n, rfl, hn, kd, few, ol, q⟩ := h
    have hn0 := hn
    obtain ⟨_, aS, aG, aN, aO, e, hA, hS, hG, hN, hO⟩ := hn.net_inv
    cases e
    obtain ⟨_, e, hN⟩ := hN.natl_inv
    cases e
    obtain ⟨_, e, hO⟩ := hO.natl_inv
    cases e
    refine ⟨_, (pss_cons (ps_asg (pv 0) (pg_tup (by rfl) (pgs_cons (pg_name (i := 1) sc_needed_nodes.nd rfl (Or.inl rfl)) (pgs_cons (pg_name (i := 2) sc_needed_nodes.nd rfl (Or.inr rfl)) (pgs_cons (pg_name (i := 1) sc_needed_nodes.nd rfl (Or.inl rfl)) (pgs_cons (pg_name (i := 1) sc_needed_nodes.nd rfl (Or.inl rfl)) (pgs_cons (pg_name (i := 3) sc_needed_nodes.nd rfl (Or.inl rfl)) (pgs_cons (pg_name (i := 4) sc_needed_nodes.nd rfl (Or.inl rfl)) pgs_nil))))))))
      (pss_cons (ps_set (i := 5) sc_needed_nodes.nd rfl (.inl rfl) (pe_callTy call_list_of (by rfl) T.m_list (by decide +kernel) (pa_cons (pv 4) pa_nil)))
      (pss_cons (ps_set (i := 6) sc_needed_nodes.nd rfl (.inr rfl) pe_dnewK)
      (pss_one (ps_while PassesOwn.never (pt_val pe_bl) (pss_cons (ps_set (i := 7) sc_needed_nodes.nd rfl (.inl rfl) (pe_call G_needed (hr.mono (by omega)) (by rfl) D_needed.m D_needed.k D_needed.b .nil pass0 (pa_cons (pv 0) (pa_cons (pv 5) pa_nil))))
      (pss_cons (ps_setLc (i := 9) (own := [("node", 8)]) (g := gName 8) rfl sc_needed_nodes.nd rfl rfl (sw_true rfl rfl rfl (by decide +kernel)) (pi_list (pv 7)) (blkOk_by (N := N__needed_nodes) (sc := defScope s__needed_nodes) (by decide +kernel)) (fun _ _ _ _ _ => (pg_name (i := 8) sc_needed_nodes.nd rfl (Or.inl rfl))) (fun _ _ _ _ _ => (pts_one (PW.pt (pw_and (pt_chain op_lt op_lt (pv 2) (pv 8) (pe_call G_base_of (hr.mono (by omega)) (by rfl) D_base_of.m D_base_of.k D_base_of.b .nil pass0 (pa_cons (pv 0) pa_nil))) (pw_and1 (pt_cmp (pc_dnotin (hu_of hr) (pv 8) (pv 6)))))))) (fun _ _ _ _ _ => (pv 8)))
      (pss_cons (ps_if (pt_not (pt_truthK (K := K) rfl (pv 9) (by intro _; rfl))) (pss_one (ps_ret (pv 7))) pss_nil)
      (pss_one (ps_for PassesOwn.never rfl (pi_list (pv 9)) (pg_name (i := 8) sc_needed_nodes.nd rfl (Or.inl rfl)) (pss_cons (ps_dput (hu_of hr) (pv 6) (pv 8) pe_bl rfl)
      (pss_one (ps_expr (pe_bm PySem.F.plainAttrs_list PySem.F.slot_list_append PySem.F.type_list_append mt_append (pv 5) (pa_cons (pe_ix (r := rIxL K) ix_list (pv 3) (pe_op op_sub (pe_op op_sub (pv 8) pe_int) (pv 2)) (fun _ _ => rfl)) pa_nil))))))))))))))), ?_⟩
    refine ⟨_, rfl, a, _, rfl, SqT.of hA, rfl, _, _, rfl, _, _, rfl, _, _, rfl, _, _, rfl, _, _, rfl, _, _, rfl, rfl, ?_⟩
    refine ⟨_, rfl, aO, _, rfl, .inl (SqL.of hO), fun L nL => ?_⟩
    have s1 := same_new (o := .lst (vn n.outs)) nL
    have eL : (upd H L (.lst (vn n.outs))) L = some (.lst (vn n.outs)) := upd_same
    generalize (upd H L (.lst (vn n.outs))) = H1 at s1 eL ⊢
    refine fun D nD => ?_
    have LD : L ≠ D := ne_of_none eL nD
    have s2 := same_new (o := .dK []) nD
    have eD : (upd H1 D (.dK [])) D = some (.dK []) := upd_same
    have eL := s2 _ _ eL
    have nD0 : H D = none := none_of s1 nD
    have s2 := s1.trans s2
    generalize (upd H1 D (.dK [])) = H2 at s2 eL eD ⊢
    have fit : Fits n := ⟨by omega, kd.g⟩
    have eb : n.many = n.base + n.gates.length := rfl
    have fl : (fnodes n).length ≤ 1000 := by
      unfold fnodes
      rw [List.length_map, List.length_range]
      have : n.base = 1 + n.ins + n.starts.length := rfl
      omega
    have ni0 : NI n [] [] n.outs := by
      refine ⟨⟨fun y => ⟨fun z => by simp [valV_nil] at z, fun z => by cases z⟩, by have := usum_one [] (fnodes n); show 0 + _ ≤ _; omega, Nat.le_refl _⟩, (fun y hy => by cases hy), fun l hl => ⟨.out hl, kd.ox l hl⟩, fun l hl => hl, (fun k l hk => by cases hk), by show _ ≤ _ + 0; omega⟩
    have low : ∀ {Hx : Hp}, Same (fz L D D H) (fz L D D Hx) → Same H Hx := fun k b o z => (fz_some (k _ _ (fz_of (ne_of_none z nL) (ne_of_none z nD0) (ne_of_none z nD0) z))).2
    refine ⟨fun m σ Hx => ∃ (y7 y8 y9 : Option V) (S lits : List Nat) (ks : List (Key × V)), σ = [some (.ref a), some (.ref aG), some (.int (n.ins : Nat)), some (.ref aN), some (.ref aO), some (.ref L), some (.ref D), y7, y8, y9] ∧ Same (fz L D D H) (fz L D D Hx) ∧ Hx L = some (.lst (vn lits)) ∧ Hx D = some (.dK ks) ∧ NI n ks S lits ∧ m = usum (fun _ => 1) S (fnodes n), ⟨_, none, none, none, [], n.outs, [], rfl, fz_mono s2, eL, eD, ni0, rfl⟩, ?_⟩
    rintro m σ Hx ⟨y7, y8, y9, S, lits, ks, rfl, kx, hL, hD, ni, rfl⟩
    have big : ks.length ≤ 1000 ∧ S.length ≤ 1000 := by
      have := ni.seen.n
      have := ni.seen.m
      omega
    refine ⟨_, rfl, iteT ⟨fun σ' H' => ∃ m', m' < usum (fun _ => 1) S (fnodes n) ∧ ∃ (y7 y8 y9 : Option V) (S lits : List Nat) (ks : List (Key × V)), σ' = [some (.ref a), some (.ref aG), some (.int (n.ins : Nat)), some (.ref aN), some (.ref aO), some (.ref L), some (.ref D), y7, y8, y9] ∧ Same (fz L D D H) (fz L D D H') ∧ H' L = some (.lst (vn lits)) ∧ H' D = some (.dK ks) ∧ NI n ks S lits ∧ m' = usum (fun _ => 1) S (fnodes n), fun σ' H' z => z, ?_⟩⟩
    refine ⟨_, rfl, _, rfl, .ref a, n, L, lits, rfl, hn0.same (low kx), hL, fit, fun l hl => (ni.l l hl).2, fun H3 r ys s3 nr er so hy => ?_⟩
    have hL3 := s3 _ _ hL
    have hD3 := s3 _ _ hD
    have k3 := kx.trans (fz_mono s3)
    refine ⟨_, rfl, r, rfl, ⟨_, SqL.of er⟩, fun C nC => ?_⟩
    have rea : ∀ y ∈ ys, Reach n y := fun y m => by
      obtain ⟨l, hl, b⟩ := (hy y).mp m
      exact reach_below (ni.l l hl).1 b
    have yl : ys.length ≤ 1000 := by
      have := sorted_len (m := n.many) (a := 0) so fun y m => ⟨Nat.zero_le _, reach_lt kd (rea y m)⟩
      omega
    refine lc_list (xs := vn ys) (fun i Hz => Same H3 Hz ∧ Hz C = some (.lst (vn ((ys.take i).filter fun y => decide (n.ins < y ∧ y < n.base ∧ y ∉ S))))) ⟨same_new nC, upd_same⟩ (fun i Hz _ h => SqL.of (h.1 _ _ er)) ?_ ?_
    · rintro i v Hz hv ⟨sz, hC⟩
      obtain ⟨y, hyi, rfl⟩ : ∃ x, ys[i]? = some x ∧ v = V.int (x : Nat) := by
        unfold vn at hv
        rw [List.getElem?_map] at hv
        obtain ⟨x, e1, e2⟩ := Option.map_eq_some_iff.mp hv
        exact ⟨x, e1, e2.symm⟩
      have il := (List.getElem?_eq_some_iff.mp hyi).1
      have fil : ∀ b : Bool, decide (n.ins < y ∧ y < n.base ∧ y ∉ S) = b → (ys.take (i + 1)).filter (fun y => decide (n.ins < y ∧ y < n.base ∧ y ∉ S)) = (ys.take i).filter (fun y => decide (n.ins < y ∧ y < n.base ∧ y ∉ S)) ++ (if b = true then [y] else []) := fun b hb => by
        rw [take_snoc hyi, List.filter_append, List.filter_cons, hb]
        cases b <;> rfl
      have skip : decide (n.ins < y ∧ y < n.base ∧ y ∉ S) = false → Same H3 Hz ∧ Hz C = some (.lst (vn ((ys.take (i + 1)).filter fun y => decide (n.ins < y ∧ y < n.base ∧ y ∉ S)))) := fun h => by
        rw [fil _ h]
        exact ⟨sz, by rw [hC]; congr 3; exact (List.append_nil _).symm⟩
      refine ⟨rfl, _, rfl, _, rfl, _, _, rfl, rfl, _, rfl, ?_⟩
      rw [show decide (((n.ins : Nat) : Int) < ((y : Nat) : Int)) = decide (n.ins < y) from decide_eq_decide.mpr (by omega)]
      by_cases c1 : n.ins < y
      · rw [decide_eq_true c1]
        refine iteT ⟨_, rfl, .ref a, n, rfl, hn0.same ((low k3).trans sz), _, _, rfl, rfl, _, rfl, ?_⟩
        rw [show decide (((y : Nat) : Int) < ((n.base : Nat) : Int)) = decide (y < n.base) from decide_eq_decide.mpr (by omega)]
        by_cases c2 : y < n.base
        · rw [decide_eq_true c2]
          refine iteT ⟨_, rfl, _, rfl, D, _, rfl, DGet.k (k := Sum.inl (y : Int)) (sz _ _ hD3), _, rfl, ?_⟩
          by_cases c3 : y ∈ S
          · rw [(ni.seen.i y).mpr c3]
            exact iteF (skip (decide_eq_false fun z => z.2.2 c3))
          · rw [show (valV ks (Sum.inl (y : Int))).isSome = false from Bool.eq_false_iff.mpr fun z => c3 ((ni.seen.i y).mp z)]
            refine iteT ⟨_, rfl, _, hC, ?_, same_mut sz nC, ?_⟩
            · rw [vn_len]
              refine small1000 (Nat.le_trans (List.length_filter_le _ _) ?_)
              rw [List.length_take]
              omega
            · rw [upd_same, fil true (decide_eq_true ⟨c1, c2, c3⟩), if_pos rfl, vn_snoc']
        · rw [decide_eq_false c2]
          exact iteF (iteF (skip (decide_eq_false fun z => c2 z.2.1)))
      · rw [decide_eq_false c1]
        exact iteF ⟨_, rfl, iteF (iteF (skip (decide_eq_false fun z => c1 z.1)))⟩
    · rintro Hz ⟨sz, hC⟩
      rw [vn_len, List.take_length] at hC
      have fdm : ∀ u, u ∈ ys.filter (fun y => decide (n.ins < y ∧ y < n.base ∧ y ∉ S)) ↔ u ∈ ys ∧ n.ins < u ∧ u < n.base ∧ u ∉ S := fun u => by
        rw [List.mem_filter, decide_eq_true_eq]
      have fso : (ys.filter (fun y => decide (n.ins < y ∧ y < n.base ∧ y ∉ S))).Pairwise (· < ·) := so.filter _
      generalize ys.filter (fun y => decide (n.ins < y ∧ y < n.base ∧ y ∉ S)) = fd at hC fdm fso
      have kz := k3.trans (fz_mono sz)
      have hLz := sz _ _ hL3
      have hDz := sz _ _ hD3
      have CL : C ≠ L := (ne_of_none hL3 nC).symm
      have CD : C ≠ D := (ne_of_none hD3 nC).symm
      refine ⟨_, rfl, !(vn fd).isEmpty, .inl ⟨_, SqL.of hC, rfl⟩, ?_⟩
      cases fd with
      | nil =>
        refine iteT ⟨_, rfl, q Hz r ys (low kz) (none_of (low kx) nr) (sz _ _ er) so (ni.all hy fun y m h1 h2 => ?_)⟩
        by_cases c : y ∈ S
        · exact c
        · exact absurd ((fdm y).mpr ⟨m, h1, h2, c⟩) (by simp)
      | cons u0 fd0 =>
        refine iteF ⟨_, rfl, C, rfl, ⟨_, SqL.of hC⟩, for_list (xs := vn (u0 :: fd0)) (fun i σ Hy => ∃ (y8 : Option V) (lits' : List Nat) (ks' : List (Key × V)), σ = [some (.ref a), some (.ref aG), some (.int (n.ins : Nat)), some (.ref aN), some (.ref aO), some (.ref L), some (.ref D), some (.ref r), y8, some (.ref C)] ∧ Same (fz L D D H) (fz L D D Hy) ∧ Hy C = some (.lst (vn (u0 :: fd0))) ∧ Hy L = some (.lst (vn lits')) ∧ Hy D = some (.dK ks') ∧ NI n ks' (S ++ (u0 :: fd0).take i) lits')
          ⟨_, lits, ks, rfl, kz, hC, hLz, hDz, by rw [List.take_zero, List.append_nil]; exact ni⟩ (fun i σ Hy _ ⟨_, _, _, _, _, h, _⟩ => SqL.of h) ?_ ?_⟩
        · rintro i v σ Hy hv ⟨y8', lits', ks', rfl, ky, hCy, hLy, hDy, niy⟩
          obtain ⟨u, hu, rfl⟩ : ∃ x, (u0 :: fd0)[i]? = some x ∧ v = V.int (x : Nat) := by
            unfold vn at hv
            rw [List.getElem?_map] at hv
            obtain ⟨x, e1, e2⟩ := Option.map_eq_some_iff.mp hv
            exact ⟨x, e1, e2.symm⟩
          obtain ⟨uy, u1, u2, uS⟩ := (fdm u).mp (List.mem_of_getElem? hu)
          have hu2 := List.getElem?_eq_some_iff.mp hu
          have unew : u ∉ S ++ (u0 :: fd0).take i := fun m => by
            rcases List.mem_append.mp m with m | m
            · exact uS m
            · obtain ⟨j, hj, e⟩ := List.mem_iff_getElem.mp m
              have jl : j < i := by
                rw [List.length_take] at hj
                omega
              have := List.pairwise_iff_getElem.mp fso j i (by have := hu2.1; omega) hu2.1 jl
              rw [List.getElem_take] at e
              rw [e, hu2.2] at this
              exact absurd this (Nat.lt_irrefl _)
          have kl : u - 1 - n.ins < n.nexts.length := by
            rw [kd.nl]
            unfold Net.base at u2
            omega
          have hx := List.getElem?_eq_getElem kl
          generalize n.nexts[u - 1 - n.ins] = l at hx
          have ni2 := niy.put kd unew (rea u uy) u1 u2 hx (.bl true)
          have bigy : ks'.length ≤ 1000 ∧ lits'.length ≤ 2000 := by
            have := niy.seen.n
            have := niy.seen.m
            have := niy.few
            omega
          have hNy := low ky _ _ hN
          refine ⟨_, rfl, _, rfl, D, _, rfl, DPut.k (k := Sum.inl (u : Int)) hDy (Nat.lt_of_le_of_lt bigy.1 (by decide)), ?_⟩
          refine ⟨_, rfl, .inl ⟨rfl, _, SqL.of (by rw [upd_ne LD]; exact hLy)⟩, _, rfl, _, rfl, _, _, rfl, rfl, _, rfl, _, _, rfl, rfl, aN, _, _, _, rfl, rfl, SqL.of (by rw [upd_ne (ne_of_none hN nD0)]; exact hNy), (by rw [show ((u : Nat) : Int) - 1 - ((n.ins : Nat) : Int) = ((u - 1 - n.ins : Nat) : Int) by omega]; exact atI_nat (vn_get hx)), L, _, _, rfl, rfl, by rw [upd_ne LD]; exact hLy, small64k (by rw [vn_len]; omega), ?_⟩
          rw [vn_snoc']
          refine ⟨_, lits' ++ [l], _, rfl, ky.trans ((fz_mut (.inr (.inl rfl))).trans (fz_mut (.inl rfl))), by rw [upd_ne CL, upd_ne CD]; exact hCy, upd_same, by rw [upd_ne LD.symm, upd_same], ?_⟩
          rw [take_snoc hu, ← List.append_assoc]
          exact ni2
        · rintro σ Hy ⟨y8', lits', ks', rfl, ky, hCy, hLy, hDy, niy⟩
          rw [vn_len, List.take_length] at niy
          obtain ⟨_, u1, u2, uS⟩ := (fdm u0).mp List.mem_cons_self
          have m1 := usum_more (f := fun _ => 1) (S' := u0 :: S) uS (fun y => List.mem_cons) (fnodes n) (fnodes_mem.mpr ⟨u1, u2⟩)
          have m2 := usum_le (f := fun _ => 1) (S := u0 :: S) (S' := S ++ u0 :: fd0) (fun y hy => by
            rcases List.mem_cons.mp hy with rfl | hy
            · exact List.mem_append_right _ List.mem_cons_self
            · exact List.mem_append_left _ hy) (fnodes n)
          exact ⟨_, by omega, _, _, _, _, lits', ks', rfl, ky, hLy, hDy, niy, rfl⟩

end K38
namespace K38
open PySem PySem.Spec PyProof.Rows L2 V0
/-! ### literals told anew -/
theorem dget_k {H : Hp} {a : Addr} {kvs : List (Key × V)} {x : Nat} {v : V} (e : H a = some (.dK kvs)) (h : valV kvs (Sum.inl (x : Int)) = some v) : DGet H a (.int (x : Int)) (some v) := by
  rw [← h]
  exact DGet.k (k := Sum.inl (x : Int)) e
def sp__renumbered (K : PySem.W.Frag) : Sp := fun vs H Q _ => ∃ (r d : Addr) (lits : List Nat) (ks : List (Key × V)) (f : Nat → Nat), vs = [.ref r, .ref d] ∧ (H r = some (.lst (vn lits)) ∨ H r = some (.tup (vn lits))) ∧ lits.length ≤ 1000 ∧ H d = some (.dK ks) ∧
  (∀ l ∈ lits, valV ks (Sum.inl ((l / 2 : Nat) : Int)) = some (.int (f (l / 2) : Nat))) ∧ ∀ H' q, Same H H' → H q = none → H' q = some (.lst (vn (lits.map fun l => 2 * f (l / 2) + l % 2))) → Q (.ref q) H'
theorem ok__renumbered {P : Program} {w : World} {K : PySem.W.Frag} {mg : Str → Option Value} {base : Heap} {C_Builder : Addr} {f  : Addr} {fd  : FuncData} (F : Fun K "_renumbered" "_renumbered" s__renumbered f fd) (T : Txt K mg C_Builder) :
    FnOk P w K mg base CX0 1 f fd ["literals", "numbers"] (sp__renumbered K) := by
  refine F.ok sc_renumbered (fun vs H Q E h => ?_) (fun cdv A outer s H vs Q E hr h => ?_)
  · obtain ⟨r, d, lits, ks, f, rfl, _⟩ := h
    rfl
  · obtain ⟨r, d, lits, ks, f, rfl, hR, few, hd, fnd, q⟩ := h
    rcases hR with hR | hR
    · refine ⟨_, (pss_one (ps_ret (pe_lc (own := [("literal", 2)]) (g := gName 2) (tt := tYes) rfl sc_renumbered.nd (pi_list (pv 0)) (blkOk_by (N := N__renumbered) (sc := defScope s__renumbered) (by decide +kernel)) (fun _ _ _ _ _ => (pg_name (i := 2) sc_renumbered.nd rfl (Or.inl rfl))) (fun _ _ _ _ _ => pts_nil) (fun _ _ _ _ _ => (pe_op op_add (pe_op op_mul pe_int (pe_dget (hu_of hr) (pv 1) (pe_op op_shr (pv 2) pe_int) (fun _ _ => rfl))) (pe_op op_and (pv 2) pe_int)))))), ?_⟩
      refine ⟨_, rfl, r, rfl, ⟨_, SqL.of hR⟩, fun D nD => lc_list (xs := vn lits) (fun i Hx => Same H Hx ∧ Hx D = some (.lst (vn ((lits.take i).map fun l => 2 * f (l / 2) + l % 2)))) ⟨same_new nD, upd_same⟩ (fun i Hx _ h => SqL.of (h.1 _ _ hR)) ?_ ?_⟩
      · rintro i v Hx hv ⟨sx, hD⟩
        obtain ⟨l, hl, rfl⟩ : ∃ x, lits[i]? = some x ∧ v = V.int (x : Nat) := by
          unfold vn at hv
          rw [List.getElem?_map] at hv
          obtain ⟨x, e1, e2⟩ := Option.map_eq_some_iff.mp hv
          exact ⟨x, e1, e2.symm⟩
        have il := (List.getElem?_eq_some_iff.mp hl).1
        refine ⟨rfl, _, rfl, _, rfl, _, _, rfl, rfl, (show (0 : Int) ≤ 1 by decide), d, _, rfl, dget_k (sx _ _ hd) (fnd l (List.mem_of_getElem? hl)), _, _, rfl, rfl, .inl ⟨by decide, by decide⟩, _, rfl, _, _, rfl, rfl, _, _, rfl, rfl, _, hD, by rw [vn_len, List.length_map, List.length_take]; exact small1000 (by omega), same_mut sx nD, ?_⟩
        rw [upd_same, take_snoc hl, List.map_append]
        have e : V.int ((2 : Int) * ((f (l / 2) : Nat) : Int) + Builtin.bitAnd ((l : Nat) : Int) 1) = V.int ((2 * f (l / 2) + l % 2 : Nat) : Int) := by
          rw [band_one]
          congr 1
        show some (HO.lst (vn _ ++ [V.int ((2 : Int) * ((f (l / 2) : Nat) : Int) + Builtin.bitAnd ((l : Nat) : Int) 1)])) = _
        rw [e, vn_snoc']
        rfl
      · rintro Hx ⟨sx, hD⟩
        rw [vn_len, List.take_length] at hD
        exact q Hx D sx nD hD
    · refine ⟨_, (pss_one (ps_ret (pe_lc (own := [("literal", 2)]) (g := gName 2) (tt := tYes) rfl sc_renumbered.nd (pi_tup (pv 0)) (blkOk_by (N := N__renumbered) (sc := defScope s__renumbered) (by decide +kernel)) (fun _ _ _ _ _ => (pg_name (i := 2) sc_renumbered.nd rfl (Or.inl rfl))) (fun _ _ _ _ _ => pts_nil) (fun _ _ _ _ _ => (pe_op op_add (pe_op op_mul pe_int (pe_dget (hu_of hr) (pv 1) (pe_op op_shr (pv 2) pe_int) (fun _ _ => rfl))) (pe_op op_and (pv 2) pe_int)))))), ?_⟩
      refine ⟨_, rfl, r, rfl, ⟨_, SqT.of hR⟩, fun D nD => lc_tup (xs := vn lits) (fun i Hx => Same H Hx ∧ Hx D = some (.lst (vn ((lits.take i).map fun l => 2 * f (l / 2) + l % 2)))) ⟨same_new nD, upd_same⟩ (fun i Hx _ h => SqT.of (h.1 _ _ hR)) ?_ ?_⟩
      · rintro i v Hx hv ⟨sx, hD⟩
        obtain ⟨l, hl, rfl⟩ : ∃ x, lits[i]? = some x ∧ v = V.int (x : Nat) := by
          unfold vn at hv
          rw [List.getElem?_map] at hv
          obtain ⟨x, e1, e2⟩ := Option.map_eq_some_iff.mp hv
          exact ⟨x, e1, e2.symm⟩
        have il := (List.getElem?_eq_some_iff.mp hl).1
        refine ⟨rfl, _, rfl, _, rfl, _, _, rfl, rfl, (show (0 : Int) ≤ 1 by decide), d, _, rfl, dget_k (sx _ _ hd) (fnd l (List.mem_of_getElem? hl)), _, _, rfl, rfl, .inl ⟨by decide, by decide⟩, _, rfl, _, _, rfl, rfl, _, _, rfl, rfl, _, hD, by rw [vn_len, List.length_map, List.length_take]; exact small1000 (by omega), same_mut sx nD, ?_⟩
        rw [upd_same, take_snoc hl, List.map_append]
        have e : V.int ((2 : Int) * ((f (l / 2) : Nat) : Int) + Builtin.bitAnd ((l : Nat) : Int) 1) = V.int ((2 * f (l / 2) + l % 2 : Nat) : Int) := by
          rw [band_one]
          congr 1
        show some (HO.lst (vn _ ++ [V.int ((2 : Int) * ((f (l / 2) : Nat) : Int) + Builtin.bitAnd ((l : Nat) : Int) 1)])) = _
        rw [e, vn_snoc']
        rfl
      · rintro Hx ⟨sx, hD⟩
        rw [vn_len, List.take_length] at hD
        exact q Hx D sx nD hD

end K38
namespace K38
open PySem PySem.Spec PyProof.Rows L2 V0
/-! ### the law's own images -/
def sp__law_image (K : PySem.W.Frag) : Sp := fun vs H Q _ => ∃ (r : Addr) (l w : Nat), vs = [.ref r, .int l] ∧ ((∃ row : List Nat, H r = some (.lst (vn row)) ∧ row[l / 2]? = some w) ∨ ∃ ks : List (Key × V), H r = some (.dK ks) ∧ valV ks (Sum.inl ((l / 2 : Nat) : Int)) = some (.int (w : Nat))) ∧ Q (.int (w ^^^ (l % 2) : Nat)) H
theorem ok__law_image {P : Program} {w : World} {K : PySem.W.Frag} {mg : Str → Option Value} {base : Heap} {C_Builder : Addr} {f  : Addr} {fd  : FuncData} (F : Fun K "_law_image" "_law_image" s__law_image f fd) (T : Txt K mg C_Builder) :
    FnOk P w K mg base CX0 1 f fd ["images", "literal"] (sp__law_image K) := by
  refine F.ok sc_law_image (fun vs H Q E h => ?_) (fun cdv A outer s H vs Q E hr h => ?_)
  · obtain ⟨r, l, w, rfl, _⟩ := h
    rfl
  · obtain ⟨r, l, w, rfl, hR, q⟩ := h
    rcases hR with ⟨row, hR, hw⟩ | ⟨ks, hR, hw⟩
    · refine ⟨_, (pss_cons (ps_set (i := 2) sc_law_image.nd rfl (.inl rfl) (pe_ix (r := rIxL K) ix_list (pv 0) (pe_op op_fdivN (pv 1) pe_int) (fun _ _ => rfl)))
      (pss_one (ps_ret (pe_ifExp (pt_cmpR op_eq (pe_op op_modN (pe_callTy call_int1 (by rfl) T.m_int (by decide +kernel) (pa_cons (pv 1) pa_nil)) pe_int) pe_int (nomark _)) (pe_op op_sub (pe_op op_add (pv 2) pe_int) (pe_op op_mul pe_int (pe_op op_modN (pe_callTy call_int1 (by rfl) T.m_int (by decide +kernel) (pa_cons (pv 2) pa_nil)) pe_int))) (pv 2))))), ?_⟩
      refine ⟨_, rfl, _, rfl, _, _, rfl, rfl, ⟨by decide, by decide⟩, r, _, _, _, rfl, rfl, SqL.of hR, (by rw [nfdiv2]; exact atI_nat (vn_get hw)), ?_⟩
      have fin : Q (.int ((w ^^^ (l % 2) : Nat))) H := q
      refine ⟨_, rfl, .inl ⟨_, rfl, _, _, rfl, rfl, (show (2 : Int) ≠ 0 by decide), rfl, _, rfl, ?_⟩⟩
      simp only [nfmod2]
      rw [show decide (V.int ((l % 2 : Nat) : Int) = V.int 1) = decide (l % 2 = 1) from dec_nat (l % 2) 1]
      by_cases c : l % 2 = 1
      · rw [decide_eq_true c]
        refine iteT ⟨_, rfl, _, _, rfl, rfl, _, rfl, .inl ⟨_, rfl, _, _, rfl, rfl, (show (2 : Int) ≠ 0 by decide), _, _, rfl, rfl, .inl ⟨by decide, by decide⟩, _, _, rfl, rfl, ?_⟩⟩
        have e : ((w : Nat) : Int) + 1 - 2 * (((w : Nat) : Int).fmod 2) = ((w ^^^ (l % 2) : Nat) : Int) := by
          rw [nfmod2, c]
          have h1 := xor_half w 1 (by decide)
          have h2 : (w ^^^ 1) % 2 = (w % 2) ^^^ 1 := by
            rw [show (2 : Nat) = 2 ^ 1 from rfl, Nat.xor_mod_two_pow]
          have h3 : w % 2 = 0 ∨ w % 2 = 1 := by omega
          rcases h3 with h3 | h3
          · rw [h3] at h2 ⊢
            have h2 : (w ^^^ 1) % 2 = 1 := h2
            omega
          · rw [h3] at h2 ⊢
            have h2 : (w ^^^ 1) % 2 = 0 := h2
            omega
        show Q (V.int (((w : Nat) : Int) + 1 - 2 * (((w : Nat) : Int).fmod 2))) H
        rw [e]
        exact fin
      · rw [decide_eq_false c]
        refine iteF ⟨_, rfl, ?_⟩
        rw [show l % 2 = 0 by omega, Nat.xor_zero] at fin
        exact fin
    · refine ⟨_, (pss_cons (ps_set (i := 2) sc_law_image.nd rfl (.inl rfl) (pe_dget (hu_of hr) (pv 0) (pe_op op_fdivN (pv 1) pe_int) (fun _ _ => rfl)))
      (pss_one (ps_ret (pe_ifExp (pt_cmpR op_eq (pe_op op_modN (pe_callTy call_int1 (by rfl) T.m_int (by decide +kernel) (pa_cons (pv 1) pa_nil)) pe_int) pe_int (nomark _)) (pe_op op_sub (pe_op op_add (pv 2) pe_int) (pe_op op_mul pe_int (pe_op op_modN (pe_callTy call_int1 (by rfl) T.m_int (by decide +kernel) (pa_cons (pv 2) pa_nil)) pe_int))) (pv 2))))), ?_⟩
      refine ⟨_, rfl, _, rfl, _, _, rfl, rfl, ⟨by decide, by decide⟩, r, _, rfl, (show DGet H r (.int (((l : Nat) : Int).fdiv 2)) (some (.int (w : Nat))) by rw [nfdiv2]; exact dget_k hR hw), ?_⟩
      have fin : Q (.int ((w ^^^ (l % 2) : Nat))) H := q
      refine ⟨_, rfl, .inl ⟨_, rfl, _, _, rfl, rfl, (show (2 : Int) ≠ 0 by decide), rfl, _, rfl, ?_⟩⟩
      simp only [nfmod2]
      rw [show decide (V.int ((l % 2 : Nat) : Int) = V.int 1) = decide (l % 2 = 1) from dec_nat (l % 2) 1]
      by_cases c : l % 2 = 1
      · rw [decide_eq_true c]
        refine iteT ⟨_, rfl, _, _, rfl, rfl, _, rfl, .inl ⟨_, rfl, _, _, rfl, rfl, (show (2 : Int) ≠ 0 by decide), _, _, rfl, rfl, .inl ⟨by decide, by decide⟩, _, _, rfl, rfl, ?_⟩⟩
        have e : ((w : Nat) : Int) + 1 - 2 * (((w : Nat) : Int).fmod 2) = ((w ^^^ (l % 2) : Nat) : Int) := by
          rw [nfmod2, c]
          have h1 := xor_half w 1 (by decide)
          have h2 : (w ^^^ 1) % 2 = (w % 2) ^^^ 1 := by
            rw [show (2 : Nat) = 2 ^ 1 from rfl, Nat.xor_mod_two_pow]
          have h3 : w % 2 = 0 ∨ w % 2 = 1 := by omega
          rcases h3 with h3 | h3
          · rw [h3] at h2 ⊢
            have h2 : (w ^^^ 1) % 2 = 1 := h2
            omega
          · rw [h3] at h2 ⊢
            have h2 : (w ^^^ 1) % 2 = 0 := h2
            omega
        show Q (V.int (((w : Nat) : Int) + 1 - 2 * (((w : Nat) : Int).fmod 2))) H
        rw [e]
        exact fin
      · rw [decide_eq_false c]
        refine iteF ⟨_, rfl, ?_⟩
        rw [show l % 2 = 0 by omega, Nat.xor_zero] at fin
        exact fin

end K38
namespace K38
open PySem PySem.Spec PyProof.Rows L2 V0
/-! ### without the rest -/
theorem asked_of {n : Net} {ys : List Nat} (so : ys.Pairwise (· < ·)) (h : ∀ y, y ∈ ys ↔ Reach n y) : Asked n (ys.filter (n.ins < ·)) := by
  refine ⟨so.filter _, fun x => ?_⟩
  rw [List.mem_filter, decide_eq_true_eq, h]
  exact And.comm
theorem fls_of (n : Net) (ys : List Nat) : fls n (ys.filter (n.ins < ·)) = (ys.filter fun y => decide (n.ins < y) && decide (y < n.base)).map (· - 1 - n.ins) := by
  unfold fls
  rw [List.filter_filter]
  congr 1
  exact List.filter_congr fun y _ => Bool.and_comm _ _
theorem kepts_of (n : Net) (ys : List Nat) : kepts n (ys.filter (n.ins < ·)) = ys.filter (n.base ≤ ·) := by
  unfold kepts
  rw [List.filter_filter]
  refine List.filter_congr fun y _ => ?_
  by_cases c : n.base ≤ y
  · rw [decide_eq_true c, decide_eq_true (show n.ins < y by unfold Net.base at c; omega)]
    rfl
  · rw [decide_eq_false c]
    rfl
/-- numbers told, the first i nodes walked -/
structure NumI (ins : Nat) (nd : List Nat) (ks : List (Key × V)) : Prop where
  len : ks.length = 1 + ins + nd.length
  lo : ∀ y, y ≤ ins → valV ks (Sum.inl ((y : Nat) : Int)) = some (.int (y : Nat))
  hi : ∀ j y, nd[j]? = some y → valV ks (Sum.inl ((y : Nat) : Int)) = some (.int (1 + ins + j : Nat))
  no : ∀ y, ins < y → y ∉ nd → valV ks (Sum.inl ((y : Nat) : Int)) = none
theorem key_inj {a b : Nat} (h : (Sum.inl (a : Int) : Key) = Sum.inl (b : Int)) : a = b := by
  have := Sum.inl.inj h
  omega
theorem NumI.put {ins u : Nat} {nd : List Nat} {ks : List (Key × V)} (h : NumI ins nd ks) (hu : ins < u) (un : u ∉ nd) : NumI ins (nd ++ [u]) (putK ks (Sum.inl ((u : Nat) : Int)) (.int (ks.length : Nat))) := by
  have e := h.no u hu un
  refine ⟨?_, fun y hy => ?_, fun j y hj => ?_, fun y hy ny => ?_⟩
  · rw [putK_new _ e, List.length_append, List.length_append, h.len]
    rfl
  · rw [valV_put, if_neg (fun z => by have := key_inj z; omega)]
    exact h.lo y hy
  · rw [valV_put]
    rcases get_snoc hj with ⟨_, hj⟩ | ⟨rfl, rfl⟩
    · rw [if_neg (fun z => un (by have := key_inj z; rw [← this]; exact List.mem_of_getElem? hj))]
      exact h.hi j y hj
    · rw [if_pos rfl, h.len]
  · rw [valV_put, if_neg (fun z => ny (by have := key_inj z; rw [this]; exact List.mem_append_right _ List.mem_cons_self))]
    exact h.no y hy fun m => ny (List.mem_append_left _ m)
theorem NumI.told {ins : Nat} {nd : List Nat} {ks : List (Key × V)} (h : NumI ins nd ks) (so : nd.Pairwise (· < ·)) {y : Nat} (hy : y ≤ ins ∨ y ∈ nd) (up : ∀ y ∈ nd, ins < y) : valV ks (Sum.inl ((y : Nat) : Int)) = some (.int (num ins nd y : Nat)) := by
  by_cases c : y ≤ ins
  · rw [h.lo y c]
    unfold num
    rw [if_pos c]
  · have m := hy.resolve_left c
    obtain ⟨j, hj, e⟩ := List.mem_iff_getElem.mp m
    have hj2 : nd[j]? = some y := by rw [List.getElem?_eq_getElem hj, e]
    rw [h.hi j y hj2, num_get so hj2 (up y m)]

end K38
namespace K38
open PySem PySem.Spec PyProof.Rows L2 V0
theorem dc_it {J : It} {n : Nat} {G : Hp → Prop} {Y : Nat → Hp → V → Hp → Prop} (w : Walk J n G Y) {g : TG} {tt : TT} {tk tv : TE} {vs : List Nat} {σ : L2.St} {H1 : Hp} {D : Addr} {Qd : Hp → Prop} (Pv : Nat → Hp → Prop) (h0 : Pv 0 (upd H1 D (.dK []))) (hG : ∀ i H, i ≤ n → Pv i H → G H)
    (hs : ∀ i x H H', i < n → Pv i H → Y i H x H' → g x (wipe σ vs) H' fun σ2 H2 => wipe σ2 vs = wipe σ vs ∧ tt σ2 H2 fun b H3 =>
      if b = true then tk σ2 H3 fun y H4 => tv σ2 H4 fun z H5 => ∃ kvs k, y = kV k ∧ H5 D = some (.dK kvs) ∧ kvs.length < sizeLine ∧ Pv (i + 1) (upd H5 D (.dK (putK kvs k z))) else Pv (i + 1) H3) (hd : ∀ H, Pv n H → Qd H) :
    ∃ W : Nat → Nat → Hp → Prop, (∃ m, W 0 m (upd H1 D (.dK []))) ∧ ∀ i m H, W i m H →
      (J.stop i H ∧ Qd H) ∨ (J.go i H ∧ ∃ Nx : Hp → Prop, (∀ H', Nx H' → ∃ m', m' < m ∧ W (i + 1) m' H') ∧ ∀ x H', J.yld i H x H' → g x (wipe σ vs) H' fun σ2 H2 => wipe σ2 vs = wipe σ vs ∧ tt σ2 H2 fun b H3 =>
        if b = true then tk σ2 H3 fun y H4 => tv σ2 H4 fun z H5 => ∃ kvs k, y = kV k ∧ H5 D = some (.dK kvs) ∧ kvs.length < sizeLine ∧ Nx (upd H5 D (.dK (putK kvs k z))) else Nx H3) := by
  refine ⟨fun i m H => m = n - i ∧ i ≤ n ∧ Pv i H, ⟨n, by simp, Nat.zero_le _, h0⟩, ?_⟩
  rintro i m H ⟨rfl, hi, p⟩
  have q := hG i H hi p
  by_cases hlt : i < n
  · exact .inr ⟨w.goes i H hlt q, Pv (i + 1), fun H' p' => ⟨n - (i + 1), by omega, rfl, hlt, p'⟩, fun x H' y => hs i x H H' hlt p (w.yields i H x H' hlt q y)⟩
  · have e : i = n := by omega
    subst e
    exact .inl ⟨w.stops H q, hd H p⟩

def sp__without_rest (K : PySem.W.Frag) : Sp := fun vs H Q _ => ∃ (a : Addr) (n : Net), vs = [.ref a] ∧ Dv H (.ref a) n ∧ Kind n ∧ n.many ≤ 1000 ∧ n.outs.length ≤ 100 ∧
  ∀ H' q nd, Same H H' → Asked n nd → Dv H' (.ref q) (pruned n nd, fls n nd) → Q (.ref q) H'
theorem ok__without_rest {P : Program} {w : World} {K : PySem.W.Frag} {mg : Str → Option Value} {base : Heap} {C_Builder : Addr} {f fbase_of f_needed_nodes f_renumbered : Addr} {fd fdbase_of fd_needed_nodes fd_renumbered : FuncData} (F : Fun K "_without_rest" "_without_rest" s__without_rest f fd) (T : Txt K mg C_Builder)
    (G_base_of : FnOk P w K mg base CX0 1 fbase_of fdbase_of ["net"] (sp_base_of K)) (D_base_of : Def K mg "base_of" fbase_of fdbase_of ["net"])
    (G__needed_nodes : FnOk P w K mg base CX0 4 f_needed_nodes fd_needed_nodes ["net"] (sp__needed_nodes K)) (D__needed_nodes : Def K mg "_needed_nodes" f_needed_nodes fd_needed_nodes ["net"])
    (G__renumbered : FnOk P w K mg base CX0 1 f_renumbered fd_renumbered ["literals", "numbers"] (sp__renumbered K)) (D__renumbered : Def K mg "_renumbered" f_renumbered fd_renumbered ["literals", "numbers"]) :
    FnOk P w K mg base CX0 5 f fd ["net"] (sp__without_rest K) := by
  refine F.ok sc_without_rest (fun vs H Q E h => ?_) (fun cdv A outer s H vs Q E hr h => ?_)
  · obtain ⟨a, n, rfl, _⟩ := h
    rfl
  · obtain ⟨a, n, rfl, hn, kd, few, ol, q⟩ := h
    have hn0 := hn
    obtain ⟨_, aS, aG, aN, aO, e, hA, hS, hG, hN, hO⟩ := hn.net_inv
    cases e
    obtain ⟨_, us, e, hGl, hus⟩ := hG.list_inv
    cases e
    obtain ⟨_, e, hS⟩ := hS.natl_inv
    cases e
    obtain ⟨_, e, hN⟩ := hN.natl_inv
    cases e
    obtain ⟨_, e, hO⟩ := hO.natl_inv
    cases e
    refine ⟨_, (pss_cons (ps_asg (pv 0) (pg_tup (by rfl) (pgs_cons (pg_name (i := 1) sc_without_rest.nd rfl (Or.inl rfl)) (pgs_cons (pg_name (i := 2) sc_without_rest.nd rfl (Or.inr rfl)) (pgs_cons (pg_name (i := 3) sc_without_rest.nd rfl (Or.inr rfl)) (pgs_cons (pg_name (i := 4) sc_without_rest.nd rfl (Or.inr rfl)) (pgs_cons (pg_name (i := 5) sc_without_rest.nd rfl (Or.inr rfl)) (pgs_cons (pg_name (i := 6) sc_without_rest.nd rfl (Or.inl rfl)) pgs_nil))))))))
      (pss_cons (ps_set (i := 7) sc_without_rest.nd rfl (.inr rfl) (pe_call G_base_of (hr.mono (by omega)) (by rfl) D_base_of.m D_base_of.k D_base_of.b .nil pass0 (pa_cons (pv 0) pa_nil)))
      (pss_cons (ps_set (i := 8) sc_without_rest.nd rfl (.inl rfl) (pe_call G__needed_nodes (hr.mono (by omega)) (by rfl) D__needed_nodes.m D__needed_nodes.k D__needed_nodes.b .nil pass0 (pa_cons (pv 0) pa_nil)))
      (pss_cons (ps_setLc (i := 10) (own := [("node", 9)]) (g := gName 9) rfl sc_without_rest.nd rfl rfl (sw_true rfl rfl rfl (by decide +kernel)) (pi_list (pv 8)) (blkOk_by (N := N__without_rest) (sc := defScope s__without_rest) (by decide +kernel)) (fun _ _ _ _ _ => (pg_name (i := 9) sc_without_rest.nd rfl (Or.inl rfl))) (fun _ _ _ _ _ => (pts_one (pt_chain op_lt op_lt (pv 2) (pv 9) (pv 7)))) (fun _ _ _ _ _ => (pe_op op_sub (pe_op op_sub (pv 9) pe_int) (pv 2))))
      (pss_cons (ps_set (i := 11) sc_without_rest.nd rfl (.inr rfl) (pe_dc (own := [("node", 9)]) (g := gName 9) (tt := tYes) rfl sc_without_rest.nd (pi_range1 rfl T.m_range (pa_cons (pe_op op_add pe_int (pv 2)) pa_nil)) (blkOk_by (N := N__without_rest) (sc := defScope s__without_rest) (by decide +kernel)) (fun _ _ _ _ _ => (pg_name (i := 9) sc_without_rest.nd rfl (Or.inl rfl))) (fun _ _ _ _ _ => pts_nil) (fun _ _ _ _ _ => (pv 9)) (fun _ _ _ _ _ => (pv 9))))
      (pss_cons (ps_for PassesOwn.never rfl (pi_list (pv 8)) (pg_name (i := 9) sc_without_rest.nd rfl (Or.inl rfl)) (pss_one (ps_if (pt_cmpR op_gt (pv 9) (pv 2) (nomark _)) (pss_one (ps_dput (hu_of hr) (pv 11) (pv 9) (pe_callB call_lenD (by rfl) T.m_len (by decide +kernel) (pa_cons (pv 11) pa_nil)) rfl)) pss_nil)))
      (pss_cons (ps_setLc (i := 12) (own := [("node", 9)]) (g := gName 9) rfl sc_without_rest.nd rfl rfl (sw_true rfl rfl rfl (by decide +kernel)) (pi_list (pv 8)) (blkOk_by (N := N__without_rest) (sc := defScope s__without_rest) (by decide +kernel)) (fun _ _ _ _ _ => (pg_name (i := 9) sc_without_rest.nd rfl (Or.inl rfl))) (fun _ _ _ _ _ => (pts_one (pt_cmpR op_ge (pv 9) (pv 7) (nomark _)))) (fun _ _ _ _ _ => (pe_ix (r := rIxL K) ix_list (pv 4) (pe_op op_sub (pv 9) (pv 7)) (fun _ _ => rfl))))
      (pss_one (ps_ret (pe_tup (pa_cons (pe_tup (pa_cons pe_str (pa_cons (pv 2) (pa_cons (pe_lc (own := [("k", 13)]) (g := gName 13) (tt := tYes) rfl sc_without_rest.nd (pi_list (pv 10)) (blkOk_by (N := N__without_rest) (sc := defScope s__without_rest) (by decide +kernel)) (fun _ _ _ _ _ => (pg_name (i := 13) sc_without_rest.nd rfl (Or.inl rfl))) (fun _ _ _ _ _ => pts_nil) (fun _ _ _ _ _ => (pe_ix (r := rIxL K) ix_list (pv 3) (pv 13) (fun _ _ => rfl)))) (pa_cons (pe_lc (own := [("pair", 14)]) (g := gName 14) (tt := tYes) rfl sc_without_rest.nd (pi_list (pv 12)) (blkOk_by (N := N__without_rest) (sc := defScope s__without_rest) (by decide +kernel)) (fun _ _ _ _ _ => (pg_name (i := 14) sc_without_rest.nd rfl (Or.inl rfl))) (fun _ _ _ _ _ => pts_nil) (fun _ _ _ _ _ => (pe_callTy (r := vTupleOf K) call_tuple_of (by rfl) T.m_tuple (by decide +kernel) (pa_cons (pe_call G__renumbered (hr.mono (by omega)) (by rfl) D__renumbered.m D__renumbered.k D__renumbered.b .nil pass0 (pa_cons (pv 14) (pa_cons (pv 11) pa_nil))) pa_nil)))) (pa_cons (pe_call G__renumbered (hr.mono (by omega)) (by rfl) D__renumbered.m D__renumbered.k D__renumbered.b .nil pass0 (pa_cons (pe_lc (own := [("k", 13)]) (g := gName 13) (tt := tYes) rfl sc_without_rest.nd (pi_list (pv 10)) (blkOk_by (N := N__without_rest) (sc := defScope s__without_rest) (by decide +kernel)) (fun _ _ _ _ _ => (pg_name (i := 13) sc_without_rest.nd rfl (Or.inl rfl))) (fun _ _ _ _ _ => pts_nil) (fun _ _ _ _ _ => (pe_ix (r := rIxL K) ix_list (pv 5) (pv 13) (fun _ _ => rfl)))) (pa_cons (pv 11) pa_nil))) (pa_cons (pe_call G__renumbered (hr.mono (by omega)) (by rfl) D__renumbered.m D__renumbered.k D__renumbered.b .nil pass0 (pa_cons (pv 6) (pa_cons (pv 11) pa_nil))) pa_nil))))))) (pa_cons (pv 10) pa_nil)))))))))))), ?_⟩
    refine ⟨_, rfl, a, _, rfl, SqT.of hA, rfl, _, _, rfl, _, _, rfl, _, _, rfl, _, _, rfl, _, _, rfl, _, _, rfl, rfl, ?_⟩
    refine ⟨_, rfl, .ref a, n, rfl, hn0, ?_⟩
    refine ⟨_, rfl, a, n, rfl, hn0, kd, few, ol, fun H1 yl ys s1 nyl eyl so hy => ?_⟩
    have yl1 : ys.length ≤ 1000 := by
      have := sorted_len (m := n.many) (a := 0) so fun y m => ⟨Nat.zero_le _, reach_lt kd ((hy y).mp m)⟩
      omega
    have ask := asked_of so hy
    have il : n.ins ≤ 1000 := by
      unfold Net.many Net.base at few
      omega
    refine ⟨_, rfl, yl, rfl, ⟨_, SqL.of eyl⟩, fun C nC => ?_⟩
    have lc2 : ∀ (p : Nat → Bool) (i : Nat), ((ys.take i).filter p).length ≤ 1000 := fun p i => Nat.le_trans (List.length_filter_le _ _) (by rw [List.length_take]; omega)
    refine lc_list (xs := vn ys) (fun i Hz => Same H1 Hz ∧ Hz C = some (.lst (vn (((ys.take i).filter fun y => decide (n.ins < y) && decide (y < n.base)).map (· - 1 - n.ins))))) ⟨same_new nC, upd_same⟩ (fun i Hz _ h => SqL.of (h.1 _ _ eyl)) ?_ ?_
    · rintro i v Hz hv ⟨sz, hC⟩
      obtain ⟨y, hyi, rfl⟩ : ∃ x, ys[i]? = some x ∧ v = V.int (x : Nat) := by
        unfold vn at hv
        rw [List.getElem?_map] at hv
        obtain ⟨x, e1, e2⟩ := Option.map_eq_some_iff.mp hv
        exact ⟨x, e1, e2.symm⟩
      have fil : (ys.take (i + 1)).filter (fun y => decide (n.ins < y) && decide (y < n.base)) = (ys.take i).filter (fun y => decide (n.ins < y) && decide (y < n.base)) ++ (if (decide (n.ins < y) && decide (y < n.base)) = true then [y] else []) := by
        rw [take_snoc hyi, List.filter_append, List.filter_cons]
        rfl
      have skip : (decide (n.ins < y) && decide (y < n.base)) = false → Same H1 Hz ∧ Hz C = some (.lst (vn (((ys.take (i + 1)).filter fun y => decide (n.ins < y) && decide (y < n.base)).map (· - 1 - n.ins)))) := fun h => by
        rw [fil, h, if_neg Bool.false_ne_true, List.append_nil]
        exact ⟨sz, hC⟩
      refine ⟨rfl, _, rfl, _, rfl, _, _, rfl, rfl, _, rfl, ?_⟩
      rw [show decide (((n.ins : Nat) : Int) < ((y : Nat) : Int)) = decide (n.ins < y) from decide_eq_decide.mpr (by omega)]
      by_cases c1 : n.ins < y
      · rw [decide_eq_true c1]
        refine iteT ⟨_, rfl, _, _, rfl, rfl, _, rfl, ?_⟩
        rw [show decide (((y : Nat) : Int) < ((n.base : Nat) : Int)) = decide (y < n.base) from decide_eq_decide.mpr (by omega)]
        by_cases c2 : y < n.base
        · rw [decide_eq_true c2]
          refine iteT ⟨_, rfl, _, _, rfl, rfl, _, rfl, _, _, rfl, rfl, _, hC, by rw [vn_len, List.length_map]; exact small1000 (lc2 _ i), same_mut sz nC, ?_⟩
          rw [upd_same, fil, decide_eq_true c1, decide_eq_true c2, Bool.and_self, if_pos rfl, List.map_append]
          have e : V.int (((y : Nat) : Int) - 1 - ((n.ins : Nat) : Int)) = V.int ((y - 1 - n.ins : Nat) : Int) := by
            congr 1
            omega
          show some (HO.lst (vn _ ++ [V.int (((y : Nat) : Int) - 1 - ((n.ins : Nat) : Int))])) = _
          rw [e, vn_snoc']
          rfl
        · rw [decide_eq_false c2]
          exact iteF (skip (by rw [decide_eq_false c2, Bool.and_false]))
      · rw [decide_eq_false c1]
        exact iteF ⟨_, rfl, iteF (skip (by rw [decide_eq_false c1, Bool.false_and]))⟩
    rintro H2 ⟨s2, hC⟩
    rw [vn_len, List.take_length, ← fls_of] at hC
    have hyl := s2 _ _ eyl
    have s2 := s1.trans s2
    -- the numbers
    refine ⟨_, rfl, _, _, rfl, rfl, _, rfl, by omega, by omega, fun D nD => ?_⟩
    have low : ∀ {Hx : Hp}, Same (hid D H2) (hid D Hx) → Same H2 Hx := fun k b o z => (hid_some (k _ _ (hid_of (ne_of_none z nD) z))).2
    rw [show ((1 : Int) + ((n.ins : Nat) : Int)).toNat = 1 + n.ins by omega]
    refine dc_it (walk_range (lo := 0) (n := 1 + n.ins)) (fun i Hx => Same (hid D H2) (hid D Hx) ∧ ∃ ks : List (Key × V), Hx D = some (.dK ks) ∧ ks.length = i ∧ (∀ y, y < i → valV ks (Sum.inl ((y : Nat) : Int)) = some (.int (y : Nat))) ∧ ∀ y, i ≤ y → valV ks (Sum.inl ((y : Nat) : Int)) = none) ⟨hid_mono (same_new nD), [], upd_same, rfl, (fun y h => absurd h (Nat.not_lt_zero _)), fun y _ => rfl⟩ (fun _ _ _ _ => trivial) ?_ ?_
    · rintro i v Hx Hx' hi ⟨kx, ks, hD, lk, lo, no⟩ ⟨rfl, rfl⟩
      simp only [Int.zero_add]
      refine ⟨rfl, _, rfl, _, rfl, ks, Sum.inl ((i : Nat) : Int), rfl, hD, small64k (by omega), kx.trans hid_mut, _, upd_same, ?_, fun y hy => ?_, fun y hy => ?_⟩
      · rw [putK_new _ (no i (Nat.le_refl _)), List.length_append, lk]
        rfl
      · rw [valV_put]
        by_cases c : y = i
        · subst c
          rw [if_pos rfl]
        · rw [if_neg (fun z => c (key_inj z))]
          exact lo y (by omega)
      · rw [valV_put, if_neg (fun z => by have := key_inj z; omega)]
        exact no y (by omega)
    rintro H3 ⟨k3, ks, hD, lk, lo, no⟩
    have ni0 : NumI n.ins [] ks := ⟨lk, fun y h => lo y (by omega), (fun j y h => by simp at h), fun y h _ => no y (by omega)⟩
    have hyl3 := low k3 _ _ hyl
    refine ⟨_, rfl, yl, rfl, ⟨_, SqL.of hyl3⟩, for_list (xs := vn ys) (fun i σ Hx => ∃ (y1 y9 : Option V) (ks : List (Key × V)), σ = [some (.ref a), y1, some (.int (n.ins : Nat)), some (.ref aS), some (.ref aG), some (.ref aN), some (.ref aO), some (.int (n.base : Nat)), some (.ref yl), y9, some (.ref C), some (.ref D), none, none, none] ∧ Same (hid D H2) (hid D Hx) ∧ Hx D = some (.dK ks) ∧ NumI n.ins ((ys.take i).filter (n.ins < ·)) ks) ⟨_, none, ks, rfl, k3, hD, by rw [List.take_zero]; exact ni0⟩ (fun i σ Hx _ ⟨_, _, _, _, k, _⟩ => SqL.of (low k _ _ hyl)) ?_ ?_⟩
    · rintro i v σ Hx hv ⟨y1, y9, ks, rfl, kx, hD, ni⟩
      obtain ⟨y, hyi, rfl⟩ : ∃ x, ys[i]? = some x ∧ v = V.int (x : Nat) := by
        unfold vn at hv
        rw [List.getElem?_map] at hv
        obtain ⟨x, e1, e2⟩ := Option.map_eq_some_iff.mp hv
        exact ⟨x, e1, e2.symm⟩
      have hyi2 := List.getElem?_eq_some_iff.mp hyi
      have new : y ∉ (ys.take i).filter (n.ins < ·) := fun m => by
        obtain ⟨j, hj, e⟩ := List.mem_iff_getElem.mp (List.mem_filter.mp m).1
        have jl : j < i := by
          rw [List.length_take] at hj
          omega
        have := List.pairwise_iff_getElem.mp so j i (by have := hyi2.1; omega) hyi2.1 jl
        rw [List.getElem_take] at e
        rw [e, hyi2.2] at this
        exact Nat.lt_irrefl _ this
      refine ⟨_, rfl, _, rfl, _, _, rfl, rfl, _, rfl, ?_⟩
      rw [show decide (((y : Nat) : Int) > ((n.ins : Nat) : Int)) = decide (n.ins < y) from decide_eq_decide.mpr (by omega)]
      by_cases c : n.ins < y
      · rw [decide_eq_true c]
        have small : ks.length ≤ 60000 := by
          have := ni.len
          have := lc2 (n.ins < ·) i
          omega
        refine iteT ⟨_, rfl, D, ks, rfl, hD, _, rfl, _, rfl, D, _, rfl, DPut.k (k := Sum.inl ((y : Nat) : Int)) hD (small64k (by omega)), ?_⟩
        refine ⟨_, _, _, rfl, kx.trans hid_mut, upd_same, ?_⟩
        rw [take_snoc hyi, List.filter_append, List.filter_cons, if_pos (decide_eq_true c)]
        exact ni.put c new
      · rw [decide_eq_false c]
        refine iteF ⟨_, _, ks, rfl, kx, hD, ?_⟩
        rw [take_snoc hyi, List.filter_append, List.filter_cons, if_neg (by rw [decide_eq_true_eq]; exact c)]
        show NumI n.ins (_ ++ []) ks
        rw [List.append_nil]
        exact ni
    rintro σ H4 ⟨y1, y9, ks, rfl, k4, hD, ni⟩
    rw [vn_len, List.take_length] at ni
    have up4 : Same H H4 := s2.trans (low k4)
    have hyl4 := low k4 _ _ hyl
    have hC4 := low k4 _ _ hC
    have hG4 := up4 _ _ hGl
    have hus4 := hus.same up4
    refine ⟨_, rfl, yl, rfl, ⟨_, SqL.of hyl4⟩, fun B nB => ?_⟩
    refine lc_list (xs := vn ys) (fun i Hz => Same H4 Hz ∧ ∃ ku : List V, Hz B = some (.lst ku) ∧ Dvs H4 ku (((ys.take i).filter (n.base ≤ ·)).map fun x => n.gates[x - n.base]?.getD (0, 0))) ⟨same_new nB, [], upd_same, .nil⟩ (fun i Hz _ h => SqL.of (h.1 _ _ hyl4)) ?_ ?_
    · rintro i v Hz hv ⟨sz, ku, hB, hk⟩
      obtain ⟨y, hyi, rfl⟩ : ∃ x, ys[i]? = some x ∧ v = V.int (x : Nat) := by
        unfold vn at hv
        rw [List.getElem?_map] at hv
        obtain ⟨x, e1, e2⟩ := Option.map_eq_some_iff.mp hv
        exact ⟨x, e1, e2.symm⟩
      have ylt := reach_lt kd ((hy y).mp (List.mem_of_getElem? hyi))
      refine ⟨rfl, _, rfl, _, rfl, _, _, rfl, rfl, _, rfl, ?_⟩
      rw [show decide (((y : Nat) : Int) ≥ ((n.base : Nat) : Int)) = decide (n.base ≤ y) from decide_eq_decide.mpr (by omega)]
      by_cases c : n.base ≤ y
      · rw [decide_eq_true c]
        have gl : y - n.base < n.gates.length := by
          unfold Net.many at ylt
          omega
        have hg := List.getElem?_eq_getElem gl
        obtain ⟨u, hu, hd⟩ := hus4.get hg
        refine iteT ⟨_, rfl, _, rfl, _, rfl, _, _, rfl, rfl, aG, _, _, _, rfl, rfl, SqL.of (sz _ _ hG4), (by rw [show ((y : Nat) : Int) - ((n.base : Nat) : Int) = ((y - n.base : Nat) : Int) by omega]; exact atI_nat hu), ku, hB, ?_, same_mut sz nB, ku ++ [u], upd_same, ?_⟩
        · rw [hk.len, List.length_map]
          exact small1000 (lc2 _ i)
        · rw [take_snoc hyi, List.filter_append, List.filter_cons, if_pos (decide_eq_true c), List.map_append]
          refine Dvs.app hk (.cons ?_ .nil)
          show Dv H4 u (n.gates[y - n.base]?.getD (0, 0))
          rw [hg]
          exact hd
      · rw [decide_eq_false c]
        refine iteF ⟨sz, ku, hB, ?_⟩
        rw [take_snoc hyi, List.filter_append, List.filter_cons, if_neg (by rw [decide_eq_true_eq]; exact c)]
        show Dvs H4 ku ((_ ++ []).map _)
        rw [List.append_nil]
        exact hk
    rintro H5 ⟨s5, ku, hB, hk⟩
    rw [vn_len, List.take_length, ← kepts_of] at hk
    obtain ⟨nd, hnd⟩ : ∃ nd, nd = ys.filter (n.ins < ·) := ⟨_, rfl⟩
    rw [← hnd] at hk hC4 ni ask
    have up5 : Same H H5 := up4.trans s5
    have hC5 := s5 _ _ hC4
    have hD5 : H5 D = some (.dK ks) := s5 _ _ hD
    have hS5 := up5 _ _ hS
    have hN5 := up5 _ _ hN
    have hO5 := up5 _ _ hO
    have hk5 := hk.same s5
    obtain ⟨fl, hfl⟩ : ∃ fl, fl = fls n nd := ⟨_, rfl⟩
    rw [← hfl] at hC5
    have flk : ∀ {i k : Nat}, fl[i]? = some k → k < n.starts.length ∧ Reach n (1 + n.ins + k) := fun {i k} h => by
      rw [hfl] at h
      have := fl_get ask h
      exact ⟨this.2, ((ask.iff _).mp (List.mem_of_getElem? this.1)).2⟩
    have fll : fl.length ≤ 1000 := by
      rw [hfl]
      unfold fls
      rw [List.length_map]
      have h1 := List.length_filter_le (fun x => decide (x < n.base)) nd
      have h2 := List.length_filter_le (fun x => decide (n.ins < x)) ys
      rw [← hnd] at h2
      omega
    have kdl : ∀ {x : Nat}, Reach n x → valV ks (Sum.inl ((x : Nat) : Int)) = some (.int (num n.ins nd x : Nat)) := fun h => ni.told ask.so (ask.lit h) fun y m => ((ask.iff y).mp m).1
    refine ⟨_, rfl, _, rfl, C, rfl, ⟨_, SqL.of hC5⟩, fun D1 n1 => ?_⟩
    refine lc_list (xs := vn fl) (fun i Hz => Same H5 Hz ∧ Hz D1 = some (.lst (vn ((fl.take i).map fun k => n.starts[k]?.getD 0)))) ⟨same_new n1, upd_same⟩ (fun i Hz _ h => SqL.of (h.1 _ _ hC5)) ?_ ?_
    · rintro i v Hz hv ⟨sz, hZ⟩
      obtain ⟨k, hki, rfl⟩ : ∃ x, fl[i]? = some x ∧ v = V.int (x : Nat) := by
        unfold vn at hv
        rw [List.getElem?_map] at hv
        obtain ⟨x, e1, e2⟩ := Option.map_eq_some_iff.mp hv
        exact ⟨x, e1, e2.symm⟩
      have kl := (flk hki).1
      have e := List.getElem?_eq_getElem kl
      refine ⟨rfl, _, rfl, _, rfl, aS, _, _, _, rfl, rfl, SqL.of (sz _ _ hS5), atI_nat (vn_get e), _, hZ, ?_, same_mut sz n1, ?_⟩
      · rw [vn_len, List.length_map, List.length_take]
        exact small1000 (by omega)
      · rw [upd_same, take_snoc hki, List.map_append, vn_snoc]
        show some (HO.lst (vn (_ ++ [n.starts[k]]))) = some (HO.lst (vn (_ ++ [n.starts[k]?.getD 0])))
        rw [e]
        rfl
    rintro H6 ⟨s6, h1⟩
    rw [vn_len, List.take_length] at h1
    have hD6 := s6 _ _ hD5
    have hB6 := s6 _ _ hB
    have hk6 := hk5.same s6
    obtain ⟨gl, hgl⟩ : ∃ gl, gl = (kepts n nd).map fun x => n.gates[x - n.base]?.getD (0, 0) := ⟨_, rfl⟩
    rw [← hgl] at hk6
    have gll : gl.length ≤ 1000 := by
      rw [hgl, List.length_map]
      unfold kepts
      have h1 := List.length_filter_le (fun x => decide (n.base ≤ x)) nd
      have h2 := List.length_filter_le (fun x => decide (n.ins < x)) ys
      rw [← hnd] at h2
      omega
    have glk : ∀ {i : Nat} {g : Nat × Nat}, gl[i]? = some g → Reach n (g.1 / 2) ∧ Reach n (g.2 / 2) := fun {i g} h => by
      rw [hgl, List.getElem?_map] at h
      obtain ⟨x, hx, e⟩ := Option.map_eq_some_iff.mp h
      have kg := kept_get ask hx
      have rx := ((ask.iff x).mp (List.mem_of_getElem? kg.1)).2
      have xl := reach_lt kd rx
      have jl : x - n.base < n.gates.length := by
        unfold Net.many at xl
        have := kg.2
        omega
      have eg := List.getElem?_eq_getElem jl
      rw [eg] at e
      have e : n.gates[x - n.base] = g := e
      rw [e] at eg
      have rx2 : Reach n (n.base + (x - n.base)) := by
        rw [show n.base + (x - n.base) = x by have := kg.2; omega]
        exact rx
      exact ⟨.kid1 rx2 eg, .kid2 rx2 eg⟩
    refine ⟨_, rfl, B, rfl, ⟨_, SqL.of hB6⟩, fun D2 n2 => ?_⟩
    have hm : ∀ (H' : Hp) (u : V), Same (hid D2 H') (hid D2 (upd H' D2 (.lst []))) := fun _ _ => hid_mut
    refine lc_list (xs := ku) (fun i Hz => Same H6 Hz ∧ ∃ kv : List V, Hz D2 = some (.lst kv) ∧ Dvs (hid D2 Hz) kv ((gl.take i).map fun g => (ren n.ins nd g.1, ren n.ins nd g.2))) ⟨same_new n2, [], upd_same, .nil⟩ (fun i Hz _ h => SqL.of (h.1 _ _ hB6)) ?_ ?_
    · rintro i v Hz hv ⟨sz, kv, hZ, hkv⟩
      obtain ⟨g, hg, dg⟩ := hk6.at hv
      obtain ⟨t, x, y, rfl, ht, hx, hy⟩ := dg.pair_inv
      have hx := hx.nat_inv
      have hy := hy.nat_inv
      subst hx hy
      have rg := glk hg
      refine ⟨rfl, _, rfl, _, rfl, t, D, [g.1, g.2], ks, num n.ins nd, rfl, .inr (sz _ _ ht), by show 2 ≤ 1000; decide, sz _ _ hD6, ?_, fun Hw qw sw nw hw => ⟨qw, _, rfl, .inl ⟨SqL.of hw, fun l nl => ⟨kv, ?_, ?_, ?_, kv ++ [.ref l], upd_same, ?_⟩⟩⟩⟩
      · intro l hl
        rcases List.mem_cons.mp hl with rfl | hl
        · exact kdl rg.1
        · rw [List.mem_singleton] at hl
          subst hl
          exact kdl rg.2
      · have ne : D2 ≠ l := fun e => by
          rw [← e, sw _ _ hZ] at nl
          cases nl
        rw [upd_ne ne]
        exact sw _ _ hZ
      · rw [hkv.len, List.length_map, List.length_take]
        exact small1000 (by omega)
      · exact same_mut (sz.trans (sw.trans (same_new nl))) n2
      · have ne : l ≠ D2 := fun e => by
          rw [e, sw _ _ hZ] at nl
          cases nl
        have sh : Same (hid D2 Hz) (hid D2 (upd (upd Hw l (.tup (vn ([g.1, g.2].map fun l => 2 * num n.ins nd (l / 2) + l % 2)))) D2 (.lst (kv ++ [.ref l])))) := (hid_mono (sw.trans (same_new nl))).trans hid_mut
        rw [take_snoc hg, List.map_append]
        refine Dvs.app (hkv.same sh) (.cons ?_ .nil)
        refine Dv.pair (x := ren n.ins nd g.1) (y := ren n.ins nd g.2) (hid_of ne ?_) (.nat _) (.nat _)
        rw [upd_ne ne]
        exact upd_same
    rintro H7 ⟨s7, kv, h2, hkv⟩
    rw [hk6.len, List.take_length] at hkv
    have hkv := hkv.same (hid_same _ _)
    have s7' := s6.trans s7
    refine ⟨_, rfl, C, rfl, ⟨_, SqL.of (s7' _ _ hC5)⟩, fun D3 n3 => ?_⟩
    refine lc_list (xs := vn fl) (fun i Hz => Same H7 Hz ∧ Hz D3 = some (.lst (vn ((fl.take i).map fun k => n.nexts[k]?.getD 0)))) ⟨same_new n3, upd_same⟩ (fun i Hz _ h => SqL.of (h.1 _ _ (s7' _ _ hC5))) ?_ ?_
    · rintro i v Hz hv ⟨sz, hZ⟩
      obtain ⟨k, hki, rfl⟩ : ∃ x, fl[i]? = some x ∧ v = V.int (x : Nat) := by
        unfold vn at hv
        rw [List.getElem?_map] at hv
        obtain ⟨x, e1, e2⟩ := Option.map_eq_some_iff.mp hv
        exact ⟨x, e1, e2.symm⟩
      have kl := (flk hki).1
      rw [← kd.nl] at kl
      have e := List.getElem?_eq_getElem kl
      refine ⟨rfl, _, rfl, _, rfl, aN, _, _, _, rfl, rfl, SqL.of (sz _ _ (s7' _ _ hN5)), atI_nat (vn_get e), _, hZ, ?_, same_mut sz n3, ?_⟩
      · rw [vn_len, List.length_map, List.length_take]
        exact small1000 (by omega)
      · rw [upd_same, take_snoc hki, List.map_append, vn_snoc]
        show some (HO.lst (vn (_ ++ [n.nexts[k]]))) = some (HO.lst (vn (_ ++ [n.nexts[k]?.getD 0])))
        rw [e]
        rfl
    rintro H8 ⟨s8, h3⟩
    rw [vn_len, List.take_length] at h3
    have s8' := s7'.trans s8
    refine ⟨_, rfl, D3, D, fl.map fun k => n.nexts[k]?.getD 0, ks, num n.ins nd, rfl, .inl h3, by rw [List.length_map]; exact fll, s8' _ _ hD5, ?_, fun H9 r9 s9 n9 h9 => ?_⟩
    · intro l hl
      obtain ⟨k, mk, rfl⟩ := List.mem_map.mp hl
      obtain ⟨i, hi⟩ := List.getElem?_of_mem mk
      have kl := flk hi
      have kl2 := kl.1
      rw [← kd.nl] at kl2
      have e := List.getElem?_eq_getElem kl2
      rw [e]
      exact kdl (.next kl.2 kl.1 e)
    have s9' := s8'.trans s9
    refine ⟨_, rfl, _, rfl, aO, D, n.outs, ks, num n.ins nd, rfl, .inl (s9' _ _ hO5), by omega, s9' _ _ hD5, fun l hl => kdl (.out hl), fun Ha ra sa na ha => ?_⟩
    have sa' := s9'.trans sa
    refine ⟨by show 6 ≤ sizeLine; decide, fun t nt => ⟨_, rfl, by show 2 ≤ sizeLine; decide, fun z nz => ?_⟩⟩
    have st := same_new (o := .tup [.str "net", .int (n.ins : Nat), .ref D1, .ref D2, .ref r9, .ref ra]) nt
    have sz := same_new (o := .tup [.ref t, .ref C]) nz
    have up := st.trans sz
    refine q _ z nd (up5.trans (sa'.trans up)) ask ?_
    have e1 := up _ _ (sa _ _ (s9 _ _ (s8 _ _ (s7 _ _ h1))))
    have e2 := up _ _ (sa _ _ (s9 _ _ (s8 _ _ h2)))
    have e3 := up _ _ (sa _ _ h9)
    have e4 := up _ _ ha
    refine Dv.pair (x := pruned n nd) (y := fls n nd) upd_same (Dv.net (n := pruned n nd) (sz _ _ upd_same) (.natl ?_) (.list e2 ?_) (.natl ?_) (.natl ?_)) (.natl ?_)
    · rw [e1, hfl]
      rfl
    · have := hkv.same (s8.trans (s9.trans (sa.trans up)))
      rw [hgl, List.map_map] at this
      exact this
    · rw [e3, List.map_map, hfl]
      rfl
    · rw [e4]
      rfl
    · rw [← hfl]
      exact up _ _ (sa' _ _ hC5)

end K38
namespace K38
open PySem PySem.Spec PyProof.Rows L2 V0
theorem ne_of_none' {H : Hp} {a b : Addr} {o : HO} (h : H b = some o) (n : H a = none) : a ≠ b := fun e => by
  rw [e, h] at n
  cases n
/-! ### made tidy -/
theorem tfold_len {first : Nat} (gs : List (Nat × Nat)) : ((tfold first gs).1).length = first + gs.length := by
  induction hn : gs.length generalizing gs with
  | zero =>
    have : gs = [] := List.length_eq_zero_iff.mp hn
    subst this
    show ((List.range first).map _).length = _
    rw [List.length_map, List.length_range]
    rfl
  | succ m ih =>
    obtain ⟨g0, g, rfl⟩ : ∃ g0 g, gs = g0 ++ [g] := by
      rcases List.eq_nil_or_concat gs with rfl | ⟨a, b, rfl⟩
      · cases hn
      · exact ⟨a, b, List.concat_eq_append⟩
    have l0 : g0.length = m := by
      rw [List.length_append] at hn
      have : g0.length + 1 = m + 1 := hn
      omega
    rw [tfold_snoc]
    show ((tfold first g0).1 ++ [_]).length = _
    rw [List.length_append, ih g0 l0]
    rfl
theorem kind_take {n : Net} (kd : Kind n) (i : Nat) : ∀ j g, (n.gates.take i)[j]? = some g → g.1 < 2 * (n.base + j) ∧ g.2 < 2 * (n.base + j) := fun j g h => by
  rw [List.getElem?_take] at h
  split at h
  · exact kd.g j g h
  · cases h
theorem bat_up {C r p s g d : Addr} {H : Hp} {b : BSt} {xs ys : List V} (h : BAt C H p s g d b) (hr : H r = some (.lst xs)) (h1 : r ≠ p) (h2 : r ≠ s) (h3 : r ≠ g) (h4 : r ≠ d) : BAt C (upd H r (.lst ys)) p s g d b := by
  obtain ⟨⟨dx, hp⟩, hs, ⟨us, hg, hus⟩, hd, nd, nsg⟩ := h
  refine ⟨⟨dx, by rw [upd_ne h1.symm]; exact hp⟩, by rw [upd_ne h2.symm]; exact hs, ⟨us, by rw [upd_ne h3.symm]; exact hg, ?_⟩, by rw [upd_ne h4.symm]; exact hd, nd, nsg⟩
  refine bdvs_pairs (fun t zs e => ?_) hus
  obtain ⟨k1, k2, k3, e⟩ := hidB_some e
  exact hidB_of k1 k2 k3 (by rw [upd_ne (ne_of e hr (by intro z; cases z))]; exact e)
def sp_tidied (K : PySem.W.Frag) : Sp := fun vs H Q _ => ∃ (v : V) (P c : Addr) (n : Net), vs = [v] ∧ Dv H v n ∧ Dr H P c ∧ Kind n ∧ n.many ≤ 1000 ∧ n.outs.length ≤ 100 ∧
  ∀ H' q nd, Same H H' → Asked (plain n) nd → Dv H' (.ref q) (pruned (plain n) nd, fls (plain n) nd) → Q (.ref q) H'
theorem ok_tidied {P : Program} {w : World} {K : PySem.W.Frag} {mg : Str → Option Value} {base : Heap} {C_Builder : Addr} {f fBuilder___init__ f_bases fBuilder_net f_without_rest fBuilder_both f_stands : Addr} {fd fdBuilder___init__ fd_bases fdBuilder_net fd_without_rest fdBuilder_both fd_stands : FuncData} (F : Fun K "tidied" "tidied" s_tidied f fd) (T : Txt K mg C_Builder)
    (G_Builder___init__ : FnOk P w K mg base CX0 1 fBuilder___init__ fdBuilder___init__ ["self", "ins", "starts"] (sp_Builder___init__ K C_Builder)) (D_Builder___init__ : IDef K C_Builder fBuilder___init__ fdBuilder___init__ ["self", "ins", "starts"])
    (G__bases : FnOk P w K mg base CX0 2 f_bases fd_bases ["net"] (sp__bases K)) (D__bases : Def K mg "_bases" f_bases fd_bases ["net"])
    (G_Builder_net : FnOk P w K mg base CX0 1 fBuilder_net fdBuilder_net ["self", "nexts", "outs"] (sp_Builder_net K C_Builder)) (D_Builder_net : MDef K C_Builder "net" fBuilder_net fdBuilder_net ["self", "nexts", "outs"])
    (G__without_rest : FnOk P w K mg base CX0 5 f_without_rest fd_without_rest ["net"] (sp__without_rest K)) (D__without_rest : Def K mg "_without_rest" f_without_rest fd_without_rest ["net"])
    (G_Builder_both : FnOk P w K mg base CX0 2 fBuilder_both fdBuilder_both ["self", "a", "b"] (sp_Builder_both K C_Builder)) (D_Builder_both : MDef K C_Builder "both" fBuilder_both fdBuilder_both ["self", "a", "b"])
    (G__stands : FnOk P w K mg base CX0 1 f_stands fd_stands ["standing", "literal"] (sp__stands K)) (D__stands : Def K mg "_stands" f_stands fd_stands ["standing", "literal"]) :
    FnOk P w K mg base CX0 6 f fd ["net"] (sp_tidied K) := by
  refine F.ok sctidied (fun vs H Q E h => ?_) (fun cdv A outer s H vs Q E hr h => ?_)
  · obtain ⟨v, P, c, n, rfl, _⟩ := h
    rfl
  · obtain ⟨v, P, c, n, rfl, hn, dr, kd, few, ol, q⟩ := h
    have hn0 := hn
    obtain ⟨a, aS, aG, aN, aO, rfl, hA, hS, hG, hN, hO⟩ := hn.net_inv
    obtain ⟨_, us, e, hGl, hus⟩ := hG.list_inv
    cases e
    obtain ⟨_, e, hS⟩ := hS.natl_inv
    cases e
    obtain ⟨_, e, hN⟩ := hN.natl_inv
    cases e
    obtain ⟨_, e, hO⟩ := hO.natl_inv
    cases e
    have bm : n.base ≤ n.many := Nat.le_add_right _ _
    have sb : n.starts.length ≤ n.base := by unfold Net.base; omega
    have gm : n.gates.length ≤ n.many := by unfold Net.many; omega
    have f0 : 0 < n.base := by unfold Net.base; omega
    refine ⟨_, (pss_cons (ps_asg (pv 0) (pg_tup (by rfl) (pgs_cons (pg_name (i := 1) sctidied.nd rfl (Or.inl rfl)) (pgs_cons (pg_name (i := 2) sctidied.nd rfl (Or.inl rfl)) (pgs_cons (pg_name (i := 3) sctidied.nd rfl (Or.inl rfl)) (pgs_cons (pg_name (i := 4) sctidied.nd rfl (Or.inl rfl)) (pgs_cons (pg_name (i := 5) sctidied.nd rfl (Or.inl rfl)) (pgs_cons (pg_name (i := 6) sctidied.nd rfl (Or.inl rfl)) pgs_nil))))))))
      (pss_cons (ps_set (i := 7) sctidied.nd rfl (.inl rfl) (pe_make D_Builder___init__.k G_Builder___init__ (hr.mono (by omega)) (by rfl) T.m_Builder D_Builder___init__.b .nil pass0 (pa_cons (pv 2) (pa_cons (pv 3) pa_nil))))
      (pss_cons (ps_set (i := 8) sctidied.nd rfl (.inr rfl) (pe_call G__bases (hr.mono (by omega)) (by rfl) D__bases.m D__bases.k D__bases.b .nil pass0 (pa_cons (pv 0) pa_nil)))
      (pss_cons (ps_for PassesOwn.never rfl (pi_list (pv 4)) (pg_tup (by rfl) (pgs_cons (pg_name (i := 9) sctidied.nd rfl (Or.inl rfl)) (pgs_cons (pg_name (i := 10) sctidied.nd rfl (Or.inl rfl)) pgs_nil))) (pss_one (ps_expr (pe_bm PySem.F.plainAttrs_list PySem.F.slot_list_append PySem.F.type_list_append mt_append (pv 8) (pa_cons (pe_meth (pv 7) T.c_Builder D_Builder_both.m G_Builder_both (hr.mono (by omega)) D_Builder_both.b .nil pass0 (pa_cons (pe_call G__stands (hr.mono (by omega)) (by rfl) D__stands.m D__stands.k D__stands.b .nil pass0 (pa_cons (pv 8) (pa_cons (pv 9) pa_nil))) (pa_cons (pe_call G__stands (hr.mono (by omega)) (by rfl) D__stands.m D__stands.k D__stands.b .nil pass0 (pa_cons (pv 8) (pa_cons (pv 10) pa_nil))) pa_nil))) pa_nil)))))
      (pss_cons (ps_set (i := 11) sctidied.nd rfl (.inl rfl) (pe_meth (pv 7) T.c_Builder D_Builder_net.m G_Builder_net (hr.mono (by omega)) D_Builder_net.b .nil pass0 (pa_cons (pe_lc (own := [("x", 12)]) (g := gName 12) (tt := tYes) rfl sctidied.nd (pi_list (pv 5)) (blkOk_by (N := N_tidied) (sc := defScope s_tidied) (by decide +kernel)) (fun _ _ _ _ _ => (pg_name (i := 12) sctidied.nd rfl (Or.inl rfl))) (fun _ _ _ _ _ => pts_nil) (fun _ _ _ _ _ => (pe_call G__stands (hr.mono (by omega)) (by rfl) D__stands.m D__stands.k D__stands.b .nil pass0 (pa_cons (pv 8) (pa_cons (pv 12) pa_nil))))) (pa_cons (pe_lc (own := [("x", 12)]) (g := gName 12) (tt := tYes) rfl sctidied.nd (pi_list (pv 6)) (blkOk_by (N := N_tidied) (sc := defScope s_tidied) (by decide +kernel)) (fun _ _ _ _ _ => (pg_name (i := 12) sctidied.nd rfl (Or.inl rfl))) (fun _ _ _ _ _ => pts_nil) (fun _ _ _ _ _ => (pe_call G__stands (hr.mono (by omega)) (by rfl) D__stands.m D__stands.k D__stands.b .nil pass0 (pa_cons (pv 8) (pa_cons (pv 12) pa_nil))))) pa_nil))))
      (pss_one (ps_ret (pe_call G__without_rest (hr.mono (by omega)) (by rfl) D__without_rest.m D__without_rest.k D__without_rest.b .nil pass0 (pa_cons (pv 11) pa_nil))))))))), ?_⟩
    refine ⟨_, rfl, a, _, rfl, SqT.of hA, rfl, _, _, rfl, _, _, rfl, _, _, rfl, _, _, rfl, _, _, rfl, _, _, rfl, rfl, ?_⟩
    -- the maker
    refine ⟨_, rfl, _, rfl, fun p dx np ndx nep => ?_⟩
    have sup : Same H (upd (upd H dx (.own p)) p (.ins C_Builder dx [])) := (same_new ndx).trans (same_new (by rw [upd_ne (Ne.symm nep)]; exact np))
    refine ⟨p, dx, aS, n.ins, n.starts, rfl, upd_same, sup _ _ hS, ne_of_none hS np, fun s g d H1 ns ng nd bt1 kp => ⟨rfl, ?_⟩⟩
    have s1 : Same H H1 := fun b o e => kp b o (sup _ _ e) (ne_of_none e np)
    have ns0 : H s = none := none_of sup ns
    have ng0 : H g = none := none_of sup ng
    have nd0 : H d = none := none_of sup nd
    clear sup kp ns ng nd ndx nep
    refine ⟨_, rfl, .ref a, n, rfl, hn0.same s1, by omega, fun H2 r s2 nr hr2 => ?_⟩
    have bt2 : BAt C_Builder H2 p s g d ⟨n.ins, n.starts, []⟩ := by
      obtain ⟨⟨dx, hp⟩, hs, ⟨us, hg, hus⟩, hd, nd, nsg⟩ := bt1
      exact ⟨⟨dx, s2 _ _ hp⟩, s2 _ _ hs, ⟨us, s2 _ _ hg, hus.same (hidB_mono s2)⟩, s2 _ _ hd, nd, nsg⟩
    have rne : r ≠ p ∧ r ≠ g ∧ r ≠ d ∧ r ≠ s := by
      obtain ⟨⟨dx, hp⟩, hs, ⟨us, hg, _⟩, hd, _, _⟩ := bt1
      exact ⟨ne_of_none' hp nr, ne_of_none' hg nr, ne_of_none' hd nr, ne_of_none' hs nr⟩
    have s12 := s1.trans s2
    have nr0 : H r = none := none_of s1 nr
    -- the gates
    refine ⟨_, rfl, aG, rfl, ⟨_, SqL.of (s12 _ _ hGl)⟩, for_list (xs := us) (fun i σ Hx => ∃ (y9 y10 : Option V), σ = [some (.ref a), some (.str "net"), some (.int (n.ins : Nat)), some (.ref aS), some (.ref aG), some (.ref aN), some (.ref aO), some (.ref p), some (.ref r), y9, y10, none, none] ∧ Same H Hx ∧ Hx r = some (.lst (vn (tfold n.base (n.gates.take i)).1)) ∧ BAt C_Builder Hx p s g d ⟨n.ins, n.starts, (tfold n.base (n.gates.take i)).2⟩) ⟨none, none, rfl, s12, hr2, bt2⟩ (fun i σ Hx _ ⟨_, _, _, k, _⟩ => SqL.of (k _ _ hGl)) ?_ ?_⟩
    · rintro i v σ Hx hv ⟨y9, y10, rfl, sx, hrx, btx⟩
      obtain ⟨gt, hg, dg⟩ := (hus.same sx).at hv
      obtain ⟨t, x, y, rfl, ht, hx, hy⟩ := dg.pair_inv
      have hx := hx.nat_inv
      have hy := hy.nat_inv
      subst hx hy
      have il := (List.getElem?_eq_some_iff.mp hg).1
      have kg := kd.g i gt hg
      have len := tfold_len (first := n.base) (n.gates.take i)
      rw [List.length_take, Nat.min_eq_left (by omega)] at len
      have tI := ti_fold n.base f0 (n.gates.take i) (kind_take kd i)
      have few2 := tI.few
      rw [List.length_take] at few2
      generalize hT : tfold n.base (n.gates.take i) = T at hrx btx len tI few2
      refine ⟨t, _, rfl, SqT.of ht, rfl, _, _, rfl, _, _, rfl, rfl, ?_⟩
      obtain ⟨⟨dx, hp⟩, _⟩ := id btx
      refine ⟨_, rfl, .inl ⟨rfl, _, SqL.of hrx⟩, _, rfl, p, dx, _, rfl, hp, bf_no _ _ _ _ (by decide +kernel) (by decide +kernel) (by decide +kernel) (by decide +kernel), _, rfl, _, rfl, r, T.1, gt.1, rfl, hrx, by omega, _, rfl, _, rfl, r, T.1, gt.2, rfl, hrx, by omega, p, s, g, d, _, bitv T.1 gt.1, bitv T.1 gt.2, rfl, btx, (by show T.2.length ≤ 1000; omega), fun Hy v b' sy bty bo => ?_⟩
      obtain ⟨e1, e2⟩ := both_mkb btx.nd bo
      have hry : Hy r = some (.lst (vn T.1)) := (hidB_some (sy _ _ (hidB_of rne.1 rne.2.1 rne.2.2.1 hrx))).2.2.2
      refine ⟨r, _, _, rfl, rfl, hry, by rw [vn_len]; exact small1000 (by unfold Net.many at few; omega), _, _, rfl, ?_, ?_, ?_⟩
      · intro b o hb
        have h1 : b ≠ r := ne_of_none hb nr0
        rw [upd_ne h1]
        exact (hidB_some (sy _ _ (hidB_of (ne_of_none hb np) (ne_of_none hb ng0) (ne_of_none hb nd0) (sx _ _ hb)))).2.2.2
      · rw [upd_same, take_snoc hg, tfold_snoc, hT, vn_snoc, e2]
        rfl
      · rw [take_snoc hg, tfold_snoc, hT]
        have eb : b' = ⟨n.ins, n.starts, (tstep n.base T gt).2⟩ := e1
        rw [← eb]
        exact bat_up bty hry rne.1 rne.2.2.2 rne.2.1 rne.2.2.1
    rintro σ H3 ⟨y9, y10, rfl, s3, hr3, bt3⟩
    rw [hus.len, List.take_length] at hr3 bt3
    have len := tfold_len (first := n.base) n.gates
    have tI := ti_fold n.base f0 n.gates kd.g
    generalize hT : tfold n.base n.gates = T at hr3 bt3 len tI
    obtain ⟨⟨dx, hp⟩, _⟩ := id bt3
    refine ⟨_, rfl, p, dx, _, rfl, hp, bf_no _ _ _ _ (by decide +kernel) (by decide +kernel) (by decide +kernel) (by decide +kernel), ?_⟩
    have nlits : ∀ l ∈ n.nexts, l / 2 < T.1.length := fun l hl => by have := kd.nx l hl; rw [len]; unfold Net.many at this; omega
    have olits : ∀ l ∈ n.outs, l / 2 < T.1.length := fun l hl => by have := kd.ox l hl; rw [len]; unfold Net.many at this; omega
    refine ⟨_, rfl, aN, rfl, ⟨_, SqL.of (s3 _ _ hN)⟩, fun D1 n1 => ?_⟩
    refine lc_list (xs := vn n.nexts) (fun i Hz => Same H3 Hz ∧ Hz D1 = some (.lst (vn ((n.nexts.take i).map (bitv T.1))))) ⟨same_new n1, upd_same⟩ (fun i Hz _ h => SqL.of (h.1 _ _ (s3 _ _ hN))) ?_ ?_
    · rintro i v Hz hv ⟨sz, hZ⟩
      obtain ⟨l, hl, rfl⟩ : ∃ x, n.nexts[i]? = some x ∧ v = V.int (x : Nat) := by
        unfold vn at hv
        rw [List.getElem?_map] at hv
        obtain ⟨x, e1, e2⟩ := Option.map_eq_some_iff.mp hv
        exact ⟨x, e1, e2.symm⟩
      have il := (List.getElem?_eq_some_iff.mp hl).1
      rw [kd.nl] at il
      refine ⟨rfl, _, rfl, _, rfl, r, T.1, l, rfl, sz _ _ hr3, nlits l (List.mem_of_getElem? hl), _, hZ, ?_, same_mut sz n1, ?_⟩
      · rw [vn_len, List.length_map, List.length_take]
        exact small1000 (by omega)
      · rw [upd_same, take_snoc hl, List.map_append, vn_snoc]
        rfl
    rintro H4 ⟨s4, h1⟩
    rw [vn_len, List.take_length] at h1
    refine ⟨_, rfl, aO, rfl, ⟨_, SqL.of (s4 _ _ (s3 _ _ hO))⟩, fun D2 n2 => ?_⟩
    refine lc_list (xs := vn n.outs) (fun i Hz => Same H4 Hz ∧ Hz D2 = some (.lst (vn ((n.outs.take i).map (bitv T.1))))) ⟨same_new n2, upd_same⟩ (fun i Hz _ h => SqL.of (h.1 _ _ (s4 _ _ (s3 _ _ hO)))) ?_ ?_
    · rintro i v Hz hv ⟨sz, hZ⟩
      obtain ⟨l, hl, rfl⟩ : ∃ x, n.outs[i]? = some x ∧ v = V.int (x : Nat) := by
        unfold vn at hv
        rw [List.getElem?_map] at hv
        obtain ⟨x, e1, e2⟩ := Option.map_eq_some_iff.mp hv
        exact ⟨x, e1, e2.symm⟩
      have il := (List.getElem?_eq_some_iff.mp hl).1
      refine ⟨rfl, _, rfl, _, rfl, r, T.1, l, rfl, sz _ _ (s4 _ _ hr3), olits l (List.mem_of_getElem? hl), _, hZ, ?_, same_mut sz n2, ?_⟩
      · rw [vn_len, List.length_map, List.length_take]
        exact small1000 (by omega)
      · rw [upd_same, take_snoc hl, List.map_append, vn_snoc]
        rfl
    rintro H5 ⟨s5, h2⟩
    rw [vn_len, List.take_length] at h2
    have s35 := s4.trans s5
    have bt5 : BAt C_Builder H5 p s g d ⟨n.ins, n.starts, T.2⟩ := by
      obtain ⟨⟨dx, hp⟩, hs, ⟨us, hg, hus⟩, hd, nd, nsg⟩ := bt3
      exact ⟨⟨dx, s35 _ _ hp⟩, s35 _ _ hs, ⟨us, s35 _ _ hg, hus.same (hidB_mono s35)⟩, s35 _ _ hd, nd, nsg⟩
    refine ⟨p, s, g, d, D1, D2, _, n.nexts.map (bitv T.1), n.outs.map (bitv T.1), rfl, bt5, s5 _ _ h1, h2, fun H6 z s6 nz dz => ?_⟩
    have dz := dz P c (dr.same (s3.trans s35))
    have dz : Dv H6 (.ref z) (plain n) := by
      have := dz.same ((hidB_same _ _ _ _).trans (res_same _ _ _))
      unfold plain
      rw [hT]
      exact this
    have gl := tI.few
    have pm : (plain n).many ≤ 1000 := by
      show n.base + (tfold n.base n.gates).2.length ≤ 1000
      rw [hT]
      unfold Net.many at few
      omega
    refine ⟨_, rfl, z, plain n, rfl, dz, plain_kind kd, pm, ?_, fun H7 w nd s7 ask dw => q H7 w nd (s3.trans (s35.trans (s6.trans s7))) ask dw⟩
    show (n.outs.map _).length ≤ 100
    rw [List.length_map]
    exact ol

end K38
namespace K38
open PySem PySem.Spec PyProof.Rows L2 V0
/-! ### the law's own gates -/
theorem kg_known : ¬ ((Sum.inr ("gates" : Str) : Key) = Sum.inr ("known" : Str)) := by decide +kernel
theorem kg_first : ¬ ((Sum.inr ("gates" : Str) : Key) = Sum.inr ("first" : Str)) := by decide +kernel
theorem kk_first : ¬ ((Sum.inr ("known" : Str) : Key) = Sum.inr ("first" : Str)) := by decide +kernel
def mkd (g d : Addr) (first : Nat) : List (Key × V) := [(Sum.inr "gates", .ref g), (Sum.inr "known", .ref d), (Sum.inr "first", .int (first : Nat))]
theorem mkd_gates (g d : Addr) (first : Nat) : valV (mkd g d first) (Sum.inr "gates") = some (.ref g) := valV_pos (p := ((Sum.inr ("gates" : Str) : Key), V.ref g)) rfl
theorem mkd_known (g d : Addr) (first : Nat) : valV (mkd g d first) (Sum.inr "known") = some (.ref d) := by
  unfold mkd
  rw [valV_neg (p := ((Sum.inr ("gates" : Str) : Key), V.ref g)) kg_known]
  exact valV_pos (p := ((Sum.inr ("known" : Str) : Key), V.ref d)) rfl
theorem mkd_first (g d : Addr) (first : Nat) : valV (mkd g d first) (Sum.inr "first") = some (.int (first : Nat)) := by
  unfold mkd
  rw [valV_neg (p := ((Sum.inr ("gates" : Str) : Key), V.ref g)) kg_first, valV_neg (p := ((Sum.inr ("known" : Str) : Key), V.ref d)) kk_first]
  exact valV_pos (p := ((Sum.inr ("first" : Str) : Key), V.int (first : Nat))) rfl
theorem sget_k {H : Hp} {a : Addr} {kvs : List (Key × V)} {x : Str} {v : V} (e : H a = some (.dK kvs)) (h : valV kvs (Sum.inr x) = some v) : DGet H a (.str x) (some v) := by
  rw [← h]
  exact DGet.k (k := Sum.inr x) e
/-- the law's maker stands at m -/
structure LMade (H : Hp) (m g d : Addr) (first : Nat) (gs : List (Nat × Nat)) : Prop where
  ob : H m = some (.dK (mkd g d first))
  gt : ∃ us, H g = some (.lst us) ∧ Dvs (hid g (hid d H)) us gs
  kn : H d = some (.dT (kdict first gs))
  nd : gs.Nodup
theorem LMade.same {H H' : Hp} {m g d : Addr} {first : Nat} {gs : List (Nat × Nat)} (h : LMade H m g d first gs) (s : Same H H') : LMade H' m g d first gs := by
  obtain ⟨a, ⟨us, b, c⟩, e, f⟩ := h
  exact ⟨s _ _ a, ⟨us, s _ _ b, c.same (hid_mono (hid_mono s))⟩, s _ _ e, f⟩
def sp__law_both (K : PySem.W.Frag) : Sp := fun vs H Q _ => ∃ (m g d : Addr) (first : Nat) (gs : List (Nat × Nat)) (x y : Nat), vs = [.ref m, .int (x : Nat), .int (y : Nat)] ∧ LMade H m g d first gs ∧ gs.length ≤ 1000 ∧ 
  ∀ H', Same (hid g (hid d H)) (hid g (hid d H')) → LMade H' m g d first (mkb first gs (min x y) (max x y)).2 → Q (.int ((mkb first gs (min x y) (max x y)).1 : Nat)) H'
theorem half_flip {a b : Nat} (h : a / 2 = b / 2) (ne : a ≠ b) : a = b ^^^ 1 := by
  have h1 := xor_half b 1 (by decide)
  have h2 : (b ^^^ 1) % 2 = (b % 2) ^^^ 1 := by
    rw [show (2 : Nat) = 2 ^ 1 from rfl, Nat.xor_mod_two_pow]
  have h3 : b % 2 = 0 ∨ b % 2 = 1 := by omega
  rcases h3 with h3 | h3
  · rw [h3] at h2
    have h2 : (b ^^^ 1) % 2 = 1 := h2
    omega
  · rw [h3] at h2
    have h2 : (b ^^^ 1) % 2 = 0 := h2
    omega
theorem ok__law_both {P : Program} {w : World} {K : PySem.W.Frag} {mg : Str → Option Value} {base : Heap} {C_Builder : Addr} {f  : Addr} {fd  : FuncData} (F : Fun K "_law_both" "_law_both" s__law_both f fd) (T : Txt K mg C_Builder) :
    FnOk P w K mg base CX0 1 f fd ["made", "a", "b"] (sp__law_both K) := by
  refine F.ok sc_law_both (fun vs H Q E h => ?_) (fun cdv A outer s H vs Q E hr h => ?_)
  · obtain ⟨m, g, d, first, gs, x, y, rfl, _⟩ := h
    rfl
  · obtain ⟨m, g, d, first, gs, x, y, rfl, lm, few, q⟩ := h
    refine ⟨_, (pss_cons (ps_par (i := 1) (j := 2) rfl sc_law_both.nd rfl rfl (by decide) rfl rfl (pa_cons (pe_callB (call_min2 (by rfl)) (by rfl) T.m_min (by decide +kernel) (pa_cons (pv 1) (pa_cons (pv 2) pa_nil))) (pa_cons (pe_callB (call_max2 (by rfl)) (by rfl) T.m_max (by decide +kernel) (pa_cons (pv 1) (pa_cons (pv 2) pa_nil))) pa_nil)) rfl)
      (pss_cons (ps_if (pt_cmpR op_eq (pv 1) (pv 2) (nomark _)) (pss_one (ps_ret (pv 1))) pss_nil)
      (pss_cons (ps_if (PW.pt (pw_or (pt_cmpR op_eq (pv 1) pe_int (nomark _)) (pw_or1 (pt_cmpR op_eq (pe_op op_fdivN (pv 1) pe_int) (pe_op op_fdivN (pv 2) pe_int) (nomark _))))) (pss_one (ps_ret pe_int)) pss_nil)
      (pss_cons (ps_if (pt_cmpR op_eq (pv 1) pe_int (nomark _)) (pss_one (ps_ret (pv 2))) pss_nil)
      (C8.pss_cut (ps_if (pt_cmp (pc_dnotin (hu_of hr) (pe_tup (pa_cons (pv 1) (pa_cons (pv 2) pa_nil))) (pe_dget (hu_of hr) (pv 0) pe_str (fun _ _ => rfl)))) (pss_cons (ps_expr (pe_bm PySem.F.plainAttrs_list PySem.F.slot_list_append PySem.F.type_list_append mt_append (pe_dget (hu_of hr) (pv 0) pe_str (fun _ _ => rfl)) (pa_cons (pe_tup (pa_cons (pv 1) (pa_cons (pv 2) pa_nil))) pa_nil)))
      (pss_one (ps_dput (hu_of hr) (pe_dget (hu_of hr) (pv 0) pe_str (fun _ _ => rfl)) (pe_tup (pa_cons (pv 1) (pa_cons (pv 2) pa_nil))) (pe_op op_mul pe_int (pe_op op_sub (pe_op op_add (pe_dget (hu_of hr) (pv 0) pe_str (fun _ _ => rfl)) (pe_callB call_len_seq (by rfl) T.m_len (by decide +kernel) (pa_cons (pe_dget (hu_of hr) (pv 0) pe_str (fun _ _ => rfl)) pa_nil))) pe_int)) rfl))) pss_nil)
      (pss_one (ps_ret (pe_dget (hu_of hr) (pe_dget (hu_of hr) (pv 0) pe_str (fun _ _ => rfl)) (pe_tup (pa_cons (pv 1) (pa_cons (pv 2) pa_nil))) (fun _ _ => rfl))))))))), ?_⟩
    refine ⟨_, rfl, _, rfl, _, _, rfl, ?_⟩
    simp only [vmin2]
    refine ⟨_, rfl, _, rfl, _, _, rfl, ?_⟩
    simp only [vmax2]
    refine ⟨_, _, rfl, ?_⟩
    have lh : min x y ≤ max x y := by omega
    generalize min x y = lo at q lh ⊢
    generalize max x y = hi at q lh ⊢
    have sr := Same.refl (hid g (hid d H))
    refine ⟨_, rfl, _, rfl, rfl, _, rfl, ?_⟩
    rw [show decide (V.int (lo : Int) = V.int (hi : Int)) = decide (lo = hi) from dec_nat _ _]
    by_cases h1 : lo = hi
    · rw [decide_eq_true h1]
      subst h1
      refine iteT ⟨_, rfl, ?_⟩
      have e : mkb first gs lo lo = (lo, gs) := by
        unfold mkb
        by_cases c : lo = 0 ∨ lo = lo ^^^ 1
        · rw [if_pos c]
          rcases c with c | c
          · rw [c]
          · exfalso
            have h2 : (lo ^^^ 1) % 2 = (lo % 2) ^^^ 1 := by
              rw [show (2 : Nat) = 2 ^ 1 from rfl, Nat.xor_mod_two_pow]
            rw [← c] at h2
            have h3 : lo % 2 = 0 ∨ lo % 2 = 1 := by omega
            rcases h3 with h3 | h3 <;> rw [h3] at h2 <;> cases h2
        · rw [if_neg c, if_pos (.inr rfl)]
      rw [e] at q
      exact q H sr lm
    rw [decide_eq_false h1]
    refine iteF ?_
    refine ⟨_, rfl, rfl, _, rfl, ?_⟩
    rw [show decide (V.int (lo : Int) = V.int 0) = decide (lo = 0) from dec_nat lo 0]
    have zero : lo = 0 ∨ lo = hi ^^^ 1 → Q (.int 0) H := fun c => by
      have e : mkb first gs lo hi = (0, gs) := by
        unfold mkb
        rw [if_pos c]
      rw [e] at q
      exact q H sr lm
    by_cases h0 : lo = 0
    · rw [decide_eq_true h0]
      exact iteT (zero (.inl h0))
    rw [decide_eq_false h0]
    refine iteF ?_
    refine ⟨_, rfl, _, _, rfl, rfl, ⟨by decide, by decide⟩, _, rfl, _, _, rfl, rfl, ⟨by decide, by decide⟩, rfl, _, rfl, ?_⟩
    simp only [nfdiv2]
    rw [show decide (V.int ((lo / 2 : Nat) : Int) = V.int ((hi / 2 : Nat) : Int)) = decide (lo / 2 = hi / 2) from dec_nat _ _]
    by_cases h2 : lo / 2 = hi / 2
    · rw [decide_eq_true h2]
      exact iteT (zero (.inr (half_flip h2 h1)))
    rw [decide_eq_false h2]
    refine iteF ?_
    have n0 : ¬ (lo = 0 ∨ lo = hi ^^^ 1) := fun c => c.elim h0 fun e => h2 (by rw [e]; exact xor_half hi 1 (by decide))
    refine ⟨_, rfl, rfl, _, rfl, ?_⟩
    rw [show decide (V.int (lo : Int) = V.int 1) = decide (lo = 1) from dec_nat lo 1]
    by_cases h3 : lo = 1
    · rw [decide_eq_true h3]
      refine iteT ⟨_, rfl, ?_⟩
      have e : mkb first gs lo hi = (hi, gs) := by
        unfold mkb
        rw [if_neg n0, if_pos (.inl h3)]
      rw [e] at q
      exact q H sr lm
    rw [decide_eq_false h3]
    refine iteF ?_
    have n1 : ¬ (lo = 1 ∨ lo = hi) := fun c => c.elim h3 h1
    refine ⟨fun σ Hx => ∃ gs' j, σ = [some (.ref m), some (.int (lo : Nat)), some (.int (hi : Nat))] ∧ Same (hid g (hid d H)) (hid g (hid d Hx)) ∧ LMade Hx m g d first gs' ∧ gs'[j]? = some (lo, hi) ∧ mkb first gs lo hi = (2 * (first + j), gs'), ?_, ?_⟩
    · have hm := lm.ob
      refine ⟨_, rfl, _, rfl, by show 2 ≤ sizeLine; decide, fun t nt => ?_⟩
      have st := same_new (o := .tup [.int (lo : Int), .int (hi : Int)]) nt
      have lm1 := lm.same st
      have et : (upd H t (.tup [.int (lo : Int), .int (hi : Int)])) t = some (.tup [.int (lo : Int), .int (hi : Int)]) := upd_same
      generalize (upd H t (.tup [.int (lo : Int), .int (hi : Int)])) = H1 at st lm1 et ⊢
      refine ⟨_, rfl, m, .ref d, rfl, sget_k lm1.ob (mkd_known g d first), d, _, rfl, DGet.t (k := keyOf2 (lo, hi)) lm1.kn et, _, rfl, ?_⟩
      by_cases hm : (lo, hi) ∈ gs
      · obtain ⟨j, hj, e⟩ := kdict_at (first := first) hm
        rw [e]
        refine iteF ⟨gs, j, rfl, hid_mono (hid_mono st), lm1, hj, ?_⟩
        unfold mkb
        rw [if_neg n0, if_neg n1, pos_at lm.nd hj]
      · rw [kdict_no hm]
        refine iteT ?_
        obtain ⟨o1, ⟨us, hg, hus⟩, hd, nd⟩ := lm1
        refine ⟨_, rfl, m, .ref g, rfl, sget_k o1 (mkd_gates g d first), .inl ⟨rfl, _, SqL.of hg⟩, _, rfl, _, rfl, by show 2 ≤ sizeLine; decide, fun t2 nt2 => ?_⟩
        have s2 := same_new (o := .tup [.int (lo : Int), .int (hi : Int)]) nt2
        have et2 : (upd H1 t2 (.tup [.int (lo : Int), .int (hi : Int)])) t2 = some (.tup [.int (lo : Int), .int (hi : Int)]) := upd_same
        have ng : g ≠ t2 := ne_of_none hg nt2
        have nd2 : d ≠ t2 := ne_of_none hd nt2
        have o1 := s2 _ _ o1
        have hg := s2 _ _ hg
        have hd := s2 _ _ hd
        have hus := hus.same (hid_mono (q := g) (hid_mono (q := d) s2))
        have s2 := st.trans s2
        generalize (upd H1 t2 (.tup [.int (lo : Int), .int (hi : Int)])) = H2 at s2 et2 o1 hg hd hus ⊢
        have ngd : g ≠ d := ne_of hg hd (by intro z; cases z)
        have nmg : m ≠ g := ne_of o1 hg (by intro z; cases z)
        have nmd : m ≠ d := ne_of o1 hd (by intro z; cases z)
        have lus := hus.len
        refine ⟨g, us, _, rfl, rfl, hg, by rw [lus]; exact small1000 few, ?_⟩
        have g3 : (upd H2 g (.lst (us ++ [V.ref t2]))) g = some (.lst (us ++ [V.ref t2])) := upd_same
        have k3 : ∀ b o, b ≠ g → H2 b = some o → (upd H2 g (.lst (us ++ [V.ref t2]))) b = some o := fun b o hb e => by rw [upd_ne hb]; exact e
        generalize (upd H2 g (.lst (us ++ [V.ref t2]))) = H3 at g3 k3 ⊢
        have o3 := k3 _ _ nmg o1
        have d3 := k3 _ _ ngd.symm hd
        refine ⟨_, rfl, m, _, rfl, sget_k o3 (mkd_first g d first), _, rfl, m, .ref g, rfl, sget_k o3 (mkd_gates g d first), g, _, rfl, .inl (SqL.of g3), _, _, rfl, rfl, _, _, rfl, rfl, _, _, rfl, rfl, .inl ⟨by decide, by decide⟩, ?_⟩
        have eT : V.int ((2 : Int) * ((first : Int) + ((us ++ [V.ref t2]).length : Int) - 1)) = V.int ((2 * (first + gs.length) : Nat) : Int) := by
          rw [List.length_append, lus]
          congr 1
          show (2 : Int) * ((first : Int) + ((gs.length + 1 : Nat) : Int) - 1) = _
          omega
        simp only [eT]
        refine ⟨_, rfl, m, .ref d, rfl, sget_k o3 (mkd_known g d first), _, rfl, _, rfl, by show 2 ≤ sizeLine; decide, fun t3 nt3 => ?_⟩
        have s4 := same_new (o := .tup [.int (lo : Int), .int (hi : Int)]) nt3
        have et3 : (upd H3 t3 (.tup [.int (lo : Int), .int (hi : Int)])) t3 = some (.tup [.int (lo : Int), .int (hi : Int)]) := upd_same
        have k4 : ∀ b o, b ≠ g → H2 b = some o → (upd H3 t3 (.tup [.int (lo : Int), .int (hi : Int)])) b = some o := fun b o hb e => s4 _ _ (k3 b o hb e)
        have d4 := s4 _ _ d3
        have g4 := s4 _ _ g3
        generalize (upd H3 t3 (.tup [.int (lo : Int), .int (hi : Int)])) = H4 at et3 k4 d4 g4 ⊢
        refine ⟨d, _, rfl, DPut.t (k := keyOf2 (lo, hi)) d4 et3 (by rw [kdict_len]; exact small1000 few), ?_⟩
        rw [kdict_put hm]
        have k5 : ∀ b o, b ≠ g → b ≠ d → H2 b = some o → (upd H4 d (.dT (kdict first (gs ++ [(lo, hi)])))) b = some o := fun b o h1 h2 e => by rw [upd_ne h2]; exact k4 b o h1 e
        have sB : Same (hid g (hid d H2)) (hid g (hid d (upd H4 d (.dT (kdict first (gs ++ [(lo, hi)])))))) := fun b o h => by
          obtain ⟨h1, h⟩ := hid_some h
          obtain ⟨h2, h⟩ := hid_some h
          exact hid_of h1 (hid_of h2 (k5 _ _ h1 h2 h))
        refine ⟨gs ++ [(lo, hi)], gs.length, rfl, (hid_mono (hid_mono s2)).trans sB, ⟨k5 _ _ nmg nmd o1, ⟨us ++ [V.ref t2], ?_, ?_⟩, upd_same, ?_⟩, ?_, ?_⟩
        · rw [upd_ne ngd]
          exact g4
        · refine (hus.same sB).app (.cons (.pair (hid_of ng.symm (hid_of nd2.symm (k5 _ _ ng.symm nd2.symm et2))) (Dv.nat _) (Dv.nat _)) .nil)
        · rw [List.nodup_append]
          refine ⟨nd, by simp, fun x hx y hy e => ?_⟩
          rw [List.mem_singleton.mp hy] at e
          exact hm (e ▸ hx)
        · rw [List.getElem?_append_right (Nat.le_refl _), Nat.sub_self]
          rfl
        · unfold mkb
          rw [if_neg n0, if_neg n1, pos_none.mpr hm]
    · rintro σ Hx ⟨gs', j, rfl, sx, lx, hj, e⟩
      rw [e] at q
      obtain ⟨i, hi', ei⟩ := kdict_at (first := first) (List.mem_of_getElem? hj)
      have eij : i = j := by
        have a := List.getElem?_eq_some_iff.mp hj
        have b := List.getElem?_eq_some_iff.mp hi'
        exact (List.getElem_inj lx.nd).mp (b.2.trans a.2.symm)
      subst eij
      refine ⟨_, rfl, m, .ref d, rfl, sget_k lx.ob (mkd_known g d first), _, rfl, _, rfl, by show 2 ≤ sizeLine; decide, fun t nt => ?_⟩
      have st := same_new (o := .tup [.int (lo : Int), .int (hi : Int)]) nt
      refine ⟨d, _, rfl, (by rw [← ei]; exact DGet.t (k := keyOf2 (lo, hi)) (st _ _ lx.kn) upd_same), q _ (sx.trans (hid_mono (hid_mono st))) (lx.same st)⟩

end K38
namespace K38
open PySem PySem.Spec PyProof.Rows L2 V0
/-! ### the law's own nodes needed -/
structure NW (n : Net) (lits xs : List Nat) (k : Nat) : Prop where
  s : ∀ y ∈ xs, ∃ l ∈ lits, Below n (l / 2) y
  l : ∀ l ∈ lits, l / 2 ∈ xs
  c : ∀ z ∈ xs, k ≤ z → ∀ y ∈ kids n z, y ∈ xs
theorem NW.all {n : Net} {lits xs : List Nat} (h : NW n lits xs n.base) (y : Nat) : y ∈ xs ↔ ∃ l ∈ lits, Below n (l / 2) y := by
  refine ⟨h.s y, ?_⟩
  rintro ⟨l, hl, b⟩
  induction b with
  | refl => exact h.l l hl
  | @kid y z _ hz ih =>
    by_cases c : y < n.base
    · rw [kids_base c] at hz
      cases hz
    · exact h.c y ih (by omega) z hz
theorem NW.skip {n : Net} {lits xs : List Nat} {k : Nat} (h : NW n lits xs (k + 1)) (no : k ∉ xs) : NW n lits xs k := by
  refine ⟨h.s, h.l, fun z hz kz => h.c z hz ?_⟩
  have : z ≠ k := fun e => no (e ▸ hz)
  omega
theorem NW.add {n : Net} {lits xs : List Nat} {k : Nat} (f : Fits n) (h : NW n lits xs (k + 1)) (hk : k ∈ xs) : NW n lits (xs ++ kids n k) k := by
  refine ⟨fun y hy => ?_, fun l hl => List.mem_append_left _ (h.l l hl), fun z hz kz y hy => ?_⟩
  · rcases List.mem_append.mp hy with hy | hy
    · exact h.s y hy
    · obtain ⟨l, hl, b⟩ := h.s k hk
      exact ⟨l, hl, .kid b hy⟩
  · rcases List.mem_append.mp hz with hz | hz
    · by_cases e : z = k
      · rw [e] at hy
        exact List.mem_append_right _ hy
      · exact List.mem_append_left _ (h.c z hz (by omega) y hy)
    · have := kids_lt f hz
      omega
def sp__law_need (K : PySem.W.Frag) : Sp := fun vs H Q _ => ∃ (a r : Addr) (n : Net) (lits : List Nat), vs = [.ref a, .ref r] ∧ Dv H (.ref a) n ∧ H r = some (.lst (vn lits)) ∧ Fits n ∧ n.many ≤ 1000 ∧ lits.length ≤ 1000 ∧
  ∀ H' q ys, Same H H' → H q = none → H' q = some (.lst (vn ys)) → ys.Pairwise (· < ·) → (∀ y, y ∈ ys ↔ ∃ l ∈ lits, Below n (l / 2) y) → Q (.ref q) H'
theorem ok__law_need {P : Program} {w : World} {K : PySem.W.Frag} {mg : Str → Option Value} {base : Heap} {C_Builder : Addr} {f  : Addr} {fd  : FuncData} (F : Fun K "_law_need" "_law_need" s__law_need f fd) (T : Txt K mg C_Builder) :
    FnOk P w K mg base CX0 1 f fd ["net", "literals"] (sp__law_need K) := by
  refine F.ok sc_law_need (fun vs H Q E h => ?_) (fun cdv A outer s H vs Q E hr h => ?_)
  · obtain ⟨a, r, n, lits, rfl, _⟩ := h
    rfl
  · obtain ⟨a, r, n, lits, rfl, hn, hR, fit, few, ll, q⟩ := h
    obtain ⟨_, aS, aG, aN, aO, e, hA, hS, hG, hN, hO⟩ := hn.net_inv
    cases e
    obtain ⟨_, e, hS⟩ := hS.natl_inv
    cases e
    obtain ⟨_, us, e, hGl, hus⟩ := hG.list_inv
    cases e
    have eB : V.int ((1 : Int) + (n.ins : Int) + ((vn n.starts).length : Int)) = V.int ((n.base : Nat) : Int) := by
      rw [vn_len]
      rfl
    have gm : n.gates.length + n.base = n.many := by unfold Net.many; omega
    refine ⟨_, (pss_cons (ps_set (i := 2) sc_law_need.nd rfl (.inl rfl) (pe_op op_add (pe_op op_add pe_int (pe_ix (r := rIxT K) ix_tup (pv 0) pe_int (fun _ _ => rfl))) (pe_callB call_len_seq (by rfl) T.m_len (by decide +kernel) (pa_cons (pe_ix (r := rIxT K) ix_tup (pv 0) pe_int (fun _ _ => rfl)) pa_nil))))
      (pss_cons (ps_setLc (i := 3) (own := [("literal", 5)]) (g := gName 5) (tt := tYes) rfl sc_law_need.nd rfl rfl (sw_true rfl rfl rfl (by decide +kernel)) (pi_list (pv 1)) (blkOk_by (N := N__law_need) (sc := defScope s__law_need) (by decide +kernel)) (fun _ _ _ _ _ => (pg_name (i := 5) sc_law_need.nd rfl (Or.inl rfl))) (fun _ _ _ _ _ => pts_nil) (fun _ _ _ _ _ => (pe_op op_fdivN (pv 5) pe_int)))
      (pss_cons (ps_for PassesOwn.never rfl (pi_range3 rfl T.m_range (pa_cons (pe_op op_sub (pe_op op_add (pv 2) (pe_callB call_len_seq (by rfl) T.m_len (by decide +kernel) (pa_cons (pe_ix (r := rIxT K) ix_tup (pv 0) pe_int (fun _ _ => rfl)) pa_nil))) pe_int) (pa_cons (pe_op op_sub (pv 2) pe_int) (pa_cons (pe_un un_neg pe_int) pa_nil)))) (pg_name (i := 4) sc_law_need.nd rfl (Or.inl rfl)) (pss_one (ps_if (pt_cmpR (r := rIn K false) op_in_seq (pv 4) (pv 3) (by rfl)) (pss_one (ps_expr (pe_bm PySem.F.plainAttrs_list PySem.F.slot_list_extend PySem.F.type_list_extend mt_extend (pv 3) (pa_cons (pe_lc (own := [("literal", 5)]) (g := gName 5) (tt := tYes) rfl sc_law_need.nd (pi_tup (pe_ix (r := rIxL K) ix_list (pe_ix (r := rIxT K) ix_tup (pv 0) pe_int (fun _ _ => rfl)) (pe_op op_sub (pv 4) (pv 2)) (fun _ _ => rfl))) (blkOk_by (N := N__law_need) (sc := defScope s__law_need) (by decide +kernel)) (fun _ _ _ _ _ => (pg_name (i := 5) sc_law_need.nd rfl (Or.inl rfl))) (fun _ _ _ _ _ => pts_nil) (fun _ _ _ _ _ => (pe_op op_fdivN (pv 5) pe_int))) pa_nil)))) pss_nil)))
      (pss_one (ps_ret (pe_callB (r := V0.rSortedSetW w) (V0.cr_sortedSetW (by rfl)) (by rfl) T.m_sorted (by decide +kernel) (pa_cons (pe_callTy (r := rSetOf K w) (cr_setOf (by rfl)) (by rfl) T.m_set (by decide +kernel) (pa_cons (pv 3) pa_nil)) pa_nil))))))), ?_⟩
    refine ⟨_, rfl, a, _, 1, _, rfl, rfl, SqT.of hA, atI_nat (j := 1) rfl, _, _, rfl, rfl, _, rfl, a, _, 2, _, rfl, rfl, SqT.of hA, atI_nat (j := 2) rfl, aS, _, rfl, .inl (SqL.of hS), _, _, rfl, rfl, ?_⟩
    simp only [eB]
    refine ⟨_, rfl, r, rfl, ⟨_, SqL.of hR⟩, fun D nD => ?_⟩
    refine lc_list (xs := vn lits) (fun i Hz => Same H Hz ∧ Hz D = some (.lst (vn ((lits.take i).map (· / 2))))) ⟨same_new nD, upd_same⟩ (fun i Hz _ h => SqL.of (h.1 _ _ hR)) ?_ ?_
    · rintro i v Hz hv ⟨sz, hZ⟩
      obtain ⟨l, hl, rfl⟩ : ∃ x, lits[i]? = some x ∧ v = V.int (x : Nat) := by
        unfold vn at hv
        rw [List.getElem?_map] at hv
        obtain ⟨x, e1, e2⟩ := Option.map_eq_some_iff.mp hv
        exact ⟨x, e1, e2.symm⟩
      have il := (List.getElem?_eq_some_iff.mp hl).1
      refine ⟨rfl, _, rfl, _, _, rfl, rfl, ⟨by decide, by decide⟩, _, hZ, ?_, same_mut sz nD, ?_⟩
      · rw [vn_len, List.length_map, List.length_take]
        exact small1000 (by omega)
      · rw [upd_same, take_snoc hl, List.map_append]
        show some (HO.lst (_ ++ [V.int (((l : Nat) : Int).fdiv 2)])) = some (HO.lst (vn (_ ++ [l / 2])))
        rw [nfdiv2, ← vn_snoc]
    rintro H1 ⟨s1, hD1⟩
    rw [vn_len, List.take_length] at hD1
    refine ⟨_, rfl, _, rfl, a, _, 3, _, rfl, rfl, SqT.of (s1 _ _ hA), atI_nat (j := 3) rfl, aG, _, rfl, .inl (SqL.of (s1 _ _ hGl)), _, _, rfl, rfl, _, _, rfl, rfl, _, rfl, _, _, rfl, rfl, ?_⟩
    have lus := hus.len
    refine ⟨_, rfl, ?_⟩
    have rg : RgC (((n.base : Nat) : Int) + ((us.length : Nat) : Int) - 1) (((n.base : Nat) : Int) - 1) (-1) n.gates.length := by
      have e : ((((n.base : Nat) : Int) + ((us.length : Nat) : Int) - 1) - (((n.base : Nat) : Int) - 1)).toNat = n.gates.length := by omega
      rw [← e]
      refine RgC.neg ?_ ?_ ?_ ?_ <;> omega
    refine ⟨_, _, _, _, rfl, rg, for_rangeC (n := n.gates.length) (fun i σ Hx => ∃ (y4 : Option V) (xs : List Nat), σ = [some (.ref a), some (.ref r), some (.int (n.base : Nat)), some (.ref D), y4, none] ∧ Same H Hx ∧ Hx D = some (.lst (vn xs)) ∧ NW n lits xs (n.many - i) ∧ xs.length ≤ lits.length + 2 * i) ⟨none, _, rfl, s1, hD1, ⟨fun y hy => ?_, fun l hl => List.mem_map.mpr ⟨l, hl, rfl⟩, fun z hz kz y hy => ?_⟩, by rw [List.length_map]; omega⟩ ?_ ?_⟩
    · obtain ⟨l, hl, rfl⟩ := List.mem_map.mp hy
      exact ⟨l, hl, .refl⟩
    · exfalso
      unfold kids at hy
      rw [if_neg (by omega)] at hy
      have : n.gates[z - n.base]? = none := List.getElem?_eq_none (by omega)
      rw [this] at hy
      cases hy
    · rintro i σ Hx hi ⟨y4, xs, rfl, sx, hx, nw, len⟩
      obtain ⟨k, hk⟩ : ∃ k, k = n.many - (i + 1) := ⟨_, rfl⟩
      have ek : ((n.base : Nat) : Int) + ((us.length : Nat) : Int) - 1 + (i : Nat) * (-1) = ((k : Nat) : Int) := by omega
      rw [ek]
      rw [show n.many - i = k + 1 by omega] at nw
      rw [← hk]
      refine ⟨_, rfl, _, rfl, D, _, rfl, .inl (SqL.of hx), rfl, flat_vn _, _, rfl, ?_⟩
      show if (if false = true then !inV (.int ((k : Nat) : Int)) (vn xs) else inV (.int ((k : Nat) : Int)) (vn xs)) = true then _ else _
      rw [if_neg Bool.false_ne_true, inV_vn]
      by_cases c : k ∈ xs
      · rw [decide_eq_true c]
        have gl : k - n.base < n.gates.length := by omega
        have hg := List.getElem?_eq_getElem gl
        obtain ⟨u, hu, du⟩ := (hus.same sx).get hg
        obtain ⟨t, x, y, rfl, ht, hx', hy'⟩ := du.pair_inv
        have hx' := hx'.nat_inv
        have hy' := hy'.nat_inv
        subst hx' hy'
        have kd : kids n k = [n.gates[k - n.base].1 / 2, n.gates[k - n.base].2 / 2] := by
          unfold kids
          rw [if_neg (by omega), hg]
        generalize n.gates[k - n.base] = g at ht kd
        refine iteT ⟨_, rfl, .inl ⟨rfl, _, SqL.of hx⟩, _, rfl, a, _, 3, _, rfl, rfl, SqT.of (sx _ _ hA), atI_nat (j := 3) rfl, _, rfl, _, rfl, _, _, rfl, rfl, aG, _, _, _, rfl, rfl, SqL.of (sx _ _ hGl), (by rw [show ((k : Nat) : Int) - ((n.base : Nat) : Int) = ((k - n.base : Nat) : Int) by omega]; exact atI_nat hu), t, rfl, ⟨_, SqT.of ht⟩, fun M nM => ?_⟩
        refine lc_tup (xs := vn [g.1, g.2]) (fun j Hz => Same Hx Hz ∧ Hz M = some (.lst (vn (([g.1, g.2].take j).map (· / 2))))) ⟨same_new nM, upd_same⟩ (fun j Hz _ h => SqT.of (h.1 _ _ ht)) ?_ ?_
        · rintro j v Hz hv ⟨sz, hZ⟩
          obtain ⟨l, hl, rfl⟩ : ∃ x, [g.1, g.2][j]? = some x ∧ v = V.int (x : Nat) := by
            unfold vn at hv
            rw [List.getElem?_map] at hv
            obtain ⟨x, e1, e2⟩ := Option.map_eq_some_iff.mp hv
            exact ⟨x, e1, e2.symm⟩
          refine ⟨rfl, _, rfl, _, _, rfl, rfl, ⟨by decide, by decide⟩, _, hZ, ?_, same_mut sz nM, ?_⟩
          · rw [vn_len, List.length_map, List.length_take]
            exact small1000 (by simp; omega)
          · rw [upd_same, take_snoc hl, List.map_append]
            show some (HO.lst (_ ++ [V.int (((l : Nat) : Int).fdiv 2)])) = some (HO.lst (vn (_ ++ [l / 2])))
            rw [nfdiv2, ← vn_snoc]
        rintro H2 ⟨s2, hM⟩
        have hM : H2 M = some (.lst (vn (kids n k))) := by
          rw [kd]
          exact hM
        have nMD : M ≠ D := ne_of_none' hx nM
        refine ⟨D, M, _, _, rfl, rfl, s2 _ _ hx, hM, ?_, _, xs ++ kids n k, rfl, same_mut (sx.trans s2) nD, ?_, nw.add fit c, ?_⟩
        · rw [vn_len, vn_len, kd]
          show xs.length + 2 ≤ sizeLine
          exact Nat.le_of_lt (small64k (by omega))
        · rw [upd_same]
          unfold vn
          rw [List.map_append]
        · rw [List.length_append, kd]
          show xs.length + 2 ≤ _
          omega
      · rw [decide_eq_false c]
        exact iteF ⟨_, xs, rfl, sx, hx, nw.skip c, by omega⟩
    rintro σ H2 ⟨y4, xs, rfl, s2, hx, nw, len⟩
    rw [show n.many - n.gates.length = n.base by omega] at nw
    refine ⟨_, rfl, D, toI xs, rfl, SqL.of (by rw [hx, vn_int]), by rw [List.length_map]; omega, fun pz cz nz hcz => ⟨pz, _, cz, rfl, upd_same, fun ns r1 asc mem ln nr1 => ?_⟩⟩
    obtain ⟨ys, rfl, asc1, mem1⟩ := asc_mem (xs := xs) asc fun k => by rw [mem k, decide_eq_true_eq]
    have s3 := (same_new (o := SetO w pz (fun j => decide (j ∈ toI xs)) cz) nz)
    refine q _ r1 ys (s2.trans (s3.trans (same_new nr1))) (none_of (s2.trans s3) nr1) ?_ asc1 fun y => (mem1 y).trans (nw.all y)
    rw [upd_same, vn_int]

end K38
namespace K38
open PySem PySem.Spec PyProof.Rows L2 V0
/-! ### flops found turn by turn -/
theorem nodup_le {α : Type} [DecidableEq α] : ∀ {xs ys : List α}, xs.Nodup → (∀ x ∈ xs, x ∈ ys) → xs.length ≤ ys.length
  | [], _, _, _ => Nat.zero_le _
  | x :: xs, ys, nd, h => by
    have hx := h x List.mem_cons_self
    have nd := List.nodup_cons.mp nd
    have ih := nodup_le (ys := ys.erase x) nd.2 fun y hy => (List.mem_erase_of_ne (fun e => nd.1 (by rw [← e]; exact hy))).mpr (h y (List.mem_cons_of_mem _ hy))
    rw [List.length_erase_of_mem hx] at ih
    have := List.length_pos_of_mem hx
    rw [List.length_cons]
    omega
def NeedOf (n : Net) (F : List Nat) (y : Nat) : Prop := ∃ l ∈ n.outs ++ F.map (fun k => n.nexts[k]?.getD 0), Below n (l / 2) y
theorem need_mono {n : Net} {F F' : List Nat} (h : ∀ k ∈ F, k ∈ F') {y : Nat} (d : NeedOf n F y) : NeedOf n F' y := by
  obtain ⟨l, hl, b⟩ := d
  refine ⟨l, ?_, b⟩
  rcases List.mem_append.mp hl with hl | hl
  · exact List.mem_append_left _ hl
  · obtain ⟨k, hk, rfl⟩ := List.mem_map.mp hl
    exact List.mem_append_right _ (List.mem_map.mpr ⟨k, h k hk, rfl⟩)
theorem need_reach {n : Net} (kd : Kind n) {F : List Nat} (h : ∀ k ∈ F, k < n.starts.length ∧ Reach n (1 + n.ins + k)) {y : Nat} (d : NeedOf n F y) : Reach n y := by
  obtain ⟨l, hl, b⟩ := d
  refine reach_below ?_ b
  rcases List.mem_append.mp hl with hl | hl
  · exact .out hl
  · obtain ⟨k, hk, rfl⟩ := List.mem_map.mp hl
    have hk := h k hk
    have hk1 := hk.1
    rw [← kd.nl] at hk1
    have e := List.getElem?_eq_getElem hk1
    rw [e]
    exact .next hk.2 hk.1 e
structure FI (n : Net) (F : List Nat) (t : Nat) : Prop where
  nd : F.Nodup
  lt : ∀ k ∈ F, k < n.starts.length
  r : ∀ k ∈ F, Reach n (1 + n.ins + k)
  m : ∀ k ∈ F, NeedOf n F (1 + n.ins + k)
  a : t ≤ F.length ∨ ∀ k, k < n.starts.length → NeedOf n F (1 + n.ins + k) → k ∈ F
theorem FI.start (n : Net) : FI n [] 0 := ⟨List.nodup_nil, fun k h => (by cases h), fun k h => (by cases h), fun k h => (by cases h), .inl (Nat.zero_le _)⟩
theorem FI.next {n : Net} (kd : Kind n) {F F' : List Nat} {t : Nat} (h : FI n F t) (nd : F'.Nodup) (iff : ∀ k, k ∈ F' ↔ k < n.starts.length ∧ NeedOf n F (1 + n.ins + k)) : FI n F' (t + 1) := by
  have sub : ∀ k ∈ F, k ∈ F' := fun k hk => (iff k).mpr ⟨h.lt k hk, h.m k hk⟩
  have sound : ∀ k ∈ F, k < n.starts.length ∧ Reach n (1 + n.ins + k) := fun k hk => ⟨h.lt k hk, h.r k hk⟩
  refine ⟨nd, fun k hk => ((iff k).mp hk).1, fun k hk => need_reach kd sound ((iff k).mp hk).2, fun k hk => need_mono sub ((iff k).mp hk).2, ?_⟩
  by_cases c : ∀ k ∈ F', k ∈ F
  · exact .inr fun k hk d => (iff k).mpr ⟨hk, need_mono c d⟩
  · rcases h.a with a | a
    · obtain ⟨k, hk⟩ := Classical.not_forall.mp c
      obtain ⟨k1, k2⟩ := Classical.not_imp.mp hk
      have := nodup_le (xs := k :: F) (ys := F') (List.nodup_cons.mpr ⟨k2, h.nd⟩) fun x hx => by
        rcases List.mem_cons.mp hx with rfl | hx
        · exact k1
        · exact sub x hx
      rw [List.length_cons] at this
      exact .inl (by omega)
    · exact absurd (fun k hk => a k ((iff k).mp hk).1 ((iff k).mp hk).2) c
theorem FI.all {n : Net} (kd : Kind n) {F : List Nat} {t : Nat} (h : FI n F t) (ht : n.starts.length ≤ t) (y : Nat) : NeedOf n F y ↔ Reach n y := by
  have st : ∀ k, k < n.starts.length → NeedOf n F (1 + n.ins + k) → k ∈ F := by
    rcases h.a with a | a
    · intro k hk _
      by_cases c : k ∈ F
      · exact c
      · have := nodup_le (xs := k :: F) (ys := List.range n.starts.length) (List.nodup_cons.mpr ⟨c, h.nd⟩) fun x hx => by
          rcases List.mem_cons.mp hx with rfl | hx
          · exact List.mem_range.mpr hk
          · exact List.mem_range.mpr (h.lt x hx)
        rw [List.length_cons, List.length_range] at this
        omega
    · exact a
  refine ⟨need_reach kd fun k hk => ⟨h.lt k hk, h.r k hk⟩, fun r => ?_⟩
  have kid : ∀ {j : Nat} {g : Nat × Nat}, n.gates[j]? = some g → kids n (n.base + j) = [g.1 / 2, g.2 / 2] := fun {j g} e => by
    unfold kids
    rw [if_neg (by omega), Nat.add_sub_cancel_left, e]
  induction r with
  | @out l m => exact ⟨l, List.mem_append_left _ m, .refl⟩
  | @next k l r hk e ih => exact ⟨l, List.mem_append_right _ (List.mem_map.mpr ⟨k, st k hk ih, by rw [e]; rfl⟩), .refl⟩
  | kid1 r e ih =>
    obtain ⟨l, hl, b⟩ := ih
    exact ⟨l, hl, .kid b (by rw [kid e]; exact List.mem_cons_self)⟩
  | kid2 r e ih =>
    obtain ⟨l, hl, b⟩ := ih
    exact ⟨l, hl, .kid b (by rw [kid e]; exact List.mem_cons_of_mem _ List.mem_cons_self)⟩
/-- numbers told, doubled -/
structure NumD (ins : Nat) (nd : List Nat) (ks : List (Key × V)) : Prop where
  len : ks.length = 1 + ins + nd.length
  lo : ∀ y, y ≤ ins → valV ks (Sum.inl ((y : Nat) : Int)) = some (.int (2 * y : Nat))
  hi : ∀ j y, nd[j]? = some y → valV ks (Sum.inl ((y : Nat) : Int)) = some (.int (2 * (1 + ins + j) : Nat))
  no : ∀ y, ins < y → y ∉ nd → valV ks (Sum.inl ((y : Nat) : Int)) = none
theorem NumD.put {ins u : Nat} {nd : List Nat} {ks : List (Key × V)} (h : NumD ins nd ks) (hu : ins < u) (un : u ∉ nd) : NumD ins (nd ++ [u]) (putK ks (Sum.inl ((u : Nat) : Int)) (.int (2 * ks.length : Nat))) := by
  have e := h.no u hu un
  refine ⟨?_, fun y hy => ?_, fun j y hj => ?_, fun y hy ny => ?_⟩
  · rw [putK_new _ e, List.length_append, List.length_append, h.len]
    rfl
  · rw [valV_put, if_neg (fun z => by have := key_inj z; omega)]
    exact h.lo y hy
  · rw [valV_put]
    rcases get_snoc hj with ⟨_, hj⟩ | ⟨rfl, rfl⟩
    · rw [if_neg (fun z => un (by have := key_inj z; rw [← this]; exact List.mem_of_getElem? hj))]
      exact h.hi j y hj
    · rw [if_pos rfl, h.len]
  · rw [valV_put, if_neg (fun z => ny (by have := key_inj z; rw [this]; exact List.mem_append_right _ List.mem_cons_self))]
    exact h.no y hy fun m => ny (List.mem_append_left _ m)
theorem NumD.told {ins : Nat} {nd : List Nat} {ks : List (Key × V)} (h : NumD ins nd ks) (so : nd.Pairwise (· < ·)) {y : Nat} (hy : y ≤ ins ∨ y ∈ nd) (up : ∀ y ∈ nd, ins < y) : valV ks (Sum.inl ((y : Nat) : Int)) = some (.int (2 * num ins nd y : Nat)) := by
  by_cases c : y ≤ ins
  · rw [h.lo y c]
    unfold num
    rw [if_pos c]
  · have m := hy.resolve_left c
    obtain ⟨j, hj, e⟩ := List.mem_iff_getElem.mp m
    have hj2 : nd[j]? = some y := by rw [List.getElem?_eq_getElem hj, e]
    rw [h.hi j y hj2, num_get so hj2 (up y m)]

end K38
namespace K38
open PySem PySem.Spec PyProof.Rows L2 V0
/-! ### the law's own tidy net -/
theorem lmade_up {r m g d : Addr} {H : Hp} {first : Nat} {gs : List (Nat × Nat)} {xs ys : List V} (h : LMade H m g d first gs) (hr : H r = some (.lst xs)) (h3 : r ≠ g) : LMade (upd H r (.lst ys)) m g d first gs := by
  obtain ⟨ho, ⟨us, hg, hus⟩, hd, nd⟩ := h
  have h1 : m ≠ r := ne_of ho hr (by intro z; cases z)
  have h4 : d ≠ r := ne_of hd hr (by intro z; cases z)
  refine ⟨by rw [upd_ne h1]; exact ho, ⟨us, by rw [upd_ne h3.symm]; exact hg, ?_⟩, by rw [upd_ne h4]; exact hd, nd⟩
  refine bdvs_pairs (fun t zs e => ?_) hus
  obtain ⟨k1, e⟩ := hid_some e
  obtain ⟨k2, e⟩ := hid_some e
  exact hid_of k1 (hid_of k2 (by rw [upd_ne (ne_of e hr (by intro z; cases z))]; exact e))
theorem merge_mkd (g d : Addr) (first : Nat) : mergeK [] (mkd g d first) = mkd g d first := by
  have e1 : valV ([(Sum.inr "gates", V.ref g)] : List (Key × V)) (Sum.inr ("known" : Str)) = none := by
    rw [valV_neg (p := ((Sum.inr ("gates" : Str) : Key), V.ref g)) kg_known]
    rfl
  have e2 : valV ([(Sum.inr "gates", V.ref g), (Sum.inr "known", V.ref d)] : List (Key × V)) (Sum.inr ("first" : Str)) = none := by
    rw [valV_neg (p := ((Sum.inr ("gates" : Str) : Key), V.ref g)) kg_first, valV_neg (p := ((Sum.inr ("known" : Str) : Key), V.ref d)) kk_first]
    rfl
  have e0 : putK ([] : List (Key × V)) (Sum.inr ("gates" : Str)) (V.ref g) = ([(Sum.inr ("gates" : Str), V.ref g)] : List (Key × V)) := rfl
  show putK (putK (putK ([] : List (Key × V)) (Sum.inr ("gates" : Str)) (V.ref g)) (Sum.inr ("known" : Str)) (V.ref d)) (Sum.inr ("first" : Str)) (V.int (first : Nat)) = _
  rw [e0, putK_new _ e1]
  show putK ([(Sum.inr ("gates" : Str), V.ref g), (Sum.inr ("known" : Str), V.ref d)] : List (Key × V)) (Sum.inr ("first" : Str)) (V.int (first : Nat)) = _
  rw [putK_new _ e2]
  rfl
def sp__law_tidy (K : PySem.W.Frag) : Sp := fun vs H Q _ => ∃ (a : Addr) (n : Net), vs = [.ref a] ∧ Dv H (.ref a) n ∧ Kind n ∧ n.many ≤ 800 ∧ n.outs.length ≤ 100 ∧
  ∀ H' q nd, Same H H' → Asked (plain n) nd → Dv H' (.ref q) (pruned (plain n) nd, fls (plain n) nd) → Q (.ref q) H'
theorem ok__law_tidy {P : Program} {w : World} {K : PySem.W.Frag} {mg : Str → Option Value} {base : Heap} {C_Builder : Addr} {f f_law_image f_law_need f_law_both : Addr} {fd fd_law_image fd_law_need fd_law_both : FuncData} (F : Fun K "_law_tidy" "_law_tidy" s__law_tidy f fd) (T : Txt K mg C_Builder)
    (G__law_image : FnOk P w K mg base CX0 1 f_law_image fd_law_image ["images", "literal"] (sp__law_image K)) (D__law_image : Def K mg "_law_image" f_law_image fd_law_image ["images", "literal"])
    (G__law_need : FnOk P w K mg base CX0 1 f_law_need fd_law_need ["net", "literals"] (sp__law_need K)) (D__law_need : Def K mg "_law_need" f_law_need fd_law_need ["net", "literals"])
    (G__law_both : FnOk P w K mg base CX0 1 f_law_both fd_law_both ["made", "a", "b"] (sp__law_both K)) (D__law_both : Def K mg "_law_both" f_law_both fd_law_both ["made", "a", "b"]) :
    FnOk P w K mg base CX0 2 f fd ["net"] (sp__law_tidy K) := by
  refine F.ok sc_law_tidy (fun vs H Q E h => ?_) (fun cdv A outer s H vs Q E hr h => ?_)
  · obtain ⟨a, n, rfl, _⟩ := h
    rfl
  · obtain ⟨a, n, rfl, hn, kd, few, ol, q⟩ := h
    have hn0 := hn
    obtain ⟨_, aS, aG, aN, aO, e, hA, hS, hG, hN, hO⟩ := hn.net_inv
    cases e
    obtain ⟨_, us, e, hGl, hus⟩ := hG.list_inv
    cases e
    obtain ⟨_, e, hS⟩ := hS.natl_inv
    cases e
    obtain ⟨_, e, hN⟩ := hN.natl_inv
    cases e
    obtain ⟨_, e, hO⟩ := hO.natl_inv
    cases e
    have bm : n.base + n.gates.length = n.many := rfl
    have sb : 1 + n.ins + n.starts.length = n.base := rfl
    have f0 : 0 < n.base := by omega
    have eB : V.int ((1 : Int) + (n.ins : Int) + ((vn n.starts).length : Int)) = V.int ((n.base : Nat) : Int) := by
      rw [vn_len]
      rfl
    refine ⟨_, (pss_cons (ps_set (i := 1) sc_law_tidy.nd rfl (.inr rfl) (pe_op op_add (pe_op op_add pe_int (pe_ix (r := rIxT K) ix_tup (pv 0) pe_int (fun _ _ => rfl))) (pe_callB call_len_seq (by rfl) T.m_len (by decide +kernel) (pa_cons (pe_ix (r := rIxT K) ix_tup (pv 0) pe_int (fun _ _ => rfl)) pa_nil))))
      (pss_cons (ps_set (i := 2) sc_law_tidy.nd rfl (.inr rfl) (pe_disp (pps_cons pe_str (pe_lst pa_nil) (pps_cons pe_str pe_dnewT (pps_cons pe_str (pv 1) pps_nil))) rfl rfl (by intro h; cases h) (by decide)))
      (pss_cons (ps_set (i := 4) sc_law_tidy.nd rfl (.inr rfl) (pe_lc (own := [("node", 3)]) (g := gName 3) (tt := tYes) rfl sc_law_tidy.nd (pi_range1 rfl T.m_range (pa_cons (pv 1) pa_nil)) (blkOk_by (N := N__law_tidy) (sc := defScope s__law_tidy) (by decide +kernel)) (fun _ _ _ _ _ => (pg_name (i := 3) sc_law_tidy.nd rfl (Or.inl rfl))) (fun _ _ _ _ _ => pts_nil) (fun _ _ _ _ _ => (pe_op op_mul pe_int (pv 3)))))
      (pss_cons (ps_for PassesOwn.never rfl (pi_list (pe_ix (r := rIxT K) ix_tup (pv 0) pe_int (fun _ _ => rfl))) (pg_tup (by rfl) (pgs_cons (pg_name (i := 5) sc_law_tidy.nd rfl (Or.inl rfl)) (pgs_cons (pg_name (i := 6) sc_law_tidy.nd rfl (Or.inl rfl)) pgs_nil))) (pss_one (ps_expr (pe_bm PySem.F.plainAttrs_list PySem.F.slot_list_append PySem.F.type_list_append mt_append (pv 4) (pa_cons (pe_call G__law_both (hr.mono (by omega)) (by rfl) D__law_both.m D__law_both.k D__law_both.b .nil pass0 (pa_cons (pv 2) (pa_cons (pe_call G__law_image (hr.mono (by omega)) (by rfl) D__law_image.m D__law_image.k D__law_image.b .nil pass0 (pa_cons (pv 4) (pa_cons (pv 5) pa_nil))) (pa_cons (pe_call G__law_image (hr.mono (by omega)) (by rfl) D__law_image.m D__law_image.k D__law_image.b .nil pass0 (pa_cons (pv 4) (pa_cons (pv 6) pa_nil))) pa_nil)))) pa_nil)))))
      (pss_cons (ps_set (i := 7) sc_law_tidy.nd rfl (.inr rfl) (pe_lc (own := [("literal", 18)]) (g := gName 18) (tt := tYes) rfl sc_law_tidy.nd (pi_list (pe_ix (r := rIxT K) ix_tup (pv 0) pe_int (fun _ _ => rfl))) (blkOk_by (N := N__law_tidy) (sc := defScope s__law_tidy) (by decide +kernel)) (fun _ _ _ _ _ => (pg_name (i := 18) sc_law_tidy.nd rfl (Or.inl rfl))) (fun _ _ _ _ _ => pts_nil) (fun _ _ _ _ _ => (pe_call G__law_image (hr.mono (by omega)) (by rfl) D__law_image.m D__law_image.k D__law_image.b .nil pass0 (pa_cons (pv 4) (pa_cons (pv 18) pa_nil))))))
      (pss_cons (ps_setLc (i := 8) (own := [("literal", 18)]) (g := gName 18) (tt := tYes) rfl sc_law_tidy.nd rfl rfl (sw_true rfl rfl rfl (by decide +kernel)) (pi_list (pe_ix (r := rIxT K) ix_tup (pv 0) pe_int (fun _ _ => rfl))) (blkOk_by (N := N__law_tidy) (sc := defScope s__law_tidy) (by decide +kernel)) (fun _ _ _ _ _ => (pg_name (i := 18) sc_law_tidy.nd rfl (Or.inl rfl))) (fun _ _ _ _ _ => pts_nil) (fun _ _ _ _ _ => (pe_call G__law_image (hr.mono (by omega)) (by rfl) D__law_image.m D__law_image.k D__law_image.b .nil pass0 (pa_cons (pv 4) (pa_cons (pv 18) pa_nil)))))
      (pss_cons (ps_set (i := 9) sc_law_tidy.nd rfl (.inl rfl) (pe_tup (pa_cons pe_str (pa_cons (pe_ix (r := rIxT K) ix_tup (pv 0) pe_int (fun _ _ => rfl)) (pa_cons (pe_ix (r := rIxT K) ix_tup (pv 0) pe_int (fun _ _ => rfl)) (pa_cons (pe_dget (hu_of hr) (pv 2) pe_str (fun _ _ => rfl)) (pa_cons (pv 7) (pa_cons (pv 8) pa_nil))))))))
      (pss_cons (ps_set (i := 10) sc_law_tidy.nd rfl (.inl rfl) (pe_lst pa_nil))
      (pss_cons (ps_for PassesOwn.never rfl (pi_range1 rfl T.m_range (pa_cons (pe_op op_add (pe_callB call_len_seq (by rfl) T.m_len (by decide +kernel) (pa_cons (pe_ix (r := rIxT K) ix_tup (pv 0) pe_int (fun _ _ => rfl)) pa_nil)) pe_int) pa_nil)) (pg_name (i := 11) sc_law_tidy.nd rfl (Or.inl rfl)) (pss_cons (ps_set (i := 12) sc_law_tidy.nd rfl (.inl rfl) (pe_op op_cat (pv 8) (pe_lc (own := [("k", 19)]) (g := gName 19) (tt := tYes) rfl sc_law_tidy.nd (pi_list (pv 10)) (blkOk_by (N := N__law_tidy) (sc := defScope s__law_tidy) (by decide +kernel)) (fun _ _ _ _ _ => (pg_name (i := 19) sc_law_tidy.nd rfl (Or.inl rfl))) (fun _ _ _ _ _ => pts_nil) (fun _ _ _ _ _ => (pe_ix (r := rIxL K) ix_list (pv 7) (pv 19) (fun _ _ => rfl))))))
      (pss_cons (ps_set (i := 13) sc_law_tidy.nd rfl (.inr rfl) (pe_call G__law_need (hr.mono (by omega)) (by rfl) D__law_need.m D__law_need.k D__law_need.b .nil pass0 (pa_cons (pv 9) (pa_cons (pv 12) pa_nil))))
      (pss_one (ps_setLc (i := 10) (own := [("k", 19)]) (g := gName 19) rfl sc_law_tidy.nd rfl rfl (sw_true rfl rfl rfl (by decide +kernel)) (pi_range1 rfl T.m_range (pa_cons (pe_callB call_len_seq (by rfl) T.m_len (by decide +kernel) (pa_cons (pe_ix (r := rIxT K) ix_tup (pv 0) pe_int (fun _ _ => rfl)) pa_nil)) pa_nil)) (blkOk_by (N := N__law_tidy) (sc := defScope s__law_tidy) (by decide +kernel)) (fun _ _ _ _ _ => (pg_name (i := 19) sc_law_tidy.nd rfl (Or.inl rfl))) (fun _ _ _ _ _ => (pts_one (pt_cmpR (r := rIn K false) op_in_seq (pe_op op_add (pe_op op_add pe_int (pe_ix (r := rIxT K) ix_tup (pv 0) pe_int (fun _ _ => rfl))) (pv 19)) (pv 13) (by rfl)))) (fun _ _ _ _ _ => (pv 19)))))))
      (pss_cons (ps_set (i := 14) sc_law_tidy.nd rfl (.inr rfl) pe_dnewK)
      (pss_cons (ps_for PassesOwn.never rfl (pi_range1 rfl T.m_range (pa_cons (pe_op op_add pe_int (pe_ix (r := rIxT K) ix_tup (pv 0) pe_int (fun _ _ => rfl))) pa_nil)) (pg_name (i := 3) sc_law_tidy.nd rfl (Or.inl rfl)) (pss_one (ps_dput (hu_of hr) (pv 14) (pv 3) (pe_op op_mul pe_int (pv 3)) rfl)))
      (pss_cons (ps_setLc (i := 15) (own := [("node", 3)]) (g := gName 3) rfl sc_law_tidy.nd rfl rfl (sw_true rfl rfl rfl (by decide +kernel)) (pi_list (pv 13)) (blkOk_by (N := N__law_tidy) (sc := defScope s__law_tidy) (by decide +kernel)) (fun _ _ _ _ _ => (pg_name (i := 3) sc_law_tidy.nd rfl (Or.inl rfl))) (fun _ _ _ _ _ => (pts_one (pt_cmpR op_ge (pv 3) (pv 1) (nomark _)))) (fun _ _ _ _ _ => (pv 3)))
      (pss_cons (ps_for PassesOwn.never rfl (pi_list (pe_op op_cat (pe_lc (own := [("k", 19)]) (g := gName 19) (tt := tYes) rfl sc_law_tidy.nd (pi_list (pv 10)) (blkOk_by (N := N__law_tidy) (sc := defScope s__law_tidy) (by decide +kernel)) (fun _ _ _ _ _ => (pg_name (i := 19) sc_law_tidy.nd rfl (Or.inl rfl))) (fun _ _ _ _ _ => pts_nil) (fun _ _ _ _ _ => (pe_op op_add (pe_op op_add pe_int (pe_ix (r := rIxT K) ix_tup (pv 0) pe_int (fun _ _ => rfl))) (pv 19)))) (pv 15))) (pg_name (i := 3) sc_law_tidy.nd rfl (Or.inl rfl)) (pss_one (ps_dput (hu_of hr) (pv 14) (pv 3) (pe_op op_mul pe_int (pe_callB call_lenD (by rfl) T.m_len (by decide +kernel) (pa_cons (pv 14) pa_nil))) rfl)))
      (pss_cons (ps_setLc (i := 16) (own := [("node", 3)]) (g := gName 3) (tt := tYes) rfl sc_law_tidy.nd rfl rfl (sw_true rfl rfl rfl (by decide +kernel)) (pi_list (pv 15)) (blkOk_by (N := N__law_tidy) (sc := defScope s__law_tidy) (by decide +kernel)) (fun _ _ _ _ _ => (pg_name (i := 3) sc_law_tidy.nd rfl (Or.inl rfl))) (fun _ _ _ _ _ => pts_nil) (fun _ _ _ _ _ => (pe_callTy (r := vTupleOf K) call_tuple_of (by rfl) T.m_tuple (by decide +kernel) (pa_cons (pe_lc (own := [("literal", 18)]) (wi := iTup K _) (g := gName 18) (tt := tYes) rfl sc_law_tidy.nd (pi_tup (pe_ix (r := rIxL K) ix_list (pe_dget (hu_of hr) (pv 2) pe_str (fun _ _ => rfl)) (pe_op op_sub (pv 3) (pv 1)) (fun _ _ => rfl))) (blkOk_by (N := N__law_tidy) (sc := relS _ (defScope s__law_tidy)) (by decide +kernel)) (fun _ _ _ _ _ => (pg_name (i := 18) sc_law_tidy.nd rfl (Or.inl rfl))) (fun _ _ _ _ _ => pts_nil) (fun _ _ _ _ _ => (pe_call G__law_image (hr.mono (by omega)) (by rfl) D__law_image.m D__law_image.k D__law_image.b .nil pass0 (pa_cons (pv 14) (pa_cons (pv 18) pa_nil))))) pa_nil))))
      (pss_cons (ps_setLc (i := 12) (own := [("k", 19)]) (g := gName 19) (tt := tYes) rfl sc_law_tidy.nd rfl rfl (sw_true rfl rfl rfl (by decide +kernel)) (pi_list (pv 10)) (blkOk_by (N := N__law_tidy) (sc := defScope s__law_tidy) (by decide +kernel)) (fun _ _ _ _ _ => (pg_name (i := 19) sc_law_tidy.nd rfl (Or.inl rfl))) (fun _ _ _ _ _ => pts_nil) (fun _ _ _ _ _ => (pe_call G__law_image (hr.mono (by omega)) (by rfl) D__law_image.m D__law_image.k D__law_image.b .nil pass0 (pa_cons (pv 14) (pa_cons (pe_ix (r := rIxL K) ix_list (pv 7) (pv 19) (fun _ _ => rfl)) pa_nil)))))
      (pss_cons (ps_setLc (i := 17) (own := [("literal", 18)]) (g := gName 18) (tt := tYes) rfl sc_law_tidy.nd rfl rfl (sw_true rfl rfl rfl (by decide +kernel)) (pi_list (pv 8)) (blkOk_by (N := N__law_tidy) (sc := defScope s__law_tidy) (by decide +kernel)) (fun _ _ _ _ _ => (pg_name (i := 18) sc_law_tidy.nd rfl (Or.inl rfl))) (fun _ _ _ _ _ => pts_nil) (fun _ _ _ _ _ => (pe_call G__law_image (hr.mono (by omega)) (by rfl) D__law_image.m D__law_image.k D__law_image.b .nil pass0 (pa_cons (pv 14) (pa_cons (pv 18) pa_nil)))))
      (pss_one (ps_ret (pe_tup (pa_cons (pe_tup (pa_cons pe_str (pa_cons (pe_ix (r := rIxT K) ix_tup (pv 0) pe_int (fun _ _ => rfl)) (pa_cons (pe_lc (own := [("k", 19)]) (g := gName 19) (tt := tYes) rfl sc_law_tidy.nd (pi_list (pv 10)) (blkOk_by (N := N__law_tidy) (sc := defScope s__law_tidy) (by decide +kernel)) (fun _ _ _ _ _ => (pg_name (i := 19) sc_law_tidy.nd rfl (Or.inl rfl))) (fun _ _ _ _ _ => pts_nil) (fun _ _ _ _ _ => (pe_ix (r := rIxL K) ix_list (pe_ix (r := rIxT K) ix_tup (pv 0) pe_int (fun _ _ => rfl)) (pv 19) (fun _ _ => rfl)))) (pa_cons (pv 16) (pa_cons (pv 12) (pa_cons (pv 17) pa_nil))))))) (pa_cons (pv 10) pa_nil))))))))))))))))))))), ?_⟩
    refine ⟨_, rfl, a, _, 1, _, rfl, rfl, SqT.of hA, atI_nat (j := 1) rfl, _, _, rfl, rfl, _, rfl, a, _, 2, _, rfl, rfl, SqT.of hA, atI_nat (j := 2) rfl, aS, _, rfl, .inl (SqL.of hS), _, _, rfl, rfl, ?_⟩
    simp only [eB]
    -- the maker
    refine fun m nm => ⟨by show 0 ≤ sizeLine; decide, fun g ng => fun d nd => ⟨_, rfl, ?_⟩⟩
    have nmg : m ≠ g := ne_of_none upd_same ng
    have nmd : m ≠ d := ne_of_none (by rw [upd_ne nmg]; exact upd_same) nd
    have ngd : g ≠ d := ne_of_none upd_same nd
    have ng0 : H g = none := by rw [upd_ne nmg.symm] at ng; exact ng
    have nd0 : H d = none := by rw [upd_ne ngd.symm, upd_ne nmd.symm] at nd; exact nd
    refine ⟨by rw [upd_ne nmd, upd_ne nmg]; exact upd_same, mkd g d n.base, rfl, by show 3 ≤ 15; decide, ?_⟩
    rw [merge_mkd]
    have s1 : Same H (upd (upd (upd (upd H m (.dK [])) g (.lst [])) d (.dT [])) m (.dK (mkd g d n.base))) := fun b o e => by
      rw [upd_ne (ne_of_none e nm), upd_ne (ne_of_none e nd0), upd_ne (ne_of_none e ng0), upd_ne (ne_of_none e nm)]
      exact e
    have lm1 : LMade (upd (upd (upd (upd H m (.dK [])) g (.lst [])) d (.dT [])) m (.dK (mkd g d n.base))) m g d n.base [] := by
      refine ⟨upd_same, ⟨[], ?_, .nil⟩, ?_, List.nodup_nil⟩
      · rw [upd_ne nmg.symm, upd_ne ngd]
        exact upd_same
      · rw [upd_ne nmd.symm]
        exact upd_same
    generalize (upd (upd (upd (upd H m (.dK [])) g (.lst [])) d (.dT [])) m (.dK (mkd g d n.base))) = H1 at s1 lm1 ⊢
    clear ng nd
    -- images
    refine ⟨_, rfl, _, rfl, by omega, by omega, fun r nr => lcR (fun k => 2 * k) nr (by omega) (fun _ => rfl) (fun x hx Hz Q sz q => ⟨_, rfl, _, _, rfl, rfl, .inl ⟨by decide, by decide⟩, ?_⟩) fun H2 s2 hr2 => ?_⟩
    · have e : (2 : Int) * ((x : Nat) : Int) = ((2 * x : Nat) : Int) := by omega
      show Q (V.int ((2 : Int) * ((x : Nat) : Int))) Hz
      rw [e]
      exact q _ (Same.refl _)
    have nr0 : H r = none := none_of s1 nr
    have rg : r ≠ g := by
      obtain ⟨_, ⟨_, hg, _⟩, _⟩ := lm1
      exact ne_of_none' hg nr
    have s12 := s1.trans s2
    refine ⟨_, rfl, a, _, 3, _, rfl, rfl, SqT.of (s12 _ _ hA), atI_nat (j := 3) rfl, aG, rfl, ⟨_, SqL.of (s12 _ _ hGl)⟩, for_list (xs := us) (fun i σ Hx => ∃ (y5 y6 : Option V), σ = [some (.ref a), some (.int (n.base : Nat)), some (.ref m), none, some (.ref r), y5, y6, none, none, none, none, none, none, none, none, none, none, none, none, none] ∧ Same H Hx ∧ Hx r = some (.lst (vn (tfold n.base (n.gates.take i)).1)) ∧ LMade Hx m g d n.base (tfold n.base (n.gates.take i)).2) ⟨none, none, rfl, s12, hr2, lm1.same s2⟩ (fun i σ Hx _ ⟨_, _, _, k, _⟩ => SqL.of (k _ _ hGl)) ?_ ?_⟩
    · rintro i v σ Hx hv ⟨y5, y6, rfl, sx, hrx, lmx⟩
      obtain ⟨gt, hg, dg⟩ := (hus.same sx).at hv
      obtain ⟨t, x, y, rfl, ht, hx, hy⟩ := dg.pair_inv
      have hx := hx.nat_inv
      have hy := hy.nat_inv
      subst hx hy
      have il := (List.getElem?_eq_some_iff.mp hg).1
      have kg := kd.g i gt hg
      have len := tfold_len (first := n.base) (n.gates.take i)
      rw [List.length_take, Nat.min_eq_left (by omega)] at len
      have tI := ti_fold n.base f0 (n.gates.take i) (kind_take kd i)
      have few2 := tI.few
      rw [List.length_take] at few2
      generalize hT : tfold n.base (n.gates.take i) = T at hrx lmx len tI few2
      have g1 := List.getElem?_eq_getElem (l := T.1) (show gt.1 / 2 < T.1.length by omega)
      have g2 := List.getElem?_eq_getElem (l := T.1) (show gt.2 / 2 < T.1.length by omega)
      have b1 : bitv T.1 gt.1 = T.1[gt.1 / 2] ^^^ (gt.1 % 2) := by unfold bitv; rw [g1]; rfl
      have b2 : bitv T.1 gt.2 = T.1[gt.2 / 2] ^^^ (gt.2 % 2) := by unfold bitv; rw [g2]; rfl
      refine ⟨t, _, rfl, SqT.of ht, rfl, _, _, rfl, _, _, rfl, rfl, ?_⟩
      refine ⟨_, rfl, .inl ⟨rfl, _, SqL.of hrx⟩, _, rfl, _, rfl, _, rfl, r, gt.1, _, rfl, .inl ⟨_, hrx, g1⟩, _, rfl, _, rfl, r, gt.2, _, rfl, .inl ⟨_, hrx, g2⟩, m, g, d, n.base, _, _, _, rfl, lmx, by omega, fun Hy sy lmy => ?_⟩
      rw [← b1, ← b2] at lmy ⊢
      have hry : Hy r = some (.lst (vn T.1)) := by
        have nrd : r ≠ d := by
          obtain ⟨_, _, hd, _⟩ := lmx
          exact ne_of hrx hd (by intro z; cases z)
        exact (hid_some (hid_some (sy _ _ (hid_of rg (hid_of nrd hrx)))).2).2
      refine ⟨r, _, _, rfl, rfl, hry, by rw [vn_len]; exact small1000 (by omega), _, _, rfl, ?_, ?_, ?_⟩
      · intro b o hb
        have h1 : b ≠ r := ne_of_none hb nr0
        rw [upd_ne h1]
        exact (hid_some (hid_some (sy _ _ (hid_of (ne_of_none hb ng0) (hid_of (ne_of_none hb nd0) (sx _ _ hb))))).2).2
      · rw [upd_same, take_snoc hg, tfold_snoc, hT, vn_snoc]
        rfl
      · rw [take_snoc hg, tfold_snoc, hT]
        exact lmade_up lmy hry rg
    rintro σ H3 ⟨y5, y6, rfl, s3, hr3, lm3⟩
    rw [hus.len, List.take_length] at hr3 lm3
    have len := tfold_len (first := n.base) n.gates
    have tI := ti_fold n.base f0 n.gates kd.g
    have image : ∀ {l : Nat}, l < 2 * n.many → ∃ w, (tfold n.base n.gates).1[l / 2]? = some w ∧ bitv (tfold n.base n.gates).1 l = w ^^^ (l % 2) := fun {l} hl => by
      have e := List.getElem?_eq_getElem (l := (tfold n.base n.gates).1) (show l / 2 < (tfold n.base n.gates).1.length by omega)
      exact ⟨_, e, by unfold bitv; rw [e]; rfl⟩
    -- nexts, outs
    refine ⟨_, rfl, a, _, 4, _, rfl, rfl, SqT.of (s3 _ _ hA), atI_nat (j := 4) rfl, aN, rfl, ⟨_, SqL.of (s3 _ _ hN)⟩, fun nx nnx => lcL (bitv (tfold n.base n.gates).1) nnx (s3 _ _ hN) (by rw [kd.nl]; omega) (fun _ => rfl) (fun x hx Hz Q sz q => ?_) fun H4 s4 h4 => ?_⟩
    · obtain ⟨w, e1, e2⟩ := image (kd.nx x hx)
      refine ⟨_, rfl, _, rfl, r, x, w, rfl, .inl ⟨_, sz _ _ hr3, e1⟩, ?_⟩
      rw [← e2]
      exact q _ (Same.refl _)
    have s34 := s3.trans s4
    refine ⟨_, rfl, a, _, 5, _, rfl, rfl, SqT.of (s34 _ _ hA), atI_nat (j := 5) rfl, aO, rfl, ⟨_, SqL.of (s34 _ _ hO)⟩, fun ox nox => lcL (bitv (tfold n.base n.gates).1) nox (s34 _ _ hO) (by omega) (fun _ => rfl) (fun x hx Hz Q sz q => ?_) fun H5 s5 h5 => ?_⟩
    · obtain ⟨w, e1, e2⟩ := image (kd.ox x hx)
      refine ⟨_, rfl, _, rfl, r, x, w, rfl, .inl ⟨_, sz _ _ (s4 _ _ hr3), e1⟩, ?_⟩
      rw [← e2]
      exact q _ (Same.refl _)
    have s35 := s34.trans s5
    have s45 := s4.trans s5
    have lm5 := lm3.same s45
    have h4 := s5 _ _ h4
    -- the small net
    refine ⟨_, rfl, a, _, 1, _, rfl, rfl, SqT.of (s35 _ _ hA), atI_nat (j := 1) rfl, _, rfl, a, _, 2, _, rfl, rfl, SqT.of (s35 _ _ hA), atI_nat (j := 2) rfl, _, rfl, m, .ref g, rfl, sget_k lm5.ob (mkd_gates g d n.base), _, rfl, _, rfl, by show 6 ≤ sizeLine; decide, fun sm nsm => ?_⟩
    have s6 := same_new (o := .tup [.str "net", .int (n.ins : Nat), .ref aS, .ref g, .ref nx, .ref ox]) nsm
    have ht6 : (upd H5 sm (.tup [.str "net", .int (n.ins : Nat), .ref aS, .ref g, .ref nx, .ref ox])) sm = some (.tup [.str "net", .int (n.ins : Nat), .ref aS, .ref g, .ref nx, .ref ox]) := upd_same
    generalize (upd H5 sm (.tup [.str "net", .int (n.ins : Nat), .ref aS, .ref g, .ref nx, .ref ox])) = H6 at s6 ht6 ⊢
    have lm6 := lm5.same s6
    obtain ⟨_, ⟨vs, hg6, hvs⟩, _, _⟩ := lm6
    have hvs6 : Dvs H6 vs (plain n).gates := hvs.same ((hid_same _ _).trans (hid_same _ _))
    have h06 := s35.trans s6
    have dsm : Dv H6 (.ref sm) (plain n) := Dv.net (n := plain n) ht6 (.natl (h06 _ _ hS)) (.list hg6 hvs6) (.natl (s6 _ _ h4)) (.natl (s6 _ _ h5))
    have kp := plain_kind kd
    have pm : (plain n).many ≤ 800 := by
      have := tI.few
      show n.base + (tfold n.base n.gates).2.length ≤ 800
      omega
    have po : (plain n).outs.length ≤ 100 := by
      show (n.outs.map _).length ≤ 100
      rw [List.length_map]
      exact ol
    have hS6 := h06 _ _ hS
    have hA6 := h06 _ _ hA
    have h5 := s6 _ _ h5
    have h4 := s6 _ _ h4
    have ob6 := s6 _ _ lm5.ob
    obtain ⟨N, hNe⟩ : ∃ N, N = plain n := ⟨_, rfl⟩
    have eI : N.ins = n.ins := by rw [hNe]; rfl
    have eS : N.starts = n.starts := by rw [hNe]; rfl
    have eBs : N.base = n.base := by rw [hNe]; rfl
    have h4 : H6 nx = some (.lst (vn N.nexts)) := by rw [hNe]; exact h4
    have h5 : H6 ox = some (.lst (vn N.outs)) := by rw [hNe]; exact h5
    rw [← hNe] at q hvs6 dsm kp pm po
    clear hvs s1 s2 s3 s4 s5 s6 s34 s35 s45 lm1 lm3 lm5 s12 image tI len
    have fit : Fits N := ⟨by omega, kp.g⟩
    have nl := kp.nl
    have e12 : (((vn n.starts).length : Nat) : Int).toNat = N.starts.length := by rw [vn_len, eS]; omega
    have e13 : ((((vn n.starts).length : Nat) : Int) + 1).toNat = N.starts.length + 1 := by rw [vn_len, eS]; omega
    have sbN : 1 + N.ins + N.starts.length = N.base := rfl
    have bmN : N.base + N.gates.length = N.many := rfl
    have sz1 : N.starts.length ≤ 1000 := by omega
    have vl1 : (vn n.starts).length ≤ 1000 := by rw [vn_len, ← eS]; exact sz1
    -- the flops
    refine ⟨by show 0 ≤ sizeLine; decide, fun f0 nf0 => ?_⟩
    refine ⟨_, rfl, a, _, 2, _, rfl, rfl, SqT.of (same_new nf0 _ _ hA6), atI_nat (j := 2) rfl, aS, _, rfl, .inl (SqL.of (same_new nf0 _ _ hS6)), _, _, rfl, rfl, _, rfl, by omega, by omega, for_range (fun t σ Hx => ∃ (y11 y12 y13 : Option V) (fl : Addr) (F : List Nat), σ = [some (.ref a), some (.int (n.base : Nat)), some (.ref m), none, some (.ref r), y5, y6, some (.ref nx), some (.ref ox), some (.ref sm), some (.ref fl), y11, y12, y13, none, none, none, none, none, none] ∧ Same H6 Hx ∧ Hx fl = some (.lst (vn F)) ∧ FI N F t ∧ (t = 0 ∨ ∃ (P ys : List Nat) (qn : Addr), y13 = some (.ref qn) ∧ Hx qn = some (.lst (vn ys)) ∧ ys.Pairwise (· < ·) ∧ FI N P (t - 1) ∧ (∀ y, y ∈ ys ↔ NeedOf N P y) ∧ F = (List.range N.starts.length).filter fun k => decide (1 + N.ins + k ∈ ys))) ⟨none, none, none, f0, [], rfl, same_new nf0, upd_same, FI.start N, .inl rfl⟩ ?_ ?_⟩
    · rintro t σ Hx ht ⟨y11, y12, y13, fl, F, rfl, sx, hF, fi, _⟩
      have Fl : F.length ≤ N.starts.length := by
        have := nodup_le (ys := List.range N.starts.length) fi.nd fun k hk => List.mem_range.mpr (fi.lt k hk)
        rw [List.length_range] at this
        exact this
      refine ⟨_, rfl, _, rfl, fl, rfl, ⟨_, SqL.of hF⟩, fun e1 ne1 => lcL (fun k => N.nexts[k]?.getD 0) ne1 hF (by omega) (fun _ => rfl) (fun k hk Hz Q sz q => ?_) fun Hy sy hy => ?_⟩
      · have kl := fi.lt k hk
        rw [← nl] at kl
        have e := List.getElem?_eq_getElem kl
        refine ⟨_, rfl, _, rfl, nx, _, _, _, rfl, rfl, SqL.of (sz _ _ (sx _ _ h4)), atI_nat (vn_get e), ?_⟩
        have q := q _ (Same.refl _)
        rw [e] at q
        exact q
      have sxy := sx.trans sy
      refine ⟨ox, e1, _, _, rfl, rfl, sxy _ _ h5, hy, ?_, fun en nen => ?_⟩
      · rw [vn_len, vn_len, List.length_map]
        exact Nat.le_of_lt (small64k (by omega))
      have se := same_new (o := .lst (vn N.outs ++ vn (F.map fun k => N.nexts[k]?.getD 0))) nen
      have he : (upd Hy en (.lst (vn N.outs ++ vn (F.map fun k => N.nexts[k]?.getD 0)))) en = some (.lst (vn (N.outs ++ F.map fun k => N.nexts[k]?.getD 0))) := by
        rw [upd_same]
        unfold vn
        rw [List.map_append]
      generalize (upd Hy en (.lst (vn N.outs ++ vn (F.map fun k => N.nexts[k]?.getD 0)))) = Hy2 at se he ⊢
      have sx2 := sxy.trans se
      refine ⟨_, rfl, _, rfl, sm, en, N, _, rfl, dsm.same sx2, he, fit, by omega, ?_, fun Hw qn ys sw nq hq so mem => ?_⟩
      · rw [List.length_append, List.length_map]
        omega
      have sx3 := sx2.trans sw
      refine ⟨_, rfl, a, _, 2, _, rfl, rfl, SqT.of (sx3 _ _ hA6), atI_nat (j := 2) rfl, aS, _, rfl, .inl (SqL.of (sx3 _ _ hS6)), _, rfl, by omega, by omega, fun D nD => lcRf (fun k => decide (1 + N.ins + k ∈ ys)) id nD (by omega) (fun _ => rfl) (fun k hk Hz Q sz q => ?_) (fun k hk _ Hz Q sz q => ⟨_, rfl, q _ (Same.refl _)⟩) fun Hv sv hv => ?_⟩
      · refine ⟨_, rfl, a, _, 1, _, rfl, rfl, SqT.of (sz _ _ (sx3 _ _ hA6)), atI_nat (j := 1) rfl, _, _, rfl, rfl, _, rfl, _, _, rfl, rfl, _, rfl, qn, _, rfl, .inl (SqL.of (sz _ _ hq)), rfl, flat_vn _, _, rfl, ?_⟩
        have e : ((1 : Int) + ((n.ins : Nat) : Int) + ((k : Nat) : Int)) = ((1 + N.ins + k : Nat) : Int) := by omega
        show Q (if false = true then !inV (.int ((1 : Int) + ((n.ins : Nat) : Int) + ((k : Nat) : Int))) (vn ys) else inV (.int ((1 : Int) + ((n.ins : Nat) : Int) + ((k : Nat) : Int))) (vn ys)) Hz
        rw [if_neg Bool.false_ne_true, e, inV_vn]
        exact q _ (Same.refl _)
      rw [e12, List.map_id] at hv
      have iff : ∀ k, k ∈ (List.range N.starts.length).filter (fun k => decide (1 + N.ins + k ∈ ys)) ↔ k < N.starts.length ∧ NeedOf N F (1 + N.ins + k) := fun k => by
        rw [List.mem_filter, List.mem_range, decide_eq_true_eq, mem]
        exact Iff.rfl
      refine ⟨_, _, _, D, _, rfl, sx3.trans sv, hv, fi.next kp (List.nodup_range.filter _) iff, .inr ⟨F, ys, qn, rfl, sv _ _ hq, so, ?_, mem, rfl⟩⟩
      rw [Nat.add_sub_cancel]
      exact fi
    rintro σ H7 ⟨y11, y12, y13, fl, F, rfl, s7, hF, fi, hlast⟩
    rw [e13] at fi hlast
    obtain ⟨P, ys, qn, rfl, hq, so, fiP, mem, eF⟩ := hlast.resolve_left (Nat.succ_ne_zero _)
    rw [Nat.add_sub_cancel] at fiP
    have reach : ∀ y, y ∈ ys ↔ Reach N y := fun y => (mem y).trans (fiP.all kp (Nat.le_refl _) y)
    have ask := asked_of so reach
    obtain ⟨nd, hnd⟩ : ∃ nd, nd = ys.filter (N.ins < ·) := ⟨_, rfl⟩
    rw [← hnd] at ask
    have yl1 : ys.length ≤ 1000 := by
      have := sorted_len (m := N.many) (a := 0) so fun y m => ⟨Nat.zero_le _, reach_lt kp ((reach y).mp m)⟩
      omega
    have Fs : F.Pairwise (· < ·) := by
      rw [eF]
      exact List.pairwise_lt_range.filter _
    have fsor : (nd.filter (· < N.base)).Pairwise (· < ·) := ask.so.filter _
    have eF2 : F.map (fun k => 1 + N.ins + k) = nd.filter (· < N.base) := by
      refine asc_unique (List.pairwise_map.mpr (Fs.imp fun h => by omega)) fsor fun y => ?_
      rw [List.mem_map, List.mem_filter, ask.iff, decide_eq_true_eq]
      constructor
      · rintro ⟨k, hk, rfl⟩
        have := fi.lt k hk
        exact ⟨⟨by omega, fi.r k hk⟩, by omega⟩
      · rintro ⟨⟨h1, h2⟩, h3⟩
        refine ⟨y - 1 - N.ins, ?_, by omega⟩
        rw [eF, List.mem_filter, List.mem_range, decide_eq_true_eq, show 1 + N.ins + (y - 1 - N.ins) = y by omega, reach]
        exact ⟨by omega, h2⟩
    have eF3 : F = fls N nd := by
      unfold fls
      rw [← eF2, List.map_map]
      refine (List.map_id _).symm.trans (List.map_congr_left fun k _ => ?_)
      show k = 1 + N.ins + k - 1 - N.ins
      omega
    have Fl : F.length ≤ 1000 := by
      have := nodup_le (ys := List.range N.starts.length) fi.nd fun k hk => List.mem_range.mpr (fi.lt k hk)
      rw [List.length_range] at this
      omega
    have sxA : ∀ {Hx : Hp}, Same H7 Hx → Same H6 Hx := fun k => s7.trans k
    have hnx7 := s7 _ _ h4
    have hox7 := s7 _ _ h5
    have hA7 := s7 _ _ hA6
    have hS7 := s7 _ _ hS6
    have ob7 := s7 _ _ ob6
    have hg7 := s7 _ _ hg6
    have hvs7 := hvs6.same s7
    have h07 := h06.trans s7
    -- places
    refine fun pl npl => ?_
    have low : ∀ {Hx : Hp}, Same (hid pl H7) (hid pl Hx) → Same H7 Hx := fun k b o z => (hid_some (k _ _ (hid_of (ne_of_none z npl) z))).2
    refine ⟨_, rfl, a, _, 1, _, rfl, rfl, SqT.of (same_new npl _ _ hA7), atI_nat (j := 1) rfl, _, _, rfl, rfl, _, rfl, by omega, by omega, for_range (fun i σ Hx => ∃ (y3 : Option V) (ks : List (Key × V)), σ = [some (.ref a), some (.int (n.base : Nat)), some (.ref m), y3, some (.ref r), y5, y6, some (.ref nx), some (.ref ox), some (.ref sm), some (.ref fl), y11, y12, some (.ref qn), some (.ref pl), none, none, none, none, none] ∧ Same (hid pl H7) (hid pl Hx) ∧ Hx pl = some (.dK ks) ∧ ks.length = i ∧ (∀ y, y < i → valV ks (Sum.inl ((y : Nat) : Int)) = some (.int (2 * y : Nat))) ∧ ∀ y, i ≤ y → valV ks (Sum.inl ((y : Nat) : Int)) = none) ⟨none, [], rfl, hid_mono (same_new npl), upd_same, rfl, (fun y h => absurd h (Nat.not_lt_zero _)), fun y _ => rfl⟩ ?_ ?_⟩
    · rintro i σ Hx hi ⟨y3, ks, rfl, kx, hD, lk, lo, no⟩
      rw [Int.zero_add]
      have e : V.int ((2 : Int) * ((i : Nat) : Int)) = V.int ((2 * i : Nat) : Int) := rfl
      refine ⟨_, rfl, _, _, rfl, rfl, .inl ⟨by decide, by decide⟩, _, rfl, _, rfl, pl, _, rfl, DPut.k (k := Sum.inl ((i : Nat) : Int)) hD (small64k (by omega)), ?_⟩
      simp only [e]
      refine ⟨_, _, rfl, kx.trans hid_mut, upd_same, ?_, fun y hy => ?_, fun y hy => ?_⟩
      · rw [putK_new _ (no i (Nat.le_refl _)), List.length_append, lk]
        rfl
      · rw [valV_put]
        by_cases c : y = i
        · subst c
          rw [if_pos rfl]
        · rw [if_neg (fun z => c (key_inj z))]
          exact lo y (by omega)
      · rw [valV_put, if_neg (fun z => by have := key_inj z; omega)]
        exact no y (by omega)
    rintro σ H8 ⟨y3, ks, rfl, k8, hD, lk, lo, no⟩
    have e14 : ((1 : Int) + ((n.ins : Nat) : Int)).toNat = 1 + N.ins := by omega
    rw [e14] at lk lo no
    have nd0 : NumD N.ins [] ks := ⟨lk, fun y h => lo y (by omega), (fun j y h => by simp at h), fun y h _ => no y (by omega)⟩
    -- gates
    have s78 := low k8
    have hq8 := s78 _ _ hq
    refine ⟨_, rfl, qn, rfl, ⟨_, SqL.of hq8⟩, fun gp ngp => lcLf (fun y => decide (N.base ≤ y)) id ngp hq8 (by omega) (fun _ => rfl) (fun y hy Hz Q sz q => ?_) (fun y hy _ Hz Q sz q => ⟨_, rfl, q _ (Same.refl _)⟩) fun H9 s9 h9 => ?_⟩
    · refine ⟨_, rfl, _, rfl, _, _, rfl, rfl, _, rfl, ?_⟩
      have e : decide (((n.base : Nat) : Int) ≤ ((y : Nat) : Int)) = decide (N.base ≤ y) := decide_eq_decide.mpr (by omega)
      rw [e]
      exact q _ (Same.refl _)
    rw [List.map_id, ← kepts_of, ← hnd] at h9
    have k9 := k8.trans (hid_mono (q := pl) s9)
    have s79 := low k9
    have hF9 := s79 _ _ hF
    have hD9 := s9 _ _ hD
    have npl9 : gp ≠ pl := ne_of_none' hD ngp
    have kl : (kepts N nd).length ≤ ys.length := by
      rw [hnd, kepts_of]
      exact List.length_filter_le _ _
    refine ⟨_, rfl, fl, rfl, ⟨_, SqL.of hF9⟩, fun e1 ne1 => lcL (fun k => 1 + N.ins + k) ne1 hF9 (by omega) (fun _ => rfl) (fun k hk Hz Q sz q => ?_) fun Ha sa ha => ?_⟩
    · refine ⟨_, rfl, a, _, 1, _, rfl, rfl, SqT.of (sz _ _ (s79 _ _ hA7)), atI_nat (j := 1) rfl, _, _, rfl, rfl, _, rfl, _, _, rfl, rfl, ?_⟩
      have e : ((1 : Int) + ((n.ins : Nat) : Int) + ((k : Nat) : Int)) = ((1 + N.ins + k : Nat) : Int) := by omega
      show Q (.int ((1 : Int) + ((n.ins : Nat) : Int) + ((k : Nat) : Int))) Hz
      rw [e]
      exact q _ (Same.refl _)
    have hgp := sa _ _ h9
    have enf : F.map (fun k => 1 + N.ins + k) ++ kepts N nd = nd := by
      rw [eF2]
      exact (split_at ask.so N.base).symm
    refine ⟨_, rfl, e1, gp, _, _, rfl, rfl, ha, hgp, ?_, fun en nen => ?_⟩
    · rw [vn_len, vn_len, List.length_map]
      exact Nat.le_of_lt (small64k (by omega))
    have e2 : vn (F.map fun k => 1 + N.ins + k) ++ vn (kepts N nd) = vn nd := by
      refine Eq.trans ?_ (congrArg vn enf)
      unfold vn
      rw [List.map_append]
    rw [e2]
    have sb2 := same_new (o := .lst (vn nd)) nen
    have hen : (upd Ha en (.lst (vn nd))) en = some (.lst (vn nd)) := upd_same
    generalize (upd Ha en (.lst (vn nd))) = Hb at sb2 hen ⊢
    have s9b := sa.trans sb2
    have kb := k9.trans (hid_mono (q := pl) s9b)
    have hDb := s9b _ _ hD9
    have nenpl : en ≠ pl := ne_of_none' (sa _ _ hD9) nen
    have ndl : nd.length ≤ 1000 := by
      rw [hnd]
      exact Nat.le_trans (List.length_filter_le _ _) yl1
    refine ⟨en, rfl, ⟨_, SqL.of hen⟩, for_list (xs := vn nd) (fun i σ Hx => ∃ (y3 : Option V) (ks : List (Key × V)), σ = [some (.ref a), some (.int (n.base : Nat)), some (.ref m), y3, some (.ref r), y5, y6, some (.ref nx), some (.ref ox), some (.ref sm), some (.ref fl), y11, y12, some (.ref qn), some (.ref pl), some (.ref gp), none, none, none, none] ∧ Same (hid pl Hb) (hid pl Hx) ∧ Hx pl = some (.dK ks) ∧ NumD N.ins (nd.take i) ks) ⟨y3, ks, rfl, Same.refl _, hDb, by rw [List.take_zero]; exact nd0⟩ (fun i σ Hx _ ⟨_, _, _, k, _⟩ => SqL.of (hid_some (k _ _ (hid_of nenpl hen))).2) ?_ ?_⟩
    · rintro i v σ Hx hv ⟨y3, ks, rfl, kx, hD, ni⟩
      obtain ⟨y, hyi, rfl⟩ : ∃ x, nd[i]? = some x ∧ v = V.int (x : Nat) := by
        unfold vn at hv
        rw [List.getElem?_map] at hv
        obtain ⟨x, e1, e2⟩ := Option.map_eq_some_iff.mp hv
        exact ⟨x, e1, e2.symm⟩
      have hyi2 := List.getElem?_eq_some_iff.mp hyi
      have new : y ∉ nd.take i := fun mm => by
        obtain ⟨j, hj, e⟩ := List.mem_iff_getElem.mp mm
        have jl : j < i := by
          rw [List.length_take] at hj
          omega
        have := List.pairwise_iff_getElem.mp ask.so j i (by have := hyi2.1; omega) hyi2.1 jl
        rw [List.getElem_take] at e
        rw [e, hyi2.2] at this
        exact Nat.lt_irrefl _ this
      have small : ks.length ≤ 60000 := by
        have := ni.len
        rw [List.length_take] at this
        omega
      have e : V.int ((2 : Int) * ((ks.length : Nat) : Int)) = V.int ((2 * ks.length : Nat) : Int) := rfl
      refine ⟨_, rfl, pl, ks, rfl, hD, _, _, rfl, rfl, .inl ⟨by decide, by decide⟩, _, rfl, _, rfl, pl, _, rfl, DPut.k (k := Sum.inl ((y : Nat) : Int)) hD (small64k (by omega)), ?_⟩
      refine ⟨_, _, rfl, kx.trans hid_mut, upd_same, ?_⟩
      rw [take_snoc hyi]
      exact ni.put ((ask.iff y).mp (List.mem_of_getElem? hyi)).1 new
    rintro σ Hc ⟨y3', ks2, rfl, kc, hDc, nc⟩
    rw [vn_len, List.take_length] at nc
    have hgpc : Hc gp = some (.lst (vn (kepts N nd))) := (hid_some (kc _ _ (hid_of npl9 (sb2 _ _ hgp)))).2
    have kc := kb.trans kc
    have s7c := low kc
    have hF := s7c _ _ hF
    have hnx := s7c _ _ hnx7
    have hox := s7c _ _ hox7
    have hA := s7c _ _ hA7
    have hS : Hc aS = some (.lst (vn N.starts)) := by rw [eS]; exact s7c _ _ hS7
    have ob := s7c _ _ ob7
    have hg := s7c _ _ hg7
    have hvs := hvs7.same s7c
    have up : Same H Hc := h07.trans s7c
    clear s78 s79 sa s9 sb2 s9b hDb hgp k9 kb k8 hnx7 hox7 hA7 hS7 ob7 hg7 hvs7 h07
    have kdl : ∀ {x : Nat}, Reach N x → valV ks2 (Sum.inl ((x : Nat) : Int)) = some (.int (2 * num N.ins nd x : Nat)) := fun h => nc.told ask.so (ask.lit h) fun y m => ((ask.iff y).mp m).1
    have er : ∀ l : Nat, (2 * num N.ins nd (l / 2)) ^^^ (l % 2) = ren N.ins nd l := fun l => by
      rw [xor_add _ (Nat.mod_lt _ (by decide))]
      rfl
    have glk : ∀ {x : Nat}, x ∈ kepts N nd → ∃ g, N.gates[x - N.base]? = some g ∧ N.base ≤ x ∧ Reach N (g.1 / 2) ∧ Reach N (g.2 / 2) := fun {x} hx => by
      obtain ⟨i, hi⟩ := List.getElem?_of_mem hx
      have kg := kept_get ask hi
      have rx := ((ask.iff x).mp (List.mem_of_getElem? kg.1)).2
      have xl := reach_lt kp rx
      have jl : x - N.base < N.gates.length := by
        have := kg.2
        omega
      have eg := List.getElem?_eq_getElem jl
      have rx2 : Reach N (N.base + (x - N.base)) := by
        rw [show N.base + (x - N.base) = x by have := kg.2; omega]
        exact rx
      exact ⟨_, eg, kg.2, .kid1 rx2 eg, .kid2 rx2 eg⟩
    -- pairs
    refine ⟨_, rfl, gp, rfl, ⟨_, SqL.of hgpc⟩, fun D2 n2 => ?_⟩
    refine lc_list (xs := vn (kepts N nd)) (fun i Hz => Same Hc Hz ∧ ∃ kv : List V, Hz D2 = some (.lst kv) ∧ Dvs (hid D2 Hz) kv (((kepts N nd).take i).map fun x => (ren N.ins nd ((N.gates[x - N.base]?.getD (0, 0)).1), ren N.ins nd ((N.gates[x - N.base]?.getD (0, 0)).2)))) ⟨same_new n2, [], upd_same, .nil⟩ (fun i Hz _ h => SqL.of (h.1 _ _ hgpc)) ?_ ?_
    · rintro i v Hz hv ⟨sz, kv, hZ, hkv⟩
      obtain ⟨y, hyi, rfl⟩ : ∃ x, (kepts N nd)[i]? = some x ∧ v = V.int (x : Nat) := by
        unfold vn at hv
        rw [List.getElem?_map] at hv
        obtain ⟨x, e1, e2⟩ := Option.map_eq_some_iff.mp hv
        exact ⟨x, e1, e2.symm⟩
      obtain ⟨gt, eg, yb, r1, r2⟩ := glk (List.mem_of_getElem? hyi)
      obtain ⟨u, hu, du⟩ := (hvs.same sz).get eg
      obtain ⟨t, x1, x2, rfl, ht, hx, hy⟩ := du.pair_inv
      have hx := hx.nat_inv
      have hy := hy.nat_inv
      subst hx hy
      refine ⟨rfl, _, rfl, m, .ref g, rfl, sget_k (sz _ _ ob) (mkd_gates g d n.base), _, rfl, _, rfl, _, _, rfl, rfl, g, _, _, _, rfl, rfl, SqL.of (sz _ _ hg), (by rw [show ((y : Nat) : Int) - ((n.base : Nat) : Int) = ((y - N.base : Nat) : Int) by omega]; exact atI_nat hu), t, rfl, ⟨_, SqT.of ht⟩, fun M nM => lcT (xs := [gt.1, gt.2]) (ren N.ins nd) nM (SqT.of ht) (by show 2 ≤ 60000; decide) (fun _ => rfl) (fun l hl Hy Q sy q => ?_) fun Hw sw hw => ?_⟩
      · have rl : Reach N (l / 2) := by
          rcases List.mem_cons.mp hl with rfl | hl
          · exact r1
          · rw [List.mem_singleton] at hl
            subst hl
            exact r2
        refine ⟨_, rfl, _, rfl, pl, l, _, rfl, .inr ⟨ks2, sy _ _ (sz _ _ hDc), kdl rl⟩, ?_⟩
        rw [er]
        exact q _ (Same.refl _)
      · refine ⟨M, _, rfl, .inl ⟨SqL.of hw, fun l nl => ⟨kv, ?_, ?_, ?_, kv ++ [.ref l], upd_same, ?_⟩⟩⟩
        · have ne : D2 ≠ l := fun e => by
            rw [← e, sw _ _ hZ] at nl
            cases nl
          rw [upd_ne ne]
          exact sw _ _ hZ
        · rw [hkv.len, List.length_map, List.length_take]
          exact small1000 (by omega)
        · exact same_mut (sz.trans (sw.trans (same_new nl))) n2
        · have ne : l ≠ D2 := fun e => by
            rw [e, sw _ _ hZ] at nl
            cases nl
          have sh : Same (hid D2 Hz) (hid D2 (upd (upd Hw l (.tup (vn ([gt.1, gt.2].map (ren N.ins nd))))) D2 (.lst (kv ++ [.ref l])))) := (hid_mono (sw.trans (same_new nl))).trans hid_mut
          rw [take_snoc hyi, List.map_append]
          refine Dvs.app (hkv.same sh) (.cons ?_ .nil)
          show Dv _ _ (ren N.ins nd ((N.gates[y - N.base]?.getD (0, 0)).1), ren N.ins nd ((N.gates[y - N.base]?.getD (0, 0)).2))
          rw [eg]
          refine Dv.pair (x := ren N.ins nd gt.1) (y := ren N.ins nd gt.2) (hid_of ne ?_) (.nat _) (.nat _)
          rw [upd_ne ne]
          exact upd_same
    rintro Hd ⟨sd, kv, hkl, hkv⟩
    rw [vn_len, List.take_length] at hkv
    have hkv := hkv.same (hid_same _ _)
    -- ends
    refine ⟨_, rfl, fl, rfl, ⟨_, SqL.of (sd _ _ hF)⟩, fun D3 n3 => lcL (fun k => ren N.ins nd (N.nexts[k]?.getD 0)) n3 (sd _ _ hF) (by omega) (fun _ => rfl) (fun k hk Hz Q sz q => ?_) fun He se he => ?_⟩
    · have kl := fi.lt k hk
      rw [← nl] at kl
      have e := List.getElem?_eq_getElem kl
      have q := q _ (Same.refl _)
      rw [e] at q
      refine ⟨_, rfl, _, rfl, _, rfl, nx, _, _, _, rfl, rfl, SqL.of (sz _ _ (sd _ _ hnx)), atI_nat (vn_get e), pl, _, _, rfl, .inr ⟨ks2, sz _ _ (sd _ _ hDc), kdl (.next (fi.r k hk) (fi.lt k hk) e)⟩, ?_⟩
      rw [er]
      exact q
    have sde := sd.trans se
    refine ⟨_, rfl, ox, rfl, ⟨_, SqL.of (sde _ _ hox)⟩, fun D4 n4 => lcL (ren N.ins nd) n4 (sde _ _ hox) (by omega) (fun _ => rfl) (fun l hl Hz Q sz q => ?_) fun Hf sf hf => ?_⟩
    · refine ⟨_, rfl, _, rfl, pl, _, _, rfl, .inr ⟨ks2, sz _ _ (sde _ _ hDc), kdl (.out hl)⟩, ?_⟩
      rw [er]
      exact q _ (Same.refl _)
    have sdf := sde.trans sf
    refine ⟨_, rfl, a, _, 1, _, rfl, rfl, SqT.of (sdf _ _ hA), atI_nat (j := 1) rfl, _, rfl, fl, rfl, ⟨_, SqL.of (sdf _ _ hF)⟩, fun D1 n1 => lcL (fun k => N.starts[k]?.getD 0) n1 (sdf _ _ hF) (by omega) (fun _ => rfl) (fun k hk Hz Q sz q => ?_) fun Hg sg h1 => ?_⟩
    · have kl := fi.lt k hk
      have e := List.getElem?_eq_getElem kl
      have q := q _ (Same.refl _)
      rw [e] at q
      exact ⟨_, rfl, a, _, 2, _, rfl, rfl, SqT.of (sz _ _ (sdf _ _ hA)), atI_nat (j := 2) rfl, _, rfl, aS, _, _, _, rfl, rfl, SqL.of (sz _ _ (sdf _ _ hS)), atI_nat (vn_get e), q⟩
    refine ⟨_, rfl, _, rfl, _, rfl, by show 6 ≤ sizeLine; decide, fun t nt => ⟨_, rfl, by show 2 ≤ sizeLine; decide, fun z nz => ?_⟩⟩
    have st := same_new (o := .tup [.str "net", .int (n.ins : Nat), .ref D1, .ref D2, .ref D3, .ref D4]) nt
    have sz := same_new (o := .tup [.ref t, .ref fl]) nz
    have ut := st.trans sz
    refine q _ z nd (up.trans (sdf.trans (sg.trans ut))) ask ?_
    refine Dv.pair (x := pruned N nd) (y := fls N nd) upd_same (Dv.net (n := pruned N nd) (by rw [show (pruned N nd).ins = n.ins from eI]; exact sz _ _ upd_same) (.natl ?_) (.list (ut _ _ (sg _ _ (sf _ _ (se _ _ hkl)))) ?_) (.natl ?_) (.natl ?_)) (.natl ?_)
    · rw [ut _ _ h1, eF3]
      rfl
    · exact hkv.same (se.trans (sf.trans (sg.trans ut)))
    · rw [ut _ _ (sg _ _ (sf _ _ he)), eF3]
      rfl
    · rw [ut _ _ (sg _ _ hf)]
      rfl
    · rw [← eF3]
      exact ut _ _ (sg _ _ (sdf _ _ hF))

end K38
namespace K38
open PySem PySem.Spec PyProof.Rows L2 V0
/-! ### the law -/
theorem ok38_many {n : Net} (ok : n.Ok 6 14 60) : n.many ≤ 81 := by
  have := ok.ins
  have := ok.fl
  have := ok.most
  unfold Net.many Net.base
  omega
theorem ok38_small {n : Net} (ok : n.Ok 6 14 60) : ∃ m, m ≤ 2 ^ 20 ∧ Sm (PySem.W.Datum.toD n) m := by
  have hm := ok38_many ok
  have hg : ∀ g ∈ n.gates, Sm (PySem.W.Datum.toD g) 82 := fun g hg => by
    obtain ⟨j, hj, e⟩ := List.getElem_of_mem hg
    have h := ok.g j g (by rw [List.getElem?_eq_getElem hj, e])
    have hb : n.base + j < 81 := by unfold Net.many at hm; omega
    exact Sm.tup ((SmA.cons (Sm.nat (n := g.1) (by omega)) (SmA.cons (Sm.nat (n := g.2) (by omega)) SmA.nil)))
  have s0 : Sm (.str "net") 40 := ⟨by decide +kernel, by decide +kernel, by decide +kernel⟩
  have i4 := ok.ins
  have h1 := Sm.nat (n := n.ins) (by omega)
  have h2 := Sm.nats (xs := n.starts) fun x hx => by have := ok.bits x hx; omega
  have h3 := Sm.of_list hg
  have h4 := Sm.nats (xs := n.nexts) fun x hx => by have := ok.nx x hx; omega
  have h5 := Sm.nats (xs := n.outs) fun x hx => by have := ok.ox x hx; omega
  refine ⟨_, ?_, Sm.tup (SmA.cons s0 (SmA.cons h1 (SmA.cons h2 (SmA.cons h3 (SmA.cons h4 (SmA.cons h5 SmA.nil))))))⟩
  have := ok.fl
  have := ok.most
  have := ok.nl
  have := ok.ol
  omega
theorem atI_two {x y b : Nat} (h : b < 2) : atI [V.int ((x : Nat) : Int), V.int ((y : Nat) : Int)] ((b : Nat) : Int) = some (.int ((if b = 0 then x else y : Nat) : Int)) := by
  have : b = 0 ∨ b = 1 := by omega
  rcases this with rfl | rfl
  · exact atI_nat (j := 0) rfl
  · exact atI_nat (j := 1) rfl
theorem rgV_nat (n : Nat) : rgV 0 (n : Int) = vn (List.range n) := by
  unfold rgV vn
  simp
def sp_law (K : PySem.W.Frag) : Sp := fun vs H Q _ => ∃ (a : Addr) (ns : List Int), vs = [.ref a] ∧ SqL K H a (ns.map V.int) ∧ ns.length ≤ 63 ∧ ∀ H', Q (.bl true) H'
theorem ok_law {P : Program} {w : World} {K : PySem.W.Frag} {mg : Str → Option Value} {base : Heap} {C_Builder : Addr} {f f_law_state f_law_draw f_law_net f_law_rows ftidied frun f_law_run f_law_tidy fcheck : Addr} {fd fd_law_state fd_law_draw fd_law_net fd_law_rows fdtidied fdrun fd_law_run fd_law_tidy fdcheck : FuncData} (F : Fun K "law" "law" s_law f fd) (T : Txt K mg C_Builder)
    (G__law_state : FnOk P w K mg base CX0 1 f_law_state fd_law_state ["script"] (sp__law_state K)) (D__law_state : Def K mg "_law_state" f_law_state fd_law_state ["script"])
    (G__law_draw : FnOk P w K mg base CX0 1 f_law_draw fd_law_draw ["state", "many"] (sp__law_draw K)) (D__law_draw : Def K mg "_law_draw" f_law_draw fd_law_draw ["state", "many"])
    (G__law_net : FnOk P w K mg base CX0 3 f_law_net fd_law_net ["state", "ins", "flops", "most"] (sp__law_net K)) (D__law_net : Def K mg "_law_net" f_law_net fd_law_net ["state", "ins", "flops", "most"])
    (G__law_rows : FnOk P w K mg base CX0 2 f_law_rows fd_law_rows ["state", "ins", "most"] (sp__law_rows K)) (D__law_rows : Def K mg "_law_rows" f_law_rows fd_law_rows ["state", "ins", "most"])
    (G_tidied : FnOk P w K mg base CX0 6 ftidied fdtidied ["net"] (sp_tidied K)) (D_tidied : Def K mg "tidied" ftidied fdtidied ["net"])
    (G_run : FnOk P w K mg base CX0 4 frun fdrun ["net", "rows"] (sp_run K)) (D_run : Def K mg "run" frun fdrun ["net", "rows"])
    (G__law_run : FnOk P w K mg base CX0 3 f_law_run fd_law_run ["net", "rows"] (sp__law_run K)) (D__law_run : Def K mg "_law_run" f_law_run fd_law_run ["net", "rows"])
    (G__law_tidy : FnOk P w K mg base CX0 2 f_law_tidy fd_law_tidy ["net"] (sp__law_tidy K)) (D__law_tidy : Def K mg "_law_tidy" f_law_tidy fd_law_tidy ["net"])
    (G_check : FnOk P w K mg base CX0 4 fcheck fdcheck ["net"] (sp_check K)) (D_check : Def K mg "check" fcheck fdcheck ["net"]) :
    LawOk P w K mg base f fd ["script"] (sp_law K) := by
  refine lawOk F sclaw (k := 40) ⟨rfl, by decide, by decide⟩ (fun vs H Q E h => ?_) (fun cdv A outer s H vs Q E hr hgd h => ?_)
  · obtain ⟨a, ns, rfl, _⟩ := h
    rfl
  · obtain ⟨a, ns, rfl, hS, hl, q⟩ := h
    refine ⟨_, (pss_cons (ps_set (i := 1) sclaw.nd rfl (.inl rfl) (pe_call G__law_state (hr.mono (by omega)) (by rfl) D__law_state.m D__law_state.k D__law_state.b .nil pass0 (pa_cons (pv 0) pa_nil)))
      (pss_cons (ps_set (i := 2) sclaw.nd rfl (.inl rfl) (pe_call G__law_draw (hr.mono (by omega)) (by rfl) D__law_draw.m D__law_draw.k D__law_draw.b .nil pass0 (pa_cons (pv 1) (pa_cons pe_int pa_nil))))
      (pss_cons (ps_set (i := 3) sclaw.nd rfl (.inl rfl) (pe_call G__law_net (hr.mono (by omega)) (by rfl) D__law_net.m D__law_net.k D__law_net.b .nil pass0 (pa_cons (pv 1) (pa_cons (pe_ix (r := rIxL K) ix_list (pe_lst (pa_cons pe_int (pa_cons pe_int pa_nil))) (pv 2) (fun _ _ => rfl)) (pa_cons (pe_ix (r := rIxL K) ix_list (pe_lst (pa_cons pe_int (pa_cons pe_int pa_nil))) (pv 2) (fun _ _ => rfl)) (pa_cons (pe_ix (r := rIxL K) ix_list (pe_lst (pa_cons pe_int (pa_cons pe_int pa_nil))) (pv 2) (fun _ _ => rfl)) pa_nil))))))
      (pss_cons (ps_set (i := 4) sclaw.nd rfl (.inl rfl) (pe_callB (r := rRepr K) (call_reprD hgd hr.units) (by rfl) T.m_repr (by decide +kernel) (pa_cons (pv 3) pa_nil)))
      (pss_cons (ps_set (i := 5) sclaw.nd rfl (.inl rfl) (pe_call G__law_rows (hr.mono (by omega)) (by rfl) D__law_rows.m D__law_rows.k D__law_rows.b .nil pass0 (pa_cons (pv 1) (pa_cons (pe_ix (r := rIxT K) ix_tup (pv 3) pe_int (fun _ _ => rfl)) (pa_cons pe_int pa_nil)))))
      (pss_cons (ps_set (i := 6) sclaw.nd rfl (.inl rfl) (pe_call G_tidied (hr.mono (by omega)) (by rfl) D_tidied.m D_tidied.k D_tidied.b .nil pass0 (pa_cons (pv 3) pa_nil)))
      (pss_cons (ps_if (PW.pt (pw_or (pt_cmpR (op_neD hr.units) (pv 6) (pe_call G__law_tidy (hr.mono (by omega)) (by rfl) D__law_tidy.m D__law_tidy.k D__law_tidy.b .nil pass0 (pa_cons (pv 3) pa_nil)) (nomark _)) (pw_or (pt_cmpR op_ne (pe_callB (r := rRepr K) (call_reprD hgd hr.units) (by rfl) T.m_repr (by decide +kernel) (pa_cons (pv 3) pa_nil)) (pv 4) (nomark _)) (pw_or1 (pt_cmpR op_notN (pe_call G_check (hr.mono (by omega)) (by rfl) D_check.m D_check.k D_check.b .nil pass0 (pa_cons (pe_ix (r := rIxT K) ix_tup (pv 6) pe_int (fun _ _ => rfl)) pa_nil)) pe_non (nomark _)))))) (pss_one (ps_ret pe_bl)) pss_nil)
      (pss_cons (ps_if (pt_cmpR (op_neD hr.units) (pe_call G_run (hr.mono (by omega)) (by rfl) D_run.m D_run.k D_run.b .nil pass0 (pa_cons (pe_ix (r := rIxT K) ix_tup (pv 6) pe_int (fun _ _ => rfl)) (pa_cons (pv 5) pa_nil))) (pe_call G__law_run (hr.mono (by omega)) (by rfl) D__law_run.m D__law_run.k D__law_run.b .nil pass0 (pa_cons (pv 3) (pa_cons (pv 5) pa_nil))) (nomark _)) (pss_one (ps_ret pe_bl)) pss_nil)
      (pss_one (ps_ret (pe_cmpR (op_eqD hr.units) (pe_call G_tidied (hr.mono (by omega)) (by rfl) D_tidied.m D_tidied.k D_tidied.b .nil pass0 (pa_cons (pe_ix (r := rIxT K) ix_tup (pv 6) pe_int (fun _ _ => rfl)) pa_nil)) (pe_tup (pa_cons (pe_ix (r := rIxT K) ix_tup (pv 6) pe_int (fun _ _ => rfl)) (pa_cons (pe_listRg rfl (by rfl) T.m_list (prg_1 (by rfl) T.m_range (pe_callB call_len_seq (by rfl) T.m_len (by decide +kernel) (pa_cons (pe_ix (r := rIxT K) ix_tup (pv 6) pe_int (fun _ _ => rfl)) pa_nil)))) pa_nil))) (nomark _)))))))))))), ?_⟩
    refine ⟨_, rfl, a, ns, rfl, hS, hl, fun H1 p c s1 d1 => ?_⟩
    refine ⟨_, rfl, p, c, 2, rfl, d1, by decide, by decide, fun H2 big g2 hb => ?_⟩
    refine ⟨_, rfl, by show 2 ≤ sizeLine; decide, fun l1 n1 => ⟨_, rfl, l1, _, _, _, rfl, rfl, SqL.of upd_same, atI_two (x := 3) (y := 6) hb, by show 2 ≤ sizeLine; decide, fun l2 n2 => ⟨_, rfl, l2, _, _, _, rfl, rfl, SqL.of upd_same, atI_two (x := 4) (y := 14) hb, by show 2 ≤ sizeLine; decide, fun l3 n3 => ⟨_, rfl, l3, _, _, _, rfl, rfl, SqL.of upd_same, atI_two (x := 16) (y := 60) hb, ?_⟩⟩⟩⟩
    have g3 := ((g2.more (same_new n1)).more (same_new n2)).more (same_new (o := .lst [.int (16 : Nat), .int (60 : Nat)]) n3)
    generalize (upd (upd (upd H2 l1 _) l2 _) l3 (.lst [.int (16 : Nat), .int (60 : Nat)])) = H3 at g3 ⊢
    refine ⟨p, c, _, _, _, rfl, g3.b, by split <;> decide, by split <;> decide, by split <;> decide, fun H4 qn n g4 nq dn ok0 => ?_⟩
    have ok : n.Ok 6 14 60 := ⟨Nat.le_trans ok0.ins (by split <;> decide), Nat.le_trans ok0.fl (by split <;> decide), ok0.bits, Nat.le_trans ok0.most (by split <;> decide), ok0.g, ok0.nl, ok0.nx, ok0.ol, ok0.ox⟩
    clear ok0
    obtain ⟨z, aS, aG, aN, aO, e, hA, hSt, hG, hN, hO⟩ := dn.net_inv
    cases e
    obtain ⟨m, hm, small⟩ := ok38_small ok
    have many := ok38_many ok
    have kd := kind_of ok
    have hins := ok.ins
    have hfl := ok.fl
    have hnl := ok.nl
    have hol := ok.ol
    refine ⟨_, rfl, qn, _, rfl, dh_dp _ _ dn.up, four n small hm (by decide), ?_⟩
    refine ⟨_, rfl, _, rfl, qn, _, 1, _, rfl, rfl, SqT.of (res_same p c H4 _ _ hA), atI_nat (j := 1) rfl, p, c, n.ins, 6, rfl, g4.b, by omega, by decide, fun H5 r rows g5 nr dr lr br => ?_⟩
    have d5 := (dn.same g5.s).up
    refine ⟨_, rfl, .ref qn, p, c, n, rfl, d5, g5.b, kd, by omega, by omega, fun H6 tq nd s6 ask dt => ?_⟩
    have d6 := d5.same s6
    have dr6 := (dr.up).same s6
    refine ⟨_, rfl, _, rfl, qn, n, rfl, d6, kd, by omega, by omega, fun H7 lq nd' s7 ask' dl => ?_⟩
    rw [asked_one ask' ask] at dl
    refine neD (a := (pruned (plain n) nd, fls (plain n) nd)) (b := (pruned (plain n) nd, fls (plain n) nd)) (dt.same s7) dl (by decide) ?_
    rw [decide_eq_true rfl]
    refine ⟨_, rfl, iteF ?_⟩
    have d7 := d6.same s7
    have dr7 := dr6.same s7
    have dt7 := dt.same s7
    have g7 := g5.more (s6.trans s7)
    clear dl dt dr6 d6
    refine ⟨_, rfl, qn, _, rfl, dh_dp _ _ d7, four n small hm (by decide), ?_⟩
    refine ⟨_, rfl, rfl, _, rfl, ?_⟩
    rw [show (!decide (V.str (PySem.W.Datum.toD n).shown = V.str (PySem.W.Datum.toD n).shown)) = false by rw [decide_eq_true rfl]; rfl]
    refine iteF ?_
    obtain ⟨_, u1, u2, e, htq, dn', df'⟩ := dt7.pair_inv
    cases e
    obtain ⟨z, bS, bG, bN, bO, rfl, hB, _, _, _, _⟩ := dn'.net_inv
    obtain ⟨fq, rfl, hfq⟩ := df'.natl_inv
    have kp := plain_kind kd
    have kq := pruned_kind kp ask
    have pm := pruned_many ask
    have eI : (plain n).ins = n.ins := rfl
    have qI : (pruned (plain n) nd).ins = n.ins := rfl
    have pmany : (plain n).many ≤ n.many := by
      have t := (ti_fold n.base (by unfold Net.base; omega) n.gates kd.g).few
      show n.base + (tfold n.base n.gates).2.length ≤ n.base + n.gates.length
      omega
    have ndl : 1 + n.ins + nd.length ≤ 81 := by
      have := sorted_len (m := (plain n).many) (a := n.ins + 1) ask.so fun y m => by
        have h := (ask.iff y).mp m
        exact ⟨h.1, reach_lt kp h.2⟩
      have : n.ins < (plain n).many := by
        show n.ins < n.base + _
        unfold Net.base
        omega
      omega
    have qol : (pruned (plain n) nd).outs.length ≤ 3 := by
      show (List.map _ (List.map _ n.outs)).length ≤ 3
      rw [List.length_map, List.length_map]
      exact ok.ol
    have qm : (pruned (plain n) nd).many ≤ 81 := by omega
    have qnl : (pruned (plain n) nd).nexts.length ≤ 81 := by
      rw [kq.nl]
      unfold Net.many Net.base at qm
      omega
    refine ⟨_, rfl, tq, _, 0, _, rfl, rfl, SqT.of htq, atI_nat (j := 0) rfl, .ref z, _, rfl, dn', kq, fun H8 s8 => ⟨rfl, _, rfl, iteF ?_⟩⟩
    -- run
    have rk : RunOk n rows := ⟨kd, ⟨by omega, ok.g⟩, by omega, by omega, by omega, br⟩
    have rq : RunOk (pruned (plain n) nd) rows := ⟨kq, ⟨by omega, kq.g⟩, by omega, by omega, by omega, br⟩
    have eR : (Net.ran (pruned (plain n) nd) rows).2 = (Net.ran n rows).2 := by
      rw [(ran_pruned kp ask rows fun b hb => (br b hb).1).2, ran_plain kd rows br]
    have htq8 := s8 _ _ htq
    refine ⟨_, rfl, tq, _, 0, _, rfl, rfl, SqT.of htq8, atI_nat (j := 0) rfl, _, rfl, .ref z, .ref r, _, rows, rfl, dn'.same s8, dr7.same s8, rq, fun H9 o1 s9 n9 e9 => ?_⟩
    rw [eR] at e9
    have s89 := s8.trans s9
    refine ⟨_, rfl, _, rfl, .ref qn, .ref r, n, rows, rfl, d7.same s89, dr7.same s89, rk, fun H10 o2 s10 n10 e10 => ?_⟩
    refine neD (a := (Net.ran n rows).2) (b := (Net.ran n rows).2) (e9.same s10) e10 (by decide) ?_
    rw [decide_eq_true rfl]
    refine ⟨_, rfl, iteF ?_⟩
    have s810 := s89.trans s10
    have htqA := s810 _ _ htq
    have g10 := g7.more s810
    refine ⟨_, rfl, tq, _, 0, _, rfl, rfl, SqT.of htqA, atI_nat (j := 0) rfl, .ref z, p, c, pruned (plain n) nd, rfl, dn'.same s810, g10.b, kq, by omega, by omega, fun H11 q2 nd2 s11 ask2 d11 => ?_⟩
    have tw := twice kd ask ask2
    have e11 : Dv H11 (.ref q2) (pruned (plain n) nd, List.range (fls (plain n) nd).length) := by
      have e : (pruned (plain (pruned (plain n) nd)) nd2, fls (plain (pruned (plain n) nd)) nd2) = (pruned (plain n) nd, List.range (fls (plain n) nd).length) := by
        rw [tw.1, tw.2.1, tw.2.2]
      rw [← e]
      exact d11
    have htqB := s11 _ _ htqA
    have hfqB := s11 _ _ (s810 _ _ hfq)
    refine ⟨_, rfl, tq, _, 0, _, rfl, rfl, SqT.of htqB, atI_nat (j := 0) rfl, _, rfl, tq, _, 1, _, rfl, rfl, SqT.of htqB, atI_nat (j := 1) rfl, fq, _, rfl, .inl (SqL.of hfqB), _, rfl, ?_⟩
    have fll : (fls (plain n) nd).length ≤ 81 := by
      unfold fls
      rw [List.length_map]
      have := List.length_filter_le (fun x => decide (x < (plain n).base)) nd
      omega
    have ev : (((vn (pruned (plain n) nd, fls (plain n) nd).snd).length : Nat) : Int) = (((fls (plain n) nd).length : Nat) : Int) := by
      rw [vn_len]
    rw [ev]
    refine ⟨RgOk.of_le (by decide) (by omega) (by decide) (by omega), fun lr nlr => ⟨by show 2 ≤ sizeLine; decide, fun pt npt => ?_⟩⟩
    have sa := same_new (o := .lst (rgV 0 (((fls (plain n) nd).length : Nat) : Int))) nlr
    have sb := same_new (o := .tup [.ref z, .ref lr]) npt
    have sab := sa.trans sb
    refine eqD (a := (pruned (plain n) nd, List.range (fls (plain n) nd).length)) (b := (pruned (plain n) nd, List.range (fls (plain n) nd).length)) (e11.same sab) (.pair upd_same (dn'.same (s810.trans (s11.trans sab))) (.natl (sb _ _ (by rw [← rgV_nat]; exact upd_same)))) (by decide) ?_
    rw [decide_eq_true rfl]
    exact q _
end K38
namespace K38
open PySem PySem.Spec PyProof.Rows L2 V0
theorem all_mk {l : PySem.W.OpenLaw} {w : World} {K : PySem.W.Frag} {h : Heap} {mg : Str → Option Value} {fa f1 f2 f3 f4 f5 f6 f7 f8 f9 f10 f11 f12 f13 f14 f15 f16 f17 f18 f19 f20 f21 f22 f23 f24 f25 f26 f27 f28 f29 f30 f31 f32 : Addr} {C_Builder : Addr} (X : K.In h) (G : h.Ns mainGlobals mg) (hfa : mg "law" = some (.ref fa))
    {od1 an1 od2 an2 od3 an3 od4 an4 od5 an5 od6 an6 od7 an7 od8 an8 od9 an9 od10 an10 od11 an11 od12 an12 od13 an13 od14 an14 od15 an15 od16 an16 od17 an17 od18 an18 od19 an19 od20 an20 od21 an21 od22 an22 od23 an23 od24 an24 od25 an25 od26 an26 od27 an27 od28 an28 od29 an29 od30 an30 od31 an31 od32 an32 : Option Addr} {sl1 sl2 sl3 sl4 sl5 sl6 sl7 sl8 sl9 sl10 sl11 sl12 sl13 sl14 sl15 sl16 sl17 sl18 sl19 sl20 sl21 sl22 sl23 sl24 sl25 sl26 sl27 sl28 sl29 sl30 sl31 sl32 : Array (Option Value)} {oc1 kV1 dc1 pm1 cd1 ct1 oc2 kV2 dc2 pm2 cd2 ct2 oc3 kV3 dc3 pm3 cd3 ct3 oc4 kV4 dc4 pm4 cd4 ct4 oc5 kV5 dc5 pm5 cd5 ct5 oc6 kV6 dc6 pm6 cd6 ct6 oc7 kV7 dc7 pm7 cd7 ct7 oc8 kV8 dc8 pm8 cd8 ct8 oc9 kV9 dc9 pm9 cd9 ct9 oc10 kV10 dc10 pm10 cd10 ct10 oc11 kV11 dc11 pm11 cd11 ct11 oc12 kV12 dc12 pm12 cd12 ct12 oc13 kV13 dc13 pm13 cd13 ct13 oc14 kV14 dc14 pm14 cd14 ct14 oc15 kV15 dc15 pm15 cd15 ct15 oc16 kV16 dc16 pm16 cd16 ct16 oc17 kV17 dc17 pm17 cd17 ct17 oc18 kV18 dc18 pm18 cd18 ct18 oc19 kV19 dc19 pm19 cd19 ct19 oc20 kV20 dc20 pm20 cd20 ct20 oc21 kV21 dc21 pm21 cd21 ct21 oc22 kV22 dc22 pm22 cd22 ct22 oc23 kV23 dc23 pm23 cd23 ct23 oc24 kV24 dc24 pm24 cd24 ct24 oc25 kV25 dc25 pm25 cd25 ct25 oc26 kV26 dc26 pm26 cd26 ct26 oc27 kV27 dc27 pm27 cd27 ct27 oc28 kV28 dc28 pm28 cd28 ct28 oc29 kV29 dc29 pm29 cd29 ct29 oc30 kV30 dc30 pm30 cd30 ct30 oc31 kV31 dc31 pm31 cd31 ct31 oc32 kV32 dc32 pm32 cd32 ct32 : Value}
    (aC_Builder : PySem.W.nsIn K mainGlobals "Builder" = some (some (.ref C_Builder))) (pg_Builder : PySem.W.plainGet K C_Builder Str.empty = true) (hd_Builder : PySem.W.hasDictIn K C_Builder = true) (po_Builder : PySem.W.plainOver K C_Builder = true) (sa_Builder : PySem.W.findIn K (.ref C_Builder) "__setattr__" = some (some (.builtin "object.__setattr__"))) (mk_Builder : PySem.W.makesIn K C_Builder = true) (kc_Builder : PySem.W.keepIn K (.ref C_Builder) = true)
    (n_Builder_ins : PySem.W.findIn K (.ref C_Builder) "ins" = some none)
    (n_Builder_starts : PySem.W.findIn K (.ref C_Builder) "starts" = some none)
    (n_Builder_gates : PySem.W.findIn K (.ref C_Builder) "gates" = some none)
    (n_Builder_known : PySem.W.findIn K (.ref C_Builder) "known" = some none)
    (a1 : PySem.W.nsIn K mainGlobals "_law_state" = some (some (.ref f1))) (l1 : K.lookup f1 = some ⟨oc1, od1, .func (PySem.W.fnOf "_law_state" "_law_state" (defArgs s__law_state) (defBody s__law_state) (defScope s__law_state) .none kV1 dc1 pm1 an1 cd1 ct1), sl1⟩) (c1 : PySem.W.codeIn K cd1 "_law_state" = true) (k1 : PySem.W.keepIn K (.ref f1) = true)
    (a2 : PySem.W.nsIn K mainGlobals "_law_draw" = some (some (.ref f2))) (l2 : K.lookup f2 = some ⟨oc2, od2, .func (PySem.W.fnOf "_law_draw" "_law_draw" (defArgs s__law_draw) (defBody s__law_draw) (defScope s__law_draw) .none kV2 dc2 pm2 an2 cd2 ct2), sl2⟩) (c2 : PySem.W.codeIn K cd2 "_law_draw" = true) (k2 : PySem.W.keepIn K (.ref f2) = true)
    (a3 : PySem.W.nsIn K mainGlobals "_law_pick" = some (some (.ref f3))) (l3 : K.lookup f3 = some ⟨oc3, od3, .func (PySem.W.fnOf "_law_pick" "_law_pick" (defArgs s__law_pick) (defBody s__law_pick) (defScope s__law_pick) .none kV3 dc3 pm3 an3 cd3 ct3), sl3⟩) (c3 : PySem.W.codeIn K cd3 "_law_pick" = true) (k3 : PySem.W.keepIn K (.ref f3) = true)
    (a4 : PySem.W.nsIn K mainGlobals "_law_net" = some (some (.ref f4))) (l4 : K.lookup f4 = some ⟨oc4, od4, .func (PySem.W.fnOf "_law_net" "_law_net" (defArgs s__law_net) (defBody s__law_net) (defScope s__law_net) .none kV4 dc4 pm4 an4 cd4 ct4), sl4⟩) (c4 : PySem.W.codeIn K cd4 "_law_net" = true) (k4 : PySem.W.keepIn K (.ref f4) = true)
    (a5 : PySem.W.nsIn K mainGlobals "_law_rows" = some (some (.ref f5))) (l5 : K.lookup f5 = some ⟨oc5, od5, .func (PySem.W.fnOf "_law_rows" "_law_rows" (defArgs s__law_rows) (defBody s__law_rows) (defScope s__law_rows) .none kV5 dc5 pm5 an5 cd5 ct5), sl5⟩) (c5 : PySem.W.codeIn K cd5 "_law_rows" = true) (k5 : PySem.W.keepIn K (.ref f5) = true)
    (a6 : PySem.W.findIn K (.ref C_Builder) "__init__" = some (some (.ref f6))) (i6 : PySem.W.isFn K (.ref f6) = true) (l6 : K.lookup f6 = some ⟨oc6, od6, .func (PySem.W.fnOf "__init__" "Builder.__init__" (defArgs s_Builder___init__) (defBody s_Builder___init__) (defScope s_Builder___init__) .none kV6 dc6 pm6 an6 cd6 ct6), sl6⟩) (c6 : PySem.W.codeIn K cd6 "Builder.__init__" = true) (k6 : PySem.W.keepIn K (.ref f6) = true)
    (a7 : PySem.W.nsIn K mainGlobals "base_of" = some (some (.ref f7))) (l7 : K.lookup f7 = some ⟨oc7, od7, .func (PySem.W.fnOf "base_of" "base_of" (defArgs s_base_of) (defBody s_base_of) (defScope s_base_of) .none kV7 dc7 pm7 an7 cd7 ct7), sl7⟩) (c7 : PySem.W.codeIn K cd7 "base_of" = true) (k7 : PySem.W.keepIn K (.ref f7) = true)
    (a8 : PySem.W.nsIn K mainGlobals "_bases" = some (some (.ref f8))) (l8 : K.lookup f8 = some ⟨oc8, od8, .func (PySem.W.fnOf "_bases" "_bases" (defArgs s__bases) (defBody s__bases) (defScope s__bases) .none kV8 dc8 pm8 an8 cd8 ct8), sl8⟩) (c8 : PySem.W.codeIn K cd8 "_bases" = true) (k8 : PySem.W.keepIn K (.ref f8) = true)
    (a9 : PySem.W.findIn K (.ref C_Builder) "net" = some (some (.ref f9))) (i9 : PySem.W.isFn K (.ref f9) = true) (l9 : K.lookup f9 = some ⟨oc9, od9, .func (PySem.W.fnOf "net" "Builder.net" (defArgs s_Builder_net) (defBody s_Builder_net) (defScope s_Builder_net) .none kV9 dc9 pm9 an9 cd9 ct9), sl9⟩) (c9 : PySem.W.codeIn K cd9 "Builder.net" = true) (k9 : PySem.W.keepIn K (.ref f9) = true)
    (a10 : PySem.W.nsIn K mainGlobals "many_nodes" = some (some (.ref f10))) (l10 : K.lookup f10 = some ⟨oc10, od10, .func (PySem.W.fnOf "many_nodes" "many_nodes" (defArgs s_many_nodes) (defBody s_many_nodes) (defScope s_many_nodes) .none kV10 dc10 pm10 an10 cd10 ct10), sl10⟩) (c10 : PySem.W.codeIn K cd10 "many_nodes" = true) (k10 : PySem.W.keepIn K (.ref f10) = true)
    (a11 : PySem.W.nsIn K mainGlobals "needed" = some (some (.ref f11))) (l11 : K.lookup f11 = some ⟨oc11, od11, .func (PySem.W.fnOf "needed" "needed" (defArgs s_needed) (defBody s_needed) (defScope s_needed) .none kV11 dc11 pm11 an11 cd11 ct11), sl11⟩) (c11 : PySem.W.codeIn K cd11 "needed" = true) (k11 : PySem.W.keepIn K (.ref f11) = true)
    (a12 : PySem.W.nsIn K mainGlobals "_needed_nodes" = some (some (.ref f12))) (l12 : K.lookup f12 = some ⟨oc12, od12, .func (PySem.W.fnOf "_needed_nodes" "_needed_nodes" (defArgs s__needed_nodes) (defBody s__needed_nodes) (defScope s__needed_nodes) .none kV12 dc12 pm12 an12 cd12 ct12), sl12⟩) (c12 : PySem.W.codeIn K cd12 "_needed_nodes" = true) (k12 : PySem.W.keepIn K (.ref f12) = true)
    (a13 : PySem.W.nsIn K mainGlobals "_renumbered" = some (some (.ref f13))) (l13 : K.lookup f13 = some ⟨oc13, od13, .func (PySem.W.fnOf "_renumbered" "_renumbered" (defArgs s__renumbered) (defBody s__renumbered) (defScope s__renumbered) .none kV13 dc13 pm13 an13 cd13 ct13), sl13⟩) (c13 : PySem.W.codeIn K cd13 "_renumbered" = true) (k13 : PySem.W.keepIn K (.ref f13) = true)
    (a14 : PySem.W.nsIn K mainGlobals "_without_rest" = some (some (.ref f14))) (l14 : K.lookup f14 = some ⟨oc14, od14, .func (PySem.W.fnOf "_without_rest" "_without_rest" (defArgs s__without_rest) (defBody s__without_rest) (defScope s__without_rest) .none kV14 dc14 pm14 an14 cd14 ct14), sl14⟩) (c14 : PySem.W.codeIn K cd14 "_without_rest" = true) (k14 : PySem.W.keepIn K (.ref f14) = true)
    (a15 : PySem.W.findIn K (.ref C_Builder) "standing" = some (some (.ref f15))) (i15 : PySem.W.isFn K (.ref f15) = true) (l15 : K.lookup f15 = some ⟨oc15, od15, .func (PySem.W.fnOf "standing" "Builder.standing" (defArgs s_Builder_standing) (defBody s_Builder_standing) (defScope s_Builder_standing) .none kV15 dc15 pm15 an15 cd15 ct15), sl15⟩) (c15 : PySem.W.codeIn K cd15 "Builder.standing" = true) (k15 : PySem.W.keepIn K (.ref f15) = true)
    (a16 : PySem.W.findIn K (.ref C_Builder) "both" = some (some (.ref f16))) (i16 : PySem.W.isFn K (.ref f16) = true) (l16 : K.lookup f16 = some ⟨oc16, od16, .func (PySem.W.fnOf "both" "Builder.both" (defArgs s_Builder_both) (defBody s_Builder_both) (defScope s_Builder_both) .none kV16 dc16 pm16 an16 cd16 ct16), sl16⟩) (c16 : PySem.W.codeIn K cd16 "Builder.both" = true) (k16 : PySem.W.keepIn K (.ref f16) = true)
    (a17 : PySem.W.nsIn K mainGlobals "_stands" = some (some (.ref f17))) (l17 : K.lookup f17 = some ⟨oc17, od17, .func (PySem.W.fnOf "_stands" "_stands" (defArgs s__stands) (defBody s__stands) (defScope s__stands) .none kV17 dc17 pm17 an17 cd17 ct17), sl17⟩) (c17 : PySem.W.codeIn K cd17 "_stands" = true) (k17 : PySem.W.keepIn K (.ref f17) = true)
    (a18 : PySem.W.nsIn K mainGlobals "tidied" = some (some (.ref f18))) (l18 : K.lookup f18 = some ⟨oc18, od18, .func (PySem.W.fnOf "tidied" "tidied" (defArgs s_tidied) (defBody s_tidied) (defScope s_tidied) .none kV18 dc18 pm18 an18 cd18 ct18), sl18⟩) (c18 : PySem.W.codeIn K cd18 "tidied" = true) (k18 : PySem.W.keepIn K (.ref f18) = true)
    (a19 : PySem.W.nsIn K mainGlobals "valued" = some (some (.ref f19))) (l19 : K.lookup f19 = some ⟨oc19, od19, .func (PySem.W.fnOf "valued" "valued" (defArgs s_valued) (defBody s_valued) (defScope s_valued) .none kV19 dc19 pm19 an19 cd19 ct19), sl19⟩) (c19 : PySem.W.codeIn K cd19 "valued" = true) (k19 : PySem.W.keepIn K (.ref f19) = true)
    (a20 : PySem.W.nsIn K mainGlobals "values" = some (some (.ref f20))) (l20 : K.lookup f20 = some ⟨oc20, od20, .func (PySem.W.fnOf "values" "values" (defArgs s_values) (defBody s_values) (defScope s_values) .none kV20 dc20 pm20 an20 cd20 ct20), sl20⟩) (c20 : PySem.W.codeIn K cd20 "values" = true) (k20 : PySem.W.keepIn K (.ref f20) = true)
    (a21 : PySem.W.nsIn K mainGlobals "step" = some (some (.ref f21))) (l21 : K.lookup f21 = some ⟨oc21, od21, .func (PySem.W.fnOf "step" "step" (defArgs s_step) (defBody s_step) (defScope s_step) .none kV21 dc21 pm21 an21 cd21 ct21), sl21⟩) (c21 : PySem.W.codeIn K cd21 "step" = true) (k21 : PySem.W.keepIn K (.ref f21) = true)
    (a22 : PySem.W.nsIn K mainGlobals "run" = some (some (.ref f22))) (l22 : K.lookup f22 = some ⟨oc22, od22, .func (PySem.W.fnOf "run" "run" (defArgs s_run) (defBody s_run) (defScope s_run) .none kV22 dc22 pm22 an22 cd22 ct22), sl22⟩) (c22 : PySem.W.codeIn K cd22 "run" = true) (k22 : PySem.W.keepIn K (.ref f22) = true)
    (a23 : PySem.W.nsIn K mainGlobals "_law_bit" = some (some (.ref f23))) (l23 : K.lookup f23 = some ⟨oc23, od23, .func (PySem.W.fnOf "_law_bit" "_law_bit" (defArgs s__law_bit) (defBody s__law_bit) (defScope s__law_bit) .none kV23 dc23 pm23 an23 cd23 ct23), sl23⟩) (c23 : PySem.W.codeIn K cd23 "_law_bit" = true) (k23 : PySem.W.keepIn K (.ref f23) = true)
    (a24 : PySem.W.nsIn K mainGlobals "_law_row" = some (some (.ref f24))) (l24 : K.lookup f24 = some ⟨oc24, od24, .func (PySem.W.fnOf "_law_row" "_law_row" (defArgs s__law_row) (defBody s__law_row) (defScope s__law_row) .none kV24 dc24 pm24 an24 cd24 ct24), sl24⟩) (c24 : PySem.W.codeIn K cd24 "_law_row" = true) (k24 : PySem.W.keepIn K (.ref f24) = true)
    (a25 : PySem.W.nsIn K mainGlobals "_law_run" = some (some (.ref f25))) (l25 : K.lookup f25 = some ⟨oc25, od25, .func (PySem.W.fnOf "_law_run" "_law_run" (defArgs s__law_run) (defBody s__law_run) (defScope s__law_run) .none kV25 dc25 pm25 an25 cd25 ct25), sl25⟩) (c25 : PySem.W.codeIn K cd25 "_law_run" = true) (k25 : PySem.W.keepIn K (.ref f25) = true)
    (a26 : PySem.W.nsIn K mainGlobals "_law_image" = some (some (.ref f26))) (l26 : K.lookup f26 = some ⟨oc26, od26, .func (PySem.W.fnOf "_law_image" "_law_image" (defArgs s__law_image) (defBody s__law_image) (defScope s__law_image) .none kV26 dc26 pm26 an26 cd26 ct26), sl26⟩) (c26 : PySem.W.codeIn K cd26 "_law_image" = true) (k26 : PySem.W.keepIn K (.ref f26) = true)
    (a27 : PySem.W.nsIn K mainGlobals "_law_need" = some (some (.ref f27))) (l27 : K.lookup f27 = some ⟨oc27, od27, .func (PySem.W.fnOf "_law_need" "_law_need" (defArgs s__law_need) (defBody s__law_need) (defScope s__law_need) .none kV27 dc27 pm27 an27 cd27 ct27), sl27⟩) (c27 : PySem.W.codeIn K cd27 "_law_need" = true) (k27 : PySem.W.keepIn K (.ref f27) = true)
    (a28 : PySem.W.nsIn K mainGlobals "_law_both" = some (some (.ref f28))) (l28 : K.lookup f28 = some ⟨oc28, od28, .func (PySem.W.fnOf "_law_both" "_law_both" (defArgs s__law_both) (defBody s__law_both) (defScope s__law_both) .none kV28 dc28 pm28 an28 cd28 ct28), sl28⟩) (c28 : PySem.W.codeIn K cd28 "_law_both" = true) (k28 : PySem.W.keepIn K (.ref f28) = true)
    (a29 : PySem.W.nsIn K mainGlobals "_law_tidy" = some (some (.ref f29))) (l29 : K.lookup f29 = some ⟨oc29, od29, .func (PySem.W.fnOf "_law_tidy" "_law_tidy" (defArgs s__law_tidy) (defBody s__law_tidy) (defScope s__law_tidy) .none kV29 dc29 pm29 an29 cd29 ct29), sl29⟩) (c29 : PySem.W.codeIn K cd29 "_law_tidy" = true) (k29 : PySem.W.keepIn K (.ref f29) = true)
    (a30 : PySem.W.nsIn K mainGlobals "fault_of" = some (some (.ref f30))) (l30 : K.lookup f30 = some ⟨oc30, od30, .func (PySem.W.fnOf "fault_of" "fault_of" (defArgs s_fault_of) (defBody s_fault_of) (defScope s_fault_of) .none kV30 dc30 pm30 an30 cd30 ct30), sl30⟩) (c30 : PySem.W.codeIn K cd30 "fault_of" = true) (k30 : PySem.W.keepIn K (.ref f30) = true)
    (a31 : PySem.W.nsIn K mainGlobals "check" = some (some (.ref f31))) (l31 : K.lookup f31 = some ⟨oc31, od31, .func (PySem.W.fnOf "check" "check" (defArgs s_check) (defBody s_check) (defScope s_check) .none kV31 dc31 pm31 an31 cd31 ct31), sl31⟩) (c31 : PySem.W.codeIn K cd31 "check" = true) (k31 : PySem.W.keepIn K (.ref f31) = true)
    (a32 : PySem.W.nsIn K mainGlobals "law" = some (some (.ref f32))) (l32 : K.lookup f32 = some ⟨oc32, od32, .func (PySem.W.fnOf "law" "law" (defArgs s_law) (defBody s_law) (defScope s_law) .none kV32 dc32 pm32 an32 cd32 ct32), sl32⟩) (c32 : PySem.W.codeIn K cd32 "law" = true) (k32 : PySem.W.keepIn K (.ref f32) = true)
    (z_abs : PySem.W.nsIn K mainGlobals "abs" = some none)
    (z_any : PySem.W.nsIn K mainGlobals "any" = some none)
    (z_enumerate : PySem.W.nsIn K mainGlobals "enumerate" = some none)
    (z_int : PySem.W.nsIn K mainGlobals "int" = some none)
    (z_len : PySem.W.nsIn K mainGlobals "len" = some none)
    (z_list : PySem.W.nsIn K mainGlobals "list" = some none)
    (z_max : PySem.W.nsIn K mainGlobals "max" = some none)
    (z_min : PySem.W.nsIn K mainGlobals "min" = some none)
    (z_range : PySem.W.nsIn K mainGlobals "range" = some none)
    (z_repr : PySem.W.nsIn K mainGlobals "repr" = some none)
    (z_reversed : PySem.W.nsIn K mainGlobals "reversed" = some none)
    (z_set : PySem.W.nsIn K mainGlobals "set" = some none)
    (z_sorted : PySem.W.nsIn K mainGlobals "sorted" = some none)
    (z_tuple : PySem.W.nsIn K mainGlobals "tuple" = some none) :
    ∃ fd : FuncData, (∀ (s : Shared) (v : Value), BindsTo s fd ⟨[v], []⟩ [("script", v)]) ∧ ∀ base : Heap, K.In base → base.Ns mainGlobals mg → LawOk l.prog w K mg base fa fd ["script"] (sp_law K) := by
  have e := hfa.symm.trans (PySem.W.mg_of X G a32)
  cases e
  have T : Txt K mg C_Builder := ⟨⟨pg_Builder, hd_Builder, po_Builder, sa_Builder⟩, PySem.W.mg_of X G aC_Builder, n_Builder_ins, n_Builder_starts, n_Builder_gates, n_Builder_known, PySem.W.mg_none_of X G z_abs, PySem.W.mg_none_of X G z_any, PySem.W.mg_none_of X G z_enumerate, PySem.W.mg_none_of X G z_int, PySem.W.mg_none_of X G z_len, PySem.W.mg_none_of X G z_list, PySem.W.mg_none_of X G z_max, PySem.W.mg_none_of X G z_min, PySem.W.mg_none_of X G z_range, PySem.W.mg_none_of X G z_repr, PySem.W.mg_none_of X G z_reversed, PySem.W.mg_none_of X G z_set, PySem.W.mg_none_of X G z_sorted, PySem.W.mg_none_of X G z_tuple⟩
  have F1 := fun_mk (st := s__law_state) l1 c1 k1
  have D1 : Def K mg "_law_state" f1 _ ["script"] := ⟨PySem.W.mg_of X G a1, F1.kp, F1.binds (ps := ["script"]) fun _ _ _ _ _ _ us hl => match us, hl with | [_], _ => rfl⟩
  have F2 := fun_mk (st := s__law_draw) l2 c2 k2
  have D2 : Def K mg "_law_draw" f2 _ ["state", "many"] := ⟨PySem.W.mg_of X G a2, F2.kp, F2.binds (ps := ["state", "many"]) fun _ _ _ _ _ _ us hl => match us, hl with | [_, _], _ => rfl⟩
  have F3 := fun_mk (st := s__law_pick) l3 c3 k3
  have D3 : Def K mg "_law_pick" f3 _ ["state", "row"] := ⟨PySem.W.mg_of X G a3, F3.kp, F3.binds (ps := ["state", "row"]) fun _ _ _ _ _ _ us hl => match us, hl with | [_, _], _ => rfl⟩
  have F4 := fun_mk (st := s__law_net) l4 c4 k4
  have D4 : Def K mg "_law_net" f4 _ ["state", "ins", "flops", "most"] := ⟨PySem.W.mg_of X G a4, F4.kp, F4.binds (ps := ["state", "ins", "flops", "most"]) fun _ _ _ _ _ _ us hl => match us, hl with | [_, _, _, _], _ => rfl⟩
  have F5 := fun_mk (st := s__law_rows) l5 c5 k5
  have D5 : Def K mg "_law_rows" f5 _ ["state", "ins", "most"] := ⟨PySem.W.mg_of X G a5, F5.kp, F5.binds (ps := ["state", "ins", "most"]) fun _ _ _ _ _ _ us hl => match us, hl with | [_, _, _], _ => rfl⟩
  have F6 := fun_mk (st := s_Builder___init__) l6 c6 k6
  have D6 : IDef K C_Builder f6 _ ["self", "ins", "starts"] := ⟨⟨mk_Builder, a6, i6, kc_Builder⟩, F6.binds (ps := ["self", "ins", "starts"]) fun _ _ _ _ _ _ us hl => match us, hl with | [_, _, _], _ => rfl⟩
  have F7 := fun_mk (st := s_base_of) l7 c7 k7
  have D7 : Def K mg "base_of" f7 _ ["net"] := ⟨PySem.W.mg_of X G a7, F7.kp, F7.binds (ps := ["net"]) fun _ _ _ _ _ _ us hl => match us, hl with | [_], _ => rfl⟩
  have F8 := fun_mk (st := s__bases) l8 c8 k8
  have D8 : Def K mg "_bases" f8 _ ["net"] := ⟨PySem.W.mg_of X G a8, F8.kp, F8.binds (ps := ["net"]) fun _ _ _ _ _ _ us hl => match us, hl with | [_], _ => rfl⟩
  have F9 := fun_mk (st := s_Builder_net) l9 c9 k9
  have D9 : MDef K C_Builder "net" f9 _ ["self", "nexts", "outs"] := ⟨⟨a9, i9, k9⟩, F9.binds (ps := ["self", "nexts", "outs"]) fun _ _ _ _ _ _ us hl => match us, hl with | [_, _, _], _ => rfl⟩
  have F10 := fun_mk (st := s_many_nodes) l10 c10 k10
  have D10 : Def K mg "many_nodes" f10 _ ["net"] := ⟨PySem.W.mg_of X G a10, F10.kp, F10.binds (ps := ["net"]) fun _ _ _ _ _ _ us hl => match us, hl with | [_], _ => rfl⟩
  have F11 := fun_mk (st := s_needed) l11 c11 k11
  have D11 : Def K mg "needed" f11 _ ["net", "literals"] := ⟨PySem.W.mg_of X G a11, F11.kp, F11.binds (ps := ["net", "literals"]) fun _ _ _ _ _ _ us hl => match us, hl with | [_, _], _ => rfl⟩
  have F12 := fun_mk (st := s__needed_nodes) l12 c12 k12
  have D12 : Def K mg "_needed_nodes" f12 _ ["net"] := ⟨PySem.W.mg_of X G a12, F12.kp, F12.binds (ps := ["net"]) fun _ _ _ _ _ _ us hl => match us, hl with | [_], _ => rfl⟩
  have F13 := fun_mk (st := s__renumbered) l13 c13 k13
  have D13 : Def K mg "_renumbered" f13 _ ["literals", "numbers"] := ⟨PySem.W.mg_of X G a13, F13.kp, F13.binds (ps := ["literals", "numbers"]) fun _ _ _ _ _ _ us hl => match us, hl with | [_, _], _ => rfl⟩
  have F14 := fun_mk (st := s__without_rest) l14 c14 k14
  have D14 : Def K mg "_without_rest" f14 _ ["net"] := ⟨PySem.W.mg_of X G a14, F14.kp, F14.binds (ps := ["net"]) fun _ _ _ _ _ _ us hl => match us, hl with | [_], _ => rfl⟩
  have F15 := fun_mk (st := s_Builder_standing) l15 c15 k15
  have D15 : MDef K C_Builder "standing" f15 _ ["self", "a", "b"] := ⟨⟨a15, i15, k15⟩, F15.binds (ps := ["self", "a", "b"]) fun _ _ _ _ _ _ us hl => match us, hl with | [_, _, _], _ => rfl⟩
  have F16 := fun_mk (st := s_Builder_both) l16 c16 k16
  have D16 : MDef K C_Builder "both" f16 _ ["self", "a", "b"] := ⟨⟨a16, i16, k16⟩, F16.binds (ps := ["self", "a", "b"]) fun _ _ _ _ _ _ us hl => match us, hl with | [_, _, _], _ => rfl⟩
  have F17 := fun_mk (st := s__stands) l17 c17 k17
  have D17 : Def K mg "_stands" f17 _ ["standing", "literal"] := ⟨PySem.W.mg_of X G a17, F17.kp, F17.binds (ps := ["standing", "literal"]) fun _ _ _ _ _ _ us hl => match us, hl with | [_, _], _ => rfl⟩
  have F18 := fun_mk (st := s_tidied) l18 c18 k18
  have D18 : Def K mg "tidied" f18 _ ["net"] := ⟨PySem.W.mg_of X G a18, F18.kp, F18.binds (ps := ["net"]) fun _ _ _ _ _ _ us hl => match us, hl with | [_], _ => rfl⟩
  have F19 := fun_mk (st := s_valued) l19 c19 k19
  have D19 : Def K mg "valued" f19 _ ["row", "literal"] := ⟨PySem.W.mg_of X G a19, F19.kp, F19.binds (ps := ["row", "literal"]) fun _ _ _ _ _ _ us hl => match us, hl with | [_, _], _ => rfl⟩
  have F20 := fun_mk (st := s_values) l20 c20 k20
  have D20 : Def K mg "values" f20 _ ["net", "state", "bits"] := ⟨PySem.W.mg_of X G a20, F20.kp, F20.binds (ps := ["net", "state", "bits"]) fun _ _ _ _ _ _ us hl => match us, hl with | [_, _, _], _ => rfl⟩
  have F21 := fun_mk (st := s_step) l21 c21 k21
  have D21 : Def K mg "step" f21 _ ["net", "state", "bits"] := ⟨PySem.W.mg_of X G a21, F21.kp, F21.binds (ps := ["net", "state", "bits"]) fun _ _ _ _ _ _ us hl => match us, hl with | [_, _, _], _ => rfl⟩
  have F22 := fun_mk (st := s_run) l22 c22 k22
  have D22 : Def K mg "run" f22 _ ["net", "rows"] := ⟨PySem.W.mg_of X G a22, F22.kp, F22.binds (ps := ["net", "rows"]) fun _ _ _ _ _ _ us hl => match us, hl with | [_, _], _ => rfl⟩
  have F23 := fun_mk (st := s__law_bit) l23 c23 k23
  have D23 : Def K mg "_law_bit" f23 _ ["row", "literal"] := ⟨PySem.W.mg_of X G a23, F23.kp, F23.binds (ps := ["row", "literal"]) fun _ _ _ _ _ _ us hl => match us, hl with | [_, _], _ => rfl⟩
  have F24 := fun_mk (st := s__law_row) l24 c24 k24
  have D24 : Def K mg "_law_row" f24 _ ["net", "held", "bits"] := ⟨PySem.W.mg_of X G a24, F24.kp, F24.binds (ps := ["net", "held", "bits"]) fun _ _ _ _ _ _ us hl => match us, hl with | [_, _, _], _ => rfl⟩
  have F25 := fun_mk (st := s__law_run) l25 c25 k25
  have D25 : Def K mg "_law_run" f25 _ ["net", "rows"] := ⟨PySem.W.mg_of X G a25, F25.kp, F25.binds (ps := ["net", "rows"]) fun _ _ _ _ _ _ us hl => match us, hl with | [_, _], _ => rfl⟩
  have F26 := fun_mk (st := s__law_image) l26 c26 k26
  have D26 : Def K mg "_law_image" f26 _ ["images", "literal"] := ⟨PySem.W.mg_of X G a26, F26.kp, F26.binds (ps := ["images", "literal"]) fun _ _ _ _ _ _ us hl => match us, hl with | [_, _], _ => rfl⟩
  have F27 := fun_mk (st := s__law_need) l27 c27 k27
  have D27 : Def K mg "_law_need" f27 _ ["net", "literals"] := ⟨PySem.W.mg_of X G a27, F27.kp, F27.binds (ps := ["net", "literals"]) fun _ _ _ _ _ _ us hl => match us, hl with | [_, _], _ => rfl⟩
  have F28 := fun_mk (st := s__law_both) l28 c28 k28
  have D28 : Def K mg "_law_both" f28 _ ["made", "a", "b"] := ⟨PySem.W.mg_of X G a28, F28.kp, F28.binds (ps := ["made", "a", "b"]) fun _ _ _ _ _ _ us hl => match us, hl with | [_, _, _], _ => rfl⟩
  have F29 := fun_mk (st := s__law_tidy) l29 c29 k29
  have D29 : Def K mg "_law_tidy" f29 _ ["net"] := ⟨PySem.W.mg_of X G a29, F29.kp, F29.binds (ps := ["net"]) fun _ _ _ _ _ _ us hl => match us, hl with | [_], _ => rfl⟩
  have F30 := fun_mk (st := s_fault_of) l30 c30 k30
  have D30 : Def K mg "fault_of" f30 _ ["net"] := ⟨PySem.W.mg_of X G a30, F30.kp, F30.binds (ps := ["net"]) fun _ _ _ _ _ _ us hl => match us, hl with | [_], _ => rfl⟩
  have F31 := fun_mk (st := s_check) l31 c31 k31
  have D31 : Def K mg "check" f31 _ ["net"] := ⟨PySem.W.mg_of X G a31, F31.kp, F31.binds (ps := ["net"]) fun _ _ _ _ _ _ us hl => match us, hl with | [_], _ => rfl⟩
  have F32 := fun_mk (st := s_law) l32 c32 k32
  refine ⟨PySem.W.fnOf "law" "law" (defArgs s_law) (defBody s_law) (defScope s_law) .none kV32 dc32 pm32 an32 cd32 ct32, fun s v => .of_eq rfl, fun base _ _ => ?_⟩
  have G1 : FnOk l.prog w K mg base CX0 1 f1 _ ["script"] (sp__law_state K) := ok__law_state F1 T 
  have G2 : FnOk l.prog w K mg base CX0 1 f2 _ ["state", "many"] (sp__law_draw K) := ok__law_draw F2 T 
  have G3 : FnOk l.prog w K mg base CX0 2 f3 _ ["state", "row"] (sp__law_pick K) := ok__law_pick F3 T G2 D2
  have G4 : FnOk l.prog w K mg base CX0 3 f4 _ ["state", "ins", "flops", "most"] (sp__law_net K) := ok__law_net F4 T G2 D2 G3 D3
  have G5 : FnOk l.prog w K mg base CX0 2 f5 _ ["state", "ins", "most"] (sp__law_rows K) := ok__law_rows F5 T G2 D2
  have G6 : FnOk l.prog w K mg base CX0 1 f6 _ ["self", "ins", "starts"] (sp_Builder___init__ K C_Builder) := ok_Builder___init__ F6 T 
  have G7 : FnOk l.prog w K mg base CX0 1 f7 _ ["net"] (sp_base_of K) := ok_base_of F7 T 
  have G8 : FnOk l.prog w K mg base CX0 2 f8 _ ["net"] (sp__bases K) := ok__bases F8 T G7 D7
  have G9 : FnOk l.prog w K mg base CX0 1 f9 _ ["self", "nexts", "outs"] (sp_Builder_net K C_Builder) := ok_Builder_net F9 T 
  have G10 : FnOk l.prog w K mg base CX0 2 f10 _ ["net"] (sp_many_nodes K) := ok_many_nodes F10 T G7 D7
  have G11 : FnOk l.prog w K mg base CX0 3 f11 _ ["net", "literals"] (sp_needed K) := ok_needed F11 T G7 D7 G10 D10
  have G12 : FnOk l.prog w K mg base CX0 4 f12 _ ["net"] (sp__needed_nodes K) := ok__needed_nodes F12 T G11 D11 G7 D7
  have G13 : FnOk l.prog w K mg base CX0 1 f13 _ ["literals", "numbers"] (sp__renumbered K) := ok__renumbered F13 T 
  have G14 : FnOk l.prog w K mg base CX0 5 f14 _ ["net"] (sp__without_rest K) := ok__without_rest F14 T G7 D7 G12 D12 G13 D13
  have G15 : FnOk l.prog w K mg base CX0 1 f15 _ ["self", "a", "b"] (sp_Builder_standing K C_Builder) := ok_Builder_standing F15 T 
  have G16 : FnOk l.prog w K mg base CX0 2 f16 _ ["self", "a", "b"] (sp_Builder_both K C_Builder) := ok_Builder_both F16 T G15 D15
  have G17 : FnOk l.prog w K mg base CX0 1 f17 _ ["standing", "literal"] (sp__stands K) := ok__stands F17 T 
  have G18 : FnOk l.prog w K mg base CX0 6 f18 _ ["net"] (sp_tidied K) := ok_tidied F18 T G6 D6 G8 D8 G9 D9 G14 D14 G16 D16 G17 D17
  have G19 : FnOk l.prog w K mg base CX0 1 f19 _ ["row", "literal"] (sp_valued K) := ok_valued F19 T 
  have G20 : FnOk l.prog w K mg base CX0 2 f20 _ ["net", "state", "bits"] (sp_values K) := ok_values F20 T G19 D19
  have G21 : FnOk l.prog w K mg base CX0 3 f21 _ ["net", "state", "bits"] (sp_step K) := ok_step F21 T G20 D20 G19 D19
  have G22 : FnOk l.prog w K mg base CX0 4 f22 _ ["net", "rows"] (sp_run K) := ok_run F22 T G21 D21
  have G23 : FnOk l.prog w K mg base CX0 1 f23 _ ["row", "literal"] (sp__law_bit K) := ok__law_bit F23 T 
  have G24 : FnOk l.prog w K mg base CX0 2 f24 _ ["net", "held", "bits"] (sp__law_row K) := ok__law_row F24 T G23 D23
  have G25 : FnOk l.prog w K mg base CX0 3 f25 _ ["net", "rows"] (sp__law_run K) := ok__law_run F25 T G24 D24 G23 D23
  have G26 : FnOk l.prog w K mg base CX0 1 f26 _ ["images", "literal"] (sp__law_image K) := ok__law_image F26 T 
  have G27 : FnOk l.prog w K mg base CX0 1 f27 _ ["net", "literals"] (sp__law_need K) := ok__law_need F27 T 
  have G28 : FnOk l.prog w K mg base CX0 1 f28 _ ["made", "a", "b"] (sp__law_both K) := ok__law_both F28 T 
  have G29 : FnOk l.prog w K mg base CX0 2 f29 _ ["net"] (sp__law_tidy K) := ok__law_tidy F29 T G26 D26 G27 D27 G28 D28
  have G30 : FnOk l.prog w K mg base CX0 3 f30 _ ["net"] (sp_fault_of K) := ok_fault_of F30 T G7 D7 G10 D10
  have G31 : FnOk l.prog w K mg base CX0 4 f31 _ ["net"] (sp_check K) := ok_check F31 T G30 D30
  exact ok_law F32 T G1 D1 G2 D2 G4 D4 G5 D5 G18 D18 G22 D22 G25 D25 G29 D29 G31 D31
end K38
open PySem PySem.W PyProof.Rows
set_option maxHeartbeats 0 in
theorem PySem.Challenge.cw_cellcloth_k38_whole_tidy_nets_holds : PySem.Challenge.rw_cellcloth_k38_whole_tidy_nets.Holds := by
  w_on; o_law; k_head; (case hw => w_witness2)
  k_fill
  refine V0.walk_at (l := PySem.Challenge.rw_cellcloth_k38_whole_tidy_nets) (n := 63) (x := "script") (sp := K38.sp_law) rfl (by decide) rfl (fun w h Y => PySem.W.kIn_of Y) ?F (fun _ _ a ns hl _ hS => ⟨a, ns, rfl, hS, hl, fun _ => rfl⟩)
  case F =>
    intro w mg fa h KX G hmg
    refine' K38.all_mk KX G hmg ?aC_Builder ?pg_Builder ?hd_Builder ?po_Builder ?sa_Builder ?mk_Builder ?kc_Builder ?n_Builder_ins ?n_Builder_starts ?n_Builder_gates ?n_Builder_known ?a1 ?l1 ?c1 ?k1 ?a2 ?l2 ?c2 ?k2 ?a3 ?l3 ?c3 ?k3 ?a4 ?l4 ?c4 ?k4 ?a5 ?l5 ?c5 ?k5 ?a6 ?i6 ?l6 ?c6 ?k6 ?a7 ?l7 ?c7 ?k7 ?a8 ?l8 ?c8 ?k8 ?a9 ?i9 ?l9 ?c9 ?k9 ?a10 ?l10 ?c10 ?k10 ?a11 ?l11 ?c11 ?k11 ?a12 ?l12 ?c12 ?k12 ?a13 ?l13 ?c13 ?k13 ?a14 ?l14 ?c14 ?k14 ?a15 ?i15 ?l15 ?c15 ?k15 ?a16 ?i16 ?l16 ?c16 ?k16 ?a17 ?l17 ?c17 ?k17 ?a18 ?l18 ?c18 ?k18 ?a19 ?l19 ?c19 ?k19 ?a20 ?l20 ?c20 ?k20 ?a21 ?l21 ?c21 ?k21 ?a22 ?l22 ?c22 ?k22 ?a23 ?l23 ?c23 ?k23 ?a24 ?l24 ?c24 ?k24 ?a25 ?l25 ?c25 ?k25 ?a26 ?l26 ?c26 ?k26 ?a27 ?l27 ?c27 ?k27 ?a28 ?l28 ?c28 ?k28 ?a29 ?l29 ?c29 ?k29 ?a30 ?l30 ?c30 ?k30 ?a31 ?l31 ?c31 ?k31 ?a32 ?l32 ?c32 ?k32 ?z_abs ?z_any ?z_enumerate ?z_int ?z_len ?z_list ?z_max ?z_min ?z_range ?z_repr ?z_reversed ?z_set ?z_sorted ?z_tuple
    (case aC_Builder => k_is)
    (case pg_Builder => k_is)
    (case hd_Builder => k_is)
    (case po_Builder => k_is)
    (case sa_Builder => k_is)
    (case mk_Builder => k_is)
    (case kc_Builder => k_is)
    (case n_Builder_ins => k_is)
    (case n_Builder_starts => k_is)
    (case n_Builder_gates => k_is)
    (case n_Builder_known => k_is)
    (case a1 => k_is)
    (case l1 => k_is)
    (case c1 => k_is)
    (case k1 => k_is)
    (case a2 => k_is)
    (case l2 => k_is)
    (case c2 => k_is)
    (case k2 => k_is)
    (case a3 => k_is)
    (case l3 => k_is)
    (case c3 => k_is)
    (case k3 => k_is)
    (case a4 => k_is)
    (case l4 => k_is)
    (case c4 => k_is)
    (case k4 => k_is)
    (case a5 => k_is)
    (case l5 => k_is)
    (case c5 => k_is)
    (case k5 => k_is)
    (case a6 => k_is)
    (case i6 => k_is)
    (case l6 => k_is)
    (case c6 => k_is)
    (case k6 => k_is)
    (case a7 => k_is)
    (case l7 => k_is)
    (case c7 => k_is)
    (case k7 => k_is)
    (case a8 => k_is)
    (case l8 => k_is)
    (case c8 => k_is)
    (case k8 => k_is)
    (case a9 => k_is)
    (case i9 => k_is)
    (case l9 => k_is)
    (case c9 => k_is)
    (case k9 => k_is)
    (case a10 => k_is)
    (case l10 => k_is)
    (case c10 => k_is)
    (case k10 => k_is)
    (case a11 => k_is)
    (case l11 => k_is)
    (case c11 => k_is)
    (case k11 => k_is)
    (case a12 => k_is)
    (case l12 => k_is)
    (case c12 => k_is)
    (case k12 => k_is)
    (case a13 => k_is)
    (case l13 => k_is)
    (case c13 => k_is)
    (case k13 => k_is)
    (case a14 => k_is)
    (case l14 => k_is)
    (case c14 => k_is)
    (case k14 => k_is)
    (case a15 => k_is)
    (case i15 => k_is)
    (case l15 => k_is)
    (case c15 => k_is)
    (case k15 => k_is)
    (case a16 => k_is)
    (case i16 => k_is)
    (case l16 => k_is)
    (case c16 => k_is)
    (case k16 => k_is)
    (case a17 => k_is)
    (case l17 => k_is)
    (case c17 => k_is)
    (case k17 => k_is)
    (case a18 => k_is)
    (case l18 => k_is)
    (case c18 => k_is)
    (case k18 => k_is)
    (case a19 => k_is)
    (case l19 => k_is)
    (case c19 => k_is)
    (case k19 => k_is)
    (case a20 => k_is)
    (case l20 => k_is)
    (case c20 => k_is)
    (case k20 => k_is)
    (case a21 => k_is)
    (case l21 => k_is)
    (case c21 => k_is)
    (case k21 => k_is)
    (case a22 => k_is)
    (case l22 => k_is)
    (case c22 => k_is)
    (case k22 => k_is)
    (case a23 => k_is)
    (case l23 => k_is)
    (case c23 => k_is)
    (case k23 => k_is)
    (case a24 => k_is)
    (case l24 => k_is)
    (case c24 => k_is)
    (case k24 => k_is)
    (case a25 => k_is)
    (case l25 => k_is)
    (case c25 => k_is)
    (case k25 => k_is)
    (case a26 => k_is)
    (case l26 => k_is)
    (case c26 => k_is)
    (case k26 => k_is)
    (case a27 => k_is)
    (case l27 => k_is)
    (case c27 => k_is)
    (case k27 => k_is)
    (case a28 => k_is)
    (case l28 => k_is)
    (case c28 => k_is)
    (case k28 => k_is)
    (case a29 => k_is)
    (case l29 => k_is)
    (case c29 => k_is)
    (case k29 => k_is)
    (case a30 => k_is)
    (case l30 => k_is)
    (case c30 => k_is)
    (case k30 => k_is)
    (case a31 => k_is)
    (case l31 => k_is)
    (case c31 => k_is)
    (case k31 => k_is)
    (case a32 => k_is)
    (case l32 => k_is)
    (case c32 => k_is)
    (case k32 => k_is)
    (case z_abs => k_is)
    (case z_any => k_is)
    (case z_enumerate => k_is)
    (case z_int => k_is)
    (case z_len => k_is)
    (case z_list => k_is)
    (case z_max => k_is)
    (case z_min => k_is)
    (case z_range => k_is)
    (case z_repr => k_is)
    (case z_reversed => k_is)
    (case z_set => k_is)
    (case z_sorted => k_is)
    (case z_tuple => k_is)
