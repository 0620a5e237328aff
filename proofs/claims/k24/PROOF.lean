import PyProof.Rows.All
import Wide.All
import OpenK.AllK
import Wide.FinOn
import HandS.ForMost
import HandS.Codes
import HandS.IsInst
import HandS.WideBits
import KE.Datum
import PyProof.ReprRoads
import PyProof.ReprLen
import PyProof.Rows.SetFrom
import HandS.Set
import HandS.SetFor
import HandS.Strs
import HandS.Star
import HandS.Comp
import HandS.DictComp
import HandS.Walk
import HandS.Iter
import HandS.More
import HandS.Deep
import HandS.SortInts
import HandS.Small
import HandS.Conv
import HandS.Sort
import HandS.Wide
import HandS.WordsDict
import HandS.DeepEq
import PySem.Challenge.RW_cellcloth_k24_whole_circuits_on_any_word
set_option Elab.async false
set_option linter.all false
set_option maxRecDepth 100000
set_option maxHeartbeats 4000000
/-! data with a Lean type in the abstract heap: what a value holds, kept by growth; the heap but for what is mutable -/
namespace V0
open PySem PySem.Spec PyProof.Rows L2
open PySem.W (Datum)
/-- a def of the text as callers need it -/
structure Def (K : PySem.W.Frag) (mg : Str → Option Value) (x : Str) (f : Addr) (fd : FuncData) (ps : List Str) : Prop where
  m : mg x = some (.ref f)
  k : PySem.W.keepIn K (.ref f) = true
  b : Binds K fd ps []
abbrev vLen (K : PySem.W.Frag) : List V → Hp → VK → Prop := fun xs H Q => ∃ p ys, xs = [.ref p] ∧ (SqL K H p ys ∨ SqT K H p ys) ∧ Q (.int ys.length) H
abbrev vListOf (K : PySem.W.Frag) : List V → Hp → VK → Prop := fun xs H Q => ∃ p ys, xs = [.ref p] ∧ (SqL K H p ys ∨ SqT K H p ys) ∧ ∀ l, H l = none → Q (.ref l) (upd H l (.lst ys))
abbrev vTupleOf (K : PySem.W.Frag) : List V → Hp → VK → Prop := fun xs H Q => ∃ p ys, xs = [.ref p] ∧ ((SqL K H p ys ∧ ∀ l, H l = none → Q (.ref l) (upd H l (.tup ys))) ∨ (SqT K H p ys ∧ Q (.ref p) H))
/-- a statement that is never reached -/
theorem ps_never {X : Cx} {st : Stmt} : PS X st (fun _ _ _ => False) := ⟨fun _ _ _ _ _ _ h => h.elim⟩
def tTru (K : PySem.W.Frag) (ta : TE) : TT := fun σ H Q => ta σ H fun x H' => ∃ k, TruV K x H' k ∧ Q k H'
/-- as pt_truth, K told -/
theorem pt_truthK {X : Cx} {K : PySem.W.Frag} {a : Expr} {ta : TE} (hK : X.K = K) (ha : PE X a ta) (he : ∀ whole, isTrue a X.env whole = (do let v ← whole; standAt a.pos; holding [v] (truthy v))) :
    PT X a (tTru K ta) := by
  subst hK
  exact pt_truth ha he
theorem hu65 {A : Around} {k : Nat} (hr : Room k A) : A.units + 65 < cLine := by
  have := hr.un
  omega
theorem same_new {H : Hp} {p : Addr} {o : HO} (h : H p = none) : Same H (upd H p o) := fun b x e => by
  rw [upd_ne (ne_of_none e h)]
  exact e
theorem same_mut {H H' : Hp} {p : Addr} {o : HO} (e : Same H H') (h : H p = none) : Same H (upd H' p o) := fun a u ha => by
  rw [upd_ne (ne_of_none ha h)]
  exact e a u ha
theorem tup_same {K : PySem.W.Frag} {H H' : Hp} {a : Addr} {xs : List V} (e : Same H H') (h : SqT K H a xs) : SqT K H' a xs := by
  rcases h with (h | ⟨o, h⟩) | h
  · exact .inl (.inl (e _ _ h))
  · exact .inl (.inr ⟨o, e _ _ h⟩)
  · exact .inr h
theorem map_range_succ {α : Type} (f : Nat → α) (i : Nat) : (List.range (i + 1)).map f = (List.range i).map f ++ [f i] := by
  rw [List.range_succ, List.map_append]
  rfl
/-! ### data -/
class Dm (α : Type) [DecidableEq α] extends Datum α where
  lay : ∀ a : α, (Datum.toD a).canLay0 = true
instance : Dm Int where
  lay _ := by simp only [Datum.toD, PyData.canLay0]
instance : Dm Bool where
  lay _ := by simp only [Datum.toD, PyData.canLay0]
instance : Datum Nat where
  toD n := .int (n : Int)
  plain _ := rfl
  eqv a b := by
    simp only [PyData.eqv]
    rw [PySem.W.beq_decide]
    exact decide_eq_decide.mpr ⟨fun e => by omega, fun e => by rw [e]⟩
  depth := 0
  depth_le _ := Nat.le_refl _
instance : Dm Nat where
  lay _ := by simp only [Datum.toD, PyData.canLay0]
section
variable {α β : Type} [DecidableEq α] [Dm α] [DecidableEq β] [Dm β]
theorem lay_all : ∀ xs : List α, PyData.canLayAll0 (xs.map Datum.toD) = true
  | [] => by simp only [List.map_nil, PyData.canLayAll0]
  | x :: xs => by
    rw [List.map_cons, PyData.canLayAll0, Dm.lay x, lay_all xs]
    rfl
instance : Dm (List α) where
  lay xs := by
    simp only [Datum.toD, PyData.canLay0]
    exact lay_all xs
instance : Dm (α × β) where
  lay p := by
    simp only [Datum.toD, PyData.canLay0, PyData.canLayAll0, Bool.and_true, Bool.and_eq_true]
    exact ⟨Dm.lay p.1, Dm.lay p.2⟩
end
mutual
/-- as Dp, of what stands in the abstract heap alone -/
inductive Dh (H : Hp) : V → PyData → Prop
  | non : Dh H .non .none
  | bl (b : Bool) : Dh H (.bl b) (.bool b)
  | int (i : Int) : Dh H (.int i) (.int i)
  | str (x : Str) : Dh H (.str x) (.str x)
  | lst {a : Addr} {xs : List V} {ds : List PyData} : H a = some (.lst xs) → DhAll H xs ds → Dh H (.ref a) (.list ds)
  | tup {a : Addr} {xs : List V} {ds : List PyData} : H a = some (.tup xs) → DhAll H xs ds → Dh H (.ref a) (.tuple ds)
inductive DhAll (H : Hp) : List V → List PyData → Prop
  | nil : DhAll H [] []
  | cons {v : V} {vs : List V} {d : PyData} {ds : List PyData} : Dh H v d → DhAll H vs ds → DhAll H (v :: vs) (d :: ds)
end
mutual
theorem dh_same {H H' : Hp} (s : Same H H') : ∀ (d : PyData) (v : V), Dh H v d → Dh H' v d
  | .none, _, h => by cases h; exact .non
  | .bool b, _, h => by cases h; exact .bl b
  | .int i, _, h => by cases h; exact .int i
  | .str x, _, h => by cases h; exact .str x
  | .list ds, _, h => by
    cases h with
    | lst h1 h2 => exact .lst (s _ _ h1) (dh_sameAll s ds _ h2)
  | .tuple ds, _, h => by
    cases h with
    | tup h1 h2 => exact .tup (s _ _ h1) (dh_sameAll s ds _ h2)
  | .dict _, _, h => by cases h
theorem dh_sameAll {H H' : Hp} (s : Same H H') : ∀ (ds : List PyData) (vs : List V), DhAll H vs ds → DhAll H' vs ds
  | [], _, h => by cases h; exact .nil
  | d :: ds, _, h => by
    cases h with
    | cons h1 h2 => exact .cons (dh_same s d _ h1) (dh_sameAll s ds _ h2)
end
mutual
theorem dh_dp {K : PySem.W.Frag} {H : Hp} : ∀ (d : PyData) (v : V), Dh H v d → Dp K H v d
  | .none, _, h => by cases h; exact .non
  | .bool b, _, h => by cases h; exact .bl b
  | .int i, _, h => by cases h; exact .int i
  | .str x, _, h => by cases h; exact .str x
  | .list ds, _, h => by
    cases h with
    | lst h1 h2 => exact .lst (SqL.of h1) (dh_dpAll ds _ h2)
  | .tuple ds, _, h => by
    cases h with
    | tup h1 h2 => exact .tup (SqT.of h1) (dh_dpAll ds _ h2)
  | .dict _, _, h => by cases h
theorem dh_dpAll {K : PySem.W.Frag} {H : Hp} : ∀ (ds : List PyData) (vs : List V), DhAll H vs ds → DpAll K H vs ds
  | [], _, h => by cases h; exact .nil
  | d :: ds, _, h => by
    cases h with
    | cons h1 h2 => exact .cons (dh_dp d _ h1) (dh_dpAll ds _ h2)
end
section
variable {α β : Type} [DecidableEq α] [Dm α] [DecidableEq β] [Dm β]
/-- v holds x -/
def Dv (H : Hp) (v : V) (x : α) : Prop := Dh H v (Datum.toD x)
def Dvs (H : Hp) (vs : List V) (xs : List α) : Prop := DhAll H vs (xs.map Datum.toD)
theorem Dv.same {H H' : Hp} {v : V} {x : α} (h : Dv H v x) (s : Same H H') : Dv H' v x := dh_same s _ _ h
theorem Dvs.same {H H' : Hp} {vs : List V} {xs : List α} (h : Dvs H vs xs) (s : Same H H') : Dvs H' vs xs := dh_sameAll s _ _ h
theorem Dv.int {H : Hp} (i : Int) : Dv H (.int i) i := Dh.int i
theorem Dv.nat {H : Hp} (n : Nat) : Dv H (.int (n : Int)) n := Dh.int (n : Int)
theorem Dv.bl {H : Hp} (b : Bool) : Dv H (.bl b) b := Dh.bl b
theorem Dv.int_inv {H : Hp} {v : V} {i : Int} (h : Dv H v i) : v = .int i := by
  unfold Dv at h
  cases h
  rfl
theorem Dv.nat_inv {H : Hp} {v : V} {n : Nat} (h : Dv H v n) : v = .int (n : Int) := by
  unfold Dv at h
  cases h
  rfl
theorem Dvs.nil {H : Hp} : Dvs H [] ([] : List α) := DhAll.nil
theorem Dvs.cons {H : Hp} {v : V} {vs : List V} {x : α} {xs : List α} (h : Dv H v x) (hs : Dvs H vs xs) : Dvs H (v :: vs) (x :: xs) := DhAll.cons h hs
theorem Dvs.cons_inv {H : Hp} {vs : List V} {x : α} {xs : List α} (h : Dvs H vs (x :: xs)) : ∃ v us, vs = v :: us ∧ Dv H v x ∧ Dvs H us xs := by
  unfold Dvs at h
  cases h with
  | cons h1 h2 => exact ⟨_, _, rfl, h1, h2⟩
theorem Dvs.nil_inv {H : Hp} {vs : List V} (h : Dvs H vs ([] : List α)) : vs = [] := by
  unfold Dvs at h
  cases h
  rfl
theorem Dvs.app {H : Hp} : ∀ {vs us : List V} {xs ys : List α}, Dvs H vs xs → Dvs H us ys → Dvs H (vs ++ us) (xs ++ ys)
  | _, _, [], _, h, g => by rw [h.nil_inv]; exact g
  | _, _, _ :: _, _, h, g => by
    obtain ⟨v, us, rfl, h1, h2⟩ := h.cons_inv
    exact .cons h1 (h2.app g)
theorem Dvs.len {H : Hp} : ∀ {vs : List V} {xs : List α}, Dvs H vs xs → vs.length = xs.length
  | _, [], h => by rw [h.nil_inv]; rfl
  | _, _ :: _, h => by
    obtain ⟨v, us, rfl, h1, h2⟩ := h.cons_inv
    rw [List.length_cons, List.length_cons, h2.len]
theorem Dvs.get {H : Hp} : ∀ {vs : List V} {xs : List α} {i : Nat} {x : α}, Dvs H vs xs → xs[i]? = some x → ∃ v, vs[i]? = some v ∧ Dv H v x
  | _, [], i, _, h, e => by simp at e
  | _, _ :: _, 0, _, h, e => by
    obtain ⟨v, us, rfl, h1, h2⟩ := h.cons_inv
    cases e
    exact ⟨_, rfl, h1⟩
  | _, _ :: _, i + 1, _, h, e => by
    obtain ⟨v, us, rfl, h1, h2⟩ := h.cons_inv
    exact h2.get (i := i) e
theorem Dvs.at {H : Hp} {vs : List V} {xs : List α} {i : Nat} {v : V} (h : Dvs H vs xs) (e : vs[i]? = some v) : ∃ x, xs[i]? = some x ∧ Dv H v x := by
  have hi : i < xs.length := by
    rw [← h.len]
    exact (List.getElem?_eq_some_iff.mp e).1
  obtain ⟨u, e2, d⟩ := h.get (List.getElem?_eq_getElem hi)
  rw [e] at e2
  cases e2
  exact ⟨_, List.getElem?_eq_getElem hi, d⟩
theorem Dv.list {H : Hp} {a : Addr} {vs : List V} {xs : List α} (h : H a = some (.lst vs)) (hs : Dvs H vs xs) : Dv H (.ref a) xs := Dh.lst h hs
theorem Dv.list_inv {H : Hp} {v : V} {xs : List α} (h : Dv H v xs) : ∃ a vs, v = .ref a ∧ H a = some (.lst vs) ∧ Dvs H vs xs := by
  unfold Dv at h
  cases h with
  | lst h1 h2 => exact ⟨_, _, rfl, h1, h2⟩
theorem Dv.pair {H : Hp} {a : Addr} {u v : V} {x : α} {y : β} (h : H a = some (.tup [u, v])) (h1 : Dv H u x) (h2 : Dv H v y) : Dv H (.ref a) (x, y) := Dh.tup h (.cons h1 (.cons h2 .nil))
theorem Dv.pair_inv {H : Hp} {v : V} {p : α × β} (h : Dv H v p) : ∃ a u w, v = .ref a ∧ H a = some (.tup [u, w]) ∧ Dv H u p.1 ∧ Dv H w p.2 := by
  unfold Dv at h
  cases h with
  | tup h1 h2 =>
    cases h2 with
    | cons h3 h4 =>
      cases h4 with
      | cons h5 h6 =>
        cases h6
        exact ⟨_, _, _, rfl, h1, h3, h5⟩
abbrev vi (xs : List Int) : List V := xs.map V.int
abbrev vn (xs : List Nat) : List V := xs.map (fun (b : Nat) => V.int (b : Int))
theorem vn_len (xs : List Nat) : (vn xs).length = xs.length := List.length_map _
theorem vn_get {xs : List Nat} {i n : Nat} (h : xs[i]? = some n) : (vn xs)[i]? = some (.int (n : Int)) := by
  rw [List.getElem?_map, h]
  rfl
theorem Dvs.ints_inv {H : Hp} : ∀ {vs : List V} {xs : List Int}, Dvs H vs xs → vs = vi xs
  | _, [], h => h.nil_inv
  | _, _ :: _, h => by
    obtain ⟨v, us, rfl, h1, h2⟩ := h.cons_inv
    rw [h1.int_inv, h2.ints_inv]
    rfl
theorem Dvs.nats_inv {H : Hp} : ∀ {vs : List V} {xs : List Nat}, Dvs H vs xs → vs = vn xs
  | _, [], h => h.nil_inv
  | _, _ :: _, h => by
    obtain ⟨v, us, rfl, h1, h2⟩ := h.cons_inv
    rw [h1.nat_inv, h2.nats_inv]
    rfl
theorem Dvs.ints {H : Hp} : ∀ xs : List Int, Dvs H (vi xs) xs
  | [] => .nil
  | x :: r => .cons (.int x) (Dvs.ints r)
theorem Dvs.nats {H : Hp} : ∀ xs : List Nat, Dvs H (vn xs) xs
  | [] => .nil
  | x :: r => .cons (.nat x) (Dvs.nats r)
theorem Dvs.bls {H : Hp} : ∀ xs : List Bool, Dvs H (xs.map V.bl) xs
  | [] => .nil
  | x :: r => .cons (.bl x) (Dvs.bls r)
/-- a list of whole numbers from 0 on -/
theorem Dv.natl {H : Hp} {a : Addr} {xs : List Nat} (h : H a = some (.lst (vn xs))) : Dv H (.ref a) xs := .list h (Dvs.nats xs)
theorem Dv.natl_inv {H : Hp} {v : V} {xs : List Nat} (h : Dv H v xs) : ∃ a, v = .ref a ∧ H a = some (.lst (vn xs)) := by
  obtain ⟨a, vs, rfl, h1, h2⟩ := h.list_inv
  rw [h2.nats_inv] at h1
  exact ⟨a, rfl, h1⟩
theorem Dv.intl {H : Hp} {a : Addr} {xs : List Int} (h : H a = some (.lst (vi xs))) : Dv H (.ref a) xs := .list h (Dvs.ints xs)
theorem Dv.intl_inv {H : Hp} {v : V} {xs : List Int} (h : Dv H v xs) : ∃ a, v = .ref a ∧ H a = some (.lst (vi xs)) := by
  obtain ⟨a, vs, rfl, h1, h2⟩ := h.list_inv
  rw [h2.ints_inv] at h1
  exact ⟨a, rfl, h1⟩
theorem shaped_of (x : α) (hd : Datum.depth α ≤ 64) : SeqAt.shaped (Datum.toD x) = true := by
  unfold SeqAt.shaped
  rw [Dm.lay x, Bool.true_and]
  exact decide_eq_true (Nat.le_trans (Datum.depth_le x) hd)
theorem eqD {K : PySem.W.Frag} {H : Hp} {x y : V} {Q : VK} {a b : α} (hx : Dv H x a) (hy : Dv H y b) (hd : Datum.depth α ≤ 64) (q : Q (.bl (decide (a = b))) H) : rEqD K x y H Q := by
  refine ⟨_, _, dh_dp _ _ hx, dh_dp _ _ hy, shaped_of a hd, shaped_of b hd, ?_⟩
  rw [Datum.eqv]
  exact q
theorem neD {K : PySem.W.Frag} {H : Hp} {x y : V} {Q : VK} {a b : α} (hx : Dv H x a) (hy : Dv H y b) (hd : Datum.depth α ≤ 64) (q : Q (.bl (!decide (a = b))) H) : rNeD K x y H Q := by
  refine ⟨_, _, dh_dp _ _ hx, dh_dp _ _ hy, shaped_of a hd, shaped_of b hd, ?_⟩
  rw [Datum.eqv]
  exact q
end
/-! ### the heap but for two objects that change -/
def res (p c : Addr) (H : Hp) : Hp := fun b => if b = p ∨ b = c then none else H b
theorem res_eq {p c b : Addr} {H : Hp} (h1 : b ≠ p) (h2 : b ≠ c) : res p c H b = H b := if_neg (fun h => h.elim h1 h2)
theorem res_some {p c b : Addr} {H : Hp} {o : HO} (h : res p c H b = some o) : b ≠ p ∧ b ≠ c ∧ H b = some o := by
  unfold res at h
  by_cases e : b = p ∨ b = c
  · rw [if_pos e] at h
    cases h
  · rw [if_neg e] at h
    exact ⟨fun z => e (.inl z), fun z => e (.inr z), h⟩
theorem res_same (p c : Addr) (H : Hp) : Same (res p c H) H := fun _ _ h => (res_some h).2.2
theorem Same.res {H H' : Hp} (s : Same H H') (p c : Addr) : Same (res p c H) (res p c H') := fun b o h => by
  obtain ⟨h1, h2, h3⟩ := res_some h
  rw [res_eq h1 h2]
  exact s _ _ h3
theorem res_of {p c b : Addr} {H : Hp} {o : HO} (h1 : b ≠ p) (h2 : b ≠ c) (h : H b = some o) : res p c H b = some o := by
  rw [res_eq h1 h2]
  exact h
/-- the heap but for one object -/
def hid (q : Addr) (H : Hp) : Hp := fun b => if b = q then none else H b
theorem hid_eq {q b : Addr} {H : Hp} (h : b ≠ q) : hid q H b = H b := if_neg h
theorem hid_some {q b : Addr} {H : Hp} {o : HO} (h : hid q H b = some o) : b ≠ q ∧ H b = some o := by
  unfold hid at h
  by_cases e : b = q
  · rw [if_pos e] at h
    cases h
  · rw [if_neg e] at h
    exact ⟨e, h⟩
theorem hid_of {q b : Addr} {H : Hp} {o : HO} (h : b ≠ q) (e : H b = some o) : hid q H b = some o := by
  rw [hid_eq h]
  exact e
theorem hid_same (q : Addr) (H : Hp) : Same (hid q H) H := fun _ _ h => (hid_some h).2
theorem hid_mono {q : Addr} {H H' : Hp} (s : Same H H') : Same (hid q H) (hid q H') := fun b o h => by
  obtain ⟨h1, h2⟩ := hid_some h
  exact hid_of h1 (s _ _ h2)
theorem hid_mut {q : Addr} {H : Hp} {o : HO} : Same (hid q H) (hid q (upd H q o)) := fun b u h => by
  obtain ⟨h1, h2⟩ := hid_some h
  exact hid_of h1 (by rw [upd_ne h1]; exact h2)
theorem hid_res_mut {p c q : Addr} {H : Hp} {o : HO} : Same (hid q (res p c H)) (hid q (res p c (upd H q o))) := fun b u h => by
  obtain ⟨h1, h2⟩ := hid_some h
  obtain ⟨h3, h4, h5⟩ := res_some h2
  exact hid_of h1 (res_of h3 h4 (by rw [upd_ne h1]; exact h5))
theorem res_upd {p c q : Addr} {H : Hp} {o : HO} (h1 : q ≠ p) (h2 : q ≠ c) : res p c (upd H q o) q = some o := by
  rw [res_eq h1 h2]
  exact upd_same
theorem res_mut {p c D : Addr} {H H' : Hp} {o : HO} (e : Same (res p c H) (res p c H')) (h : H D = none) : Same (res p c H) (res p c (upd H' D o)) := fun b u hb => by
  obtain ⟨h1, h2, h3⟩ := res_some hb
  have h4 : b ≠ D := fun z => by
    rw [z, h] at h3
    cases h3
  rw [res_eq h1 h2, upd_ne h4]
  exact (res_some (e _ _ hb)).2.2
/-- the state of the draws: the script's numbers, from 0 on, and a seed -/
structure Dr (H : Hp) (p c : Addr) : Prop where
  ne : p ≠ c
  st : ∃ (cs : List Nat) (s : Int), H p = some (.lst [.ref c, .int s]) ∧ H c = some (.lst (vn cs)) ∧ cs.length ≤ 63
theorem Dr.same {H H' : Hp} {p c : Addr} (h : Dr H p c) (s : Same H H') : Dr H' p c := by
  obtain ⟨n, cs, z, h1, h2, h3⟩ := h
  exact ⟨n, cs, z, s _ _ h1, s _ _ h2, h3⟩
theorem Dr.off {H : Hp} {p c q : Addr} (h : Dr H p c) (hq : H q = none) : q ≠ p ∧ q ≠ c := by
  obtain ⟨n, cs, z, h1, h2, h3⟩ := h
  exact ⟨fun e => (by rw [e, h1] at hq; cases hq), fun e => (by rw [e, h2] at hq; cases hq)⟩
/-- from H to H' all but the state of the draws stays -/
structure Go (p c : Addr) (H H' : Hp) : Prop where
  a : Dr H p c
  b : Dr H' p c
  s : Same (res p c H) (res p c H')
theorem Go.refl {p c : Addr} {H : Hp} (h : Dr H p c) : Go p c H H := ⟨h, h, Same.refl _⟩
theorem Go.trans {p c : Addr} {H H1 H2 : Hp} (x : Go p c H H1) (y : Go p c H1 H2) : Go p c H H2 := ⟨x.a, y.b, x.s.trans y.s⟩
theorem Go.of {p c : Addr} {H H' : Hp} (h : Dr H p c) (s : Same H H') : Go p c H H' := ⟨h, h.same s, V0.Same.res s p c⟩
theorem Go.more {p c : Addr} {H H1 H2 : Hp} (x : Go p c H H1) (s : Same H1 H2) : Go p c H H2 := x.trans (Go.of x.b s)
theorem Go.mut {p c D : Addr} {H H' : Hp} {o : HO} (x : Go p c H H') (h : H D = none) : Go p c H (upd H' D o) := by
  refine ⟨x.a, ?_, res_mut x.s h⟩
  obtain ⟨h1, h2⟩ := x.a.off h
  obtain ⟨n, cs, z, e1, e2, e3⟩ := x.b
  exact ⟨n, cs, z, (by rw [upd_ne (fun e => h1 e.symm)]; exact e1), (by rw [upd_ne (fun e => h2 e.symm)]; exact e2), e3⟩
theorem Go.get {p c b : Addr} {H H' : Hp} {o : HO} (x : Go p c H H') (h1 : b ≠ p) (h2 : b ≠ c) (h : H b = some o) : H' b = some o := by
  rw [← res_eq (p := p) (c := c) (H := H) h1 h2] at h
  exact (res_some (x.s _ _ h)).2.2
/-- what was new at H and stands at H1 stands at H' -/
theorem Go.get' {p c b : Addr} {H H1 H' : Hp} {o : HO} (x : Go p c H1 H') (d : Dr H p c) (n : H b = none) (h : H1 b = some o) : H' b = some o := x.get (d.off n).1 (d.off n).2 h
theorem Go.up {p c b : Addr} {H H' : Hp} {o : HO} (x : Go p c H H') (h : res p c H b = some o) : H' b = some o := (res_some (x.s _ _ h)).2.2
theorem Go.none {p c b : Addr} {H H' : Hp} (x : Go p c H H') (h : H' b = none) : H b = none := by
  obtain ⟨h1, h2⟩ := x.b.off h
  cases e : H b with
  | none => rfl
  | some o =>
    rw [x.get h1 h2 e] at h
    cases h
theorem Dv.up {α : Type} [DecidableEq α] [Dm α] {p c : Addr} {H : Hp} {v : V} {x : α} (h : Dv (res p c H) v x) : Dv H v x := h.same (res_same p c H)
theorem Dvs.up {α : Type} [DecidableEq α] [Dm α] {p c : Addr} {H : Hp} {vs : List V} {x : List α} (h : Dvs (res p c H) vs x) : Dvs H vs x := h.same (res_same p c H)
theorem emod_range {x m : Int} (h : 0 < m) : 0 ≤ x.fmod m ∧ x.fmod m < m := by
  rw [Int.fmod_eq_emod_of_nonneg x (by omega)]
  exact ⟨Int.emod_nonneg _ (by omega), Int.emod_lt_of_pos _ h⟩
theorem ix_nat {n j : Nat} (h : j < n) : ixN n (j : Int) = some j := by
  unfold ixN
  rw [if_pos (Int.natCast_nonneg _), if_pos (by omega), Int.toNat_natCast]
/-- what is new at H' -/
def fresh (H H' : Hp) : Hp := fun b => match H b with
  | none => H' b
  | some _ => none
theorem fresh_some {H H' : Hp} {b : Addr} {o : HO} (h : fresh H H' b = some o) : H b = none ∧ H' b = some o := by
  unfold fresh at h
  cases e : H b with
  | none =>
    rw [e] at h
    exact ⟨rfl, h⟩
  | some u =>
    rw [e] at h
    cases h
theorem fresh_of {H H' : Hp} {b : Addr} {o : HO} (h : H b = none) (e : H' b = some o) : fresh H H' b = some o := by
  unfold fresh
  rw [h]
  exact e
theorem fresh_same {H H' : Hp} : Same (fresh H H') H' := fun _ _ h => (fresh_some h).2
theorem fresh_pre {H H1 H' : Hp} (s : Same H H1) : Same (fresh H1 H') (fresh H H') := fun b o h => by
  obtain ⟨h1, h2⟩ := fresh_some h
  refine fresh_of ?_ h2
  cases e : H b with
  | none => rfl
  | some u =>
    rw [s _ _ e] at h1
    cases h1
theorem fresh_post {H H' H2 : Hp} (s : Same H' H2) : Same (fresh H H') (fresh H H2) := fun b o h => by
  obtain ⟨h1, h2⟩ := fresh_some h
  exact fresh_of h1 (s _ _ h2)
theorem fresh_hid {H H' : Hp} {q : Addr} {o : HO} (h : H q = some o) : Same (fresh H H') (hid q H') := fun b u e => by
  obtain ⟨h1, h2⟩ := fresh_some e
  refine hid_of (fun z => ?_) h2
  rw [z, h] at h1
  cases h1
/-- new at H', as H goes to H' by growth -/
theorem none_of {H H' : Hp} {b : Addr} (s : Same H H') (h : H' b = none) : H b = none := by
  cases e : H b with
  | none => rfl
  | some u =>
    rw [s _ _ e] at h
    cases h
theorem upd_id {H : Hp} {a : Addr} {o : HO} (h : H a = some o) : upd H a o = H := funext fun b => by
  by_cases e : b = a
  · rw [e, upd_same, h]
  · rw [upd_ne e]
theorem small64k {n : Nat} (h : n ≤ 65536) : n < sizeLine := Nat.lt_of_le_of_lt h (by decide)
theorem fresh_res {p c : Addr} {H H' : Hp} (d : Dr H p c) : Same (fresh H H') (res p c H') := fun b o h => by
  obtain ⟨h1, h2⟩ := fresh_some h
  obtain ⟨h3, h4⟩ := d.off h1
  exact res_of h3 h4 h2
end V0
/-! nets as data, and what the laws make of them -/
namespace V0
open PySem PySem.Spec PyProof.Rows L2
open PySem.W (Datum)
structure Net where
  ins : Nat
  starts : List Nat
  gates : List (Nat × Nat)
  nexts : List Nat
  outs : List Nat
  deriving DecidableEq
theorem eqv_net (a b : Str) : PyData.eqv (.str a) (.str b) = decide (a = b) := by
  simp only [PyData.eqv]
  exact PySem.W.beq_decide a b
instance : Datum Net where
  toD n := .tuple [.str "net", Datum.toD n.ins, Datum.toD n.starts, Datum.toD n.gates, Datum.toD n.nexts, Datum.toD n.outs]
  plain n := by simp only [PyData.plain, PyData.plainAll, Datum.plain, Bool.and_self]
  eqv a b := by
    simp only [PyData.eqv, PyData.eqvAll, Datum.eqv, Bool.and_true]
    rw [PySem.W.beq_decide, ← Bool.decide_and, ← Bool.decide_and, ← Bool.decide_and, ← Bool.decide_and, ← Bool.decide_and]
    refine decide_eq_decide.mpr ⟨fun ⟨_, h1, h2, h3, h4, h5⟩ => ?_, fun e => by rw [e]; exact ⟨rfl, rfl, rfl, rfl, rfl, rfl⟩⟩
    cases a
    cases b
    simp only at h1 h2 h3 h4 h5
    rw [h1, h2, h3, h4, h5]
  depth := 3
  depth_le n := by
    have h1 := Datum.depth_le n.ins
    have h2 := Datum.depth_le n.starts
    have h3 := Datum.depth_le n.gates
    have h4 := Datum.depth_le n.nexts
    have h5 := Datum.depth_le n.outs
    have e1 : Datum.depth Nat = 0 := rfl
    have e2 : Datum.depth (List Nat) = 1 := rfl
    have e3 : Datum.depth (List (Nat × Nat)) = 2 := rfl
    rw [e1] at h1
    rw [e2] at h2 h4 h5
    rw [e3] at h3
    simp only [PyData.depth, PyData.depthAll]
    omega
instance : Dm Net where
  lay n := by
    have h1 := Dm.lay n.ins
    have h2 := Dm.lay n.starts
    have h3 := Dm.lay n.gates
    have h4 := Dm.lay n.nexts
    have h5 := Dm.lay n.outs
    simp only [Datum.toD] at h1 h2 h3 h4 h5 ⊢
    simp only [PyData.canLay0, PyData.canLayAll0, Bool.and_true] at h1 h2 h3 h4 h5 ⊢
    rw [h2, h3, h4, h5]
    decide +kernel
section
theorem Dv.net_inv {H : Hp} {v : V} {n : Net} (h : Dv H v n) : ∃ a s g x o, v = .ref a ∧ H a = some (.tup [.str "net", .int (n.ins : Int), .ref s, .ref g, .ref x, .ref o]) ∧
    Dv H (.ref s) n.starts ∧ Dv H (.ref g) n.gates ∧ Dv H (.ref x) n.nexts ∧ Dv H (.ref o) n.outs := by
  unfold Dv at h
  cases h with
  | tup h1 h2 =>
    cases h2 with
    | cons a1 h2 =>
      cases h2 with
      | cons a2 h2 =>
        cases h2 with
        | cons a3 h2 =>
          cases h2 with
          | cons a4 h2 =>
            cases h2 with
            | cons a5 h2 =>
              cases h2 with
              | cons a6 h2 =>
                cases h2
                cases a1
                have e2 := Dv.nat_inv (n := n.ins) a2
                subst e2
                obtain ⟨s, _, rfl, _⟩ := Dv.list_inv (xs := n.starts) a3
                obtain ⟨g, _, rfl, _⟩ := Dv.list_inv (xs := n.gates) a4
                obtain ⟨x, _, rfl, _⟩ := Dv.list_inv (xs := n.nexts) a5
                obtain ⟨o, _, rfl, _⟩ := Dv.list_inv (xs := n.outs) a6
                exact ⟨_, _, _, _, _, rfl, h1, a3, a4, a5, a6⟩
theorem Dv.net {H : Hp} {a : Addr} {n : Net} {s g x o : V} (h : H a = some (.tup [.str "net", .int (n.ins : Int), s, g, x, o])) (h1 : Dv H s n.starts) (h2 : Dv H g n.gates) (h3 : Dv H x n.nexts) (h4 : Dv H o n.outs) : Dv H (.ref a) n :=
  Dh.tup h (.cons (.str _) (.cons (.int _) (.cons h1 (.cons h2 (.cons h3 (.cons h4 .nil))))))
end
/-- how many nodes there are behind the inputs and flops -/
def Net.base (n : Net) : Nat := 1 + n.ins + n.starts.length
def Net.many (n : Net) : Nat := n.base + n.gates.length
structure Net.Ok (n : Net) (ins flops most : Nat) : Prop where
  ins : n.ins ≤ ins
  fl : n.starts.length ≤ flops
  bits : ∀ b ∈ n.starts, b < 2
  most : n.gates.length ≤ most
  g : ∀ j g, n.gates[j]? = some g → g.1 < 2 * (n.base + j) ∧ g.2 < 2 * (n.base + j)
  nl : n.nexts.length = n.starts.length
  nx : ∀ x ∈ n.nexts, x < 2 * n.many
  ol : n.outs.length ≤ 3
  ox : ∀ x ∈ n.outs, x < 2 * n.many
/-- a literal's bit in a row of values -/
def bitv (row : List Nat) (l : Nat) : Nat := (row[l / 2]?.getD 0) ^^^ (l % 2)
def rowOf (gs : List (Nat × Nat)) (row : List Nat) : List Nat := gs.foldl (fun r g => r ++ [bitv r g.1 * bitv r g.2]) row
def Net.row (n : Net) (held bits : List Nat) : List Nat := rowOf n.gates (0 :: bits ++ held)
theorem rowOf_len (gs : List (Nat × Nat)) (r : List Nat) : (rowOf gs r).length = r.length + gs.length := by
  induction gs generalizing r with
  | nil => rfl
  | cons g gs ih =>
    show (rowOf gs _).length = _
    rw [ih, List.length_append, List.length_cons, List.length_cons, List.length_nil]
    omega
theorem rowOf_snoc (gs : List (Nat × Nat)) (g : Nat × Nat) (r : List Nat) : rowOf (gs ++ [g]) r = rowOf gs r ++ [bitv (rowOf gs r) g.1 * bitv (rowOf gs r) g.2] := by
  unfold rowOf
  rw [List.foldl_append]
  rfl
theorem bitv_lt {row : List Nat} (h : ∀ b ∈ row, b < 2) (l : Nat) : bitv row l < 2 := by
  have h1 : row[l / 2]?.getD 0 < 2 := by
    cases e : row[l / 2]? with
    | none => decide
    | some x => exact h x (List.mem_of_getElem? e)
  exact Nat.xor_lt_two_pow (n := 1) h1 (Nat.mod_lt _ (by decide))
theorem mul_lt2 {a b : Nat} (ha : a < 2) (hb : b < 2) : a * b < 2 := by
  have : a = 0 ∨ a = 1 := by omega
  rcases this with rfl | rfl <;> omega
theorem rowOf_lt {gs : List (Nat × Nat)} {r : List Nat} (h : ∀ b ∈ r, b < 2) : ∀ b ∈ rowOf gs r, b < 2 := by
  induction gs generalizing r with
  | nil => exact h
  | cons g gs ih =>
    refine ih (r := r ++ [_]) fun b hb => ?_
    rcases List.mem_append.mp hb with hb | hb
    · exact h b hb
    · rw [List.mem_singleton.mp hb]
      exact mul_lt2 (bitv_lt h _) (bitv_lt h _)
theorem take_snoc {α : Type} {xs : List α} {i : Nat} {x : α} (h : xs[i]? = some x) : xs.take (i + 1) = xs.take i ++ [x] := by
  rw [List.take_add_one, h]
  rfl
theorem get_snoc {α : Type} {xs : List α} {x y : α} {k : Nat} (h : (xs ++ [x])[k]? = some y) : (k < xs.length ∧ xs[k]? = some y) ∨ (k = xs.length ∧ y = x) := by
  by_cases hk : k < xs.length
  · rw [List.getElem?_append_left hk] at h
    exact .inl ⟨hk, h⟩
  · rw [List.getElem?_append_right (by omega)] at h
    have e : k - xs.length = 0 := by
      cases e : k - xs.length with
      | zero => rfl
      | succ j =>
        rw [e] at h
        simp at h
    rw [e] at h
    cases h
    exact .inr ⟨by omega, rfl⟩
theorem mem_snoc {α : Type} {P : α → Prop} {xs : List α} {x : α} (h : ∀ y ∈ xs, P y) (hx : P x) : ∀ y ∈ xs ++ [x], P y := by
  intro y hy
  rcases List.mem_append.mp hy with hy | hy
  · exact h y hy
  · rw [List.mem_singleton.mp hy]
    exact hx
theorem vn_snoc (xs : List Nat) (x : Nat) : vn xs ++ [V.int (x : Int)] = vn (xs ++ [x]) := by
  unfold vn
  rw [List.map_append]
  rfl
theorem cut_nn (xs : List Nat) {a b : Nat} (h1 : a ≤ b) (h2 : b ≤ xs.length) : cutV (vn xs) (some (a : Int)) (some (b : Int)) = vn ((xs.drop a).take (b - a)) := by
  unfold cutV
  rw [HT.sIx_nat, HT.sIx_nat, vn_len, Nat.min_eq_left h2, Nat.min_eq_left (Nat.le_trans h1 h2)]
  unfold vn
  rw [← List.map_drop, ← List.map_take]
theorem set_vn (xs : List Nat) (i x : Nat) : (vn xs).set i (.int (x : Int)) = vn (xs.set i x) := by
  unfold vn
  rw [List.map_set]
theorem mem_set {α : Type} {P : α → Prop} {xs : List α} {i : Nat} {x : α} (h : ∀ y ∈ xs, P y) (hx : P x) : ∀ y ∈ xs.set i x, P y := by
  intro y hy
  rcases List.mem_or_eq_of_mem_set hy with hy | rfl
  · exact h y hy
  · exact hx
theorem dec_bool (a b : Bool) : decide (V.bl a = V.bl b) = decide (a = b) := by rw [Bool.eq_iff_iff]; simp
theorem dec_int (a b : Int) : decide (V.int a = V.int b) = decide (a = b) := by rw [Bool.eq_iff_iff]; simp
theorem dec_nat (a b : Nat) : decide (V.int (a : Int) = V.int (b : Int)) = decide (a = b) := by
  rw [dec_int]
  exact decide_eq_decide.mpr ⟨fun e => by omega, fun e => by rw [e]⟩
theorem dec_one (a : Nat) : decide (V.int (a : Int) = V.int 1) = decide (a = 1) := dec_nat a 1
theorem flat_vn : ∀ xs : List Nat, (vn xs).all flatV = true
  | [] => rfl
  | y :: r => by
    show (true && (vn r).all flatV) = true
    rw [flat_vn r]
    rfl
theorem inV_vn (c : Nat) : ∀ xs : List Nat, inV (.int (c : Int)) (vn xs) = decide (c ∈ xs)
  | [] => by rfl
  | y :: r => by
    have ih := inV_vn c r
    show (eqV (.int (y : Int)) (.int (c : Int)) || inV (.int (c : Int)) (vn r)) = _
    rw [ih]
    show (((y : Int) == (c : Int)) || decide (c ∈ r)) = _
    by_cases h : c ∈ r
    · rw [decide_eq_true h, Bool.or_true, decide_eq_true (List.mem_cons_of_mem _ h)]
    · by_cases e : y = c
      · subst e
        rw [beq_self_eq_true, Bool.true_or, decide_eq_true List.mem_cons_self]
      · rw [beq_eq_false_iff_ne.mpr (fun z => e (by omega)), decide_eq_false h, Bool.or_false, decide_eq_false (fun m => ?_)]
        rcases List.mem_cons.mp m with m | m
        · exact e m.symm
        · exact h m
theorem bxor (a b : Nat) : Builtin.bitXor (a : Int) (b : Int) = ((a ^^^ b : Nat) : Int) := by
  rw [Bits.bitXor_pp (Int.natCast_nonneg _) (Int.natCast_nonneg _), Int.toNat_natCast, Int.toNat_natCast]
theorem fdiv_nat (a b : Nat) : ((a : Int)).fdiv (b : Int) = ((a / b : Nat) : Int) := by
  rw [Int.fdiv_eq_ediv_of_nonneg _ (by omega)]
  rfl
theorem fmod_nat (a b : Nat) : ((a : Int)).fmod (b : Int) = ((a % b : Nat) : Int) := by
  rw [Int.fmod_eq_emod_of_nonneg _ (by omega)]
  rfl
theorem nfdiv2 (a : Nat) : ((a : Int)).fdiv 2 = ((a / 2 : Nat) : Int) := fdiv_nat a 2
theorem nfmod2 (a : Nat) : ((a : Int)).fmod 2 = ((a % 2 : Nat) : Int) := fmod_nat a 2
end V0
/-! repr of data, where nothing is being shown; the law's call with what stands around it -/
namespace V0
open PySem PySem.Spec PyProof.Rows L2
open PySem.W (Datum)
def rRepr (K : PySem.W.Frag) : List V → Hp → VK → Prop := fun xs H Q => ∃ (a : Addr) (d : PyData), xs = [.ref a] ∧ Dp K H (.ref a) d ∧ (d.showable = true ∧ d.hasDict = false ∧ d.depth ≤ 60 ∧ d.shown.length ≤ sizeLine) ∧ Q (.str d.shown) H
theorem call_reprD {X : Cx} (hg : X.A.guards = some []) (hu : X.A.units + 64 < cLine) : CallR X (.builtin "repr") (rRepr X.K) := by
  intro pins s σ H xs us Q I r h
  obtain ⟨a, d, rfl, hd, ⟨h1, h2, h3, h4⟩, q⟩ := h
  obtain ⟨u, rfl, rx⟩ := vals1 r
  obtain ⟨as, rd⟩ := Dp.reads I d _ _ hd rx
  obtain rfl : u = Value.ref a := rx
  refine repr_of_reads' rd h1 (PyData.noDict_hsm h2) hg (by omega) (fun _ _ e => e) (fun h' t tk hk => ?_) h4
  exact ⟨.str _, H, I.kept hk, ⟨t, rfl⟩, q⟩
/-- data whose text is short -/
structure Sm (d : PyData) (n : Nat) : Prop where
  sh : d.showable = true
  lv : d.leavesShort 13 = true
  wt : d.weight ≤ n
structure SmA (ds : List PyData) (n : Nat) : Prop where
  sh : PyData.showableAll ds = true
  lv : PyData.leavesShortAll 13 ds = true
  wt : PyData.weightAll ds ≤ n
theorem Sm.mono {d : PyData} {n m : Nat} (h : Sm d n) (l : n ≤ m) : Sm d m := ⟨h.sh, h.lv, Nat.le_trans h.wt l⟩
theorem Sm.int {i : Int} (h : i.natAbs < 10 ^ 12) : Sm (.int i) 40 := by
  have hl : i.natAbs.log2 < 40 := by
    by_cases h0 : i.natAbs = 0
    · rw [h0]
      decide
    · exact (Nat.log2_lt h0).mpr (Nat.lt_trans h (by decide))
  refine ⟨?_, ?_, ?_⟩
  · simp only [PyData.showable, decide_eq_true_eq]
    omega
  · simp only [PyData.leavesShort, decide_eq_true_eq]
    exact PyData.shown_int_le h
  · simp only [PyData.weight]
    split <;> omega
theorem Sm.nat {n : Nat} (h : n < 10 ^ 12) : Sm (.int (n : Int)) 40 := Sm.int (by rw [Int.natAbs_natCast]; exact h)
theorem SmA.nil : SmA [] 0 := ⟨by simp only [PyData.showableAll], by simp only [PyData.leavesShortAll], by simp only [PyData.weightAll]; exact Nat.le_refl _⟩
theorem SmA.cons {d : PyData} {ds : List PyData} {n m : Nat} (h : Sm d n) (hs : SmA ds m) : SmA (d :: ds) (n + 1 + m) :=
  ⟨by simp only [PyData.showableAll, h.sh, hs.sh, Bool.and_self], by simp only [PyData.leavesShortAll, h.lv, hs.lv, Bool.and_self], by simp only [PyData.weightAll]; have := h.wt; have := hs.wt; omega⟩
theorem SmA.all {n : Nat} : ∀ {ds : List PyData}, (∀ d ∈ ds, Sm d n) → SmA ds (ds.length * (n + 1))
  | [], _ => by rw [List.length_nil, Nat.zero_mul]; exact SmA.nil
  | d :: ds, h => by
    have a := SmA.cons (h d List.mem_cons_self) (SmA.all (ds := ds) fun e he => h e (List.mem_cons_of_mem _ he))
    have e : (d :: ds).length * (n + 1) = n + 1 + ds.length * (n + 1) := by
      rw [List.length_cons, Nat.add_mul, Nat.one_mul]
      omega
    rw [e]
    exact a
theorem Sm.list {ds : List PyData} {n : Nat} (h : SmA ds n) : Sm (.list ds) n := ⟨by simp only [PyData.showable, h.sh], by simp only [PyData.leavesShort, h.lv], by simp only [PyData.weight]; exact h.wt⟩
theorem Sm.tup {ds : List PyData} {n : Nat} (h : SmA ds n) : Sm (.tuple ds) n := ⟨by simp only [PyData.showable, h.sh], by simp only [PyData.leavesShort, h.lv], by simp only [PyData.weight]; exact h.wt⟩
theorem Sm.bl (b : Bool) : Sm (.bool b) 0 := ⟨by simp only [PyData.showable], by simp only [PyData.leavesShort], by simp only [PyData.weight]; exact Nat.le_refl _⟩
section
variable {α : Type} [DecidableEq α] [Dm α]
theorem Sm.of_list {xs : List α} {n : Nat} (h : ∀ x ∈ xs, Sm (Datum.toD x) n) : Sm (Datum.toD xs) (xs.length * (n + 1)) := by
  have a := SmA.all (ds := xs.map Datum.toD) (n := n) fun d hd => by
    obtain ⟨x, hx, rfl⟩ := List.mem_map.mp hd
    exact h x hx
  rw [List.length_map] at a
  exact Sm.list a
theorem Sm.nats {xs : List Nat} (h : ∀ x ∈ xs, x < 10 ^ 12) : Sm (Datum.toD xs) (xs.length * 41) := Sm.of_list fun x hx => Sm.nat (h x hx)
theorem Sm.ints {xs : List Int} (h : ∀ x ∈ xs, x.natAbs < 10 ^ 12) : Sm (Datum.toD xs) (xs.length * 41) := Sm.of_list fun x hx => Sm.int (h x hx)
/-- what repr tells of x -/
def txt (x : α) : Str := (Datum.toD x).shown
theorem reprD {K : PySem.W.Frag} {H : Hp} {a : Addr} {x : α} {n : Nat} {Q : VK} (hx : Dv H (.ref a) x) (s : Sm (Datum.toD x) n) (hn : n ≤ 2 ^ 20) (hd : Datum.depth α ≤ 60) (q : Q (.str (txt x)) H) : rRepr K [.ref a] H Q :=
  ⟨a, _, rfl, dh_dp _ _ hx, ⟨s.sh, PyData.hasDict_of_canLay _ (Dm.lay x), Nat.le_trans (Datum.depth_le x) hd, PyData.shown_fits (by decide) (by decide) s.lv (Nat.le_trans s.wt hn)⟩, q⟩
theorem four (x : α) {n : Nat} (s : Sm (Datum.toD x) n) (hn : n ≤ 2 ^ 20) (hd : Datum.depth α ≤ 60) : (Datum.toD x).showable = true ∧ (Datum.toD x).hasDict = false ∧ (Datum.toD x).depth ≤ 60 ∧ (Datum.toD x).shown.length ≤ sizeLine :=
  ⟨s.sh, PyData.hasDict_of_canLay _ (Dm.lay x), Nat.le_trans (Datum.depth_le x) hd, PyData.shown_fits (by decide) (by decide) s.lv (Nat.le_trans s.wt hn)⟩
end
/-! ### the law's call -/
/-- the law's def from where a claim calls it -/
def LawOk (P : Program) (w : World) (K : PySem.W.Frag) (mg : Str → Option Value) (base : Heap) (f : Addr) (fd : FuncData) (ps : List Str) (sp : Sp) : Prop :=
  ∀ (s : Shared) (H : Hp) (args : Args) (us : List Value) (vs : List V) (Q : VK) (E : XK), Env0 P w K mg base callerA [] s H → BindsTo s fd args (ps.zip us) → Vals vs us → sp vs H Q E → codeAny (model P w) callerA (.call (.ref f) args) (CR CX0 [] P w H s Q E) s
theorem lawOk {P : Program} {w : World} {K : PySem.W.Frag} {mg : Str → Option Value} {base : Heap} {x qual : Str} {st : Stmt} {f : Addr} {fd : FuncData} {N ps : List Str} {k : Nat} {sp : Sp} (F : Fun K x qual st f fd) (S : FnScope N ps (defScope st)) (room : Room (k + 1) callerA)
    (len : ∀ vs H Q E, sp vs H Q E → vs.length = ps.length)
    (body : ∀ (cdv : Value) (A : Around) (outer : List Env) (s : Shared) (H : Hp) (vs : List V) (Q : VK) (E : XK), Room k (A.deeper (envOfC qual (defScope st) s.heap.objs.size f cdv)) → (A.deeper (envOfC qual (defScope st) s.heap.objs.size f cdv)).guards = some [] → sp vs H Q E →
      ∃ t, PSs (cxOf CX0 P w K mg base N qual (defScope st) f cdv A outer s H E).nox (defBody st) t ∧ t { nx := fun _ H' => Q .non H', rt := Q } (L2.start N vs) H) : LawOk P w K mg base f fd ps sp := by
  obtain ⟨_, _, _, _, _, _, cdv, _, _, rfl, look, cod⟩ := F.ex
  intro s H args us vs Q E env bind rel want
  have inK : K.In s.heap := env.mod.kin.keeps fun b o g => (env.bs b o g).1
  have free : s.heap.NoLimit := env.mod.nolimit.keeps fun b o g => (env.bs b o g).1
  have vis : ∀ y ∈ ps.zip us, (defScope st).names.lookup y.1 = some .local ∨ ((defScope st).names.lookup y.1 = some .cell ∧ ((cellsFrom (s.heap.objs.size + 1) (defScope st).names []).lookup y.1).isSome = true) := by
    rintro ⟨n, v⟩ hy
    exact (S.par n (List.of_mem_zip hy).1).imp id fun c => ⟨c, PySem.W.cellsFrom_some _ _ _ (.inl c)⟩
  refine codeAny_call_function room.depth (inK _ _ look) rfl S.co S.gen rfl (PySem.W.codeRec_of inK cod) (bind _ _ _ _ ?_)
  refine wpAny_newFunctionEnv_cells S.kind vis fun env1 he s1 made => ?_
  subst he
  refine ⟨free.keeps made.toInCall.keep, codeAny_func ?_⟩
  obtain ⟨t, ht, ok⟩ := body cdv callerA [] s H vs Q E (room.deeper _) rfl want
  have I := inv_start (CX := CX0) (E := E) S room.hd env (len _ _ _ _ want) rel made
  refine wpAny_mono ((ht.nox).run [] s1 (L2.start N vs) H _ I ok) (fun fl s' told => ?_) fun e s' told => told
  cases fl with
  | next =>
    obtain ⟨_, H', J, done⟩ := told
    exact ⟨.non, H', J.os, J.bare, J.base, J.hok, rfl, done⟩
  | ret u =>
    obtain ⟨v, _, H', J, rv, done⟩ := told
    exact ⟨v, H', J.os, J.bare, J.base, J.hok, rv, done⟩
  | brk => exact told.elim fun _ h => h.elim fun _ h => h.2.elim
  | cont => exact told.elim fun _ h => h.elim fun _ h => h.2.elim
theorem law_at {P : Program} {w : World} {K : PySem.W.Frag} {mg mb : Str → Option Value} {f a : Addr} {fd : FuncData} {x : Str} {sp : Sp} {s : Shared} {us : List Value} {ns : List Int}
    (kin : K.In s.heap) (glob : s.heap.Ns mainGlobals mg) (blt : s.heap.Ns builtinsNs mb) (same : ∀ y : Str, y ≠ "__name__" → mb y = bootBuiltins y) (free : s.heap.NoLimit) (gens : s.gens = #[])
    (script : s.heap.get? a = some { cls := .type "list", data := .seq us.toArray }) (whole : IntsAre us ns) (few : ns.length ≤ sizeLine)
    (F : ∀ base : Heap, K.In base → base.Ns mainGlobals mg → LawOk P w K mg base f fd [x] sp) (binds : ∀ (t : Shared) (u : Value), BindsTo t fd ⟨[u], []⟩ [(x, u)])
    (want : ∀ H : Hp, Only H → SqL K H a (ns.map V.int) → sp [.ref a] H (fun v _ => v = .bl true) fun _ _ _ => False) :
    codeAny (model P w) callerA (.call (.ref f) ⟨[.ref a], []⟩) (fun r t => r = .ok (.ret (.bool true)) ∧ OldK s.heap t.heap ∧ t.os = s.os ∧ AllBare t.gens) s := by
  have rel := vals_ints whole
  have long := whole.length
  -- what is tracked at the start: the script, if it is not one of the module's own objects
  obtain ⟨H, only, seq, fits, dom, own⟩ : ∃ H : Hp, Only H ∧ SqL K H a (ns.map V.int) ∧ HOk P w H s.heap ∧ (∀ b o, H b = some o → b = a) ∧ (∀ o, H a = some o → K.lookup a = none) := by
    cases kl : K.lookup a with
    | some o =>
      have g := kin a o kl
      rw [script] at g
      cases g
      refine ⟨fun _ => none, fun _ => .inl rfl, .inr ⟨_, us.toArray, _, kl, rfl, rfl, rfl, ?_, ?_⟩, ?_, ?_, ?_⟩
      · rw [List.size_toArray, long]
        exact few
      · rw [List.toList_toArray]
        exact rel
      · intro b u z
        cases z
      · intro b u z
        cases z
      · intro u z
        cases z
    | none =>
      let fz : HO := .frz { cls := .type "list", data := .seq us.toArray } (.lst (ns.map V.int))
      have at_a : (fun b => if b = a then some fz else none : Hp) a = some fz := if_pos rfl
      have off_a : ∀ {b : Addr}, b ≠ a → (fun b => if b = a then some fz else none : Hp) b = none := fun h => if_neg h
      refine ⟨fun b => if b = a then some fz else none, fun b => ?_, .inl (.inr ⟨_, at_a⟩), fun b u z => ?_, fun b u z => ?_, fun _ _ => rfl⟩
      · by_cases e : b = a
        · subst e
          exact .inr ⟨_, _, at_a⟩
        · exact .inl (off_a e)
      · by_cases e : b = a
        · subst e
          rw [at_a] at z
          cases z
          refine ⟨script, ?_, us, _, rel, script⟩
          rw [List.length_map]
          exact few
        · rw [off_a e] at z
          cases z
      · by_cases e : b = a
        · exact e
        · rw [off_a e] at z
          cases z
  have under : ∀ {b : Addr} {o : Obj}, s.heap.get? b = some o → H b = none → (hidT s.heap H).get? b = some o := fun g n => hidT_get g n
  have dicts : ∀ {b : Addr} {m : Str → Option Value}, s.heap.Ns b m → (hidT s.heap H).Ns b m := by
    rintro b m ⟨o, es, ep, g, d, r⟩
    refine ⟨o, es, ep, under g ?_, d, r⟩
    cases hb : H b with
    | none => rfl
    | some u =>
      obtain rfl := dom b u hb
      rw [script] at g
      cases g
      cases d
  have kinB : K.In (hidT s.heap H) := by
    intro b o kl
    refine under (kin b o kl) ?_
    cases hb : H b with
    | none => rfl
    | some u =>
      obtain rfl := dom b u hb
      rw [own u hb] at kl
      cases kl
  have modB : Mod K mg (hidT s.heap H) := by
    refine ⟨kinB, dicts glob, ⟨mb, dicts blt, same⟩, ?_⟩
    obtain ⟨mc, z1, z2⟩ := free
    exact ⟨mc, dicts z1, z2⟩
  have env : Env0 P w K mg (hidT s.heap H) callerA [] s H :=
    ⟨rfl, modB, fun b o g => of_hidT g, Nat.le_of_eq (hidT_size _ _), trivial, fun b hb => (by cases hb), fits, .of_eq gens⟩
  refine codeAny_mono (F _ kinB (dicts glob) s H ⟨[.ref a], []⟩ [.ref a] [.ref a] _ _ env (binds s (.ref a)) (.cons rfl .nil) (want H only seq)) fun r t told => ?_
  match r, told with
  | .error e, told => exact told.elim
  | .ok .next, told => exact told.elim
  | .ok .brk, told => exact told.elim
  | .ok .cont, told => exact told.elim
  | .ok (.ret u), ⟨v, H', os, bare, un, fits', rv, yes⟩ =>
    have yes' : v = .bl true := yes
    subst yes'
    have eu : u = Value.bool true := rv
    subst eu
    refine ⟨rfl, OldK.of_keep fun b o g => ?_, os, bare⟩
    cases hb : H b with
    | none => exact un.keep b o g hb (fun z => (by cases z)) (by simp)
    | some u2 =>
      rcases only b with z | ⟨ob, xs, z⟩
      · rw [z] at hb
        cases hb
      · obtain ⟨e1, _⟩ := fits b _ z
        obtain ⟨e2, _⟩ := fits' b _ (un.frzs b ob _ z)
        rw [g] at e1
        cases e1
        exact e2
/-- the goal that k_head leaves, where the law's promise is LawOk -/
theorem walk_at {l : PySem.W.OpenLaw} {n : Nat} {q : Program} {loose : List Str} {XP : (Str → Option Value) → Heap → Prop} {YP : World → Heap → Prop} {d : DefRec} {K : Params → PySem.W.Frag} {sp : PySem.W.Frag → Sp} {x : Str}
    (hn : l.most = some n) (hs : n ≤ sizeLine) (plain : d.params.defaults = []) (hY : ∀ (w : World) (h : Heap), YP w h → (K w.params).In h)
    (F : ∀ (w : World) (mg : Str → Option Value) (f : Addr) (h : Heap), (K w.params).In h → h.Ns mainGlobals mg → mg d.name = some (.ref f) →
      ∃ fd : FuncData, (∀ (s : Shared) (u : Value), BindsTo s fd ⟨[u], []⟩ [(x, u)]) ∧ ∀ base : Heap, (K w.params).In base → base.Ns mainGlobals mg → LawOk l.prog w (K w.params) mg base f fd [x] (sp (K w.params)))
    (want : ∀ (K : PySem.W.Frag) (H : Hp) (a : Addr) (ns : List Int), ns.length ≤ n → Only H → SqL K H a (ns.map V.int) → sp K [.ref a] H (fun v _ => v = .bl true) fun _ _ _ => False) :
    PySem.W.WalkO q loose XP YP l.row.toRowW d [] (fun f vs => PySem.call f vs) := by
  refine Att.attach_call hn plain fun w _ s1 mg mb f _ _ _ _ a us ns G Y _ _ _ named obj whole few gens => ?_
  have kin := hY w _ Y
  obtain ⟨fd, binds, told⟩ := F w mg f _ kin G.T.g named
  exact law_at kin G.T.g G.T.b G.T.builtins G.T.nolimit gens obj whole (Nat.le_trans few hs) told binds fun H only seq => want _ H a ns few only seq
end V0
/-! set(xs) of a list of whole numbers, and len of such a set -/
namespace V0
open PySem PySem.Spec PyProof.Rows L2
/-- the set that set.__new__ leaves -/
def bare (w : World) : Obj := { cls := .type "set", dict := none, data := .set #[] 0 (.fresh 0 0 (!w.params.followText "set-order")) }
section
variable {P : Program} {w : World} {A : Around} {E : Value → Shared → Prop} {s : Shared}
/-- what set.__init__ does with a list of ints -/
theorem set_filled {l : Addr} {arr : Array Value} {xs : List Int} {R : Value → Shared → Prop} (calm : A.handled = none) (lst : s.heap.IsList l arr) (num : IntsAre arr.toList xs) (few : xs.length + 1 < scanBound)
    (told : ∀ (h' : Heap) (tk c : Nat), SetR w h' s.heap.objs.size (fun j => decide (j ∈ xs)) c → c ≤ xs.length → (∀ b o, s.heap.get? b = some o → h'.get? b = some o) → R .none { s with heap := h', toks := tk }) :
    codeAny (model P w) A (.call (.builtin "set.__init__") ⟨[.ref s.heap.objs.size, .ref l], []⟩) (wants R E) { s with heap := s.heap.push (bare w) } := by
  have own : (s.heap.push (bare w)).get? s.heap.objs.size = some (bare w) := Heap.get?_push_size _ rfl
  have kind : Shared.TypeIs { s with heap := s.heap.push (bare w) } (.ref s.heap.objs.size) "set" := ⟨_, own, rfl⟩
  have many : arr.size = xs.length := by rw [← Array.length_toList, IntsAre.length num]
  refine codeAny_call_builtin F.called_set.init.plain F.entry_set_init (check_set_init_1 kind ?_)
  obtain ⟨⟨cl, od, dat, sl⟩, at_l, is_l, nn, is_d⟩ := lst
  dsimp only at is_l is_d
  subst is_l is_d
  have below := Heap.lt_size at_l
  have at_l1 : (s.heap.push (bare w)).get? l = some ⟨.type "list", od, .seq arr nn, sl⟩ := Heap.get?_push_of_some _ at_l
  have lst1 : (s.heap.push (bare w)).IsList l arr := ⟨_, at_l1, rfl, nn, rfl⟩
  have no1 := F.sub_list_set
  have no2 := F.sub_list_frozenset
  have no3 : (Value.type "list" == Value.type "dict") = false := by decide
  unfold Builtin.«set.__init__» noKeywords Builtin.Frozenset.updateFrom
  generalize walker : pyIter = PI
  wp_walk
  subst walker
  refine wpAny_pyIter_list lst1 (wpAny_bind (wpAny_runValue ?_))
  have size1 : (s.heap.push (bare w)).objs.size = s.heap.objs.size + 1 := Heap.size_push ..
  have ne1 : l ≠ (s.heap.push (bare w)).objs.size := size1 ▸ Nat.ne_of_lt (Nat.lt_succ_of_lt below)
  have calm3 : A.in1.in1.handled = none := by simp [calm]
  have out : s.heap.objs.size ∉ [(s.heap.push (bare w)).objs.size, l] := by
    intro hm
    rcases List.mem_cons.mp hm with e | hm
    · rw [size1] at e
      exact Nat.ne_of_lt (Nat.lt_succ_self _) e
    · exact Nat.ne_of_lt below (List.mem_singleton.mp hm).symm
  have each : ∀ (i : Nat) (v : Value), arr[i]? = some v → ∃ k t, xs[i]? = some k ∧ v = .int k t := by
    intro i v hv
    have hi : i < xs.length := many ▸ (Array.getElem?_eq_some_iff.mp hv).1
    obtain ⟨t, e⟩ := PyProof.Rows.IntsAre.int_at num i v ((Array.getElem?_toList ..).trans hv)
    refine ⟨xs[i], t, List.getElem?_eq_getElem hi, ?_⟩
    rw [e, List.getD_eq_getElem?_getD, List.getElem?_eq_getElem hi]
    rfl
  refine set_update_ints ((Walks.list calm3 _ l ne1 arr).toS) s.heap.objs.size out xs many few each (arr.size - 0) 0 _ (by omega) (Nat.zero_le _) ⟨⟨_, Heap.get?_push_size _ rfl, rfl, rfl⟩, lst1.push _⟩ ⟨0, Nat.le_refl 0, setR_new_at (Heap.get?_push_of_some _ own)⟩ ?_
  rintro ⟨h', g', d', tk', os'⟩ c moved bound full
  obtain rfl : g' = s.gens := moved.gens
  obtain rfl : d' = s.drawn := moved.drawn
  obtain rfl : os' = s.os := moved.os
  show wpAny _ _ _ _ _ _
  refine wpAny_pure ?_
  show wpAny _ _ (ret Value.none) _ _ _
  refine wpAny_pure (told h' tk' c full (many ▸ bound) fun b o e => ?_)
  have low := Heap.lt_size e
  refine moved.heap b o ?_ (Heap.get?_push_of_some _ (Heap.get?_push_of_some _ e))
  intro hm
  rcases List.mem_cons.mp hm with z | hm
  · exact Nat.ne_of_lt low z
  · have z := List.mem_singleton.mp hm
    rw [size1] at z
    exact Nat.ne_of_lt (Nat.lt_succ_of_lt low) z
theorem call_set_ints {l : Addr} {arr : Array Value} {xs : List Int} {Q : Value → Shared → Prop} (calm : A.handled = none) (lst : s.heap.IsList l arr) (num : IntsAre arr.toList xs) (few : xs.length + 1 < scanBound)
    (then_ : ∀ (h' : Heap) (tk c : Nat), SetR w h' s.heap.objs.size (fun j => decide (j ∈ xs)) c → c ≤ xs.length → (∀ b o, s.heap.get? b = some o → h'.get? b = some o) → Q (.ref s.heap.objs.size) { s with heap := h', toks := tk }) :
    wpAny (model P w) A (call (.type "set") [.ref l]) Q E s := by
  obtain ⟨_, _, order⟩ := F.called_set.mro
  have made := F.called_set.made
  have below := F.called_set.sub
  refine wpAny_call (codeAny_of_tree ?_)
  show wpAny _ _ (callAny (.type "set") ⟨[.ref l], []⟩) _ _ s
  refine wpAny_pure ⟨Code.quiet_builtin _ (by decide +kernel), codeAny_builtin F.entry_type_call ?_⟩
  rw [Around.under_plain (weight_type_call_type "set" [.ref l] []) rfl]
  have f1 := F.called_set.notType
  have f2 := F.called_set.canCreate
  have f3 := F.typeCall_set_1 (.ref l)
  repeat (any_goals (first | assumption | wp_step))
  refine codeAny_mono (code_set_led1 (.ref l) (E := E) (Q₁ := fun u t => u = .ref s.heap.objs.size ∧ t = { s with heap := s.heap.push (bare w) }) ⟨rfl, rfl⟩) fun r t first => ?_
  match r, first with
  | .error e, first => exact first
  | .ok .next, first => exact first.elim
  | .ok .brk, first => exact first.elim
  | .ok .cont, first => exact first.elim
  | .ok (.ret u), ⟨eu, et⟩ =>
    subst eu et
    have kind : Shared.TypeIs { s with heap := s.heap.push (bare w) } (.ref s.heap.objs.size) "set" := ⟨_, Heap.get?_push_size _ rfl, rfl⟩
    have f4 := F.called_set.init.lookup
    have f5 := F.called_set.init.bind (.ref s.heap.objs.size)
    repeat (any_goals (first | assumption | wp_step))
    refine codeAny_mono (set_filled (A := _) (E := E) (R := fun v t => v = .none ∧ ∃ h' tk c, t = { s with heap := h', toks := tk } ∧ SetR w h' s.heap.objs.size (fun j => decide (j ∈ xs)) c ∧ c ≤ xs.length ∧ (∀ b o, s.heap.get? b = some o → h'.get? b = some o)) (by simp [calm]) lst num few fun h' tk c a b k => ⟨rfl, h', tk, c, rfl, a, b, k⟩) fun r t second => ?_
    match r, second with
    | .error e, second => exact second
    | .ok .next, second => exact second.elim
    | .ok .brk, second => exact second.elim
    | .ok .cont, second => exact second.elim
    | .ok (.ret v), ⟨ev, h', tk, c, et, a, b, k⟩ =>
      subst ev et
      repeat (any_goals (first | assumption | wp_step))
      exact then_ _ _ _ a b k
end
/-- set(xs) -/
def rSetOf (K : PySem.W.Frag) (w : World) : List V → Hp → VK → Prop := fun vs H Q => ∃ (l : Addr) (xs : List Int), vs = [.ref l] ∧ SqL K H l (xs.map V.int) ∧ xs.length ≤ 4000 ∧ ∀ p c, H p = none → c ≤ xs.length → Q (.ref p) (upd H p (SetO w p (fun j => decide (j ∈ xs)) c))
theorem cr_setOf {X : Cx} (hc : X.calm = true) : CallR X (.type "set") (rSetOf X.K X.w) := by
  intro pins s σ H vs us Q I r h
  obtain ⟨l, xs, rfl, seq, few, q⟩ := h
  obtain rfl := Vals.ref1 r
  obtain ⟨its, rv, pl, _⟩ := I.list seq
  have num : IntsAre its xs := intsAre_of rv
  refine call_set_ints (I.ok.hd hc) pl.isList (by simpa using num) (by unfold scanBound; omega) fun h' tk c full bound k => ?_
  exact ⟨.ref _, _, I.laid (t' := tk) k (Nat.le_refl _) (setO_new full), rfl, q _ c (I.hok.fresh (Nat.le_refl _)) bound⟩
/-- the ascending list of what stands in xs -/
theorem asc_mem {ns : List Int} {xs : List Nat} (h1 : ns.Pairwise (· < ·)) (h2 : ∀ k : Int, k ∈ ns ↔ k ∈ xs.map (fun (x : Nat) => (x : Int))) : ∃ ys : List Nat, ns = ys.map (fun (x : Nat) => (x : Int)) ∧ ys.Pairwise (· < ·) ∧ ∀ y, y ∈ ys ↔ y ∈ xs := by
  refine ⟨ns.map Int.toNat, ?_, ?_, ?_⟩
  · rw [List.map_map]
    refine (List.map_id ns).symm.trans (List.map_congr_left fun k hk => ?_)
    obtain ⟨x, _, rfl⟩ := List.mem_map.mp ((h2 k).mp hk)
    rfl
  · rw [List.pairwise_map]
    refine h1.imp_of_mem fun {a b} ha hb hab => ?_
    obtain ⟨x, _, rfl⟩ := List.mem_map.mp ((h2 a).mp ha)
    obtain ⟨y, _, rfl⟩ := List.mem_map.mp ((h2 b).mp hb)
    show (x : Int).toNat < (y : Int).toNat
    omega
  · intro y
    rw [List.mem_map]
    constructor
    · rintro ⟨k, hk, rfl⟩
      obtain ⟨x, hx, rfl⟩ := List.mem_map.mp ((h2 k).mp hk)
      exact hx
    · intro hy
      exact ⟨(y : Int), (h2 _).mpr (List.mem_map.mpr ⟨y, hy, rfl⟩), rfl⟩
theorem asc_unique : ∀ {xs ys : List Nat}, xs.Pairwise (· < ·) → ys.Pairwise (· < ·) → (∀ y, y ∈ xs ↔ y ∈ ys) → xs = ys
  | [], [], _, _, _ => rfl
  | [], y :: ys, _, _, h => by
    have := (h y).mpr List.mem_cons_self
    cases this
  | x :: xs, [], _, _, h => by
    have := (h x).mp List.mem_cons_self
    cases this
  | x :: xs, y :: ys, h1, h2, h => by
    rw [List.pairwise_cons] at h1 h2
    have e : x = y := by
      have a := (h x).mp List.mem_cons_self
      have b := (h y).mpr List.mem_cons_self
      rcases List.mem_cons.mp a with a | a
      · exact a
      · rcases List.mem_cons.mp b with b | b
        · exact b.symm
        · have c := h1.1 y b
          have d := h2.1 x a
          omega
    subst e
    rw [asc_unique h1.2 h2.2 fun z => ?_]
    have hz := h z
    rw [List.mem_cons, List.mem_cons] at hz
    constructor
    · intro m
      rcases hz.mp (.inr m) with rfl | m2
      · exact absurd (h1.1 z m) (Nat.lt_irrefl _)
      · exact m2
    · intro m
      rcases hz.mpr (.inr m) with rfl | m2
      · exact absurd (h2.1 z m) (Nat.lt_irrefl _)
      · exact m2
abbrev toI (xs : List Nat) : List Int := xs.map (fun (b : Nat) => (b : Int))
theorem vn_int (xs : List Nat) : vn xs = (toI xs).map V.int := by
  unfold toI
  rw [List.map_map]
  rfl
/-- sorted(set(xs)) -/
theorem sorted_set_nat {K : PySem.W.Frag} {w : World} {H : Hp} {l : Addr} {xs : List Nat} {Q : VK} (h : H l = some (.lst (vn xs))) (few : xs.length < 64)
    (q : ∀ p ys H', Same H H' → H p = none → H' p = some (.lst (vn ys)) → ys.Pairwise (· < ·) → (∀ y, y ∈ ys ↔ y ∈ xs) → ys.length ≤ xs.length → Q (.ref p) H') :
    rSetOf K w [.ref l] H (fun z Hz => rSortedSet w [z] Hz Q) := by
  refine ⟨l, toI xs, rfl, SqL.of (by rw [h, vn_int]), by rw [List.length_map]; omega, fun pz c nz hc => ⟨pz, _, c, rfl, upd_same, ?_, fun ns p asc mem len np => ?_⟩⟩
  · rw [List.length_map] at hc
    omega
  · obtain ⟨ys, rfl, h1, h2⟩ := asc_mem (xs := xs) asc fun k => by rw [mem k, decide_eq_true_eq]
    rw [List.length_map] at hc len
    have s1 := same_new (o := SetO w pz (fun j => decide (j ∈ toI xs)) c) nz
    refine q p ys _ (s1.trans (same_new np)) (none_of s1 np) ?_ h1 h2 (by omega)
    rw [upd_same, vn_int]
theorem perm_asc {ns : List Int} {ks : List Nat} (h1 : ns.Perm (toI ks)) (h2 : ns.Pairwise (· ≤ ·)) (nd : ks.Nodup) : ∃ zs : List Nat, ns = toI zs ∧ zs.Pairwise (· < ·) ∧ ∀ y, y ∈ zs ↔ y ∈ ks := by
  have nd1 : (toI ks).Nodup := by
    show List.Pairwise (· ≠ ·) (List.map _ ks)
    rw [List.pairwise_map]
    have nd' : ks.Pairwise (· ≠ ·) := nd
    exact nd'.imp fun {a b} h e => h (by omega)
  have nd2 : ns.Nodup := h1.nodup_iff.mpr nd1
  have h3 : ns.Pairwise (· < ·) := by
    have h4 : ns.Pairwise (· ≠ ·) := nd2
    exact (h2.and h4).imp fun {a b} h => by omega
  exact asc_mem h3 fun k => h1.mem_iff
/-! ### marks in a dict -/
def mkD (ks : List Nat) : List (Key × V) := ks.map fun (x : Nat) => (Sum.inl (x : Int), V.bl true)
theorem mkD_val (ks : List Nat) (y : Nat) : valV (mkD ks) (Sum.inl (y : Int)) = if y ∈ ks then some (V.bl true) else none := by
  induction ks with
  | nil =>
    rw [if_neg List.not_mem_nil]
    rfl
  | cons x r ih =>
    show valV ((Sum.inl (x : Int), V.bl true) :: mkD r) _ = _
    by_cases e : x = y
    · subst e
      rw [valV_pos (p := (Sum.inl (x : Int), V.bl true)) rfl, if_pos List.mem_cons_self]
    · rw [valV_neg (p := (Sum.inl (x : Int), V.bl true)) (fun z => e (by have := Sum.inl.inj z; omega)), ih]
      by_cases h : y ∈ r
      · rw [if_pos h, if_pos (List.mem_cons_of_mem _ h)]
      · rw [if_neg h, if_neg (fun m => (List.mem_cons.mp m).elim (fun z => e z.symm) h)]
def addN (ks : List Nat) (y : Nat) : List Nat := if y ∈ ks then ks else ks ++ [y]
theorem mkD_put (ks : List Nat) (y : Nat) : putK (mkD ks) (Sum.inl (y : Int)) (V.bl true) = mkD (addN ks y) := by
  unfold addN
  have hv := mkD_val ks y
  by_cases h : y ∈ ks
  · rw [if_pos h]
    rw [if_pos h] at hv
    have ha : ((mkD ks).any fun kv => decide (kv.1 = Sum.inl (y : Int))) = true := by rw [valV_any, hv]; rfl
    unfold putK
    rw [if_pos ha]
    unfold mkD
    rw [List.map_map]
    refine List.map_congr_left fun x _ => ?_
    show (if (Sum.inl (x : Int) : Key) = Sum.inl (y : Int) then ((Sum.inl (x : Int) : Key), V.bl true) else (Sum.inl (x : Int), V.bl true)) = _
    split <;> rfl
  · rw [if_neg h] at hv ⊢
    rw [putK_new _ hv]
    unfold mkD
    rw [List.map_append]
    rfl
theorem addN_mem (ks : List Nat) (y z : Nat) : z ∈ addN ks y ↔ z ∈ ks ∨ z = y := by
  unfold addN
  split
  · rename_i h
    constructor
    · exact .inl
    · rintro (m | rfl)
      · exact m
      · exact h
  · rw [List.mem_append, List.mem_singleton]
theorem addN_nodup {ks : List Nat} (h : ks.Nodup) (y : Nat) : (addN ks y).Nodup := by
  unfold addN
  split
  · exact h
  · rename_i hy
    rw [List.nodup_append]
    refine ⟨h, by simp, fun a ha b hb e => ?_⟩
    rw [List.mem_singleton.mp hb] at e
    exact hy (e ▸ ha)
theorem sum_int : ∀ xs : List Nat, (toI xs).sum = ((xs.sum : Nat) : Int)
  | [] => rfl
  | b :: r => by
    show ((b : Int) :: toI r).sum = ((b + r.sum : Nat) : Int)
    rw [List.sum_cons, sum_int r]
    omega
end V0
/-! cuts of nets, bits of tables -/
namespace V0
open PySem PySem.Spec PyProof.Rows L2
open PySem.W (Datum)
/-! ### numbers by their bits -/
def num : List Nat → Nat
  | [] => 0
  | b :: r => b + 2 * num r
theorem num_append (xs ys : List Nat) : num (xs ++ ys) = num xs + 2 ^ xs.length * num ys := by
  induction xs with
  | nil => simp [num]
  | cons b r ih =>
    show b + 2 * num (r ++ ys) = b + 2 * num r + 2 ^ (r.length + 1) * num ys
    rw [ih, Nat.pow_succ, Nat.mul_add, Nat.mul_comm (2 ^ r.length) 2, Nat.mul_assoc, Nat.add_assoc]
theorem num_snoc (xs : List Nat) (b : Nat) : num (xs ++ [b]) = num xs + b * 2 ^ xs.length := by
  rw [num_append]
  show num xs + 2 ^ xs.length * (b + 2 * 0) = _
  rw [Nat.mul_zero, Nat.add_zero, Nat.mul_comm]
theorem num_lt {xs : List Nat} (h : ∀ b ∈ xs, b < 2) : num xs < 2 ^ xs.length := by
  induction xs with
  | nil => decide
  | cons b r ih =>
    have h1 := h b List.mem_cons_self
    have h2 := ih fun c hc => h c (List.mem_cons_of_mem _ hc)
    show b + 2 * num r < 2 ^ (r.length + 1)
    rw [Nat.pow_succ]
    omega
theorem num_testBit {xs : List Nat} (h : ∀ b ∈ xs, b < 2) (i : Nat) : (num xs).testBit i = decide (xs[i]? = some 1) := by
  induction xs generalizing i with
  | nil => simp [num]
  | cons b r ih =>
    have h1 := h b List.mem_cons_self
    have hb : b = 0 ∨ b = 1 := by omega
    have h2 := fun j => ih (fun c hc => h c (List.mem_cons_of_mem _ hc)) j
    cases i with
    | zero =>
      show (b + 2 * num r).testBit 0 = decide (some b = some 1)
      rw [Nat.testBit_zero]
      rcases hb with rfl | rfl
      · have : (0 + 2 * num r) % 2 = 0 := by omega
        rw [this]
        rfl
      · have : (1 + 2 * num r) % 2 = 1 := by omega
        rw [this]
        rfl
    | succ j =>
      show (b + 2 * num r).testBit (j + 1) = decide (r[j]? = some 1)
      rw [Nat.testBit_succ, ← h2 j]
      congr 1
      omega
/-- the columns of bits f 0, f 1, .. -/
def colN (m : Nat) (f : Nat → Nat) : Nat := num ((List.range m).map f)
theorem col_succ (m : Nat) (f : Nat → Nat) : colN (m + 1) f = colN m f + f m * 2 ^ m := by
  unfold colN
  rw [map_range_succ, num_snoc, List.length_map, List.length_range]
theorem col_lt (m : Nat) (f : Nat → Nat) (h : ∀ i, i < m → f i < 2) : colN m f < 2 ^ m := by
  have := num_lt (xs := (List.range m).map f) fun b hb => by
    obtain ⟨i, hi, rfl⟩ := List.mem_map.mp hb
    exact h i (List.mem_range.mp hi)
  rw [List.length_map, List.length_range] at this
  exact this
theorem col_testBit {m : Nat} {f : Nat → Nat} (h : ∀ i, i < m → f i < 2) (i : Nat) : (colN m f).testBit i = (decide (i < m) && decide (f i = 1)) := by
  unfold colN
  rw [num_testBit]
  · by_cases hi : i < m
    · rw [List.getElem?_map, List.getElem?_range hi, decide_eq_true hi, Bool.true_and]
      show decide (some (f i) = some 1) = _
      exact decide_eq_decide.mpr ⟨fun e => Option.some.inj e, fun e => by rw [e]⟩
    · rw [List.getElem?_eq_none (by rw [List.length_map, List.length_range]; omega), decide_eq_false hi]
      rfl
  · intro b hb
    obtain ⟨i, hi, rfl⟩ := List.mem_map.mp hb
    exact h i (List.mem_range.mp hi)
theorem col_and {m : Nat} {f g : Nat → Nat} (hf : ∀ i, i < m → f i < 2) (hg : ∀ i, i < m → g i < 2) : colN m f &&& colN m g = colN m (fun i => f i * g i) := by
  apply Nat.eq_of_testBit_eq
  intro i
  rw [Nat.testBit_and, col_testBit hf, col_testBit hg, col_testBit (fun i hi => mul_lt2 (hf i hi) (hg i hi))]
  by_cases hi : i < m
  · rw [decide_eq_true hi, Bool.true_and, Bool.true_and, Bool.true_and]
    have h1 := hf i hi
    have h2 := hg i hi
    have e1 : f i = 0 ∨ f i = 1 := by omega
    have e2 : g i = 0 ∨ g i = 1 := by omega
    rcases e1 with e1 | e1 <;> rcases e2 with e2 | e2 <;> rw [e1, e2] <;> decide
  · rw [decide_eq_false hi]
    rfl
theorem col_xor {m : Nat} {f : Nat → Nat} (hf : ∀ i, i < m → f i < 2) (l : Nat) : colN m f ^^^ (if l % 2 = 1 then 2 ^ m - 1 else 0) = colN m (fun i => f i ^^^ (l % 2)) := by
  have hx : ∀ i, i < m → f i ^^^ (l % 2) < 2 := fun i hi => Nat.xor_lt_two_pow (n := 1) (hf i hi) (Nat.mod_lt _ (by decide))
  apply Nat.eq_of_testBit_eq
  intro i
  rw [Nat.testBit_xor, col_testBit hf, col_testBit hx]
  rcases Nat.mod_two_eq_zero_or_one l with e | e
  · rw [if_neg (by omega), e, Nat.zero_testBit, Bool.xor_false]
    simp
  · rw [if_pos e, e, Nat.testBit_two_pow_sub_one]
    by_cases hi : i < m
    · rw [decide_eq_true hi, Bool.true_and, Bool.true_and]
      have h1 := hf i hi
      have e1 : f i = 0 ∨ f i = 1 := by omega
      rcases e1 with e1 | e1 <;> rw [e1] <;> decide
    · rw [decide_eq_false hi]
      rfl
/-- the sum of the powers whose bit is set -/
theorem sum_pows (m : Nat) (f : Nat → Nat) (h : ∀ i, i < m → f i < 2) : (((List.range m).filter fun i => decide (f i = 1)).map fun i => 2 ^ i).sum = colN m f := by
  induction m with
  | zero => rfl
  | succ m ih =>
    rw [List.range_succ, List.filter_append, List.map_append, List.sum_append, ih fun i hi => h i (by omega), col_succ]
    have h1 := h m (by omega)
    have e1 : f m = 0 ∨ f m = 1 := by omega
    rcases e1 with e1 | e1
    · simp [e1]
    · simp [e1]
/-! ### cuts -/
inductive Sep (n : Net) (cut : List Nat) : Nat → Prop
  | hit {x : Nat} : x ∈ cut → Sep n cut x
  | gate {x : Nat} {g : Nat × Nat} : n.base ≤ x → n.gates[x - n.base]? = some g → Sep n cut (g.1 / 2) → Sep n cut (g.2 / 2) → Sep n cut x
def kids (n : Net) (x : Nat) : List Nat := if x < n.base then [] else match n.gates[x - n.base]? with
  | some g => [g.1 / 2, g.2 / 2]
  | none => []
theorem Sep.expand {n : Net} {cut other : List Nat} {node : Nat} (hn : kids n node ≠ []) (hk : ∀ y ∈ kids n node, y ∈ other) (ho : ∀ y ∈ cut, y ≠ node → y ∈ other) {x : Nat} (h : Sep n cut x) : Sep n other x := by
  induction h with
  | @hit x hx =>
    by_cases e : x = node
    · subst e
      unfold kids at hn hk
      by_cases hb : x < n.base
      · rw [if_pos hb] at hn
        exact absurd rfl hn
      · rw [if_neg hb] at hn hk
        cases eg : n.gates[x - n.base]? with
        | none =>
          rw [eg] at hn
          exact absurd rfl hn
        | some g =>
          rw [eg] at hk
          exact .gate (by omega) eg (.hit (hk _ (by simp))) (.hit (hk _ (by simp)))
    · exact .hit (ho x hx e)
  | gate hb hg _ _ i1 i2 => exact .gate hb hg i1 i2
theorem Sep.mono {n : Net} {cut other : List Nat} (ho : ∀ y ∈ cut, y ∈ other) {x : Nat} (h : Sep n cut x) : Sep n other x := by
  induction h with
  | hit hx => exact .hit (ho _ hx)
  | gate hb hg _ _ i1 i2 => exact .gate hb hg i1 i2
theorem Sep.some {n : Net} {cut : List Nat} {x : Nat} (h : Sep n cut x) : cut ≠ [] := by
  induction h with
  | hit hx => exact List.ne_nil_of_mem hx
  | gate _ _ _ _ i1 _ => exact i1
/-- a net as the law draws it -/
structure TOk (n : Net) : Prop where
  i1 : 1 ≤ n.ins
  i4 : n.ins ≤ 4
  fl : n.starts.length ≤ 2
  gl : n.gates.length ≤ 9
  g : ∀ j g, n.gates[j]? = some g → (2 ≤ g.1 ∧ g.1 < 2 * (n.base + j)) ∧ (2 ≤ g.2 ∧ g.2 < 2 * (n.base + j)) ∧ g.1 / 2 ≠ g.2 / 2
theorem TOk.kid {n : Net} (t : TOk n) {x y : Nat} (h : y ∈ kids n x) : 1 ≤ y ∧ y < x ∧ n.base ≤ x := by
  unfold kids at h
  by_cases hb : x < n.base
  · rw [if_pos hb] at h
    cases h
  · rw [if_neg hb] at h
    cases eg : n.gates[x - n.base]? with
    | none =>
      rw [eg] at h
      cases h
    | some g =>
      rw [eg] at h
      have := t.g _ _ eg
      simp only [List.mem_cons, List.not_mem_nil, or_false] at h
      rcases h with rfl | rfl <;> omega
structure IsCut (n : Net) (gate : Nat) (cut : List Nat) (k : Nat) : Prop where
  len : cut.length ≤ k
  asc : cut.Pairwise (· < ·)
  bnd : ∀ x ∈ cut, 0 < x ∧ x < gate
  sep : ∀ y ∈ kids n gate, Sep n cut y
theorem kids_gate {n : Net} {x : Nat} (h1 : n.base ≤ x) (h2 : x < n.many) : ∃ g, n.gates[x - n.base]? = some g ∧ kids n x = [g.1 / 2, g.2 / 2] := by
  have hj : x - n.base < n.gates.length := by
    unfold Net.many at h2
    omega
  refine ⟨_, List.getElem?_eq_getElem hj, ?_⟩
  unfold kids
  rw [if_neg (by omega), List.getElem?_eq_getElem hj]
theorem IsCut.some {n : Net} {gate k : Nat} {cut : List Nat} (c : IsCut n gate cut k) (h1 : n.base ≤ gate) (h2 : gate < n.many) : cut ≠ [] := by
  obtain ⟨g, _, e⟩ := kids_gate h1 h2
  exact (c.sep (g.1 / 2) (by rw [e]; simp)).some
theorem Sep.gate_of {n : Net} {cut : List Nat} {x : Nat} (h : Sep n cut x) (hx : x ∉ cut) : n.base ≤ x ∧ x < n.many ∧ ∀ y ∈ kids n x, Sep n cut y := by
  cases h with
  | hit h => exact absurd h hx
  | @gate _ g hb hg h1 h2 =>
    have hj := (List.getElem?_eq_some_iff.mp hg).1
    refine ⟨hb, by unfold Net.many; omega, fun y hy => ?_⟩
    unfold kids at hy
    rw [if_neg (by omega), hg] at hy
    simp only [List.mem_cons, List.not_mem_nil, or_false] at hy
    rcases hy with rfl | rfl
    · exact h1
    · exact h2
theorem kids_len (n : Net) (x : Nat) : (kids n x).length ≤ 2 := by
  unfold kids
  split
  · decide
  · split <;> simp
theorem nodup_bound : ∀ {m : Nat} {xs : List Nat}, xs.Nodup → (∀ x ∈ xs, x < m) → xs.length ≤ m
  | 0, xs, _, b => by
    cases xs with
    | nil => exact Nat.le_refl _
    | cons x r => exact absurd (b x List.mem_cons_self) (Nat.not_lt_zero _)
  | m + 1, xs, h, b => by
    have ih := nodup_bound (m := m) (xs := xs.erase m) (h.erase m) fun x hx => by
      have h1 := (h.mem_erase_iff).mp hx
      have h2 := b x h1.2
      have h3 := h1.1
      omega
    rw [List.length_erase] at ih
    split at ih <;> omega
theorem many16 {n : Net} (ok : TOk n) : n.many ≤ 16 := by
  have := ok.i4
  have := ok.fl
  have := ok.gl
  unfold Net.many Net.base
  omega
/-! ### bits of gates -/
def gbit (n : Net) (kn : Nat → Option Nat) (x : Nat) : Nat := match kn x with
  | some b => b
  | none => match n.gates[x - n.base]? with
    | none => 0
    | some g => if h : g.1 / 2 < x ∧ g.2 / 2 < x then (gbit n kn (g.1 / 2) ^^^ (g.1 % 2)) * (gbit n kn (g.2 / 2) ^^^ (g.2 % 2)) else 0
termination_by x
decreasing_by
  · exact h.1
  · exact h.2
theorem gbit_hit {n : Net} {kn : Nat → Option Nat} {x b : Nat} (h : kn x = some b) : gbit n kn x = b := by
  rw [gbit, h]
theorem gbit_gate {n : Net} {kn : Nat → Option Nat} {x : Nat} {g : Nat × Nat} (h : kn x = none) (hg : n.gates[x - n.base]? = some g) (h1 : g.1 / 2 < x) (h2 : g.2 / 2 < x) :
    gbit n kn x = (gbit n kn (g.1 / 2) ^^^ (g.1 % 2)) * (gbit n kn (g.2 / 2) ^^^ (g.2 % 2)) := by
  rw [gbit, h]
  simp only [hg]
  rw [dif_pos ⟨h1, h2⟩]
theorem gbit_lt {n : Net} {kn : Nat → Option Nat} (hk : ∀ x b, kn x = some b → b < 2) (x : Nat) : gbit n kn x < 2 := by
  induction x using Nat.strongRecOn with
  | ind x ih =>
    rw [gbit]
    cases e : kn x with
    | some b => exact hk x b e
    | none =>
      simp only
      cases eg : n.gates[x - n.base]? with
      | none =>
        show 0 < 2
        decide
      | some g =>
        simp only
        split
        · rename_i h
          exact mul_lt2 (Nat.xor_lt_two_pow (n := 1) (ih _ h.1) (Nat.mod_lt _ (by decide))) (Nat.xor_lt_two_pow (n := 1) (ih _ h.2) (Nat.mod_lt _ (by decide)))
        · decide
/-- what is known of the m-th choice of values of a cut -/
def kn (cut : List Nat) (m x : Nat) : Option Nat := if x ∈ cut then some (m / 2 ^ (cut.idxOf x) % 2) else none
theorem kn_lt (cut : List Nat) (m : Nat) : ∀ x b, kn cut m x = some b → b < 2 := by
  intro x b h
  unfold kn at h
  split at h
  · cases h
    exact Nat.mod_lt _ (by decide)
  · cases h
def colOf (n : Net) (cut : List Nat) (x : Nat) : Nat := colN (2 ^ cut.length) fun m => gbit n (kn cut m) x
theorem colOf_hit {n : Net} {cut : List Nat} {x : Nat} (h : x ∈ cut) : colOf n cut x = colN (2 ^ cut.length) fun m => m / 2 ^ (cut.idxOf x) % 2 := by
  unfold colOf
  congr 1
  funext m
  exact gbit_hit (if_pos h)
theorem colOf_gate {n : Net} {cut : List Nat} {x : Nat} {g : Nat × Nat} (h : x ∉ cut) (hg : n.gates[x - n.base]? = some g) (h1 : g.1 / 2 < x) (h2 : g.2 / 2 < x) :
    colOf n cut x = (colOf n cut (g.1 / 2) ^^^ (if g.1 % 2 = 1 then 2 ^ 2 ^ cut.length - 1 else 0)) &&& (colOf n cut (g.2 / 2) ^^^ (if g.2 % 2 = 1 then 2 ^ 2 ^ cut.length - 1 else 0)) := by
  have hx : ∀ (y l : Nat), ∀ i, i < 2 ^ cut.length → gbit n (kn cut i) y ^^^ (l % 2) < 2 := fun y l i _ => Nat.xor_lt_two_pow (n := 1) (gbit_lt (kn_lt cut i) y) (Nat.mod_lt _ (by decide))
  unfold colOf
  rw [col_xor fun i _ => gbit_lt (kn_lt cut i) _, col_xor fun i _ => gbit_lt (kn_lt cut i) _, col_and (hx _ _) (hx _ _)]
  congr 1
  funext m
  exact gbit_gate (if_neg h) hg h1 h2
/-! ### what stands above a cut -/
structure MK (n : Net) (gate : Nat) (cut ks : List Nat) : Prop where
  nd : ks.Nodup
  g : gate ∈ ks
  b : ∀ x ∈ ks, n.base ≤ x ∧ x ≤ gate ∧ x ∉ cut ∧ ∀ y ∈ kids n x, Sep n cut y
structure Above (n : Net) (gate : Nat) (cut ab : List Nat) : Prop where
  asc : ab.Pairwise (· < ·)
  g : gate ∈ ab
  b : ∀ x ∈ ab, n.base ≤ x ∧ x ≤ gate ∧ x ∉ cut
  k : ∀ x ∈ ab, ∀ y ∈ kids n x, y ∈ cut ∨ y ∈ ab
theorem band (a b : Nat) : Builtin.bitAnd (a : Int) (b : Int) = ((a &&& b : Nat) : Int) := by
  rw [bitAnd_pp (Int.natCast_nonneg _) (Int.natCast_nonneg _), Int.toNat_natCast, Int.toNat_natCast]
theorem band_one (a : Nat) : Builtin.bitAnd (a : Int) 1 = ((a % 2 : Nat) : Int) := by
  have h := PySem.W.kbt_mask ((a : Nat) : Int) 1
  rw [show (2 : Int) ^ 1 - 1 = 1 by decide, show (2 : Int) ^ 1 = 2 by decide] at h
  rw [h]
  rfl
theorem shl_nat (a k : Nat) : (a : Int) * 2 ^ ((k : Int)).toNat = ((a * 2 ^ k : Nat) : Int) := by
  rw [Int.toNat_natCast, Int.natCast_mul, Int.natCast_pow]
  rfl
theorem shl_one (k : Nat) : (1 : Int) * 2 ^ ((k : Int)).toNat = ((2 ^ k : Nat) : Int) := by
  rw [Int.one_mul, Int.toNat_natCast, Int.natCast_pow]
  rfl
theorem shr_nat (a k : Nat) : (a : Int) / 2 ^ ((k : Int)).toNat = ((a / 2 ^ k : Nat) : Int) := by
  rw [Int.toNat_natCast, Int.natCast_ediv, Int.natCast_pow]
  rfl
theorem shr_one (a : Nat) : (a : Int) / 2 ^ ((1 : Int)).toNat = ((a / 2 : Nat) : Int) := rfl
end V0
/-! xs[i] op= e; more operators in place; comprehensions of two clauses by an invariant -/
namespace V0
open PySem PySem.Spec PyProof.Rows L2
theorem pg_ixL {X : Cx} : PGet X (rIxL X.K) := by
  intro pins s σ H x y v u Q I rx ry h
  obtain ⟨p, xs, i, z, rfl, rfl, hq, he, q⟩ := h
  cases rx
  obtain ⟨t, rfl⟩ := ry
  obtain ⟨its, r, pl, hz⟩ := I.list hq
  obtain ⟨j, h1, h2, h3, h4, h5⟩ := atI_get he
  obtain ⟨w, ew, rw'⟩ := r.get h2
  have hl := r.length
  have hn := line63
  have fin : EP X pins σ Q w s := ⟨z, H, I, rw', q⟩
  by_cases h0 : 0 ≤ i
  · have hj : i.toNat = j := by
      rw [seqIndex_of h0 h5] at h1
      exact Option.some.inj h1
    exact wpAny_getItem_list pl.isList h0 (by omega) (by rw [hj]; simpa using ew) fin
  · have hj : (i + (its.toArray.size : Int)).toNat = j := by
      rw [seqIndex_neg (by omega) h4] at h1
      rw [List.size_toArray, ← hl]
      exact Option.some.inj h1
    exact wpAny_getItem_list_neg pl.isList (by omega) (by rw [List.size_toArray] <;> omega) (by omega) (by rw [hj]; simpa using ew) fin
theorem ip_or {X : Cx} : PIp X .BitOr (ipI fun i j => Builtin.bitOr i j) := by
  intro pins s σ H x y v u Q I r1 r2 h
  obtain ⟨i, j, e1, e2, q⟩ := h
  subst e1; subst e2
  obtain ⟨t, rfl⟩ := r1
  obtain ⟨t', rfl⟩ := r2
  exact ior_int ⟨.int _, H, I.tok _, ⟨_, rfl⟩, q⟩
/-- a star in a display, K told -/
theorem pa_starK {X : Cx} {K : PySem.W.Frag} {e : Expr} {es : List Expr} {te : TE} {t : TA} {p : Pos} (hK : X.K = K) (he : PE X e te) (hr : PA X es t) (hs : starEach (.Starred e p :: es) X.env = (true, eval e X.env) :: starEach es X.env := by rfl) : PA X (.Starred e p :: es) (StX.tStar K te t) := by
  subst hK
  exact StX.pa_star he hr hs
/-- a if t else b: what both ways give -/
theorem ifx {b : Bool} {A B : VK → Prop} {Q : VK} (R : V → Hp → Prop) (hA : b = true → ∀ Q : VK, (∀ y H', R y H' → Q y H') → A Q) (hB : b = false → ∀ Q : VK, (∀ y H', R y H' → Q y H') → B Q) (fin : ∀ y H', R y H' → Q y H') : if b = true then A Q else B Q := by
  cases b with
  | true => exact iteT (hA rfl Q fin)
  | false => exact iteF (hB rfl Q fin)
/-- a walked thing's number of turns, and what each turn gives -/
structure Wk (J : It) (n : Nat) (Y : Nat → Hp → V → Hp → Prop) (S : Nat → Hp → Prop) : Prop where
  stop : ∀ H, S n H → J.stop n H
  go : ∀ i H, i < n → S i H → J.go i H
  yld : ∀ i H x H', i < n → S i H → J.yld i H x H' → Y i H x H'
theorem wk_range {lo : Int} {n : Nat} : Wk (Itr lo n) n (fun i H x H' => x = .int (lo + i) ∧ H' = H) (fun _ _ => True) := by
  refine ⟨fun H _ => Nat.le_refl _, fun i H h _ => h, fun i H x H' _ _ y => ?_⟩
  obtain ⟨e, y⟩ := y
  exact ⟨y, e⟩
theorem wk_list {K : PySem.W.Frag} {a : Addr} {xs : List V} : Wk (Itl K a) xs.length (fun i H x H' => xs[i]? = some x ∧ H' = H) (fun _ H => SqL K H a xs) := by
  refine ⟨fun H h => ⟨xs, h, Nat.le_refl _⟩, fun i H h s => ⟨xs, xs[i], s, by simp [h]⟩, fun i H x H' _ s y => ?_⟩
  obtain ⟨e, y⟩ := y
  subst e
  exact ⟨y xs s, rfl⟩
theorem wk_tup {K : PySem.W.Frag} {a : Addr} {xs : List V} : Wk (Itt K a) xs.length (fun i H x H' => xs[i]? = some x ∧ H' = H) (fun _ H => SqT K H a xs) := by
  refine ⟨fun H h => ⟨xs, h, Nat.le_refl _⟩, fun i H h s => ⟨xs, xs[i], s, by simp [h]⟩, fun i H x H' _ s y => ?_⟩
  obtain ⟨e, y⟩ := y
  subst e
  exact ⟨y xs s, rfl⟩
/-- the outer clause of a comprehension of two, and its inner one -/
theorem lc2_out {J : It} {n : Nat} {Y : Nat → Hp → V → Hp → Prop} {S : Nat → Hp → Prop} {g : TG} {tt : TT} {inner : L2.St → Hp → (Hp → Prop) → Prop} {vs : List Nat} {σ : L2.St} {H1 : Hp} {Qd : Hp → Prop} (w : Wk J n Y S) (Pv : Nat → Hp → Prop) (h0 : Pv 0 H1) (hl : ∀ i H, i ≤ n → Pv i H → S i H)
    (hs : ∀ i H x H', i < n → Pv i H → Y i H x H' → g x (wipe σ vs) H' fun σ2 H2 => wipe σ2 vs = wipe σ vs ∧ tt σ2 H2 fun b H3 => if b = true then inner σ2 H3 (Pv (i + 1)) else Pv (i + 1) H3) (hd : ∀ H, Pv n H → Qd H) :
    ∃ W : Nat → Nat → Hp → Prop, (∃ m, W 0 m H1) ∧ ∀ i m H, W i m H →
      (J.stop i H ∧ Qd H) ∨ (J.go i H ∧ ∃ Nx : Hp → Prop, (∀ H', Nx H' → ∃ m', m' < m ∧ W (i + 1) m' H') ∧ ∀ x H', J.yld i H x H' → g x (wipe σ vs) H' fun σ2 H2 => wipe σ2 vs = wipe σ vs ∧ tt σ2 H2 fun b H3 =>
        if b = true then inner σ2 H3 Nx else Nx H3) := by
  refine ⟨fun i m H => m = n - i ∧ i ≤ n ∧ Pv i H, ⟨n, by simp, Nat.zero_le _, h0⟩, ?_⟩
  rintro i m H ⟨rfl, hi, p⟩
  by_cases hlt : i < n
  · refine .inr ⟨w.go i H hlt (hl i H hi p), Pv (i + 1), fun H' p' => ⟨n - (i + 1), by omega, rfl, hlt, p'⟩, fun x H' y => ?_⟩
    exact hs i H x H' hlt p (w.yld i H x H' hlt (hl i H hi p) y)
  · have e : i = n := by omega
    subst e
    exact .inl ⟨w.stop H (hl i H hi p), hd H p⟩
end V0
/-! a dict comprehension set to a name -/
namespace V0
open PySem PySem.Spec PyProof.Rows L2
theorem ps_setDc {X : Cx} {i : Nat} {y : Str} {py : Pos} {kx vx tg iter : Expr} {ifs : List Expr} {scope : Scope} {own : List (Str × Nat)} {pos spos : Pos} {wi : TI} {g : TG} {tt : TT} {tk tv : TE} (hc : X.calm = true) (hN : X.N.Nodup) (hy : X.N[i]? = some y) (hyl : X.env.scope.names.lookup y = some .local)
    (hsw : swapsWith (.DictComp kx vx [⟨tg, iter, ifs, 0⟩] scope pos) (some (.Name y py)) spos.line X.env = pure true) (hi : PI X tg iter wi) (ok : BlkOk X.N X.env.scope scope own)
    (hg : ∀ (s : Shared) (H : Hp) (C : Addr) (cl : List (Str × Addr)) (fp : List Addr), PG (X.blk s H scope (compEnvC scope cl C X.env) fp) tg g) (ht : ∀ (s : Shared) (H : Hp) (C : Addr) (cl : List (Str × Addr)) (fp : List Addr), PTs (X.blk s H scope (compEnvC scope cl C X.env) fp) ifs tt)
    (hk : ∀ (s : Shared) (H : Hp) (C : Addr) (cl : List (Str × Addr)) (fp : List Addr), PE (X.blk s H scope (compEnvC scope cl C X.env) fp) kx tk)
    (he : ∀ (s : Shared) (H : Hp) (C : Addr) (cl : List (Str × Addr)) (fp : List Addr), PE (X.blk s H scope (compEnvC scope cl C X.env) fp) vx tv) (hs : ∀ x, foldedSetIterable iter X.env x = pure x := by intro _; rfl) :
    PS X (.Assign [.Name y py] (.DictComp kx vx [⟨tg, iter, ifs, 0⟩] scope pos) spos) (tAsg (tDc wi g tt tk tv (own.map (·.2))) (gName i)) := by
  refine ⟨fun pins s σ H D I h => ?_⟩
  rw [exec_Assign_Name_used _ _ _ _ hsw]
  refine wpAny_bind (wpAny_standAt (wpAny_bind ?_))
  show wpAny _ X.A (do let _ ← comprehension (.DictComp kx vx [⟨tg, iter, ifs, 0⟩] scope pos) scope X.env (firstIterPos [⟨tg, iter, ifs, 0⟩] pos) newDict false (eval iter X.env) (some (assign (.Name y py) X.env))) _ _ s
  have h : tDc wi g tt tk tv (own.map (·.2)) σ H (fun x H1 => gName i x σ H1 D.nx) := h
  refine wpAny_bind (thn (dc_core (Qf := fun _ s' => SP X pins D .next s') hc hN I hi ok hg ht hk he hs h fun L C s' m H' I' q hn f => ?_) fun _ s' hq => wpAny_pure (wpAny_pure hq))
  show wpAny _ _ (assign (.Name y py) X.env (.ref L)) _ _ _
  refine wpAny_assign_Name (store_ok2 (v := V.ref L) I' hN hy (.inl hyl) rfl (fun s2 I2 ⟨a, sb, ha⟩ => ?_) (.inr hyl))
  obtain ⟨f0, f1, f2, f3, f4, f5⟩ := f
  have haC : C ≠ a := by
    rcases ha with z | z
    · rw [z]; exact f1
    · exact fun e => f4 y a z e.symm
  refine ⟨m, hn.sameBut sb haC, fun h3 sb3 => ?_⟩
  exact ⟨_, H', I2.turned (t' := s2.toks) (fun b o hb e => (sb3.2 b hb).trans e) f0 f1 f3 f4 f5, q⟩
theorem swd_true {kx vx : Expr} {gs : List Comprehension} {scope : Scope} {pos py : Pos} {y : Str} {l : Nat} {env : Env} (hk : env.scope.kind = .function) (hy : env.scope.names.lookup y = some .local) (hl : (py.line == pos.line) = true)
    (ha : (scope.names.any fun (n, k) => n == y && (k == .local || k == .cell)) = false) : swapsWith (.DictComp kx vx gs scope pos) (some (.Name y py)) l env = pure true := by
  have ky : env.kindOf y = some .local := hy
  have hb : env.blockKind = .function := by unfold Env.blockKind; rw [hk]; rfl
  unfold swapsWith
  simp only [hb, ky, ha, Expr.pos, hl]
  rfl
end V0
/-! comprehensions over whole numbers whose parts change nothing that stands -/
namespace V0
open PySem PySem.Spec PyProof.Rows L2
theorem lcN {J : It} {G : Hp → Prop} {Y : Nat → Hp → V → Hp → Prop} {xs : List Nat} (w : Walk J xs.length G Y) {sl : Nat} {tt : TT} {te : TE} {σ : L2.St} {H1 : Hp} {D : Addr} {Qd : Hp → Prop} (p : Nat → Bool) (f : Nat → Nat)
    (nD : H1 D = none) (few : xs.length ≤ 60000) (hw : ∀ v, wipe ((wipe σ [sl]).set sl v) [sl] = wipe σ [sl]) (hG : ∀ Hz, Same H1 Hz → G Hz) (hY : ∀ i Hz x H', Y i Hz x H' → H' = Hz ∧ ∃ k, xs[i]? = some k ∧ x = .int (k : Nat))
    (ht : ∀ x ∈ xs, ∀ (Hz : Hp) (Q : Bool → Hp → Prop), Same H1 Hz → (∀ H', Same Hz H' → Q (p x) H') → tt ((wipe σ [sl]).set sl (some (.int (x : Nat)))) Hz Q)
    (hs : ∀ x ∈ xs, p x = true → ∀ (Hz : Hp) (Q : VK), Same H1 Hz → (∀ H', Same Hz H' → Q (.int (f x : Nat)) H') → te ((wipe σ [sl]).set sl (some (.int (x : Nat)))) Hz Q)
    (hd : ∀ H', Same H1 H' → H' D = some (.lst (vn ((xs.filter p).map f))) → Qd H') :
    ∃ W : Nat → Nat → Hp → Prop, (∃ m, W 0 m (upd H1 D (.lst []))) ∧ ∀ i m H, W i m H →
      (J.stop i H ∧ Qd H) ∨ (J.go i H ∧ ∃ Nx : Hp → Prop, (∀ H', Nx H' → ∃ m', m' < m ∧ W (i + 1) m' H') ∧ ∀ x H', J.yld i H x H' → gName sl x (wipe σ [sl]) H' fun σ2 H2 => wipe σ2 [sl] = wipe σ [sl] ∧ tt σ2 H2 fun b H3 =>
        if b = true then te σ2 H3 fun y H4 => ∃ acc, H4 D = some (.lst acc) ∧ acc.length < sizeLine ∧ Nx (upd H4 D (.lst (acc ++ [y]))) else Nx H3) := by
  refine lc_it w (fun i Hz => Same H1 Hz ∧ Hz D = some (.lst (vn (((xs.take i).filter p).map f)))) ⟨same_new nD, upd_same⟩ (fun i Hz _ h => hG _ h.1) ?_ ?_
  · rintro i x Hz H' hi ⟨sz, hZ⟩ y
    obtain ⟨rfl, k, hk, rfl⟩ := hY _ _ _ _ y
    have mem := List.mem_of_getElem? hk
    refine ⟨hw _, ht k mem _ _ sz fun H2 s2 => ?_⟩
    have e : ((xs.take (i + 1)).filter p).map f = ((xs.take i).filter p).map f ++ (if p k = true then [f k] else []) := by
      rw [take_snoc hk, List.filter_append, List.map_append, List.filter_cons]
      split <;> rfl
    by_cases c : p k = true
    · rw [if_pos c]
      refine hs k mem c _ _ (sz.trans s2) fun H3 s3 => ⟨_, s3 _ _ (s2 _ _ hZ), ?_, same_mut (sz.trans (s2.trans s3)) nD, ?_⟩
      · rw [vn_len, List.length_map]
        have h1 := List.length_filter_le p (xs.take i)
        rw [List.length_take] at h1
        exact small64k (by omega)
      · rw [upd_same, e, if_pos c, vn_snoc]
    · rw [if_neg c]
      refine ⟨sz.trans s2, ?_⟩
      rw [e, if_neg c, List.append_nil]
      exact s2 _ _ hZ
  · rintro Hz ⟨sz, hZ⟩
    rw [List.take_length] at hZ
    exact hd Hz sz hZ
section
variable {K : PySem.W.Frag} {a : Addr} {xs : List Nat} {sl : Nat} {tt : TT} {te : TE} {σ : L2.St} {H1 : Hp} {D : Addr} {Qd : Hp → Prop}
theorem yat_nat {i : Nat} {Hz H' : Hp} {x : V} (h : YAt (vn xs) i Hz x H') : H' = Hz ∧ ∃ k, xs[i]? = some k ∧ x = .int (k : Nat) := by
  refine ⟨h.1, ?_⟩
  have h := h.2
  unfold vn at h
  rw [List.getElem?_map] at h
  obtain ⟨k, e1, e2⟩ := Option.map_eq_some_iff.mp h
  exact ⟨k, e1, e2.symm⟩
/-- [f(x) for x in xs if p(x)] -/
theorem lcLf (p : Nat → Bool) (f : Nat → Nat) (nD : H1 D = none) (hx : H1 a = some (.lst (vn xs))) (few : xs.length ≤ 60000) (hw : ∀ v, wipe ((wipe σ [sl]).set sl v) [sl] = wipe σ [sl])
    (ht : ∀ x ∈ xs, ∀ (Hz : Hp) (Q : Bool → Hp → Prop), Same H1 Hz → (∀ H', Same Hz H' → Q (p x) H') → tt ((wipe σ [sl]).set sl (some (.int (x : Nat)))) Hz Q)
    (hs : ∀ x ∈ xs, p x = true → ∀ (Hz : Hp) (Q : VK), Same H1 Hz → (∀ H', Same Hz H' → Q (.int (f x : Nat)) H') → te ((wipe σ [sl]).set sl (some (.int (x : Nat)))) Hz Q)
    (hd : ∀ H', Same H1 H' → H' D = some (.lst (vn ((xs.filter p).map f))) → Qd H') :
    ∃ W : Nat → Nat → Hp → Prop, (∃ m, W 0 m (upd H1 D (.lst []))) ∧ ∀ i m H, W i m H →
      ((Itl K a).stop i H ∧ Qd H) ∨ ((Itl K a).go i H ∧ ∃ Nx : Hp → Prop, (∀ H', Nx H' → ∃ m', m' < m ∧ W (i + 1) m' H') ∧ ∀ x H', (Itl K a).yld i H x H' → gName sl x (wipe σ [sl]) H' fun σ2 H2 => wipe σ2 [sl] = wipe σ [sl] ∧ tt σ2 H2 fun b H3 =>
        if b = true then te σ2 H3 fun y H4 => ∃ acc, H4 D = some (.lst acc) ∧ acc.length < sizeLine ∧ Nx (upd H4 D (.lst (acc ++ [y]))) else Nx H3) := by
  have w := walk_list (K := K) (a := a) (xs := vn xs)
  rw [vn_len] at w
  exact lcN w p f nD few hw (fun Hz s => SqL.of (s _ _ hx)) (fun i Hz x H' y => yat_nat y) ht hs hd
/-- [f(x) for x in xs] -/
theorem lcL (f : Nat → Nat) (nD : H1 D = none) (hx : H1 a = some (.lst (vn xs))) (few : xs.length ≤ 60000) (hw : ∀ v, wipe ((wipe σ [sl]).set sl v) [sl] = wipe σ [sl])
    (hs : ∀ x ∈ xs, ∀ (Hz : Hp) (Q : VK), Same H1 Hz → (∀ H', Same Hz H' → Q (.int (f x : Nat)) H') → te ((wipe σ [sl]).set sl (some (.int (x : Nat)))) Hz Q)
    (hd : ∀ H', Same H1 H' → H' D = some (.lst (vn (xs.map f))) → Qd H') :
    ∃ W : Nat → Nat → Hp → Prop, (∃ m, W 0 m (upd H1 D (.lst []))) ∧ ∀ i m H, W i m H →
      ((Itl K a).stop i H ∧ Qd H) ∨ ((Itl K a).go i H ∧ ∃ Nx : Hp → Prop, (∀ H', Nx H' → ∃ m', m' < m ∧ W (i + 1) m' H') ∧ ∀ x H', (Itl K a).yld i H x H' → gName sl x (wipe σ [sl]) H' fun σ2 H2 => wipe σ2 [sl] = wipe σ [sl] ∧ tYes σ2 H2 fun b H3 =>
        if b = true then te σ2 H3 fun y H4 => ∃ acc, H4 D = some (.lst acc) ∧ acc.length < sizeLine ∧ Nx (upd H4 D (.lst (acc ++ [y]))) else Nx H3) :=
  lcLf (fun _ => true) f nD hx few hw (fun _ _ _ _ _ q => q _ (Same.refl _)) (fun x m _ => hs x m) fun H' s h => hd H' s (by rw [List.filter_eq_self.mpr (fun _ _ => rfl)] at h; exact h)
/-- [f(x) for x in t], t a tuple -/
theorem lcT (f : Nat → Nat) (nD : H1 D = none) (hx : SqT K H1 a (vn xs)) (few : xs.length ≤ 60000) (hw : ∀ v, wipe ((wipe σ [sl]).set sl v) [sl] = wipe σ [sl])
    (hs : ∀ x ∈ xs, ∀ (Hz : Hp) (Q : VK), Same H1 Hz → (∀ H', Same Hz H' → Q (.int (f x : Nat)) H') → te ((wipe σ [sl]).set sl (some (.int (x : Nat)))) Hz Q)
    (hd : ∀ H', Same H1 H' → H' D = some (.lst (vn (xs.map f))) → Qd H') :
    ∃ W : Nat → Nat → Hp → Prop, (∃ m, W 0 m (upd H1 D (.lst []))) ∧ ∀ i m H, W i m H →
      ((Itt K a).stop i H ∧ Qd H) ∨ ((Itt K a).go i H ∧ ∃ Nx : Hp → Prop, (∀ H', Nx H' → ∃ m', m' < m ∧ W (i + 1) m' H') ∧ ∀ x H', (Itt K a).yld i H x H' → gName sl x (wipe σ [sl]) H' fun σ2 H2 => wipe σ2 [sl] = wipe σ [sl] ∧ tYes σ2 H2 fun b H3 =>
        if b = true then te σ2 H3 fun y H4 => ∃ acc, H4 D = some (.lst acc) ∧ acc.length < sizeLine ∧ Nx (upd H4 D (.lst (acc ++ [y]))) else Nx H3) := by
  have w := walk_tup (K := K) (a := a) (xs := vn xs)
  rw [vn_len] at w
  exact lcN w (fun _ => true) f nD few hw (fun Hz s => tup_same s hx) (fun i Hz x H' y => yat_nat y) (fun _ _ _ _ _ q => q _ (Same.refl _)) (fun x m _ => hs x m) fun H' s h => hd H' s (by rw [List.filter_eq_self.mpr (fun _ _ => rfl)] at h; exact h)
/-- [f(x) for x in range(n) if p(x)] -/
theorem lcRf {n : Nat} (p : Nat → Bool) (f : Nat → Nat) (nD : H1 D = none) (few : n ≤ 60000) (hw : ∀ v, wipe ((wipe σ [sl]).set sl v) [sl] = wipe σ [sl])
    (ht : ∀ x, x < n → ∀ (Hz : Hp) (Q : Bool → Hp → Prop), Same H1 Hz → (∀ H', Same Hz H' → Q (p x) H') → tt ((wipe σ [sl]).set sl (some (.int (x : Nat)))) Hz Q)
    (hs : ∀ x, x < n → p x = true → ∀ (Hz : Hp) (Q : VK), Same H1 Hz → (∀ H', Same Hz H' → Q (.int (f x : Nat)) H') → te ((wipe σ [sl]).set sl (some (.int (x : Nat)))) Hz Q)
    (hd : ∀ H', Same H1 H' → H' D = some (.lst (vn (((List.range n).filter p).map f))) → Qd H') :
    ∃ W : Nat → Nat → Hp → Prop, (∃ m, W 0 m (upd H1 D (.lst []))) ∧ ∀ i m H, W i m H →
      ((Itr 0 n).stop i H ∧ Qd H) ∨ ((Itr 0 n).go i H ∧ ∃ Nx : Hp → Prop, (∀ H', Nx H' → ∃ m', m' < m ∧ W (i + 1) m' H') ∧ ∀ x H', (Itr 0 n).yld i H x H' → gName sl x (wipe σ [sl]) H' fun σ2 H2 => wipe σ2 [sl] = wipe σ [sl] ∧ tt σ2 H2 fun b H3 =>
        if b = true then te σ2 H3 fun y H4 => ∃ acc, H4 D = some (.lst acc) ∧ acc.length < sizeLine ∧ Nx (upd H4 D (.lst (acc ++ [y]))) else Nx H3) := by
  have w : Walk (Itr 0 n) (List.range n).length (fun _ => True) (fun i Hz x H' => i < n ∧ YFn (fun i => .int ((0 : Int) + (i : Nat))) i Hz x H') := by
    rw [List.length_range]
    have w0 := walk_range (lo := 0) (n := n)
    exact ⟨w0.goes, w0.stops, fun i Hz x H' hi t y => ⟨hi, w0.yields i Hz x H' hi t y⟩⟩
  refine lcN w p f nD (by rw [List.length_range]; exact few) hw (fun _ _ => trivial) (fun i Hz x H' y => ⟨y.2.1, i, List.getElem?_range y.1, ?_⟩) (fun x m => ht x (List.mem_range.mp m)) (fun x m => hs x (List.mem_range.mp m)) hd
  rw [y.2.2]
  show V.int (0 + (i : Int)) = _
  rw [Int.zero_add]
/-- [f(x) for x in range(n)] -/
theorem lcR {n : Nat} (f : Nat → Nat) (nD : H1 D = none) (few : n ≤ 60000) (hw : ∀ v, wipe ((wipe σ [sl]).set sl v) [sl] = wipe σ [sl])
    (hs : ∀ x, x < n → ∀ (Hz : Hp) (Q : VK), Same H1 Hz → (∀ H', Same Hz H' → Q (.int (f x : Nat)) H') → te ((wipe σ [sl]).set sl (some (.int (x : Nat)))) Hz Q)
    (hd : ∀ H', Same H1 H' → H' D = some (.lst (vn ((List.range n).map f))) → Qd H') :
    ∃ W : Nat → Nat → Hp → Prop, (∃ m, W 0 m (upd H1 D (.lst []))) ∧ ∀ i m H, W i m H →
      ((Itr 0 n).stop i H ∧ Qd H) ∨ ((Itr 0 n).go i H ∧ ∃ Nx : Hp → Prop, (∀ H', Nx H' → ∃ m', m' < m ∧ W (i + 1) m' H') ∧ ∀ x H', (Itr 0 n).yld i H x H' → gName sl x (wipe σ [sl]) H' fun σ2 H2 => wipe σ2 [sl] = wipe σ [sl] ∧ tYes σ2 H2 fun b H3 =>
        if b = true then te σ2 H3 fun y H4 => ∃ acc, H4 D = some (.lst acc) ∧ acc.length < sizeLine ∧ Nx (upd H4 D (.lst (acc ++ [y]))) else Nx H3) :=
  lcRf (fun _ => true) f nD few hw (fun _ _ _ _ _ q => q _ (Same.refl _)) (fun x m _ => hs x m) fun H' s h => hd H' s (by rw [List.filter_eq_self.mpr (fun _ _ => rfl)] at h; exact h)
end
end V0
/-! what is never reached; d.update(e) -/
namespace V0
open PySem PySem.Spec PyProof.Rows L2
/-- an expression that is never reached -/
theorem pe_never {X : Cx} {e : Expr} : PE X e (fun _ _ _ => False) := ⟨fun _ _ _ _ _ _ h => h.elim⟩
def rDUpdate : V → List V → Hp → VK → Prop := fun x vs H Q => ∃ (a b : Addr) (kvs more : List (Key × V)), x = .ref a ∧ vs = [.ref b] ∧ a ≠ b ∧ H a = some (.dK kvs) ∧ H b = some (.dK more) ∧ kvs.length + more.length ≤ sizeLine ∧ Q .non (upd H a (.dK (mergeK kvs more)))
theorem mtd_update {X : Cx} : MtR X "dict.update" rDUpdate := by
  intro pins s σ H x vs v us Q I rx rv h
  obtain ⟨a, b, kvs, more, rfl, rfl, ne, ea, eb, hz, q⟩ := h
  obtain rfl : v = Value.ref a := rx
  obtain rfl := Vals.ref1 rv
  obtain ⟨z, hd, vs, rel, dd⟩ := dk_of I.hok ea
  obtain ⟨z2, hd2, ws, rel2, dd2⟩ := dk_of I.hok eb
  refine call_meetsIn PySem.F.slot_dict_update dd.typeIs PySem.F.entry_dict_update (PySem.F.args_dict_update_2 _ _) (meets_dict_update (mixKind X.prog X.w) a b ne hd2) ⟨vs, ws, dd, dd2, by rw [← rel.length, ← rel2.length]; exact hz, fun h' dd' _ hs => ?_⟩
  have he : ∃ q, h'.get? a = some q := let ⟨q, _, _, hq, _⟩ := dd'; ⟨q, hq⟩
  have hl : (mergeK kvs more).length ≤ sizeLine := by
    have := length_mergeK more kvs
    omega
  exact ⟨.non, _, d_write (t' := s.toks) I (by rw [ea]; exact True.intro) hs he (dk_new hl hd (KV.merge rel2 rel) dd'), rfl, q⟩
end V0
namespace K24
open PySem PySem.Spec PyProof.Rows L2 V0
def topS (i : Nat) : Stmt := PySem.Challenge.pw_cellcloth_k24_whole_circuits_on_any_word.main.body.getD i (.Pass ⟨0, 0, 0, 0⟩)
abbrev s__law_draw : Stmt := topS 26
abbrev N__law_draw : List Str := ["state", "script", "size", "cell", "mixed", "digit"]
theorem sc_law_draw : FnScope ["state", "script", "size", "cell", "mixed", "digit"] ["state", "script", "size"] (defScope s__law_draw) := ⟨rfl, rfl, rfl, by decide +kernel, rfl, by decide +kernel, by decide +kernel⟩
abbrev s__law_machine : Stmt := topS 27
abbrev N__law_machine : List Str := ["state", "script", "letters", "many", "rows", "k", "output", "some", "letter"]
theorem sc_law_machine : FnScope ["state", "script", "letters", "many", "rows", "k", "output", "some", "letter"] ["state", "script"] (defScope s__law_machine) := ⟨rfl, rfl, rfl, by decide +kernel, rfl, by decide +kernel, by decide +kernel⟩
abbrev s__law_codes : Stmt := topS 28
abbrev N__law_codes : List Str := ["state", "script", "many", "codes", "most", "k", "code"]
theorem sc_law_codes : FnScope ["state", "script", "many", "codes", "most", "k", "code"] ["state", "script", "many"] (defScope s__law_codes) := ⟨rfl, rfl, rfl, by decide +kernel, rfl, by decide +kernel, by decide +kernel⟩
abbrev s__width_of : Stmt := topS 3
abbrev N__width_of : List Str := ["number"]
theorem sc_width_of : FnScope ["number"] ["number"] (defScope s__width_of) := ⟨rfl, rfl, rfl, by decide +kernel, rfl, by decide +kernel, by decide +kernel⟩
abbrev s__bits_of_name : Stmt := topS 4
abbrev N__bits_of_name : List Str := ["name", "width", "low"]
theorem sc_bits_of_name : FnScope ["name", "width", "low"] ["name", "width"] (defScope s__bits_of_name) := ⟨rfl, rfl, rfl, by decide +kernel, rfl, by decide +kernel, by decide +kernel⟩
abbrev s__looked_up : Stmt := topS 5
abbrev N__looked_up : List Str := ["bits", "table", "width", "half", "rest"]
theorem sc_looked_up : FnScope ["bits", "table", "width", "half", "rest"] ["bits", "table", "width"] (defScope s__looked_up) := ⟨rfl, rfl, rfl, by decide +kernel, rfl, by decide +kernel, by decide +kernel⟩
abbrev s_circuit_of : Stmt := topS 2
abbrev N_circuit_of : List Str := ["machine", "codes", "_", "letters", "rows", "letter_width", "width", "state_bits", "table", "outputs", "output", "afters", "code", "letter", "after", "following", "told", "registers"]
theorem sccircuit_of : FnScope ["machine", "codes", "_", "letters", "rows", "letter_width", "width", "state_bits", "table", "outputs", "output", "afters", "code", "letter", "after", "following", "told", "registers"] ["machine", "codes"] (defScope s_circuit_of) := ⟨rfl, rfl, rfl, by decide +kernel, rfl, by decide +kernel, by decide +kernel⟩
abbrev s__law_digits : Stmt := topS 29
abbrev N__law_digits : List Str := ["number", "k"]
theorem sc_law_digits : FnScope ["number", "k"] ["number"] (defScope s__law_digits) := ⟨rfl, rfl, rfl, by decide +kernel, rfl, by decide +kernel, by decide +kernel⟩
abbrev s_start : Stmt := topS 20
abbrev N_start : List Str := ["flat", "_", "registers", "memories", "first", "depth"]
theorem scstart : FnScope ["flat", "_", "registers", "memories", "first", "depth"] ["flat"] (defScope s_start) := ⟨rfl, rfl, rfl, by decide +kernel, rfl, by decide +kernel, by decide +kernel⟩
abbrev s__law_value : Stmt := topS 31
abbrev N__law_value : List Str := ["e", "words", "one", "both", "found", "low"]
theorem sc_law_value : FnScope ["e", "words", "one", "both", "found", "low"] ["e", "words"] (defScope s__law_value) := ⟨rfl, rfl, rfl, by decide +kernel, rfl, by decide +kernel, by decide +kernel⟩
abbrev s_remainder : Stmt := topS 13
abbrev N_remainder : List Str := ["number", "width"]
theorem scremainder : FnScope ["number", "width"] ["number", "width"] (defScope s_remainder) := ⟨rfl, rfl, rfl, by decide +kernel, rfl, by decide +kernel, by decide +kernel⟩
abbrev s_cut_word : Stmt := topS 14
abbrev N_cut_word : List Str := ["word", "low", "width"]
theorem sccut_word : FnScope ["word", "low", "width"] ["word", "low", "width"] (defScope s_cut_word) := ⟨rfl, rfl, rfl, by decide +kernel, rfl, by decide +kernel, by decide +kernel⟩
abbrev s__word_of : Stmt := topS 24
abbrev N__word_of : List Str := ["e", "values", "kept", "kind", "chosen", "x"]
theorem sc_word_of : FnScope ["e", "values", "kept", "kind", "chosen", "x"] ["e", "values", "kept"] (defScope s__word_of) := ⟨rfl, rfl, rfl, by decide +kernel, rfl, by decide +kernel, by decide +kernel⟩
abbrev s__words_of : Stmt := topS 23
abbrev N__words_of : List Str := ["expressions", "values", "kept", "e"]
theorem sc_words_of : FnScope ["expressions", "values", "kept", "e"] ["expressions", "values", "kept"] (defScope s__words_of) := ⟨rfl, rfl, rfl, by decide +kernel, rfl, by decide +kernel, by decide +kernel⟩
abbrev s_step : Stmt := topS 21
abbrev N_step : List Str := ["flat", "state", "words", "_", "inputs", "registers", "memories", "wires", "outputs", "name", "values", "row", "kept", "e", "next_words", "next_rows", "word", "memory", "told"]
theorem scstep : FnScope ["flat", "state", "words", "_", "inputs", "registers", "memories", "wires", "outputs", "name", "values", "row", "kept", "e", "next_words", "next_rows", "word", "memory", "told"] ["flat", "state", "words"] (defScope s_step) := ⟨rfl, rfl, rfl, by decide +kernel, rfl, by decide +kernel, by decide +kernel⟩
abbrev s_law : Stmt := topS 32
abbrev N_law : List Str := ["script", "state", "machine", "letters", "rows", "codes", "kept", "circuit", "width", "narrow", "k", "code", "letter", "due", "words", "name", "w", "e", "shown", "one"]
theorem sclaw : FnScope ["script", "state", "machine", "letters", "rows", "codes", "kept", "circuit", "width", "narrow", "k", "code", "letter", "due", "words", "name", "w", "e", "shown", "one"] ["script"] (defScope s_law) := ⟨rfl, rfl, rfl, by decide +kernel, rfl, by decide +kernel, by decide +kernel⟩
structure Txt (K : PySem.W.Frag) (mg : Str → Option Value) (tk_OUTPUT_WIDTH : Tok) : Prop where
  m_OUTPUT_WIDTH : mg "OUTPUT_WIDTH" = some (.int (8) tk_OUTPUT_WIDTH)
  m_enumerate : mg "enumerate" = none
  m_int : mg "int" = none
  m_len : mg "len" = none
  m_list : mg "list" = none
  m_max : mg "max" = none
  m_range : mg "range" = none
  m_repr : mg "repr" = none
  m_zip : mg "zip" = none
end K24
namespace K24
open PySem PySem.Spec PyProof.Rows L2 V0
/-! ### the draws -/
/-- all but what stands at p is as it was -/
def Keep (p : Addr) (H H' : Hp) : Prop := ∀ b o, b ≠ p → H b = some o → H' b = some o
theorem Keep.refl (p : Addr) (H : Hp) : Keep p H H := fun _ _ _ h => h
theorem Keep.trans {p : Addr} {H H1 H2 : Hp} (a : Keep p H H1) (b : Keep p H1 H2) : Keep p H H2 := fun c o n h => b c o n (a c o n h)
theorem Keep.upd {p : Addr} {H H1 : Hp} {o : HO} (a : Keep p H H1) : Keep p H (upd H1 p o) := fun c u n h => by
  rw [upd_ne n]
  exact a c u n h
theorem Keep.of_same {p : Addr} {H H1 : Hp} (a : Same H H1) : Keep p H H1 := fun c u _ h => a c u h
/-- the script, which stood before what is at p was made -/
def Scr (K : PySem.W.Frag) (H : Hp) (p a : Addr) (ns : List Int) : Prop := ∃ H0, H0 p = none ∧ Same H0 H ∧ SqL K H0 a (ns.map V.int)
theorem Scr.keep {K : PySem.W.Frag} {H H' : Hp} {p a : Addr} {ns : List Int} (h : Scr K H p a ns) (k : Keep p H H') : Scr K H' p a ns := by
  obtain ⟨H0, n, s, q⟩ := h
  exact ⟨H0, n, fun b o e => k b o (ne_of_none e n) (s b o e), q⟩
theorem Scr.seq {K : PySem.W.Frag} {H : Hp} {p a : Addr} {ns : List Int} (h : Scr K H p a ns) : SqL K H a (ns.map V.int) := by
  obtain ⟨H0, n, s, q⟩ := h
  exact s.seq q
abbrev ls2 (i s : Int) : HO := .lst [.int i, .int s]
theorem ix_lst {K : PySem.W.Frag} {H : Hp} {p : Addr} {ws : List V} {z : Int} {i : Nat} {v : V} {Q : VK} (e : z = (i : Int)) (hs : SqL K H p ws) (h : ws[i]? = some v) (q : Q v H) : rIxL K (.ref p) (.int z) H Q := by
  subst e
  exact ⟨p, ws, _, v, rfl, rfl, hs, atI_nat h, q⟩
theorem at_mod {ns : List Int} {i : Int} (h : 0 < (ns.length : Int)) : ∃ (k : Nat) (c : Int), i.fmod ((ns.map V.int).length : Int) = (k : Int) ∧ (ns.map V.int)[k]? = some (.int c) := by
  have r := emod_range (x := i) h
  rw [List.length_map]
  obtain ⟨k, hk⟩ : ∃ k : Nat, i.fmod (ns.length : Int) = (k : Int) := ⟨_, (Int.toNat_of_nonneg r.1).symm⟩
  have hk2 : k < ns.length := by omega
  refine ⟨k, ns[k], hk, ?_⟩
  rw [List.getElem?_map, List.getElem?_eq_getElem hk2]
  rfl
theorem at_of {xs : List V} {z : Int} {k : Nat} {v : V} (e : z = (k : Int)) (h : xs[k]? = some v) : atI xs z = some v := by
  rw [e]
  exact atI_nat h
/-- the state of the draws stands at p, the script at a -/
def Dw (K : PySem.W.Frag) (H : Hp) (p a : Addr) (ns : List Int) : Prop := ∃ i s, H p = some (ls2 i s) ∧ 0 ≤ i ∧ 0 ≤ s ∧ Scr K H p a ns
theorem Dw.same {K : PySem.W.Frag} {H H' : Hp} {p a : Addr} {ns : List Int} (h : Dw K H p a ns) (s : Same H H') : Dw K H' p a ns := by
  obtain ⟨i, z, h1, h2, h3, h4⟩ := h
  exact ⟨i, z, s _ _ h1, h2, h3, h4.keep (Keep.of_same s)⟩
theorem Dw.off {K : PySem.W.Frag} {H : Hp} {p a q : Addr} {ns : List Int} (h : Dw K H p a ns) (hq : H q = none) : q ≠ p := by
  obtain ⟨i, z, h1, _⟩ := h
  exact fun e => by rw [e, h1] at hq; cases hq
/-- from H to H' all but the state of the draws stays -/
structure Gw (K : PySem.W.Frag) (p sc : Addr) (ns : List Int) (H H' : Hp) : Prop where
  a : Dw K H p sc ns
  b : Dw K H' p sc ns
  s : Same (hid p H) (hid p H')
section
variable {K : PySem.W.Frag} {p a : Addr} {ns : List Int} {H H1 H' : Hp}
theorem Gw.refl (h : Dw K H p a ns) : Gw K p a ns H H := ⟨h, h, Same.refl _⟩
theorem Gw.trans (x : Gw K p a ns H H1) (y : Gw K p a ns H1 H') : Gw K p a ns H H' := ⟨x.a, y.b, x.s.trans y.s⟩
theorem Gw.of (h : Dw K H p a ns) (s : Same H H') : Gw K p a ns H H' := ⟨h, h.same s, hid_mono s⟩
theorem Gw.more (x : Gw K p a ns H H1) (s : Same H1 H') : Gw K p a ns H H' := x.trans (Gw.of x.b s)
theorem Gw.get {b : Addr} {o : HO} (x : Gw K p a ns H H') (h : H b = some o) (n : b ≠ p) : H' b = some o := (hid_some (x.s _ _ (hid_of n h))).2
theorem Gw.get' {b : Addr} {o : HO} (x : Gw K p a ns H1 H') (d : Dw K H p a ns) (n : H b = none) (h : H1 b = some o) : H' b = some o := x.get h (d.off n)
theorem Gw.non {b : Addr} (x : Gw K p a ns H H') (h : H' b = none) : H b = none := by
  have n := x.b.off h
  cases e : H b with
  | none => rfl
  | some o =>
    rw [x.get e n] at h
    cases h
theorem Gw.mut {D : Addr} {o : HO} (x : Gw K p a ns H H') (h : H D = none) : Gw K p a ns H (upd H' D o) := by
  refine ⟨x.a, ?_, fun b u e => ?_⟩
  · have n := x.a.off h
    obtain ⟨i, z, h1, h2, h3, H0, g1, g2, g3⟩ := x.b
    refine ⟨i, z, by rw [upd_ne n.symm]; exact h1, h2, h3, ?_⟩
    obtain ⟨_, _, _, _, _, H00, k1, k2, k3⟩ := x.a
    refine ⟨H00, k1, fun b u e => ?_, k3⟩
    have hb := k2 _ _ e
    have nb : b ≠ p := ne_of_none e k1
    rw [upd_ne (ne_of_none hb h)]
    exact x.get hb nb
  · obtain ⟨n1, e⟩ := hid_some e
    exact hid_of n1 (by rw [upd_ne (ne_of_none e h)]; exact x.get e n1)
end
def sp__law_draw (K : PySem.W.Frag) : Sp := fun vs H Q _ => ∃ (p a : Addr) (ns : List Int) (z : Nat), vs = [.ref p, .ref a, .int (z : Nat)] ∧ Dw K H p a ns ∧ 0 < z ∧ z < 1073741824 ∧
  ∀ H' (d : Nat), Gw K p a ns H H' → d < z → Q (.int (d : Nat)) H'
theorem ok__law_draw {P : Program} {w : World} {K : PySem.W.Frag} {mg : Str → Option Value} {base : Heap} {tk_OUTPUT_WIDTH : Tok} {f  : Addr} {fd  : FuncData} (F : Fun K "_law_draw" "_law_draw" s__law_draw f fd) (T : Txt K mg tk_OUTPUT_WIDTH) :
    FnOk P w K mg base CX0 1 f fd ["state", "script", "size"] (sp__law_draw K) := by
  refine F.ok sc_law_draw (fun vs H Q E h => ?_) (fun cdv A outer s H vs Q E hr h => ?_)
  · obtain ⟨p, a, ns, z, rfl, _⟩ := h
    rfl
  · obtain ⟨p, a, ns, zn, rfl, dw, hz0, hz20, q0⟩ := h
    obtain ⟨i, s, hp, hi, hs, hS⟩ := id dw
    obtain ⟨z, ez⟩ : ∃ z : Int, z = (zn : Int) := ⟨_, rfl⟩
    have hz : 0 < z := by omega
    have hz2 : z < 1073741824 := by omega
    have q : ∀ H' i' s' d, Keep p H H' → H' p = some (ls2 i' s') → 0 ≤ i' → 0 ≤ s' → 0 ≤ d → d < z → Q (.int d) H' := fun H' i' s' d k hp' hi' hs' d0 dz => by
      obtain ⟨dn, rfl⟩ : ∃ dn : Nat, d = (dn : Int) := ⟨d.toNat, (Int.toNat_of_nonneg d0).symm⟩
      refine q0 H' dn ⟨dw, ⟨i', s', hp', hi', hs', hS.keep k⟩, fun b o e => ?_⟩ (by omega)
      obtain ⟨n1, e⟩ := hid_some e
      exact hid_of n1 (k _ _ n1 e)
    rw [← ez]
    clear q0 dw hz0 hz20
    refine ⟨_, (C8.pss_cut (ps_if (pt_cmpR op_eq (pe_ix (r := rIxL K) ix_list (pv 0) pe_int (fun _ _ => rfl)) pe_int (nomark _)) (pss_cons (ps_set (i := 3) sc_law_draw.nd rfl (.inl rfl) pe_int)
      (C8.pss_cut (ps_if (pt_cmpR op_gt (pe_callB call_len_seq (by rfl) T.m_len (by decide +kernel) (pa_cons (pv 1) pa_nil)) pe_int (nomark _)) (pss_one (ps_set (i := 3) sc_law_draw.nd rfl (.inl rfl) (pe_ix (r := rIxL K) ix_list (pv 1) (pe_op op_modN (pe_ix (r := rIxL K) ix_list (pv 0) pe_int (fun _ _ => rfl)) (pe_callB call_len_seq (by rfl) T.m_len (by decide +kernel) (pa_cons (pv 1) pa_nil))) (fun _ _ => rfl)))) pss_nil)
      (C8.pss_cut (ps_if (pt_cmpR op_lt (pv 3) pe_int (nomark _)) (pss_one (ps_set (i := 3) sc_law_draw.nd rfl (.inl rfl) (pe_op op_sub pe_int (pe_op op_mul pe_int (pv 3))))) pss_nil)
      (pss_cons (ps_set (i := 4) sc_law_draw.nd rfl (.inl rfl) (pe_op op_modN (pe_callTy call_int1 (by rfl) T.m_int (by decide +kernel) (pa_cons (pe_op op_mul (pe_op op_add (pe_op op_add (pv 3) (pe_op op_mul (pe_ix (r := rIxL K) ix_list (pv 0) pe_int (fun _ _ => rfl)) pe_int)) pe_int) pe_int) pa_nil)) pe_int))
      (pss_cons (ps_asg (pe_op op_modN (pe_callTy call_int1 (by rfl) T.m_int (by decide +kernel) (pa_cons (pe_op op_add (pe_op op_mul (pv 4) pe_int) (pe_op op_mul (pe_ix (r := rIxL K) ix_list (pv 0) pe_int (fun _ _ => rfl)) pe_int)) pa_nil)) pe_int) (pg_sub (pv 0) pe_int set_list))
      (C8.pss_cut (ps_if (PW.pt (pw_and (pt_cmpR op_ge (pv 3) (pe_op op_pow pe_int pe_int) (nomark _)) (pw_and1 (pt_cmpR op_lt (pe_ix (r := rIxL K) ix_list (pv 0) pe_int (fun _ _ => rfl)) (pe_callB call_len_seq (by rfl) T.m_len (by decide +kernel) (pa_cons (pv 1) pa_nil)) (nomark _))))) (pss_one (ps_asg (pv 3) (pg_sub (pv 0) pe_int set_list))) pss_nil)
      (pss_one (ps_asg (pe_op op_add (pe_ix (r := rIxL K) ix_list (pv 0) pe_int (fun _ _ => rfl)) pe_int) (pg_sub (pv 0) pe_int set_list))))))))) pss_nil)
      (pss_cons (ps_set (i := 5) sc_law_draw.nd rfl (.inl rfl) (pe_op op_modN (pe_callTy call_int1 (by rfl) T.m_int (by decide +kernel) (pa_cons (pe_ix (r := rIxL K) ix_list (pv 0) pe_int (fun _ _ => rfl)) pa_nil)) (pv 2)))
      (pss_cons (ps_asg (pe_op op_fdivN (pe_ix (r := rIxL K) ix_list (pv 0) pe_int (fun _ _ => rfl)) (pv 2)) (pg_sub (pv 0) pe_int set_list))
      (pss_one (ps_ret (pv 5)))))), ?_⟩
    -- whatever the state was, behind the first if it is one from 0 on
    refine ⟨fun σ H' => ∃ (i' s' : Int) (y3 y4 : Option V), σ = [some (.ref p), some (.ref a), some (.int z), y3, y4, none] ∧ Keep p H H' ∧ H' p = some (ls2 i' s') ∧ 0 ≤ i' ∧ 0 ≤ s', ?_, ?_⟩
    · refine ⟨_, rfl, p, _, 1, _, rfl, rfl, SqL.of hp, atI_nat (j := 1) rfl, rfl, _, rfl, ite2 (fun h0 => ?_) (fun h0 => ?_)⟩
      · -- cell = 0; if len(script) > 0: ..
        refine ⟨fun σ H' => ∃ c : Int, σ = [some (.ref p), some (.ref a), some (.int z), some (.int c), none, none] ∧ H' = H, ?_, ?_⟩
        · refine ⟨_, rfl, a, _, rfl, .inl hS.seq, _, _, rfl, rfl, _, rfl, ite2 (fun h1 => ?_) (fun h1 => ?_)⟩
          · have h2 : (0 : Int) < ((ns.map V.int).length : Int) := of_decide_eq_true h1
            have h3 : (0 : Int) < (ns.length : Int) := by
              rw [List.length_map] at h2
              exact h2
            obtain ⟨k, c, ek, gk⟩ := at_mod (i := i) h3
            refine ⟨_, rfl, _, rfl, p, _, 0, _, rfl, rfl, SqL.of hp, atI_nat (j := 0) rfl, _, rfl, a, _, rfl, .inl hS.seq, _, _, rfl, rfl, ?_, a, _, _, .int c, rfl, rfl, hS.seq, at_of ek gk, ?_⟩
            · show ((ns.map V.int).length : Int) ≠ 0
              omega
            · exact ⟨c, rfl, rfl⟩
          · exact ⟨0, rfl, rfl⟩
        · rintro σ H' ⟨c, rfl, rfl⟩
          refine ⟨fun σ H'' => ∃ c : Int, σ = [some (.ref p), some (.ref a), some (.int z), some (.int c), none, none] ∧ 0 ≤ c ∧ H'' = H', ?_, ?_⟩
          · refine ⟨_, rfl, _, _, rfl, rfl, _, rfl, ite2 (fun h1 => ?_) (fun h1 => ?_)⟩
            · have h2 : c < 0 := of_decide_eq_true h1
              refine ⟨_, rfl, _, _, rfl, rfl, .inl ⟨by decide, by decide⟩, _, _, rfl, rfl, ?_⟩
              exact ⟨1 - 2 * c, rfl, by omega, rfl⟩
            · have h2 : ¬ c < 0 := fun e => h1 (decide_eq_true e)
              exact ⟨c, rfl, by omega, rfl⟩
          · rintro σ H'' ⟨c, rfl, hc, rfl⟩
            -- mixed, state[1]
            refine ⟨_, rfl, _, rfl, p, _, 0, _, rfl, rfl, SqL.of hp, atI_nat (j := 0) rfl, _, _, rfl, rfl, .inr ⟨by decide, by decide⟩, _, _, rfl, rfl, _, _, rfl, rfl, _, _, rfl, rfl, .inr ⟨by decide, by decide⟩, .inl ⟨_, rfl, _, _, rfl, rfl, (show (2147483647 : Int) ≠ 0 by decide), ?_⟩⟩
            refine ⟨_, rfl, _, _, rfl, rfl, .inr ⟨by decide, by decide⟩, _, rfl, p, _, 0, _, rfl, rfl, SqL.of hp, atI_nat (j := 0) rfl, _, _, rfl, rfl, .inr ⟨by decide, by decide⟩, _, _, rfl, rfl, .inl ⟨_, rfl, _, _, rfl, rfl, (show (4294967291 : Int) ≠ 0 by decide), ?_⟩⟩
            refine ⟨_, rfl, p, _, 1, 1, rfl, rfl, hp, rfl, ?_⟩
            have m2 := emod_range (x := ((c + i * 7919 + 1) * 48271).fmod 2147483647 * 69621 + i * 104729) (show (0 : Int) < 4294967291 by decide)
            refine ⟨fun σ H3 => ∃ (s2 : Int) (y4 : Option V), σ = [some (.ref p), some (.ref a), some (.int z), some (.int c), y4, none] ∧ Keep p H'' H3 ∧ H3 p = some (ls2 i s2) ∧ 0 ≤ s2, ?_, ?_⟩
            · have k1 : Keep p H'' (upd H'' p (ls2 i (Int.fmod (((c + i * 7919 + 1) * 48271).fmod 2147483647 * 69621 + i * 104729) 4294967291))) := (Keep.refl p H'').upd
              refine ⟨_, rfl, _, _, rfl, rfl, ⟨by decide, by decide, by decide⟩, _, _, rfl, rfl, _, rfl, ?_⟩
              refine ite2 (fun h1 => ?_) (fun h1 => ?_)
              · refine ⟨_, rfl, p, _, 0, _, rfl, rfl, SqL.of upd_same, atI_nat (j := 0) rfl, _, rfl, a, _, rfl, .inl (hS.keep k1).seq, _, _, rfl, rfl, _, rfl, ite2 (fun h2 => ?_) (fun h2 => ?_)⟩
                · refine ⟨_, rfl, _, rfl, p, _, 1, 1, rfl, rfl, upd_same, rfl, ?_⟩
                  exact ⟨c, _, rfl, k1.upd, upd_same, hc⟩
                · exact ⟨_, _, rfl, k1, upd_same, m2.1⟩
              · exact ⟨_, _, rfl, k1, upd_same, m2.1⟩
            · rintro σ H3 ⟨s2, y4, rfl, k3, h3, hs2⟩
              refine ⟨_, rfl, p, _, 0, _, rfl, rfl, SqL.of h3, atI_nat (j := 0) rfl, _, _, rfl, rfl, _, rfl, p, _, 0, 0, rfl, rfl, h3, rfl, ?_⟩
              exact ⟨i + 1, s2, _, _, rfl, k3.upd, upd_same, by omega, hs2⟩
      · exact ⟨i, s, none, none, rfl, Keep.refl _ _, hp, hi, hs⟩
    · rintro σ H' ⟨i', s', y3, y4, rfl, k, hp', hi', hs'⟩
      refine ⟨_, rfl, p, _, 1, _, rfl, rfl, SqL.of hp', atI_nat (j := 1) rfl, .inl ⟨_, rfl, _, rfl, _, _, rfl, rfl, ?_, ?_⟩⟩
      · show z ≠ 0
        omega
      · refine ⟨_, rfl, p, _, 1, _, rfl, rfl, SqL.of hp', atI_nat (j := 1) rfl, _, rfl, _, _, rfl, rfl, ⟨?_, ?_⟩, _, rfl, p, _, 1, 1, rfl, rfl, hp', rfl, _, rfl, ?_⟩
        · show z ≠ 0
          omega
        · show z.natAbs < 1073741824
          omega
        · have r := emod_range (x := s') hz
          refine q _ i' (s'.fdiv z) _ k.upd upd_same hi' ?_ r.1 r.2
          rw [Int.fdiv_eq_ediv_of_nonneg s' (by omega)]
          exact Int.ediv_nonneg hs' (by omega)

end K24
namespace K24
open PySem PySem.Spec PyProof.Rows L2 V0
theorem vmin2 (a b : Nat) : V.int (if (b : Int) < (a : Int) then (b : Int) else (a : Int)) = V.int ((min a b : Nat) : Int) := by
  congr 1
  split
  · rw [Nat.min_eq_right (by omega)]
  · rw [Nat.min_eq_left (by omega)]
theorem vmax2 (a b : Nat) : V.int (if (b : Int) > (a : Int) then (b : Int) else (a : Int)) = V.int ((max a b : Nat) : Int) := by
  congr 1
  split
  · rw [Nat.max_eq_right (by omega)]
  · rw [Nat.max_eq_left (by omega)]
/-! ### machines -/
theorem nfmod (a b : Nat) : ((a : Nat) : Int).fmod ((b : Nat) : Int) = ((a % b : Nat) : Int) := by
  rw [Int.fmod_eq_emod_of_nonneg _ (Int.natCast_nonneg b)]
  rfl
structure Mach where
  letters : Nat
  rows : List (Nat × List Nat)
  deriving DecidableEq
instance : PySem.W.Datum Mach where
  toD n := .tuple [.str "moore", PySem.W.Datum.toD n.letters, PySem.W.Datum.toD n.rows]
  plain n := by simp only [PyData.plain, PyData.plainAll, PySem.W.Datum.plain, Bool.and_self]
  eqv a b := by
    simp only [PyData.eqv, PyData.eqvAll, PySem.W.Datum.eqv, Bool.and_true]
    rw [PySem.W.beq_decide, ← Bool.decide_and, ← Bool.decide_and]
    refine decide_eq_decide.mpr ⟨fun ⟨_, h1, h2⟩ => ?_, fun e => by rw [e]; exact ⟨rfl, rfl, rfl⟩⟩
    cases a
    cases b
    simp only at h1 h2
    rw [h1, h2]
  depth := 4
  depth_le n := by
    have h1 := PySem.W.Datum.depth_le n.letters
    have h2 := PySem.W.Datum.depth_le n.rows
    have e1 : PySem.W.Datum.depth Nat = 0 := rfl
    have e2 : PySem.W.Datum.depth (List (Nat × List Nat)) = 3 := rfl
    rw [e1] at h1
    rw [e2] at h2
    simp only [PyData.depth, PyData.depthAll]
    omega
instance : Dm Mach where
  lay n := by
    have h1 := Dm.lay n.letters
    have h2 := Dm.lay n.rows
    simp only [PySem.W.Datum.toD] at h1 h2 ⊢
    simp only [PyData.canLay0, PyData.canLayAll0, Bool.and_true] at h1 h2 ⊢
    rw [h2]
    decide +kernel
theorem Dv.mach {H : Hp} {a r : Addr} {m : Mach} {us : List V} (h : H a = some (.tup [.str "moore", .int (m.letters : Nat), .ref r])) (hr : H r = some (.lst us)) (hs : Dvs H us m.rows) : Dv H (.ref a) m :=
  Dh.tup h (.cons (.str _) (.cons (.int _) (.cons (Dv.list hr hs) .nil)))
theorem mach_inv {H : Hp} {v : V} {m : Mach} (h : Dv H v m) : ∃ a r us, v = .ref a ∧ H a = some (.tup [.str "moore", .int (m.letters : Nat), .ref r]) ∧ H r = some (.lst us) ∧ Dvs H us m.rows := by
  unfold Dv at h
  cases h with
  | tup h1 h2 =>
    cases h2 with
    | cons a1 h2 =>
      cases h2 with
      | cons a2 h2 =>
        cases h2 with
        | cons a3 h2 =>
          cases h2
          cases a1
          have e2 := Dv.nat_inv (n := m.letters) a2
          subst e2
          obtain ⟨r, us, rfl, e, d⟩ := Dv.list_inv (xs := m.rows) a3
          exact ⟨_, r, us, rfl, h1, e, d⟩
/-- a row of a machine -/
def ROk (letters many : Nat) (r : Nat × List Nat) : Prop := r.1 < 256 ∧ r.2.length = letters ∧ ∀ x ∈ r.2, x < many
structure MOk (m : Mach) (L M : Nat) : Prop where
  l1 : 1 ≤ m.letters
  l2 : m.letters ≤ L
  m1 : 1 ≤ m.rows.length
  m2 : m.rows.length ≤ M
  r : ∀ r ∈ m.rows, ROk m.letters m.rows.length r

theorem atI_two {x y b : Nat} (h : b < 2) : atI [V.int ((x : Nat) : Int), V.int ((y : Nat) : Int)] ((b : Nat) : Int) = some (.int ((if b = 0 then x else y : Nat) : Int)) := by
  have : b = 0 ∨ b = 1 := by omega
  rcases this with rfl | rfl
  · exact atI_nat (j := 0) rfl
  · exact atI_nat (j := 1) rfl
theorem atI_three {x y z b : Nat} (h : b < 3) : atI [V.int ((x : Nat) : Int), V.int ((y : Nat) : Int), V.int ((z : Nat) : Int)] ((b : Nat) : Int) = some (.int ((if b = 0 then x else if b = 1 then y else z : Nat) : Int)) := by
  have : b = 0 ∨ b = 1 ∨ b = 2 := by omega
  rcases this with rfl | rfl | rfl
  · exact atI_nat (j := 0) rfl
  · exact atI_nat (j := 1) rfl
  · exact atI_nat (j := 2) rfl
def sp__law_machine (K : PySem.W.Frag) : Sp := fun vs H Q _ => ∃ (p a : Addr) (ns : List Int), vs = [.ref p, .ref a] ∧ Dw K H p a ns ∧
  ∀ H' q m, Gw K p a ns H H' → H q = none → Dv (hid p H') (.ref q) m → MOk m 16 64 → Q (.ref q) H'
theorem ok__law_machine {P : Program} {w : World} {K : PySem.W.Frag} {mg : Str → Option Value} {base : Heap} {tk_OUTPUT_WIDTH : Tok} {f f_law_draw : Addr} {fd fd_law_draw : FuncData} (F : Fun K "_law_machine" "_law_machine" s__law_machine f fd) (T : Txt K mg tk_OUTPUT_WIDTH)
    (G__law_draw : FnOk P w K mg base CX0 1 f_law_draw fd_law_draw ["state", "script", "size"] (sp__law_draw K)) (D__law_draw : Def K mg "_law_draw" f_law_draw fd_law_draw ["state", "script", "size"]) :
    FnOk P w K mg base CX0 2 f fd ["state", "script"] (sp__law_machine K) := by
  refine F.ok sc_law_machine (fun vs H Q E h => ?_) (fun cdv A outer s H vs Q E hr h => ?_)
  · obtain ⟨p, a, ns, rfl, _⟩ := h
    rfl
  · obtain ⟨p, a, ns, rfl, dw, q⟩ := h
    have smallf : ∀ {n : Nat}, n ≤ 64 → n < sizeLine := fun h => small64k (by omega)
    refine ⟨_, (pss_cons (ps_set (i := 2) sc_law_machine.nd rfl (.inl rfl) (pe_op op_add pe_int (pe_call G__law_draw (hr.mono (by omega)) (by rfl) D__law_draw.m D__law_draw.k D__law_draw.b .nil pass0 (pa_cons (pv 0) (pa_cons (pv 1) (pa_cons (pe_ix (r := rIxL K) ix_list (pe_lst (pa_cons pe_int (pa_cons pe_int pa_nil))) (pe_call G__law_draw (hr.mono (by omega)) (by rfl) D__law_draw.m D__law_draw.k D__law_draw.b .nil pass0 (pa_cons (pv 0) (pa_cons (pv 1) (pa_cons pe_int pa_nil)))) (fun _ _ => rfl)) pa_nil))))))
      (pss_cons (ps_set (i := 3) sc_law_machine.nd rfl (.inl rfl) (pe_op op_add pe_int (pe_call G__law_draw (hr.mono (by omega)) (by rfl) D__law_draw.m D__law_draw.k D__law_draw.b .nil pass0 (pa_cons (pv 0) (pa_cons (pv 1) (pa_cons (pe_ix (r := rIxL K) ix_list (pe_lst (pa_cons pe_int (pa_cons pe_int (pa_cons pe_int pa_nil)))) (pe_call G__law_draw (hr.mono (by omega)) (by rfl) D__law_draw.m D__law_draw.k D__law_draw.b .nil pass0 (pa_cons (pv 0) (pa_cons (pv 1) (pa_cons pe_int pa_nil)))) (fun _ _ => rfl)) pa_nil))))))
      (pss_cons (ps_set (i := 4) sc_law_machine.nd rfl (.inl rfl) (pe_lst pa_nil))
      (pss_cons (ps_for PassesOwn.never rfl (pi_range1 rfl T.m_range (pa_cons (pv 3) pa_nil)) (pg_name (i := 5) sc_law_machine.nd rfl (Or.inl rfl)) (pss_cons (ps_set (i := 6) sc_law_machine.nd rfl (.inl rfl) (pe_call G__law_draw (hr.mono (by omega)) (by rfl) D__law_draw.m D__law_draw.k D__law_draw.b .nil pass0 (pa_cons (pv 0) (pa_cons (pv 1) (pa_cons (pe_ix (r := rIxL K) ix_list (pe_lst (pa_cons pe_int (pa_cons pe_int pa_nil))) (pe_call G__law_draw (hr.mono (by omega)) (by rfl) D__law_draw.m D__law_draw.k D__law_draw.b .nil pass0 (pa_cons (pv 0) (pa_cons (pv 1) (pa_cons pe_int pa_nil)))) (fun _ _ => rfl)) pa_nil)))))
      (pss_cons (ps_set (i := 7) sc_law_machine.nd rfl (.inr rfl) (pe_op op_add pe_int (pe_call G__law_draw (hr.mono (by omega)) (by rfl) D__law_draw.m D__law_draw.k D__law_draw.b .nil pass0 (pa_cons (pv 0) (pa_cons (pv 1) (pa_cons (pv 3) pa_nil))))))
      (pss_one (ps_expr (pe_bm PySem.F.plainAttrs_list PySem.F.slot_list_append PySem.F.type_list_append mt_append (pv 4) (pa_cons (pe_tup (pa_cons (pv 6) (pa_cons (pe_lc (own := [("letter", 8)]) (g := gName 8) (tt := tYes) rfl sc_law_machine.nd (pi_range1 rfl T.m_range (pa_cons (pv 2) pa_nil)) (blkOk_by (N := N__law_machine) (sc := defScope s__law_machine) (by decide +kernel)) (fun _ _ _ _ _ => (pg_name (i := 8) sc_law_machine.nd rfl (Or.inl rfl))) (fun _ _ _ _ _ => pts_nil) (fun _ _ _ _ _ => (pe_call G__law_draw (hr.mono (by omega)) (by rfl) D__law_draw.m D__law_draw.k D__law_draw.b .nil pass0 (pa_cons (pv 0) (pa_cons (pv 1) (pa_cons (pv 7) pa_nil)))))) pa_nil))) pa_nil)))))))
      (pss_one (ps_ret (pe_tup (pa_cons pe_str (pa_cons (pv 2) (pa_cons (pv 4) pa_nil)))))))))), ?_⟩
    -- letters
    refine ⟨_, rfl, _, rfl, by show 2 ≤ sizeLine; decide, fun k1 n1 => ⟨_, rfl, _, rfl, p, a, ns, 2, rfl, dw.same (same_new n1), by decide, by decide, fun H1 b1 g1 h1 => ⟨k1, _, _, _, rfl, rfl, SqL.of (g1.get (upd_same (H := H) (a := k1) (o := .lst [.int 3, .int 16])) (dw.off n1)), atI_two (x := 3) (y := 16) h1, ?_⟩⟩⟩
    have g1 := (Gw.of dw (same_new n1)).trans g1
    refine ⟨p, a, ns, _, rfl, g1.b, by split <;> decide, by split <;> decide, fun H2 d2 g2 h2 => ⟨_, _, rfl, rfl, ?_⟩⟩
    have g2 := g1.trans g2
    obtain ⟨L, hL⟩ : ∃ L, L = 1 + d2 := ⟨_, rfl⟩
    have L16 : L ≤ 16 := by split at h2 <;> omega
    have eL : V.int ((1 : Int) + ((d2 : Nat) : Int)) = V.int ((L : Nat) : Int) := by congr 1; omega
    simp only [eL]
    -- many
    refine ⟨_, rfl, _, rfl, by show 3 ≤ sizeLine; decide, fun k2 n2 => ⟨_, rfl, _, rfl, p, a, ns, 3, rfl, g2.b.same (same_new n2), by decide, by decide, fun H3 b3 g3 h3 => ⟨k2, _, _, _, rfl, rfl, SqL.of (g3.get (upd_same (H := H2) (a := k2) (o := .lst [.int 5, .int 20, .int 64])) (g2.b.off n2)), atI_three (x := 5) (y := 20) (z := 64) h3, ?_⟩⟩⟩
    have g3 := (g2.more (same_new n2)).trans g3
    refine ⟨p, a, ns, _, rfl, g3.b, by split <;> (try split) <;> decide, by split <;> (try split) <;> decide, fun H4 d4 g4 h4 => ⟨_, _, rfl, rfl, ?_⟩⟩
    have g4 := g3.trans g4
    obtain ⟨M, hM⟩ : ∃ M, M = 1 + d4 := ⟨_, rfl⟩
    have M64 : M ≤ 64 := by
      split at h4
      · omega
      · split at h4 <;> omega
    have eM : V.int ((1 : Int) + ((d4 : Nat) : Int)) = V.int ((M : Nat) : Int) := by congr 1; omega
    simp only [eM]
    -- rows
    refine ⟨by show 0 ≤ sizeLine; decide, fun r nr => ?_⟩
    have nr0 : H r = none := g4.non nr
    have nrp := g4.b.off nr
    refine ⟨_, rfl, _, rfl, by omega, by omega, for_range (n := M) (fun i σ Hx => ∃ (y5 y6 y7 : Option V) (us : List V) (rs : List (Nat × List Nat)), σ = [some (.ref p), some (.ref a), some (.int (L : Nat)), some (.int (M : Nat)), some (.ref r), y5, y6, y7, none] ∧ Gw K p a ns H4 Hx ∧ Hx r = some (.lst us) ∧ Dvs (hid r (hid p Hx)) us rs ∧ rs.length = i ∧ ∀ row ∈ rs, ROk L M row) ⟨none, none, none, [], [], rfl, Gw.of g4.b (same_new nr), upd_same, .nil, rfl, by simp⟩ ?_ ?_⟩
    · rintro i σ Hx hi ⟨y5, y6, y7, us, rs, rfl, gx, hrx, hus, lrs, ok⟩
      refine ⟨_, rfl, _, rfl, by show 2 ≤ sizeLine; decide, fun k3 n3 => ⟨_, rfl, _, rfl, p, a, ns, 2, rfl, gx.b.same (same_new n3), by decide, by decide, fun Ha ba ga ha => ⟨k3, _, _, _, rfl, rfl, SqL.of (ga.get (upd_same (H := Hx) (a := k3) (o := .lst [.int 3, .int 256])) (gx.b.off n3)), atI_two (x := 3) (y := 256) ha, ?_⟩⟩⟩
      have ga := (Gw.of gx.b (same_new n3)).trans ga
      refine ⟨p, a, ns, _, rfl, ga.b, by split <;> decide, by split <;> decide, fun Hb out gb hout => ?_⟩
      have gb := ga.trans gb
      have out256 : out < 256 := by split at hout <;> omega
      refine ⟨_, rfl, _, rfl, _, rfl, p, a, ns, M, rfl, gb.b, by omega, by omega, fun Hc dc gc hc => ⟨_, _, rfl, rfl, ?_⟩⟩
      have gc := gb.trans gc
      obtain ⟨S, hS⟩ : ∃ S, S = 1 + dc := ⟨_, rfl⟩
      have eS : V.int ((1 : Int) + ((dc : Nat) : Int)) = V.int ((S : Nat) : Int) := by congr 1; omega
      simp only [eS]
      have hrc := gc.get hrx nrp
      refine ⟨_, rfl, .inl ⟨rfl, _, SqL.of hrc⟩, _, rfl, _, rfl, _, rfl, by omega, by omega, fun D nD => lc_range (n := L) (fun j Hz => ∃ xs : List Nat, Gw K p a ns Hc Hz ∧ Hz D = some (.lst (vn xs)) ∧ xs.length = j ∧ ∀ x ∈ xs, x < M) ⟨[], Gw.of gc.b (same_new nD), upd_same, rfl, by simp⟩ ?_ ?_⟩
      · rintro j Hz hj ⟨xs, g, hD, lx, bx⟩
        refine ⟨rfl, _, rfl, _, rfl, _, rfl, p, a, ns, S, rfl, g.b, by omega, by omega, fun Hw x gw hx => ⟨_, gw.get' gc.b nD hD, by rw [vn_len]; exact smallf (by omega), xs ++ [x], (g.trans gw).mut nD, ?_, by rw [List.length_append, lx]; rfl, mem_snoc bx (by omega)⟩⟩
        rw [upd_same, vn_snoc]
      rintro Hz ⟨xs, gz, hD, lx, bx⟩
      have gcz := gc.trans gz
      refine ⟨by show 2 ≤ sizeLine; decide, fun t nt => ?_⟩
      have st := same_new (o := .tup [.int ((out : Nat) : Int), .ref D]) nt
      have hrv := st _ _ (gcz.get hrx nrp)
      have gv2 := gcz.more st
      have gall := (gx.trans gv2).mut (o := .lst (us ++ [.ref t])) nr
      have lus := hus.len
      refine ⟨r, _, _, rfl, rfl, hrv, by rw [lus, lrs]; exact smallf (by omega), _, _, _, us ++ [.ref t], rs ++ [(out, xs)], rfl, gall, upd_same, ?_, by rw [List.length_append, lrs]; rfl, mem_snoc ok ⟨out256, lx, bx⟩⟩
      have sh : Same (hid r (hid p Hx)) (hid r (hid p (upd (upd Hz t (.tup [.int ((out : Nat) : Int), .ref D])) r (.lst (us ++ [.ref t]))))) := fun b o e => by
        obtain ⟨n1, e⟩ := hid_some e
        obtain ⟨n2, e⟩ := hid_some (gv2.s _ _ e)
        exact hid_of n1 (hid_of n2 (by rw [upd_ne n1]; exact e))
      have ntr : t ≠ r := fun e => by rw [e, gcz.get hrx nrp] at nt; cases nt
      have ntp := gcz.b.off nt
      have nDr : D ≠ r := fun e => by rw [e, hrc] at nD; cases nD
      have nDp := gc.b.off nD
      refine (hus.same sh).app (.cons (.pair (x := out) (y := xs) (hid_of ntr (hid_of ntp (by rw [upd_ne ntr]; exact upd_same))) (.nat _) (.natl (hid_of nDr (hid_of nDp ?_)))) .nil)
      rw [upd_ne nDr]
      exact st _ _ hD
    rintro σ H7 ⟨y5, y6, y7, us, rs, rfl, g7, hr7, hus, lrs, ok⟩
    have hus7 := hus.same (hid_same r _)
    refine ⟨_, rfl, _, rfl, by show 3 ≤ sizeLine; decide, fun t nt => ?_⟩
    have st := same_new (o := .tup [.str "moore", .int (L : Nat), .ref r]) nt
    refine q _ t ⟨L, rs⟩ ((g4.trans g7).more st) ((g4.trans g7).non nt) ?_ ⟨by show 1 ≤ L; omega, L16, by show 1 ≤ rs.length; omega, by show rs.length ≤ 64; omega, fun row hrow => ?_⟩
    · exact Dv.mach (m := ⟨L, rs⟩) (hid_of (g7.b.off nt) upd_same) (hid_of nrp (st _ _ hr7)) (hus7.same (hid_mono st))
    · have := ok row hrow
      rw [← lrs] at this
      exact this

end K24
namespace K24
open PySem PySem.Spec PyProof.Rows L2 V0
theorem ne_of_none' {H : Hp} {a b : Addr} {o : HO} (h : H b = some o) (n : H a = none) : a ≠ b := fun e => by
  rw [e, h] at n
  cases n
/-! ### expressions -/
inductive Ex where
  | cst (w v : Nat)
  | nm (w : Nat) (n : Str)
  | cut (w : Nat) (e : Ex) (low : Nat)
  | cho (w : Nat) (t a b : Ex)
def Ex.toD : Ex → PyData
  | .cst w v => .tuple [.str "const", .int (w : Nat), .int (v : Nat)]
  | .nm w n => .tuple [.str "name", .int (w : Nat), .str n]
  | .cut w e low => .tuple [.str "cut", .int (w : Nat), e.toD, .int (low : Nat)]
  | .cho w t a b => .tuple [.str "choose", .int (w : Nat), t.toD, a.toD, b.toD]
def Ex.val (env : Str → Nat) : Ex → Nat
  | .cst _ v => v
  | .nm _ n => env n
  | .cut w e low => (e.val env / 2 ^ low) % 2 ^ w
  | .cho _ t a b => if t.val env = 1 then a.val env else b.val env
def Ex.deep : Ex → Nat
  | .cst _ _ => 1
  | .nm _ _ => 1
  | .cut _ e _ => e.deep + 1
  | .cho _ t a b => max t.deep (max a.deep b.deep) + 1
/-- all names are told, all numbers are small -/
def Ex.fine (ns : List Str) : Ex → Prop
  | .cst _ _ => True
  | .nm _ n => n ∈ ns
  | .cut w e low => w ≤ 1000 ∧ low ≤ 1000 ∧ e.fine ns
  | .cho _ t a b => t.fine ns ∧ a.fine ns ∧ b.fine ns
def bitE (n : Str) (w low : Nat) : Ex := .cut 1 (.nm w n) low
/-- looked up, the bits from the high one down -/
def lkr (w : Nat) : List Ex → List Nat → Ex
  | [], T => .cst w (T[0]?.getD 0)
  | b :: r, T => if T = List.replicate T.length (T[0]?.getD 0) then .cst w (T[0]?.getD 0) else .cho w b (lkr w r (T.drop (T.length / 2))) (lkr w r (T.take (T.length / 2)))
def idx (env : Str → Nat) : List Ex → Nat
  | [] => 0
  | b :: r => (if b.val env = 1 then 2 ^ r.length else 0) + idx env r
theorem idx_lt (env : Str → Nat) : ∀ r : List Ex, idx env r < 2 ^ r.length
  | [] => Nat.zero_lt_one
  | b :: r => by
    have := idx_lt env r
    show (if b.val env = 1 then 2 ^ r.length else 0) + idx env r < 2 ^ (r.length + 1)
    rw [Nat.pow_succ]
    split <;> omega
theorem lkr_val (env : Str → Nat) (w : Nat) : ∀ (r : List Ex) (T : List Nat), T.length = 2 ^ r.length → (lkr w r T).val env = T[idx env r]?.getD 0
  | [], T, _ => rfl
  | b :: r, T, h => by
    have lt := idx_lt env (b :: r)
    unfold lkr
    by_cases c : T = List.replicate T.length (T[0]?.getD 0)
    · rw [if_pos c]
      show T[0]?.getD 0 = _
      have hl : idx env (b :: r) < T.length := by rw [h]; exact lt
      rw [List.getElem?_eq_getElem hl]
      have e : ∀ x ∈ T, x = T[0]?.getD 0 := fun x hx => by
        rw [c] at hx
        exact List.eq_of_mem_replicate hx
      exact (e _ (List.getElem_mem hl)).symm
    · rw [if_neg c]
      have hh : T.length / 2 = 2 ^ r.length := by rw [h]; show 2 ^ (r.length + 1) / 2 = _; rw [Nat.pow_succ]; omega
      have h2 : T.length = 2 ^ r.length * 2 := by rw [h]; exact Nat.pow_succ ..
      have l1 : (T.drop (T.length / 2)).length = 2 ^ r.length := by rw [List.length_drop, hh, h2]; omega
      have l2 : (T.take (T.length / 2)).length = 2 ^ r.length := by rw [List.length_take, hh, h2]; omega
      have lr := idx_lt env r
      show (if b.val env = 1 then (lkr w r (T.drop (T.length / 2))).val env else (lkr w r (T.take (T.length / 2))).val env) = T[(if b.val env = 1 then 2 ^ r.length else 0) + idx env r]?.getD 0
      by_cases k : b.val env = 1
      · rw [if_pos k, if_pos k, lkr_val env w r _ l1, List.getElem?_drop, hh]
      · rw [if_neg k, if_neg k, lkr_val env w r _ l2, List.getElem?_take, Nat.zero_add, if_pos (by rw [hh]; exact lr)]
theorem lkr_deep (w : Nat) {d : Nat} (d1 : 1 ≤ d) : ∀ (r : List Ex) (T : List Nat), (∀ b ∈ r, b.deep ≤ d) → (lkr w r T).deep ≤ d + r.length
  | [], T, _ => d1
  | b :: r, T, h => by
    unfold lkr
    split
    · show 1 ≤ _
      omega
    · have h1 := lkr_deep w d1 r (T.drop (T.length / 2)) fun x hx => h x (List.mem_cons_of_mem _ hx)
      have h2 := lkr_deep w d1 r (T.take (T.length / 2)) fun x hx => h x (List.mem_cons_of_mem _ hx)
      have h3 := h b List.mem_cons_self
      show max _ (max _ _) + 1 ≤ d + (r.length + 1)
      omega
theorem lkr_fine (w : Nat) {ns : List Str} : ∀ (r : List Ex) (T : List Nat), (∀ b ∈ r, b.fine ns) → (lkr w r T).fine ns
  | [], T, _ => trivial
  | b :: r, T, h => by
    unfold lkr
    split
    · trivial
    · exact ⟨h b List.mem_cons_self, lkr_fine w r _ fun x hx => h x (List.mem_cons_of_mem _ hx), lkr_fine w r _ fun x hx => h x (List.mem_cons_of_mem _ hx)⟩
/-- the bits of a name, from the high one down -/
def nbits (n : Str) (W : Nat) : Nat → List Ex
  | 0 => []
  | k + 1 => bitE n W k :: nbits n W k
theorem nbits_len (n : Str) (W : Nat) : ∀ k, (nbits n W k).length = k
  | 0 => rfl
  | k + 1 => by
    show (nbits n W k).length + 1 = _
    rw [nbits_len n W k]
theorem nbits_rev (n : Str) (W : Nat) : ∀ k, (nbits n W k).reverse = (List.range k).map (bitE n W)
  | 0 => rfl
  | k + 1 => by
    show (bitE n W k :: nbits n W k).reverse = _
    rw [List.reverse_cons, nbits_rev n W k, List.range_succ, List.map_append]
    rfl
theorem nbits_all {n : Str} {W : Nat} {ns : List Str} (hn : n ∈ ns) : ∀ {k : Nat}, k ≤ 1000 → ∀ b ∈ nbits n W k, b.fine ns ∧ b.deep ≤ 2
  | 0, _, b, h => by cases h
  | k + 1, hk, b, h => by
    rcases List.mem_cons.mp h with rfl | h
    · exact ⟨⟨by decide, by omega, hn⟩, Nat.le_refl 2⟩
    · exact nbits_all hn (by omega) b h
theorem idx_app (env : Str → Nat) : ∀ (r s : List Ex), idx env (r ++ s) = idx env r * 2 ^ s.length + idx env s
  | [], s => by show idx env s = 0 * _ + _; omega
  | b :: r, s => by
    show (if b.val env = 1 then 2 ^ (r ++ s).length else 0) + idx env (r ++ s) = ((if b.val env = 1 then 2 ^ r.length else 0) + idx env r) * 2 ^ s.length + idx env s
    rw [idx_app env r s, List.length_append, Nat.pow_add, Nat.add_mul]
    split <;> omega
theorem idx_nbits (env : Str → Nat) (n : Str) (W : Nat) : ∀ k, idx env (nbits n W k) = env n % 2 ^ k
  | 0 => by
    show 0 = _
    rw [Nat.pow_zero, Nat.mod_one]
  | k + 1 => by
    show (if (env n / 2 ^ k) % 2 ^ 1 = 1 then 2 ^ (nbits n W k).length else 0) + idx env (nbits n W k) = _
    have e : env n % 2 ^ (k + 1) = env n % 2 ^ k + 2 ^ k * (env n / 2 ^ k % 2) := by rw [Nat.pow_succ, Nat.mod_mul]
    rw [nbits_len, idx_nbits env n W k, Nat.pow_one, e]
    have : env n / 2 ^ k % 2 = 0 ∨ env n / 2 ^ k % 2 = 1 := by omega
    rcases this with h | h
    · rw [if_neg (by omega), h]
      omega
    · rw [if_pos h, h]
      omega
/-- widths of numbers -/
def wd (n : Nat) : Nat := max 1 (if n = 0 then 0 else n.log2 + 1)
theorem wd_pos (n : Nat) : 1 ≤ wd n := Nat.le_max_left ..
theorem wd_lt (n : Nat) : n < 2 ^ wd n := by
  unfold wd
  by_cases c : n = 0
  · rw [if_pos c, c]
    decide
  · rw [if_neg c]
    exact Nat.lt_of_lt_of_le Nat.lt_log2_self (Nat.pow_le_pow_right (by decide) (Nat.le_max_right ..))
theorem wd_le {n m : Nat} (h : n < 2 ^ m) (hm : 1 ≤ m) : wd n ≤ m := by
  unfold wd
  by_cases c : n = 0
  · rw [if_pos c]
    omega
  · rw [if_neg c]
    have := (Nat.log2_lt c).mpr h
    omega
theorem bits_nat (n : Nat) : Builtin.Int.intBits ((n : Nat) : Int) = if n = 0 then 0 else n.log2 + 1 := by
  unfold Builtin.Int.intBits
  by_cases c : n = 0
  · rw [if_pos c, c]
    rfl
  · rw [if_neg c, if_neg (by
      rw [beq_iff_eq]
      omega)]
    rfl

/-! ### small defs -/
theorem cpow1 {x : Nat} (h : x ≤ 1000000) : CPow 1 (x : Int) := ⟨Int.natCast_nonneg _, by omega, by decide⟩
def sp_remainder (K : PySem.W.Frag) : Sp := fun vs H Q _ => ∃ n w : Nat, vs = [.int (n : Nat), .int (w : Nat)] ∧ w ≤ 1000 ∧ Q (.int (n % 2 ^ w : Nat)) H
theorem ok_remainder {P : Program} {w : World} {K : PySem.W.Frag} {mg : Str → Option Value} {base : Heap} {tk_OUTPUT_WIDTH : Tok} {f  : Addr} {fd  : FuncData} (F : Fun K "remainder" "remainder" s_remainder f fd) (T : Txt K mg tk_OUTPUT_WIDTH) :
    FnOk P w K mg base CX0 1 f fd ["number", "width"] (sp_remainder K) := by
  refine F.ok scremainder (fun vs H Q E h => ?_) (fun cdv A outer s H vs Q E hr h => ?_)
  · obtain ⟨n, w, rfl, _⟩ := h
    rfl
  · obtain ⟨n, w, rfl, hw, q⟩ := h
    refine ⟨_, (pss_one (ps_ret (pe_op op_and (pv 0) (pe_op op_sub (pe_op op_shl pe_int (pv 1)) pe_int)))), ?_⟩
    refine ⟨_, rfl, _, rfl, _, _, rfl, rfl, cpow1 (by omega), _, _, rfl, rfl, _, _, rfl, rfl, ?_⟩
    have hp := Nat.two_pow_pos w
    have e : (1 : Int) * 2 ^ ((w : Int)).toNat - 1 = ((2 ^ w - 1 : Nat) : Int) := by
      rw [shl_one]
      omega
    show Q (V.int (Builtin.bitAnd ((n : Nat) : Int) ((1 : Int) * 2 ^ ((w : Int)).toNat - 1))) H
    rw [e, band, Nat.and_two_pow_sub_one_eq_mod]
    exact q
def sp_cut_word (K : PySem.W.Frag) : Sp := fun vs H Q _ => ∃ n l w : Nat, vs = [.int (n : Nat), .int (l : Nat), .int (w : Nat)] ∧ w ≤ 1000 ∧ l ≤ 1000 ∧ Q (.int ((n / 2 ^ l) % 2 ^ w : Nat)) H
theorem ok_cut_word {P : Program} {w : World} {K : PySem.W.Frag} {mg : Str → Option Value} {base : Heap} {tk_OUTPUT_WIDTH : Tok} {f fremainder : Addr} {fd fdremainder : FuncData} (F : Fun K "cut_word" "cut_word" s_cut_word f fd) (T : Txt K mg tk_OUTPUT_WIDTH)
    (G_remainder : FnOk P w K mg base CX0 1 fremainder fdremainder ["number", "width"] (sp_remainder K)) (D_remainder : Def K mg "remainder" fremainder fdremainder ["number", "width"]) :
    FnOk P w K mg base CX0 2 f fd ["word", "low", "width"] (sp_cut_word K) := by
  refine F.ok sccut_word (fun vs H Q E h => ?_) (fun cdv A outer s H vs Q E hr h => ?_)
  · obtain ⟨n, l, w, rfl, _⟩ := h
    rfl
  · obtain ⟨n, l, w, rfl, hw, hl, q⟩ := h
    refine ⟨_, (pss_one (ps_ret (pe_call G_remainder (hr.mono (by omega)) (by rfl) D_remainder.m D_remainder.k D_remainder.b .nil pass0 (pa_cons (pe_op op_shr (pv 0) (pv 1)) (pa_cons (pv 2) pa_nil))))), ?_⟩
    refine ⟨_, rfl, _, rfl, _, _, rfl, rfl, Int.natCast_nonneg _, _, rfl, n / 2 ^ l, w, ?_, hw, q⟩
    show [V.int (((n : Nat) : Int) / 2 ^ ((l : Int)).toNat), V.int ((w : Nat) : Int)] = _
    rw [shr_nat]
def sp__width_of (K : PySem.W.Frag) : Sp := fun vs H Q _ => ∃ n : Nat, vs = [.int (n : Nat)] ∧ Q (.int (wd n : Nat)) H
theorem ok__width_of {P : Program} {w : World} {K : PySem.W.Frag} {mg : Str → Option Value} {base : Heap} {tk_OUTPUT_WIDTH : Tok} {f  : Addr} {fd  : FuncData} (F : Fun K "_width_of" "_width_of" s__width_of f fd) (T : Txt K mg tk_OUTPUT_WIDTH) :
    FnOk P w K mg base CX0 1 f fd ["number"] (sp__width_of K) := by
  refine F.ok sc_width_of (fun vs H Q E h => ?_) (fun cdv A outer s H vs Q E hr h => ?_)
  · obtain ⟨n, rfl, _⟩ := h
    rfl
  · obtain ⟨n, rfl, q⟩ := h
    refine ⟨_, (pss_one (ps_ret (pe_callB (call_max2 (by rfl)) (by rfl) T.m_max (by decide +kernel) (pa_cons pe_int (pa_cons (pe_bits (pv 0)) pa_nil))))), ?_⟩
    refine ⟨_, rfl, _, rfl, _, _, rfl, ?_⟩
    show Q (V.int (if ((Builtin.Int.intBits ((n : Nat) : Int) : Nat) : Int) > ((1 : Nat) : Int) then ((Builtin.Int.intBits ((n : Nat) : Int) : Nat) : Int) else ((1 : Nat) : Int))) H
    rw [vmax2, bits_nat]
    exact q
/-- a list of expressions stands in the heap -/
def Xs (H : Hp) (us : List V) (es : List Ex) : Prop := DhAll H us (es.map Ex.toD)
theorem Xs.same {H H' : Hp} {us : List V} {es : List Ex} (h : Xs H us es) (s : Same H H') : Xs H' us es := dh_sameAll s _ _ h
theorem Xs.len {H : Hp} : ∀ {us : List V} {es : List Ex}, Xs H us es → us.length = es.length
  | _, [], h => by cases h; rfl
  | _, e :: es, h => by
    cases h with
    | cons h1 h2 =>
      rw [List.length_cons, List.length_cons]
      have := Xs.len (es := es) h2
      omega
theorem Xs.app {H : Hp} : ∀ {us vs : List V} {es fs : List Ex}, Xs H us es → Xs H vs fs → Xs H (us ++ vs) (es ++ fs)
  | _, _, [], _, h, g => by cases h; exact g
  | _, _, e :: es, _, h, g => by
    cases h with
    | cons h1 h2 => exact DhAll.cons h1 (Xs.app (es := es) h2 g)
theorem Xs.get {H : Hp} : ∀ {us : List V} {es : List Ex} {i : Nat} {e : Ex}, Xs H us es → es[i]? = some e → ∃ v, us[i]? = some v ∧ Dh H v e.toD
  | _, [], i, _, h, e => by simp at e
  | _, _ :: _, 0, _, h, e => by
    cases h with
    | cons h1 h2 =>
      cases e
      exact ⟨_, rfl, h1⟩
  | _, _ :: es, i + 1, _, h, e => by
    cases h with
    | cons h1 h2 => exact Xs.get (es := es) (i := i) h2 e
theorem Xs.take {H : Hp} : ∀ {us : List V} {es : List Ex} (n : Nat), Xs H us es → Xs H (us.take n) (es.take n)
  | _, _, 0, _ => by rw [List.take_zero, List.take_zero]; exact .nil
  | _, [], n + 1, h => by cases h; exact .nil
  | _, e :: es, n + 1, h => by
    cases h with
    | cons h1 h2 => exact DhAll.cons h1 (Xs.take (es := es) n h2)
def sp__bits_of_name (K : PySem.W.Frag) : Sp := fun vs H Q _ => ∃ (n : Str) (w : Nat), vs = [.str n, .int (w : Nat)] ∧ w ≤ 1000 ∧ ∀ H' q us, Same H H' → H q = none → H' q = some (.lst us) → Xs H' us ((List.range w).map (bitE n w)) → Q (.ref q) H'
theorem ok__bits_of_name {P : Program} {w : World} {K : PySem.W.Frag} {mg : Str → Option Value} {base : Heap} {tk_OUTPUT_WIDTH : Tok} {f  : Addr} {fd  : FuncData} (F : Fun K "_bits_of_name" "_bits_of_name" s__bits_of_name f fd) (T : Txt K mg tk_OUTPUT_WIDTH) :
    FnOk P w K mg base CX0 1 f fd ["name", "width"] (sp__bits_of_name K) := by
  refine F.ok sc_bits_of_name (fun vs H Q E h => ?_) (fun cdv A outer s H vs Q E hr h => ?_)
  · obtain ⟨n, w, rfl, _⟩ := h
    rfl
  · obtain ⟨n, w, rfl, hw, q⟩ := h
    refine ⟨_, (pss_one (ps_ret (pe_lc (own := [("low", 2)]) (g := gName 2) (tt := tYes) rfl sc_bits_of_name.nd (pi_range1 rfl T.m_range (pa_cons (pv 1) pa_nil)) (blkOk_by (N := N__bits_of_name) (sc := defScope s__bits_of_name) (by decide +kernel)) (fun _ _ _ _ _ => (pg_name (i := 2) sc_bits_of_name.nd rfl (Or.inl rfl))) (fun _ _ _ _ _ => pts_nil) (fun _ _ _ _ _ => (pe_tup (pa_cons pe_str (pa_cons pe_int (pa_cons (pe_tup (pa_cons pe_str (pa_cons (pv 1) (pa_cons (pv 0) pa_nil)))) (pa_cons (pv 2) pa_nil))))))))), ?_⟩
    refine ⟨_, rfl, _, rfl, by omega, by omega, fun D nD => lc_range (n := w) (fun i Hx => ∃ us : List V, Same H Hx ∧ Hx D = some (.lst us) ∧ Xs (hid D Hx) us ((List.range i).map (bitE n w))) ⟨[], same_new nD, upd_same, .nil⟩ ?_ ?_⟩
    · rintro i Hx hi ⟨us, sx, hD, hus⟩
      refine ⟨rfl, _, rfl, _, rfl, by show 3 ≤ sizeLine; decide, fun t1 n1 => ⟨_, rfl, by show 4 ≤ sizeLine; decide, fun t2 n2 => ?_⟩⟩
      have s1 := same_new (o := .tup [.str "name", .int (w : Nat), .str n]) n1
      have s2 := same_new (o := .tup [.str "cut", .int 1, .ref t1, .int ((0 : Int) + (i : Nat))]) n2
      have s12 := s1.trans s2
      have hDt := s12 _ _ hD
      have ne1 : t1 ≠ D := ne_of_none' hD n1
      have ne2 : t2 ≠ D := ne_of_none' (s1 _ _ hD) n2
      refine ⟨us, hDt, ?_, us ++ [.ref t2], same_mut (sx.trans s12) nD, upd_same, ?_⟩
      · rw [hus.len, List.length_map, List.length_range]
        exact small1000 (by omega)
      · rw [map_range_succ]
        have sh : Same (hid D Hx) (hid D (upd (upd (upd Hx t1 (.tup [.str "name", .int (w : Nat), .str n])) t2 (.tup [.str "cut", .int 1, .ref t1, .int ((0 : Int) + (i : Nat))])) D (.lst (us ++ [V.ref t2])))) := (hid_mono s12).trans hid_mut
        refine (hus.same sh).app (.cons ?_ .nil)
        have e1 : hid D (upd (upd (upd Hx t1 (.tup [.str "name", .int (w : Nat), .str n])) t2 (.tup [.str "cut", .int 1, .ref t1, .int ((0 : Int) + (i : Nat))])) D (.lst (us ++ [V.ref t2]))) t1 = some (.tup [.str "name", .int (w : Nat), .str n]) := hid_of ne1 (by rw [upd_ne ne1]; exact s2 _ _ upd_same)
        have e2 : hid D (upd (upd (upd Hx t1 (.tup [.str "name", .int (w : Nat), .str n])) t2 (.tup [.str "cut", .int 1, .ref t1, .int ((0 : Int) + (i : Nat))])) D (.lst (us ++ [V.ref t2]))) t2 = some (.tup [.str "cut", .int ((1 : Nat) : Int), .ref t1, .int ((i : Nat) : Int)]) := hid_of ne2 (by rw [upd_ne ne2, upd_same, Int.zero_add]; rfl)
        exact Dh.tup e2 (.cons (.str _) (.cons (.int _) (.cons (Dh.tup e1 (.cons (.str _) (.cons (.int _) (.cons (.str _) .nil)))) (.cons (.int _) .nil))))
    · rintro Hx ⟨us, sx, hD, hus⟩
      exact q Hx D us sx nD hD (dh_sameAll (hid_same D Hx) _ _ hus)

end K24
namespace K24
open PySem PySem.Spec PyProof.Rows L2 V0
/-! ### looked up -/
theorem rep_flat (v : V) : ∀ n : Nat, (List.replicate n [v]).flatten = List.replicate n v
  | 0 => rfl
  | n + 1 => by
    rw [List.replicate_succ, List.flatten_cons, rep_flat v n, List.replicate_succ]
    rfl
theorem atI_end {xs : List V} {v : V} (h : xs[xs.length - 1]? = some v) (hl : 0 < xs.length) : atI xs (-1) = some v := by
  unfold atI ixN
  rw [if_neg (by omega), if_pos (by omega)]
  show xs[((-1 : Int) + (xs.length : Int)).toNat]? = _
  rw [show ((-1 : Int) + (xs.length : Int)).toNat = xs.length - 1 by omega]
  exact h
def LU (K : PySem.W.Frag) (M : Nat) : Sp := fun vs H Q _ => ∃ (r t : Addr) (us : List V) (rb : List Ex) (TB : List Nat) (w : Nat), vs = [.ref r, .ref t, .int (w : Nat)] ∧ H r = some (.lst us) ∧ Xs H us rb.reverse ∧ H t = some (.lst (vn TB)) ∧ TB.length = 2 ^ rb.length ∧ rb.length < M ∧ rb.length ≤ 12 ∧
  ∀ H' v, Same H H' → Dh H' v (lkr w rb TB).toD → Q v H'
def sp__looked_up (K : PySem.W.Frag) : Sp := LU K 13
theorem looked_ind {P : Program} {w : World} {K : PySem.W.Frag} {mg : Str → Option Value} {base : Heap} {tk_OUTPUT_WIDTH : Tok} {f : Addr} {fd : FuncData} (F : Fun K "_looked_up" "_looked_up" s__looked_up f fd) (T : Txt K mg tk_OUTPUT_WIDTH)
    (D__looked_up : Def K mg "_looked_up" f fd ["bits", "table", "width"]) :
    ∀ M, FnOk P w K mg base CX0 (M + 1) f fd ["bits", "table", "width"] (LU K M)
  | 0 => by
    refine ⟨fun vs H Q E h => ?_, fun A outer s H args us vs Q E hr he hb hv h => ?_⟩
    · obtain ⟨r, t, us, rb, TB, wi, rfl, _⟩ := h
      rfl
    · obtain ⟨r, t, us, rb, TB, wi, _, _, _, _, _, lt, _⟩ := h
      exact absurd lt (Nat.not_lt_zero _)
  | M + 1 => by
    have G__looked_up : FnOk P w K mg base CX0 (M + 1) f fd ["bits", "table", "width"] (LU K M) := looked_ind F T D__looked_up M
    refine F.ok sc_looked_up (fun vs H Q E h => ?_) (fun cdv A outer s H vs Q E hr h => ?_)
    · obtain ⟨r, t, us, rb, TB, wi, rfl, _⟩ := h
      rfl
    · obtain ⟨r, t, us, rb, TB, wi, rfl, hr', hus, ht, hl, lt, l12, q⟩ := h
      refine ⟨_, (pss_cons (ps_if (pt_cmpR (op_eqD hr.units) (pv 1) (pe_op op_rep (pe_lst (pa_cons (pe_ix (r := rIxL K) ix_list (pv 1) pe_int (fun _ _ => rfl)) pa_nil)) (pe_callB call_len_seq (by rfl) T.m_len (by decide +kernel) (pa_cons (pv 1) pa_nil))) (nomark _)) (pss_one (ps_ret (pe_tup (pa_cons pe_str (pa_cons (pv 2) (pa_cons (pe_ix (r := rIxL K) ix_list (pv 1) pe_int (fun _ _ => rfl)) pa_nil)))))) pss_nil)
      (pss_cons (ps_set (i := 3) sc_looked_up.nd rfl (.inl rfl) (pe_op op_fdivN (pe_callB call_len_seq (by rfl) T.m_len (by decide +kernel) (pa_cons (pv 1) pa_nil)) pe_int))
      (pss_cons (ps_set (i := 4) sc_looked_up.nd rfl (.inl rfl) (pe_slice sl_list (pv 0) po_none (po_some (pe_un un_neg pe_int))))
      (pss_one (ps_ret (pe_tup (pa_cons pe_str (pa_cons (pv 2) (pa_cons (pe_ix (r := rIxL K) ix_list (pv 0) (pe_un un_neg pe_int) (fun _ _ => rfl)) (pa_cons (pe_call G__looked_up (hr.mono (by omega)) (by rfl) D__looked_up.m D__looked_up.k D__looked_up.b .nil pass0 (pa_cons (pv 4) (pa_cons (pe_slice sl_list (pv 1) (po_some (pv 3)) po_none) (pa_cons (pv 2) pa_nil)))) (pa_cons (pe_call G__looked_up (hr.mono (by omega)) (by rfl) D__looked_up.m D__looked_up.k D__looked_up.b .nil pass0 (pa_cons (pv 4) (pa_cons (pe_slice sl_list (pv 1) po_none (po_some (pv 3))) (pa_cons (pv 2) pa_nil)))) pa_nil))))))))))), ?_⟩
      have tp : 0 < TB.length := by rw [hl]; exact Nat.two_pow_pos _
      have tm : TB.length ≤ 4096 := by rw [hl]; exact Nat.pow_le_pow_right (by decide) l12
      have e0 := List.getElem?_eq_getElem tp
      refine ⟨_, rfl, _, rfl, t, _, 0, _, rfl, rfl, SqL.of ht, atI_nat (j := 0) (vn_get e0), by show 1 ≤ sizeLine; decide, fun l nl => ?_⟩
      have s1 := same_new (o := .lst [V.int ((TB[0] : Nat) : Int)]) nl
      have ht1 := s1 _ _ ht
      have el : V.int (((vn TB).length : Nat) : Int) = V.int ((TB.length : Nat) : Int) := by rw [vn_len]
      refine ⟨_, rfl, t, _, rfl, .inl (SqL.of ht1), ?_⟩
      simp only [el]
      refine ⟨l, _, _, rfl, rfl, upd_same, by omega, by omega, ?_, fun l2 nl2 => ?_⟩
      · show 1 * _ ≤ _
        rw [Int.toNat_natCast]
        exact Nat.le_of_lt (small64k (by omega))
      have s2 := same_new (o := .lst (List.replicate ((TB.length : Nat) : Int).toNat [V.int ((TB[0] : Nat) : Int)]).flatten) nl2
      have hl2 : (upd (upd H l (.lst [V.int ((TB[0] : Nat) : Int)])) l2 (.lst (List.replicate ((TB.length : Nat) : Int).toNat [V.int ((TB[0] : Nat) : Int)]).flatten)) l2 = some (.lst (vn (List.replicate TB.length TB[0]))) := by
        rw [upd_same, rep_flat, Int.toNat_natCast]
        unfold vn
        rw [List.map_replicate]
      have s12 := s1.trans s2
      generalize (upd (upd H l (.lst [V.int ((TB[0] : Nat) : Int)])) l2 (.lst (List.replicate ((TB.length : Nat) : Int).toNat [V.int ((TB[0] : Nat) : Int)]).flatten)) = H2 at s12 hl2 ⊢
      have ht2 := s12 _ _ ht
      refine eqD (a := TB) (b := List.replicate TB.length TB[0]) (.natl ht2) (.natl hl2) (by decide) ⟨_, rfl, ?_⟩
      have eg : TB[0]?.getD 0 = TB[0] := by rw [e0]; rfl
      by_cases c : TB = List.replicate TB.length TB[0]
      · rw [decide_eq_true c]
        refine iteT ⟨_, rfl, _, rfl, t, _, 0, _, rfl, rfl, SqL.of ht2, atI_nat (j := 0) (vn_get e0), by show 3 ≤ sizeLine; decide, fun z nz => q _ _ (s12.trans (same_new nz)) ?_⟩
        have e : lkr wi rb TB = .cst wi TB[0] := by
          cases rb with
          | nil => show Ex.cst wi (TB[0]?.getD 0) = _; rw [eg]
          | cons b r =>
            unfold lkr
            rw [eg, if_pos c]
        rw [e]
        exact Dh.tup upd_same (.cons (.str _) (.cons (.int _) (.cons (.int _) .nil)))
      rw [decide_eq_false c]
      refine iteF ?_
      cases rb with
      | nil =>
        exfalso
        have l1 : TB.length = 1 := hl
        refine c ?_
        match TB, l1 with
        | [x], _ => rfl
      | cons b rr =>
        have elk : lkr wi (b :: rr) TB = .cho wi b (lkr wi rr (TB.drop (TB.length / 2))) (lkr wi rr (TB.take (TB.length / 2))) := by
          rw [lkr, eg, if_neg c]
        rw [elk] at q
        have hh : TB.length / 2 = 2 ^ rr.length := by rw [hl]; show 2 ^ (rr.length + 1) / 2 = _; rw [Nat.pow_succ]; omega
        have h2 : TB.length = 2 ^ rr.length * 2 := by rw [hl]; exact Nat.pow_succ ..
        have ul : us.length = rr.length + 1 := by
          rw [hus.len, List.length_reverse]
          rfl
        have rl : rr.length ≤ 11 := by
          have : rr.length + 1 ≤ 12 := l12
          omega
        have hr2 := s12 _ _ hr'
        refine ⟨_, rfl, t, _, rfl, .inl (SqL.of ht2), _, _, rfl, rfl, ⟨by decide, by decide⟩, ?_⟩
        have eh : V.int ((((vn TB).length : Nat) : Int).fdiv 2) = V.int ((TB.length / 2 : Nat) : Int) := by rw [vn_len, nfdiv2]
        simp only [eh]
        refine ⟨_, rfl, _, rfl, _, rfl, r, _, rfl, SqL.of hr2, fun p4 n4 => ?_⟩
        have ec : cutV us none (some (-1)) = us.take rr.length := by
          unfold cutV
          rw [HT.sIx_none, List.drop_zero, Nat.sub_zero]
          show us.take (if (-1 : Int) < 0 then ((-1 : Int) + (us.length : Int)).toNat else min (-1 : Int).toNat us.length) = _
          rw [if_pos (by decide), ul]
          congr 1
          omega
        have s3 := same_new (o := .lst (cutV us none (some (-1)))) n4
        have h4 : (upd H2 p4 (.lst (cutV us none (some (-1))))) p4 = some (.lst (us.take rr.length)) := by rw [upd_same, ec]
        generalize (upd H2 p4 (.lst (cutV us none (some (-1))))) = H3 at s3 h4 ⊢
        have s13 := s12.trans s3
        have hr3 := s13 _ _ hr'
        have ht3 := s13 _ _ ht
        have hus3 := hus.same s13
        obtain ⟨vb, hvb, dvb⟩ := hus3.get (i := rr.length) (e := b) (by
          rw [List.reverse_cons, List.getElem?_append_right (by rw [List.length_reverse]; exact Nat.le_refl _), List.length_reverse, Nat.sub_self]
          rfl)
        have x4 : Xs H3 (us.take rr.length) rr.reverse := by
          have := hus3.take rr.length
          rw [List.reverse_cons, List.take_left' (List.length_reverse ..)] at this
          exact this
        refine ⟨_, rfl, _, rfl, _, rfl, r, us, _, vb, rfl, rfl, SqL.of hr3, atI_end (by rw [ul]; exact hvb) (by omega), ?_⟩
        -- the upper half
        refine ⟨_, rfl, _, rfl, _, rfl, _, rfl, t, _, rfl, SqL.of ht3, fun p5 n5 => ?_⟩
        have e5 : cutV (vn TB) (some ((TB.length / 2 : Nat) : Int)) none = vn (TB.drop (TB.length / 2)) := by
          unfold cutV
          rw [HT.sIx_nat, HT.sIx_none, vn_len, Nat.min_eq_left (Nat.div_le_self ..), List.take_of_length_le (by rw [List.length_drop, vn_len]; exact Nat.le_refl _)]
          unfold vn
          rw [List.map_drop]
        have s5 := same_new (o := .lst (cutV (vn TB) (some ((TB.length / 2 : Nat) : Int)) none)) n5
        have h5 : (upd H3 p5 (.lst (cutV (vn TB) (some ((TB.length / 2 : Nat) : Int)) none))) p5 = some (.lst (vn (TB.drop (TB.length / 2)))) := by rw [upd_same, e5]
        generalize (upd H3 p5 (.lst (cutV (vn TB) (some ((TB.length / 2 : Nat) : Int)) none))) = H5 at s5 h5 ⊢
        refine ⟨_, rfl, p4, p5, _, rr, _, wi, rfl, s5 _ _ h4, x4.same s5, h5, by rw [List.length_drop, hh, h2]; omega, (by have : rr.length + 1 < M + 1 := lt; omega), by omega, fun H6 v1 s6 d1 => ?_⟩
        have s36 := s5.trans s6
        have ht6 := s36 _ _ ht3
        refine ⟨_, rfl, _, rfl, _, rfl, _, rfl, t, _, rfl, SqL.of ht6, fun p7 n7 => ?_⟩
        have e7 : cutV (vn TB) none (some ((TB.length / 2 : Nat) : Int)) = vn (TB.take (TB.length / 2)) := by
          unfold cutV
          rw [HT.sIx_nat, HT.sIx_none, vn_len, Nat.min_eq_left (Nat.div_le_self ..), List.drop_zero, Nat.sub_zero]
          unfold vn
          rw [List.map_take]
        have s7 := same_new (o := .lst (cutV (vn TB) none (some ((TB.length / 2 : Nat) : Int)))) n7
        have h7 : (upd H6 p7 (.lst (cutV (vn TB) none (some ((TB.length / 2 : Nat) : Int))))) p7 = some (.lst (vn (TB.take (TB.length / 2)))) := by rw [upd_same, e7]
        generalize (upd H6 p7 (.lst (cutV (vn TB) none (some ((TB.length / 2 : Nat) : Int))))) = H7 at s7 h7 ⊢
        have s37 := s36.trans s7
        refine ⟨_, rfl, p4, p7, _, rr, _, wi, rfl, s37 _ _ h4, x4.same s37, h7, by rw [List.length_take, hh, h2]; omega, (by have : rr.length + 1 < M + 1 := lt; omega), by omega, fun H8 v2 s8 d2 => ?_⟩
        refine ⟨by show 5 ≤ sizeLine; decide, fun z nz => ?_⟩
        have s38 := s37.trans s8
        have sz := same_new (o := .tup [.str "choose", .int (wi : Nat), vb, v1, v2]) nz
        refine q _ _ (s13.trans (s38.trans sz)) ?_
        exact Dh.tup upd_same (.cons (.str _) (.cons (.int _) (.cons (dh_same (s38.trans sz) _ _ dvb) (.cons (dh_same (s7.trans (s8.trans sz)) _ _ d1) (.cons (dh_same sz _ _ d2) .nil)))))
theorem ok__looked_up {P : Program} {w : World} {K : PySem.W.Frag} {mg : Str → Option Value} {base : Heap} {tk_OUTPUT_WIDTH : Tok} {f  : Addr} {fd  : FuncData} (F : Fun K "_looked_up" "_looked_up" s__looked_up f fd) (T : Txt K mg tk_OUTPUT_WIDTH)
    (D__looked_up : Def K mg "_looked_up" f fd ["bits", "table", "width"]) :
    FnOk P w K mg base CX0 14 f fd ["bits", "table", "width"] (sp__looked_up K) := by
  exact (looked_ind F T D__looked_up 13).mono (by decide)

end K24
namespace K24
open PySem PySem.Spec PyProof.Rows L2 V0
/-! ### the circuit of a machine -/
theorem cpowN {x c : Nat} (h : x ≤ 1000000) (hc : c < 1000000) : CPow (c : Int) (x : Int) := ⟨Int.natCast_nonneg _, by omega, by omega⟩
structure IsMax (cs : List Nat) (m : Nat) : Prop where
  mem : m ∈ cs
  le : ∀ c ∈ cs, c ≤ m
/-- written so far: rows below i, of row i letters below l -/
def Done (L i l k l' : Nat) : Prop := (k < i ∧ l' < L) ∨ (k = i ∧ l' < l)
/-- the table of followers as far as it is written -/
structure TI (m : Mach) (cs : List Nat) (lw w i l : Nat) (T : List Nat) : Prop where
  len : T.length = 2 ^ (lw + w)
  a : ∀ k l' c r x y, Done m.letters i l k l' → cs[k]? = some c → m.rows[k]? = some r → r.2[l']? = some x → cs[x]? = some y → T[c * 2 ^ lw + l']? = some y
  b : ∀ j, j < T.length → (∀ k l' c, Done m.letters i l k l' → cs[k]? = some c → j ≠ c * 2 ^ lw + l') → T[j]? = cs[0]?
structure OI (m : Mach) (cs : List Nat) (w i : Nat) (O : List Nat) : Prop where
  len : O.length = 2 ^ w
  a : ∀ k c r, k < i → cs[k]? = some c → m.rows[k]? = some r → O[c]? = some r.1
theorem place_inj {a b c d n : Nat} (hb : b < 2 ^ n) (hd : d < 2 ^ n) (h : a * 2 ^ n + b = c * 2 ^ n + d) : a = c ∧ b = d := by
  have e1 : (a * 2 ^ n + b) / 2 ^ n = a := by
    rw [Nat.mul_comm, Nat.mul_add_div (Nat.two_pow_pos n), Nat.div_eq_of_lt hb, Nat.add_zero]
  have e2 : (c * 2 ^ n + d) / 2 ^ n = c := by
    rw [Nat.mul_comm, Nat.mul_add_div (Nat.two_pow_pos n), Nat.div_eq_of_lt hd, Nat.add_zero]
  have : a = c := by rw [← e1, ← e2, h]
  subst this
  exact ⟨rfl, by omega⟩
theorem place_lt {c l lw w : Nat} (hc : c < 2 ^ w) (hl : l < 2 ^ lw) : c * 2 ^ lw + l < 2 ^ (lw + w) := by
  rw [Nat.add_comm lw w, Nat.pow_add]
  calc c * 2 ^ lw + l < c * 2 ^ lw + 2 ^ lw := by omega
    _ = (c + 1) * 2 ^ lw := by rw [Nat.add_mul, Nat.one_mul]
    _ ≤ 2 ^ w * 2 ^ lw := Nat.mul_le_mul_right _ hc
theorem nodup_get {cs : List Nat} (nd : cs.Nodup) {i k c : Nat} (h1 : cs[i]? = some c) (h2 : cs[k]? = some c) : i = k := by
  have a := List.getElem?_eq_some_iff.mp h1
  have b := List.getElem?_eq_some_iff.mp h2
  exact (List.getElem_inj nd).mp (a.2.trans b.2.symm)
section
variable {m : Mach} {cs : List Nat} {lw w : Nat}
theorem TI.start (h : 0 < cs.length) : TI m cs lw w 0 0 (List.replicate (2 ^ (lw + w)) cs[0]) := by
  refine ⟨List.length_replicate .., fun k l' c r x y d => ?_, fun j hj _ => ?_⟩
  · rcases d with ⟨d, _⟩ | ⟨_, d⟩ <;> omega
  · rw [List.length_replicate] at hj
    rw [List.getElem?_replicate, if_pos hj, List.getElem?_eq_getElem h]
theorem TI.put (nd : cs.Nodup) (fit : m.letters ≤ 2 ^ lw) {i l c x y : Nat} {r : Nat × List Nat} {T : List Nat} (h : TI m cs lw w i l T) (hl : l < m.letters) (hc : cs[i]? = some c) (cw : c < 2 ^ w) (hr : m.rows[i]? = some r) (hx : r.2[l]? = some x) (hy : cs[x]? = some y) :
    TI m cs lw w i (l + 1) (T.set (c * 2 ^ lw + l) y) := by
  have pl : c * 2 ^ lw + l < T.length := by rw [h.len]; exact place_lt cw (by omega)
  have small : ∀ {k l' : Nat}, Done m.letters i (l + 1) k l' → l' < 2 ^ lw := fun {k l'} d => by
    rcases d with ⟨_, d⟩ | ⟨_, d⟩ <;> omega
  refine ⟨by rw [List.length_set]; exact h.len, fun k l' c' r' x' y' d h1 h2 h3 h4 => ?_, fun j hj no => ?_⟩
  · rw [List.getElem?_set]
    by_cases e : c * 2 ^ lw + l = c' * 2 ^ lw + l'
    · rw [if_pos e, if_pos pl]
      obtain ⟨e1, e2⟩ := place_inj (by omega) (small d) e
      subst e1 e2
      have := nodup_get nd hc h1
      subst this
      rw [hr] at h2
      cases h2
      rw [hx] at h3
      cases h3
      rw [hy] at h4
      exact h4
    · rw [if_neg e]
      refine h.a k l' c' r' x' y' ?_ h1 h2 h3 h4
      rcases d with d | ⟨d1, d2⟩
      · exact .inl d
      · subst d1
        rw [hc] at h1
        cases h1
        have : l' ≠ l := fun z => e (by rw [z])
        exact .inr ⟨rfl, by omega⟩
  · rw [List.length_set] at hj
    rw [List.getElem?_set, if_neg (fun e => no i l c (.inr ⟨rfl, Nat.lt_succ_self l⟩) hc e.symm)]
    refine h.b j hj fun k l' c' d h1 => no k l' c' ?_ h1
    rcases d with d | ⟨d1, d2⟩
    · exact .inl d
    · exact .inr ⟨d1, by omega⟩
theorem TI.next {i : Nat} {T : List Nat} (h : TI m cs lw w i m.letters T) : TI m cs lw w (i + 1) 0 T := by
  have to : ∀ {k l' : Nat}, Done m.letters (i + 1) 0 k l' → Done m.letters i m.letters k l' := fun {k l'} d => by
    rcases d with ⟨d1, d2⟩ | ⟨_, d⟩
    · by_cases e : k = i
      · exact .inr ⟨e, d2⟩
      · exact .inl ⟨by omega, d2⟩
    · omega
  have fro : ∀ {k l' : Nat}, Done m.letters i m.letters k l' → Done m.letters (i + 1) 0 k l' := fun {k l'} d => by
    rcases d with ⟨d1, d2⟩ | ⟨d1, d2⟩
    · exact .inl ⟨by omega, d2⟩
    · exact .inl ⟨by omega, d2⟩
  exact ⟨h.len, fun k l' c r x y d => h.a k l' c r x y (to d), fun j hj no => h.b j hj fun k l' c d => no k l' c (fro d)⟩
theorem OI.start : OI m cs w 0 (List.replicate (2 ^ w) 0) := ⟨List.length_replicate .., fun k c r h => absurd h (Nat.not_lt_zero _)⟩
theorem OI.put (nd : cs.Nodup) {i c : Nat} {r : Nat × List Nat} {O : List Nat} (h : OI m cs w i O) (hc : cs[i]? = some c) (cw : c < 2 ^ w) (hr : m.rows[i]? = some r) : OI m cs w (i + 1) (O.set c r.1) := by
  refine ⟨by rw [List.length_set]; exact h.len, fun k c' r' hk h1 h2 => ?_⟩
  rw [List.getElem?_set]
  by_cases e : c = c'
  · subst e
    have := nodup_get nd hc h1
    subst this
    rw [if_pos rfl, if_pos (by rw [h.len]; exact cw)]
    rw [hr] at h2
    cases h2
    rfl
  · rw [if_neg e]
    refine h.a k c' r' ?_ h1 h2
    have : k ≠ i := fun z => by
      subst z
      rw [hc] at h1
      cases h1
      exact e rfl
    omega
end
/-- the bits of a place in the table of followers, from the high one down -/
def fbits (w lw : Nat) : List Ex := nbits "state" w w ++ nbits "letter" lw lw
theorem fbits_len (w lw : Nat) : (fbits w lw).length = lw + w := by
  unfold fbits
  rw [List.length_append, nbits_len, nbits_len]
  omega
/-- the circuit of a machine stands at q -/
structure Circ (H : Hp) (q : Addr) (m : Mach) (cs : List Nat) (aI tI aR tR aM aW aO tO : Addr) (vF vT : V) (mc : Nat) (T O : List Nat) : Prop where
  hq : H q = some (.tup [.str "flat", .ref aI, .ref aR, .ref aM, .ref aW, .ref aO])
  hi : H aI = some (.lst [.ref tI])
  hti : H tI = some (.tup [.str "letter", .int (wd (m.letters - 1) : Nat)])
  hr : H aR = some (.lst [.ref tR])
  htr : H tR = some (.tup [.str "state", .int (wd mc : Nat), .int (cs[0]?.getD 0 : Nat), vF])
  hm : H aM = some (.lst [])
  hw : H aW = some (.lst [])
  ho : H aO = some (.lst [.ref tO])
  hto : H tO = some (.tup [.str "out", .int 8, vT])
  hf : Dh H vF (lkr (wd mc) (fbits (wd mc) (wd (m.letters - 1))) T).toD
  ht : Dh H vT (lkr 8 (nbits "state" (wd mc) (wd mc)) O).toD
  mx : IsMax cs mc
  tt : TI m cs (wd (m.letters - 1)) (wd mc) m.rows.length 0 T
  oo : OI m cs (wd mc) m.rows.length O
theorem Circ.same {H H' : Hp} {q : Addr} {m : Mach} {cs : List Nat} {aI tI aR tR aM aW aO tO : Addr} {vF vT : V} {mc : Nat} {T O : List Nat} (h : Circ H q m cs aI tI aR tR aM aW aO tO vF vT mc T O) (s : Same H H') : Circ H' q m cs aI tI aR tR aM aW aO tO vF vT mc T O :=
  ⟨s _ _ h.hq, s _ _ h.hi, s _ _ h.hti, s _ _ h.hr, s _ _ h.htr, s _ _ h.hm, s _ _ h.hw, s _ _ h.ho, s _ _ h.hto, dh_same s _ _ h.hf, dh_same s _ _ h.ht, h.mx, h.tt, h.oo⟩

def sp_circuit_of (K : PySem.W.Frag) : Sp := fun vs H Q _ => ∃ (ma ca : Addr) (m : Mach) (cs : List Nat), vs = [.ref ma, .ref ca] ∧ Dv H (.ref ma) m ∧ H ca = some (.lst (vn cs)) ∧ MOk m 16 64 ∧ cs.length = m.rows.length ∧ cs.Nodup ∧ (∀ c ∈ cs, c < 256) ∧
  ∀ H' q aI tI aR tR aM aW aO tO vF vT mc T O, Same H H' → Circ H' q m cs aI tI aR tR aM aW aO tO vF vT mc T O → Q (.ref q) H'
theorem ok_circuit_of {P : Program} {w : World} {K : PySem.W.Frag} {mg : Str → Option Value} {base : Heap} {tk_OUTPUT_WIDTH : Tok} {f f_width_of f_bits_of_name f_looked_up : Addr} {fd fd_width_of fd_bits_of_name fd_looked_up : FuncData} (F : Fun K "circuit_of" "circuit_of" s_circuit_of f fd) (T : Txt K mg tk_OUTPUT_WIDTH)
    (G__width_of : FnOk P w K mg base CX0 1 f_width_of fd_width_of ["number"] (sp__width_of K)) (D__width_of : Def K mg "_width_of" f_width_of fd_width_of ["number"])
    (G__bits_of_name : FnOk P w K mg base CX0 1 f_bits_of_name fd_bits_of_name ["name", "width"] (sp__bits_of_name K)) (D__bits_of_name : Def K mg "_bits_of_name" f_bits_of_name fd_bits_of_name ["name", "width"])
    (G__looked_up : FnOk P w K mg base CX0 14 f_looked_up fd_looked_up ["bits", "table", "width"] (sp__looked_up K)) (D__looked_up : Def K mg "_looked_up" f_looked_up fd_looked_up ["bits", "table", "width"]) :
    FnOk P w K mg base CX0 15 f fd ["machine", "codes"] (sp_circuit_of K) := by
  refine F.ok sccircuit_of (fun vs H Q E h => ?_) (fun cdv A outer s H vs Q E hr h => ?_)
  · obtain ⟨ma, ca, m, cs, rfl, _⟩ := h
    rfl
  · obtain ⟨ma, ca, m, cs, rfl, hm, hca, mok, csl, nd, cb, q⟩ := h
    obtain ⟨_, ra, us, e, hA, hra, hus⟩ := mach_inv hm
    cases e
    have l1 := mok.l1
    have l2 := mok.l2
    have m1 := mok.m1
    have m2 := mok.m2
    have smallf : ∀ {n : Nat}, n ≤ 65536 → n ≤ sizeLine := fun h => Nat.le_of_lt (small64k h)
    refine ⟨_, (pss_cons (ps_asg (pv 0) (pg_tup (by rfl) (pgs_cons (pg_name (i := 2) sccircuit_of.nd rfl (Or.inl rfl)) (pgs_cons (pg_name (i := 3) sccircuit_of.nd rfl (Or.inl rfl)) (pgs_cons (pg_name (i := 4) sccircuit_of.nd rfl (Or.inl rfl)) pgs_nil)))))
      (pss_cons (ps_set (i := 5) sccircuit_of.nd rfl (.inl rfl) (pe_call G__width_of (hr.mono (by omega)) (by rfl) D__width_of.m D__width_of.k D__width_of.b .nil pass0 (pa_cons (pe_op op_sub (pv 3) pe_int) pa_nil)))
      (pss_cons (ps_set (i := 6) sccircuit_of.nd rfl (.inl rfl) (pe_call G__width_of (hr.mono (by omega)) (by rfl) D__width_of.m D__width_of.k D__width_of.b .nil pass0 (pa_cons (pe_callB (cr_max rfl) (by rfl) T.m_max (by decide +kernel) (pa_cons (pv 1) pa_nil)) pa_nil)))
      (pss_cons (ps_set (i := 7) sccircuit_of.nd rfl (.inl rfl) (pe_call G__bits_of_name (hr.mono (by omega)) (by rfl) D__bits_of_name.m D__bits_of_name.k D__bits_of_name.b .nil pass0 (pa_cons pe_str (pa_cons (pv 6) pa_nil))))
      (pss_cons (ps_set (i := 8) sccircuit_of.nd rfl (.inl rfl) (pe_op op_rep (pe_lst (pa_cons (pe_ix (r := rIxL K) ix_list (pv 1) pe_int (fun _ _ => rfl)) pa_nil)) (pe_op op_shl pe_int (pe_op op_add (pv 5) (pv 6)))))
      (pss_cons (ps_set (i := 9) sccircuit_of.nd rfl (.inl rfl) (pe_op op_rep (pe_lst (pa_cons pe_int pa_nil)) (pe_op op_shl pe_int (pv 6))))
      (pss_cons (ps_for PassesOwn.never rfl (pi_zip (by rfl) T.m_zip (pa_cons (pv 4) (pa_cons (pv 1) pa_nil))) (pg_tup (by rfl) (pgs_cons (pg_tup (by rfl) (pgs_cons (pg_name (i := 10) sccircuit_of.nd rfl (Or.inl rfl)) (pgs_cons (pg_name (i := 11) sccircuit_of.nd rfl (Or.inl rfl)) pgs_nil))) (pgs_cons (pg_name (i := 12) sccircuit_of.nd rfl (Or.inl rfl)) pgs_nil))) (pss_cons (ps_asg (pv 10) (pg_sub (pv 9) (pv 12) set_list))
      (pss_one (ps_for PassesOwn.never rfl (pi_enum (by rfl) T.m_enumerate (pa_cons (pv 11) pa_nil)) (pg_tup (by rfl) (pgs_cons (pg_name (i := 13) sccircuit_of.nd rfl (Or.inl rfl)) (pgs_cons (pg_name (i := 14) sccircuit_of.nd rfl (Or.inl rfl)) pgs_nil))) (pss_one (ps_asg (pe_ix (r := rIxL K) ix_list (pv 1) (pv 14) (fun _ _ => rfl)) (pg_sub (pv 8) (pe_op op_add (pe_op op_shl (pv 12) (pv 5)) (pv 13)) set_list)))))))
      (pss_cons (ps_set (i := 15) sccircuit_of.nd rfl (.inl rfl) (pe_call G__looked_up (hr.mono (by omega)) (by rfl) D__looked_up.m D__looked_up.k D__looked_up.b .nil pass0 (pa_cons (pe_op op_cat (pe_call G__bits_of_name (hr.mono (by omega)) (by rfl) D__bits_of_name.m D__bits_of_name.k D__bits_of_name.b .nil pass0 (pa_cons pe_str (pa_cons (pv 5) pa_nil))) (pv 7)) (pa_cons (pv 8) (pa_cons (pv 6) pa_nil)))))
      (pss_cons (ps_set (i := 16) sccircuit_of.nd rfl (.inl rfl) (pe_call G__looked_up (hr.mono (by omega)) (by rfl) D__looked_up.m D__looked_up.k D__looked_up.b .nil pass0 (pa_cons (pv 7) (pa_cons (pv 9) (pa_cons (pe_glob (v := V.int _) rfl T.m_OUTPUT_WIDTH ⟨_, rfl⟩) pa_nil)))))
      (pss_cons (ps_set (i := 17) sccircuit_of.nd rfl (.inl rfl) (pe_lst (pa_cons (pe_tup (pa_cons pe_str (pa_cons (pv 6) (pa_cons (pe_ix (r := rIxL K) ix_list (pv 1) pe_int (fun _ _ => rfl)) (pa_cons (pv 15) pa_nil))))) pa_nil)))
      (pss_one (ps_ret (pe_tup (pa_cons pe_str (pa_cons (pe_lst (pa_cons (pe_tup (pa_cons pe_str (pa_cons (pv 5) pa_nil))) pa_nil)) (pa_cons (pv 17) (pa_cons (pe_lst pa_nil) (pa_cons (pe_lst pa_nil) (pa_cons (pe_lst (pa_cons (pe_tup (pa_cons pe_str (pa_cons (pe_glob (v := V.int _) rfl T.m_OUTPUT_WIDTH ⟨_, rfl⟩) (pa_cons (pv 16) pa_nil)))) pa_nil)) pa_nil))))))))))))))))))), ?_⟩
    refine ⟨_, rfl, ma, _, rfl, SqT.of hA, rfl, _, _, rfl, _, _, rfl, _, _, rfl, rfl, ?_⟩
    refine ⟨_, rfl, _, _, rfl, rfl, m.letters - 1, (show [V.int (((m.letters : Nat) : Int) - 1)] = [V.int ((m.letters - 1 : Nat) : Int)] by rw [show ((m.letters : Nat) : Int) - 1 = ((m.letters - 1 : Nat) : Int) by omega]), ?_⟩
    have lw4 : wd (m.letters - 1) ≤ 4 := wd_le (m := 4) (by show m.letters - 1 < 16; omega) (by decide)
    have lfit : m.letters ≤ 2 ^ wd (m.letters - 1) := by
      have := wd_lt (m.letters - 1)
      omega
    obtain ⟨lw, hlw⟩ : ∃ lw, lw = wd (m.letters - 1) := ⟨_, rfl⟩
    rw [← hlw] at lw4 lfit ⊢
    refine ⟨_, rfl, ca, toI cs, rfl, SqL.of (by rw [hca, vn_int]), by rw [List.length_map]; omega, fun mx hm1 hm2 => ?_⟩
    obtain ⟨mc, hmc, rfl⟩ := List.mem_map.mp hm1
    have ismax : IsMax cs mc := ⟨hmc, fun c hc => by have := hm2 _ (List.mem_map_of_mem hc); omega⟩
    refine ⟨mc, rfl, ?_⟩
    have w8 : wd mc ≤ 8 := wd_le (m := 8) (cb mc hmc) (by decide)
    have cw : ∀ c ∈ cs, c < 2 ^ wd mc := fun c hc => Nat.lt_of_le_of_lt (ismax.le c hc) (wd_lt mc)
    obtain ⟨W, hW⟩ : ∃ W, W = wd mc := ⟨_, rfl⟩
    rw [← hW] at w8 cw ⊢
    refine ⟨_, rfl, "state", W, rfl, by omega, fun H1 sb ub s1 nsb hsb xsb => ?_⟩
    -- the tables
    have c0 := List.getElem?_eq_getElem (l := cs) (show 0 < cs.length by omega)
    refine ⟨_, rfl, ca, _, 0, _, rfl, rfl, SqL.of (s1 _ _ hca), atI_nat (j := 0) (vn_get c0), by show 1 ≤ sizeLine; decide, fun l nl => ?_⟩
    refine ⟨_, rfl, _, rfl, _, _, rfl, rfl, _, _, rfl, rfl, cpow1 (x := lw + W) (by omega), ?_⟩
    have eN : V.int ((1 : Int) * 2 ^ ((((lw : Nat) : Int) + ((W : Nat) : Int))).toNat) = V.int ((2 ^ (lw + W) : Nat) : Int) := congrArg V.int (shl_one (lw + W))
    have hN : 2 ^ (lw + W) ≤ 4096 := Nat.pow_le_pow_right (n := 2) (by decide) (show lw + W ≤ 12 by omega)
    have hN2 : 2 ^ W ≤ 256 := Nat.pow_le_pow_right (n := 2) (by decide) w8
    simp only [eN]
    obtain ⟨N, eNN⟩ : ∃ N, N = 2 ^ (lw + W) := ⟨_, rfl⟩
    obtain ⟨N2, eNN2⟩ : ∃ N2, N2 = 2 ^ W := ⟨_, rfl⟩
    rw [← eNN] at hN ⊢
    rw [← eNN2] at hN2
    have sl := same_new (o := .lst [V.int ((cs[0] : Nat) : Int)]) nl
    refine ⟨l, _, _, rfl, rfl, upd_same, by omega, by omega, by rw [Int.toNat_natCast]; show 1 * N ≤ _; exact smallf (by omega), fun tb ntb => ?_⟩
    have stb := same_new (o := .lst (List.replicate ((N : Nat) : Int).toNat [V.int ((cs[0] : Nat) : Int)]).flatten) ntb
    have htb : (upd (upd H1 l (.lst [V.int ((cs[0] : Nat) : Int)])) tb (.lst (List.replicate ((N : Nat) : Int).toNat [V.int ((cs[0] : Nat) : Int)]).flatten)) tb = some (.lst (vn (List.replicate N cs[0]))) := by
      rw [upd_same, rep_flat, Int.toNat_natCast]
      unfold vn
      rw [List.map_replicate]
    have s2 := sl.trans stb
    have ntb1 : H1 tb = none := none_of sl ntb
    generalize (upd (upd H1 l (.lst [V.int ((cs[0] : Nat) : Int)])) tb (.lst (List.replicate ((N : Nat) : Int).toNat [V.int ((cs[0] : Nat) : Int)]).flatten)) = H2 at s2 htb ⊢
    clear sl stb ntb
    refine ⟨by show 1 ≤ sizeLine; decide, fun l2 nl2 => ⟨_, rfl, _, _, rfl, rfl, cpow1 (x := W) (by omega), ?_⟩⟩
    have eN2 : V.int ((1 : Int) * 2 ^ (((W : Nat) : Int)).toNat) = V.int ((N2 : Nat) : Int) := by rw [eNN2]; exact congrArg V.int (shl_one W)
    simp only [eN2]
    have sl := same_new (o := .lst [V.int 0]) nl2
    refine ⟨l2, _, _, rfl, rfl, upd_same, by omega, by omega, by rw [Int.toNat_natCast]; show 1 * N2 ≤ _; exact smallf (by omega), fun ob nob => ?_⟩
    have sob := same_new (o := .lst (List.replicate ((N2 : Nat) : Int).toNat [V.int 0]).flatten) nob
    have hob : (upd (upd H2 l2 (.lst [V.int 0])) ob (.lst (List.replicate ((N2 : Nat) : Int).toNat [V.int 0]).flatten)) ob = some (.lst (vn (List.replicate N2 0))) := by
      rw [upd_same, rep_flat, Int.toNat_natCast]
      unfold vn
      rw [List.map_replicate]
      rfl
    have s3 := sl.trans sob
    have nob2 : H2 ob = none := none_of sl nob
    generalize (upd (upd H2 l2 (.lst [V.int 0])) ob (.lst (List.replicate ((N2 : Nat) : Int).toNat [V.int 0]).flatten)) = H3 at s3 hob ⊢
    clear sl sob nob
    have htb3 := s3 _ _ htb
    have ntob : tb ≠ ob := ne_of_none htb nob2
    have ti0 : TI m cs lw W 0 0 (List.replicate N cs[0]) := by rw [eNN]; exact TI.start (by omega)
    have oi0 : OI m cs W 0 (List.replicate N2 0) := by rw [eNN2]; exact OI.start
    have s13 := s2.trans s3
    have n1tb : H tb = none := none_of s1 ntb1
    have n1ob : H ob = none := none_of (s1.trans s2) nob2
    have base : ∀ {Hx : Hp}, Same (res tb ob H3) (res tb ob Hx) → Same H1 Hx := fun {Hx} k b o e => (res_some (k _ _ (res_of (ne_of_none e ntb1) (ne_of_none e (none_of s2 nob2)) (s13 _ _ e)))).2.2
    have up : ∀ {Hx : Hp}, Same (res tb ob H3) (res tb ob Hx) → Same H Hx := fun k => s1.trans (base k)
    refine ⟨_, rfl, _, rfl, ra, ca, _, _, rfl, SqL.of (up (Same.refl _) _ _ hra), SqL.of (up (Same.refl _) _ _ hca), for_it (walk_zip (xs := us) (ys := vn cs) (n := m.rows.length) (by rw [hus.len, vn_len, csl, Nat.min_self])) (fun i σ Hx => ∃ (y10 y11 y12 y13 y14 : Option V) (TB OB : List Nat), σ = [some (.ref ma), some (.ref ca), some (.str "moore"), some (.int (m.letters : Nat)), some (.ref ra), some (.int (lw : Nat)), some (.int (W : Nat)), some (.ref sb), some (.ref tb), some (.ref ob), y10, y11, y12, y13, y14, none, none, none] ∧ Same (res tb ob H3) (res tb ob Hx) ∧ Hx tb = some (.lst (vn TB)) ∧ Hx ob = some (.lst (vn OB)) ∧ TI m cs lw W i 0 TB ∧ OI m cs W i OB) ⟨none, none, none, none, none, _, _, rfl, Same.refl _, htb3, hob, ti0, oi0⟩ (fun i σ Hx _ ⟨_, _, _, _, _, _, _, _, k, _⟩ => ⟨SqL.of (up k _ _ hra), SqL.of (up k _ _ hca)⟩) ?_ ?_⟩
    · rintro i v σ Hx Hx' hi ⟨y10, y11, y12, y13, y14, TB, OB, rfl, kx, hTB, hOB, ti, oi⟩ ⟨t, x, y, rfl, nt, rfl, hx, hy⟩
      have st := same_new (o := .tup [x, y]) nt
      have et : (upd Hx t (.tup [x, y])) t = some (.tup [x, y]) := upd_same
      have kx := kx.trans (Same.res st tb ob)
      have hTB := st _ _ hTB
      have hOB := st _ _ hOB
      generalize (upd Hx t (.tup [x, y])) = Hy at kx hTB hOB et ⊢
      clear st nt
      have hrow := List.getElem?_eq_getElem hi
      have hx : us[i]? = some x := hx
      have hy : (vn cs)[i]? = some y := hy
      obtain ⟨u, hu, du⟩ := hus.get hrow
      rw [hx] at hu
      cases hu
      have rok := mok.r _ (List.getElem_mem hi)
      generalize m.rows[i] = row at hrow du rok
      obtain ⟨tr, z1, z2, rfl, htr, hz1, hz2⟩ := du.pair_inv
      have hz1 := hz1.nat_inv
      subst hz1
      obtain ⟨fw, rfl, hfw⟩ := hz2.natl_inv
      have hci := List.getElem?_eq_getElem (l := cs) (show i < cs.length by omega)
      rw [vn_get hci] at hy
      cases hy
      have cwi := cw _ (List.getElem_mem (show i < cs.length by omega))
      generalize cs[i] = c at hci cwi et
      have set_vn : ∀ (xs : List Nat) (j z : Nat), (vn xs).set j (V.int (z : Nat)) = vn (xs.set j z) := fun xs j z => by
        unfold vn
        rw [List.map_set]
      refine ⟨t, _, rfl, SqT.of et, rfl, _, _, rfl, tr, _, rfl, SqT.of (up kx _ _ htr), rfl, _, _, rfl, _, _, rfl, rfl, _, _, rfl, rfl, ?_⟩
      refine ⟨_, rfl, _, rfl, _, rfl, ob, _, _, c, rfl, rfl, hOB, ix_nat (by rw [vn_len, oi.len]; exact cwi), ?_⟩
      rw [set_vn]
      have k2 : Same (res tb ob Hy) (res tb ob (upd Hy ob (.lst (vn (OB.set c row.1))))) := fun b o e => by
        obtain ⟨n1, n2, e⟩ := res_some e
        exact res_of n1 n2 (by rw [upd_ne n2]; exact e)
      have hTB2 : (upd Hy ob (.lst (vn (OB.set c row.1)))) tb = some (.lst (vn TB)) := by rw [upd_ne ntob]; exact hTB
      have hOB2 : (upd Hy ob (.lst (vn (OB.set c row.1)))) ob = some (.lst (vn (OB.set c row.1))) := upd_same
      have oi2 := oi.put nd hci cwi hrow
      have k2 := kx.trans k2
      generalize (upd Hy ob (.lst (vn (OB.set c row.1)))) = Hz at k2 hTB2 hOB2 ⊢
      refine ⟨_, rfl, fw, _, rfl, SqL.of (up k2 _ _ hfw), for_it walk_enum (fun l σ Hx => ∃ (y13 y14 : Option V) (TB : List Nat), σ = [some (.ref ma), some (.ref ca), some (.str "moore"), some (.int (m.letters : Nat)), some (.ref ra), some (.int (lw : Nat)), some (.int (W : Nat)), some (.ref sb), some (.ref tb), some (.ref ob), some (.int (row.1 : Nat)), some (.ref fw), some (.int (c : Nat)), y13, y14, none, none, none] ∧ Same (res tb ob H3) (res tb ob Hx) ∧ Hx tb = some (.lst (vn TB)) ∧ Hx ob = some (.lst (vn (OB.set c row.1))) ∧ TI m cs lw W i l TB) ⟨y13, y14, TB, rfl, k2, hTB2, hOB2, ti⟩ (fun l σ Hx _ ⟨_, _, _, _, k, _⟩ => SqL.of (up k _ _ hfw)) ?_ ?_⟩
      · rintro l v σ Hx Hx' hl ⟨y13, y14, TB, rfl, kx, hTB, hOB, ti⟩ ⟨t, x, y, rfl, nt, rfl, hx, hy⟩
        have st := same_new (o := .tup [x, y]) nt
        have et : (upd Hx t (.tup [x, y])) t = some (.tup [x, y]) := upd_same
        have kx := kx.trans (Same.res st tb ob)
        have hTB := st _ _ hTB
        have hOB := st _ _ hOB
        generalize (upd Hx t (.tup [x, y])) = Hy at kx hTB hOB et ⊢
        clear st nt
        have hx : some (V.int ((l : Nat) : Int)) = some x := hx
        cases hx
        have hy : (vn row.2)[l]? = some y := hy
        rw [vn_len] at hl
        have hxl := List.getElem?_eq_getElem hl
        rw [vn_get hxl] at hy
        cases hy
        have xb := rok.2.2 _ (List.getElem_mem hl)
        generalize row.2[l] = x at hxl xb et
        rw [rok.2.1] at hl
        have hyx := List.getElem?_eq_getElem (l := cs) (show x < cs.length by omega)
        have pl : c * 2 ^ lw + l < 2 ^ (lw + W) := place_lt cwi (by omega)
        refine ⟨t, _, rfl, SqT.of et, rfl, _, _, rfl, _, _, rfl, rfl, ?_⟩
        refine ⟨_, rfl, _, rfl, ca, _, _, _, rfl, rfl, SqL.of (up kx _ _ hca), atI_nat (vn_get hyx), _, rfl, _, rfl, _, rfl, _, _, rfl, rfl, ?_⟩
        refine ⟨cpowN (by omega) (by have := cb c (List.mem_of_getElem? hci); omega), _, rfl, _, _, rfl, rfl, ?_⟩
        have ep : ((c : Nat) : Int) * 2 ^ (((lw : Nat) : Int)).toNat + ((l : Nat) : Int) = ((c * 2 ^ lw + l : Nat) : Int) := by
          rw [Int.toNat_natCast, Int.natCast_add, Int.natCast_mul, Int.natCast_pow]
          rfl
        refine ⟨tb, _, _, c * 2 ^ lw + l, rfl, rfl, hTB, (by rw [ep]; exact ix_nat (by rw [vn_len, ti.len]; exact pl)), ?_⟩
        rw [set_vn]
        refine ⟨_, _, _, rfl, kx.trans fun b o e => ?_, upd_same, by rw [upd_ne ntob.symm]; exact hOB, ti.put nd lfit hl hci cwi hrow hxl hyx⟩
        obtain ⟨n1, n2, e⟩ := res_some e
        exact res_of n1 n2 (by rw [upd_ne n1]; exact e)
      · rintro σ Hx ⟨y13, y14, TB, rfl, kx, hTB, hOB, ti⟩
        rw [vn_len, rok.2.1] at ti
        exact ⟨_, _, _, _, _, TB, _, rfl, kx, hTB, hOB, ti.next, oi2⟩
    rintro σ H4 ⟨y10, y11, y12, y13, y14, TB, OB, rfl, k4, hTB, hOB, ti, oi⟩
    have s4 := base k4
    have hsb4 := s4 _ _ hsb
    have xsb4 := xsb.same s4
    refine ⟨_, rfl, "letter", lw, rfl, by omega, fun H5 lb ul s5 nlb hlb xlb => ⟨_, rfl, lb, sb, _, _, rfl, rfl, hlb, s5 _ _ hsb4, ?_, fun bb nbb => ?_⟩⟩
    · rw [xlb.len, xsb.len, List.length_map, List.length_map, List.length_range, List.length_range]
      exact smallf (by omega)
    have sbb := same_new (o := .lst (ul ++ ub)) nbb
    have hbb : (upd H5 bb (.lst (ul ++ ub))) bb = some (.lst (ul ++ ub)) := upd_same
    generalize (upd H5 bb (.lst (ul ++ ub))) = H6 at sbb hbb ⊢
    have s46 := s5.trans sbb
    have erev : (fbits W lw).reverse = (List.range lw).map (bitE "letter" lw) ++ (List.range W).map (bitE "state" W) := by
      unfold fbits
      rw [List.reverse_append, nbits_rev, nbits_rev]
    have xbb : Xs H6 (ul ++ ub) (fbits W lw).reverse := by
      rw [erev]
      exact (xlb.same sbb).app (xsb4.same s46)
    refine ⟨_, rfl, _, rfl, bb, tb, _, fbits W lw, TB, W, rfl, hbb, xbb, s46 _ _ hTB, by rw [ti.len, fbits_len], by rw [fbits_len]; omega, by rw [fbits_len]; omega, fun H7 vF s7 dF => ?_⟩
    have s47 := s46.trans s7
    refine ⟨_, rfl, _, rfl, sb, ob, _, nbits "state" W W, OB, 8, rfl, s47 _ _ hsb4, (by rw [nbits_rev]; exact xsb4.same s47), s47 _ _ hOB, by rw [oi.len, nbits_len], by rw [nbits_len]; omega, by rw [nbits_len]; omega, fun H8 vT s8 dT => ?_⟩
    have s48 := s47.trans s8
    have s18 := s4.trans s48
    have upA := s1.trans s18
    -- what is told
    refine ⟨_, rfl, _, rfl, ca, _, 0, _, rfl, rfl, SqL.of (upA _ _ hca), atI_nat (j := 0) (vn_get c0), _, rfl, by show 4 ≤ sizeLine; decide, fun tR n9 => ⟨by show 1 ≤ sizeLine; decide, fun aR n10 => ?_⟩⟩
    have s9 := same_new (o := .tup [.str "state", .int (W : Nat), .int (cs[0] : Nat), vF]) n9
    have s10 := same_new (o := .lst [.ref tR]) n10
    have htR := s10 _ _ (upd_same (H := H8) (a := tR) (o := .tup [.str "state", .int (W : Nat), .int (cs[0] : Nat), vF]))
    have haR : (upd (upd H8 tR (.tup [.str "state", .int (W : Nat), .int (cs[0] : Nat), vF])) aR (.lst [.ref tR])) aR = some (.lst [.ref tR]) := upd_same
    have sA := s9.trans s10
    generalize (upd (upd H8 tR (.tup [.str "state", .int (W : Nat), .int (cs[0] : Nat), vF])) aR (.lst [.ref tR])) = HA at sA htR haR ⊢
    clear s9 s10 n9 n10
    refine ⟨_, rfl, by show 2 ≤ sizeLine; decide, fun tI n9 => ⟨by show 1 ≤ sizeLine; decide, fun aI n10 => ?_⟩⟩
    have s9 := same_new (o := .tup [.str "letter", .int (lw : Nat)]) n9
    have s10 := same_new (o := .lst [.ref tI]) n10
    have htI := s10 _ _ (upd_same (H := HA) (a := tI) (o := .tup [.str "letter", .int (lw : Nat)]))
    have haI : (upd (upd HA tI (.tup [.str "letter", .int (lw : Nat)])) aI (.lst [.ref tI])) aI = some (.lst [.ref tI]) := upd_same
    have sB := s9.trans s10
    generalize (upd (upd HA tI (.tup [.str "letter", .int (lw : Nat)])) aI (.lst [.ref tI])) = HB at sB htI haI ⊢
    clear s9 s10 n9 n10
    refine ⟨_, rfl, by show 0 ≤ sizeLine; decide, fun aM n9 => ⟨by show 0 ≤ sizeLine; decide, fun aW n10 => ?_⟩⟩
    have s9 := same_new (o := .lst []) n9
    have s10 := same_new (o := .lst []) n10
    have haM := s10 _ _ (upd_same (H := HB) (a := aM) (o := .lst []))
    have haW : (upd (upd HB aM (.lst [])) aW (.lst [])) aW = some (.lst []) := upd_same
    have sC := s9.trans s10
    generalize (upd (upd HB aM (.lst [])) aW (.lst [])) = HC at sC haM haW ⊢
    clear s9 s10 n9 n10
    refine ⟨_, rfl, by show 3 ≤ sizeLine; decide, fun tO n9 => ⟨by show 1 ≤ sizeLine; decide, fun aO n10 => ?_⟩⟩
    have s9 := same_new (o := .tup [.str "out", .int 8, vT]) n9
    have s10 := same_new (o := .lst [.ref tO]) n10
    have htO := s10 _ _ (upd_same (H := HC) (a := tO) (o := .tup [.str "out", .int 8, vT]))
    have haO : (upd (upd HC tO (.tup [.str "out", .int 8, vT])) aO (.lst [.ref tO])) aO = some (.lst [.ref tO]) := upd_same
    have sD := s9.trans s10
    generalize (upd (upd HC tO (.tup [.str "out", .int 8, vT])) aO (.lst [.ref tO])) = HD at sD htO haO ⊢
    clear s9 s10 n9 n10
    refine ⟨by show 6 ≤ sizeLine; decide, fun z nz => ?_⟩
    have sz := same_new (o := .tup [.str "flat", .ref aI, .ref aR, .ref aM, .ref aW, .ref aO]) nz
    have sDz := sD.trans sz
    have sCz := sC.trans sDz
    have sBz := sB.trans sCz
    have sAz := sA.trans sBz
    refine q _ z aI tI aR tR aM aW aO tO vF vT mc TB OB (upA.trans sAz) ⟨upd_same, sCz _ _ haI, ?_, sBz _ _ haR, ?_, sDz _ _ haM, sDz _ _ haW, sz _ _ haO, sz _ _ htO, ?_, ?_, ismax, ?_, ?_⟩
    · rw [← hlw]
      exact sCz _ _ htI
    · rw [← hW, c0]
      exact sBz _ _ htR
    · rw [← hW, ← hlw]
      exact dh_same (s8.trans sAz) _ _ dF
    · rw [← hW]
      exact dh_same sAz _ _ dT
    · rw [← hW, ← hlw]
      exact ti
    · rw [← hW]
      exact oi

end K24
namespace K24
open PySem PySem.Spec PyProof.Rows L2 V0
/-! ### words of expressions -/
theorem dstr (a b : Str) : decide (V.str a = V.str b) = decide (a = b) := decide_eq_decide.mpr ⟨fun h => V.str.inj h, fun h => by rw [h]⟩
theorem st_nc : ¬ (("name" : Str) = "const") := by decide +kernel
theorem st_cc : ¬ (("cut" : Str) = "const") := by decide +kernel
theorem st_cn : ¬ (("cut" : Str) = "name") := by decide +kernel
theorem st_co : ¬ (("cut" : Str) = "op") := by decide +kernel
theorem st_hc : ¬ (("choose" : Str) = "const") := by decide +kernel
theorem st_hn : ¬ (("choose" : Str) = "name") := by decide +kernel
theorem st_ho : ¬ (("choose" : Str) = "op") := by decide +kernel
theorem st_hu : ¬ (("choose" : Str) = "cut") := by decide +kernel
theorem st_hj : ¬ (("choose" : Str) = "join") := by decide +kernel
theorem dh_tup {H : Hp} {v : V} {ds : List PyData} (h : Dh H v (.tuple ds)) : ∃ a xs, v = .ref a ∧ H a = some (.tup xs) ∧ DhAll H xs ds := by
  cases h with
  | tup h1 h2 => exact ⟨_, _, rfl, h1, h2⟩
theorem dha_cons {H : Hp} {vs : List V} {d : PyData} {ds : List PyData} (h : DhAll H vs (d :: ds)) : ∃ v us, vs = v :: us ∧ Dh H v d ∧ DhAll H us ds := by
  cases h with
  | cons h1 h2 => exact ⟨_, _, rfl, h1, h2⟩
theorem dha_nil {H : Hp} {vs : List V} (h : DhAll H vs []) : vs = [] := by
  cases h
  rfl
/-- names told by a dict -/
def Told (kvs : List (Key × V)) (ns : List Str) (env : Str → Nat) : Prop := ∀ n ∈ ns, valV kvs (Sum.inr n) = some (.int (env n : Nat))
theorem sget_k {H : Hp} {a : Addr} {kvs : List (Key × V)} {x : Str} {v : V} (e : H a = some (.dK kvs)) (h : valV kvs (Sum.inr x) = some v) : DGet H a (.str x) (some v) := by
  rw [← h]
  exact DGet.k (k := Sum.inr x) e
def WO (K : PySem.W.Frag) (M : Nat) : Sp := fun vs H Q _ => ∃ (v z : V) (d : Addr) (e : Ex) (kvs : List (Key × V)) (ns : List Str) (env : Str → Nat), vs = [v, .ref d, z] ∧ Dh H v e.toD ∧ H d = some (.dK kvs) ∧ Told kvs ns env ∧ e.fine ns ∧ e.deep < M ∧ Q (.int (e.val env : Nat)) H
def sp__word_of (K : PySem.W.Frag) : Sp := WO K 16

theorem word_ind {P : Program} {w : World} {K : PySem.W.Frag} {mg : Str → Option Value} {base : Heap} {tk_OUTPUT_WIDTH : Tok} {f fcut_word : Addr} {fd fdcut_word : FuncData} (F : Fun K "_word_of" "_word_of" s__word_of f fd) (T : Txt K mg tk_OUTPUT_WIDTH)
    (G_cut_word : FnOk P w K mg base CX0 2 fcut_word fdcut_word ["word", "low", "width"] (sp_cut_word K)) (D_cut_word : Def K mg "cut_word" fcut_word fdcut_word ["word", "low", "width"])
    (D__word_of : Def K mg "_word_of" f fd ["e", "values", "kept"]) :
    ∀ M, FnOk P w K mg base CX0 (M + 3) f fd ["e", "values", "kept"] (WO K M)
  | 0 => by
    refine ⟨fun vs H Q E h => ?_, fun A outer s H args us vs Q E hr he hb hv h => ?_⟩
    · obtain ⟨v, z, d, e, kvs, ns, env, rfl, _⟩ := h
      rfl
    · obtain ⟨v, z, d, e, kvs, ns, env, _, _, _, _, _, lt, _⟩ := h
      exact absurd lt (Nat.not_lt_zero _)
  | M + 1 => by
    have G__word_of : FnOk P w K mg base CX0 (M + 3) f fd ["e", "values", "kept"] (WO K M) := word_ind F T G_cut_word D_cut_word D__word_of M
    refine F.ok sc_word_of (fun vs H Q E h => ?_) (fun cdv A outer s H vs Q E hr h => ?_)
    · obtain ⟨v, z, d, e, kvs, ns, env, rfl, _⟩ := h
      rfl
    · obtain ⟨v, z, d, e, kvs, ns, env, rfl, hv, hd, told, fine, lt, q⟩ := h
      refine ⟨_, (pss_cons (ps_set (i := 3) sc_word_of.nd rfl (.inl rfl) (pe_ix (r := rIxT K) ix_tup (pv 0) pe_int (fun _ _ => rfl)))
      (pss_cons (ps_if (pt_cmpR op_eq (pv 3) pe_str (nomark _)) (pss_one (ps_ret (pe_ix (r := rIxT K) ix_tup (pv 0) pe_int (fun _ _ => rfl)))) pss_nil)
      (pss_cons (ps_if (pt_cmpR op_eq (pv 3) pe_str (nomark _)) (pss_one (ps_ret (pe_dget (hu_of hr) (pv 1) (pe_ix (r := rIxT K) ix_tup (pv 0) pe_int (fun _ _ => rfl)) (fun _ _ => rfl)))) pss_nil)
      (pss_cons (ps_if (pt_cmpR op_eq (pv 3) pe_str (nomark _)) (pss_one V0.ps_never) pss_nil)
      (pss_cons (ps_if (pt_cmpR op_eq (pv 3) pe_str (nomark _)) (pss_one (ps_ret (pe_call G_cut_word (hr.mono (by omega)) (by rfl) D_cut_word.m D_cut_word.k D_cut_word.b .nil pass0 (pa_cons (pe_call G__word_of (hr.mono (by omega)) (by rfl) D__word_of.m D__word_of.k D__word_of.b .nil pass0 (pa_cons (pe_ix (r := rIxT K) ix_tup (pv 0) pe_int (fun _ _ => rfl)) (pa_cons (pv 1) (pa_cons (pv 2) pa_nil)))) (pa_cons (pe_ix (r := rIxT K) ix_tup (pv 0) pe_int (fun _ _ => rfl)) (pa_cons (pe_ix (r := rIxT K) ix_tup (pv 0) pe_int (fun _ _ => rfl)) pa_nil)))))) pss_nil)
      (pss_cons (ps_if (pt_cmpR op_eq (pv 3) pe_str (nomark _)) (pss_one V0.ps_never) pss_nil)
      (pss_cons (ps_if (pt_cmpR op_eq (pv 3) pe_str (nomark _)) (pss_cons (ps_set (i := 4) sc_word_of.nd rfl (.inl rfl) (pe_ifExp (pt_cmpR op_eq (pe_call G__word_of (hr.mono (by omega)) (by rfl) D__word_of.m D__word_of.k D__word_of.b .nil pass0 (pa_cons (pe_ix (r := rIxT K) ix_tup (pv 0) pe_int (fun _ _ => rfl)) (pa_cons (pv 1) (pa_cons (pv 2) pa_nil)))) pe_int (nomark _)) (pe_ix (r := rIxT K) ix_tup (pv 0) pe_int (fun _ _ => rfl)) (pe_ix (r := rIxT K) ix_tup (pv 0) pe_int (fun _ _ => rfl))))
      (pss_one (ps_ret (pe_call G__word_of (hr.mono (by omega)) (by rfl) D__word_of.m D__word_of.k D__word_of.b .nil pass0 (pa_cons (pv 4) (pa_cons (pv 1) (pa_cons (pv 2) pa_nil))))))) pss_nil)
      (pss_one V0.ps_never)))))))), ?_⟩
      cases e with
      | cst wi x =>
        obtain ⟨a, xs, rfl, ha, hx⟩ := dh_tup hv
        obtain ⟨v0, r0, rfl, h0, hx⟩ := dha_cons hx
        obtain ⟨v1, r1, rfl, h1, hx⟩ := dha_cons hx
        obtain ⟨v2, r2, rfl, h2, hx⟩ := dha_cons hx
        cases dha_nil hx
        cases h0
        cases h1
        cases h2
        refine ⟨_, rfl, a, _, 0, _, rfl, rfl, SqT.of ha, atI_nat (j := 0) rfl, ?_⟩
        refine ⟨_, rfl, rfl, _, rfl, ?_⟩
        rw [dstr, decide_eq_true rfl]
        exact iteT ⟨_, rfl, a, _, 2, _, rfl, rfl, SqT.of ha, atI_nat (j := 2) rfl, q⟩
      | nm wi n =>
        obtain ⟨a, xs, rfl, ha, hx⟩ := dh_tup hv
        obtain ⟨v0, r0, rfl, h0, hx⟩ := dha_cons hx
        obtain ⟨v1, r1, rfl, h1, hx⟩ := dha_cons hx
        obtain ⟨v2, r2, rfl, h2, hx⟩ := dha_cons hx
        cases dha_nil hx
        cases h0
        cases h1
        cases h2
        refine ⟨_, rfl, a, _, 0, _, rfl, rfl, SqT.of ha, atI_nat (j := 0) rfl, ?_⟩
        refine ⟨_, rfl, rfl, _, rfl, ?_⟩
        rw [dstr, decide_eq_false st_nc]
        refine iteF ⟨_, rfl, rfl, _, rfl, ?_⟩
        rw [dstr, decide_eq_true rfl]
        exact iteT ⟨_, rfl, _, rfl, a, _, 2, _, rfl, rfl, SqT.of ha, atI_nat (j := 2) rfl, d, _, rfl, sget_k hd (told n fine), q⟩
      | cut wi e low =>
        obtain ⟨a, xs, rfl, ha, hx⟩ := dh_tup hv
        obtain ⟨v0, r0, rfl, h0, hx⟩ := dha_cons hx
        obtain ⟨v1, r1, rfl, h1, hx⟩ := dha_cons hx
        obtain ⟨v2, r2, rfl, h2, hx⟩ := dha_cons hx
        obtain ⟨v3, r3, rfl, h3, hx⟩ := dha_cons hx
        cases dha_nil hx
        cases h0
        cases h1
        cases h3
        obtain ⟨w1, low1, fine⟩ := fine
        refine ⟨_, rfl, a, _, 0, _, rfl, rfl, SqT.of ha, atI_nat (j := 0) rfl, ?_⟩
        refine ⟨_, rfl, rfl, _, rfl, ?_⟩
        rw [dstr, decide_eq_false st_cc]
        refine iteF ⟨_, rfl, rfl, _, rfl, ?_⟩
        rw [dstr, decide_eq_false st_cn]
        refine iteF ⟨_, rfl, rfl, _, rfl, ?_⟩
        rw [dstr, decide_eq_false st_co]
        refine iteF ⟨_, rfl, rfl, _, rfl, ?_⟩
        rw [dstr, decide_eq_true rfl]
        refine iteT ⟨_, rfl, a, _, 2, _, rfl, rfl, SqT.of ha, atI_nat (j := 2) rfl, _, rfl, _, rfl, v2, z, d, e, kvs, ns, env, rfl, h2, hd, told, fine, (by have : e.deep + 1 < M + 1 := lt; omega), ?_⟩
        exact ⟨_, rfl, a, _, 3, _, rfl, rfl, SqT.of ha, atI_nat (j := 3) rfl, _, rfl, a, _, 1, _, rfl, rfl, SqT.of ha, atI_nat (j := 1) rfl, e.val env, low, wi, rfl, w1, low1, q⟩
      | cho wi t x y =>
        obtain ⟨a, xs, rfl, ha, hx⟩ := dh_tup hv
        obtain ⟨v0, r0, rfl, h0, hx⟩ := dha_cons hx
        obtain ⟨v1, r1, rfl, h1, hx⟩ := dha_cons hx
        obtain ⟨v2, r2, rfl, h2, hx⟩ := dha_cons hx
        obtain ⟨v3, r3, rfl, h3, hx⟩ := dha_cons hx
        obtain ⟨v4, r4, rfl, h4, hx⟩ := dha_cons hx
        cases dha_nil hx
        cases h0
        cases h1
        obtain ⟨f1, f2, f3⟩ := fine
        have lt : max t.deep (max x.deep y.deep) + 1 < M + 1 := lt
        refine ⟨_, rfl, a, _, 0, _, rfl, rfl, SqT.of ha, atI_nat (j := 0) rfl, ?_⟩
        refine ⟨_, rfl, rfl, _, rfl, ?_⟩
        rw [dstr, decide_eq_false st_hc]
        refine iteF ⟨_, rfl, rfl, _, rfl, ?_⟩
        rw [dstr, decide_eq_false st_hn]
        refine iteF ⟨_, rfl, rfl, _, rfl, ?_⟩
        rw [dstr, decide_eq_false st_ho]
        refine iteF ⟨_, rfl, rfl, _, rfl, ?_⟩
        rw [dstr, decide_eq_false st_hu]
        refine iteF ⟨_, rfl, rfl, _, rfl, ?_⟩
        rw [dstr, decide_eq_false st_hj]
        refine iteF ⟨_, rfl, rfl, _, rfl, ?_⟩
        rw [dstr, decide_eq_true rfl]
        refine iteT ⟨_, rfl, a, _, 2, _, rfl, rfl, SqT.of ha, atI_nat (j := 2) rfl, _, rfl, _, rfl, v2, z, d, t, kvs, ns, env, rfl, h2, hd, told, f1, by omega, rfl, _, rfl, ?_⟩
        rw [show decide (V.int ((t.val env : Nat) : Int) = V.int 1) = decide (t.val env = 1) from dec_nat (t.val env) 1]
        have q : Q (.int ((if t.val env = 1 then x.val env else y.val env : Nat) : Int)) H := q
        by_cases c : t.val env = 1
        · rw [decide_eq_true c]
          rw [if_pos c] at q
          exact iteT ⟨_, rfl, a, _, 3, _, rfl, rfl, SqT.of ha, atI_nat (j := 3) rfl, _, rfl, _, rfl, _, rfl, v3, z, d, x, kvs, ns, env, rfl, h3, hd, told, f2, by omega, q⟩
        · rw [decide_eq_false c]
          rw [if_neg c] at q
          exact iteF ⟨_, rfl, a, _, 4, _, rfl, rfl, SqT.of ha, atI_nat (j := 4) rfl, _, rfl, _, rfl, _, rfl, v4, z, d, y, kvs, ns, env, rfl, h4, hd, told, f3, by omega, q⟩
theorem ok__word_of {P : Program} {w : World} {K : PySem.W.Frag} {mg : Str → Option Value} {base : Heap} {tk_OUTPUT_WIDTH : Tok} {f fcut_word : Addr} {fd fdcut_word : FuncData} (F : Fun K "_word_of" "_word_of" s__word_of f fd) (T : Txt K mg tk_OUTPUT_WIDTH)
    (G_cut_word : FnOk P w K mg base CX0 2 fcut_word fdcut_word ["word", "low", "width"] (sp_cut_word K)) (D_cut_word : Def K mg "cut_word" fcut_word fdcut_word ["word", "low", "width"])
    (D__word_of : Def K mg "_word_of" f fd ["e", "values", "kept"]) :
    FnOk P w K mg base CX0 20 f fd ["e", "values", "kept"] (sp__word_of K) := by
  exact (word_ind F T G_cut_word D_cut_word D__word_of 16).mono (by decide)

end K24
namespace K24
open PySem PySem.Spec PyProof.Rows L2 V0
theorem dc_it {J : It} {n : Nat} {G : Hp → Prop} {Y : Nat → Hp → V → Hp → Prop} (w : Walk J n G Y) {g : TG} {tt : TT} {tk tv : TE} {vs : List Nat} {σ : L2.St} {H1 : Hp} {D : Addr} {Qd : Hp → Prop} (Pv : Nat → Hp → Prop) (h0 : Pv 0 (upd H1 D (.dK []))) (hG : ∀ i H, i ≤ n → Pv i H → G H)
    (hs : ∀ i x H H', i < n → Pv i H → Y i H x H' → g x (wipe σ vs) H' fun σ2 H2 => wipe σ2 vs = wipe σ vs ∧ tt σ2 H2 fun b H3 =>
      if b = true then tk σ2 H3 fun y H4 => tv σ2 H4 fun z H5 => ∃ kvs k, y = kV k ∧ H5 D = some (.dK kvs) ∧ kvs.length < sizeLine ∧ Pv (i + 1) (upd H5 D (.dK (putK kvs k z))) else Pv (i + 1) H3) (hd : ∀ H, Pv n H → Qd H) :
    ∃ W : Nat → Nat → Hp → Prop, (∃ m, W 0 m (upd H1 D (.dK []))) ∧ ∀ i m H, W i m H →
      (J.stop i H ∧ Qd H) ∨ (J.go i H ∧ ∃ Nx : Hp → Prop, (∀ H', Nx H' → ∃ m', m' < m ∧ W (i + 1) m' H') ∧ ∀ x H', J.yld i H x H' → g x (wipe σ vs) H' fun σ2 H2 => wipe σ2 vs = wipe σ vs ∧ tt σ2 H2 fun b H3 =>
        if b = true then tk σ2 H3 fun y H4 => tv σ2 H4 fun z H5 => ∃ kvs k, y = kV k ∧ H5 D = some (.dK kvs) ∧ kvs.length < sizeLine ∧ Nx (upd H5 D (.dK (putK kvs k z))) else Nx H3) := by
  refine ⟨fun i m H => m = n - i ∧ i ≤ n ∧ Pv i H, ⟨n, by simp, Nat.zero_le _, h0⟩, ?_⟩
  rintro i m H ⟨rfl, hi, p⟩
  have q := hG i H hi p
  by_cases hlt : i < n
  · exact .inr ⟨w.goes i H hlt q, Pv (i + 1), fun H' p' => ⟨n - (i + 1), by omega, rfl, hlt, p'⟩, fun x H' y => hs i x H H' hlt p (w.yields i H x H' hlt q y)⟩
  · have e : i = n := by omega
    subst e
    exact .inl ⟨w.stops H q, hd H p⟩

/-! ### cycles -/
def sp__words_of (K : PySem.W.Frag) : Sp := fun vs H Q _ => ∃ (r d : Addr) (z : V) (us : List V) (es : List Ex) (kvs : List (Key × V)) (ns : List Str) (env : Str → Nat), vs = [.ref r, .ref d, z] ∧ H r = some (.lst us) ∧ Xs H us es ∧ H d = some (.dK kvs) ∧ Told kvs ns env ∧ (∀ e ∈ es, e.fine ns ∧ e.deep < 16) ∧ es.length ≤ 1000 ∧
  ∀ H' q, Same H H' → H q = none → H' q = some (.lst (vn (es.map (Ex.val env)))) → Q (.ref q) H'
theorem ok__words_of {P : Program} {w : World} {K : PySem.W.Frag} {mg : Str → Option Value} {base : Heap} {tk_OUTPUT_WIDTH : Tok} {f f_word_of : Addr} {fd fd_word_of : FuncData} (F : Fun K "_words_of" "_words_of" s__words_of f fd) (T : Txt K mg tk_OUTPUT_WIDTH)
    (G__word_of : FnOk P w K mg base CX0 20 f_word_of fd_word_of ["e", "values", "kept"] (sp__word_of K)) (D__word_of : Def K mg "_word_of" f_word_of fd_word_of ["e", "values", "kept"]) :
    FnOk P w K mg base CX0 21 f fd ["expressions", "values", "kept"] (sp__words_of K) := by
  refine F.ok sc_words_of (fun vs H Q E h => ?_) (fun cdv A outer s H vs Q E hr h => ?_)
  · obtain ⟨r, d, z, us, es, kvs, ns, env, rfl, _⟩ := h
    rfl
  · obtain ⟨r, d, z, us, es, kvs, ns, env, rfl, hr', hus, hd, told, ok, few, q⟩ := h
    refine ⟨_, (pss_one (ps_ret (pe_lc (own := [("e", 3)]) (g := gName 3) (tt := tYes) rfl sc_words_of.nd (pi_list (pv 0)) (blkOk_by (N := N__words_of) (sc := defScope s__words_of) (by decide +kernel)) (fun _ _ _ _ _ => (pg_name (i := 3) sc_words_of.nd rfl (Or.inl rfl))) (fun _ _ _ _ _ => pts_nil) (fun _ _ _ _ _ => (pe_call G__word_of (hr.mono (by omega)) (by rfl) D__word_of.m D__word_of.k D__word_of.b .nil pass0 (pa_cons (pv 3) (pa_cons (pv 1) (pa_cons (pv 2) pa_nil)))))))), ?_⟩
    refine ⟨_, rfl, r, rfl, ⟨_, SqL.of hr'⟩, fun D nD => lc_list (xs := us) (fun i Hx => Same H Hx ∧ Hx D = some (.lst (vn ((es.take i).map (Ex.val env))))) ⟨same_new nD, upd_same⟩ (fun i Hx _ h => SqL.of (h.1 _ _ hr')) ?_ ?_⟩
    · rintro i v Hx hv ⟨sx, hD⟩
      have il : i < es.length := by
        rw [← hus.len]
        exact (List.getElem?_eq_some_iff.mp hv).1
      have he := List.getElem?_eq_getElem il
      obtain ⟨u, hu, dv⟩ := (hus.same sx).get he
      rw [hv] at hu
      cases hu
      have oke := ok _ (List.getElem_mem il)
      refine ⟨rfl, _, rfl, _, rfl, _, rfl, v, z, d, es[i], kvs, ns, env, rfl, dv, sx _ _ hd, told, oke.1, oke.2, _, hD, ?_, same_mut sx nD, ?_⟩
      · rw [vn_len, List.length_map, List.length_take]
        exact small1000 (by omega)
      · rw [upd_same, take_snoc he, List.map_append, vn_snoc]
        rfl
    · rintro Hx ⟨sx, hD⟩
      rw [hus.len, List.take_length] at hD
      exact q Hx D sx nD hD
/-- the state of a circuit stands at t: its one word -/
structure Stt (H : Hp) (t a1 a2 : Addr) (x : Nat) : Prop where
  h : H t = some (.tup [.str "state", .ref a1, .ref a2])
  w : H a1 = some (.lst (vn [x]))
  e : H a2 = some (.lst [])
theorem Stt.same {H H' : Hp} {t a1 a2 : Addr} {x : Nat} (h : Stt H t a1 a2 x) (s : Same H H') : Stt H' t a1 a2 x := ⟨s _ _ h.h, s _ _ h.w, s _ _ h.e⟩
theorem lc_none {K : PySem.W.Frag} {a : Addr} {g : TG} {tt : TT} {te : TE} {vs : List Nat} {σ : L2.St} {H1 : Hp} {D : Addr} {Qd : Hp → Prop} (h : H1 a = some (.lst [])) (nD : H1 D = none) (hd : ∀ H, Same H1 H → H D = some (.lst []) → Qd H) :
    ∃ W : Nat → Nat → Hp → Prop, (∃ m, W 0 m (upd H1 D (.lst []))) ∧ ∀ i m H, W i m H →
      ((Itl K a).stop i H ∧ Qd H) ∨ ((Itl K a).go i H ∧ ∃ Nx : Hp → Prop, (∀ H', Nx H' → ∃ m', m' < m ∧ W (i + 1) m' H') ∧ ∀ x H', (Itl K a).yld i H x H' → g x (wipe σ vs) H' fun σ2 H2 => wipe σ2 vs = wipe σ vs ∧ tt σ2 H2 fun b H3 =>
        if b = true then te σ2 H3 fun y H4 => ∃ acc, H4 D = some (.lst acc) ∧ acc.length < sizeLine ∧ Nx (upd H4 D (.lst (acc ++ [y]))) else Nx H3) := by
  refine lc_list (xs := []) (fun i Hx => Same H1 Hx ∧ Hx D = some (.lst [])) ⟨same_new nD, upd_same⟩ (fun i Hx _ k => SqL.of (k.1 _ _ h)) (fun i x Hx e => by cases e) (fun Hx k => hd Hx k.1 k.2)
def sp_start (K : PySem.W.Frag) : Sp := fun vs H Q _ => ∃ (q : Addr) (m : Mach) (cs : List Nat) (aI tI aR tR aM aW aO tO : Addr) (vF vT : V) (mc : Nat) (T O : List Nat), vs = [.ref q] ∧ Circ H q m cs aI tI aR tR aM aW aO tO vF vT mc T O ∧
  ∀ H' t a1 a2, Same H H' → Stt H' t a1 a2 (cs[0]?.getD 0) → Q (.ref t) H'
theorem ok_start {P : Program} {w : World} {K : PySem.W.Frag} {mg : Str → Option Value} {base : Heap} {tk_OUTPUT_WIDTH : Tok} {f  : Addr} {fd  : FuncData} (F : Fun K "start" "start" s_start f fd) (T : Txt K mg tk_OUTPUT_WIDTH) :
    FnOk P w K mg base CX0 1 f fd ["flat"] (sp_start K) := by
  refine F.ok scstart (fun vs H Q E h => ?_) (fun cdv A outer s H vs Q E hr h => ?_)
  · obtain ⟨q, m, cs, aI, tI, aR, tR, aM, aW, aO, tO, vF, vT, mc, T, O, rfl, _⟩ := h
    rfl
  · obtain ⟨q, m, cs, aI, tI, aR, tR, aM, aW, aO, tO, vF, vT, mc, TB, O, rfl, ci, qq⟩ := h
    refine ⟨_, (pss_cons (ps_asg (pv 0) (pg_tup (by rfl) (pgs_cons (pg_name (i := 1) scstart.nd rfl (Or.inl rfl)) (pgs_cons (pg_name (i := 1) scstart.nd rfl (Or.inl rfl)) (pgs_cons (pg_name (i := 2) scstart.nd rfl (Or.inl rfl)) (pgs_cons (pg_name (i := 3) scstart.nd rfl (Or.inl rfl)) (pgs_cons (pg_name (i := 1) scstart.nd rfl (Or.inl rfl)) (pgs_cons (pg_name (i := 1) scstart.nd rfl (Or.inl rfl)) pgs_nil))))))))
      (pss_one (ps_ret (pe_tup (pa_cons pe_str (pa_cons (pe_lc (own := [("_", 1), ("first", 4)]) (g := gTup K 4 (gCons (gName 1) (gCons (gName 1) (gCons (gName 4) (gCons (gName 1) (gNil)))))) (tt := tYes) rfl scstart.nd (pi_list (pv 2)) (blkOk_by (N := N_start) (sc := defScope s_start) (by decide +kernel)) (fun _ _ _ _ _ => (pg_tup (by rfl) (pgs_cons (pg_name (i := 1) scstart.nd rfl (Or.inl rfl)) (pgs_cons (pg_name (i := 1) scstart.nd rfl (Or.inl rfl)) (pgs_cons (pg_name (i := 4) scstart.nd rfl (Or.inl rfl)) (pgs_cons (pg_name (i := 1) scstart.nd rfl (Or.inl rfl)) pgs_nil)))))) (fun _ _ _ _ _ => pts_nil) (fun _ _ _ _ _ => (pv 4))) (pa_cons (pe_lc (own := [("_", 1), ("depth", 5)]) (g := gTup K 4 (gCons (gName 1) (gCons (gName 1) (gCons (gName 5) (gCons (gName 1) (gNil)))))) (tt := tYes) rfl scstart.nd (pi_list (pv 3)) (blkOk_by (N := N_start) (sc := defScope s_start) (by decide +kernel)) (fun _ _ _ _ _ => (pg_tup (by rfl) (pgs_cons (pg_name (i := 1) scstart.nd rfl (Or.inl rfl)) (pgs_cons (pg_name (i := 1) scstart.nd rfl (Or.inl rfl)) (pgs_cons (pg_name (i := 5) scstart.nd rfl (Or.inl rfl)) (pgs_cons (pg_name (i := 1) scstart.nd rfl (Or.inl rfl)) pgs_nil)))))) (fun _ _ _ _ _ => pts_nil) (fun _ _ _ _ _ => (pe_op op_rep (pe_lst (pa_cons pe_int pa_nil)) (pv 5)))) pa_nil))))))), ?_⟩
    refine ⟨_, rfl, q, _, rfl, SqT.of ci.hq, rfl, _, _, rfl, _, _, rfl, _, _, rfl, _, _, rfl, _, _, rfl, _, _, rfl, rfl, ?_⟩
    refine ⟨_, rfl, aR, rfl, ⟨_, SqL.of ci.hr⟩, fun D nD => lc_list (xs := [V.ref tR]) (fun i Hx => Same H Hx ∧ Hx D = some (.lst ((vn [cs[0]?.getD 0]).take i))) ⟨same_new nD, upd_same⟩ (fun i Hx _ h => SqL.of (h.1 _ _ ci.hr)) ?_ ?_⟩
    · rintro i v Hx hv ⟨sx, hD⟩
      have hi : i = 0 := by
        have := (List.getElem?_eq_some_iff.mp hv).1
        have : i < 1 := this
        omega
      subst hi
      cases hv
      refine ⟨tR, _, rfl, SqT.of (sx _ _ ci.htr), rfl, _, _, rfl, _, _, rfl, _, _, rfl, _, _, rfl, rfl, ?_⟩
      exact ⟨rfl, _, rfl, _, hD, by show 0 < sizeLine; decide, same_mut sx nD, upd_same⟩
    rintro H1 ⟨s1, hD⟩
    have hD : H1 D = some (.lst (vn [cs[0]?.getD 0])) := hD
    refine ⟨_, rfl, aM, rfl, ⟨_, SqL.of (s1 _ _ ci.hm)⟩, fun D2 nD2 => lc_none (s1 _ _ ci.hm) nD2 fun H2 s2 hD2 => ⟨by show 3 ≤ sizeLine; decide, fun z nz => ?_⟩⟩
    have sz := same_new (o := .tup [.str "state", .ref D, .ref D2]) nz
    exact qq _ z D D2 (s1.trans (s2.trans sz)) ⟨upd_same, sz _ _ (s2 _ _ hD), sz _ _ hD2⟩
theorem one_get {α : Type} {x y : α} {i : Nat} (h : [x][i]? = some y) : i = 0 ∧ y = x := by
  have := (List.getElem?_eq_some_iff.mp h).1
  have : i < 1 := this
  have : i = 0 := by omega
  subst this
  cases h
  exact ⟨rfl, rfl⟩
def sp_step (K : PySem.W.Frag) : Sp := fun vs H Q _ => ∃ (q t wl : Addr) (m : Mach) (cs : List Nat) (aI tI aR tR aM aW aO tO : Addr) (vF vT : V) (mc : Nat) (T O : List Nat) (a1 a2 : Addr) (x l : Nat) (env : Str → Nat), vs = [.ref q, .ref t, .ref wl] ∧ Circ H q m cs aI tI aR tR aM aW aO tO vF vT mc T O ∧ Stt H t a1 a2 x ∧ H wl = some (.lst (vn [l])) ∧
  env "letter" = l ∧ env "state" = x ∧ wd mc ≤ 8 ∧ wd (m.letters - 1) ≤ 4 ∧
  ∀ H' z o t' b1 b2, Same H H' → H' z = some (.tup [.ref o, .ref t']) → H' o = some (.lst (vn [(lkr 8 (nbits "state" (wd mc) (wd mc)) O).val env])) → Stt H' t' b1 b2 ((lkr (wd mc) (fbits (wd mc) (wd (m.letters - 1))) T).val env) → Q (.ref z) H'
theorem ok_step {P : Program} {w : World} {K : PySem.W.Frag} {mg : Str → Option Value} {base : Heap} {tk_OUTPUT_WIDTH : Tok} {f f_words_of : Addr} {fd fd_words_of : FuncData} (F : Fun K "step" "step" s_step f fd) (T : Txt K mg tk_OUTPUT_WIDTH)
    (G__words_of : FnOk P w K mg base CX0 21 f_words_of fd_words_of ["expressions", "values", "kept"] (sp__words_of K)) (D__words_of : Def K mg "_words_of" f_words_of fd_words_of ["expressions", "values", "kept"]) :
    FnOk P w K mg base CX0 22 f fd ["flat", "state", "words"] (sp_step K) := by
  refine F.ok scstep (fun vs H Q E h => ?_) (fun cdv A outer s H vs Q E hr h => ?_)
  · obtain ⟨q, t, wl, m, cs, aI, tI, aR, tR, aM, aW, aO, tO, vF, vT, mc, T, O, a1, a2, x, l, env, rfl, _⟩ := h
    rfl
  · obtain ⟨q, t, wl, m, cs, aI, tI, aR, tR, aM, aW, aO, tO, vF, vT, mc, TB, O, a1, a2, x, l, env, rfl, ci, st, hwl, envl, envs, w8, lw4, qq⟩ := h
    refine ⟨_, (pss_cons (ps_asg (pv 0) (pg_tup (by rfl) (pgs_cons (pg_name (i := 3) scstep.nd rfl (Or.inl rfl)) (pgs_cons (pg_name (i := 4) scstep.nd rfl (Or.inl rfl)) (pgs_cons (pg_name (i := 5) scstep.nd rfl (Or.inl rfl)) (pgs_cons (pg_name (i := 6) scstep.nd rfl (Or.inl rfl)) (pgs_cons (pg_name (i := 7) scstep.nd rfl (Or.inl rfl)) (pgs_cons (pg_name (i := 8) scstep.nd rfl (Or.inl rfl)) pgs_nil))))))))
      (C8.pss_cut (ps_set (i := 10) scstep.nd rfl (.inr rfl) (pe_dc (own := [("word", 16), ("name", 9), ("_", 3)]) (g := gTup K 2 (gCons (gTup K 2 (gCons (gName 9) (gCons (gName 3) (gNil)))) (gCons (gName 16) (gNil)))) (tt := tYes) rfl scstep.nd (pi_zip (by rfl) T.m_zip (pa_cons (pv 4) (pa_cons (pv 2) pa_nil))) (blkOk_by (N := N_step) (sc := defScope s_step) (by decide +kernel)) (fun _ _ _ _ _ => (pg_tup (by rfl) (pgs_cons (pg_tup (by rfl) (pgs_cons (pg_name (i := 9) scstep.nd rfl (Or.inl rfl)) (pgs_cons (pg_name (i := 3) scstep.nd rfl (Or.inl rfl)) pgs_nil))) (pgs_cons (pg_name (i := 16) scstep.nd rfl (Or.inl rfl)) pgs_nil)))) (fun _ _ _ _ _ => pts_nil) (fun _ _ _ _ _ => (pv 9)) (fun _ _ _ _ _ => (pv 16))))
      (pss_cons (ps_expr (pe_bm PySem.F.plainAttrs_dict PySem.F.slot_dict_update PySem.F.type_dict_update V0.mtd_update (pv 10) (pa_cons (pe_dc (own := [("word", 16), ("name", 9), ("_", 3)]) (g := gTup K 2 (gCons (gTup K 4 (gCons (gName 9) (gCons (gName 3) (gCons (gName 3) (gCons (gName 3) (gNil)))))) (gCons (gName 16) (gNil)))) (tt := tYes) rfl scstep.nd (pi_zip (by rfl) T.m_zip (pa_cons (pv 5) (pa_cons (pe_ix (r := rIxT K) ix_tup (pv 1) pe_int (fun _ _ => rfl)) pa_nil))) (blkOk_by (N := N_step) (sc := defScope s_step) (by decide +kernel)) (fun _ _ _ _ _ => (pg_tup (by rfl) (pgs_cons (pg_tup (by rfl) (pgs_cons (pg_name (i := 9) scstep.nd rfl (Or.inl rfl)) (pgs_cons (pg_name (i := 3) scstep.nd rfl (Or.inl rfl)) (pgs_cons (pg_name (i := 3) scstep.nd rfl (Or.inl rfl)) (pgs_cons (pg_name (i := 3) scstep.nd rfl (Or.inl rfl)) pgs_nil))))) (pgs_cons (pg_name (i := 16) scstep.nd rfl (Or.inl rfl)) pgs_nil)))) (fun _ _ _ _ _ => pts_nil) (fun _ _ _ _ _ => (pv 9)) (fun _ _ _ _ _ => (pv 16))) pa_nil)))
      (pss_cons (ps_set (i := 12) scstep.nd rfl (.inr rfl) (pe_dc (own := [("row", 11), ("name", 9), ("_", 3)]) (g := gTup K 2 (gCons (gTup K 4 (gCons (gName 9) (gCons (gName 3) (gCons (gName 3) (gCons (gName 3) (gNil)))))) (gCons (gName 11) (gNil)))) (tt := tYes) rfl scstep.nd (pi_zip (by rfl) T.m_zip (pa_cons (pv 6) (pa_cons (pe_ix (r := rIxT K) ix_tup (pv 1) pe_int (fun _ _ => rfl)) pa_nil))) (blkOk_by (N := N_step) (sc := defScope s_step) (by decide +kernel)) (fun _ _ _ _ _ => (pg_tup (by rfl) (pgs_cons (pg_tup (by rfl) (pgs_cons (pg_name (i := 9) scstep.nd rfl (Or.inl rfl)) (pgs_cons (pg_name (i := 3) scstep.nd rfl (Or.inl rfl)) (pgs_cons (pg_name (i := 3) scstep.nd rfl (Or.inl rfl)) (pgs_cons (pg_name (i := 3) scstep.nd rfl (Or.inl rfl)) pgs_nil))))) (pgs_cons (pg_name (i := 11) scstep.nd rfl (Or.inl rfl)) pgs_nil)))) (fun _ _ _ _ _ => pts_nil) (fun _ _ _ _ _ => (pv 9)) (fun _ _ _ _ _ => (pv 11))))
      (pss_cons (ps_for PassesOwn.never rfl (pi_list (pv 7)) (pg_tup (by rfl) (pgs_cons (pg_name (i := 9) scstep.nd rfl (Or.inl rfl)) (pgs_cons (pg_name (i := 3) scstep.nd rfl (Or.inl rfl)) (pgs_cons (pg_name (i := 13) scstep.nd rfl (Or.inl rfl)) pgs_nil)))) (pss_one V0.ps_never))
      (pss_cons (ps_set (i := 11) scstep.nd rfl (.inl rfl) (pe_call G__words_of (hr.mono (by omega)) (by rfl) D__words_of.m D__words_of.k D__words_of.b .nil pass0 (pa_cons (pe_lc (own := [("_", 3), ("told", 18)]) (g := gTup K 3 (gCons (gName 3) (gCons (gName 3) (gCons (gName 18) (gNil))))) (tt := tYes) rfl scstep.nd (pi_list (pv 8)) (blkOk_by (N := N_step) (sc := defScope s_step) (by decide +kernel)) (fun _ _ _ _ _ => (pg_tup (by rfl) (pgs_cons (pg_name (i := 3) scstep.nd rfl (Or.inl rfl)) (pgs_cons (pg_name (i := 3) scstep.nd rfl (Or.inl rfl)) (pgs_cons (pg_name (i := 18) scstep.nd rfl (Or.inl rfl)) pgs_nil))))) (fun _ _ _ _ _ => pts_nil) (fun _ _ _ _ _ => (pv 18))) (pa_cons (pv 10) (pa_cons (pv 12) pa_nil)))))
      (pss_cons (ps_set (i := 14) scstep.nd rfl (.inl rfl) (pe_call G__words_of (hr.mono (by omega)) (by rfl) D__words_of.m D__words_of.k D__words_of.b .nil pass0 (pa_cons (pe_lc (own := [("_", 3), ("told", 18)]) (g := gTup K 4 (gCons (gName 3) (gCons (gName 3) (gCons (gName 3) (gCons (gName 18) (gNil)))))) (tt := tYes) rfl scstep.nd (pi_list (pv 5)) (blkOk_by (N := N_step) (sc := defScope s_step) (by decide +kernel)) (fun _ _ _ _ _ => (pg_tup (by rfl) (pgs_cons (pg_name (i := 3) scstep.nd rfl (Or.inl rfl)) (pgs_cons (pg_name (i := 3) scstep.nd rfl (Or.inl rfl)) (pgs_cons (pg_name (i := 3) scstep.nd rfl (Or.inl rfl)) (pgs_cons (pg_name (i := 18) scstep.nd rfl (Or.inl rfl)) pgs_nil)))))) (fun _ _ _ _ _ => pts_nil) (fun _ _ _ _ _ => (pv 18))) (pa_cons (pv 10) (pa_cons (pv 12) pa_nil)))))
      (pss_cons (ps_setLc (i := 15) (own := [("memory", 17)]) (g := gName 17) (tt := tYes) rfl scstep.nd rfl rfl (sw_true rfl rfl rfl (by decide +kernel)) (pi_list (pv 6)) (blkOk_by (N := N_step) (sc := defScope s_step) (by decide +kernel)) (fun _ _ _ _ _ => (pg_name (i := 17) scstep.nd rfl (Or.inl rfl))) (fun _ _ _ _ _ => pts_nil) (fun _ _ _ _ _ => V0.pe_never))
      (pss_one (ps_ret (pe_tup (pa_cons (pv 11) (pa_cons (pe_tup (pa_cons pe_str (pa_cons (pv 14) (pa_cons (pv 15) pa_nil)))) pa_nil))))))))))))), ?_⟩
    refine ⟨_, rfl, q, _, rfl, SqT.of ci.hq, rfl, _, _, rfl, _, _, rfl, _, _, rfl, _, _, rfl, _, _, rfl, _, _, rfl, rfl, ?_⟩
    -- the inputs
    change C8.tCut _ _ _ [some (.ref q), some (.ref t), some (.ref wl), some (.str "flat"), some (.ref aI), some (.ref aR), some (.ref aM), some (.ref aW), some (.ref aO), none, none, none, none, none, none, none, none, none, none] H
    refine ⟨fun σ H1 => ∃ D : Addr, σ = [some (.ref q), some (.ref t), some (.ref wl), some (.str "flat"), some (.ref aI), some (.ref aR), some (.ref aM), some (.ref aW), some (.ref aO), none, some (.ref D), none, none, none, none, none, none, none, none] ∧ Same (hid D H) (hid D H1) ∧ H D = none ∧ H1 D = some (.dK [(Sum.inr "letter", V.int (l : Nat))]), ?_, ?_⟩
    · refine ⟨_, rfl, _, rfl, aI, wl, _, _, rfl, SqL.of ci.hi, SqL.of hwl, fun D nD => dc_it (walk_zip (xs := [V.ref tI]) (ys := vn [l]) (n := 1) rfl) (fun i Hx => Same (hid D H) (hid D Hx) ∧ Hx D = some (.dK (([(Sum.inr "letter", V.int (l : Nat))] : List (Key × V)).take i))) ⟨hid_mono (same_new nD), upd_same⟩ (fun i Hx _ h => ⟨SqL.of ((hid_some (h.1 _ _ (hid_of (ne_of_none ci.hi nD) ci.hi))).2), SqL.of ((hid_some (h.1 _ _ (hid_of (ne_of_none hwl nD) hwl))).2)⟩) ?_ ?_⟩
      · rintro i v Hx Hx' hi ⟨kx, hD⟩ ⟨tt, u, z, rfl, nt, rfl, hu, hz⟩
        have hu : [V.ref tI][i]? = some u := hu
        obtain ⟨rfl, rfl⟩ := one_get hu
        have hz : (vn [l])[0]? = some z := hz
        cases hz
        have sx := same_new (o := .tup [.ref tI, .int (l : Nat)]) nt
        have low : Same H Hx := fun b o e => (hid_some (kx _ _ (hid_of (ne_of_none e nD) e))).2
        refine ⟨tt, _, rfl, SqT.of upd_same, rfl, _, _, rfl, tI, _, rfl, SqT.of (sx _ _ (low _ _ ci.hti)), rfl, _, _, rfl, _, _, rfl, rfl, _, _, rfl, rfl, ?_⟩
        exact ⟨rfl, _, rfl, _, rfl, [], Sum.inr "letter", rfl, sx _ _ hD, by show 0 < sizeLine; decide, (kx.trans (hid_mono sx)).trans hid_mut, upd_same⟩
      exact fun H1 k => ⟨D, rfl, k.1, nD, k.2⟩
    rintro σ H1 ⟨D, rfl, k1, nD, hD⟩
    have s1 : Same H H1 := fun b o e => (hid_some (k1 _ _ (hid_of (ne_of_none e nD) e))).2
    -- the registers
    refine ⟨_, rfl, .inr (.inr (.inl ⟨rfl, .inl ⟨_, hD⟩⟩)), ?_⟩
    refine ⟨_, rfl, _, rfl, t, _, 1, _, rfl, rfl, SqT.of (s1 _ _ st.h), atI_nat (j := 1) rfl, aR, a1, _, _, rfl, SqL.of (s1 _ _ ci.hr), SqL.of (s1 _ _ st.w), fun D2 nD2 => dc_it (walk_zip (xs := [V.ref tR]) (ys := vn [x]) (n := 1) rfl) (fun i Hx => Same (hid D2 H1) (hid D2 Hx) ∧ Hx D2 = some (.dK (([(Sum.inr "state", V.int (x : Nat))] : List (Key × V)).take i))) ⟨hid_mono (same_new nD2), upd_same⟩ (fun i Hx _ h => ⟨SqL.of ((hid_some (h.1 _ _ (hid_of (ne_of_none (s1 _ _ ci.hr) nD2) (s1 _ _ ci.hr)))).2), SqL.of ((hid_some (h.1 _ _ (hid_of (ne_of_none (s1 _ _ st.w) nD2) (s1 _ _ st.w)))).2)⟩) ?_ ?_⟩
    · rintro i v Hx Hx' hi ⟨kx, hD'⟩ ⟨tt, u, z, rfl, nt, rfl, hu, hz⟩
      have hu : [V.ref tR][i]? = some u := hu
      obtain ⟨rfl, rfl⟩ := one_get hu
      have hz : (vn [x])[0]? = some z := hz
      cases hz
      have sx := same_new (o := .tup [.ref tR, .int (x : Nat)]) nt
      have low : Same H1 Hx := fun b o e => (hid_some (kx _ _ (hid_of (ne_of_none e nD2) e))).2
      refine ⟨tt, _, rfl, SqT.of upd_same, rfl, _, _, rfl, tR, _, rfl, SqT.of (sx _ _ (low _ _ (s1 _ _ ci.htr))), rfl, _, _, rfl, _, _, rfl, _, _, rfl, _, _, rfl, rfl, _, _, rfl, rfl, ?_⟩
      exact ⟨rfl, _, rfl, _, rfl, [], Sum.inr "state", rfl, sx _ _ hD', by show 0 < sizeLine; decide, (kx.trans (hid_mono sx)).trans hid_mut, upd_same⟩
    rintro H2 ⟨k2, hD2⟩
    have hD2 : H2 D2 = some (.dK [(Sum.inr "state", V.int (x : Nat))]) := hD2
    have s2 : Same H1 H2 := fun b o e => (hid_some (k2 _ _ (hid_of (ne_of_none e nD2) e))).2
    have neD : D ≠ D2 := ne_of_none hD nD2
    refine ⟨D, D2, _, _, rfl, rfl, neD, s2 _ _ hD, hD2, by show 2 ≤ sizeLine; decide, ?_⟩
    obtain ⟨kv, hkv⟩ : ∃ kv : List (Key × V), kv = mergeK [(Sum.inr "letter", V.int (l : Nat))] [(Sum.inr "state", V.int (x : Nat))] := ⟨_, rfl⟩
    have told : Told kv ["letter", "state"] env := by
      have hls : ¬ ((Sum.inr ("letter" : Str) : Key) = Sum.inr ("state" : Str)) := by decide +kernel
      have e : kv = ([(Sum.inr ("letter" : Str), V.int (l : Nat)), (Sum.inr ("state" : Str), V.int (x : Nat))] : List (Key × V)) := by
        rw [hkv]
        show putK ([(Sum.inr ("letter" : Str), V.int (l : Nat))] : List (Key × V)) (Sum.inr ("state" : Str)) (V.int (x : Nat)) = _
        rw [putK_new _ (by rw [valV_neg (p := ((Sum.inr ("letter" : Str) : Key), V.int (l : Nat))) hls]; rfl)]
        rfl
      intro n hn
      rw [e]
      rcases List.mem_cons.mp hn with rfl | hn
      · rw [envl]
        exact valV_pos (p := ((Sum.inr ("letter" : Str) : Key), V.int (l : Nat))) rfl
      · rw [List.mem_singleton] at hn
        subst hn
        rw [valV_neg (p := ((Sum.inr ("letter" : Str) : Key), V.int (l : Nat))) hls, envs]
        exact valV_pos (p := ((Sum.inr ("state" : Str) : Key), V.int (x : Nat))) rfl
    rw [← hkv]
    have s3 : Same H (upd H2 D (.dK kv)) := fun b o e => by
      rw [upd_ne (ne_of_none e nD)]
      exact s2 _ _ (s1 _ _ e)
    have hd3 : (upd H2 D (.dK kv)) D = some (.dK kv) := upd_same
    generalize (upd H2 D (.dK kv)) = H3 at s3 hd3 ⊢
    clear s2 s1 k1 k2 hD hD2 nD nD2 neD
    -- memories, wires
    refine ⟨_, rfl, _, rfl, t, _, 2, _, rfl, rfl, SqT.of (s3 _ _ st.h), atI_nat (j := 2) rfl, aM, a2, _, _, rfl, SqL.of (s3 _ _ ci.hm), SqL.of (s3 _ _ st.e), fun D4 nD4 => dc_it (walk_zip (xs := []) (ys := []) (n := 0) rfl) (fun i Hx => Same H3 Hx) (same_new nD4) (fun i Hx _ h => ⟨SqL.of (h _ _ (s3 _ _ ci.hm)), SqL.of (h _ _ (s3 _ _ st.e))⟩) (fun i v Hx Hx' hi => absurd hi (Nat.not_lt_zero _)) fun H4 s4 => ?_⟩
    have s34 := s3.trans s4
    have hd4 := s4 _ _ hd3
    refine ⟨_, rfl, aW, rfl, ⟨_, SqL.of (s34 _ _ ci.hw)⟩, for_list (xs := ([] : List V)) (tb := fun _ _ _ => False) (fun i σ Hx => σ = [some (.ref q), some (.ref t), some (.ref wl), some (.str "flat"), some (.ref aI), some (.ref aR), some (.ref aM), some (.ref aW), some (.ref aO), none, some (.ref D), none, some (.ref D4), none, none, none, none, none, none] ∧ Same H4 Hx) ⟨rfl, Same.refl _⟩ (fun i σ Hx _ h => SqL.of (h.2 _ _ (s34 _ _ ci.hw))) (fun i v σ Hx hv => by cases hv) ?_⟩
    rintro σ H5 ⟨rfl, s5⟩
    have s35 := s34.trans s5
    have hd5 := s5 _ _ hd4
    have fineN : ∀ {n : Str} {W k : Nat}, n ∈ (["letter", "state"] : List Str) → k ≤ 1000 → ∀ b ∈ nbits n W k, b.fine ["letter", "state"] ∧ b.deep ≤ 2 := fun h hk => nbits_all h hk
    have m1 : ("letter" : Str) ∈ (["letter", "state"] : List Str) := List.mem_cons_self
    have m2 : ("state" : Str) ∈ (["letter", "state"] : List Str) := List.mem_cons_of_mem _ List.mem_cons_self
    have okT : (lkr 8 (nbits "state" (wd mc) (wd mc)) O).fine ["letter", "state"] ∧ (lkr 8 (nbits "state" (wd mc) (wd mc)) O).deep < 16 := by
      refine ⟨lkr_fine 8 _ _ fun b hb => (fineN m2 (by omega) b hb).1, ?_⟩
      have := lkr_deep 8 (d := 2) (by decide) (nbits "state" (wd mc) (wd mc)) O fun b hb => (fineN m2 (by omega) b hb).2
      rw [nbits_len] at this
      omega
    have okb : ∀ b ∈ fbits (wd mc) (wd (m.letters - 1)), b.fine ["letter", "state"] ∧ b.deep ≤ 2 := fun b hb => by
      rcases List.mem_append.mp hb with hb | hb
      · exact fineN m2 (by omega) b hb
      · exact fineN m1 (by omega) b hb
    have okF : (lkr (wd mc) (fbits (wd mc) (wd (m.letters - 1))) TB).fine ["letter", "state"] ∧ (lkr (wd mc) (fbits (wd mc) (wd (m.letters - 1))) TB).deep < 16 := by
      refine ⟨lkr_fine _ _ _ fun b hb => (okb b hb).1, ?_⟩
      have := lkr_deep (wd mc) (d := 2) (by decide) (fbits (wd mc) (wd (m.letters - 1))) TB fun b hb => (okb b hb).2
      rw [fbits_len] at this
      omega
    -- outputs
    refine ⟨_, rfl, aO, rfl, ⟨_, SqL.of (s35 _ _ ci.ho)⟩, fun D6 nD6 => lc_list (xs := [V.ref tO]) (fun i Hx => Same H5 Hx ∧ Hx D6 = some (.lst ([vT].take i))) ⟨same_new nD6, upd_same⟩ (fun i Hx _ h => SqL.of (h.1 _ _ (s35 _ _ ci.ho))) ?_ ?_⟩
    · rintro i v Hx hv ⟨sx, hD⟩
      obtain ⟨rfl, rfl⟩ := one_get hv
      refine ⟨tO, _, rfl, SqT.of (sx _ _ (s35 _ _ ci.hto)), rfl, _, _, rfl, _, _, rfl, _, _, rfl, rfl, ?_⟩
      exact ⟨rfl, _, rfl, _, hD, by show 0 < sizeLine; decide, same_mut sx nD6, upd_same⟩
    rintro H6 ⟨s6, h6⟩
    have h6 : H6 D6 = some (.lst [vT]) := h6
    have s36 := s35.trans s6
    refine ⟨_, rfl, _, rfl, D6, D, .ref D4, [vT], [lkr 8 (nbits "state" (wd mc) (wd mc)) O], kv, _, env, rfl, h6, .cons (dh_same s36 _ _ ci.ht) .nil, s6 _ _ hd5, told, (fun e he => by rw [List.mem_singleton] at he; rw [he]; exact okT), by show 1 ≤ 1000; decide, fun H7 o s7 no ho => ?_⟩
    have s37 := s36.trans s7
    have hd7 := s7 _ _ (s6 _ _ hd5)
    -- the next words
    refine ⟨_, rfl, aR, rfl, ⟨_, SqL.of (s37 _ _ ci.hr)⟩, fun D8 nD8 => lc_list (xs := [V.ref tR]) (fun i Hx => Same H7 Hx ∧ Hx D8 = some (.lst ([vF].take i))) ⟨same_new nD8, upd_same⟩ (fun i Hx _ h => SqL.of (h.1 _ _ (s37 _ _ ci.hr))) ?_ ?_⟩
    · rintro i v Hx hv ⟨sx, hD⟩
      obtain ⟨rfl, rfl⟩ := one_get hv
      refine ⟨tR, _, rfl, SqT.of (sx _ _ (s37 _ _ ci.htr)), rfl, _, _, rfl, _, _, rfl, _, _, rfl, _, _, rfl, rfl, ?_⟩
      exact ⟨rfl, _, rfl, _, hD, by show 0 < sizeLine; decide, same_mut sx nD8, upd_same⟩
    rintro H8 ⟨s8, h8⟩
    have h8 : H8 D8 = some (.lst [vF]) := h8
    have s38 := s37.trans s8
    refine ⟨_, rfl, _, rfl, D8, D, .ref D4, [vF], [lkr (wd mc) (fbits (wd mc) (wd (m.letters - 1))) TB], kv, _, env, rfl, h8, .cons (dh_same s38 _ _ ci.hf) .nil, s8 _ _ hd7, told, (fun e he => by rw [List.mem_singleton] at he; rw [he]; exact okF), by show 1 ≤ 1000; decide, fun H9 b1 s9 nb1 hb1 => ?_⟩
    have s39 := s38.trans s9
    refine ⟨_, rfl, aM, rfl, ⟨_, SqL.of (s39 _ _ ci.hm)⟩, fun b2 nb2 => lc_none (te := fun _ _ _ => False) (s39 _ _ ci.hm) nb2 fun HA sA hb2 => ?_⟩
    refine ⟨_, rfl, _, rfl, _, rfl, by show 3 ≤ sizeLine; decide, fun t' nt' => ⟨by show 2 ≤ sizeLine; decide, fun z nz => ?_⟩⟩
    have st' := same_new (o := .tup [.str "state", .ref b1, .ref b2]) nt'
    have sz := same_new (o := .tup [.ref o, .ref t']) nz
    have u9 := sA.trans (st'.trans sz)
    exact qq _ z o t' b1 b2 (s39.trans u9) upd_same (u9 _ _ (s9 _ _ (s8 _ _ ho))) ⟨sz _ _ upd_same, u9 _ _ hb1, sz _ _ (st' _ _ hb2)⟩

end K24
namespace K24
open PySem PySem.Spec PyProof.Rows L2 V0
theorem nodup_le {α : Type} [DecidableEq α] : ∀ {xs ys : List α}, xs.Nodup → (∀ x ∈ xs, x ∈ ys) → xs.length ≤ ys.length
  | [], _, _, _ => Nat.zero_le _
  | x :: xs, ys, nd, h => by
    have hx := h x List.mem_cons_self
    have nd := List.nodup_cons.mp nd
    have ih := nodup_le (ys := ys.erase x) nd.2 fun y hy => (List.mem_erase_of_ne (fun e => nd.1 (by rw [← e]; exact hy))).mpr (h y (List.mem_cons_of_mem _ hy))
    rw [List.length_erase_of_mem hx] at ih
    have := List.length_pos_of_mem hx
    rw [List.length_cons]
    omega
/-! ### for laws over machines -/
theorem mach_small {m : Mach} {L M : Nat} (ok : MOk m L M) (hL : L ≤ 16) (hM : M ≤ 64) : ∃ n, n ≤ 2 ^ 20 ∧ Sm (PySem.W.Datum.toD m) n := by
  have l2 := ok.l2
  have m2 := ok.m2
  have hr : ∀ r ∈ m.rows, Sm (PySem.W.Datum.toD r) 700 := fun r hr => by
    have k := ok.r r hr
    have s2 := Sm.nats (xs := r.2) fun x hx => by have := k.2.2 x hx; omega
    refine (Sm.tup (SmA.cons (Sm.nat (n := r.1) (by have := k.1; omega)) (SmA.cons s2 SmA.nil))).mono ?_
    have := k.2.1
    omega
  have s0 : Sm (.str "moore") 60 := ⟨by decide +kernel, by decide +kernel, by decide +kernel⟩
  have h1 := Sm.nat (n := m.letters) (by omega)
  have h2 := Sm.of_list hr
  refine ⟨_, ?_, Sm.tup (SmA.cons s0 (SmA.cons h1 (SmA.cons h2 SmA.nil)))⟩
  omega
theorem ex_hid {H : Hp} {p : Addr} {xs : List V} (hp : H p = some (.lst xs)) : ∀ (e : Ex) (v : V), Dh H v e.toD → Dh (hid p H) v e.toD
  | .cst w x, v, h => by
    obtain ⟨a, us, rfl, ha, hx⟩ := dh_tup h
    obtain ⟨v0, r0, rfl, h0, hx⟩ := dha_cons hx
    obtain ⟨v1, r1, rfl, h1, hx⟩ := dha_cons hx
    obtain ⟨v2, r2, rfl, h2, hx⟩ := dha_cons hx
    cases dha_nil hx
    cases h0
    cases h1
    cases h2
    exact Dh.tup (hid_of (ne_of ha hp (by intro z; cases z)) ha) (.cons (.str _) (.cons (.int _) (.cons (.int _) .nil)))
  | .nm w n, v, h => by
    obtain ⟨a, us, rfl, ha, hx⟩ := dh_tup h
    obtain ⟨v0, r0, rfl, h0, hx⟩ := dha_cons hx
    obtain ⟨v1, r1, rfl, h1, hx⟩ := dha_cons hx
    obtain ⟨v2, r2, rfl, h2, hx⟩ := dha_cons hx
    cases dha_nil hx
    cases h0
    cases h1
    cases h2
    exact Dh.tup (hid_of (ne_of ha hp (by intro z; cases z)) ha) (.cons (.str _) (.cons (.int _) (.cons (.str _) .nil)))
  | .cut w e low, v, h => by
    obtain ⟨a, us, rfl, ha, hx⟩ := dh_tup h
    obtain ⟨v0, r0, rfl, h0, hx⟩ := dha_cons hx
    obtain ⟨v1, r1, rfl, h1, hx⟩ := dha_cons hx
    obtain ⟨v2, r2, rfl, h2, hx⟩ := dha_cons hx
    obtain ⟨v3, r3, rfl, h3, hx⟩ := dha_cons hx
    cases dha_nil hx
    cases h0
    cases h1
    cases h3
    exact Dh.tup (hid_of (ne_of ha hp (by intro z; cases z)) ha) (.cons (.str _) (.cons (.int _) (.cons (ex_hid hp e _ h2) (.cons (.int _) .nil))))
  | .cho w t x y, v, h => by
    obtain ⟨a, us, rfl, ha, hx⟩ := dh_tup h
    obtain ⟨v0, r0, rfl, h0, hx⟩ := dha_cons hx
    obtain ⟨v1, r1, rfl, h1, hx⟩ := dha_cons hx
    obtain ⟨v2, r2, rfl, h2, hx⟩ := dha_cons hx
    obtain ⟨v3, r3, rfl, h3, hx⟩ := dha_cons hx
    obtain ⟨v4, r4, rfl, h4, hx⟩ := dha_cons hx
    cases dha_nil hx
    cases h0
    cases h1
    exact Dh.tup (hid_of (ne_of ha hp (by intro z; cases z)) ha) (.cons (.str _) (.cons (.int _) (.cons (ex_hid hp t _ h2) (.cons (ex_hid hp x _ h3) (.cons (ex_hid hp y _ h4) .nil)))))
theorem Circ.hid {H : Hp} {p : Addr} {i s : Int} (hp : H p = some (ls2 i s)) {q : Addr} {m : Mach} {cs : List Nat} {aI tI aR tR aM aW aO tO : Addr} {vF vT : V} {mc : Nat} {T O : List Nat} (h : Circ H q m cs aI tI aR tR aM aW aO tO vF vT mc T O) : Circ (V0.hid p H) q m cs aI tI aR tR aM aW aO tO vF vT mc T O := by
  have t : ∀ {a : Addr} {xs : List V}, H a = some (.tup xs) → V0.hid p H a = some (.tup xs) := fun {a xs} e => hid_of (ne_of e hp (by intro z; cases z)) e
  have l : ∀ {a : Addr} {xs : List V}, xs.length < 2 → H a = some (.lst xs) → V0.hid p H a = some (.lst xs) := fun {a xs} hl e => hid_of (ne_of e hp (by intro z; cases z; exact absurd (show 2 < 2 from hl) (Nat.lt_irrefl 2))) e
  exact ⟨t h.hq, l (show 1 < 2 by decide) h.hi, t h.hti, l (show 1 < 2 by decide) h.hr, t h.htr, l (show 0 < 2 by decide) h.hm, l (show 0 < 2 by decide) h.hw, l (show 1 < 2 by decide) h.ho, t h.hto, ex_hid hp _ _ h.hf, ex_hid hp _ _ h.ht, h.mx, h.tt, h.oo⟩
theorem Stt.hid {H : Hp} {p : Addr} {i s : Int} (hp : H p = some (ls2 i s)) {t a1 a2 : Addr} {x : Nat} (h : Stt H t a1 a2 x) : Stt (V0.hid p H) t a1 a2 x := by
  refine ⟨hid_of (ne_of h.h hp (by intro z; cases z)) h.h, hid_of (ne_of h.w hp (by intro z; cases z)) h.w, hid_of (ne_of h.e hp (by intro z; cases z)) h.e⟩
theorem neSame {K : PySem.W.Frag} {H : Hp} {x y : V} {Q : VK} {d : PyData} (hx : Dh H x d) (hy : Dh H y d) (sh : SeqAt.shaped d = true) (e : PyData.eqv d d = true) (q : Q (.bl false) H) : rNeD K x y H Q := by
  refine ⟨d, d, dh_dp _ _ hx, dh_dp _ _ hy, sh, sh, ?_⟩
  rw [e]
  exact q
/-- what the tables tell -/
theorem out_val {m : Mach} {cs : List Nat} {mc : Nat} {O : List Nat} {env : Str → Nat} (mx : IsMax cs mc) (oo : OI m cs (wd mc) m.rows.length O) {k c : Nat} {r : Nat × List Nat} (hc : cs[k]? = some c) (hr : m.rows[k]? = some r) (he : env "state" = c) :
    (lkr 8 (nbits "state" (wd mc) (wd mc)) O).val env = r.1 := by
  rw [lkr_val env 8 _ O (by rw [oo.len, nbits_len]), idx_nbits, he, Nat.mod_eq_of_lt (Nat.lt_of_le_of_lt (mx.le c (List.mem_of_getElem? hc)) (wd_lt mc)), oo.a k c r (List.getElem?_eq_some_iff.mp hr).1 hc hr]
  rfl
theorem fol_idx {m : Mach} {mc : Nat} {env : Str → Nat} {c l : Nat} (hc : c < 2 ^ wd mc) (hl : l < 2 ^ wd (m.letters - 1)) (he : env "state" = c) (hel : env "letter" = l) : idx env (fbits (wd mc) (wd (m.letters - 1))) = c * 2 ^ wd (m.letters - 1) + l := by
  unfold fbits
  rw [idx_app, idx_nbits, idx_nbits, nbits_len, he, hel, Nat.mod_eq_of_lt hc, Nat.mod_eq_of_lt hl]
theorem fol_val {m : Mach} {cs : List Nat} {mc : Nat} {T : List Nat} {env : Str → Nat} (mx : IsMax cs mc) (tt : TI m cs (wd (m.letters - 1)) (wd mc) m.rows.length 0 T) {k c l x y : Nat} {r : Nat × List Nat} (hc : cs[k]? = some c) (hr : m.rows[k]? = some r) (hl : r.2[l]? = some x) (hy : cs[x]? = some y) (rl : r.2.length = m.letters) (he : env "state" = c) (hel : env "letter" = l) :
    (lkr (wd mc) (fbits (wd mc) (wd (m.letters - 1))) T).val env = y := by
  have ll : l < m.letters := by rw [← rl]; exact (List.getElem?_eq_some_iff.mp hl).1
  have wl := wd_lt (m.letters - 1)
  rw [lkr_val env (wd mc) _ T (by rw [tt.len, fbits_len]), fol_idx (Nat.lt_of_le_of_lt (mx.le c (List.mem_of_getElem? hc)) (wd_lt mc)) (by omega) he hel, tt.a k l c r x y (.inl ⟨(List.getElem?_eq_some_iff.mp hr).1, ll⟩) hc hr hl hy]
  rfl
theorem fol_no {m : Mach} {cs : List Nat} {mc : Nat} {T : List Nat} {env : Str → Nat} (mx : IsMax cs mc) (tt : TI m cs (wd (m.letters - 1)) (wd mc) m.rows.length 0 T) {c l : Nat} (cw : c < 2 ^ wd mc) (lw : l < 2 ^ wd (m.letters - 1)) (no : m.letters ≤ l ∨ c ∉ cs) (he : env "state" = c) (hel : env "letter" = l) :
    (lkr (wd mc) (fbits (wd mc) (wd (m.letters - 1))) T).val env = cs[0]?.getD 0 := by
  have wl := wd_lt (m.letters - 1)
  rw [lkr_val env (wd mc) _ T (by rw [tt.len, fbits_len]), fol_idx cw lw he hel, tt.b _ (by rw [tt.len]; exact place_lt cw lw) fun k l' c' d hc' e => ?_]
  have ll' : l' < m.letters := by
    rcases d with ⟨_, d⟩ | ⟨_, d⟩ <;> omega
  obtain ⟨e1, e2⟩ := place_inj lw (by omega) e
  rcases no with h | h
  · omega
  · exact h (by rw [e1]; exact List.mem_of_getElem? hc')
/-- the width as the law tells it: the greatest of some numbers -/
theorem law_width {mc mx : Nat} (h : mc < 256) (mem : mx = 1 ∨ ∃ k, k < 8 ∧ 0 < mc / 2 ^ k ∧ mx = k + 1) (le : ∀ k, k < 8 → 0 < mc / 2 ^ k → k + 1 ≤ mx) (one : 1 ≤ mx) : mx = wd mc := by
  have p1 := wd_pos mc
  have w8 : wd mc ≤ 8 := wd_le (m := 8) h (by decide)
  have up : ∀ k, 0 < mc / 2 ^ k → k + 1 ≤ wd mc := fun k hk => by
    have h2 : 2 ^ k ≤ mc := by
      apply Nat.le_of_not_lt
      intro c
      rw [Nat.div_eq_of_lt c] at hk
      exact Nat.lt_irrefl _ hk
    apply Nat.le_of_not_lt
    intro c
    have := Nat.pow_le_pow_right (n := 2) (by decide) (show wd mc ≤ k by omega)
    have := wd_lt mc
    omega
  have a : mx ≤ wd mc := by
    rcases mem with rfl | ⟨k, _, hk, rfl⟩
    · exact p1
    · exact up k hk
  have b : wd mc ≤ mx := by
    by_cases c : wd mc = 1
    · omega
    · have k8 : wd mc - 1 < 8 := by omega
      have pos : 0 < mc / 2 ^ (wd mc - 1) := by
        apply Nat.div_pos ?_ (Nat.two_pow_pos _)
        apply Nat.le_of_not_lt
        intro lt
        have := wd_le lt (by omega)
        omega
      have := le _ k8 pos
      omega
  omega

def sp__law_digits (K : PySem.W.Frag) : Sp := fun vs H Q _ => ∃ n : Nat, vs = [.int (n : Nat)] ∧ n < 256 ∧ ∀ H', Same H H' → Q (.int (wd n : Nat)) H'
theorem ok__law_digits {P : Program} {w : World} {K : PySem.W.Frag} {mg : Str → Option Value} {base : Heap} {tk_OUTPUT_WIDTH : Tok} {f  : Addr} {fd  : FuncData} (F : Fun K "_law_digits" "_law_digits" s__law_digits f fd) (T : Txt K mg tk_OUTPUT_WIDTH) :
    FnOk P w K mg base CX0 1 f fd ["number"] (sp__law_digits K) := by
  refine F.ok sc_law_digits (fun vs H Q E h => ?_) (fun cdv A outer s H vs Q E hr h => ?_)
  · obtain ⟨n, rfl, _⟩ := h
    rfl
  · obtain ⟨n, rfl, n256, q⟩ := h
    refine ⟨_, (pss_one (ps_ret (pe_callB (cr_max rfl) (by rfl) T.m_max (by decide +kernel) (pa_cons (pe_op op_cat (pe_lst (pa_cons pe_int pa_nil)) (pe_lc (own := [("k", 1)]) (g := gName 1) rfl sc_law_digits.nd (pi_range1 rfl T.m_range (pa_cons pe_int pa_nil)) (blkOk_by (N := N__law_digits) (sc := defScope s__law_digits) (by decide +kernel)) (fun _ _ _ _ _ => (pg_name (i := 1) sc_law_digits.nd rfl (Or.inl rfl))) (fun _ _ _ _ _ => (pts_one (pt_cmpR op_gt (pe_op op_shr (pv 0) (pv 1)) pe_int (nomark _)))) (fun _ _ _ _ _ => (pe_op op_add (pv 1) pe_int)))) pa_nil)))), ?_⟩
    refine ⟨by show 1 ≤ sizeLine; decide, fun w1 nw1 => ⟨_, rfl, by decide, by decide, fun D nD => lcRf (n := 8) (fun k => decide (0 < n / 2 ^ k)) (fun k => k + 1) nD (by decide) (fun _ => rfl) (fun k hk Hz Q sz q => ?_) (fun k hk _ Hz Q sz q => ⟨_, rfl, _, _, rfl, rfl, q _ (Same.refl _)⟩) fun H6 s6 h6 => ?_⟩⟩
    · refine ⟨_, rfl, _, rfl, _, _, rfl, rfl, Int.natCast_nonneg _, _, _, rfl, rfl, _, rfl, ?_⟩
      have e2 : decide (((n : Nat) : Int) / 2 ^ (((k : Nat) : Int)).toNat > 0) = decide (0 < n / 2 ^ k) := decide_eq_decide.mpr (by rw [shr_nat]; omega)
      show Q (decide (((n : Nat) : Int) / 2 ^ (((k : Nat) : Int)).toNat > 0)) Hz
      rw [e2]
      exact q _ (Same.refl _)
    have hw6 := s6 _ _ (upd_same (H := H) (a := w1) (o := .lst [.int 1]))
    refine ⟨w1, D, _, _, rfl, rfl, hw6, h6, ?_, fun w2 nw2 => ?_⟩
    · rw [vn_len, List.length_map]
      have := List.length_filter_le (fun k => decide (0 < n / 2 ^ k)) (List.range 8)
      rw [List.length_range] at this
      exact Nat.le_of_lt (small64k (by show 1 + _ ≤ _; omega))
    have e7 : [V.int 1] ++ vn (((List.range 8).filter fun k => decide (0 < n / 2 ^ k)).map fun k => k + 1) = (toI (1 :: ((List.range 8).filter fun k => decide (0 < n / 2 ^ k)).map fun k => k + 1)).map V.int := by
      rw [← vn_int]
      rfl
    rw [e7]
    have s57 : Same H (upd H6 w2 (.lst ((toI (1 :: ((List.range 8).filter fun k => decide (0 < n / 2 ^ k)).map fun k => k + 1)).map V.int))) := (same_new nw1).trans (s6.trans (same_new nw2))
    have h7 : (upd H6 w2 (.lst ((toI (1 :: ((List.range 8).filter fun k => decide (0 < n / 2 ^ k)).map fun k => k + 1)).map V.int))) w2 = some (.lst ((toI (1 :: ((List.range 8).filter fun k => decide (0 < n / 2 ^ k)).map fun k => k + 1)).map V.int)) := upd_same
    generalize (upd H6 w2 (.lst ((toI (1 :: ((List.range 8).filter fun k => decide (0 < n / 2 ^ k)).map fun k => k + 1)).map V.int))) = H7 at s57 h7 ⊢
    refine ⟨w2, _, rfl, SqL.of h7, by rw [List.length_map, List.length_cons]; omega, fun mx hm1 hm2 => ?_⟩
    obtain ⟨mxn, hmn, rfl⟩ := List.mem_map.mp hm1
    have emx : mxn = wd n := by
      refine law_width n256 ?_ (fun k hk pos => ?_) ?_
      · rcases List.mem_cons.mp hmn with h | h
        · exact .inl h
        · obtain ⟨k, hk, e⟩ := List.mem_map.mp h
          obtain ⟨k1, k2⟩ := List.mem_filter.mp hk
          exact .inr ⟨k, List.mem_range.mp k1, of_decide_eq_true k2, e.symm⟩
      · have := hm2 _ (List.mem_map_of_mem (List.mem_cons_of_mem _ (List.mem_map.mpr ⟨k, List.mem_filter.mpr ⟨List.mem_range.mpr hk, decide_eq_true pos⟩, rfl⟩)))
        omega
      · have := hm2 _ (List.mem_map_of_mem (f := fun (b : Nat) => (b : Int)) List.mem_cons_self)
        omega
    subst emx
    exact q H7 s57
def sp__law_codes (K : PySem.W.Frag) : Sp := fun vs H Q _ => ∃ (p a : Addr) (ns : List Int) (many : Nat), vs = [.ref p, .ref a, .int (many : Nat)] ∧ Dw K H p a ns ∧ 1 ≤ many ∧ many ≤ 64 ∧
  ∀ H' q cs, Gw K p a ns H H' → H q = none → H' q = some (.lst (vn cs)) → cs.Nodup → (∀ c ∈ cs, c < 256) → cs.length = many → Q (.ref q) H'
theorem ok__law_codes {P : Program} {w : World} {K : PySem.W.Frag} {mg : Str → Option Value} {base : Heap} {tk_OUTPUT_WIDTH : Tok} {f f_law_draw : Addr} {fd fd_law_draw : FuncData} (F : Fun K "_law_codes" "_law_codes" s__law_codes f fd) (T : Txt K mg tk_OUTPUT_WIDTH)
    (G__law_draw : FnOk P w K mg base CX0 1 f_law_draw fd_law_draw ["state", "script", "size"] (sp__law_draw K)) (D__law_draw : Def K mg "_law_draw" f_law_draw fd_law_draw ["state", "script", "size"]) :
    FnOk P w K mg base CX0 2 f fd ["state", "script", "many"] (sp__law_codes K) := by
  refine F.ok sc_law_codes (fun vs H Q E h => ?_) (fun cdv A outer s H vs Q E hr h => ?_)
  · obtain ⟨p, a, ns, many, rfl, _⟩ := h
    rfl
  · obtain ⟨p, a, ns, many, rfl, dw, m1, m2, q⟩ := h
    refine ⟨_, (pss_cons (ps_set (i := 3) sc_law_codes.nd rfl (.inl rfl) (pe_lst pa_nil))
      (pss_cons (ps_set (i := 4) sc_law_codes.nd rfl (.inl rfl) (pe_ix (r := rIxL K) ix_list (pe_lst (pa_cons pe_int (pa_cons pe_int pa_nil))) (pe_call G__law_draw (hr.mono (by omega)) (by rfl) D__law_draw.m D__law_draw.k D__law_draw.b .nil pass0 (pa_cons (pv 0) (pa_cons (pv 1) (pa_cons pe_int pa_nil)))) (fun _ _ => rfl)))
      (pss_cons (ps_for PassesOwn.never rfl (pi_range1 rfl T.m_range (pa_cons (pe_op op_mul pe_int (pv 2)) pa_nil)) (pg_name (i := 5) sc_law_codes.nd rfl (Or.inl rfl)) (pss_cons (ps_set (i := 6) sc_law_codes.nd rfl (.inl rfl) (pe_call G__law_draw (hr.mono (by omega)) (by rfl) D__law_draw.m D__law_draw.k D__law_draw.b .nil pass0 (pa_cons (pv 0) (pa_cons (pv 1) (pa_cons (pv 4) pa_nil)))))
      (pss_one (ps_if (PW.pt (pw_and (pt_cmpR (r := rIn K true) op_notIn_seq (pv 6) (pv 3) (by rfl)) (pw_and1 (pt_cmpR op_lt (pe_callB call_len_seq (by rfl) T.m_len (by decide +kernel) (pa_cons (pv 3) pa_nil)) (pv 2) (nomark _))))) (pss_one (ps_expr (pe_bm PySem.F.plainAttrs_list PySem.F.slot_list_append PySem.F.type_list_append mt_append (pv 3) (pa_cons (pv 6) pa_nil)))) pss_nil))))
      (pss_cons (ps_for PassesOwn.never rfl (pi_range1 rfl T.m_range (pa_cons pe_int pa_nil)) (pg_name (i := 6) sc_law_codes.nd rfl (Or.inl rfl)) (pss_one (ps_if (PW.pt (pw_and (pt_cmpR (r := rIn K true) op_notIn_seq (pv 6) (pv 3) (by rfl)) (pw_and1 (pt_cmpR op_lt (pe_callB call_len_seq (by rfl) T.m_len (by decide +kernel) (pa_cons (pv 3) pa_nil)) (pv 2) (nomark _))))) (pss_one (ps_expr (pe_bm PySem.F.plainAttrs_list PySem.F.slot_list_append PySem.F.type_list_append mt_append (pv 3) (pa_cons (pv 6) pa_nil)))) pss_nil)))
      (pss_one (ps_ret (pv 3))))))), ?_⟩
    refine ⟨by show 0 ≤ sizeLine; decide, fun cd ncd => ?_⟩
    have ncp := dw.off ncd
    refine ⟨by show 2 ≤ sizeLine; decide, fun k1 n1 => ⟨_, rfl, _, rfl, p, a, ns, 2, rfl, (dw.same (same_new ncd)).same (same_new n1), by decide, by decide, fun H1 b1 g1 h1 => ⟨k1, _, _, _, rfl, rfl, SqL.of (g1.get (upd_same (a := k1) (o := .lst [.int 256, .int 32])) ((dw.same (same_new ncd)).off n1)), atI_two (x := 256) (y := 32) h1, ?_⟩⟩⟩
    have hcd1 := g1.get (same_new (o := .lst [.int 256, .int 32]) n1 _ _ (upd_same (H := H) (a := cd) (o := .lst []))) ncp
    have g1 := ((Gw.of dw (same_new ncd)).more (same_new n1)).trans g1
    obtain ⟨most, hmost⟩ : ∃ most : Nat, most = if b1 = 0 then 256 else 32 := ⟨_, rfl⟩
    have most1 : 1 ≤ most ∧ most ≤ 256 := by rw [hmost]; split <;> decide
    rw [← hmost]
    refine ⟨_, rfl, _, _, rfl, rfl, .inl ⟨by decide, by decide⟩, _, rfl, by omega, by omega, for_range (fun i σ Hx => ∃ (y5 y6 : Option V) (cs : List Nat), σ = [some (.ref p), some (.ref a), some (.int (many : Nat)), some (.ref cd), some (.int (most : Nat)), y5, y6] ∧ Gw K p a ns H Hx ∧ Hx cd = some (.lst (vn cs)) ∧ cs.Nodup ∧ (∀ c ∈ cs, c < 256) ∧ cs.length ≤ many) ⟨none, none, [], rfl, g1, hcd1, List.nodup_nil, by simp, by simp⟩ ?_ ?_⟩
    · rintro i σ Hx hi ⟨y5, y6, cs, rfl, gx, hcd, nd, cb, cl⟩
      refine ⟨_, rfl, _, rfl, _, rfl, p, a, ns, most, rfl, gx.b, by omega, by omega, fun Hz code gz hcode => ?_⟩
      have hcode : code < 256 := by omega
      have hcz := gz.get hcd ncp
      have gall := gx.trans gz
      have stay : ∃ (y5 y6 : Option V) (cs : List Nat), ([some (.ref p), some (.ref a), some (.int (many : Nat)), some (.ref cd), some (.int (most : Nat)), some (.int ((0 : Int) + (i : Nat))), some (.int (code : Nat))] : L2.St) = [some (.ref p), some (.ref a), some (.int (many : Nat)), some (.ref cd), some (.int (most : Nat)), y5, y6] ∧ Gw K p a ns H Hz ∧ Hz cd = some (.lst (vn cs)) ∧ cs.Nodup ∧ (∀ c ∈ cs, c < 256) ∧ cs.length ≤ many := ⟨_, _, cs, rfl, gall, hcz, nd, cb, cl⟩
      refine ⟨_, rfl, _, rfl, cd, _, rfl, .inl (SqL.of hcz), rfl, flat_vn _, _, rfl, ?_⟩
      show if (if true = true then !inV (.int ((code : Nat) : Int)) (vn cs) else inV (.int ((code : Nat) : Int)) (vn cs)) = true then _ else _
      rw [if_pos rfl, inV_vn]
      by_cases c1 : code ∈ cs
      · rw [decide_eq_true c1]
        exact iteF (iteF stay)
      rw [decide_eq_false c1]
      refine iteT ⟨_, rfl, cd, _, rfl, .inl (SqL.of hcz), _, rfl, _, _, rfl, rfl, _, rfl, ?_⟩
      rw [show decide ((((vn cs).length : Nat) : Int) < ((many : Nat) : Int)) = decide (cs.length < many) from decide_eq_decide.mpr (by rw [vn_len]; omega)]
      by_cases c2 : cs.length < many
      · rw [decide_eq_true c2]
        refine iteT ⟨_, rfl, .inl ⟨rfl, _, SqL.of hcz⟩, _, rfl, cd, _, _, rfl, rfl, hcz, by rw [vn_len]; exact small64k (by omega), _, _, cs ++ [code], rfl, gall.mut ncd, by rw [upd_same, vn_snoc], ?_, mem_snoc cb hcode, by rw [List.length_append]; show cs.length + 1 ≤ _; omega⟩
        rw [List.nodup_append]
        refine ⟨nd, by simp, fun x hx y hy e => ?_⟩
        rw [List.mem_singleton.mp hy] at e
        exact c1 (e ▸ hx)
      · rw [decide_eq_false c2]
        exact iteF stay
    rintro σ H2 ⟨y5, y6, cs, rfl, g2, hcd, nd, cb, cl⟩
    refine ⟨_, rfl, by decide, by decide, for_range (n := 256) (fun i σ Hx => ∃ (y6 : Option V) (cs : List Nat), σ = [some (.ref p), some (.ref a), some (.int (many : Nat)), some (.ref cd), some (.int (most : Nat)), y5, y6] ∧ Gw K p a ns H Hx ∧ Hx cd = some (.lst (vn cs)) ∧ cs.Nodup ∧ (∀ c ∈ cs, c < 256) ∧ cs.length ≤ many ∧ (cs.length = many ∨ ∀ j, j < i → j ∈ cs)) ⟨y6, cs, rfl, g2, hcd, nd, cb, cl, .inr fun j h => absurd h (Nat.not_lt_zero _)⟩ ?_ ?_⟩
    · rintro i σ Hx hi ⟨y6, cs, rfl, gx, hcd, nd, cb, cl, full⟩
      rw [Int.zero_add]
      refine ⟨_, rfl, _, rfl, cd, _, rfl, .inl (SqL.of hcd), rfl, flat_vn _, _, rfl, ?_⟩
      show if (if true = true then !inV (.int ((i : Nat) : Int)) (vn cs) else inV (.int ((i : Nat) : Int)) (vn cs)) = true then _ else _
      rw [if_pos rfl, inV_vn]
      by_cases c1 : i ∈ cs
      · rw [decide_eq_true c1]
        refine iteF (iteF ⟨_, cs, rfl, gx, hcd, nd, cb, cl, ?_⟩)
        rcases full with f | f
        · exact .inl f
        · refine .inr fun j hj => ?_
          by_cases e : j = i
          · rw [e]; exact c1
          · exact f j (by omega)
      rw [decide_eq_false c1]
      refine iteT ⟨_, rfl, cd, _, rfl, .inl (SqL.of hcd), _, rfl, _, _, rfl, rfl, _, rfl, ?_⟩
      rw [show decide ((((vn cs).length : Nat) : Int) < ((many : Nat) : Int)) = decide (cs.length < many) from decide_eq_decide.mpr (by rw [vn_len]; omega)]
      by_cases c2 : cs.length < many
      · rw [decide_eq_true c2]
        refine iteT ⟨_, rfl, .inl ⟨rfl, _, SqL.of hcd⟩, _, rfl, cd, _, _, rfl, rfl, hcd, by rw [vn_len]; exact small64k (by omega), _, cs ++ [i], rfl, gx.mut ncd, by rw [upd_same, vn_snoc], ?_, mem_snoc cb (by omega), by rw [List.length_append]; show cs.length + 1 ≤ _; omega, ?_⟩
        · rw [List.nodup_append]
          refine ⟨nd, by simp, fun x hx y hy e => ?_⟩
          rw [List.mem_singleton.mp hy] at e
          exact c1 (e ▸ hx)
        · rcases full with f | f
          · omega
          · refine .inr fun j hj => ?_
            by_cases e : j = i
            · rw [e]; exact List.mem_append_right _ List.mem_cons_self
            · exact List.mem_append_left _ (f j (by omega))
      · rw [decide_eq_false c2]
        exact iteF ⟨_, cs, rfl, gx, hcd, nd, cb, cl, .inl (by omega)⟩
    rintro σ H3 ⟨y6, cs, rfl, g3, hcd, nd, cb, cl, full⟩
    refine ⟨_, rfl, q H3 cd cs g3 ncd hcd nd cb ?_⟩
    rcases full with f | f
    · exact f
    · have := nodup_le (xs := List.range 256) (ys := cs) List.nodup_range fun x hx => f x (List.mem_range.mp hx)
      rw [List.length_range] at this
      omega

end K24
namespace K24
open PySem PySem.Spec PyProof.Rows L2 V0
def LV (K : PySem.W.Frag) (M : Nat) : Sp := fun vs H Q _ => ∃ (v : V) (d : Addr) (e : Ex) (kvs : List (Key × V)) (ns : List Str) (env : Str → Nat), vs = [v, .ref d] ∧ Dh H v e.toD ∧ H d = some (.dK kvs) ∧ Told kvs ns env ∧ e.fine ns ∧ e.deep < M ∧ Q (.int (e.val env : Nat)) H
def sp__law_value (K : PySem.W.Frag) : Sp := LV K 16
def Ex.isCho : Ex → Prop
  | .cho _ _ _ _ => True
  | _ => False
theorem value_ind {P : Program} {w : World} {K : PySem.W.Frag} {mg : Str → Option Value} {base : Heap} {tk_OUTPUT_WIDTH : Tok} {f : Addr} {fd : FuncData} (F : Fun K "_law_value" "_law_value" s__law_value f fd) (T : Txt K mg tk_OUTPUT_WIDTH)
    (D__law_value : Def K mg "_law_value" f fd ["e", "words"]) :
    ∀ M, FnOk P w K mg base CX0 (M + 1) f fd ["e", "words"] (LV K M)
  | 0 => by
    refine ⟨fun vs H Q E h => ?_, fun A outer s H args us vs Q E hr he hb hv h => ?_⟩
    · obtain ⟨v, d, e, kvs, ns, env, rfl, _⟩ := h
      rfl
    · obtain ⟨v, d, e, kvs, ns, env, _, _, _, _, _, lt, _⟩ := h
      exact absurd lt (Nat.not_lt_zero _)
  | M + 1 => by
    have G__law_value : FnOk P w K mg base CX0 (M + 1) f fd ["e", "words"] (LV K M) := value_ind F T D__law_value M
    refine F.ok sc_law_value (fun vs H Q E h => ?_) (fun cdv A outer s H vs Q E hr h => ?_)
    · obtain ⟨v, d, e, kvs, ns, env, rfl, _⟩ := h
      rfl
    · obtain ⟨v, d, e, kvs, ns, env, rfl, hv, hd, told, fine, lt, q⟩ := h
      refine ⟨_, (C8.pss_cut (ps_while PassesOwn.never (pt_cmpR op_eq (pe_ix (r := rIxT K) ix_tup (pv 0) pe_int (fun _ _ => rfl)) pe_str (nomark _)) (pss_one (ps_set (i := 0) sc_law_value.nd rfl (.inl rfl) (pe_ifExp (pt_cmpR op_eq (pe_call G__law_value (hr.mono (by omega)) (by rfl) D__law_value.m D__law_value.k D__law_value.b .nil pass0 (pa_cons (pe_ix (r := rIxT K) ix_tup (pv 0) pe_int (fun _ _ => rfl)) (pa_cons (pv 1) pa_nil))) pe_int (nomark _)) (pe_ix (r := rIxT K) ix_tup (pv 0) pe_int (fun _ _ => rfl)) (pe_ix (r := rIxT K) ix_tup (pv 0) pe_int (fun _ _ => rfl))))))
      (pss_cons (ps_if (pt_cmpR op_eq (pe_ix (r := rIxT K) ix_tup (pv 0) pe_int (fun _ _ => rfl)) pe_str (nomark _)) (pss_one (ps_ret (pe_ix (r := rIxT K) ix_tup (pv 0) pe_int (fun _ _ => rfl)))) pss_nil)
      (pss_cons (ps_if (pt_cmpR op_eq (pe_ix (r := rIxT K) ix_tup (pv 0) pe_int (fun _ _ => rfl)) pe_str (nomark _)) (pss_one (ps_ret (pe_dget (hu_of hr) (pv 1) (pe_ix (r := rIxT K) ix_tup (pv 0) pe_int (fun _ _ => rfl)) (fun _ _ => rfl)))) pss_nil)
      (pss_cons (ps_if (pt_cmpR op_eq (pe_ix (r := rIxT K) ix_tup (pv 0) pe_int (fun _ _ => rfl)) pe_str (nomark _)) (pss_cons V0.ps_never
      (pss_one V0.ps_never)) pss_nil)
      (pss_cons (ps_if (pt_cmpR op_eq (pe_ix (r := rIxT K) ix_tup (pv 0) pe_int (fun _ _ => rfl)) pe_str (nomark _)) (pss_one (ps_ret (pe_op op_modN (pe_callTy call_int1 (by rfl) T.m_int (by decide +kernel) (pa_cons (pe_op op_shr (pe_call G__law_value (hr.mono (by omega)) (by rfl) D__law_value.m D__law_value.k D__law_value.b .nil pass0 (pa_cons (pe_ix (r := rIxT K) ix_tup (pv 0) pe_int (fun _ _ => rfl)) (pa_cons (pv 1) pa_nil))) (pe_ix (r := rIxT K) ix_tup (pv 0) pe_int (fun _ _ => rfl))) pa_nil)) (pe_op op_shl pe_int (pe_ix (r := rIxT K) ix_tup (pv 0) pe_int (fun _ _ => rfl)))))) pss_nil)
      (pss_cons V0.ps_never
      (pss_cons V0.ps_never
      (pss_one V0.ps_never)))))))), ?_⟩
      refine ⟨fun σ Hx => ∃ (v' : V) (e' : Ex), σ = [some v', some (.ref d), none, none, none, none] ∧ Hx = H ∧ Dh H v' e'.toD ∧ e'.fine ns ∧ e'.deep ≤ e.deep ∧ e'.val env = e.val env ∧ ¬ e'.isCho, ?_, ?_⟩
      · refine ⟨fun n σ Hx => ∃ (v' : V) (e' : Ex), σ = [some v', some (.ref d), none, none, none, none] ∧ Hx = H ∧ Dh H v' e'.toD ∧ e'.fine ns ∧ e'.deep ≤ e.deep ∧ e'.val env = e.val env ∧ n = e'.deep, ⟨_, v, e, rfl, rfl, hv, fine, Nat.le_refl _, rfl, rfl⟩, ?_⟩
        rintro n σ Hx ⟨v', e', rfl, rfl, hv', fine', le', ev', rfl⟩
        cases e' with
        | cst wi x =>
          obtain ⟨a, xs, rfl, ha, hx⟩ := dh_tup hv'
          obtain ⟨v0, r0, rfl, h0, hx⟩ := dha_cons hx
          cases h0
          refine ⟨_, rfl, a, _, 0, _, rfl, rfl, SqT.of ha, atI_nat (j := 0) rfl, rfl, _, rfl, ?_⟩
          rw [dstr, decide_eq_false (fun z => st_hc z.symm)]
          exact iteF ⟨_, _, rfl, rfl, hv', fine', le', ev', fun h => h⟩
        | nm wi n =>
          obtain ⟨a, xs, rfl, ha, hx⟩ := dh_tup hv'
          obtain ⟨v0, r0, rfl, h0, hx⟩ := dha_cons hx
          cases h0
          refine ⟨_, rfl, a, _, 0, _, rfl, rfl, SqT.of ha, atI_nat (j := 0) rfl, rfl, _, rfl, ?_⟩
          rw [dstr, decide_eq_false (fun z => st_hn z.symm)]
          exact iteF ⟨_, _, rfl, rfl, hv', fine', le', ev', fun h => h⟩
        | cut wi e low =>
          obtain ⟨a, xs, rfl, ha, hx⟩ := dh_tup hv'
          obtain ⟨v0, r0, rfl, h0, hx⟩ := dha_cons hx
          cases h0
          refine ⟨_, rfl, a, _, 0, _, rfl, rfl, SqT.of ha, atI_nat (j := 0) rfl, rfl, _, rfl, ?_⟩
          rw [dstr, decide_eq_false (fun z => st_hu z.symm)]
          exact iteF ⟨_, _, rfl, rfl, hv', fine', le', ev', fun h => h⟩
        | cho wi t x y =>
          obtain ⟨a, xs, rfl, ha, hx⟩ := dh_tup hv'
          obtain ⟨v0, r0, rfl, h0, hx⟩ := dha_cons hx
          obtain ⟨v1, r1, rfl, h1, hx⟩ := dha_cons hx
          obtain ⟨v2, r2, rfl, h2, hx⟩ := dha_cons hx
          obtain ⟨v3, r3, rfl, h3, hx⟩ := dha_cons hx
          obtain ⟨v4, r4, rfl, h4, hx⟩ := dha_cons hx
          cases dha_nil hx
          cases h0
          cases h1
          obtain ⟨f1, f2, f3⟩ := fine'
          have le' : max t.deep (max x.deep y.deep) + 1 ≤ e.deep := le'
          have ev' : (if t.val env = 1 then x.val env else y.val env) = e.val env := ev'
          refine ⟨_, rfl, a, _, 0, _, rfl, rfl, SqT.of ha, atI_nat (j := 0) rfl, rfl, _, rfl, ?_⟩
          rw [dstr, decide_eq_true rfl]
          refine iteT ⟨fun σ' H' => ∃ m', m' < max t.deep (max x.deep y.deep) + 1 ∧ ∃ (v' : V) (e' : Ex), σ' = [some v', some (.ref d), none, none, none, none] ∧ H' = Hx ∧ Dh Hx v' e'.toD ∧ e'.fine ns ∧ e'.deep ≤ e.deep ∧ e'.val env = e.val env ∧ m' = e'.deep, fun σ' H' h => h, ?_⟩
          refine ⟨_, rfl, a, _, 2, _, rfl, rfl, SqT.of ha, atI_nat (j := 2) rfl, _, rfl, v2, d, t, kvs, ns, env, rfl, h2, hd, told, f1, by omega, rfl, _, rfl, ?_⟩
          rw [show decide (V.int ((t.val env : Nat) : Int) = V.int 1) = decide (t.val env = 1) from dec_nat (t.val env) 1]
          by_cases c : t.val env = 1
          · rw [decide_eq_true c]
            rw [if_pos c] at ev'
            exact iteT ⟨_, rfl, a, _, 3, _, rfl, rfl, SqT.of ha, atI_nat (j := 3) rfl, _, by omega, v3, x, rfl, rfl, h3, f2, by omega, ev', rfl⟩
          · rw [decide_eq_false c]
            rw [if_neg c] at ev'
            exact iteF ⟨_, rfl, a, _, 4, _, rfl, rfl, SqT.of ha, atI_nat (j := 4) rfl, _, by omega, v4, y, rfl, rfl, h4, f3, by omega, ev', rfl⟩
      · rintro σ Hx ⟨v', e', rfl, rfl, hv', fine', le', ev', nc⟩
        rw [← ev'] at q
        cases e' with
        | cho wi t x y => exact absurd trivial nc
        | cst wi x =>
          obtain ⟨a, xs, rfl, ha, hx⟩ := dh_tup hv'
          obtain ⟨v0, r0, rfl, h0, hx⟩ := dha_cons hx
          obtain ⟨v1, r1, rfl, h1, hx⟩ := dha_cons hx
          obtain ⟨v2, r2, rfl, h2, hx⟩ := dha_cons hx
          cases dha_nil hx
          cases h0
          cases h1
          cases h2
          refine ⟨_, rfl, a, _, 0, _, rfl, rfl, SqT.of ha, atI_nat (j := 0) rfl, rfl, _, rfl, ?_⟩
          rw [dstr, decide_eq_true rfl]
          exact iteT ⟨_, rfl, a, _, 2, _, rfl, rfl, SqT.of ha, atI_nat (j := 2) rfl, q⟩
        | nm wi n =>
          obtain ⟨a, xs, rfl, ha, hx⟩ := dh_tup hv'
          obtain ⟨v0, r0, rfl, h0, hx⟩ := dha_cons hx
          obtain ⟨v1, r1, rfl, h1, hx⟩ := dha_cons hx
          obtain ⟨v2, r2, rfl, h2, hx⟩ := dha_cons hx
          cases dha_nil hx
          cases h0
          cases h1
          cases h2
          refine ⟨_, rfl, a, _, 0, _, rfl, rfl, SqT.of ha, atI_nat (j := 0) rfl, rfl, _, rfl, ?_⟩
          rw [dstr, decide_eq_false st_nc]
          refine iteF ⟨_, rfl, a, _, 0, _, rfl, rfl, SqT.of ha, atI_nat (j := 0) rfl, rfl, _, rfl, ?_⟩
          rw [dstr, decide_eq_true rfl]
          exact iteT ⟨_, rfl, _, rfl, a, _, 2, _, rfl, rfl, SqT.of ha, atI_nat (j := 2) rfl, d, _, rfl, sget_k hd (told n fine'), q⟩
        | cut wi e1 low =>
          obtain ⟨a, xs, rfl, ha, hx⟩ := dh_tup hv'
          obtain ⟨v0, r0, rfl, h0, hx⟩ := dha_cons hx
          obtain ⟨v1, r1, rfl, h1, hx⟩ := dha_cons hx
          obtain ⟨v2, r2, rfl, h2, hx⟩ := dha_cons hx
          obtain ⟨v3, r3, rfl, h3, hx⟩ := dha_cons hx
          cases dha_nil hx
          cases h0
          cases h1
          cases h3
          obtain ⟨w1, low1, fine'⟩ := fine'
          refine ⟨_, rfl, a, _, 0, _, rfl, rfl, SqT.of ha, atI_nat (j := 0) rfl, rfl, _, rfl, ?_⟩
          rw [dstr, decide_eq_false st_cc]
          refine iteF ⟨_, rfl, a, _, 0, _, rfl, rfl, SqT.of ha, atI_nat (j := 0) rfl, rfl, _, rfl, ?_⟩
          rw [dstr, decide_eq_false st_cn]
          refine iteF ⟨_, rfl, a, _, 0, _, rfl, rfl, SqT.of ha, atI_nat (j := 0) rfl, rfl, _, rfl, ?_⟩
          rw [dstr, decide_eq_false st_co]
          refine iteF ⟨_, rfl, a, _, 0, _, rfl, rfl, SqT.of ha, atI_nat (j := 0) rfl, rfl, _, rfl, ?_⟩
          rw [dstr, decide_eq_true rfl]
          refine iteT ⟨_, rfl, a, _, 2, _, rfl, rfl, SqT.of ha, atI_nat (j := 2) rfl, _, rfl, v2, d, e1, kvs, ns, env, rfl, h2, hd, told, fine', (by have : e1.deep + 1 ≤ e.deep := le'; omega), ?_⟩
          have q : Q (.int (((e1.val env / 2 ^ low) % 2 ^ wi : Nat) : Int)) Hx := q
          refine ⟨_, rfl, a, _, 3, _, rfl, rfl, SqT.of ha, atI_nat (j := 3) rfl, _, _, rfl, rfl, Int.natCast_nonneg _, .inl ⟨_, rfl, _, rfl, a, _, 1, _, rfl, rfl, SqT.of ha, atI_nat (j := 1) rfl, _, _, rfl, rfl, cpow1 (by omega), _, _, rfl, rfl, ?_, ?_⟩⟩
          · have := Nat.two_pow_pos wi
            rw [shl_one]
            omega
          · show Q (V.int ((((e1.val env : Nat) : Int) / 2 ^ (((low : Nat) : Int)).toNat).fmod ((1 : Int) * 2 ^ (((wi : Nat) : Int)).toNat))) Hx
            rw [shr_nat, shl_one, nfmod]
            exact q
theorem ok__law_value {P : Program} {w : World} {K : PySem.W.Frag} {mg : Str → Option Value} {base : Heap} {tk_OUTPUT_WIDTH : Tok} {f  : Addr} {fd  : FuncData} (F : Fun K "_law_value" "_law_value" s__law_value f fd) (T : Txt K mg tk_OUTPUT_WIDTH)
    (D__law_value : Def K mg "_law_value" f fd ["e", "words"]) :
    FnOk P w K mg base CX0 18 f fd ["e", "words"] (sp__law_value K) := by
  exact (value_ind F T D__law_value 16).mono (by decide)

end K24
namespace K24
open PySem PySem.Spec PyProof.Rows L2 V0
/-! ### the law -/
theorem paired_vn {K : PySem.W.Frag} {H : Hp} {n : Nat} : ∀ cs : List Nat, Paired (EqV K H (n + 1)) (vn cs) (vn cs)
  | [] => .nil
  | c :: cs => .cons (.inl ⟨rfl, rfl⟩) (paired_vn cs)
/-- cs.index(c): none before is c -/
theorem index_no {cs : List Nat} {k c : Nat} (nd : cs.Nodup) (hk : cs[k]? = some c) : ∀ (m : Nat) (z : V), m < k → (vn cs)[m]? = some z → eqV z (.int (c : Nat)) = false := fun m z hm hz => by
  unfold vn at hz
  rw [List.getElem?_map] at hz
  obtain ⟨x, hx, rfl⟩ := Option.map_eq_some_iff.mp hz
  show (((x : Nat) : Int) == ((c : Nat) : Int)) = false
  rw [beq_eq_false_iff_ne]
  intro e
  have e : x = c := by omega
  subst e
  have := nodup_get nd hx hk
  omega
theorem index_yes (c : Nat) : eqV (.int (c : Nat)) (.int (c : Nat)) = true := by
  show (((c : Nat) : Int) == ((c : Nat) : Int)) = true
  exact beq_self_eq_true _
theorem iteLast {c : Bool} {P R : Prop} (r : R) (h : c = true → R → P) : if c = true then P else R := by
  cases c with
  | true => exact iteT (h rfl r)
  | false => exact iteF r
/-- the letter and the state, told -/
theorem told2 {l x : Nat} {env : Str → Nat} (envl : env "letter" = l) (envs : env "state" = x) : Told (mergeK [] [(Sum.inr "letter", .int (l : Nat)), (Sum.inr "state", .int (x : Nat))]) ["letter", "state"] env := by
  have hls : ¬ ((Sum.inr ("letter" : Str) : Key) = Sum.inr ("state" : Str)) := by decide +kernel
  have e : mergeK [] [(Sum.inr "letter", V.int (l : Nat)), (Sum.inr "state", V.int (x : Nat))] = ([(Sum.inr ("letter" : Str), V.int (l : Nat)), (Sum.inr ("state" : Str), V.int (x : Nat))] : List (Key × V)) := by
    show putK ([(Sum.inr ("letter" : Str), V.int (l : Nat))] : List (Key × V)) (Sum.inr ("state" : Str)) (V.int (x : Nat)) = _
    rw [putK_new _ (by rw [valV_neg (p := ((Sum.inr ("letter" : Str) : Key), V.int (l : Nat))) hls]; rfl)]
    rfl
  intro n hn
  rw [e]
  rcases List.mem_cons.mp hn with rfl | hn
  · rw [envl]
    exact valV_pos (p := ((Sum.inr ("letter" : Str) : Key), V.int (l : Nat))) rfl
  · rw [List.mem_singleton] at hn
    subst hn
    rw [valV_neg (p := ((Sum.inr ("letter" : Str) : Key), V.int (l : Nat))) hls, envs]
    exact valV_pos (p := ((Sum.inr ("state" : Str) : Key), V.int (x : Nat))) rfl
theorem okT2 {mc : Nat} {O : List Nat} (w8 : wd mc ≤ 8) : (lkr 8 (nbits "state" (wd mc) (wd mc)) O).fine ["letter", "state"] ∧ (lkr 8 (nbits "state" (wd mc) (wd mc)) O).deep < 16 := by
  have fineN : ∀ {n : Str} {W k : Nat}, n ∈ (["letter", "state"] : List Str) → k ≤ 1000 → ∀ b ∈ nbits n W k, b.fine ["letter", "state"] ∧ b.deep ≤ 2 := fun h hk => nbits_all h hk
  have m2 : ("state" : Str) ∈ (["letter", "state"] : List Str) := List.mem_cons_of_mem _ List.mem_cons_self
  refine ⟨lkr_fine 8 _ _ fun b hb => (fineN m2 (by omega) b hb).1, ?_⟩
  have := lkr_deep 8 (d := 2) (by decide) (nbits "state" (wd mc) (wd mc)) O fun b hb => (fineN m2 (by omega) b hb).2
  rw [nbits_len] at this
  omega
theorem okF2 {mc lw : Nat} {TB : List Nat} (w8 : wd mc ≤ 8) (lw4 : lw ≤ 4) : (lkr (wd mc) (fbits (wd mc) lw) TB).fine ["letter", "state"] ∧ (lkr (wd mc) (fbits (wd mc) lw) TB).deep < 16 := by
  have fineN : ∀ {n : Str} {W k : Nat}, n ∈ (["letter", "state"] : List Str) → k ≤ 1000 → ∀ b ∈ nbits n W k, b.fine ["letter", "state"] ∧ b.deep ≤ 2 := fun h hk => nbits_all h hk
  have m1 : ("letter" : Str) ∈ (["letter", "state"] : List Str) := List.mem_cons_self
  have m2 : ("state" : Str) ∈ (["letter", "state"] : List Str) := List.mem_cons_of_mem _ List.mem_cons_self
  have okb : ∀ b ∈ fbits (wd mc) lw, b.fine ["letter", "state"] ∧ b.deep ≤ 2 := fun b hb => by
    rcases List.mem_append.mp hb with hb | hb
    · exact fineN m2 (by omega) b hb
    · exact fineN m1 (by omega) b hb
  refine ⟨lkr_fine _ _ _ fun b hb => (okb b hb).1, ?_⟩
  have := lkr_deep (wd mc) (d := 2) (by decide) (fbits (wd mc) lw) TB fun b hb => (okb b hb).2
  rw [fbits_len] at this
  omega
def sp_law (K : PySem.W.Frag) : Sp := fun vs H Q _ => ∃ (a : Addr) (ns : List Int), vs = [.ref a] ∧ SqL K H a (ns.map V.int) ∧ ns.length ≤ 63 ∧ ∀ H', Q (.bl true) H'
theorem ok_law {P : Program} {w : World} {K : PySem.W.Frag} {mg : Str → Option Value} {base : Heap} {tk_OUTPUT_WIDTH : Tok} {f f_law_machine f_law_codes fcircuit_of f_law_digits fstart f_law_draw f_law_value fstep : Addr} {fd fd_law_machine fd_law_codes fdcircuit_of fd_law_digits fdstart fd_law_draw fd_law_value fdstep : FuncData} (F : Fun K "law" "law" s_law f fd) (T : Txt K mg tk_OUTPUT_WIDTH)
    (G__law_machine : FnOk P w K mg base CX0 2 f_law_machine fd_law_machine ["state", "script"] (sp__law_machine K)) (D__law_machine : Def K mg "_law_machine" f_law_machine fd_law_machine ["state", "script"])
    (G__law_codes : FnOk P w K mg base CX0 2 f_law_codes fd_law_codes ["state", "script", "many"] (sp__law_codes K)) (D__law_codes : Def K mg "_law_codes" f_law_codes fd_law_codes ["state", "script", "many"])
    (G_circuit_of : FnOk P w K mg base CX0 15 fcircuit_of fdcircuit_of ["machine", "codes"] (sp_circuit_of K)) (D_circuit_of : Def K mg "circuit_of" fcircuit_of fdcircuit_of ["machine", "codes"])
    (G__law_digits : FnOk P w K mg base CX0 1 f_law_digits fd_law_digits ["number"] (sp__law_digits K)) (D__law_digits : Def K mg "_law_digits" f_law_digits fd_law_digits ["number"])
    (G_start : FnOk P w K mg base CX0 1 fstart fdstart ["flat"] (sp_start K)) (D_start : Def K mg "start" fstart fdstart ["flat"])
    (G__law_draw : FnOk P w K mg base CX0 1 f_law_draw fd_law_draw ["state", "script", "size"] (sp__law_draw K)) (D__law_draw : Def K mg "_law_draw" f_law_draw fd_law_draw ["state", "script", "size"])
    (G__law_value : FnOk P w K mg base CX0 18 f_law_value fd_law_value ["e", "words"] (sp__law_value K)) (D__law_value : Def K mg "_law_value" f_law_value fd_law_value ["e", "words"])
    (G_step : FnOk P w K mg base CX0 22 fstep fdstep ["flat", "state", "words"] (sp_step K)) (D_step : Def K mg "step" fstep fdstep ["flat", "state", "words"]) :
    LawOk P w K mg base f fd ["script"] (sp_law K) := by
  refine lawOk F sclaw (k := 40) ⟨rfl, by decide, by decide⟩ (fun vs H Q E h => ?_) (fun cdv A outer s H vs Q E hr hgd h => ?_)
  · obtain ⟨a, ns, rfl, _⟩ := h
    rfl
  · obtain ⟨a, ns, rfl, hSc, hl, q⟩ := h
    refine ⟨_, (pss_cons (ps_set (i := 1) sclaw.nd rfl (.inl rfl) (pe_lst (pa_cons pe_int (pa_cons pe_int pa_nil))))
      (pss_cons (ps_set (i := 2) sclaw.nd rfl (.inl rfl) (pe_call G__law_machine (hr.mono (by omega)) (by rfl) D__law_machine.m D__law_machine.k D__law_machine.b .nil pass0 (pa_cons (pv 1) (pa_cons (pv 0) pa_nil))))
      (pss_cons (ps_par (i := 3) (j := 4) rfl sclaw.nd rfl rfl (by decide) rfl rfl (pa_cons (pe_ix (r := rIxT K) ix_tup (pv 2) pe_int (fun _ _ => rfl)) (pa_cons (pe_ix (r := rIxT K) ix_tup (pv 2) pe_int (fun _ _ => rfl)) pa_nil)) rfl)
      (pss_cons (ps_set (i := 5) sclaw.nd rfl (.inl rfl) (pe_call G__law_codes (hr.mono (by omega)) (by rfl) D__law_codes.m D__law_codes.k D__law_codes.b .nil pass0 (pa_cons (pv 1) (pa_cons (pv 0) (pa_cons (pe_callB call_len_seq (by rfl) T.m_len (by decide +kernel) (pa_cons (pv 4) pa_nil)) pa_nil)))))
      (pss_cons (ps_set (i := 6) sclaw.nd rfl (.inl rfl) (pe_lst (pa_cons (pe_callTy call_list_of (by rfl) T.m_list (by decide +kernel) (pa_cons (pv 5) pa_nil)) (pa_cons (pe_callB (r := rRepr K) (call_reprD hgd hr.units) (by rfl) T.m_repr (by decide +kernel) (pa_cons (pv 2) pa_nil)) pa_nil))))
      (pss_cons (ps_set (i := 7) sclaw.nd rfl (.inl rfl) (pe_call G_circuit_of (hr.mono (by omega)) (by rfl) D_circuit_of.m D_circuit_of.k D_circuit_of.b .nil pass0 (pa_cons (pv 2) (pa_cons (pv 5) pa_nil))))
      (pss_cons (ps_par (i := 8) (j := 9) rfl sclaw.nd rfl rfl (by decide) rfl rfl (pa_cons (pe_call G__law_digits (hr.mono (by omega)) (by rfl) D__law_digits.m D__law_digits.k D__law_digits.b .nil pass0 (pa_cons (pe_callB (cr_max rfl) (by rfl) T.m_max (by decide +kernel) (pa_cons (pv 5) pa_nil)) pa_nil)) (pa_cons (pe_call G__law_digits (hr.mono (by omega)) (by rfl) D__law_digits.m D__law_digits.k D__law_digits.b .nil pass0 (pa_cons (pe_op op_sub (pv 3) pe_int) pa_nil)) pa_nil)) rfl)
      (pss_cons (ps_if (PW.pt (pw_or (pt_cmpR op_ne (pe_ix (r := rIxT K) ix_tup (pv 7) pe_int (fun _ _ => rfl)) pe_str (nomark _)) (pw_or (pt_cmpR (op_neD hr.units) (pe_ix (r := rIxT K) ix_tup (pv 7) pe_int (fun _ _ => rfl)) (pe_lst (pa_cons (pe_tup (pa_cons pe_str (pa_cons (pv 9) pa_nil))) pa_nil)) (nomark _)) (pw_or (pt_cmpR (op_neD hr.units) (pe_ix (r := rIxT K) ix_tup (pv 7) pe_int (fun _ _ => rfl)) (pe_lst pa_nil) (nomark _)) (pw_or1 (pt_cmpR (op_neD hr.units) (pe_lc (own := [("one", 19)]) (g := gName 19) (tt := tYes) rfl sclaw.nd (pi_list (pe_ix (r := rIxT K) ix_tup (pv 7) pe_int (fun _ _ => rfl))) (blkOk_by (N := N_law) (sc := defScope s_law) (by decide +kernel)) (fun _ _ _ _ _ => (pg_name (i := 19) sclaw.nd rfl (Or.inl rfl))) (fun _ _ _ _ _ => pts_nil) (fun _ _ _ _ _ => (pe_slice (r := rSlT K) sl_tup (pv 19) po_none (po_some pe_int)))) (pe_lst (pa_cons (pe_tup (pa_cons pe_str (pa_cons pe_int pa_nil))) pa_nil)) (nomark _))))))) (pss_one (ps_ret pe_bl)) pss_nil)
      (pss_cons (ps_if (PW.pt (pw_or (pt_cmpR (op_neD hr.units) (pe_lc (own := [("one", 19)]) (g := gName 19) (tt := tYes) rfl sclaw.nd (pi_list (pe_ix (r := rIxT K) ix_tup (pv 7) pe_int (fun _ _ => rfl))) (blkOk_by (N := N_law) (sc := defScope s_law) (by decide +kernel)) (fun _ _ _ _ _ => (pg_name (i := 19) sclaw.nd rfl (Or.inl rfl))) (fun _ _ _ _ _ => pts_nil) (fun _ _ _ _ _ => (pe_slice (r := rSlT K) sl_tup (pv 19) po_none (po_some pe_int)))) (pe_lst (pa_cons (pe_tup (pa_cons pe_str (pa_cons (pv 8) (pa_cons (pe_ix (r := rIxL K) ix_list (pv 5) pe_int (fun _ _ => rfl)) pa_nil)))) pa_nil)) (nomark _)) (pw_or1 (pt_cmpR (op_neD hr.units) (pe_call G_start (hr.mono (by omega)) (by rfl) D_start.m D_start.k D_start.b .nil pass0 (pa_cons (pv 7) pa_nil)) (pe_tup (pa_cons pe_str (pa_cons (pe_lst (pa_cons (pe_ix (r := rIxL K) ix_list (pv 5) pe_int (fun _ _ => rfl)) pa_nil)) (pa_cons (pe_lst pa_nil) pa_nil)))) (nomark _))))) (pss_one (ps_ret pe_bl)) pss_nil)
      (pss_cons (ps_for PassesOwn.never rfl (pi_range1 rfl T.m_range (pa_cons pe_int pa_nil)) (pg_name (i := 10) sclaw.nd rfl (Or.inl rfl)) (pss_cons (ps_set (i := 11) sclaw.nd rfl (.inl rfl) (pe_ix (r := rIxL K) ix_list (pe_lst (pa_cons (pe_ix (r := rIxL K) ix_list (pv 5) (pe_call G__law_draw (hr.mono (by omega)) (by rfl) D__law_draw.m D__law_draw.k D__law_draw.b .nil pass0 (pa_cons (pv 1) (pa_cons (pv 0) (pa_cons (pe_callB call_len_seq (by rfl) T.m_len (by decide +kernel) (pa_cons (pv 4) pa_nil)) pa_nil)))) (fun _ _ => rfl)) (pa_cons (pe_call G__law_draw (hr.mono (by omega)) (by rfl) D__law_draw.m D__law_draw.k D__law_draw.b .nil pass0 (pa_cons (pv 1) (pa_cons (pv 0) (pa_cons (pe_op op_shl pe_int (pv 8)) pa_nil)))) pa_nil))) (pe_call G__law_draw (hr.mono (by omega)) (by rfl) D__law_draw.m D__law_draw.k D__law_draw.b .nil pass0 (pa_cons (pv 1) (pa_cons (pv 0) (pa_cons pe_int pa_nil)))) (fun _ _ => rfl)))
      (pss_cons (ps_set (i := 12) sclaw.nd rfl (.inl rfl) (pe_call G__law_draw (hr.mono (by omega)) (by rfl) D__law_draw.m D__law_draw.k D__law_draw.b .nil pass0 (pa_cons (pv 1) (pa_cons (pv 0) (pa_cons (pe_op op_shl pe_int (pv 9)) pa_nil)))))
      (pss_cons (ps_set (i := 13) sclaw.nd rfl (.inl rfl) (pe_ix (r := rIxL K) ix_list (pv 5) pe_int (fun _ _ => rfl)))
      (C8.pss_cut (ps_if (PW.pt (pw_and (pt_cmpR (r := rIn K false) op_in_seq (pv 11) (pv 5) (by rfl)) (pw_and1 (pt_cmpR op_lt (pv 12) (pv 3) (nomark _))))) (pss_one (ps_set (i := 13) sclaw.nd rfl (.inl rfl) (pe_ix (r := rIxL K) ix_list (pv 5) (pe_ix (r := rIxL K) ix_list (pe_ix (r := rIxT K) ix_tup (pe_ix (r := rIxL K) ix_list (pv 4) (pe_bm PySem.F.plainAttrs_list PySem.F.slot_list_index PySem.F.type_list_index mt_index (pv 5) (pa_cons (pv 11) pa_nil)) (fun _ _ => rfl)) pe_int (fun _ _ => rfl)) (pv 12) (fun _ _ => rfl)) (fun _ _ => rfl)))) pss_nil)
      (pss_cons (ps_set (i := 14) sclaw.nd rfl (.inl rfl) (pe_disp (pps_cons pe_str (pv 12) (pps_cons pe_str (pv 11) pps_nil)) rfl rfl (by intro h; cases h) (by decide)))
      (pss_cons (ps_for PassesOwn.never rfl (pi_list (pe_ix (r := rIxT K) ix_tup (pv 7) pe_int (fun _ _ => rfl))) (pg_tup (by rfl) (pgs_cons (pg_name (i := 15) sclaw.nd rfl (Or.inl rfl)) (pgs_cons (pg_name (i := 16) sclaw.nd rfl (Or.inl rfl)) (pgs_cons (pg_name (i := 17) sclaw.nd rfl (Or.inl rfl)) pgs_nil)))) (pss_one V0.ps_never))
      (pss_cons (ps_set (i := 18) sclaw.nd rfl (.inl rfl) (pe_call G__law_value (hr.mono (by omega)) (by rfl) D__law_value.m D__law_value.k D__law_value.b .nil pass0 (pa_cons (pe_ix (r := rIxT K) ix_tup (pe_ix (r := rIxL K) ix_list (pe_ix (r := rIxT K) ix_tup (pv 7) pe_int (fun _ _ => rfl)) pe_int (fun _ _ => rfl)) pe_int (fun _ _ => rfl)) (pa_cons (pv 14) pa_nil))))
      (pss_cons (ps_if (PW.pt (pw_or (pt_cmpR op_ne (pe_call G__law_value (hr.mono (by omega)) (by rfl) D__law_value.m D__law_value.k D__law_value.b .nil pass0 (pa_cons (pe_ix (r := rIxT K) ix_tup (pe_ix (r := rIxL K) ix_list (pe_ix (r := rIxT K) ix_tup (pv 7) pe_int (fun _ _ => rfl)) pe_int (fun _ _ => rfl)) pe_int (fun _ _ => rfl)) (pa_cons (pv 14) pa_nil))) (pv 13) (nomark _)) (pw_or1 (PW.pt (pw_and (pt_cmpR (r := rIn K false) op_in_seq (pv 11) (pv 5) (by rfl)) (pw_and1 (pt_cmpR op_ne (pv 18) (pe_ix (r := rIxT K) ix_tup (pe_ix (r := rIxL K) ix_list (pv 4) (pe_bm PySem.F.plainAttrs_list PySem.F.slot_list_index PySem.F.type_list_index mt_index (pv 5) (pa_cons (pv 11) pa_nil)) (fun _ _ => rfl)) pe_int (fun _ _ => rfl)) (nomark _)))))))) (pss_one (ps_ret pe_bl)) pss_nil)
      (pss_one (ps_if (pt_cmpR (op_neD hr.units) (pe_call G_step (hr.mono (by omega)) (by rfl) D_step.m D_step.k D_step.b .nil pass0 (pa_cons (pv 7) (pa_cons (pe_tup (pa_cons pe_str (pa_cons (pe_lst (pa_cons (pv 11) pa_nil)) (pa_cons (pe_lst pa_nil) pa_nil)))) (pa_cons (pe_lst (pa_cons (pv 12) pa_nil)) pa_nil)))) (pe_tup (pa_cons (pe_lst (pa_cons (pv 18) pa_nil)) (pa_cons (pe_tup (pa_cons pe_str (pa_cons (pe_lst (pa_cons (pv 13) pa_nil)) (pa_cons (pe_lst pa_nil) pa_nil)))) pa_nil))) (nomark _)) (pss_one (ps_ret pe_bl)) pss_nil)))))))))))
      (pss_one (ps_ret (pe_cmpR (op_eqV hr.units) (pe_lst (pa_cons (pv 5) (pa_cons (pe_callB (r := rRepr K) (call_reprD hgd hr.units) (by rfl) T.m_repr (by decide +kernel) (pa_cons (pv 2) pa_nil)) pa_nil))) (pv 6) (nomark _)))))))))))))), ?_⟩
    refine ⟨by show 2 ≤ sizeLine; decide, fun p np => ?_⟩
    have dw : Dw K (upd H p (.lst [.int 0, .int 0])) p a ns := ⟨0, 0, upd_same, by decide, by decide, H, np, same_new np, hSc⟩
    generalize (upd H p (.lst [.int 0, .int 0])) = H0 at dw ⊢
    refine ⟨_, rfl, _, rfl, p, a, ns, rfl, dw, fun H1 qm m g1 nqm dm mok => ?_⟩
    have dm1 := dm.same (hid_same p H1)
    obtain ⟨_, ra, us, e, hA, hra, hus0⟩ := mach_inv dm
    have hus := hus0.same (hid_same p H1)
    cases e
    obtain ⟨nqp, hA⟩ := hid_some hA
    obtain ⟨nrp, hra⟩ := hid_some hra
    have l1 := mok.l1
    have l2 := mok.l2
    have m1 := mok.m1
    have m2 := mok.m2
    have usl := hus.len
    obtain ⟨sm, hsm, small⟩ := mach_small mok (by decide) (by decide)
    refine ⟨_, rfl, qm, _, 1, _, rfl, rfl, SqT.of hA, atI_nat (j := 1) rfl, _, rfl, qm, _, 2, _, rfl, rfl, SqT.of hA, atI_nat (j := 2) rfl, _, _, rfl, ?_⟩
    -- codes
    refine ⟨_, rfl, _, rfl, _, rfl, ra, _, rfl, .inl (SqL.of hra), p, a, ns, us.length, rfl, g1.b, by omega, by omega, fun H3 cd cs g3 ncd hcd nd cb csl => ?_⟩
    have ncp := g1.b.off ncd
    have csl : cs.length = m.rows.length := by omega
    have d3 := (dm.same g3.s).same (hid_same p H3)
    -- kept
    refine ⟨_, rfl, cd, _, rfl, .inl (SqL.of hcd), fun kl nkl => ?_⟩
    have s4 := same_new (o := .lst (vn cs)) nkl
    have hkl : (upd H3 kl (.lst (vn cs))) kl = some (.lst (vn cs)) := upd_same
    refine ⟨_, rfl, qm, _, rfl, dh_dp _ _ (d3.same s4), four m small hsm (by decide), ?_⟩
    refine ⟨by show 2 ≤ sizeLine; decide, fun kp nkp => ?_⟩
    have s5 := same_new (o := .lst [.ref kl, .str (PySem.W.Datum.toD m).shown]) nkp
    have hkl := s5 _ _ hkl
    have hkp : (upd (upd H3 kl (.lst (vn cs))) kp (.lst [.ref kl, .str (PySem.W.Datum.toD m).shown])) kp = some (.lst [.ref kl, .str (PySem.W.Datum.toD m).shown]) := upd_same
    have s4 := s4.trans s5
    have nlp := g3.b.off nkl
    have nkpp := (g3.b.same (same_new (o := .lst (vn cs)) nkl)).off nkp
    generalize (upd (upd H3 kl (.lst (vn cs))) kp (.lst [.ref kl, .str (PySem.W.Datum.toD m).shown])) = H4 at s4 hkl hkp ⊢
    clear s5 nkl nkp
    have g4 := g3.more s4
    have hcd4 := s4 _ _ hcd
    -- the circuit
    refine ⟨_, rfl, _, rfl, qm, cd, m, cs, rfl, d3.same s4, hcd4, mok, csl, nd, cb, fun H5 q5 aI tI aR tR aM aW aO tO vF vT mc TB OB s5 ci => ?_⟩
    have g5 := g4.more s5
    have hcd5 := s5 _ _ hcd4
    have hkl5 := s5 _ _ hkl
    have hkp5 := s5 _ _ hkp
    have mc256 := cb _ ci.mx.mem
    have w8 : wd mc ≤ 8 := wd_le (m := 8) mc256 (by decide)
    have lw4 : wd (m.letters - 1) ≤ 4 := wd_le (m := 4) (by show m.letters - 1 < 16; omega) (by decide)
    have ismax : ∀ {mx : Int}, mx ∈ toI cs → (∀ x ∈ toI cs, x ≤ mx) → mx = ((mc : Nat) : Int) := fun {mx} h1 h2 => by
      obtain ⟨c, hc, rfl⟩ := List.mem_map.mp h1
      have := ci.mx.le c hc
      have := h2 _ (List.mem_map_of_mem ci.mx.mem)
      omega
    have cs0 : 0 < (toI cs).length := by rw [List.length_map]; omega
    -- the widths
    change tSeq _ _ _ [some (.ref a), some (.ref p), some (.ref qm), some (.int (m.letters : Nat)), some (.ref ra), some (.ref cd), some (.ref kp), some (.ref q5), none, none, none, none, none, none, none, none, none, none, none, none] H5
    refine ⟨_, rfl, cd, toI cs, rfl, SqL.of (by rw [hcd5, vn_int]), cs0, fun mx h1 h2 => ?_⟩
    have e := ismax h1 h2
    subst e
    refine ⟨mc, rfl, mc256, fun H6 s6 => ⟨_, rfl, _, _, rfl, rfl, m.letters - 1, (show [V.int (((m.letters : Nat) : Int) - 1)] = [V.int ((m.letters - 1 : Nat) : Int)] by rw [show ((m.letters : Nat) : Int) - 1 = ((m.letters - 1 : Nat) : Int) by omega]), by omega, fun H7 s7' => ⟨_, _, rfl, ?_⟩⟩⟩
    have s57 := s6.trans s7'
    have g7 := g5.more s57
    have ci7 := ci.same s57
    have hcd7 := s57 _ _ hcd5
    have hkl7 := s57 _ _ hkl5
    have hkp7 := s57 _ _ hkp5
    clear s57 s6 s7' h1 h2 hkp5 hkl5 ci g5
    have hA7 := g7.get hA nqp
    have hra7 := g7.get hra nrp
    change tSeq _ _ _ [some (.ref a), some (.ref p), some (.ref qm), some (.int (m.letters : Nat)), some (.ref ra), some (.ref cd), some (.ref kp), some (.ref q5), some (.int (wd mc : Nat)), some (.int (wd (m.letters - 1) : Nat)), none, none, none, none, none, none, none, none, none, none] H7
    have c0 := List.getElem?_eq_getElem (l := cs) (show 0 < cs.length by omega)
    -- what is compared
    refine ⟨_, rfl, q5, _, 0, _, rfl, rfl, SqT.of ci7.hq, atI_nat (j := 0) rfl, rfl, _, rfl, ?_⟩
    rw [dstr, decide_eq_true rfl]
    refine iteF ?_
    refine ⟨_, rfl, q5, _, 1, _, rfl, rfl, SqT.of ci7.hq, atI_nat (j := 1) rfl, _, rfl, by show 2 ≤ sizeLine; decide, fun t1 n1 => ⟨by show 1 ≤ sizeLine; decide, fun l1 n2 => ?_⟩⟩
    have sA := (same_new (o := .tup [.str "letter", .int (wd (m.letters - 1) : Nat)]) n1).trans (same_new (o := .lst [.ref t1]) n2)
    have hA1 : (upd (upd H7 t1 (.tup [.str "letter", .int (wd (m.letters - 1) : Nat)])) l1 (.lst [.ref t1])) t1 = some (.tup [.str "letter", .int (wd (m.letters - 1) : Nat)]) := same_new n2 _ _ upd_same
    have hA2 : (upd (upd H7 t1 (.tup [.str "letter", .int (wd (m.letters - 1) : Nat)])) l1 (.lst [.ref t1])) l1 = some (.lst [.ref t1]) := upd_same
    generalize (upd (upd H7 t1 (.tup [.str "letter", .int (wd (m.letters - 1) : Nat)])) l1 (.lst [.ref t1])) = H8 at sA hA1 hA2 ⊢
    have ci8 := ci7.same sA
    refine neSame (d := .list [.tuple [.str "letter", .int (wd (m.letters - 1) : Nat)]]) (Dh.lst ci8.hi (.cons (Dh.tup ci8.hti (.cons (.str _) (.cons (.int _) .nil))) .nil)) (Dh.lst hA2 (.cons (Dh.tup hA1 (.cons (.str _) (.cons (.int _) .nil))) .nil)) (by simp [SeqAt.shaped, PyData.canLay0, PyData.canLayAll0, PyData.depth, PyData.depthAll] <;> decide +kernel) (by simp [PyData.eqv, PyData.eqvAll]) ⟨_, rfl, iteF ?_⟩
    refine ⟨_, rfl, q5, _, 3, _, rfl, rfl, SqT.of ci8.hq, atI_nat (j := 3) rfl, by show 0 ≤ sizeLine; decide, fun l2 n3 => ?_⟩
    have sD := same_new (o := .lst []) n3
    have hD1 : (upd H8 l2 (.lst [])) l2 = some (.lst []) := upd_same
    generalize (upd H8 l2 (.lst [])) = H11 at sD hD1 ⊢
    have ci11 := ci8.same sD
    refine neSame (d := .list []) (Dh.lst ci11.hm .nil) (Dh.lst hD1 .nil) (by simp [SeqAt.shaped, PyData.canLay0, PyData.canLayAll0, PyData.depth, PyData.depthAll] <;> decide +kernel) (by simp [PyData.eqv, PyData.eqvAll]) ⟨_, rfl, iteF ?_⟩
    refine ⟨_, rfl, q5, _, 5, _, rfl, rfl, SqT.of ci11.hq, atI_nat (j := 5) rfl, aO, rfl, ⟨_, SqL.of ci11.ho⟩, fun D nD => lc_list (xs := [V.ref tO]) (fun i Hz => Same H11 Hz ∧ (i = 0 → Hz D = some (.lst [])) ∧ (i = 1 → ∃ t, Hz D = some (.lst [.ref t]) ∧ Hz t = some (.tup [.str "out", .int 8]))) ⟨same_new nD, fun _ => upd_same, fun h => absurd h (by decide)⟩ (fun i Hz _ h => SqL.of (h.1 _ _ ci11.ho)) ?_ ?_⟩
    · rintro i v Hz hv ⟨sz, h0, _⟩
      obtain ⟨rfl, rfl⟩ := one_get hv
      have hZ := h0 rfl
      refine ⟨rfl, _, rfl, _, rfl, tO, _, rfl, SqT.of (sz _ _ ci11.hto), (by intro h; have h2 : (2 : Nat) = 3 := h.2; exact absurd h2 (by decide)), fun t nt => ⟨_, same_new nt _ _ hZ, by show 0 < sizeLine; decide, same_mut (sz.trans (same_new nt)) nD, fun h => absurd h (by decide), fun _ => ⟨t, upd_same, ?_⟩⟩⟩
      rw [upd_ne (ne_of_none' hZ nt)]
      exact upd_same
    rintro H12 ⟨sB, _, h1⟩
    obtain ⟨tc, hB1, hB2⟩ := h1 rfl
    have ci12 := ci11.same sB
    refine ⟨by show 2 ≤ sizeLine; decide, fun t2 n4 => ⟨by show 1 ≤ sizeLine; decide, fun l3 n5 => ?_⟩⟩
    have sE := (same_new (o := .tup [.str "out", .int 8]) n4).trans (same_new (o := .lst [.ref t2]) n5)
    have hE1 : (upd (upd H12 t2 (.tup [.str "out", .int 8])) l3 (.lst [.ref t2])) t2 = some (.tup [.str "out", .int 8]) := same_new n5 _ _ upd_same
    have hE2 : (upd (upd H12 t2 (.tup [.str "out", .int 8])) l3 (.lst [.ref t2])) l3 = some (.lst [.ref t2]) := upd_same
    generalize (upd (upd H12 t2 (.tup [.str "out", .int 8])) l3 (.lst [.ref t2])) = H13 at sE hE1 hE2 ⊢
    have ci13 := ci12.same sE
    refine neSame (d := .list [.tuple [.str "out", .int 8]]) (Dh.lst (sE _ _ hB1) (.cons (Dh.tup (sE _ _ hB2) (.cons (.str _) (.cons (.int _) .nil))) .nil)) (Dh.lst hE2 (.cons (Dh.tup hE1 (.cons (.str _) (.cons (.int _) .nil))) .nil)) (by simp [SeqAt.shaped, PyData.canLay0, PyData.canLayAll0, PyData.depth, PyData.depthAll] <;> decide +kernel) (by simp [PyData.eqv, PyData.eqvAll]) ⟨_, rfl, iteF ?_⟩
    have s713 := sA.trans (sD.trans (sB.trans sE))
    clear hE1 hE2 hB1 hB2 hD1 hA1 hA2 h1 n1 n2 n3 n4 n5 ci12 ci11 ci8 ci7
    refine ⟨_, rfl, q5, _, 2, _, rfl, rfl, SqT.of ci13.hq, atI_nat (j := 2) rfl, aR, rfl, ⟨_, SqL.of ci13.hr⟩, fun D nD => lc_list (xs := [V.ref tR]) (fun i Hz => Same H13 Hz ∧ (i = 0 → Hz D = some (.lst [])) ∧ (i = 1 → ∃ t, Hz D = some (.lst [.ref t]) ∧ Hz t = some (.tup [.str "state", .int (wd mc : Nat), .int (cs[0]?.getD 0 : Nat)]))) ⟨same_new nD, fun _ => upd_same, fun h => absurd h (by decide)⟩ (fun i Hz _ h => SqL.of (h.1 _ _ ci13.hr)) ?_ ?_⟩
    · rintro i v Hz hv ⟨sz, h0, _⟩
      obtain ⟨rfl, rfl⟩ := one_get hv
      have hZ := h0 rfl
      refine ⟨rfl, _, rfl, _, rfl, tR, _, rfl, SqT.of (sz _ _ ci13.htr), (by intro h; have h2 : (3 : Nat) = 4 := h.2; exact absurd h2 (by decide)), fun t nt => ⟨_, same_new nt _ _ hZ, by show 0 < sizeLine; decide, same_mut (sz.trans (same_new nt)) nD, fun h => absurd h (by decide), fun _ => ⟨t, upd_same, ?_⟩⟩⟩
      rw [upd_ne (ne_of_none' hZ nt)]
      exact upd_same
    rintro H14 ⟨sF, _, h1⟩
    obtain ⟨tc, hB1, hB2⟩ := h1 rfl
    have ci14 := ci13.same sF
    have s714 := s713.trans sF
    refine ⟨_, rfl, _, rfl, cd, _, 0, _, rfl, rfl, SqL.of (s714 _ _ hcd7), atI_nat (j := 0) (vn_get c0), by show 3 ≤ sizeLine; decide, fun t1 n1 => ⟨by show 1 ≤ sizeLine; decide, fun l1 n2 => ?_⟩⟩
    have sC := (same_new (o := .tup [.str "state", .int (wd mc : Nat), .int (cs[0] : Nat)]) n1).trans (same_new (o := .lst [.ref t1]) n2)
    have hC1 : (upd (upd H14 t1 (.tup [.str "state", .int (wd mc : Nat), .int (cs[0] : Nat)])) l1 (.lst [.ref t1])) t1 = some (.tup [.str "state", .int (wd mc : Nat), .int (cs[0]?.getD 0 : Nat)]) := by
      rw [c0]
      exact same_new n2 _ _ upd_same
    have hC2 : (upd (upd H14 t1 (.tup [.str "state", .int (wd mc : Nat), .int (cs[0] : Nat)])) l1 (.lst [.ref t1])) l1 = some (.lst [.ref t1]) := upd_same
    generalize (upd (upd H14 t1 (.tup [.str "state", .int (wd mc : Nat), .int (cs[0] : Nat)])) l1 (.lst [.ref t1])) = H15 at sC hC1 hC2 ⊢
    have ci15 := ci14.same sC
    refine neSame (d := .list [.tuple [.str "state", .int (wd mc : Nat), .int (cs[0]?.getD 0 : Nat)]]) (Dh.lst (sC _ _ hB1) (.cons (Dh.tup (sC _ _ hB2) (.cons (.str _) (.cons (.int _) (.cons (.int _) .nil)))) .nil)) (Dh.lst hC2 (.cons (Dh.tup hC1 (.cons (.str _) (.cons (.int _) (.cons (.int _) .nil)))) .nil)) (by simp [SeqAt.shaped, PyData.canLay0, PyData.canLayAll0, PyData.depth, PyData.depthAll] <;> decide +kernel) (by simp [PyData.eqv, PyData.eqvAll]) ⟨_, rfl, iteF ?_⟩
    have s715 := s714.trans sC
    -- the first state
    refine ⟨_, rfl, q5, m, cs, aI, tI, aR, tR, aM, aW, aO, tO, vF, vT, mc, TB, OB, rfl, ci15, fun H16 t0 a1 a2 s16 st0 => ?_⟩
    have s716 := s715.trans s16
    refine ⟨_, rfl, cd, _, 0, _, rfl, rfl, SqL.of (s716 _ _ hcd7), atI_nat (j := 0) (vn_get c0), by show 1 ≤ sizeLine; decide, fun b1 n6 => ⟨by show 0 ≤ sizeLine; decide, fun b2 n7 => ⟨by show 3 ≤ sizeLine; decide, fun b3 n8 => ?_⟩⟩⟩
    have sG1 := same_new (o := .lst [.int (cs[0] : Nat)]) n6
    have sG2 := same_new (o := .lst []) n7
    have sG3 := same_new (o := .tup [.str "state", .ref b1, .ref b2]) n8
    have sG := sG1.trans (sG2.trans sG3)
    have hG1 : (upd (upd (upd H16 b1 (.lst [.int (cs[0] : Nat)])) b2 (.lst [])) b3 (.tup [.str "state", .ref b1, .ref b2])) b1 = some (.lst [.int (cs[0]?.getD 0 : Nat)]) := by
      rw [c0]
      exact sG3 _ _ (sG2 _ _ upd_same)
    have hG2 : (upd (upd (upd H16 b1 (.lst [.int (cs[0] : Nat)])) b2 (.lst [])) b3 (.tup [.str "state", .ref b1, .ref b2])) b2 = some (.lst []) := sG3 _ _ upd_same
    have hG3 : (upd (upd (upd H16 b1 (.lst [.int (cs[0] : Nat)])) b2 (.lst [])) b3 (.tup [.str "state", .ref b1, .ref b2])) b3 = some (.tup [.str "state", .ref b1, .ref b2]) := upd_same
    generalize (upd (upd (upd H16 b1 (.lst [.int (cs[0] : Nat)])) b2 (.lst [])) b3 (.tup [.str "state", .ref b1, .ref b2])) = H17 at sG hG1 hG2 hG3 ⊢
    have st17 := st0.same sG
    refine neSame (d := .tuple [.str "state", .list [.int (cs[0]?.getD 0 : Nat)], .list []]) (Dh.tup st17.h (.cons (.str _) (.cons (Dh.lst st17.w (.cons (.int _) .nil)) (.cons (Dh.lst st17.e .nil) .nil)))) (Dh.tup hG3 (.cons (.str _) (.cons (Dh.lst hG1 (.cons (.int _) .nil)) (.cons (Dh.lst hG2 .nil) .nil)))) (by simp [SeqAt.shaped, PyData.canLay0, PyData.canLayAll0, PyData.depth, PyData.depthAll] <;> decide +kernel) (by simp [PyData.eqv, PyData.eqvAll]) ⟨_, rfl, iteF ?_⟩
    have ci17 := (ci15.same s16).same sG
    have s717 := s716.trans sG
    have g17 := g7.more s717
    have hcd17 := s717 _ _ hcd7
    have hkl17 := s717 _ _ hkl7
    have hkp17 := s717 _ _ hkp7
    obtain ⟨i0, z0, hp17, _, _, _⟩ := g17.b
    have cih := ci17.hid hp17
    clear hG1 hG2 hG3 sG1 sG2 sG3 n6 n7 n8 hC1 hC2 hB1 hB2 st17 st0
    refine ⟨_, rfl, by decide, by decide, for_range (n := 24) (fun i σ Hx => ∃ (y10 y11 y12 y13 y14 y18 : Option V), σ = [some (.ref a), some (.ref p), some (.ref qm), some (.int (m.letters : Nat)), some (.ref ra), some (.ref cd), some (.ref kp), some (.ref q5), some (.int (wd mc : Nat)), some (.int (wd (m.letters - 1) : Nat)), y10, y11, y12, y13, y14, none, none, none, y18, none] ∧ Gw K p a ns H17 Hx) ⟨none, none, none, none, none, none, rfl, Gw.refl g17.b⟩ ?_ ?_⟩
    · rintro i σ Hx hi ⟨y10, y11, y12, y13, y14, y18, rfl, gx⟩
      have L1 := mok.l1
      have L2 := mok.l2
      have M1 := mok.m1
      have M2 := mok.m2
      have pw := Nat.pow_le_pow_right (n := 2) (by decide) w8
      have pn := Nat.pow_le_pow_right (n := 2) (by decide) lw4
      have pw0 := Nat.two_pow_pos (wd mc)
      have pn0 := Nat.two_pow_pos (wd (m.letters - 1))
      have pw : 2 ^ wd mc ≤ 256 := pw
      have pn : 2 ^ wd (m.letters - 1) ≤ 16 := pn
      have hra17 := s717 _ _ hra7
      have hus17 := hus0.same g17.s
      -- code
      refine ⟨_, rfl, _, rfl, _, rfl, _, rfl, ra, us, rfl, .inl (SqL.of (gx.get hra17 nrp)), p, a, ns, us.length, rfl, gx.b, by omega, by omega, fun Ha k1 ga hk1 => ?_⟩
      have ga := gx.trans ga
      have ck1 := List.getElem?_eq_getElem (l := cs) (show k1 < cs.length by omega)
      refine ⟨cd, _, _, _, rfl, rfl, SqL.of (ga.get hcd17 ncp), atI_nat (vn_get ck1), ?_⟩
      refine ⟨_, rfl, _, rfl, _, rfl, _, _, rfl, rfl, cpow1 (by omega), p, a, ns, 2 ^ wd mc, (by show [V.ref p, V.ref a, V.int ((1 : Int) * 2 ^ (((wd mc : Nat) : Int)).toNat)] = _; rw [shl_one]), ga.b, pw0, by omega, fun Hb k2 gb hk2 => ?_⟩
      have gb := ga.trans gb
      refine ⟨by show 2 ≤ sizeLine; decide, fun lp nlp0 => ?_⟩
      have nlpp := gb.b.off nlp0
      have hlp := upd_same (H := Hb) (a := lp) (o := .lst [.int (cs[k1] : Nat), .int (k2 : Nat)])
      have gc := gb.more (same_new (o := .lst [.int (cs[k1] : Nat), .int (k2 : Nat)]) nlp0)
      generalize (upd Hb lp (.lst [.int (cs[k1] : Nat), .int (k2 : Nat)])) = Hc at gc hlp ⊢
      refine ⟨_, rfl, _, rfl, p, a, ns, 2, rfl, gc.b, by decide, by decide, fun Hd b gd hb => ?_⟩
      refine ⟨lp, _, _, _, rfl, rfl, SqL.of (gd.get hlp nlpp), atI_two (x := cs[k1]) (y := k2) hb, ?_⟩
      have gd := gc.trans gd
      have cw : (if b = 0 then cs[k1] else k2) < 2 ^ wd mc := by
        split
        · exact Nat.lt_of_le_of_lt (cih.mx.le _ (List.getElem_mem _)) (wd_lt mc)
        · exact hk2
      generalize (if b = 0 then cs[k1] else k2) = code at cw ⊢
      clear hk1 hk2 hb hlp nlp0 nlpp ck1 ga gb gc
      -- letter
      refine ⟨_, rfl, _, rfl, _, rfl, _, _, rfl, rfl, cpow1 (by omega), p, a, ns, 2 ^ wd (m.letters - 1), (by show [V.ref p, V.ref a, V.int ((1 : Int) * 2 ^ (((wd (m.letters - 1) : Nat) : Int)).toNat)] = _; rw [shl_one]), gd.b, pn0, by omega, fun H4' letter ge hle => ?_⟩
      have ge := gd.trans ge
      clear gd
      have hcdx := ge.get hcd17 ncp
      have hrax := ge.get hra17 nrp
      have husx := hus17.same ge.s
      have cix := (cih.same ge.s).same (hid_same p H4')
      refine ⟨_, rfl, cd, _, 0, _, rfl, rfl, SqL.of hcdx, atI_nat (j := 0) (vn_get c0), ?_⟩
      have rowAt : ∀ {k : Nat}, cs[k]? = some code → ∃ (r : Nat × List Nat) (t l : Addr), m.rows[k]? = some r ∧ us[k]? = some (.ref t) ∧ H4' t = some (.tup [.int (r.1 : Nat), .ref l]) ∧ H4' l = some (.lst (vn r.2)) := fun {k} hk => by
        have kl := (List.getElem?_eq_some_iff.mp hk).1
        have hr := List.getElem?_eq_getElem (l := m.rows) (show k < m.rows.length by omega)
        obtain ⟨u, hu, du⟩ := husx.get hr
        obtain ⟨t, x, y, rfl, ht, hx, hy⟩ := du.pair_inv
        have hx := hx.nat_inv
        obtain ⟨l, rfl, hl⟩ := hy.natl_inv
        subst hx
        exact ⟨_, t, l, hr, hu, (hid_some ht).2, (hid_some hl).2⟩
      -- due
      change C8.tCut _ _ _ [some (.ref a), some (.ref p), some (.ref qm), some (.int (m.letters : Nat)), some (.ref ra), some (.ref cd), some (.ref kp), some (.ref q5), some (.int (wd mc : Nat)), some (.int (wd (m.letters - 1) : Nat)), some (.int ((0 : Int) + (i : Nat))), some (.int (code : Nat)), some (.int (letter : Nat)), some (.int (cs[0] : Nat)), y14, none, none, none, y18, none] H4'
      refine ⟨fun σ Hz => Hz = H4' ∧ ∃ due : Nat, σ = [some (.ref a), some (.ref p), some (.ref qm), some (.int (m.letters : Nat)), some (.ref ra), some (.ref cd), some (.ref kp), some (.ref q5), some (.int (wd mc : Nat)), some (.int (wd (m.letters - 1) : Nat)), some (.int ((0 : Int) + (i : Nat))), some (.int (code : Nat)), some (.int (letter : Nat)), some (.int (due : Nat)), y14, none, none, none, y18, none] ∧ ∀ env : Str → Nat, env "state" = code → env "letter" = letter → (lkr (wd mc) (fbits (wd mc) (wd (m.letters - 1))) TB).val env = due, ?_, ?_⟩
      · refine ⟨_, rfl, _, rfl, cd, _, rfl, .inl (SqL.of hcdx), rfl, flat_vn _, _, rfl, ?_⟩
        show if inV (.int ((code : Nat) : Int)) (vn cs) = true then _ else _
        rw [inV_vn]
        have no : letter ≥ m.letters ∨ code ∉ cs → ∀ env : Str → Nat, env "state" = code → env "letter" = letter → (lkr (wd mc) (fbits (wd mc) (wd (m.letters - 1))) TB).val env = cs[0] := fun h env e1 e2 => by
          rw [fol_no cix.mx cix.tt cw hle h e1 e2, c0]
          rfl
        by_cases c1 : code ∈ cs
        · rw [decide_eq_true c1]
          refine iteT ⟨_, rfl, _, rfl, _, _, rfl, rfl, _, rfl, ?_⟩
          rw [show decide (((letter : Nat) : Int) < ((m.letters : Nat) : Int)) = decide (letter < m.letters) from decide_eq_decide.mpr (by omega)]
          by_cases c2 : letter < m.letters
          · rw [decide_eq_true c2]
            obtain ⟨k, hk⟩ := List.getElem?_of_mem c1
            obtain ⟨r, t, l, hr, hu, ht, hl⟩ := rowAt hk
            have rok := mok.r r (List.mem_of_getElem? hr)
            have ll : letter < r.2.length := by rw [rok.2.1]; exact c2
            have hx := List.getElem?_eq_getElem ll
            have xl := rok.2.2 _ (List.getElem_mem ll)
            have hy := List.getElem?_eq_getElem (l := cs) (show r.2[letter] < cs.length by omega)
            refine iteT ⟨_, rfl, _, rfl, _, rfl, .inl ⟨rfl, _, SqL.of hcdx⟩, _, rfl, cd, vn cs, .int (code : Nat), k, .int (code : Nat), rfl, rfl, SqL.of hcdx, rfl, flat_vn _, vn_get hk, index_yes code, index_no nd hk, ?_⟩
            refine ⟨ra, us, _, _, rfl, rfl, SqL.of hrax, atI_nat hu, t, _, 1, _, rfl, rfl, SqT.of ht, atI_nat (j := 1) rfl, _, rfl, l, _, _, _, rfl, rfl, SqL.of hl, atI_nat (vn_get hx), cd, _, _, _, rfl, rfl, SqL.of hcdx, atI_nat (vn_get hy), rfl, _, rfl, fun env e1 e2 => ?_⟩
            exact fol_val cix.mx cix.tt hk hr hx hy rok.2.1 e1 e2
          · rw [decide_eq_false c2]
            exact iteF ⟨rfl, _, rfl, no (.inl (by omega))⟩
        · rw [decide_eq_false c1]
          exact iteF (iteF ⟨rfl, _, rfl, no (.inr c1)⟩)
      rintro σ Hz ⟨rfl, due, rfl, dueV⟩
      -- the words
      refine fun wp nwp => ⟨_, rfl, _, rfl, upd_same, [(Sum.inr "letter", .int (letter : Nat)), (Sum.inr "state", .int (code : Nat))], rfl, by show 2 ≤ 15; decide, ?_⟩
      have s1 : Same Hz (upd (upd Hz wp (.dK [])) wp (.dK (mergeK [] [(Sum.inr "letter", .int (letter : Nat)), (Sum.inr "state", .int (code : Nat))]))) := fun b o e => by
        rw [upd_ne (ne_of_none e nwp), upd_ne (ne_of_none e nwp)]
        exact e
      have hw1 : (upd (upd Hz wp (.dK [])) wp (.dK (mergeK [] [(Sum.inr "letter", .int (letter : Nat)), (Sum.inr "state", .int (code : Nat))]))) wp = some (.dK (mergeK [] [(Sum.inr "letter", .int (letter : Nat)), (Sum.inr "state", .int (code : Nat))])) := upd_same
      obtain ⟨env, henv⟩ : ∃ env : Str → Nat, env = fun n : Str => if n = ("letter" : Str) then letter else code := ⟨_, rfl⟩
      have envl : env "letter" = letter := by rw [henv]; exact if_pos rfl
      have envs : env "state" = code := by
        rw [henv]
        exact if_neg (by decide +kernel)
      have told := told2 envl envs
      generalize (mergeK [] [(Sum.inr "letter", .int (letter : Nat)), (Sum.inr "state", .int (code : Nat))] : List (Key × V)) = kv at told hw1 s1 ⊢
      generalize (upd (upd Hz wp (.dK [])) wp (.dK kv)) = H1w at s1 hw1 ⊢
      have ci1 := cix.same s1
      refine ⟨_, rfl, q5, _, 4, _, rfl, rfl, SqT.of ci1.hq, atI_nat (j := 4) rfl, aW, rfl, ⟨_, SqL.of ci1.hw⟩, for_list (xs := ([] : List V)) (tb := fun _ _ _ => False) (fun _ σ Hx => σ = [some (.ref a), some (.ref p), some (.ref qm), some (.int (m.letters : Nat)), some (.ref ra), some (.ref cd), some (.ref kp), some (.ref q5), some (.int (wd mc : Nat)), some (.int (wd (m.letters - 1) : Nat)), some (.int ((0 : Int) + (i : Nat))), some (.int (code : Nat)), some (.int (letter : Nat)), some (.int (due : Nat)), some (.ref wp), none, none, none, y18, none] ∧ Same H1w Hx) ⟨rfl, Same.refl _⟩ (fun i σ Hx _ h => SqL.of (h.2 _ _ ci1.hw)) (fun i v σ Hx hv => by cases hv) ?_⟩
      rintro σ H2w ⟨rfl, s2⟩
      have s12 := s1.trans s2
      have ci2 := ci1.same s2
      have hw2 := s2 _ _ hw1
      have hcd2 := s12 _ _ hcdx
      have hra2 := s12 _ _ hrax
      have okT := okT2 (mc := mc) (O := OB) w8
      have okF := okF2 (mc := mc) (lw := wd (m.letters - 1)) (TB := TB) w8 lw4
      -- shown
      refine ⟨_, rfl, q5, _, 5, _, rfl, rfl, SqT.of ci2.hq, atI_nat (j := 5) rfl, aO, _, 0, _, rfl, rfl, SqL.of ci2.ho, atI_nat (j := 0) rfl, tO, _, 2, _, rfl, rfl, SqT.of ci2.hto, atI_nat (j := 2) rfl, _, rfl, vT, wp, lkr 8 (nbits "state" (wd mc) (wd mc)) OB, kv, _, env, rfl, ci2.ht, hw2, told, okT.1, okT.2, ?_⟩
      obtain ⟨sh, hsh⟩ : ∃ sh : Nat, sh = (lkr 8 (nbits "state" (wd mc) (wd mc)) OB).val env := ⟨_, rfl⟩
      rw [← hsh]
      refine ⟨_, rfl, q5, _, 2, _, rfl, rfl, SqT.of ci2.hq, atI_nat (j := 2) rfl, aR, _, 0, _, rfl, rfl, SqL.of ci2.hr, atI_nat (j := 0) rfl, tR, _, 3, _, rfl, rfl, SqT.of ci2.htr, atI_nat (j := 3) rfl, _, rfl, vF, wp, lkr (wd mc) (fbits (wd mc) (wd (m.letters - 1))) TB, kv, _, env, rfl, ci2.hf, hw2, told, okF.1, okF.2, _, rfl, rfl, _, rfl, ?_⟩
      have dv := dueV env envs envl
      rw [dv, decide_eq_true rfl]
      refine iteF ⟨_, rfl, _, rfl, cd, _, rfl, .inl (SqL.of hcd2), rfl, flat_vn _, _, rfl, ?_⟩
      show if inV (.int ((code : Nat) : Int)) (vn cs) = true then _ else _
      rw [inV_vn]
      refine iteLast (iteF ?_) fun hc rest => ?_
      · -- one step
        refine ⟨_, rfl, _, rfl, by show 1 ≤ sizeLine; decide, fun w1 n1 => ⟨by show 0 ≤ sizeLine; decide, fun w2 n2 => ⟨by show 3 ≤ sizeLine; decide, fun t n3 => ⟨_, rfl, by show 1 ≤ sizeLine; decide, fun wl n4 => ?_⟩⟩⟩⟩
        have x1 := same_new (o := .lst [.int (code : Nat)]) n1
        have x2 := same_new (o := .lst []) n2
        have x3 := same_new (o := .tup [.str "state", .ref w1, .ref w2]) n3
        have x4 := same_new (o := .lst [.int (letter : Nat)]) n4
        have x14 := x1.trans (x2.trans (x3.trans x4))
        refine ⟨q5, t, wl, m, cs, aI, tI, aR, tR, aM, aW, aO, tO, vF, vT, mc, TB, OB, w1, w2, code, letter, env, rfl, ci2.same x14, ⟨x4 _ _ upd_same, x4 _ _ (x3 _ _ (x2 _ _ upd_same)), x4 _ _ (x3 _ _ upd_same)⟩, upd_same, envl, envs, w8, lw4, fun H9 z o t' b1 b2 s9 hz ho st' => ?_⟩
        rw [dv] at st'
        rw [← hsh] at ho
        refine ⟨_, rfl, by show 1 ≤ sizeLine; decide, fun u1 m1 => ⟨_, rfl, by show 1 ≤ sizeLine; decide, fun u2 m2 => ⟨by show 0 ≤ sizeLine; decide, fun u3 m3 => ⟨by show 3 ≤ sizeLine; decide, fun u4 m4 => ⟨by show 2 ≤ sizeLine; decide, fun u5 m5 => ?_⟩⟩⟩⟩⟩
        have v1 := same_new (o := .lst [.int (sh : Nat)]) m1
        have v2 := same_new (o := .lst [.int (due : Nat)]) m2
        have v3 := same_new (o := .lst []) m3
        have v4 := same_new (o := .tup [.str "state", .ref u2, .ref u3]) m4
        have v5 := same_new (o := .tup [.ref u1, .ref u4]) m5
        have v15 := v1.trans (v2.trans (v3.trans (v4.trans v5)))
        have stz := st'.same v15
        refine neSame (d := .tuple [.list [.int (sh : Nat)], .tuple [.str "state", .list [.int (due : Nat)], .list []]]) (Dh.tup (v15 _ _ hz) (.cons (Dh.lst (v15 _ _ ho) (.cons (.int _) .nil)) (.cons (Dh.tup stz.h (.cons (.str _) (.cons (Dh.lst stz.w (.cons (.int _) .nil)) (.cons (Dh.lst stz.e .nil) .nil)))) .nil))) (Dh.tup upd_same (.cons (Dh.lst (v5 _ _ (v4 _ _ (v3 _ _ (v2 _ _ upd_same)))) (.cons (.int _) .nil)) (.cons (Dh.tup (v5 _ _ upd_same) (.cons (.str _) (.cons (Dh.lst (v5 _ _ (v4 _ _ (v3 _ _ upd_same))) (.cons (.int _) .nil)) (.cons (Dh.lst (v5 _ _ (v4 _ _ upd_same)) .nil) .nil)))) .nil))) (by simp [SeqAt.shaped, PyData.canLay0, PyData.canLayAll0, PyData.depth, PyData.depthAll] <;> decide +kernel) (by simp [PyData.eqv, PyData.eqvAll]) ⟨_, rfl, iteF ?_⟩
        exact ⟨_, _, _, _, _, _, rfl, ge.more (s12.trans (x14.trans (s9.trans v15)))⟩
      · obtain ⟨k, hk⟩ := List.getElem?_of_mem (of_decide_eq_true hc)
        obtain ⟨r, t, l, hr, hu, ht, hl⟩ := rowAt hk
        refine ⟨_, rfl, _, rfl, _, rfl, .inl ⟨rfl, _, SqL.of hcd2⟩, _, rfl, cd, vn cs, .int (code : Nat), k, .int (code : Nat), rfl, rfl, SqL.of hcd2, rfl, flat_vn _, vn_get hk, index_yes code, index_no nd hk, ?_⟩
        refine ⟨ra, us, _, _, rfl, rfl, SqL.of hra2, atI_nat hu, t, _, 0, _, rfl, rfl, SqT.of (s12 _ _ ht), atI_nat (j := 0) rfl, rfl, _, rfl, ?_⟩
        have e : sh = r.1 := by
          rw [hsh]
          exact out_val cix.mx cix.oo hk hr envs
        rw [decide_eq_true (show V.int ((sh : Nat) : Int) = V.int ((r.1 : Nat) : Int) by rw [e])]
        exact rest
    rintro σ H18 ⟨y10, y11, y12, y13, y14, y18, rfl, g18⟩
    have gA := g17.trans g18
    have hcdE := g18.get hcd17 ncp
    have hklE := g18.get hkl17 nlp
    have hkpE := g18.get hkp17 nkpp
    have dmE := (dm.same gA.s).same (hid_same p H18)
    refine ⟨_, rfl, _, rfl, qm, _, rfl, dh_dp _ _ dmE, four m small hsm (by decide), by show 2 ≤ sizeLine; decide, fun z nz => ⟨_, rfl, 2, by decide, ?_, q _⟩⟩
    have sz := same_new (o := .lst [.ref cd, .str (PySem.W.Datum.toD m).shown]) nz
    exact .inl ⟨z, kp, _, _, rfl, rfl, SqL.of upd_same, SqL.of (sz _ _ hkpE), .cons (.inr (.inr (.inl ⟨cd, kl, _, _, rfl, rfl, SqL.of (sz _ _ hcdE), SqL.of (sz _ _ hklE), paired_vn cs⟩))) (.cons (.inl ⟨rfl, rfl⟩) .nil)⟩
end K24
namespace K24
open PySem PySem.Spec PyProof.Rows L2 V0
theorem all_mk {l : PySem.W.OpenLaw} {w : World} {K : PySem.W.Frag} {h : Heap} {mg : Str → Option Value} {fa f1 f2 f3 f4 f5 f6 f7 f8 f9 f10 f11 f12 f13 f14 f15 f16 : Addr} (X : K.In h) (G : h.Ns mainGlobals mg) (hfa : mg "law" = some (.ref fa))
    {tk_OUTPUT_WIDTH : Tok}
    {od1 an1 od2 an2 od3 an3 od4 an4 od5 an5 od6 an6 od7 an7 od8 an8 od9 an9 od10 an10 od11 an11 od12 an12 od13 an13 od14 an14 od15 an15 od16 an16 : Option Addr} {sl1 sl2 sl3 sl4 sl5 sl6 sl7 sl8 sl9 sl10 sl11 sl12 sl13 sl14 sl15 sl16 : Array (Option Value)} {oc1 kV1 dc1 pm1 cd1 ct1 oc2 kV2 dc2 pm2 cd2 ct2 oc3 kV3 dc3 pm3 cd3 ct3 oc4 kV4 dc4 pm4 cd4 ct4 oc5 kV5 dc5 pm5 cd5 ct5 oc6 kV6 dc6 pm6 cd6 ct6 oc7 kV7 dc7 pm7 cd7 ct7 oc8 kV8 dc8 pm8 cd8 ct8 oc9 kV9 dc9 pm9 cd9 ct9 oc10 kV10 dc10 pm10 cd10 ct10 oc11 kV11 dc11 pm11 cd11 ct11 oc12 kV12 dc12 pm12 cd12 ct12 oc13 kV13 dc13 pm13 cd13 ct13 oc14 kV14 dc14 pm14 cd14 ct14 oc15 kV15 dc15 pm15 cd15 ct15 oc16 kV16 dc16 pm16 cd16 ct16 : Value}
    (aI_OUTPUT_WIDTH : PySem.W.nsIn K mainGlobals "OUTPUT_WIDTH" = some (some (.int (8) tk_OUTPUT_WIDTH)))
    (a1 : PySem.W.nsIn K mainGlobals "_law_draw" = some (some (.ref f1))) (l1 : K.lookup f1 = some ⟨oc1, od1, .func (PySem.W.fnOf "_law_draw" "_law_draw" (defArgs s__law_draw) (defBody s__law_draw) (defScope s__law_draw) .none kV1 dc1 pm1 an1 cd1 ct1), sl1⟩) (c1 : PySem.W.codeIn K cd1 "_law_draw" = true) (k1 : PySem.W.keepIn K (.ref f1) = true)
    (a2 : PySem.W.nsIn K mainGlobals "_law_machine" = some (some (.ref f2))) (l2 : K.lookup f2 = some ⟨oc2, od2, .func (PySem.W.fnOf "_law_machine" "_law_machine" (defArgs s__law_machine) (defBody s__law_machine) (defScope s__law_machine) .none kV2 dc2 pm2 an2 cd2 ct2), sl2⟩) (c2 : PySem.W.codeIn K cd2 "_law_machine" = true) (k2 : PySem.W.keepIn K (.ref f2) = true)
    (a3 : PySem.W.nsIn K mainGlobals "_law_codes" = some (some (.ref f3))) (l3 : K.lookup f3 = some ⟨oc3, od3, .func (PySem.W.fnOf "_law_codes" "_law_codes" (defArgs s__law_codes) (defBody s__law_codes) (defScope s__law_codes) .none kV3 dc3 pm3 an3 cd3 ct3), sl3⟩) (c3 : PySem.W.codeIn K cd3 "_law_codes" = true) (k3 : PySem.W.keepIn K (.ref f3) = true)
    (a4 : PySem.W.nsIn K mainGlobals "_width_of" = some (some (.ref f4))) (l4 : K.lookup f4 = some ⟨oc4, od4, .func (PySem.W.fnOf "_width_of" "_width_of" (defArgs s__width_of) (defBody s__width_of) (defScope s__width_of) .none kV4 dc4 pm4 an4 cd4 ct4), sl4⟩) (c4 : PySem.W.codeIn K cd4 "_width_of" = true) (k4 : PySem.W.keepIn K (.ref f4) = true)
    (a5 : PySem.W.nsIn K mainGlobals "_bits_of_name" = some (some (.ref f5))) (l5 : K.lookup f5 = some ⟨oc5, od5, .func (PySem.W.fnOf "_bits_of_name" "_bits_of_name" (defArgs s__bits_of_name) (defBody s__bits_of_name) (defScope s__bits_of_name) .none kV5 dc5 pm5 an5 cd5 ct5), sl5⟩) (c5 : PySem.W.codeIn K cd5 "_bits_of_name" = true) (k5 : PySem.W.keepIn K (.ref f5) = true)
    (a6 : PySem.W.nsIn K mainGlobals "_looked_up" = some (some (.ref f6))) (l6 : K.lookup f6 = some ⟨oc6, od6, .func (PySem.W.fnOf "_looked_up" "_looked_up" (defArgs s__looked_up) (defBody s__looked_up) (defScope s__looked_up) .none kV6 dc6 pm6 an6 cd6 ct6), sl6⟩) (c6 : PySem.W.codeIn K cd6 "_looked_up" = true) (k6 : PySem.W.keepIn K (.ref f6) = true)
    (a7 : PySem.W.nsIn K mainGlobals "circuit_of" = some (some (.ref f7))) (l7 : K.lookup f7 = some ⟨oc7, od7, .func (PySem.W.fnOf "circuit_of" "circuit_of" (defArgs s_circuit_of) (defBody s_circuit_of) (defScope s_circuit_of) .none kV7 dc7 pm7 an7 cd7 ct7), sl7⟩) (c7 : PySem.W.codeIn K cd7 "circuit_of" = true) (k7 : PySem.W.keepIn K (.ref f7) = true)
    (a8 : PySem.W.nsIn K mainGlobals "_law_digits" = some (some (.ref f8))) (l8 : K.lookup f8 = some ⟨oc8, od8, .func (PySem.W.fnOf "_law_digits" "_law_digits" (defArgs s__law_digits) (defBody s__law_digits) (defScope s__law_digits) .none kV8 dc8 pm8 an8 cd8 ct8), sl8⟩) (c8 : PySem.W.codeIn K cd8 "_law_digits" = true) (k8 : PySem.W.keepIn K (.ref f8) = true)
    (a9 : PySem.W.nsIn K mainGlobals "start" = some (some (.ref f9))) (l9 : K.lookup f9 = some ⟨oc9, od9, .func (PySem.W.fnOf "start" "start" (defArgs s_start) (defBody s_start) (defScope s_start) .none kV9 dc9 pm9 an9 cd9 ct9), sl9⟩) (c9 : PySem.W.codeIn K cd9 "start" = true) (k9 : PySem.W.keepIn K (.ref f9) = true)
    (a10 : PySem.W.nsIn K mainGlobals "_law_value" = some (some (.ref f10))) (l10 : K.lookup f10 = some ⟨oc10, od10, .func (PySem.W.fnOf "_law_value" "_law_value" (defArgs s__law_value) (defBody s__law_value) (defScope s__law_value) .none kV10 dc10 pm10 an10 cd10 ct10), sl10⟩) (c10 : PySem.W.codeIn K cd10 "_law_value" = true) (k10 : PySem.W.keepIn K (.ref f10) = true)
    (a11 : PySem.W.nsIn K mainGlobals "remainder" = some (some (.ref f11))) (l11 : K.lookup f11 = some ⟨oc11, od11, .func (PySem.W.fnOf "remainder" "remainder" (defArgs s_remainder) (defBody s_remainder) (defScope s_remainder) .none kV11 dc11 pm11 an11 cd11 ct11), sl11⟩) (c11 : PySem.W.codeIn K cd11 "remainder" = true) (k11 : PySem.W.keepIn K (.ref f11) = true)
    (a12 : PySem.W.nsIn K mainGlobals "cut_word" = some (some (.ref f12))) (l12 : K.lookup f12 = some ⟨oc12, od12, .func (PySem.W.fnOf "cut_word" "cut_word" (defArgs s_cut_word) (defBody s_cut_word) (defScope s_cut_word) .none kV12 dc12 pm12 an12 cd12 ct12), sl12⟩) (c12 : PySem.W.codeIn K cd12 "cut_word" = true) (k12 : PySem.W.keepIn K (.ref f12) = true)
    (a13 : PySem.W.nsIn K mainGlobals "_word_of" = some (some (.ref f13))) (l13 : K.lookup f13 = some ⟨oc13, od13, .func (PySem.W.fnOf "_word_of" "_word_of" (defArgs s__word_of) (defBody s__word_of) (defScope s__word_of) .none kV13 dc13 pm13 an13 cd13 ct13), sl13⟩) (c13 : PySem.W.codeIn K cd13 "_word_of" = true) (k13 : PySem.W.keepIn K (.ref f13) = true)
    (a14 : PySem.W.nsIn K mainGlobals "_words_of" = some (some (.ref f14))) (l14 : K.lookup f14 = some ⟨oc14, od14, .func (PySem.W.fnOf "_words_of" "_words_of" (defArgs s__words_of) (defBody s__words_of) (defScope s__words_of) .none kV14 dc14 pm14 an14 cd14 ct14), sl14⟩) (c14 : PySem.W.codeIn K cd14 "_words_of" = true) (k14 : PySem.W.keepIn K (.ref f14) = true)
    (a15 : PySem.W.nsIn K mainGlobals "step" = some (some (.ref f15))) (l15 : K.lookup f15 = some ⟨oc15, od15, .func (PySem.W.fnOf "step" "step" (defArgs s_step) (defBody s_step) (defScope s_step) .none kV15 dc15 pm15 an15 cd15 ct15), sl15⟩) (c15 : PySem.W.codeIn K cd15 "step" = true) (k15 : PySem.W.keepIn K (.ref f15) = true)
    (a16 : PySem.W.nsIn K mainGlobals "law" = some (some (.ref f16))) (l16 : K.lookup f16 = some ⟨oc16, od16, .func (PySem.W.fnOf "law" "law" (defArgs s_law) (defBody s_law) (defScope s_law) .none kV16 dc16 pm16 an16 cd16 ct16), sl16⟩) (c16 : PySem.W.codeIn K cd16 "law" = true) (k16 : PySem.W.keepIn K (.ref f16) = true)
    (z_enumerate : PySem.W.nsIn K mainGlobals "enumerate" = some none)
    (z_int : PySem.W.nsIn K mainGlobals "int" = some none)
    (z_len : PySem.W.nsIn K mainGlobals "len" = some none)
    (z_list : PySem.W.nsIn K mainGlobals "list" = some none)
    (z_max : PySem.W.nsIn K mainGlobals "max" = some none)
    (z_range : PySem.W.nsIn K mainGlobals "range" = some none)
    (z_repr : PySem.W.nsIn K mainGlobals "repr" = some none)
    (z_zip : PySem.W.nsIn K mainGlobals "zip" = some none) :
    ∃ fd : FuncData, (∀ (s : Shared) (v : Value), BindsTo s fd ⟨[v], []⟩ [("script", v)]) ∧ ∀ base : Heap, K.In base → base.Ns mainGlobals mg → LawOk l.prog w K mg base fa fd ["script"] (sp_law K) := by
  have e := hfa.symm.trans (PySem.W.mg_of X G a16)
  cases e
  have T : Txt K mg tk_OUTPUT_WIDTH := ⟨PySem.W.mg_of X G aI_OUTPUT_WIDTH, PySem.W.mg_none_of X G z_enumerate, PySem.W.mg_none_of X G z_int, PySem.W.mg_none_of X G z_len, PySem.W.mg_none_of X G z_list, PySem.W.mg_none_of X G z_max, PySem.W.mg_none_of X G z_range, PySem.W.mg_none_of X G z_repr, PySem.W.mg_none_of X G z_zip⟩
  have F1 := fun_mk (st := s__law_draw) l1 c1 k1
  have D1 : Def K mg "_law_draw" f1 _ ["state", "script", "size"] := ⟨PySem.W.mg_of X G a1, F1.kp, F1.binds (ps := ["state", "script", "size"]) fun _ _ _ _ _ _ us hl => match us, hl with | [_, _, _], _ => rfl⟩
  have F2 := fun_mk (st := s__law_machine) l2 c2 k2
  have D2 : Def K mg "_law_machine" f2 _ ["state", "script"] := ⟨PySem.W.mg_of X G a2, F2.kp, F2.binds (ps := ["state", "script"]) fun _ _ _ _ _ _ us hl => match us, hl with | [_, _], _ => rfl⟩
  have F3 := fun_mk (st := s__law_codes) l3 c3 k3
  have D3 : Def K mg "_law_codes" f3 _ ["state", "script", "many"] := ⟨PySem.W.mg_of X G a3, F3.kp, F3.binds (ps := ["state", "script", "many"]) fun _ _ _ _ _ _ us hl => match us, hl with | [_, _, _], _ => rfl⟩
  have F4 := fun_mk (st := s__width_of) l4 c4 k4
  have D4 : Def K mg "_width_of" f4 _ ["number"] := ⟨PySem.W.mg_of X G a4, F4.kp, F4.binds (ps := ["number"]) fun _ _ _ _ _ _ us hl => match us, hl with | [_], _ => rfl⟩
  have F5 := fun_mk (st := s__bits_of_name) l5 c5 k5
  have D5 : Def K mg "_bits_of_name" f5 _ ["name", "width"] := ⟨PySem.W.mg_of X G a5, F5.kp, F5.binds (ps := ["name", "width"]) fun _ _ _ _ _ _ us hl => match us, hl with | [_, _], _ => rfl⟩
  have F6 := fun_mk (st := s__looked_up) l6 c6 k6
  have D6 : Def K mg "_looked_up" f6 _ ["bits", "table", "width"] := ⟨PySem.W.mg_of X G a6, F6.kp, F6.binds (ps := ["bits", "table", "width"]) fun _ _ _ _ _ _ us hl => match us, hl with | [_, _, _], _ => rfl⟩
  have F7 := fun_mk (st := s_circuit_of) l7 c7 k7
  have D7 : Def K mg "circuit_of" f7 _ ["machine", "codes"] := ⟨PySem.W.mg_of X G a7, F7.kp, F7.binds (ps := ["machine", "codes"]) fun _ _ _ _ _ _ us hl => match us, hl with | [_, _], _ => rfl⟩
  have F8 := fun_mk (st := s__law_digits) l8 c8 k8
  have D8 : Def K mg "_law_digits" f8 _ ["number"] := ⟨PySem.W.mg_of X G a8, F8.kp, F8.binds (ps := ["number"]) fun _ _ _ _ _ _ us hl => match us, hl with | [_], _ => rfl⟩
  have F9 := fun_mk (st := s_start) l9 c9 k9
  have D9 : Def K mg "start" f9 _ ["flat"] := ⟨PySem.W.mg_of X G a9, F9.kp, F9.binds (ps := ["flat"]) fun _ _ _ _ _ _ us hl => match us, hl with | [_], _ => rfl⟩
  have F10 := fun_mk (st := s__law_value) l10 c10 k10
  have D10 : Def K mg "_law_value" f10 _ ["e", "words"] := ⟨PySem.W.mg_of X G a10, F10.kp, F10.binds (ps := ["e", "words"]) fun _ _ _ _ _ _ us hl => match us, hl with | [_, _], _ => rfl⟩
  have F11 := fun_mk (st := s_remainder) l11 c11 k11
  have D11 : Def K mg "remainder" f11 _ ["number", "width"] := ⟨PySem.W.mg_of X G a11, F11.kp, F11.binds (ps := ["number", "width"]) fun _ _ _ _ _ _ us hl => match us, hl with | [_, _], _ => rfl⟩
  have F12 := fun_mk (st := s_cut_word) l12 c12 k12
  have D12 : Def K mg "cut_word" f12 _ ["word", "low", "width"] := ⟨PySem.W.mg_of X G a12, F12.kp, F12.binds (ps := ["word", "low", "width"]) fun _ _ _ _ _ _ us hl => match us, hl with | [_, _, _], _ => rfl⟩
  have F13 := fun_mk (st := s__word_of) l13 c13 k13
  have D13 : Def K mg "_word_of" f13 _ ["e", "values", "kept"] := ⟨PySem.W.mg_of X G a13, F13.kp, F13.binds (ps := ["e", "values", "kept"]) fun _ _ _ _ _ _ us hl => match us, hl with | [_, _, _], _ => rfl⟩
  have F14 := fun_mk (st := s__words_of) l14 c14 k14
  have D14 : Def K mg "_words_of" f14 _ ["expressions", "values", "kept"] := ⟨PySem.W.mg_of X G a14, F14.kp, F14.binds (ps := ["expressions", "values", "kept"]) fun _ _ _ _ _ _ us hl => match us, hl with | [_, _, _], _ => rfl⟩
  have F15 := fun_mk (st := s_step) l15 c15 k15
  have D15 : Def K mg "step" f15 _ ["flat", "state", "words"] := ⟨PySem.W.mg_of X G a15, F15.kp, F15.binds (ps := ["flat", "state", "words"]) fun _ _ _ _ _ _ us hl => match us, hl with | [_, _, _], _ => rfl⟩
  have F16 := fun_mk (st := s_law) l16 c16 k16
  refine ⟨PySem.W.fnOf "law" "law" (defArgs s_law) (defBody s_law) (defScope s_law) .none kV16 dc16 pm16 an16 cd16 ct16, fun s v => .of_eq rfl, fun base _ _ => ?_⟩
  have G1 : FnOk l.prog w K mg base CX0 1 f1 _ ["state", "script", "size"] (sp__law_draw K) := ok__law_draw F1 T 
  have G2 : FnOk l.prog w K mg base CX0 2 f2 _ ["state", "script"] (sp__law_machine K) := ok__law_machine F2 T G1 D1
  have G3 : FnOk l.prog w K mg base CX0 2 f3 _ ["state", "script", "many"] (sp__law_codes K) := ok__law_codes F3 T G1 D1
  have G4 : FnOk l.prog w K mg base CX0 1 f4 _ ["number"] (sp__width_of K) := ok__width_of F4 T 
  have G5 : FnOk l.prog w K mg base CX0 1 f5 _ ["name", "width"] (sp__bits_of_name K) := ok__bits_of_name F5 T 
  have G6 : FnOk l.prog w K mg base CX0 14 f6 _ ["bits", "table", "width"] (sp__looked_up K) := ok__looked_up F6 T  D6
  have G7 : FnOk l.prog w K mg base CX0 15 f7 _ ["machine", "codes"] (sp_circuit_of K) := ok_circuit_of F7 T G4 D4 G5 D5 G6 D6
  have G8 : FnOk l.prog w K mg base CX0 1 f8 _ ["number"] (sp__law_digits K) := ok__law_digits F8 T 
  have G9 : FnOk l.prog w K mg base CX0 1 f9 _ ["flat"] (sp_start K) := ok_start F9 T 
  have G10 : FnOk l.prog w K mg base CX0 18 f10 _ ["e", "words"] (sp__law_value K) := ok__law_value F10 T  D10
  have G11 : FnOk l.prog w K mg base CX0 1 f11 _ ["number", "width"] (sp_remainder K) := ok_remainder F11 T 
  have G12 : FnOk l.prog w K mg base CX0 2 f12 _ ["word", "low", "width"] (sp_cut_word K) := ok_cut_word F12 T G11 D11
  have G13 : FnOk l.prog w K mg base CX0 20 f13 _ ["e", "values", "kept"] (sp__word_of K) := ok__word_of F13 T G12 D12 D13
  have G14 : FnOk l.prog w K mg base CX0 21 f14 _ ["expressions", "values", "kept"] (sp__words_of K) := ok__words_of F14 T G13 D13
  have G15 : FnOk l.prog w K mg base CX0 22 f15 _ ["flat", "state", "words"] (sp_step K) := ok_step F15 T G14 D14
  exact ok_law F16 T G2 D2 G3 D3 G7 D7 G8 D8 G9 D9 G1 D1 G10 D10 G15 D15
end K24
open PySem PySem.W PyProof.Rows
set_option maxHeartbeats 0 in
theorem PySem.Challenge.cw_cellcloth_k24_whole_circuits_on_any_word_holds : PySem.Challenge.rw_cellcloth_k24_whole_circuits_on_any_word.Holds := by
  w_on; o_law; k_head; (case hw => w_witness2)
  k_fill
  refine V0.walk_at (l := PySem.Challenge.rw_cellcloth_k24_whole_circuits_on_any_word) (n := 63) (x := "script") (sp := K24.sp_law) rfl (by decide) rfl (fun w h Y => PySem.W.kIn_of Y) ?F (fun _ _ a ns hl _ hS => ⟨a, ns, rfl, hS, hl, fun _ => rfl⟩)
  case F =>
    intro w mg fa h KX G hmg
    refine' K24.all_mk KX G hmg ?aI_OUTPUT_WIDTH ?a1 ?l1 ?c1 ?k1 ?a2 ?l2 ?c2 ?k2 ?a3 ?l3 ?c3 ?k3 ?a4 ?l4 ?c4 ?k4 ?a5 ?l5 ?c5 ?k5 ?a6 ?l6 ?c6 ?k6 ?a7 ?l7 ?c7 ?k7 ?a8 ?l8 ?c8 ?k8 ?a9 ?l9 ?c9 ?k9 ?a10 ?l10 ?c10 ?k10 ?a11 ?l11 ?c11 ?k11 ?a12 ?l12 ?c12 ?k12 ?a13 ?l13 ?c13 ?k13 ?a14 ?l14 ?c14 ?k14 ?a15 ?l15 ?c15 ?k15 ?a16 ?l16 ?c16 ?k16 ?z_enumerate ?z_int ?z_len ?z_list ?z_max ?z_range ?z_repr ?z_zip
    (case aI_OUTPUT_WIDTH => k_is)
    (case a1 => k_is)
    (case l1 => k_is)
    (case c1 => k_is)
    (case k1 => k_is)
    (case a2 => k_is)
    (case l2 => k_is)
    (case c2 => k_is)
    (case k2 => k_is)
    (case a3 => k_is)
    (case l3 => k_is)
    (case c3 => k_is)
    (case k3 => k_is)
    (case a4 => k_is)
    (case l4 => k_is)
    (case c4 => k_is)
    (case k4 => k_is)
    (case a5 => k_is)
    (case l5 => k_is)
    (case c5 => k_is)
    (case k5 => k_is)
    (case a6 => k_is)
    (case l6 => k_is)
    (case c6 => k_is)
    (case k6 => k_is)
    (case a7 => k_is)
    (case l7 => k_is)
    (case c7 => k_is)
    (case k7 => k_is)
    (case a8 => k_is)
    (case l8 => k_is)
    (case c8 => k_is)
    (case k8 => k_is)
    (case a9 => k_is)
    (case l9 => k_is)
    (case c9 => k_is)
    (case k9 => k_is)
    (case a10 => k_is)
    (case l10 => k_is)
    (case c10 => k_is)
    (case k10 => k_is)
    (case a11 => k_is)
    (case l11 => k_is)
    (case c11 => k_is)
    (case k11 => k_is)
    (case a12 => k_is)
    (case l12 => k_is)
    (case c12 => k_is)
    (case k12 => k_is)
    (case a13 => k_is)
    (case l13 => k_is)
    (case c13 => k_is)
    (case k13 => k_is)
    (case a14 => k_is)
    (case l14 => k_is)
    (case c14 => k_is)
    (case k14 => k_is)
    (case a15 => k_is)
    (case l15 => k_is)
    (case c15 => k_is)
    (case k15 => k_is)
    (case a16 => k_is)
    (case l16 => k_is)
    (case c16 => k_is)
    (case k16 => k_is)
    (case z_enumerate => k_is)
    (case z_int => k_is)
    (case z_len => k_is)
    (case z_list => k_is)
    (case z_max => k_is)
    (case z_range => k_is)
    (case z_repr => k_is)
    (case z_zip => k_is)
