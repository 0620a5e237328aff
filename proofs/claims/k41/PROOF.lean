import PyProof.Rows.All
import Wide.All
import OpenK.AllK
import Wide.FinOn
import HandS.ForMost
import HandS.Codes
import HandS.IsInst
import HandS.WideBits
import KE.Datum
import PyProof.ReprRoads
import PyProof.ReprLen
import HandS.TupSets
import HandS.Star
import HandS.Sort
import HandS.Conv
import HandS.Iter
import KE.KDictList
import HandS.Comp
import HandS.DictComp
import HandS.SetFor
import HandS.Strs
import HandS.More
import HandS.Deep
import HandS.SortInts
import HandS.Small
import HandS.Walk
import HandS.Wide
import PySem.Challenge.RW_cellcloth_k41_origins_of_literals
set_option Elab.async false
set_option linter.all false
set_option maxRecDepth 100000
set_option maxHeartbeats 4000000
/-! data with a Lean type in the abstract heap: what a value holds, kept by growth; the heap but for what is mutable -/
namespace V0
open PySem PySem.Spec PyProof.Rows L2
open PySem.W (Datum)
/-- a def of the text as callers need it -/
structure Def (K : PySem.W.Frag) (mg : Str → Option Value) (x : Str) (f : Addr) (fd : FuncData) (ps : List Str) : Prop where
  m : mg x = some (.ref f)
  k : PySem.W.keepIn K (.ref f) = true
  b : Binds K fd ps []
abbrev vLen (K : PySem.W.Frag) : List V → Hp → VK → Prop := fun xs H Q => ∃ p ys, xs = [.ref p] ∧ (SqL K H p ys ∨ SqT K H p ys) ∧ Q (.int ys.length) H
abbrev vListOf (K : PySem.W.Frag) : List V → Hp → VK → Prop := fun xs H Q => ∃ p ys, xs = [.ref p] ∧ (SqL K H p ys ∨ SqT K H p ys) ∧ ∀ l, H l = none → Q (.ref l) (upd H l (.lst ys))
abbrev vTupleOf (K : PySem.W.Frag) : List V → Hp → VK → Prop := fun xs H Q => ∃ p ys, xs = [.ref p] ∧ ((SqL K H p ys ∧ ∀ l, H l = none → Q (.ref l) (upd H l (.tup ys))) ∨ (SqT K H p ys ∧ Q (.ref p) H))
/-- a statement that is never reached -/
theorem ps_never {X : Cx} {st : Stmt} : PS X st (fun _ _ _ => False) := ⟨fun _ _ _ _ _ _ h => h.elim⟩
def tTru (K : PySem.W.Frag) (ta : TE) : TT := fun σ H Q => ta σ H fun x H' => ∃ k, TruV K x H' k ∧ Q k H'
/-- as pt_truth, K told -/
theorem pt_truthK {X : Cx} {K : PySem.W.Frag} {a : Expr} {ta : TE} (hK : X.K = K) (ha : PE X a ta) (he : ∀ whole, isTrue a X.env whole = (do let v ← whole; standAt a.pos; holding [v] (truthy v))) :
    PT X a (tTru K ta) := by
  subst hK
  exact pt_truth ha he
theorem hu65 {A : Around} {k : Nat} (hr : Room k A) : A.units + 65 < cLine := by
  have := hr.un
  omega
theorem same_new {H : Hp} {p : Addr} {o : HO} (h : H p = none) : Same H (upd H p o) := fun b x e => by
  rw [upd_ne (ne_of_none e h)]
  exact e
theorem same_mut {H H' : Hp} {p : Addr} {o : HO} (e : Same H H') (h : H p = none) : Same H (upd H' p o) := fun a u ha => by
  rw [upd_ne (ne_of_none ha h)]
  exact e a u ha
theorem tup_same {K : PySem.W.Frag} {H H' : Hp} {a : Addr} {xs : List V} (e : Same H H') (h : SqT K H a xs) : SqT K H' a xs := by
  rcases h with (h | ⟨o, h⟩) | h
  · exact .inl (.inl (e _ _ h))
  · exact .inl (.inr ⟨o, e _ _ h⟩)
  · exact .inr h
theorem map_range_succ {α : Type} (f : Nat → α) (i : Nat) : (List.range (i + 1)).map f = (List.range i).map f ++ [f i] := by
  rw [List.range_succ, List.map_append]
  rfl
/-! ### data -/
class Dm (α : Type) [DecidableEq α] extends Datum α where
  lay : ∀ a : α, (Datum.toD a).canLay0 = true
instance : Dm Int where
  lay _ := by simp only [Datum.toD, PyData.canLay0]
instance : Dm Bool where
  lay _ := by simp only [Datum.toD, PyData.canLay0]
instance : Datum Nat where
  toD n := .int (n : Int)
  plain _ := rfl
  eqv a b := by
    simp only [PyData.eqv]
    rw [PySem.W.beq_decide]
    exact decide_eq_decide.mpr ⟨fun e => by omega, fun e => by rw [e]⟩
  depth := 0
  depth_le _ := Nat.le_refl _
instance : Dm Nat where
  lay _ := by simp only [Datum.toD, PyData.canLay0]
section
variable {α β : Type} [DecidableEq α] [Dm α] [DecidableEq β] [Dm β]
theorem lay_all : ∀ xs : List α, PyData.canLayAll0 (xs.map Datum.toD) = true
  | [] => by simp only [List.map_nil, PyData.canLayAll0]
  | x :: xs => by
    rw [List.map_cons, PyData.canLayAll0, Dm.lay x, lay_all xs]
    rfl
instance : Dm (List α) where
  lay xs := by
    simp only [Datum.toD, PyData.canLay0]
    exact lay_all xs
instance : Dm (α × β) where
  lay p := by
    simp only [Datum.toD, PyData.canLay0, PyData.canLayAll0, Bool.and_true, Bool.and_eq_true]
    exact ⟨Dm.lay p.1, Dm.lay p.2⟩
end
mutual
/-- as Dp, of what stands in the abstract heap alone -/
inductive Dh (H : Hp) : V → PyData → Prop
  | non : Dh H .non .none
  | bl (b : Bool) : Dh H (.bl b) (.bool b)
  | int (i : Int) : Dh H (.int i) (.int i)
  | str (x : Str) : Dh H (.str x) (.str x)
  | lst {a : Addr} {xs : List V} {ds : List PyData} : H a = some (.lst xs) → DhAll H xs ds → Dh H (.ref a) (.list ds)
  | tup {a : Addr} {xs : List V} {ds : List PyData} : H a = some (.tup xs) → DhAll H xs ds → Dh H (.ref a) (.tuple ds)
inductive DhAll (H : Hp) : List V → List PyData → Prop
  | nil : DhAll H [] []
  | cons {v : V} {vs : List V} {d : PyData} {ds : List PyData} : Dh H v d → DhAll H vs ds → DhAll H (v :: vs) (d :: ds)
end
mutual
theorem dh_same {H H' : Hp} (s : Same H H') : ∀ (d : PyData) (v : V), Dh H v d → Dh H' v d
  | .none, _, h => by cases h; exact .non
  | .bool b, _, h => by cases h; exact .bl b
  | .int i, _, h => by cases h; exact .int i
  | .str x, _, h => by cases h; exact .str x
  | .list ds, _, h => by
    cases h with
    | lst h1 h2 => exact .lst (s _ _ h1) (dh_sameAll s ds _ h2)
  | .tuple ds, _, h => by
    cases h with
    | tup h1 h2 => exact .tup (s _ _ h1) (dh_sameAll s ds _ h2)
  | .dict _, _, h => by cases h
theorem dh_sameAll {H H' : Hp} (s : Same H H') : ∀ (ds : List PyData) (vs : List V), DhAll H vs ds → DhAll H' vs ds
  | [], _, h => by cases h; exact .nil
  | d :: ds, _, h => by
    cases h with
    | cons h1 h2 => exact .cons (dh_same s d _ h1) (dh_sameAll s ds _ h2)
end
mutual
theorem dh_dp {K : PySem.W.Frag} {H : Hp} : ∀ (d : PyData) (v : V), Dh H v d → Dp K H v d
  | .none, _, h => by cases h; exact .non
  | .bool b, _, h => by cases h; exact .bl b
  | .int i, _, h => by cases h; exact .int i
  | .str x, _, h => by cases h; exact .str x
  | .list ds, _, h => by
    cases h with
    | lst h1 h2 => exact .lst (SqL.of h1) (dh_dpAll ds _ h2)
  | .tuple ds, _, h => by
    cases h with
    | tup h1 h2 => exact .tup (SqT.of h1) (dh_dpAll ds _ h2)
  | .dict _, _, h => by cases h
theorem dh_dpAll {K : PySem.W.Frag} {H : Hp} : ∀ (ds : List PyData) (vs : List V), DhAll H vs ds → DpAll K H vs ds
  | [], _, h => by cases h; exact .nil
  | d :: ds, _, h => by
    cases h with
    | cons h1 h2 => exact .cons (dh_dp d _ h1) (dh_dpAll ds _ h2)
end
section
variable {α β : Type} [DecidableEq α] [Dm α] [DecidableEq β] [Dm β]
/-- v holds x -/
def Dv (H : Hp) (v : V) (x : α) : Prop := Dh H v (Datum.toD x)
def Dvs (H : Hp) (vs : List V) (xs : List α) : Prop := DhAll H vs (xs.map Datum.toD)
theorem Dv.same {H H' : Hp} {v : V} {x : α} (h : Dv H v x) (s : Same H H') : Dv H' v x := dh_same s _ _ h
theorem Dvs.same {H H' : Hp} {vs : List V} {xs : List α} (h : Dvs H vs xs) (s : Same H H') : Dvs H' vs xs := dh_sameAll s _ _ h
theorem Dv.int {H : Hp} (i : Int) : Dv H (.int i) i := Dh.int i
theorem Dv.nat {H : Hp} (n : Nat) : Dv H (.int (n : Int)) n := Dh.int (n : Int)
theorem Dv.bl {H : Hp} (b : Bool) : Dv H (.bl b) b := Dh.bl b
theorem Dv.int_inv {H : Hp} {v : V} {i : Int} (h : Dv H v i) : v = .int i := by
  unfold Dv at h
  cases h
  rfl
theorem Dv.nat_inv {H : Hp} {v : V} {n : Nat} (h : Dv H v n) : v = .int (n : Int) := by
  unfold Dv at h
  cases h
  rfl
theorem Dvs.nil {H : Hp} : Dvs H [] ([] : List α) := DhAll.nil
theorem Dvs.cons {H : Hp} {v : V} {vs : List V} {x : α} {xs : List α} (h : Dv H v x) (hs : Dvs H vs xs) : Dvs H (v :: vs) (x :: xs) := DhAll.cons h hs
theorem Dvs.cons_inv {H : Hp} {vs : List V} {x : α} {xs : List α} (h : Dvs H vs (x :: xs)) : ∃ v us, vs = v :: us ∧ Dv H v x ∧ Dvs H us xs := by
  unfold Dvs at h
  cases h with
  | cons h1 h2 => exact ⟨_, _, rfl, h1, h2⟩
theorem Dvs.nil_inv {H : Hp} {vs : List V} (h : Dvs H vs ([] : List α)) : vs = [] := by
  unfold Dvs at h
  cases h
  rfl
theorem Dvs.app {H : Hp} : ∀ {vs us : List V} {xs ys : List α}, Dvs H vs xs → Dvs H us ys → Dvs H (vs ++ us) (xs ++ ys)
  | _, _, [], _, h, g => by rw [h.nil_inv]; exact g
  | _, _, _ :: _, _, h, g => by
    obtain ⟨v, us, rfl, h1, h2⟩ := h.cons_inv
    exact .cons h1 (h2.app g)
theorem Dvs.len {H : Hp} : ∀ {vs : List V} {xs : List α}, Dvs H vs xs → vs.length = xs.length
  | _, [], h => by rw [h.nil_inv]; rfl
  | _, _ :: _, h => by
    obtain ⟨v, us, rfl, h1, h2⟩ := h.cons_inv
    rw [List.length_cons, List.length_cons, h2.len]
theorem Dvs.get {H : Hp} : ∀ {vs : List V} {xs : List α} {i : Nat} {x : α}, Dvs H vs xs → xs[i]? = some x → ∃ v, vs[i]? = some v ∧ Dv H v x
  | _, [], i, _, h, e => by simp at e
  | _, _ :: _, 0, _, h, e => by
    obtain ⟨v, us, rfl, h1, h2⟩ := h.cons_inv
    cases e
    exact ⟨_, rfl, h1⟩
  | _, _ :: _, i + 1, _, h, e => by
    obtain ⟨v, us, rfl, h1, h2⟩ := h.cons_inv
    exact h2.get (i := i) e
theorem Dvs.at {H : Hp} {vs : List V} {xs : List α} {i : Nat} {v : V} (h : Dvs H vs xs) (e : vs[i]? = some v) : ∃ x, xs[i]? = some x ∧ Dv H v x := by
  have hi : i < xs.length := by
    rw [← h.len]
    exact (List.getElem?_eq_some_iff.mp e).1
  obtain ⟨u, e2, d⟩ := h.get (List.getElem?_eq_getElem hi)
  rw [e] at e2
  cases e2
  exact ⟨_, List.getElem?_eq_getElem hi, d⟩
theorem Dv.list {H : Hp} {a : Addr} {vs : List V} {xs : List α} (h : H a = some (.lst vs)) (hs : Dvs H vs xs) : Dv H (.ref a) xs := Dh.lst h hs
theorem Dv.list_inv {H : Hp} {v : V} {xs : List α} (h : Dv H v xs) : ∃ a vs, v = .ref a ∧ H a = some (.lst vs) ∧ Dvs H vs xs := by
  unfold Dv at h
  cases h with
  | lst h1 h2 => exact ⟨_, _, rfl, h1, h2⟩
theorem Dv.pair {H : Hp} {a : Addr} {u v : V} {x : α} {y : β} (h : H a = some (.tup [u, v])) (h1 : Dv H u x) (h2 : Dv H v y) : Dv H (.ref a) (x, y) := Dh.tup h (.cons h1 (.cons h2 .nil))
theorem Dv.pair_inv {H : Hp} {v : V} {p : α × β} (h : Dv H v p) : ∃ a u w, v = .ref a ∧ H a = some (.tup [u, w]) ∧ Dv H u p.1 ∧ Dv H w p.2 := by
  unfold Dv at h
  cases h with
  | tup h1 h2 =>
    cases h2 with
    | cons h3 h4 =>
      cases h4 with
      | cons h5 h6 =>
        cases h6
        exact ⟨_, _, _, rfl, h1, h3, h5⟩
abbrev vi (xs : List Int) : List V := xs.map V.int
abbrev vn (xs : List Nat) : List V := xs.map (fun (b : Nat) => V.int (b : Int))
theorem vn_len (xs : List Nat) : (vn xs).length = xs.length := List.length_map _
theorem vn_get {xs : List Nat} {i n : Nat} (h : xs[i]? = some n) : (vn xs)[i]? = some (.int (n : Int)) := by
  rw [List.getElem?_map, h]
  rfl
theorem Dvs.ints_inv {H : Hp} : ∀ {vs : List V} {xs : List Int}, Dvs H vs xs → vs = vi xs
  | _, [], h => h.nil_inv
  | _, _ :: _, h => by
    obtain ⟨v, us, rfl, h1, h2⟩ := h.cons_inv
    rw [h1.int_inv, h2.ints_inv]
    rfl
theorem Dvs.nats_inv {H : Hp} : ∀ {vs : List V} {xs : List Nat}, Dvs H vs xs → vs = vn xs
  | _, [], h => h.nil_inv
  | _, _ :: _, h => by
    obtain ⟨v, us, rfl, h1, h2⟩ := h.cons_inv
    rw [h1.nat_inv, h2.nats_inv]
    rfl
theorem Dvs.ints {H : Hp} : ∀ xs : List Int, Dvs H (vi xs) xs
  | [] => .nil
  | x :: r => .cons (.int x) (Dvs.ints r)
theorem Dvs.nats {H : Hp} : ∀ xs : List Nat, Dvs H (vn xs) xs
  | [] => .nil
  | x :: r => .cons (.nat x) (Dvs.nats r)
theorem Dvs.bls {H : Hp} : ∀ xs : List Bool, Dvs H (xs.map V.bl) xs
  | [] => .nil
  | x :: r => .cons (.bl x) (Dvs.bls r)
/-- a list of whole numbers from 0 on -/
theorem Dv.natl {H : Hp} {a : Addr} {xs : List Nat} (h : H a = some (.lst (vn xs))) : Dv H (.ref a) xs := .list h (Dvs.nats xs)
theorem Dv.natl_inv {H : Hp} {v : V} {xs : List Nat} (h : Dv H v xs) : ∃ a, v = .ref a ∧ H a = some (.lst (vn xs)) := by
  obtain ⟨a, vs, rfl, h1, h2⟩ := h.list_inv
  rw [h2.nats_inv] at h1
  exact ⟨a, rfl, h1⟩
theorem Dv.intl {H : Hp} {a : Addr} {xs : List Int} (h : H a = some (.lst (vi xs))) : Dv H (.ref a) xs := .list h (Dvs.ints xs)
theorem Dv.intl_inv {H : Hp} {v : V} {xs : List Int} (h : Dv H v xs) : ∃ a, v = .ref a ∧ H a = some (.lst (vi xs)) := by
  obtain ⟨a, vs, rfl, h1, h2⟩ := h.list_inv
  rw [h2.ints_inv] at h1
  exact ⟨a, rfl, h1⟩
theorem shaped_of (x : α) (hd : Datum.depth α ≤ 64) : SeqAt.shaped (Datum.toD x) = true := by
  unfold SeqAt.shaped
  rw [Dm.lay x, Bool.true_and]
  exact decide_eq_true (Nat.le_trans (Datum.depth_le x) hd)
theorem eqD {K : PySem.W.Frag} {H : Hp} {x y : V} {Q : VK} {a b : α} (hx : Dv H x a) (hy : Dv H y b) (hd : Datum.depth α ≤ 64) (q : Q (.bl (decide (a = b))) H) : rEqD K x y H Q := by
  refine ⟨_, _, dh_dp _ _ hx, dh_dp _ _ hy, shaped_of a hd, shaped_of b hd, ?_⟩
  rw [Datum.eqv]
  exact q
theorem neD {K : PySem.W.Frag} {H : Hp} {x y : V} {Q : VK} {a b : α} (hx : Dv H x a) (hy : Dv H y b) (hd : Datum.depth α ≤ 64) (q : Q (.bl (!decide (a = b))) H) : rNeD K x y H Q := by
  refine ⟨_, _, dh_dp _ _ hx, dh_dp _ _ hy, shaped_of a hd, shaped_of b hd, ?_⟩
  rw [Datum.eqv]
  exact q
end
/-! ### the heap but for two objects that change -/
def res (p c : Addr) (H : Hp) : Hp := fun b => if b = p ∨ b = c then none else H b
theorem res_eq {p c b : Addr} {H : Hp} (h1 : b ≠ p) (h2 : b ≠ c) : res p c H b = H b := if_neg (fun h => h.elim h1 h2)
theorem res_some {p c b : Addr} {H : Hp} {o : HO} (h : res p c H b = some o) : b ≠ p ∧ b ≠ c ∧ H b = some o := by
  unfold res at h
  by_cases e : b = p ∨ b = c
  · rw [if_pos e] at h
    cases h
  · rw [if_neg e] at h
    exact ⟨fun z => e (.inl z), fun z => e (.inr z), h⟩
theorem res_same (p c : Addr) (H : Hp) : Same (res p c H) H := fun _ _ h => (res_some h).2.2
theorem Same.res {H H' : Hp} (s : Same H H') (p c : Addr) : Same (res p c H) (res p c H') := fun b o h => by
  obtain ⟨h1, h2, h3⟩ := res_some h
  rw [res_eq h1 h2]
  exact s _ _ h3
theorem res_of {p c b : Addr} {H : Hp} {o : HO} (h1 : b ≠ p) (h2 : b ≠ c) (h : H b = some o) : res p c H b = some o := by
  rw [res_eq h1 h2]
  exact h
/-- the heap but for one object -/
def hid (q : Addr) (H : Hp) : Hp := fun b => if b = q then none else H b
theorem hid_eq {q b : Addr} {H : Hp} (h : b ≠ q) : hid q H b = H b := if_neg h
theorem hid_some {q b : Addr} {H : Hp} {o : HO} (h : hid q H b = some o) : b ≠ q ∧ H b = some o := by
  unfold hid at h
  by_cases e : b = q
  · rw [if_pos e] at h
    cases h
  · rw [if_neg e] at h
    exact ⟨e, h⟩
theorem hid_of {q b : Addr} {H : Hp} {o : HO} (h : b ≠ q) (e : H b = some o) : hid q H b = some o := by
  rw [hid_eq h]
  exact e
theorem hid_same (q : Addr) (H : Hp) : Same (hid q H) H := fun _ _ h => (hid_some h).2
theorem hid_mono {q : Addr} {H H' : Hp} (s : Same H H') : Same (hid q H) (hid q H') := fun b o h => by
  obtain ⟨h1, h2⟩ := hid_some h
  exact hid_of h1 (s _ _ h2)
theorem hid_mut {q : Addr} {H : Hp} {o : HO} : Same (hid q H) (hid q (upd H q o)) := fun b u h => by
  obtain ⟨h1, h2⟩ := hid_some h
  exact hid_of h1 (by rw [upd_ne h1]; exact h2)
theorem hid_res_mut {p c q : Addr} {H : Hp} {o : HO} : Same (hid q (res p c H)) (hid q (res p c (upd H q o))) := fun b u h => by
  obtain ⟨h1, h2⟩ := hid_some h
  obtain ⟨h3, h4, h5⟩ := res_some h2
  exact hid_of h1 (res_of h3 h4 (by rw [upd_ne h1]; exact h5))
theorem res_upd {p c q : Addr} {H : Hp} {o : HO} (h1 : q ≠ p) (h2 : q ≠ c) : res p c (upd H q o) q = some o := by
  rw [res_eq h1 h2]
  exact upd_same
theorem res_mut {p c D : Addr} {H H' : Hp} {o : HO} (e : Same (res p c H) (res p c H')) (h : H D = none) : Same (res p c H) (res p c (upd H' D o)) := fun b u hb => by
  obtain ⟨h1, h2, h3⟩ := res_some hb
  have h4 : b ≠ D := fun z => by
    rw [z, h] at h3
    cases h3
  rw [res_eq h1 h2, upd_ne h4]
  exact (res_some (e _ _ hb)).2.2
/-- the state of the draws: the script's numbers, from 0 on, and a seed -/
structure Dr (H : Hp) (p c : Addr) : Prop where
  ne : p ≠ c
  st : ∃ (cs : List Nat) (s : Int), H p = some (.lst [.ref c, .int s]) ∧ H c = some (.lst (vn cs)) ∧ cs.length ≤ 63
theorem Dr.same {H H' : Hp} {p c : Addr} (h : Dr H p c) (s : Same H H') : Dr H' p c := by
  obtain ⟨n, cs, z, h1, h2, h3⟩ := h
  exact ⟨n, cs, z, s _ _ h1, s _ _ h2, h3⟩
theorem Dr.off {H : Hp} {p c q : Addr} (h : Dr H p c) (hq : H q = none) : q ≠ p ∧ q ≠ c := by
  obtain ⟨n, cs, z, h1, h2, h3⟩ := h
  exact ⟨fun e => (by rw [e, h1] at hq; cases hq), fun e => (by rw [e, h2] at hq; cases hq)⟩
/-- from H to H' all but the state of the draws stays -/
structure Go (p c : Addr) (H H' : Hp) : Prop where
  a : Dr H p c
  b : Dr H' p c
  s : Same (res p c H) (res p c H')
theorem Go.refl {p c : Addr} {H : Hp} (h : Dr H p c) : Go p c H H := ⟨h, h, Same.refl _⟩
theorem Go.trans {p c : Addr} {H H1 H2 : Hp} (x : Go p c H H1) (y : Go p c H1 H2) : Go p c H H2 := ⟨x.a, y.b, x.s.trans y.s⟩
theorem Go.of {p c : Addr} {H H' : Hp} (h : Dr H p c) (s : Same H H') : Go p c H H' := ⟨h, h.same s, V0.Same.res s p c⟩
theorem Go.more {p c : Addr} {H H1 H2 : Hp} (x : Go p c H H1) (s : Same H1 H2) : Go p c H H2 := x.trans (Go.of x.b s)
theorem Go.mut {p c D : Addr} {H H' : Hp} {o : HO} (x : Go p c H H') (h : H D = none) : Go p c H (upd H' D o) := by
  refine ⟨x.a, ?_, res_mut x.s h⟩
  obtain ⟨h1, h2⟩ := x.a.off h
  obtain ⟨n, cs, z, e1, e2, e3⟩ := x.b
  exact ⟨n, cs, z, (by rw [upd_ne (fun e => h1 e.symm)]; exact e1), (by rw [upd_ne (fun e => h2 e.symm)]; exact e2), e3⟩
theorem Go.get {p c b : Addr} {H H' : Hp} {o : HO} (x : Go p c H H') (h1 : b ≠ p) (h2 : b ≠ c) (h : H b = some o) : H' b = some o := by
  rw [← res_eq (p := p) (c := c) (H := H) h1 h2] at h
  exact (res_some (x.s _ _ h)).2.2
/-- what was new at H and stands at H1 stands at H' -/
theorem Go.get' {p c b : Addr} {H H1 H' : Hp} {o : HO} (x : Go p c H1 H') (d : Dr H p c) (n : H b = none) (h : H1 b = some o) : H' b = some o := x.get (d.off n).1 (d.off n).2 h
theorem Go.up {p c b : Addr} {H H' : Hp} {o : HO} (x : Go p c H H') (h : res p c H b = some o) : H' b = some o := (res_some (x.s _ _ h)).2.2
theorem Go.none {p c b : Addr} {H H' : Hp} (x : Go p c H H') (h : H' b = none) : H b = none := by
  obtain ⟨h1, h2⟩ := x.b.off h
  cases e : H b with
  | none => rfl
  | some o =>
    rw [x.get h1 h2 e] at h
    cases h
theorem Dv.up {α : Type} [DecidableEq α] [Dm α] {p c : Addr} {H : Hp} {v : V} {x : α} (h : Dv (res p c H) v x) : Dv H v x := h.same (res_same p c H)
theorem Dvs.up {α : Type} [DecidableEq α] [Dm α] {p c : Addr} {H : Hp} {vs : List V} {x : List α} (h : Dvs (res p c H) vs x) : Dvs H vs x := h.same (res_same p c H)
theorem emod_range {x m : Int} (h : 0 < m) : 0 ≤ x.fmod m ∧ x.fmod m < m := by
  rw [Int.fmod_eq_emod_of_nonneg x (by omega)]
  exact ⟨Int.emod_nonneg _ (by omega), Int.emod_lt_of_pos _ h⟩
theorem ix_nat {n j : Nat} (h : j < n) : ixN n (j : Int) = some j := by
  unfold ixN
  rw [if_pos (Int.natCast_nonneg _), if_pos (by omega), Int.toNat_natCast]
/-- what is new at H' -/
def fresh (H H' : Hp) : Hp := fun b => match H b with
  | none => H' b
  | some _ => none
theorem fresh_some {H H' : Hp} {b : Addr} {o : HO} (h : fresh H H' b = some o) : H b = none ∧ H' b = some o := by
  unfold fresh at h
  cases e : H b with
  | none =>
    rw [e] at h
    exact ⟨rfl, h⟩
  | some u =>
    rw [e] at h
    cases h
theorem fresh_of {H H' : Hp} {b : Addr} {o : HO} (h : H b = none) (e : H' b = some o) : fresh H H' b = some o := by
  unfold fresh
  rw [h]
  exact e
theorem fresh_same {H H' : Hp} : Same (fresh H H') H' := fun _ _ h => (fresh_some h).2
theorem fresh_pre {H H1 H' : Hp} (s : Same H H1) : Same (fresh H1 H') (fresh H H') := fun b o h => by
  obtain ⟨h1, h2⟩ := fresh_some h
  refine fresh_of ?_ h2
  cases e : H b with
  | none => rfl
  | some u =>
    rw [s _ _ e] at h1
    cases h1
theorem fresh_post {H H' H2 : Hp} (s : Same H' H2) : Same (fresh H H') (fresh H H2) := fun b o h => by
  obtain ⟨h1, h2⟩ := fresh_some h
  exact fresh_of h1 (s _ _ h2)
theorem fresh_hid {H H' : Hp} {q : Addr} {o : HO} (h : H q = some o) : Same (fresh H H') (hid q H') := fun b u e => by
  obtain ⟨h1, h2⟩ := fresh_some e
  refine hid_of (fun z => ?_) h2
  rw [z, h] at h1
  cases h1
/-- new at H', as H goes to H' by growth -/
theorem none_of {H H' : Hp} {b : Addr} (s : Same H H') (h : H' b = none) : H b = none := by
  cases e : H b with
  | none => rfl
  | some u =>
    rw [s _ _ e] at h
    cases h
theorem upd_id {H : Hp} {a : Addr} {o : HO} (h : H a = some o) : upd H a o = H := funext fun b => by
  by_cases e : b = a
  · rw [e, upd_same, h]
  · rw [upd_ne e]
theorem small64k {n : Nat} (h : n ≤ 65536) : n < sizeLine := Nat.lt_of_le_of_lt h (by decide)
theorem fresh_res {p c : Addr} {H H' : Hp} (d : Dr H p c) : Same (fresh H H') (res p c H') := fun b o h => by
  obtain ⟨h1, h2⟩ := fresh_some h
  obtain ⟨h3, h4⟩ := d.off h1
  exact res_of h3 h4 h2
end V0
/-! nets as data, and what the laws make of them -/
namespace V0
open PySem PySem.Spec PyProof.Rows L2
open PySem.W (Datum)
structure Net where
  ins : Nat
  starts : List Nat
  gates : List (Nat × Nat)
  nexts : List Nat
  outs : List Nat
  deriving DecidableEq
theorem eqv_net (a b : Str) : PyData.eqv (.str a) (.str b) = decide (a = b) := by
  simp only [PyData.eqv]
  exact PySem.W.beq_decide a b
instance : Datum Net where
  toD n := .tuple [.str "net", Datum.toD n.ins, Datum.toD n.starts, Datum.toD n.gates, Datum.toD n.nexts, Datum.toD n.outs]
  plain n := by simp only [PyData.plain, PyData.plainAll, Datum.plain, Bool.and_self]
  eqv a b := by
    simp only [PyData.eqv, PyData.eqvAll, Datum.eqv, Bool.and_true]
    rw [PySem.W.beq_decide, ← Bool.decide_and, ← Bool.decide_and, ← Bool.decide_and, ← Bool.decide_and, ← Bool.decide_and]
    refine decide_eq_decide.mpr ⟨fun ⟨_, h1, h2, h3, h4, h5⟩ => ?_, fun e => by rw [e]; exact ⟨rfl, rfl, rfl, rfl, rfl, rfl⟩⟩
    cases a
    cases b
    simp only at h1 h2 h3 h4 h5
    rw [h1, h2, h3, h4, h5]
  depth := 3
  depth_le n := by
    have h1 := Datum.depth_le n.ins
    have h2 := Datum.depth_le n.starts
    have h3 := Datum.depth_le n.gates
    have h4 := Datum.depth_le n.nexts
    have h5 := Datum.depth_le n.outs
    have e1 : Datum.depth Nat = 0 := rfl
    have e2 : Datum.depth (List Nat) = 1 := rfl
    have e3 : Datum.depth (List (Nat × Nat)) = 2 := rfl
    rw [e1] at h1
    rw [e2] at h2 h4 h5
    rw [e3] at h3
    simp only [PyData.depth, PyData.depthAll]
    omega
instance : Dm Net where
  lay n := by
    have h1 := Dm.lay n.ins
    have h2 := Dm.lay n.starts
    have h3 := Dm.lay n.gates
    have h4 := Dm.lay n.nexts
    have h5 := Dm.lay n.outs
    simp only [Datum.toD] at h1 h2 h3 h4 h5 ⊢
    simp only [PyData.canLay0, PyData.canLayAll0, Bool.and_true] at h1 h2 h3 h4 h5 ⊢
    rw [h2, h3, h4, h5]
    decide +kernel
section
theorem Dv.net_inv {H : Hp} {v : V} {n : Net} (h : Dv H v n) : ∃ a s g x o, v = .ref a ∧ H a = some (.tup [.str "net", .int (n.ins : Int), .ref s, .ref g, .ref x, .ref o]) ∧
    Dv H (.ref s) n.starts ∧ Dv H (.ref g) n.gates ∧ Dv H (.ref x) n.nexts ∧ Dv H (.ref o) n.outs := by
  unfold Dv at h
  cases h with
  | tup h1 h2 =>
    cases h2 with
    | cons a1 h2 =>
      cases h2 with
      | cons a2 h2 =>
        cases h2 with
        | cons a3 h2 =>
          cases h2 with
          | cons a4 h2 =>
            cases h2 with
            | cons a5 h2 =>
              cases h2 with
              | cons a6 h2 =>
                cases h2
                cases a1
                have e2 := Dv.nat_inv (n := n.ins) a2
                subst e2
                obtain ⟨s, _, rfl, _⟩ := Dv.list_inv (xs := n.starts) a3
                obtain ⟨g, _, rfl, _⟩ := Dv.list_inv (xs := n.gates) a4
                obtain ⟨x, _, rfl, _⟩ := Dv.list_inv (xs := n.nexts) a5
                obtain ⟨o, _, rfl, _⟩ := Dv.list_inv (xs := n.outs) a6
                exact ⟨_, _, _, _, _, rfl, h1, a3, a4, a5, a6⟩
theorem Dv.net {H : Hp} {a : Addr} {n : Net} {s g x o : V} (h : H a = some (.tup [.str "net", .int (n.ins : Int), s, g, x, o])) (h1 : Dv H s n.starts) (h2 : Dv H g n.gates) (h3 : Dv H x n.nexts) (h4 : Dv H o n.outs) : Dv H (.ref a) n :=
  Dh.tup h (.cons (.str _) (.cons (.int _) (.cons h1 (.cons h2 (.cons h3 (.cons h4 .nil))))))
end
/-- how many nodes there are behind the inputs and flops -/
def Net.base (n : Net) : Nat := 1 + n.ins + n.starts.length
def Net.many (n : Net) : Nat := n.base + n.gates.length
structure Net.Ok (n : Net) (ins flops most : Nat) : Prop where
  ins : n.ins ≤ ins
  fl : n.starts.length ≤ flops
  bits : ∀ b ∈ n.starts, b < 2
  most : n.gates.length ≤ most
  g : ∀ j g, n.gates[j]? = some g → g.1 < 2 * (n.base + j) ∧ g.2 < 2 * (n.base + j)
  nl : n.nexts.length = n.starts.length
  nx : ∀ x ∈ n.nexts, x < 2 * n.many
  ol : n.outs.length ≤ 3
  ox : ∀ x ∈ n.outs, x < 2 * n.many
/-- a literal's bit in a row of values -/
def bitv (row : List Nat) (l : Nat) : Nat := (row[l / 2]?.getD 0) ^^^ (l % 2)
def rowOf (gs : List (Nat × Nat)) (row : List Nat) : List Nat := gs.foldl (fun r g => r ++ [bitv r g.1 * bitv r g.2]) row
def Net.row (n : Net) (held bits : List Nat) : List Nat := rowOf n.gates (0 :: bits ++ held)
theorem rowOf_len (gs : List (Nat × Nat)) (r : List Nat) : (rowOf gs r).length = r.length + gs.length := by
  induction gs generalizing r with
  | nil => rfl
  | cons g gs ih =>
    show (rowOf gs _).length = _
    rw [ih, List.length_append, List.length_cons, List.length_cons, List.length_nil]
    omega
theorem rowOf_snoc (gs : List (Nat × Nat)) (g : Nat × Nat) (r : List Nat) : rowOf (gs ++ [g]) r = rowOf gs r ++ [bitv (rowOf gs r) g.1 * bitv (rowOf gs r) g.2] := by
  unfold rowOf
  rw [List.foldl_append]
  rfl
theorem bitv_lt {row : List Nat} (h : ∀ b ∈ row, b < 2) (l : Nat) : bitv row l < 2 := by
  have h1 : row[l / 2]?.getD 0 < 2 := by
    cases e : row[l / 2]? with
    | none => decide
    | some x => exact h x (List.mem_of_getElem? e)
  exact Nat.xor_lt_two_pow (n := 1) h1 (Nat.mod_lt _ (by decide))
theorem mul_lt2 {a b : Nat} (ha : a < 2) (hb : b < 2) : a * b < 2 := by
  have : a = 0 ∨ a = 1 := by omega
  rcases this with rfl | rfl <;> omega
theorem rowOf_lt {gs : List (Nat × Nat)} {r : List Nat} (h : ∀ b ∈ r, b < 2) : ∀ b ∈ rowOf gs r, b < 2 := by
  induction gs generalizing r with
  | nil => exact h
  | cons g gs ih =>
    refine ih (r := r ++ [_]) fun b hb => ?_
    rcases List.mem_append.mp hb with hb | hb
    · exact h b hb
    · rw [List.mem_singleton.mp hb]
      exact mul_lt2 (bitv_lt h _) (bitv_lt h _)
theorem take_snoc {α : Type} {xs : List α} {i : Nat} {x : α} (h : xs[i]? = some x) : xs.take (i + 1) = xs.take i ++ [x] := by
  rw [List.take_add_one, h]
  rfl
theorem get_snoc {α : Type} {xs : List α} {x y : α} {k : Nat} (h : (xs ++ [x])[k]? = some y) : (k < xs.length ∧ xs[k]? = some y) ∨ (k = xs.length ∧ y = x) := by
  by_cases hk : k < xs.length
  · rw [List.getElem?_append_left hk] at h
    exact .inl ⟨hk, h⟩
  · rw [List.getElem?_append_right (by omega)] at h
    have e : k - xs.length = 0 := by
      cases e : k - xs.length with
      | zero => rfl
      | succ j =>
        rw [e] at h
        simp at h
    rw [e] at h
    cases h
    exact .inr ⟨by omega, rfl⟩
theorem mem_snoc {α : Type} {P : α → Prop} {xs : List α} {x : α} (h : ∀ y ∈ xs, P y) (hx : P x) : ∀ y ∈ xs ++ [x], P y := by
  intro y hy
  rcases List.mem_append.mp hy with hy | hy
  · exact h y hy
  · rw [List.mem_singleton.mp hy]
    exact hx
theorem vn_snoc (xs : List Nat) (x : Nat) : vn xs ++ [V.int (x : Int)] = vn (xs ++ [x]) := by
  unfold vn
  rw [List.map_append]
  rfl
theorem cut_nn (xs : List Nat) {a b : Nat} (h1 : a ≤ b) (h2 : b ≤ xs.length) : cutV (vn xs) (some (a : Int)) (some (b : Int)) = vn ((xs.drop a).take (b - a)) := by
  unfold cutV
  rw [HT.sIx_nat, HT.sIx_nat, vn_len, Nat.min_eq_left h2, Nat.min_eq_left (Nat.le_trans h1 h2)]
  unfold vn
  rw [← List.map_drop, ← List.map_take]
theorem set_vn (xs : List Nat) (i x : Nat) : (vn xs).set i (.int (x : Int)) = vn (xs.set i x) := by
  unfold vn
  rw [List.map_set]
theorem mem_set {α : Type} {P : α → Prop} {xs : List α} {i : Nat} {x : α} (h : ∀ y ∈ xs, P y) (hx : P x) : ∀ y ∈ xs.set i x, P y := by
  intro y hy
  rcases List.mem_or_eq_of_mem_set hy with hy | rfl
  · exact h y hy
  · exact hx
theorem dec_bool (a b : Bool) : decide (V.bl a = V.bl b) = decide (a = b) := by rw [Bool.eq_iff_iff]; simp
theorem dec_int (a b : Int) : decide (V.int a = V.int b) = decide (a = b) := by rw [Bool.eq_iff_iff]; simp
theorem dec_nat (a b : Nat) : decide (V.int (a : Int) = V.int (b : Int)) = decide (a = b) := by
  rw [dec_int]
  exact decide_eq_decide.mpr ⟨fun e => by omega, fun e => by rw [e]⟩
theorem dec_one (a : Nat) : decide (V.int (a : Int) = V.int 1) = decide (a = 1) := dec_nat a 1
theorem flat_vn : ∀ xs : List Nat, (vn xs).all flatV = true
  | [] => rfl
  | y :: r => by
    show (true && (vn r).all flatV) = true
    rw [flat_vn r]
    rfl
theorem inV_vn (c : Nat) : ∀ xs : List Nat, inV (.int (c : Int)) (vn xs) = decide (c ∈ xs)
  | [] => by rfl
  | y :: r => by
    have ih := inV_vn c r
    show (eqV (.int (y : Int)) (.int (c : Int)) || inV (.int (c : Int)) (vn r)) = _
    rw [ih]
    show (((y : Int) == (c : Int)) || decide (c ∈ r)) = _
    by_cases h : c ∈ r
    · rw [decide_eq_true h, Bool.or_true, decide_eq_true (List.mem_cons_of_mem _ h)]
    · by_cases e : y = c
      · subst e
        rw [beq_self_eq_true, Bool.true_or, decide_eq_true List.mem_cons_self]
      · rw [beq_eq_false_iff_ne.mpr (fun z => e (by omega)), decide_eq_false h, Bool.or_false, decide_eq_false (fun m => ?_)]
        rcases List.mem_cons.mp m with m | m
        · exact e m.symm
        · exact h m
theorem bxor (a b : Nat) : Builtin.bitXor (a : Int) (b : Int) = ((a ^^^ b : Nat) : Int) := by
  rw [Bits.bitXor_pp (Int.natCast_nonneg _) (Int.natCast_nonneg _), Int.toNat_natCast, Int.toNat_natCast]
theorem fdiv_nat (a b : Nat) : ((a : Int)).fdiv (b : Int) = ((a / b : Nat) : Int) := by
  rw [Int.fdiv_eq_ediv_of_nonneg _ (by omega)]
  rfl
theorem fmod_nat (a b : Nat) : ((a : Int)).fmod (b : Int) = ((a % b : Nat) : Int) := by
  rw [Int.fmod_eq_emod_of_nonneg _ (by omega)]
  rfl
theorem nfdiv2 (a : Nat) : ((a : Int)).fdiv 2 = ((a / 2 : Nat) : Int) := fdiv_nat a 2
theorem nfmod2 (a : Nat) : ((a : Int)).fmod 2 = ((a % 2 : Nat) : Int) := fmod_nat a 2
end V0
/-! repr of data, where nothing is being shown; the law's call with what stands around it -/
namespace V0
open PySem PySem.Spec PyProof.Rows L2
open PySem.W (Datum)
def rRepr (K : PySem.W.Frag) : List V → Hp → VK → Prop := fun xs H Q => ∃ (a : Addr) (d : PyData), xs = [.ref a] ∧ Dp K H (.ref a) d ∧ (d.showable = true ∧ d.hasDict = false ∧ d.depth ≤ 60 ∧ d.shown.length ≤ sizeLine) ∧ Q (.str d.shown) H
theorem call_reprD {X : Cx} (hg : X.A.guards = some []) (hu : X.A.units + 64 < cLine) : CallR X (.builtin "repr") (rRepr X.K) := by
  intro pins s σ H xs us Q I r h
  obtain ⟨a, d, rfl, hd, ⟨h1, h2, h3, h4⟩, q⟩ := h
  obtain ⟨u, rfl, rx⟩ := vals1 r
  obtain ⟨as, rd⟩ := Dp.reads I d _ _ hd rx
  obtain rfl : u = Value.ref a := rx
  refine repr_of_reads' rd h1 (PyData.noDict_hsm h2) hg (by omega) (fun _ _ e => e) (fun h' t tk hk => ?_) h4
  exact ⟨.str _, H, I.kept hk, ⟨t, rfl⟩, q⟩
/-- data whose text is short -/
structure Sm (d : PyData) (n : Nat) : Prop where
  sh : d.showable = true
  lv : d.leavesShort 13 = true
  wt : d.weight ≤ n
structure SmA (ds : List PyData) (n : Nat) : Prop where
  sh : PyData.showableAll ds = true
  lv : PyData.leavesShortAll 13 ds = true
  wt : PyData.weightAll ds ≤ n
theorem Sm.mono {d : PyData} {n m : Nat} (h : Sm d n) (l : n ≤ m) : Sm d m := ⟨h.sh, h.lv, Nat.le_trans h.wt l⟩
theorem Sm.int {i : Int} (h : i.natAbs < 10 ^ 12) : Sm (.int i) 40 := by
  have hl : i.natAbs.log2 < 40 := by
    by_cases h0 : i.natAbs = 0
    · rw [h0]
      decide
    · exact (Nat.log2_lt h0).mpr (Nat.lt_trans h (by decide))
  refine ⟨?_, ?_, ?_⟩
  · simp only [PyData.showable, decide_eq_true_eq]
    omega
  · simp only [PyData.leavesShort, decide_eq_true_eq]
    exact PyData.shown_int_le h
  · simp only [PyData.weight]
    split <;> omega
theorem Sm.nat {n : Nat} (h : n < 10 ^ 12) : Sm (.int (n : Int)) 40 := Sm.int (by rw [Int.natAbs_natCast]; exact h)
theorem SmA.nil : SmA [] 0 := ⟨by simp only [PyData.showableAll], by simp only [PyData.leavesShortAll], by simp only [PyData.weightAll]; exact Nat.le_refl _⟩
theorem SmA.cons {d : PyData} {ds : List PyData} {n m : Nat} (h : Sm d n) (hs : SmA ds m) : SmA (d :: ds) (n + 1 + m) :=
  ⟨by simp only [PyData.showableAll, h.sh, hs.sh, Bool.and_self], by simp only [PyData.leavesShortAll, h.lv, hs.lv, Bool.and_self], by simp only [PyData.weightAll]; have := h.wt; have := hs.wt; omega⟩
theorem SmA.all {n : Nat} : ∀ {ds : List PyData}, (∀ d ∈ ds, Sm d n) → SmA ds (ds.length * (n + 1))
  | [], _ => by rw [List.length_nil, Nat.zero_mul]; exact SmA.nil
  | d :: ds, h => by
    have a := SmA.cons (h d List.mem_cons_self) (SmA.all (ds := ds) fun e he => h e (List.mem_cons_of_mem _ he))
    have e : (d :: ds).length * (n + 1) = n + 1 + ds.length * (n + 1) := by
      rw [List.length_cons, Nat.add_mul, Nat.one_mul]
      omega
    rw [e]
    exact a
theorem Sm.list {ds : List PyData} {n : Nat} (h : SmA ds n) : Sm (.list ds) n := ⟨by simp only [PyData.showable, h.sh], by simp only [PyData.leavesShort, h.lv], by simp only [PyData.weight]; exact h.wt⟩
theorem Sm.tup {ds : List PyData} {n : Nat} (h : SmA ds n) : Sm (.tuple ds) n := ⟨by simp only [PyData.showable, h.sh], by simp only [PyData.leavesShort, h.lv], by simp only [PyData.weight]; exact h.wt⟩
theorem Sm.bl (b : Bool) : Sm (.bool b) 0 := ⟨by simp only [PyData.showable], by simp only [PyData.leavesShort], by simp only [PyData.weight]; exact Nat.le_refl _⟩
section
variable {α : Type} [DecidableEq α] [Dm α]
theorem Sm.of_list {xs : List α} {n : Nat} (h : ∀ x ∈ xs, Sm (Datum.toD x) n) : Sm (Datum.toD xs) (xs.length * (n + 1)) := by
  have a := SmA.all (ds := xs.map Datum.toD) (n := n) fun d hd => by
    obtain ⟨x, hx, rfl⟩ := List.mem_map.mp hd
    exact h x hx
  rw [List.length_map] at a
  exact Sm.list a
theorem Sm.nats {xs : List Nat} (h : ∀ x ∈ xs, x < 10 ^ 12) : Sm (Datum.toD xs) (xs.length * 41) := Sm.of_list fun x hx => Sm.nat (h x hx)
theorem Sm.ints {xs : List Int} (h : ∀ x ∈ xs, x.natAbs < 10 ^ 12) : Sm (Datum.toD xs) (xs.length * 41) := Sm.of_list fun x hx => Sm.int (h x hx)
/-- what repr tells of x -/
def txt (x : α) : Str := (Datum.toD x).shown
theorem reprD {K : PySem.W.Frag} {H : Hp} {a : Addr} {x : α} {n : Nat} {Q : VK} (hx : Dv H (.ref a) x) (s : Sm (Datum.toD x) n) (hn : n ≤ 2 ^ 20) (hd : Datum.depth α ≤ 60) (q : Q (.str (txt x)) H) : rRepr K [.ref a] H Q :=
  ⟨a, _, rfl, dh_dp _ _ hx, ⟨s.sh, PyData.hasDict_of_canLay _ (Dm.lay x), Nat.le_trans (Datum.depth_le x) hd, PyData.shown_fits (by decide) (by decide) s.lv (Nat.le_trans s.wt hn)⟩, q⟩
theorem four (x : α) {n : Nat} (s : Sm (Datum.toD x) n) (hn : n ≤ 2 ^ 20) (hd : Datum.depth α ≤ 60) : (Datum.toD x).showable = true ∧ (Datum.toD x).hasDict = false ∧ (Datum.toD x).depth ≤ 60 ∧ (Datum.toD x).shown.length ≤ sizeLine :=
  ⟨s.sh, PyData.hasDict_of_canLay _ (Dm.lay x), Nat.le_trans (Datum.depth_le x) hd, PyData.shown_fits (by decide) (by decide) s.lv (Nat.le_trans s.wt hn)⟩
end
/-! ### the law's call -/
/-- the law's def from where a claim calls it -/
def LawOk (P : Program) (w : World) (K : PySem.W.Frag) (mg : Str → Option Value) (base : Heap) (f : Addr) (fd : FuncData) (ps : List Str) (sp : Sp) : Prop :=
  ∀ (s : Shared) (H : Hp) (args : Args) (us : List Value) (vs : List V) (Q : VK) (E : XK), Env0 P w K mg base callerA [] s H → BindsTo s fd args (ps.zip us) → Vals vs us → sp vs H Q E → codeAny (model P w) callerA (.call (.ref f) args) (CR CX0 [] P w H s Q E) s
theorem lawOk {P : Program} {w : World} {K : PySem.W.Frag} {mg : Str → Option Value} {base : Heap} {x qual : Str} {st : Stmt} {f : Addr} {fd : FuncData} {N ps : List Str} {k : Nat} {sp : Sp} (F : Fun K x qual st f fd) (S : FnScope N ps (defScope st)) (room : Room (k + 1) callerA)
    (len : ∀ vs H Q E, sp vs H Q E → vs.length = ps.length)
    (body : ∀ (cdv : Value) (A : Around) (outer : List Env) (s : Shared) (H : Hp) (vs : List V) (Q : VK) (E : XK), Room k (A.deeper (envOfC qual (defScope st) s.heap.objs.size f cdv)) → (A.deeper (envOfC qual (defScope st) s.heap.objs.size f cdv)).guards = some [] → sp vs H Q E →
      ∃ t, PSs (cxOf CX0 P w K mg base N qual (defScope st) f cdv A outer s H E).nox (defBody st) t ∧ t { nx := fun _ H' => Q .non H', rt := Q } (L2.start N vs) H) : LawOk P w K mg base f fd ps sp := by
  obtain ⟨_, _, _, _, _, _, cdv, _, _, rfl, look, cod⟩ := F.ex
  intro s H args us vs Q E env bind rel want
  have inK : K.In s.heap := env.mod.kin.keeps fun b o g => (env.bs b o g).1
  have free : s.heap.NoLimit := env.mod.nolimit.keeps fun b o g => (env.bs b o g).1
  have vis : ∀ y ∈ ps.zip us, (defScope st).names.lookup y.1 = some .local ∨ ((defScope st).names.lookup y.1 = some .cell ∧ ((cellsFrom (s.heap.objs.size + 1) (defScope st).names []).lookup y.1).isSome = true) := by
    rintro ⟨n, v⟩ hy
    exact (S.par n (List.of_mem_zip hy).1).imp id fun c => ⟨c, PySem.W.cellsFrom_some _ _ _ (.inl c)⟩
  refine codeAny_call_function room.depth (inK _ _ look) rfl S.co S.gen rfl (PySem.W.codeRec_of inK cod) (bind _ _ _ _ ?_)
  refine wpAny_newFunctionEnv_cells S.kind vis fun env1 he s1 made => ?_
  subst he
  refine ⟨free.keeps made.toInCall.keep, codeAny_func ?_⟩
  obtain ⟨t, ht, ok⟩ := body cdv callerA [] s H vs Q E (room.deeper _) rfl want
  have I := inv_start (CX := CX0) (E := E) S room.hd env (len _ _ _ _ want) rel made
  refine wpAny_mono ((ht.nox).run [] s1 (L2.start N vs) H _ I ok) (fun fl s' told => ?_) fun e s' told => told
  cases fl with
  | next =>
    obtain ⟨_, H', J, done⟩ := told
    exact ⟨.non, H', J.os, J.bare, J.base, J.hok, rfl, done⟩
  | ret u =>
    obtain ⟨v, _, H', J, rv, done⟩ := told
    exact ⟨v, H', J.os, J.bare, J.base, J.hok, rv, done⟩
  | brk => exact told.elim fun _ h => h.elim fun _ h => h.2.elim
  | cont => exact told.elim fun _ h => h.elim fun _ h => h.2.elim
theorem law_at {P : Program} {w : World} {K : PySem.W.Frag} {mg mb : Str → Option Value} {f a : Addr} {fd : FuncData} {x : Str} {sp : Sp} {s : Shared} {us : List Value} {ns : List Int}
    (kin : K.In s.heap) (glob : s.heap.Ns mainGlobals mg) (blt : s.heap.Ns builtinsNs mb) (same : ∀ y : Str, y ≠ "__name__" → mb y = bootBuiltins y) (free : s.heap.NoLimit) (gens : s.gens = #[])
    (script : s.heap.get? a = some { cls := .type "list", data := .seq us.toArray }) (whole : IntsAre us ns) (few : ns.length ≤ sizeLine)
    (F : ∀ base : Heap, K.In base → base.Ns mainGlobals mg → LawOk P w K mg base f fd [x] sp) (binds : ∀ (t : Shared) (u : Value), BindsTo t fd ⟨[u], []⟩ [(x, u)])
    (want : ∀ H : Hp, Only H → SqL K H a (ns.map V.int) → sp [.ref a] H (fun v _ => v = .bl true) fun _ _ _ => False) :
    codeAny (model P w) callerA (.call (.ref f) ⟨[.ref a], []⟩) (fun r t => r = .ok (.ret (.bool true)) ∧ OldK s.heap t.heap ∧ t.os = s.os ∧ AllBare t.gens) s := by
  have rel := vals_ints whole
  have long := whole.length
  -- what is tracked at the start: the script, if it is not one of the module's own objects
  obtain ⟨H, only, seq, fits, dom, own⟩ : ∃ H : Hp, Only H ∧ SqL K H a (ns.map V.int) ∧ HOk P w H s.heap ∧ (∀ b o, H b = some o → b = a) ∧ (∀ o, H a = some o → K.lookup a = none) := by
    cases kl : K.lookup a with
    | some o =>
      have g := kin a o kl
      rw [script] at g
      cases g
      refine ⟨fun _ => none, fun _ => .inl rfl, .inr ⟨_, us.toArray, _, kl, rfl, rfl, rfl, ?_, ?_⟩, ?_, ?_, ?_⟩
      · rw [List.size_toArray, long]
        exact few
      · rw [List.toList_toArray]
        exact rel
      · intro b u z
        cases z
      · intro b u z
        cases z
      · intro u z
        cases z
    | none =>
      let fz : HO := .frz { cls := .type "list", data := .seq us.toArray } (.lst (ns.map V.int))
      have at_a : (fun b => if b = a then some fz else none : Hp) a = some fz := if_pos rfl
      have off_a : ∀ {b : Addr}, b ≠ a → (fun b => if b = a then some fz else none : Hp) b = none := fun h => if_neg h
      refine ⟨fun b => if b = a then some fz else none, fun b => ?_, .inl (.inr ⟨_, at_a⟩), fun b u z => ?_, fun b u z => ?_, fun _ _ => rfl⟩
      · by_cases e : b = a
        · subst e
          exact .inr ⟨_, _, at_a⟩
        · exact .inl (off_a e)
      · by_cases e : b = a
        · subst e
          rw [at_a] at z
          cases z
          refine ⟨script, ?_, us, _, rel, script⟩
          rw [List.length_map]
          exact few
        · rw [off_a e] at z
          cases z
      · by_cases e : b = a
        · exact e
        · rw [off_a e] at z
          cases z
  have under : ∀ {b : Addr} {o : Obj}, s.heap.get? b = some o → H b = none → (hidT s.heap H).get? b = some o := fun g n => hidT_get g n
  have dicts : ∀ {b : Addr} {m : Str → Option Value}, s.heap.Ns b m → (hidT s.heap H).Ns b m := by
    rintro b m ⟨o, es, ep, g, d, r⟩
    refine ⟨o, es, ep, under g ?_, d, r⟩
    cases hb : H b with
    | none => rfl
    | some u =>
      obtain rfl := dom b u hb
      rw [script] at g
      cases g
      cases d
  have kinB : K.In (hidT s.heap H) := by
    intro b o kl
    refine under (kin b o kl) ?_
    cases hb : H b with
    | none => rfl
    | some u =>
      obtain rfl := dom b u hb
      rw [own u hb] at kl
      cases kl
  have modB : Mod K mg (hidT s.heap H) := by
    refine ⟨kinB, dicts glob, ⟨mb, dicts blt, same⟩, ?_⟩
    obtain ⟨mc, z1, z2⟩ := free
    exact ⟨mc, dicts z1, z2⟩
  have env : Env0 P w K mg (hidT s.heap H) callerA [] s H :=
    ⟨rfl, modB, fun b o g => of_hidT g, Nat.le_of_eq (hidT_size _ _), trivial, fun b hb => (by cases hb), fits, .of_eq gens⟩
  refine codeAny_mono (F _ kinB (dicts glob) s H ⟨[.ref a], []⟩ [.ref a] [.ref a] _ _ env (binds s (.ref a)) (.cons rfl .nil) (want H only seq)) fun r t told => ?_
  match r, told with
  | .error e, told => exact told.elim
  | .ok .next, told => exact told.elim
  | .ok .brk, told => exact told.elim
  | .ok .cont, told => exact told.elim
  | .ok (.ret u), ⟨v, H', os, bare, un, fits', rv, yes⟩ =>
    have yes' : v = .bl true := yes
    subst yes'
    have eu : u = Value.bool true := rv
    subst eu
    refine ⟨rfl, OldK.of_keep fun b o g => ?_, os, bare⟩
    cases hb : H b with
    | none => exact un.keep b o g hb (fun z => (by cases z)) (by simp)
    | some u2 =>
      rcases only b with z | ⟨ob, xs, z⟩
      · rw [z] at hb
        cases hb
      · obtain ⟨e1, _⟩ := fits b _ z
        obtain ⟨e2, _⟩ := fits' b _ (un.frzs b ob _ z)
        rw [g] at e1
        cases e1
        exact e2
/-- the goal that k_head leaves, where the law's promise is LawOk -/
theorem walk_at {l : PySem.W.OpenLaw} {n : Nat} {q : Program} {loose : List Str} {XP : (Str → Option Value) → Heap → Prop} {YP : World → Heap → Prop} {d : DefRec} {K : Params → PySem.W.Frag} {sp : PySem.W.Frag → Sp} {x : Str}
    (hn : l.most = some n) (hs : n ≤ sizeLine) (plain : d.params.defaults = []) (hY : ∀ (w : World) (h : Heap), YP w h → (K w.params).In h)
    (F : ∀ (w : World) (mg : Str → Option Value) (f : Addr) (h : Heap), (K w.params).In h → h.Ns mainGlobals mg → mg d.name = some (.ref f) →
      ∃ fd : FuncData, (∀ (s : Shared) (u : Value), BindsTo s fd ⟨[u], []⟩ [(x, u)]) ∧ ∀ base : Heap, (K w.params).In base → base.Ns mainGlobals mg → LawOk l.prog w (K w.params) mg base f fd [x] (sp (K w.params)))
    (want : ∀ (K : PySem.W.Frag) (H : Hp) (a : Addr) (ns : List Int), ns.length ≤ n → Only H → SqL K H a (ns.map V.int) → sp K [.ref a] H (fun v _ => v = .bl true) fun _ _ _ => False) :
    PySem.W.WalkO q loose XP YP l.row.toRowW d [] (fun f vs => PySem.call f vs) := by
  refine Att.attach_call hn plain fun w _ s1 mg mb f _ _ _ _ a us ns G Y _ _ _ named obj whole few gens => ?_
  have kin := hY w _ Y
  obtain ⟨fd, binds, told⟩ := F w mg f _ kin G.T.g named
  exact law_at kin G.T.g G.T.b G.T.builtins G.T.nolimit gens obj whole (Nat.le_trans few hs) told binds fun H only seq => want _ H a ns few only seq
end V0
/-! cuts of nets, bits of tables -/
namespace V0
open PySem PySem.Spec PyProof.Rows L2
open PySem.W (Datum)
/-! ### numbers by their bits -/
def num : List Nat → Nat
  | [] => 0
  | b :: r => b + 2 * num r
theorem num_append (xs ys : List Nat) : num (xs ++ ys) = num xs + 2 ^ xs.length * num ys := by
  induction xs with
  | nil => simp [num]
  | cons b r ih =>
    show b + 2 * num (r ++ ys) = b + 2 * num r + 2 ^ (r.length + 1) * num ys
    rw [ih, Nat.pow_succ, Nat.mul_add, Nat.mul_comm (2 ^ r.length) 2, Nat.mul_assoc, Nat.add_assoc]
theorem num_snoc (xs : List Nat) (b : Nat) : num (xs ++ [b]) = num xs + b * 2 ^ xs.length := by
  rw [num_append]
  show num xs + 2 ^ xs.length * (b + 2 * 0) = _
  rw [Nat.mul_zero, Nat.add_zero, Nat.mul_comm]
theorem num_lt {xs : List Nat} (h : ∀ b ∈ xs, b < 2) : num xs < 2 ^ xs.length := by
  induction xs with
  | nil => decide
  | cons b r ih =>
    have h1 := h b List.mem_cons_self
    have h2 := ih fun c hc => h c (List.mem_cons_of_mem _ hc)
    show b + 2 * num r < 2 ^ (r.length + 1)
    rw [Nat.pow_succ]
    omega
theorem num_testBit {xs : List Nat} (h : ∀ b ∈ xs, b < 2) (i : Nat) : (num xs).testBit i = decide (xs[i]? = some 1) := by
  induction xs generalizing i with
  | nil => simp [num]
  | cons b r ih =>
    have h1 := h b List.mem_cons_self
    have hb : b = 0 ∨ b = 1 := by omega
    have h2 := fun j => ih (fun c hc => h c (List.mem_cons_of_mem _ hc)) j
    cases i with
    | zero =>
      show (b + 2 * num r).testBit 0 = decide (some b = some 1)
      rw [Nat.testBit_zero]
      rcases hb with rfl | rfl
      · have : (0 + 2 * num r) % 2 = 0 := by omega
        rw [this]
        rfl
      · have : (1 + 2 * num r) % 2 = 1 := by omega
        rw [this]
        rfl
    | succ j =>
      show (b + 2 * num r).testBit (j + 1) = decide (r[j]? = some 1)
      rw [Nat.testBit_succ, ← h2 j]
      congr 1
      omega
/-- the columns of bits f 0, f 1, .. -/
def colN (m : Nat) (f : Nat → Nat) : Nat := num ((List.range m).map f)
theorem col_succ (m : Nat) (f : Nat → Nat) : colN (m + 1) f = colN m f + f m * 2 ^ m := by
  unfold colN
  rw [map_range_succ, num_snoc, List.length_map, List.length_range]
theorem col_lt (m : Nat) (f : Nat → Nat) (h : ∀ i, i < m → f i < 2) : colN m f < 2 ^ m := by
  have := num_lt (xs := (List.range m).map f) fun b hb => by
    obtain ⟨i, hi, rfl⟩ := List.mem_map.mp hb
    exact h i (List.mem_range.mp hi)
  rw [List.length_map, List.length_range] at this
  exact this
theorem col_testBit {m : Nat} {f : Nat → Nat} (h : ∀ i, i < m → f i < 2) (i : Nat) : (colN m f).testBit i = (decide (i < m) && decide (f i = 1)) := by
  unfold colN
  rw [num_testBit]
  · by_cases hi : i < m
    · rw [List.getElem?_map, List.getElem?_range hi, decide_eq_true hi, Bool.true_and]
      show decide (some (f i) = some 1) = _
      exact decide_eq_decide.mpr ⟨fun e => Option.some.inj e, fun e => by rw [e]⟩
    · rw [List.getElem?_eq_none (by rw [List.length_map, List.length_range]; omega), decide_eq_false hi]
      rfl
  · intro b hb
    obtain ⟨i, hi, rfl⟩ := List.mem_map.mp hb
    exact h i (List.mem_range.mp hi)
theorem col_and {m : Nat} {f g : Nat → Nat} (hf : ∀ i, i < m → f i < 2) (hg : ∀ i, i < m → g i < 2) : colN m f &&& colN m g = colN m (fun i => f i * g i) := by
  apply Nat.eq_of_testBit_eq
  intro i
  rw [Nat.testBit_and, col_testBit hf, col_testBit hg, col_testBit (fun i hi => mul_lt2 (hf i hi) (hg i hi))]
  by_cases hi : i < m
  · rw [decide_eq_true hi, Bool.true_and, Bool.true_and, Bool.true_and]
    have h1 := hf i hi
    have h2 := hg i hi
    have e1 : f i = 0 ∨ f i = 1 := by omega
    have e2 : g i = 0 ∨ g i = 1 := by omega
    rcases e1 with e1 | e1 <;> rcases e2 with e2 | e2 <;> rw [e1, e2] <;> decide
  · rw [decide_eq_false hi]
    rfl
theorem col_xor {m : Nat} {f : Nat → Nat} (hf : ∀ i, i < m → f i < 2) (l : Nat) : colN m f ^^^ (if l % 2 = 1 then 2 ^ m - 1 else 0) = colN m (fun i => f i ^^^ (l % 2)) := by
  have hx : ∀ i, i < m → f i ^^^ (l % 2) < 2 := fun i hi => Nat.xor_lt_two_pow (n := 1) (hf i hi) (Nat.mod_lt _ (by decide))
  apply Nat.eq_of_testBit_eq
  intro i
  rw [Nat.testBit_xor, col_testBit hf, col_testBit hx]
  rcases Nat.mod_two_eq_zero_or_one l with e | e
  · rw [if_neg (by omega), e, Nat.zero_testBit, Bool.xor_false]
    simp
  · rw [if_pos e, e, Nat.testBit_two_pow_sub_one]
    by_cases hi : i < m
    · rw [decide_eq_true hi, Bool.true_and, Bool.true_and]
      have h1 := hf i hi
      have e1 : f i = 0 ∨ f i = 1 := by omega
      rcases e1 with e1 | e1 <;> rw [e1] <;> decide
    · rw [decide_eq_false hi]
      rfl
/-- the sum of the powers whose bit is set -/
theorem sum_pows (m : Nat) (f : Nat → Nat) (h : ∀ i, i < m → f i < 2) : (((List.range m).filter fun i => decide (f i = 1)).map fun i => 2 ^ i).sum = colN m f := by
  induction m with
  | zero => rfl
  | succ m ih =>
    rw [List.range_succ, List.filter_append, List.map_append, List.sum_append, ih fun i hi => h i (by omega), col_succ]
    have h1 := h m (by omega)
    have e1 : f m = 0 ∨ f m = 1 := by omega
    rcases e1 with e1 | e1
    · simp [e1]
    · simp [e1]
/-! ### cuts -/
inductive Sep (n : Net) (cut : List Nat) : Nat → Prop
  | hit {x : Nat} : x ∈ cut → Sep n cut x
  | gate {x : Nat} {g : Nat × Nat} : n.base ≤ x → n.gates[x - n.base]? = some g → Sep n cut (g.1 / 2) → Sep n cut (g.2 / 2) → Sep n cut x
def kids (n : Net) (x : Nat) : List Nat := if x < n.base then [] else match n.gates[x - n.base]? with
  | some g => [g.1 / 2, g.2 / 2]
  | none => []
theorem Sep.expand {n : Net} {cut other : List Nat} {node : Nat} (hn : kids n node ≠ []) (hk : ∀ y ∈ kids n node, y ∈ other) (ho : ∀ y ∈ cut, y ≠ node → y ∈ other) {x : Nat} (h : Sep n cut x) : Sep n other x := by
  induction h with
  | @hit x hx =>
    by_cases e : x = node
    · subst e
      unfold kids at hn hk
      by_cases hb : x < n.base
      · rw [if_pos hb] at hn
        exact absurd rfl hn
      · rw [if_neg hb] at hn hk
        cases eg : n.gates[x - n.base]? with
        | none =>
          rw [eg] at hn
          exact absurd rfl hn
        | some g =>
          rw [eg] at hk
          exact .gate (by omega) eg (.hit (hk _ (by simp))) (.hit (hk _ (by simp)))
    · exact .hit (ho x hx e)
  | gate hb hg _ _ i1 i2 => exact .gate hb hg i1 i2
theorem Sep.mono {n : Net} {cut other : List Nat} (ho : ∀ y ∈ cut, y ∈ other) {x : Nat} (h : Sep n cut x) : Sep n other x := by
  induction h with
  | hit hx => exact .hit (ho _ hx)
  | gate hb hg _ _ i1 i2 => exact .gate hb hg i1 i2
theorem Sep.some {n : Net} {cut : List Nat} {x : Nat} (h : Sep n cut x) : cut ≠ [] := by
  induction h with
  | hit hx => exact List.ne_nil_of_mem hx
  | gate _ _ _ _ i1 _ => exact i1
/-- a net as the law draws it -/
structure TOk (n : Net) : Prop where
  i1 : 1 ≤ n.ins
  i4 : n.ins ≤ 4
  fl : n.starts.length ≤ 2
  gl : n.gates.length ≤ 9
  g : ∀ j g, n.gates[j]? = some g → (2 ≤ g.1 ∧ g.1 < 2 * (n.base + j)) ∧ (2 ≤ g.2 ∧ g.2 < 2 * (n.base + j)) ∧ g.1 / 2 ≠ g.2 / 2
theorem TOk.kid {n : Net} (t : TOk n) {x y : Nat} (h : y ∈ kids n x) : 1 ≤ y ∧ y < x ∧ n.base ≤ x := by
  unfold kids at h
  by_cases hb : x < n.base
  · rw [if_pos hb] at h
    cases h
  · rw [if_neg hb] at h
    cases eg : n.gates[x - n.base]? with
    | none =>
      rw [eg] at h
      cases h
    | some g =>
      rw [eg] at h
      have := t.g _ _ eg
      simp only [List.mem_cons, List.not_mem_nil, or_false] at h
      rcases h with rfl | rfl <;> omega
structure IsCut (n : Net) (gate : Nat) (cut : List Nat) (k : Nat) : Prop where
  len : cut.length ≤ k
  asc : cut.Pairwise (· < ·)
  bnd : ∀ x ∈ cut, 0 < x ∧ x < gate
  sep : ∀ y ∈ kids n gate, Sep n cut y
theorem kids_gate {n : Net} {x : Nat} (h1 : n.base ≤ x) (h2 : x < n.many) : ∃ g, n.gates[x - n.base]? = some g ∧ kids n x = [g.1 / 2, g.2 / 2] := by
  have hj : x - n.base < n.gates.length := by
    unfold Net.many at h2
    omega
  refine ⟨_, List.getElem?_eq_getElem hj, ?_⟩
  unfold kids
  rw [if_neg (by omega), List.getElem?_eq_getElem hj]
theorem IsCut.some {n : Net} {gate k : Nat} {cut : List Nat} (c : IsCut n gate cut k) (h1 : n.base ≤ gate) (h2 : gate < n.many) : cut ≠ [] := by
  obtain ⟨g, _, e⟩ := kids_gate h1 h2
  exact (c.sep (g.1 / 2) (by rw [e]; simp)).some
theorem Sep.gate_of {n : Net} {cut : List Nat} {x : Nat} (h : Sep n cut x) (hx : x ∉ cut) : n.base ≤ x ∧ x < n.many ∧ ∀ y ∈ kids n x, Sep n cut y := by
  cases h with
  | hit h => exact absurd h hx
  | @gate _ g hb hg h1 h2 =>
    have hj := (List.getElem?_eq_some_iff.mp hg).1
    refine ⟨hb, by unfold Net.many; omega, fun y hy => ?_⟩
    unfold kids at hy
    rw [if_neg (by omega), hg] at hy
    simp only [List.mem_cons, List.not_mem_nil, or_false] at hy
    rcases hy with rfl | rfl
    · exact h1
    · exact h2
theorem kids_len (n : Net) (x : Nat) : (kids n x).length ≤ 2 := by
  unfold kids
  split
  · decide
  · split <;> simp
theorem nodup_bound : ∀ {m : Nat} {xs : List Nat}, xs.Nodup → (∀ x ∈ xs, x < m) → xs.length ≤ m
  | 0, xs, _, b => by
    cases xs with
    | nil => exact Nat.le_refl _
    | cons x r => exact absurd (b x List.mem_cons_self) (Nat.not_lt_zero _)
  | m + 1, xs, h, b => by
    have ih := nodup_bound (m := m) (xs := xs.erase m) (h.erase m) fun x hx => by
      have h1 := (h.mem_erase_iff).mp hx
      have h2 := b x h1.2
      have h3 := h1.1
      omega
    rw [List.length_erase] at ih
    split at ih <;> omega
theorem many16 {n : Net} (ok : TOk n) : n.many ≤ 16 := by
  have := ok.i4
  have := ok.fl
  have := ok.gl
  unfold Net.many Net.base
  omega
/-! ### bits of gates -/
def gbit (n : Net) (kn : Nat → Option Nat) (x : Nat) : Nat := match kn x with
  | some b => b
  | none => match n.gates[x - n.base]? with
    | none => 0
    | some g => if h : g.1 / 2 < x ∧ g.2 / 2 < x then (gbit n kn (g.1 / 2) ^^^ (g.1 % 2)) * (gbit n kn (g.2 / 2) ^^^ (g.2 % 2)) else 0
termination_by x
decreasing_by
  · exact h.1
  · exact h.2
theorem gbit_hit {n : Net} {kn : Nat → Option Nat} {x b : Nat} (h : kn x = some b) : gbit n kn x = b := by
  rw [gbit, h]
theorem gbit_gate {n : Net} {kn : Nat → Option Nat} {x : Nat} {g : Nat × Nat} (h : kn x = none) (hg : n.gates[x - n.base]? = some g) (h1 : g.1 / 2 < x) (h2 : g.2 / 2 < x) :
    gbit n kn x = (gbit n kn (g.1 / 2) ^^^ (g.1 % 2)) * (gbit n kn (g.2 / 2) ^^^ (g.2 % 2)) := by
  rw [gbit, h]
  simp only [hg]
  rw [dif_pos ⟨h1, h2⟩]
theorem gbit_lt {n : Net} {kn : Nat → Option Nat} (hk : ∀ x b, kn x = some b → b < 2) (x : Nat) : gbit n kn x < 2 := by
  induction x using Nat.strongRecOn with
  | ind x ih =>
    rw [gbit]
    cases e : kn x with
    | some b => exact hk x b e
    | none =>
      simp only
      cases eg : n.gates[x - n.base]? with
      | none =>
        show 0 < 2
        decide
      | some g =>
        simp only
        split
        · rename_i h
          exact mul_lt2 (Nat.xor_lt_two_pow (n := 1) (ih _ h.1) (Nat.mod_lt _ (by decide))) (Nat.xor_lt_two_pow (n := 1) (ih _ h.2) (Nat.mod_lt _ (by decide)))
        · decide
/-- what is known of the m-th choice of values of a cut -/
def kn (cut : List Nat) (m x : Nat) : Option Nat := if x ∈ cut then some (m / 2 ^ (cut.idxOf x) % 2) else none
theorem kn_lt (cut : List Nat) (m : Nat) : ∀ x b, kn cut m x = some b → b < 2 := by
  intro x b h
  unfold kn at h
  split at h
  · cases h
    exact Nat.mod_lt _ (by decide)
  · cases h
def colOf (n : Net) (cut : List Nat) (x : Nat) : Nat := colN (2 ^ cut.length) fun m => gbit n (kn cut m) x
theorem colOf_hit {n : Net} {cut : List Nat} {x : Nat} (h : x ∈ cut) : colOf n cut x = colN (2 ^ cut.length) fun m => m / 2 ^ (cut.idxOf x) % 2 := by
  unfold colOf
  congr 1
  funext m
  exact gbit_hit (if_pos h)
theorem colOf_gate {n : Net} {cut : List Nat} {x : Nat} {g : Nat × Nat} (h : x ∉ cut) (hg : n.gates[x - n.base]? = some g) (h1 : g.1 / 2 < x) (h2 : g.2 / 2 < x) :
    colOf n cut x = (colOf n cut (g.1 / 2) ^^^ (if g.1 % 2 = 1 then 2 ^ 2 ^ cut.length - 1 else 0)) &&& (colOf n cut (g.2 / 2) ^^^ (if g.2 % 2 = 1 then 2 ^ 2 ^ cut.length - 1 else 0)) := by
  have hx : ∀ (y l : Nat), ∀ i, i < 2 ^ cut.length → gbit n (kn cut i) y ^^^ (l % 2) < 2 := fun y l i _ => Nat.xor_lt_two_pow (n := 1) (gbit_lt (kn_lt cut i) y) (Nat.mod_lt _ (by decide))
  unfold colOf
  rw [col_xor fun i _ => gbit_lt (kn_lt cut i) _, col_xor fun i _ => gbit_lt (kn_lt cut i) _, col_and (hx _ _) (hx _ _)]
  congr 1
  funext m
  exact gbit_gate (if_neg h) hg h1 h2
/-! ### what stands above a cut -/
structure MK (n : Net) (gate : Nat) (cut ks : List Nat) : Prop where
  nd : ks.Nodup
  g : gate ∈ ks
  b : ∀ x ∈ ks, n.base ≤ x ∧ x ≤ gate ∧ x ∉ cut ∧ ∀ y ∈ kids n x, Sep n cut y
structure Above (n : Net) (gate : Nat) (cut ab : List Nat) : Prop where
  asc : ab.Pairwise (· < ·)
  g : gate ∈ ab
  b : ∀ x ∈ ab, n.base ≤ x ∧ x ≤ gate ∧ x ∉ cut
  k : ∀ x ∈ ab, ∀ y ∈ kids n x, y ∈ cut ∨ y ∈ ab
theorem band (a b : Nat) : Builtin.bitAnd (a : Int) (b : Int) = ((a &&& b : Nat) : Int) := by
  rw [bitAnd_pp (Int.natCast_nonneg _) (Int.natCast_nonneg _), Int.toNat_natCast, Int.toNat_natCast]
theorem band_one (a : Nat) : Builtin.bitAnd (a : Int) 1 = ((a % 2 : Nat) : Int) := by
  have h := PySem.W.kbt_mask ((a : Nat) : Int) 1
  rw [show (2 : Int) ^ 1 - 1 = 1 by decide, show (2 : Int) ^ 1 = 2 by decide] at h
  rw [h]
  rfl
theorem shl_nat (a k : Nat) : (a : Int) * 2 ^ ((k : Int)).toNat = ((a * 2 ^ k : Nat) : Int) := by
  rw [Int.toNat_natCast, Int.natCast_mul, Int.natCast_pow]
  rfl
theorem shl_one (k : Nat) : (1 : Int) * 2 ^ ((k : Int)).toNat = ((2 ^ k : Nat) : Int) := by
  rw [Int.one_mul, Int.toNat_natCast, Int.natCast_pow]
  rfl
theorem shr_nat (a k : Nat) : (a : Int) / 2 ^ ((k : Int)).toNat = ((a / 2 ^ k : Nat) : Int) := by
  rw [Int.toNat_natCast, Int.natCast_ediv, Int.natCast_pow]
  rfl
theorem shr_one (a : Nat) : (a : Int) / 2 ^ ((1 : Int)).toNat = ((a / 2 : Nat) : Int) := rfl
end V0
/-! methods and classes of the text as callers need them; len of a set of tuples -/
namespace V0
open PySem PySem.Spec PyProof.Rows L2
structure MDef (K : PySem.W.Frag) (C : Addr) (m : Str) (f : Addr) (fd : FuncData) (ps : List Str) : Prop where
  m : Meth K C m f
  b : Binds K fd ps []
structure IDef (K : PySem.W.Frag) (C : Addr) (f : Addr) (fd : FuncData) (ps : List Str) : Prop where
  k : Mk K C f
  b : Binds K fd ps []
/-- len of a set of tuples -/
def rLenST (P : Program) (w : World) : List V → Hp → VK → Prop := fun vs H Q => ∃ (a : Addr) (L : List (Addr × List Int)), vs = [.ref a] ∧ H a = some (SetTO P w a L) ∧ ((L.map (·.2)).Nodup → Q (.int (L.length : Nat)) H)
theorem call_lenST {X : Cx} : CallR X (.builtin "len") (rLenST X.prog X.w) := by
  intro pins s σ H vs us Q I r h
  obtain ⟨a, L, rfl, ha, q⟩ := h
  obtain rfl := Vals.ref1 r
  have R0 : SetT0 X.prog X.w s.heap a L := (I.hok a _ ha).1
  obtain ⟨es, ep, t, ⟨o, ho, hex, hd⟩, rows, tab, nd, _, _, room, few⟩ := R0.ex
  have hl : es.size = L.length := by
    rw [← Array.length_toList, rows]
    exact List.length_map _
  have hfits : t.fits es.size = true := by
    unfold SetTable.fits SetTable.fill
    have hsz := tab.sz
    rw [List.length_map] at hsz
    rw [tab.dm, Bool.and_eq_true, beq_iff_eq, decide_eq_true_eq]
    show t.place.size = es.size ∧ t.place.size + 0 ≤ t.mask
    omega
  refine call_len_set ho hex hd hfits (by omega) ⟨.int (L.length : Nat), H, I.tok _, ⟨_, by rw [hl]⟩, q nd⟩
end V0
/-! xs[i] op= e; more operators in place; comprehensions of two clauses by an invariant -/
namespace V0
open PySem PySem.Spec PyProof.Rows L2
theorem pg_ixL {X : Cx} : PGet X (rIxL X.K) := by
  intro pins s σ H x y v u Q I rx ry h
  obtain ⟨p, xs, i, z, rfl, rfl, hq, he, q⟩ := h
  cases rx
  obtain ⟨t, rfl⟩ := ry
  obtain ⟨its, r, pl, hz⟩ := I.list hq
  obtain ⟨j, h1, h2, h3, h4, h5⟩ := atI_get he
  obtain ⟨w, ew, rw'⟩ := r.get h2
  have hl := r.length
  have hn := line63
  have fin : EP X pins σ Q w s := ⟨z, H, I, rw', q⟩
  by_cases h0 : 0 ≤ i
  · have hj : i.toNat = j := by
      rw [seqIndex_of h0 h5] at h1
      exact Option.some.inj h1
    exact wpAny_getItem_list pl.isList h0 (by omega) (by rw [hj]; simpa using ew) fin
  · have hj : (i + (its.toArray.size : Int)).toNat = j := by
      rw [seqIndex_neg (by omega) h4] at h1
      rw [List.size_toArray, ← hl]
      exact Option.some.inj h1
    exact wpAny_getItem_list_neg pl.isList (by omega) (by rw [List.size_toArray] <;> omega) (by omega) (by rw [hj]; simpa using ew) fin
theorem ip_or {X : Cx} : PIp X .BitOr (ipI fun i j => Builtin.bitOr i j) := by
  intro pins s σ H x y v u Q I r1 r2 h
  obtain ⟨i, j, e1, e2, q⟩ := h
  subst e1; subst e2
  obtain ⟨t, rfl⟩ := r1
  obtain ⟨t', rfl⟩ := r2
  exact ior_int ⟨.int _, H, I.tok _, ⟨_, rfl⟩, q⟩
/-- a star in a display, K told -/
theorem pa_starK {X : Cx} {K : PySem.W.Frag} {e : Expr} {es : List Expr} {te : TE} {t : TA} {p : Pos} (hK : X.K = K) (he : PE X e te) (hr : PA X es t) (hs : starEach (.Starred e p :: es) X.env = (true, eval e X.env) :: starEach es X.env := by rfl) : PA X (.Starred e p :: es) (StX.tStar K te t) := by
  subst hK
  exact StX.pa_star he hr hs
/-- a if t else b: what both ways give -/
theorem ifx {b : Bool} {A B : VK → Prop} {Q : VK} (R : V → Hp → Prop) (hA : b = true → ∀ Q : VK, (∀ y H', R y H' → Q y H') → A Q) (hB : b = false → ∀ Q : VK, (∀ y H', R y H' → Q y H') → B Q) (fin : ∀ y H', R y H' → Q y H') : if b = true then A Q else B Q := by
  cases b with
  | true => exact iteT (hA rfl Q fin)
  | false => exact iteF (hB rfl Q fin)
/-- a walked thing's number of turns, and what each turn gives -/
structure Wk (J : It) (n : Nat) (Y : Nat → Hp → V → Hp → Prop) (S : Nat → Hp → Prop) : Prop where
  stop : ∀ H, S n H → J.stop n H
  go : ∀ i H, i < n → S i H → J.go i H
  yld : ∀ i H x H', i < n → S i H → J.yld i H x H' → Y i H x H'
theorem wk_range {lo : Int} {n : Nat} : Wk (Itr lo n) n (fun i H x H' => x = .int (lo + i) ∧ H' = H) (fun _ _ => True) := by
  refine ⟨fun H _ => Nat.le_refl _, fun i H h _ => h, fun i H x H' _ _ y => ?_⟩
  obtain ⟨e, y⟩ := y
  exact ⟨y, e⟩
theorem wk_list {K : PySem.W.Frag} {a : Addr} {xs : List V} : Wk (Itl K a) xs.length (fun i H x H' => xs[i]? = some x ∧ H' = H) (fun _ H => SqL K H a xs) := by
  refine ⟨fun H h => ⟨xs, h, Nat.le_refl _⟩, fun i H h s => ⟨xs, xs[i], s, by simp [h]⟩, fun i H x H' _ s y => ?_⟩
  obtain ⟨e, y⟩ := y
  subst e
  exact ⟨y xs s, rfl⟩
theorem wk_tup {K : PySem.W.Frag} {a : Addr} {xs : List V} : Wk (Itt K a) xs.length (fun i H x H' => xs[i]? = some x ∧ H' = H) (fun _ H => SqT K H a xs) := by
  refine ⟨fun H h => ⟨xs, h, Nat.le_refl _⟩, fun i H h s => ⟨xs, xs[i], s, by simp [h]⟩, fun i H x H' _ s y => ?_⟩
  obtain ⟨e, y⟩ := y
  subst e
  exact ⟨y xs s, rfl⟩
/-- the outer clause of a comprehension of two, and its inner one -/
theorem lc2_out {J : It} {n : Nat} {Y : Nat → Hp → V → Hp → Prop} {S : Nat → Hp → Prop} {g : TG} {tt : TT} {inner : L2.St → Hp → (Hp → Prop) → Prop} {vs : List Nat} {σ : L2.St} {H1 : Hp} {Qd : Hp → Prop} (w : Wk J n Y S) (Pv : Nat → Hp → Prop) (h0 : Pv 0 H1) (hl : ∀ i H, i ≤ n → Pv i H → S i H)
    (hs : ∀ i H x H', i < n → Pv i H → Y i H x H' → g x (wipe σ vs) H' fun σ2 H2 => wipe σ2 vs = wipe σ vs ∧ tt σ2 H2 fun b H3 => if b = true then inner σ2 H3 (Pv (i + 1)) else Pv (i + 1) H3) (hd : ∀ H, Pv n H → Qd H) :
    ∃ W : Nat → Nat → Hp → Prop, (∃ m, W 0 m H1) ∧ ∀ i m H, W i m H →
      (J.stop i H ∧ Qd H) ∨ (J.go i H ∧ ∃ Nx : Hp → Prop, (∀ H', Nx H' → ∃ m', m' < m ∧ W (i + 1) m' H') ∧ ∀ x H', J.yld i H x H' → g x (wipe σ vs) H' fun σ2 H2 => wipe σ2 vs = wipe σ vs ∧ tt σ2 H2 fun b H3 =>
        if b = true then inner σ2 H3 Nx else Nx H3) := by
  refine ⟨fun i m H => m = n - i ∧ i ≤ n ∧ Pv i H, ⟨n, by simp, Nat.zero_le _, h0⟩, ?_⟩
  rintro i m H ⟨rfl, hi, p⟩
  by_cases hlt : i < n
  · refine .inr ⟨w.go i H hlt (hl i H hi p), Pv (i + 1), fun H' p' => ⟨n - (i + 1), by omega, rfl, hlt, p'⟩, fun x H' y => ?_⟩
    exact hs i H x H' hlt p (w.yld i H x H' hlt (hl i H hi p) y)
  · have e : i = n := by omega
    subst e
    exact .inl ⟨w.stop H (hl i H hi p), hd H p⟩
end V0
/-! list(d.values()) -/
namespace V0
open PySem PySem.Spec PyProof.Rows L2
/-- list(o.values()), o a dict -/
def tListVals (td : TE) : TE := fun σ H Q => td σ H fun x H1 => ∃ a kvs, x = V.ref a ∧ H1 a = some (.dK kvs) ∧ ∀ q, H1 q = none → Q (.ref q) (upd H1 q (.lst (kvs.map (·.2))))
theorem kv_at : ∀ {kvs : List (Key × V)} {vs : List (Key × Value)}, KV kvs vs → ∀ {i : Nat} {k : Key} {v : Value}, vs[i]? = some (k, v) → ∃ x, kvs[i]? = some (k, x) ∧ RelV x v := by
  intro kvs vs r
  induction r with
  | nil =>
    intro i k v e
    simp at e
  | cons p r ih =>
    intro i k v e
    rename_i a b as bs
    cases i with
    | zero =>
      cases e
      exact ⟨a.2, (show some a = some (k, a.2) from congrArg some (Prod.ext p.1 rfl)), p.2⟩
    | succ i => exact ih e
theorem pe_listVals {X : Cx} {o : Expr} {p pos apos mpos : Pos} {td : TE} (hc : X.calm = true) (hg : Gl X "list") (hm : X.mg "list" = none) (hd : PE X o td) (hbase : attributeBase o "values" X.env (eval o X.env) = eval o X.env := by rfl) (hline : (apos.endLine == mpos.line) = true := by rfl)
    (na : starEach [Expr.Call (.Attribute o "values" apos) [] [] mpos] X.env = (false, eval (Expr.Call (.Attribute o "values" apos) [] [] mpos) X.env) :: starEach [] X.env := by rfl) :
    PE X (.Call (.Name "list" p) [.Call (.Attribute o "values" apos) [] [] mpos] [] pos) (tListVals td) := by
  refine ⟨fun pins s σ H Q I h => ?_⟩
  refine Call_ (ld_blt I hg hm boot_list (PyProof.Rows.callWith_type1 (args_cons (wpAny_Call_method0_late hbase hline (thn (hd.run pins s σ H _ I h) fun v s1 ⟨x, H1, I1, r1, a, kvs, ex, ha, q⟩ => ?_)) na) na))
  subst ex
  obtain rfl : v = Value.ref a := r1
  obtain ⟨hz, hsys, vs, rel, dof⟩ := dk_of I1.hok ha
  obtain ⟨ep, dat⟩ := dof.dictAt
  have dat' := dat
  obtain ⟨ob, es, ho, ex, hdat, hko, hpr, hnd⟩ := dat'
  refine ⟨"dict", "dict.values", F.plainAttrs_dict, F.slot_dict_values, F.type_dict_values, ⟨ob, ho, ex.1⟩, fun b e => ?_, Calls.callWith_builtin rfl (PySem.evalArgs_none ?_)⟩
  · cases e
    exact ⟨ob, ho, ex.2.1⟩
  refine call_meetsIn F.slot_dict_values ⟨ob, ho, ex.1⟩ F.entry_dict_values (F.args_dict_values_1 _) (meets_dict_values (mixKind X.prog X.w) a hsys) ⟨⟨vs, dof⟩, args_nil ?_⟩
  have k1 : ∀ b u, s1.heap.get? b = some u → (s1.heap.push { cls := .type "dict_values", data := .fields #[.ref a] }).get? b = some u := fun b u e => Heap.get?_push_of_some _ e
  have dat1 : (s1.heap.push { cls := .type "dict_values", data := .fields #[.ref a] }).DictAt (mixKind X.prog X.w) a vs ep := dat.keep k1
  have hl : kvs.length = vs.length := Paired.length rel
  refine PySem.W.kdl_call (PySem.W.kdl_values (knd := mixKind X.prog X.w) (kvs := vs) (ep := ep) (r := s1.heap.objs.size) (d := a)) (I1.ok.hd hc) ⟨⟨_, Heap.get?_push_size _ rfl, rfl, rfl⟩, dat1⟩ (by rw [← hl]; exact hz) fun h' tk acc' c' hk hS hacc => ?_
  have up : s1.heap.objs.size ≤ (s1.heap.push { cls := .type "dict_values", data := .fields #[.ref a] }).objs.size := by rw [Heap.size_push]; exact Nat.le_succ _
  refine ⟨.ref _, upd H1 _ (.lst (kvs.map (·.2))), I1.laid (t' := tk) (fun b u e => hk b u (k1 b u e)) up (show ObjOk X.prog X.w _ _ _ (.lst (kvs.map (·.2))) from ⟨?_, acc'.toList, c', ?_, ?_⟩), rfl, q _ (I1.hok.fresh up)⟩
  · rw [List.length_map]
    exact hz
  · have el : acc'.toList.length = acc'.size := by simp
    refine vals_of_at (by rw [List.length_map, el, hacc.1, hl]) fun j x w h1 h2 => ?_
    obtain ⟨k, hky⟩ := hacc.2 j w (by rw [← Array.getElem?_toList]; exact h2)
    obtain ⟨y, e1, e2⟩ := kv_at rel hky
    rw [List.getElem?_map, e1] at h1
    cases h1
    exact e2
  · rw [Array.toArray_toList]
    exact hS
end V0
/-! a dict comprehension set to a name -/
namespace V0
open PySem PySem.Spec PyProof.Rows L2
theorem ps_setDc {X : Cx} {i : Nat} {y : Str} {py : Pos} {kx vx tg iter : Expr} {ifs : List Expr} {scope : Scope} {own : List (Str × Nat)} {pos spos : Pos} {wi : TI} {g : TG} {tt : TT} {tk tv : TE} (hc : X.calm = true) (hN : X.N.Nodup) (hy : X.N[i]? = some y) (hyl : X.env.scope.names.lookup y = some .local)
    (hsw : swapsWith (.DictComp kx vx [⟨tg, iter, ifs, 0⟩] scope pos) (some (.Name y py)) spos.line X.env = pure true) (hi : PI X tg iter wi) (ok : BlkOk X.N X.env.scope scope own)
    (hg : ∀ (s : Shared) (H : Hp) (C : Addr) (cl : List (Str × Addr)) (fp : List Addr), PG (X.blk s H scope (compEnvC scope cl C X.env) fp) tg g) (ht : ∀ (s : Shared) (H : Hp) (C : Addr) (cl : List (Str × Addr)) (fp : List Addr), PTs (X.blk s H scope (compEnvC scope cl C X.env) fp) ifs tt)
    (hk : ∀ (s : Shared) (H : Hp) (C : Addr) (cl : List (Str × Addr)) (fp : List Addr), PE (X.blk s H scope (compEnvC scope cl C X.env) fp) kx tk)
    (he : ∀ (s : Shared) (H : Hp) (C : Addr) (cl : List (Str × Addr)) (fp : List Addr), PE (X.blk s H scope (compEnvC scope cl C X.env) fp) vx tv) (hs : ∀ x, foldedSetIterable iter X.env x = pure x := by intro _; rfl) :
    PS X (.Assign [.Name y py] (.DictComp kx vx [⟨tg, iter, ifs, 0⟩] scope pos) spos) (tAsg (tDc wi g tt tk tv (own.map (·.2))) (gName i)) := by
  refine ⟨fun pins s σ H D I h => ?_⟩
  rw [exec_Assign_Name_used _ _ _ _ hsw]
  refine wpAny_bind (wpAny_standAt (wpAny_bind ?_))
  show wpAny _ X.A (do let _ ← comprehension (.DictComp kx vx [⟨tg, iter, ifs, 0⟩] scope pos) scope X.env (firstIterPos [⟨tg, iter, ifs, 0⟩] pos) newDict false (eval iter X.env) (some (assign (.Name y py) X.env))) _ _ s
  have h : tDc wi g tt tk tv (own.map (·.2)) σ H (fun x H1 => gName i x σ H1 D.nx) := h
  refine wpAny_bind (thn (dc_core (Qf := fun _ s' => SP X pins D .next s') hc hN I hi ok hg ht hk he hs h fun L C s' m H' I' q hn f => ?_) fun _ s' hq => wpAny_pure (wpAny_pure hq))
  show wpAny _ _ (assign (.Name y py) X.env (.ref L)) _ _ _
  refine wpAny_assign_Name (store_ok2 (v := V.ref L) I' hN hy (.inl hyl) rfl (fun s2 I2 ⟨a, sb, ha⟩ => ?_) (.inr hyl))
  obtain ⟨f0, f1, f2, f3, f4, f5⟩ := f
  have haC : C ≠ a := by
    rcases ha with z | z
    · rw [z]; exact f1
    · exact fun e => f4 y a z e.symm
  refine ⟨m, hn.sameBut sb haC, fun h3 sb3 => ?_⟩
  exact ⟨_, H', I2.turned (t' := s2.toks) (fun b o hb e => (sb3.2 b hb).trans e) f0 f1 f3 f4 f5, q⟩
theorem swd_true {kx vx : Expr} {gs : List Comprehension} {scope : Scope} {pos py : Pos} {y : Str} {l : Nat} {env : Env} (hk : env.scope.kind = .function) (hy : env.scope.names.lookup y = some .local) (hl : (py.line == pos.line) = true)
    (ha : (scope.names.any fun (n, k) => n == y && (k == .local || k == .cell)) = false) : swapsWith (.DictComp kx vx gs scope pos) (some (.Name y py)) l env = pure true := by
  have ky : env.kindOf y = some .local := hy
  have hb : env.blockKind = .function := by unfold Env.blockKind; rw [hk]; rfl
  unfold swapsWith
  simp only [hb, ky, ha, Expr.pos, hl]
  rfl
end V0
namespace K41
open PySem PySem.Spec PyProof.Rows L2 V0
def topS (i : Nat) : Stmt := PySem.Challenge.pw_cellcloth_k41_origins_of_literals.main.body.getD i (.Pass ⟨0, 0, 0, 0⟩)
abbrev s__law_state : Stmt := topS 14
abbrev N__law_state : List Str := ["script", "seed", "cell"]
theorem sc_law_state : FnScope ["script", "seed", "cell"] ["script"] (defScope s__law_state) := ⟨rfl, rfl, rfl, by decide +kernel, rfl, by decide +kernel, by decide +kernel⟩
abbrev s__law_draw : Stmt := topS 15
abbrev N__law_draw : List Str := ["state", "many", "cells", "value", "mixed"]
theorem sc_law_draw : FnScope ["state", "many", "cells", "value", "mixed"] ["state", "many"] (defScope s__law_draw) := ⟨rfl, rfl, rfl, by decide +kernel, rfl, by decide +kernel, by decide +kernel⟩
abbrev s__law_pick : Stmt := topS 16
abbrev N__law_pick : List Str := ["state", "row"]
theorem sc_law_pick : FnScope ["state", "row"] ["state", "row"] (defScope s__law_pick) := ⟨rfl, rfl, rfl, by decide +kernel, rfl, by decide +kernel, by decide +kernel⟩
abbrev s__law_net : Stmt := topS 17
abbrev N__law_net : List Str := ["state", "ins", "flops", "most", "k", "starts", "gates", "many", "low", "nexts"]
theorem sc_law_net : FnScope ["state", "ins", "flops", "most", "k", "starts", "gates", "many", "low", "nexts"] ["state", "ins", "flops", "most"] (defScope s__law_net) := ⟨rfl, rfl, rfl, by decide +kernel, rfl, by decide +kernel, by decide +kernel⟩
abbrev s__law_is_flop : Stmt := topS 22
abbrev N__law_is_flop : List Str := ["net", "node"]
theorem sc_law_is_flop : FnScope ["net", "node"] ["net", "node"] (defScope s__law_is_flop) := ⟨rfl, rfl, rfl, by decide +kernel, rfl, by decide +kernel, by decide +kernel⟩
abbrev s__law_stays : Stmt := topS 23
abbrev N__law_stays : List Str := ["net", "node", "k"]
theorem sc_law_stays : FnScope ["net", "node", "k"] ["net", "node"] (defScope s__law_stays) := ⟨rfl, rfl, rfl, by decide +kernel, rfl, by decide +kernel, by decide +kernel⟩
abbrev s__law_origin : Stmt := topS 24
abbrev N__law_origin : List Str := ["net", "literal", "firsts", "at", "odd"]
theorem sc_law_origin : FnScope ["net", "literal", "firsts", "at", "odd"] ["net", "literal"] (defScope s__law_origin) := ⟨rfl, rfl, rfl, by decide +kernel, rfl, by decide +kernel, by decide +kernel⟩
abbrev s__law_lag : Stmt := topS 25
abbrev N__law_lag : List Str := ["net", "lags", "literal", "at"]
theorem sc_law_lag : FnScope ["net", "lags", "literal", "at"] ["net", "lags", "literal"] (defScope s__law_lag) := ⟨rfl, rfl, rfl, by decide +kernel, rfl, by decide +kernel, by decide +kernel⟩
abbrev s__law_allowed : Stmt := topS 26
abbrev N__law_allowed : List Str := ["net", "lags", "k", "literal", "one", "weight", "firsts"]
theorem sc_law_allowed : FnScope ["net", "lags", "k", "literal", "one", "weight", "firsts"] ["net", "lags"] (defScope s__law_allowed) := ⟨rfl, rfl, rfl, by decide +kernel, rfl, by decide +kernel, by decide +kernel⟩
abbrev s__law_lags : Stmt := topS 28
abbrev N__law_lags : List Str := ["state", "net", "lags", "turn", "at"]
theorem sc_law_lags : FnScope ["state", "net", "lags", "turn", "at"] ["state", "net"] (defScope s__law_lags) := ⟨rfl, rfl, rfl, by decide +kernel, rfl, by decide +kernel, by decide +kernel⟩
abbrev s_origin_of : Stmt := topS 8
abbrev N_origin_of : List Str := ["net", "literal", "_", "ins", "starts", "nexts", "at", "firsts", "flop"]
theorem scorigin_of : FnScope ["net", "literal", "_", "ins", "starts", "nexts", "at", "firsts", "flop"] ["net", "literal"] (defScope s_origin_of) := ⟨rfl, rfl, rfl, by decide +kernel, rfl, by decide +kernel, by decide +kernel⟩
abbrev s_origin : Stmt := topS 10
abbrev N_origin : List Str := ["net", "literal"]
theorem scorigin : FnScope ["net", "literal"] ["net", "literal"] (defScope s_origin) := ⟨rfl, rfl, rfl, by decide +kernel, rfl, by decide +kernel, by decide +kernel⟩
abbrev s__finished_from : Stmt := topS 5
abbrev N__finished_from : List Str := ["first", "uses", "seen", "done", "stack", "name", "at", "other"]
theorem sc_finished_from : FnScope ["first", "uses", "seen", "done", "stack", "name", "at", "other"] ["first", "uses", "seen"] (defScope s__finished_from) := ⟨rfl, rfl, rfl, by decide +kernel, rfl, by decide +kernel, by decide +kernel⟩
abbrev s_finished : Stmt := topS 4
abbrev N_finished : List Str := ["names", "uses", "done", "seen", "name"]
theorem scfinished : FnScope ["names", "uses", "done", "seen", "name"] ["names", "uses"] (defScope s_finished) := ⟨rfl, rfl, rfl, by decide +kernel, rfl, by decide +kernel, by decide +kernel⟩
abbrev s_Wires_new_weights : Stmt := inClass (topS 7) 2
abbrev N_Wires_new_weights : List Str := ["self", "lags", "gate", "literal", "weight", "_"]
theorem scWires_new_weights : FnScope ["self", "lags", "gate", "literal", "weight", "_"] ["self", "lags", "gate"] (defScope s_Wires_new_weights) := ⟨rfl, rfl, rfl, by decide +kernel, rfl, by decide +kernel, by decide +kernel⟩
abbrev s_Wires_sources : Stmt := inClass (topS 7) 4
abbrev N_Wires_sources : List Str := ["self", "lags", "gate", "found", "pin", "weight", "node"]
theorem scWires_sources : FnScope ["self", "lags", "gate", "found", "pin", "weight", "node"] ["self", "lags", "gate"] (defScope s_Wires_sources) := ⟨rfl, rfl, rfl, by decide +kernel, rfl, by decide +kernel, by decide +kernel⟩
abbrev s_Wires_ordered : Stmt := inClass (topS 7) 5
abbrev N_Wires_ordered : List Str := ["self", "lags", "uses", "gate", "node", "_"]
theorem scWires_ordered : FnScope ["self", "lags", "uses", "gate", "node", "_"] ["self", "lags"] (defScope s_Wires_ordered) := ⟨rfl, rfl, rfl, by decide +kernel, rfl, by decide +kernel, by decide +kernel⟩
abbrev s_Wires_new_levels : Stmt := inClass (topS 7) 6
abbrev N_Wires_new_levels : List Str := ["self", "lags", "found", "gate", "node", "_"]
theorem scWires_new_levels : FnScope ["self", "lags", "found", "gate", "node", "_"] ["self", "lags"] (defScope s_Wires_new_levels) := ⟨rfl, rfl, rfl, by decide +kernel, rfl, by decide +kernel, by decide +kernel⟩
abbrev s_Wires_all_lags : Stmt := inClass (topS 7) 1
abbrev N_Wires_all_lags : List Str := ["self", "lags"]
theorem scWires_all_lags : FnScope ["self", "lags"] ["self", "lags"] (defScope s_Wires_all_lags) := ⟨rfl, rfl, rfl, by decide +kernel, rfl, by decide +kernel, by decide +kernel⟩
abbrev s__period_of : Stmt := topS 12
abbrev N__period_of : List Str := ["wires", "lags", "levels"]
theorem sc_period_of : FnScope ["wires", "lags", "levels"] ["wires", "lags"] (defScope s__period_of) := ⟨rfl, rfl, rfl, by decide +kernel, rfl, by decide +kernel, by decide +kernel⟩
abbrev s_base_of : Stmt := topS 2
abbrev N_base_of : List Str := ["net"]
theorem scbase_of : FnScope ["net"] ["net"] (defScope s_base_of) := ⟨rfl, rfl, rfl, by decide +kernel, rfl, by decide +kernel, by decide +kernel⟩
abbrev s_Wires___init__ : Stmt := inClass (topS 7) 0
abbrev N_Wires___init__ : List Str := ["self", "net", "gate", "pair", "x"]
theorem scWires___init__ : FnScope ["self", "net", "gate", "pair", "x"] ["self", "net"] (defScope s_Wires___init__) := ⟨rfl, rfl, rfl, by decide +kernel, rfl, by decide +kernel, by decide +kernel⟩
abbrev s_period : Stmt := topS 11
abbrev N_period : List Str := ["net", "lags"]
theorem scperiod : FnScope ["net", "lags"] ["net", "lags"] (defScope s_period) := ⟨rfl, rfl, rfl, by decide +kernel, rfl, by decide +kernel, by decide +kernel⟩
abbrev s__law_period : Stmt := topS 27
abbrev N__law_period : List Str := ["net", "lags", "first", "deep", "turn", "k", "literal", "one", "weight", "firsts"]
theorem sc_law_period : FnScope ["net", "lags", "first", "deep", "turn", "k", "literal", "one", "weight", "firsts"] ["net", "lags"] (defScope s__law_period) := ⟨rfl, rfl, rfl, by decide +kernel, rfl, by decide +kernel, by decide +kernel⟩
abbrev s_law : Stmt := topS 29
abbrev N_law : List Str := ["script", "state", "net", "before", "many", "literal", "lags", "none"]
theorem sclaw : FnScope ["script", "state", "net", "before", "many", "literal", "lags", "none"] ["script"] (defScope s_law) := ⟨rfl, rfl, rfl, by decide +kernel, rfl, by decide +kernel, by decide +kernel⟩
structure Txt (K : PySem.W.Frag) (mg : Str → Option Value) (C_Wires : Addr) : Prop where
  c_Wires : Cls K C_Wires
  m_Wires : mg "Wires" = some (.ref C_Wires)
  n_Wires_before : NoAttr K C_Wires "before"
  n_Wires_first : NoAttr K C_Wires "first"
  n_Wires_gates : NoAttr K C_Wires "gates"
  n_Wires_pairs : NoAttr K C_Wires "pairs"
  m_abs : mg "abs" = none
  m_enumerate : mg "enumerate" = none
  m_int : mg "int" = none
  m_len : mg "len" = none
  m_list : mg "list" = none
  m_max : mg "max" = none
  m_range : mg "range" = none
  m_repr : mg "repr" = none
  m_zip : mg "zip" = none
end K41
namespace K41
open PySem PySem.Spec PyProof.Rows L2 V0
/-! ### the draws -/
def sp__law_state (K : PySem.W.Frag) : Sp := fun vs H Q _ => ∃ (a : Addr) (ns : List Int), vs = [.ref a] ∧ SqL K H a (vi ns) ∧ ns.length ≤ 63 ∧ ∀ H' p c, Same H H' → Dr H' p c → Q (.ref p) H'
theorem ok__law_state {P : Program} {w : World} {K : PySem.W.Frag} {mg : Str → Option Value} {base : Heap} {C_Wires : Addr} {f  : Addr} {fd  : FuncData} (F : Fun K "_law_state" "_law_state" s__law_state f fd) (T : Txt K mg C_Wires) :
    FnOk P w K mg base CX0 1 f fd ["script"] (sp__law_state K) := by
  refine F.ok sc_law_state (fun vs H Q E h => ?_) (fun cdv A outer s H vs Q E hr h => ?_)
  · obtain ⟨a, ns, rfl, _⟩ := h
    rfl
  · obtain ⟨a, ns, rfl, hS, hl, q⟩ := h
    refine ⟨_, (pss_cons (ps_set (i := 1) sc_law_state.nd rfl (.inl rfl) pe_int)
      (pss_cons (ps_for PassesOwn.never rfl (pi_list (pv 0)) (pg_name (i := 2) sc_law_state.nd rfl (Or.inl rfl)) (pss_one (ps_set (i := 1) sc_law_state.nd rfl (.inl rfl) (pe_op op_modN (pe_callTy call_int1 (by rfl) T.m_int (by decide +kernel) (pa_cons (pe_op op_add (pe_op op_mul (pv 1) pe_int) (pv 2)) pa_nil)) pe_int))))
      (pss_one (ps_ret (pe_lst (pa_cons (pe_lc (own := [("cell", 2)]) (g := gName 2) (tt := tYes) rfl sc_law_state.nd (pi_list (pv 0)) (blkOk_by (N := N__law_state) (sc := defScope s__law_state) (by decide +kernel)) (fun _ _ _ _ _ => (pg_name (i := 2) sc_law_state.nd rfl (Or.inl rfl))) (fun _ _ _ _ _ => pts_nil) (fun _ _ _ _ _ => (pe_callB call_abs (by rfl) T.m_abs (by decide +kernel) (pa_cons (pe_callTy call_int1 (by rfl) T.m_int (by decide +kernel) (pa_cons (pv 2) pa_nil)) pa_nil)))) (pa_cons (pe_op op_add (pv 1) pe_int) pa_nil))))))), ?_⟩
    refine ⟨_, rfl, a, rfl, ⟨_, hS⟩, for_list (xs := vi ns) (fun _ σ H' => ∃ (z : Int) (y : Option V), σ = [some (.ref a), some (.int z), y] ∧ H' = H) ⟨7, none, rfl, rfl⟩ (fun i σ H' _ h => ?_) ?_ ?_⟩
    · obtain ⟨z, y, _, rfl⟩ := h
      exact hS
    · rintro i v σ H' hv ⟨z, y, rfl, rfl⟩
      obtain ⟨n, hn, rfl⟩ := List.mem_map.mp (List.mem_of_getElem? hv)
      refine ⟨_, rfl, _, _, rfl, rfl, .inr ⟨by decide, by decide⟩, _, rfl, _, _, rfl, rfl, .inl ⟨_, rfl, _, _, rfl, rfl, (show (1000003 : Int) ≠ 0 by decide), ?_⟩⟩
      exact ⟨_, _, rfl, rfl⟩
    · rintro σ H' ⟨z, y, rfl, rfl⟩
      refine ⟨_, rfl, a, rfl, ⟨_, hS⟩, fun D hD => lc_list (xs := vi ns) (fun i H'' => Same H' H'' ∧ H'' D = some (.lst (vn ((ns.take i).map Int.natAbs)))) ⟨same_new hD, upd_same⟩ (fun i H'' _ h => h.1.seq hS) ?_ ?_⟩
      · rintro i v H'' hv ⟨sm, hD'⟩
        have hi : i < ns.length := by
          have h := (List.getElem?_eq_some_iff.mp hv).1
          rw [List.length_map] at h
          exact h
        rw [List.getElem?_map, List.getElem?_eq_getElem hi] at hv
        cases hv
        refine ⟨rfl, _, rfl, .inl ⟨_, rfl, _, rfl, _, hD', ?_, same_mut sm hD, ?_⟩⟩
        · rw [vn_len, List.length_map, List.length_take]
          exact small1000 (by omega)
        · rw [upd_same, List.take_add_one, List.getElem?_eq_getElem hi]
          have e : (if ns[i] < 0 then -ns[i] else ns[i]) = ((ns[i].natAbs : Nat) : Int) := by
            by_cases h : ns[i] < 0
            · rw [if_pos h]
              omega
            · rw [if_neg h]
              omega
          rw [e]
          unfold vn
          rw [List.map_append, List.map_append]
          rfl
      · rintro H'' ⟨sm, hD'⟩
        refine ⟨_, rfl, _, _, rfl, rfl, by show 2 ≤ sizeLine; decide, fun p hp => ?_⟩
        have hDp : D ≠ p := fun e => by
          rw [e, hp] at hD'
          cases hD'
        refine q _ p D (same_mut sm (by rcases hq : H' p with _ | o; rfl; rw [sm _ _ hq] at hp; cases hp)) ⟨fun e => hDp e.symm, (ns.take (vi ns).length).map Int.natAbs, z + 1, upd_same, ?_, ?_⟩
        · rw [upd_ne hDp]
          exact hD'
        · rw [List.length_map, List.length_take]
          omega
def sp__law_draw (K : PySem.W.Frag) : Sp := fun vs H Q _ => ∃ (p c : Addr) (n : Nat), vs = [.ref p, .int n] ∧ Dr H p c ∧ 0 < n ∧ n < 1073741824 ∧ ∀ H' (d : Nat), Go p c H H' → d < n → Q (.int d) H'
theorem ok__law_draw {P : Program} {w : World} {K : PySem.W.Frag} {mg : Str → Option Value} {base : Heap} {C_Wires : Addr} {f  : Addr} {fd  : FuncData} (F : Fun K "_law_draw" "_law_draw" s__law_draw f fd) (T : Txt K mg C_Wires) :
    FnOk P w K mg base CX0 1 f fd ["state", "many"] (sp__law_draw K) := by
  refine F.ok sc_law_draw (fun vs H Q E h => ?_) (fun cdv A outer s H vs Q E hr h => ?_)
  · obtain ⟨p, c, n, rfl, _⟩ := h
    rfl
  · obtain ⟨p, c, n, rfl, d0, h0, h1, q⟩ := h
    have nz : ((n : Nat) : Int) ≠ 0 := by omega
    have fm : ∀ x : Nat, ((x : Int)).fmod (n : Int) = ((x % n : Nat) : Int) := fun x => by rw [Int.fmod_eq_emod_of_nonneg _ (by omega)]; omega
    obtain ⟨nc, cs0, z0, hp0, hc0, hl0⟩ := d0
    refine ⟨_, (pss_cons (ps_set (i := 2) sc_law_draw.nd rfl (.inl rfl) (pe_ix (r := rIxL K) ix_list (pv 0) pe_int (fun _ _ => rfl)))
      (C8.pss_cut (ps_while PassesOwn.never (PW.pt (pw_and (pt_cmpR op_gt (pe_callB call_len_seq (by rfl) T.m_len (by decide +kernel) (pa_cons (pv 2) pa_nil)) pe_int (nomark _)) (pw_and1 (pt_cmpR op_eq (pe_ix (r := rIxL K) ix_list (pv 2) pe_int (fun _ _ => rfl)) pe_int (nomark _))))) (pss_one (ps_expr (pe_bm PySem.F.plainAttrs_list PySem.F.slot_list_pop PySem.F.type_list_pop mt_popAt (pv 2) (pa_cons pe_int pa_nil)))))
      (pss_cons (ps_if (pt_cmpR op_gt (pe_callB call_len_seq (by rfl) T.m_len (by decide +kernel) (pa_cons (pv 2) pa_nil)) pe_int (nomark _)) (pss_cons (ps_set (i := 3) sc_law_draw.nd rfl (.inl rfl) (pe_ix (r := rIxL K) ix_list (pv 2) pe_int (fun _ _ => rfl)))
      (pss_cons (ps_asg (pe_op op_fdivN (pv 3) (pv 1)) (pg_sub (pv 2) pe_int set_list))
      (pss_one (ps_ret (pe_op op_modN (pe_callTy call_int1 (by rfl) T.m_int (by decide +kernel) (pa_cons (pv 3) pa_nil)) (pv 1)))))) pss_nil)
      (pss_cons (ps_set (i := 4) sc_law_draw.nd rfl (.inl rfl) (pe_op op_modN (pe_callTy call_int1 (by rfl) T.m_int (by decide +kernel) (pa_cons (pe_op op_add (pe_op op_mul (pe_ix (r := rIxL K) ix_list (pv 0) pe_int (fun _ _ => rfl)) pe_int) pe_int) pa_nil)) pe_int))
      (pss_cons (ps_asg (pv 4) (pg_sub (pv 0) pe_int set_list))
      (pss_one (ps_ret (pe_op op_modN (pe_callTy call_int1 (by rfl) T.m_int (by decide +kernel) (pa_cons (pe_op op_fdivN (pv 4) pe_int) pa_nil)) (pv 1))))))))), ?_⟩
    refine ⟨_, rfl, p, _, 0, _, rfl, rfl, SqL.of hp0, atI_nat (j := 0) rfl, ?_⟩
    have go : ∀ (cs : List Nat) (z : Int), cs.length ≤ 63 → Go p c H (upd (upd H c (.lst (vn cs))) p (.lst [.ref c, .int z])) := fun cs z hl =>
      ⟨⟨nc, _, _, hp0, hc0, hl0⟩, ⟨nc, cs, z, upd_same, by rw [upd_ne (fun e => nc e.symm)]; exact upd_same, hl⟩, fun b o hb => by
        obtain ⟨b1, b2, b3⟩ := res_some hb
        rw [res_eq b1 b2, upd_ne b1, upd_ne b2]
        exact b3⟩
    have hpc : ∀ cs : List Nat, (upd H c (.lst (vn cs))) p = some (.lst [.ref c, .int z0]) := fun cs => by
      rw [upd_ne nc]
      exact hp0
    refine ⟨fun σ H' => ∃ cs : List Nat, σ = [some (.ref p), some (.int n), some (.ref c), none, none] ∧ H' = upd H c (.lst (vn cs)) ∧ cs.length ≤ 63, ?_, ?_⟩
    · refine while_by (fun σ H' => ∃ cs : List Nat, σ = [some (.ref p), some (.int n), some (.ref c), none, none] ∧ H' = upd H c (.lst (vn cs)) ∧ cs.length ≤ 63) (fun _ H' => match H' c with | some (.lst xs) => xs.length | _ => 0) ⟨cs0, rfl, (upd_id hc0).symm, hl0⟩ ?_ ?_
      · rintro σ H' ⟨cs, rfl, rfl, hl⟩
        refine ⟨_, rfl, c, _, rfl, .inl (SqL.of upd_same), _, _, rfl, rfl, _, rfl, ?_⟩
        cases cs with
        | nil => exact iteF (iteF ⟨[], rfl, rfl, hl⟩)
        | cons x r =>
          have e : decide ((((vn (x :: r)).length : Nat) : Int) > 0) = true := decide_eq_true (by rw [vn_len, List.length_cons]; omega)
          rw [e]
          refine iteT ?_
          refine ⟨_, rfl, c, _, 0, _, rfl, rfl, SqL.of upd_same, atI_nat (j := 0) rfl, rfl, _, rfl, ?_⟩
          refine ite2 (fun _ => ?_) (fun _ => ⟨x :: r, rfl, rfl, hl⟩)
          refine ⟨_, rfl, .inl ⟨rfl, _, SqL.of upd_same⟩, c, _, 0, 0, _, rfl, rfl, upd_same, by decide, by decide, ?_, rfl, ?_, ?_⟩
          · rw [vn_len, List.length_cons]
            unfold seqIndex?
            simp
          · exact ⟨r, rfl, by rw [upd_upd]; rfl, by rw [List.length_cons] at hl; omega⟩
          · show (match (upd _ c _) c with | some (.lst xs) => xs.length | _ => 0) < (match (upd H c (.lst (vn (x :: r)))) c with | some (.lst xs) => xs.length | _ => 0)
            rw [upd_same, upd_same]
            show ((vn (x :: r)).eraseIdx 0).length < (vn (x :: r)).length
            simp
      · intro σ H' Q Q' hq h
        obtain ⟨x, e1, p', ys, e2, e3, i, j, e4, e5, k, e6, h⟩ := h
        refine ⟨x, e1, p', ys, e2, e3, i, j, e4, e5, k, e6, ?_⟩
        cases k with
        | false => exact iteF (hq _ _ (by rw [if_neg Bool.false_ne_true] at h; exact h))
        | true =>
          rw [if_pos rfl] at h
          obtain ⟨y, f1, l, xs, i2, v, f2, f3, f4, f5, f6, k2, f7, h⟩ := h
          exact iteT ⟨y, f1, l, xs, i2, v, f2, f3, f4, f5, f6, k2, f7, hq _ _ h⟩
    · rintro σ H' ⟨cs, rfl, rfl, hl⟩
      refine ⟨_, rfl, c, _, rfl, .inl (SqL.of upd_same), _, _, rfl, rfl, _, rfl, ?_⟩
      cases cs with
      | nil =>
        refine iteF ?_
        refine ⟨_, rfl, p, _, 1, _, rfl, rfl, SqL.of (hpc []), atI_nat (j := 1) rfl, _, _, rfl, rfl, .inr ⟨by decide, by decide⟩, _, _, rfl, rfl, .inl ⟨_, rfl, _, _, rfl, rfl, (show (2147483647 : Int) ≠ 0 by decide), ?_⟩⟩
        refine ⟨_, rfl, _, rfl, p, _, 1, 1, rfl, rfl, hpc [], rfl, ?_⟩
        have r := emod_range (x := z0 * 48271 + 12345) (show (0 : Int) < 2147483647 by decide)
        refine ⟨_, rfl, _, _, rfl, rfl, ⟨by decide, by decide⟩, .inl ⟨_, rfl, _, rfl, _, _, rfl, rfl, nz, ?_⟩⟩
        obtain ⟨y, hy⟩ : ∃ y : Nat, ((z0 * 48271 + 12345).fmod 2147483647).fdiv 64 = (y : Int) := ⟨_, (Int.toNat_of_nonneg (by
          rw [Int.fdiv_eq_ediv_of_nonneg _ (by decide)]
          omega)).symm⟩
        show Q (V.int ((((z0 * 48271 + 12345).fmod 2147483647).fdiv 64).fmod n)) _
        rw [hy, fm]
        exact q _ _ (go [] _ hl) (Nat.mod_lt _ h0)
      | cons x r =>
        have e : decide ((((vn (x :: r)).length : Nat) : Int) > 0) = true := decide_eq_true (by rw [vn_len, List.length_cons]; omega)
        rw [e]
        refine iteT ?_
        refine ⟨_, rfl, c, _, 0, _, rfl, rfl, SqL.of upd_same, atI_nat (j := 0) rfl, ?_⟩
        refine ⟨_, rfl, _, rfl, _, _, rfl, rfl, ⟨nz, by show ((n : Nat) : Int).natAbs < 1073741824; omega⟩, ?_⟩
        refine ⟨_, rfl, c, _, 0, 0, rfl, rfl, upd_same, ix_nat (j := 0) (by rw [vn_len, List.length_cons]; omega), ?_⟩
        refine ⟨_, rfl, .inl ⟨_, rfl, _, rfl, _, _, rfl, rfl, nz, ?_⟩⟩
        show Q (V.int ((x : Int).fmod n)) _
        rw [fm, upd_upd]
        have ed : (x : Int).fdiv n = ((x / n : Nat) : Int) := by
          rw [Int.fdiv_eq_ediv_of_nonneg _ (by omega)]
          rfl
        show Q _ (upd H c (.lst ((V.int ((x : Int).fdiv n)) :: vn r)))
        rw [ed]
        have g := go (x / n :: r) z0 hl
        rw [upd_id (show (upd H c (.lst (vn (x / n :: r)))) p = _ from hpc _)] at g
        exact q _ _ g (Nat.mod_lt _ h0)
def sp__law_pick (K : PySem.W.Frag) : Sp := fun vs H Q _ => ∃ (p c r : Addr) (xs : List Nat), vs = [.ref p, .ref r] ∧ Dr H p c ∧ r ≠ p ∧ r ≠ c ∧ H r = some (.lst (vn xs)) ∧ 0 < xs.length ∧ xs.length ≤ 1000 ∧ ∀ H' (d : Nat), Go p c H H' → d ∈ xs → Q (.int d) H'
theorem ok__law_pick {P : Program} {w : World} {K : PySem.W.Frag} {mg : Str → Option Value} {base : Heap} {C_Wires : Addr} {f f_law_draw : Addr} {fd fd_law_draw : FuncData} (F : Fun K "_law_pick" "_law_pick" s__law_pick f fd) (T : Txt K mg C_Wires)
    (G__law_draw : FnOk P w K mg base CX0 1 f_law_draw fd_law_draw ["state", "many"] (sp__law_draw K)) (D__law_draw : Def K mg "_law_draw" f_law_draw fd_law_draw ["state", "many"]) :
    FnOk P w K mg base CX0 2 f fd ["state", "row"] (sp__law_pick K) := by
  refine F.ok sc_law_pick (fun vs H Q E h => ?_) (fun cdv A outer s H vs Q E hr h => ?_)
  · obtain ⟨p, c, r, xs, rfl, _⟩ := h
    rfl
  · obtain ⟨p, c, r, xs, rfl, d0, n1, n2, hS, hl0, hl1, q⟩ := h
    refine ⟨_, (pss_one (ps_ret (pe_ix (r := rIxL K) ix_list (pv 1) (pe_call G__law_draw (hr.mono (by omega)) (by rfl) D__law_draw.m D__law_draw.k D__law_draw.b .nil pass0 (pa_cons (pv 0) (pa_cons (pe_callB call_len_seq (by rfl) T.m_len (by decide +kernel) (pa_cons (pv 1) pa_nil)) pa_nil))) (fun _ _ => rfl)))), ?_⟩
    refine ⟨_, rfl, _, rfl, _, rfl, r, _, rfl, .inl (SqL.of hS), p, c, xs.length, ?_, d0, hl0, by omega, fun H' d g hd => ?_⟩
    · rw [vn_len]
      rfl
    · exact ⟨r, _, _, _, rfl, rfl, SqL.of (g.get n1 n2 hS), atI_nat (vn_get (List.getElem?_eq_getElem hd)), q _ _ g (List.getElem_mem hd)⟩

/-! ### drawn nets, their rows -/
def sp__law_net (K : PySem.W.Frag) : Sp := fun vs H Q _ => ∃ (p c : Addr) (i f m : Nat), vs = [.ref p, .int i, .int f, .int m] ∧ Dr H p c ∧ i ≤ 1000 ∧ f ≤ 1000 ∧ m ≤ 1000 ∧ ∀ H' q (n : Net), Go p c H H' → H q = none → Dv (res p c H') (.ref q) n → n.Ok i f m → Q (.ref q) H'
theorem ok__law_net {P : Program} {w : World} {K : PySem.W.Frag} {mg : Str → Option Value} {base : Heap} {C_Wires : Addr} {f f_law_draw f_law_pick : Addr} {fd fd_law_draw fd_law_pick : FuncData} (F : Fun K "_law_net" "_law_net" s__law_net f fd) (T : Txt K mg C_Wires)
    (G__law_draw : FnOk P w K mg base CX0 1 f_law_draw fd_law_draw ["state", "many"] (sp__law_draw K)) (D__law_draw : Def K mg "_law_draw" f_law_draw fd_law_draw ["state", "many"])
    (G__law_pick : FnOk P w K mg base CX0 2 f_law_pick fd_law_pick ["state", "row"] (sp__law_pick K)) (D__law_pick : Def K mg "_law_pick" f_law_pick fd_law_pick ["state", "row"]) :
    FnOk P w K mg base CX0 3 f fd ["state", "ins", "flops", "most"] (sp__law_net K) := by
  refine F.ok sc_law_net (fun vs H Q E h => ?_) (fun cdv A outer s H vs Q E hr h => ?_)
  · obtain ⟨p, c, i, f, m, rfl, _⟩ := h
    rfl
  · obtain ⟨p, c, i, f, m, rfl, d0, hi, hf, hm, q⟩ := h
    refine ⟨_, (pss_cons (ps_set (i := 1) sc_law_net.nd rfl (.inl rfl) (pe_call G__law_draw (hr.mono (by omega)) (by rfl) D__law_draw.m D__law_draw.k D__law_draw.b .nil pass0 (pa_cons (pv 0) (pa_cons (pe_op op_add (pv 1) pe_int) pa_nil))))
      (pss_cons (ps_setLc (i := 5) (own := [("k", 4)]) (g := gName 4) (tt := tYes) rfl sc_law_net.nd rfl rfl (sw_true rfl rfl rfl (by decide +kernel)) (pi_range1 rfl T.m_range (pa_cons (pe_call G__law_draw (hr.mono (by omega)) (by rfl) D__law_draw.m D__law_draw.k D__law_draw.b .nil pass0 (pa_cons (pv 0) (pa_cons (pe_op op_add (pv 2) pe_int) pa_nil))) pa_nil)) (blkOk_by (N := N__law_net) (sc := defScope s__law_net) (by decide +kernel)) (fun _ _ _ _ _ => (pg_name (i := 4) sc_law_net.nd rfl (Or.inl rfl))) (fun _ _ _ _ _ => pts_nil) (fun _ _ _ _ _ => (pe_call G__law_draw (hr.mono (by omega)) (by rfl) D__law_draw.m D__law_draw.k D__law_draw.b .nil pass0 (pa_cons (pv 0) (pa_cons pe_int pa_nil)))))
      (pss_cons (ps_set (i := 6) sc_law_net.nd rfl (.inl rfl) (pe_lst pa_nil))
      (pss_cons (ps_set (i := 7) sc_law_net.nd rfl (.inr rfl) (pe_op op_add (pe_op op_add pe_int (pv 1)) (pe_callB call_len_seq (by rfl) T.m_len (by decide +kernel) (pa_cons (pv 5) pa_nil))))
      (pss_cons (ps_for PassesOwn.never rfl (pi_range1 rfl T.m_range (pa_cons (pe_call G__law_draw (hr.mono (by omega)) (by rfl) D__law_draw.m D__law_draw.k D__law_draw.b .nil pass0 (pa_cons (pv 0) (pa_cons (pe_op op_add (pv 3) pe_int) pa_nil))) pa_nil)) (pg_name (i := 4) sc_law_net.nd rfl (Or.inl rfl)) (pss_cons (ps_set (i := 8) sc_law_net.nd rfl (.inl rfl) (pe_call G__law_pick (hr.mono (by omega)) (by rfl) D__law_pick.m D__law_pick.k D__law_pick.b .nil pass0 (pa_cons (pv 0) (pa_cons (pe_lst (pa_cons pe_int (pa_cons pe_int (pa_cons (pe_callB (call_max2 (by rfl)) (by rfl) T.m_max (by decide +kernel) (pa_cons pe_int (pa_cons (pe_op op_sub (pv 7) pe_int) pa_nil))) pa_nil)))) pa_nil))))
      (pss_cons (ps_expr (pe_bm PySem.F.plainAttrs_list PySem.F.slot_list_append PySem.F.type_list_append mt_append (pv 6) (pa_cons (pe_tup (pa_cons (pe_op op_add (pe_op op_mul pe_int (pv 8)) (pe_call G__law_draw (hr.mono (by omega)) (by rfl) D__law_draw.m D__law_draw.k D__law_draw.b .nil pass0 (pa_cons (pv 0) (pa_cons (pe_op op_mul pe_int (pe_op op_sub (pv 7) (pv 8))) pa_nil)))) (pa_cons (pe_call G__law_draw (hr.mono (by omega)) (by rfl) D__law_draw.m D__law_draw.k D__law_draw.b .nil pass0 (pa_cons (pv 0) (pa_cons (pe_op op_mul pe_int (pv 7)) pa_nil))) pa_nil))) pa_nil)))
      (pss_one (ps_set (i := 7) sc_law_net.nd rfl (.inr rfl) (pe_op op_add (pv 7) pe_int))))))
      (pss_cons (ps_setLc (i := 9) (own := [("k", 4)]) (g := gName 4) (tt := tYes) rfl sc_law_net.nd rfl rfl (sw_true rfl rfl rfl (by decide +kernel)) (pi_list (pv 5)) (blkOk_by (N := N__law_net) (sc := defScope s__law_net) (by decide +kernel)) (fun _ _ _ _ _ => (pg_name (i := 4) sc_law_net.nd rfl (Or.inl rfl))) (fun _ _ _ _ _ => pts_nil) (fun _ _ _ _ _ => (pe_call G__law_draw (hr.mono (by omega)) (by rfl) D__law_draw.m D__law_draw.k D__law_draw.b .nil pass0 (pa_cons (pv 0) (pa_cons (pe_op op_mul pe_int (pv 7)) pa_nil)))))
      (pss_one (ps_ret (pe_tup (pa_cons pe_str (pa_cons (pv 1) (pa_cons (pv 5) (pa_cons (pv 6) (pa_cons (pv 9) (pa_cons (pe_lc (own := [("k", 4)]) (g := gName 4) (tt := tYes) rfl sc_law_net.nd (pi_range1 rfl T.m_range (pa_cons (pe_call G__law_draw (hr.mono (by omega)) (by rfl) D__law_draw.m D__law_draw.k D__law_draw.b .nil pass0 (pa_cons (pv 0) (pa_cons pe_int pa_nil))) pa_nil)) (blkOk_by (N := N__law_net) (sc := defScope s__law_net) (by decide +kernel)) (fun _ _ _ _ _ => (pg_name (i := 4) sc_law_net.nd rfl (Or.inl rfl))) (fun _ _ _ _ _ => pts_nil) (fun _ _ _ _ _ => (pe_call G__law_draw (hr.mono (by omega)) (by rfl) D__law_draw.m D__law_draw.k D__law_draw.b .nil pass0 (pa_cons (pv 0) (pa_cons (pe_op op_mul pe_int (pv 7)) pa_nil))))) pa_nil))))))))))))))), ?_⟩
    refine ⟨_, rfl, _, rfl, _, _, rfl, rfl, p, c, i + 1, rfl, d0, by omega, by omega, fun H1 ins g1 h1 => ?_⟩
    -- starts
    refine ⟨_, rfl, _, rfl, _, _, rfl, rfl, p, c, f + 1, rfl, g1.b, by omega, by omega, fun H2 fl g2 h2 => ⟨_, rfl, by omega, by omega, fun pS nS => lc_range (n := fl) (fun j H' => ∃ bs : List Nat, Go p c H2 H' ∧ H' pS = some (.lst (vn bs)) ∧ bs.length = j ∧ ∀ b ∈ bs, b < 2) ⟨[], Go.of g2.b (same_new nS), upd_same, rfl, by simp⟩ ?_ ?_⟩⟩
    · rintro j H' hj ⟨bs, g, hp, hl, hb⟩
      refine ⟨rfl, _, rfl, p, c, 2, rfl, g.b, by decide, by decide, fun H'' d g' hd => ⟨_, g'.get' g2.b nS hp, by rw [vn_len]; exact small64k (by omega), bs ++ [d], (g.trans g').mut nS, ?_, by rw [List.length_append, hl]; rfl, ?_⟩⟩
      · rw [upd_same]
        unfold vn
        rw [List.map_append]
        rfl
      · intro b hb'
        rcases List.mem_append.mp hb' with h | h
        · exact hb b h
        · rw [List.mem_singleton.mp h]
          exact hd
    rintro H3 ⟨bs, g3, hS3, hlS, hbS⟩
    have oS := g2.b.off nS
    -- gates, many
    refine ⟨by show 0 ≤ sizeLine; decide, fun pG nG => ?_⟩
    have oG := g3.b.off nG
    have nSG : pS ≠ pG := ne_of_none hS3 nG
    have g4 : Go p c H (upd H3 pG (.lst [])) := ((g1.trans g2).trans g3).more (same_new nG)
    refine ⟨_, rfl, _, _, rfl, rfl, _, rfl, pS, _, rfl, .inl (SqL.of ((same_new nG) _ _ hS3)), _, _, rfl, rfl, ?_⟩
    have eB : (1 : Int) + (ins : Int) + ((vn bs).length : Int) = ((1 + ins + fl : Nat) : Int) := by
      rw [vn_len, hlS]
      omega
    refine ⟨_, rfl, _, rfl, _, _, rfl, rfl, p, c, m + 1, rfl, g4.b, by omega, by omega, fun H5 mg g5 hmg => ⟨_, rfl, by omega, by omega, for_range (n := mg) (fun j σ H' => ∃ (y4 y8 : Option V) (us : List V) (gs : List (Nat × Nat)), σ = [some (.ref p), some (.int ins), some (.int f), some (.int m), y4, some (.ref pS), some (.ref pG), some (.int ((1 + ins + fl + j : Nat) : Int)), y8, none] ∧ Go p c H H' ∧ H' pS = some (.lst (vn bs)) ∧ H' pG = some (.lst us) ∧ Dvs (hid pG (res p c H')) us gs ∧ gs.length = j ∧ ∀ k g, gs[k]? = some g → g.1 < 2 * (1 + ins + fl + k) ∧ g.2 < 2 * (1 + ins + fl + k)) ⟨none, none, [], [], ?_, g4.trans g5, g5.get oS.1 oS.2 ((same_new nG) _ _ hS3), g5.get oG.1 oG.2 upd_same, .nil, rfl, by simp⟩ ?_ ?_⟩⟩
    · show [some (V.ref p), some (V.int ins), some (V.int f), some (V.int m), none, some (V.ref pS), some (V.ref pG), some (V.int ((1 : Int) + (ins : Int) + ((vn bs).length : Int))), none, none] = _
      rw [eB]
      rfl
    · rintro j σ H' hj ⟨y4, y8, us, gs, rfl, g, hS, hG, hus, hlg, hgs⟩
      -- low
      refine ⟨_, rfl, _, rfl, _, _, rfl, rfl, _, _, rfl, by show 3 ≤ sizeLine; decide, fun l nl => ?_⟩
      obtain ⟨x, ex⟩ : ∃ x : Nat, (if ((1 + ins + fl + j : Nat) : Int) - 3 > 0 then ((1 + ins + fl + j : Nat) : Int) - 3 else 0) = (x : Int) ∧ x < 1 + ins + fl + j := by
        by_cases h : ((1 + ins + fl + j : Nat) : Int) - 3 > 0
        · rw [if_pos h]
          exact ⟨1 + ins + fl + j - 3, by omega, by omega⟩
        · rw [if_neg h]
          exact ⟨0, rfl, by omega⟩
      have ol := g.b.off nl
      refine ⟨p, c, l, [0, 0, x], rfl, g.b.same (same_new nl), ol.1, ol.2, ?_, by show 0 < 3; decide, by show 3 ≤ 1000; decide, fun H6 low g6 hlow => ?_⟩
      · rw [upd_same]
        show some (HO.lst [V.int 0, V.int 0, V.int (if ((1 + ins + fl + j : Nat) : Int) - 3 > 0 then ((1 + ins + fl + j : Nat) : Int) - 3 else 0)]) = _
        rw [ex.1]
        rfl
      have hlow' : low < 1 + ins + fl + j := by
        simp only [List.mem_cons, List.not_mem_nil, or_false] at hlow
        rcases hlow with rfl | rfl | rfl <;> omega
      have g7 : Go p c H' H6 := (Go.of g.b (same_new nl)).trans g6
      -- gates.append((2 * low + draw(2 * (many - low)), draw(2 * many)))
      refine ⟨_, rfl, .inl ⟨rfl, _, SqL.of (g7.get oG.1 oG.2 hG)⟩, ?_⟩
      refine ⟨_, rfl, _, _, rfl, rfl, .inl ⟨by decide, by decide⟩, _, rfl, _, rfl, _, rfl, _, _, rfl, rfl, _, _, rfl, rfl, .inl ⟨by decide, by decide⟩, p, c, 2 * (1 + ins + fl + j - low), ?_, g6.b, by omega, by omega, fun H7 d1 g8 hd1 => ⟨_, _, rfl, rfl, _, rfl, _, rfl, _, _, rfl, rfl, .inl ⟨by decide, by decide⟩, p, c, 2 * (1 + ins + fl + j), ?_, g8.b, by omega, by omega, fun H8 d2 g9 hd2 => ⟨by show 2 ≤ sizeLine; decide, fun t nt => ?_⟩⟩⟩
      · show [V.ref p, V.int (2 * (((1 + ins + fl + j : Nat) : Int) - (low : Int)))] = _
        rw [show (2 * (((1 + ins + fl + j : Nat) : Int) - (low : Int))) = ((2 * (1 + ins + fl + j - low) : Nat) : Int) by omega]
      · rfl
      have g10 : Go p c H' H8 := (g7.trans g8).trans g9
      have ntG : t ≠ pG := ne_of_none (g10.get oG.1 oG.2 hG) nt |>.symm
      have ot := g10.b.off nt
      refine ⟨pG, us, _, rfl, rfl, by rw [upd_ne ntG.symm]; exact g10.get oG.1 oG.2 hG, ?_, ?_⟩
      · rw [hus.len, hlg]
        exact small64k (by omega)
      refine ⟨_, rfl, _, _, rfl, rfl, ?_⟩
      have g11 : Go p c H' (upd H8 t (.tup [.int (2 * (low : Int) + (d1 : Int)), .int d2])) := g10.more (same_new nt)
      refine ⟨some (.int (0 + (j : Int))), some (.int low), us ++ [.ref t], gs ++ [(2 * low + d1, d2)], rfl, ?_, ?_, upd_same, ?_, by rw [List.length_append, hlg]; rfl, ?_⟩
      · exact (g.trans g11).mut (((g1.trans g2).trans g3).none nG)
      · rw [upd_ne nSG]
        exact g11.get oS.1 oS.2 hS
      · refine ((hus.same (hid_mono g11.s)).same hid_res_mut).app (.cons (.pair (hid_of ntG (res_of ot.1 ot.2 (by rw [upd_ne ntG]; exact upd_same))) (Dv.nat (2 * low + d1)) (Dv.nat d2)) .nil)
      · intro k g' hk
        rcases get_snoc hk with ⟨_, h⟩ | ⟨rfl, rfl⟩
        · exact hgs k g' h
        · rw [hlg]
          exact ⟨by show 2 * low + d1 < _; omega, hd2⟩
    · rintro σ H6 ⟨y4, y8, us, gs, rfl, g, hS, hG, hus, hlg, hgs⟩
      -- nexts
      refine ⟨_, rfl, pS, rfl, ⟨_, SqL.of hS⟩, fun pN nN => lc_list (xs := vn bs) (fun j H' => ∃ xs : List Nat, Go p c H6 H' ∧ H' pN = some (.lst (vn xs)) ∧ xs.length = j ∧ ∀ x ∈ xs, x < 2 * (1 + ins + fl + mg)) ⟨[], Go.of g.b (same_new nN), upd_same, rfl, by simp⟩ (fun j H' _ h => ?_) ?_ ?_⟩
      · obtain ⟨xs, g', _⟩ := h
        exact SqL.of (g'.get oS.1 oS.2 hS)
      · rintro j v H' hv ⟨xs, g', hp, hl, hx⟩
        have hj : j < bs.length := by
          have h := (List.getElem?_eq_some_iff.mp hv).1
          rw [vn_len] at h
          exact h
        refine ⟨rfl, _, rfl, _, rfl, _, _, rfl, rfl, .inl ⟨by decide, by decide⟩, p, c, 2 * (1 + ins + fl + mg), rfl, g'.b, by omega, by omega, fun H'' d g'' hd => ⟨_, g''.get' g.b nN hp, by rw [vn_len]; exact small64k (by omega), xs ++ [d], (g'.trans g'').mut nN, ?_, by rw [List.length_append, hl]; rfl, mem_snoc hx hd⟩⟩
        rw [upd_same, vn_snoc]
      · rintro H7 ⟨xs, g7, hN, hlN, hxN⟩
        rw [vn_len] at hlN
        have oN := g.b.off nN
        -- outs and the net
        refine ⟨_, rfl, _, rfl, _, rfl, _, rfl, _, rfl, p, c, 4, rfl, g7.b, by decide, by decide, fun H8 no g8 hno => ⟨_, rfl, by omega, by omega, fun pO nO => lc_range (n := no) (fun j H' => ∃ os : List Nat, Go p c H8 H' ∧ H' pO = some (.lst (vn os)) ∧ os.length = j ∧ ∀ x ∈ os, x < 2 * (1 + ins + fl + mg)) ⟨[], Go.of g8.b (same_new nO), upd_same, rfl, by simp⟩ ?_ ?_⟩⟩
        · rintro j H' hj ⟨os, g', hp, hl, hx⟩
          refine ⟨rfl, _, rfl, _, rfl, _, _, rfl, rfl, .inl ⟨by decide, by decide⟩, p, c, 2 * (1 + ins + fl + mg), rfl, g'.b, by omega, by omega, fun H'' d g'' hd => ⟨_, g''.get' g8.b nO hp, by rw [vn_len]; exact small64k (by omega), os ++ [d], (g'.trans g'').mut nO, ?_, by rw [List.length_append, hl]; rfl, mem_snoc hx hd⟩⟩
          rw [upd_same, vn_snoc]
        · rintro H9 ⟨os, g9, hO, hlO, hxO⟩
          have oO := g8.b.off nO
          refine ⟨by show 6 ≤ sizeLine; decide, fun t nt => ?_⟩
          have ot := g9.b.off nt
          have gE : Go p c H6 (upd H9 t (.tup [.str "net", .int ins, .ref pS, .ref pG, .ref pN, .ref pO])) := ((g7.trans g8).trans g9).more (same_new nt)
          have gT := same_new (o := .tup [.str "net", .int ins, .ref pS, .ref pG, .ref pN, .ref pO]) nt
          refine q _ t ⟨ins, bs, gs, xs, os⟩ (g.trans gE) ((g.trans ((g7.trans g8).trans g9)).none nt) (.net (res_of ot.1 ot.2 upd_same) ?_ ?_ ?_ ?_) ?_
          · exact .natl (res_of oS.1 oS.2 (gE.get oS.1 oS.2 hS))
          · exact .list (res_of oG.1 oG.2 (gE.get oG.1 oG.2 hG)) ((hus.same (hid_same _ _)).same gE.s)
          · exact .natl (res_of oN.1 oN.2 (gT _ _ ((g8.trans g9).get oN.1 oN.2 hN)))
          · exact .natl (res_of oO.1 oO.2 (gT _ _ hO))
          · have eb : Net.base ⟨ins, bs, gs, xs, os⟩ = 1 + ins + fl := by
              show 1 + ins + bs.length = _
              rw [hlS]
            have em : Net.many ⟨ins, bs, gs, xs, os⟩ = 1 + ins + fl + mg := by
              show 1 + ins + bs.length + gs.length = _
              rw [hlS, hlg]
            refine ⟨by show ins ≤ i; omega, by show bs.length ≤ f; omega, hbS, by show gs.length ≤ m; omega, ?_, hlN, ?_, by show os.length ≤ 3; omega, ?_⟩
            · rw [eb]
              exact hgs
            · rw [em]
              exact hxN
            · rw [em]
              exact hxO

/-! ### base_of -/
def sp_base_of (K : PySem.W.Frag) : Sp := fun vs H Q _ => ∃ (v : V) (n : Net), vs = [v] ∧ Dv H v n ∧ Q (.int (n.base : Nat)) H
theorem ok_base_of {P : Program} {w : World} {K : PySem.W.Frag} {mg : Str → Option Value} {base : Heap} {C_Wires : Addr} {f  : Addr} {fd  : FuncData} (F : Fun K "base_of" "base_of" s_base_of f fd) (T : Txt K mg C_Wires) :
    FnOk P w K mg base CX0 1 f fd ["net"] (sp_base_of K) := by
  refine F.ok scbase_of (fun vs H Q E h => ?_) (fun cdv A outer s H vs Q E hr h => ?_)
  · obtain ⟨l, n, rfl, _⟩ := h
    rfl
  · obtain ⟨v, n, rfl, hn, q⟩ := h
    obtain ⟨a, aS, aG, aN, aO, rfl, hA, hS, hG, hN, hO⟩ := hn.net_inv
    obtain ⟨_, e, hS⟩ := hS.natl_inv
    cases e
    refine ⟨_, (pss_one (ps_ret (pe_op op_add (pe_op op_add pe_int (pe_ix (r := rIxT K) ix_tup (pv 0) pe_int (fun _ _ => rfl))) (pe_callB call_len_seq (by rfl) T.m_len (by decide +kernel) (pa_cons (pe_ix (r := rIxT K) ix_tup (pv 0) pe_int (fun _ _ => rfl)) pa_nil))))), ?_⟩
    refine ⟨_, rfl, a, _, 1, _, rfl, rfl, SqT.of hA, atI_nat (j := 1) rfl, _, _, rfl, rfl, _, rfl, a, _, 2, _, rfl, rfl, SqT.of hA, atI_nat (j := 2) rfl, aS, _, rfl, .inl (SqL.of hS), _, _, rfl, rfl, ?_⟩
    show Q (V.int ((1 : Int) + (n.ins : Int) + ((vn n.starts).length : Int))) H
    rw [vn_len]
    exact q

end K41
namespace K41
open PySem PySem.Spec PyProof.Rows L2 V0
/-! ### where literals come from -/
def isF (n : Net) (x : Nat) : Bool := decide (n.ins < x / 2 ∧ x / 2 ≤ n.ins + n.starts.length)
def nxt (n : Net) (x : Nat) : Nat := (n.nexts[x / 2 - n.ins - 1]?.getD 0) ^^^ (x % 2)
def fst0 (n : Net) (x : Nat) : Nat := (n.starts[x / 2 - n.ins - 1]?.getD 0) ^^^ (x % 2)
def walk (n : Net) : Nat → Nat → Option (Nat × List Nat)
  | 0, x => if isF n x = true then none else some (x, [])
  | f + 1, x => if isF n x = true then (walk n f (nxt n x)).map (fun r => (r.1, fst0 n x :: r.2)) else some (x, [])
def pre (l : List Nat) (r : Nat × List Nat) : Nat × List Nat := (r.1, l ++ r.2)
theorem walk_no {n : Net} {f x : Nat} (h : isF n x = false) : walk n f x = some (x, []) := by
  cases f with
  | zero =>
    unfold walk
    rw [h]
    rfl
  | succ f =>
    unfold walk
    rw [h]
    rfl
theorem walk_yes {n : Net} {f x : Nat} (h : isF n x = true) : walk n (f + 1) x = (walk n f (nxt n x)).map (pre [fst0 n x]) := by
  rw [walk, if_pos h]
  rfl
theorem walk_end {n : Net} {x : Nat} (h : isF n x = true) : walk n 0 x = none := by
  rw [walk, if_pos h]
theorem walk_more {n : Net} : ∀ {f x : Nat} {r : Nat × List Nat}, walk n f x = some r → walk n (f + 1) x = some r
  | f, x, r, h => by
    cases hf : isF n x with
    | false =>
      rw [walk_no hf] at h
      rw [walk_no hf]
      exact h
    | true =>
      cases f with
      | zero =>
        rw [walk_end hf] at h
        cases h
      | succ f =>
        rw [walk_yes hf] at h
        rw [walk_yes hf]
        obtain ⟨s, e, rfl⟩ := Option.map_eq_some_iff.mp h
        rw [walk_more e]
        rfl
theorem walk_up {n : Net} {f g x : Nat} {r : Nat × List Nat} (h : walk n f x = some r) (k : f ≤ g) : walk n g x = some r := by
  obtain ⟨d, rfl⟩ := Nat.exists_eq_add_of_le k
  induction d with
  | zero => exact h
  | succ d ih => exact walk_more (ih (by omega))
def orig (n : Net) (x : Nat) : Nat × List Nat := (walk n n.starts.length x).getD (x, [])
theorem map_pre (l k : List Nat) (o : Option (Nat × List Nat)) : (o.map (pre k)).map (pre l) = o.map (pre (l ++ k)) := by
  rw [Option.map_map]
  congr 1
  funext r
  show (r.1, l ++ (k ++ r.2)) = (r.1, l ++ k ++ r.2)
  rw [List.append_assoc]
theorem walk_step {n : Net} {x at_ F : Nat} {fs : List Nat} (h : walk n F x = (walk n (F - fs.length) at_).map (pre fs)) (hf : isF n at_ = true) (hl : fs.length < F) : walk n F x = (walk n (F - (fs ++ [fst0 n at_]).length) (nxt n at_)).map (pre (fs ++ [fst0 n at_])) := by
  rw [h, show F - fs.length = (F - (fs ++ [fst0 n at_]).length) + 1 by rw [List.length_append]; show _ = F - (fs.length + 1) + 1; omega, walk_yes hf, map_pre]
/-- what a literal comes from, as told: the literal, how many flops lie between, their first values -/
def OT (H : Hp) (v : V) (o : Nat × List Nat) : Prop := ∃ t l, v = .ref t ∧ H t = some (.tup [.int (o.1 : Nat), .int (o.2.length : Nat), .ref l]) ∧ H l = some (.lst (vn o.2))
theorem OT.same {H H' : Hp} {v : V} {o : Nat × List Nat} (h : OT H v o) (s : Same H H') : OT H' v o := by
  obtain ⟨t, l, e, h1, h2⟩ := h
  exact ⟨t, l, e, s _ _ h1, s _ _ h2⟩
theorem isF_yes {n : Net} {x : Nat} (h : isF n x = true) : n.ins < x / 2 ∧ x / 2 ≤ n.ins + n.starts.length := of_decide_eq_true h
theorem isF_ix {n : Net} {x : Nat} (h : isF n x = true) : x / 2 - n.ins - 1 < n.starts.length := by
  have := isF_yes h
  omega
theorem xor_half (a b : Nat) (h : b < 2) : (a ^^^ b) / 2 = a / 2 := by
  rw [show (2 : Nat) = 2 ^ 1 from rfl, ← Nat.shiftRight_eq_div_pow, ← Nat.shiftRight_eq_div_pow, Nat.shiftRight_xor_distrib]
  have : b >>> 1 = 0 := by
    rw [Nat.shiftRight_eq_div_pow]
    omega
  rw [this, Nat.xor_zero]
/-- a net whose flops have their nexts -/
structure Fl (n : Net) : Prop where
  nl : n.nexts.length = n.starts.length
  fl : n.starts.length ≤ 60000
theorem vn_snoc' (xs : List Nat) (x : Nat) : vn xs ++ [V.int (x : Nat)] = vn (xs ++ [x]) := by
  unfold vn
  rw [List.map_append]
  rfl
def sp_origin_of (K : PySem.W.Frag) : Sp := fun vs H Q _ => ∃ (a : Addr) (n : Net) (x : Nat), vs = [.ref a, .int (x : Nat)] ∧ Dv H (.ref a) n ∧ Fl n ∧ ∀ H' v, Same H H' → OT (fresh H H') v (orig n x) → Q v H'
theorem ok_origin_of {P : Program} {w : World} {K : PySem.W.Frag} {mg : Str → Option Value} {base : Heap} {C_Wires : Addr} {f  : Addr} {fd  : FuncData} (F : Fun K "origin_of" "origin_of" s_origin_of f fd) (T : Txt K mg C_Wires) :
    FnOk P w K mg base CX0 1 f fd ["net", "literal"] (sp_origin_of K) := by
  refine F.ok scorigin_of (fun vs H Q E h => ?_) (fun cdv A outer s H vs Q E hr h => ?_)
  · obtain ⟨a, n, x, rfl, _⟩ := h
    rfl
  · obtain ⟨a, n, x, rfl, hn, fl, q⟩ := h
    obtain ⟨_, aS, aG, aN, aO, e, hA, hS, hG, hN, hO⟩ := hn.net_inv
    cases e
    obtain ⟨_, e, hS⟩ := hS.natl_inv
    cases e
    obtain ⟨_, e, hN⟩ := hN.natl_inv
    cases e
    have b1 := fl.fl
    have b2 := fl.nl
    refine ⟨_, (pss_cons (ps_asg (pv 0) (pg_tup (by rfl) (pgs_cons (pg_name (i := 2) scorigin_of.nd rfl (Or.inl rfl)) (pgs_cons (pg_name (i := 3) scorigin_of.nd rfl (Or.inl rfl)) (pgs_cons (pg_name (i := 4) scorigin_of.nd rfl (Or.inl rfl)) (pgs_cons (pg_name (i := 2) scorigin_of.nd rfl (Or.inl rfl)) (pgs_cons (pg_name (i := 5) scorigin_of.nd rfl (Or.inl rfl)) (pgs_cons (pg_name (i := 2) scorigin_of.nd rfl (Or.inl rfl)) pgs_nil))))))))
      (pss_cons (ps_set (i := 6) scorigin_of.nd rfl (.inl rfl) (pv 1))
      (pss_cons (ps_set (i := 7) scorigin_of.nd rfl (.inl rfl) (pe_lst pa_nil))
      (C8.pss_cut (ps_while PassesOwn.never (pt_chain op_lt op_le (pv 3) (pe_op op_shr (pv 6) pe_int) (pe_op op_add (pv 3) (pe_callB call_len_seq (by rfl) T.m_len (by decide +kernel) (pa_cons (pv 4) pa_nil)))) (pss_cons (ps_if (pt_cmpR op_eq (pe_callB call_len_seq (by rfl) T.m_len (by decide +kernel) (pa_cons (pv 7) pa_nil)) (pe_callB call_len_seq (by rfl) T.m_len (by decide +kernel) (pa_cons (pv 4) pa_nil)) (nomark _)) (pss_one (ps_ret (pe_tup (pa_cons (pv 1) (pa_cons pe_int (pa_cons (pe_lst pa_nil) pa_nil)))))) pss_nil)
      (pss_cons (ps_set (i := 8) scorigin_of.nd rfl (.inl rfl) (pe_op op_sub (pe_op op_sub (pe_op op_shr (pv 6) pe_int) (pv 3)) pe_int))
      (pss_cons (ps_expr (pe_bm PySem.F.plainAttrs_list PySem.F.slot_list_append PySem.F.type_list_append mt_append (pv 7) (pa_cons (pe_op op_xor (pe_ix (r := rIxL K) ix_list (pv 4) (pv 8) (fun _ _ => rfl)) (pe_op op_and (pv 6) pe_int)) pa_nil)))
      (pss_one (ps_set (i := 6) scorigin_of.nd rfl (.inl rfl) (pe_op op_xor (pe_ix (r := rIxL K) ix_list (pv 5) (pv 8) (fun _ _ => rfl)) (pe_op op_and (pv 6) pe_int))))))))
      (pss_one (ps_ret (pe_tup (pa_cons (pv 6) (pa_cons (pe_callB call_len_seq (by rfl) T.m_len (by decide +kernel) (pa_cons (pv 7) pa_nil)) (pa_cons (pv 7) pa_nil)))))))))), ?_⟩
    refine ⟨_, rfl, a, _, rfl, SqT.of hA, rfl, _, _, rfl, _, _, rfl, _, _, rfl, _, _, rfl, _, _, rfl, _, _, rfl, rfl, ?_⟩
    refine ⟨_, rfl, by show 0 ≤ sizeLine; decide, fun D nD => ?_⟩
    refine ⟨fun σ Hx => ∃ (at_ : Nat) (fs : List Nat) (y : Option V), σ = [some (.ref a), some (.int (x : Nat)), some (.ref aO), some (.int (n.ins : Nat)), some (.ref aS), some (.ref aN), some (.int (at_ : Nat)), some (.ref D), y] ∧ Same H Hx ∧ Hx D = some (.lst (vn fs)) ∧ orig n x = (at_, fs), ?_, ?_⟩
    · refine while_by (fun σ Hx => ∃ (at_ : Nat) (fs : List Nat) (y : Option V), σ = [some (.ref a), some (.int (x : Nat)), some (.ref aO), some (.int (n.ins : Nat)), some (.ref aS), some (.ref aN), some (.int (at_ : Nat)), some (.ref D), y] ∧ Same H Hx ∧ Hx D = some (.lst (vn fs)) ∧ fs.length ≤ n.starts.length ∧ walk n n.starts.length x = (walk n (n.starts.length - fs.length) at_).map (pre fs))
        (fun _ Hx => n.starts.length - (match Hx D with | some (.lst xs) => xs.length | _ => 0)) ⟨x, [], none, rfl, same_new nD, upd_same, Nat.zero_le _, ?_⟩ ?_ ?_
      · show walk n n.starts.length x = (walk n (n.starts.length - 0) x).map (pre [])
        rw [Nat.sub_zero]
        cases walk n n.starts.length x <;> rfl
      · rintro σ Hx ⟨at_, fs, y, rfl, sx, hD, hl, hw⟩
        refine ⟨_, rfl, _, rfl, _, _, rfl, rfl, (show (0 : Int) ≤ 1 by decide), _, _, rfl, rfl, _, rfl, ?_⟩
        rw [show decide ((n.ins : Int) < ((at_ : Nat) : Int) / 2 ^ ((1 : Int)).toNat) = decide (n.ins < at_ / 2) from decide_eq_decide.mpr (by rw [shr_one]; omega)]
        have no : isF n at_ = false → orig n x = (at_, fs) := fun hf => by
          unfold orig
          rw [hw, walk_no hf]
          show (at_, fs ++ []) = _
          rw [List.append_nil]
        by_cases c1 : n.ins < at_ / 2
        · rw [decide_eq_true c1]
          refine iteT ⟨_, rfl, _, rfl, aS, _, rfl, .inl (SqL.of (sx _ _ hS)), _, _, rfl, rfl, _, _, rfl, rfl, _, rfl, ?_⟩
          rw [vn_len, show decide (((at_ : Nat) : Int) / 2 ^ ((1 : Int)).toNat ≤ (n.ins : Int) + (n.starts.length : Int)) = decide (at_ / 2 ≤ n.ins + n.starts.length) from decide_eq_decide.mpr (by rw [shr_one]; omega)]
          by_cases c2 : at_ / 2 ≤ n.ins + n.starts.length
          · rw [decide_eq_true c2]
            have hf : isF n at_ = true := decide_eq_true ⟨c1, c2⟩
            have ix := isF_ix hf
            refine iteT ?_
            refine ⟨_, rfl, D, _, rfl, .inl (SqL.of hD), _, rfl, aS, _, rfl, .inl (SqL.of (sx _ _ hS)), rfl, _, rfl, ?_⟩
            rw [vn_len, vn_len, show decide (V.int ((fs.length : Nat) : Int) = V.int ((n.starts.length : Nat) : Int)) = decide (fs.length = n.starts.length) from dec_nat _ _]
            by_cases c3 : fs.length = n.starts.length
            · rw [decide_eq_true c3]
              refine iteT ⟨_, rfl, by show 0 ≤ sizeLine; decide, fun l nl => ⟨by show 3 ≤ sizeLine; decide, fun t nt => ?_⟩⟩
              have eo : orig n x = (x, []) := by
                unfold orig
                rw [hw, show n.starts.length - fs.length = 0 by omega, walk_end hf]
                rfl
              refine q _ _ (sx.trans ((same_new nl).trans (same_new nt))) ⟨t, l, rfl, fresh_of (none_of sx (none_of (same_new nl) nt)) ?_, fresh_of (none_of sx nl) ?_⟩
              · rw [upd_same, eo]
                rfl
              · rw [upd_ne (ne_of_none upd_same nt), upd_same, eo]
                rfl
            · rw [decide_eq_false c3]
              refine iteF ?_
              refine ⟨_, rfl, _, _, rfl, rfl, (show (0 : Int) ≤ 1 by decide), _, rfl, _, _, rfl, rfl, _, _, rfl, rfl, ?_⟩
              have ei : V.int (((at_ : Nat) : Int) / 2 ^ ((1 : Int)).toNat - (n.ins : Int) - 1) = V.int ((at_ / 2 - n.ins - 1 : Nat) : Int) := by
                rw [shr_one]
                congr 1
                omega
              simp only [ei]
              have g1 : n.starts[at_ / 2 - n.ins - 1]? = some (n.starts[at_ / 2 - n.ins - 1]) := List.getElem?_eq_getElem ix
              have ix2 : at_ / 2 - n.ins - 1 < n.nexts.length := by rw [b2]; exact ix
              have g2 : n.nexts[at_ / 2 - n.ins - 1]? = some (n.nexts[at_ / 2 - n.ins - 1]) := List.getElem?_eq_getElem ix2
              refine ⟨_, rfl, .inl ⟨rfl, _, SqL.of hD⟩, _, rfl, _, rfl, aS, _, _, _, rfl, rfl, SqL.of (sx _ _ hS), atI_nat (vn_get g1), _, rfl, _, _, rfl, rfl, _, _, rfl, rfl, D, _, _, rfl, rfl, hD, small64k (by rw [vn_len]; omega), ?_⟩
              have e1 : Builtin.bitXor ((n.starts[at_ / 2 - n.ins - 1] : Nat) : Int) (Builtin.bitAnd ((at_ : Nat) : Int) 1) = ((fst0 n at_ : Nat) : Int) := by
                rw [band_one, bxor]
                unfold fst0
                rw [g1]
                rfl
              simp only [e1]
              rw [vn_snoc']
              have sy : Same H (upd Hx D (.lst (vn (fs ++ [fst0 n at_])))) := same_mut sx nD
              have eD : (upd Hx D (.lst (vn (fs ++ [fst0 n at_])))) D = some (.lst (vn (fs ++ [fst0 n at_]))) := upd_same
              refine ⟨_, rfl, _, rfl, aN, _, _, _, rfl, rfl, SqL.of (sy _ _ hN), atI_nat (vn_get g2), _, rfl, _, _, rfl, rfl, _, _, rfl, rfl, ?_⟩
              have e2 : Builtin.bitXor ((n.nexts[at_ / 2 - n.ins - 1] : Nat) : Int) (Builtin.bitAnd ((at_ : Nat) : Int) 1) = ((nxt n at_ : Nat) : Int) := by
                rw [band_one, bxor]
                unfold nxt
                rw [g2]
                rfl
              simp only [e2]
              refine ⟨⟨nxt n at_, _, _, rfl, sy, eD, by rw [List.length_append]; show fs.length + 1 ≤ _; omega, walk_step hw hf (by omega)⟩, ?_⟩
              show n.starts.length - (match (upd Hx D (.lst (vn (fs ++ [fst0 n at_])))) D with | some (.lst xs) => xs.length | _ => 0) < n.starts.length - (match Hx D with | some (.lst xs) => xs.length | _ => 0)
              rw [eD, hD]
              show n.starts.length - (vn (fs ++ [fst0 n at_])).length < n.starts.length - (vn fs).length
              rw [vn_len, vn_len, List.length_append]
              show n.starts.length - (fs.length + 1) < _
              omega
          · rw [decide_eq_false c2]
            exact iteF ⟨at_, fs, y, rfl, sx, hD, no (decide_eq_false fun z => c2 z.2)⟩
        · rw [decide_eq_false c1]
          exact iteF ⟨_, rfl, iteF ⟨at_, fs, y, rfl, sx, hD, no (decide_eq_false fun z => c1 z.1)⟩⟩
      · intro σ H Q Q' hq h
        obtain ⟨x1, e1, x2, e2, i1, j1, e3, e4, c5, i2, j2, e6, e7, k, e8, h⟩ := h
        refine ⟨x1, e1, x2, e2, i1, j1, e3, e4, c5, i2, j2, e6, e7, k, e8, ?_⟩
        cases k with
        | false =>
          rw [if_neg Bool.false_ne_true] at h
          obtain ⟨b, eb, h⟩ := h
          exact iteF ⟨b, eb, hq _ _ h⟩
        | true =>
          rw [if_pos rfl] at h
          obtain ⟨x3, f1, x4, f2, p, ys, f3, f4, i3, j3, f5, f6, i4, j4, f7, f8, b, eb, h⟩ := h
          exact iteT ⟨x3, f1, x4, f2, p, ys, f3, f4, i3, j3, f5, f6, i4, j4, f7, f8, b, eb, hq _ _ h⟩
    · rintro σ Hx ⟨at_, fs, y, rfl, sx, hD, eo⟩
      refine ⟨_, rfl, _, rfl, D, _, rfl, .inl (SqL.of hD), _, rfl, by show 3 ≤ sizeLine; decide, fun t nt => ?_⟩
      rw [vn_len]
      refine q _ _ (sx.trans (same_new nt)) ⟨t, D, rfl, fresh_of (none_of sx nt) ?_, fresh_of nD ?_⟩
      · rw [upd_same, eo]
      · rw [upd_ne (ne_of_none hD nt), hD, eo]
def sp_origin (K : PySem.W.Frag) : Sp := fun vs H Q _ => ∃ (a : Addr) (n : Net) (x : Nat), vs = [.ref a, .int (x : Nat)] ∧ Dv H (.ref a) n ∧ Fl n ∧ ∀ H' v, Same H H' → OT H' v (orig n x) → Q v H'
theorem ok_origin {P : Program} {w : World} {K : PySem.W.Frag} {mg : Str → Option Value} {base : Heap} {C_Wires : Addr} {f forigin_of : Addr} {fd fdorigin_of : FuncData} (F : Fun K "origin" "origin" s_origin f fd) (T : Txt K mg C_Wires)
    (G_origin_of : FnOk P w K mg base CX0 1 forigin_of fdorigin_of ["net", "literal"] (sp_origin_of K)) (D_origin_of : Def K mg "origin_of" forigin_of fdorigin_of ["net", "literal"]) :
    FnOk P w K mg base CX0 2 f fd ["net", "literal"] (sp_origin K) := by
  refine F.ok scorigin (fun vs H Q E h => ?_) (fun cdv A outer s H vs Q E hr h => ?_)
  · obtain ⟨a, n, x, rfl, _⟩ := h
    rfl
  · obtain ⟨a, n, x, rfl, hn, fl, q⟩ := h
    refine ⟨_, (pss_one (ps_ret (pe_call G_origin_of (hr.mono (by omega)) (by rfl) D_origin_of.m D_origin_of.k D_origin_of.b .nil pass0 (pa_cons (pv 0) (pa_cons (pv 1) pa_nil))))), ?_⟩
    exact ⟨_, rfl, _, rfl, a, n, x, rfl, hn, fl, fun H' v s' o => q H' v s' (o.same fresh_same)⟩

end K41
namespace K41
open PySem PySem.Spec PyProof.Rows L2 V0
def isFn (n : Net) (d : Nat) : Bool := decide (n.ins < d ∧ d ≤ n.ins + n.starts.length)
theorem isF_half (n : Net) (x : Nat) : isF n x = isFn n (x / 2) := rfl
def sp__law_is_flop (K : PySem.W.Frag) : Sp := fun vs H Q _ => ∃ (a : Addr) (n : Net) (d : Nat), vs = [.ref a, .int (d : Nat)] ∧ Dv H (.ref a) n ∧ Q (.bl (isFn n d)) H
theorem ok__law_is_flop {P : Program} {w : World} {K : PySem.W.Frag} {mg : Str → Option Value} {base : Heap} {C_Wires : Addr} {f  : Addr} {fd  : FuncData} (F : Fun K "_law_is_flop" "_law_is_flop" s__law_is_flop f fd) (T : Txt K mg C_Wires) :
    FnOk P w K mg base CX0 1 f fd ["net", "node"] (sp__law_is_flop K) := by
  refine F.ok sc_law_is_flop (fun vs H Q E h => ?_) (fun cdv A outer s H vs Q E hr h => ?_)
  · obtain ⟨a, n, x, rfl, _⟩ := h
    rfl
  · obtain ⟨a, n, d, rfl, hn, q⟩ := h
    obtain ⟨_, aS, aG, aN, aO, e, hA, hS, hG, hN, hO⟩ := hn.net_inv
    cases e
    obtain ⟨_, e, hS⟩ := hS.natl_inv
    cases e
    refine ⟨_, (pss_one (ps_ret (pe_and (pe_cmpR op_lt (pe_ix (r := rIxT K) ix_tup (pv 0) pe_int (fun _ _ => rfl)) (pv 1) (nomark _)) (pe_one (pe_cmpR op_le (pv 1) (pe_op op_add (pe_ix (r := rIxT K) ix_tup (pv 0) pe_int (fun _ _ => rfl)) (pe_callB call_len_seq (by rfl) T.m_len (by decide +kernel) (pa_cons (pe_ix (r := rIxT K) ix_tup (pv 0) pe_int (fun _ _ => rfl)) pa_nil))) (nomark _)))))), ?_⟩
    refine ⟨_, rfl, a, _, 1, _, rfl, rfl, SqT.of hA, atI_nat (j := 1) rfl, _, rfl, _, _, rfl, rfl, _, rfl, ?_⟩
    rw [show decide ((n.ins : Int) < (d : Int)) = decide (n.ins < d) from decide_eq_decide.mpr (by omega)]
    unfold isFn at q
    by_cases c1 : n.ins < d
    · rw [decide_eq_true c1]
      refine iteT ⟨_, rfl, _, rfl, a, _, 1, _, rfl, rfl, SqT.of hA, atI_nat (j := 1) rfl, _, rfl, a, _, 2, _, rfl, rfl, SqT.of hA, atI_nat (j := 2) rfl, aS, _, rfl, .inl (SqL.of hS), _, _, rfl, rfl, _, _, rfl, rfl, ?_⟩
      show Q (V.bl (decide ((d : Int) ≤ (n.ins : Int) + ((vn n.starts).length : Int)))) H
      rw [vn_len, show decide ((d : Int) ≤ (n.ins : Int) + (n.starts.length : Int)) = decide (n.ins < d ∧ d ≤ n.ins + n.starts.length) from decide_eq_decide.mpr ⟨fun z => ⟨c1, by omega⟩, fun z => by omega⟩]
      exact q
    · rw [decide_eq_false c1]
      refine iteF ?_
      rw [decide_eq_false (fun z => c1 z.1)] at q
      exact q
def sp__law_stays (K : PySem.W.Frag) : Sp := fun vs H Q _ => ∃ (a : Addr) (n : Net) (x : Nat), vs = [.ref a, .int (x / 2 : Nat)] ∧ Dv H (.ref a) n ∧ Fl n ∧ Q (.bl (walk n n.starts.length x).isNone) H
theorem ok__law_stays {P : Program} {w : World} {K : PySem.W.Frag} {mg : Str → Option Value} {base : Heap} {C_Wires : Addr} {f f_law_is_flop : Addr} {fd fd_law_is_flop : FuncData} (F : Fun K "_law_stays" "_law_stays" s__law_stays f fd) (T : Txt K mg C_Wires)
    (G__law_is_flop : FnOk P w K mg base CX0 1 f_law_is_flop fd_law_is_flop ["net", "node"] (sp__law_is_flop K)) (D__law_is_flop : Def K mg "_law_is_flop" f_law_is_flop fd_law_is_flop ["net", "node"]) :
    FnOk P w K mg base CX0 2 f fd ["net", "node"] (sp__law_stays K) := by
  refine F.ok sc_law_stays (fun vs H Q E h => ?_) (fun cdv A outer s H vs Q E hr h => ?_)
  · obtain ⟨a, n, x, rfl, _⟩ := h
    rfl
  · obtain ⟨a, n, x, rfl, hn, fl, q⟩ := h
    have hn0 := hn
    obtain ⟨_, aS, aG, aN, aO, e, hA, hS, hG, hN, hO⟩ := hn.net_inv
    cases e
    obtain ⟨_, e, hS⟩ := hS.natl_inv
    cases e
    obtain ⟨_, e, hN⟩ := hN.natl_inv
    cases e
    have b1 := fl.fl
    have b2 := fl.nl
    refine ⟨_, (pss_cons (ps_for PassesOwn.never rfl (pi_range1 rfl T.m_range (pa_cons (pe_op op_add (pe_callB call_len_seq (by rfl) T.m_len (by decide +kernel) (pa_cons (pe_ix (r := rIxT K) ix_tup (pv 0) pe_int (fun _ _ => rfl)) pa_nil)) pe_int) pa_nil)) (pg_name (i := 2) sc_law_stays.nd rfl (Or.inl rfl)) (pss_cons (ps_if (pt_not (pt_val (pe_call G__law_is_flop (hr.mono (by omega)) (by rfl) D__law_is_flop.m D__law_is_flop.k D__law_is_flop.b .nil pass0 (pa_cons (pv 0) (pa_cons (pv 1) pa_nil))))) (pss_one (ps_ret pe_bl)) pss_nil)
      (pss_one (ps_set (i := 1) sc_law_stays.nd rfl (.inl rfl) (pe_op op_fdivN (pe_ix (r := rIxL K) ix_list (pe_ix (r := rIxT K) ix_tup (pv 0) pe_int (fun _ _ => rfl)) (pe_op op_sub (pe_op op_sub (pv 1) pe_int) (pe_ix (r := rIxT K) ix_tup (pv 0) pe_int (fun _ _ => rfl))) (fun _ _ => rfl)) pe_int)))))
      (pss_one (ps_ret pe_bl))), ?_⟩
    refine ⟨_, rfl, a, _, 2, _, rfl, rfl, SqT.of hA, atI_nat (j := 2) rfl, aS, _, rfl, .inl (SqL.of hS), _, _, rfl, rfl, ?_⟩
    rw [vn_len]
    refine ⟨_, rfl, by omega, by omega, ?_⟩
    rw [show ((n.starts.length : Int) + 1).toNat = n.starts.length + 1 by omega]
    refine for_range (n := n.starts.length + 1) (fun i σ Hx => ∃ (d : Nat) (y2 : Option V), σ = [some (.ref a), some (.int (d : Nat)), y2] ∧ Hx = H ∧ (i ≤ n.starts.length → ∃ y, d = y / 2 ∧ (walk n n.starts.length x).isNone = (walk n (n.starts.length - i) y).isNone) ∧ (i = n.starts.length + 1 → (walk n n.starts.length x).isNone = true)) ⟨x / 2, none, rfl, rfl, fun _ => ⟨x, rfl, rfl⟩, fun z => by omega⟩ ?_ ?_
    · rintro i σ Hx hi ⟨d, y2, rfl, rfl, w, _⟩
      obtain ⟨y, rfl, w1⟩ := w (by omega)
      refine ⟨_, rfl, _, rfl, a, n, y / 2, rfl, hn0, _, rfl, ?_⟩
      rw [← isF_half]
      cases hf : isF n y with
      | false =>
        rw [walk_no hf] at w1
        rw [w1] at q
        exact iteT q
      | true =>
        have ix := isF_ix hf
        have ix2 : y / 2 - n.ins - 1 < n.nexts.length := by rw [b2]; exact ix
        have g2 : n.nexts[y / 2 - n.ins - 1]? = some (n.nexts[y / 2 - n.ins - 1]) := List.getElem?_eq_getElem ix2
        have hy := isF_yes hf
        refine iteF ⟨_, rfl, a, _, 4, _, rfl, rfl, SqT.of hA, atI_nat (j := 4) rfl, _, rfl, _, _, rfl, rfl, _, rfl, a, _, 1, _, rfl, rfl, SqT.of hA, atI_nat (j := 1) rfl, _, _, rfl, rfl, aN, _, _, _, rfl, rfl, SqL.of hN, (by rw [show ((y / 2 : Nat) : Int) - 1 - (n.ins : Int) = ((y / 2 - n.ins - 1 : Nat) : Int) by omega]; exact atI_nat (vn_get g2)), _, _, rfl, rfl, ⟨by decide, by decide⟩, ?_⟩
        have e1 : ((n.nexts[y / 2 - n.ins - 1] : Nat) : Int).fdiv 2 = ((nxt n y / 2 : Nat) : Int) := by
          rw [nfdiv2]
          unfold nxt
          rw [g2, xor_half _ _ (by omega)]
          rfl
        simp only [e1]
        refine ⟨nxt n y / 2, _, rfl, rfl, fun hk => ⟨nxt n y, rfl, ?_⟩, fun hk => ?_⟩
        · rw [w1, show n.starts.length - i = (n.starts.length - (i + 1)) + 1 by omega, walk_yes hf, Option.isNone_map]
        · rw [w1, show n.starts.length - i = 0 by omega, walk_end hf]
          rfl
    · rintro σ Hx ⟨d, y2, rfl, rfl, _, w⟩
      rw [w rfl] at q
      exact q
def sp__law_origin (K : PySem.W.Frag) : Sp := fun vs H Q _ => ∃ (a : Addr) (n : Net) (x : Nat), vs = [.ref a, .int (x : Nat)] ∧ Dv H (.ref a) n ∧ Fl n ∧ ∀ H' v, Same H H' → OT H' v (orig n x) → Q v H'
theorem ok__law_origin {P : Program} {w : World} {K : PySem.W.Frag} {mg : Str → Option Value} {base : Heap} {C_Wires : Addr} {f f_law_is_flop f_law_stays : Addr} {fd fd_law_is_flop fd_law_stays : FuncData} (F : Fun K "_law_origin" "_law_origin" s__law_origin f fd) (T : Txt K mg C_Wires)
    (G__law_is_flop : FnOk P w K mg base CX0 1 f_law_is_flop fd_law_is_flop ["net", "node"] (sp__law_is_flop K)) (D__law_is_flop : Def K mg "_law_is_flop" f_law_is_flop fd_law_is_flop ["net", "node"])
    (G__law_stays : FnOk P w K mg base CX0 2 f_law_stays fd_law_stays ["net", "node"] (sp__law_stays K)) (D__law_stays : Def K mg "_law_stays" f_law_stays fd_law_stays ["net", "node"]) :
    FnOk P w K mg base CX0 3 f fd ["net", "literal"] (sp__law_origin K) := by
  refine F.ok sc_law_origin (fun vs H Q E h => ?_) (fun cdv A outer s H vs Q E hr h => ?_)
  · obtain ⟨a, n, x, rfl, _⟩ := h
    rfl
  · obtain ⟨a, n, x, rfl, hn, fl, q⟩ := h
    have hn0 := hn
    obtain ⟨_, aS, aG, aN, aO, e, hA, hS, hG, hN, hO⟩ := hn.net_inv
    cases e
    obtain ⟨_, e, hS⟩ := hS.natl_inv
    cases e
    obtain ⟨_, e, hN⟩ := hN.natl_inv
    cases e
    have b1 := fl.fl
    have b2 := fl.nl
    refine ⟨_, (pss_cons (ps_set (i := 2) sc_law_origin.nd rfl (.inl rfl) (pe_lst pa_nil))
      (C8.pss_cut (ps_while PassesOwn.never (PW.pt (pw_and (pt_val (pe_call G__law_is_flop (hr.mono (by omega)) (by rfl) D__law_is_flop.m D__law_is_flop.k D__law_is_flop.b .nil pass0 (pa_cons (pv 0) (pa_cons (pe_op op_fdivN (pv 1) pe_int) pa_nil)))) (pw_and1 (pt_not (pt_val (pe_call G__law_stays (hr.mono (by omega)) (by rfl) D__law_stays.m D__law_stays.k D__law_stays.b .nil pass0 (pa_cons (pv 0) (pa_cons (pe_op op_fdivN (pv 1) pe_int) pa_nil)))))))) (pss_cons (ps_set (i := 3) sc_law_origin.nd rfl (.inl rfl) (pe_op op_sub (pe_op op_sub (pe_op op_fdivN (pv 1) pe_int) pe_int) (pe_ix (r := rIxT K) ix_tup (pv 0) pe_int (fun _ _ => rfl))))
      (pss_cons (ps_set (i := 4) sc_law_origin.nd rfl (.inl rfl) (pe_op op_modN (pe_callTy call_int1 (by rfl) T.m_int (by decide +kernel) (pa_cons (pv 1) pa_nil)) pe_int))
      (pss_cons (ps_expr (pe_bm PySem.F.plainAttrs_list PySem.F.slot_list_append PySem.F.type_list_append mt_append (pv 2) (pa_cons (pe_op op_xor (pe_ix (r := rIxL K) ix_list (pe_ix (r := rIxT K) ix_tup (pv 0) pe_int (fun _ _ => rfl)) (pv 3) (fun _ _ => rfl)) (pv 4)) pa_nil)))
      (pss_one (ps_set (i := 1) sc_law_origin.nd rfl (.inl rfl) (pe_op op_xor (pe_ix (r := rIxL K) ix_list (pe_ix (r := rIxT K) ix_tup (pv 0) pe_int (fun _ _ => rfl)) (pv 3) (fun _ _ => rfl)) (pv 4))))))))
      (pss_one (ps_ret (pe_tup (pa_cons (pv 1) (pa_cons (pe_callB call_len_seq (by rfl) T.m_len (by decide +kernel) (pa_cons (pv 2) pa_nil)) (pa_cons (pv 2) pa_nil)))))))), ?_⟩
    refine ⟨by show 0 ≤ sizeLine; decide, fun D nD => ?_⟩
    refine ⟨fun σ Hx => ∃ (at_ : Nat) (fs : List Nat) (y3 y4 : Option V), σ = [some (.ref a), some (.int (at_ : Nat)), some (.ref D), y3, y4] ∧ Same H Hx ∧ Hx D = some (.lst (vn fs)) ∧ orig n x = (at_, fs), ?_, ?_⟩
    · refine while_by (fun σ Hx => ∃ (at_ : Nat) (fs : List Nat) (y3 y4 : Option V), σ = [some (.ref a), some (.int (at_ : Nat)), some (.ref D), y3, y4] ∧ Same H Hx ∧ Hx D = some (.lst (vn fs)) ∧ fs.length ≤ n.starts.length ∧ walk n n.starts.length x = (walk n (n.starts.length - fs.length) at_).map (pre fs) ∧ ((at_ = x ∧ fs = []) ∨ (walk n n.starts.length x).isNone = false))
        (fun _ Hx => n.starts.length - (match Hx D with | some (.lst xs) => xs.length | _ => 0)) ⟨x, [], none, none, rfl, same_new nD, upd_same, Nat.zero_le _, ?_, .inl ⟨rfl, rfl⟩⟩ ?_ ?_
      · show walk n n.starts.length x = (walk n (n.starts.length - 0) x).map (pre [])
        rw [Nat.sub_zero]
        cases walk n n.starts.length x <;> rfl
      · rintro σ Hx ⟨at_, fs, y3, y4, rfl, sx, hD, hl, hw, alt⟩
        have hn1 := hn0.same sx
        refine ⟨_, rfl, _, rfl, _, _, rfl, rfl, ⟨by decide, by decide⟩, a, n, at_ / 2, congrArg (fun z : Int => [V.ref a, V.int z]) (nfdiv2 at_), hn1, _, rfl, ?_⟩
        rw [← isF_half]
        cases hf : isF n at_ with
        | false =>
          refine iteF ⟨at_, fs, y3, y4, rfl, sx, hD, ?_⟩
          unfold orig
          rw [hw, walk_no hf]
          show (at_, fs ++ []) = _
          rw [List.append_nil]
        | true =>
          refine iteT ⟨_, rfl, _, rfl, _, _, rfl, rfl, ⟨by decide, by decide⟩, a, n, at_, congrArg (fun z : Int => [V.ref a, V.int z]) (nfdiv2 at_), hn1, fl, _, rfl, ?_⟩
          cases hs : (walk n n.starts.length at_).isNone with
          | true =>
            refine iteF ⟨at_, fs, y3, y4, rfl, sx, hD, ?_⟩
            rcases alt with ⟨rfl, rfl⟩ | alt
            · unfold orig
              rw [Option.isNone_iff_eq_none.mp hs]
              rfl
            · exfalso
              rw [hw, Option.isNone_map] at alt
              cases hc : walk n (n.starts.length - fs.length) at_ with
              | none =>
                rw [hc] at alt
                cases alt
              | some r =>
                rw [walk_up hc (by omega)] at hs
                cases hs
          | false =>
            have ix := isF_ix hf
            have hy := isF_yes hf
            have some_ : (walk n n.starts.length x).isNone = false := by
              rcases alt with ⟨rfl, rfl⟩ | alt
              · exact hs
              · exact alt
            have lt : fs.length < n.starts.length := by
              refine Nat.lt_of_le_of_ne hl fun z => ?_
              rw [hw, z, Nat.sub_self, walk_end hf] at some_
              cases some_
            refine iteT ?_
            refine ⟨_, rfl, _, _, rfl, rfl, ⟨by decide, by decide⟩, _, _, rfl, rfl, _, rfl, a, _, 1, _, rfl, rfl, SqT.of (sx _ _ hA), atI_nat (j := 1) rfl, _, _, rfl, rfl, ?_⟩
            have ei : V.int (((at_ : Nat) : Int).fdiv 2 - 1 - (n.ins : Int)) = V.int ((at_ / 2 - n.ins - 1 : Nat) : Int) := by
              rw [nfdiv2]
              congr 1
              omega
            simp only [ei]
            refine ⟨_, rfl, .inl ⟨_, rfl, _, _, rfl, rfl, (show (2 : Int) ≠ 0 by decide), ?_⟩⟩
            have eo : V.int (((at_ : Nat) : Int).fmod 2) = V.int ((at_ % 2 : Nat) : Int) := by rw [nfmod2]
            simp only [eo]
            have g1 : n.starts[at_ / 2 - n.ins - 1]? = some (n.starts[at_ / 2 - n.ins - 1]) := List.getElem?_eq_getElem ix
            have ix2 : at_ / 2 - n.ins - 1 < n.nexts.length := by rw [b2]; exact ix
            have g2 : n.nexts[at_ / 2 - n.ins - 1]? = some (n.nexts[at_ / 2 - n.ins - 1]) := List.getElem?_eq_getElem ix2
            refine ⟨_, rfl, .inl ⟨rfl, _, SqL.of hD⟩, _, rfl, a, _, 2, _, rfl, rfl, SqT.of (sx _ _ hA), atI_nat (j := 2) rfl, _, rfl, aS, _, _, _, rfl, rfl, SqL.of (sx _ _ hS), atI_nat (vn_get g1), _, rfl, _, _, rfl, rfl, D, _, _, rfl, rfl, hD, small64k (by rw [vn_len]; omega), ?_⟩
            have e1 : Builtin.bitXor ((n.starts[at_ / 2 - n.ins - 1] : Nat) : Int) ((at_ % 2 : Nat) : Int) = ((fst0 n at_ : Nat) : Int) := by
              rw [bxor]
              unfold fst0
              rw [g1]
              rfl
            simp only [e1]
            rw [vn_snoc']
            have sy : Same H (upd Hx D (.lst (vn (fs ++ [fst0 n at_])))) := same_mut sx nD
            have eD : (upd Hx D (.lst (vn (fs ++ [fst0 n at_])))) D = some (.lst (vn (fs ++ [fst0 n at_]))) := upd_same
            refine ⟨_, rfl, a, _, 4, _, rfl, rfl, SqT.of (sy _ _ hA), atI_nat (j := 4) rfl, _, rfl, aN, _, _, _, rfl, rfl, SqL.of (sy _ _ hN), atI_nat (vn_get g2), _, rfl, _, _, rfl, rfl, ?_⟩
            have e2 : Builtin.bitXor ((n.nexts[at_ / 2 - n.ins - 1] : Nat) : Int) ((at_ % 2 : Nat) : Int) = ((nxt n at_ : Nat) : Int) := by
              rw [bxor]
              unfold nxt
              rw [g2]
              rfl
            simp only [e2]
            refine ⟨⟨nxt n at_, _, _, _, rfl, sy, eD, by rw [List.length_append]; show fs.length + 1 ≤ _; omega, walk_step hw hf lt, .inr some_⟩, ?_⟩
            show n.starts.length - (match (upd Hx D (.lst (vn (fs ++ [fst0 n at_])))) D with | some (.lst xs) => xs.length | _ => 0) < n.starts.length - (match Hx D with | some (.lst xs) => xs.length | _ => 0)
            rw [eD, hD]
            show n.starts.length - (vn (fs ++ [fst0 n at_])).length < n.starts.length - (vn fs).length
            rw [vn_len, vn_len, List.length_append]
            show n.starts.length - (fs.length + 1) < _
            omega
      · intro σ H Q Q' hq h
        obtain ⟨x1, e1, x2, e2, i1, j1, e3, e4, c5, a1, n1, d1, ev, hd, b, eb, h⟩ := h
        refine ⟨x1, e1, x2, e2, i1, j1, e3, e4, c5, a1, n1, d1, ev, hd, b, eb, ?_⟩
        cases b with
        | false =>
          rw [if_neg Bool.false_ne_true] at h
          exact iteF (hq _ _ h)
        | true =>
          rw [if_pos rfl] at h
          obtain ⟨x3, f1, x4, f2, i3, j3, f3, f4, c6, a2, n2, d2, ev2, hd2, fl2, b2, eb2, h⟩ := h
          exact iteT ⟨x3, f1, x4, f2, i3, j3, f3, f4, c6, a2, n2, d2, ev2, hd2, fl2, b2, eb2, hq _ _ h⟩
    · rintro σ Hx ⟨at_, fs, y3, y4, rfl, sx, hD, eo⟩
      refine ⟨_, rfl, _, rfl, D, _, rfl, .inl (SqL.of hD), _, rfl, by show 3 ≤ sizeLine; decide, fun t nt => ?_⟩
      rw [vn_len]
      refine q _ _ (sx.trans (same_new nt)) ⟨t, D, rfl, ?_, ?_⟩
      · rw [upd_same, eo]
      · rw [upd_ne (ne_of_none hD nt), hD, eo]

end K41
namespace K41
open PySem PySem.Spec PyProof.Rows L2 V0
/-! ### names in the order that their uses ask -/
inductive Topo (U : Nat → List Nat) : List Nat → Prop where
  | nil : Topo U []
  | snoc {l : List Nat} {x : Nat} : Topo U l → (∀ u ∈ U x, u ∈ l) → Topo U (l ++ [x])
theorem Topo.at {U : Nat → List Nat} {l : List Nat} (h : Topo U l) : ∀ {i x : Nat}, l[i]? = some x → ∀ u ∈ U x, u ∈ l.take i := by
  induction h with
  | nil =>
    intro i x e
    simp at e
  | @snoc l y _ hu ih =>
    intro i x e u m
    by_cases hi : i < l.length
    · rw [List.getElem?_append_left hi] at e
      rw [List.take_append_of_le_length (by omega)]
      exact ih e u m
    · have hl : i = l.length := by
        have := (List.getElem?_eq_some_iff.mp e).1
        rw [List.length_append] at this
        have : i < l.length + 1 := this
        omega
      subst hl
      rw [List.getElem?_append_right (Nat.le_refl _), Nat.sub_self] at e
      cases e
      rw [List.take_left]
      exact hu u m
structure Gr (U : Nat → List Nat) (r : Nat → Nat) (N : List Nat) : Prop where
  dn : ∀ x ∈ N, ∀ u ∈ U x, u ∈ N
  lt : ∀ x ∈ N, ∀ u ∈ U x, r u < r x
  few : N.length ≤ 1000
def usum (f : Nat → Nat) (S : List Nat) : List Nat → Nat
  | [] => 0
  | y :: N => (if y ∈ S then 0 else f y) + usum f S N
theorem usum_le {f : Nat → Nat} {S S' : List Nat} (h : ∀ y, y ∈ S → y ∈ S') : ∀ N : List Nat, usum f S' N ≤ usum f S N
  | [] => Nat.le_refl _
  | y :: N => by
    have ih := usum_le (f := f) h N
    unfold usum
    by_cases c : y ∈ S
    · rw [if_pos c, if_pos (h _ c)]
      omega
    · rw [if_neg c]
      by_cases d : y ∈ S'
      · rw [if_pos d]
        omega
      · rw [if_neg d]
        omega
theorem usum_congr {f : Nat → Nat} {S S' : List Nat} (h : ∀ y, y ∈ S ↔ y ∈ S') (N : List Nat) : usum f S' N = usum f S N := Nat.le_antisymm (usum_le (fun y => (h y).mp) N) (usum_le (fun y => (h y).mpr) N)
theorem usum_more {f : Nat → Nat} {S S' : List Nat} {u : Nat} (hu : u ∉ S) (h : ∀ y, y ∈ S' ↔ y = u ∨ y ∈ S) : ∀ N : List Nat, u ∈ N → usum f S' N + f u ≤ usum f S N
  | y :: N, m => by
    have le := usum_le (f := f) (fun y hy => (h y).mpr (.inr hy)) N
    unfold usum
    by_cases e : y = u
    · subst e
      rw [if_neg hu, if_pos ((h y).mpr (.inl rfl))]
      omega
    · have ih := usum_more (f := f) hu h N ((List.mem_cons.mp m).resolve_left fun z => e z.symm)
      by_cases c : y ∈ S
      · rw [if_pos c, if_pos ((h y).mpr (.inr c))]
        omega
      · rw [if_neg c, if_neg (fun z => ((h y).mp z).elim e c)]
        omega
theorem usum_one (S : List Nat) : ∀ N : List Nat, usum (fun _ => 1) S N ≤ N.length
  | [] => Nat.le_refl _
  | y :: N => by
    have ih := usum_one S N
    unfold usum
    show _ ≤ N.length + 1
    split <;> omega
structure Seen (ks : List (Key × V)) (N S : List Nat) : Prop where
  i : ∀ y : Nat, (valV ks (Sum.inl (y : Int))).isSome = true ↔ y ∈ S
  n : ks.length + usum (fun _ => 1) S N ≤ N.length
  m : S.length ≤ ks.length
theorem Seen.congr {ks : List (Key × V)} {N S S' : List Nat} (h : Seen ks N S) (k : ∀ y, y ∈ S ↔ y ∈ S') (l : S'.length = S.length) : Seen ks N S' :=
  ⟨fun y => (h.i y).trans (k y), by rw [usum_congr k N]; exact h.n, by rw [l]; exact h.m⟩
theorem Seen.put {ks : List (Key × V)} {N S S' : List Nat} {u : Nat} (h : Seen ks N S) (hu : u ∉ S) (uN : u ∈ N) (k : ∀ y, y ∈ S' ↔ y = u ∨ y ∈ S) (l : S'.length = S.length + 1) (v : V) : Seen (putK ks (Sum.inl (u : Int)) v) N S' := by
  have hv : valV ks (Sum.inl (u : Int)) = none := by
    cases e : valV ks (Sum.inl (u : Int)) with
    | none => rfl
    | some w => exact absurd ((h.i u).mp (by rw [e]; rfl)) hu
  have hl : (putK ks (Sum.inl (u : Int)) v).length = ks.length + 1 := by
    rw [putK_new v hv, List.length_append]
    rfl
  refine ⟨fun y => ?_, ?_, ?_⟩
  · rw [valV_put, k y]
    by_cases e : y = u
    · subst e
      rw [if_pos rfl]
      exact ⟨fun _ => .inl rfl, fun _ => rfl⟩
    · rw [if_neg (fun z : (Sum.inl (y : Int) : Key) = Sum.inl (u : Int) => e (by have := Sum.inl.inj z; omega)), h.i y]
      exact ⟨.inr, fun z => z.resolve_left e⟩
  · have := usum_more (f := fun _ => 1) hu k N uN
    have := h.n
    omega
  · have := h.m
    omega
/-- all names met: done before, done now, on the stack -/
def met (pre done : List Nat) (stk : List (Nat × Nat)) : List Nat := pre ++ done ++ stk.map (·.1)
structure MI (U : Nat → List Nat) (r : Nat → Nat) (N pre : List Nat) (x : Nat) (done : List Nat) (stk : List (Nat × Nat)) (ks : List (Key × V)) : Prop where
  seen : Seen ks N (met pre done stk)
  topo : Topo U (pre ++ done)
  dn : ∀ y ∈ done, y ∈ N
  sN : ∀ p ∈ stk, p.1 ∈ N ∧ p.2 ≤ (U p.1).length ∧ ∀ (j u : Nat), j < p.2 → (U p.1)[j]? = some u → u ∈ met pre done stk
  so : stk.Pairwise (fun p q => r q.1 < r p.1)
  fx : x ∈ done ∨ x ∈ stk.map (·.1)
def meas (U : Nat → List Nat) (N S : List Nat) (stk : List (Nat × Nat)) : Nat := usum (fun y => (U y).length + 2) S N + (stk.map fun p => (U p.1).length + 1 - p.2).sum
theorem mem_met {pre done : List Nat} {stk : List (Nat × Nat)} {y : Nat} : y ∈ met pre done stk ↔ y ∈ pre ∨ y ∈ done ∨ y ∈ stk.map (·.1) := by
  unfold met
  rw [List.mem_append, List.mem_append, or_assoc]
theorem met_snoc {pre done : List Nat} {stk : List (Nat × Nat)} {p : Nat × Nat} {y : Nat} : y ∈ met pre done (stk ++ [p]) ↔ y = p.1 ∨ y ∈ met pre done stk := by
  rw [mem_met, mem_met, List.map_append, List.mem_append]
  show _ ∨ _ ∨ _ ∨ y ∈ [p.1] ↔ _
  rw [List.mem_singleton]
  constructor
  · rintro (h | h | h | h)
    · exact .inr (.inl h)
    · exact .inr (.inr (.inl h))
    · exact .inr (.inr (.inr h))
    · exact .inl h
  · rintro (h | h | h | h)
    · exact .inr (.inr (.inr h))
    · exact .inl h
    · exact .inr (.inl h)
    · exact .inr (.inr (.inl h))
theorem met_len {pre done : List Nat} {stk : List (Nat × Nat)} : (met pre done stk).length = pre.length + done.length + stk.length := by
  unfold met
  rw [List.length_append, List.length_append, List.length_map]
section
variable {U : Nat → List Nat} {r : Nat → Nat} {N pre : List Nat} {x : Nat} {done : List Nat} {stk : List (Nat × Nat)} {ks : List (Key × V)} {nm at_ : Nat}
theorem MI.pop (g : Gr U r N) (h : MI U r N pre x done (stk ++ [(nm, at_)]) ks) (e : at_ = (U nm).length) : MI U r N pre x (done ++ [nm]) stk ks := by
  have mm : ∀ y, y ∈ met pre done (stk ++ [(nm, at_)]) ↔ y ∈ met pre (done ++ [nm]) stk := fun y => by
    rw [met_snoc, mem_met, mem_met, List.mem_append, List.mem_singleton]
    constructor
    · rintro (h | h | h | h)
      · exact .inr (.inl (.inr h))
      · exact .inl h
      · exact .inr (.inl (.inl h))
      · exact .inr (.inr h)
    · rintro (h | (h | h) | h)
      · exact .inr (.inl h)
      · exact .inr (.inr (.inl h))
      · exact .inl h
      · exact .inr (.inr (.inr h))
  obtain ⟨nN, _, used⟩ := h.sN (nm, at_) (List.mem_append_right _ List.mem_cons_self)
  refine ⟨h.seen.congr mm ?_, ?_, ?_, ?_, (List.pairwise_append.mp h.so).1, ?_⟩
  · rw [met_len, met_len, List.length_append, List.length_append]
    show _ + (_ + 1) + _ = _ + _ + (_ + 1)
    omega
  · rw [← List.append_assoc]
    refine .snoc h.topo fun u hu => ?_
    obtain ⟨j, hj, ej⟩ := List.mem_iff_getElem.mp hu
    have k := used j u (by show j < at_; omega) (by rw [List.getElem?_eq_getElem hj, ej])
    rw [met_snoc, mem_met] at k
    have lt := g.lt nm nN u hu
    rcases k with k | k | k | k
    · rw [show u = nm from k] at lt
      exact absurd lt (Nat.lt_irrefl _)
    · exact List.mem_append_left _ k
    · exact List.mem_append_right _ k
    · obtain ⟨p, hp, ep⟩ := List.mem_map.mp k
      have := (List.pairwise_append.mp h.so).2.2 p hp (nm, at_) List.mem_cons_self
      rw [ep] at this
      have : r nm < r u := this
      omega
  · intro y hy
    rcases List.mem_append.mp hy with hy | hy
    · exact h.dn y hy
    · rw [List.mem_singleton.mp hy]
      exact nN
  · intro p hp
    obtain ⟨a, b, c⟩ := h.sN p (List.mem_append_left _ hp)
    exact ⟨a, b, fun j u hj eu => (mm u).mp (c j u hj eu)⟩
  · rcases h.fx with k | k
    · exact .inl (List.mem_append_left _ k)
    · rw [List.map_append] at k
      rcases List.mem_append.mp k with k | k
      · exact .inr k
      · exact .inl (List.mem_append_right _ k)
theorem MI.pop_lt (h : MI U r N pre x done (stk ++ [(nm, at_)]) ks) (e : at_ = (U nm).length) : meas U N (met pre (done ++ [nm]) stk) stk < meas U N (met pre done (stk ++ [(nm, at_)])) (stk ++ [(nm, at_)]) := by
  unfold meas
  rw [List.map_append, List.sum_append]
  have le := usum_le (f := fun y => (U y).length + 2) (S := met pre done (stk ++ [(nm, at_)])) (S' := met pre (done ++ [nm]) stk) (fun y hy => by
    rw [met_snoc, mem_met] at hy
    rw [mem_met, List.mem_append, List.mem_singleton]
    rcases hy with h | h | h | h
    · exact .inr (.inl (.inr h))
    · exact .inl h
    · exact .inr (.inl (.inl h))
    · exact .inr (.inr h)) N
  have : (([(nm, at_)] : List (Nat × Nat)).map fun p => (U p.1).length + 1 - p.2).sum = 1 := by
    show (U nm).length + 1 - at_ + 0 = 1
    omega
  omega
theorem MI.more (h : MI U r N pre x done (stk ++ [(nm, at_)]) ks) {u : Nat} (e : (U nm)[at_]? = some u) (m : u ∈ met pre done (stk ++ [(nm, at_)])) : MI U r N pre x done (stk ++ [(nm, at_ + 1)]) ks := by
  have mm : ∀ y, y ∈ met pre done (stk ++ [(nm, at_)]) ↔ y ∈ met pre done (stk ++ [(nm, at_ + 1)]) := fun y => by rw [met_snoc, met_snoc]
  refine ⟨h.seen.congr mm (by rw [met_len, met_len, List.length_append, List.length_append]; rfl), h.topo, h.dn, ?_, ?_, ?_⟩
  · intro p hp
    rcases List.mem_append.mp hp with hp | hp
    · obtain ⟨a, b, c⟩ := h.sN p (List.mem_append_left _ hp)
      exact ⟨a, b, fun j w hj ew => (mm w).mp (c j w hj ew)⟩
    · rw [List.mem_singleton.mp hp]
      obtain ⟨a, b, c⟩ := h.sN (nm, at_) (List.mem_append_right _ List.mem_cons_self)
      refine ⟨a, (List.getElem?_eq_some_iff.mp e).1, fun j w hj ew => (mm w).mp ?_⟩
      by_cases k : j < at_
      · exact c j w k ew
      · have : j = at_ := by
          have : j < at_ + 1 := hj
          omega
        subst this
        have ew : (U nm)[j]? = some w := ew
        rw [e] at ew
        cases ew
        exact m
  · refine List.pairwise_append.mpr ⟨(List.pairwise_append.mp h.so).1, List.pairwise_singleton _ _, fun p hp q hq => ?_⟩
    rw [List.mem_singleton.mp hq]
    exact (List.pairwise_append.mp h.so).2.2 p hp (nm, at_) List.mem_cons_self
  · rcases h.fx with k | k
    · exact .inl k
    · refine .inr ?_
      rw [List.map_append] at k ⊢
      exact k
theorem MI.more_lt (h : MI U r N pre x done (stk ++ [(nm, at_)]) ks) {u : Nat} (e : (U nm)[at_]? = some u) : meas U N (met pre done (stk ++ [(nm, at_ + 1)])) (stk ++ [(nm, at_ + 1)]) < meas U N (met pre done (stk ++ [(nm, at_)])) (stk ++ [(nm, at_)]) := by
  unfold meas
  rw [List.map_append, List.sum_append, List.map_append, List.sum_append]
  have eq := usum_congr (f := fun y => (U y).length + 2) (S := met pre done (stk ++ [(nm, at_)])) (S' := met pre done (stk ++ [(nm, at_ + 1)])) (fun y => by rw [met_snoc, met_snoc]) N
  have lt := (List.getElem?_eq_some_iff.mp e).1
  have a : (([(nm, at_)] : List (Nat × Nat)).map fun p => (U p.1).length + 1 - p.2).sum = (U nm).length + 1 - at_ := rfl
  have b : (([(nm, at_ + 1)] : List (Nat × Nat)).map fun p => (U p.1).length + 1 - p.2).sum = (U nm).length + 1 - (at_ + 1) := rfl
  omega
theorem MI.new (g : Gr U r N) (h : MI U r N pre x done (stk ++ [(nm, at_)]) ks) {u : Nat} (e : (U nm)[at_]? = some u) (m : u ∉ met pre done (stk ++ [(nm, at_)])) (v : V) :
    MI U r N pre x done (stk ++ [(nm, at_ + 1)] ++ [(u, 0)]) (putK ks (Sum.inl (u : Int)) v) := by
  obtain ⟨a, b, c⟩ := h.sN (nm, at_) (List.mem_append_right _ List.mem_cons_self)
  have uU : u ∈ U nm := List.mem_of_getElem? e
  have uN := g.dn nm a u uU
  have lt := g.lt nm a u uU
  have mm : ∀ y, y ∈ met pre done (stk ++ [(nm, at_ + 1)] ++ [(u, 0)]) ↔ y = u ∨ y ∈ met pre done (stk ++ [(nm, at_)]) := fun y => by rw [met_snoc, met_snoc, met_snoc]
  refine ⟨h.seen.put m uN mm (by rw [met_len, met_len, List.length_append, List.length_append, List.length_append]; rfl) v, h.topo, h.dn, ?_, ?_, ?_⟩
  · intro p hp
    rcases List.mem_append.mp hp with hp | hp
    · rcases List.mem_append.mp hp with hp | hp
      · obtain ⟨a, b, c⟩ := h.sN p (List.mem_append_left _ hp)
        exact ⟨a, b, fun j w hj ew => (mm w).mpr (.inr (c j w hj ew))⟩
      · rw [List.mem_singleton.mp hp]
        refine ⟨a, (List.getElem?_eq_some_iff.mp e).1, fun j w hj ew => (mm w).mpr ?_⟩
        by_cases k : j < at_
        · exact .inr (c j w k ew)
        · have : j = at_ := by
            have : j < at_ + 1 := hj
            omega
          subst this
          have ew : (U nm)[j]? = some w := ew
          rw [e] at ew
          cases ew
          exact .inl rfl
    · rw [List.mem_singleton.mp hp]
      exact ⟨uN, Nat.zero_le _, fun j w hj => absurd hj (Nat.not_lt_zero _)⟩
  · have so := List.pairwise_append.mp h.so
    refine List.pairwise_append.mpr ⟨List.pairwise_append.mpr ⟨so.1, List.pairwise_singleton _ _, fun p hp q hq => ?_⟩, List.pairwise_singleton _ _, fun p hp q hq => ?_⟩
    · rw [List.mem_singleton.mp hq]
      exact so.2.2 p hp (nm, at_) List.mem_cons_self
    · rw [List.mem_singleton.mp hq]
      rcases List.mem_append.mp hp with hp | hp
      · have : r nm < r p.1 := so.2.2 p hp (nm, at_) List.mem_cons_self
        show r u < r p.1
        omega
      · rw [List.mem_singleton.mp hp]
        exact lt
  · rcases h.fx with k | k
    · exact .inl k
    · refine .inr ?_
      rw [List.map_append, List.map_append]
      rw [List.map_append] at k
      exact List.mem_append_left _ k
theorem MI.new_lt (g : Gr U r N) (h : MI U r N pre x done (stk ++ [(nm, at_)]) ks) {u : Nat} (e : (U nm)[at_]? = some u) (m : u ∉ met pre done (stk ++ [(nm, at_)])) :
    meas U N (met pre done (stk ++ [(nm, at_ + 1)] ++ [(u, 0)])) (stk ++ [(nm, at_ + 1)] ++ [(u, 0)]) < meas U N (met pre done (stk ++ [(nm, at_)])) (stk ++ [(nm, at_)]) := by
  obtain ⟨a, b, c⟩ := h.sN (nm, at_) (List.mem_append_right _ List.mem_cons_self)
  have uN := g.dn nm a u (List.mem_of_getElem? e)
  have lt := (List.getElem?_eq_some_iff.mp e).1
  unfold meas
  rw [List.map_append, List.sum_append, List.map_append, List.sum_append, List.map_append, List.sum_append]
  have le := usum_more (f := fun y => (U y).length + 2) m (S' := met pre done (stk ++ [(nm, at_ + 1)] ++ [(u, 0)])) (fun y => by rw [met_snoc, met_snoc, met_snoc]) N uN
  have a1 : (([(nm, at_)] : List (Nat × Nat)).map fun p => (U p.1).length + 1 - p.2).sum = (U nm).length + 1 - at_ := rfl
  have b1 : (([(nm, at_ + 1)] : List (Nat × Nat)).map fun p => (U p.1).length + 1 - p.2).sum = (U nm).length + 1 - (at_ + 1) := rfl
  have c1 : (([(u, 0)] : List (Nat × Nat)).map fun p => (U p.1).length + 1 - p.2).sum = (U u).length + 1 := rfl
  have le : usum (fun y => (U y).length + 2) (met pre done (stk ++ [(nm, at_ + 1)] ++ [(u, 0)])) N + ((U u).length + 2) ≤ _ := le
  omega
end

end K41
namespace K41
open PySem PySem.Spec PyProof.Rows L2 V0
/-- all but three things that change -/
def fz (p q r : Addr) (H : Hp) : Hp := fun b => if b = p ∨ b = q ∨ b = r then none else H b
theorem fz_some {p q r b : Addr} {H : Hp} {o : HO} (h : fz p q r H b = some o) : (b ≠ p ∧ b ≠ q ∧ b ≠ r) ∧ H b = some o := by
  unfold fz at h
  by_cases c : b = p ∨ b = q ∨ b = r
  · rw [if_pos c] at h
    cases h
  · rw [if_neg c] at h
    exact ⟨⟨fun e => c (.inl e), fun e => c (.inr (.inl e)), fun e => c (.inr (.inr e))⟩, h⟩
theorem fz_of {p q r b : Addr} {H : Hp} {o : HO} (h1 : b ≠ p) (h2 : b ≠ q) (h3 : b ≠ r) (h : H b = some o) : fz p q r H b = some o := by
  unfold fz
  rw [if_neg (fun e => e.elim h1 fun e => e.elim h2 h3)]
  exact h
theorem fz_mono {p q r : Addr} {H H' : Hp} (s : Same H H') : Same (fz p q r H) (fz p q r H') := fun b o h => by
  obtain ⟨⟨h1, h2, h3⟩, e⟩ := fz_some h
  exact fz_of h1 h2 h3 (s _ _ e)
theorem fz_mut {p q r b : Addr} {H : Hp} {o : HO} (h : b = p ∨ b = q ∨ b = r) : Same (fz p q r H) (fz p q r (upd H b o)) := fun d u e => by
  obtain ⟨⟨h1, h2, h3⟩, e⟩ := fz_some e
  refine fz_of h1 h2 h3 ?_
  rw [upd_ne (fun z => by subst z; exact h.elim h1 fun z => z.elim h2 h3)]
  exact e
theorem fz_up {p q r : Addr} {H : Hp} : Same (fz p q r H) H := fun b o h => (fz_some h).2
/-- a dict of lists of names -/
def UAt (H : Hp) (a : Addr) (U : Nat → List Nat) (N : List Nat) : Prop := ∃ kvs : List (Key × V), H a = some (.dK kvs) ∧ ∀ x ∈ N, ∃ l, valV kvs (Sum.inl (x : Int)) = some (.ref l) ∧ H l = some (.lst (vn (U x)))
theorem UAt.same {H H' : Hp} {a : Addr} {U : Nat → List Nat} {N : List Nat} (h : UAt H a U N) (s : Same H H') : UAt H' a U N := by
  obtain ⟨kvs, e, f⟩ := h
  refine ⟨kvs, s _ _ e, fun x hx => ?_⟩
  obtain ⟨l, e1, e2⟩ := f x hx
  exact ⟨l, e1, s _ _ e2⟩
theorem dget_k {H : Hp} {a : Addr} {kvs : List (Key × V)} {x : Nat} {v : V} (e : H a = some (.dK kvs)) (h : valV kvs (Sum.inl (x : Int)) = some v) : DGet H a (.int (x : Int)) (some v) := by
  rw [← h]
  exact DGet.k (k := Sum.inl (x : Int)) e
theorem dvs_last {H : Hp} {us : List V} {stk : List (Nat × Nat)} {p : Nat × Nat} (h : Dvs H us (stk ++ [p])) : ∃ us0 t, us = us0 ++ [.ref t] ∧ Dvs H us0 stk ∧ H t = some (.tup [.int (p.1 : Nat), .int (p.2 : Nat)]) := by
  induction stk generalizing us with
  | nil =>
    obtain ⟨v, us', rfl, h1, h2⟩ := Dvs.cons_inv h
    have := h2.nil_inv
    subst this
    obtain ⟨t, u1, u2, rfl, ht, e1, e2⟩ := h1.pair_inv
    rw [e1.nat_inv, e2.nat_inv] at ht
    exact ⟨[], t, rfl, .nil, ht⟩
  | cons q stk ih =>
    obtain ⟨v, us', rfl, h1, h2⟩ := Dvs.cons_inv h
    obtain ⟨us0, t, rfl, h3, h4⟩ := ih h2
    exact ⟨v :: us0, t, rfl, .cons h1 h3, h4⟩
structure FI (H Hx : Hp) (D st sn : Addr) (done : List Nat) (us : List V) (stk : List (Nat × Nat)) (ks : List (Key × V)) : Prop where
  d : Hx D = some (.lst (vn done))
  t : Hx st = some (.lst us)
  s : Hx sn = some (.dK ks)
  pr : Dvs (fz D st sn Hx) us stk
  k : Same (fz D st sn H) (fz D st sn Hx)
def sp__finished_from (K : PySem.W.Frag) : Sp := fun vs H Q _ => ∃ (x : Nat) (a sn : Addr) (U : Nat → List Nat) (r : Nat → Nat) (N pre : List Nat) (ks : List (Key × V)), vs = [.int (x : Nat), .ref a, .ref sn] ∧ Gr U r N ∧ UAt (hid sn H) a U N ∧
  H sn = some (.dK ks) ∧ Seen ks N pre ∧ Topo U pre ∧ x ∈ N ∧ x ∉ pre ∧
  ∀ H' l ks' (done : List Nat), Same (hid sn H) (hid sn H') → H l = none → H' l = some (.lst (vn done)) → H' sn = some (.dK ks') → Seen ks' N (pre ++ done) → Topo U (pre ++ done) → x ∈ done → (∀ y ∈ done, y ∈ N) → Q (.ref l) H'
theorem ok__finished_from {P : Program} {w : World} {K : PySem.W.Frag} {mg : Str → Option Value} {base : Heap} {C_Wires : Addr} {f  : Addr} {fd  : FuncData} (F : Fun K "_finished_from" "_finished_from" s__finished_from f fd) (T : Txt K mg C_Wires) :
    FnOk P w K mg base CX0 1 f fd ["first", "uses", "seen"] (sp__finished_from K) := by
  refine F.ok sc_finished_from (fun vs H Q E h => ?_) (fun cdv A outer s H vs Q E hr h => ?_)
  · obtain ⟨x, a, sn, U, r, N, pre, ks, rfl, _⟩ := h
    rfl
  · obtain ⟨x, a, sn, U, r, N, pre, ks, rfl, g, hU, hs, hks, htp, xN, xP, q⟩ := h
    have few := g.few
    have bigN : ∀ {ks : List (Key × V)} {S : List Nat}, Seen ks N S → ks.length ≤ 1000 ∧ S.length ≤ 1000 := fun h => by
      have := h.n
      have := h.m
      omega
    refine ⟨_, (pss_cons (ps_set (i := 3) sc_finished_from.nd rfl (.inl rfl) (pe_lst pa_nil))
      (pss_cons (ps_set (i := 4) sc_finished_from.nd rfl (.inl rfl) (pe_lst (pa_cons (pe_tup (pa_cons (pv 0) (pa_cons pe_int pa_nil))) pa_nil)))
      (pss_cons (ps_dput (hu_of hr) (pv 2) (pv 0) pe_bl rfl)
      (C8.pss_cut (ps_while PassesOwn.never (pt_truthK (K := K) rfl (pv 4) (by intro _; rfl)) (pss_cons (ps_asg (pe_bm0 PySem.F.plainAttrs_list PySem.F.slot_list_pop PySem.F.type_list_pop mt_pop (pv 4)) (pg_tup (by rfl) (pgs_cons (pg_name (i := 5) sc_finished_from.nd rfl (Or.inl rfl)) (pgs_cons (pg_name (i := 6) sc_finished_from.nd rfl (Or.inl rfl)) pgs_nil))))
      (pss_cons (ps_if (pt_cmpR op_eq (pv 6) (pe_callB call_len_seq (by rfl) T.m_len (by decide +kernel) (pa_cons (pe_dget (hu_of hr) (pv 1) (pv 5) (fun _ _ => rfl)) pa_nil)) (nomark _)) (pss_cons (ps_expr (pe_bm PySem.F.plainAttrs_list PySem.F.slot_list_append PySem.F.type_list_append mt_append (pv 3) (pa_cons (pv 5) pa_nil)))
      (pss_one ps_continue)) pss_nil)
      (pss_cons (ps_expr (pe_bm PySem.F.plainAttrs_list PySem.F.slot_list_append PySem.F.type_list_append mt_append (pv 4) (pa_cons (pe_tup (pa_cons (pv 5) (pa_cons (pe_op op_add (pv 6) pe_int) pa_nil))) pa_nil)))
      (pss_cons (ps_set (i := 7) sc_finished_from.nd rfl (.inl rfl) (pe_ix (r := rIxL K) ix_list (pe_dget (hu_of hr) (pv 1) (pv 5) (fun _ _ => rfl)) (pv 6) (fun _ _ => rfl)))
      (pss_one (ps_if (pt_cmp (pc_dnotin (hu_of hr) (pv 7) (pv 2))) (pss_cons (ps_dput (hu_of hr) (pv 2) (pv 7) pe_bl rfl)
      (pss_one (ps_expr (pe_bm PySem.F.plainAttrs_list PySem.F.slot_list_append PySem.F.type_list_append mt_append (pv 4) (pa_cons (pe_tup (pa_cons (pv 7) (pa_cons pe_int pa_nil))) pa_nil))))) pss_nil)))))))
      (pss_one (ps_ret (pv 3))))))), ?_⟩
    refine ⟨by show 0 ≤ sizeLine; decide, fun D nD => ?_⟩
    have Dsn : D ≠ sn := (ne_of_none hs nD).symm
    have s1 := same_new (o := .lst []) nD
    have eD : (upd H D (.lst [])) D = some (.lst []) := upd_same
    generalize (upd H D (.lst [])) = H1 at s1 eD ⊢
    refine ⟨_, rfl, by show 2 ≤ sizeLine; decide, fun t nt => ⟨by show 1 ≤ sizeLine; decide, fun st nst => ?_⟩⟩
    have tD : t ≠ D := (ne_of_none eD nt).symm
    have tsn : t ≠ sn := (ne_of_none (s1 _ _ hs) nt).symm
    have s2 := same_new (o := .tup [.int (x : Nat), .int 0]) nt
    have et : (upd H1 t (.tup [.int (x : Nat), .int 0])) t = some (.tup [.int (x : Nat), .int 0]) := upd_same
    have eD := s2 _ _ eD
    have s2 := s1.trans s2
    generalize (upd H1 t (.tup [.int (x : Nat), .int 0])) = H2 at s2 et eD nst ⊢
    have stD : st ≠ D := (ne_of_none eD nst).symm
    have stsn : st ≠ sn := (ne_of_none (s2 _ _ hs) nst).symm
    have tst : t ≠ st := ne_of_none et nst
    have s3 := same_new (o := .lst [.ref t]) nst
    have est : (upd H2 st (.lst [.ref t])) st = some (.lst [.ref t]) := upd_same
    have eD := s3 _ _ eD
    have et := s3 _ _ et
    have nst0 : H st = none := none_of s2 nst
    have s3 := s2.trans s3
    generalize (upd H2 st (.lst [.ref t])) = H3 at s3 est et eD ⊢
    refine ⟨_, rfl, _, rfl, sn, _, rfl, DPut.k (k := Sum.inl (x : Int)) (s3 _ _ hs) (Nat.lt_of_le_of_lt (bigN hks).1 (by decide)), ?_⟩
    have hx0 : ∀ y, y ∈ met pre [] [(x, 0)] ↔ y = x ∨ y ∈ pre := fun y => by
      rw [mem_met]
      show _ ∨ y ∈ [] ∨ y ∈ [x] ↔ _
      rw [List.mem_singleton]
      constructor
      · rintro (h | h | h)
        · exact .inr h
        · cases h
        · exact .inl h
      · rintro (h | h)
        · exact .inr (.inr h)
        · exact .inl h
    have mi0 : MI U r N pre x [] [(x, 0)] (putK ks (Sum.inl (x : Int)) (.bl true)) := by
      refine ⟨hks.put xP xN hx0 (by rw [met_len]; rfl) _, by rw [List.append_nil]; exact htp, (fun y hy => by cases hy), fun p hp => ?_, List.pairwise_singleton _ _, .inr List.mem_cons_self⟩
      rw [List.mem_singleton.mp hp]
      exact ⟨xN, Nat.zero_le _, fun j w hj => absurd hj (Nat.not_lt_zero _)⟩
    have fi0 : FI H (upd H3 sn (.dK (putK ks (Sum.inl (x : Int)) (.bl true)))) D st sn [] [.ref t] [(x, 0)] (putK ks (Sum.inl (x : Int)) (.bl true)) := by
      refine ⟨by rw [upd_ne Dsn]; exact eD, by rw [upd_ne stsn]; exact est, upd_same, .cons (.pair (a := t) (fz_of tD tst tsn (by rw [upd_ne tsn]; exact et)) (.nat _) (.nat _)) .nil, fun b o e => ?_⟩
      obtain ⟨⟨h1, h2, h3⟩, e⟩ := fz_some e
      exact fz_of h1 h2 h3 (by rw [upd_ne h3]; exact s3 _ _ e)
    generalize (upd H3 sn (.dK (putK ks (Sum.inl (x : Int)) (.bl true)))) = H4 at fi0 ⊢
    have hU0 : ∀ Hx, Same (fz D st sn H) (fz D st sn Hx) → UAt Hx a U N := fun Hx k => by
      obtain ⟨kvs, e, f⟩ := hU
      have up : ∀ b o, hid sn H b = some o → Hx b = some o := fun b o z => by
        obtain ⟨z1, z2⟩ := hid_some z
        exact fz_up _ _ (k _ _ (fz_of (ne_of_none z2 nD) (ne_of_none z2 nst0) z1 z2))
      refine ⟨kvs, up _ _ e, fun y hy => ?_⟩
      obtain ⟨l, e1, e2⟩ := f y hy
      exact ⟨l, e1, up _ _ e2⟩
    refine ⟨fun σ Hx => ∃ (y5 y6 y7 : Option V) (done : List Nat) (ks' : List (Key × V)), σ = [some (.int (x : Nat)), some (.ref a), some (.ref sn), some (.ref D), some (.ref st), y5, y6, y7] ∧ FI H Hx D st sn done [] [] ks' ∧ MI U r N pre x done [] ks', ?_, ?_⟩
    · refine ⟨fun m σ Hx => ∃ (y5 y6 y7 : Option V) (done : List Nat) (us : List V) (stk : List (Nat × Nat)) (ks' : List (Key × V)), σ = [some (.int (x : Nat)), some (.ref a), some (.ref sn), some (.ref D), some (.ref st), y5, y6, y7] ∧ FI H Hx D st sn done us stk ks' ∧ MI U r N pre x done stk ks' ∧ m = meas U N (met pre done stk) stk, ⟨_, none, none, none, [], _, _, _, rfl, fi0, mi0, rfl⟩, ?_⟩
      rintro m σ Hx ⟨y5, y6, y7, done, us, stk, ks', rfl, fi, mi, rfl⟩
      refine ⟨_, rfl, !us.isEmpty, .inl ⟨us, SqL.of fi.t, rfl⟩, ?_⟩
      rcases List.eq_nil_or_concat stk with rfl | ⟨stk0, ⟨nm, at_⟩, rfl⟩
      · have e0 := fi.pr.nil_inv
        subst e0
        exact iteF ⟨y5, y6, y7, done, ks', rfl, fi, mi⟩
      · rw [List.concat_eq_append] at fi mi ⊢
        obtain ⟨us0, t, rfl, pr0, ht⟩ := dvs_last fi.pr
        obtain ⟨nN, atl, _⟩ := mi.sN (nm, at_) (List.mem_append_right _ List.mem_cons_self)
        have big := bigN mi.seen
        rw [met_len, List.length_append, show ([(nm, at_)] : List (Nat × Nat)).length = 1 from rfl] at big
        have lus : us0.length = stk0.length := pr0.len
        rw [show (!(us0 ++ [V.ref t]).isEmpty) = true by cases us0 <;> rfl]
        refine iteT ⟨fun σ' H' => ∃ m', m' < meas U N (met pre done (stk0 ++ [(nm, at_)])) (stk0 ++ [(nm, at_)]) ∧ ∃ (y5 y6 y7 : Option V) (done : List Nat) (us : List V) (stk : List (Nat × Nat)) (ks' : List (Key × V)), σ' = [some (.int (x : Nat)), some (.ref a), some (.ref sn), some (.ref D), some (.ref st), y5, y6, y7] ∧ FI H H' D st sn done us stk ks' ∧ MI U r N pre x done stk ks' ∧ m' = meas U N (met pre done stk) stk, fun σ' H' z => z, ?_⟩
        refine ⟨_, rfl, .inl ⟨rfl, _, SqL.of fi.t⟩, st, _, .ref t, rfl, rfl, fi.t, by rw [List.length_append]; show (us0 ++ [V.ref t])[us0.length + 1 - 1]? = _; rw [Nat.add_sub_cancel, List.getElem?_append_right (Nat.le_refl _), Nat.sub_self]; rfl, ?_⟩
        rw [List.dropLast_concat]
        -- the stack without its last
        have f1 : FI H (upd Hx st (.lst us0)) D st sn done us0 stk0 ks' := ⟨by rw [upd_ne stD.symm]; exact fi.d, upd_same, by rw [upd_ne stsn.symm]; exact fi.s, pr0.same (fz_mut (.inr (.inl rfl))), fi.k.trans (fz_mut (.inr (.inl rfl)))⟩
        have ht : (upd Hx st (.lst us0)) t = some (.tup [.int (nm : Nat), .int (at_ : Nat)]) := (fz_some (fz_mut (.inr (.inl rfl)) _ _ ht)).2
        generalize (upd Hx st (.lst us0)) = Ha at f1 ht ⊢
        refine ⟨t, _, rfl, SqT.of ht, rfl, _, _, rfl, _, _, rfl, rfl, ?_⟩
        obtain ⟨kvs, hkv, hul⟩ := hU0 Ha f1.k
        obtain ⟨l, el, hl⟩ := hul nm nN
        refine ⟨_, rfl, _, rfl, _, rfl, a, _, rfl, dget_k hkv el, l, _, rfl, .inl (SqL.of hl), rfl, _, rfl, ?_⟩
        rw [vn_len, show decide (V.int ((at_ : Nat) : Int) = V.int (((U nm).length : Nat) : Int)) = decide (at_ = (U nm).length) from dec_nat _ _]
        by_cases c : at_ = (U nm).length
        · rw [decide_eq_true c]
          refine iteT ⟨_, rfl, .inl ⟨rfl, _, SqL.of f1.d⟩, _, rfl, D, _, _, rfl, rfl, f1.d, small1000 (by rw [vn_len]; omega), ?_⟩
          rw [vn_snoc']
          exact ⟨_, mi.pop_lt c, _, _, _, done ++ [nm], us0, stk0, ks', rfl, ⟨upd_same, by rw [upd_ne stD]; exact f1.t, by rw [upd_ne Dsn.symm]; exact f1.s, f1.pr.same (fz_mut (.inl rfl)), f1.k.trans (fz_mut (.inl rfl))⟩, mi.pop g c, rfl⟩
        · rw [decide_eq_false c]
          have atlt : at_ < (U nm).length := Nat.lt_of_le_of_ne atl c
          have hu := List.getElem?_eq_getElem atlt
          generalize (U nm)[at_] = u at hu
          refine iteF ⟨_, rfl, .inl ⟨rfl, _, SqL.of f1.t⟩, _, rfl, _, rfl, _, _, rfl, rfl, by show 2 ≤ sizeLine; decide, fun t1 nt1 => ?_⟩
          have t1D := (ne_of_none f1.d nt1).symm
          have t1st := (ne_of_none f1.t nt1).symm
          have t1sn := (ne_of_none f1.s nt1).symm
          have f2 : FI H (upd Ha t1 (.tup [.int (nm : Nat), .int ((at_ : Int) + 1)])) D st sn done us0 stk0 ks' := ⟨same_new nt1 _ _ f1.d, same_new nt1 _ _ f1.t, same_new nt1 _ _ f1.s, f1.pr.same (fz_mono (same_new nt1)), f1.k.trans (fz_mono (same_new nt1))⟩
          have e1 : (upd Ha t1 (.tup [.int (nm : Nat), .int ((at_ : Int) + 1)])) t1 = some (.tup [.int (nm : Nat), .int ((at_ + 1 : Nat) : Int)]) := upd_same
          have hkv := same_new (o := .tup [.int (nm : Nat), .int ((at_ : Int) + 1)]) nt1 _ _ hkv
          have hl := same_new (o := .tup [.int (nm : Nat), .int ((at_ : Int) + 1)]) nt1 _ _ hl
          generalize (upd Ha t1 (.tup [.int (nm : Nat), .int ((at_ : Int) + 1)])) = Hb at f2 e1 hkv hl ⊢
          refine ⟨st, _, _, rfl, rfl, f2.t, small1000 (by omega), ?_⟩
          have f3 : FI H (upd Hb st (.lst (us0 ++ [.ref t1]))) D st sn done (us0 ++ [.ref t1]) (stk0 ++ [(nm, at_ + 1)]) ks' :=
            ⟨by rw [upd_ne stD.symm]; exact f2.d, upd_same, by rw [upd_ne stsn.symm]; exact f2.s, Dvs.app (f2.pr.same (fz_mut (.inr (.inl rfl)))) (.cons (.pair (a := t1) (fz_of t1D t1st t1sn (by rw [upd_ne t1st]; exact e1)) (.nat _) (.nat _)) .nil), f2.k.trans (fz_mut (.inr (.inl rfl)))⟩
          generalize (upd Hb st (.lst (us0 ++ [.ref t1]))) = Hc at f3 ⊢
          clear hkv hl el hul
          obtain ⟨kvs, hkv, hul⟩ := hU0 Hc f3.k
          obtain ⟨l, el, hl⟩ := hul nm nN
          refine ⟨_, rfl, _, rfl, a, _, rfl, dget_k hkv el, _, rfl, l, _, _, _, rfl, rfl, SqL.of hl, atI_nat (vn_get hu), ?_⟩
          refine ⟨_, rfl, _, rfl, sn, _, rfl, DGet.k (k := Sum.inl (u : Int)) f3.s, _, rfl, ?_⟩
          have si := mi.seen.i u
          by_cases c2 : u ∈ met pre done (stk0 ++ [(nm, at_)])
          · rw [si.mpr c2]
            exact iteF ⟨_, mi.more_lt hu, _, _, _, done, _, _, ks', rfl, f3, mi.more hu c2, rfl⟩
          · rw [show (valV ks' (Sum.inl (u : Int))).isSome = false from Bool.eq_false_iff.mpr fun z => c2 (si.mp z)]
            refine iteT ⟨_, rfl, _, rfl, sn, _, rfl, DPut.k (k := Sum.inl (u : Int)) f3.s (Nat.lt_of_le_of_lt big.1 (by decide)), ?_⟩
            have f4 : FI H (upd Hc sn (.dK (putK ks' (Sum.inl (u : Int)) (.bl true)))) D st sn done (us0 ++ [.ref t1]) (stk0 ++ [(nm, at_ + 1)]) (putK ks' (Sum.inl (u : Int)) (.bl true)) :=
              ⟨by rw [upd_ne Dsn]; exact f3.d, by rw [upd_ne stsn]; exact f3.t, upd_same, f3.pr.same (fz_mut (.inr (.inr rfl))), f3.k.trans (fz_mut (.inr (.inr rfl)))⟩
            generalize (upd Hc sn (.dK (putK ks' (Sum.inl (u : Int)) (.bl true)))) = Hd at f4 ⊢
            refine ⟨_, rfl, .inl ⟨rfl, _, SqL.of f4.t⟩, _, rfl, by show 2 ≤ sizeLine; decide, fun t2 nt2 => ?_⟩
            have t2D := (ne_of_none f4.d nt2).symm
            have t2st := (ne_of_none f4.t nt2).symm
            have t2sn := (ne_of_none f4.s nt2).symm
            have f5 : FI H (upd Hd t2 (.tup [.int (u : Nat), .int 0])) D st sn done (us0 ++ [.ref t1]) (stk0 ++ [(nm, at_ + 1)]) (putK ks' (Sum.inl (u : Int)) (.bl true)) := ⟨same_new nt2 _ _ f4.d, same_new nt2 _ _ f4.t, same_new nt2 _ _ f4.s, f4.pr.same (fz_mono (same_new nt2)), f4.k.trans (fz_mono (same_new nt2))⟩
            have e2 : (upd Hd t2 (.tup [.int (u : Nat), .int 0])) t2 = some (.tup [.int (u : Nat), .int ((0 : Nat) : Int)]) := upd_same
            generalize (upd Hd t2 (.tup [.int (u : Nat), .int 0])) = He at f5 e2 ⊢
            refine ⟨st, _, _, rfl, rfl, f5.t, small1000 (by rw [List.length_append]; show us0.length + 1 ≤ 1000; omega), ?_⟩
            refine ⟨_, mi.new_lt g hu c2, _, _, _, done, _, stk0 ++ [(nm, at_ + 1)] ++ [(u, 0)], _, rfl, ⟨by rw [upd_ne stD.symm]; exact f5.d, upd_same, by rw [upd_ne stsn.symm]; exact f5.s, Dvs.app (f5.pr.same (fz_mut (.inr (.inl rfl)))) (.cons (.pair (a := t2) (fz_of t2D t2st t2sn (by rw [upd_ne t2st]; exact e2)) (.nat _) (.nat _)) .nil), f5.k.trans (fz_mut (.inr (.inl rfl)))⟩, mi.new g hu c2 _, rfl⟩
    · rintro σ Hx ⟨y5, y6, y7, done, ks', rfl, fi, mi⟩
      refine ⟨_, rfl, ?_⟩
      have e0 : met pre done [] = pre ++ done := List.append_nil _
      have sd := mi.seen
      rw [e0] at sd
      refine q Hx D ks' done (fun b o e => ?_) nD fi.d fi.s sd mi.topo (mi.fx.resolve_right (fun z => by cases z)) mi.dn
      obtain ⟨z1, z2⟩ := hid_some e
      exact hid_of z1 (fz_up _ _ (fi.k _ _ (fz_of (ne_of_none z2 nD) (ne_of_none z2 nst0) z1 z2)))

end K41
namespace K41
open PySem PySem.Spec PyProof.Rows L2 V0
def sp_finished (K : PySem.W.Frag) : Sp := fun vs H Q _ => ∃ (nl a : Addr) (U : Nat → List Nat) (r : Nat → Nat) (N : List Nat), vs = [.ref nl, .ref a] ∧ Gr U r N ∧ H nl = some (.lst (vn N)) ∧ UAt H a U N ∧
  ∀ H' l (done : List Nat), Same H H' → H l = none → H' l = some (.lst (vn done)) → Topo U done → (∀ y, y ∈ done ↔ y ∈ N) → done.length ≤ 1000 → Q (.ref l) H'
theorem ok_finished {P : Program} {w : World} {K : PySem.W.Frag} {mg : Str → Option Value} {base : Heap} {C_Wires : Addr} {f f_finished_from : Addr} {fd fd_finished_from : FuncData} (F : Fun K "finished" "finished" s_finished f fd) (T : Txt K mg C_Wires)
    (G__finished_from : FnOk P w K mg base CX0 1 f_finished_from fd_finished_from ["first", "uses", "seen"] (sp__finished_from K)) (D__finished_from : Def K mg "_finished_from" f_finished_from fd_finished_from ["first", "uses", "seen"]) :
    FnOk P w K mg base CX0 2 f fd ["names", "uses"] (sp_finished K) := by
  refine F.ok scfinished (fun vs H Q E h => ?_) (fun cdv A outer s H vs Q E hr h => ?_)
  · obtain ⟨nl, a, U, r, N, rfl, _⟩ := h
    rfl
  · obtain ⟨nl, a, U, r, N, rfl, g, hN, hU, q⟩ := h
    have few := g.few
    refine ⟨_, (pss_cons (ps_set (i := 2) scfinished.nd rfl (.inl rfl) (pe_lst pa_nil))
      (pss_cons (ps_set (i := 3) scfinished.nd rfl (.inl rfl) pe_dnewK)
      (pss_cons (ps_for PassesOwn.never rfl (pi_list (pv 0)) (pg_name (i := 4) scfinished.nd rfl (Or.inl rfl)) (pss_one (ps_if (pt_cmp (pc_dnotin (hu_of hr) (pv 4) (pv 3))) (pss_one (ps_expr (pe_bm PySem.F.plainAttrs_list PySem.F.slot_list_extend PySem.F.type_list_extend mt_extend (pv 2) (pa_cons (pe_call G__finished_from (hr.mono (by omega)) (by rfl) D__finished_from.m D__finished_from.k D__finished_from.b .nil pass0 (pa_cons (pv 4) (pa_cons (pv 1) (pa_cons (pv 3) pa_nil)))) pa_nil)))) pss_nil)))
      (pss_one (ps_ret (pv 2)))))), ?_⟩
    refine ⟨by show 0 ≤ sizeLine; decide, fun D nD => ?_⟩
    have s1 := same_new (o := .lst []) nD
    have eD : (upd H D (.lst [])) D = some (.lst []) := upd_same
    generalize (upd H D (.lst [])) = H1 at s1 eD ⊢
    refine fun sn nsn => ?_
    have Dsn : D ≠ sn := ne_of_none eD nsn
    have s2 := same_new (o := .dK []) nsn
    have esn : (upd H1 sn (.dK [])) sn = some (.dK []) := upd_same
    have eD := s2 _ _ eD
    have nsn0 : H sn = none := none_of s1 nsn
    have s2 := s1.trans s2
    generalize (upd H1 sn (.dK [])) = H2 at s2 eD esn ⊢
    have fr : ∀ {b : Addr} {o : HO}, H b = some o → fz D sn sn H b = some o := fun h => fz_of (ne_of_none h nD) (ne_of_none h nsn0) (ne_of_none h nsn0) h
    have up : ∀ {Hx : Hp}, Same (fz D sn sn H) (fz D sn sn Hx) → Same H (hid sn Hx) := fun k b o h => by
      obtain ⟨⟨_, h2, _⟩, e⟩ := fz_some (k _ _ (fr h))
      exact hid_of h2 e
    refine ⟨_, rfl, nl, rfl, ⟨_, SqL.of (s2 _ _ hN)⟩, for_list (xs := vn N) (fun i σ Hx => ∃ (done : List Nat) (ks : List (Key × V)) (y4 : Option V), σ = [some (.ref nl), some (.ref a), some (.ref D), some (.ref sn), y4] ∧ Hx D = some (.lst (vn done)) ∧ Hx sn = some (.dK ks) ∧ Same (fz D sn sn H) (fz D sn sn Hx) ∧ Seen ks N done ∧ Topo U done ∧ (∀ y ∈ done, y ∈ N) ∧ ∀ j y, j < i → N[j]? = some y → y ∈ done)
      ⟨[], [], none, rfl, eD, esn, fz_mono s2, ⟨fun y => ⟨fun z => by simp [valV_nil] at z, fun z => by cases z⟩, by have := usum_one [] N; show 0 + _ ≤ _; omega, Nat.le_refl _⟩, .nil, (fun y hy => by cases hy), fun j y hj => absurd hj (Nat.not_lt_zero _)⟩ (fun i σ Hx _ ⟨_, _, _, _, _, _, k, _⟩ => SqL.of (hid_same sn _ _ _ (up k _ _ hN))) ?_ ?_⟩
    · rintro i v σ Hx hv ⟨done, ks, y4, rfl, hD, hs, k, sd, tp, dn, cov⟩
      obtain ⟨x, hx, rfl⟩ : ∃ x, N[i]? = some x ∧ v = V.int (x : Nat) := by
        unfold vn at hv
        rw [List.getElem?_map] at hv
        obtain ⟨x, e1, e2⟩ := Option.map_eq_some_iff.mp hv
        exact ⟨x, e1, e2.symm⟩
      have xN := List.mem_of_getElem? hx
      refine ⟨_, rfl, _, rfl, sn, _, rfl, DGet.k (k := Sum.inl (x : Int)) hs, _, rfl, ?_⟩
      by_cases c : x ∈ done
      · rw [(sd.i x).mpr c]
        refine iteF ⟨done, ks, _, rfl, hD, hs, k, sd, tp, dn, fun j y hj hy => ?_⟩
        by_cases e : j < i
        · exact cov j y e hy
        · have : j = i := by omega
          subst this
          rw [hx] at hy
          cases hy
          exact c
      · rw [show (valV ks (Sum.inl (x : Int))).isSome = false from Bool.eq_false_iff.mpr fun z => c ((sd.i x).mp z)]
        refine iteT ⟨_, rfl, .inl ⟨rfl, _, SqL.of hD⟩, _, rfl, _, rfl, _, rfl, x, a, sn, U, r, N, done, ks, rfl, g, hU.same (up k), hs, sd, tp, xN, c, fun H3 l ks' dn' k3 nl3 el3 es3 sd3 tp3 xin dn3 => ?_⟩
        have hD3 : H3 D = some (.lst (vn done)) := (hid_some (k3 _ _ (hid_of Dsn hD))).2
        have big : (done ++ dn').length ≤ 1000 := by
          have := sd3.n
          have := sd3.m
          omega
        have lD : l ≠ D := (ne_of_none hD nl3).symm
        refine ⟨D, l, _, _, rfl, rfl, hD3, el3, by rw [vn_len, vn_len, ← List.length_append]; exact Nat.le_of_lt (small1000 big), ?_⟩
        rw [show vn done ++ vn dn' = vn (done ++ dn') by unfold vn; rw [List.map_append]]
        refine ⟨done ++ dn', ks', _, rfl, upd_same, by rw [upd_ne Dsn.symm]; exact es3, fun b o e => ?_, sd3, tp3, fun y hy => ?_, fun j y hj hy => ?_⟩
        · obtain ⟨⟨h1, h2, h3⟩, e2⟩ := fz_some (k _ _ e)
          refine fz_of h1 h2 h3 ?_
          rw [upd_ne h1]
          exact (hid_some (k3 _ _ (hid_of h2 e2))).2
        · rcases List.mem_append.mp hy with hy | hy
          · exact dn y hy
          · exact dn3 y hy
        · by_cases e : j < i
          · exact List.mem_append_left _ (cov j y e hy)
          · have : j = i := by omega
            subst this
            rw [hx] at hy
            cases hy
            exact List.mem_append_right _ xin
    · rintro σ Hx ⟨done, ks, y4, rfl, hD, hs, k, sd, tp, dn, cov⟩
      refine ⟨_, rfl, q Hx D done ((up k).trans (hid_same _ _)) nD hD tp (fun y => ⟨dn y, fun hy => ?_⟩) ?_⟩
      · obtain ⟨j, hj, e⟩ := List.mem_iff_getElem.mp hy
        exact cov j y (by rw [vn_len]; exact hj) (by rw [List.getElem?_eq_getElem hj, e])
      · have := sd.n
        have := sd.m
        omega

end K41
namespace K41
open PySem PySem.Spec PyProof.Rows L2 V0
/-! ### the wires of a net -/
theorem dc_it {J : It} {n : Nat} {G : Hp → Prop} {Y : Nat → Hp → V → Hp → Prop} (w : Walk J n G Y) {g : TG} {tt : TT} {tk tv : TE} {vs : List Nat} {σ : L2.St} {H1 : Hp} {D : Addr} {Qd : Hp → Prop} (Pv : Nat → Hp → Prop) (h0 : Pv 0 (upd H1 D (.dK []))) (hG : ∀ i H, i ≤ n → Pv i H → G H)
    (hs : ∀ i x H H', i < n → Pv i H → Y i H x H' → g x (wipe σ vs) H' fun σ2 H2 => wipe σ2 vs = wipe σ vs ∧ tt σ2 H2 fun b H3 =>
      if b = true then tk σ2 H3 fun y H4 => tv σ2 H4 fun z H5 => ∃ kvs k, y = kV k ∧ H5 D = some (.dK kvs) ∧ kvs.length < sizeLine ∧ Pv (i + 1) (upd H5 D (.dK (putK kvs k z))) else Pv (i + 1) H3) (hd : ∀ H, Pv n H → Qd H) :
    ∃ W : Nat → Nat → Hp → Prop, (∃ m, W 0 m (upd H1 D (.dK []))) ∧ ∀ i m H, W i m H →
      (J.stop i H ∧ Qd H) ∨ (J.go i H ∧ ∃ Nx : Hp → Prop, (∀ H', Nx H' → ∃ m', m' < m ∧ W (i + 1) m' H') ∧ ∀ x H', J.yld i H x H' → g x (wipe σ vs) H' fun σ2 H2 => wipe σ2 vs = wipe σ vs ∧ tt σ2 H2 fun b H3 =>
        if b = true then tk σ2 H3 fun y H4 => tv σ2 H4 fun z H5 => ∃ kvs k, y = kV k ∧ H5 D = some (.dK kvs) ∧ kvs.length < sizeLine ∧ Nx (upd H5 D (.dK (putK kvs k z))) else Nx H3) := by
  refine ⟨fun i m H => m = n - i ∧ i ≤ n ∧ Pv i H, ⟨n, by simp, Nat.zero_le _, h0⟩, ?_⟩
  rintro i m H ⟨rfl, hi, p⟩
  have q := hG i H hi p
  by_cases hlt : i < n
  · exact .inr ⟨w.goes i H hlt q, Pv (i + 1), fun H' p' => ⟨n - (i + 1), by omega, rfl, hlt, p'⟩, fun x H' y => hs i x H H' hlt p (w.yields i H x H' hlt q y)⟩
  · have e : i = n := by omega
    subst e
    exact .inl ⟨w.stops H q, hd H p⟩
theorem wn1 : ¬ (("before" : Str) = "first") := by decide +kernel
theorem wn2 : ¬ (("before" : Str) = "gates") := by decide +kernel
theorem wn3 : ¬ (("before" : Str) = "pairs") := by decide +kernel
theorem wn4 : ¬ (("first" : Str) = "gates") := by decide +kernel
theorem wn5 : ¬ (("first" : Str) = "pairs") := by decide +kernel
theorem wn6 : ¬ (("gates" : Str) = "pairs") := by decide +kernel
def wflds (b : Addr) (first : Nat) (g d : Addr) : List (Str × V) := putF "pairs" (.ref d) (putF "gates" (.ref g) (putF "first" (.int (first : Nat)) (putF "before" (.ref b) [])))
theorem wf_pairs (b : Addr) (first : Nat) (g d : Addr) : (wflds b first g d).lookup ("pairs" : Str) = some (.ref d) := by
  unfold wflds
  rw [lookup_putF, if_pos rfl]
theorem wf_gates (b : Addr) (first : Nat) (g d : Addr) : (wflds b first g d).lookup ("gates" : Str) = some (.ref g) := by
  unfold wflds
  rw [lookup_putF, if_neg wn6, lookup_putF, if_pos rfl]
theorem wf_first (b : Addr) (first : Nat) (g d : Addr) : (wflds b first g d).lookup ("first" : Str) = some (.int (first : Nat)) := by
  unfold wflds
  rw [lookup_putF, if_neg wn5, lookup_putF, if_neg wn4, lookup_putF, if_pos rfl]
theorem wf_no (b : Addr) (first : Nat) (g d : Addr) {m : Str} (h1 : ¬ m = "pairs") (h2 : ¬ m = "gates") (h3 : ¬ m = "first") (h4 : ¬ m = "before") : (wflds b first g d).lookup m = none := by
  unfold wflds
  rw [lookup_putF, if_neg h1, lookup_putF, if_neg h2, lookup_putF, if_neg h3, lookup_putF, if_neg h4]
  rfl
/-- the gates' nodes -/
def gns (n : Net) : List Nat := (List.range n.gates.length).map fun k => n.base + k
theorem gns_len (n : Net) : (gns n).length = n.gates.length := by
  unfold gns
  rw [List.length_map, List.length_range]
theorem gns_get {n : Net} {i : Nat} (h : i < n.gates.length) : (gns n)[i]? = some (n.base + i) := by
  unfold gns
  rw [List.getElem?_map, List.getElem?_range h]
  rfl
theorem gns_mem {n : Net} {x : Nat} : x ∈ gns n ↔ n.base ≤ x ∧ x < n.many := by
  unfold gns Net.many
  rw [List.mem_map]
  constructor
  · rintro ⟨k, hk, rfl⟩
    have := List.mem_range.mp hk
    omega
  · rintro ⟨h1, h2⟩
    exact ⟨x - n.base, List.mem_range.mpr (by omega), by omega⟩
/-- a gate's two literals' origins -/
def PAt (H : Hp) (v : V) (n : Net) (gt : Nat × Nat) : Prop := ∃ l u1 u2, v = .ref l ∧ H l = some (.lst [u1, u2]) ∧ OT H u1 (orig n gt.1) ∧ OT H u2 (orig n gt.2)
theorem PAt.same {H H' : Hp} {v : V} {n : Net} {gt : Nat × Nat} (h : PAt H v n gt) (s : Same H H') : PAt H' v n gt := by
  obtain ⟨l, u1, u2, e, h1, h2, h3⟩ := h
  exact ⟨l, u1, u2, e, s _ _ h1, h2.same s, h3.same s⟩
theorem PAt.keep {H H' : Hp} {v : V} {n : Net} {gt : Nat × Nat} (h : PAt H v n gt) (k : ∀ b o, H b = some o → ((∃ ys, o = .lst ys) ∨ ∃ ys, o = .tup ys) → H' b = some o) : PAt H' v n gt := by
  obtain ⟨l, u1, u2, e, h1, ⟨t, l1, e1, a1, b1⟩, ⟨t2, l2, e2, a2, b2⟩⟩ := h
  exact ⟨l, u1, u2, e, k _ _ h1 (.inl ⟨_, rfl⟩), ⟨t, l1, e1, k _ _ a1 (.inr ⟨_, rfl⟩), k _ _ b1 (.inl ⟨_, rfl⟩)⟩, ⟨t2, l2, e2, k _ _ a2 (.inr ⟨_, rfl⟩), k _ _ b2 (.inl ⟨_, rfl⟩)⟩⟩
structure WAt (C : Addr) (H : Hp) (p : Addr) (n : Net) : Prop where
  ex : ∃ dx b g d, H p = some (.ins C dx (wflds b n.base g d)) ∧ H g = some (.lst (vn (gns n))) ∧
    ∃ kvs : List (Key × V), H d = some (.dK kvs) ∧ ∀ k gt, n.gates[k]? = some gt → ∃ v, valV kvs (Sum.inl ((n.base + k : Nat) : Int)) = some v ∧ PAt H v n gt
theorem WAt.same {C : Addr} {H H' : Hp} {p : Addr} {n : Net} (h : WAt C H p n) (s : Same H H') : WAt C H' p n := by
  obtain ⟨dx, b, g, d, h1, h2, kvs, h3, h4⟩ := h
  refine ⟨dx, b, g, d, s _ _ h1, s _ _ h2, kvs, s _ _ h3, fun k gt e => ?_⟩
  obtain ⟨v, e1, e2⟩ := h4 k gt e
  exact ⟨v, e1, e2.same s⟩
theorem kv_put_inj {a b : Nat} (h : (Sum.inl (a : Int) : Key) = Sum.inl (b : Int)) : a = b := by
  have := Sum.inl.inj h
  omega
def sp_Wires___init__ (K : PySem.W.Frag) (C : Addr) : Sp := fun vs H Q _ => ∃ (p dx a : Addr) (n : Net), vs = [.ref p, .ref a] ∧ H p = some (.ins C dx []) ∧ Dv (hid p H) (.ref a) n ∧ Fl n ∧ n.many ≤ 1000 ∧
  ∀ H', WAt C H' p n → Same (hid p H) (hid p H') → Q .non H'
theorem ok_Wires___init__ {P : Program} {w : World} {K : PySem.W.Frag} {mg : Str → Option Value} {base : Heap} {C_Wires : Addr} {f fbase_of forigin_of : Addr} {fd fdbase_of fdorigin_of : FuncData} (F : Fun K "__init__" "Wires.__init__" s_Wires___init__ f fd) (T : Txt K mg C_Wires)
    (G_base_of : FnOk P w K mg base CX0 1 fbase_of fdbase_of ["net"] (sp_base_of K)) (D_base_of : Def K mg "base_of" fbase_of fdbase_of ["net"])
    (G_origin_of : FnOk P w K mg base CX0 1 forigin_of fdorigin_of ["net", "literal"] (sp_origin_of K)) (D_origin_of : Def K mg "origin_of" forigin_of fdorigin_of ["net", "literal"]) :
    FnOk P w K mg base CX0 2 f fd ["self", "net"] (sp_Wires___init__ K C_Wires) := by
  refine F.ok scWires___init__ (fun vs H Q E h => ?_) (fun cdv A outer s H vs Q E hr h => ?_)
  · obtain ⟨p, dx, a, n, rfl, _⟩ := h
    rfl
  · obtain ⟨p, dx, a, n, rfl, hp, hn, fl, few, q⟩ := h
    have hn0 := hn
    obtain ⟨_, aS, aG, aN, aO, e, hA, hS, hG, hN, hO⟩ := hn.net_inv
    cases e
    obtain ⟨_, us, e, hGl, hus⟩ := hG.list_inv
    cases e
    have eb : n.many = n.base + n.gates.length := rfl
    refine ⟨_, (pss_cons (ps_fld (pv 0) (pv 1) rfl)
      (pss_cons (ps_fld (pv 0) (pe_call G_base_of (hr.mono (by omega)) (by rfl) D_base_of.m D_base_of.k D_base_of.b .nil pass0 (pa_cons (pv 1) pa_nil)) rfl)
      (pss_cons (ps_fld (pv 0) (pe_listRg rfl (by rfl) T.m_list (prg_2 (by rfl) T.m_range (pe_fld (pv 0) rfl) (pe_op op_add (pe_fld (pv 0) rfl) (pe_callB call_len_seq (by rfl) T.m_len (by decide +kernel) (pa_cons (pe_ix (r := rIxT K) ix_tup (pv 1) pe_int (fun _ _ => rfl)) pa_nil))))) rfl)
      (pss_one (ps_fld (pv 0) (pe_dc (own := [("gate", 2), ("pair", 3)]) (g := gTup K 2 (gCons (gName 2) (gCons (gName 3) (gNil)))) (tt := tYes) rfl scWires___init__.nd (pi_zip (by rfl) T.m_zip (pa_cons (pe_fld (pv 0) rfl) (pa_cons (pe_ix (r := rIxT K) ix_tup (pv 1) pe_int (fun _ _ => rfl)) pa_nil))) (blkOk_by (N := N_Wires___init__) (sc := defScope s_Wires___init__) (by decide +kernel)) (fun _ _ _ _ _ => (pg_tup (by rfl) (pgs_cons (pg_name (i := 2) scWires___init__.nd rfl (Or.inl rfl)) (pgs_cons (pg_name (i := 3) scWires___init__.nd rfl (Or.inl rfl)) pgs_nil)))) (fun _ _ _ _ _ => pts_nil) (fun _ _ _ _ _ => (pv 2)) (fun _ _ _ _ _ => (pe_lc (own := [("x", 4)]) (wi := iTup K _) (g := gName 4) (tt := tYes) rfl scWires___init__.nd (pi_tup (pv 3)) (blkOk_by (N := N_Wires___init__) (sc := relS _ (defScope s_Wires___init__)) (by decide +kernel)) (fun _ _ _ _ _ => (pg_name (i := 4) scWires___init__.nd rfl (Or.inl rfl))) (fun _ _ _ _ _ => pts_nil) (fun _ _ _ _ _ => (pe_call G_origin_of (hr.mono (by omega)) (by rfl) D_origin_of.m D_origin_of.k D_origin_of.b .nil pass0 (pa_cons (pv 1) (pa_cons (pv 4) pa_nil))))))) rfl))))), ?_⟩
    refine ⟨_, rfl, _, rfl, p, C_Wires, dx, [], rfl, hp, T.c_Wires, T.n_Wires_before, (by show 0 < 1000; decide), ?_⟩
    have k1 : Same (hid p H) (hid p (upd H p (.ins C_Wires dx (putF "before" (.ref a) [])))) := hid_mut
    have e1 : (upd H p (.ins C_Wires dx (putF "before" (.ref a) []))) p = some (.ins C_Wires dx (putF "before" (.ref a) [])) := upd_same
    generalize (upd H p (.ins C_Wires dx (putF "before" (.ref a) []))) = H1 at k1 e1 ⊢
    refine ⟨_, rfl, .ref a, n, rfl, (hn0.same k1).same (hid_same _ _), _, rfl, p, C_Wires, dx, _, rfl, e1, T.c_Wires, T.n_Wires_first, (by show 1 < 1000; decide), ?_⟩
    have k2 := k1.trans (hid_mut (H := H1) (o := .ins C_Wires dx (putF "first" (.int (n.base : Nat)) (putF "before" (.ref a) []))))
    have e2 : (upd H1 p (.ins C_Wires dx (putF "first" (.int (n.base : Nat)) (putF "before" (.ref a) [])))) p = some (.ins C_Wires dx (putF "first" (.int (n.base : Nat)) (putF "before" (.ref a) []))) := upd_same
    generalize (upd H1 p (.ins C_Wires dx (putF "first" (.int (n.base : Nat)) (putF "before" (.ref a) [])))) = H2 at k2 e2 ⊢
    have nb : n.base + n.gates.length ≤ 1000 := few
    refine ⟨_, rfl, p, C_Wires, dx, _, _, rfl, e2, T.c_Wires, T.n_Wires_first, by rw [lookup_putF, if_pos rfl], _, rfl, p, C_Wires, dx, _, _, rfl, e2, T.c_Wires, T.n_Wires_first, by rw [lookup_putF, if_pos rfl], _, rfl, a, _, 3, _, rfl, rfl, SqT.of (hid_some (k2 _ _ hA)).2, atI_nat (j := 3) rfl, aG, _, rfl, .inl (SqL.of (hid_some (k2 _ _ hGl)).2), _, _, rfl, rfl, _, _, rfl, rfl, ?_⟩
    have eg : rgV ((n.base : Nat) : Int) (((n.base : Nat) : Int) + ((us.length : Nat) : Int)) = vn (gns n) := by
      rw [hus.len]
      unfold rgV gns vn
      rw [show (((n.base : Nat) : Int) + ((n.gates.length : Nat) : Int) - ((n.base : Nat) : Int)).toNat = n.gates.length by omega, List.map_map]
      exact List.map_congr_left fun k _ => by
        show V.int ((n.base : Int) + (k : Int)) = V.int (((n.base + k : Nat)) : Int)
        congr 1
    refine ⟨RgOk.of_le (by omega) (by rw [hus.len]; omega) (by omega) (by rw [hus.len]; omega), fun g ng => ?_⟩
    simp only [eg]
    have npg : p ≠ g := ne_of_none e2 ng
    have k3 : Same (hid p H) (hid p (upd H2 g (.lst (vn (gns n))))) := k2.trans (hid_mono (same_new ng))
    have e3 := same_new (o := .lst (vn (gns n))) ng _ _ e2
    have g3 : (upd H2 g (.lst (vn (gns n)))) g = some (.lst (vn (gns n))) := upd_same
    generalize (upd H2 g (.lst (vn (gns n)))) = H3 at k3 e3 g3 ⊢
    refine ⟨_, rfl, p, C_Wires, dx, _, rfl, e3, T.c_Wires, T.n_Wires_gates, (by show 2 < 1000; decide), ?_⟩
    have k4 := k3.trans (hid_mut (H := H3) (o := .ins C_Wires dx (putF "gates" (.ref g) (putF "first" (.int (n.base : Nat)) (putF "before" (.ref a) [])))))
    have e4 : (upd H3 p (.ins C_Wires dx (putF "gates" (.ref g) (putF "first" (.int (n.base : Nat)) (putF "before" (.ref a) []))))) p = some (.ins C_Wires dx (putF "gates" (.ref g) (putF "first" (.int (n.base : Nat)) (putF "before" (.ref a) [])))) := upd_same
    have g4 : (upd H3 p (.ins C_Wires dx (putF "gates" (.ref g) (putF "first" (.int (n.base : Nat)) (putF "before" (.ref a) []))))) g = some (.lst (vn (gns n))) := by rw [upd_ne npg.symm]; exact g3
    generalize (upd H3 p (.ins C_Wires dx (putF "gates" (.ref g) (putF "first" (.int (n.base : Nat)) (putF "before" (.ref a) []))))) = H4 at k4 e4 g4 ⊢
    have up4 : ∀ b o, hid p H b = some o → H4 b = some o := fun b o z => (hid_some (k4 _ _ z)).2
    refine ⟨_, rfl, p, C_Wires, dx, _, _, rfl, e4, T.c_Wires, T.n_Wires_gates, by rw [lookup_putF, if_pos rfl], _, rfl, a, _, 3, _, rfl, rfl, SqT.of (up4 _ _ hA), atI_nat (j := 3) rfl, g, aG, _, _, rfl, SqL.of g4, SqL.of (up4 _ _ hGl), fun D nD => ?_⟩
    have low : ∀ {Hx : Hp}, Same (hid D H4) (hid D Hx) → ∀ b o, H4 b = some o → (hid D Hx) b = some o := fun k b o z => k _ _ (hid_of (ne_of_none z nD) z)
    refine dc_it (walk_zip (n := n.gates.length) (by rw [vn_len, gns_len, hus.len, Nat.min_self])) (fun i Hx => Same (hid D H4) (hid D Hx) ∧ ∃ kvs : List (Key × V), Hx D = some (.dK kvs) ∧ kvs.length ≤ i ∧ ∀ k gt, k < i → n.gates[k]? = some gt → ∃ v, valV kvs (Sum.inl ((n.base + k : Nat) : Int)) = some v ∧ PAt (hid D Hx) v n gt)
      ⟨(hid_mono (same_new nD)), [], upd_same, Nat.le_refl _, fun k gt hk => absurd hk (Nat.not_lt_zero _)⟩ (fun i Hx _ ⟨k, _⟩ => ⟨SqL.of (hid_some (low k _ _ g4)).2, SqL.of (hid_some (low k _ _ (up4 _ _ hGl))).2⟩) ?_ ?_
    · rintro i v Hx Hy hi ⟨k, kvs, hD, lk, cov⟩ ⟨T1, x, y, rfl, nT, rfl, ex, ey⟩
      have ex : (vn (gns n))[i]? = some x := ex
      have ey : us[i]? = some y := ey
      rw [vn_get (gns_get hi)] at ex
      cases ex
      obtain ⟨gt, hgt, hd⟩ := hus.at ey
      obtain ⟨t, u1, u2, rfl, ht, h1, h2⟩ := hd.pair_inv
      have h1 := h1.nat_inv
      have h2 := h2.nat_inv
      subst h1 h2
      have sT := same_new (o := .tup [.int ((n.base + i : Nat) : Int), .ref t]) nT
      have eT : (upd Hx T1 (.tup [.int ((n.base + i : Nat) : Int), .ref t])) T1 = some (.tup [.int ((n.base + i : Nat) : Int), .ref t]) := upd_same
      have hDy := sT _ _ hD
      have ky := k.trans (hid_mono sT)
      have covy : ∀ k gt, k < i → n.gates[k]? = some gt → ∃ v, valV kvs (Sum.inl ((n.base + k : Nat) : Int)) = some v ∧ PAt (hid D (upd Hx T1 (.tup [.int ((n.base + i : Nat) : Int), .ref t]))) v n gt := fun k gt hk e => by
        obtain ⟨v, e1, e2⟩ := cov k gt hk e
        exact ⟨v, e1, e2.same (hid_mono sT)⟩
      generalize (upd Hx T1 (.tup [.int ((n.base + i : Nat) : Int), .ref t])) = Hy at eT hDy ky covy ⊢
      have ht := (hid_some (low ky _ _ (up4 _ _ ht))).2
      have hny : Dv (hid D Hy) (.ref a) n := hn0.same fun b o z => low ky _ _ (up4 _ _ z)
      refine ⟨T1, _, rfl, SqT.of eT, rfl, _, _, rfl, _, _, rfl, rfl, rfl, _, rfl, _, rfl, t, rfl, ⟨_, SqT.of ht⟩, fun L nL => ?_⟩
      have DL : D ≠ L := ne_of_none hDy nL
      have lowL : ∀ {Hz : Hp}, Same (hid L Hy) (hid L Hz) → ∀ b o, Hy b = some o → (hid L Hz) b = some o := fun k b o z => k _ _ (hid_of (ne_of_none z nL) z)
      refine lc_tup (xs := [.int (gt.1 : Nat), .int (gt.2 : Nat)]) (fun j Hz => Same (hid L Hy) (hid L Hz) ∧ ∃ us : List V, Hz L = some (.lst us) ∧ us.length = j ∧ ∀ m v, us[m]? = some v → ∃ x, [gt.1, gt.2][m]? = some x ∧ OT (hid L Hz) v (orig n x)) ⟨hid_mono (same_new nL), ([] : List V), upd_same, rfl, fun m v e => by rw [List.getElem?_nil] at e; cases e⟩ (fun j Hz _ h => SqT.of (hid_some (lowL h.1 _ _ ht)).2) ?_ ?_
      · rintro j v Hz hv ⟨kz, us2, hL, l2, ots⟩
        obtain ⟨x, hx, rfl, hj2⟩ : ∃ x, [gt.1, gt.2][j]? = some x ∧ v = V.int (x : Nat) ∧ j < 2 := by
          have hj : j = 0 ∨ j = 1 := by
            have h : j < 2 := (List.getElem?_eq_some_iff.mp hv).1
            omega
          rcases hj with rfl | rfl
          · cases hv
            exact ⟨gt.1, rfl, rfl, by decide⟩
          · cases hv
            exact ⟨gt.2, rfl, rfl, by decide⟩
        refine ⟨rfl, _, rfl, _, rfl, a, n, x, rfl, hny.same fun b o z => (hid_some (lowL kz _ _ (hid_some z).2)).2, fl, fun H' w sz ot => ⟨us2, sz _ _ hL, small1000 (by omega), (kz.trans (hid_mono sz)).trans hid_mut, us2 ++ [w], upd_same, by rw [List.length_append, l2]; rfl, fun m u e => ?_⟩⟩
        by_cases c : m < us2.length
        · rw [List.getElem?_append_left c] at e
          obtain ⟨x', e1, e2⟩ := ots m u e
          exact ⟨x', e1, (e2.same (hid_mono sz)).same hid_mut⟩
        · have hm : m = us2.length := by
            have := (List.getElem?_eq_some_iff.mp e).1
            rw [List.length_append] at this
            have : m < us2.length + 1 := this
            omega
          subst hm
          rw [List.getElem?_append_right (Nat.le_refl _), Nat.sub_self] at e
          cases e
          refine ⟨x, by rw [l2]; exact hx, ?_⟩
          exact (ot.same (fresh_hid hL)).same hid_mut
      · rintro Hz ⟨kz, us2, hL, l2, ots⟩
        have hDz := (hid_some (lowL kz _ _ hDy)).2
        refine ⟨kvs, Sum.inl ((n.base + i : Nat) : Int), rfl, hDz, small1000 (by omega), ?_, _, upd_same, Nat.le_trans (length_putK _ _ _) (by omega), fun k' gt' hk' e' => ?_⟩
        · refine ky.trans fun b o z => ?_
          obtain ⟨z1, z2⟩ := hid_some z
          exact hid_of z1 (by rw [upd_ne z1]; exact (hid_some (lowL kz _ _ z2)).2)
        · have keep : ∀ {v : V} {gt : Nat × Nat}, PAt (hid D Hy) v n gt → PAt (hid D (upd Hz D (.dK (putK kvs (Sum.inl ((n.base + i : Nat) : Int)) (.ref L))))) v n gt := fun h => h.same fun b o z => by
            obtain ⟨z1, z2⟩ := hid_some z
            exact hid_of z1 (by rw [upd_ne z1]; exact (hid_some (lowL kz _ _ z2)).2)
          by_cases c : k' < i
          · obtain ⟨v, e1, e2⟩ := covy k' gt' c e'
            refine ⟨v, ?_, keep e2⟩
            rw [valV_put, if_neg (fun z => by have := kv_put_inj z; omega)]
            exact e1
          · have : k' = i := by omega
            subst this
            rw [hgt] at e'
            cases e'
            refine ⟨.ref L, by rw [valV_put, if_pos rfl], ?_⟩
            have l2 : us2.length = 2 := l2
            obtain ⟨u1, u2, rfl⟩ : ∃ u1 u2, us2 = [u1, u2] := by
              match us2, l2 with
              | [u1, u2], _ => exact ⟨u1, u2, rfl⟩
            obtain ⟨x1, ex1, o1⟩ := ots 0 u1 rfl
            obtain ⟨x2, ex2, o2⟩ := ots 1 u2 rfl
            cases ex1
            cases ex2
            have pz : PAt Hz (.ref L) n gt := ⟨L, u1, u2, rfl, hL, o1.same (hid_same _ _), o2.same (hid_same _ _)⟩
            refine pz.keep fun b o z kind => ?_
            have bD : b ≠ D := fun zz => by
              rw [zz, hDz] at z
              cases z
              rcases kind with ⟨_, k⟩ | ⟨_, k⟩ <;> cases k
            exact hid_of bD (by rw [upd_ne bD]; exact z)
    · rintro Hx ⟨k, kvs, hD, lk, cov⟩
      have hp4 := low k _ _ e4
      refine ⟨_, rfl, p, C_Wires, dx, _, rfl, (hid_some hp4).2, T.c_Wires, T.n_Wires_pairs, (by show 3 < 1000; decide), ?_⟩
      have pD : p ≠ D := ne_of_none e4 nD
      refine q _ ⟨dx, a, g, D, upd_same, ?_, kvs, ?_, fun k' gt' e' => ?_⟩ fun b o z => ?_
      · rw [upd_ne npg.symm]
        exact (hid_some (low k _ _ g4)).2
      · rw [upd_ne pD.symm]
        exact hD
      · obtain ⟨v, e1, e2⟩ := cov k' gt' (List.getElem?_eq_some_iff.mp e').1 e'
        refine ⟨v, e1, e2.keep fun b o z kind => ?_⟩
        have bp : b ≠ p := fun zz => by
          rw [zz, hp4] at z
          cases z
          rcases kind with ⟨_, k⟩ | ⟨_, k⟩ <;> cases k
        rw [upd_ne bp]
        exact (hid_some z).2
      · obtain ⟨z1, z2⟩ := hid_some z
        exact hid_of z1 (by rw [upd_ne z1]; exact (hid_some (low k _ _ (up4 _ _ z))).2)

end K41
namespace K41
open PySem PySem.Spec PyProof.Rows L2 V0
/-! ### sources of gates -/
theorem rep_flat (k : Nat) (v : V) : (List.replicate k [v]).flatten = List.replicate k v := by
  induction k with
  | zero => rfl
  | succ k ih =>
    rw [List.replicate_succ, List.flatten_cons, ih, List.replicate_succ]
    rfl
def alls (n : Net) (lg : List Nat) : List Nat := List.replicate n.base 0 ++ lg
def lagN (n : Net) (lg : List Nat) (d : Nat) : Nat := (alls n lg)[d]?.getD 0
theorem lag_get {n : Net} {lg : List Nat} {d : Nat} (hl : lg.length = n.gates.length) (h : d < n.many) : (alls n lg)[d]? = some (lagN n lg d) := by
  have : d < (alls n lg).length := by
    unfold alls
    rw [List.length_append, List.length_replicate, hl]
    exact h
  unfold lagN
  rw [List.getElem?_eq_getElem this]
  rfl
/-- a net with all literals in bounds -/
structure Fb (n : Net) : Prop where
  fl : Fl n
  g : ∀ j g, n.gates[j]? = some g → g.1 < 2 * (n.base + j) ∧ g.2 < 2 * (n.base + j)
  nx : ∀ x ∈ n.nexts, x < 2 * n.many
  few : n.many ≤ 1000
theorem nxt_lt {n : Net} (b : Fb n) {x : Nat} (h : isF n x = true) : nxt n x < 2 * n.many := by
  have ix := isF_ix h
  have ix2 : x / 2 - n.ins - 1 < n.nexts.length := by rw [b.fl.nl]; exact ix
  have m := b.nx _ (List.getElem_mem ix2)
  have e : nxt n x / 2 = n.nexts[x / 2 - n.ins - 1] / 2 := by
    unfold nxt
    rw [List.getElem?_eq_getElem ix2, xor_half _ _ (by omega)]
    rfl
  omega
theorem walk_lt {n : Net} (b : Fb n) : ∀ {f x : Nat} {r : Nat × List Nat}, walk n f x = some r → x < 2 * n.many → r.1 < 2 * n.many
  | f, x, r, h, hx => by
    cases hf : isF n x with
    | false =>
      rw [walk_no hf] at h
      cases h
      exact hx
    | true =>
      cases f with
      | zero =>
        rw [walk_end hf] at h
        cases h
      | succ f =>
        rw [walk_yes hf] at h
        obtain ⟨s, e, rfl⟩ := Option.map_eq_some_iff.mp h
        exact walk_lt (r := s) b e (nxt_lt b hf)
theorem orig_lt {n : Net} (b : Fb n) {x : Nat} (h : x < 2 * n.many) : (orig n x).1 < 2 * n.many := by
  unfold orig
  cases e : walk n n.starts.length x with
  | none => exact h
  | some r => exact walk_lt b e h
def wt (n : Net) (lg : List Nat) (g x : Nat) : Int := ((orig n x).2.length : Int) + (lagN n lg ((orig n x).1 / 2) : Int) - (lagN n lg g : Int)
def isSrc (n : Net) (lg : List Nat) (g x : Nat) : Bool := decide (wt n lg g x = 0) && decide (n.base ≤ (orig n x).1 / 2)
def part (n : Net) (lg : List Nat) (g x i : Nat) : List (Nat × Nat) := if isSrc n lg g x = true then [((orig n x).1 / 2, i)] else []
def pup (n : Net) (lg : List Nat) (g : Nat) (gt : Nat × Nat) : Nat → List (Nat × Nat)
  | 0 => []
  | 1 => part n lg g gt.1 0
  | _ + 2 => part n lg g gt.1 0 ++ part n lg g gt.2 1
def srcP (n : Net) (lg : List Nat) (g : Nat) (gt : Nat × Nat) : List (Nat × Nat) := part n lg g gt.1 0 ++ part n lg g gt.2 1
def sp_Wires_all_lags (K : PySem.W.Frag) (C : Addr) : Sp := fun vs H Q _ => ∃ (p l : Addr) (n : Net) (lg : List Nat), vs = [.ref p, .ref l] ∧ WAt C H p n ∧ H l = some (.lst (vn lg)) ∧ n.base + lg.length ≤ 1000 ∧
  ∀ H' r, Same H H' → H' r = some (.lst (vn (alls n lg))) → Q (.ref r) H'
theorem ok_Wires_all_lags {P : Program} {w : World} {K : PySem.W.Frag} {mg : Str → Option Value} {base : Heap} {C_Wires : Addr} {f  : Addr} {fd  : FuncData} (F : Fun K "all_lags" "Wires.all_lags" s_Wires_all_lags f fd) (T : Txt K mg C_Wires) :
    FnOk P w K mg base CX0 1 f fd ["self", "lags"] (sp_Wires_all_lags K C_Wires) := by
  refine F.ok scWires_all_lags (fun vs H Q E h => ?_) (fun cdv A outer s H vs Q E hr h => ?_)
  · obtain ⟨p, l, n, lg, rfl, _⟩ := h
    rfl
  · obtain ⟨p, l, n, lg, rfl, hw, hl, few, q⟩ := h
    obtain ⟨dx, b, g, d, hp, hg, kvs, hd, hps⟩ := hw.ex
    refine ⟨_, (pss_one (ps_ret (pe_op op_cat (pe_op op_rep (pe_lst (pa_cons pe_int pa_nil)) (pe_fld (pv 0) rfl)) (pv 1)))), ?_⟩
    refine ⟨by show 1 ≤ sizeLine; decide, fun l1 n1 => ?_⟩
    have s1 := same_new (o := .lst [.int 0]) n1
    have e1 : (upd H l1 (.lst [.int 0])) l1 = some (.lst [.int 0]) := upd_same
    generalize (upd H l1 (.lst [.int 0])) = H1 at s1 e1 ⊢
    refine ⟨_, rfl, p, C_Wires, dx, _, _, rfl, s1 _ _ hp, T.c_Wires, T.n_Wires_first, wf_first _ _ _ _, ?_⟩
    refine ⟨l1, _, _, rfl, rfl, e1, by omega, by omega, Nat.le_of_lt (small1000 (by rw [Int.toNat_natCast]; show 1 * n.base ≤ 1000; omega)), fun l2 n2 => ?_⟩
    have s2 := s1.trans (same_new (o := .lst (List.replicate ((n.base : Int)).toNat [V.int 0]).flatten) n2)
    have e2 : (upd H1 l2 (.lst (List.replicate ((n.base : Int)).toNat [V.int 0]).flatten)) l2 = some (.lst (vn (List.replicate n.base 0))) := by
      rw [upd_same, rep_flat, Int.toNat_natCast]
      unfold vn
      rw [List.map_replicate]
      rfl
    generalize (upd H1 l2 (.lst (List.replicate ((n.base : Int)).toNat [V.int 0]).flatten)) = H2 at s2 e2 ⊢
    refine ⟨_, rfl, l2, l, _, _, rfl, rfl, e2, s2 _ _ hl, Nat.le_of_lt (small1000 (by rw [vn_len, vn_len, List.length_replicate]; omega)), fun r nr => q _ r (s2.trans (same_new nr)) ?_⟩
    rw [upd_same]
    unfold alls vn
    rw [List.map_append]
def sp_Wires_new_weights (K : PySem.W.Frag) (C : Addr) : Sp := fun vs H Q _ => ∃ (p al k : Nat) (n : Net) (lg : List Nat) (gt : Nat × Nat), vs = [.ref p, .ref al, .int (n.base + k : Nat)] ∧ WAt C H p n ∧ H al = some (.lst (vn (alls n lg))) ∧ lg.length = n.gates.length ∧ Fb n ∧ n.gates[k]? = some gt ∧
  ∀ H' l, Same H H' → H' l = some (.lst (vi [wt n lg (n.base + k) gt.1, wt n lg (n.base + k) gt.2])) → Q (.ref l) H'
theorem ok_Wires_new_weights {P : Program} {w : World} {K : PySem.W.Frag} {mg : Str → Option Value} {base : Heap} {C_Wires : Addr} {f  : Addr} {fd  : FuncData} (F : Fun K "new_weights" "Wires.new_weights" s_Wires_new_weights f fd) (T : Txt K mg C_Wires) :
    FnOk P w K mg base CX0 1 f fd ["self", "lags", "gate"] (sp_Wires_new_weights K C_Wires) := by
  refine F.ok scWires_new_weights (fun vs H Q E h => ?_) (fun cdv A outer s H vs Q E hr h => ?_)
  · obtain ⟨p, al, k, n, lg, gt, rfl, _⟩ := h
    rfl
  · obtain ⟨p, al, k, n, lg, gt, rfl, hw, hal, hl, fb, hgt, q⟩ := h
    obtain ⟨dx, b, g, d, hp, hg, kvs, hd, hps⟩ := hw.ex
    obtain ⟨v, hv, l, u1, u2, rfl, hll, o1, o2⟩ := hps k gt hgt
    have kl : k < n.gates.length := (List.getElem?_eq_some_iff.mp hgt).1
    have lg0 : n.base + k < n.many := by unfold Net.many; omega
    refine ⟨_, (pss_one (ps_ret (pe_lc (own := [("literal", 3), ("weight", 4), ("_", 5)]) (g := gTup K 3 (gCons (gName 3) (gCons (gName 4) (gCons (gName 5) (gNil))))) (tt := tYes) rfl scWires_new_weights.nd (pi_list (pe_dget (hu_of hr) (pe_fld (pv 0) rfl) (pv 2) (fun _ _ => rfl))) (blkOk_by (N := N_Wires_new_weights) (sc := defScope s_Wires_new_weights) (by decide +kernel)) (fun _ _ _ _ _ => (pg_tup (by rfl) (pgs_cons (pg_name (i := 3) scWires_new_weights.nd rfl (Or.inl rfl)) (pgs_cons (pg_name (i := 4) scWires_new_weights.nd rfl (Or.inl rfl)) (pgs_cons (pg_name (i := 5) scWires_new_weights.nd rfl (Or.inl rfl)) pgs_nil))))) (fun _ _ _ _ _ => pts_nil) (fun _ _ _ _ _ => (pe_op op_sub (pe_op op_add (pv 4) (pe_ix (r := rIxL K) ix_list (pv 1) (pe_op op_shr (pv 3) pe_int) (fun _ _ => rfl))) (pe_ix (r := rIxL K) ix_list (pv 1) (pv 2) (fun _ _ => rfl))))))), ?_⟩
    refine ⟨_, rfl, p, C_Wires, dx, _, _, rfl, hp, T.c_Wires, T.n_Wires_pairs, wf_pairs _ _ _ _, _, rfl, d, _, rfl, dget_k hd hv, l, rfl, ⟨_, SqL.of hll⟩, fun D nD => ?_⟩
    refine lc_list (xs := [u1, u2]) (fun j Hx => Same H Hx ∧ Hx D = some (.lst (vi (([wt n lg (n.base + k) gt.1, wt n lg (n.base + k) gt.2] : List Int).take j)))) ⟨same_new nD, upd_same⟩ (fun j Hx _ h => SqL.of (h.1 _ _ hll)) ?_ ?_
    · rintro j u Hx hu ⟨sx, hD⟩
      obtain ⟨x, hx, ho, hj2, hxl⟩ : ∃ x, ([wt n lg (n.base + k) gt.1, wt n lg (n.base + k) gt.2] : List Int)[j]? = some (wt n lg (n.base + k) x) ∧ OT H u (orig n x) ∧ j < 2 ∧ x < 2 * n.many := by
        have hj : j = 0 ∨ j = 1 := by
          have h : j < 2 := (List.getElem?_eq_some_iff.mp hu).1
          omega
        have gb := fb.g k gt hgt
        rcases hj with rfl | rfl
        · cases hu
          exact ⟨gt.1, rfl, o1, by decide, by omega⟩
        · cases hu
          exact ⟨gt.2, rfl, o2, by decide, by omega⟩
      obtain ⟨t, l2, rfl, ht, hl2⟩ := ho
      have ol := orig_lt fb hxl
      have hax := sx _ _ hal
      refine ⟨t, _, rfl, SqT.of (sx _ _ ht), rfl, _, _, rfl, _, _, rfl, _, _, rfl, rfl, rfl, ?_⟩
      refine ⟨_, rfl, _, rfl, _, rfl, _, _, rfl, rfl, (show (0 : Int) ≤ 1 by decide), al, _, _, _, rfl, rfl, SqL.of hax, atI_nat (vn_get (lag_get hl (d := (orig n x).1 / 2) (by omega))), _, _, rfl, rfl, _, rfl, _, rfl, al, _, _, _, rfl, rfl, SqL.of hax, atI_nat (vn_get (lag_get hl lg0)), _, _, rfl, rfl, ?_⟩
      refine ⟨_, hD, by unfold vi; rw [List.length_map, List.length_take]; exact small1000 (by show min j 2 ≤ _; omega), same_mut sx nD, ?_⟩
      rw [upd_same, take_snoc hx]
      unfold vi
      rw [List.map_append]
      rfl
    · rintro Hx ⟨sx, hD⟩
      exact q Hx D sx hD
def sp_Wires_sources (K : PySem.W.Frag) (C : Addr) : Sp := fun vs H Q _ => ∃ (p al k : Nat) (n : Net) (lg : List Nat) (gt : Nat × Nat), vs = [.ref p, .ref al, .int (n.base + k : Nat)] ∧ WAt C H p n ∧ H al = some (.lst (vn (alls n lg))) ∧ lg.length = n.gates.length ∧ Fb n ∧ n.gates[k]? = some gt ∧
  ∀ H' l us, Same H H' → H' l = some (.lst us) → Dvs H' us (srcP n lg (n.base + k) gt) → Q (.ref l) H'
theorem ok_Wires_sources {P : Program} {w : World} {K : PySem.W.Frag} {mg : Str → Option Value} {base : Heap} {C_Wires : Addr} {f fWires_new_weights : Addr} {fd fdWires_new_weights : FuncData} (F : Fun K "sources" "Wires.sources" s_Wires_sources f fd) (T : Txt K mg C_Wires)
    (G_Wires_new_weights : FnOk P w K mg base CX0 1 fWires_new_weights fdWires_new_weights ["self", "lags", "gate"] (sp_Wires_new_weights K C_Wires)) (D_Wires_new_weights : MDef K C_Wires "new_weights" fWires_new_weights fdWires_new_weights ["self", "lags", "gate"]) :
    FnOk P w K mg base CX0 2 f fd ["self", "lags", "gate"] (sp_Wires_sources K C_Wires) := by
  refine F.ok scWires_sources (fun vs H Q E h => ?_) (fun cdv A outer s H vs Q E hr h => ?_)
  · obtain ⟨p, al, k, n, lg, gt, rfl, _⟩ := h
    rfl
  · obtain ⟨p, al, k, n, lg, gt, rfl, hw, hal, hl, fb, hgt, q⟩ := h
    have kl : k < n.gates.length := (List.getElem?_eq_some_iff.mp hgt).1
    refine ⟨_, (pss_cons (ps_set (i := 3) scWires_sources.nd rfl (.inl rfl) (pe_lst pa_nil))
      (pss_cons (ps_for PassesOwn.never rfl (pi_enum (by rfl) T.m_enumerate (pa_cons (pe_meth (pv 0) T.c_Wires D_Wires_new_weights.m G_Wires_new_weights (hr.mono (by omega)) D_Wires_new_weights.b .nil pass0 (pa_cons (pv 1) (pa_cons (pv 2) pa_nil))) pa_nil)) (pg_tup (by rfl) (pgs_cons (pg_name (i := 4) scWires_sources.nd rfl (Or.inl rfl)) (pgs_cons (pg_name (i := 5) scWires_sources.nd rfl (Or.inl rfl)) pgs_nil))) (pss_cons (ps_set (i := 6) scWires_sources.nd rfl (.inl rfl) (pe_op op_shr (pe_ix (r := rIxT K) ix_tup (pe_ix (r := rIxL K) ix_list (pe_dget (hu_of hr) (pe_fld (pv 0) rfl) (pv 2) (fun _ _ => rfl)) (pv 4) (fun _ _ => rfl)) pe_int (fun _ _ => rfl)) pe_int))
      (pss_one (ps_if (PW.pt (pw_and (pt_cmpR op_eq (pv 5) pe_int (nomark _)) (pw_and1 (pt_cmpR op_ge (pv 6) (pe_fld (pv 0) rfl) (nomark _))))) (pss_one (ps_expr (pe_bm PySem.F.plainAttrs_list PySem.F.slot_list_append PySem.F.type_list_append mt_append (pv 3) (pa_cons (pe_tup (pa_cons (pv 6) (pa_cons (pv 4) pa_nil))) pa_nil)))) pss_nil))))
      (pss_one (ps_ret (pv 3))))), ?_⟩
    obtain ⟨dx, b, g, d, hp, hg, kvs, hd, hps⟩ := hw.ex
    obtain ⟨v, hv, l, u1, u2, rfl, hll, o1, o2⟩ := hps k gt hgt
    have gb := fb.g k gt hgt
    have lg0 : n.base + k < n.many := by unfold Net.many; omega
    refine ⟨by show 0 ≤ sizeLine; decide, fun D nD => ?_⟩
    have s1 := same_new (o := .lst []) nD
    have eD : (upd H D (.lst [])) D = some (.lst []) := upd_same
    generalize (upd H D (.lst [])) = H1 at s1 eD ⊢
    refine ⟨_, rfl, p, dx, _, rfl, s1 _ _ hp, wf_no _ _ _ _ (by decide +kernel) (by decide +kernel) (by decide +kernel) (by decide +kernel), _, rfl, _, rfl, p, al, k, n, lg, gt, rfl, hw.same s1, s1 _ _ hal, hl, fb, hgt, fun H2 wl s2 ewl => ?_⟩
    have eD := s2 _ _ eD
    have s2 := s1.trans s2
    have Dw : D ≠ wl := fun z => by
      rw [z, ewl] at eD
      cases eD
    refine ⟨wl, _, rfl, SqL.of ewl, for_it walk_enum (fun i σ Hx => ∃ (y4 y5 y6 : Option V) (us : List V), σ = [some (.ref p), some (.ref al), some (.int (n.base + k : Nat)), some (.ref D), y4, y5, y6] ∧ Same H Hx ∧ Hx wl = some (.lst (vi [wt n lg (n.base + k) gt.1, wt n lg (n.base + k) gt.2])) ∧ Hx D = some (.lst us) ∧ us.length ≤ 2 ∧ Dvs (hid D Hx) us (pup n lg (n.base + k) gt i)) ⟨none, none, none, [], rfl, s2, ewl, eD, by decide, .nil⟩ (fun i σ Hx _ ⟨_, _, _, _, _, _, w, _⟩ => SqL.of w) ?_ ?_⟩
    · rintro i v σ Hx Hx' hi ⟨y4, y5, y6, us, rfl, sx, hwx, hD, lu, hus⟩ ⟨T1, x, y, rfl, nT, rfl, ex, ey⟩
      cases ex
      have hi : i < 2 := hi
      have ey : (vi [wt n lg (n.base + k) gt.1, wt n lg (n.base + k) gt.2])[i]? = some y := ey
      obtain ⟨lit, u, ew, eu, ho, hlt, ep⟩ : ∃ lit u, y = V.int (wt n lg (n.base + k) lit) ∧ ([u1, u2] : List V)[i]? = some u ∧ OT H u (orig n lit) ∧ lit < 2 * n.many ∧ pup n lg (n.base + k) gt (i + 1) = pup n lg (n.base + k) gt i ++ part n lg (n.base + k) lit i := by
        have hj : i = 0 ∨ i = 1 := by omega
        rcases hj with rfl | rfl
        · cases ey
          exact ⟨gt.1, u1, rfl, rfl, o1, by omega, rfl⟩
        · cases ey
          exact ⟨gt.2, u2, rfl, rfl, o2, by omega, rfl⟩
      subst ew
      obtain ⟨t, l2, rfl, ht, hl2⟩ := ho
      have sT := same_new (o := .tup [.int (i : Nat), .int (wt n lg (n.base + k) lit)]) nT
      have eT : (upd Hx T1 (.tup [.int (i : Nat), .int (wt n lg (n.base + k) lit)])) T1 = some (.tup [.int (i : Nat), .int (wt n lg (n.base + k) lit)]) := upd_same
      have sx := sx.trans sT
      have hwx := sT _ _ hwx
      have hD := sT _ _ hD
      have hus := hus.same (hid_mono sT)
      generalize (upd Hx T1 (.tup [.int (i : Nat), .int (wt n lg (n.base + k) lit)])) = Hy at eT sx hwx hD hus ⊢
      refine ⟨T1, _, rfl, SqT.of eT, rfl, _, _, rfl, _, _, rfl, rfl, ?_⟩
      refine ⟨_, rfl, p, C_Wires, dx, _, _, rfl, sx _ _ hp, T.c_Wires, T.n_Wires_pairs, wf_pairs _ _ _ _, _, rfl, d, _, rfl, dget_k (sx _ _ hd) hv, _, rfl, l, _, _, _, rfl, rfl, SqL.of (sx _ _ hll), atI_nat eu, t, _, 0, _, rfl, rfl, SqT.of (sx _ _ ht), atI_nat (j := 0) rfl, _, _, rfl, rfl, (show (0 : Int) ≤ 1 by decide), ?_⟩
      refine ⟨_, rfl, rfl, _, rfl, ?_⟩
      rw [V0.dec_int]
      have no : isSrc n lg (n.base + k) lit = false → part n lg (n.base + k) lit i = [] := fun h => by
        unfold part
        rw [h]
        rfl
      by_cases c1 : wt n lg (n.base + k) lit = 0
      · rw [decide_eq_true c1]
        refine iteT ⟨_, rfl, _, rfl, p, C_Wires, dx, _, _, rfl, sx _ _ hp, T.c_Wires, T.n_Wires_first, wf_first _ _ _ _, _, _, rfl, rfl, _, rfl, ?_⟩
        rw [show decide ((((orig n lit).1 : Nat) : Int) / 2 ^ ((1 : Int)).toNat ≥ ((n.base : Nat) : Int)) = decide (n.base ≤ (orig n lit).1 / 2) from decide_eq_decide.mpr (by rw [shr_one]; omega)]
        by_cases c2 : n.base ≤ (orig n lit).1 / 2
        · rw [decide_eq_true c2]
          refine iteT ⟨_, rfl, .inl ⟨rfl, _, SqL.of hD⟩, _, rfl, _, rfl, by show 2 ≤ sizeLine; decide, fun t3 nt3 => ⟨D, _, _, rfl, rfl, same_new nt3 _ _ hD, small1000 (by omega), ?_⟩⟩
          have t3D := (ne_of_none hD nt3).symm
          have is : isSrc n lg (n.base + k) lit = true := by
            unfold isSrc
            rw [decide_eq_true c1, decide_eq_true c2]
            rfl
          have lus : us.length + 1 ≤ 2 := by
            have e := hus.len
            have hj : i = 0 ∨ i = 1 := by omega
            rcases hj with rfl | rfl
            · have e : us.length = 0 := e
              omega
            · have e : us.length = (part n lg (n.base + k) gt.1 0).length := e
              have : (part n lg (n.base + k) gt.1 0).length ≤ 1 := by
                unfold part
                split
                · exact Nat.le_refl 1
                · exact Nat.zero_le 1
              omega
          refine ⟨_, _, _, us ++ [.ref t3], rfl, same_mut (sx.trans (same_new nt3)) nD, by rw [upd_ne Dw.symm]; exact same_new nt3 _ _ hwx, upd_same, by rw [List.length_append]; exact lus, ?_⟩
          rw [ep]
          have : part n lg (n.base + k) lit i = [((orig n lit).1 / 2, i)] := by
            unfold part
            rw [if_pos is]
          rw [this]
          exact Dvs.app ((hus.same (hid_mono (same_new nt3))).same hid_mut) (.cons (.pair (a := t3) (hid_of t3D (by rw [upd_ne t3D, upd_same]; rfl)) (.nat _) (.nat _)) .nil)
        · rw [decide_eq_false c2]
          refine iteF ⟨_, _, _, us, rfl, sx, hwx, hD, lu, ?_⟩
          rw [ep, no (by unfold isSrc; rw [decide_eq_false c2, Bool.and_false]), List.append_nil]
          exact hus
      · rw [decide_eq_false c1]
        refine iteF ⟨_, _, _, us, rfl, sx, hwx, hD, lu, ?_⟩
        rw [ep, no (by unfold isSrc; rw [decide_eq_false c1, Bool.false_and]), List.append_nil]
        exact hus
    · rintro σ Hx ⟨y4, y5, y6, us, rfl, sx, hwx, hD, lu, hus⟩
      exact ⟨_, rfl, q Hx D us sx hD (hus.same (hid_same _ _))⟩

end K41
namespace K41
open PySem PySem.Spec PyProof.Rows L2 V0
/-! ### levels of gates -/
def mx (l : List Nat) : Nat := l.foldr max 0
theorem mx_le {l : List Nat} {x : Nat} (h : x ∈ l) : x ≤ mx l := by
  induction l with
  | nil => cases h
  | cons y l ih =>
    show x ≤ max y (mx l)
    rcases List.mem_cons.mp h with rfl | h
    · exact Nat.le_max_left _ _
    · exact Nat.le_trans (ih h) (Nat.le_max_right _ _)
theorem mx_mem (l : List Nat) : mx l = 0 ∨ mx l ∈ l := by
  induction l with
  | nil => exact .inl rfl
  | cons y l ih =>
    have e : mx (y :: l) = max y (mx l) := rfl
    by_cases c : y ≤ mx l
    · rw [e, Nat.max_eq_right c]
      rcases ih with h | h
      · exact .inl h
      · exact .inr (List.mem_cons_of_mem _ h)
    · rw [e, Nat.max_eq_left (by omega)]
      exact .inr List.mem_cons_self
theorem mx_ub {l : List Nat} {m : Nat} (h : ∀ x ∈ l, x ≤ m) : mx l ≤ m := by
  rcases mx_mem l with e | e
  · omega
  · exact h _ e
theorem mx_eq {l : List Nat} {m : Int} (h : m ∈ (0 :: l).map fun (x : Nat) => (x : Int)) (u : ∀ y, y ∈ (0 :: l).map (fun (x : Nat) => (x : Int)) → y ≤ m) : m = ((mx l : Nat) : Int) := by
  obtain ⟨x, hx, rfl⟩ := List.mem_map.mp h
  have up : ∀ y ∈ 0 :: l, y ≤ x := fun y hy => by
    have := u _ (List.mem_map.mpr ⟨y, hy, rfl⟩)
    omega
  have a : mx l ≤ x := mx_ub fun y hy => up y (List.mem_cons_of_mem _ hy)
  have b : x ≤ mx l := by
    rcases List.mem_cons.mp hx with rfl | hx
    · exact Nat.zero_le _
    · exact mx_le hx
  omega
theorem vn_map (xs : List Nat) : vn xs = (xs.map fun (x : Nat) => (x : Int)).map V.int := by
  unfold vn
  rw [List.map_map]
  rfl
/-- depths where uses lie lower -/
def dp (U : Nat → List Nat) : Nat → Nat → Nat
  | 0, _ => 0
  | f + 1, x => 1 + mx ((U x).map (dp U f))
theorem dp_any {U : Nat → List Nat} {r : Nat → Nat} {N : List Nat} (g : Gr U r N) : ∀ {f f' x : Nat}, x ∈ N → r x < f → r x < f' → dp U f x = dp U f' x
  | 0, _, _, _, h, _ => absurd h (Nat.not_lt_zero _)
  | _, 0, _, _, _, h => absurd h (Nat.not_lt_zero _)
  | f + 1, f' + 1, x, hx, h1, h2 => by
    show 1 + mx ((U x).map (dp U f)) = 1 + mx ((U x).map (dp U f'))
    exact congrArg (fun l => 1 + mx l) (List.map_congr_left fun u hu => dp_any g (g.dn x hx u hu) (by have := g.lt x hx u hu; omega) (by have := g.lt x hx u hu; omega))
theorem dp_eq {U : Nat → List Nat} {r : Nat → Nat} {N : List Nat} (g : Gr U r N) {x : Nat} (hx : x ∈ N) : dp U (r x + 1) x = 1 + mx ((U x).map fun u => dp U (r u + 1) u) := by
  show 1 + mx ((U x).map (dp U (r x))) = _
  exact congrArg (fun l => 1 + mx l) (List.map_congr_left fun u hu => dp_any g (g.dn x hx u hu) (g.lt x hx u hu) (Nat.lt_succ_self _))
def srcs (n : Net) (lg : List Nat) (g : Nat) : List Nat := match n.gates[g - n.base]? with
  | some gt => (srcP n lg g gt).map (·.1)
  | none => []
def msr (n : Net) (lg : List Nat) (g : Nat) : Nat := lagN n lg g * n.many + g
def dep (n : Net) (lg : List Nat) (g : Nat) : Nat := dp (srcs n lg) (msr n lg g + 1) g
theorem srcs_at {n : Net} {lg : List Nat} {k : Nat} {gt : Nat × Nat} (h : n.gates[k]? = some gt) : srcs n lg (n.base + k) = (srcP n lg (n.base + k) gt).map (·.1) := by
  unfold srcs
  rw [show n.base + k - n.base = k by omega, h]
theorem walk_here {n : Net} : ∀ {f x a : Nat}, walk n f x = some (a, []) → a = x
  | f, x, a, h => by
    cases hf : isF n x with
    | false =>
      rw [walk_no hf] at h
      cases h
      rfl
    | true =>
      cases f with
      | zero =>
        rw [walk_end hf] at h
        cases h
      | succ f =>
        rw [walk_yes hf] at h
        obtain ⟨s, e, e2⟩ := Option.map_eq_some_iff.mp h
        cases e2
theorem orig_here {n : Net} {x : Nat} (h : (orig n x).2.length = 0) : (orig n x).1 = x := by
  unfold orig at h ⊢
  cases e : walk n n.starts.length x with
  | none => rfl
  | some r =>
    rw [e] at h
    obtain ⟨a, l⟩ := r
    have : l = [] := List.length_eq_zero_iff.mp h
    subst this
    exact walk_here e
theorem src_of {n : Net} {lg : List Nat} {g u : Nat} {gt : Nat × Nat} (h : u ∈ (srcP n lg g gt).map (·.1)) : ∃ x, (x = gt.1 ∨ x = gt.2) ∧ isSrc n lg g x = true ∧ u = (orig n x).1 / 2 := by
  obtain ⟨p, hp, rfl⟩ := List.mem_map.mp h
  unfold srcP at hp
  have one : ∀ {x i : Nat}, p ∈ part n lg g x i → isSrc n lg g x = true ∧ p.1 = (orig n x).1 / 2 := fun {x i} m => by
    unfold part at m
    by_cases c : isSrc n lg g x = true
    · rw [if_pos c] at m
      rw [List.mem_singleton.mp m]
      exact ⟨c, rfl⟩
    · rw [if_neg c] at m
      cases m
  rcases List.mem_append.mp hp with m | m
  · exact ⟨gt.1, .inl rfl, one m⟩
  · exact ⟨gt.2, .inr rfl, one m⟩
theorem src_in {n : Net} {lg : List Nat} {g x : Nat} {gt : Nat × Nat} (h : x = gt.1 ∨ x = gt.2) (s : isSrc n lg g x = true) : (orig n x).1 / 2 ∈ (srcP n lg g gt).map (·.1) := by
  unfold srcP part
  rcases h with rfl | rfl
  · rw [if_pos s]
    exact List.mem_cons_self
  · rw [if_pos s, List.map_append]
    exact List.mem_append_right _ List.mem_cons_self
theorem isSrc_yes {n : Net} {lg : List Nat} {g x : Nat} (h : isSrc n lg g x = true) : (orig n x).2.length + lagN n lg ((orig n x).1 / 2) = lagN n lg g ∧ n.base ≤ (orig n x).1 / 2 := by
  unfold isSrc at h
  obtain ⟨h1, h2⟩ := Bool.and_eq_true_iff.mp h
  have h1 := of_decide_eq_true h1
  unfold wt at h1
  exact ⟨by omega, of_decide_eq_true h2⟩
theorem gr_net {n : Net} {lg : List Nat} (fb : Fb n) : Gr (srcs n lg) (msr n lg) (gns n) := by
  have at_ : ∀ {g u : Nat}, g ∈ gns n → u ∈ srcs n lg g → ∃ k gt x, g = n.base + k ∧ n.gates[k]? = some gt ∧ (x = gt.1 ∨ x = gt.2) ∧ isSrc n lg g x = true ∧ u = (orig n x).1 / 2 := fun {g u} hg hu => by
    have hg := gns_mem.mp hg
    have kl : g - n.base < n.gates.length := by
      have := hg.2
      unfold Net.many at this
      omega
    have e : g = n.base + (g - n.base) := by omega
    have hgt := List.getElem?_eq_getElem kl
    rw [e, srcs_at hgt] at hu
    obtain ⟨x, h1, h2, h3⟩ := src_of hu
    exact ⟨g - n.base, _, x, e, hgt, h1, by rw [← e] at h2; exact h2, h3⟩
  refine ⟨fun g hg u hu => ?_, fun g hg u hu => ?_, ?_⟩
  · obtain ⟨k, gt, x, rfl, hgt, hx, hs, rfl⟩ := at_ hg hu
    have gb := fb.g k gt hgt
    have kl := (List.getElem?_eq_some_iff.mp hgt).1
    have xl : x < 2 * n.many := by
      unfold Net.many
      rcases hx with rfl | rfl <;> omega
    have := orig_lt fb xl
    exact gns_mem.mpr ⟨(isSrc_yes hs).2, by omega⟩
  · obtain ⟨k, gt, x, rfl, hgt, hx, hs, rfl⟩ := at_ hg hu
    have gb := fb.g k gt hgt
    have kl := (List.getElem?_eq_some_iff.mp hgt).1
    have xg : x / 2 < n.base + k := by rcases hx with rfl | rfl <;> omega
    have xl : x < 2 * n.many := by
      unfold Net.many
      omega
    have ol := orig_lt fb xl
    obtain ⟨e1, e2⟩ := isSrc_yes hs
    unfold msr
    by_cases c : (orig n x).2.length = 0
    · have e := orig_here c
      rw [e] at e1 ⊢
      rw [c, Nat.zero_add] at e1
      rw [e1]
      omega
    · have : (lagN n lg ((orig n x).1 / 2) + 1) * n.many ≤ lagN n lg (n.base + k) * n.many := Nat.mul_le_mul_right _ (by omega)
      rw [Nat.add_mul, Nat.one_mul] at this
      omega
  · rw [gns_len]
    have := fb.few
    unfold Net.many at this
    omega
theorem dep_eq {n : Net} {lg : List Nat} (fb : Fb n) {g : Nat} (h : g ∈ gns n) : dep n lg g = 1 + mx ((srcs n lg g).map (dep n lg)) := dp_eq (gr_net fb) h
theorem dvs_vals {H : Hp} {us : List V} {ps : List (Nat × Nat)} {i : Nat} {u : V} (h : Dvs H us ps) (e : us[i]? = some u) : ∃ t x j, u = .ref t ∧ H t = some (.tup [.int (x : Nat), .int (j : Nat)]) ∧ (ps.map (·.1))[i]? = some x := by
  obtain ⟨p, hp, hd⟩ := h.at e
  obtain ⟨t, u1, u2, rfl, ht, h1, h2⟩ := hd.pair_inv
  rw [h1.nat_inv, h2.nat_inv] at ht
  exact ⟨t, p.1, p.2, rfl, ht, by rw [List.getElem?_map, hp]; rfl⟩
theorem take_vn {xs : List Nat} {i x : Nat} (h : xs[i]? = some x) : vn (xs.take (i + 1)) = vn (xs.take i) ++ [V.int (x : Nat)] := by
  rw [take_snoc h, vn_snoc']
def sp_Wires_ordered (K : PySem.W.Frag) (C : Addr) : Sp := fun vs H Q _ => ∃ (p al : Nat) (n : Net) (lg : List Nat), vs = [.ref p, .ref al] ∧ WAt C H p n ∧ H al = some (.lst (vn (alls n lg))) ∧ lg.length = n.gates.length ∧ Fb n ∧
  ∀ H' l (done : List Nat), Same H H' → H' l = some (.lst (vn done)) → Topo (srcs n lg) done → (∀ y, y ∈ done ↔ y ∈ gns n) → done.length ≤ 1000 → Q (.ref l) H'
theorem ok_Wires_ordered {P : Program} {w : World} {K : PySem.W.Frag} {mg : Str → Option Value} {base : Heap} {C_Wires : Addr} {f ffinished fWires_sources : Addr} {fd fdfinished fdWires_sources : FuncData} (F : Fun K "ordered" "Wires.ordered" s_Wires_ordered f fd) (T : Txt K mg C_Wires)
    (G_finished : FnOk P w K mg base CX0 2 ffinished fdfinished ["names", "uses"] (sp_finished K)) (D_finished : Def K mg "finished" ffinished fdfinished ["names", "uses"])
    (G_Wires_sources : FnOk P w K mg base CX0 2 fWires_sources fdWires_sources ["self", "lags", "gate"] (sp_Wires_sources K C_Wires)) (D_Wires_sources : MDef K C_Wires "sources" fWires_sources fdWires_sources ["self", "lags", "gate"]) :
    FnOk P w K mg base CX0 3 f fd ["self", "lags"] (sp_Wires_ordered K C_Wires) := by
  refine F.ok scWires_ordered (fun vs H Q E h => ?_) (fun cdv A outer s H vs Q E hr h => ?_)
  · obtain ⟨p, al, n, lg, rfl, _⟩ := h
    rfl
  · obtain ⟨p, al, n, lg, rfl, hw, hal, hl, fb, q⟩ := h
    have hw0 := hw
    obtain ⟨dx, b, g, d, hp, hg, kvs, hd, hps⟩ := hw.ex
    have few := fb.few
    have eb : n.many = n.base + n.gates.length := rfl
    refine ⟨_, (pss_cons (V0.ps_setDc (i := 2) (own := [("gate", 3)]) (g := gName 3) (tt := tYes) rfl scWires_ordered.nd rfl rfl (V0.swd_true rfl rfl rfl (by decide +kernel)) (pi_list (pe_fld (pv 0) rfl)) (blkOk_by (N := N_Wires_ordered) (sc := defScope s_Wires_ordered) (by decide +kernel)) (fun _ _ _ _ _ => (pg_name (i := 3) scWires_ordered.nd rfl (Or.inl rfl))) (fun _ _ _ _ _ => pts_nil) (fun _ _ _ _ _ => (pv 3)) (fun _ _ _ _ _ => (pe_lc (own := [("node", 4), ("_", 5)]) (wi := iList K _) (g := gTup K 2 (gCons (gName 4) (gCons (gName 5) (gNil)))) (tt := tYes) rfl scWires_ordered.nd (pi_list (pe_meth (pv 0) T.c_Wires D_Wires_sources.m G_Wires_sources (hr.mono (by omega)) D_Wires_sources.b .nil pass0 (pa_cons (pv 1) (pa_cons (pv 3) pa_nil)))) (blkOk_by (N := N_Wires_ordered) (sc := relS _ (defScope s_Wires_ordered)) (by decide +kernel)) (fun _ _ _ _ _ => (pg_tup (by rfl) (pgs_cons (pg_name (i := 4) scWires_ordered.nd rfl (Or.inl rfl)) (pgs_cons (pg_name (i := 5) scWires_ordered.nd rfl (Or.inl rfl)) pgs_nil)))) (fun _ _ _ _ _ => pts_nil) (fun _ _ _ _ _ => (pv 4)))))
      (pss_one (ps_ret (pe_call G_finished (hr.mono (by omega)) (by rfl) D_finished.m D_finished.k D_finished.b .nil pass0 (pa_cons (pe_fld (pv 0) rfl) (pa_cons (pv 2) pa_nil)))))), ?_⟩
    refine ⟨_, rfl, p, C_Wires, dx, _, _, rfl, hp, T.c_Wires, T.n_Wires_gates, wf_gates _ _ _ _, g, rfl, ⟨_, SqL.of hg⟩, fun D nD => ?_⟩
    have low : ∀ {Hx : Hp}, Same (hid D H) (hid D Hx) → Same H (hid D Hx) := fun k b o z => k _ _ (hid_of (ne_of_none z nD) z)
    refine dc_it (walk_list (xs := vn (gns n))) (fun i Hx => Same (hid D H) (hid D Hx) ∧ ∃ ks : List (Key × V), Hx D = some (.dK ks) ∧ ks.length ≤ i ∧ ∀ k, k < i → k < n.gates.length → ∃ l, valV ks (Sum.inl ((n.base + k : Nat) : Int)) = some (.ref l) ∧ (hid D Hx) l = some (.lst (vn (srcs n lg (n.base + k)))))
      ⟨hid_mono (same_new nD), [], upd_same, Nat.le_refl _, fun k hk => absurd hk (Nat.not_lt_zero _)⟩ (fun i Hx _ ⟨k, _⟩ => SqL.of (hid_some (low k _ _ hg)).2) ?_ ?_
    · rintro i v Hx Hx' hi ⟨k, ks, hD, lk, cov⟩ ⟨rfl, ev⟩
      rw [vn_len, gns_len] at hi
      rw [vn_get (gns_get hi)] at ev
      cases ev
      have hgt := List.getElem?_eq_getElem hi
      generalize n.gates[i] = gt at hgt
      have kl : Same H Hx' := (low k).trans (hid_same _ _)
      refine ⟨rfl, _, rfl, _, rfl, p, dx, _, rfl, kl _ _ hp, wf_no _ _ _ _ (by decide +kernel) (by decide +kernel) (by decide +kernel) (by decide +kernel), _, rfl, _, rfl, p, al, i, n, lg, gt, rfl, hw0.same kl, kl _ _ hal, hl, fb, hgt, fun H2 l us s2 el hus => ?_⟩
      refine ⟨l, rfl, ⟨_, SqL.of el⟩, fun L nL => ?_⟩
      have hD2 := s2 _ _ hD
      have DL : D ≠ L := ne_of_none hD2 nL
      refine lc_list (xs := us) (fun j Hz => Same H2 Hz ∧ Hz L = some (.lst (vn (((srcP n lg (n.base + i) gt).map (·.1)).take j)))) ⟨same_new nL, upd_same⟩ (fun j Hz _ h => SqL.of (h.1 _ _ el)) ?_ ?_
      · rintro j u Hz hu ⟨sz, hL⟩
        obtain ⟨t, x, m, rfl, ht, hx⟩ := dvs_vals hus hu
        refine ⟨t, _, rfl, SqT.of (sz _ _ ht), rfl, _, _, rfl, _, _, rfl, rfl, rfl, _, rfl, _, hL, ?_, same_mut sz nL, ?_⟩
        · have := (List.getElem?_eq_some_iff.mp hx).1
          have : ((srcP n lg (n.base + i) gt).map (·.1)).length ≤ 2 := by
            rw [List.length_map]
            unfold srcP part
            rw [List.length_append]
            split <;> split <;> simp
          rw [vn_len, List.length_take]
          exact small1000 (by omega)
        · rw [upd_same, take_vn hx]
      · rintro Hz ⟨sz, hL⟩
        rw [hus.len, ← List.length_map (f := (·.1)), List.take_length, ← srcs_at hgt] at hL
        have hDz := sz _ _ hD2
        refine ⟨ks, Sum.inl ((n.base + i : Nat) : Int), rfl, hDz, small1000 (by omega), ?_, _, upd_same, Nat.le_trans (length_putK _ _ _) (by omega), fun k' hk' hk2 => ?_⟩
        · exact (k.trans (hid_mono (s2.trans sz))).trans hid_mut
        · by_cases c : k' < i
          · obtain ⟨l3, e1, e2⟩ := cov k' c hk2
            refine ⟨l3, ?_, ((hid_mono (s2.trans sz)).trans hid_mut) _ _ e2⟩
            rw [valV_put, if_neg (fun z => by have := kv_put_inj z; omega)]
            exact e1
          · have : k' = i := by omega
            subst this
            exact ⟨L, by rw [valV_put, if_pos rfl], hid_of DL.symm (by rw [upd_ne DL.symm]; exact hL)⟩
    · rintro Hx ⟨k, ks, hD, lk, cov⟩
      rw [vn_len, gns_len] at cov
      have kl : Same H Hx := (low k).trans (hid_same _ _)
      refine ⟨_, rfl, p, C_Wires, dx, _, _, rfl, kl _ _ hp, T.c_Wires, T.n_Wires_gates, wf_gates _ _ _ _, _, rfl, g, D, srcs n lg, msr n lg, gns n, rfl, gr_net fb, kl _ _ hg, ⟨ks, hD, fun x hx => ?_⟩, fun H' l done s' _ el tp cv ld => q H' l done (kl.trans s') el tp cv ld⟩
      have hx := gns_mem.mp hx
      have kx : x - n.base < n.gates.length := by omega
      obtain ⟨l, e1, e2⟩ := cov (x - n.base) kx kx
      rw [show n.base + (x - n.base) = x by omega] at e1 e2
      exact ⟨l, e1, (hid_some e2).2⟩

end K41
namespace K41
open PySem PySem.Spec PyProof.Rows L2 V0
/-! ### periods -/
def per (n : Net) (lg : List Nat) : Nat := mx ((gns n).map (dep n lg))
theorem valV_mem {kvs : List (Key × V)} {k : Key} {v : V} (h : valV kvs k = some v) : v ∈ kvs.map (·.2) := by
  unfold valV at h
  obtain ⟨p, hp, e⟩ := Option.map_eq_some_iff.mp h
  exact List.mem_map.mpr ⟨p, List.mem_of_find?_eq_some hp, e⟩
theorem mem_putK {kvs : List (Key × V)} {k : Key} {v : V} {p : Key × V} (h : p ∈ putK kvs k v) : p.2 = v ∨ p ∈ kvs := by
  unfold putK at h
  split at h
  · obtain ⟨q, hq, e⟩ := List.mem_map.mp h
    split at e
    · rw [← e]
      exact .inl rfl
    · rw [← e]
      exact .inr hq
  · rcases List.mem_append.mp h with h | h
    · exact .inr h
    · rw [List.mem_singleton.mp h]
      exact .inl rfl
theorem vals_nat {N : List Nat} {f : Nat → Nat} : ∀ {ks : List (Key × V)}, (∀ e ∈ ks, ∃ g ∈ N, e.2 = .int (f g : Nat)) → ∃ ds : List Nat, ks.map (·.2) = vn ds
  | [], _ => ⟨[], rfl⟩
  | e :: ks, vals => by
    obtain ⟨ds, h⟩ := vals_nat fun e he => vals e (List.mem_cons_of_mem _ he)
    obtain ⟨g, _, h2⟩ := vals e List.mem_cons_self
    refine ⟨f g :: ds, ?_⟩
    rw [List.map_cons, h, h2]
    rfl
def sp_Wires_new_levels (K : PySem.W.Frag) (C : Addr) : Sp := fun vs H Q _ => ∃ (p al : Nat) (n : Net) (lg : List Nat), vs = [.ref p, .ref al] ∧ WAt C H p n ∧ H al = some (.lst (vn (alls n lg))) ∧ lg.length = n.gates.length ∧ Fb n ∧
  ∀ H' d (ks : List (Key × V)), Same H H' → H' d = some (.dK ks) → ks.length ≤ 1000 → (∀ g ∈ gns n, valV ks (Sum.inl ((g : Nat) : Int)) = some (.int (dep n lg g : Nat))) → (∀ e ∈ ks, ∃ g ∈ gns n, e.2 = .int (dep n lg g : Nat)) → Q (.ref d) H'
theorem ok_Wires_new_levels {P : Program} {w : World} {K : PySem.W.Frag} {mg : Str → Option Value} {base : Heap} {C_Wires : Addr} {f fWires_ordered fWires_sources : Addr} {fd fdWires_ordered fdWires_sources : FuncData} (F : Fun K "new_levels" "Wires.new_levels" s_Wires_new_levels f fd) (T : Txt K mg C_Wires)
    (G_Wires_ordered : FnOk P w K mg base CX0 3 fWires_ordered fdWires_ordered ["self", "lags"] (sp_Wires_ordered K C_Wires)) (D_Wires_ordered : MDef K C_Wires "ordered" fWires_ordered fdWires_ordered ["self", "lags"])
    (G_Wires_sources : FnOk P w K mg base CX0 2 fWires_sources fdWires_sources ["self", "lags", "gate"] (sp_Wires_sources K C_Wires)) (D_Wires_sources : MDef K C_Wires "sources" fWires_sources fdWires_sources ["self", "lags", "gate"]) :
    FnOk P w K mg base CX0 4 f fd ["self", "lags"] (sp_Wires_new_levels K C_Wires) := by
  refine F.ok scWires_new_levels (fun vs H Q E h => ?_) (fun cdv A outer s H vs Q E hr h => ?_)
  · obtain ⟨p, al, n, lg, rfl, _⟩ := h
    rfl
  · obtain ⟨p, al, n, lg, rfl, hw, hal, hl, fb, q⟩ := h
    obtain ⟨dx, b, g, d, hp, hg, kvs, hd, hps⟩ := hw.ex
    refine ⟨_, (pss_cons (ps_set (i := 2) scWires_new_levels.nd rfl (.inr rfl) pe_dnewK)
      (pss_cons (ps_for PassesOwn.never rfl (pi_list (pe_meth (pv 0) T.c_Wires D_Wires_ordered.m G_Wires_ordered (hr.mono (by omega)) D_Wires_ordered.b .nil pass0 (pa_cons (pv 1) pa_nil))) (pg_name (i := 3) scWires_new_levels.nd rfl (Or.inl rfl)) (pss_one (ps_dput (hu_of hr) (pv 2) (pv 3) (pe_op op_add pe_int (pe_callB (cr_max rfl) (by rfl) T.m_max (by decide +kernel) (pa_cons (pe_op op_cat (pe_lst (pa_cons pe_int pa_nil)) (pe_lc (own := [("node", 4), ("_", 5)]) (g := gTup K 2 (gCons (gName 4) (gCons (gName 5) (gNil)))) (tt := tYes) rfl scWires_new_levels.nd (pi_list (pe_meth (pv 0) T.c_Wires D_Wires_sources.m G_Wires_sources (hr.mono (by omega)) D_Wires_sources.b .nil pass0 (pa_cons (pv 1) (pa_cons (pv 3) pa_nil)))) (blkOk_by (N := N_Wires_new_levels) (sc := defScope s_Wires_new_levels) (by decide +kernel)) (fun _ _ _ _ _ => (pg_tup (by rfl) (pgs_cons (pg_name (i := 4) scWires_new_levels.nd rfl (Or.inl rfl)) (pgs_cons (pg_name (i := 5) scWires_new_levels.nd rfl (Or.inl rfl)) pgs_nil)))) (fun _ _ _ _ _ => pts_nil) (fun _ _ _ _ _ => (pe_dget (hu_of hr) (pv 2) (pv 4) (fun _ _ => rfl))))) pa_nil))) rfl)))
      (pss_one (ps_ret (pv 2))))), ?_⟩
    refine fun D nD => ?_
    have s1 := same_new (o := .dK []) nD
    have eD : (upd H D (.dK [])) D = some (.dK []) := upd_same
    generalize (upd H D (.dK [])) = H1 at s1 eD ⊢
    refine ⟨_, rfl, p, dx, _, rfl, s1 _ _ hp, wf_no _ _ _ _ (by decide +kernel) (by decide +kernel) (by decide +kernel) (by decide +kernel), _, rfl, p, al, n, lg, rfl, hw.same s1, s1 _ _ hal, hl, fb, fun H2 l done s2 el tp cv ld => ?_⟩
    have eD := s2 _ _ eD
    have s2 := s1.trans s2
    have Dl : l ≠ D := fun z => by
      rw [z, eD] at el
      cases el
    refine ⟨l, rfl, ⟨_, SqL.of el⟩, for_list (xs := vn done) (fun i σ Hx => ∃ (y3 y4 y5 : Option V) (ks : List (Key × V)), σ = [some (.ref p), some (.ref al), some (.ref D), y3, y4, y5] ∧ Same (hid D H2) (hid D Hx) ∧ Hx D = some (.dK ks) ∧ ks.length ≤ i ∧ (∀ g ∈ done.take i, valV ks (Sum.inl ((g : Nat) : Int)) = some (.int (dep n lg g : Nat))) ∧ ∀ e ∈ ks, ∃ g ∈ gns n, e.2 = .int (dep n lg g : Nat))
      ⟨none, none, none, [], rfl, Same.refl _, eD, Nat.le_refl _, (fun g hg => by rw [List.take_zero] at hg; cases hg), (fun e he => by cases he)⟩ (fun i σ Hx _ ⟨_, _, _, _, _, k, _⟩ => SqL.of (hid_some (k _ _ (hid_of Dl el))).2) ?_ ?_⟩
    · rintro i v σ Hx hv ⟨y3, y4, y5, ks, rfl, kx, hD, lk, cov, vals⟩
      obtain ⟨gg, hgg, rfl⟩ : ∃ x, done[i]? = some x ∧ v = V.int (x : Nat) := by
        unfold vn at hv
        rw [List.getElem?_map] at hv
        obtain ⟨x, e1, e2⟩ := Option.map_eq_some_iff.mp hv
        exact ⟨x, e1, e2.symm⟩
      have il : i < done.length := (List.getElem?_eq_some_iff.mp hgg).1
      have gN : gg ∈ gns n := (cv gg).mp (List.mem_of_getElem? hgg)
      have gm := gns_mem.mp gN
      have tpi := tp.at hgg
      have de := dep_eq (lg := lg) fb gN
      obtain ⟨k, rfl⟩ : ∃ k, gg = n.base + k := ⟨gg - n.base, by omega⟩
      have kl : k < n.gates.length := by
        have := gm.2
        unfold Net.many at this
        omega
      have hgt := List.getElem?_eq_getElem kl
      generalize n.gates[k] = gt at hgt
      have up : Same H Hx := fun b o z => by
        have zD : b ≠ D := ne_of_none z nD
        exact (hid_some (kx _ _ (hid_of zD (s2 _ _ z)))).2
      refine ⟨by show 1 ≤ sizeLine; decide, fun l0 n0 => ?_⟩
      have s3 := same_new (o := .lst [.int 0]) n0
      have e0 : (upd Hx l0 (.lst [.int 0])) l0 = some (.lst [.int 0]) := upd_same
      generalize (upd Hx l0 (.lst [.int 0])) = Ha at s3 e0 ⊢
      have upa := up.trans s3
      refine ⟨_, rfl, p, dx, _, rfl, upa _ _ hp, wf_no _ _ _ _ (by decide +kernel) (by decide +kernel) (by decide +kernel) (by decide +kernel), _, rfl, _, rfl, p, al, k, n, lg, gt, rfl, hw.same upa, upa _ _ hal, hl, fb, hgt, fun Hb ls us s4 els hus => ?_⟩
      have e0 := s4 _ _ e0
      have s4 := s3.trans s4
      refine ⟨ls, rfl, ⟨_, SqL.of els⟩, fun L nL => ?_⟩
      have es : srcs n lg (n.base + k) = (srcP n lg (n.base + k) gt).map (·.1) := srcs_at hgt
      refine lc_list (xs := us) (fun j Hz => Same Hb Hz ∧ Hz L = some (.lst (vn (((srcs n lg (n.base + k)).map (dep n lg)).take j)))) ⟨same_new nL, upd_same⟩ (fun j Hz _ h => SqL.of (h.1 _ _ els)) ?_ ?_
      · rintro j u Hz hu ⟨sz, hL⟩
        obtain ⟨t, x, m, rfl, ht, hx⟩ := dvs_vals hus hu
        rw [← es] at hx
        have xd : valV ks (Sum.inl ((x : Nat) : Int)) = some (.int (dep n lg x : Nat)) := cov x (tpi x (List.mem_of_getElem? hx))
        refine ⟨t, _, rfl, SqT.of (sz _ _ ht), rfl, _, _, rfl, _, _, rfl, rfl, rfl, _, rfl, _, rfl, D, _, rfl, dget_k (sz _ _ (s4 _ _ hD)) xd, _, hL, ?_, same_mut sz nL, ?_⟩
        · have := (List.getElem?_eq_some_iff.mp hx).1
          have : (srcs n lg (n.base + k)).length ≤ 2 := by
            rw [es, List.length_map]
            unfold srcP part
            rw [List.length_append]
            split <;> split <;> simp
          rw [vn_len, List.length_take, List.length_map]
          exact small1000 (by omega)
        · rw [upd_same, take_vn (x := dep n lg x) (by rw [List.getElem?_map, hx]; rfl)]
      · rintro Hz ⟨sz, hL⟩
        rw [hus.len, ← List.length_map (f := (·.1)), ← es, ← List.length_map (f := dep n lg), List.take_length] at hL
        have e0 := sz _ _ e0
        have s5 := s4.trans sz
        have small : ((srcs n lg (n.base + k)).map (dep n lg)).length ≤ 2 := by
          rw [List.length_map, es, List.length_map]
          unfold srcP part
          rw [List.length_append]
          split <;> split <;> simp
        refine ⟨l0, L, _, _, rfl, rfl, e0, hL, Nat.le_of_lt (small1000 (by rw [vn_len]; show 1 + _ ≤ 1000; omega)), fun c nc => ?_⟩
        refine ⟨c, (0 :: (srcs n lg (n.base + k)).map (dep n lg)).map fun (x : Nat) => (x : Int), rfl, SqL.of (by rw [upd_same, ← vn_map]; rfl), by simp, fun m hm hu => ?_⟩
        have em := mx_eq hm hu
        subst em
        have s6 := s5.trans (same_new (o := .lst ([V.int 0] ++ vn ((srcs n lg (n.base + k)).map (dep n lg)))) nc)
        have hD6 := s6 _ _ hD
        have ev : V.int ((1 : Int) + ((mx ((srcs n lg (n.base + k)).map (dep n lg)) : Nat) : Int)) = V.int ((dep n lg (n.base + k) : Nat) : Int) := by
          rw [de]
          congr 1
        refine ⟨_, _, rfl, rfl, _, rfl, _, rfl, D, _, rfl, DPut.k (k := Sum.inl ((n.base + k : Nat) : Int)) hD6 (small1000 (by omega)), ?_⟩
        simp only [ev]
        refine ⟨_, _, _, _, rfl, (kx.trans (hid_mono s6)).trans hid_mut, upd_same, Nat.le_trans (length_putK _ _ _) (by omega), fun g hg => ?_, fun e he => ?_⟩
        · rw [valV_put]
          by_cases c : g = n.base + k
          · subst c
            rw [if_pos rfl]
          · rw [if_neg (fun z => c (kv_put_inj z))]
            rw [take_snoc hgg] at hg
            rcases List.mem_append.mp hg with hg | hg
            · exact cov g hg
            · exact absurd (List.mem_singleton.mp hg) c
        · rcases mem_putK he with h | h
          · exact ⟨_, gN, h⟩
          · exact vals e h
    · rintro σ Hx ⟨y3, y4, y5, ks, rfl, kx, hD, lk, cov, vals⟩
      rw [vn_len] at lk cov
      refine ⟨_, rfl, q Hx D ks (fun b o z => ?_) hD (by omega) (fun g hg => cov g ?_) vals⟩
      · have zD : b ≠ D := ne_of_none z nD
        exact (hid_some (kx _ _ (hid_of zD (s2 _ _ z)))).2
      · rw [List.take_length]
        exact (cv g).mpr hg
def sp__period_of (K : PySem.W.Frag) (C : Addr) : Sp := fun vs H Q _ => ∃ (p l : Nat) (n : Net) (lg : List Nat), vs = [.ref p, .ref l] ∧ WAt C H p n ∧ H l = some (.lst (vn lg)) ∧ lg.length = n.gates.length ∧ Fb n ∧ ∀ H', Same H H' → Q (.int (per n lg : Nat)) H'
theorem ok__period_of {P : Program} {w : World} {K : PySem.W.Frag} {mg : Str → Option Value} {base : Heap} {C_Wires : Addr} {f fWires_new_levels fWires_all_lags : Addr} {fd fdWires_new_levels fdWires_all_lags : FuncData} (F : Fun K "_period_of" "_period_of" s__period_of f fd) (T : Txt K mg C_Wires)
    (G_Wires_new_levels : FnOk P w K mg base CX0 4 fWires_new_levels fdWires_new_levels ["self", "lags"] (sp_Wires_new_levels K C_Wires)) (D_Wires_new_levels : MDef K C_Wires "new_levels" fWires_new_levels fdWires_new_levels ["self", "lags"])
    (G_Wires_all_lags : FnOk P w K mg base CX0 1 fWires_all_lags fdWires_all_lags ["self", "lags"] (sp_Wires_all_lags K C_Wires)) (D_Wires_all_lags : MDef K C_Wires "all_lags" fWires_all_lags fdWires_all_lags ["self", "lags"]) :
    FnOk P w K mg base CX0 5 f fd ["wires", "lags"] (sp__period_of K C_Wires) := by
  refine F.ok sc_period_of (fun vs H Q E h => ?_) (fun cdv A outer s H vs Q E hr h => ?_)
  · obtain ⟨p, l, n, lg, rfl, _⟩ := h
    rfl
  · obtain ⟨p, l, n, lg, rfl, hw, hll, hl, fb, q⟩ := h
    obtain ⟨dx, b, g, d, hp, hg, kvs, hd, hps⟩ := hw.ex
    have few := fb.few
    have eb : n.many = n.base + n.gates.length := rfl
    refine ⟨_, (pss_cons (ps_set (i := 2) sc_period_of.nd rfl (.inl rfl) (pe_meth (pv 0) T.c_Wires D_Wires_new_levels.m G_Wires_new_levels (hr.mono (by omega)) D_Wires_new_levels.b .nil pass0 (pa_cons (pe_meth (pv 0) T.c_Wires D_Wires_all_lags.m G_Wires_all_lags (hr.mono (by omega)) D_Wires_all_lags.b .nil pass0 (pa_cons (pv 1) pa_nil)) pa_nil)))
      (pss_one (ps_ret (pe_callB (cr_max rfl) (by rfl) T.m_max (by decide +kernel) (pa_cons (pe_op op_cat (pe_lst (pa_cons pe_int pa_nil)) (V0.pe_listVals rfl (by rfl) T.m_list (pv 2))) pa_nil))))), ?_⟩
    refine ⟨_, rfl, p, dx, _, rfl, hp, wf_no _ _ _ _ (by decide +kernel) (by decide +kernel) (by decide +kernel) (by decide +kernel), _, rfl, p, dx, _, rfl, hp, wf_no _ _ _ _ (by decide +kernel) (by decide +kernel) (by decide +kernel) (by decide +kernel), _, rfl, p, l, n, lg, rfl, hw, hll, by omega, fun H1 al s1 eal => ?_⟩
    refine ⟨p, al, n, lg, rfl, hw.same s1, eal, hl, fb, fun H2 D ks s2 eD lk cov vals => ?_⟩
    have s2 := s1.trans s2
    refine ⟨by show 1 ≤ sizeLine; decide, fun l0 n0 => ?_⟩
    have s3 := s2.trans (same_new (o := .lst [.int 0]) n0)
    have e0 : (upd H2 l0 (.lst [.int 0])) l0 = some (.lst [.int 0]) := upd_same
    have eD := same_new (o := .lst [.int 0]) n0 _ _ eD
    generalize (upd H2 l0 (.lst [.int 0])) = H3 at s3 e0 eD ⊢
    refine ⟨_, rfl, D, ks, rfl, eD, fun r nr => ?_⟩
    have l0r : l0 ≠ r := ne_of_none e0 nr
    have s4 := s3.trans (same_new (o := .lst (ks.map (·.2))) nr)
    have e0 := same_new (o := .lst (ks.map (·.2))) nr _ _ e0
    have er : (upd H3 r (.lst (ks.map (·.2)))) r = some (.lst (ks.map (·.2))) := upd_same
    generalize (upd H3 r (.lst (ks.map (·.2)))) = H4 at s4 e0 er ⊢
    refine ⟨l0, r, _, _, rfl, rfl, e0, er, Nat.le_of_lt (small64k (by rw [List.length_map]; show 1 + _ ≤ _; omega)), fun c nc => ?_⟩
    obtain ⟨ds, hds⟩ := vals_nat vals
    have em : mx ds = per n lg := by
      refine Nat.le_antisymm (mx_ub fun x hx => ?_) (mx_ub fun x hx => ?_)
      · have : V.int (x : Nat) ∈ ks.map (·.2) := by
          rw [hds]
          exact List.mem_map.mpr ⟨x, hx, rfl⟩
        obtain ⟨e, he, ee⟩ := List.mem_map.mp this
        obtain ⟨g, hg, h2⟩ := vals e he
        rw [h2] at ee
        have : x = dep n lg g := by
          have := V.int.inj ee
          omega
        rw [this]
        exact mx_le (List.mem_map.mpr ⟨g, hg, rfl⟩)
      · obtain ⟨g, hg, rfl⟩ := List.mem_map.mp hx
        have := valV_mem (cov g hg)
        rw [hds] at this
        obtain ⟨y, hy, ey⟩ := List.mem_map.mp this
        have : y = dep n lg g := by
          have := V.int.inj ey
          omega
        rw [← this]
        exact mx_le hy
    refine ⟨c, (0 :: ds).map fun (x : Nat) => (x : Int), rfl, SqL.of (by rw [upd_same, ← vn_map, hds]; rfl), by simp, fun m hm hu => ?_⟩
    have e := mx_eq hm hu
    subst e
    rw [em]
    exact q _ (s4.trans (same_new nc))
def sp_period (K : PySem.W.Frag) : Sp := fun vs H Q _ => ∃ (a l : Nat) (n : Net) (lg : List Nat), vs = [.ref a, .ref l] ∧ Dv H (.ref a) n ∧ H l = some (.lst (vn lg)) ∧ lg.length = n.gates.length ∧ Fb n ∧ ∀ H', Same H H' → Q (.int (per n lg : Nat)) H'
theorem ok_period {P : Program} {w : World} {K : PySem.W.Frag} {mg : Str → Option Value} {base : Heap} {C_Wires : Addr} {f f_period_of fWires___init__ : Addr} {fd fd_period_of fdWires___init__ : FuncData} (F : Fun K "period" "period" s_period f fd) (T : Txt K mg C_Wires)
    (G__period_of : FnOk P w K mg base CX0 5 f_period_of fd_period_of ["wires", "lags"] (sp__period_of K C_Wires)) (D__period_of : Def K mg "_period_of" f_period_of fd_period_of ["wires", "lags"])
    (G_Wires___init__ : FnOk P w K mg base CX0 2 fWires___init__ fdWires___init__ ["self", "net"] (sp_Wires___init__ K C_Wires)) (D_Wires___init__ : IDef K C_Wires fWires___init__ fdWires___init__ ["self", "net"]) :
    FnOk P w K mg base CX0 6 f fd ["net", "lags"] (sp_period K) := by
  refine F.ok scperiod (fun vs H Q E h => ?_) (fun cdv A outer s H vs Q E hr h => ?_)
  · obtain ⟨a, l, n, lg, rfl, _⟩ := h
    rfl
  · obtain ⟨a, l, n, lg, rfl, hn, hll, hl, fb, q⟩ := h
    refine ⟨_, (pss_one (ps_ret (pe_call G__period_of (hr.mono (by omega)) (by rfl) D__period_of.m D__period_of.k D__period_of.b .nil pass0 (pa_cons (pe_make D_Wires___init__.k G_Wires___init__ (hr.mono (by omega)) (by rfl) T.m_Wires D_Wires___init__.b .nil pass0 (pa_cons (pv 0) pa_nil)) (pa_cons (pv 1) pa_nil))))), ?_⟩
    refine ⟨_, rfl, fun x dx nx ndx ne => ?_⟩
    have low : ∀ b o, H b = some o → (hid x (upd (upd H dx (.own x)) x (.ins C_Wires dx []))) b = some o := fun b o z => by
      have zx : b ≠ x := ne_of_none z nx
      exact hid_of zx (by rw [upd_ne zx, upd_ne (ne_of_none z ndx)]; exact z)
    refine ⟨x, dx, a, n, rfl, upd_same, hn.same low, fb.fl, fb.few, fun H2 hw s2 => ⟨rfl, ?_⟩⟩
    have s2 : Same H H2 := fun b o z => (hid_some (s2 _ _ (low b o z))).2
    refine ⟨_, rfl, x, l, n, lg, rfl, hw, s2 _ _ hll, hl, fb, fun H' s' => q H' (s2.trans s')⟩

end K41
namespace K41
open PySem PySem.Spec PyProof.Rows L2 V0
/-! ### lags -/
theorem lag_gate {n : Net} {lg : List Nat} {k : Nat} (hl : lg.length = n.gates.length) (h : k < n.gates.length) : lg[k]? = some (lagN n lg (n.base + k)) := by
  rw [← lag_get hl (d := n.base + k) (by unfold Net.many; omega)]
  unfold alls
  rw [List.getElem?_append_right (by rw [List.length_replicate]; omega), List.length_replicate, show n.base + k - n.base = k by omega]
theorem lag_low {n : Net} {lg : List Nat} {d : Nat} (h : d < n.base) : lagN n lg d = 0 := by
  unfold lagN alls
  rw [List.getElem?_append_left (by rw [List.length_replicate]; exact h), List.getElem?_replicate, if_pos h]
  rfl
def sp__law_lag (K : PySem.W.Frag) : Sp := fun vs H Q _ => ∃ (a l x : Nat) (n : Net) (lg : List Nat), vs = [.ref a, .ref l, .int (x : Nat)] ∧ Dv H (.ref a) n ∧ H l = some (.lst (vn lg)) ∧ lg.length = n.gates.length ∧ x < 2 * n.many ∧ Q (.int (lagN n lg (x / 2) : Nat)) H
theorem ok__law_lag {P : Program} {w : World} {K : PySem.W.Frag} {mg : Str → Option Value} {base : Heap} {C_Wires : Addr} {f  : Addr} {fd  : FuncData} (F : Fun K "_law_lag" "_law_lag" s__law_lag f fd) (T : Txt K mg C_Wires) :
    FnOk P w K mg base CX0 1 f fd ["net", "lags", "literal"] (sp__law_lag K) := by
  refine F.ok sc_law_lag (fun vs H Q E h => ?_) (fun cdv A outer s H vs Q E hr h => ?_)
  · obtain ⟨a, l, x, n, lg, rfl, _⟩ := h
    rfl
  · obtain ⟨a, l, x, n, lg, rfl, hn, hll, hl, hx, q⟩ := h
    obtain ⟨_, aS, aG, aN, aO, e, hA, hS, hG, hN, hO⟩ := hn.net_inv
    cases e
    obtain ⟨_, e, hS⟩ := hS.natl_inv
    cases e
    have eb : n.many = n.base + n.gates.length := rfl
    have eb2 : n.base = 1 + n.ins + n.starts.length := rfl
    refine ⟨_, (pss_cons (ps_set (i := 3) sc_law_lag.nd rfl (.inl rfl) (pe_op op_sub (pe_op op_sub (pe_op op_sub (pe_op op_fdivN (pv 2) pe_int) pe_int) (pe_ix (r := rIxT K) ix_tup (pv 0) pe_int (fun _ _ => rfl))) (pe_callB call_len_seq (by rfl) T.m_len (by decide +kernel) (pa_cons (pe_ix (r := rIxT K) ix_tup (pv 0) pe_int (fun _ _ => rfl)) pa_nil))))
      (pss_one (ps_ret (pe_ifExp (pt_cmpR op_ge (pv 3) pe_int (nomark _)) (pe_ix (r := rIxL K) ix_list (pv 1) (pv 3) (fun _ _ => rfl)) pe_int)))), ?_⟩
    refine ⟨_, rfl, _, _, rfl, rfl, ⟨by decide, by decide⟩, _, _, rfl, rfl, _, rfl, a, _, 1, _, rfl, rfl, SqT.of hA, atI_nat (j := 1) rfl, _, _, rfl, rfl, _, rfl, a, _, 2, _, rfl, rfl, SqT.of hA, atI_nat (j := 2) rfl, aS, _, rfl, .inl (SqL.of hS), _, _, rfl, rfl, ?_⟩
    have ei : V.int (((x : Nat) : Int).fdiv 2 - 1 - (n.ins : Int) - ((vn n.starts).length : Int)) = V.int (((x / 2 : Nat) : Int) - (n.base : Int)) := by
      rw [nfdiv2, vn_len]
      congr 1
      omega
    simp only [ei]
    refine ⟨_, rfl, _, _, rfl, rfl, _, rfl, ?_⟩
    by_cases c : n.base ≤ x / 2
    · rw [decide_eq_true (show ((x / 2 : Nat) : Int) - (n.base : Int) ≥ 0 by omega)]
      refine iteT ⟨_, rfl, _, rfl, l, _, _, _, rfl, rfl, SqL.of hll, ?_, q⟩
      rw [show ((x / 2 : Nat) : Int) - (n.base : Int) = ((x / 2 - n.base : Nat) : Int) by omega]
      have := lag_gate hl (k := x / 2 - n.base) (by omega)
      rw [show n.base + (x / 2 - n.base) = x / 2 by omega] at this
      exact atI_nat (vn_get this)
    · rw [decide_eq_false (show ¬ ((x / 2 : Nat) : Int) - (n.base : Int) ≥ 0 by omega)]
      refine iteF ?_
      rw [lag_low (by omega)] at q
      exact q
def sp__law_allowed (K : PySem.W.Frag) : Sp := fun vs H Q _ => ∃ (a l : Nat) (n : Net) (lg : List Nat), vs = [.ref a, .ref l] ∧ Dv H (.ref a) n ∧ H l = some (.lst (vn lg)) ∧ lg.length = n.gates.length ∧ Fb n ∧ ∀ b H', Same H H' → Q (.bl b) H'
theorem ok__law_allowed {P : Program} {w : World} {K : PySem.W.Frag} {mg : Str → Option Value} {base : Heap} {C_Wires : Addr} {f f_law_origin f_law_lag : Addr} {fd fd_law_origin fd_law_lag : FuncData} (F : Fun K "_law_allowed" "_law_allowed" s__law_allowed f fd) (T : Txt K mg C_Wires)
    (G__law_origin : FnOk P w K mg base CX0 3 f_law_origin fd_law_origin ["net", "literal"] (sp__law_origin K)) (D__law_origin : Def K mg "_law_origin" f_law_origin fd_law_origin ["net", "literal"])
    (G__law_lag : FnOk P w K mg base CX0 1 f_law_lag fd_law_lag ["net", "lags", "literal"] (sp__law_lag K)) (D__law_lag : Def K mg "_law_lag" f_law_lag fd_law_lag ["net", "lags", "literal"]) :
    FnOk P w K mg base CX0 4 f fd ["net", "lags"] (sp__law_allowed K) := by
  refine F.ok sc_law_allowed (fun vs H Q E h => ?_) (fun cdv A outer s H vs Q E hr h => ?_)
  · obtain ⟨a, l, n, lg, rfl, _⟩ := h
    rfl
  · obtain ⟨a, l, n, lg, rfl, hn, hll, hl, fb, q⟩ := h
    have hn0 := hn
    obtain ⟨_, aS, aG, aN, aO, e, hA, hS, hG, hN, hO⟩ := hn.net_inv
    cases e
    obtain ⟨_, us, e, hGl, hus⟩ := hG.list_inv
    cases e
    have few := fb.few
    have eb : n.many = n.base + n.gates.length := rfl
    refine ⟨_, (pss_cons (ps_for PassesOwn.never rfl (pi_range1 rfl T.m_range (pa_cons (pe_callB call_len_seq (by rfl) T.m_len (by decide +kernel) (pa_cons (pe_ix (r := rIxT K) ix_tup (pv 0) pe_int (fun _ _ => rfl)) pa_nil)) pa_nil)) (pg_name (i := 2) sc_law_allowed.nd rfl (Or.inl rfl)) (pss_one (ps_for PassesOwn.never rfl (pi_tup (pe_ix (r := rIxL K) ix_list (pe_ix (r := rIxT K) ix_tup (pv 0) pe_int (fun _ _ => rfl)) (pv 2) (fun _ _ => rfl))) (pg_name (i := 3) sc_law_allowed.nd rfl (Or.inl rfl)) (pss_cons (ps_asg (pe_call G__law_origin (hr.mono (by omega)) (by rfl) D__law_origin.m D__law_origin.k D__law_origin.b .nil pass0 (pa_cons (pv 0) (pa_cons (pv 3) pa_nil))) (pg_tup (by rfl) (pgs_cons (pg_name (i := 4) sc_law_allowed.nd rfl (Or.inl rfl)) (pgs_cons (pg_name (i := 5) sc_law_allowed.nd rfl (Or.inl rfl)) (pgs_cons (pg_name (i := 6) sc_law_allowed.nd rfl (Or.inl rfl)) pgs_nil)))))
      (pss_one (ps_if (PW.pt (pw_or (pt_cmpR op_lt (pe_ix (r := rIxL K) ix_list (pv 1) (pv 2) (fun _ _ => rfl)) pe_int (nomark _)) (pw_or1 (pt_cmpR op_lt (pe_op op_add (pv 5) (pe_call G__law_lag (hr.mono (by omega)) (by rfl) D__law_lag.m D__law_lag.k D__law_lag.b .nil pass0 (pa_cons (pv 0) (pa_cons (pv 1) (pa_cons (pv 4) pa_nil))))) (pe_ix (r := rIxL K) ix_list (pv 1) (pv 2) (fun _ _ => rfl)) (nomark _))))) (pss_one (ps_ret pe_bl)) pss_nil))))))
      (pss_one (ps_ret pe_bl))), ?_⟩
    refine ⟨_, rfl, a, _, 3, _, rfl, rfl, SqT.of hA, atI_nat (j := 3) rfl, aG, _, rfl, .inl (SqL.of hGl), ?_⟩
    rw [hus.len]
    refine ⟨_, rfl, by omega, by omega, for_range (n := n.gates.length) (fun i σ Hx => ∃ (y2 y3 y4 y5 y6 : Option V), σ = [some (.ref a), some (.ref l), y2, y3, y4, y5, y6] ∧ Same H Hx) ⟨_, _, _, _, _, rfl, fun _ _ h => h⟩ ?_ ?_⟩
    · rintro i σ Hx hi ⟨y2, y3, y4, y5, y6, rfl, sx⟩
      have hgt := List.getElem?_eq_getElem hi
      generalize n.gates[i] = gt at hgt
      obtain ⟨v, hv, hd⟩ := hus.get hgt
      obtain ⟨t, u1, u2, rfl, ht, h1, h2⟩ := hd.pair_inv
      have h1 := h1.nat_inv
      have h2 := h2.nat_inv
      subst h1 h2
      have gb := fb.g i gt hgt
      rw [Int.zero_add]
      refine ⟨_, rfl, a, _, 3, _, rfl, rfl, SqT.of (sx _ _ hA), atI_nat (j := 3) rfl, _, rfl, aG, _, _, _, rfl, rfl, SqL.of (sx _ _ hGl), atI_nat hv, ?_⟩
      refine ⟨t, rfl, ⟨_, SqT.of (sx _ _ ht)⟩, for_tup (xs := [.int (gt.1 : Nat), .int (gt.2 : Nat)]) (fun j σ Hz => ∃ (y3 y4 y5 y6 : Option V), σ = [some (.ref a), some (.ref l), some (.int (i : Nat)), y3, y4, y5, y6] ∧ Same H Hz) ⟨_, _, _, _, rfl, sx⟩ (fun j σ Hz _ ⟨_, _, _, _, _, s'⟩ => SqT.of (s' _ _ ht)) ?_ ?_⟩
      · rintro j v σ Hz hv ⟨y3, y4, y5, y6, rfl, sz⟩
        obtain ⟨x, rfl, hx⟩ : ∃ x : Nat, v = V.int (x : Nat) ∧ x < 2 * n.many := by
          have hj : j = 0 ∨ j = 1 := by
            have h : j < 2 := (List.getElem?_eq_some_iff.mp hv).1
            omega
          rcases hj with rfl | rfl
          · cases hv
            exact ⟨gt.1, rfl, by omega⟩
          · cases hv
            exact ⟨gt.2, rfl, by omega⟩
        refine ⟨_, rfl, _, rfl, a, n, x, rfl, hn0.same sz, fb.fl, fun H1 v s1 ot => ?_⟩
        obtain ⟨t2, l2, rfl, ht2, hl2⟩ := ot
        have s1 := sz.trans s1
        refine ⟨t2, _, rfl, SqT.of ht2, rfl, _, _, rfl, _, _, rfl, _, _, rfl, rfl, ?_⟩
        refine ⟨_, rfl, _, rfl, l, _, _, _, rfl, rfl, SqL.of (s1 _ _ hll), atI_nat (vn_get (lag_gate hl hi)), _, _, rfl, rfl, _, rfl, ?_⟩
        rw [decide_eq_false (show ¬ ((lagN n lg (n.base + i) : Nat) : Int) < 0 by omega)]
        refine iteF ⟨_, rfl, _, rfl, _, rfl, _, rfl, a, l, _, n, lg, rfl, hn0.same s1, s1 _ _ hll, hl, orig_lt fb hx, _, _, rfl, rfl, _, rfl, _, rfl, l, _, _, _, rfl, rfl, SqL.of (s1 _ _ hll), atI_nat (vn_get (lag_gate hl hi)), _, _, rfl, rfl, _, rfl, ?_⟩
        generalize decide ((((orig n x).2.length : Nat) : Int) + ((lagN n lg ((orig n x).1 / 2) : Nat) : Int) < ((lagN n lg (n.base + i) : Nat) : Int)) = b
        cases b with
        | true => exact iteT (q _ _ s1)
        | false => exact iteF ⟨_, _, _, _, rfl, s1⟩
      · rintro σ Hz ⟨y3, y4, y5, y6, rfl, sz⟩
        exact ⟨_, _, _, _, _, rfl, sz⟩
    · rintro σ Hx ⟨y2, y3, y4, y5, y6, rfl, sx⟩
      exact q _ _ sx
def sp__law_lags (K : PySem.W.Frag) : Sp := fun vs H Q _ => ∃ (p c a : Nat) (n : Net), vs = [.ref p, .ref a] ∧ Dr H p c ∧ Dv (res p c H) (.ref a) n ∧ Fb n ∧ ∀ H' r (lg : List Nat), Go p c H H' → H r = none → H' r = some (.lst (vn lg)) → lg.length = n.gates.length → Q (.ref r) H'
theorem ok__law_lags {P : Program} {w : World} {K : PySem.W.Frag} {mg : Str → Option Value} {base : Heap} {C_Wires : Addr} {f f_law_draw f_law_allowed : Addr} {fd fd_law_draw fd_law_allowed : FuncData} (F : Fun K "_law_lags" "_law_lags" s__law_lags f fd) (T : Txt K mg C_Wires)
    (G__law_draw : FnOk P w K mg base CX0 1 f_law_draw fd_law_draw ["state", "many"] (sp__law_draw K)) (D__law_draw : Def K mg "_law_draw" f_law_draw fd_law_draw ["state", "many"])
    (G__law_allowed : FnOk P w K mg base CX0 4 f_law_allowed fd_law_allowed ["net", "lags"] (sp__law_allowed K)) (D__law_allowed : Def K mg "_law_allowed" f_law_allowed fd_law_allowed ["net", "lags"]) :
    FnOk P w K mg base CX0 5 f fd ["state", "net"] (sp__law_lags K) := by
  refine F.ok sc_law_lags (fun vs H Q E h => ?_) (fun cdv A outer s H vs Q E hr h => ?_)
  · obtain ⟨p, c, a, n, rfl, _⟩ := h
    rfl
  · obtain ⟨p, c, a, n, rfl, d0, hn, fb, q⟩ := h
    have hn0 := hn
    obtain ⟨_, aS, aG, aN, aO, e, hA, hS, hG, hN, hO⟩ := hn.net_inv
    cases e
    obtain ⟨_, us, e, hGl, hus⟩ := hG.list_inv
    cases e
    have hA := (res_some hA).2.2
    have hGl := (res_some hGl).2.2
    have few := fb.few
    have eb : n.many = n.base + n.gates.length := rfl
    refine ⟨_, (pss_cons (ps_set (i := 2) sc_law_lags.nd rfl (.inl rfl) (pe_op op_rep (pe_lst (pa_cons pe_int pa_nil)) (pe_callB call_len_seq (by rfl) T.m_len (by decide +kernel) (pa_cons (pe_ix (r := rIxT K) ix_tup (pv 1) pe_int (fun _ _ => rfl)) pa_nil))))
      (pss_cons (ps_for PassesOwn.never rfl (pi_range1 rfl T.m_range (pa_cons (pe_call G__law_draw (hr.mono (by omega)) (by rfl) D__law_draw.m D__law_draw.k D__law_draw.b .nil pass0 (pa_cons (pv 0) (pa_cons (pe_op op_add (pe_op op_mul pe_int (pe_callB call_len_seq (by rfl) T.m_len (by decide +kernel) (pa_cons (pv 2) pa_nil))) pe_int) pa_nil))) pa_nil)) (pg_name (i := 3) sc_law_lags.nd rfl (Or.inl rfl)) (pss_cons (ps_set (i := 4) sc_law_lags.nd rfl (.inl rfl) (pe_call G__law_draw (hr.mono (by omega)) (by rfl) D__law_draw.m D__law_draw.k D__law_draw.b .nil pass0 (pa_cons (pv 0) (pa_cons (pe_callB call_len_seq (by rfl) T.m_len (by decide +kernel) (pa_cons (pv 2) pa_nil)) pa_nil))))
      (pss_cons (ps_asg (pe_op op_add (pe_ix (r := rIxL K) ix_list (pv 2) (pv 4) (fun _ _ => rfl)) pe_int) (pg_sub (pv 2) (pv 4) set_list))
      (pss_one (ps_if (pt_not (pt_val (pe_call G__law_allowed (hr.mono (by omega)) (by rfl) D__law_allowed.m D__law_allowed.k D__law_allowed.b .nil pass0 (pa_cons (pv 1) (pa_cons (pv 2) pa_nil))))) (pss_one (ps_asg (pe_op op_sub (pe_ix (r := rIxL K) ix_list (pv 2) (pv 4) (fun _ _ => rfl)) pe_int) (pg_sub (pv 2) (pv 4) set_list))) pss_nil)))))
      (pss_one (ps_ret (pv 2))))), ?_⟩
    refine ⟨by show 1 ≤ sizeLine; decide, fun l1 n1 => ?_⟩
    have s1 := same_new (o := .lst [.int 0]) n1
    have e1 : (upd H l1 (.lst [.int 0])) l1 = some (.lst [.int 0]) := upd_same
    generalize (upd H l1 (.lst [.int 0])) = H1 at s1 e1 ⊢
    refine ⟨_, rfl, a, _, 3, _, rfl, rfl, SqT.of (s1 _ _ hA), atI_nat (j := 3) rfl, aG, _, rfl, .inl (SqL.of (s1 _ _ hGl)), ?_⟩
    rw [hus.len]
    refine ⟨l1, _, _, rfl, rfl, e1, by omega, by omega, Nat.le_of_lt (small1000 (by rw [Int.toNat_natCast]; show 1 * n.gates.length ≤ 1000; omega)), fun L nL => ?_⟩
    have s2 := s1.trans (same_new (o := .lst (List.replicate ((n.gates.length : Int)).toNat [V.int 0]).flatten) nL)
    have e2 : (upd H1 L (.lst (List.replicate ((n.gates.length : Int)).toNat [V.int 0]).flatten)) L = some (.lst (vn (List.replicate n.gates.length 0))) := by
      rw [upd_same, rep_flat, Int.toNat_natCast]
      unfold vn
      rw [List.map_replicate]
      rfl
    have nL0 : H L = none := none_of s1 nL
    generalize (upd H1 L (.lst (List.replicate ((n.gates.length : Int)).toNat [V.int 0]).flatten)) = H2 at s2 e2 ⊢
    have g2 := Go.of d0 s2
    refine ⟨_, rfl, _, rfl, L, _, rfl, .inl (SqL.of e2), _, _, rfl, rfl, .inl ⟨by decide, by decide⟩, _, _, rfl, rfl, ?_⟩
    rw [vn_len, List.length_replicate]
    refine ⟨p, c, 4 * n.gates.length + 1, rfl, g2.b, by omega, by omega, fun H3 m g3 hm => ?_⟩
    refine ⟨_, rfl, by omega, by omega, for_range (n := m) (fun i σ Hx => ∃ (y3 y4 : Option V) (lg : List Nat), σ = [some (.ref p), some (.ref a), some (.ref L), y3, y4] ∧ Go p c H Hx ∧ Hx L = some (.lst (vn lg)) ∧ lg.length = n.gates.length) ⟨none, none, _, rfl, g2.trans g3, g3.get' d0 nL0 e2, List.length_replicate⟩ ?_ ?_⟩
    · rintro i σ Hx hi ⟨y3, y4, lg, rfl, gx, hL, hl⟩
      refine ⟨_, rfl, _, rfl, L, _, rfl, .inl (SqL.of hL), p, c, n.gates.length, by rw [vn_len, hl]; rfl, gx.b, by omega, by omega, fun H4 at_ g4 hat => ?_⟩
      have hL := g4.get' d0 nL0 hL
      have gx := gx.trans g4
      have hat2 : at_ < lg.length := by omega
      have hv := List.getElem?_eq_getElem hat2
      generalize lg[at_] = v at hv
      refine ⟨_, rfl, _, rfl, L, _, _, _, rfl, rfl, SqL.of hL, atI_nat (vn_get hv), _, _, rfl, rfl, _, rfl, _, rfl, L, _, _, at_, rfl, rfl, hL, ix_nat (by rw [vn_len]; exact hat2), ?_⟩
      have es : ∀ w : Nat, (vn lg).set at_ (V.int (w : Nat)) = vn (lg.set at_ w) := fun w => by
        unfold vn
        rw [List.map_set]
      have ev : (vn lg).set at_ (V.int (((v : Nat) : Int) + 1)) = vn (lg.set at_ (v + 1)) := es (v + 1)
      simp only [ev]
      have gy := gx.mut (o := .lst (vn (lg.set at_ (v + 1)))) nL0
      have hLy : (upd H4 L (.lst (vn (lg.set at_ (v + 1))))) L = some (.lst (vn (lg.set at_ (v + 1)))) := upd_same
      generalize (upd H4 L (.lst (vn (lg.set at_ (v + 1))))) = H5 at gy hLy ⊢
      have ly : (lg.set at_ (v + 1)).length = n.gates.length := by rw [List.length_set]; exact hl
      refine ⟨_, rfl, _, rfl, a, L, n, _, rfl, (hn0.same gy.s).up, hLy, ly, fb, fun b H6 s6 => ⟨_, rfl, ?_⟩⟩
      have gz := gy.more s6
      have hLz := s6 _ _ hLy
      cases b with
      | true => exact iteF ⟨_, _, _, rfl, gz, hLz, ly⟩
      | false =>
        have hat3 : at_ < (lg.set at_ (v + 1)).length := by omega
        have hv3 : (lg.set at_ (v + 1))[at_]? = some (v + 1) := List.getElem?_set_self hat2
        refine iteT ⟨_, rfl, _, rfl, L, _, _, _, rfl, rfl, SqL.of hLz, atI_nat (vn_get hv3), _, _, rfl, rfl, _, rfl, _, rfl, L, _, _, at_, rfl, rfl, hLz, ix_nat (by rw [vn_len]; exact hat3), ?_⟩
        have ev : (vn (lg.set at_ (v + 1))).set at_ (V.int (((v + 1 : Nat) : Int) - 1)) = vn ((lg.set at_ (v + 1)).set at_ v) := by
          rw [show ((v + 1 : Nat) : Int) - 1 = ((v : Nat) : Int) by omega]
          unfold vn
          simp only [List.map_set]
        simp only [ev]
        exact ⟨_, _, _, rfl, gz.mut nL0, upd_same, by rw [List.length_set]; exact ly⟩
    · rintro σ Hx ⟨y3, y4, lg, rfl, gx, hL, hl⟩
      exact ⟨_, rfl, q Hx L lg gx nL0 hL hl⟩

end K41
namespace K41
open PySem PySem.Spec PyProof.Rows L2 V0
/-! ### the law's own periods -/
def cnt (p : Nat → Bool) : List Nat → Nat
  | [] => 0
  | x :: l => (if p x = true then 1 else 0) + cnt p l
theorem cnt_le {p q : Nat → Bool} : ∀ {l : List Nat}, (∀ x ∈ l, p x = true → q x = true) → cnt p l ≤ cnt q l
  | [], _ => Nat.le_refl _
  | x :: l, h => by
    have ih := cnt_le fun y hy => h y (List.mem_cons_of_mem _ hy)
    unfold cnt
    by_cases c : p x = true
    · rw [if_pos c, if_pos (h x List.mem_cons_self c)]
      omega
    · rw [if_neg c]
      omega
theorem cnt_lt {p q : Nat → Bool} {y : Nat} : ∀ {l : List Nat}, (∀ x ∈ l, p x = true → q x = true) → y ∈ l → p y = false → q y = true → cnt p l < cnt q l
  | x :: l, h, m, h1, h2 => by
    have le := cnt_le fun z hz => h z (List.mem_cons_of_mem _ hz)
    unfold cnt
    rcases List.mem_cons.mp m with rfl | m
    · rw [h1, h2, if_neg Bool.false_ne_true, if_pos rfl]
      omega
    · have ih := cnt_lt (fun z hz => h z (List.mem_cons_of_mem _ hz)) m h1 h2
      by_cases c : p x = true
      · rw [if_pos c, if_pos (h x List.mem_cons_self c)]
        omega
      · rw [if_neg c]
        omega
theorem cnt_all : ∀ {p : Nat → Bool} (l : List Nat), cnt p l ≤ l.length
  | _, [] => Nat.le_refl _
  | p, x :: l => by
    have := cnt_all (p := p) l
    unfold cnt
    show _ ≤ l.length + 1
    split <;> omega
/-- how many gates lie lower -/
def rank (n : Net) (lg : List Nat) (k : Nat) : Nat := cnt (fun j => decide (msr n lg (n.base + j) < msr n lg (n.base + k))) (List.range n.gates.length)
theorem rank_lt {n : Net} {lg : List Nat} {j k : Nat} (hj : j < n.gates.length) (h : msr n lg (n.base + j) < msr n lg (n.base + k)) : rank n lg j < rank n lg k := by
  refine cnt_lt (y := j) (fun x _ hx => decide_eq_true (Nat.lt_trans (of_decide_eq_true hx) h)) (List.mem_range.mpr hj) (decide_eq_false (Nat.lt_irrefl _)) (decide_eq_true h)
theorem rank_all {n : Net} {lg : List Nat} {k : Nat} : rank n lg k ≤ n.gates.length := by
  have := cnt_all (p := fun j => decide (msr n lg (n.base + j) < msr n lg (n.base + k))) (List.range n.gates.length)
  rw [List.length_range] at this
  exact this
def gd (ds : List Nat) (k : Nat) : Nat := ds[k]?.getD 0
theorem gd_get {ds : List Nat} {k : Nat} (h : k < ds.length) : ds[k]? = some (gd ds k) := by
  unfold gd
  rw [List.getElem?_eq_getElem h]
  rfl
theorem gd_set {ds : List Nat} {k j v : Nat} (h : k < ds.length) : gd (ds.set k v) j = if j = k then v else gd ds j := by
  unfold gd
  by_cases c : j = k
  · subst c
    rw [if_pos rfl, List.getElem?_set_self h]
    rfl
  · rw [if_neg c, List.getElem?_set_ne (fun z => c z.symm)]
structure DI (n : Net) (lg ds : List Nat) : Prop where
  len : ds.length = n.gates.length
  lo : ∀ k, k < n.gates.length → 1 ≤ gd ds k
  hi : ∀ k, k < n.gates.length → gd ds k ≤ dep n lg (n.base + k)
def Ex (n : Net) (lg ds : List Nat) (P : Nat → Prop) : Prop := ∀ k, k < n.gates.length → P k → gd ds k = dep n lg (n.base + k)
section
variable {n : Net} {lg ds : List Nat} {k x : Nat} {gt : Nat × Nat}
theorem src_dep (fb : Fb n) (hgt : n.gates[k]? = some gt) (hx : x = gt.1 ∨ x = gt.2) (hs : isSrc n lg (n.base + k) x = true) :
    (orig n x).1 / 2 - n.base < n.gates.length ∧ n.base + ((orig n x).1 / 2 - n.base) = (orig n x).1 / 2 ∧ dep n lg ((orig n x).1 / 2) + 1 ≤ dep n lg (n.base + k) ∧ rank n lg ((orig n x).1 / 2 - n.base) < rank n lg k := by
  have kl := (List.getElem?_eq_some_iff.mp hgt).1
  have gN : n.base + k ∈ gns n := gns_mem.mpr ⟨by omega, by unfold Net.many; omega⟩
  have um : (orig n x).1 / 2 ∈ srcs n lg (n.base + k) := by
    rw [srcs_at hgt]
    exact src_in hx hs
  have g := gr_net (lg := lg) fb
  have uN := gns_mem.mp (g.dn _ gN _ um)
  have lt := g.lt _ gN _ um
  have e : n.base + ((orig n x).1 / 2 - n.base) = (orig n x).1 / 2 := by omega
  have ul : (orig n x).1 / 2 - n.base < n.gates.length := by
    have := uN.2
    unfold Net.many at this
    omega
  refine ⟨ul, e, ?_, rank_lt ul (by rw [e]; exact lt)⟩
  rw [dep_eq fb gN]
  have := mx_le (List.mem_map.mpr ⟨_, um, rfl⟩ : dep n lg ((orig n x).1 / 2) ∈ (srcs n lg (n.base + k)).map (dep n lg))
  omega
/-- the depth of gate k is told when all its sources are counted -/
theorem told_dep (fb : Fb n) (di : DI n lg ds) (hgt : n.gates[k]? = some gt) (h : ∀ x, (x = gt.1 ∨ x = gt.2) → isSrc n lg (n.base + k) x = true → dep n lg ((orig n x).1 / 2) + 1 ≤ gd ds k) : gd ds k = dep n lg (n.base + k) := by
  have kl := (List.getElem?_eq_some_iff.mp hgt).1
  have gN : n.base + k ∈ gns n := gns_mem.mpr ⟨by omega, by unfold Net.many; omega⟩
  refine Nat.le_antisymm (di.hi k kl) ?_
  rw [dep_eq fb gN]
  have lo := di.lo k kl
  have : mx ((srcs n lg (n.base + k)).map (dep n lg)) ≤ gd ds k - 1 := by
    refine mx_ub fun d hd => ?_
    obtain ⟨u, hu, rfl⟩ := List.mem_map.mp hd
    rw [srcs_at hgt] at hu
    obtain ⟨x, h1, h2, rfl⟩ := src_of hu
    have := h x h1 h2
    omega
  omega
theorem DI.put (fb : Fb n) (di : DI n lg ds) (hgt : n.gates[k]? = some gt) (hx : x = gt.1 ∨ x = gt.2) (hs : isSrc n lg (n.base + k) x = true) :
    DI n lg (ds.set k (max (gd ds k) (gd ds ((orig n x).1 / 2 - n.base) + 1))) := by
  have kl := (List.getElem?_eq_some_iff.mp hgt).1
  have kd : k < ds.length := by rw [di.len]; exact kl
  obtain ⟨ul, e, dd, _⟩ := src_dep fb hgt hx hs
  have hu := di.hi _ ul
  rw [e] at hu
  refine ⟨by rw [List.length_set]; exact di.len, fun j hj => ?_, fun j hj => ?_⟩
  · rw [gd_set kd]
    split
    · have := di.lo k kl
      exact Nat.le_trans this (Nat.le_max_left _ _)
    · exact di.lo j hj
  · rw [gd_set kd]
    split
    · rename_i c
      subst c
      exact Nat.max_le.mpr ⟨di.hi _ kl, by omega⟩
    · exact di.hi j hj
theorem Ex.put {P : Nat → Prop} (fb : Fb n) (di : DI n lg ds) (ex : Ex n lg ds P) (hgt : n.gates[k]? = some gt) (hx : x = gt.1 ∨ x = gt.2) (hs : isSrc n lg (n.base + k) x = true) :
    Ex n lg (ds.set k (max (gd ds k) (gd ds ((orig n x).1 / 2 - n.base) + 1))) P := fun j hj pj => by
  have kl := (List.getElem?_eq_some_iff.mp hgt).1
  have kd : k < ds.length := by rw [di.len]; exact kl
  have d2 := (di.put fb hgt hx hs).hi j hj
  have e := ex j hj pj
  rw [gd_set kd] at d2 ⊢
  by_cases c : j = k
  · subst c
    rw [if_pos rfl] at d2 ⊢
    have := Nat.le_max_left (gd ds j) (gd ds ((orig n x).1 / 2 - n.base) + 1)
    omega
  · rw [if_neg c]
    exact e
end
theorem per_of {n : Net} {lg ds : List Nat} (l : ds.length = n.gates.length) (ex : Ex n lg ds fun _ => True) : per n lg = mx ds := by
  unfold per
  congr 1
  refine List.ext_getElem? fun i => ?_
  by_cases h : i < n.gates.length
  · rw [List.getElem?_map, gns_get h, gd_get (by rw [l]; exact h), ex i h trivial]
    rfl
  · rw [List.getElem?_eq_none (by rw [List.length_map, gns_len]; omega), List.getElem?_eq_none (by omega)]
theorem mx_eq' {l : List Nat} {m : Int} (h : m ∈ (l ++ [0]).map fun (x : Nat) => (x : Int)) (u : ∀ y, y ∈ (l ++ [0]).map (fun (x : Nat) => (x : Int)) → y ≤ m) : m = ((mx l : Nat) : Int) := by
  have iff : ∀ y : Int, y ∈ (0 :: l).map (fun (x : Nat) => (x : Int)) ↔ y ∈ (l ++ [0]).map (fun (x : Nat) => (x : Int)) := fun y => by
    simp only [List.mem_map, List.mem_cons, List.mem_append, List.not_mem_nil, or_false]
    constructor
    · rintro ⟨x, h | h, e⟩
      · exact ⟨x, .inr h, e⟩
      · exact ⟨x, .inl h, e⟩
    · rintro ⟨x, h | h, e⟩
      · exact ⟨x, .inr h, e⟩
      · exact ⟨x, .inl h, e⟩
  exact mx_eq ((iff m).mpr h) fun y hy => u y ((iff y).mp hy)

end K41
namespace K41
open PySem PySem.Spec PyProof.Rows L2 V0
def sp__law_period (K : PySem.W.Frag) : Sp := fun vs H Q _ => ∃ (a l : Nat) (n : Net) (lg : List Nat), vs = [.ref a, .ref l] ∧ Dv H (.ref a) n ∧ H l = some (.lst (vn lg)) ∧ lg.length = n.gates.length ∧ Fb n ∧ ∀ H', Same H H' → Q (.int (per n lg : Nat)) H'
theorem ok__law_period {P : Program} {w : World} {K : PySem.W.Frag} {mg : Str → Option Value} {base : Heap} {C_Wires : Addr} {f f_law_origin f_law_lag : Addr} {fd fd_law_origin fd_law_lag : FuncData} (F : Fun K "_law_period" "_law_period" s__law_period f fd) (T : Txt K mg C_Wires)
    (G__law_origin : FnOk P w K mg base CX0 3 f_law_origin fd_law_origin ["net", "literal"] (sp__law_origin K)) (D__law_origin : Def K mg "_law_origin" f_law_origin fd_law_origin ["net", "literal"])
    (G__law_lag : FnOk P w K mg base CX0 1 f_law_lag fd_law_lag ["net", "lags", "literal"] (sp__law_lag K)) (D__law_lag : Def K mg "_law_lag" f_law_lag fd_law_lag ["net", "lags", "literal"]) :
    FnOk P w K mg base CX0 4 f fd ["net", "lags"] (sp__law_period K) := by
  refine F.ok sc_law_period (fun vs H Q E h => ?_) (fun cdv A outer s H vs Q E hr h => ?_)
  · obtain ⟨a, l, n, lg, rfl, _⟩ := h
    rfl
  · obtain ⟨a, l, n, lg, rfl, hn, hll, hl, fb, q⟩ := h
    have hn0 := hn
    obtain ⟨_, aS, aG, aN, aO, e, hA, hS, hG, hN, hO⟩ := hn.net_inv
    cases e
    obtain ⟨_, us, e, hGl, hus⟩ := hG.list_inv
    cases e
    obtain ⟨_, e, hS⟩ := hS.natl_inv
    cases e
    have few := fb.few
    have eb : n.many = n.base + n.gates.length := rfl
    refine ⟨_, (pss_cons (ps_set (i := 2) sc_law_period.nd rfl (.inl rfl) (pe_op op_add (pe_op op_add pe_int (pe_ix (r := rIxT K) ix_tup (pv 0) pe_int (fun _ _ => rfl))) (pe_callB call_len_seq (by rfl) T.m_len (by decide +kernel) (pa_cons (pe_ix (r := rIxT K) ix_tup (pv 0) pe_int (fun _ _ => rfl)) pa_nil))))
      (pss_cons (ps_set (i := 3) sc_law_period.nd rfl (.inl rfl) (pe_op op_rep (pe_lst (pa_cons pe_int pa_nil)) (pe_callB call_len_seq (by rfl) T.m_len (by decide +kernel) (pa_cons (pe_ix (r := rIxT K) ix_tup (pv 0) pe_int (fun _ _ => rfl)) pa_nil))))
      (pss_cons (ps_for PassesOwn.never rfl (pi_range1 rfl T.m_range (pa_cons (pe_op op_add (pe_callB call_len_seq (by rfl) T.m_len (by decide +kernel) (pa_cons (pe_ix (r := rIxT K) ix_tup (pv 0) pe_int (fun _ _ => rfl)) pa_nil)) pe_int) pa_nil)) (pg_name (i := 4) sc_law_period.nd rfl (Or.inl rfl)) (pss_one (ps_for PassesOwn.never rfl (pi_range1 rfl T.m_range (pa_cons (pe_callB call_len_seq (by rfl) T.m_len (by decide +kernel) (pa_cons (pe_ix (r := rIxT K) ix_tup (pv 0) pe_int (fun _ _ => rfl)) pa_nil)) pa_nil)) (pg_name (i := 5) sc_law_period.nd rfl (Or.inl rfl)) (pss_one (ps_for PassesOwn.never rfl (pi_tup (pe_ix (r := rIxL K) ix_list (pe_ix (r := rIxT K) ix_tup (pv 0) pe_int (fun _ _ => rfl)) (pv 5) (fun _ _ => rfl))) (pg_name (i := 6) sc_law_period.nd rfl (Or.inl rfl)) (pss_cons (ps_asg (pe_call G__law_origin (hr.mono (by omega)) (by rfl) D__law_origin.m D__law_origin.k D__law_origin.b .nil pass0 (pa_cons (pv 0) (pa_cons (pv 6) pa_nil))) (pg_tup (by rfl) (pgs_cons (pg_name (i := 7) sc_law_period.nd rfl (Or.inl rfl)) (pgs_cons (pg_name (i := 8) sc_law_period.nd rfl (Or.inl rfl)) (pgs_cons (pg_name (i := 9) sc_law_period.nd rfl (Or.inl rfl)) pgs_nil)))))
      (pss_one (ps_if (PW.pt (pw_and (pt_cmpR op_ge (pe_op op_fdivN (pv 7) pe_int) (pv 2) (nomark _)) (pw_and1 (pt_cmpR op_eq (pe_op op_add (pv 8) (pe_call G__law_lag (hr.mono (by omega)) (by rfl) D__law_lag.m D__law_lag.k D__law_lag.b .nil pass0 (pa_cons (pv 0) (pa_cons (pv 1) (pa_cons (pv 7) pa_nil))))) (pe_ix (r := rIxL K) ix_list (pv 1) (pv 5) (fun _ _ => rfl)) (nomark _))))) (pss_one (ps_asg (pe_callB (call_max2 (by rfl)) (by rfl) T.m_max (by decide +kernel) (pa_cons (pe_ix (r := rIxL K) ix_list (pv 3) (pv 5) (fun _ _ => rfl)) (pa_cons (pe_op op_add (pe_ix (r := rIxL K) ix_list (pv 3) (pe_op op_sub (pe_op op_fdivN (pv 7) pe_int) (pv 2)) (fun _ _ => rfl)) pe_int) pa_nil))) (pg_sub (pv 3) (pv 5) set_list))) pss_nil))))))))
      (pss_one (ps_ret (pe_ifExp (pt_cmpR op_gt (pe_callB call_len_seq (by rfl) T.m_len (by decide +kernel) (pa_cons (pv 3) pa_nil)) pe_int (nomark _)) (pe_callB (cr_max rfl) (by rfl) T.m_max (by decide +kernel) (pa_cons (pe_op op_cat (pv 3) (pe_lst (pa_cons pe_int pa_nil))) pa_nil)) pe_int)))))), ?_⟩
    refine ⟨_, rfl, a, _, 1, _, rfl, rfl, SqT.of hA, atI_nat (j := 1) rfl, _, _, rfl, rfl, _, rfl, a, _, 2, _, rfl, rfl, SqT.of hA, atI_nat (j := 2) rfl, aS, _, rfl, .inl (SqL.of hS), _, _, rfl, rfl, ?_⟩
    have ef : V.int ((1 : Int) + (n.ins : Int) + ((vn n.starts).length : Int)) = V.int ((n.base : Nat) : Int) := by
      rw [vn_len]
      rfl
    simp only [ef]
    refine ⟨by show 1 ≤ sizeLine; decide, fun l1 n1 => ?_⟩
    have s1 := same_new (o := .lst [.int 1]) n1
    have e1 : (upd H l1 (.lst [.int 1])) l1 = some (.lst [.int 1]) := upd_same
    generalize (upd H l1 (.lst [.int 1])) = H1 at s1 e1 ⊢
    refine ⟨_, rfl, a, _, 3, _, rfl, rfl, SqT.of (s1 _ _ hA), atI_nat (j := 3) rfl, aG, _, rfl, .inl (SqL.of (s1 _ _ hGl)), ?_⟩
    rw [hus.len]
    refine ⟨l1, _, _, rfl, rfl, e1, by omega, by omega, Nat.le_of_lt (small1000 (by rw [Int.toNat_natCast]; show 1 * n.gates.length ≤ 1000; omega)), fun L nL => ?_⟩
    have s2 := s1.trans (same_new (o := .lst (List.replicate ((n.gates.length : Int)).toNat [V.int 1]).flatten) nL)
    have e2 : (upd H1 L (.lst (List.replicate ((n.gates.length : Int)).toNat [V.int 1]).flatten)) L = some (.lst (vn (List.replicate n.gates.length 1))) := by
      rw [upd_same, rep_flat, Int.toNat_natCast]
      unfold vn
      rw [List.map_replicate]
      rfl
    have nL0 : H L = none := none_of s1 nL
    generalize (upd H1 L (.lst (List.replicate ((n.gates.length : Int)).toNat [V.int 1]).flatten)) = H2 at s2 e2 ⊢
    have di0 : DI n lg (List.replicate n.gates.length 1) := by
      have one : ∀ k, k < n.gates.length → gd (List.replicate n.gates.length 1) k = 1 := fun k hk => by
        unfold gd
        rw [List.getElem?_replicate, if_pos hk]
        rfl
      refine ⟨List.length_replicate, fun k hk => by rw [one k hk]; exact Nat.le_refl 1, fun k hk => ?_⟩
      rw [one k hk, dep_eq fb (gns_mem.mpr ⟨by omega, by omega⟩)]
      omega
    refine ⟨_, rfl, a, _, 3, _, rfl, rfl, SqT.of (s2 _ _ hA), atI_nat (j := 3) rfl, aG, _, rfl, .inl (SqL.of (s2 _ _ hGl)), _, _, rfl, rfl, ?_⟩
    rw [hus.len]
    refine ⟨_, rfl, by omega, by omega, ?_⟩
    rw [show ((n.gates.length : Int) + 1).toNat = n.gates.length + 1 by omega]
    refine for_range (n := n.gates.length + 1) (fun t σ Hx => ∃ (y4 y5 y6 y7 y8 y9 : Option V) (ds : List Nat), σ = [some (.ref a), some (.ref l), some (.int (n.base : Nat)), some (.ref L), y4, y5, y6, y7, y8, y9] ∧ Same H Hx ∧ Hx L = some (.lst (vn ds)) ∧ DI n lg ds ∧ Ex n lg ds (fun k => rank n lg k < t)) ⟨none, none, none, none, none, none, _, rfl, s2, e2, di0, fun k _ h => absurd h (Nat.not_lt_zero _)⟩ ?_ ?_
    · rintro t σ Hx ht ⟨y4, y5, y6, y7, y8, y9, ds, rfl, sx, hL, di, ex⟩
      refine ⟨_, rfl, a, _, 3, _, rfl, rfl, SqT.of (sx _ _ hA), atI_nat (j := 3) rfl, aG, _, rfl, .inl (SqL.of (sx _ _ hGl)), ?_⟩
      rw [hus.len]
      refine ⟨_, rfl, by omega, by omega, for_range (n := n.gates.length) (fun i σ Hy => ∃ (y4 y5 y6 y7 y8 y9 : Option V) (ds : List Nat), σ = [some (.ref a), some (.ref l), some (.int (n.base : Nat)), some (.ref L), y4, y5, y6, y7, y8, y9] ∧ Same H Hy ∧ Hy L = some (.lst (vn ds)) ∧ DI n lg ds ∧ Ex n lg ds (fun k => rank n lg k < t) ∧ Ex n lg ds (fun k => k < i ∧ rank n lg k < t + 1)) ⟨_, _, _, _, _, _, _, rfl, sx, hL, di, ex, fun k _ h => absurd h.1 (Nat.not_lt_zero _)⟩ ?_ ?_⟩
      · clear sx hL di ex
        rintro i σ Hy hi ⟨y4, y5, y6, y7, y8, y9, ds, rfl, sx, hL, di, ex, ex2⟩
        have hgt := List.getElem?_eq_getElem hi
        generalize n.gates[i] = gt at hgt
        obtain ⟨v, hv, hd⟩ := hus.get hgt
        obtain ⟨tp, u1, u2, rfl, htp, h1, h2⟩ := hd.pair_inv
        have h1 := h1.nat_inv
        have h2 := h2.nat_inv
        subst h1 h2
        have gb := fb.g i gt hgt
        rw [Int.zero_add]
        refine ⟨_, rfl, a, _, 3, _, rfl, rfl, SqT.of (sx _ _ hA), atI_nat (j := 3) rfl, _, rfl, aG, _, _, _, rfl, rfl, SqL.of (sx _ _ hGl), atI_nat hv, ?_⟩
        refine ⟨tp, rfl, ⟨_, SqT.of (sx _ _ htp)⟩, for_tup (xs := [.int (gt.1 : Nat), .int (gt.2 : Nat)]) (fun j σ Hz => ∃ (y6 y7 y8 y9 : Option V) (ds : List Nat), σ = [some (.ref a), some (.ref l), some (.int (n.base : Nat)), some (.ref L), y4, some (.int (i : Nat)), y6, y7, y8, y9] ∧ Same H Hz ∧ Hz L = some (.lst (vn ds)) ∧ DI n lg ds ∧ Ex n lg ds (fun k => rank n lg k < t) ∧ Ex n lg ds (fun k => k < i ∧ rank n lg k < t + 1) ∧ (rank n lg i < t + 1 → ∀ m x, m < j → [gt.1, gt.2][m]? = some x → isSrc n lg (n.base + i) x = true → dep n lg ((orig n x).1 / 2) + 1 ≤ gd ds i)) ⟨_, _, _, _, _, rfl, sx, hL, di, ex, ex2, fun _ m x h => absurd h (Nat.not_lt_zero _)⟩ (fun j σ Hz _ ⟨_, _, _, _, _, _, s', _⟩ => SqT.of (s' _ _ htp)) ?_ ?_⟩
        · clear sx hL di ex ex2
          rintro j v σ Hz hv ⟨y6, y7, y8, y9, ds, rfl, sz, hL, di, ex, ex2, cv⟩
          obtain ⟨x, rfl, hx, xg, ex0⟩ : ∃ x : Nat, v = V.int (x : Nat) ∧ x < 2 * n.many ∧ (x = gt.1 ∨ x = gt.2) ∧ [gt.1, gt.2][j]? = some x := by
            have hj : j = 0 ∨ j = 1 := by
              have h : j < 2 := (List.getElem?_eq_some_iff.mp hv).1
              omega
            rcases hj with rfl | rfl
            · cases hv
              exact ⟨gt.1, rfl, by omega, .inl rfl, rfl⟩
            · cases hv
              exact ⟨gt.2, rfl, by omega, .inr rfl, rfl⟩
          refine ⟨_, rfl, _, rfl, a, n, x, rfl, hn0.same sz, fb.fl, fun H3 v s3 ot => ?_⟩
          obtain ⟨t2, l2, rfl, ht2, hl2⟩ := ot
          have hL := s3 _ _ hL
          have s3 := sz.trans s3
          have ol := orig_lt fb hx
          refine ⟨t2, _, rfl, SqT.of ht2, rfl, _, _, rfl, _, _, rfl, _, _, rfl, rfl, ?_⟩
          refine ⟨_, rfl, _, _, rfl, rfl, ⟨by decide, by decide⟩, _, rfl, _, _, rfl, rfl, _, rfl, ?_⟩
          rw [show decide ((((orig n x).1 : Nat) : Int).fdiv 2 ≥ ((n.base : Nat) : Int)) = decide (n.base ≤ (orig n x).1 / 2) from decide_eq_decide.mpr (by rw [nfdiv2]; omega)]
          -- nothing to count
          have skip : isSrc n lg (n.base + i) x = false → (rank n lg i < t + 1 → ∀ m x', m < j + 1 → [gt.1, gt.2][m]? = some x' → isSrc n lg (n.base + i) x' = true → dep n lg ((orig n x').1 / 2) + 1 ≤ gd ds i) := fun no r m x' hm e1 e2 => by
            by_cases c : m < j
            · exact cv r m x' c e1 e2
            · have : m = j := by omega
              subst this
              rw [ex0] at e1
              cases e1
              rw [no] at e2
              cases e2
          by_cases c1 : n.base ≤ (orig n x).1 / 2
          · rw [decide_eq_true c1]
            refine iteT ⟨_, rfl, _, rfl, _, rfl, _, rfl, a, l, _, n, lg, rfl, hn0.same s3, s3 _ _ hll, hl, ol, _, _, rfl, rfl, _, rfl, _, rfl, l, _, _, _, rfl, rfl, SqL.of (s3 _ _ hll), atI_nat (vn_get (lag_gate hl hi)), rfl, _, rfl, ?_⟩
            rw [V0.dec_int]
            by_cases c2 : (((orig n x).2.length : Nat) : Int) + ((lagN n lg ((orig n x).1 / 2) : Nat) : Int) = ((lagN n lg (n.base + i) : Nat) : Int)
            · rw [decide_eq_true c2]
              have is : isSrc n lg (n.base + i) x = true := by
                unfold isSrc wt
                rw [decide_eq_true c1, decide_eq_true (by omega)]
                rfl
              obtain ⟨ul, eu, dd, rk⟩ := src_dep fb hgt xg is
              have id : i < ds.length := by rw [di.len]; exact hi
              have ud : (orig n x).1 / 2 - n.base < ds.length := by rw [di.len]; exact ul
              refine iteT ⟨_, rfl, _, rfl, L, _, _, _, rfl, rfl, SqL.of hL, atI_nat (vn_get (gd_get id)), _, rfl, _, rfl, _, _, rfl, rfl, ⟨by decide, by decide⟩, _, rfl, _, _, rfl, rfl, L, _, _, _, rfl, rfl, SqL.of hL, (by rw [nfdiv2, show (((orig n x).1 / 2 : Nat) : Int) - ((n.base : Nat) : Int) = (((orig n x).1 / 2 - n.base : Nat) : Int) by omega]; exact atI_nat (vn_get (gd_get ud))), _, _, rfl, rfl, _, _, rfl, ?_⟩
              have em : V.int (if ((gd ds ((orig n x).1 / 2 - n.base) : Nat) : Int) + 1 > ((gd ds i : Nat) : Int) then ((gd ds ((orig n x).1 / 2 - n.base) : Nat) : Int) + 1 else ((gd ds i : Nat) : Int)) = V.int ((max (gd ds i) (gd ds ((orig n x).1 / 2 - n.base) + 1) : Nat) : Int) := by
                congr 1
                split
                · rw [Nat.max_eq_right (by omega)]
                  omega
                · rw [Nat.max_eq_left (by omega)]
              simp only [em]
              refine ⟨_, rfl, _, rfl, L, _, _, i, rfl, rfl, hL, ix_nat (by rw [vn_len]; exact id), ?_⟩
              have es : (vn ds).set i (V.int ((max (gd ds i) (gd ds ((orig n x).1 / 2 - n.base) + 1) : Nat) : Int)) = vn (ds.set i (max (gd ds i) (gd ds ((orig n x).1 / 2 - n.base) + 1))) := by
                unfold vn
                rw [List.map_set]
              rw [es]
              refine ⟨_, _, _, _, _, rfl, same_mut s3 nL0, upd_same, di.put fb hgt xg is, ex.put fb di hgt xg is, ex2.put fb di hgt xg is, fun r m x' hm e1 e2 => ?_⟩
              rw [gd_set id, if_pos rfl]
              by_cases c : m < j
              · exact Nat.le_trans (cv r m x' c e1 e2) (Nat.le_max_left _ _)
              · have : m = j := by omega
                subst this
                rw [ex0] at e1
                cases e1
                have := ex _ ul (by show rank n lg _ < t; omega)
                rw [eu] at this
                rw [← this]
                exact Nat.le_max_right _ _
            · rw [decide_eq_false c2]
              refine iteF ⟨_, _, _, _, ds, rfl, s3, hL, di, ex, ex2, skip ?_⟩
              unfold isSrc wt
              rw [decide_eq_false (by omega)]
              rfl
          · rw [decide_eq_false c1]
            refine iteF ⟨_, _, _, _, ds, rfl, s3, hL, di, ex, ex2, skip ?_⟩
            unfold isSrc
            rw [decide_eq_false c1, Bool.and_false]
        · rintro σ Hz ⟨y6, y7, y8, y9, ds, rfl, sz, hL, di, ex, ex2, cv⟩
          refine ⟨_, _, _, _, _, _, ds, rfl, sz, hL, di, ex, fun k hk hp => ?_⟩
          by_cases c : k < i
          · exact ex2 k hk ⟨c, hp.2⟩
          · have : k = i := by
              have := hp.1
              omega
            subst this
            refine told_dep fb di hgt fun x hx hs => ?_
            rcases hx with rfl | rfl
            · exact cv hp.2 0 _ (by show 0 < 2; decide) rfl hs
            · exact cv hp.2 1 _ (by show 1 < 2; decide) rfl hs
      · rintro σ Hy ⟨y4, y5, y6, y7, y8, y9, ds, rfl, sx, hL, di, ex, ex2⟩
        exact ⟨_, _, _, _, _, _, ds, rfl, sx, hL, di, fun k hk hp => ex2 k hk ⟨hk, hp⟩⟩
    · rintro σ Hx ⟨y4, y5, y6, y7, y8, y9, ds, rfl, sx, hL, di, ex⟩
      have ep : per n lg = mx ds := per_of di.len fun k hk _ => ex k hk (by have := rank_all (n := n) (lg := lg) (k := k); show rank n lg k < n.gates.length + 1; omega)
      refine ⟨_, rfl, L, _, rfl, .inl (SqL.of hL), _, _, rfl, rfl, _, rfl, ?_⟩
      rw [vn_len]
      by_cases c : 0 < ds.length
      · rw [decide_eq_true (show ((ds.length : Nat) : Int) > 0 by omega)]
        refine iteT ⟨_, rfl, by show 1 ≤ sizeLine; decide, fun l0 n0 => ?_⟩
        have s3 := same_new (o := .lst [.int 0]) n0
        have e0 : (upd Hx l0 (.lst [.int 0])) l0 = some (.lst [.int 0]) := upd_same
        have hL := s3 _ _ hL
        have s3 := sx.trans s3
        generalize (upd Hx l0 (.lst [.int 0])) = H3 at s3 e0 hL ⊢
        refine ⟨L, l0, _, _, rfl, rfl, hL, e0, Nat.le_of_lt (small64k (by rw [vn_len, di.len]; show _ + 1 ≤ _; omega)), fun r nr => ?_⟩
        refine ⟨r, (ds ++ [0]).map fun (x : Nat) => (x : Int), rfl, SqL.of (by rw [upd_same, ← vn_map]; unfold vn; rw [List.map_append]; rfl), by simp, fun m hm hu => ?_⟩
        have e := mx_eq' hm hu
        subst e
        rw [← ep]
        exact q _ (s3.trans (same_new nr))
      · rw [decide_eq_false (show ¬ ((ds.length : Nat) : Int) > 0 by omega)]
        refine iteF ?_
        have : ds = [] := List.length_eq_zero_iff.mp (by omega)
        subst this
        have h := q _ sx
        rw [ep] at h
        exact h

end K41
namespace K41
open PySem PySem.Spec PyProof.Rows L2 V0
structure Org where
  a : Nat
  k : Nat
  l : List Nat
  deriving DecidableEq
instance : PySem.W.Datum Org where
  toD n := .tuple [PySem.W.Datum.toD n.a, PySem.W.Datum.toD n.k, PySem.W.Datum.toD n.l]
  plain n := by simp only [PyData.plain, PyData.plainAll, PySem.W.Datum.plain, Bool.and_self]
  eqv a b := by
    simp only [PyData.eqv, PyData.eqvAll, PySem.W.Datum.eqv, Bool.and_true]
    rw [← Bool.decide_and, ← Bool.decide_and]
    refine decide_eq_decide.mpr ⟨fun ⟨h0, h1, h2⟩ => ?_, fun e => by rw [e]; exact ⟨rfl, rfl, rfl⟩⟩
    cases a
    cases b
    simp only at h0 h1 h2
    rw [h0, h1, h2]
  depth := 2
  depth_le n := by
    have h0 := PySem.W.Datum.depth_le n.a
    have h1 := PySem.W.Datum.depth_le n.k
    have h2 := PySem.W.Datum.depth_le n.l
    have e1 : PySem.W.Datum.depth Nat = 0 := rfl
    have e2 : PySem.W.Datum.depth (List Nat) = 1 := rfl
    rw [e1] at h0 h1
    rw [e2] at h2
    simp only [PyData.depth, PyData.depthAll]
    omega
instance : Dm Org where
  lay n := by
    have h0 := Dm.lay n.a
    have h1 := Dm.lay n.k
    have h2 := Dm.lay n.l
    simp only [PySem.W.Datum.toD] at h0 h1 h2 ⊢
    simp only [PyData.canLay0, PyData.canLayAll0, Bool.and_true] at h0 h1 h2 ⊢
    rw [h2]
    decide
theorem ot_dv {H : Hp} {v : V} {o : Nat × List Nat} (h : OT H v o) : Dv H v (Org.mk o.1 o.2.length o.2) := by
  obtain ⟨t, l, rfl, h1, h2⟩ := h
  exact Dh.tup h1 (.cons (Dv.nat o.1) (.cons (Dv.nat o.2.length) (.cons (Dv.natl h2) .nil)))
theorem net_small {n : Net} (h1 : n.ins ≤ 10) (h2 : n.starts.length ≤ 10) (h3 : ∀ b ∈ n.starts, b < 2) (h4 : n.gates.length ≤ 10) (h5 : ∀ (j : Nat) (g : Nat × Nat), n.gates[j]? = some g → g.1 < 1000 ∧ g.2 < 1000) (h6 : n.nexts.length ≤ 10) (h7 : ∀ x ∈ n.nexts, x < 1000) (h8 : n.outs.length ≤ 10) (h9 : ∀ x ∈ n.outs, x < 1000) : ∃ m, m ≤ 2 ^ 20 ∧ Sm (PySem.W.Datum.toD n) m := by
  have hg : ∀ g ∈ n.gates, Sm (PySem.W.Datum.toD g) 82 := fun g hg => by
    obtain ⟨j, hj, e⟩ := List.getElem_of_mem hg
    have h := h5 j g (by rw [List.getElem?_eq_getElem hj, e])
    exact Sm.tup ((SmA.cons (Sm.nat (n := g.1) (by omega)) (SmA.cons (Sm.nat (n := g.2) (by omega)) SmA.nil)))
  have s0 : Sm (.str "net") 40 := ⟨by decide +kernel, by decide +kernel, by decide +kernel⟩
  have e1 := Sm.nat (n := n.ins) (by omega)
  have e2 := Sm.nats (xs := n.starts) fun x hx => by have := h3 x hx; omega
  have e3 := Sm.of_list hg
  have e4 := Sm.nats (xs := n.nexts) fun x hx => by have := h7 x hx; omega
  have e5 := Sm.nats (xs := n.outs) fun x hx => by have := h9 x hx; omega
  refine ⟨_, ?_, Sm.tup (SmA.cons s0 (SmA.cons e1 (SmA.cons e2 (SmA.cons e3 (SmA.cons e4 (SmA.cons e5 SmA.nil))))))⟩
  omega
def sp_law (K : PySem.W.Frag) : Sp := fun vs H Q _ => ∃ (a : Addr) (ns : List Int), vs = [.ref a] ∧ SqL K H a (ns.map V.int) ∧ ns.length ≤ 63 ∧ ∀ H', Q (.bl true) H'
theorem ok_law {P : Program} {w : World} {K : PySem.W.Frag} {mg : Str → Option Value} {base : Heap} {C_Wires : Addr} {f f_law_state f_law_net f_law_lags forigin f_law_origin fperiod f_law_period : Addr} {fd fd_law_state fd_law_net fd_law_lags fdorigin fd_law_origin fdperiod fd_law_period : FuncData} (F : Fun K "law" "law" s_law f fd) (T : Txt K mg C_Wires)
    (G__law_state : FnOk P w K mg base CX0 1 f_law_state fd_law_state ["script"] (sp__law_state K)) (D__law_state : Def K mg "_law_state" f_law_state fd_law_state ["script"])
    (G__law_net : FnOk P w K mg base CX0 3 f_law_net fd_law_net ["state", "ins", "flops", "most"] (sp__law_net K)) (D__law_net : Def K mg "_law_net" f_law_net fd_law_net ["state", "ins", "flops", "most"])
    (G__law_lags : FnOk P w K mg base CX0 5 f_law_lags fd_law_lags ["state", "net"] (sp__law_lags K)) (D__law_lags : Def K mg "_law_lags" f_law_lags fd_law_lags ["state", "net"])
    (G_origin : FnOk P w K mg base CX0 2 forigin fdorigin ["net", "literal"] (sp_origin K)) (D_origin : Def K mg "origin" forigin fdorigin ["net", "literal"])
    (G__law_origin : FnOk P w K mg base CX0 3 f_law_origin fd_law_origin ["net", "literal"] (sp__law_origin K)) (D__law_origin : Def K mg "_law_origin" f_law_origin fd_law_origin ["net", "literal"])
    (G_period : FnOk P w K mg base CX0 6 fperiod fdperiod ["net", "lags"] (sp_period K)) (D_period : Def K mg "period" fperiod fdperiod ["net", "lags"])
    (G__law_period : FnOk P w K mg base CX0 4 f_law_period fd_law_period ["net", "lags"] (sp__law_period K)) (D__law_period : Def K mg "_law_period" f_law_period fd_law_period ["net", "lags"]) :
    LawOk P w K mg base f fd ["script"] (sp_law K) := by
  refine lawOk F sclaw (k := 6) ⟨rfl, by decide, by decide⟩ (fun vs H Q E h => ?_) (fun cdv A outer s H vs Q E hr hgd h => ?_)
  · obtain ⟨a, ns, rfl, _⟩ := h
    rfl
  · obtain ⟨a, ns, rfl, hSc, hl, q⟩ := h
    refine ⟨_, (pss_cons (ps_set (i := 1) sclaw.nd rfl (.inl rfl) (pe_call G__law_state (hr.mono (by omega)) (by rfl) D__law_state.m D__law_state.k D__law_state.b .nil pass0 (pa_cons (pv 0) pa_nil)))
      (pss_cons (ps_set (i := 2) sclaw.nd rfl (.inl rfl) (pe_call G__law_net (hr.mono (by omega)) (by rfl) D__law_net.m D__law_net.k D__law_net.b .nil pass0 (pa_cons (pv 1) (pa_cons pe_int (pa_cons pe_int (pa_cons pe_int pa_nil))))))
      (pss_cons (ps_set (i := 3) sclaw.nd rfl (.inl rfl) (pe_callB (r := rRepr K) (call_reprD hgd hr.units) (by rfl) T.m_repr (by decide +kernel) (pa_cons (pv 2) pa_nil)))
      (pss_cons (ps_set (i := 4) sclaw.nd rfl (.inl rfl) (pe_op op_add (pe_op op_add (pe_op op_add pe_int (pe_ix (r := rIxT K) ix_tup (pv 2) pe_int (fun _ _ => rfl))) (pe_callB call_len_seq (by rfl) T.m_len (by decide +kernel) (pa_cons (pe_ix (r := rIxT K) ix_tup (pv 2) pe_int (fun _ _ => rfl)) pa_nil))) (pe_callB call_len_seq (by rfl) T.m_len (by decide +kernel) (pa_cons (pe_ix (r := rIxT K) ix_tup (pv 2) pe_int (fun _ _ => rfl)) pa_nil))))
      (pss_cons (ps_for PassesOwn.never rfl (pi_range1 rfl T.m_range (pa_cons (pe_op op_mul pe_int (pv 4)) pa_nil)) (pg_name (i := 5) sclaw.nd rfl (Or.inl rfl)) (pss_one (ps_if (pt_cmpR (op_neD hr.units) (pe_call G_origin (hr.mono (by omega)) (by rfl) D_origin.m D_origin.k D_origin.b .nil pass0 (pa_cons (pv 2) (pa_cons (pv 5) pa_nil))) (pe_call G__law_origin (hr.mono (by omega)) (by rfl) D__law_origin.m D__law_origin.k D__law_origin.b .nil pass0 (pa_cons (pv 2) (pa_cons (pv 5) pa_nil))) (nomark _)) (pss_one (ps_ret pe_bl)) pss_nil)))
      (pss_cons (ps_set (i := 6) sclaw.nd rfl (.inl rfl) (pe_call G__law_lags (hr.mono (by omega)) (by rfl) D__law_lags.m D__law_lags.k D__law_lags.b .nil pass0 (pa_cons (pv 1) (pa_cons (pv 2) pa_nil))))
      (pss_cons (ps_set (i := 7) sclaw.nd rfl (.inl rfl) (pe_op op_rep (pe_lst (pa_cons pe_int pa_nil)) (pe_callB call_len_seq (by rfl) T.m_len (by decide +kernel) (pa_cons (pv 6) pa_nil))))
      (pss_cons (ps_if (PW.pt (pw_or (pt_cmpR op_ne (pe_call G_period (hr.mono (by omega)) (by rfl) D_period.m D_period.k D_period.b .nil pass0 (pa_cons (pv 2) (pa_cons (pv 6) pa_nil))) (pe_call G__law_period (hr.mono (by omega)) (by rfl) D__law_period.m D__law_period.k D__law_period.b .nil pass0 (pa_cons (pv 2) (pa_cons (pv 6) pa_nil))) (nomark _)) (pw_or1 (pt_cmpR op_ne (pe_call G_period (hr.mono (by omega)) (by rfl) D_period.m D_period.k D_period.b .nil pass0 (pa_cons (pv 2) (pa_cons (pv 7) pa_nil))) (pe_call G__law_period (hr.mono (by omega)) (by rfl) D__law_period.m D__law_period.k D__law_period.b .nil pass0 (pa_cons (pv 2) (pa_cons (pv 7) pa_nil))) (nomark _))))) (pss_one (ps_ret pe_bl)) pss_nil)
      (pss_one (ps_ret (pe_cmpR op_eq (pe_callB (r := rRepr K) (call_reprD hgd hr.units) (by rfl) T.m_repr (by decide +kernel) (pa_cons (pv 2) pa_nil)) (pv 3) (nomark _)))))))))))), ?_⟩
    refine ⟨_, rfl, a, ns, rfl, hSc, hl, fun H1 p c s1 d1 => ?_⟩
    refine ⟨_, rfl, p, c, 2, 5, 8, rfl, d1, by decide, by decide, by decide, fun H2 qn n g2 nq dn ok => ?_⟩
    obtain ⟨_, aS, aG, aN, aO, e, hA, hS, hG, hN, hO⟩ := dn.net_inv
    cases e
    obtain ⟨_, us, e, hGl, hus⟩ := hG.list_inv
    cases e
    obtain ⟨_, e, hS⟩ := hS.natl_inv
    cases e
    have up := res_same p c H2
    have hA := up _ _ hA
    have hGl := up _ _ hGl
    have hS := up _ _ hS
    have b1 := ok.ins
    have b2 := ok.fl
    have b3 := ok.most
    have b4 := ok.nl
    have b5 := ok.ol
    have eb2 : n.base = 1 + n.ins + n.starts.length := rfl
    have eb : n.many = n.base + n.gates.length := rfl
    have fb : Fb n := ⟨⟨b4, by omega⟩, ok.g, ok.nx, by omega⟩
    obtain ⟨m, hm, small⟩ := net_small (n := n) (by omega) (by omega) ok.bits (by omega) (fun j g e => by
      have h := ok.g j g e
      have := (List.getElem?_eq_some_iff.mp e).1
      omega) (by omega) (fun x hx => by have := ok.nx x hx; omega) (by omega) (fun x hx => by have := ok.ox x hx; omega)
    have dn2 : Dv H2 (.ref qn) n := dn.up
    refine ⟨_, rfl, qn, _, rfl, dh_dp _ _ dn2, four n small hm (by decide), ?_⟩
    refine ⟨_, rfl, qn, _, 1, _, rfl, rfl, SqT.of hA, atI_nat (j := 1) rfl, _, _, rfl, rfl, _, rfl, qn, _, 2, _, rfl, rfl, SqT.of hA, atI_nat (j := 2) rfl, aS, _, rfl, .inl (SqL.of hS), _, _, rfl, rfl, _, rfl, qn, _, 3, _, rfl, rfl, SqT.of hA, atI_nat (j := 3) rfl, aG, _, rfl, .inl (SqL.of hGl), _, _, rfl, rfl, ?_⟩
    have em : V.int ((1 : Int) + (n.ins : Int) + ((vn n.starts).length : Int) + ((us.length : Nat) : Int)) = V.int ((n.many : Nat) : Int) := by
      rw [vn_len, hus.len]
      rfl
    simp only [em]
    refine ⟨_, rfl, _, _, rfl, rfl, .inl ⟨by decide, by decide⟩, _, rfl, by omega, by omega, ?_⟩
    rw [show ((2 : Int) * ((n.many : Nat) : Int)).toNat = 2 * n.many by omega]
    refine for_range (n := 2 * n.many) (fun i σ Hx => ∃ y5 : Option V, σ = [some (.ref a), some (.ref p), some (.ref qn), some (.str (txt n)), some (.int (n.many : Nat)), y5, none, none] ∧ Same H2 Hx) ⟨none, rfl, fun _ _ h => h⟩ ?_ ?_
    · rintro i σ Hx hi ⟨y5, rfl, sx⟩
      rw [Int.zero_add]
      refine ⟨_, rfl, _, rfl, qn, n, i, rfl, dn2.same sx, fb.fl, fun H3 v s3 o3 => ?_⟩
      have s3 := sx.trans s3
      refine ⟨_, rfl, _, rfl, qn, n, i, rfl, dn2.same s3, fb.fl, fun H4 w s4 o4 => ?_⟩
      refine neD (ot_dv (o3.same s4)) (ot_dv o4) (by decide) ⟨_, rfl, ?_⟩
      rw [decide_eq_true rfl]
      exact iteF ⟨_, rfl, s3.trans s4⟩
    rintro σ Hx ⟨y5, rfl, sx⟩
    have dx : Dr Hx p c := g2.b.same sx
    refine ⟨_, rfl, _, rfl, p, c, qn, n, rfl, dx, dn.same (V0.Same.res sx p c), fb, fun H5 r lg g5 nr er ll => ?_⟩
    have dn5 : Dv H5 (.ref qn) n := ((dn.same (V0.Same.res sx p c)).same g5.s).up
    refine ⟨by show 1 ≤ sizeLine; decide, fun l1 n1 => ?_⟩
    have s6 := same_new (o := .lst [.int 0]) n1
    have e6 : (upd H5 l1 (.lst [.int 0])) l1 = some (.lst [.int 0]) := upd_same
    generalize (upd H5 l1 (.lst [.int 0])) = H6 at s6 e6 ⊢
    refine ⟨_, rfl, r, _, rfl, .inl (SqL.of (s6 _ _ er)), ?_⟩
    rw [vn_len]
    refine ⟨l1, _, _, rfl, rfl, e6, by omega, by omega, Nat.le_of_lt (small1000 (by rw [Int.toNat_natCast]; show 1 * lg.length ≤ 1000; omega)), fun L nL => ?_⟩
    have s7 := s6.trans (same_new (o := .lst (List.replicate ((lg.length : Int)).toNat [V.int 0]).flatten) nL)
    have e7 : (upd H6 L (.lst (List.replicate ((lg.length : Int)).toNat [V.int 0]).flatten)) L = some (.lst (vn (List.replicate lg.length 0))) := by
      rw [upd_same, rep_flat, Int.toNat_natCast]
      unfold vn
      rw [List.map_replicate]
      rfl
    generalize (upd H6 L (.lst (List.replicate ((lg.length : Int)).toNat [V.int 0]).flatten)) = H7 at s7 e7 ⊢
    have dn7 := dn5.same s7
    have er7 := s7 _ _ er
    have lz : (List.replicate lg.length 0).length = n.gates.length := by rw [List.length_replicate]; exact ll
    refine ⟨_, rfl, _, rfl, qn, r, n, lg, rfl, dn7, er7, ll, fb, fun H8 s8 => ⟨_, rfl, _, rfl, qn, r, n, lg, rfl, dn7.same s8, s8 _ _ er7, ll, fb, fun H9 s9 => ⟨rfl, _, rfl, ?_⟩⟩⟩
    rw [decide_eq_true rfl]
    have s9 := s8.trans s9
    refine iteF ⟨_, rfl, _, rfl, qn, L, n, _, rfl, dn7.same s9, s9 _ _ e7, lz, fb, fun Ha sa => ⟨_, rfl, _, rfl, qn, L, n, _, rfl, dn7.same (s9.trans sa), (s9.trans sa) _ _ e7, lz, fb, fun Hb sb => ⟨rfl, _, rfl, ?_⟩⟩⟩
    rw [decide_eq_true rfl]
    have sb := (s9.trans sa).trans sb
    refine iteF ⟨_, rfl, qn, _, rfl, dh_dp _ _ (dn7.same sb), four n small hm (by decide), ?_⟩
    refine ⟨_, rfl, rfl, ?_⟩
    show Q (.bl (decide (V.str (txt n) = V.str (txt n)))) _
    rw [decide_eq_true rfl]
    exact q _
end K41
namespace K41
open PySem PySem.Spec PyProof.Rows L2 V0
theorem all_mk {l : PySem.W.OpenLaw} {w : World} {K : PySem.W.Frag} {h : Heap} {mg : Str → Option Value} {fa f1 f2 f3 f4 f5 f6 f7 f8 f9 f10 f11 f12 f13 f14 f15 f16 f17 f18 f19 f20 f21 f22 f23 f24 f25 : Addr} {C_Wires : Addr} (X : K.In h) (G : h.Ns mainGlobals mg) (hfa : mg "law" = some (.ref fa))
    {od1 an1 od2 an2 od3 an3 od4 an4 od5 an5 od6 an6 od7 an7 od8 an8 od9 an9 od10 an10 od11 an11 od12 an12 od13 an13 od14 an14 od15 an15 od16 an16 od17 an17 od18 an18 od19 an19 od20 an20 od21 an21 od22 an22 od23 an23 od24 an24 od25 an25 : Option Addr} {sl1 sl2 sl3 sl4 sl5 sl6 sl7 sl8 sl9 sl10 sl11 sl12 sl13 sl14 sl15 sl16 sl17 sl18 sl19 sl20 sl21 sl22 sl23 sl24 sl25 : Array (Option Value)} {oc1 kV1 dc1 pm1 cd1 ct1 oc2 kV2 dc2 pm2 cd2 ct2 oc3 kV3 dc3 pm3 cd3 ct3 oc4 kV4 dc4 pm4 cd4 ct4 oc5 kV5 dc5 pm5 cd5 ct5 oc6 kV6 dc6 pm6 cd6 ct6 oc7 kV7 dc7 pm7 cd7 ct7 oc8 kV8 dc8 pm8 cd8 ct8 oc9 kV9 dc9 pm9 cd9 ct9 oc10 kV10 dc10 pm10 cd10 ct10 oc11 kV11 dc11 pm11 cd11 ct11 oc12 kV12 dc12 pm12 cd12 ct12 oc13 kV13 dc13 pm13 cd13 ct13 oc14 kV14 dc14 pm14 cd14 ct14 oc15 kV15 dc15 pm15 cd15 ct15 oc16 kV16 dc16 pm16 cd16 ct16 oc17 kV17 dc17 pm17 cd17 ct17 oc18 kV18 dc18 pm18 cd18 ct18 oc19 kV19 dc19 pm19 cd19 ct19 oc20 kV20 dc20 pm20 cd20 ct20 oc21 kV21 dc21 pm21 cd21 ct21 oc22 kV22 dc22 pm22 cd22 ct22 oc23 kV23 dc23 pm23 cd23 ct23 oc24 kV24 dc24 pm24 cd24 ct24 oc25 kV25 dc25 pm25 cd25 ct25 : Value}
    (aC_Wires : PySem.W.nsIn K mainGlobals "Wires" = some (some (.ref C_Wires))) (pg_Wires : PySem.W.plainGet K C_Wires Str.empty = true) (hd_Wires : PySem.W.hasDictIn K C_Wires = true) (po_Wires : PySem.W.plainOver K C_Wires = true) (sa_Wires : PySem.W.findIn K (.ref C_Wires) "__setattr__" = some (some (.builtin "object.__setattr__"))) (mk_Wires : PySem.W.makesIn K C_Wires = true) (kc_Wires : PySem.W.keepIn K (.ref C_Wires) = true)
    (n_Wires_before : PySem.W.findIn K (.ref C_Wires) "before" = some none)
    (n_Wires_first : PySem.W.findIn K (.ref C_Wires) "first" = some none)
    (n_Wires_gates : PySem.W.findIn K (.ref C_Wires) "gates" = some none)
    (n_Wires_pairs : PySem.W.findIn K (.ref C_Wires) "pairs" = some none)
    (a1 : PySem.W.nsIn K mainGlobals "_law_state" = some (some (.ref f1))) (l1 : K.lookup f1 = some ⟨oc1, od1, .func (PySem.W.fnOf "_law_state" "_law_state" (defArgs s__law_state) (defBody s__law_state) (defScope s__law_state) .none kV1 dc1 pm1 an1 cd1 ct1), sl1⟩) (c1 : PySem.W.codeIn K cd1 "_law_state" = true) (k1 : PySem.W.keepIn K (.ref f1) = true)
    (a2 : PySem.W.nsIn K mainGlobals "_law_draw" = some (some (.ref f2))) (l2 : K.lookup f2 = some ⟨oc2, od2, .func (PySem.W.fnOf "_law_draw" "_law_draw" (defArgs s__law_draw) (defBody s__law_draw) (defScope s__law_draw) .none kV2 dc2 pm2 an2 cd2 ct2), sl2⟩) (c2 : PySem.W.codeIn K cd2 "_law_draw" = true) (k2 : PySem.W.keepIn K (.ref f2) = true)
    (a3 : PySem.W.nsIn K mainGlobals "_law_pick" = some (some (.ref f3))) (l3 : K.lookup f3 = some ⟨oc3, od3, .func (PySem.W.fnOf "_law_pick" "_law_pick" (defArgs s__law_pick) (defBody s__law_pick) (defScope s__law_pick) .none kV3 dc3 pm3 an3 cd3 ct3), sl3⟩) (c3 : PySem.W.codeIn K cd3 "_law_pick" = true) (k3 : PySem.W.keepIn K (.ref f3) = true)
    (a4 : PySem.W.nsIn K mainGlobals "_law_net" = some (some (.ref f4))) (l4 : K.lookup f4 = some ⟨oc4, od4, .func (PySem.W.fnOf "_law_net" "_law_net" (defArgs s__law_net) (defBody s__law_net) (defScope s__law_net) .none kV4 dc4 pm4 an4 cd4 ct4), sl4⟩) (c4 : PySem.W.codeIn K cd4 "_law_net" = true) (k4 : PySem.W.keepIn K (.ref f4) = true)
    (a5 : PySem.W.nsIn K mainGlobals "_law_is_flop" = some (some (.ref f5))) (l5 : K.lookup f5 = some ⟨oc5, od5, .func (PySem.W.fnOf "_law_is_flop" "_law_is_flop" (defArgs s__law_is_flop) (defBody s__law_is_flop) (defScope s__law_is_flop) .none kV5 dc5 pm5 an5 cd5 ct5), sl5⟩) (c5 : PySem.W.codeIn K cd5 "_law_is_flop" = true) (k5 : PySem.W.keepIn K (.ref f5) = true)
    (a6 : PySem.W.nsIn K mainGlobals "_law_stays" = some (some (.ref f6))) (l6 : K.lookup f6 = some ⟨oc6, od6, .func (PySem.W.fnOf "_law_stays" "_law_stays" (defArgs s__law_stays) (defBody s__law_stays) (defScope s__law_stays) .none kV6 dc6 pm6 an6 cd6 ct6), sl6⟩) (c6 : PySem.W.codeIn K cd6 "_law_stays" = true) (k6 : PySem.W.keepIn K (.ref f6) = true)
    (a7 : PySem.W.nsIn K mainGlobals "_law_origin" = some (some (.ref f7))) (l7 : K.lookup f7 = some ⟨oc7, od7, .func (PySem.W.fnOf "_law_origin" "_law_origin" (defArgs s__law_origin) (defBody s__law_origin) (defScope s__law_origin) .none kV7 dc7 pm7 an7 cd7 ct7), sl7⟩) (c7 : PySem.W.codeIn K cd7 "_law_origin" = true) (k7 : PySem.W.keepIn K (.ref f7) = true)
    (a8 : PySem.W.nsIn K mainGlobals "_law_lag" = some (some (.ref f8))) (l8 : K.lookup f8 = some ⟨oc8, od8, .func (PySem.W.fnOf "_law_lag" "_law_lag" (defArgs s__law_lag) (defBody s__law_lag) (defScope s__law_lag) .none kV8 dc8 pm8 an8 cd8 ct8), sl8⟩) (c8 : PySem.W.codeIn K cd8 "_law_lag" = true) (k8 : PySem.W.keepIn K (.ref f8) = true)
    (a9 : PySem.W.nsIn K mainGlobals "_law_allowed" = some (some (.ref f9))) (l9 : K.lookup f9 = some ⟨oc9, od9, .func (PySem.W.fnOf "_law_allowed" "_law_allowed" (defArgs s__law_allowed) (defBody s__law_allowed) (defScope s__law_allowed) .none kV9 dc9 pm9 an9 cd9 ct9), sl9⟩) (c9 : PySem.W.codeIn K cd9 "_law_allowed" = true) (k9 : PySem.W.keepIn K (.ref f9) = true)
    (a10 : PySem.W.nsIn K mainGlobals "_law_lags" = some (some (.ref f10))) (l10 : K.lookup f10 = some ⟨oc10, od10, .func (PySem.W.fnOf "_law_lags" "_law_lags" (defArgs s__law_lags) (defBody s__law_lags) (defScope s__law_lags) .none kV10 dc10 pm10 an10 cd10 ct10), sl10⟩) (c10 : PySem.W.codeIn K cd10 "_law_lags" = true) (k10 : PySem.W.keepIn K (.ref f10) = true)
    (a11 : PySem.W.nsIn K mainGlobals "origin_of" = some (some (.ref f11))) (l11 : K.lookup f11 = some ⟨oc11, od11, .func (PySem.W.fnOf "origin_of" "origin_of" (defArgs s_origin_of) (defBody s_origin_of) (defScope s_origin_of) .none kV11 dc11 pm11 an11 cd11 ct11), sl11⟩) (c11 : PySem.W.codeIn K cd11 "origin_of" = true) (k11 : PySem.W.keepIn K (.ref f11) = true)
    (a12 : PySem.W.nsIn K mainGlobals "origin" = some (some (.ref f12))) (l12 : K.lookup f12 = some ⟨oc12, od12, .func (PySem.W.fnOf "origin" "origin" (defArgs s_origin) (defBody s_origin) (defScope s_origin) .none kV12 dc12 pm12 an12 cd12 ct12), sl12⟩) (c12 : PySem.W.codeIn K cd12 "origin" = true) (k12 : PySem.W.keepIn K (.ref f12) = true)
    (a13 : PySem.W.nsIn K mainGlobals "_finished_from" = some (some (.ref f13))) (l13 : K.lookup f13 = some ⟨oc13, od13, .func (PySem.W.fnOf "_finished_from" "_finished_from" (defArgs s__finished_from) (defBody s__finished_from) (defScope s__finished_from) .none kV13 dc13 pm13 an13 cd13 ct13), sl13⟩) (c13 : PySem.W.codeIn K cd13 "_finished_from" = true) (k13 : PySem.W.keepIn K (.ref f13) = true)
    (a14 : PySem.W.nsIn K mainGlobals "finished" = some (some (.ref f14))) (l14 : K.lookup f14 = some ⟨oc14, od14, .func (PySem.W.fnOf "finished" "finished" (defArgs s_finished) (defBody s_finished) (defScope s_finished) .none kV14 dc14 pm14 an14 cd14 ct14), sl14⟩) (c14 : PySem.W.codeIn K cd14 "finished" = true) (k14 : PySem.W.keepIn K (.ref f14) = true)
    (a15 : PySem.W.findIn K (.ref C_Wires) "new_weights" = some (some (.ref f15))) (i15 : PySem.W.isFn K (.ref f15) = true) (l15 : K.lookup f15 = some ⟨oc15, od15, .func (PySem.W.fnOf "new_weights" "Wires.new_weights" (defArgs s_Wires_new_weights) (defBody s_Wires_new_weights) (defScope s_Wires_new_weights) .none kV15 dc15 pm15 an15 cd15 ct15), sl15⟩) (c15 : PySem.W.codeIn K cd15 "Wires.new_weights" = true) (k15 : PySem.W.keepIn K (.ref f15) = true)
    (a16 : PySem.W.findIn K (.ref C_Wires) "sources" = some (some (.ref f16))) (i16 : PySem.W.isFn K (.ref f16) = true) (l16 : K.lookup f16 = some ⟨oc16, od16, .func (PySem.W.fnOf "sources" "Wires.sources" (defArgs s_Wires_sources) (defBody s_Wires_sources) (defScope s_Wires_sources) .none kV16 dc16 pm16 an16 cd16 ct16), sl16⟩) (c16 : PySem.W.codeIn K cd16 "Wires.sources" = true) (k16 : PySem.W.keepIn K (.ref f16) = true)
    (a17 : PySem.W.findIn K (.ref C_Wires) "ordered" = some (some (.ref f17))) (i17 : PySem.W.isFn K (.ref f17) = true) (l17 : K.lookup f17 = some ⟨oc17, od17, .func (PySem.W.fnOf "ordered" "Wires.ordered" (defArgs s_Wires_ordered) (defBody s_Wires_ordered) (defScope s_Wires_ordered) .none kV17 dc17 pm17 an17 cd17 ct17), sl17⟩) (c17 : PySem.W.codeIn K cd17 "Wires.ordered" = true) (k17 : PySem.W.keepIn K (.ref f17) = true)
    (a18 : PySem.W.findIn K (.ref C_Wires) "new_levels" = some (some (.ref f18))) (i18 : PySem.W.isFn K (.ref f18) = true) (l18 : K.lookup f18 = some ⟨oc18, od18, .func (PySem.W.fnOf "new_levels" "Wires.new_levels" (defArgs s_Wires_new_levels) (defBody s_Wires_new_levels) (defScope s_Wires_new_levels) .none kV18 dc18 pm18 an18 cd18 ct18), sl18⟩) (c18 : PySem.W.codeIn K cd18 "Wires.new_levels" = true) (k18 : PySem.W.keepIn K (.ref f18) = true)
    (a19 : PySem.W.findIn K (.ref C_Wires) "all_lags" = some (some (.ref f19))) (i19 : PySem.W.isFn K (.ref f19) = true) (l19 : K.lookup f19 = some ⟨oc19, od19, .func (PySem.W.fnOf "all_lags" "Wires.all_lags" (defArgs s_Wires_all_lags) (defBody s_Wires_all_lags) (defScope s_Wires_all_lags) .none kV19 dc19 pm19 an19 cd19 ct19), sl19⟩) (c19 : PySem.W.codeIn K cd19 "Wires.all_lags" = true) (k19 : PySem.W.keepIn K (.ref f19) = true)
    (a20 : PySem.W.nsIn K mainGlobals "_period_of" = some (some (.ref f20))) (l20 : K.lookup f20 = some ⟨oc20, od20, .func (PySem.W.fnOf "_period_of" "_period_of" (defArgs s__period_of) (defBody s__period_of) (defScope s__period_of) .none kV20 dc20 pm20 an20 cd20 ct20), sl20⟩) (c20 : PySem.W.codeIn K cd20 "_period_of" = true) (k20 : PySem.W.keepIn K (.ref f20) = true)
    (a21 : PySem.W.nsIn K mainGlobals "base_of" = some (some (.ref f21))) (l21 : K.lookup f21 = some ⟨oc21, od21, .func (PySem.W.fnOf "base_of" "base_of" (defArgs s_base_of) (defBody s_base_of) (defScope s_base_of) .none kV21 dc21 pm21 an21 cd21 ct21), sl21⟩) (c21 : PySem.W.codeIn K cd21 "base_of" = true) (k21 : PySem.W.keepIn K (.ref f21) = true)
    (a22 : PySem.W.findIn K (.ref C_Wires) "__init__" = some (some (.ref f22))) (i22 : PySem.W.isFn K (.ref f22) = true) (l22 : K.lookup f22 = some ⟨oc22, od22, .func (PySem.W.fnOf "__init__" "Wires.__init__" (defArgs s_Wires___init__) (defBody s_Wires___init__) (defScope s_Wires___init__) .none kV22 dc22 pm22 an22 cd22 ct22), sl22⟩) (c22 : PySem.W.codeIn K cd22 "Wires.__init__" = true) (k22 : PySem.W.keepIn K (.ref f22) = true)
    (a23 : PySem.W.nsIn K mainGlobals "period" = some (some (.ref f23))) (l23 : K.lookup f23 = some ⟨oc23, od23, .func (PySem.W.fnOf "period" "period" (defArgs s_period) (defBody s_period) (defScope s_period) .none kV23 dc23 pm23 an23 cd23 ct23), sl23⟩) (c23 : PySem.W.codeIn K cd23 "period" = true) (k23 : PySem.W.keepIn K (.ref f23) = true)
    (a24 : PySem.W.nsIn K mainGlobals "_law_period" = some (some (.ref f24))) (l24 : K.lookup f24 = some ⟨oc24, od24, .func (PySem.W.fnOf "_law_period" "_law_period" (defArgs s__law_period) (defBody s__law_period) (defScope s__law_period) .none kV24 dc24 pm24 an24 cd24 ct24), sl24⟩) (c24 : PySem.W.codeIn K cd24 "_law_period" = true) (k24 : PySem.W.keepIn K (.ref f24) = true)
    (a25 : PySem.W.nsIn K mainGlobals "law" = some (some (.ref f25))) (l25 : K.lookup f25 = some ⟨oc25, od25, .func (PySem.W.fnOf "law" "law" (defArgs s_law) (defBody s_law) (defScope s_law) .none kV25 dc25 pm25 an25 cd25 ct25), sl25⟩) (c25 : PySem.W.codeIn K cd25 "law" = true) (k25 : PySem.W.keepIn K (.ref f25) = true)
    (z_abs : PySem.W.nsIn K mainGlobals "abs" = some none)
    (z_enumerate : PySem.W.nsIn K mainGlobals "enumerate" = some none)
    (z_int : PySem.W.nsIn K mainGlobals "int" = some none)
    (z_len : PySem.W.nsIn K mainGlobals "len" = some none)
    (z_list : PySem.W.nsIn K mainGlobals "list" = some none)
    (z_max : PySem.W.nsIn K mainGlobals "max" = some none)
    (z_range : PySem.W.nsIn K mainGlobals "range" = some none)
    (z_repr : PySem.W.nsIn K mainGlobals "repr" = some none)
    (z_zip : PySem.W.nsIn K mainGlobals "zip" = some none) :
    ∃ fd : FuncData, (∀ (s : Shared) (v : Value), BindsTo s fd ⟨[v], []⟩ [("script", v)]) ∧ ∀ base : Heap, K.In base → base.Ns mainGlobals mg → LawOk l.prog w K mg base fa fd ["script"] (sp_law K) := by
  have e := hfa.symm.trans (PySem.W.mg_of X G a25)
  cases e
  have T : Txt K mg C_Wires := ⟨⟨pg_Wires, hd_Wires, po_Wires, sa_Wires⟩, PySem.W.mg_of X G aC_Wires, n_Wires_before, n_Wires_first, n_Wires_gates, n_Wires_pairs, PySem.W.mg_none_of X G z_abs, PySem.W.mg_none_of X G z_enumerate, PySem.W.mg_none_of X G z_int, PySem.W.mg_none_of X G z_len, PySem.W.mg_none_of X G z_list, PySem.W.mg_none_of X G z_max, PySem.W.mg_none_of X G z_range, PySem.W.mg_none_of X G z_repr, PySem.W.mg_none_of X G z_zip⟩
  have F1 := fun_mk (st := s__law_state) l1 c1 k1
  have D1 : Def K mg "_law_state" f1 _ ["script"] := ⟨PySem.W.mg_of X G a1, F1.kp, F1.binds (ps := ["script"]) fun _ _ _ _ _ _ us hl => match us, hl with | [_], _ => rfl⟩
  have F2 := fun_mk (st := s__law_draw) l2 c2 k2
  have D2 : Def K mg "_law_draw" f2 _ ["state", "many"] := ⟨PySem.W.mg_of X G a2, F2.kp, F2.binds (ps := ["state", "many"]) fun _ _ _ _ _ _ us hl => match us, hl with | [_, _], _ => rfl⟩
  have F3 := fun_mk (st := s__law_pick) l3 c3 k3
  have D3 : Def K mg "_law_pick" f3 _ ["state", "row"] := ⟨PySem.W.mg_of X G a3, F3.kp, F3.binds (ps := ["state", "row"]) fun _ _ _ _ _ _ us hl => match us, hl with | [_, _], _ => rfl⟩
  have F4 := fun_mk (st := s__law_net) l4 c4 k4
  have D4 : Def K mg "_law_net" f4 _ ["state", "ins", "flops", "most"] := ⟨PySem.W.mg_of X G a4, F4.kp, F4.binds (ps := ["state", "ins", "flops", "most"]) fun _ _ _ _ _ _ us hl => match us, hl with | [_, _, _, _], _ => rfl⟩
  have F5 := fun_mk (st := s__law_is_flop) l5 c5 k5
  have D5 : Def K mg "_law_is_flop" f5 _ ["net", "node"] := ⟨PySem.W.mg_of X G a5, F5.kp, F5.binds (ps := ["net", "node"]) fun _ _ _ _ _ _ us hl => match us, hl with | [_, _], _ => rfl⟩
  have F6 := fun_mk (st := s__law_stays) l6 c6 k6
  have D6 : Def K mg "_law_stays" f6 _ ["net", "node"] := ⟨PySem.W.mg_of X G a6, F6.kp, F6.binds (ps := ["net", "node"]) fun _ _ _ _ _ _ us hl => match us, hl with | [_, _], _ => rfl⟩
  have F7 := fun_mk (st := s__law_origin) l7 c7 k7
  have D7 : Def K mg "_law_origin" f7 _ ["net", "literal"] := ⟨PySem.W.mg_of X G a7, F7.kp, F7.binds (ps := ["net", "literal"]) fun _ _ _ _ _ _ us hl => match us, hl with | [_, _], _ => rfl⟩
  have F8 := fun_mk (st := s__law_lag) l8 c8 k8
  have D8 : Def K mg "_law_lag" f8 _ ["net", "lags", "literal"] := ⟨PySem.W.mg_of X G a8, F8.kp, F8.binds (ps := ["net", "lags", "literal"]) fun _ _ _ _ _ _ us hl => match us, hl with | [_, _, _], _ => rfl⟩
  have F9 := fun_mk (st := s__law_allowed) l9 c9 k9
  have D9 : Def K mg "_law_allowed" f9 _ ["net", "lags"] := ⟨PySem.W.mg_of X G a9, F9.kp, F9.binds (ps := ["net", "lags"]) fun _ _ _ _ _ _ us hl => match us, hl with | [_, _], _ => rfl⟩
  have F10 := fun_mk (st := s__law_lags) l10 c10 k10
  have D10 : Def K mg "_law_lags" f10 _ ["state", "net"] := ⟨PySem.W.mg_of X G a10, F10.kp, F10.binds (ps := ["state", "net"]) fun _ _ _ _ _ _ us hl => match us, hl with | [_, _], _ => rfl⟩
  have F11 := fun_mk (st := s_origin_of) l11 c11 k11
  have D11 : Def K mg "origin_of" f11 _ ["net", "literal"] := ⟨PySem.W.mg_of X G a11, F11.kp, F11.binds (ps := ["net", "literal"]) fun _ _ _ _ _ _ us hl => match us, hl with | [_, _], _ => rfl⟩
  have F12 := fun_mk (st := s_origin) l12 c12 k12
  have D12 : Def K mg "origin" f12 _ ["net", "literal"] := ⟨PySem.W.mg_of X G a12, F12.kp, F12.binds (ps := ["net", "literal"]) fun _ _ _ _ _ _ us hl => match us, hl with | [_, _], _ => rfl⟩
  have F13 := fun_mk (st := s__finished_from) l13 c13 k13
  have D13 : Def K mg "_finished_from" f13 _ ["first", "uses", "seen"] := ⟨PySem.W.mg_of X G a13, F13.kp, F13.binds (ps := ["first", "uses", "seen"]) fun _ _ _ _ _ _ us hl => match us, hl with | [_, _, _], _ => rfl⟩
  have F14 := fun_mk (st := s_finished) l14 c14 k14
  have D14 : Def K mg "finished" f14 _ ["names", "uses"] := ⟨PySem.W.mg_of X G a14, F14.kp, F14.binds (ps := ["names", "uses"]) fun _ _ _ _ _ _ us hl => match us, hl with | [_, _], _ => rfl⟩
  have F15 := fun_mk (st := s_Wires_new_weights) l15 c15 k15
  have D15 : MDef K C_Wires "new_weights" f15 _ ["self", "lags", "gate"] := ⟨⟨a15, i15, k15⟩, F15.binds (ps := ["self", "lags", "gate"]) fun _ _ _ _ _ _ us hl => match us, hl with | [_, _, _], _ => rfl⟩
  have F16 := fun_mk (st := s_Wires_sources) l16 c16 k16
  have D16 : MDef K C_Wires "sources" f16 _ ["self", "lags", "gate"] := ⟨⟨a16, i16, k16⟩, F16.binds (ps := ["self", "lags", "gate"]) fun _ _ _ _ _ _ us hl => match us, hl with | [_, _, _], _ => rfl⟩
  have F17 := fun_mk (st := s_Wires_ordered) l17 c17 k17
  have D17 : MDef K C_Wires "ordered" f17 _ ["self", "lags"] := ⟨⟨a17, i17, k17⟩, F17.binds (ps := ["self", "lags"]) fun _ _ _ _ _ _ us hl => match us, hl with | [_, _], _ => rfl⟩
  have F18 := fun_mk (st := s_Wires_new_levels) l18 c18 k18
  have D18 : MDef K C_Wires "new_levels" f18 _ ["self", "lags"] := ⟨⟨a18, i18, k18⟩, F18.binds (ps := ["self", "lags"]) fun _ _ _ _ _ _ us hl => match us, hl with | [_, _], _ => rfl⟩
  have F19 := fun_mk (st := s_Wires_all_lags) l19 c19 k19
  have D19 : MDef K C_Wires "all_lags" f19 _ ["self", "lags"] := ⟨⟨a19, i19, k19⟩, F19.binds (ps := ["self", "lags"]) fun _ _ _ _ _ _ us hl => match us, hl with | [_, _], _ => rfl⟩
  have F20 := fun_mk (st := s__period_of) l20 c20 k20
  have D20 : Def K mg "_period_of" f20 _ ["wires", "lags"] := ⟨PySem.W.mg_of X G a20, F20.kp, F20.binds (ps := ["wires", "lags"]) fun _ _ _ _ _ _ us hl => match us, hl with | [_, _], _ => rfl⟩
  have F21 := fun_mk (st := s_base_of) l21 c21 k21
  have D21 : Def K mg "base_of" f21 _ ["net"] := ⟨PySem.W.mg_of X G a21, F21.kp, F21.binds (ps := ["net"]) fun _ _ _ _ _ _ us hl => match us, hl with | [_], _ => rfl⟩
  have F22 := fun_mk (st := s_Wires___init__) l22 c22 k22
  have D22 : IDef K C_Wires f22 _ ["self", "net"] := ⟨⟨mk_Wires, a22, i22, kc_Wires⟩, F22.binds (ps := ["self", "net"]) fun _ _ _ _ _ _ us hl => match us, hl with | [_, _], _ => rfl⟩
  have F23 := fun_mk (st := s_period) l23 c23 k23
  have D23 : Def K mg "period" f23 _ ["net", "lags"] := ⟨PySem.W.mg_of X G a23, F23.kp, F23.binds (ps := ["net", "lags"]) fun _ _ _ _ _ _ us hl => match us, hl with | [_, _], _ => rfl⟩
  have F24 := fun_mk (st := s__law_period) l24 c24 k24
  have D24 : Def K mg "_law_period" f24 _ ["net", "lags"] := ⟨PySem.W.mg_of X G a24, F24.kp, F24.binds (ps := ["net", "lags"]) fun _ _ _ _ _ _ us hl => match us, hl with | [_, _], _ => rfl⟩
  have F25 := fun_mk (st := s_law) l25 c25 k25
  refine ⟨PySem.W.fnOf "law" "law" (defArgs s_law) (defBody s_law) (defScope s_law) .none kV25 dc25 pm25 an25 cd25 ct25, fun s v => .of_eq rfl, fun base _ _ => ?_⟩
  have G1 : FnOk l.prog w K mg base CX0 1 f1 _ ["script"] (sp__law_state K) := ok__law_state F1 T 
  have G2 : FnOk l.prog w K mg base CX0 1 f2 _ ["state", "many"] (sp__law_draw K) := ok__law_draw F2 T 
  have G3 : FnOk l.prog w K mg base CX0 2 f3 _ ["state", "row"] (sp__law_pick K) := ok__law_pick F3 T G2 D2
  have G4 : FnOk l.prog w K mg base CX0 3 f4 _ ["state", "ins", "flops", "most"] (sp__law_net K) := ok__law_net F4 T G2 D2 G3 D3
  have G5 : FnOk l.prog w K mg base CX0 1 f5 _ ["net", "node"] (sp__law_is_flop K) := ok__law_is_flop F5 T 
  have G6 : FnOk l.prog w K mg base CX0 2 f6 _ ["net", "node"] (sp__law_stays K) := ok__law_stays F6 T G5 D5
  have G7 : FnOk l.prog w K mg base CX0 3 f7 _ ["net", "literal"] (sp__law_origin K) := ok__law_origin F7 T G5 D5 G6 D6
  have G8 : FnOk l.prog w K mg base CX0 1 f8 _ ["net", "lags", "literal"] (sp__law_lag K) := ok__law_lag F8 T 
  have G9 : FnOk l.prog w K mg base CX0 4 f9 _ ["net", "lags"] (sp__law_allowed K) := ok__law_allowed F9 T G7 D7 G8 D8
  have G10 : FnOk l.prog w K mg base CX0 5 f10 _ ["state", "net"] (sp__law_lags K) := ok__law_lags F10 T G2 D2 G9 D9
  have G11 : FnOk l.prog w K mg base CX0 1 f11 _ ["net", "literal"] (sp_origin_of K) := ok_origin_of F11 T 
  have G12 : FnOk l.prog w K mg base CX0 2 f12 _ ["net", "literal"] (sp_origin K) := ok_origin F12 T G11 D11
  have G13 : FnOk l.prog w K mg base CX0 1 f13 _ ["first", "uses", "seen"] (sp__finished_from K) := ok__finished_from F13 T 
  have G14 : FnOk l.prog w K mg base CX0 2 f14 _ ["names", "uses"] (sp_finished K) := ok_finished F14 T G13 D13
  have G15 : FnOk l.prog w K mg base CX0 1 f15 _ ["self", "lags", "gate"] (sp_Wires_new_weights K C_Wires) := ok_Wires_new_weights F15 T 
  have G16 : FnOk l.prog w K mg base CX0 2 f16 _ ["self", "lags", "gate"] (sp_Wires_sources K C_Wires) := ok_Wires_sources F16 T G15 D15
  have G17 : FnOk l.prog w K mg base CX0 3 f17 _ ["self", "lags"] (sp_Wires_ordered K C_Wires) := ok_Wires_ordered F17 T G14 D14 G16 D16
  have G18 : FnOk l.prog w K mg base CX0 4 f18 _ ["self", "lags"] (sp_Wires_new_levels K C_Wires) := ok_Wires_new_levels F18 T G17 D17 G16 D16
  have G19 : FnOk l.prog w K mg base CX0 1 f19 _ ["self", "lags"] (sp_Wires_all_lags K C_Wires) := ok_Wires_all_lags F19 T 
  have G20 : FnOk l.prog w K mg base CX0 5 f20 _ ["wires", "lags"] (sp__period_of K C_Wires) := ok__period_of F20 T G18 D18 G19 D19
  have G21 : FnOk l.prog w K mg base CX0 1 f21 _ ["net"] (sp_base_of K) := ok_base_of F21 T 
  have G22 : FnOk l.prog w K mg base CX0 2 f22 _ ["self", "net"] (sp_Wires___init__ K C_Wires) := ok_Wires___init__ F22 T G21 D21 G11 D11
  have G23 : FnOk l.prog w K mg base CX0 6 f23 _ ["net", "lags"] (sp_period K) := ok_period F23 T G20 D20 G22 D22
  have G24 : FnOk l.prog w K mg base CX0 4 f24 _ ["net", "lags"] (sp__law_period K) := ok__law_period F24 T G7 D7 G8 D8
  exact ok_law F25 T G1 D1 G4 D4 G10 D10 G12 D12 G7 D7 G23 D23 G24 D24
end K41
open PySem PySem.W PyProof.Rows
set_option maxHeartbeats 0 in
theorem PySem.Challenge.cw_cellcloth_k41_origins_of_literals_holds : PySem.Challenge.rw_cellcloth_k41_origins_of_literals.Holds := by
  w_on; o_law; k_head; (case hw => w_witness2)
  k_fill
  refine V0.walk_at (l := PySem.Challenge.rw_cellcloth_k41_origins_of_literals) (n := 63) (x := "script") (sp := K41.sp_law) rfl (by decide) rfl (fun w h Y => PySem.W.kIn_of Y) ?F (fun _ _ a ns hl _ hS => ⟨a, ns, rfl, hS, hl, fun _ => rfl⟩)
  case F =>
    intro w mg fa h KX G hmg
    refine' K41.all_mk KX G hmg ?aC_Wires ?pg_Wires ?hd_Wires ?po_Wires ?sa_Wires ?mk_Wires ?kc_Wires ?n_Wires_before ?n_Wires_first ?n_Wires_gates ?n_Wires_pairs ?a1 ?l1 ?c1 ?k1 ?a2 ?l2 ?c2 ?k2 ?a3 ?l3 ?c3 ?k3 ?a4 ?l4 ?c4 ?k4 ?a5 ?l5 ?c5 ?k5 ?a6 ?l6 ?c6 ?k6 ?a7 ?l7 ?c7 ?k7 ?a8 ?l8 ?c8 ?k8 ?a9 ?l9 ?c9 ?k9 ?a10 ?l10 ?c10 ?k10 ?a11 ?l11 ?c11 ?k11 ?a12 ?l12 ?c12 ?k12 ?a13 ?l13 ?c13 ?k13 ?a14 ?l14 ?c14 ?k14 ?a15 ?i15 ?l15 ?c15 ?k15 ?a16 ?i16 ?l16 ?c16 ?k16 ?a17 ?i17 ?l17 ?c17 ?k17 ?a18 ?i18 ?l18 ?c18 ?k18 ?a19 ?i19 ?l19 ?c19 ?k19 ?a20 ?l20 ?c20 ?k20 ?a21 ?l21 ?c21 ?k21 ?a22 ?i22 ?l22 ?c22 ?k22 ?a23 ?l23 ?c23 ?k23 ?a24 ?l24 ?c24 ?k24 ?a25 ?l25 ?c25 ?k25 ?z_abs ?z_enumerate ?z_int ?z_len ?z_list ?z_max ?z_range ?z_repr ?z_zip
    (case aC_Wires => k_is)
    (case pg_Wires => k_is)
    (case hd_Wires => k_is)
    (case po_Wires => k_is)
    (case sa_Wires => k_is)
    (case mk_Wires => k_is)
    (case kc_Wires => k_is)
    (case n_Wires_before => k_is)
    (case n_Wires_first => k_is)
    (case n_Wires_gates => k_is)
    (case n_Wires_pairs => k_is)
    (case a1 => k_is)
    (case l1 => k_is)
    (case c1 => k_is)
    (case k1 => k_is)
    (case a2 => k_is)
    (case l2 => k_is)
    (case c2 => k_is)
    (case k2 => k_is)
    (case a3 => k_is)
    (case l3 => k_is)
    (case c3 => k_is)
    (case k3 => k_is)
    (case a4 => k_is)
    (case l4 => k_is)
    (case c4 => k_is)
    (case k4 => k_is)
    (case a5 => k_is)
    (case l5 => k_is)
    (case c5 => k_is)
    (case k5 => k_is)
    (case a6 => k_is)
    (case l6 => k_is)
    (case c6 => k_is)
    (case k6 => k_is)
    (case a7 => k_is)
    (case l7 => k_is)
    (case c7 => k_is)
    (case k7 => k_is)
    (case a8 => k_is)
    (case l8 => k_is)
    (case c8 => k_is)
    (case k8 => k_is)
    (case a9 => k_is)
    (case l9 => k_is)
    (case c9 => k_is)
    (case k9 => k_is)
    (case a10 => k_is)
    (case l10 => k_is)
    (case c10 => k_is)
    (case k10 => k_is)
    (case a11 => k_is)
    (case l11 => k_is)
    (case c11 => k_is)
    (case k11 => k_is)
    (case a12 => k_is)
    (case l12 => k_is)
    (case c12 => k_is)
    (case k12 => k_is)
    (case a13 => k_is)
    (case l13 => k_is)
    (case c13 => k_is)
    (case k13 => k_is)
    (case a14 => k_is)
    (case l14 => k_is)
    (case c14 => k_is)
    (case k14 => k_is)
    (case a15 => k_is)
    (case i15 => k_is)
    (case l15 => k_is)
    (case c15 => k_is)
    (case k15 => k_is)
    (case a16 => k_is)
    (case i16 => k_is)
    (case l16 => k_is)
    (case c16 => k_is)
    (case k16 => k_is)
    (case a17 => k_is)
    (case i17 => k_is)
    (case l17 => k_is)
    (case c17 => k_is)
    (case k17 => k_is)
    (case a18 => k_is)
    (case i18 => k_is)
    (case l18 => k_is)
    (case c18 => k_is)
    (case k18 => k_is)
    (case a19 => k_is)
    (case i19 => k_is)
    (case l19 => k_is)
    (case c19 => k_is)
    (case k19 => k_is)
    (case a20 => k_is)
    (case l20 => k_is)
    (case c20 => k_is)
    (case k20 => k_is)
    (case a21 => k_is)
    (case l21 => k_is)
    (case c21 => k_is)
    (case k21 => k_is)
    (case a22 => k_is)
    (case i22 => k_is)
    (case l22 => k_is)
    (case c22 => k_is)
    (case k22 => k_is)
    (case a23 => k_is)
    (case l23 => k_is)
    (case c23 => k_is)
    (case k23 => k_is)
    (case a24 => k_is)
    (case l24 => k_is)
    (case c24 => k_is)
    (case k24 => k_is)
    (case a25 => k_is)
    (case l25 => k_is)
    (case c25 => k_is)
    (case k25 => k_is)
    (case z_abs => k_is)
    (case z_enumerate => k_is)
    (case z_int => k_is)
    (case z_len => k_is)
    (case z_list => k_is)
    (case z_max => k_is)
    (case z_range => k_is)
    (case z_repr => k_is)
    (case z_zip => k_is)
