import PyProof.Rows.All
import Wide.All
import OpenK.AllK
import Wide.FinOn
import HandS.ForMost
import HandS.Codes
import HandS.IsInst
import HandS.WideBits
import KE.Datum
import PyProof.ReprRoads
import PyProof.ReprLen
import PyProof.Rows.SetFrom
import HandS.Set
import HandS.SetFor
import HandS.Strs
import HandS.SortInts
import HandS.TupSets
import HandS.Star
import HandS.Sort
import HandS.Conv
import HandS.Iter
import KE.KDictList
import HandS.Comp
import HandS.DictComp
import HandS.Wide
import HandS.Walk
import HandS.Dict
import HandS.Call
import KE.DataMinMax
import PyProof.TupleOfSeq
import HandS.More
import HandS.Deep
import HandS.Small
import HandS.WordsDict
import HandS.Style
import HandS.Zip
import HandS.TupAny
import PySem.Challenge.RW_cellcloth_k15_great_assignments
import PyProof.ReprBulk
set_option Elab.async false
set_option linter.all false
set_option maxRecDepth 100000
set_option maxHeartbeats 4000000
/-! data with a Lean type in the abstract heap: what a value holds, kept by growth; the heap but for what is mutable -/
namespace V0
open PySem PySem.Spec PyProof.Rows L2
open PySem.W (Datum)
/-- a def of the text as callers need it -/
structure Def (K : PySem.W.Frag) (mg : Str → Option Value) (x : Str) (f : Addr) (fd : FuncData) (ps : List Str) : Prop where
  m : mg x = some (.ref f)
  k : PySem.W.keepIn K (.ref f) = true
  b : Binds K fd ps []
abbrev vLen (K : PySem.W.Frag) : List V → Hp → VK → Prop := fun xs H Q => ∃ p ys, xs = [.ref p] ∧ (SqL K H p ys ∨ SqT K H p ys) ∧ Q (.int ys.length) H
abbrev vListOf (K : PySem.W.Frag) : List V → Hp → VK → Prop := fun xs H Q => ∃ p ys, xs = [.ref p] ∧ (SqL K H p ys ∨ SqT K H p ys) ∧ ∀ l, H l = none → Q (.ref l) (upd H l (.lst ys))
abbrev vTupleOf (K : PySem.W.Frag) : List V → Hp → VK → Prop := fun xs H Q => ∃ p ys, xs = [.ref p] ∧ ((SqL K H p ys ∧ ∀ l, H l = none → Q (.ref l) (upd H l (.tup ys))) ∨ (SqT K H p ys ∧ Q (.ref p) H))
/-- a statement that is never reached -/
theorem ps_never {X : Cx} {st : Stmt} : PS X st (fun _ _ _ => False) := ⟨fun _ _ _ _ _ _ h => h.elim⟩
def tTru (K : PySem.W.Frag) (ta : TE) : TT := fun σ H Q => ta σ H fun x H' => ∃ k, TruV K x H' k ∧ Q k H'
/-- as pt_truth, K told -/
theorem pt_truthK {X : Cx} {K : PySem.W.Frag} {a : Expr} {ta : TE} (hK : X.K = K) (ha : PE X a ta) (he : ∀ whole, isTrue a X.env whole = (do let v ← whole; standAt a.pos; holding [v] (truthy v))) :
    PT X a (tTru K ta) := by
  subst hK
  exact pt_truth ha he
theorem hu65 {A : Around} {k : Nat} (hr : Room k A) : A.units + 65 < cLine := by
  have := hr.un
  omega
theorem same_new {H : Hp} {p : Addr} {o : HO} (h : H p = none) : Same H (upd H p o) := fun b x e => by
  rw [upd_ne (ne_of_none e h)]
  exact e
theorem same_mut {H H' : Hp} {p : Addr} {o : HO} (e : Same H H') (h : H p = none) : Same H (upd H' p o) := fun a u ha => by
  rw [upd_ne (ne_of_none ha h)]
  exact e a u ha
theorem tup_same {K : PySem.W.Frag} {H H' : Hp} {a : Addr} {xs : List V} (e : Same H H') (h : SqT K H a xs) : SqT K H' a xs := by
  rcases h with (h | ⟨o, h⟩) | h
  · exact .inl (.inl (e _ _ h))
  · exact .inl (.inr ⟨o, e _ _ h⟩)
  · exact .inr h
theorem map_range_succ {α : Type} (f : Nat → α) (i : Nat) : (List.range (i + 1)).map f = (List.range i).map f ++ [f i] := by
  rw [List.range_succ, List.map_append]
  rfl
/-! ### data -/
class Dm (α : Type) [DecidableEq α] extends Datum α where
  lay : ∀ a : α, (Datum.toD a).canLay0 = true
instance : Dm Int where
  lay _ := by simp only [Datum.toD, PyData.canLay0]
instance : Dm Bool where
  lay _ := by simp only [Datum.toD, PyData.canLay0]
instance : Datum Nat where
  toD n := .int (n : Int)
  plain _ := rfl
  eqv a b := by
    simp only [PyData.eqv]
    rw [PySem.W.beq_decide]
    exact decide_eq_decide.mpr ⟨fun e => by omega, fun e => by rw [e]⟩
  depth := 0
  depth_le _ := Nat.le_refl _
instance : Dm Nat where
  lay _ := by simp only [Datum.toD, PyData.canLay0]
section
variable {α β : Type} [DecidableEq α] [Dm α] [DecidableEq β] [Dm β]
theorem lay_all : ∀ xs : List α, PyData.canLayAll0 (xs.map Datum.toD) = true
  | [] => by simp only [List.map_nil, PyData.canLayAll0]
  | x :: xs => by
    rw [List.map_cons, PyData.canLayAll0, Dm.lay x, lay_all xs]
    rfl
instance : Dm (List α) where
  lay xs := by
    simp only [Datum.toD, PyData.canLay0]
    exact lay_all xs
instance : Dm (α × β) where
  lay p := by
    simp only [Datum.toD, PyData.canLay0, PyData.canLayAll0, Bool.and_true, Bool.and_eq_true]
    exact ⟨Dm.lay p.1, Dm.lay p.2⟩
end
mutual
/-- as Dp, of what stands in the abstract heap alone -/
inductive Dh (H : Hp) : V → PyData → Prop
  | non : Dh H .non .none
  | bl (b : Bool) : Dh H (.bl b) (.bool b)
  | int (i : Int) : Dh H (.int i) (.int i)
  | str (x : Str) : Dh H (.str x) (.str x)
  | lst {a : Addr} {xs : List V} {ds : List PyData} : H a = some (.lst xs) → DhAll H xs ds → Dh H (.ref a) (.list ds)
  | tup {a : Addr} {xs : List V} {ds : List PyData} : H a = some (.tup xs) → DhAll H xs ds → Dh H (.ref a) (.tuple ds)
inductive DhAll (H : Hp) : List V → List PyData → Prop
  | nil : DhAll H [] []
  | cons {v : V} {vs : List V} {d : PyData} {ds : List PyData} : Dh H v d → DhAll H vs ds → DhAll H (v :: vs) (d :: ds)
end
mutual
theorem dh_same {H H' : Hp} (s : Same H H') : ∀ (d : PyData) (v : V), Dh H v d → Dh H' v d
  | .none, _, h => by cases h; exact .non
  | .bool b, _, h => by cases h; exact .bl b
  | .int i, _, h => by cases h; exact .int i
  | .str x, _, h => by cases h; exact .str x
  | .list ds, _, h => by
    cases h with
    | lst h1 h2 => exact .lst (s _ _ h1) (dh_sameAll s ds _ h2)
  | .tuple ds, _, h => by
    cases h with
    | tup h1 h2 => exact .tup (s _ _ h1) (dh_sameAll s ds _ h2)
  | .dict _, _, h => by cases h
theorem dh_sameAll {H H' : Hp} (s : Same H H') : ∀ (ds : List PyData) (vs : List V), DhAll H vs ds → DhAll H' vs ds
  | [], _, h => by cases h; exact .nil
  | d :: ds, _, h => by
    cases h with
    | cons h1 h2 => exact .cons (dh_same s d _ h1) (dh_sameAll s ds _ h2)
end
mutual
theorem dh_dp {K : PySem.W.Frag} {H : Hp} : ∀ (d : PyData) (v : V), Dh H v d → Dp K H v d
  | .none, _, h => by cases h; exact .non
  | .bool b, _, h => by cases h; exact .bl b
  | .int i, _, h => by cases h; exact .int i
  | .str x, _, h => by cases h; exact .str x
  | .list ds, _, h => by
    cases h with
    | lst h1 h2 => exact .lst (SqL.of h1) (dh_dpAll ds _ h2)
  | .tuple ds, _, h => by
    cases h with
    | tup h1 h2 => exact .tup (SqT.of h1) (dh_dpAll ds _ h2)
  | .dict _, _, h => by cases h
theorem dh_dpAll {K : PySem.W.Frag} {H : Hp} : ∀ (ds : List PyData) (vs : List V), DhAll H vs ds → DpAll K H vs ds
  | [], _, h => by cases h; exact .nil
  | d :: ds, _, h => by
    cases h with
    | cons h1 h2 => exact .cons (dh_dp d _ h1) (dh_dpAll ds _ h2)
end
section
variable {α β : Type} [DecidableEq α] [Dm α] [DecidableEq β] [Dm β]
/-- v holds x -/
def Dv (H : Hp) (v : V) (x : α) : Prop := Dh H v (Datum.toD x)
def Dvs (H : Hp) (vs : List V) (xs : List α) : Prop := DhAll H vs (xs.map Datum.toD)
theorem Dv.same {H H' : Hp} {v : V} {x : α} (h : Dv H v x) (s : Same H H') : Dv H' v x := dh_same s _ _ h
theorem Dvs.same {H H' : Hp} {vs : List V} {xs : List α} (h : Dvs H vs xs) (s : Same H H') : Dvs H' vs xs := dh_sameAll s _ _ h
theorem Dv.int {H : Hp} (i : Int) : Dv H (.int i) i := Dh.int i
theorem Dv.nat {H : Hp} (n : Nat) : Dv H (.int (n : Int)) n := Dh.int (n : Int)
theorem Dv.bl {H : Hp} (b : Bool) : Dv H (.bl b) b := Dh.bl b
theorem Dv.int_inv {H : Hp} {v : V} {i : Int} (h : Dv H v i) : v = .int i := by
  unfold Dv at h
  cases h
  rfl
theorem Dv.nat_inv {H : Hp} {v : V} {n : Nat} (h : Dv H v n) : v = .int (n : Int) := by
  unfold Dv at h
  cases h
  rfl
theorem Dvs.nil {H : Hp} : Dvs H [] ([] : List α) := DhAll.nil
theorem Dvs.cons {H : Hp} {v : V} {vs : List V} {x : α} {xs : List α} (h : Dv H v x) (hs : Dvs H vs xs) : Dvs H (v :: vs) (x :: xs) := DhAll.cons h hs
theorem Dvs.cons_inv {H : Hp} {vs : List V} {x : α} {xs : List α} (h : Dvs H vs (x :: xs)) : ∃ v us, vs = v :: us ∧ Dv H v x ∧ Dvs H us xs := by
  unfold Dvs at h
  cases h with
  | cons h1 h2 => exact ⟨_, _, rfl, h1, h2⟩
theorem Dvs.nil_inv {H : Hp} {vs : List V} (h : Dvs H vs ([] : List α)) : vs = [] := by
  unfold Dvs at h
  cases h
  rfl
theorem Dvs.app {H : Hp} : ∀ {vs us : List V} {xs ys : List α}, Dvs H vs xs → Dvs H us ys → Dvs H (vs ++ us) (xs ++ ys)
  | _, _, [], _, h, g => by rw [h.nil_inv]; exact g
  | _, _, _ :: _, _, h, g => by
    obtain ⟨v, us, rfl, h1, h2⟩ := h.cons_inv
    exact .cons h1 (h2.app g)
theorem Dvs.len {H : Hp} : ∀ {vs : List V} {xs : List α}, Dvs H vs xs → vs.length = xs.length
  | _, [], h => by rw [h.nil_inv]; rfl
  | _, _ :: _, h => by
    obtain ⟨v, us, rfl, h1, h2⟩ := h.cons_inv
    rw [List.length_cons, List.length_cons, h2.len]
theorem Dvs.get {H : Hp} : ∀ {vs : List V} {xs : List α} {i : Nat} {x : α}, Dvs H vs xs → xs[i]? = some x → ∃ v, vs[i]? = some v ∧ Dv H v x
  | _, [], i, _, h, e => by simp at e
  | _, _ :: _, 0, _, h, e => by
    obtain ⟨v, us, rfl, h1, h2⟩ := h.cons_inv
    cases e
    exact ⟨_, rfl, h1⟩
  | _, _ :: _, i + 1, _, h, e => by
    obtain ⟨v, us, rfl, h1, h2⟩ := h.cons_inv
    exact h2.get (i := i) e
theorem Dvs.at {H : Hp} {vs : List V} {xs : List α} {i : Nat} {v : V} (h : Dvs H vs xs) (e : vs[i]? = some v) : ∃ x, xs[i]? = some x ∧ Dv H v x := by
  have hi : i < xs.length := by
    rw [← h.len]
    exact (List.getElem?_eq_some_iff.mp e).1
  obtain ⟨u, e2, d⟩ := h.get (List.getElem?_eq_getElem hi)
  rw [e] at e2
  cases e2
  exact ⟨_, List.getElem?_eq_getElem hi, d⟩
theorem Dv.list {H : Hp} {a : Addr} {vs : List V} {xs : List α} (h : H a = some (.lst vs)) (hs : Dvs H vs xs) : Dv H (.ref a) xs := Dh.lst h hs
theorem Dv.list_inv {H : Hp} {v : V} {xs : List α} (h : Dv H v xs) : ∃ a vs, v = .ref a ∧ H a = some (.lst vs) ∧ Dvs H vs xs := by
  unfold Dv at h
  cases h with
  | lst h1 h2 => exact ⟨_, _, rfl, h1, h2⟩
theorem Dv.pair {H : Hp} {a : Addr} {u v : V} {x : α} {y : β} (h : H a = some (.tup [u, v])) (h1 : Dv H u x) (h2 : Dv H v y) : Dv H (.ref a) (x, y) := Dh.tup h (.cons h1 (.cons h2 .nil))
theorem Dv.pair_inv {H : Hp} {v : V} {p : α × β} (h : Dv H v p) : ∃ a u w, v = .ref a ∧ H a = some (.tup [u, w]) ∧ Dv H u p.1 ∧ Dv H w p.2 := by
  unfold Dv at h
  cases h with
  | tup h1 h2 =>
    cases h2 with
    | cons h3 h4 =>
      cases h4 with
      | cons h5 h6 =>
        cases h6
        exact ⟨_, _, _, rfl, h1, h3, h5⟩
abbrev vi (xs : List Int) : List V := xs.map V.int
abbrev vn (xs : List Nat) : List V := xs.map (fun (b : Nat) => V.int (b : Int))
theorem vn_len (xs : List Nat) : (vn xs).length = xs.length := List.length_map _
theorem vn_get {xs : List Nat} {i n : Nat} (h : xs[i]? = some n) : (vn xs)[i]? = some (.int (n : Int)) := by
  rw [List.getElem?_map, h]
  rfl
theorem Dvs.ints_inv {H : Hp} : ∀ {vs : List V} {xs : List Int}, Dvs H vs xs → vs = vi xs
  | _, [], h => h.nil_inv
  | _, _ :: _, h => by
    obtain ⟨v, us, rfl, h1, h2⟩ := h.cons_inv
    rw [h1.int_inv, h2.ints_inv]
    rfl
theorem Dvs.nats_inv {H : Hp} : ∀ {vs : List V} {xs : List Nat}, Dvs H vs xs → vs = vn xs
  | _, [], h => h.nil_inv
  | _, _ :: _, h => by
    obtain ⟨v, us, rfl, h1, h2⟩ := h.cons_inv
    rw [h1.nat_inv, h2.nats_inv]
    rfl
theorem Dvs.ints {H : Hp} : ∀ xs : List Int, Dvs H (vi xs) xs
  | [] => .nil
  | x :: r => .cons (.int x) (Dvs.ints r)
theorem Dvs.nats {H : Hp} : ∀ xs : List Nat, Dvs H (vn xs) xs
  | [] => .nil
  | x :: r => .cons (.nat x) (Dvs.nats r)
theorem Dvs.bls {H : Hp} : ∀ xs : List Bool, Dvs H (xs.map V.bl) xs
  | [] => .nil
  | x :: r => .cons (.bl x) (Dvs.bls r)
/-- a list of whole numbers from 0 on -/
theorem Dv.natl {H : Hp} {a : Addr} {xs : List Nat} (h : H a = some (.lst (vn xs))) : Dv H (.ref a) xs := .list h (Dvs.nats xs)
theorem Dv.natl_inv {H : Hp} {v : V} {xs : List Nat} (h : Dv H v xs) : ∃ a, v = .ref a ∧ H a = some (.lst (vn xs)) := by
  obtain ⟨a, vs, rfl, h1, h2⟩ := h.list_inv
  rw [h2.nats_inv] at h1
  exact ⟨a, rfl, h1⟩
theorem Dv.intl {H : Hp} {a : Addr} {xs : List Int} (h : H a = some (.lst (vi xs))) : Dv H (.ref a) xs := .list h (Dvs.ints xs)
theorem Dv.intl_inv {H : Hp} {v : V} {xs : List Int} (h : Dv H v xs) : ∃ a, v = .ref a ∧ H a = some (.lst (vi xs)) := by
  obtain ⟨a, vs, rfl, h1, h2⟩ := h.list_inv
  rw [h2.ints_inv] at h1
  exact ⟨a, rfl, h1⟩
theorem shaped_of (x : α) (hd : Datum.depth α ≤ 64) : SeqAt.shaped (Datum.toD x) = true := by
  unfold SeqAt.shaped
  rw [Dm.lay x, Bool.true_and]
  exact decide_eq_true (Nat.le_trans (Datum.depth_le x) hd)
theorem eqD {K : PySem.W.Frag} {H : Hp} {x y : V} {Q : VK} {a b : α} (hx : Dv H x a) (hy : Dv H y b) (hd : Datum.depth α ≤ 64) (q : Q (.bl (decide (a = b))) H) : rEqD K x y H Q := by
  refine ⟨_, _, dh_dp _ _ hx, dh_dp _ _ hy, shaped_of a hd, shaped_of b hd, ?_⟩
  rw [Datum.eqv]
  exact q
theorem neD {K : PySem.W.Frag} {H : Hp} {x y : V} {Q : VK} {a b : α} (hx : Dv H x a) (hy : Dv H y b) (hd : Datum.depth α ≤ 64) (q : Q (.bl (!decide (a = b))) H) : rNeD K x y H Q := by
  refine ⟨_, _, dh_dp _ _ hx, dh_dp _ _ hy, shaped_of a hd, shaped_of b hd, ?_⟩
  rw [Datum.eqv]
  exact q
end
/-! ### the heap but for two objects that change -/
def res (p c : Addr) (H : Hp) : Hp := fun b => if b = p ∨ b = c then none else H b
theorem res_eq {p c b : Addr} {H : Hp} (h1 : b ≠ p) (h2 : b ≠ c) : res p c H b = H b := if_neg (fun h => h.elim h1 h2)
theorem res_some {p c b : Addr} {H : Hp} {o : HO} (h : res p c H b = some o) : b ≠ p ∧ b ≠ c ∧ H b = some o := by
  unfold res at h
  by_cases e : b = p ∨ b = c
  · rw [if_pos e] at h
    cases h
  · rw [if_neg e] at h
    exact ⟨fun z => e (.inl z), fun z => e (.inr z), h⟩
theorem res_same (p c : Addr) (H : Hp) : Same (res p c H) H := fun _ _ h => (res_some h).2.2
theorem Same.res {H H' : Hp} (s : Same H H') (p c : Addr) : Same (res p c H) (res p c H') := fun b o h => by
  obtain ⟨h1, h2, h3⟩ := res_some h
  rw [res_eq h1 h2]
  exact s _ _ h3
theorem res_of {p c b : Addr} {H : Hp} {o : HO} (h1 : b ≠ p) (h2 : b ≠ c) (h : H b = some o) : res p c H b = some o := by
  rw [res_eq h1 h2]
  exact h
/-- the heap but for one object -/
def hid (q : Addr) (H : Hp) : Hp := fun b => if b = q then none else H b
theorem hid_eq {q b : Addr} {H : Hp} (h : b ≠ q) : hid q H b = H b := if_neg h
theorem hid_some {q b : Addr} {H : Hp} {o : HO} (h : hid q H b = some o) : b ≠ q ∧ H b = some o := by
  unfold hid at h
  by_cases e : b = q
  · rw [if_pos e] at h
    cases h
  · rw [if_neg e] at h
    exact ⟨e, h⟩
theorem hid_of {q b : Addr} {H : Hp} {o : HO} (h : b ≠ q) (e : H b = some o) : hid q H b = some o := by
  rw [hid_eq h]
  exact e
theorem hid_same (q : Addr) (H : Hp) : Same (hid q H) H := fun _ _ h => (hid_some h).2
theorem hid_mono {q : Addr} {H H' : Hp} (s : Same H H') : Same (hid q H) (hid q H') := fun b o h => by
  obtain ⟨h1, h2⟩ := hid_some h
  exact hid_of h1 (s _ _ h2)
theorem hid_mut {q : Addr} {H : Hp} {o : HO} : Same (hid q H) (hid q (upd H q o)) := fun b u h => by
  obtain ⟨h1, h2⟩ := hid_some h
  exact hid_of h1 (by rw [upd_ne h1]; exact h2)
theorem hid_res_mut {p c q : Addr} {H : Hp} {o : HO} : Same (hid q (res p c H)) (hid q (res p c (upd H q o))) := fun b u h => by
  obtain ⟨h1, h2⟩ := hid_some h
  obtain ⟨h3, h4, h5⟩ := res_some h2
  exact hid_of h1 (res_of h3 h4 (by rw [upd_ne h1]; exact h5))
theorem res_upd {p c q : Addr} {H : Hp} {o : HO} (h1 : q ≠ p) (h2 : q ≠ c) : res p c (upd H q o) q = some o := by
  rw [res_eq h1 h2]
  exact upd_same
theorem res_mut {p c D : Addr} {H H' : Hp} {o : HO} (e : Same (res p c H) (res p c H')) (h : H D = none) : Same (res p c H) (res p c (upd H' D o)) := fun b u hb => by
  obtain ⟨h1, h2, h3⟩ := res_some hb
  have h4 : b ≠ D := fun z => by
    rw [z, h] at h3
    cases h3
  rw [res_eq h1 h2, upd_ne h4]
  exact (res_some (e _ _ hb)).2.2
/-- the state of the draws: the script's numbers, from 0 on, and a seed -/
structure Dr (H : Hp) (p c : Addr) : Prop where
  ne : p ≠ c
  st : ∃ (cs : List Nat) (s : Int), H p = some (.lst [.ref c, .int s]) ∧ H c = some (.lst (vn cs)) ∧ cs.length ≤ 63
theorem Dr.same {H H' : Hp} {p c : Addr} (h : Dr H p c) (s : Same H H') : Dr H' p c := by
  obtain ⟨n, cs, z, h1, h2, h3⟩ := h
  exact ⟨n, cs, z, s _ _ h1, s _ _ h2, h3⟩
theorem Dr.off {H : Hp} {p c q : Addr} (h : Dr H p c) (hq : H q = none) : q ≠ p ∧ q ≠ c := by
  obtain ⟨n, cs, z, h1, h2, h3⟩ := h
  exact ⟨fun e => (by rw [e, h1] at hq; cases hq), fun e => (by rw [e, h2] at hq; cases hq)⟩
/-- from H to H' all but the state of the draws stays -/
structure Go (p c : Addr) (H H' : Hp) : Prop where
  a : Dr H p c
  b : Dr H' p c
  s : Same (res p c H) (res p c H')
theorem Go.refl {p c : Addr} {H : Hp} (h : Dr H p c) : Go p c H H := ⟨h, h, Same.refl _⟩
theorem Go.trans {p c : Addr} {H H1 H2 : Hp} (x : Go p c H H1) (y : Go p c H1 H2) : Go p c H H2 := ⟨x.a, y.b, x.s.trans y.s⟩
theorem Go.of {p c : Addr} {H H' : Hp} (h : Dr H p c) (s : Same H H') : Go p c H H' := ⟨h, h.same s, V0.Same.res s p c⟩
theorem Go.more {p c : Addr} {H H1 H2 : Hp} (x : Go p c H H1) (s : Same H1 H2) : Go p c H H2 := x.trans (Go.of x.b s)
theorem Go.mut {p c D : Addr} {H H' : Hp} {o : HO} (x : Go p c H H') (h : H D = none) : Go p c H (upd H' D o) := by
  refine ⟨x.a, ?_, res_mut x.s h⟩
  obtain ⟨h1, h2⟩ := x.a.off h
  obtain ⟨n, cs, z, e1, e2, e3⟩ := x.b
  exact ⟨n, cs, z, (by rw [upd_ne (fun e => h1 e.symm)]; exact e1), (by rw [upd_ne (fun e => h2 e.symm)]; exact e2), e3⟩
theorem Go.get {p c b : Addr} {H H' : Hp} {o : HO} (x : Go p c H H') (h1 : b ≠ p) (h2 : b ≠ c) (h : H b = some o) : H' b = some o := by
  rw [← res_eq (p := p) (c := c) (H := H) h1 h2] at h
  exact (res_some (x.s _ _ h)).2.2
/-- what was new at H and stands at H1 stands at H' -/
theorem Go.get' {p c b : Addr} {H H1 H' : Hp} {o : HO} (x : Go p c H1 H') (d : Dr H p c) (n : H b = none) (h : H1 b = some o) : H' b = some o := x.get (d.off n).1 (d.off n).2 h
theorem Go.up {p c b : Addr} {H H' : Hp} {o : HO} (x : Go p c H H') (h : res p c H b = some o) : H' b = some o := (res_some (x.s _ _ h)).2.2
theorem Go.none {p c b : Addr} {H H' : Hp} (x : Go p c H H') (h : H' b = none) : H b = none := by
  obtain ⟨h1, h2⟩ := x.b.off h
  cases e : H b with
  | none => rfl
  | some o =>
    rw [x.get h1 h2 e] at h
    cases h
theorem Dv.up {α : Type} [DecidableEq α] [Dm α] {p c : Addr} {H : Hp} {v : V} {x : α} (h : Dv (res p c H) v x) : Dv H v x := h.same (res_same p c H)
theorem Dvs.up {α : Type} [DecidableEq α] [Dm α] {p c : Addr} {H : Hp} {vs : List V} {x : List α} (h : Dvs (res p c H) vs x) : Dvs H vs x := h.same (res_same p c H)
theorem emod_range {x m : Int} (h : 0 < m) : 0 ≤ x.fmod m ∧ x.fmod m < m := by
  rw [Int.fmod_eq_emod_of_nonneg x (by omega)]
  exact ⟨Int.emod_nonneg _ (by omega), Int.emod_lt_of_pos _ h⟩
theorem ix_nat {n j : Nat} (h : j < n) : ixN n (j : Int) = some j := by
  unfold ixN
  rw [if_pos (Int.natCast_nonneg _), if_pos (by omega), Int.toNat_natCast]
/-- what is new at H' -/
def fresh (H H' : Hp) : Hp := fun b => match H b with
  | none => H' b
  | some _ => none
theorem fresh_some {H H' : Hp} {b : Addr} {o : HO} (h : fresh H H' b = some o) : H b = none ∧ H' b = some o := by
  unfold fresh at h
  cases e : H b with
  | none =>
    rw [e] at h
    exact ⟨rfl, h⟩
  | some u =>
    rw [e] at h
    cases h
theorem fresh_of {H H' : Hp} {b : Addr} {o : HO} (h : H b = none) (e : H' b = some o) : fresh H H' b = some o := by
  unfold fresh
  rw [h]
  exact e
theorem fresh_same {H H' : Hp} : Same (fresh H H') H' := fun _ _ h => (fresh_some h).2
theorem fresh_pre {H H1 H' : Hp} (s : Same H H1) : Same (fresh H1 H') (fresh H H') := fun b o h => by
  obtain ⟨h1, h2⟩ := fresh_some h
  refine fresh_of ?_ h2
  cases e : H b with
  | none => rfl
  | some u =>
    rw [s _ _ e] at h1
    cases h1
theorem fresh_post {H H' H2 : Hp} (s : Same H' H2) : Same (fresh H H') (fresh H H2) := fun b o h => by
  obtain ⟨h1, h2⟩ := fresh_some h
  exact fresh_of h1 (s _ _ h2)
theorem fresh_hid {H H' : Hp} {q : Addr} {o : HO} (h : H q = some o) : Same (fresh H H') (hid q H') := fun b u e => by
  obtain ⟨h1, h2⟩ := fresh_some e
  refine hid_of (fun z => ?_) h2
  rw [z, h] at h1
  cases h1
/-- new at H', as H goes to H' by growth -/
theorem none_of {H H' : Hp} {b : Addr} (s : Same H H') (h : H' b = none) : H b = none := by
  cases e : H b with
  | none => rfl
  | some u =>
    rw [s _ _ e] at h
    cases h
theorem upd_id {H : Hp} {a : Addr} {o : HO} (h : H a = some o) : upd H a o = H := funext fun b => by
  by_cases e : b = a
  · rw [e, upd_same, h]
  · rw [upd_ne e]
theorem small64k {n : Nat} (h : n ≤ 65536) : n < sizeLine := Nat.lt_of_le_of_lt h (by decide)
theorem fresh_res {p c : Addr} {H H' : Hp} (d : Dr H p c) : Same (fresh H H') (res p c H') := fun b o h => by
  obtain ⟨h1, h2⟩ := fresh_some h
  obtain ⟨h3, h4⟩ := d.off h1
  exact res_of h3 h4 h2
end V0
/-! nets as data, and what the laws make of them -/
namespace V0
open PySem PySem.Spec PyProof.Rows L2
open PySem.W (Datum)
structure Net where
  ins : Nat
  starts : List Nat
  gates : List (Nat × Nat)
  nexts : List Nat
  outs : List Nat
  deriving DecidableEq
theorem eqv_net (a b : Str) : PyData.eqv (.str a) (.str b) = decide (a = b) := by
  simp only [PyData.eqv]
  exact PySem.W.beq_decide a b
instance : Datum Net where
  toD n := .tuple [.str "net", Datum.toD n.ins, Datum.toD n.starts, Datum.toD n.gates, Datum.toD n.nexts, Datum.toD n.outs]
  plain n := by simp only [PyData.plain, PyData.plainAll, Datum.plain, Bool.and_self]
  eqv a b := by
    simp only [PyData.eqv, PyData.eqvAll, Datum.eqv, Bool.and_true]
    rw [PySem.W.beq_decide, ← Bool.decide_and, ← Bool.decide_and, ← Bool.decide_and, ← Bool.decide_and, ← Bool.decide_and]
    refine decide_eq_decide.mpr ⟨fun ⟨_, h1, h2, h3, h4, h5⟩ => ?_, fun e => by rw [e]; exact ⟨rfl, rfl, rfl, rfl, rfl, rfl⟩⟩
    cases a
    cases b
    simp only at h1 h2 h3 h4 h5
    rw [h1, h2, h3, h4, h5]
  depth := 3
  depth_le n := by
    have h1 := Datum.depth_le n.ins
    have h2 := Datum.depth_le n.starts
    have h3 := Datum.depth_le n.gates
    have h4 := Datum.depth_le n.nexts
    have h5 := Datum.depth_le n.outs
    have e1 : Datum.depth Nat = 0 := rfl
    have e2 : Datum.depth (List Nat) = 1 := rfl
    have e3 : Datum.depth (List (Nat × Nat)) = 2 := rfl
    rw [e1] at h1
    rw [e2] at h2 h4 h5
    rw [e3] at h3
    simp only [PyData.depth, PyData.depthAll]
    omega
instance : Dm Net where
  lay n := by
    have h1 := Dm.lay n.ins
    have h2 := Dm.lay n.starts
    have h3 := Dm.lay n.gates
    have h4 := Dm.lay n.nexts
    have h5 := Dm.lay n.outs
    simp only [Datum.toD] at h1 h2 h3 h4 h5 ⊢
    simp only [PyData.canLay0, PyData.canLayAll0, Bool.and_true] at h1 h2 h3 h4 h5 ⊢
    rw [h2, h3, h4, h5]
    decide +kernel
section
theorem Dv.net_inv {H : Hp} {v : V} {n : Net} (h : Dv H v n) : ∃ a s g x o, v = .ref a ∧ H a = some (.tup [.str "net", .int (n.ins : Int), .ref s, .ref g, .ref x, .ref o]) ∧
    Dv H (.ref s) n.starts ∧ Dv H (.ref g) n.gates ∧ Dv H (.ref x) n.nexts ∧ Dv H (.ref o) n.outs := by
  unfold Dv at h
  cases h with
  | tup h1 h2 =>
    cases h2 with
    | cons a1 h2 =>
      cases h2 with
      | cons a2 h2 =>
        cases h2 with
        | cons a3 h2 =>
          cases h2 with
          | cons a4 h2 =>
            cases h2 with
            | cons a5 h2 =>
              cases h2 with
              | cons a6 h2 =>
                cases h2
                cases a1
                have e2 := Dv.nat_inv (n := n.ins) a2
                subst e2
                obtain ⟨s, _, rfl, _⟩ := Dv.list_inv (xs := n.starts) a3
                obtain ⟨g, _, rfl, _⟩ := Dv.list_inv (xs := n.gates) a4
                obtain ⟨x, _, rfl, _⟩ := Dv.list_inv (xs := n.nexts) a5
                obtain ⟨o, _, rfl, _⟩ := Dv.list_inv (xs := n.outs) a6
                exact ⟨_, _, _, _, _, rfl, h1, a3, a4, a5, a6⟩
theorem Dv.net {H : Hp} {a : Addr} {n : Net} {s g x o : V} (h : H a = some (.tup [.str "net", .int (n.ins : Int), s, g, x, o])) (h1 : Dv H s n.starts) (h2 : Dv H g n.gates) (h3 : Dv H x n.nexts) (h4 : Dv H o n.outs) : Dv H (.ref a) n :=
  Dh.tup h (.cons (.str _) (.cons (.int _) (.cons h1 (.cons h2 (.cons h3 (.cons h4 .nil))))))
end
/-- how many nodes there are behind the inputs and flops -/
def Net.base (n : Net) : Nat := 1 + n.ins + n.starts.length
def Net.many (n : Net) : Nat := n.base + n.gates.length
structure Net.Ok (n : Net) (ins flops most : Nat) : Prop where
  ins : n.ins ≤ ins
  fl : n.starts.length ≤ flops
  bits : ∀ b ∈ n.starts, b < 2
  most : n.gates.length ≤ most
  g : ∀ j g, n.gates[j]? = some g → g.1 < 2 * (n.base + j) ∧ g.2 < 2 * (n.base + j)
  nl : n.nexts.length = n.starts.length
  nx : ∀ x ∈ n.nexts, x < 2 * n.many
  ol : n.outs.length ≤ 3
  ox : ∀ x ∈ n.outs, x < 2 * n.many
/-- a literal's bit in a row of values -/
def bitv (row : List Nat) (l : Nat) : Nat := (row[l / 2]?.getD 0) ^^^ (l % 2)
def rowOf (gs : List (Nat × Nat)) (row : List Nat) : List Nat := gs.foldl (fun r g => r ++ [bitv r g.1 * bitv r g.2]) row
def Net.row (n : Net) (held bits : List Nat) : List Nat := rowOf n.gates (0 :: bits ++ held)
theorem rowOf_len (gs : List (Nat × Nat)) (r : List Nat) : (rowOf gs r).length = r.length + gs.length := by
  induction gs generalizing r with
  | nil => rfl
  | cons g gs ih =>
    show (rowOf gs _).length = _
    rw [ih, List.length_append, List.length_cons, List.length_cons, List.length_nil]
    omega
theorem rowOf_snoc (gs : List (Nat × Nat)) (g : Nat × Nat) (r : List Nat) : rowOf (gs ++ [g]) r = rowOf gs r ++ [bitv (rowOf gs r) g.1 * bitv (rowOf gs r) g.2] := by
  unfold rowOf
  rw [List.foldl_append]
  rfl
theorem bitv_lt {row : List Nat} (h : ∀ b ∈ row, b < 2) (l : Nat) : bitv row l < 2 := by
  have h1 : row[l / 2]?.getD 0 < 2 := by
    cases e : row[l / 2]? with
    | none => decide
    | some x => exact h x (List.mem_of_getElem? e)
  exact Nat.xor_lt_two_pow (n := 1) h1 (Nat.mod_lt _ (by decide))
theorem mul_lt2 {a b : Nat} (ha : a < 2) (hb : b < 2) : a * b < 2 := by
  have : a = 0 ∨ a = 1 := by omega
  rcases this with rfl | rfl <;> omega
theorem rowOf_lt {gs : List (Nat × Nat)} {r : List Nat} (h : ∀ b ∈ r, b < 2) : ∀ b ∈ rowOf gs r, b < 2 := by
  induction gs generalizing r with
  | nil => exact h
  | cons g gs ih =>
    refine ih (r := r ++ [_]) fun b hb => ?_
    rcases List.mem_append.mp hb with hb | hb
    · exact h b hb
    · rw [List.mem_singleton.mp hb]
      exact mul_lt2 (bitv_lt h _) (bitv_lt h _)
theorem take_snoc {α : Type} {xs : List α} {i : Nat} {x : α} (h : xs[i]? = some x) : xs.take (i + 1) = xs.take i ++ [x] := by
  rw [List.take_add_one, h]
  rfl
theorem get_snoc {α : Type} {xs : List α} {x y : α} {k : Nat} (h : (xs ++ [x])[k]? = some y) : (k < xs.length ∧ xs[k]? = some y) ∨ (k = xs.length ∧ y = x) := by
  by_cases hk : k < xs.length
  · rw [List.getElem?_append_left hk] at h
    exact .inl ⟨hk, h⟩
  · rw [List.getElem?_append_right (by omega)] at h
    have e : k - xs.length = 0 := by
      cases e : k - xs.length with
      | zero => rfl
      | succ j =>
        rw [e] at h
        simp at h
    rw [e] at h
    cases h
    exact .inr ⟨by omega, rfl⟩
theorem mem_snoc {α : Type} {P : α → Prop} {xs : List α} {x : α} (h : ∀ y ∈ xs, P y) (hx : P x) : ∀ y ∈ xs ++ [x], P y := by
  intro y hy
  rcases List.mem_append.mp hy with hy | hy
  · exact h y hy
  · rw [List.mem_singleton.mp hy]
    exact hx
theorem vn_snoc (xs : List Nat) (x : Nat) : vn xs ++ [V.int (x : Int)] = vn (xs ++ [x]) := by
  unfold vn
  rw [List.map_append]
  rfl
theorem cut_nn (xs : List Nat) {a b : Nat} (h1 : a ≤ b) (h2 : b ≤ xs.length) : cutV (vn xs) (some (a : Int)) (some (b : Int)) = vn ((xs.drop a).take (b - a)) := by
  unfold cutV
  rw [HT.sIx_nat, HT.sIx_nat, vn_len, Nat.min_eq_left h2, Nat.min_eq_left (Nat.le_trans h1 h2)]
  unfold vn
  rw [← List.map_drop, ← List.map_take]
theorem set_vn (xs : List Nat) (i x : Nat) : (vn xs).set i (.int (x : Int)) = vn (xs.set i x) := by
  unfold vn
  rw [List.map_set]
theorem mem_set {α : Type} {P : α → Prop} {xs : List α} {i : Nat} {x : α} (h : ∀ y ∈ xs, P y) (hx : P x) : ∀ y ∈ xs.set i x, P y := by
  intro y hy
  rcases List.mem_or_eq_of_mem_set hy with hy | rfl
  · exact h y hy
  · exact hx
theorem dec_bool (a b : Bool) : decide (V.bl a = V.bl b) = decide (a = b) := by rw [Bool.eq_iff_iff]; simp
theorem dec_int (a b : Int) : decide (V.int a = V.int b) = decide (a = b) := by rw [Bool.eq_iff_iff]; simp
theorem dec_nat (a b : Nat) : decide (V.int (a : Int) = V.int (b : Int)) = decide (a = b) := by
  rw [dec_int]
  exact decide_eq_decide.mpr ⟨fun e => by omega, fun e => by rw [e]⟩
theorem dec_one (a : Nat) : decide (V.int (a : Int) = V.int 1) = decide (a = 1) := dec_nat a 1
theorem flat_vn : ∀ xs : List Nat, (vn xs).all flatV = true
  | [] => rfl
  | y :: r => by
    show (true && (vn r).all flatV) = true
    rw [flat_vn r]
    rfl
theorem inV_vn (c : Nat) : ∀ xs : List Nat, inV (.int (c : Int)) (vn xs) = decide (c ∈ xs)
  | [] => by rfl
  | y :: r => by
    have ih := inV_vn c r
    show (eqV (.int (y : Int)) (.int (c : Int)) || inV (.int (c : Int)) (vn r)) = _
    rw [ih]
    show (((y : Int) == (c : Int)) || decide (c ∈ r)) = _
    by_cases h : c ∈ r
    · rw [decide_eq_true h, Bool.or_true, decide_eq_true (List.mem_cons_of_mem _ h)]
    · by_cases e : y = c
      · subst e
        rw [beq_self_eq_true, Bool.true_or, decide_eq_true List.mem_cons_self]
      · rw [beq_eq_false_iff_ne.mpr (fun z => e (by omega)), decide_eq_false h, Bool.or_false, decide_eq_false (fun m => ?_)]
        rcases List.mem_cons.mp m with m | m
        · exact e m.symm
        · exact h m
theorem bxor (a b : Nat) : Builtin.bitXor (a : Int) (b : Int) = ((a ^^^ b : Nat) : Int) := by
  rw [Bits.bitXor_pp (Int.natCast_nonneg _) (Int.natCast_nonneg _), Int.toNat_natCast, Int.toNat_natCast]
theorem fdiv_nat (a b : Nat) : ((a : Int)).fdiv (b : Int) = ((a / b : Nat) : Int) := by
  rw [Int.fdiv_eq_ediv_of_nonneg _ (by omega)]
  rfl
theorem fmod_nat (a b : Nat) : ((a : Int)).fmod (b : Int) = ((a % b : Nat) : Int) := by
  rw [Int.fmod_eq_emod_of_nonneg _ (by omega)]
  rfl
theorem nfdiv2 (a : Nat) : ((a : Int)).fdiv 2 = ((a / 2 : Nat) : Int) := fdiv_nat a 2
theorem nfmod2 (a : Nat) : ((a : Int)).fmod 2 = ((a % 2 : Nat) : Int) := fmod_nat a 2
end V0
/-! repr of data, where nothing is being shown; the law's call with what stands around it -/
namespace V0
open PySem PySem.Spec PyProof.Rows L2
open PySem.W (Datum)
def rRepr (K : PySem.W.Frag) : List V → Hp → VK → Prop := fun xs H Q => ∃ (a : Addr) (d : PyData), xs = [.ref a] ∧ Dp K H (.ref a) d ∧ (d.showable = true ∧ d.hasDict = false ∧ d.depth ≤ 60 ∧ d.shown.length ≤ sizeLine) ∧ Q (.str d.shown) H
theorem call_reprD {X : Cx} (hg : X.A.guards = some []) (hu : X.A.units + 64 < cLine) : CallR X (.builtin "repr") (rRepr X.K) := by
  intro pins s σ H xs us Q I r h
  obtain ⟨a, d, rfl, hd, ⟨h1, h2, h3, h4⟩, q⟩ := h
  obtain ⟨u, rfl, rx⟩ := vals1 r
  obtain ⟨as, rd⟩ := Dp.reads I d _ _ hd rx
  obtain rfl : u = Value.ref a := rx
  refine repr_of_reads' rd h1 (PyData.noDict_hsm h2) hg (by omega) (fun _ _ e => e) (fun h' t tk hk => ?_) h4
  exact ⟨.str _, H, I.kept hk, ⟨t, rfl⟩, q⟩
/-- data whose text is short -/
structure Sm (d : PyData) (n : Nat) : Prop where
  sh : d.showable = true
  lv : d.leavesShort 13 = true
  wt : d.weight ≤ n
structure SmA (ds : List PyData) (n : Nat) : Prop where
  sh : PyData.showableAll ds = true
  lv : PyData.leavesShortAll 13 ds = true
  wt : PyData.weightAll ds ≤ n
theorem Sm.mono {d : PyData} {n m : Nat} (h : Sm d n) (l : n ≤ m) : Sm d m := ⟨h.sh, h.lv, Nat.le_trans h.wt l⟩
theorem Sm.int {i : Int} (h : i.natAbs < 10 ^ 12) : Sm (.int i) 40 := by
  have hl : i.natAbs.log2 < 40 := by
    by_cases h0 : i.natAbs = 0
    · rw [h0]
      decide
    · exact (Nat.log2_lt h0).mpr (Nat.lt_trans h (by decide))
  refine ⟨?_, ?_, ?_⟩
  · simp only [PyData.showable, decide_eq_true_eq]
    omega
  · simp only [PyData.leavesShort, decide_eq_true_eq]
    exact PyData.shown_int_le h
  · simp only [PyData.weight]
    split <;> omega
theorem Sm.nat {n : Nat} (h : n < 10 ^ 12) : Sm (.int (n : Int)) 40 := Sm.int (by rw [Int.natAbs_natCast]; exact h)
theorem SmA.nil : SmA [] 0 := ⟨by simp only [PyData.showableAll], by simp only [PyData.leavesShortAll], by simp only [PyData.weightAll]; exact Nat.le_refl _⟩
theorem SmA.cons {d : PyData} {ds : List PyData} {n m : Nat} (h : Sm d n) (hs : SmA ds m) : SmA (d :: ds) (n + 1 + m) :=
  ⟨by simp only [PyData.showableAll, h.sh, hs.sh, Bool.and_self], by simp only [PyData.leavesShortAll, h.lv, hs.lv, Bool.and_self], by simp only [PyData.weightAll]; have := h.wt; have := hs.wt; omega⟩
theorem SmA.all {n : Nat} : ∀ {ds : List PyData}, (∀ d ∈ ds, Sm d n) → SmA ds (ds.length * (n + 1))
  | [], _ => by rw [List.length_nil, Nat.zero_mul]; exact SmA.nil
  | d :: ds, h => by
    have a := SmA.cons (h d List.mem_cons_self) (SmA.all (ds := ds) fun e he => h e (List.mem_cons_of_mem _ he))
    have e : (d :: ds).length * (n + 1) = n + 1 + ds.length * (n + 1) := by
      rw [List.length_cons, Nat.add_mul, Nat.one_mul]
      omega
    rw [e]
    exact a
theorem Sm.list {ds : List PyData} {n : Nat} (h : SmA ds n) : Sm (.list ds) n := ⟨by simp only [PyData.showable, h.sh], by simp only [PyData.leavesShort, h.lv], by simp only [PyData.weight]; exact h.wt⟩
theorem Sm.tup {ds : List PyData} {n : Nat} (h : SmA ds n) : Sm (.tuple ds) n := ⟨by simp only [PyData.showable, h.sh], by simp only [PyData.leavesShort, h.lv], by simp only [PyData.weight]; exact h.wt⟩
theorem Sm.bl (b : Bool) : Sm (.bool b) 0 := ⟨by simp only [PyData.showable], by simp only [PyData.leavesShort], by simp only [PyData.weight]; exact Nat.le_refl _⟩
section
variable {α : Type} [DecidableEq α] [Dm α]
theorem Sm.of_list {xs : List α} {n : Nat} (h : ∀ x ∈ xs, Sm (Datum.toD x) n) : Sm (Datum.toD xs) (xs.length * (n + 1)) := by
  have a := SmA.all (ds := xs.map Datum.toD) (n := n) fun d hd => by
    obtain ⟨x, hx, rfl⟩ := List.mem_map.mp hd
    exact h x hx
  rw [List.length_map] at a
  exact Sm.list a
theorem Sm.nats {xs : List Nat} (h : ∀ x ∈ xs, x < 10 ^ 12) : Sm (Datum.toD xs) (xs.length * 41) := Sm.of_list fun x hx => Sm.nat (h x hx)
theorem Sm.ints {xs : List Int} (h : ∀ x ∈ xs, x.natAbs < 10 ^ 12) : Sm (Datum.toD xs) (xs.length * 41) := Sm.of_list fun x hx => Sm.int (h x hx)
/-- what repr tells of x -/
def txt (x : α) : Str := (Datum.toD x).shown
theorem reprD {K : PySem.W.Frag} {H : Hp} {a : Addr} {x : α} {n : Nat} {Q : VK} (hx : Dv H (.ref a) x) (s : Sm (Datum.toD x) n) (hn : n ≤ 2 ^ 20) (hd : Datum.depth α ≤ 60) (q : Q (.str (txt x)) H) : rRepr K [.ref a] H Q :=
  ⟨a, _, rfl, dh_dp _ _ hx, ⟨s.sh, PyData.hasDict_of_canLay _ (Dm.lay x), Nat.le_trans (Datum.depth_le x) hd, PyData.shown_fits (by decide) (by decide) s.lv (Nat.le_trans s.wt hn)⟩, q⟩
theorem four (x : α) {n : Nat} (s : Sm (Datum.toD x) n) (hn : n ≤ 2 ^ 20) (hd : Datum.depth α ≤ 60) : (Datum.toD x).showable = true ∧ (Datum.toD x).hasDict = false ∧ (Datum.toD x).depth ≤ 60 ∧ (Datum.toD x).shown.length ≤ sizeLine :=
  ⟨s.sh, PyData.hasDict_of_canLay _ (Dm.lay x), Nat.le_trans (Datum.depth_le x) hd, PyData.shown_fits (by decide) (by decide) s.lv (Nat.le_trans s.wt hn)⟩
end
/-! ### the law's call -/
/-- the law's def from where a claim calls it -/
def LawOk (P : Program) (w : World) (K : PySem.W.Frag) (mg : Str → Option Value) (base : Heap) (f : Addr) (fd : FuncData) (ps : List Str) (sp : Sp) : Prop :=
  ∀ (s : Shared) (H : Hp) (args : Args) (us : List Value) (vs : List V) (Q : VK) (E : XK), Env0 P w K mg base callerA [] s H → BindsTo s fd args (ps.zip us) → Vals vs us → sp vs H Q E → codeAny (model P w) callerA (.call (.ref f) args) (CR CX0 [] P w H s Q E) s
theorem lawOk {P : Program} {w : World} {K : PySem.W.Frag} {mg : Str → Option Value} {base : Heap} {x qual : Str} {st : Stmt} {f : Addr} {fd : FuncData} {N ps : List Str} {k : Nat} {sp : Sp} (F : Fun K x qual st f fd) (S : FnScope N ps (defScope st)) (room : Room (k + 1) callerA)
    (len : ∀ vs H Q E, sp vs H Q E → vs.length = ps.length)
    (body : ∀ (cdv : Value) (A : Around) (outer : List Env) (s : Shared) (H : Hp) (vs : List V) (Q : VK) (E : XK), Room k (A.deeper (envOfC qual (defScope st) s.heap.objs.size f cdv)) → (A.deeper (envOfC qual (defScope st) s.heap.objs.size f cdv)).guards = some [] → sp vs H Q E →
      ∃ t, PSs (cxOf CX0 P w K mg base N qual (defScope st) f cdv A outer s H E).nox (defBody st) t ∧ t { nx := fun _ H' => Q .non H', rt := Q } (L2.start N vs) H) : LawOk P w K mg base f fd ps sp := by
  obtain ⟨_, _, _, _, _, _, cdv, _, _, rfl, look, cod⟩ := F.ex
  intro s H args us vs Q E env bind rel want
  have inK : K.In s.heap := env.mod.kin.keeps fun b o g => (env.bs b o g).1
  have free : s.heap.NoLimit := env.mod.nolimit.keeps fun b o g => (env.bs b o g).1
  have vis : ∀ y ∈ ps.zip us, (defScope st).names.lookup y.1 = some .local ∨ ((defScope st).names.lookup y.1 = some .cell ∧ ((cellsFrom (s.heap.objs.size + 1) (defScope st).names []).lookup y.1).isSome = true) := by
    rintro ⟨n, v⟩ hy
    exact (S.par n (List.of_mem_zip hy).1).imp id fun c => ⟨c, PySem.W.cellsFrom_some _ _ _ (.inl c)⟩
  refine codeAny_call_function room.depth (inK _ _ look) rfl S.co S.gen rfl (PySem.W.codeRec_of inK cod) (bind _ _ _ _ ?_)
  refine wpAny_newFunctionEnv_cells S.kind vis fun env1 he s1 made => ?_
  subst he
  refine ⟨free.keeps made.toInCall.keep, codeAny_func ?_⟩
  obtain ⟨t, ht, ok⟩ := body cdv callerA [] s H vs Q E (room.deeper _) rfl want
  have I := inv_start (CX := CX0) (E := E) S room.hd env (len _ _ _ _ want) rel made
  refine wpAny_mono ((ht.nox).run [] s1 (L2.start N vs) H _ I ok) (fun fl s' told => ?_) fun e s' told => told
  cases fl with
  | next =>
    obtain ⟨_, H', J, done⟩ := told
    exact ⟨.non, H', J.os, J.bare, J.base, J.hok, rfl, done⟩
  | ret u =>
    obtain ⟨v, _, H', J, rv, done⟩ := told
    exact ⟨v, H', J.os, J.bare, J.base, J.hok, rv, done⟩
  | brk => exact told.elim fun _ h => h.elim fun _ h => h.2.elim
  | cont => exact told.elim fun _ h => h.elim fun _ h => h.2.elim
theorem law_at {P : Program} {w : World} {K : PySem.W.Frag} {mg mb : Str → Option Value} {f a : Addr} {fd : FuncData} {x : Str} {sp : Sp} {s : Shared} {us : List Value} {ns : List Int}
    (kin : K.In s.heap) (glob : s.heap.Ns mainGlobals mg) (blt : s.heap.Ns builtinsNs mb) (same : ∀ y : Str, y ≠ "__name__" → mb y = bootBuiltins y) (free : s.heap.NoLimit) (gens : s.gens = #[])
    (script : s.heap.get? a = some { cls := .type "list", data := .seq us.toArray }) (whole : IntsAre us ns) (few : ns.length ≤ sizeLine)
    (F : ∀ base : Heap, K.In base → base.Ns mainGlobals mg → LawOk P w K mg base f fd [x] sp) (binds : ∀ (t : Shared) (u : Value), BindsTo t fd ⟨[u], []⟩ [(x, u)])
    (want : ∀ H : Hp, Only H → SqL K H a (ns.map V.int) → sp [.ref a] H (fun v _ => v = .bl true) fun _ _ _ => False) :
    codeAny (model P w) callerA (.call (.ref f) ⟨[.ref a], []⟩) (fun r t => r = .ok (.ret (.bool true)) ∧ OldK s.heap t.heap ∧ t.os = s.os ∧ AllBare t.gens) s := by
  have rel := vals_ints whole
  have long := whole.length
  -- what is tracked at the start: the script, if it is not one of the module's own objects
  obtain ⟨H, only, seq, fits, dom, own⟩ : ∃ H : Hp, Only H ∧ SqL K H a (ns.map V.int) ∧ HOk P w H s.heap ∧ (∀ b o, H b = some o → b = a) ∧ (∀ o, H a = some o → K.lookup a = none) := by
    cases kl : K.lookup a with
    | some o =>
      have g := kin a o kl
      rw [script] at g
      cases g
      refine ⟨fun _ => none, fun _ => .inl rfl, .inr ⟨_, us.toArray, _, kl, rfl, rfl, rfl, ?_, ?_⟩, ?_, ?_, ?_⟩
      · rw [List.size_toArray, long]
        exact few
      · rw [List.toList_toArray]
        exact rel
      · intro b u z
        cases z
      · intro b u z
        cases z
      · intro u z
        cases z
    | none =>
      let fz : HO := .frz { cls := .type "list", data := .seq us.toArray } (.lst (ns.map V.int))
      have at_a : (fun b => if b = a then some fz else none : Hp) a = some fz := if_pos rfl
      have off_a : ∀ {b : Addr}, b ≠ a → (fun b => if b = a then some fz else none : Hp) b = none := fun h => if_neg h
      refine ⟨fun b => if b = a then some fz else none, fun b => ?_, .inl (.inr ⟨_, at_a⟩), fun b u z => ?_, fun b u z => ?_, fun _ _ => rfl⟩
      · by_cases e : b = a
        · subst e
          exact .inr ⟨_, _, at_a⟩
        · exact .inl (off_a e)
      · by_cases e : b = a
        · subst e
          rw [at_a] at z
          cases z
          refine ⟨script, ?_, us, _, rel, script⟩
          rw [List.length_map]
          exact few
        · rw [off_a e] at z
          cases z
      · by_cases e : b = a
        · exact e
        · rw [off_a e] at z
          cases z
  have under : ∀ {b : Addr} {o : Obj}, s.heap.get? b = some o → H b = none → (hidT s.heap H).get? b = some o := fun g n => hidT_get g n
  have dicts : ∀ {b : Addr} {m : Str → Option Value}, s.heap.Ns b m → (hidT s.heap H).Ns b m := by
    rintro b m ⟨o, es, ep, g, d, r⟩
    refine ⟨o, es, ep, under g ?_, d, r⟩
    cases hb : H b with
    | none => rfl
    | some u =>
      obtain rfl := dom b u hb
      rw [script] at g
      cases g
      cases d
  have kinB : K.In (hidT s.heap H) := by
    intro b o kl
    refine under (kin b o kl) ?_
    cases hb : H b with
    | none => rfl
    | some u =>
      obtain rfl := dom b u hb
      rw [own u hb] at kl
      cases kl
  have modB : Mod K mg (hidT s.heap H) := by
    refine ⟨kinB, dicts glob, ⟨mb, dicts blt, same⟩, ?_⟩
    obtain ⟨mc, z1, z2⟩ := free
    exact ⟨mc, dicts z1, z2⟩
  have env : Env0 P w K mg (hidT s.heap H) callerA [] s H :=
    ⟨rfl, modB, fun b o g => of_hidT g, Nat.le_of_eq (hidT_size _ _), trivial, fun b hb => (by cases hb), fits, .of_eq gens⟩
  refine codeAny_mono (F _ kinB (dicts glob) s H ⟨[.ref a], []⟩ [.ref a] [.ref a] _ _ env (binds s (.ref a)) (.cons rfl .nil) (want H only seq)) fun r t told => ?_
  match r, told with
  | .error e, told => exact told.elim
  | .ok .next, told => exact told.elim
  | .ok .brk, told => exact told.elim
  | .ok .cont, told => exact told.elim
  | .ok (.ret u), ⟨v, H', os, bare, un, fits', rv, yes⟩ =>
    have yes' : v = .bl true := yes
    subst yes'
    have eu : u = Value.bool true := rv
    subst eu
    refine ⟨rfl, OldK.of_keep fun b o g => ?_, os, bare⟩
    cases hb : H b with
    | none => exact un.keep b o g hb (fun z => (by cases z)) (by simp)
    | some u2 =>
      rcases only b with z | ⟨ob, xs, z⟩
      · rw [z] at hb
        cases hb
      · obtain ⟨e1, _⟩ := fits b _ z
        obtain ⟨e2, _⟩ := fits' b _ (un.frzs b ob _ z)
        rw [g] at e1
        cases e1
        exact e2
/-- the goal that k_head leaves, where the law's promise is LawOk -/
theorem walk_at {l : PySem.W.OpenLaw} {n : Nat} {q : Program} {loose : List Str} {XP : (Str → Option Value) → Heap → Prop} {YP : World → Heap → Prop} {d : DefRec} {K : Params → PySem.W.Frag} {sp : PySem.W.Frag → Sp} {x : Str}
    (hn : l.most = some n) (hs : n ≤ sizeLine) (plain : d.params.defaults = []) (hY : ∀ (w : World) (h : Heap), YP w h → (K w.params).In h)
    (F : ∀ (w : World) (mg : Str → Option Value) (f : Addr) (h : Heap), (K w.params).In h → h.Ns mainGlobals mg → mg d.name = some (.ref f) →
      ∃ fd : FuncData, (∀ (s : Shared) (u : Value), BindsTo s fd ⟨[u], []⟩ [(x, u)]) ∧ ∀ base : Heap, (K w.params).In base → base.Ns mainGlobals mg → LawOk l.prog w (K w.params) mg base f fd [x] (sp (K w.params)))
    (want : ∀ (K : PySem.W.Frag) (H : Hp) (a : Addr) (ns : List Int), ns.length ≤ n → Only H → SqL K H a (ns.map V.int) → sp K [.ref a] H (fun v _ => v = .bl true) fun _ _ _ => False) :
    PySem.W.WalkO q loose XP YP l.row.toRowW d [] (fun f vs => PySem.call f vs) := by
  refine Att.attach_call hn plain fun w _ s1 mg mb f _ _ _ _ a us ns G Y _ _ _ named obj whole few gens => ?_
  have kin := hY w _ Y
  obtain ⟨fd, binds, told⟩ := F w mg f _ kin G.T.g named
  exact law_at kin G.T.g G.T.b G.T.builtins G.T.nolimit gens obj whole (Nat.le_trans few hs) told binds fun H only seq => want _ H a ns few only seq
end V0
/-! set(xs) of a list of whole numbers, and len of such a set -/
namespace V0
open PySem PySem.Spec PyProof.Rows L2
/-- the set that set.__new__ leaves -/
def bare (w : World) : Obj := { cls := .type "set", dict := none, data := .set #[] 0 (.fresh 0 0 (!w.params.followText "set-order")) }
section
variable {P : Program} {w : World} {A : Around} {E : Value → Shared → Prop} {s : Shared}
/-- what set.__init__ does with a list of ints -/
theorem set_filled {l : Addr} {arr : Array Value} {xs : List Int} {R : Value → Shared → Prop} (calm : A.handled = none) (lst : s.heap.IsList l arr) (num : IntsAre arr.toList xs) (few : xs.length + 1 < scanBound)
    (told : ∀ (h' : Heap) (tk c : Nat), SetR w h' s.heap.objs.size (fun j => decide (j ∈ xs)) c → c ≤ xs.length → (∀ b o, s.heap.get? b = some o → h'.get? b = some o) → R .none { s with heap := h', toks := tk }) :
    codeAny (model P w) A (.call (.builtin "set.__init__") ⟨[.ref s.heap.objs.size, .ref l], []⟩) (wants R E) { s with heap := s.heap.push (bare w) } := by
  have own : (s.heap.push (bare w)).get? s.heap.objs.size = some (bare w) := Heap.get?_push_size _ rfl
  have kind : Shared.TypeIs { s with heap := s.heap.push (bare w) } (.ref s.heap.objs.size) "set" := ⟨_, own, rfl⟩
  have many : arr.size = xs.length := by rw [← Array.length_toList, IntsAre.length num]
  refine codeAny_call_builtin F.called_set.init.plain F.entry_set_init (check_set_init_1 kind ?_)
  obtain ⟨⟨cl, od, dat, sl⟩, at_l, is_l, nn, is_d⟩ := lst
  dsimp only at is_l is_d
  subst is_l is_d
  have below := Heap.lt_size at_l
  have at_l1 : (s.heap.push (bare w)).get? l = some ⟨.type "list", od, .seq arr nn, sl⟩ := Heap.get?_push_of_some _ at_l
  have lst1 : (s.heap.push (bare w)).IsList l arr := ⟨_, at_l1, rfl, nn, rfl⟩
  have no1 := F.sub_list_set
  have no2 := F.sub_list_frozenset
  have no3 : (Value.type "list" == Value.type "dict") = false := by decide
  unfold Builtin.«set.__init__» noKeywords Builtin.Frozenset.updateFrom
  generalize walker : pyIter = PI
  wp_walk
  subst walker
  refine wpAny_pyIter_list lst1 (wpAny_bind (wpAny_runValue ?_))
  have size1 : (s.heap.push (bare w)).objs.size = s.heap.objs.size + 1 := Heap.size_push ..
  have ne1 : l ≠ (s.heap.push (bare w)).objs.size := size1 ▸ Nat.ne_of_lt (Nat.lt_succ_of_lt below)
  have calm3 : A.in1.in1.handled = none := by simp [calm]
  have out : s.heap.objs.size ∉ [(s.heap.push (bare w)).objs.size, l] := by
    intro hm
    rcases List.mem_cons.mp hm with e | hm
    · rw [size1] at e
      exact Nat.ne_of_lt (Nat.lt_succ_self _) e
    · exact Nat.ne_of_lt below (List.mem_singleton.mp hm).symm
  have each : ∀ (i : Nat) (v : Value), arr[i]? = some v → ∃ k t, xs[i]? = some k ∧ v = .int k t := by
    intro i v hv
    have hi : i < xs.length := many ▸ (Array.getElem?_eq_some_iff.mp hv).1
    obtain ⟨t, e⟩ := PyProof.Rows.IntsAre.int_at num i v ((Array.getElem?_toList ..).trans hv)
    refine ⟨xs[i], t, List.getElem?_eq_getElem hi, ?_⟩
    rw [e, List.getD_eq_getElem?_getD, List.getElem?_eq_getElem hi]
    rfl
  refine set_update_ints ((Walks.list calm3 _ l ne1 arr).toS) s.heap.objs.size out xs many few each (arr.size - 0) 0 _ (by omega) (Nat.zero_le _) ⟨⟨_, Heap.get?_push_size _ rfl, rfl, rfl⟩, lst1.push _⟩ ⟨0, Nat.le_refl 0, setR_new_at (Heap.get?_push_of_some _ own)⟩ ?_
  rintro ⟨h', g', d', tk', os'⟩ c moved bound full
  obtain rfl : g' = s.gens := moved.gens
  obtain rfl : d' = s.drawn := moved.drawn
  obtain rfl : os' = s.os := moved.os
  show wpAny _ _ _ _ _ _
  refine wpAny_pure ?_
  show wpAny _ _ (ret Value.none) _ _ _
  refine wpAny_pure (told h' tk' c full (many ▸ bound) fun b o e => ?_)
  have low := Heap.lt_size e
  refine moved.heap b o ?_ (Heap.get?_push_of_some _ (Heap.get?_push_of_some _ e))
  intro hm
  rcases List.mem_cons.mp hm with z | hm
  · exact Nat.ne_of_lt low z
  · have z := List.mem_singleton.mp hm
    rw [size1] at z
    exact Nat.ne_of_lt (Nat.lt_succ_of_lt low) z
theorem call_set_ints {l : Addr} {arr : Array Value} {xs : List Int} {Q : Value → Shared → Prop} (calm : A.handled = none) (lst : s.heap.IsList l arr) (num : IntsAre arr.toList xs) (few : xs.length + 1 < scanBound)
    (then_ : ∀ (h' : Heap) (tk c : Nat), SetR w h' s.heap.objs.size (fun j => decide (j ∈ xs)) c → c ≤ xs.length → (∀ b o, s.heap.get? b = some o → h'.get? b = some o) → Q (.ref s.heap.objs.size) { s with heap := h', toks := tk }) :
    wpAny (model P w) A (call (.type "set") [.ref l]) Q E s := by
  obtain ⟨_, _, order⟩ := F.called_set.mro
  have made := F.called_set.made
  have below := F.called_set.sub
  refine wpAny_call (codeAny_of_tree ?_)
  show wpAny _ _ (callAny (.type "set") ⟨[.ref l], []⟩) _ _ s
  refine wpAny_pure ⟨Code.quiet_builtin _ (by decide +kernel), codeAny_builtin F.entry_type_call ?_⟩
  rw [Around.under_plain (weight_type_call_type "set" [.ref l] []) rfl]
  have f1 := F.called_set.notType
  have f2 := F.called_set.canCreate
  have f3 := F.typeCall_set_1 (.ref l)
  repeat (any_goals (first | assumption | wp_step))
  refine codeAny_mono (code_set_led1 (.ref l) (E := E) (Q₁ := fun u t => u = .ref s.heap.objs.size ∧ t = { s with heap := s.heap.push (bare w) }) ⟨rfl, rfl⟩) fun r t first => ?_
  match r, first with
  | .error e, first => exact first
  | .ok .next, first => exact first.elim
  | .ok .brk, first => exact first.elim
  | .ok .cont, first => exact first.elim
  | .ok (.ret u), ⟨eu, et⟩ =>
    subst eu et
    have kind : Shared.TypeIs { s with heap := s.heap.push (bare w) } (.ref s.heap.objs.size) "set" := ⟨_, Heap.get?_push_size _ rfl, rfl⟩
    have f4 := F.called_set.init.lookup
    have f5 := F.called_set.init.bind (.ref s.heap.objs.size)
    repeat (any_goals (first | assumption | wp_step))
    refine codeAny_mono (set_filled (A := _) (E := E) (R := fun v t => v = .none ∧ ∃ h' tk c, t = { s with heap := h', toks := tk } ∧ SetR w h' s.heap.objs.size (fun j => decide (j ∈ xs)) c ∧ c ≤ xs.length ∧ (∀ b o, s.heap.get? b = some o → h'.get? b = some o)) (by simp [calm]) lst num few fun h' tk c a b k => ⟨rfl, h', tk, c, rfl, a, b, k⟩) fun r t second => ?_
    match r, second with
    | .error e, second => exact second
    | .ok .next, second => exact second.elim
    | .ok .brk, second => exact second.elim
    | .ok .cont, second => exact second.elim
    | .ok (.ret v), ⟨ev, h', tk, c, et, a, b, k⟩ =>
      subst ev et
      repeat (any_goals (first | assumption | wp_step))
      exact then_ _ _ _ a b k
end
/-- set(xs) -/
def rSetOf (K : PySem.W.Frag) (w : World) : List V → Hp → VK → Prop := fun vs H Q => ∃ (l : Addr) (xs : List Int), vs = [.ref l] ∧ SqL K H l (xs.map V.int) ∧ xs.length ≤ 4000 ∧ ∀ p c, H p = none → c ≤ xs.length → Q (.ref p) (upd H p (SetO w p (fun j => decide (j ∈ xs)) c))
theorem cr_setOf {X : Cx} (hc : X.calm = true) : CallR X (.type "set") (rSetOf X.K X.w) := by
  intro pins s σ H vs us Q I r h
  obtain ⟨l, xs, rfl, seq, few, q⟩ := h
  obtain rfl := Vals.ref1 r
  obtain ⟨its, rv, pl, _⟩ := I.list seq
  have num : IntsAre its xs := intsAre_of rv
  refine call_set_ints (I.ok.hd hc) pl.isList (by simpa using num) (by unfold scanBound; omega) fun h' tk c full bound k => ?_
  exact ⟨.ref _, _, I.laid (t' := tk) k (Nat.le_refl _) (setO_new full), rfl, q _ c (I.hok.fresh (Nat.le_refl _)) bound⟩
/-- the ascending list of what stands in xs -/
theorem asc_mem {ns : List Int} {xs : List Nat} (h1 : ns.Pairwise (· < ·)) (h2 : ∀ k : Int, k ∈ ns ↔ k ∈ xs.map (fun (x : Nat) => (x : Int))) : ∃ ys : List Nat, ns = ys.map (fun (x : Nat) => (x : Int)) ∧ ys.Pairwise (· < ·) ∧ ∀ y, y ∈ ys ↔ y ∈ xs := by
  refine ⟨ns.map Int.toNat, ?_, ?_, ?_⟩
  · rw [List.map_map]
    refine (List.map_id ns).symm.trans (List.map_congr_left fun k hk => ?_)
    obtain ⟨x, _, rfl⟩ := List.mem_map.mp ((h2 k).mp hk)
    rfl
  · rw [List.pairwise_map]
    refine h1.imp_of_mem fun {a b} ha hb hab => ?_
    obtain ⟨x, _, rfl⟩ := List.mem_map.mp ((h2 a).mp ha)
    obtain ⟨y, _, rfl⟩ := List.mem_map.mp ((h2 b).mp hb)
    show (x : Int).toNat < (y : Int).toNat
    omega
  · intro y
    rw [List.mem_map]
    constructor
    · rintro ⟨k, hk, rfl⟩
      obtain ⟨x, hx, rfl⟩ := List.mem_map.mp ((h2 k).mp hk)
      exact hx
    · intro hy
      exact ⟨(y : Int), (h2 _).mpr (List.mem_map.mpr ⟨y, hy, rfl⟩), rfl⟩
theorem asc_unique : ∀ {xs ys : List Nat}, xs.Pairwise (· < ·) → ys.Pairwise (· < ·) → (∀ y, y ∈ xs ↔ y ∈ ys) → xs = ys
  | [], [], _, _, _ => rfl
  | [], y :: ys, _, _, h => by
    have := (h y).mpr List.mem_cons_self
    cases this
  | x :: xs, [], _, _, h => by
    have := (h x).mp List.mem_cons_self
    cases this
  | x :: xs, y :: ys, h1, h2, h => by
    rw [List.pairwise_cons] at h1 h2
    have e : x = y := by
      have a := (h x).mp List.mem_cons_self
      have b := (h y).mpr List.mem_cons_self
      rcases List.mem_cons.mp a with a | a
      · exact a
      · rcases List.mem_cons.mp b with b | b
        · exact b.symm
        · have c := h1.1 y b
          have d := h2.1 x a
          omega
    subst e
    rw [asc_unique h1.2 h2.2 fun z => ?_]
    have hz := h z
    rw [List.mem_cons, List.mem_cons] at hz
    constructor
    · intro m
      rcases hz.mp (.inr m) with rfl | m2
      · exact absurd (h1.1 z m) (Nat.lt_irrefl _)
      · exact m2
    · intro m
      rcases hz.mpr (.inr m) with rfl | m2
      · exact absurd (h2.1 z m) (Nat.lt_irrefl _)
      · exact m2
abbrev toI (xs : List Nat) : List Int := xs.map (fun (b : Nat) => (b : Int))
theorem vn_int (xs : List Nat) : vn xs = (toI xs).map V.int := by
  unfold toI
  rw [List.map_map]
  rfl
/-- sorted(set(xs)) -/
theorem sorted_set_nat {K : PySem.W.Frag} {w : World} {H : Hp} {l : Addr} {xs : List Nat} {Q : VK} (h : H l = some (.lst (vn xs))) (few : xs.length < 64)
    (q : ∀ p ys H', Same H H' → H p = none → H' p = some (.lst (vn ys)) → ys.Pairwise (· < ·) → (∀ y, y ∈ ys ↔ y ∈ xs) → ys.length ≤ xs.length → Q (.ref p) H') :
    rSetOf K w [.ref l] H (fun z Hz => rSortedSet w [z] Hz Q) := by
  refine ⟨l, toI xs, rfl, SqL.of (by rw [h, vn_int]), by rw [List.length_map]; omega, fun pz c nz hc => ⟨pz, _, c, rfl, upd_same, ?_, fun ns p asc mem len np => ?_⟩⟩
  · rw [List.length_map] at hc
    omega
  · obtain ⟨ys, rfl, h1, h2⟩ := asc_mem (xs := xs) asc fun k => by rw [mem k, decide_eq_true_eq]
    rw [List.length_map] at hc len
    have s1 := same_new (o := SetO w pz (fun j => decide (j ∈ toI xs)) c) nz
    refine q p ys _ (s1.trans (same_new np)) (none_of s1 np) ?_ h1 h2 (by omega)
    rw [upd_same, vn_int]
theorem perm_asc {ns : List Int} {ks : List Nat} (h1 : ns.Perm (toI ks)) (h2 : ns.Pairwise (· ≤ ·)) (nd : ks.Nodup) : ∃ zs : List Nat, ns = toI zs ∧ zs.Pairwise (· < ·) ∧ ∀ y, y ∈ zs ↔ y ∈ ks := by
  have nd1 : (toI ks).Nodup := by
    show List.Pairwise (· ≠ ·) (List.map _ ks)
    rw [List.pairwise_map]
    have nd' : ks.Pairwise (· ≠ ·) := nd
    exact nd'.imp fun {a b} h e => h (by omega)
  have nd2 : ns.Nodup := h1.nodup_iff.mpr nd1
  have h3 : ns.Pairwise (· < ·) := by
    have h4 : ns.Pairwise (· ≠ ·) := nd2
    exact (h2.and h4).imp fun {a b} h => by omega
  exact asc_mem h3 fun k => h1.mem_iff
/-! ### marks in a dict -/
def mkD (ks : List Nat) : List (Key × V) := ks.map fun (x : Nat) => (Sum.inl (x : Int), V.bl true)
theorem mkD_val (ks : List Nat) (y : Nat) : valV (mkD ks) (Sum.inl (y : Int)) = if y ∈ ks then some (V.bl true) else none := by
  induction ks with
  | nil =>
    rw [if_neg List.not_mem_nil]
    rfl
  | cons x r ih =>
    show valV ((Sum.inl (x : Int), V.bl true) :: mkD r) _ = _
    by_cases e : x = y
    · subst e
      rw [valV_pos (p := (Sum.inl (x : Int), V.bl true)) rfl, if_pos List.mem_cons_self]
    · rw [valV_neg (p := (Sum.inl (x : Int), V.bl true)) (fun z => e (by have := Sum.inl.inj z; omega)), ih]
      by_cases h : y ∈ r
      · rw [if_pos h, if_pos (List.mem_cons_of_mem _ h)]
      · rw [if_neg h, if_neg (fun m => (List.mem_cons.mp m).elim (fun z => e z.symm) h)]
def addN (ks : List Nat) (y : Nat) : List Nat := if y ∈ ks then ks else ks ++ [y]
theorem mkD_put (ks : List Nat) (y : Nat) : putK (mkD ks) (Sum.inl (y : Int)) (V.bl true) = mkD (addN ks y) := by
  unfold addN
  have hv := mkD_val ks y
  by_cases h : y ∈ ks
  · rw [if_pos h]
    rw [if_pos h] at hv
    have ha : ((mkD ks).any fun kv => decide (kv.1 = Sum.inl (y : Int))) = true := by rw [valV_any, hv]; rfl
    unfold putK
    rw [if_pos ha]
    unfold mkD
    rw [List.map_map]
    refine List.map_congr_left fun x _ => ?_
    show (if (Sum.inl (x : Int) : Key) = Sum.inl (y : Int) then ((Sum.inl (x : Int) : Key), V.bl true) else (Sum.inl (x : Int), V.bl true)) = _
    split <;> rfl
  · rw [if_neg h] at hv ⊢
    rw [putK_new _ hv]
    unfold mkD
    rw [List.map_append]
    rfl
theorem addN_mem (ks : List Nat) (y z : Nat) : z ∈ addN ks y ↔ z ∈ ks ∨ z = y := by
  unfold addN
  split
  · rename_i h
    constructor
    · exact .inl
    · rintro (m | rfl)
      · exact m
      · exact h
  · rw [List.mem_append, List.mem_singleton]
theorem addN_nodup {ks : List Nat} (h : ks.Nodup) (y : Nat) : (addN ks y).Nodup := by
  unfold addN
  split
  · exact h
  · rename_i hy
    rw [List.nodup_append]
    refine ⟨h, by simp, fun a ha b hb e => ?_⟩
    rw [List.mem_singleton.mp hb] at e
    exact hy (e ▸ ha)
theorem sum_int : ∀ xs : List Nat, (toI xs).sum = ((xs.sum : Nat) : Int)
  | [] => rfl
  | b :: r => by
    show ((b : Int) :: toI r).sum = ((b + r.sum : Nat) : Int)
    rw [List.sum_cons, sum_int r]
    omega
end V0
/-! sorted(a set of ints), of any number of them -/
namespace V0
open PySem PySem.Spec PyProof.Rows L2
section
variable {P : Program} {w : World} {A : Around} {E : Value → Shared → Prop} {s : Shared} {a : Addr}
theorem sorted_setW {S : Int → Bool} {n : Nat} {Q : Value → Shared → Prop} (R : SetR w s.heap a S n) (hh : A.handled = none)
    (hQ : ∀ s' p (out : Array Value) (c : Nat) (ns : List Int), (∀ b o, s.heap.get? b = some o → s'.heap.get? b = some o) → s'.gens = s.gens → s'.os = s.os → s.heap.objs.size ≤ p →
      s'.heap.get? p = some (seqObj "list" out c) → IntsAre out.toList ns → ns.Pairwise (· < ·) → (∀ k, k ∈ ns ↔ S k = true) → ns.length = n → n ≤ sizeLine → Q (.ref p) s') :
    wpAny (model P w) A (call (.builtin "sorted") [.ref a]) Q E s := by
  obtain ⟨o, es, ep, t, ho, hex, hd, g, nd, hm, hb, hf, hn, hr, hl⟩ := R
  have hz : n ≤ sizeLine := by rw [← hn]; exact fits_of_scanBound hb
  refine Calls.call_function_entry kind_sorted plain_sorted entry_sorted (args_sorted1 _) ?_
  unfold Builtin.«sorted»
  refine wpAny_bind (m := checkCount "sorted" 1 1 _) (wpAny_pure ?_)
  refine wpAny_bind (collect_set (A := A.in1) hh ⟨o, ho, hex.1, hd⟩ hf hb hr hl fun s1 vs k1 hz1 g1 o1 pm => ?_)
  have hvl : vs.length = n := by rw [pm.length_eq, List.length_map, Array.length_toList]; exact hn
  have hI : IntsAre vs (vs.map Builtin.Re.reRawOf) := ints_of vs fun v hv => by
    obtain ⟨e, he, q⟩ := List.mem_map.mp (pm.mem_iff.mp hv)
    obtain ⟨k, tk, h1, _⟩ := g e he
    exact ⟨k, tk, by rw [← q]; exact h1⟩
  have pk : (vs.map Builtin.Re.reRawOf).Perm (es.toList.map keyOf) := by
    have q := pm.map Builtin.Re.reRawOf
    rw [List.map_map] at q
    exact q
  refine wpAny_bind (wpAny_newList ?_ (by rw [hvl]; exact hz))
  have hoL : (s1.heap.push (seqObj "list" vs.toArray 0)).get? s1.heap.objs.size = some (seqObj "list" vs.toArray 0) := Heap.get?_push_size _ rfl
  refine wpAny_bind (wpAny_holding (wpAny_call_entry slot_list_sort ⟨_, hoL, rfl⟩ entry_list_sort (SrtO.list_sort_ord SrtO.swo_int hoL (by rw [hvl]; exact hz) (fun h2 => SrtO.ints_sortable hI h2) fun out h1 h2 => ⟨_, rfl, ?_⟩) (args_list_sort _)))
  obtain ⟨k1', a2, a1⟩ := SrtO.ints_out hI h1 h2
  obtain ⟨c, hc⟩ := sortedHeap_at (vs := vs) (out := out.toArray) hoL
  have pn : (out.map SrtO.iv).Perm (es.toList.map keyOf) := a2.trans pk
  refine wpAny_pure ⟨_, rfl, hQ _ s1.heap.objs.size out.toArray c (out.map SrtO.iv) (fun b u e => ?_) g1 o1 hz1 hc k1' (lt_of_le_nodup _ a1 (pn.nodup_iff.mpr nd)) (fun k => by rw [pn.mem_iff, ← hm k]) ?_ hz⟩
  · have q := k1 b u e
    have hlt := Heap.lt_size q
    show (sortedHeap (s1.heap.push (seqObj "list" vs.toArray 0)) s1.heap.objs.size vs out.toArray).get? b = some u
    rw [sortedHeap_old (Nat.ne_of_lt hlt) (by rw [size_push']; exact Nat.lt_succ_of_lt hlt)]
    exact Heap.get?_push_of_some _ q
  · rw [pn.length_eq, List.length_map, Array.length_toList]; exact hn
end
/-- sorted(found), any number of members -/
def rSortedSetW (w : World) : List V → Hp → VK → Prop := fun vs H Q => ∃ (a : Addr) (S : Int → Bool) (n : Nat), vs = [V.ref a] ∧ H a = some (SetO w a S n) ∧
  ∀ (ns : List Int) (p : Addr), ns.Pairwise (· < ·) → (∀ k : Int, k ∈ ns ↔ S k = true) → ns.length = n → H p = none → Q (.ref p) (upd H p (.lst (ns.map V.int)))
section
variable {X : Cx}
theorem cr_sortedSetW (hc : X.calm = true) : CallR X (.builtin "sorted") (rSortedSetW X.w) := by
  intro pins s σ H vs us Q I r h
  obtain ⟨a, S, n, rfl, ha, q⟩ := h
  have R := setO_get I ha
  rw [Vals.ref1 r]
  refine sorted_setW R (I.ok.hd hc) fun s' p out c ns k g o hp hg hi hs hm hl hz => ?_
  have hlen : (ns.map V.int).length ≤ sizeLine := by rw [List.length_map, hl]; exact hz
  have hn : H p = none := I.hok.fresh hp
  have J : Inv X pins σ (upd H p (.lst (ns.map V.int))) { s with heap := s'.heap, gens := s'.gens, drawn := s'.drawn, toks := s'.toks } :=
    I.call (ch := []) (Un.laid k hp hn) (I.hok.laid k hp ⟨hlen, out.toList, c, vals_of_ints hi, hg⟩) (by rw [g]; exact I.bare) (fun _ z => nomatch z)
  have e : s' = { s with heap := s'.heap, gens := s'.gens, drawn := s'.drawn, toks := s'.toks } := by
    cases s'
    cases s
    cases o
    rfl
  rw [e]
  exact ⟨.ref p, _, J, rfl, q ns p hs hm hl hn⟩
end
end V0
/-! cuts of nets, bits of tables -/
namespace V0
open PySem PySem.Spec PyProof.Rows L2
open PySem.W (Datum)
/-! ### numbers by their bits -/
def num : List Nat → Nat
  | [] => 0
  | b :: r => b + 2 * num r
theorem num_append (xs ys : List Nat) : num (xs ++ ys) = num xs + 2 ^ xs.length * num ys := by
  induction xs with
  | nil => simp [num]
  | cons b r ih =>
    show b + 2 * num (r ++ ys) = b + 2 * num r + 2 ^ (r.length + 1) * num ys
    rw [ih, Nat.pow_succ, Nat.mul_add, Nat.mul_comm (2 ^ r.length) 2, Nat.mul_assoc, Nat.add_assoc]
theorem num_snoc (xs : List Nat) (b : Nat) : num (xs ++ [b]) = num xs + b * 2 ^ xs.length := by
  rw [num_append]
  show num xs + 2 ^ xs.length * (b + 2 * 0) = _
  rw [Nat.mul_zero, Nat.add_zero, Nat.mul_comm]
theorem num_lt {xs : List Nat} (h : ∀ b ∈ xs, b < 2) : num xs < 2 ^ xs.length := by
  induction xs with
  | nil => decide
  | cons b r ih =>
    have h1 := h b List.mem_cons_self
    have h2 := ih fun c hc => h c (List.mem_cons_of_mem _ hc)
    show b + 2 * num r < 2 ^ (r.length + 1)
    rw [Nat.pow_succ]
    omega
theorem num_testBit {xs : List Nat} (h : ∀ b ∈ xs, b < 2) (i : Nat) : (num xs).testBit i = decide (xs[i]? = some 1) := by
  induction xs generalizing i with
  | nil => simp [num]
  | cons b r ih =>
    have h1 := h b List.mem_cons_self
    have hb : b = 0 ∨ b = 1 := by omega
    have h2 := fun j => ih (fun c hc => h c (List.mem_cons_of_mem _ hc)) j
    cases i with
    | zero =>
      show (b + 2 * num r).testBit 0 = decide (some b = some 1)
      rw [Nat.testBit_zero]
      rcases hb with rfl | rfl
      · have : (0 + 2 * num r) % 2 = 0 := by omega
        rw [this]
        rfl
      · have : (1 + 2 * num r) % 2 = 1 := by omega
        rw [this]
        rfl
    | succ j =>
      show (b + 2 * num r).testBit (j + 1) = decide (r[j]? = some 1)
      rw [Nat.testBit_succ, ← h2 j]
      congr 1
      omega
/-- the columns of bits f 0, f 1, .. -/
def colN (m : Nat) (f : Nat → Nat) : Nat := num ((List.range m).map f)
theorem col_succ (m : Nat) (f : Nat → Nat) : colN (m + 1) f = colN m f + f m * 2 ^ m := by
  unfold colN
  rw [map_range_succ, num_snoc, List.length_map, List.length_range]
theorem col_lt (m : Nat) (f : Nat → Nat) (h : ∀ i, i < m → f i < 2) : colN m f < 2 ^ m := by
  have := num_lt (xs := (List.range m).map f) fun b hb => by
    obtain ⟨i, hi, rfl⟩ := List.mem_map.mp hb
    exact h i (List.mem_range.mp hi)
  rw [List.length_map, List.length_range] at this
  exact this
theorem col_testBit {m : Nat} {f : Nat → Nat} (h : ∀ i, i < m → f i < 2) (i : Nat) : (colN m f).testBit i = (decide (i < m) && decide (f i = 1)) := by
  unfold colN
  rw [num_testBit]
  · by_cases hi : i < m
    · rw [List.getElem?_map, List.getElem?_range hi, decide_eq_true hi, Bool.true_and]
      show decide (some (f i) = some 1) = _
      exact decide_eq_decide.mpr ⟨fun e => Option.some.inj e, fun e => by rw [e]⟩
    · rw [List.getElem?_eq_none (by rw [List.length_map, List.length_range]; omega), decide_eq_false hi]
      rfl
  · intro b hb
    obtain ⟨i, hi, rfl⟩ := List.mem_map.mp hb
    exact h i (List.mem_range.mp hi)
theorem col_and {m : Nat} {f g : Nat → Nat} (hf : ∀ i, i < m → f i < 2) (hg : ∀ i, i < m → g i < 2) : colN m f &&& colN m g = colN m (fun i => f i * g i) := by
  apply Nat.eq_of_testBit_eq
  intro i
  rw [Nat.testBit_and, col_testBit hf, col_testBit hg, col_testBit (fun i hi => mul_lt2 (hf i hi) (hg i hi))]
  by_cases hi : i < m
  · rw [decide_eq_true hi, Bool.true_and, Bool.true_and, Bool.true_and]
    have h1 := hf i hi
    have h2 := hg i hi
    have e1 : f i = 0 ∨ f i = 1 := by omega
    have e2 : g i = 0 ∨ g i = 1 := by omega
    rcases e1 with e1 | e1 <;> rcases e2 with e2 | e2 <;> rw [e1, e2] <;> decide
  · rw [decide_eq_false hi]
    rfl
theorem col_xor {m : Nat} {f : Nat → Nat} (hf : ∀ i, i < m → f i < 2) (l : Nat) : colN m f ^^^ (if l % 2 = 1 then 2 ^ m - 1 else 0) = colN m (fun i => f i ^^^ (l % 2)) := by
  have hx : ∀ i, i < m → f i ^^^ (l % 2) < 2 := fun i hi => Nat.xor_lt_two_pow (n := 1) (hf i hi) (Nat.mod_lt _ (by decide))
  apply Nat.eq_of_testBit_eq
  intro i
  rw [Nat.testBit_xor, col_testBit hf, col_testBit hx]
  rcases Nat.mod_two_eq_zero_or_one l with e | e
  · rw [if_neg (by omega), e, Nat.zero_testBit, Bool.xor_false]
    simp
  · rw [if_pos e, e, Nat.testBit_two_pow_sub_one]
    by_cases hi : i < m
    · rw [decide_eq_true hi, Bool.true_and, Bool.true_and]
      have h1 := hf i hi
      have e1 : f i = 0 ∨ f i = 1 := by omega
      rcases e1 with e1 | e1 <;> rw [e1] <;> decide
    · rw [decide_eq_false hi]
      rfl
/-- the sum of the powers whose bit is set -/
theorem sum_pows (m : Nat) (f : Nat → Nat) (h : ∀ i, i < m → f i < 2) : (((List.range m).filter fun i => decide (f i = 1)).map fun i => 2 ^ i).sum = colN m f := by
  induction m with
  | zero => rfl
  | succ m ih =>
    rw [List.range_succ, List.filter_append, List.map_append, List.sum_append, ih fun i hi => h i (by omega), col_succ]
    have h1 := h m (by omega)
    have e1 : f m = 0 ∨ f m = 1 := by omega
    rcases e1 with e1 | e1
    · simp [e1]
    · simp [e1]
/-! ### cuts -/
inductive Sep (n : Net) (cut : List Nat) : Nat → Prop
  | hit {x : Nat} : x ∈ cut → Sep n cut x
  | gate {x : Nat} {g : Nat × Nat} : n.base ≤ x → n.gates[x - n.base]? = some g → Sep n cut (g.1 / 2) → Sep n cut (g.2 / 2) → Sep n cut x
def kids (n : Net) (x : Nat) : List Nat := if x < n.base then [] else match n.gates[x - n.base]? with
  | some g => [g.1 / 2, g.2 / 2]
  | none => []
theorem Sep.expand {n : Net} {cut other : List Nat} {node : Nat} (hn : kids n node ≠ []) (hk : ∀ y ∈ kids n node, y ∈ other) (ho : ∀ y ∈ cut, y ≠ node → y ∈ other) {x : Nat} (h : Sep n cut x) : Sep n other x := by
  induction h with
  | @hit x hx =>
    by_cases e : x = node
    · subst e
      unfold kids at hn hk
      by_cases hb : x < n.base
      · rw [if_pos hb] at hn
        exact absurd rfl hn
      · rw [if_neg hb] at hn hk
        cases eg : n.gates[x - n.base]? with
        | none =>
          rw [eg] at hn
          exact absurd rfl hn
        | some g =>
          rw [eg] at hk
          exact .gate (by omega) eg (.hit (hk _ (by simp))) (.hit (hk _ (by simp)))
    · exact .hit (ho x hx e)
  | gate hb hg _ _ i1 i2 => exact .gate hb hg i1 i2
theorem Sep.mono {n : Net} {cut other : List Nat} (ho : ∀ y ∈ cut, y ∈ other) {x : Nat} (h : Sep n cut x) : Sep n other x := by
  induction h with
  | hit hx => exact .hit (ho _ hx)
  | gate hb hg _ _ i1 i2 => exact .gate hb hg i1 i2
theorem Sep.some {n : Net} {cut : List Nat} {x : Nat} (h : Sep n cut x) : cut ≠ [] := by
  induction h with
  | hit hx => exact List.ne_nil_of_mem hx
  | gate _ _ _ _ i1 _ => exact i1
/-- a net as the law draws it -/
structure TOk (n : Net) : Prop where
  i1 : 1 ≤ n.ins
  i4 : n.ins ≤ 4
  fl : n.starts.length ≤ 2
  gl : n.gates.length ≤ 9
  g : ∀ j g, n.gates[j]? = some g → (2 ≤ g.1 ∧ g.1 < 2 * (n.base + j)) ∧ (2 ≤ g.2 ∧ g.2 < 2 * (n.base + j)) ∧ g.1 / 2 ≠ g.2 / 2
theorem TOk.kid {n : Net} (t : TOk n) {x y : Nat} (h : y ∈ kids n x) : 1 ≤ y ∧ y < x ∧ n.base ≤ x := by
  unfold kids at h
  by_cases hb : x < n.base
  · rw [if_pos hb] at h
    cases h
  · rw [if_neg hb] at h
    cases eg : n.gates[x - n.base]? with
    | none =>
      rw [eg] at h
      cases h
    | some g =>
      rw [eg] at h
      have := t.g _ _ eg
      simp only [List.mem_cons, List.not_mem_nil, or_false] at h
      rcases h with rfl | rfl <;> omega
structure IsCut (n : Net) (gate : Nat) (cut : List Nat) (k : Nat) : Prop where
  len : cut.length ≤ k
  asc : cut.Pairwise (· < ·)
  bnd : ∀ x ∈ cut, 0 < x ∧ x < gate
  sep : ∀ y ∈ kids n gate, Sep n cut y
theorem kids_gate {n : Net} {x : Nat} (h1 : n.base ≤ x) (h2 : x < n.many) : ∃ g, n.gates[x - n.base]? = some g ∧ kids n x = [g.1 / 2, g.2 / 2] := by
  have hj : x - n.base < n.gates.length := by
    unfold Net.many at h2
    omega
  refine ⟨_, List.getElem?_eq_getElem hj, ?_⟩
  unfold kids
  rw [if_neg (by omega), List.getElem?_eq_getElem hj]
theorem IsCut.some {n : Net} {gate k : Nat} {cut : List Nat} (c : IsCut n gate cut k) (h1 : n.base ≤ gate) (h2 : gate < n.many) : cut ≠ [] := by
  obtain ⟨g, _, e⟩ := kids_gate h1 h2
  exact (c.sep (g.1 / 2) (by rw [e]; simp)).some
theorem Sep.gate_of {n : Net} {cut : List Nat} {x : Nat} (h : Sep n cut x) (hx : x ∉ cut) : n.base ≤ x ∧ x < n.many ∧ ∀ y ∈ kids n x, Sep n cut y := by
  cases h with
  | hit h => exact absurd h hx
  | @gate _ g hb hg h1 h2 =>
    have hj := (List.getElem?_eq_some_iff.mp hg).1
    refine ⟨hb, by unfold Net.many; omega, fun y hy => ?_⟩
    unfold kids at hy
    rw [if_neg (by omega), hg] at hy
    simp only [List.mem_cons, List.not_mem_nil, or_false] at hy
    rcases hy with rfl | rfl
    · exact h1
    · exact h2
theorem kids_len (n : Net) (x : Nat) : (kids n x).length ≤ 2 := by
  unfold kids
  split
  · decide
  · split <;> simp
theorem nodup_bound : ∀ {m : Nat} {xs : List Nat}, xs.Nodup → (∀ x ∈ xs, x < m) → xs.length ≤ m
  | 0, xs, _, b => by
    cases xs with
    | nil => exact Nat.le_refl _
    | cons x r => exact absurd (b x List.mem_cons_self) (Nat.not_lt_zero _)
  | m + 1, xs, h, b => by
    have ih := nodup_bound (m := m) (xs := xs.erase m) (h.erase m) fun x hx => by
      have h1 := (h.mem_erase_iff).mp hx
      have h2 := b x h1.2
      have h3 := h1.1
      omega
    rw [List.length_erase] at ih
    split at ih <;> omega
theorem many16 {n : Net} (ok : TOk n) : n.many ≤ 16 := by
  have := ok.i4
  have := ok.fl
  have := ok.gl
  unfold Net.many Net.base
  omega
/-! ### bits of gates -/
def gbit (n : Net) (kn : Nat → Option Nat) (x : Nat) : Nat := match kn x with
  | some b => b
  | none => match n.gates[x - n.base]? with
    | none => 0
    | some g => if h : g.1 / 2 < x ∧ g.2 / 2 < x then (gbit n kn (g.1 / 2) ^^^ (g.1 % 2)) * (gbit n kn (g.2 / 2) ^^^ (g.2 % 2)) else 0
termination_by x
decreasing_by
  · exact h.1
  · exact h.2
theorem gbit_hit {n : Net} {kn : Nat → Option Nat} {x b : Nat} (h : kn x = some b) : gbit n kn x = b := by
  rw [gbit, h]
theorem gbit_gate {n : Net} {kn : Nat → Option Nat} {x : Nat} {g : Nat × Nat} (h : kn x = none) (hg : n.gates[x - n.base]? = some g) (h1 : g.1 / 2 < x) (h2 : g.2 / 2 < x) :
    gbit n kn x = (gbit n kn (g.1 / 2) ^^^ (g.1 % 2)) * (gbit n kn (g.2 / 2) ^^^ (g.2 % 2)) := by
  rw [gbit, h]
  simp only [hg]
  rw [dif_pos ⟨h1, h2⟩]
theorem gbit_lt {n : Net} {kn : Nat → Option Nat} (hk : ∀ x b, kn x = some b → b < 2) (x : Nat) : gbit n kn x < 2 := by
  induction x using Nat.strongRecOn with
  | ind x ih =>
    rw [gbit]
    cases e : kn x with
    | some b => exact hk x b e
    | none =>
      simp only
      cases eg : n.gates[x - n.base]? with
      | none =>
        show 0 < 2
        decide
      | some g =>
        simp only
        split
        · rename_i h
          exact mul_lt2 (Nat.xor_lt_two_pow (n := 1) (ih _ h.1) (Nat.mod_lt _ (by decide))) (Nat.xor_lt_two_pow (n := 1) (ih _ h.2) (Nat.mod_lt _ (by decide)))
        · decide
/-- what is known of the m-th choice of values of a cut -/
def kn (cut : List Nat) (m x : Nat) : Option Nat := if x ∈ cut then some (m / 2 ^ (cut.idxOf x) % 2) else none
theorem kn_lt (cut : List Nat) (m : Nat) : ∀ x b, kn cut m x = some b → b < 2 := by
  intro x b h
  unfold kn at h
  split at h
  · cases h
    exact Nat.mod_lt _ (by decide)
  · cases h
def colOf (n : Net) (cut : List Nat) (x : Nat) : Nat := colN (2 ^ cut.length) fun m => gbit n (kn cut m) x
theorem colOf_hit {n : Net} {cut : List Nat} {x : Nat} (h : x ∈ cut) : colOf n cut x = colN (2 ^ cut.length) fun m => m / 2 ^ (cut.idxOf x) % 2 := by
  unfold colOf
  congr 1
  funext m
  exact gbit_hit (if_pos h)
theorem colOf_gate {n : Net} {cut : List Nat} {x : Nat} {g : Nat × Nat} (h : x ∉ cut) (hg : n.gates[x - n.base]? = some g) (h1 : g.1 / 2 < x) (h2 : g.2 / 2 < x) :
    colOf n cut x = (colOf n cut (g.1 / 2) ^^^ (if g.1 % 2 = 1 then 2 ^ 2 ^ cut.length - 1 else 0)) &&& (colOf n cut (g.2 / 2) ^^^ (if g.2 % 2 = 1 then 2 ^ 2 ^ cut.length - 1 else 0)) := by
  have hx : ∀ (y l : Nat), ∀ i, i < 2 ^ cut.length → gbit n (kn cut i) y ^^^ (l % 2) < 2 := fun y l i _ => Nat.xor_lt_two_pow (n := 1) (gbit_lt (kn_lt cut i) y) (Nat.mod_lt _ (by decide))
  unfold colOf
  rw [col_xor fun i _ => gbit_lt (kn_lt cut i) _, col_xor fun i _ => gbit_lt (kn_lt cut i) _, col_and (hx _ _) (hx _ _)]
  congr 1
  funext m
  exact gbit_gate (if_neg h) hg h1 h2
/-! ### what stands above a cut -/
structure MK (n : Net) (gate : Nat) (cut ks : List Nat) : Prop where
  nd : ks.Nodup
  g : gate ∈ ks
  b : ∀ x ∈ ks, n.base ≤ x ∧ x ≤ gate ∧ x ∉ cut ∧ ∀ y ∈ kids n x, Sep n cut y
structure Above (n : Net) (gate : Nat) (cut ab : List Nat) : Prop where
  asc : ab.Pairwise (· < ·)
  g : gate ∈ ab
  b : ∀ x ∈ ab, n.base ≤ x ∧ x ≤ gate ∧ x ∉ cut
  k : ∀ x ∈ ab, ∀ y ∈ kids n x, y ∈ cut ∨ y ∈ ab
theorem band (a b : Nat) : Builtin.bitAnd (a : Int) (b : Int) = ((a &&& b : Nat) : Int) := by
  rw [bitAnd_pp (Int.natCast_nonneg _) (Int.natCast_nonneg _), Int.toNat_natCast, Int.toNat_natCast]
theorem band_one (a : Nat) : Builtin.bitAnd (a : Int) 1 = ((a % 2 : Nat) : Int) := by
  have h := PySem.W.kbt_mask ((a : Nat) : Int) 1
  rw [show (2 : Int) ^ 1 - 1 = 1 by decide, show (2 : Int) ^ 1 = 2 by decide] at h
  rw [h]
  rfl
theorem shl_nat (a k : Nat) : (a : Int) * 2 ^ ((k : Int)).toNat = ((a * 2 ^ k : Nat) : Int) := by
  rw [Int.toNat_natCast, Int.natCast_mul, Int.natCast_pow]
  rfl
theorem shl_one (k : Nat) : (1 : Int) * 2 ^ ((k : Int)).toNat = ((2 ^ k : Nat) : Int) := by
  rw [Int.one_mul, Int.toNat_natCast, Int.natCast_pow]
  rfl
theorem shr_nat (a k : Nat) : (a : Int) / 2 ^ ((k : Int)).toNat = ((a / 2 ^ k : Nat) : Int) := by
  rw [Int.toNat_natCast, Int.natCast_ediv, Int.natCast_pow]
  rfl
theorem shr_one (a : Nat) : (a : Int) / 2 ^ ((1 : Int)).toNat = ((a / 2 : Nat) : Int) := rfl
end V0
/-! methods and classes of the text as callers need them; len of a set of tuples -/
namespace V0
open PySem PySem.Spec PyProof.Rows L2
structure MDef (K : PySem.W.Frag) (C : Addr) (m : Str) (f : Addr) (fd : FuncData) (ps : List Str) : Prop where
  m : Meth K C m f
  b : Binds K fd ps []
structure IDef (K : PySem.W.Frag) (C : Addr) (f : Addr) (fd : FuncData) (ps : List Str) : Prop where
  k : Mk K C f
  b : Binds K fd ps []
/-- len of a set of tuples -/
def rLenST (P : Program) (w : World) : List V → Hp → VK → Prop := fun vs H Q => ∃ (a : Addr) (L : List (Addr × List Int)), vs = [.ref a] ∧ H a = some (SetTO P w a L) ∧ ((L.map (·.2)).Nodup → Q (.int (L.length : Nat)) H)
theorem call_lenST {X : Cx} : CallR X (.builtin "len") (rLenST X.prog X.w) := by
  intro pins s σ H vs us Q I r h
  obtain ⟨a, L, rfl, ha, q⟩ := h
  obtain rfl := Vals.ref1 r
  have R0 : SetT0 X.prog X.w s.heap a L := (I.hok a _ ha).1
  obtain ⟨es, ep, t, ⟨o, ho, hex, hd⟩, rows, tab, nd, _, _, room, few⟩ := R0.ex
  have hl : es.size = L.length := by
    rw [← Array.length_toList, rows]
    exact List.length_map _
  have hfits : t.fits es.size = true := by
    unfold SetTable.fits SetTable.fill
    have hsz := tab.sz
    rw [List.length_map] at hsz
    rw [tab.dm, Bool.and_eq_true, beq_iff_eq, decide_eq_true_eq]
    show t.place.size = es.size ∧ t.place.size + 0 ≤ t.mask
    omega
  refine call_len_set ho hex hd hfits (by omega) ⟨.int (L.length : Nat), H, I.tok _, ⟨_, by rw [hl]⟩, q nd⟩
end V0
/-! xs[i] op= e; more operators in place; comprehensions of two clauses by an invariant -/
namespace V0
open PySem PySem.Spec PyProof.Rows L2
theorem pg_ixL {X : Cx} : PGet X (rIxL X.K) := by
  intro pins s σ H x y v u Q I rx ry h
  obtain ⟨p, xs, i, z, rfl, rfl, hq, he, q⟩ := h
  cases rx
  obtain ⟨t, rfl⟩ := ry
  obtain ⟨its, r, pl, hz⟩ := I.list hq
  obtain ⟨j, h1, h2, h3, h4, h5⟩ := atI_get he
  obtain ⟨w, ew, rw'⟩ := r.get h2
  have hl := r.length
  have hn := line63
  have fin : EP X pins σ Q w s := ⟨z, H, I, rw', q⟩
  by_cases h0 : 0 ≤ i
  · have hj : i.toNat = j := by
      rw [seqIndex_of h0 h5] at h1
      exact Option.some.inj h1
    exact wpAny_getItem_list pl.isList h0 (by omega) (by rw [hj]; simpa using ew) fin
  · have hj : (i + (its.toArray.size : Int)).toNat = j := by
      rw [seqIndex_neg (by omega) h4] at h1
      rw [List.size_toArray, ← hl]
      exact Option.some.inj h1
    exact wpAny_getItem_list_neg pl.isList (by omega) (by rw [List.size_toArray] <;> omega) (by omega) (by rw [hj]; simpa using ew) fin
theorem ip_or {X : Cx} : PIp X .BitOr (ipI fun i j => Builtin.bitOr i j) := by
  intro pins s σ H x y v u Q I r1 r2 h
  obtain ⟨i, j, e1, e2, q⟩ := h
  subst e1; subst e2
  obtain ⟨t, rfl⟩ := r1
  obtain ⟨t', rfl⟩ := r2
  exact ior_int ⟨.int _, H, I.tok _, ⟨_, rfl⟩, q⟩
/-- a star in a display, K told -/
theorem pa_starK {X : Cx} {K : PySem.W.Frag} {e : Expr} {es : List Expr} {te : TE} {t : TA} {p : Pos} (hK : X.K = K) (he : PE X e te) (hr : PA X es t) (hs : starEach (.Starred e p :: es) X.env = (true, eval e X.env) :: starEach es X.env := by rfl) : PA X (.Starred e p :: es) (StX.tStar K te t) := by
  subst hK
  exact StX.pa_star he hr hs
/-- a if t else b: what both ways give -/
theorem ifx {b : Bool} {A B : VK → Prop} {Q : VK} (R : V → Hp → Prop) (hA : b = true → ∀ Q : VK, (∀ y H', R y H' → Q y H') → A Q) (hB : b = false → ∀ Q : VK, (∀ y H', R y H' → Q y H') → B Q) (fin : ∀ y H', R y H' → Q y H') : if b = true then A Q else B Q := by
  cases b with
  | true => exact iteT (hA rfl Q fin)
  | false => exact iteF (hB rfl Q fin)
/-- a walked thing's number of turns, and what each turn gives -/
structure Wk (J : It) (n : Nat) (Y : Nat → Hp → V → Hp → Prop) (S : Nat → Hp → Prop) : Prop where
  stop : ∀ H, S n H → J.stop n H
  go : ∀ i H, i < n → S i H → J.go i H
  yld : ∀ i H x H', i < n → S i H → J.yld i H x H' → Y i H x H'
theorem wk_range {lo : Int} {n : Nat} : Wk (Itr lo n) n (fun i H x H' => x = .int (lo + i) ∧ H' = H) (fun _ _ => True) := by
  refine ⟨fun H _ => Nat.le_refl _, fun i H h _ => h, fun i H x H' _ _ y => ?_⟩
  obtain ⟨e, y⟩ := y
  exact ⟨y, e⟩
theorem wk_list {K : PySem.W.Frag} {a : Addr} {xs : List V} : Wk (Itl K a) xs.length (fun i H x H' => xs[i]? = some x ∧ H' = H) (fun _ H => SqL K H a xs) := by
  refine ⟨fun H h => ⟨xs, h, Nat.le_refl _⟩, fun i H h s => ⟨xs, xs[i], s, by simp [h]⟩, fun i H x H' _ s y => ?_⟩
  obtain ⟨e, y⟩ := y
  subst e
  exact ⟨y xs s, rfl⟩
theorem wk_tup {K : PySem.W.Frag} {a : Addr} {xs : List V} : Wk (Itt K a) xs.length (fun i H x H' => xs[i]? = some x ∧ H' = H) (fun _ H => SqT K H a xs) := by
  refine ⟨fun H h => ⟨xs, h, Nat.le_refl _⟩, fun i H h s => ⟨xs, xs[i], s, by simp [h]⟩, fun i H x H' _ s y => ?_⟩
  obtain ⟨e, y⟩ := y
  subst e
  exact ⟨y xs s, rfl⟩
/-- the outer clause of a comprehension of two, and its inner one -/
theorem lc2_out {J : It} {n : Nat} {Y : Nat → Hp → V → Hp → Prop} {S : Nat → Hp → Prop} {g : TG} {tt : TT} {inner : L2.St → Hp → (Hp → Prop) → Prop} {vs : List Nat} {σ : L2.St} {H1 : Hp} {Qd : Hp → Prop} (w : Wk J n Y S) (Pv : Nat → Hp → Prop) (h0 : Pv 0 H1) (hl : ∀ i H, i ≤ n → Pv i H → S i H)
    (hs : ∀ i H x H', i < n → Pv i H → Y i H x H' → g x (wipe σ vs) H' fun σ2 H2 => wipe σ2 vs = wipe σ vs ∧ tt σ2 H2 fun b H3 => if b = true then inner σ2 H3 (Pv (i + 1)) else Pv (i + 1) H3) (hd : ∀ H, Pv n H → Qd H) :
    ∃ W : Nat → Nat → Hp → Prop, (∃ m, W 0 m H1) ∧ ∀ i m H, W i m H →
      (J.stop i H ∧ Qd H) ∨ (J.go i H ∧ ∃ Nx : Hp → Prop, (∀ H', Nx H' → ∃ m', m' < m ∧ W (i + 1) m' H') ∧ ∀ x H', J.yld i H x H' → g x (wipe σ vs) H' fun σ2 H2 => wipe σ2 vs = wipe σ vs ∧ tt σ2 H2 fun b H3 =>
        if b = true then inner σ2 H3 Nx else Nx H3) := by
  refine ⟨fun i m H => m = n - i ∧ i ≤ n ∧ Pv i H, ⟨n, by simp, Nat.zero_le _, h0⟩, ?_⟩
  rintro i m H ⟨rfl, hi, p⟩
  by_cases hlt : i < n
  · refine .inr ⟨w.go i H hlt (hl i H hi p), Pv (i + 1), fun H' p' => ⟨n - (i + 1), by omega, rfl, hlt, p'⟩, fun x H' y => ?_⟩
    exact hs i H x H' hlt p (w.yld i H x H' hlt (hl i H hi p) y)
  · have e : i = n := by omega
    subst e
    exact .inl ⟨w.stop H (hl i H hi p), hd H p⟩
end V0
/-! list(d.values()) -/
namespace V0
open PySem PySem.Spec PyProof.Rows L2
/-- list(o.values()), o a dict -/
def tListVals (td : TE) : TE := fun σ H Q => td σ H fun x H1 => ∃ a kvs, x = V.ref a ∧ H1 a = some (.dK kvs) ∧ ∀ q, H1 q = none → Q (.ref q) (upd H1 q (.lst (kvs.map (·.2))))
theorem kv_at : ∀ {kvs : List (Key × V)} {vs : List (Key × Value)}, KV kvs vs → ∀ {i : Nat} {k : Key} {v : Value}, vs[i]? = some (k, v) → ∃ x, kvs[i]? = some (k, x) ∧ RelV x v := by
  intro kvs vs r
  induction r with
  | nil =>
    intro i k v e
    simp at e
  | cons p r ih =>
    intro i k v e
    rename_i a b as bs
    cases i with
    | zero =>
      cases e
      exact ⟨a.2, (show some a = some (k, a.2) from congrArg some (Prod.ext p.1 rfl)), p.2⟩
    | succ i => exact ih e
theorem pe_listVals {X : Cx} {o : Expr} {p pos apos mpos : Pos} {td : TE} (hc : X.calm = true) (hg : Gl X "list") (hm : X.mg "list" = none) (hd : PE X o td) (hbase : attributeBase o "values" X.env (eval o X.env) = eval o X.env := by rfl) (hline : (apos.endLine == mpos.line) = true := by rfl)
    (na : starEach [Expr.Call (.Attribute o "values" apos) [] [] mpos] X.env = (false, eval (Expr.Call (.Attribute o "values" apos) [] [] mpos) X.env) :: starEach [] X.env := by rfl) :
    PE X (.Call (.Name "list" p) [.Call (.Attribute o "values" apos) [] [] mpos] [] pos) (tListVals td) := by
  refine ⟨fun pins s σ H Q I h => ?_⟩
  refine Call_ (ld_blt I hg hm boot_list (PyProof.Rows.callWith_type1 (args_cons (wpAny_Call_method0_late hbase hline (thn (hd.run pins s σ H _ I h) fun v s1 ⟨x, H1, I1, r1, a, kvs, ex, ha, q⟩ => ?_)) na) na))
  subst ex
  obtain rfl : v = Value.ref a := r1
  obtain ⟨hz, hsys, vs, rel, dof⟩ := dk_of I1.hok ha
  obtain ⟨ep, dat⟩ := dof.dictAt
  have dat' := dat
  obtain ⟨ob, es, ho, ex, hdat, hko, hpr, hnd⟩ := dat'
  refine ⟨"dict", "dict.values", F.plainAttrs_dict, F.slot_dict_values, F.type_dict_values, ⟨ob, ho, ex.1⟩, fun b e => ?_, Calls.callWith_builtin rfl (PySem.evalArgs_none ?_)⟩
  · cases e
    exact ⟨ob, ho, ex.2.1⟩
  refine call_meetsIn F.slot_dict_values ⟨ob, ho, ex.1⟩ F.entry_dict_values (F.args_dict_values_1 _) (meets_dict_values (mixKind X.prog X.w) a hsys) ⟨⟨vs, dof⟩, args_nil ?_⟩
  have k1 : ∀ b u, s1.heap.get? b = some u → (s1.heap.push { cls := .type "dict_values", data := .fields #[.ref a] }).get? b = some u := fun b u e => Heap.get?_push_of_some _ e
  have dat1 : (s1.heap.push { cls := .type "dict_values", data := .fields #[.ref a] }).DictAt (mixKind X.prog X.w) a vs ep := dat.keep k1
  have hl : kvs.length = vs.length := Paired.length rel
  refine PySem.W.kdl_call (PySem.W.kdl_values (knd := mixKind X.prog X.w) (kvs := vs) (ep := ep) (r := s1.heap.objs.size) (d := a)) (I1.ok.hd hc) ⟨⟨_, Heap.get?_push_size _ rfl, rfl, rfl⟩, dat1⟩ (by rw [← hl]; exact hz) fun h' tk acc' c' hk hS hacc => ?_
  have up : s1.heap.objs.size ≤ (s1.heap.push { cls := .type "dict_values", data := .fields #[.ref a] }).objs.size := by rw [Heap.size_push]; exact Nat.le_succ _
  refine ⟨.ref _, upd H1 _ (.lst (kvs.map (·.2))), I1.laid (t' := tk) (fun b u e => hk b u (k1 b u e)) up (show ObjOk X.prog X.w _ _ _ (.lst (kvs.map (·.2))) from ⟨?_, acc'.toList, c', ?_, ?_⟩), rfl, q _ (I1.hok.fresh up)⟩
  · rw [List.length_map]
    exact hz
  · have el : acc'.toList.length = acc'.size := by simp
    refine vals_of_at (by rw [List.length_map, el, hacc.1, hl]) fun j x w h1 h2 => ?_
    obtain ⟨k, hky⟩ := hacc.2 j w (by rw [← Array.getElem?_toList]; exact h2)
    obtain ⟨y, e1, e2⟩ := kv_at rel hky
    rw [List.getElem?_map, e1] at h1
    cases h1
    exact e2
  · rw [Array.toArray_toList]
    exact hS
end V0
/-! a dict comprehension set to a name -/
namespace V0
open PySem PySem.Spec PyProof.Rows L2
theorem ps_setDc {X : Cx} {i : Nat} {y : Str} {py : Pos} {kx vx tg iter : Expr} {ifs : List Expr} {scope : Scope} {own : List (Str × Nat)} {pos spos : Pos} {wi : TI} {g : TG} {tt : TT} {tk tv : TE} (hc : X.calm = true) (hN : X.N.Nodup) (hy : X.N[i]? = some y) (hyl : X.env.scope.names.lookup y = some .local)
    (hsw : swapsWith (.DictComp kx vx [⟨tg, iter, ifs, 0⟩] scope pos) (some (.Name y py)) spos.line X.env = pure true) (hi : PI X tg iter wi) (ok : BlkOk X.N X.env.scope scope own)
    (hg : ∀ (s : Shared) (H : Hp) (C : Addr) (cl : List (Str × Addr)) (fp : List Addr), PG (X.blk s H scope (compEnvC scope cl C X.env) fp) tg g) (ht : ∀ (s : Shared) (H : Hp) (C : Addr) (cl : List (Str × Addr)) (fp : List Addr), PTs (X.blk s H scope (compEnvC scope cl C X.env) fp) ifs tt)
    (hk : ∀ (s : Shared) (H : Hp) (C : Addr) (cl : List (Str × Addr)) (fp : List Addr), PE (X.blk s H scope (compEnvC scope cl C X.env) fp) kx tk)
    (he : ∀ (s : Shared) (H : Hp) (C : Addr) (cl : List (Str × Addr)) (fp : List Addr), PE (X.blk s H scope (compEnvC scope cl C X.env) fp) vx tv) (hs : ∀ x, foldedSetIterable iter X.env x = pure x := by intro _; rfl) :
    PS X (.Assign [.Name y py] (.DictComp kx vx [⟨tg, iter, ifs, 0⟩] scope pos) spos) (tAsg (tDc wi g tt tk tv (own.map (·.2))) (gName i)) := by
  refine ⟨fun pins s σ H D I h => ?_⟩
  rw [exec_Assign_Name_used _ _ _ _ hsw]
  refine wpAny_bind (wpAny_standAt (wpAny_bind ?_))
  show wpAny _ X.A (do let _ ← comprehension (.DictComp kx vx [⟨tg, iter, ifs, 0⟩] scope pos) scope X.env (firstIterPos [⟨tg, iter, ifs, 0⟩] pos) newDict false (eval iter X.env) (some (assign (.Name y py) X.env))) _ _ s
  have h : tDc wi g tt tk tv (own.map (·.2)) σ H (fun x H1 => gName i x σ H1 D.nx) := h
  refine wpAny_bind (thn (dc_core (Qf := fun _ s' => SP X pins D .next s') hc hN I hi ok hg ht hk he hs h fun L C s' m H' I' q hn f => ?_) fun _ s' hq => wpAny_pure (wpAny_pure hq))
  show wpAny _ _ (assign (.Name y py) X.env (.ref L)) _ _ _
  refine wpAny_assign_Name (store_ok2 (v := V.ref L) I' hN hy (.inl hyl) rfl (fun s2 I2 ⟨a, sb, ha⟩ => ?_) (.inr hyl))
  obtain ⟨f0, f1, f2, f3, f4, f5⟩ := f
  have haC : C ≠ a := by
    rcases ha with z | z
    · rw [z]; exact f1
    · exact fun e => f4 y a z e.symm
  refine ⟨m, hn.sameBut sb haC, fun h3 sb3 => ?_⟩
  exact ⟨_, H', I2.turned (t' := s2.toks) (fun b o hb e => (sb3.2 b hb).trans e) f0 f1 f3 f4 f5, q⟩
theorem swd_true {kx vx : Expr} {gs : List Comprehension} {scope : Scope} {pos py : Pos} {y : Str} {l : Nat} {env : Env} (hk : env.scope.kind = .function) (hy : env.scope.names.lookup y = some .local) (hl : (py.line == pos.line) = true)
    (ha : (scope.names.any fun (n, k) => n == y && (k == .local || k == .cell)) = false) : swapsWith (.DictComp kx vx gs scope pos) (some (.Name y py)) l env = pure true := by
  have ky : env.kindOf y = some .local := hy
  have hb : env.blockKind = .function := by unfold Env.blockKind; rw [hk]; rfl
  unfold swapsWith
  simp only [hb, ky, ha, Expr.pos, hl]
  rfl
end V0
/-! the state of draws that go through the script once and then on by a seed -/
namespace V0
open PySem PySem.Spec PyProof.Rows L2
structure Dw (H : Hp) (p c : Addr) : Prop where
  ne : p ≠ c
  st : ∃ (xs : List Int) (i b z : Nat), H p = some (.lst [.ref c, .int (i : Nat), .int (b : Nat), .int (z : Nat)]) ∧ H c = some (.lst (vi xs)) ∧ xs.length ≤ 63 ∧ z < 2147483647
theorem Dw.same {H H' : Hp} {p c : Addr} (h : Dw H p c) (s : Same H H') : Dw H' p c := by
  obtain ⟨n, xs, i, b, z, h1, h2, h3⟩ := h
  exact ⟨n, xs, i, b, z, s _ _ h1, s _ _ h2, h3⟩
theorem Dw.off {H : Hp} {p c q : Addr} (h : Dw H p c) (hq : H q = none) : q ≠ p ∧ q ≠ c := by
  obtain ⟨n, xs, i, b, z, h1, h2, h3⟩ := h
  exact ⟨fun e => (by rw [e, h1] at hq; cases hq), fun e => (by rw [e, h2] at hq; cases hq)⟩
/-- from H to H' all but the state of the draws stays -/
structure Gw (p c : Addr) (H H' : Hp) : Prop where
  a : Dw H p c
  b : Dw H' p c
  s : Same (hid p H) (hid p H')
theorem Gw.refl {p c : Addr} {H : Hp} (h : Dw H p c) : Gw p c H H := ⟨h, h, Same.refl _⟩
theorem Gw.trans {p c : Addr} {H H1 H2 : Hp} (x : Gw p c H H1) (y : Gw p c H1 H2) : Gw p c H H2 := ⟨x.a, y.b, x.s.trans y.s⟩
theorem Gw.of {p c : Addr} {H H' : Hp} (h : Dw H p c) (s : Same H H') : Gw p c H H' := ⟨h, h.same s, hid_mono s⟩
theorem Gw.more {p c : Addr} {H H1 H2 : Hp} (x : Gw p c H H1) (s : Same H1 H2) : Gw p c H H2 := x.trans (Gw.of x.b s)
theorem Gw.get {p c b : Addr} {H H' : Hp} {o : HO} (x : Gw p c H H') (h1 : b ≠ p) (h : H b = some o) : H' b = some o := (hid_some (x.s _ _ (hid_of h1 h))).2
/-- what was new at H and stands at H1 stands at H' -/
theorem Gw.get' {p c b : Addr} {H H1 H' : Hp} {o : HO} (x : Gw p c H1 H') (d : Dw H p c) (n : H b = none) (h : H1 b = some o) : H' b = some o := x.get (d.off n).1 h
theorem Gw.up {p c b : Addr} {H H' : Hp} {o : HO} (x : Gw p c H H') (h : hid p H b = some o) : H' b = some o := (hid_some (x.s _ _ h)).2
theorem Gw.mut {p c D : Addr} {H H' : Hp} {o : HO} (x : Gw p c H H') (h : H D = none) : Gw p c H (upd H' D o) := by
  obtain ⟨h1, h2⟩ := x.a.off h
  obtain ⟨n, xs, i, b, z, e1, e2, e3⟩ := x.b
  refine ⟨x.a, ⟨n, xs, i, b, z, (by rw [upd_ne (fun e => h1 e.symm)]; exact e1), (by rw [upd_ne (fun e => h2 e.symm)]; exact e2), e3⟩, fun b u hb => ?_⟩
  obtain ⟨g1, g2⟩ := hid_some hb
  have h4 : b ≠ D := fun y => by
    rw [y, h] at g2
    cases g2
  exact hid_of g1 (by rw [upd_ne h4]; exact (hid_some (x.s _ _ hb)).2)
theorem Gw.none {p c b : Addr} {H H' : Hp} (x : Gw p c H H') (h : H' b = none) : H b = none := by
  obtain ⟨h1, h2⟩ := x.b.off h
  cases e : H b with
  | none => rfl
  | some o =>
    rw [x.get h1 e] at h
    cases h
section
variable {α : Type} [DecidableEq α] [Dm α] {p c : Addr} {H H' : Hp} {v : V} {vs : List V} {x : α} {xs : List α}
theorem Dv.hup (h : Dv (hid p H) v x) : Dv H v x := h.same (hid_same p H)
theorem Dvs.hup (h : Dvs (hid p H) vs xs) : Dvs H vs xs := h.same (hid_same p H)
end
theorem fresh_hidp {p c : Addr} {H H' : Hp} (d : Dw H p c) : Same (fresh H H') (hid p H') := fun b o h => by
  obtain ⟨h1, h2⟩ := fresh_some h
  exact hid_of (d.off h1).1 h2
theorem hid2_mut {p q : Addr} {H : Hp} {o : HO} : Same (hid q (hid p H)) (hid q (hid p (upd H q o))) := fun b u h => by
  obtain ⟨h1, h2⟩ := hid_some h
  obtain ⟨h3, h4⟩ := hid_some h2
  exact hid_of h1 (hid_of h3 (by rw [upd_ne h1]; exact h4))
theorem ten18 : (10 : Int) ^ (18 : Int).toNat = 1000000000000000000 := by decide +kernel
end V0
/-! a pair or None as data; lists that grow in what is new; slices from and to a place -/
namespace V0
open PySem PySem.Spec PyProof.Rows L2
open PySem.W (Datum)
theorem pair_toD (p : Nat × Nat) : Datum.toD p = .tuple [Datum.toD p.1, Datum.toD p.2] := rfl
instance : Datum (Option (Nat × Nat)) where
  toD x := match x with
    | none => .none
    | some p => Datum.toD p
  plain x := by
    cases x with
    | none => simp only [PyData.plain]
    | some p => exact Datum.plain p
  eqv a b := by
    cases a with
    | none =>
      cases b with
      | none => simp only [PyData.eqv, decide_true]
      | some q =>
        rw [decide_eq_false (by intro e; cases e)]
        show PyData.eqv .none (.tuple [Datum.toD q.1, Datum.toD q.2]) = false
        simp only [PyData.eqv]
    | some p =>
      cases b with
      | none =>
        rw [decide_eq_false (by intro e; cases e)]
        show PyData.eqv (.tuple [Datum.toD p.1, Datum.toD p.2]) .none = false
        simp only [PyData.eqv]
      | some q =>
        have h := Datum.eqv p q
        rw [h]
        exact decide_eq_decide.mpr ⟨fun e => by rw [e], fun e => Option.some.inj e⟩
  depth := Datum.depth (Nat × Nat)
  depth_le x := by
    cases x with
    | none =>
      simp only [PyData.depth]
      exact Nat.zero_le _
    | some p => exact Datum.depth_le p
instance : Dm (Option (Nat × Nat)) where
  lay x := by
    cases x with
    | none => simp only [Datum.toD, PyData.canLay0]
    | some p => exact Dm.lay p
theorem Dv.non {H : Hp} : Dv H .non (none : Option (Nat × Nat)) := Dh.non
theorem Dv.some_ {H : Hp} {v : V} {p : Nat × Nat} (h : Dv H v p) : Dv H v (some p : Option (Nat × Nat)) := h
theorem Dv.some_inv {H : Hp} {v : V} {p : Nat × Nat} (h : Dv H v (some p : Option (Nat × Nat))) : Dv H v p := h
theorem Dv.none_inv {H : Hp} {v : V} (h : Dv H v (none : Option (Nat × Nat))) : v = .non := by
  unfold Dv at h
  cases h
  rfl
theorem Dvs.somes {H : Hp} : ∀ {vs : List V} {ps : List (Nat × Nat)}, Dvs H vs ps → Dvs H vs (ps.map some)
  | _, [], h => by rw [h.nil_inv]; exact .nil
  | _, _ :: _, h => by
    obtain ⟨v, us, rfl, h1, h2⟩ := h.cons_inv
    exact .cons h1.some_ h2.somes
/-- a list that is built is put again, with what is new around it -/
theorem hid_fresh_mut {D : Addr} {H Hx : Hp} {o : HO} : Same (hid D (fresh H Hx)) (hid D (fresh H (upd Hx D o))) := fun z u hz => by
  obtain ⟨h1, h2⟩ := hid_some hz
  obtain ⟨h3, h4⟩ := fresh_some h2
  exact hid_of h1 (fresh_of h3 (by rw [upd_ne h1]; exact h4))
theorem cut_to' (xs : List V) (n : Nat) : cutV xs none (some (n : Int)) = xs.take n := by
  unfold cutV
  rw [HT.sIx_none, HT.sIx_nat, List.drop_zero, Nat.sub_zero]
  rcases Nat.le_total n xs.length with h | h
  · rw [Nat.min_eq_left h]
  · rw [Nat.min_eq_right h, List.take_of_length_le (Nat.le_refl _), List.take_of_length_le h]
theorem cut_from (xs : List V) (n : Nat) : cutV xs (some (n : Int)) none = xs.drop n := by
  unfold cutV
  rw [HT.sIx_none, HT.sIx_nat]
  rcases Nat.le_total n xs.length with h | h
  · rw [Nat.min_eq_left h, List.take_of_length_le (by rw [List.length_drop]; exact Nat.le_refl _)]
  · rw [Nat.min_eq_right h, List.drop_of_length_le (Nat.le_refl _), List.drop_of_length_le h, List.take_nil]
end V0
/-! comprehensions over whole numbers whose parts change nothing that stands -/
namespace V0
open PySem PySem.Spec PyProof.Rows L2
theorem lcN {J : It} {G : Hp → Prop} {Y : Nat → Hp → V → Hp → Prop} {xs : List Nat} (w : Walk J xs.length G Y) {sl : Nat} {tt : TT} {te : TE} {σ : L2.St} {H1 : Hp} {D : Addr} {Qd : Hp → Prop} (p : Nat → Bool) (f : Nat → Nat)
    (nD : H1 D = none) (few : xs.length ≤ 60000) (hw : ∀ v, wipe ((wipe σ [sl]).set sl v) [sl] = wipe σ [sl]) (hG : ∀ Hz, Same H1 Hz → G Hz) (hY : ∀ i Hz x H', Y i Hz x H' → H' = Hz ∧ ∃ k, xs[i]? = some k ∧ x = .int (k : Nat))
    (ht : ∀ x ∈ xs, ∀ (Hz : Hp) (Q : Bool → Hp → Prop), Same H1 Hz → (∀ H', Same Hz H' → Q (p x) H') → tt ((wipe σ [sl]).set sl (some (.int (x : Nat)))) Hz Q)
    (hs : ∀ x ∈ xs, p x = true → ∀ (Hz : Hp) (Q : VK), Same H1 Hz → (∀ H', Same Hz H' → Q (.int (f x : Nat)) H') → te ((wipe σ [sl]).set sl (some (.int (x : Nat)))) Hz Q)
    (hd : ∀ H', Same H1 H' → H' D = some (.lst (vn ((xs.filter p).map f))) → Qd H') :
    ∃ W : Nat → Nat → Hp → Prop, (∃ m, W 0 m (upd H1 D (.lst []))) ∧ ∀ i m H, W i m H →
      (J.stop i H ∧ Qd H) ∨ (J.go i H ∧ ∃ Nx : Hp → Prop, (∀ H', Nx H' → ∃ m', m' < m ∧ W (i + 1) m' H') ∧ ∀ x H', J.yld i H x H' → gName sl x (wipe σ [sl]) H' fun σ2 H2 => wipe σ2 [sl] = wipe σ [sl] ∧ tt σ2 H2 fun b H3 =>
        if b = true then te σ2 H3 fun y H4 => ∃ acc, H4 D = some (.lst acc) ∧ acc.length < sizeLine ∧ Nx (upd H4 D (.lst (acc ++ [y]))) else Nx H3) := by
  refine lc_it w (fun i Hz => Same H1 Hz ∧ Hz D = some (.lst (vn (((xs.take i).filter p).map f)))) ⟨same_new nD, upd_same⟩ (fun i Hz _ h => hG _ h.1) ?_ ?_
  · rintro i x Hz H' hi ⟨sz, hZ⟩ y
    obtain ⟨rfl, k, hk, rfl⟩ := hY _ _ _ _ y
    have mem := List.mem_of_getElem? hk
    refine ⟨hw _, ht k mem _ _ sz fun H2 s2 => ?_⟩
    have e : ((xs.take (i + 1)).filter p).map f = ((xs.take i).filter p).map f ++ (if p k = true then [f k] else []) := by
      rw [take_snoc hk, List.filter_append, List.map_append, List.filter_cons]
      split <;> rfl
    by_cases c : p k = true
    · rw [if_pos c]
      refine hs k mem c _ _ (sz.trans s2) fun H3 s3 => ⟨_, s3 _ _ (s2 _ _ hZ), ?_, same_mut (sz.trans (s2.trans s3)) nD, ?_⟩
      · rw [vn_len, List.length_map]
        have h1 := List.length_filter_le p (xs.take i)
        rw [List.length_take] at h1
        exact small64k (by omega)
      · rw [upd_same, e, if_pos c, vn_snoc]
    · rw [if_neg c]
      refine ⟨sz.trans s2, ?_⟩
      rw [e, if_neg c, List.append_nil]
      exact s2 _ _ hZ
  · rintro Hz ⟨sz, hZ⟩
    rw [List.take_length] at hZ
    exact hd Hz sz hZ
section
variable {K : PySem.W.Frag} {a : Addr} {xs : List Nat} {sl : Nat} {tt : TT} {te : TE} {σ : L2.St} {H1 : Hp} {D : Addr} {Qd : Hp → Prop}
theorem yat_nat {i : Nat} {Hz H' : Hp} {x : V} (h : YAt (vn xs) i Hz x H') : H' = Hz ∧ ∃ k, xs[i]? = some k ∧ x = .int (k : Nat) := by
  refine ⟨h.1, ?_⟩
  have h := h.2
  unfold vn at h
  rw [List.getElem?_map] at h
  obtain ⟨k, e1, e2⟩ := Option.map_eq_some_iff.mp h
  exact ⟨k, e1, e2.symm⟩
/-- [f(x) for x in xs if p(x)] -/
theorem lcLf (p : Nat → Bool) (f : Nat → Nat) (nD : H1 D = none) (hx : H1 a = some (.lst (vn xs))) (few : xs.length ≤ 60000) (hw : ∀ v, wipe ((wipe σ [sl]).set sl v) [sl] = wipe σ [sl])
    (ht : ∀ x ∈ xs, ∀ (Hz : Hp) (Q : Bool → Hp → Prop), Same H1 Hz → (∀ H', Same Hz H' → Q (p x) H') → tt ((wipe σ [sl]).set sl (some (.int (x : Nat)))) Hz Q)
    (hs : ∀ x ∈ xs, p x = true → ∀ (Hz : Hp) (Q : VK), Same H1 Hz → (∀ H', Same Hz H' → Q (.int (f x : Nat)) H') → te ((wipe σ [sl]).set sl (some (.int (x : Nat)))) Hz Q)
    (hd : ∀ H', Same H1 H' → H' D = some (.lst (vn ((xs.filter p).map f))) → Qd H') :
    ∃ W : Nat → Nat → Hp → Prop, (∃ m, W 0 m (upd H1 D (.lst []))) ∧ ∀ i m H, W i m H →
      ((Itl K a).stop i H ∧ Qd H) ∨ ((Itl K a).go i H ∧ ∃ Nx : Hp → Prop, (∀ H', Nx H' → ∃ m', m' < m ∧ W (i + 1) m' H') ∧ ∀ x H', (Itl K a).yld i H x H' → gName sl x (wipe σ [sl]) H' fun σ2 H2 => wipe σ2 [sl] = wipe σ [sl] ∧ tt σ2 H2 fun b H3 =>
        if b = true then te σ2 H3 fun y H4 => ∃ acc, H4 D = some (.lst acc) ∧ acc.length < sizeLine ∧ Nx (upd H4 D (.lst (acc ++ [y]))) else Nx H3) := by
  have w := walk_list (K := K) (a := a) (xs := vn xs)
  rw [vn_len] at w
  exact lcN w p f nD few hw (fun Hz s => SqL.of (s _ _ hx)) (fun i Hz x H' y => yat_nat y) ht hs hd
/-- [f(x) for x in xs] -/
theorem lcL (f : Nat → Nat) (nD : H1 D = none) (hx : H1 a = some (.lst (vn xs))) (few : xs.length ≤ 60000) (hw : ∀ v, wipe ((wipe σ [sl]).set sl v) [sl] = wipe σ [sl])
    (hs : ∀ x ∈ xs, ∀ (Hz : Hp) (Q : VK), Same H1 Hz → (∀ H', Same Hz H' → Q (.int (f x : Nat)) H') → te ((wipe σ [sl]).set sl (some (.int (x : Nat)))) Hz Q)
    (hd : ∀ H', Same H1 H' → H' D = some (.lst (vn (xs.map f))) → Qd H') :
    ∃ W : Nat → Nat → Hp → Prop, (∃ m, W 0 m (upd H1 D (.lst []))) ∧ ∀ i m H, W i m H →
      ((Itl K a).stop i H ∧ Qd H) ∨ ((Itl K a).go i H ∧ ∃ Nx : Hp → Prop, (∀ H', Nx H' → ∃ m', m' < m ∧ W (i + 1) m' H') ∧ ∀ x H', (Itl K a).yld i H x H' → gName sl x (wipe σ [sl]) H' fun σ2 H2 => wipe σ2 [sl] = wipe σ [sl] ∧ tYes σ2 H2 fun b H3 =>
        if b = true then te σ2 H3 fun y H4 => ∃ acc, H4 D = some (.lst acc) ∧ acc.length < sizeLine ∧ Nx (upd H4 D (.lst (acc ++ [y]))) else Nx H3) :=
  lcLf (fun _ => true) f nD hx few hw (fun _ _ _ _ _ q => q _ (Same.refl _)) (fun x m _ => hs x m) fun H' s h => hd H' s (by rw [List.filter_eq_self.mpr (fun _ _ => rfl)] at h; exact h)
/-- [f(x) for x in t], t a tuple -/
theorem lcT (f : Nat → Nat) (nD : H1 D = none) (hx : SqT K H1 a (vn xs)) (few : xs.length ≤ 60000) (hw : ∀ v, wipe ((wipe σ [sl]).set sl v) [sl] = wipe σ [sl])
    (hs : ∀ x ∈ xs, ∀ (Hz : Hp) (Q : VK), Same H1 Hz → (∀ H', Same Hz H' → Q (.int (f x : Nat)) H') → te ((wipe σ [sl]).set sl (some (.int (x : Nat)))) Hz Q)
    (hd : ∀ H', Same H1 H' → H' D = some (.lst (vn (xs.map f))) → Qd H') :
    ∃ W : Nat → Nat → Hp → Prop, (∃ m, W 0 m (upd H1 D (.lst []))) ∧ ∀ i m H, W i m H →
      ((Itt K a).stop i H ∧ Qd H) ∨ ((Itt K a).go i H ∧ ∃ Nx : Hp → Prop, (∀ H', Nx H' → ∃ m', m' < m ∧ W (i + 1) m' H') ∧ ∀ x H', (Itt K a).yld i H x H' → gName sl x (wipe σ [sl]) H' fun σ2 H2 => wipe σ2 [sl] = wipe σ [sl] ∧ tYes σ2 H2 fun b H3 =>
        if b = true then te σ2 H3 fun y H4 => ∃ acc, H4 D = some (.lst acc) ∧ acc.length < sizeLine ∧ Nx (upd H4 D (.lst (acc ++ [y]))) else Nx H3) := by
  have w := walk_tup (K := K) (a := a) (xs := vn xs)
  rw [vn_len] at w
  exact lcN w (fun _ => true) f nD few hw (fun Hz s => tup_same s hx) (fun i Hz x H' y => yat_nat y) (fun _ _ _ _ _ q => q _ (Same.refl _)) (fun x m _ => hs x m) fun H' s h => hd H' s (by rw [List.filter_eq_self.mpr (fun _ _ => rfl)] at h; exact h)
/-- [f(x) for x in range(n) if p(x)] -/
theorem lcRf {n : Nat} (p : Nat → Bool) (f : Nat → Nat) (nD : H1 D = none) (few : n ≤ 60000) (hw : ∀ v, wipe ((wipe σ [sl]).set sl v) [sl] = wipe σ [sl])
    (ht : ∀ x, x < n → ∀ (Hz : Hp) (Q : Bool → Hp → Prop), Same H1 Hz → (∀ H', Same Hz H' → Q (p x) H') → tt ((wipe σ [sl]).set sl (some (.int (x : Nat)))) Hz Q)
    (hs : ∀ x, x < n → p x = true → ∀ (Hz : Hp) (Q : VK), Same H1 Hz → (∀ H', Same Hz H' → Q (.int (f x : Nat)) H') → te ((wipe σ [sl]).set sl (some (.int (x : Nat)))) Hz Q)
    (hd : ∀ H', Same H1 H' → H' D = some (.lst (vn (((List.range n).filter p).map f))) → Qd H') :
    ∃ W : Nat → Nat → Hp → Prop, (∃ m, W 0 m (upd H1 D (.lst []))) ∧ ∀ i m H, W i m H →
      ((Itr 0 n).stop i H ∧ Qd H) ∨ ((Itr 0 n).go i H ∧ ∃ Nx : Hp → Prop, (∀ H', Nx H' → ∃ m', m' < m ∧ W (i + 1) m' H') ∧ ∀ x H', (Itr 0 n).yld i H x H' → gName sl x (wipe σ [sl]) H' fun σ2 H2 => wipe σ2 [sl] = wipe σ [sl] ∧ tt σ2 H2 fun b H3 =>
        if b = true then te σ2 H3 fun y H4 => ∃ acc, H4 D = some (.lst acc) ∧ acc.length < sizeLine ∧ Nx (upd H4 D (.lst (acc ++ [y]))) else Nx H3) := by
  have w : Walk (Itr 0 n) (List.range n).length (fun _ => True) (fun i Hz x H' => i < n ∧ YFn (fun i => .int ((0 : Int) + (i : Nat))) i Hz x H') := by
    rw [List.length_range]
    have w0 := walk_range (lo := 0) (n := n)
    exact ⟨w0.goes, w0.stops, fun i Hz x H' hi t y => ⟨hi, w0.yields i Hz x H' hi t y⟩⟩
  refine lcN w p f nD (by rw [List.length_range]; exact few) hw (fun _ _ => trivial) (fun i Hz x H' y => ⟨y.2.1, i, List.getElem?_range y.1, ?_⟩) (fun x m => ht x (List.mem_range.mp m)) (fun x m => hs x (List.mem_range.mp m)) hd
  rw [y.2.2]
  show V.int (0 + (i : Int)) = _
  rw [Int.zero_add]
/-- [f(x) for x in range(n)] -/
theorem lcR {n : Nat} (f : Nat → Nat) (nD : H1 D = none) (few : n ≤ 60000) (hw : ∀ v, wipe ((wipe σ [sl]).set sl v) [sl] = wipe σ [sl])
    (hs : ∀ x, x < n → ∀ (Hz : Hp) (Q : VK), Same H1 Hz → (∀ H', Same Hz H' → Q (.int (f x : Nat)) H') → te ((wipe σ [sl]).set sl (some (.int (x : Nat)))) Hz Q)
    (hd : ∀ H', Same H1 H' → H' D = some (.lst (vn ((List.range n).map f))) → Qd H') :
    ∃ W : Nat → Nat → Hp → Prop, (∃ m, W 0 m (upd H1 D (.lst []))) ∧ ∀ i m H, W i m H →
      ((Itr 0 n).stop i H ∧ Qd H) ∨ ((Itr 0 n).go i H ∧ ∃ Nx : Hp → Prop, (∀ H', Nx H' → ∃ m', m' < m ∧ W (i + 1) m' H') ∧ ∀ x H', (Itr 0 n).yld i H x H' → gName sl x (wipe σ [sl]) H' fun σ2 H2 => wipe σ2 [sl] = wipe σ [sl] ∧ tYes σ2 H2 fun b H3 =>
        if b = true then te σ2 H3 fun y H4 => ∃ acc, H4 D = some (.lst acc) ∧ acc.length < sizeLine ∧ Nx (upd H4 D (.lst (acc ++ [y]))) else Nx H3) :=
  lcRf (fun _ => true) f nD few hw (fun _ _ _ _ _ q => q _ (Same.refl _)) (fun x m _ => hs x m) fun H' s h => hd H' s (by rw [List.filter_eq_self.mpr (fun _ _ => rfl)] at h; exact h)
end
end V0
/-! a display of one entry whose key is a tuple; the least of pairs; i not in range(n); len of a set of whole numbers -/
namespace V0
open PySem PySem.Spec PyProof.Rows L2
/-- as pe_fld, K told -/
theorem pe_fldK {X : Cx} {K : PySem.W.Frag} {e : Expr} {f : Str} {pos : Pos} {ta : TE} (hK : X.K = K) (he : PE X e ta) (hb : attributeBase e f X.env (eval e X.env) = eval e X.env) : PE X (.Attribute e f pos) (tFld K ta f) := by
  subst hK
  exact pe_fld he hb
/-- {t: v}, t a tuple -/
def tDisp1T (tk tv : TE) : TE := fun σ H Q => ∀ p, H p = none → tk σ (upd H p (.dT [])) fun x H1 => tv σ H1 fun y H2 => ∃ H3, H2 p = some (.dT []) ∧ DPut H2 p x y H3 ∧ Q (.ref p) H3
theorem pe_dispT {X : Cx} {k v : Expr} {pos : Pos} {tk tv : TE} (hu : X.A.units + 1 < cLine) (hk : PE X k tk) (hv : PE X v tv) : PE X (.Dict [some k] [v] pos) (tDisp1T tk tv) := by
  refine ⟨fun pins s σ H Q I q => ?_⟩
  have hn := I.hok.fresh (Nat.le_refl s.heap.objs.size)
  have I1 := I.laid (a := s.heap.objs.size) (o := .dT []) (h' := s.heap.push { cls := .type "dict", data := .dict #[] }) (t' := s.toks) (fun _ _ q => Heap.get?_push_of_some _ q) (Nat.le_refl _) (dt_empty s.heap I.big)
  have hp := zip_pairTrees [some k] [v] X.env pos rfl rfl
  rw [arm_eval_Dict, hp, dictDisplay_pairs _ (by unfold pairTrees; simp) (by unfold pairTrees pairTrees; simp)]
  refine wpAny_bind (wpAny_standAt (wpAny_bind ?_))
  unfold subDict
  refine wpAny_bind (wpAny_alloc ?_)
  refine wpAny_bind (wpAny_holding ?_)
  rw [if_pos (by unfold pairTrees pairTrees; simp)]
  refine wpAny_bind (pairTrees_cons_walk (thn (hk.run pins _ σ _ _ I1 (q _ hn)) fun u s1 ⟨x, H1, J1, rx, q1⟩ => thn (hv.run pins s1 σ H1 _ J1 q1) fun w2 s2 ⟨y, H2, J2, ry, H3, e0, g, q2⟩ => pairTrees_nil_walk ?_))
  refine wpAny_holding ?_
  rw [List.forIn_cons]
  rcases g with ⟨kvs, k, e, ey, l, eH⟩ | ⟨kvs, k, b, e, ey, eb, l, eH⟩
  · rw [e0] at e
    cases e
  subst ey eH
  cases (show u = Value.ref b from rx)
  obtain ⟨z, hd, xs, rel, dd⟩ := dt_of J2.hok e
  have hz : xs.length ≤ sizeLine := by rw [← Paired.length rel]; exact z
  have hl : (putK kvs k y).length ≤ sizeLine := by have := length_putK kvs k y; omega
  refine wpAny_bind ?_
  refine wpAny_bind ?_
  show wpAny _ _ (dictSet s.heap.objs.size (Value.ref b) w2 >>= fun _ => pure (ForInStep.yield PUnit.unit)) _ _ _
  refine wpAny_bind (wpAny_dictSet_heap (hsz := hz) (by show X.A.units < cLine; omega) (key_of J2.hok eb) dd fun h' dd' hs => wpAny_pure ?_)
  show wpAny _ _ (forIn [] _ _) _ _ _
  rw [List.forIn_nil]
  refine wpAny_pure (wpAny_pure (wpAny_pure (wpAny_pure ⟨.ref s.heap.objs.size, _, ?_, rfl, q2⟩)))
  obtain ⟨q, es, ep, hq, h2, h3, h4, _, h5⟩ := dd'
  refine d_write J2 (by rw [e]; exact True.intro) hs ⟨q, hq⟩ ⟨hl, hd, _, (rel.put k eb ry).keeps fun c ys ec => ?_, q, es, ep, hq, h2, h3, h4, h5⟩
  rw [upd_ne (ne_of ec e (fun z => nomatch z))]
  exact ec
/-! ### the least of pairs -/
abbrev pD (p : Int × Int) : PyData := .tuple [.int p.1, .int p.2]
theorem dlt_pair (a b c d : Int) : PySem.W.dataLt (pD (a, b)) (pD (c, d)) = (decide (a < c) || (!decide (c < a) && decide (b < d))) := by
  unfold PySem.W.dataLt
  simp only [pD, PySem.W.keyToks, PySem.W.keyToksAll, List.cons_append, List.nil_append]
  rw [lex_self]
  by_cases e : a = c
  · subst e
    rw [lex_self, lex_self]
    by_cases e2 : b = d
    · subst e2
      rw [lex_self, lex_self]
      simp [PyProof.Rows.lexLt]
    · rw [lex_diff (by intro z; exact e2 (Sum.inl.inj z))]
      show decide (b < d) = _
      simp
  · rw [lex_diff (by intro z; exact e (Sum.inl.inj z))]
    show decide (a < c) = _
    by_cases h : a < c
    · simp [h]
    · have : c < a := by omega
      simp [h, this]
theorem minD_pair : ∀ (xs : List (Int × Int)) (x : Int × Int), ∃ m ∈ x :: xs, PySem.W.minD (pD x) (xs.map pD) = pD m ∧ ∀ p ∈ x :: xs, m.1 ≤ p.1
  | [], x => ⟨x, List.mem_cons_self, rfl, fun p hp => by rw [List.mem_singleton.mp hp]; exact Int.le_refl _⟩
  | y :: xs, x => by
    obtain ⟨a, b⟩ := x
    obtain ⟨c, d⟩ := y
    have e : PySem.W.minD (pD (a, b)) (((c, d) :: xs).map pD) = PySem.W.minD (pD (if PySem.W.dataLt (pD (c, d)) (pD (a, b)) = true then (c, d) else (a, b))) (xs.map pD) := by
      unfold PySem.W.minD
      rw [List.map_cons, List.foldl_cons]
      split <;> rfl
    obtain ⟨m, hm, em, le⟩ := minD_pair xs (if PySem.W.dataLt (pD (c, d)) (pD (a, b)) = true then (c, d) else (a, b))
    refine ⟨m, ?_, e.trans em, ?_⟩
    · rcases List.mem_cons.mp hm with h | h
      · rw [h]
        split
        · exact List.mem_cons_of_mem _ List.mem_cons_self
        · exact List.mem_cons_self
      · exact List.mem_cons_of_mem _ (List.mem_cons_of_mem _ h)
    · have l1 := le _ List.mem_cons_self
      have l2 : m.1 ≤ a ∧ m.1 ≤ c := by
        rw [dlt_pair] at l1
        split at l1
        · rename_i h
          simp only [Bool.or_eq_true, Bool.and_eq_true, Bool.not_eq_true', decide_eq_true_eq, decide_eq_false_iff_not] at h
          have l1 : m.1 ≤ c := l1
          omega
        · rename_i h
          simp only [Bool.or_eq_true, Bool.and_eq_true, Bool.not_eq_true', decide_eq_true_eq, decide_eq_false_iff_not] at h
          have l1 : m.1 ≤ a := l1
          omega
      intro p hp
      rcases List.mem_cons.mp hp with rfl | hp
      · exact l2.1
      · rcases List.mem_cons.mp hp with rfl | hp
        · exact l2.2
        · exact le p (List.mem_cons_of_mem _ hp)
theorem alike_pairs (xs : List (Int × Int)) : PySem.W.AlikeAll (xs.map pD) := by
  refine ⟨fun x hx y hy => ?_, fun x hx z => ?_⟩
  · obtain ⟨p, _, rfl⟩ := List.mem_map.mp hx
    obtain ⟨q, _, rfl⟩ := List.mem_map.mp hy
    simp [pD, PySem.W.alike, PySem.W.alikeAll]
  · obtain ⟨p, _, e⟩ := List.mem_map.mp hx
    rw [← e] at z
    cases z
theorem depth_pairs : ∀ xs : List (Int × Int), PyData.depthAll (xs.map pD) ≤ 1
  | [] => by simp [PyData.depthAll]
  | x :: xs => by
    have := depth_pairs xs
    simp only [List.map_cons, PyData.depthAll, pD, PyData.depth]
    omega
/-- min of a list of pairs: an item whose first part is least -/
def rMinP (K : PySem.W.Frag) : List V → Hp → VK → Prop := fun vs H Q => ∃ (a : Addr) (us : List V) (ps : List (Int × Int)), vs = [.ref a] ∧ SqL K H a us ∧ Dvs H us ps ∧ ps ≠ [] ∧
  ∀ (u : V) (m : Int × Int), u ∈ us → m ∈ ps → Dv H u m → (∀ p ∈ ps, m.1 ≤ p.1) → Q u H
theorem cr_minP {X : Cx} (hc : X.calm = true) (hu : X.A.units + 64 < cLine) : CallR X (.builtin "min") (rMinP X.K) := by
  intro pins s σ H vs us Q I r h
  obtain ⟨a, xs, ps, rfl, hs, dv, ne, q⟩ := h
  obtain rfl := Vals.ref1 r
  obtain ⟨its, rv, hl, _⟩ := I.list hs
  have edv : ps.map PySem.W.Datum.toD = ps.map pD := List.map_congr_left fun p _ => rfl
  obtain ⟨p0, rest, rfl⟩ : ∃ p0 rest, ps = p0 :: rest := by
    cases ps with
    | nil => exact absurd rfl ne
    | cons p r => exact ⟨p, r, rfl⟩
  obtain ⟨as, rd⟩ := Dp.readsAll I _ _ its (dh_dpAll _ _ dv) rv
  rw [edv, List.map_cons] at rd
  refine PySem.W.min_list_data (I.ok.hd hc) hl.isList (by simpa using rd) (by have := alike_pairs (p0 :: rest); rw [List.map_cons] at this; exact this) (by have := depth_pairs (p0 :: rest); rw [List.map_cons] at this; omega) fun i v h' tk bs hv hr hk => ?_
  have hv : its[i]? = some v := by simpa using hv
  obtain ⟨u, hu2, ru⟩ : ∃ u, xs[i]? = some u ∧ RelV u v := by
    have hi : i < xs.length := by rw [rv.length]; exact (List.getElem?_eq_some_iff.mp hv).1
    obtain ⟨v2, hv2, r2⟩ := rv.get (List.getElem?_eq_getElem hi)
    rw [hv] at hv2
    cases hv2
    exact ⟨_, List.getElem?_eq_getElem hi, r2⟩
  obtain ⟨m, hm, em, le⟩ := minD_pair rest p0
  obtain ⟨p, hp, dp⟩ := dv.at hu2
  refine ⟨u, H, I.kept hk, ru, ?_⟩
  have e : p = m := by
    obtain ⟨bs2, r3⟩ := Dp.reads (X := X) (I.kept (t' := tk) hk) _ _ _ (dh_dp (K := X.K) _ _ dp) ru
    rw [em] at hr
    have := PySem.SeqAt.Reads.unique _ _ _ _ _ (Dm.lay p) r3 hr
    simp only [PySem.W.Datum.toD] at this
    injection this with h1
    injection h1 with h2 h3
    injection h3 with h4 h5
    injection h2 with h2
    injection h4 with h4
    exact Prod.ext h2 h4
  exact q u p (List.mem_of_getElem? hu2) (List.mem_of_getElem? hp) dp (e ▸ le)
/-! ### ranges -/
theorem cr_range1 {X : Cx} : CallR X (.type "range") (fun vs H Q => ∃ i, vs = [V.int i] ∧ ∀ p, H p = none → Q (.ref p) (upd H p (.rng 0 i))) := by
  intro pins s σ H vs us Q I r h
  obtain ⟨i, rfl, q⟩ := h
  obtain ⟨u1, rfl, ri⟩ := vals1 r
  obtain ⟨t, rfl⟩ := ri
  refine call_range_1 ⟨.ref s.heap.objs.size, upd H s.heap.objs.size (.rng 0 i), I.laid (t' := s.toks + 1 + 1) (fun b o e => Heap.get?_push_of_some _ e) (Nat.le_refl _) ?_, rfl, q _ (I.hok.fresh (Nat.le_refl _))⟩
  exact ⟨s.toks, t, s.toks + 1, Heap.get?_push_size _ rfl⟩
def rNotRng : R2 := fun x y H Q => ∃ i a lo hi, x = V.int i ∧ y = V.ref a ∧ H a = some (.rng lo hi) ∧ Q (.bl (!decide (lo ≤ i ∧ i < hi))) H
theorem op_notIn_rng {X : Cx} : OpR X (compareOp .NotIn) rNotRng := by
  intro pins s σ H x y v u Q I rx ry h
  obtain ⟨i, a, lo, hi, rfl, rfl, ha, q⟩ := h
  obtain ⟨k, rfl⟩ := rx
  obtain rfl : u = Value.ref a := ry
  obtain ⟨t1, t2, t3, ho⟩ := I.hok a _ ha
  show wpAny _ _ (do return Value.bool (!(← contains (Value.ref a) (Value.int i k)))) _ _ s
  refine wpAny_bind (wpAny_contains_slot (T := "range") ⟨_, ho, rfl⟩ F.slot_range_contains (call_meets F.slot_range_contains ⟨_, ho, rfl⟩ F.entry_range_contains (F.args_range_contains_2 _ _) (q_contains a lo hi i t1 t2 t3 k)
    ⟨ho, wpAny_truthy_bool (wpAny_pure ⟨.bl _, H, I, rfl, ?_⟩)⟩))
  rw [place1]
  exact q
/-! ### len of a set -/
def rLenSO (w : World) : List V → Hp → VK → Prop := fun vs H Q => ∃ (a : Addr) (S : Int → Bool) (n : Nat), vs = [V.ref a] ∧ H a = some (SetO w a S n) ∧ ∀ ns : List Int, ns.Nodup → (∀ k : Int, k ∈ ns ↔ S k = true) → ns.length = n → Q (.int (n : Nat)) H
theorem call_lenSO {X : Cx} : CallR X (.builtin "len") (rLenSO X.w) := by
  intro pins s σ H vs us Q I r h
  obtain ⟨a, S, n, rfl, ha, q⟩ := h
  obtain rfl := Vals.ref1 r
  obtain ⟨o, es, ep, t, ho, hex, hd, _, nd, hm, hb, hf, hn, _, _⟩ := setO_get I ha
  refine call_len_set ho hex hd hf (by unfold scanBound at hb; omega) ⟨.int (n : Nat), H, I.tok _, ⟨_, by rw [hn]⟩, ?_⟩
  exact q (es.toList.map keyOf) nd (fun k => (hm k).symm) (by rw [List.length_map, Array.length_toList]; exact hn)
end V0
/-! comprehensions whose parts only read: what stands at each turn is told by its number -/
namespace V0
open PySem PySem.Spec PyProof.Rows L2
theorem range_filter_succ {p : Nat → Bool} {out : Nat → V} (i : Nat) : ((List.range (i + 1)).filter p).map out = ((List.range i).filter p).map out ++ (if p i = true then [out i] else []) := by
  rw [List.range_succ, List.filter_append, List.map_append, List.filter_cons]
  split <;> rfl
/-- [out(i) for each turn i if p(i)] -/
theorem lcP {J : It} {n : Nat} {G : Hp → Prop} {Y : Nat → Hp → V → Hp → Prop} (w : Walk J n G Y) {g : TG} {tt : TT} {te : TE} {vs : List Nat} {σ : L2.St} {H1 : Hp} {D : Addr} {Qd : Hp → Prop} (p : Nat → Bool) (out : Nat → V)
    (nD : H1 D = none) (few : n ≤ 1000000) (hG : ∀ Hz, Same H1 Hz → G Hz)
    (step : ∀ i x Hz Hz' (Q : VK) (N : Hp → Prop), i < n → Same H1 Hz → Y i Hz x Hz' → (p i = true → ∀ H4, Same Hz H4 → Q (out i) H4) → (p i = false → ∀ H4, Same Hz H4 → N H4) →
      g x (wipe σ vs) Hz' fun σ2 H2 => wipe σ2 vs = wipe σ vs ∧ tt σ2 H2 fun b H3 => if b = true then te σ2 H3 Q else N H3)
    (hd : ∀ H', Same H1 H' → H' D = some (.lst (((List.range n).filter p).map out)) → Qd H') :
    ∃ W : Nat → Nat → Hp → Prop, (∃ m, W 0 m (upd H1 D (.lst []))) ∧ ∀ i m H, W i m H →
      (J.stop i H ∧ Qd H) ∨ (J.go i H ∧ ∃ Nx : Hp → Prop, (∀ H', Nx H' → ∃ m', m' < m ∧ W (i + 1) m' H') ∧ ∀ x H', J.yld i H x H' → g x (wipe σ vs) H' fun σ2 H2 => wipe σ2 vs = wipe σ vs ∧ tt σ2 H2 fun b H3 =>
        if b = true then te σ2 H3 fun y H4 => ∃ acc, H4 D = some (.lst acc) ∧ acc.length < sizeLine ∧ Nx (upd H4 D (.lst (acc ++ [y]))) else Nx H3) := by
  refine lc_it w (fun i Hz => Same H1 Hz ∧ Hz D = some (.lst (((List.range i).filter p).map out))) ⟨same_new nD, upd_same⟩ (fun i Hz _ h => hG _ h.1) ?_ fun Hz h => hd Hz h.1 h.2
  rintro i x Hz H' hi ⟨sz, hZ⟩ y
  refine step i x Hz H' _ _ hi sz y (fun c H4 s4 => ⟨_, s4 _ _ hZ, ?_, same_mut (sz.trans s4) nD, ?_⟩) (fun c H4 s4 => ⟨sz.trans s4, ?_⟩)
  · rw [List.length_map]
    have h1 := List.length_filter_le p (List.range i)
    rw [List.length_range] at h1
    exact Nat.lt_of_le_of_lt (show _ ≤ 1000000 by omega) (by decide)
  · rw [upd_same, range_filter_succ, if_pos c]
  · rw [range_filter_succ, if_neg (by rw [c]; exact Bool.false_ne_true), List.append_nil]
    exact s4 _ _ hZ
/-- .. without a test -/
theorem lcA {J : It} {n : Nat} {G : Hp → Prop} {Y : Nat → Hp → V → Hp → Prop} (w : Walk J n G Y) {g : TG} {te : TE} {vs : List Nat} {σ : L2.St} {H1 : Hp} {D : Addr} {Qd : Hp → Prop} (out : Nat → V)
    (nD : H1 D = none) (few : n ≤ 1000000) (hG : ∀ Hz, Same H1 Hz → G Hz)
    (step : ∀ i x Hz Hz' (Q : VK), i < n → Same H1 Hz → Y i Hz x Hz' → (∀ H4, Same Hz H4 → Q (out i) H4) → g x (wipe σ vs) Hz' fun σ2 H2 => wipe σ2 vs = wipe σ vs ∧ te σ2 H2 Q)
    (hd : ∀ H', Same H1 H' → H' D = some (.lst ((List.range n).map out)) → Qd H') :
    ∃ W : Nat → Nat → Hp → Prop, (∃ m, W 0 m (upd H1 D (.lst []))) ∧ ∀ i m H, W i m H →
      (J.stop i H ∧ Qd H) ∨ (J.go i H ∧ ∃ Nx : Hp → Prop, (∀ H', Nx H' → ∃ m', m' < m ∧ W (i + 1) m' H') ∧ ∀ x H', J.yld i H x H' → g x (wipe σ vs) H' fun σ2 H2 => wipe σ2 vs = wipe σ vs ∧ tYes σ2 H2 fun b H3 =>
        if b = true then te σ2 H3 fun y H4 => ∃ acc, H4 D = some (.lst acc) ∧ acc.length < sizeLine ∧ Nx (upd H4 D (.lst (acc ++ [y]))) else Nx H3) := by
  refine lcP (tt := tYes) w (fun _ => true) out nD few hG (fun i x Hz Hz' Q N hi sz y q _ => ?_) fun H' s h => hd H' s (by rw [List.filter_eq_self.mpr (fun _ _ => rfl)] at h; exact h)
  have := step i x Hz Hz' Q hi sz y (q rfl)
  exact this
theorem range_map {α β : Type} {xs : List α} {f : Nat → β} {h : α → β} (e : ∀ i x, xs[i]? = some x → f i = h x) : (List.range xs.length).map f = xs.map h := by
  refine List.ext_getElem (by simp) fun i h1 h2 => ?_
  rw [List.getElem_map, List.getElem_range, List.getElem_map]
  exact e i _ (List.getElem?_eq_getElem _)
end V0
/-! sorted(a tuple of ints) -/
namespace V0
open PySem PySem.Spec PyProof.Rows L2
def rSortedTI (K : PySem.W.Frag) : List V → Hp → VK → Prop := fun vs H Q => ∃ (a : Addr) (ns : List Int), vs = [V.ref a] ∧ SqT K H a (ns.map V.int) ∧
  ∀ (ns' : List Int) (p : Addr), ns'.Perm ns → ns'.Pairwise (· ≤ ·) → H p = none → Q (.ref p) (upd H p (.lst (ns'.map V.int)))
theorem cr_sortedTI {X : Cx} : CallR X (.builtin "sorted") (rSortedTI X.K) := by
  intro pins s σ H vs us Q I r h
  obtain ⟨a, ns, rfl, ht, q⟩ := h
  obtain ⟨its, rv, ⟨o, ho, hcl, n, hd⟩, hz⟩ := I.tuple ht
  rw [Vals.ref1 r]
  have hi := rv.ints
  have hzl : its.length ≤ sizeLine := by rw [← rv.length]; exact hz
  refine Calls.call_function_entry kind_sorted plain_sorted entry_sorted (args_sorted1 _) ?_
  unfold Builtin.«sorted»
  refine wpAny_bind (m := checkCount "sorted" 1 1 _) (wpAny_pure ?_)
  refine wpAny_bind (PySem.wpAny_collect_seq (A := X.A.in1) a (.inr rfl) ho hcl hd (fun h1 k1 => ?_) (by simpa using hzl))
  refine wpAny_bind (wpAny_newList ?_ (by simpa using hzl))
  have e1 : its.toArray.toList = its := by simp
  rw [e1]
  have hoL : (h1.push (seqObj "list" its.toArray 0)).get? h1.objs.size = some (seqObj "list" its.toArray 0) := Heap.get?_push_size _ rfl
  refine wpAny_bind (wpAny_holding (wpAny_call_entry slot_list_sort ⟨_, hoL, rfl⟩ entry_list_sort (SrtO.list_sort_ord SrtO.swo_int hoL hzl (fun h2 => SrtO.ints_sortable hi h2) fun out g1 g2 => ⟨_, rfl, ?_⟩) (args_list_sort _)))
  obtain ⟨k2, a2, a1⟩ := SrtO.ints_out hi g1 g2
  obtain ⟨c, hc⟩ := sortedHeap_at (vs := its) (out := out.toArray) hoL
  have J : Inv X pins σ H { s with heap := h1 } := I.kept (t' := s.toks) k1
  have hlen : ((out.map SrtO.iv).map V.int).length ≤ sizeLine := by
    rw [List.length_map, a2.length_eq]
    rw [List.length_map] at hz
    exact hz
  refine wpAny_pure ⟨_, rfl, .ref h1.objs.size, _, J.laid (t' := s.toks) (a := h1.objs.size) (o := .lst ((out.map SrtO.iv).map V.int)) (fun b u e => ?_) (Nat.le_refl _) ⟨hlen, out, c, vals_of_ints k2, hc⟩, rfl, q _ _ a2 a1 (J.hok.fresh (Nat.le_refl _))⟩
  show (sortedHeap (h1.push (seqObj "list" its.toArray 0)) h1.objs.size its out.toArray).get? b = some u
  have lt := Heap.lt_size e
  rw [sortedHeap_old (Nat.ne_of_lt lt) (by rw [size_push']; exact Nat.lt_succ_of_lt lt)]
  exact Heap.get?_push_of_some _ e
end V0
namespace K15
open PySem PySem.Spec PyProof.Rows L2 V0
def topS (i : Nat) : Stmt := PySem.Challenge.pw_cellcloth_k15_great_assignments.main.body.getD i (.Pass ⟨0, 0, 0, 0⟩)
abbrev s__law_draws : Stmt := topS 6
abbrev N__law_draws : List Str := ["script"]
theorem sc_law_draws : FnScope ["script"] ["script"] (defScope s__law_draws) := ⟨rfl, rfl, rfl, by decide +kernel, rfl, by decide +kernel, by decide +kernel⟩
abbrev s__law_draw : Stmt := topS 7
abbrev N__law_draw : List Str := ["draws", "limit", "cell", "value"]
theorem sc_law_draw : FnScope ["draws", "limit", "cell", "value"] ["draws", "limit"] (defScope s__law_draw) := ⟨rfl, rfl, rfl, by decide +kernel, rfl, by decide +kernel, by decide +kernel⟩
abbrev s__law_unit : Stmt := topS 9
abbrev N__law_unit : List Str := ["draws"]
theorem sc_law_unit : FnScope ["draws"] ["draws"] (defScope s__law_unit) := ⟨rfl, rfl, rfl, by decide +kernel, rfl, by decide +kernel, by decide +kernel⟩
abbrev s__law_order : Stmt := topS 10
abbrev N__law_order : List Str := ["draws", "many", "rest", "found", "k"]
theorem sc_law_order : FnScope ["draws", "many", "rest", "found", "k"] ["draws", "many"] (defScope s__law_order) := ⟨rfl, rfl, rfl, by decide +kernel, rfl, by decide +kernel, by decide +kernel⟩
abbrev s__law_number : Stmt := topS 11
abbrev N__law_number : List Str := ["draws", "unit", "code"]
theorem sc_law_number : FnScope ["draws", "unit", "code"] ["draws", "unit"] (defScope s__law_number) := ⟨rfl, rfl, rfl, by decide +kernel, rfl, by decide +kernel, by decide +kernel⟩
abbrev s__law_planted : Stmt := topS 13
abbrev N__law_planted : List Str := ["draws", "high", "wide", "unit", "order", "columns", "j", "k", "rows", "few", "costs", "more"]
theorem sc_law_planted : FnScope ["draws", "high", "wide", "unit", "order", "columns", "j", "k", "rows", "few", "costs", "more"] ["draws", "high", "wide"] (defScope s__law_planted) := ⟨rfl, rfl, rfl, by decide +kernel, rfl, by decide +kernel, by decide +kernel⟩
abbrev s__law_plain : Stmt := topS 12
abbrev N__law_plain : List Str := ["draws", "high", "wide", "kind", "unit", "more", "row", "k", "j"]
theorem sc_law_plain : FnScope ["draws", "high", "wide", "kind", "unit", "more", "row", "k", "j"] ["draws", "high", "wide"] (defScope s__law_plain) := ⟨rfl, rfl, rfl, by decide +kernel, rfl, by decide +kernel, by decide +kernel⟩
abbrev s_many_columns : Stmt := topS 3
abbrev N_many_columns : List Str := ["costs"]
theorem scmany_columns : FnScope ["costs"] ["costs"] (defScope s_many_columns) := ⟨rfl, rfl, rfl, by decide +kernel, rfl, by decide +kernel, by decide +kernel⟩
abbrev s_Matching___init__ : Stmt := inClass (topS 4) 0
abbrev N_Matching___init__ : List Str := ["self", "costs"]
theorem scMatching___init__ : FnScope ["self", "costs"] ["self", "costs"] (defScope s_Matching___init__) := ⟨rfl, rfl, rfl, by decide +kernel, rfl, by decide +kernel, by decide +kernel⟩
abbrev s_Matching__shift : Stmt := inClass (topS 4) 3
abbrev N_Matching__shift : List Str := ["self", "rows", "columns", "gain", "row", "column"]
theorem scMatching__shift : FnScope ["self", "rows", "columns", "gain", "row", "column"] ["self", "rows", "columns", "gain"] (defScope s_Matching__shift) := ⟨rfl, rfl, rfl, by decide +kernel, rfl, by decide +kernel, by decide +kernel⟩
abbrev s_Matching__change_owners : Stmt := inClass (topS 4) 4
abbrev N_Matching__change_owners : List Str := ["self", "row", "last", "before", "column"]
theorem scMatching__change_owners : FnScope ["self", "row", "last", "before", "column"] ["self", "row", "last", "before"] (defScope s_Matching__change_owners) := ⟨rfl, rfl, rfl, by decide +kernel, rfl, by decide +kernel, by decide +kernel⟩
abbrev s_Matching_take_in : Stmt := inClass (topS 4) 2
abbrev N_Matching_take_in : List Str := ["self", "row", "many", "rests", "before", "reached", "here", "last", "column", "open_columns", "rest", "gain", "nearest"]
theorem scMatching_take_in : FnScope ["self", "row", "many", "rests", "before", "reached", "here", "last", "column", "open_columns", "rest", "gain", "nearest"] ["self", "row"] (defScope s_Matching_take_in) := ⟨rfl, rfl, rfl, by decide +kernel, rfl, by decide +kernel, by decide +kernel⟩
abbrev s_Matching_assignment : Stmt := inClass (topS 4) 1
abbrev N_Matching_assignment : List Str := ["self", "columns", "column", "row"]
theorem scMatching_assignment : FnScope ["self", "columns", "column", "row"] ["self"] (defScope s_Matching_assignment) := ⟨rfl, rfl, rfl, by decide +kernel, rfl, by decide +kernel, by decide +kernel⟩
abbrev s_assigned : Stmt := topS 1
abbrev N_assigned : List Str := ["costs", "matching", "row"]
theorem scassigned : FnScope ["costs", "matching", "row"] ["costs"] (defScope s_assigned) := ⟨rfl, rfl, rfl, by decide +kernel, rfl, by decide +kernel, by decide +kernel⟩
abbrev s__law_form : Stmt := topS 19
abbrev N__law_form : List Str := ["told", "part", "one"]
theorem sc_law_form : FnScope ["told", "part", "one"] ["told"] (defScope s__law_form) := ⟨rfl, rfl, rfl, by decide +kernel, rfl, by decide +kernel, by decide +kernel⟩
abbrev s__law_total : Stmt := topS 15
abbrev N__law_total : List Str := ["costs", "assignment", "k"]
theorem sc_law_total : FnScope ["costs", "assignment", "k"] ["costs", "assignment"] (defScope s__law_total) := ⟨rfl, rfl, rfl, by decide +kernel, rfl, by decide +kernel, by decide +kernel⟩
abbrev s__law_right : Stmt := topS 16
abbrev N__law_right : List Str := ["costs", "assignment", "potentials", "wide", "rows", "columns", "k", "j", "one"]
theorem sc_law_right : FnScope ["costs", "assignment", "potentials", "wide", "rows", "columns", "k", "j", "one"] ["costs", "assignment", "potentials"] (defScope s__law_right) := ⟨rfl, rfl, rfl, by decide +kernel, rfl, by decide +kernel, by decide +kernel⟩
abbrev s_assign_right : Stmt := topS 2
abbrev N_assign_right : List Str := ["costs", "assignment", "potentials", "of_rows", "of_columns", "many", "row", "first", "potential", "column", "cost", "second"]
theorem scassign_right : FnScope ["costs", "assignment", "potentials", "of_rows", "of_columns", "many", "row", "first", "potential", "column", "cost", "second"] ["costs", "assignment", "potentials"] (defScope s_assign_right) := ⟨rfl, rfl, rfl, by decide +kernel, rfl, by decide +kernel, by decide +kernel⟩
abbrev s__law_others : Stmt := topS 14
abbrev N__law_others : List Str := ["draws", "costs", "wide", "order", "columns", "j", "row"]
theorem sc_law_others : FnScope ["draws", "costs", "wide", "order", "columns", "j", "row"] ["draws", "costs", "wide"] (defScope s__law_others) := ⟨rfl, rfl, rfl, by decide +kernel, rfl, by decide +kernel, by decide +kernel⟩
abbrev s__law_changed : Stmt := topS 17
abbrev N__law_changed : List Str := ["draws", "row", "unit", "kind", "at", "other"]
theorem sc_law_changed : FnScope ["draws", "row", "unit", "kind", "at", "other"] ["draws", "row", "unit"] (defScope s__law_changed) := ⟨rfl, rfl, rfl, by decide +kernel, rfl, by decide +kernel, by decide +kernel⟩
abbrev s__law_turned : Stmt := topS 18
abbrev N__law_turned : List Str := ["draws", "order", "potentials", "unit", "rows", "columns", "k", "part", "at", "j"]
theorem sc_law_turned : FnScope ["draws", "order", "potentials", "unit", "rows", "columns", "k", "part", "at", "j"] ["draws", "order", "potentials", "unit"] (defScope s__law_turned) := ⟨rfl, rfl, rfl, by decide +kernel, rfl, by decide +kernel, by decide +kernel⟩
abbrev s__law_same : Stmt := topS 8
abbrev N__law_same : List Str := ["actual", "expected", "k"]
theorem sc_law_same : FnScope ["actual", "expected", "k"] ["actual", "expected"] (defScope s__law_same) := ⟨rfl, rfl, rfl, by decide +kernel, rfl, by decide +kernel, by decide +kernel⟩
abbrev s_law : Stmt := topS 20
abbrev N_law : List Str := ["script", "draws", "wide", "high", "asked", "costs", "order", "potentials", "kept", "told", "unit", "turn", "before"]
theorem sclaw : FnScope ["script", "draws", "wide", "high", "asked", "costs", "order", "potentials", "kept", "told", "unit", "turn", "before"] ["script"] (defScope s_law) := ⟨rfl, rfl, rfl, by decide +kernel, rfl, by decide +kernel, by decide +kernel⟩
structure Txt (K : PySem.W.Frag) (mg : Str → Option Value) (C_Matching : Addr) : Prop where
  c_Matching : Cls K C_Matching
  m_Matching : mg "Matching" = some (.ref C_Matching)
  n_Matching_costs : NoAttr K C_Matching "costs"
  n_Matching_of_rows : NoAttr K C_Matching "of_rows"
  n_Matching_of_columns : NoAttr K C_Matching "of_columns"
  n_Matching_owners : NoAttr K C_Matching "owners"
  m_all : mg "all" = none
  m_any : mg "any" = none
  m_bool : mg "bool" = none
  m_enumerate : mg "enumerate" = none
  m_int : mg "int" = none
  m_isinstance : mg "isinstance" = none
  m_len : mg "len" = none
  m_list : mg "list" = none
  m_min : mg "min" = none
  m_range : mg "range" = none
  m_repr : mg "repr" = none
  m_set : mg "set" = none
  m_str : mg "str" = none
  m_sum : mg "sum" = none
  m_tuple : mg "tuple" = none
  m_zip : mg "zip" = none
end K15
namespace K15
open PySem PySem.Spec PyProof.Rows L2 V0
/-! ### matchings with potentials -/
theorem nd_ne {R : List Nat} (nd : R.Nodup) {y x p : Nat} (lt : y < x) (h1 : R[y]? = some p) (h2 : R[x]? = some p) : False := by
  have l1 := (List.getElem?_eq_some_iff.mp h1)
  have l2 := (List.getElem?_eq_some_iff.mp h2)
  exact (List.pairwise_iff_getElem.mp nd y x l1.1 l2.1 lt) (l1.2.trans l2.2.symm)
structure MI (c : Nat → Nat → Int) (m r : Nat) (u v : Nat → Int) (own : Nat → Option Nat) : Prop where
  feas : ∀ i j, i < r → j < m → u i + v j ≤ c i j
  tight : ∀ j i, j < m → own j = some i → i < r ∧ u i + v j = c i j
  inj : ∀ j j' i, j < m → j' < m → own j = some i → own j' = some i → j = j'
  sur : ∀ i, i < r → ∃ j, j < m ∧ own j = some i
  neg : ∀ j, j < m → v j ≤ 0
  zero : ∀ j, j < m → own j = none → v j = 0
theorem MI.start (c : Nat → Nat → Int) (m : Nat) : MI c m 0 (fun _ => 0) (fun _ => 0) (fun _ => none) :=
  ⟨fun i j h => absurd h (Nat.not_lt_zero _), fun j i _ h => (by cases h), fun j j' i _ _ h => (by cases h), fun i h => absurd h (Nat.not_lt_zero _), fun _ _ => Int.le_refl _, fun _ _ _ => rfl⟩
/-- rows that have been looked at: r itself and the owners of R -/
def Ex (own : Nat → Option Nat) (r : Nat) (R : List Nat) (i : Nat) : Prop := i = r ∨ ∃ p ∈ R, own p = some i
/-- where column j's rest q comes from -/
def Src (c : Nat → Nat → Int) (r : Nat) (u v : Nat → Int) (own : Nat → Option Nat) (R : List Nat) (b : Option Nat) (j : Nat) (q : Int) : Prop :=
  (b = none ∧ q = c r j - u r - v j) ∨ ∃ p i, b = some p ∧ p ∈ R ∧ own p = some i ∧ q = c i j - u i - v j
/-- the tree of the columns R -/
def Tree (c : Nat → Nat → Int) (r : Nat) (u v : Nat → Int) (own : Nat → Option Nat) (R : List Nat) (bef : Nat → Option Nat) : Prop :=
  ∀ (x j : Nat), R[x]? = some j → (bef j = none ∧ u r + v j = c r j) ∨ ∃ (y p i : Nat), y < x ∧ R[y]? = some p ∧ bef j = some p ∧ own p = some i ∧ u i + v j = c i j
structure TB (c : Nat → Nat → Int) (m r : Nat) (u v : Nat → Int) (own : Nat → Option Nat) (R : List Nat) (bef : Nat → Option Nat) : Prop where
  base : MI c m r u v own
  feasr : R ≠ [] → ∀ j, j < m → u r + v j ≤ c r j
  nd : R.Nodup
  inm : ∀ j ∈ R, j < m
  tree : Tree c r u v own R bef
/-- at a turn's head -/
structure TH (c : Nat → Nat → Int) (m r : Nat) (u v : Nat → Int) (own : Nat → Option Nat) (R : List Nat) (rests : Nat → Option Int) (bef : Nat → Option Nat) : Prop where
  b : TB c m r u v own R bef
  owned : ∀ j ∈ R.dropLast, (own j).isSome = true
  first : R = [] → ∀ j, j < m → rests j = none ∧ bef j = none
  later : R ≠ [] → ∀ j, j < m → j ∉ R → ∃ q, rests j = some q ∧ 0 ≤ q ∧ (∀ i, Ex own r R.dropLast i → q ≤ c i j - u i - v j) ∧ Src c r u v own R.dropLast (bef j) j q
/-- when the rests have been made less -/
structure TU (c : Nat → Nat → Int) (m r : Nat) (u v : Nat → Int) (own : Nat → Option Nat) (R : List Nat) (rests : Nat → Option Int) (bef : Nat → Option Nat) : Prop where
  b : TB c m r u v own R bef
  owned : ∀ j ∈ R, (own j).isSome = true
  all : ∀ j, j < m → j ∉ R → ∃ q, rests j = some q ∧ (R ≠ [] → 0 ≤ q) ∧ (∀ i, Ex own r R i → q ≤ c i j - u i - v j) ∧ Src c r u v own R (bef j) j q
theorem TH.start {c : Nat → Nat → Int} {m r : Nat} {u v : Nat → Int} {own : Nat → Option Nat} (h : MI c m r u v own) : TH c m r u v own [] (fun _ => none) (fun _ => none) :=
  ⟨⟨h, fun z => absurd rfl z, List.nodup_nil, fun _ z => (by cases z), fun x j z => (by simp at z)⟩, fun _ z => (by cases z), fun _ _ _ => ⟨rfl, rfl⟩, fun z => absurd rfl z⟩
/-- the row that is looked at next -/
def hereOf (r : Nat) (own : Nat → Option Nat) (R : List Nat) : Option Nat := match R.getLast? with
  | none => some r
  | some l => own l
/-- one column's rest and what it becomes -/
def lessR (old : Option Int) (x : Int) : Option Int := match old with
  | none => some x
  | some q => if x < q then some x else some q
def lessB (old : Option Int) (x : Int) (b l : Option Nat) : Option Nat := match old with
  | none => l
  | some q => if x < q then l else b
theorem last_cases (R : List Nat) : R = [] ∨ ∃ D l, R = D ++ [l] := by
  rcases R.eq_nil_or_concat with h | ⟨D, l, h⟩
  · exact .inl h
  · exact .inr ⟨D, l, by rw [h, List.concat_eq_append]⟩
/-- a turn's first half -/
theorem TH.less {c : Nat → Nat → Int} {m r : Nat} {u v : Nat → Int} {own : Nat → Option Nat} {R : List Nat} {rests : Nat → Option Int} {bef : Nat → Option Nat} {h : Nat} (T : TH c m r u v own R rests bef) (hh : hereOf r own R = some h)
    {rests' : Nat → Option Int} {bef' : Nat → Option Nat} (er : ∀ j, j < m → j ∉ R → rests' j = lessR (rests j) (c h j - u h - v j)) (eb : ∀ j, j < m → j ∉ R → bef' j = lessB (rests j) (c h j - u h - v j) (bef j) R.getLast?) (ek : ∀ j ∈ R, bef' j = bef j) :
    TU c m r u v own R rests' bef' := by
  have tree' : Tree c r u v own R bef' := fun x j hx => by
    rw [ek j (List.mem_of_getElem? hx)]
    exact T.b.tree x j hx
  rcases last_cases R with e | ⟨D, l, e⟩
  · subst e
    have e : h = r := by
      have : some r = some h := hh
      cases this
      rfl
    subst e
    refine ⟨⟨T.b.base, T.b.feasr, T.b.nd, T.b.inm, tree'⟩, fun j z => (by cases z), fun j hj hn => ?_⟩
    obtain ⟨f1, f2⟩ := T.first rfl j hj
    refine ⟨_, by rw [er j hj hn, f1]; rfl, fun z => absurd rfl z, fun i hi => ?_, .inl ⟨by rw [eb j hj hn, f1]; rfl, rfl⟩⟩
    rcases hi with rfl | ⟨p, hp, _⟩
    · exact Int.le_refl _
    · cases hp
  · subst e
    have ne : D ++ [l] ≠ [] := by simp
    have hl : own l = some h := by
      have : (match (D ++ [l]).getLast? with | none => some r | some l => own l) = some h := hh
      rw [List.getLast?_concat] at this
      exact this
    have dl : (D ++ [l]).dropLast = D := List.dropLast_concat
    have hlm : l < m := T.b.inm l (by simp)
    obtain ⟨hr, _⟩ := T.b.base.tight l h hlm hl
    refine ⟨⟨T.b.base, T.b.feasr, T.b.nd, T.b.inm, tree'⟩, fun j hj => ?_, fun j hj hn => ?_⟩
    · rcases List.mem_append.mp hj with hj | hj
      · exact T.owned j (by rw [dl]; exact hj)
      · rw [List.mem_singleton.mp hj, hl]
        rfl
    · obtain ⟨q, e1, q0, q1, q2⟩ := T.later ne j hj hn
      rw [dl] at q1 q2
      have x0 : 0 ≤ c h j - u h - v j := by
        have := T.b.base.feas h j hr hj
        omega
      have exl : ∀ i, Ex own r (D ++ [l]) i → Ex own r D i ∨ i = h := fun i hi => by
        rcases hi with rfl | ⟨p, hp, e⟩
        · exact .inl (.inl rfl)
        · rcases List.mem_append.mp hp with hp | hp
          · exact .inl (.inr ⟨p, hp, e⟩)
          · rw [List.mem_singleton.mp hp, hl] at e
            cases e
            exact .inr rfl
      rw [er j hj hn, eb j hj hn, e1, List.getLast?_concat]
      by_cases less : c h j - u h - v j < q
      · refine ⟨_, if_pos less, fun _ => x0, fun i hi => ?_, .inr ⟨l, h, if_pos less, by simp, hl, rfl⟩⟩
        rcases exl i hi with k | rfl
        · have := q1 i k
          omega
        · exact Int.le_refl _
      · refine ⟨_, if_neg less, fun _ => q0, fun i hi => ?_, ?_⟩
        · rcases exl i hi with k | rfl
          · exact q1 i k
          · omega
        · rw [show lessB (some q) (c h j - u h - v j) (bef j) (some l) = bef j from if_neg less]
          rcases q2 with k | ⟨p, i, k1, k2, k3, k4⟩
          · exact .inl k
          · exact .inr ⟨p, i, k1, List.mem_append_left _ k2, k3, k4⟩
/-- there is a column that is not reached -/
theorem TU.open_ {c : Nat → Nat → Int} {m r : Nat} {u v : Nat → Int} {own : Nat → Option Nat} {R : List Nat} {rests : Nat → Option Int} {bef : Nat → Option Nat} (T : TU c m r u v own R rests bef) (hr : r < m) : R.length < m ∧ ∃ j, j < m ∧ j ∉ R := by
  have key : ∀ l : List Nat, l.Nodup → (∀ j ∈ l, j ∈ R) → (l.filterMap own).Nodup ∧ (l.filterMap own).length = l.length := by
    intro l
    induction l with
    | nil => exact fun _ _ => ⟨List.nodup_nil, rfl⟩
    | cons a l ih =>
      intro nd sub
      obtain ⟨na, nl⟩ := List.nodup_cons.mp nd
      obtain ⟨h1, h2⟩ := ih nl fun j hj => sub j (List.mem_cons_of_mem _ hj)
      obtain ⟨i, hi⟩ := Option.isSome_iff_exists.mp (T.owned a (sub a List.mem_cons_self))
      rw [List.filterMap_cons, hi]
      refine ⟨List.nodup_cons.mpr ⟨fun hm => ?_, h1⟩, by rw [List.length_cons, List.length_cons, h2]⟩
      obtain ⟨b, hb, eb⟩ := List.mem_filterMap.mp hm
      have := T.b.base.inj a b i (T.b.inm a (sub a List.mem_cons_self)) (T.b.inm b (sub b (List.mem_cons_of_mem _ hb))) hi eb
      exact na (this ▸ hb)
  obtain ⟨k1, k2⟩ := key R T.b.nd fun _ h => h
  have le : R.length ≤ r := by
    rw [← k2, show r = (List.range r).length from List.length_range.symm]
    refine L2.nat_nodup_len _ _ k1 fun i hi => ?_
    obtain ⟨j, hj, e⟩ := List.mem_filterMap.mp hi
    exact List.mem_range.mpr (T.b.base.tight j i (T.b.inm j hj) e).1
  have lt : R.length < m := by omega
  refine ⟨lt, ?_⟩
  obtain ⟨j, h1, h2⟩ := L2.st_missing R m lt
  exact ⟨j, h1, h2⟩
/-- a turn's second half: potentials moved by g, the nearest column reached -/
theorem TU.next {c : Nat → Nat → Int} {m r : Nat} {u v : Nat → Int} {own : Nat → Option Nat} {R : List Nat} {rests : Nat → Option Int} {bef : Nat → Option Nat} (T : TU c m r u v own R rests bef) (hr : r < m)
    {g : Int} {k : Nat} (km : k < m) (kR : k ∉ R) (gk : rests k = some g) (least : ∀ j q, j < m → j ∉ R → rests j = some q → g ≤ q)
    {u' v' : Nat → Int} {rests' : Nat → Option Int} (eu : ∀ i, Ex own r R i → u' i = u i + g) (eu' : ∀ i, ¬ Ex own r R i → u' i = u i) (ev : ∀ j ∈ R, v' j = v j - g) (ev' : ∀ j, j ∉ R → v' j = v j)
    (er : ∀ j q, j < m → j ∉ R → rests j = some q → rests' j = some (q - g)) : TH c m r u' v' own (R ++ [k]) rests' bef := by
  have g0 : R ≠ [] → 0 ≤ g := fun ne => by
    obtain ⟨q, e, q0, _⟩ := T.all k km kR
    rw [gk] at e
    cases e
    exact q0 ne
  have neR : ∀ j, j ∈ R → R ≠ [] := fun j hj e => by rw [e] at hj; cases hj
  have gle : ∀ i j, Ex own r R i → j < m → j ∉ R → g ≤ c i j - u i - v j := fun i j hi hj hn => by
    obtain ⟨q, e, _, q1, _⟩ := T.all j hj hn
    have := least j q hj hn e
    have := q1 i hi
    omega
  have fe : ∀ i j, j < m → (u i + v j ≤ c i j ∨ (Ex own r R i ∧ j ∉ R)) → u' i + v' j ≤ c i j := fun i j hj h => by
    by_cases e : Ex own r R i <;> by_cases f : j ∈ R
    · rw [eu i e, ev j f]
      rcases h with h | h
      · omega
      · exact absurd f h.2
    · rw [eu i e, ev' j f]
      have := gle i j e hj f
      omega
    · rw [eu' i e, ev j f]
      have := g0 (neR j f)
      rcases h with h | h
      · omega
      · exact absurd h.1 e
    · rw [eu' i e, ev' j f]
      rcases h with h | h
      · omega
      · exact absurd h.1 e
  have B := T.b.base
  have own_ex : ∀ j i, j < m → own j = some i → (Ex own r R i ↔ j ∈ R) := fun j i hj e => by
    constructor
    · rintro (rfl | ⟨p, hp, ep⟩)
      · exact absurd (B.tight j i hj e).1 (Nat.lt_irrefl _)
      · rw [B.inj j p i hj (T.b.inm p hp) e ep]
        exact hp
    · exact fun h => .inr ⟨j, h, e⟩
  have inR : ∀ j ∈ R, ∀ i, Ex own r R i → u' i + v' j = u i + v j := fun j hj i hi => by
    rw [eu i hi, ev j hj]
    omega
  have dl : (R ++ [k]).dropLast = R := List.dropLast_concat
  have src' : ∀ j q, j ∉ R → Src c r u v own R (bef j) j q → Src c r u' v' own R (bef j) j (q - g) := fun j q hj h => by
    rcases h with ⟨h1, h2⟩ | ⟨p, i, h1, h2, h3, h4⟩
    · refine .inl ⟨h1, ?_⟩
      rw [eu r (.inl rfl), ev' j hj]
      omega
    · refine .inr ⟨p, i, h1, h2, h3, ?_⟩
      rw [eu i (.inr ⟨p, h2, h3⟩), ev' j hj]
      omega
  refine ⟨⟨⟨fun i j hi hj => fe i j hj (.inl (B.feas i j hi hj)), fun j i hj e => ?_, B.inj, B.sur, fun j hj => ?_, fun j hj e => ?_⟩, fun _ j hj => ?_, ?_, fun j hj => ?_, ?_⟩, fun j hj => ?_, fun z => by simp at z, fun _ j hj hn => ?_⟩
  · obtain ⟨h1, h2⟩ := B.tight j i hj e
    refine ⟨h1, ?_⟩
    by_cases f : j ∈ R
    · rw [inR j f i ((own_ex j i hj e).mpr f)]
      exact h2
    · rw [eu' i fun z => f ((own_ex j i hj e).mp z), ev' j f]
      exact h2
  · by_cases f : j ∈ R
    · rw [ev j f]
      have := B.neg j hj
      have := g0 (neR j f)
      omega
    · rw [ev' j f]
      exact B.neg j hj
  · have f : j ∉ R := fun f => by
      have := T.owned j f
      rw [e] at this
      cases this
    rw [ev' j f]
    exact B.zero j hj e
  · by_cases f : j ∈ R
    · exact fe r j hj (.inl (T.b.feasr (neR j f) j hj))
    · exact fe r j hj (.inr ⟨.inl rfl, f⟩)
  · rw [List.nodup_append]
    refine ⟨T.b.nd, by simp, fun a ha b hb => ?_⟩
    rw [List.mem_singleton.mp hb]
    exact fun z => kR (z ▸ ha)
  · rcases List.mem_append.mp hj with hj | hj
    · exact T.b.inm j hj
    · rw [List.mem_singleton.mp hj]
      exact km
  · intro x j hx
    by_cases lt : x < R.length
    · rw [List.getElem?_append_left lt] at hx
      have jR := List.mem_of_getElem? hx
      rcases T.b.tree x j hx with ⟨h1, h2⟩ | ⟨y, p, i, h1, h2, h3, h4, h5⟩
      · refine .inl ⟨h1, ?_⟩
        rw [inR j jR r (.inl rfl)]
        exact h2
      · refine .inr ⟨y, p, i, h1, ?_, h3, h4, ?_⟩
        · rw [List.getElem?_append_left (by omega)]
          exact h2
        · rw [inR j jR i (.inr ⟨p, List.mem_of_getElem? h2, h4⟩)]
          exact h5
    · have hx2 := (List.getElem?_eq_some_iff.mp hx).1
      rw [List.length_append, List.length_singleton] at hx2
      have : x = R.length := by omega
      subst this
      rw [List.getElem?_concat_length] at hx
      cases hx
      obtain ⟨q, e, _, _, s⟩ := T.all k km kR
      rw [gk] at e
      cases e
      rcases src' k g kR s with ⟨h1, h2⟩ | ⟨p, i, h1, h2, h3, h4⟩
      · exact .inl ⟨h1, by omega⟩
      · obtain ⟨y, hy, ey⟩ := List.getElem_of_mem h2
        refine .inr ⟨y, p, i, hy, ?_, h1, h3, by omega⟩
        rw [List.getElem?_append_left hy, List.getElem?_eq_getElem hy, ey]
  · rw [dl] at hj
    exact T.owned j hj
  · have hn' : j ∉ R := fun z => hn (List.mem_append_left _ z)
    obtain ⟨q, e, _, q1, s⟩ := T.all j hj hn'
    rw [dl]
    refine ⟨q - g, er j q hj hn' e, ?_, fun i hi => ?_, src' j q hn' s⟩
    · have := least j q hj hn' e
      omega
    · rw [eu i hi, ev' j hn']
      have := q1 i hi
      omega
/-- on the way back, at the column that stands at place x: the rows but for the one that is to come are matched by the other columns -/
structure AI (c : Nat → Nat → Int) (m r : Nat) (u v : Nat → Int) (own : Nat → Option Nat) (R : List Nat) (x k : Nat) (o : Nat → Option Nat) : Prop where
  at_ : R[x]? = some k
  tight : ∀ j i, j < m → j ≠ k → o j = some i → i < r ∧ u i + v j = c i j
  inj : ∀ j j' i, j < m → j' < m → j ≠ k → j' ≠ k → o j = some i → o j' = some i → j = j'
  sur : ∀ i, i < r → ∃ j, j < m ∧ j ≠ k ∧ o j = some i
  zero : ∀ j, j < m → j ≠ k → o j = none → v j = 0
  early : ∀ (y j : Nat), y < x → R[y]? = some j → o j = own j
theorem AI.start {c : Nat → Nat → Int} {m r : Nat} {u v : Nat → Int} {own : Nat → Option Nat} {R : List Nat} {k : Nat} (B : MI c m r u v own) (hk : own k = none) {x : Nat} (hx : R[x]? = some k) : AI c m r u v own R x k own :=
  ⟨hx, fun j i hj _ e => B.tight j i hj e, fun j j' i hj hj' _ _ e e' => B.inj j j' i hj hj' e e', fun i hi => by
    obtain ⟨j, hj, e⟩ := B.sur i hi
    exact ⟨j, hj, (fun z => by rw [z, hk] at e; cases e), e⟩, fun j hj _ e => B.zero j hj e, fun _ _ _ _ => rfl⟩
theorem AI.step {c : Nat → Nat → Int} {m r : Nat} {u v : Nat → Int} {own : Nat → Option Nat} {R : List Nat} {bef : Nat → Option Nat} {x k p : Nat} {o o' : Nat → Option Nat} (T : TB c m r u v own R bef) (A : AI c m r u v own R x k o) (hb : bef k = some p)
    (e1 : o' k = o p) (e2 : ∀ j, j ≠ k → o' j = o j) : ∃ y, y < x ∧ AI c m r u v own R y p o' ∧ (o p).isSome = true := by
  rcases T.tree x k A.at_ with ⟨h, _⟩ | ⟨y, p', i, h1, h2, h3, h4, h5⟩
  · rw [h] at hb
    cases hb
  · rw [h3] at hb
    cases hb
    have op : o p = some i := by rw [A.early y p h1 h2]; exact h4
    have pk : p ≠ k := fun z => by
      have hx := A.at_
      subst z
      exact nd_ne T.nd h1 h2 hx
    have pm := T.inm p (List.mem_of_getElem? h2)
    have km := T.inm k (List.mem_of_getElem? A.at_)
    refine ⟨y, h1, ⟨h2, fun j i' hj hp e => ?_, fun j j' i' hj hj' hp hp' e e' => ?_, fun i' hi' => ?_, fun j hj hp e => ?_, fun y' j hy hj => ?_⟩, by rw [op]; rfl⟩
    · by_cases jk : j = k
      · subst jk
        rw [e1, op] at e
        cases e
        exact ⟨(A.tight p i pm pk op).1, h5⟩
      · rw [e2 j jk] at e
        exact A.tight j i' hj jk e
    · by_cases jk : j = k <;> by_cases jk' : j' = k
      · rw [jk, jk']
      · subst jk
        rw [e1] at e
        rw [e2 j' jk'] at e'
        exact absurd (A.inj j' p i' hj' pm jk' pk e' e) hp'
      · subst jk'
        rw [e1] at e'
        rw [e2 j jk] at e
        exact absurd (A.inj j p i' hj pm jk pk e e') hp
      · rw [e2 j jk] at e
        rw [e2 j' jk'] at e'
        exact A.inj j j' i' hj hj' jk jk' e e'
    · obtain ⟨j, hj, jk, e⟩ := A.sur i' hi'
      by_cases jp : j = p
      · subst jp
        exact ⟨k, km, fun z => pk z.symm, by rw [e1]; exact e⟩
      · exact ⟨j, hj, jp, by rw [e2 j jk]; exact e⟩
    · by_cases jk : j = k
      · subst jk
        rw [e1, op] at e
        cases e
      · rw [e2 j jk] at e
        exact A.zero j hj jk e
    · have : j ≠ k := fun z => by
        subst z
        exact nd_ne T.nd (show y' < x by omega) hj A.at_
      rw [e2 j this]
      exact A.early y' j (by omega) hj
theorem AI.done {c : Nat → Nat → Int} {m r : Nat} {u v : Nat → Int} {own : Nat → Option Nat} {R : List Nat} {bef : Nat → Option Nat} {x k : Nat} {o o' : Nat → Option Nat} (T : TB c m r u v own R bef) (A : AI c m r u v own R x k o) (hb : bef k = none)
    (e1 : o' k = some r) (e2 : ∀ j, j ≠ k → o' j = o j) : MI c m (r + 1) u v o' := by
  have kR := List.mem_of_getElem? A.at_
  have km := T.inm k kR
  have neR : R ≠ [] := fun z => by rw [z] at kR; cases kR
  have tk : u r + v k = c r k := by
    rcases T.tree x k A.at_ with ⟨_, h⟩ | ⟨y, p', i, h1, h2, h3, h4, h5⟩
    · exact h
    · rw [hb] at h3
      cases h3
  refine ⟨fun i j hi hj => ?_, fun j i hj e => ?_, fun j j' i hj hj' e e' => ?_, fun i hi => ?_, T.base.neg, fun j hj e => ?_⟩
  · by_cases h : i = r
    · subst h
      exact T.feasr neR j hj
    · exact T.base.feas i j (by omega) hj
  · by_cases jk : j = k
    · subst jk
      rw [e1] at e
      cases e
      exact ⟨Nat.lt_succ_self _, tk⟩
    · rw [e2 j jk] at e
      have := A.tight j i hj jk e
      exact ⟨by omega, this.2⟩
  · by_cases jk : j = k <;> by_cases jk' : j' = k
    · rw [jk, jk']
    · subst jk
      rw [e1] at e
      cases e
      rw [e2 j' jk'] at e'
      exact absurd (A.tight j' _ hj' jk' e').1 (Nat.lt_irrefl _)
    · subst jk'
      rw [e1] at e'
      cases e'
      rw [e2 j jk] at e
      exact absurd (A.tight j _ hj jk e).1 (Nat.lt_irrefl _)
    · rw [e2 j jk] at e
      rw [e2 j' jk'] at e'
      exact A.inj j j' i hj hj' jk jk' e e'
  · by_cases h : i = r
    · subst h
      exact ⟨k, km, e1⟩
    · obtain ⟨j, hj, jk, e⟩ := A.sur i (by omega)
      exact ⟨j, hj, by rw [e2 j jk]; exact e⟩
  · by_cases jk : j = k
    · subst jk
      rw [e1] at e
      cases e
    · rw [e2 j jk] at e
      exact A.zero j hj jk e

end K15
namespace K15
open PySem PySem.Spec PyProof.Rows L2 V0
/-! ### all but some objects stays -/
def Frm (L : List Addr) (H H' : Hp) : Prop := ∀ b o, H b = some o → b ∉ L → H' b = some o
theorem Frm.refl {L : List Addr} {H : Hp} : Frm L H H := fun _ _ h _ => h
theorem Frm.trans {L : List Addr} {H H1 H2 : Hp} (x : Frm L H H1) (y : Frm L H1 H2) : Frm L H H2 := fun b o h n => y b o (x b o h n) n
theorem Frm.of {L : List Addr} {H H' : Hp} (s : Same H H') : Frm L H H' := fun b o h _ => s b o h
theorem Frm.more {L L' : List Addr} {H H' : Hp} (x : Frm L H H') (h : ∀ a ∈ L, a ∈ L') : Frm L' H H' := fun b o e n => x b o e fun z => n (h b z)
theorem Frm.mut {L : List Addr} {H H' : Hp} {q : Addr} {o : HO} (x : Frm L H H') (h : q ∈ L) : Frm L H (upd H' q o) := fun b u e n => by
  rw [upd_ne (fun z => n (by rw [z]; exact h))]
  exact x b u e n
theorem Frm.new {L : List Addr} {H H' : Hp} {q : Addr} {o : HO} (x : Frm L H H') (h : H q = none) : Frm L H (upd H' q o) := fun b u e n => by
  rw [upd_ne (ne_of_none e h)]
  exact x b u e n
def hids (L : List Addr) (H : Hp) : Hp := fun b => if b ∈ L then none else H b
theorem hids_some {L : List Addr} {H : Hp} {b : Addr} {o : HO} (h : hids L H b = some o) : b ∉ L ∧ H b = some o := by
  unfold hids at h
  by_cases e : b ∈ L
  · rw [if_pos e] at h
    cases h
  · rw [if_neg e] at h
    exact ⟨e, h⟩
theorem hids_of {L : List Addr} {H : Hp} {b : Addr} {o : HO} (n : b ∉ L) (h : H b = some o) : hids L H b = some o := by
  unfold hids
  rw [if_neg n]
  exact h
theorem hids_same (L : List Addr) (H : Hp) : Same (hids L H) H := fun _ _ h => (hids_some h).2
theorem Frm.hids {L : List Addr} {H H' : Hp} (x : Frm L H H') : Same (hids L H) (hids L H') := fun b o h => by
  obtain ⟨h1, h2⟩ := hids_some h
  exact hids_of h1 (x b o h2 h1)
theorem hids_frm {L M : List Addr} {H H' : Hp} (x : Frm M H H') (h : ∀ a ∈ M, a ∈ L) : Same (hids L H) (hids L H') := (x.more h).hids
theorem hids_more {L M : List Addr} {H : Hp} (h : ∀ a ∈ M, a ∈ L) : Same (hids L H) (hids M H) := fun b o e => by
  obtain ⟨h1, h2⟩ := hids_some e
  exact hids_of (fun z => h1 (h b z)) h2

/-! ### the class Matching -/
theorem mn1 : ¬ (("costs" : Str) = "of_rows") := by decide +kernel
theorem mn2 : ¬ (("costs" : Str) = "of_columns") := by decide +kernel
theorem mn3 : ¬ (("costs" : Str) = "owners") := by decide +kernel
theorem mn4 : ¬ (("of_rows" : Str) = "of_columns") := by decide +kernel
theorem mn5 : ¬ (("of_rows" : Str) = "owners") := by decide +kernel
theorem mn6 : ¬ (("of_columns" : Str) = "owners") := by decide +kernel
def mflds (c u v o : Addr) : List (Str × V) := putF "owners" (.ref o) (putF "of_columns" (.ref v) (putF "of_rows" (.ref u) (putF "costs" (.ref c) [])))
theorem mf_owners (c u v o : Addr) : (mflds c u v o).lookup ("owners" : Str) = some (.ref o) := by
  unfold mflds
  rw [lookup_putF, if_pos rfl]
theorem mf_cols (c u v o : Addr) : (mflds c u v o).lookup ("of_columns" : Str) = some (.ref v) := by
  unfold mflds
  rw [lookup_putF, if_neg mn6, lookup_putF, if_pos rfl]
theorem mf_rows (c u v o : Addr) : (mflds c u v o).lookup ("of_rows" : Str) = some (.ref u) := by
  unfold mflds
  rw [lookup_putF, if_neg mn5, lookup_putF, if_neg mn4, lookup_putF, if_pos rfl]
theorem mf_costs (c u v o : Addr) : (mflds c u v o).lookup ("costs" : Str) = some (.ref c) := by
  unfold mflds
  rw [lookup_putF, if_neg mn3, lookup_putF, if_neg mn2, lookup_putF, if_neg mn1, lookup_putF, if_pos rfl]
theorem mf_no (c u v o : Addr) {m : Str} (h1 : ¬ m = "owners") (h2 : ¬ m = "of_columns") (h3 : ¬ m = "of_rows") (h4 : ¬ m = "costs") : (mflds c u v o).lookup m = none := by
  unfold mflds
  rw [lookup_putF, if_neg h1, lookup_putF, if_neg h2, lookup_putF, if_neg h3, lookup_putF, if_neg h4]
  rfl
/-- an int or None -/
def vo1 : Option Int → V
  | none => .non
  | some i => .int i
def vo (xs : List (Option Int)) : List V := xs.map vo1
theorem vo_len (xs : List (Option Int)) : (vo xs).length = xs.length := List.length_map _
theorem vo_get {xs : List (Option Int)} {i : Nat} {x : Option Int} (h : xs[i]? = some x) : (vo xs)[i]? = some (vo1 x) := by
  unfold vo
  rw [List.getElem?_map, h]
  rfl
theorem vo_set (xs : List (Option Int)) (i : Nat) (x : Option Int) : (vo xs).set i (vo1 x) = vo (xs.set i x) := (List.map_set ..).symm
theorem vi_set (xs : List Int) (i : Nat) (x : Int) : (vi xs).set i (.int x) = vi (xs.set i x) := (List.map_set ..).symm
theorem vi_get {xs : List Int} {i : Nat} {x : Int} (h : xs[i]? = some x) : (vi xs)[i]? = some (.int x) := by
  rw [List.getElem?_map, h]
  rfl
theorem vi_len (xs : List Int) : (vi xs).length = xs.length := List.length_map _
/-- owners: rows -/
def on (xs : List (Option Nat)) : List (Option Int) := xs.map (Option.map fun (n : Nat) => (n : Int))
theorem on_len (xs : List (Option Nat)) : (on xs).length = xs.length := List.length_map _
theorem on_get {xs : List (Option Nat)} {i : Nat} {x : Option Nat} (h : xs[i]? = some x) : (on xs)[i]? = some (x.map fun (n : Nat) => (n : Int)) := by
  unfold on
  rw [List.getElem?_map, h]
  rfl
theorem on_set (xs : List (Option Nat)) (i : Nat) (x : Option Nat) : (on xs).set i (x.map fun (n : Nat) => (n : Int)) = on (xs.set i x) := (List.map_set ..).symm
abbrev von (xs : List (Option Nat)) : List V := vo (on xs)
def gi (xs : List Int) (i : Nat) : Int := xs[i]?.getD 0
def go (xs : List (Option Nat)) (i : Nat) : Option Nat := (xs[i]?).getD none
theorem gi_some {xs : List Int} {i : Nat} (h : i < xs.length) : xs[i]? = some (gi xs i) := by
  unfold gi
  rw [List.getElem?_eq_getElem h]
  rfl
theorem go_some {xs : List (Option Nat)} {i : Nat} (h : i < xs.length) : xs[i]? = some (go xs i) := by
  unfold go
  rw [List.getElem?_eq_getElem h]
  rfl
theorem gi_set {xs : List Int} {i j : Nat} {x : Int} (h : i < xs.length) : gi (xs.set i x) j = if j = i then x else gi xs j := by
  unfold gi
  by_cases e : j = i
  · subst e
    rw [if_pos rfl, List.getElem?_set_self h]
    rfl
  · rw [if_neg e, List.getElem?_set_ne (fun z => e z.symm)]
theorem go_set {xs : List (Option Nat)} {i j : Nat} {x : Option Nat} (h : i < xs.length) : go (xs.set i x) j = if j = i then x else go xs j := by
  unfold go
  by_cases e : j = i
  · subst e
    rw [if_pos rfl, List.getElem?_set_self h]
    rfl
  · rw [if_neg e, List.getElem?_set_ne (fun z => e z.symm)]
/-- costs as a table -/
def cst (cs : List (List Int)) (i j : Nat) : Int := gi (cs[i]?.getD []) j
structure Rect (cs : List (List Int)) (n m : Nat) : Prop where
  n : cs.length = n
  m : ∀ row ∈ cs, row.length = m
/-- how many columns -/
def wid (cs : List (List Int)) : Nat := match cs with
  | [] => 0
  | r :: _ => r.length
theorem Rect.wid {cs : List (List Int)} {n m : Nat} (h : Rect cs n m) (p : 0 < n) : wid cs = m := by
  cases cs with
  | nil =>
    have := h.n
    simp at this
    omega
  | cons r _ => exact h.m r List.mem_cons_self
structure MAt (C : Addr) (H : Hp) (p c u v o : Addr) (cs : List (List Int)) (us vs : List Int) (own : List (Option Nat)) : Prop where
  ob : ∃ dx, H p = some (.ins C dx (mflds c u v o))
  cs : Dv (hids [p, u, v, o] H) (.ref c) cs
  hu : H u = some (.lst (vi us))
  hv : H v = some (.lst (vi vs))
  ho : H o = some (.lst (von own))
  uv : u ≠ v
  uo : u ≠ o
  vo : v ≠ o
theorem MAt.off {C : Addr} {H : Hp} {p c u v o : Addr} {cs : List (List Int)} {us vs : List Int} {own : List (Option Nat)} (h : MAt C H p c u v o cs us vs own) : p ≠ u ∧ p ≠ v ∧ p ≠ o := by
  obtain ⟨dx, hp⟩ := h.ob
  exact ⟨ne_of hp h.hu (by intro z; cases z), ne_of hp h.hv (by intro z; cases z), ne_of hp h.ho (by intro z; cases z)⟩
theorem MAt.frm {C : Addr} {H H' : Hp} {p c u v o : Addr} {cs : List (List Int)} {us vs us' vs' : List Int} {own own' : List (Option Nat)} (h : MAt C H p c u v o cs us vs own) (f : Frm [u, v, o] H H') (hu : H' u = some (.lst (vi us'))) (hv : H' v = some (.lst (vi vs'))) (ho : H' o = some (.lst (von own'))) :
    MAt C H' p c u v o cs us' vs' own' := by
  obtain ⟨dx, hp⟩ := h.ob
  obtain ⟨n1, n2, n3⟩ := h.off
  exact ⟨⟨dx, f _ _ hp (by simp only [List.mem_cons, List.not_mem_nil, or_false, not_or]; exact ⟨n1, n2, n3⟩)⟩, h.cs.same (hids_frm f fun a ha => List.mem_cons_of_mem _ ha), hu, hv, ho, h.uv, h.uo, h.vo⟩
theorem MAt.same {C : Addr} {H H' : Hp} {p c u v o : Addr} {cs : List (List Int)} {us vs : List Int} {own : List (Option Nat)} (h : MAt C H p c u v o cs us vs own) (s : Same H H') : MAt C H' p c u v o cs us vs own := h.frm (.of s) (s _ _ h.hu) (s _ _ h.hv) (s _ _ h.ho)
def sp_many_columns (K : PySem.W.Frag) : Sp := fun vs H Q _ => ∃ (v : V) (cs : List (List Int)), vs = [v] ∧ Dv H v cs ∧ Q (.int (wid cs : Nat)) H
theorem ok_many_columns {P : Program} {w : World} {K : PySem.W.Frag} {mg : Str → Option Value} {base : Heap} {C_Matching : Addr} {f  : Addr} {fd  : FuncData} (F : Fun K "many_columns" "many_columns" s_many_columns f fd) (T : Txt K mg C_Matching) :
    FnOk P w K mg base CX0 1 f fd ["costs"] (sp_many_columns K) := by
  refine F.ok scmany_columns (fun vs H Q E h => ?_) (fun cdv A outer s H vs Q E hr h => ?_)
  · obtain ⟨v, cs, rfl, _⟩ := h
    rfl
  · obtain ⟨v, cs, rfl, hv, q⟩ := h
    refine ⟨_, (pss_one (ps_ret (pe_ifExp (pt_truthK (K := K) rfl (pv 0) (by intro _; rfl)) (pe_callB call_len_seq (by rfl) T.m_len (by decide +kernel) (pa_cons (pe_ix (r := rIxL K) ix_list (pv 0) pe_int (fun _ _ => rfl)) pa_nil)) pe_int))), ?_⟩
    obtain ⟨a, us, rfl, ha, hus⟩ := hv.list_inv
    refine ⟨_, rfl, _, .inl ⟨us, SqL.of ha, rfl⟩, ?_⟩
    cases cs with
    | nil =>
      cases hus.nil_inv
      exact iteF q
    | cons r cs =>
      obtain ⟨x, ur, rfl, hx, _⟩ := hus.cons_inv
      obtain ⟨b, rfl, hb⟩ := hx.intl_inv
      refine iteT ⟨_, rfl, a, _, 0, _, rfl, rfl, SqL.of ha, atI_nat (j := 0) rfl, b, _, rfl, .inl (SqL.of hb), ?_⟩
      rw [vi_len]
      exact q
def sp_Matching___init__ (K : PySem.W.Frag) (C : Addr) : Sp := fun vs H Q _ => ∃ (p dx c : Addr) (cs : List (List Int)), vs = [.ref p, .ref c] ∧ H p = some (.ins C dx []) ∧ Dv (hids [p] H) (.ref c) cs ∧ cs.length ≤ 1000 ∧ wid cs ≤ 1000 ∧
  ∀ (u v o : Addr) (H' : Hp), H u = none → H v = none → H o = none → Frm [p] H H' → MAt C H' p c u v o cs (List.replicate cs.length 0) (List.replicate (wid cs) 0) (List.replicate (wid cs) none) → Q .non H'
theorem rep_int (k : Nat) (x : V) : (List.replicate ((k : Nat) : Int).toNat [x]).flatten = List.replicate k x := by
  rw [Int.toNat_natCast]
  induction k with
  | zero => rfl
  | succ k ih => rw [List.replicate_succ, List.flatten_cons, ih, List.replicate_succ]; rfl
theorem ok_Matching___init__ {P : Program} {w : World} {K : PySem.W.Frag} {mg : Str → Option Value} {base : Heap} {C_Matching : Addr} {f fmany_columns : Addr} {fd fdmany_columns : FuncData} (F : Fun K "__init__" "Matching.__init__" s_Matching___init__ f fd) (T : Txt K mg C_Matching)
    (G_many_columns : FnOk P w K mg base CX0 1 fmany_columns fdmany_columns ["costs"] (sp_many_columns K)) (D_many_columns : Def K mg "many_columns" fmany_columns fdmany_columns ["costs"]) :
    FnOk P w K mg base CX0 2 f fd ["self", "costs"] (sp_Matching___init__ K C_Matching) := by
  refine F.ok scMatching___init__ (fun vs H Q E h => ?_) (fun cdv A outer s H vs Q E hr h => ?_)
  · obtain ⟨p, dx, c, cs, rfl, _⟩ := h
    rfl
  · obtain ⟨p, dx, c, cs, rfl, hp, hc, few, few2, q⟩ := h
    refine ⟨_, (pss_cons (ps_fld (pv 0) (pv 1) rfl)
      (pss_cons (ps_fld (pv 0) (pe_op op_rep (pe_lst (pa_cons pe_int pa_nil)) (pe_callB call_len_seq (by rfl) T.m_len (by decide +kernel) (pa_cons (pv 1) pa_nil))) rfl)
      (pss_cons (ps_fld (pv 0) (pe_op op_rep (pe_lst (pa_cons pe_int pa_nil)) (pe_call G_many_columns (hr.mono (by omega)) (by rfl) D_many_columns.m D_many_columns.k D_many_columns.b .nil pass0 (pa_cons (pv 1) pa_nil))) rfl)
      (pss_one (ps_fld (pv 0) (pe_op op_rep (pe_lst (pa_cons pe_non pa_nil)) (pe_call G_many_columns (hr.mono (by omega)) (by rfl) D_many_columns.m D_many_columns.k D_many_columns.b .nil pass0 (pa_cons (pv 1) pa_nil))) rfl))))), ?_⟩
    refine ⟨_, rfl, _, rfl, p, C_Matching, dx, [], rfl, hp, T.c_Matching, T.n_Matching_costs, (by show 0 < 1000; decide), ?_⟩
    have fit : ∀ {k : Nat}, k ≤ 1000 → 1 * ((k : Nat) : Int).toNat ≤ sizeLine := fun h => by rw [Int.toNat_natCast, Nat.one_mul]; exact Nat.le_of_lt (small1000 (by omega))
    have k1 : Frm [p] H (upd H p (.ins C_Matching dx (putF "costs" (.ref c) []))) := Frm.refl.mut (by simp)
    have e1 : (upd H p (.ins C_Matching dx (putF "costs" (.ref c) []))) p = some (.ins C_Matching dx (putF "costs" (.ref c) [])) := upd_same
    generalize (upd H p (.ins C_Matching dx (putF "costs" (.ref c) []))) = H1 at k1 e1 ⊢
    have hc1 := hc.same k1.hids
    obtain ⟨a, us, ea, ha, hus⟩ := hc1.list_inv
    cases ea
    -- [0] * len(costs)
    refine ⟨by show 1 ≤ sizeLine; decide, fun t1 n1 => ?_⟩
    have k2 : Frm [p] H (upd H1 t1 (.lst [.int 0])) := k1.trans (.of (same_new n1))
    have e2 := same_new (o := .lst [.int 0]) n1 _ _ e1
    have ha2 := same_new (o := .lst [.int 0]) n1 _ _ (hids_same _ _ _ _ ha)
    have t2 : (upd H1 t1 (.lst [.int 0])) t1 = some (.lst [.int 0]) := upd_same
    generalize (upd H1 t1 (.lst [.int 0])) = H2 at k2 e2 ha2 t2 ⊢
    refine ⟨_, rfl, c, _, rfl, .inl (SqL.of ha2), t1, _, _, rfl, rfl, t2, by omega, by rw [hus.len]; omega, by rw [hus.len]; exact fit few, fun u nu => ?_⟩
    rw [hus.len, rep_int]
    have pu : p ≠ u := ne_of_none e2 nu
    have k3 : Frm [p] H (upd H2 u (.lst (List.replicate cs.length (.int 0)))) := k2.trans (.of (same_new nu))
    have e3 := same_new (o := .lst (List.replicate cs.length (V.int 0))) nu _ _ e2
    have hu3 : (upd H2 u (.lst (List.replicate cs.length (V.int 0)))) u = some (.lst (List.replicate cs.length (V.int 0))) := upd_same
    have nu0 : H u = none := by
      cases e : H u with
      | none => rfl
      | some x => rw [k2 _ _ e (by simpa using pu.symm)] at nu; cases nu
    generalize (upd H2 u (.lst (List.replicate cs.length (V.int 0)))) = H3 at k3 e3 hu3 ⊢
    refine ⟨_, rfl, p, C_Matching, dx, _, rfl, e3, T.c_Matching, T.n_Matching_of_rows, (by show 1 < 1000; decide), ?_⟩
    have k4 : Frm [p] H (upd H3 p (.ins C_Matching dx (putF "of_rows" (.ref u) (putF "costs" (.ref c) [])))) := k3.mut (by simp)
    have e4 : (upd H3 p (.ins C_Matching dx (putF "of_rows" (.ref u) (putF "costs" (.ref c) [])))) p = some (.ins C_Matching dx (putF "of_rows" (.ref u) (putF "costs" (.ref c) []))) := upd_same
    have hu4 : (upd H3 p (.ins C_Matching dx (putF "of_rows" (.ref u) (putF "costs" (.ref c) [])))) u = some (.lst (List.replicate cs.length (V.int 0))) := by rw [upd_ne pu.symm]; exact hu3
    generalize (upd H3 p (.ins C_Matching dx (putF "of_rows" (.ref u) (putF "costs" (.ref c) [])))) = H4 at k4 e4 hu4 ⊢
    -- [0] * many_columns(costs)
    refine ⟨by show 1 ≤ sizeLine; decide, fun t1 n1 => ?_⟩
    have k5 : Frm [p] H (upd H4 t1 (.lst [.int 0])) := k4.trans (.of (same_new n1))
    have e5 := same_new (o := .lst [.int 0]) n1 _ _ e4
    have hu5 := same_new (o := .lst [.int 0]) n1 _ _ hu4
    have t5 : (upd H4 t1 (.lst [.int 0])) t1 = some (.lst [.int 0]) := upd_same
    generalize (upd H4 t1 (.lst [.int 0])) = H5 at k5 e5 hu5 t5 ⊢
    refine ⟨_, rfl, .ref c, cs, rfl, (hc.same k5.hids).same (hids_same _ _), t1, _, _, rfl, rfl, t5, by omega, by omega, fit few2, fun v nv => ?_⟩
    rw [rep_int]
    have pv' : p ≠ v := ne_of_none e5 nv
    have uv : u ≠ v := ne_of_none hu5 nv
    have k6 : Frm [p] H (upd H5 v (.lst (List.replicate (wid cs) (.int 0)))) := k5.trans (.of (same_new nv))
    have e6 := same_new (o := .lst (List.replicate (wid cs) (V.int 0))) nv _ _ e5
    have hu6 := same_new (o := .lst (List.replicate (wid cs) (V.int 0))) nv _ _ hu5
    have hv6 : (upd H5 v (.lst (List.replicate (wid cs) (V.int 0)))) v = some (.lst (List.replicate (wid cs) (V.int 0))) := upd_same
    have nv0 : H v = none := by
      cases e : H v with
      | none => rfl
      | some x => rw [k5 _ _ e (by simpa using pv'.symm)] at nv; cases nv
    generalize (upd H5 v (.lst (List.replicate (wid cs) (V.int 0)))) = H6 at k6 e6 hu6 hv6 ⊢
    refine ⟨_, rfl, p, C_Matching, dx, _, rfl, e6, T.c_Matching, T.n_Matching_of_columns, (by show 2 < 1000; decide), ?_⟩
    have k7 : Frm [p] H (upd H6 p (.ins C_Matching dx (putF "of_columns" (.ref v) (putF "of_rows" (.ref u) (putF "costs" (.ref c) []))))) := k6.mut (by simp)
    have e7 : (upd H6 p (.ins C_Matching dx (putF "of_columns" (.ref v) (putF "of_rows" (.ref u) (putF "costs" (.ref c) []))))) p = some (.ins C_Matching dx (putF "of_columns" (.ref v) (putF "of_rows" (.ref u) (putF "costs" (.ref c) [])))) := upd_same
    have hu7 : (upd H6 p (.ins C_Matching dx (putF "of_columns" (.ref v) (putF "of_rows" (.ref u) (putF "costs" (.ref c) []))))) u = some (.lst (List.replicate cs.length (V.int 0))) := by rw [upd_ne pu.symm]; exact hu6
    have hv7 : (upd H6 p (.ins C_Matching dx (putF "of_columns" (.ref v) (putF "of_rows" (.ref u) (putF "costs" (.ref c) []))))) v = some (.lst (List.replicate (wid cs) (V.int 0))) := by rw [upd_ne pv'.symm]; exact hv6
    generalize (upd H6 p (.ins C_Matching dx (putF "of_columns" (.ref v) (putF "of_rows" (.ref u) (putF "costs" (.ref c) []))))) = H7 at k7 e7 hu7 hv7 ⊢
    -- [None] * many_columns(costs)
    refine ⟨by show 1 ≤ sizeLine; decide, fun t1 n1 => ?_⟩
    have k8 : Frm [p] H (upd H7 t1 (.lst [.non])) := k7.trans (.of (same_new n1))
    have e8 := same_new (o := .lst [.non]) n1 _ _ e7
    have hu8 := same_new (o := .lst [.non]) n1 _ _ hu7
    have hv8 := same_new (o := .lst [.non]) n1 _ _ hv7
    have t8 : (upd H7 t1 (.lst [.non])) t1 = some (.lst [.non]) := upd_same
    generalize (upd H7 t1 (.lst [.non])) = H8 at k8 e8 hu8 hv8 t8 ⊢
    refine ⟨_, rfl, .ref c, cs, rfl, (hc.same k8.hids).same (hids_same _ _), t1, _, _, rfl, rfl, t8, by omega, by omega, fit few2, fun o no => ?_⟩
    rw [rep_int]
    have po : p ≠ o := ne_of_none e8 no
    have uo : u ≠ o := ne_of_none hu8 no
    have vo' : v ≠ o := ne_of_none hv8 no
    have k9 : Frm [p] H (upd H8 o (.lst (List.replicate (wid cs) .non))) := k8.trans (.of (same_new no))
    have e9 := same_new (o := .lst (List.replicate (wid cs) V.non)) no _ _ e8
    have hu9 := same_new (o := .lst (List.replicate (wid cs) V.non)) no _ _ hu8
    have hv9 := same_new (o := .lst (List.replicate (wid cs) V.non)) no _ _ hv8
    have ho9 : (upd H8 o (.lst (List.replicate (wid cs) V.non))) o = some (.lst (List.replicate (wid cs) V.non)) := upd_same
    have no0 : H o = none := by
      cases e : H o with
      | none => rfl
      | some x => rw [k8 _ _ e (by simpa using po.symm)] at no; cases no
    generalize (upd H8 o (.lst (List.replicate (wid cs) V.non))) = H9 at k9 e9 hu9 hv9 ho9 ⊢
    refine ⟨_, rfl, p, C_Matching, dx, _, rfl, e9, T.c_Matching, T.n_Matching_owners, (by show 3 < 1000; decide), ?_⟩
    have kz := k9.mut (q := p) (o := .ins C_Matching dx (putF "owners" (.ref o) (putF "of_columns" (.ref v) (putF "of_rows" (.ref u) (putF "costs" (.ref c) []))))) (by simp)
    refine q u v o _ nu0 nv0 no0 kz ⟨⟨dx, upd_same⟩, ?_, ?_, ?_, ?_, uv, uo, vo'⟩
    · have s : Same (hids [p] H) (hids [p, u, v, o] (upd H9 p (.ins C_Matching dx (putF "owners" (.ref o) (putF "of_columns" (.ref v) (putF "of_rows" (.ref u) (putF "costs" (.ref c) []))))))) := fun b x h => by
        obtain ⟨h1, h2⟩ := hids_some h
        have h3 : ∀ {q : Addr}, H q = none → b ≠ q := fun hq z => by rw [z, hq] at h2; cases h2
        refine hids_of ?_ (kz b x h2 h1)
        simp only [List.mem_cons, List.not_mem_nil, or_false, not_or]
        exact ⟨fun z => h1 (by simp [z]), h3 nu0, h3 nv0, h3 no0⟩
      exact hc.same s
    · rw [upd_ne pu.symm, hu9]
      show _ = some (HO.lst ((List.replicate cs.length (0 : Int)).map V.int))
      rw [List.map_replicate]
    · rw [upd_ne pv'.symm, hv9]
      show _ = some (HO.lst ((List.replicate (wid cs) (0 : Int)).map V.int))
      rw [List.map_replicate]
    · rw [upd_ne po.symm, ho9]
      unfold von vo on
      rw [List.map_replicate, List.map_replicate]
      rfl

end K15
namespace K15
open PySem PySem.Spec PyProof.Rows L2 V0
/-! ### potentials moved; owners changed along the way back -/
def addAt (g : Int) (us : List Int) (k : Nat) : List Int := us.set k (gi us k + g)
def addAll (us : List Int) (ks : List Nat) (g : Int) : List Int := ks.foldl (addAt g) us
theorem addAll_snoc (us : List Int) (ks : List Nat) (k : Nat) (g : Int) : addAll us (ks ++ [k]) g = addAt g (addAll us ks g) k := by
  unfold addAll
  rw [List.foldl_append]
  rfl
theorem addAll_len (g : Int) : ∀ (ks : List Nat) (us : List Int), (addAll us ks g).length = us.length
  | [], _ => rfl
  | k :: ks, us => by
    show (addAll (addAt g us k) ks g).length = _
    rw [addAll_len g ks]
    exact List.length_set
theorem addAll_gi (g : Int) : ∀ (ks : List Nat) (us : List Int), ks.Nodup → (∀ k ∈ ks, k < us.length) → ∀ j, gi (addAll us ks g) j = if j ∈ ks then gi us j + g else gi us j
  | [], us, _, _, j => by rw [if_neg (by simp)]; rfl
  | k :: ks, us, nd, lt, j => by
    obtain ⟨n1, n2⟩ := List.nodup_cons.mp nd
    have hk := lt k List.mem_cons_self
    show gi (addAll (addAt g us k) ks g) j = _
    rw [addAll_gi g ks _ n2 (fun x hx => by unfold addAt; rw [List.length_set]; exact lt x (List.mem_cons_of_mem _ hx))]
    unfold addAt
    rw [gi_set hk]
    by_cases e : j = k
    · subst e
      rw [if_neg n1, if_pos rfl, if_pos List.mem_cons_self]
    · rw [if_neg e]
      by_cases f : j ∈ ks
      · rw [if_pos f, if_pos (List.mem_cons_of_mem _ f)]
      · rw [if_neg f, if_neg (by simp [e, f])]
def sp_Matching__shift (K : PySem.W.Frag) (C : Addr) : Sp := fun ws H Q _ => ∃ (p c u v o rl cl : Addr) (cs : List (List Int)) (us vs : List Int) (own : List (Option Nat)) (rows cols : List Nat) (g : Int), ws = [.ref p, .ref rl, .ref cl, .int g] ∧
  MAt C H p c u v o cs us vs own ∧ H rl = some (.lst (vn rows)) ∧ H cl = some (.lst (vn cols)) ∧ rl ≠ u ∧ cl ≠ u ∧ cl ≠ v ∧ (∀ k ∈ rows, k < us.length) ∧ (∀ k ∈ cols, k < vs.length) ∧
  ∀ H', Frm [u, v] H H' → H' u = some (.lst (vi (addAll us rows g))) → H' v = some (.lst (vi (addAll vs cols (-g)))) → Q .non H'
theorem nat_at {xs : List Nat} {i : Nat} {w : V} (h : (vn xs)[i]? = some w) : ∃ k, xs[i]? = some k ∧ w = .int (k : Nat) ∧ k ∈ xs := by
  rw [List.getElem?_map] at h
  obtain ⟨k, hk, e⟩ := Option.map_eq_some_iff.mp h
  exact ⟨k, hk, e.symm, List.mem_of_getElem? hk⟩
theorem ok_Matching__shift {P : Program} {w : World} {K : PySem.W.Frag} {mg : Str → Option Value} {base : Heap} {C_Matching : Addr} {f  : Addr} {fd  : FuncData} (F : Fun K "_shift" "Matching._shift" s_Matching__shift f fd) (T : Txt K mg C_Matching) :
    FnOk P w K mg base CX0 1 f fd ["self", "rows", "columns", "gain"] (sp_Matching__shift K C_Matching) := by
  refine F.ok scMatching__shift (fun vs H Q E h => ?_) (fun cdv A outer s H vs Q E hr h => ?_)
  · obtain ⟨p, c, u, v, o, rl, cl, cs, us, vs, own, rows, cols, g, rfl, _⟩ := h
    rfl
  · obtain ⟨p, c, u, v, o, rl, cl, cs, us, vs, own, rows, cols, g, rfl, hM, hrl, hcl, n1, n2, n3, lt1, lt2, q⟩ := h
    obtain ⟨dx, hp⟩ := hM.ob
    obtain ⟨pu, pv', po⟩ := hM.off
    refine ⟨_, (pss_cons (ps_for PassesOwn.never rfl (pi_list (pv 1)) (pg_name (i := 4) scMatching__shift.nd rfl (Or.inl rfl)) (pss_one (ps_augS (pe_fld (pv 0) rfl) (pv 4) pg_ixL (pv 3) ip_add set_list)))
      (pss_one (ps_for PassesOwn.never rfl (pi_list (pv 2)) (pg_name (i := 5) scMatching__shift.nd rfl (Or.inl rfl)) (pss_one (ps_augS (pe_fld (pv 0) rfl) (pv 5) pg_ixL (pv 3) ip_sub set_list))))), ?_⟩
    refine ⟨_, rfl, rl, rfl, ⟨_, SqL.of hrl⟩, for_list (xs := vn rows) (fun i σ Hx => ∃ y, σ = [some (.ref p), some (.ref rl), some (.ref cl), some (.int g), y, none] ∧ Frm [u] H Hx ∧ Hx u = some (.lst (vi (addAll us (rows.take i) g)))) ⟨none, rfl, Frm.refl, hM.hu⟩ (fun i σ Hx _ h => ?_) ?_ ?_⟩
    · obtain ⟨y, _, f, _⟩ := h
      exact SqL.of (f _ _ hrl (by simpa using n1))
    · rintro i w σ Hx hw ⟨y, rfl, f, hu⟩
      obtain ⟨k, hk, rfl, km⟩ := nat_at hw
      have hl : k < (addAll us (rows.take i) g).length := by rw [addAll_len]; exact lt1 k km
      refine ⟨_, rfl, p, C_Matching, dx, _, _, rfl, f _ _ hp (by simpa using pu), T.c_Matching, T.n_Matching_of_rows, mf_rows _ _ _ _, _, rfl, u, _, _, _, rfl, rfl, SqL.of hu, atI_nat (vi_get (gi_some hl)), _, rfl, _, _, rfl, rfl, u, _, _, k, rfl, rfl, hu, ix_nat (by rw [vi_len]; exact hl), ?_⟩
      refine ⟨_, rfl, f.mut (by simp), ?_⟩
      rw [upd_same, vi_set, take_snoc hk, addAll_snoc]
      rfl
    rintro σ H1 ⟨y, rfl, f1, hu1⟩
    rw [vn_len, List.take_length] at hu1
    have hv1 := f1 _ _ hM.hv (by simpa using hM.uv.symm)
    refine ⟨_, rfl, cl, rfl, ⟨_, SqL.of (f1 _ _ hcl (by simpa using n2))⟩, for_list (xs := vn cols) (fun i σ Hx => ∃ z, σ = [some (.ref p), some (.ref rl), some (.ref cl), some (.int g), y, z] ∧ Frm [v] H1 Hx ∧ Hx v = some (.lst (vi (addAll vs (cols.take i) (-g))))) ⟨none, rfl, Frm.refl, hv1⟩ (fun i σ Hx _ h => ?_) ?_ ?_⟩
    · obtain ⟨z, _, f, _⟩ := h
      exact SqL.of (f _ _ (f1 _ _ hcl (by simpa using n2)) (by simpa using n3))
    · rintro i w σ Hx hw ⟨z, rfl, f, hv⟩
      obtain ⟨k, hk, rfl, km⟩ := nat_at hw
      have hl : k < (addAll vs (cols.take i) (-g)).length := by rw [addAll_len]; exact lt2 k km
      refine ⟨_, rfl, p, C_Matching, dx, _, _, rfl, f _ _ (f1 _ _ hp (by simpa using pu)) (by simpa using pv'), T.c_Matching, T.n_Matching_of_columns, mf_cols _ _ _ _, _, rfl, v, _, _, _, rfl, rfl, SqL.of hv, atI_nat (vi_get (gi_some hl)), _, rfl, _, _, rfl, rfl, v, _, _, k, rfl, rfl, hv, ix_nat (by rw [vi_len]; exact hl), ?_⟩
      refine ⟨_, rfl, f.mut (by simp), ?_⟩
      rw [upd_same, vi_set, take_snoc hk, addAll_snoc]
      rfl
    rintro σ H2 ⟨z, rfl, f2, hv2⟩
    rw [vn_len, List.take_length] at hv2
    exact q H2 ((f1.more (by simp)).trans (f2.more (by simp))) (f2 _ _ hu1 (by simpa using hM.uv)) hv2
def sp_Matching__change_owners (K : PySem.W.Frag) (C : Addr) : Sp := fun ws H Q _ => ∃ (p c u v o bl : Addr) (cs : List (List Int)) (us vs : List Int) (own bef : List (Option Nat)) (R : List Nat) (m r x0 k0 : Nat), ws = [.ref p, .int (r : Nat), .int (k0 : Nat), .ref bl] ∧
  MAt C H p c u v o cs us vs own ∧ H bl = some (.lst (von bef)) ∧ bl ≠ o ∧ own.length = m ∧ bef.length = m ∧ TB (cst cs) m r (gi us) (gi vs) (go own) R (go bef) ∧ R[x0]? = some k0 ∧ go own k0 = none ∧
  ∀ H' own', Frm [o] H H' → H' o = some (.lst (von own')) → own'.length = m → MI (cst cs) m (r + 1) (gi us) (gi vs) (go own') → Q .non H'
theorem vo_non (x : Option Int) : (!decide (vo1 x = V.non)) = x.isSome := by
  cases x with
  | none => rfl
  | some i => rfl
theorem ok_Matching__change_owners {P : Program} {w : World} {K : PySem.W.Frag} {mg : Str → Option Value} {base : Heap} {C_Matching : Addr} {f  : Addr} {fd  : FuncData} (F : Fun K "_change_owners" "Matching._change_owners" s_Matching__change_owners f fd) (T : Txt K mg C_Matching) :
    FnOk P w K mg base CX0 1 f fd ["self", "row", "last", "before"] (sp_Matching__change_owners K C_Matching) := by
  refine F.ok scMatching__change_owners (fun vs H Q E h => ?_) (fun cdv A outer s H vs Q E hr h => ?_)
  · obtain ⟨p, c, u, v, o, bl, cs, us, vs, own, bef, R, m, r, x0, k0, rfl, _⟩ := h
    rfl
  · obtain ⟨p, c, u, v, o, bl, cs, us, vs, own, bef, R, m, r, x0, k0, rfl, hM, hbl, nb, lo, lb, B, hx0, hk0, q⟩ := h
    obtain ⟨dx, hp⟩ := hM.ob
    obtain ⟨pu, pv', po⟩ := hM.off
    refine ⟨_, (pss_cons (ps_set (i := 4) scMatching__change_owners.nd rfl (.inl rfl) (pv 2))
      (C8.pss_cut (ps_while PassesOwn.never (pt_cmpR op_notN (pe_ix (r := rIxL K) ix_list (pv 3) (pv 4) (fun _ _ => rfl)) pe_non (nomark _)) (pss_cons (ps_asg (pe_ix (r := rIxL K) ix_list (pe_fld (pv 0) rfl) (pe_ix (r := rIxL K) ix_list (pv 3) (pv 4) (fun _ _ => rfl)) (fun _ _ => rfl)) (pg_sub (pe_fld (pv 0) rfl) (pv 4) set_list))
      (pss_one (ps_set (i := 4) scMatching__change_owners.nd rfl (.inl rfl) (pe_ix (r := rIxL K) ix_list (pv 3) (pv 4) (fun _ _ => rfl))))))
      (pss_one (ps_asg (pv 1) (pg_sub (pe_fld (pv 0) rfl) (pv 4) set_list))))), ?_⟩
    refine ⟨_, rfl, ?_⟩
    have bm : ∀ {k : Nat}, k < m → (von bef)[k]? = some (vo1 ((go bef k).map fun (n : Nat) => (n : Int))) := fun h => vo_get (on_get (go_some (by omega)))
    refine ⟨fun σ Hx => ∃ (x k : Nat) (ow : List (Option Nat)), σ = [some (.ref p), some (.int (r : Nat)), some (.int (k0 : Nat)), some (.ref bl), some (.int (k : Nat))] ∧ Frm [o] H Hx ∧ Hx o = some (.lst (von ow)) ∧ ow.length = m ∧ AI (cst cs) m r (gi us) (gi vs) (go own) R x k (go ow) ∧ go bef k = none, ?_, ?_⟩
    · refine ⟨fun x σ Hx => ∃ (k : Nat) (ow : List (Option Nat)), σ = [some (.ref p), some (.int (r : Nat)), some (.int (k0 : Nat)), some (.ref bl), some (.int (k : Nat))] ∧ Frm [o] H Hx ∧ Hx o = some (.lst (von ow)) ∧ ow.length = m ∧ AI (cst cs) m r (gi us) (gi vs) (go own) R x k (go ow), ⟨x0, k0, own, rfl, Frm.refl, hM.ho, lo, .start B.base hk0 hx0⟩, ?_⟩
      rintro x σ Hx ⟨k, ow, rfl, f, ho, lw, A⟩
      have km := B.inm k (List.mem_of_getElem? A.at_)
      have hb := f _ _ hbl (by simpa using nb)
      refine ⟨_, rfl, _, rfl, bl, _, _, _, rfl, rfl, SqL.of hb, atI_nat (bm km), rfl, _, rfl, ?_⟩
      rw [vo_non]
      cases e : go bef k with
      | none => exact iteF ⟨x, k, ow, rfl, f, ho, lw, A, e⟩
      | some pr =>
        refine iteT ?_
        have prm : pr < m := by
          rcases B.tree x k A.at_ with ⟨h, _⟩ | ⟨y, p', i, h1, h2, h3, h4, h5⟩
          · rw [h] at e
            cases e
          · rw [h3] at e
            cases e
            exact B.inm _ (List.mem_of_getElem? h2)
        have eb : (von bef)[k]? = some (.int (pr : Nat)) := by
          rw [bm km, e]
          rfl
        have eo := vo_get (on_get (go_some (xs := ow) (show pr < ow.length by omega)))
        refine ⟨fun σ' H' => ∃ y, y < x ∧ ∃ (k : Nat) (ow : List (Option Nat)), σ' = [some (.ref p), some (.int (r : Nat)), some (.int (k0 : Nat)), some (.ref bl), some (.int (k : Nat))] ∧ Frm [o] H H' ∧ H' o = some (.lst (von ow)) ∧ ow.length = m ∧ AI (cst cs) m r (gi us) (gi vs) (go own) R y k (go ow), fun σ' H' h => by
          obtain ⟨y, hy, h⟩ := h
          exact ⟨y, hy, h⟩, ?_⟩
        have hpx := f _ _ hp (by simpa using po)
        refine ⟨_, rfl, p, C_Matching, dx, _, _, rfl, hpx, T.c_Matching, T.n_Matching_owners, mf_owners _ _ _ _, _, rfl, _, rfl, bl, _, _, _, rfl, rfl, SqL.of hb, atI_nat eb, o, _, _, _, rfl, rfl, SqL.of ho, atI_nat eo, ?_⟩
        refine ⟨_, rfl, p, C_Matching, dx, _, _, rfl, hpx, T.c_Matching, T.n_Matching_owners, mf_owners _ _ _ _, _, rfl, o, _, _, k, rfl, rfl, ho, ix_nat (by rw [vo_len, on_len]; omega), ?_⟩
        have no : bl ≠ o := nb
        refine ⟨_, rfl, _, rfl, bl, _, _, _, rfl, rfl, SqL.of (by rw [upd_ne no]; exact hb), atI_nat eb, ?_⟩
        have kl : k < ow.length := by omega
        obtain ⟨y, hy, A', _⟩ := A.step B e (o' := go (ow.set k (go ow pr))) (by rw [go_set kl, if_pos rfl]) (fun j hj => by rw [go_set kl, if_neg hj])
        refine ⟨y, hy, pr, ow.set k (go ow pr), rfl, f.mut (by simp), ?_, by rw [List.length_set]; exact lw, A'⟩
        rw [upd_same]
        show some (HO.lst ((vo (on ow)).set k (vo1 _))) = _
        rw [vo_set, on_set]
    rintro σ Hx ⟨x, k, ow, rfl, f, ho, lw, A, e⟩
    have km := B.inm k (List.mem_of_getElem? A.at_)
    have kl : k < ow.length := by omega
    refine ⟨_, rfl, _, rfl, p, C_Matching, dx, _, _, rfl, f _ _ hp (by simpa using po), T.c_Matching, T.n_Matching_owners, mf_owners _ _ _ _, _, rfl, o, _, _, k, rfl, rfl, ho, ix_nat (by rw [vo_len, on_len]; omega), ?_⟩
    refine q _ (ow.set k (some r)) (f.mut (by simp)) ?_ (by rw [List.length_set]; exact lw) (A.done B e (by rw [go_set kl, if_pos rfl]) (fun j hj => by rw [go_set kl, if_neg hj]))
    rw [upd_same]
    show some (HO.lst ((vo (on ow)).set k (vo1 (some (r : Int))))) = _
    rw [vo_set]
    exact congrArg (fun z => some (HO.lst (vo z))) (on_set ow k (some r))

end K15
namespace K15
open PySem PySem.Spec PyProof.Rows L2 V0
/-! ### a row taken in -/
def gr (rs : List (Option Int)) (j : Nat) : Option Int := (rs[j]?).getD none
theorem gr_some {xs : List (Option Int)} {i : Nat} (h : i < xs.length) : xs[i]? = some (gr xs i) := by
  unfold gr
  rw [List.getElem?_eq_getElem h]
  rfl
theorem gr_set {xs : List (Option Int)} {i j : Nat} {x : Option Int} (h : i < xs.length) : gr (xs.set i x) j = if j = i then x else gr xs j := by
  unfold gr
  by_cases e : j = i
  · subst e
    rw [if_pos rfl, List.getElem?_set_self h]
    rfl
  · rw [if_neg e, List.getElem?_set_ne (fun z => e z.symm)]
theorem nodup_map_of {α β : Type} {f : α → β} : ∀ {l : List α}, l.Nodup → (∀ a ∈ l, ∀ b ∈ l, f a = f b → a = b) → (l.map f).Nodup
  | [], _, _ => List.nodup_nil
  | x :: l, nd, h => by
    obtain ⟨n1, n2⟩ := List.nodup_cons.mp nd
    rw [List.map_cons]
    refine List.nodup_cons.mpr ⟨fun z => ?_, nodup_map_of n2 fun a ha b hb => h a (List.mem_cons_of_mem _ ha) b (List.mem_cons_of_mem _ hb)⟩
    obtain ⟨y, hy, e⟩ := List.mem_map.mp z
    exact n1 (h y (List.mem_cons_of_mem _ hy) x List.mem_cons_self e ▸ hy)
def opn (m : Nat) (R : List Nat) : List Nat := (List.range m).filter fun x => decide (x ∉ R)
theorem opn_mem {m : Nat} {R : List Nat} {x : Nat} : x ∈ opn m R ↔ x < m ∧ x ∉ R := by
  unfold opn
  rw [List.mem_filter, List.mem_range, decide_eq_true_eq]
theorem opn_nodup (m : Nat) (R : List Nat) : (opn m R).Nodup := List.nodup_range.filter _
theorem opn_len (m : Nat) (R : List Nat) : (opn m R).length ≤ m := by
  have := List.length_filter_le (fun x => decide (x ∉ R)) (List.range m)
  rw [List.length_range] at this
  exact this
theorem not_take {xs : List Nat} (nd : xs.Nodup) {i k : Nat} (h : xs[i]? = some k) : k ∉ xs.take i := fun hm => by
  obtain ⟨y, hy⟩ := List.getElem?_of_mem hm
  have hl := (List.getElem?_eq_some_iff.mp hy).1
  rw [List.length_take] at hl
  rw [List.getElem?_take_of_lt (by omega)] at hy
  exact nd_ne nd (show y < i by omega) hy h
theorem atI_last {D : List V} {l : V} : atI (D ++ [l]) (-1) = some l := by
  unfold atI ixN
  have e : (D ++ [l]).length = D.length + 1 := by rw [List.length_append]; rfl
  rw [if_neg (by decide), if_pos (by rw [e]; omega)]
  show (D ++ [l])[((-1 : Int) + ((D ++ [l]).length : Nat)).toNat]? = _
  rw [show ((-1 : Int) + ((D ++ [l]).length : Nat)).toNat = D.length by rw [e]; omega, List.getElem?_concat_length]
/-- the cost of row i at column j, where it stands -/
theorem cost_at {H : Hp} {L : List Addr} {c : Addr} {cs : List (List Int)} {n m : Nat} (d : Dv (hids L H) (.ref c) cs) (rc : Rect cs n m) {i : Nat} (hi : i < n) : ∃ (uc : List V) (ra : Addr) (row : List Int), c ∉ L ∧ H c = some (.lst uc) ∧ uc[i]? = some (.ref ra) ∧ ra ∉ L ∧ H ra = some (.lst (vi row)) ∧ row.length = m ∧ ∀ j, j < m → row[j]? = some (cst cs i j) := by
  obtain ⟨a, us, ea, ha, hus⟩ := d.list_inv
  cases ea
  obtain ⟨h1, h2⟩ := hids_some ha
  have hi' : i < cs.length := by rw [rc.n]; exact hi
  obtain ⟨w, hw, dw⟩ := hus.get (List.getElem?_eq_getElem hi')
  obtain ⟨ra, rfl, hra⟩ := dw.intl_inv
  obtain ⟨g1, g2⟩ := hids_some hra
  have hm := rc.m _ (List.getElem_mem hi')
  refine ⟨us, ra, cs[i], h1, h2, hw, g1, g2, hm, fun j hj => ?_⟩
  have e : cst cs i j = gi cs[i] j := by
    unfold cst
    rw [List.getElem?_eq_getElem hi']
    rfl
  rw [e]
  exact gi_some (by omega)
/-- the state at a turn's head -/
structure WT (H Hx : Hp) (u v rl bl Rl : Addr) (us vs : List Int) (rs : List (Option Int)) (bef : List (Option Nat)) (R : List Nat) (n m : Nat) : Prop where
  f : Frm [u, v] H Hx
  hu : Hx u = some (.lst (vi us))
  hv : Hx v = some (.lst (vi vs))
  hrl : Hx rl = some (.lst (vo rs))
  hbl : Hx bl = some (.lst (von bef))
  hRl : Hx Rl = some (.lst (vn R))
  lu : us.length = n
  lv : vs.length = m
  lr : rs.length = m
  lb : bef.length = m
def vlast (R : List Nat) : V := vo1 (R.getLast?.map fun (n : Nat) => (n : Int))
def vhere (r : Nat) (own : Nat → Option Nat) (R : List Nat) : V := vo1 ((hereOf r own R).map fun (n : Nat) => (n : Int))
theorem vo1_some (i : Int) : vo1 (some i) = .int i := rfl
theorem here_lt {c : Nat → Nat → Int} {m r n : Nat} {u v : Nat → Int} {own : Nat → Option Nat} {R : List Nat} {bef : Nat → Option Nat} (B : TB c m r u v own R bef) (hr : r < n) {h : Nat} (hh : hereOf r own R = some h) : h < n := by
  unfold hereOf at hh
  cases e : R.getLast? with
  | none =>
    rw [e] at hh
    cases hh
    exact hr
  | some l =>
    rw [e] at hh
    have := (B.base.tight l h (B.inm l (List.mem_of_getLast? e)) hh).1
    omega
def sp_Matching_take_in (K : PySem.W.Frag) (C : Addr) : Sp := fun ws H Q _ => ∃ (p c u v o : Addr) (cs : List (List Int)) (us vs : List Int) (own : List (Option Nat)) (n m r : Nat), ws = [.ref p, .int (r : Nat)] ∧
  MAt C H p c u v o cs us vs own ∧ Rect cs n m ∧ us.length = n ∧ vs.length = m ∧ own.length = m ∧ r < n ∧ n ≤ m ∧ m ≤ 1000 ∧ MI (cst cs) m r (gi us) (gi vs) (go own) ∧
  ∀ H' us' vs' own', Frm [u, v, o] H H' → MAt C H' p c u v o cs us' vs' own' → us'.length = n → vs'.length = m → own'.length = m → MI (cst cs) m (r + 1) (gi us') (gi vs') (go own') → (∃ j, j < m ∧ gi vs' j = 0) → Q .non H'
theorem ok_Matching_take_in {P : Program} {w : World} {K : PySem.W.Frag} {mg : Str → Option Value} {base : Heap} {C_Matching : Addr} {f fMatching__shift fMatching__change_owners : Addr} {fd fdMatching__shift fdMatching__change_owners : FuncData} (F : Fun K "take_in" "Matching.take_in" s_Matching_take_in f fd) (T : Txt K mg C_Matching)
    (G_Matching__shift : FnOk P w K mg base CX0 1 fMatching__shift fdMatching__shift ["self", "rows", "columns", "gain"] (sp_Matching__shift K C_Matching)) (D_Matching__shift : MDef K C_Matching "_shift" fMatching__shift fdMatching__shift ["self", "rows", "columns", "gain"])
    (G_Matching__change_owners : FnOk P w K mg base CX0 1 fMatching__change_owners fdMatching__change_owners ["self", "row", "last", "before"] (sp_Matching__change_owners K C_Matching)) (D_Matching__change_owners : MDef K C_Matching "_change_owners" fMatching__change_owners fdMatching__change_owners ["self", "row", "last", "before"]) :
    FnOk P w K mg base CX0 2 f fd ["self", "row"] (sp_Matching_take_in K C_Matching) := by
  refine F.ok scMatching_take_in (fun vs H Q E h => ?_) (fun cdv A outer s H vs Q E hr h => ?_)
  · obtain ⟨p, c, u, v, o, cs, us, vs, own, n, m, r, rfl, _⟩ := h
    rfl
  · obtain ⟨p, c, u, v, o, cs, us, vs, own, n, m, r, rfl, hM, rc, lu, lv, lo, hrn, nm, m1000, B0, q⟩ := h
    obtain ⟨dx, hp⟩ := hM.ob
    obtain ⟨pu, pv', po⟩ := hM.off
    refine ⟨_, (pss_cons (ps_set (i := 2) scMatching_take_in.nd rfl (.inl rfl) (pe_callB call_len_seq (by rfl) T.m_len (by decide +kernel) (pa_cons (pe_fld (pv 0) rfl) pa_nil)))
      (pss_cons (ps_set (i := 3) scMatching_take_in.nd rfl (.inr rfl) (pe_op op_rep (pe_lst (pa_cons pe_non pa_nil)) (pv 2)))
      (pss_cons (ps_set (i := 4) scMatching_take_in.nd rfl (.inl rfl) (pe_op op_rep (pe_lst (pa_cons pe_non pa_nil)) (pv 2)))
      (pss_cons (ps_set (i := 5) scMatching_take_in.nd rfl (.inr rfl) (pe_lst pa_nil))
      (pss_cons (ps_set (i := 6) scMatching_take_in.nd rfl (.inl rfl) (pv 1))
      (C8.pss_cut (ps_while PassesOwn.never (pt_cmpR op_notN (pv 6) pe_non (nomark _)) (pss_cons (ps_set (i := 7) scMatching_take_in.nd rfl (.inl rfl) (pe_ifExp (pt_truthK (K := K) rfl (pv 5) (by intro _; rfl)) (pe_ix (r := rIxL K) ix_list (pv 5) (pe_un un_neg pe_int) (fun _ _ => rfl)) pe_non))
      (pss_cons (ps_setLc (i := 9) (own := [("column", 8)]) (g := gName 8) rfl scMatching_take_in.nd rfl rfl (sw_true rfl rfl rfl (by decide +kernel)) (pi_range1 rfl T.m_range (pa_cons (pv 2) pa_nil)) (blkOk_by (N := N_Matching_take_in) (sc := defScope s_Matching_take_in) (by decide +kernel)) (fun _ _ _ _ _ => (pg_name (i := 8) scMatching_take_in.nd rfl (Or.inl rfl))) (fun _ _ _ _ _ => (pts_one (pt_cmpR (r := rIn K true) op_notIn_seq (pv 8) (pv 5) (by rfl)))) (fun _ _ _ _ _ => (pv 8)))
      (pss_cons (ps_for PassesOwn.never rfl (pi_list (pv 9)) (pg_name (i := 8) scMatching_take_in.nd rfl (Or.inl rfl)) (pss_cons (ps_set (i := 10) scMatching_take_in.nd rfl (.inl rfl) (pe_op op_sub (pe_op op_sub (pe_ix (r := rIxL K) ix_list (pe_ix (r := rIxL K) ix_list (pe_fld (pv 0) rfl) (pv 6) (fun _ _ => rfl)) (pv 8) (fun _ _ => rfl)) (pe_ix (r := rIxL K) ix_list (pe_fld (pv 0) rfl) (pv 6) (fun _ _ => rfl))) (pe_ix (r := rIxL K) ix_list (pe_fld (pv 0) rfl) (pv 8) (fun _ _ => rfl))))
      (pss_one (ps_if (PW.pt (pw_or (pt_cmpR op_isN (pe_ix (r := rIxL K) ix_list (pv 3) (pv 8) (fun _ _ => rfl)) pe_non (nomark _)) (pw_or1 (pt_cmpR op_lt (pv 10) (pe_ix (r := rIxL K) ix_list (pv 3) (pv 8) (fun _ _ => rfl)) (nomark _))))) (pss_cons (ps_asg (pv 10) (pg_sub (pv 3) (pv 8) set_list))
      (pss_one (ps_asg (pv 7) (pg_sub (pv 4) (pv 8) set_list)))) pss_nil))))
      (pss_cons (ps_asg (pe_callB (r := V0.rMinP K) (V0.cr_minP (by rfl) hr.units) (by rfl) T.m_min (by decide +kernel) (pa_cons (pe_lc (own := [("column", 8)]) (g := gName 8) (tt := tYes) rfl scMatching_take_in.nd (pi_list (pv 9)) (blkOk_by (N := N_Matching_take_in) (sc := defScope s_Matching_take_in) (by decide +kernel)) (fun _ _ _ _ _ => (pg_name (i := 8) scMatching_take_in.nd rfl (Or.inl rfl))) (fun _ _ _ _ _ => pts_nil) (fun _ _ _ _ _ => (pe_tup (pa_cons (pe_ix (r := rIxL K) ix_list (pv 3) (pv 8) (fun _ _ => rfl)) (pa_cons (pv 8) pa_nil))))) pa_nil)) (pg_tup (by rfl) (pgs_cons (pg_name (i := 11) scMatching_take_in.nd rfl (Or.inl rfl)) (pgs_cons (pg_name (i := 12) scMatching_take_in.nd rfl (Or.inl rfl)) pgs_nil))))
      (pss_cons (ps_expr (pe_meth (pv 0) T.c_Matching D_Matching__shift.m G_Matching__shift (hr.mono (by omega)) D_Matching__shift.b .nil pass0 (pa_cons (pe_op op_cat (pe_lst (pa_cons (pv 1) pa_nil)) (pe_lc (own := [("column", 8)]) (g := gName 8) (tt := tYes) rfl scMatching_take_in.nd (pi_list (pv 5)) (blkOk_by (N := N_Matching_take_in) (sc := defScope s_Matching_take_in) (by decide +kernel)) (fun _ _ _ _ _ => (pg_name (i := 8) scMatching_take_in.nd rfl (Or.inl rfl))) (fun _ _ _ _ _ => pts_nil) (fun _ _ _ _ _ => (pe_ix (r := rIxL K) ix_list (V0.pe_fldK (K := K) rfl (pv 0) rfl) (pv 8) (fun _ _ => rfl))))) (pa_cons (pv 5) (pa_cons (pv 11) pa_nil)))))
      (pss_cons (ps_for PassesOwn.never rfl (pi_list (pv 9)) (pg_name (i := 8) scMatching_take_in.nd rfl (Or.inl rfl)) (pss_one (ps_augS (pv 3) (pv 8) pg_ixL (pv 11) ip_sub set_list)))
      (pss_cons (ps_expr (pe_bm PySem.F.plainAttrs_list PySem.F.slot_list_append PySem.F.type_list_append mt_append (pv 5) (pa_cons (pv 12) pa_nil)))
      (pss_one (ps_set (i := 6) scMatching_take_in.nd rfl (.inl rfl) (pe_ix (r := rIxL K) ix_list (pe_fld (pv 0) rfl) (pv 12) (fun _ _ => rfl))))))))))))
      (pss_one (ps_expr (pe_meth (pv 0) T.c_Matching D_Matching__change_owners.m G_Matching__change_owners (hr.mono (by omega)) D_Matching__change_owners.b .nil pass0 (pa_cons (pv 1) (pa_cons (pe_ix (r := rIxL K) ix_list (pv 5) (pe_un un_neg pe_int) (fun _ _ => rfl)) (pa_cons (pv 4) pa_nil)))))))))))), ?_⟩
    have fitm : 1 * ((m : Nat) : Int).toNat ≤ sizeLine := by rw [Int.toNat_natCast, Nat.one_mul]; exact Nat.le_of_lt (small1000 (by omega))
    refine ⟨_, rfl, p, C_Matching, dx, _, _, rfl, hp, T.c_Matching, T.n_Matching_owners, mf_owners _ _ _ _, o, _, rfl, .inl (SqL.of hM.ho), ?_⟩
    rw [show (von own).length = m by rw [vo_len, on_len]; exact lo]
    refine ⟨by show 1 ≤ sizeLine; decide, fun t1 n1 => ⟨_, rfl, t1, _, _, rfl, rfl, upd_same, by omega, by omega, fitm, fun rl nrl => ?_⟩⟩
    rw [rep_int]
    have s1 := (same_new (o := .lst [V.non]) n1).trans (same_new (o := .lst (List.replicate m V.non)) nrl)
    have nrl0 : H rl = none := none_of (same_new n1) nrl
    have r1 : (upd (upd H t1 (.lst [V.non])) rl (.lst (List.replicate m V.non))) rl = some (.lst (List.replicate m V.non)) := upd_same
    generalize (upd (upd H t1 (.lst [V.non])) rl (.lst (List.replicate m V.non))) = H1 at s1 r1 ⊢
    refine ⟨by show 1 ≤ sizeLine; decide, fun t2 n2 => ⟨_, rfl, t2, _, _, rfl, rfl, upd_same, by omega, by omega, fitm, fun bl nbl => ?_⟩⟩
    rw [rep_int]
    have s2' := (same_new (o := .lst [V.non]) n2).trans (same_new (o := .lst (List.replicate m V.non)) nbl)
    have nbl1 : H1 bl = none := none_of (same_new n2) nbl
    have nbl0 : H bl = none := none_of s1 nbl1
    have rb : rl ≠ bl := ne_of_none r1 nbl1
    have s2 := s1.trans s2'
    have r2 := s2' _ _ r1
    have b2 : (upd (upd H1 t2 (.lst [V.non])) bl (.lst (List.replicate m V.non))) bl = some (.lst (List.replicate m V.non)) := upd_same
    generalize (upd (upd H1 t2 (.lst [V.non])) bl (.lst (List.replicate m V.non))) = H2 at s2 r2 b2 ⊢
    refine ⟨by show 0 ≤ sizeLine; decide, fun Rl nR => ?_⟩
    have rR : rl ≠ Rl := ne_of_none r2 nR
    have bR : bl ≠ Rl := ne_of_none b2 nR
    have nR0 : H Rl = none := none_of s2 nR
    have s3 := s2.trans (same_new (o := .lst []) nR)
    have r3 := same_new (o := .lst []) nR _ _ r2
    have b3 := same_new (o := .lst []) nR _ _ b2
    have R3 : (upd H2 Rl (.lst [])) Rl = some (.lst []) := upd_same
    generalize (upd H2 Rl (.lst [])) = H3 at s3 r3 b3 R3 ⊢
    have ru : rl ≠ u := (ne_of_none hM.hu nrl0).symm
    have rv : rl ≠ v := (ne_of_none hM.hv nrl0).symm
    have bu : bl ≠ u := (ne_of_none hM.hu nbl0).symm
    have bv : bl ≠ v := (ne_of_none hM.hv nbl0).symm
    have bo : bl ≠ o := (ne_of_none hM.ho nbl0).symm
    have Ru : Rl ≠ u := (ne_of_none hM.hu nR0).symm
    have Rv : Rl ≠ v := (ne_of_none hM.hv nR0).symm
    have Ro : Rl ≠ o := (ne_of_none hM.ho nR0).symm
    refine ⟨_, rfl, ?_⟩
    have ow_ : ∀ {Hx : Hp}, Frm [u, v] H Hx → Hx o = some (.lst (von own)) := fun f => f _ _ hM.ho (by simp only [List.mem_cons, List.not_mem_nil, or_false, not_or]; exact ⟨hM.uo.symm, hM.vo.symm⟩)
    have pp_ : ∀ {Hx : Hp}, Frm [u, v] H Hx → Hx p = some (.ins C_Matching dx (mflds c u v o)) := fun f => f _ _ hp (by simp only [List.mem_cons, List.not_mem_nil, or_false, not_or]; exact ⟨pu, pv'⟩)
    have w0 : WT H H3 u v rl bl Rl us vs (List.replicate m none) (List.replicate m none) [] n m := ⟨.of s3, s3 _ _ hM.hu, s3 _ _ hM.hv, by rw [r3]; unfold vo; rw [List.map_replicate]; rfl, by rw [b3]; unfold von vo on; rw [List.map_replicate, List.map_replicate]; rfl, R3, lu, lv, List.length_replicate, List.length_replicate⟩
    have t0 : TH (cst cs) m r (gi us) (gi vs) (go own) [] (gr (List.replicate m none)) (go (List.replicate m none)) := by
      have h := TH.start B0
      have e1 : gr (List.replicate m none) = fun _ => none := funext fun j => by
        unfold gr
        rw [List.getElem?_replicate]
        split <;> rfl
      have e2 : go (List.replicate m none) = fun _ => none := funext fun j => by
        unfold go
        rw [List.getElem?_replicate]
        split <;> rfl
      rw [e1, e2]
      exact h
    refine ⟨fun σ Hx => ∃ (us' vs' : List Int) (rs : List (Option Int)) (bef : List (Option Nat)) (R : List Nat) (l : Nat) (y6 y7 y8 y9 y10 y11 y12 : Option V), σ = [some (.ref p), some (.int (r : Nat)), some (.int (m : Nat)), some (.ref rl), some (.ref bl), some (.ref Rl), y6, y7, y8, y9, y10, y11, y12] ∧ WT H Hx u v rl bl Rl us' vs' rs bef R n m ∧ TB (cst cs) m r (gi us') (gi vs') (go own) R (go bef) ∧ R.getLast? = some l ∧ go own l = none, ?_, ?_⟩
    · refine ⟨fun x σ Hx => ∃ (us' vs' : List Int) (rs : List (Option Int)) (bef : List (Option Nat)) (R : List Nat) (y7 y8 y9 y10 y11 y12 : Option V), σ = [some (.ref p), some (.int (r : Nat)), some (.int (m : Nat)), some (.ref rl), some (.ref bl), some (.ref Rl), some (vhere r (go own) R), y7, y8, y9, y10, y11, y12] ∧ WT H Hx u v rl bl Rl us' vs' rs bef R n m ∧ TH (cst cs) m r (gi us') (gi vs') (go own) R (gr rs) (go bef) ∧ x = m - R.length, ⟨_, us, vs, _, _, [], none, none, none, none, none, none, rfl, w0, t0, rfl⟩, ?_⟩
      rintro x σ Hx ⟨us', vs', rs, bef, R, y7, y8, y9, y10, y11, y12, rfl, w, th, rfl⟩
      refine ⟨_, rfl, rfl, _, rfl, ?_⟩
      unfold vhere
      rw [vo_non]
      cases eh : hereOf r (go own) R with
      | none =>
        have ⟨l, e1, e2⟩ : ∃ l, R.getLast? = some l ∧ go own l = none := by
          unfold hereOf at eh
          cases e : R.getLast? with
          | none =>
            rw [e] at eh
            cases eh
          | some l =>
            rw [e] at eh
            exact ⟨l, rfl, eh⟩
        exact iteF ⟨us', vs', rs, bef, R, l, _, _, _, _, _, _, _, rfl, w, th.b, e1, e2⟩
      | some h =>
        refine iteT ?_
        refine ⟨fun σ' H' => ∃ (us2 vs2 : List Int) (rs2 : List (Option Int)) (bef2 : List (Option Nat)) (R2 : List Nat) (y7 y8 y9 y10 y11 y12 : Option V), σ' = [some (.ref p), some (.int (r : Nat)), some (.int (m : Nat)), some (.ref rl), some (.ref bl), some (.ref Rl), some (vhere r (go own) R2), y7, y8, y9, y10, y11, y12] ∧ WT H H' u v rl bl Rl us2 vs2 rs2 bef2 R2 n m ∧ TH (cst cs) m r (gi us2) (gi vs2) (go own) R2 (gr rs2) (go bef2) ∧ m - R2.length < m - R.length, fun σ' H' hN => by
          obtain ⟨us2, vs2, rs2, bef2, R2, z7, z8, z9, z10, z11, z12, e, w2, th2, lt⟩ := hN
          exact ⟨_, lt, us2, vs2, rs2, bef2, R2, z7, z8, z9, z10, z11, z12, e, w2, th2, rfl⟩, ?_⟩
        have hn := here_lt th.b hrn eh
        -- last
        refine ⟨_, rfl, _, .inl ⟨_, SqL.of w.hRl, rfl⟩, ifx (fun y H' => y = vlast R ∧ Hx = H') (fun e Q q => ?_) (fun e Q q => ?_) ?_⟩
        · rcases last_cases R with z | ⟨D, l, z⟩
          · subst z
            cases e
          · refine ⟨_, rfl, _, rfl, Rl, _, _, _, rfl, rfl, SqL.of w.hRl, ?_, q _ _ ⟨rfl, rfl⟩⟩
            rw [z]
            unfold vn vlast
            rw [List.map_append, List.getLast?_concat]
            exact atI_last
        · refine q _ _ ⟨?_, rfl⟩
          rcases last_cases R with z | ⟨D, l, z⟩
          · rw [z]
            rfl
          · rw [z] at e
            simp at e
        rintro _ _ ⟨rfl, rfl⟩
        -- open columns
        refine ⟨_, rfl, _, rfl, by omega, by omega, fun D nD => lcRf (n := m) (fun x => decide (x ∉ R)) (fun x => x) nD (by omega) (fun _ => rfl) (fun x hx Hz Q sz q => ?_) (fun x hx _ Hz Q sz q => ⟨_, rfl, q _ (Same.refl _)⟩) fun H1 s1 hD => ?_⟩
        · refine ⟨_, rfl, _, rfl, Rl, _, rfl, .inl (SqL.of (sz _ _ w.hRl)), rfl, flat_vn _, _, rfl, ?_⟩
          show Q (if true = true then !inV (.int (x : Nat)) (vn R) else inV (.int (x : Nat)) (vn R)) Hz
          rw [if_pos rfl, inV_vn]
          rw [show (!decide (x ∈ R)) = decide (x ∉ R) from by simp]
          exact q _ (Same.refl _)
        rw [List.map_id'] at hD
        change H1 D = some (.lst (vn (opn m R))) at hD
        have f1 : Frm [u, v] H H1 := w.f.trans (.of s1)
        have Dne : ∀ {a : Addr} {ob : HO}, Hx a = some ob → D ≠ a := fun e => (ne_of_none e nD).symm
        have Dr := Dne w.hrl
        have Db := Dne w.hbl
        have DR := Dne w.hRl
        have Du := Dne w.hu
        have Dv' := Dne w.hv
        obtain ⟨uc, ra, row, cL, hc, hra, raL, hrow, lrow, hcost⟩ := cost_at hM.cs rc hn
        have cuv : c ∉ [u, v] := fun z => cL (by simp at z ⊢; rcases z with z | z <;> simp [z])
        have ruv : ra ∉ [u, v] := fun z => raL (by simp at z ⊢; rcases z with z | z <;> simp [z])
        have crb : c ∉ [rl, bl] := fun z => by
          rcases List.mem_cons.mp z with z | z
          · rw [z, nrl0] at hc; cases hc
          · rw [List.mem_singleton.mp z, nbl0] at hc; cases hc
        have rrb : ra ∉ [rl, bl] := fun z => by
          rcases List.mem_cons.mp z with z | z
          · rw [z, nrl0] at hrow; cases hrow
          · rw [List.mem_singleton.mp z, nbl0] at hrow; cases hrow
        -- the rests made less
        refine ⟨_, rfl, D, rfl, ⟨_, SqL.of hD⟩, for_list (xs := vn (opn m R)) (fun i σ Hy => ∃ (y8 y10 : Option V) (rs2 : List (Option Int)) (bf2 : List (Option Nat)), σ = [some (.ref p), some (.int (r : Nat)), some (.int (m : Nat)), some (.ref rl), some (.ref bl), some (.ref Rl), some (.int (h : Nat)), some (vlast R), y8, some (.ref D), y10, y11, y12] ∧ Frm [rl, bl] H1 Hy ∧ Hy rl = some (.lst (vo rs2)) ∧ Hy bl = some (.lst (von bf2)) ∧ rs2.length = m ∧ bf2.length = m ∧
            (∀ j, gr rs2 j = if j ∈ (opn m R).take i then lessR (gr rs j) (cst cs h j - gi us' h - gi vs' j) else gr rs j) ∧ ∀ j, go bf2 j = if j ∈ (opn m R).take i then lessB (gr rs j) (cst cs h j - gi us' h - gi vs' j) (go bef j) R.getLast? else go bef j) ⟨y8, y10, rs, bef, rfl, Frm.refl, s1 _ _ w.hrl, s1 _ _ w.hbl, w.lr, w.lb, fun j => by simp, fun j => by simp⟩ (fun i σ Hy _ hh => ?_) ?_ ?_⟩
        · obtain ⟨_, _, _, _, _, f, _⟩ := hh
          exact SqL.of (f _ _ hD (by simp; exact ⟨Dr, Db⟩))
        · rintro i wv σ Hy hw ⟨y8, y10, rs2, bf2, rfl, fy, hr2, hb2, lr2, lb2, er, eb⟩
          obtain ⟨k, hk, rfl, km⟩ := nat_at hw
          have kop := opn_mem.mp km
          have ktk := not_take (opn_nodup m R) hk
          have fy2 : ∀ {a : Addr} {ob : HO}, H1 a = some ob → a ≠ rl → a ≠ bl → Hy a = some ob := fun e n1 n2 => fy _ _ e (by simp; exact ⟨n1, n2⟩)
          have hpy := fy2 (pp_ f1) (ne_of_none hp nrl0) (ne_of_none hp nbl0)
          have huy := fy2 (s1 _ _ w.hu) ru.symm bu.symm
          have hvy := fy2 (s1 _ _ w.hv) rv.symm bv.symm
          have hcy := fy _ _ (f1 _ _ hc cuv) crb
          have hry := fy _ _ (f1 _ _ hrow ruv) rrb
          have e0 : gr rs2 k = gr rs k := by rw [er, if_neg ktk]
          have b0 : go bf2 k = go bef k := by rw [eb, if_neg ktk]
          refine ⟨_, rfl, p, C_Matching, dx, _, _, rfl, hpy, T.c_Matching, T.n_Matching_costs, mf_costs _ _ _ _, _, rfl, c, _, _, _, rfl, rfl, SqL.of hcy, atI_nat hra, _, rfl, ra, _, _, _, rfl, rfl, SqL.of hry, atI_nat (vi_get (hcost k kop.1)), _, rfl, p, C_Matching, dx, _, _, rfl, hpy, T.c_Matching, T.n_Matching_of_rows, mf_rows _ _ _ _, _, rfl, u, _, _, _, rfl, rfl, SqL.of huy, atI_nat (vi_get (gi_some (show h < us'.length by rw [w.lu]; exact hn))), _, _, rfl, rfl, _, rfl, p, C_Matching, dx, _, _, rfl, hpy, T.c_Matching, T.n_Matching_of_columns, mf_cols _ _ _ _, _, rfl, v, _, _, _, rfl, rfl, SqL.of hvy, atI_nat (vi_get (gi_some (show k < vs'.length by rw [w.lv]; exact kop.1))), _, _, rfl, rfl, ?_⟩
          have hr2k := vo_get (gr_some (show k < rs2.length by omega))
          rw [e0] at hr2k
          -- both branches
          have put : ∀ (less : lessR (gr rs k) (cst cs h k - gi us' h - gi vs' k) = some (cst cs h k - gi us' h - gi vs' k)) (lessb : lessB (gr rs k) (cst cs h k - gi us' h - gi vs' k) (go bef k) R.getLast? = R.getLast?), ∃ (y8 y10 : Option V) (rs2' : List (Option Int)) (bf2' : List (Option Nat)), [some (.ref p), some (.int (r : Nat)), some (.int (m : Nat)), some (.ref rl), some (.ref bl), some (.ref Rl), some (.int (h : Nat)), some (vlast R), some (.int (k : Nat)), some (.ref D), some (.int (cst cs h k - gi us' h - gi vs' k)), y11, y12] = [some (.ref p), some (.int (r : Nat)), some (.int (m : Nat)), some (.ref rl), some (.ref bl), some (.ref Rl), some (.int (h : Nat)), some (vlast R), y8, some (.ref D), y10, y11, y12] ∧ Frm [rl, bl] H1 (upd (upd Hy rl (.lst ((vo rs2).set k (.int (cst cs h k - gi us' h - gi vs' k))))) bl (.lst ((von bf2).set k (vlast R)))) ∧ (upd (upd Hy rl (.lst ((vo rs2).set k (.int (cst cs h k - gi us' h - gi vs' k))))) bl (.lst ((von bf2).set k (vlast R)))) rl = some (.lst (vo rs2')) ∧ (upd (upd Hy rl (.lst ((vo rs2).set k (.int (cst cs h k - gi us' h - gi vs' k))))) bl (.lst ((von bf2).set k (vlast R)))) bl = some (.lst (von bf2')) ∧ rs2'.length = m ∧ bf2'.length = m ∧
              (∀ j, gr rs2' j = if j ∈ (opn m R).take (i + 1) then lessR (gr rs j) (cst cs h j - gi us' h - gi vs' j) else gr rs j) ∧ ∀ j, go bf2' j = if j ∈ (opn m R).take (i + 1) then lessB (gr rs j) (cst cs h j - gi us' h - gi vs' j) (go bef j) R.getLast? else go bef j := fun less lessb => by
            refine ⟨_, _, rs2.set k (some (cst cs h k - gi us' h - gi vs' k)), bf2.set k R.getLast?, rfl, (fy.mut (by simp)).mut (by simp), ?_, ?_, by rw [List.length_set]; exact lr2, by rw [List.length_set]; exact lb2, fun j => ?_, fun j => ?_⟩
            · rw [upd_ne rb, upd_same, ← vo1_some, vo_set]
            · rw [upd_same]
              unfold vlast
              show some (HO.lst ((vo (on bf2)).set k (vo1 _))) = _
              rw [vo_set, on_set]
            · rw [gr_set (by omega), take_snoc hk]
              by_cases jk : j = k
              · subst jk
                rw [if_pos rfl, if_pos (by simp), less]
              · rw [if_neg jk, er]
                by_cases jt : j ∈ (opn m R).take i
                · rw [if_pos jt, if_pos (List.mem_append_left _ jt)]
                · rw [if_neg jt, if_neg (by simp [jt, jk])]
            · rw [go_set (by omega), take_snoc hk]
              by_cases jk : j = k
              · subst jk
                rw [if_pos rfl, if_pos (by simp), lessb]
              · rw [if_neg jk, eb]
                by_cases jt : j ∈ (opn m R).take i
                · rw [if_pos jt, if_pos (List.mem_append_left _ jt)]
                · rw [if_neg jt, if_neg (by simp [jt, jk])]
          have ixr : ixN (vo rs2).length (k : Int) = some k := ix_nat (by rw [vo_len]; omega)
          have ixb : ixN (von bf2).length (k : Int) = some k := ix_nat (by rw [vo_len, on_len]; omega)
          have hb3 : (upd Hy rl (.lst ((vo rs2).set k (.int (cst cs h k - gi us' h - gi vs' k))))) bl = some (.lst (von bf2)) := by rw [upd_ne rb.symm]; exact hb2
          refine ⟨_, rfl, _, rfl, rl, _, _, _, rfl, rfl, SqL.of hr2, atI_nat hr2k, rfl, _, rfl, ?_⟩
          cases eo : gr rs k with
          | none =>
            refine iteT (iteT ⟨_, rfl, _, rfl, _, rfl, rl, _, _, k, rfl, rfl, hr2, ixr, _, rfl, _, rfl, _, rfl, bl, _, _, k, rfl, rfl, hb3, ixb, ?_⟩)
            exact put (by rw [eo]; rfl) (by rw [eo]; rfl)
          | some qo =>
            rw [eo] at hr2k
            refine iteF ⟨_, rfl, _, rfl, _, rfl, rl, _, _, _, rfl, rfl, SqL.of hr2, atI_nat hr2k, _, _, rfl, rfl, _, rfl, ?_⟩
            by_cases less : cst cs h k - gi us' h - gi vs' k < qo
            · rw [decide_eq_true less]
              refine iteT ⟨_, rfl, _, rfl, _, rfl, rl, _, _, k, rfl, rfl, hr2, ixr, _, rfl, _, rfl, _, rfl, bl, _, _, k, rfl, rfl, hb3, ixb, ?_⟩
              exact put (by rw [eo]; exact if_pos less) (by rw [eo]; exact if_pos less)
            · rw [decide_eq_false less]
              refine iteF ⟨_, _, rs2, bf2, rfl, fy, hr2, hb2, lr2, lb2, fun j => ?_, fun j => ?_⟩
              · rw [take_snoc hk]
                by_cases jk : j = k
                · subst jk
                  rw [if_pos (by simp), e0, eo]
                  exact (if_neg less).symm
                · rw [er]
                  by_cases jt : j ∈ (opn m R).take i
                  · rw [if_pos jt, if_pos (List.mem_append_left _ jt)]
                  · rw [if_neg jt, if_neg (by simp [jt, jk])]
              · rw [take_snoc hk]
                by_cases jk : j = k
                · subst jk
                  rw [if_pos (by simp), b0, eo]
                  exact (if_neg less).symm
                · rw [eb]
                  by_cases jt : j ∈ (opn m R).take i
                  · rw [if_pos jt, if_pos (List.mem_append_left _ jt)]
                  · rw [if_neg jt, if_neg (by simp [jt, jk])]
        rintro σ H4 ⟨y8', y10', rs2, bf2, rfl, f4, hr4, hb4, lr2, lb2, er, eb⟩
        rw [vn_len, List.take_length] at er eb
        have tu : TU (cst cs) m r (gi us') (gi vs') (go own) R (gr rs2) (go bf2) := th.less eh (fun j hj hn => by rw [er, if_pos (opn_mem.mpr ⟨hj, hn⟩)]) (fun j hj hn => by rw [eb, if_pos (opn_mem.mpr ⟨hj, hn⟩)]) (fun j hj => by rw [eb, if_neg (fun z => (opn_mem.mp z).2 hj)])
        have f42 : ∀ {a : Addr} {ob : HO}, H1 a = some ob → a ≠ rl → a ≠ bl → H4 a = some ob := fun e n1 n2 => f4 _ _ e (by simp; exact ⟨n1, n2⟩)
        have hD4 := f42 hD Dr Db
        have hR4 := f42 (s1 _ _ w.hRl) rR.symm bR.symm
        have hu4 := f42 (s1 _ _ w.hu) ru.symm bu.symm
        have hv4 := f42 (s1 _ _ w.hv) rv.symm bv.symm
        have fH4 : Frm [u, v] H H4 := fun b x e nb => f42 (f1 b x e nb) (fun z => by rw [z, nrl0] at e; cases e) (fun z => by rw [z, nbl0] at e; cases e)
        -- the least pair
        have vals : ∀ j ∈ opn m R, ∃ g, gr rs2 j = some g := fun j hj => by
          obtain ⟨g, e, _⟩ := tu.all j (opn_mem.mp hj).1 (opn_mem.mp hj).2
          exact ⟨g, e⟩
        have prs : ∀ {i k : Nat}, (opn m R)[i]? = some k → ((opn m R).map fun j => ((gr rs2 j).getD 0, (j : Int)))[i]? = some ((gr rs2 k).getD 0, (k : Int)) := fun h => by rw [List.getElem?_map, h]; rfl
        refine ⟨_, rfl, D, rfl, ⟨_, SqL.of hD4⟩, fun E nE => lc_list (xs := vn (opn m R)) (fun i Hz => Same H4 Hz ∧ ∃ ws, Hz E = some (.lst ws) ∧ Dvs (hid E Hz) ws (((opn m R).map fun j => ((gr rs2 j).getD 0, (j : Int))).take i)) ⟨same_new nE, [], upd_same, by rw [List.take_zero]; exact .nil⟩ (fun i Hz _ hh => SqL.of (hh.1 _ _ hD4)) ?_ ?_⟩
        · rintro i wv Hz hw ⟨sz, ws, hE, dws⟩
          obtain ⟨k, hk, rfl, km⟩ := nat_at hw
          obtain ⟨g, eg⟩ := vals k km
          have hr5 := vo_get (gr_some (show k < rs2.length by rw [lr2]; exact (opn_mem.mp km).1))
          rw [eg] at hr5
          refine ⟨rfl, _, rfl, _, rfl, rl, _, _, _, rfl, rfl, SqL.of (sz _ _ hr4), atI_nat hr5, _, rfl, by show 2 ≤ sizeLine; decide, fun t nt => ⟨_, same_new nt _ _ hE, ?_, same_mut (sz.trans (same_new nt)) nE, _, upd_same, ?_⟩⟩
          · rw [dws.len, List.length_take, List.length_map]
            have := opn_len m R
            exact small1000 (by omega)
          · rw [take_snoc (prs hk), eg]
            have tE : t ≠ E := (ne_of_none hE nt).symm
            refine Dvs.app (dws.same ((hid_mono (same_new nt)).trans hid_mut)) (.cons (Dv.pair (a := t) (u := .int g) (v := .int (k : Nat)) ?_ (.int _) (.int _)) .nil)
            exact hid_of tE (by rw [upd_ne tE]; exact upd_same)
        rintro H5 ⟨s5, ws, hE5, dws⟩
        rw [vn_len, ← List.length_map (f := fun j => ((gr rs2 j).getD 0, (j : Int))), List.take_length] at dws
        obtain ⟨lenR, j0, hj0, nj0⟩ := tu.open_ (by omega)
        refine ⟨E, ws, _, rfl, SqL.of hE5, dws.same (hid_same _ _), fun z => ?_, fun wv mm hwv hmm dmm le => ?_⟩
        · have := List.map_eq_nil_iff.mp z
          have := opn_mem.mpr ⟨hj0, nj0⟩
          rename_i e
          rw [e] at this
          cases this
        obtain ⟨k, hk, rfl⟩ := List.mem_map.mp hmm
        obtain ⟨g, eg⟩ := vals k hk
        have kop := opn_mem.mp hk
        obtain ⟨ta, w1, w2, rfl, hta, d1, d2⟩ := dmm.pair_inv
        have d1 := d1.int_inv
        have d2 := d2.int_inv
        subst d1 d2
        rw [eg] at hta
        have least : ∀ j q, j < m → j ∉ R → gr rs2 j = some q → g ≤ q := fun j q hj hn e => by
          have := le _ (List.mem_map.mpr ⟨j, opn_mem.mpr ⟨hj, hn⟩, rfl⟩)
          rw [eg, e] at this
          exact this
        have fH5 : Frm [u, v] H H5 := fH4.trans (.of s5)
        refine ⟨ta, _, rfl, SqT.of hta, rfl, _, _, rfl, _, _, rfl, rfl, ?_⟩
        -- shift
        have ownR : ∀ j ∈ R, ∃ i, go own j = some i ∧ i < n := fun j hj => by
          obtain ⟨i, e⟩ := Option.isSome_iff_exists.mp (tu.owned j hj)
          have := (tu.b.base.tight j i (tu.b.inm j hj) e).1
          exact ⟨i, e, by omega⟩
        have Rlen : R.length ≤ 60000 := by omega
        refine ⟨_, rfl, p, dx, _, rfl, pp_ fH5, mf_no _ _ _ _ (by decide +kernel) (by decide +kernel) (by decide +kernel) (by decide +kernel), _, rfl, by show 1 ≤ sizeLine; decide, fun t6 n6 => ?_⟩
        have s6 := same_new (o := .lst [.int (r : Nat)]) n6
        have hR6 := s6 _ _ (s5 _ _ hR4)
        have t6' : (upd H5 t6 (.lst [.int (r : Nat)])) t6 = some (.lst [.int (r : Nat)]) := upd_same
        have fH6 : Frm [u, v] H (upd H5 t6 (.lst [.int (r : Nat)])) := fH5.trans (.of s6)
        have sH6 := s5.trans s6
        generalize (upd H5 t6 (.lst [.int (r : Nat)])) = H6 at s6 hR6 t6' fH6 sH6 ⊢
        refine ⟨_, rfl, Rl, rfl, ⟨_, SqL.of hR6⟩, fun G nG => lcL (fun j => (go own j).getD 0) nG hR6 Rlen (fun _ => rfl) (fun j hj Hz Q sz q => ?_) fun H7 s7 hG => ?_⟩
        · obtain ⟨i, e, _⟩ := ownR j hj
          have ho := vo_get (on_get (go_some (xs := own) (show j < own.length by rw [lo]; exact tu.b.inm j hj)))
          rw [e] at ho
          have fz : Frm [u, v] H Hz := fH6.trans (.of sz)
          refine ⟨_, rfl, p, C_Matching, dx, _, _, rfl, pp_ fz, T.c_Matching, T.n_Matching_owners, mf_owners _ _ _ _, _, rfl, o, _, _, _, rfl, rfl, SqL.of (ow_ fz), atI_nat ho, ?_⟩
          rw [e] at q
          exact q _ (Same.refl _)
        have t7 := s7 _ _ t6'
        refine ⟨t6, G, _, _, rfl, rfl, t7, hG, ?_, fun J nJ => ?_⟩
        · rw [vn_len, List.length_map]
          exact Nat.le_of_lt (small1000 (by show 1 + R.length ≤ _; omega))
        have s8 := same_new (o := .lst ([.int (r : Nat)] ++ vn (R.map fun j => (go own j).getD 0))) nJ
        have sH8 := sH6.trans (s7.trans s8)
        have hJ : (upd H7 J (.lst ([.int (r : Nat)] ++ vn (R.map fun j => (go own j).getD 0)))) J = some (.lst (vn (r :: R.map fun j => (go own j).getD 0))) := upd_same
        have nJ4 : H4 J = none := none_of (sH6.trans s7) nJ
        generalize (upd H7 J (.lst ([.int (r : Nat)] ++ vn (R.map fun j => (go own j).getD 0)))) = H8 at s8 sH8 hJ ⊢
        have fH8 : Frm [u, v] H H8 := fH4.trans (.of sH8)
        have M8 : MAt C_Matching H8 p c u v o cs us' vs' own := hM.frm (fH8.more (by simp)) (sH8 _ _ hu4) (sH8 _ _ hv4) (ow_ fH8)
        have Ju : J ≠ u := (ne_of_none hu4 nJ4).symm
        have exi : ∀ i, i ∈ (r :: R.map fun j => (go own j).getD 0) ↔ Ex (go own) r R i := fun i => by
          rw [List.mem_cons, List.mem_map]
          constructor
          · rintro (e | ⟨j, hj, e⟩)
            · exact .inl e
            · obtain ⟨i', e', _⟩ := ownR j hj
              rw [e'] at e
              have e : i' = i := e
              exact .inr ⟨j, hj, by rw [e', e]⟩
          · rintro (e | ⟨j, hj, e⟩)
            · exact .inl e
            · exact .inr ⟨j, hj, by rw [e]; rfl⟩
        have ndr : (r :: R.map fun j => (go own j).getD 0).Nodup := by
          refine List.nodup_cons.mpr ⟨fun z => ?_, ?_⟩
          · obtain ⟨j, hj, e⟩ := List.mem_map.mp z
            obtain ⟨i', e', _⟩ := ownR j hj
            rw [e'] at e
            have e : i' = r := e
            have := (tu.b.base.tight j i' (tu.b.inm j hj) e').1
            omega
          · refine nodup_map_of tu.b.nd fun a ha b hb e => ?_
            obtain ⟨i1, e1, _⟩ := ownR a ha
            obtain ⟨i2, e2, _⟩ := ownR b hb
            rw [e1, e2] at e
            have e : i1 = i2 := e
            exact tu.b.base.inj a b i1 (tu.b.inm a ha) (tu.b.inm b hb) e1 (e ▸ e2)
        have ltr : ∀ i ∈ (r :: R.map fun j => (go own j).getD 0), i < us'.length := fun i hi => by
          rw [w.lu]
          rcases List.mem_cons.mp hi with e | hi
          · omega
          · obtain ⟨j, hj, e⟩ := List.mem_map.mp hi
            obtain ⟨i', e', lt⟩ := ownR j hj
            rw [e'] at e
            have e : i' = i := e
            omega
        refine ⟨_, rfl, _, rfl, p, c, u, v, o, J, Rl, cs, us', vs', own, _, R, g, rfl, M8, hJ, sH8 _ _ hR4, Ju, Ru, Rv, ltr, fun j hj => by rw [w.lv]; exact tu.b.inm j hj, fun H9 f9 hu9 hv9 => ?_⟩
        have k9 : ∀ {a : Addr} {ob : HO}, H8 a = some ob → a ≠ u → a ≠ v → H9 a = some ob := fun e n1 n2 => f9 _ _ e (by simp; exact ⟨n1, n2⟩)
        have hr9 := k9 (sH8 _ _ hr4) ru rv
        have hb9 := k9 (sH8 _ _ hb4) bu bv
        have hR9 := k9 (sH8 _ _ hR4) Ru Rv
        have hD9 := k9 (sH8 _ _ hD4) Du Dv'
        have fH9 : Frm [u, v] H H9 := fH8.trans f9
        -- rests less the gain
        refine ⟨_, rfl, D, rfl, ⟨_, SqL.of hD9⟩, for_list (xs := vn (opn m R)) (fun i σ Hy => ∃ (y8 : Option V) (rs3 : List (Option Int)), σ = [some (.ref p), some (.int (r : Nat)), some (.int (m : Nat)), some (.ref rl), some (.ref bl), some (.ref Rl), some (.int (h : Nat)), some (vlast R), y8, some (.ref D), y10', some (.int g), some (.int (k : Nat))] ∧ Frm [rl] H9 Hy ∧ Hy rl = some (.lst (vo rs3)) ∧ rs3.length = m ∧ ∀ j, gr rs3 j = if j ∈ (opn m R).take i then (gr rs2 j).map (fun x => x - g) else gr rs2 j) ⟨y8', rs2, rfl, Frm.refl, hr9, lr2, fun j => by simp⟩ (fun i σ Hy _ hh => ?_) ?_ ?_⟩
        · obtain ⟨_, _, _, f, _⟩ := hh
          exact SqL.of (f _ _ hD9 (by simp; exact Dr))
        · rintro i wv σ Hy hw ⟨y8, rs3, rfl, fy, hry, lr3, er3⟩
          obtain ⟨j, hj, rfl, jm⟩ := nat_at hw
          have jop := opn_mem.mp jm
          have jtk := not_take (opn_nodup m R) hj
          obtain ⟨gj, egj⟩ := vals j jm
          have e3 : gr rs3 j = some gj := by rw [er3, if_neg jtk, egj]
          have hry3 := vo_get (gr_some (show j < rs3.length by omega))
          rw [e3] at hry3
          refine ⟨_, rfl, _, rfl, rl, _, _, _, rfl, rfl, SqL.of hry, atI_nat hry3, _, rfl, _, _, rfl, rfl, rl, _, _, j, rfl, rfl, hry, ix_nat (by rw [vo_len]; omega), ?_⟩
          refine ⟨_, rs3.set j (some (gj - g)), rfl, fy.mut (by simp), ?_, by rw [List.length_set]; exact lr3, fun j' => ?_⟩
          · rw [upd_same, ← vo1_some, vo_set]
          · rw [gr_set (by omega), take_snoc hj]
            by_cases jk : j' = j
            · subst jk
              rw [if_pos rfl, if_pos (by simp), egj]
              rfl
            · rw [if_neg jk, er3]
              by_cases jt : j' ∈ (opn m R).take i
              · rw [if_pos jt, if_pos (List.mem_append_left _ jt)]
              · rw [if_neg jt, if_neg (by simp [jt, jk])]
        rintro σ H10 ⟨y8, rs3, rfl, f10, hr10, lr3, er3⟩
        rw [vn_len, List.take_length] at er3
        have k10 : ∀ {a : Addr} {ob : HO}, H9 a = some ob → a ≠ rl → H10 a = some ob := fun e n1 => f10 _ _ e (by simp; exact n1)
        have hR10 := k10 hR9 rR.symm
        refine ⟨_, rfl, .inl ⟨rfl, _, SqL.of hR10⟩, _, rfl, Rl, _, _, rfl, rfl, hR10, by rw [vn_len]; exact small1000 (by omega), ?_⟩
        have fH10 : Frm [u, v] H (upd H10 Rl (.lst (vn R ++ [.int (k : Nat)]))) := fun b x e nb => by
          rw [upd_ne (fun z => by rw [z, nR0] at e; cases e)]
          exact k10 (fH9 b x e nb) (fun z => by rw [z, nrl0] at e; cases e)
        have hok := vo_get (on_get (go_some (xs := own) (show k < own.length by rw [lo]; exact kop.1)))
        refine ⟨_, rfl, p, C_Matching, dx, _, _, rfl, pp_ fH10, T.c_Matching, T.n_Matching_owners, mf_owners _ _ _ _, _, rfl, o, _, _, _, rfl, rfl, SqL.of (ow_ fH10), atI_nat hok, ?_⟩
        refine ⟨addAll us' (r :: R.map fun j => (go own j).getD 0) g, addAll vs' R (-g), rs3, bf2, R ++ [k], some (vlast R), y8, some (.ref D), y10', some (.int g), some (.int (k : Nat)), ?_, ⟨fH10, ?_, ?_, ?_, ?_, ?_, (addAll_len _ _ _).trans w.lu, (addAll_len _ _ _).trans w.lv, lr3, lb2⟩, tu.next (by omega) kop.1 kop.2 eg least (fun i hi => by rw [addAll_gi g _ _ ndr ltr, if_pos ((exi i).mpr hi)]) (fun i hi => by rw [addAll_gi g _ _ ndr ltr, if_neg (fun z => hi ((exi i).mp z))]) (fun j hj => ?_) (fun j hj => ?_) (fun j q hj hn e => ?_), ?_⟩
        · unfold vhere hereOf
          rw [List.getLast?_concat]
          rfl
        · rw [upd_ne Ru.symm]
          exact k10 hu9 ru.symm
        · rw [upd_ne Rv.symm]
          exact k10 hv9 rv.symm
        · rw [upd_ne rR]
          exact hr10
        · rw [upd_ne bR]
          exact k10 hb9 rb.symm
        · rw [upd_same, vn_snoc]
        · rw [addAll_gi _ _ _ tu.b.nd (fun x hx => by rw [w.lv]; exact tu.b.inm x hx), if_pos hj]
          omega
        · rw [addAll_gi _ _ _ tu.b.nd (fun x hx => by rw [w.lv]; exact tu.b.inm x hx), if_neg hj]
        · rw [er3, if_pos (opn_mem.mpr ⟨hj, hn⟩), e]
          rfl
        · rw [List.length_append, List.length_singleton]
          omega
    rintro σ Hx ⟨us', vs', rs, bef, R, l, y6, y7, y8, y9, y10, y11, y12, rfl, w, tb, hl, nl⟩
    obtain ⟨D, rfl⟩ : ∃ D, R = D ++ [l] := by
      rcases last_cases R with e | ⟨D, l', e⟩
      · rw [e] at hl
        cases hl
      · rw [e, List.getLast?_concat] at hl
        cases hl
        exact ⟨D, e⟩
    have MX : MAt C_Matching Hx p c u v o cs us' vs' own := hM.frm (w.f.more (by simp)) w.hu w.hv (ow_ w.f)
    refine ⟨_, rfl, p, dx, _, rfl, pp_ w.f, mf_no _ _ _ _ (by decide +kernel) (by decide +kernel) (by decide +kernel) (by decide +kernel), _, rfl, _, rfl, _, rfl, Rl, _, _, _, rfl, rfl, SqL.of w.hRl, (by unfold vn; rw [List.map_append]; exact atI_last), _, rfl, p, c, u, v, o, bl, cs, us', vs', own, bef, D ++ [l], m, r, D.length, l, rfl, MX, w.hbl, bo, lo, w.lb, tb, List.getElem?_concat_length, nl, fun H' own' f' ho' lo' B' => ?_⟩
    have uo := hM.uo
    have vo'' := hM.vo
    refine q H' us' vs' own' ((w.f.more (by simp)).trans (f'.more (by simp))) (MX.frm (f'.more (by simp)) (f' _ _ w.hu (by simpa using uo)) (f' _ _ w.hv (by simpa using vo'')) ho') w.lu w.lv lo' B' ⟨l, tb.inm l (by simp), tb.base.zero l (tb.inm l (by simp)) nl⟩

end K15
namespace K15
open PySem PySem.Spec PyProof.Rows L2 V0
/-! ### the assignment -/
theorem dc_itM {J : It} {n : Nat} {G : Hp → Prop} {Y : Nat → Hp → V → Hp → Prop} (w : Walk J n G Y) {g : TG} {tt : TT} {tk tv : TE} {vs : List Nat} {σ : L2.St} {H1 : Hp} {D : Addr} {Qd : Hp → Prop} (Pv : Nat → Hp → Prop) (h0 : Pv 0 (upd H1 D (.dK []))) (hG : ∀ i H, i ≤ n → Pv i H → G H)
    (hs : ∀ i x H H', i < n → Pv i H → Y i H x H' → g x (wipe σ vs) H' fun σ2 H2 => wipe σ2 vs = wipe σ vs ∧ tt σ2 H2 fun b H3 =>
      if b = true then tk σ2 H3 fun y H4 => tv σ2 H4 fun z H5 => ∃ kvs k, y = kV k ∧ H5 D = some (.dK kvs) ∧ kvs.length < sizeLine ∧ Pv (i + 1) (upd H5 D (.dK (putK kvs k z))) else Pv (i + 1) H3) (hd : ∀ H, Pv n H → Qd H) :
    ∃ W : Nat → Nat → Hp → Prop, (∃ m, W 0 m (upd H1 D (.dK []))) ∧ ∀ i m H, W i m H →
      (J.stop i H ∧ Qd H) ∨ (J.go i H ∧ ∃ Nx : Hp → Prop, (∀ H', Nx H' → ∃ m', m' < m ∧ W (i + 1) m' H') ∧ ∀ x H', J.yld i H x H' → g x (wipe σ vs) H' fun σ2 H2 => wipe σ2 vs = wipe σ vs ∧ tt σ2 H2 fun b H3 =>
        if b = true then tk σ2 H3 fun y H4 => tv σ2 H4 fun z H5 => ∃ kvs k, y = kV k ∧ H5 D = some (.dK kvs) ∧ kvs.length < sizeLine ∧ Nx (upd H5 D (.dK (putK kvs k z))) else Nx H3) := by
  refine ⟨fun i m H => m = n - i ∧ i ≤ n ∧ Pv i H, ⟨n, by simp, Nat.zero_le _, h0⟩, ?_⟩
  rintro i m H ⟨rfl, hi, p⟩
  have q := hG i H hi p
  by_cases hlt : i < n
  · exact .inr ⟨w.goes i H hlt q, Pv (i + 1), fun H' p' => ⟨n - (i + 1), by omega, rfl, hlt, p'⟩, fun x H' y => hs i x H H' hlt p (w.yields i H x H' hlt q y)⟩
  · have e : i = n := by omega
    subst e
    exact .inl ⟨w.stops H q, hd H p⟩
/-- the column of row i -/
def colOf (own : List (Option Nat)) (i : Nat) : Nat := own.findIdx (fun x => decide (x = some i))
theorem colOf_ok {own : List (Option Nat)} {i j m : Nat} (lo : own.length = m) (hj : j < m) (e : go own j = some i) : colOf own i < m ∧ go own (colOf own i) = some i := by
  have h : ∃ x ∈ own, (fun x => decide (x = some i)) x = true := ⟨some i, by rw [← e]; exact List.mem_of_getElem? (go_some (by omega)), decide_eq_true rfl⟩
  have hl := List.findIdx_lt_length_of_exists h
  refine ⟨by unfold colOf; omega, ?_⟩
  have := List.findIdx_getElem (xs := own) (p := fun x => decide (x = some i)) (w := hl)
  unfold colOf go
  rw [List.getElem?_eq_getElem hl]
  exact of_decide_eq_true this
def sp_Matching_assignment (K : PySem.W.Frag) (C : Addr) : Sp := fun ws H Q _ => ∃ (p c u v o : Addr) (cs : List (List Int)) (us vs : List Int) (own : List (Option Nat)) (n m : Nat), ws = [.ref p] ∧
  MAt C H p c u v o cs us vs own ∧ cs.length = n ∧ own.length = m ∧ n ≤ 1000 ∧ m ≤ 1000 ∧ MI (cst cs) m n (gi us) (gi vs) (go own) ∧
  ∀ H' l (a : List Nat), Same H H' → H l = none → H' l = some (.lst (vn a)) → a = (List.range n).map (colOf own) → Q (.ref l) H'
theorem ok_Matching_assignment {P : Program} {w : World} {K : PySem.W.Frag} {mg : Str → Option Value} {base : Heap} {C_Matching : Addr} {f  : Addr} {fd  : FuncData} (F : Fun K "assignment" "Matching.assignment" s_Matching_assignment f fd) (T : Txt K mg C_Matching) :
    FnOk P w K mg base CX0 1 f fd ["self"] (sp_Matching_assignment K C_Matching) := by
  refine F.ok scMatching_assignment (fun vs H Q E h => ?_) (fun cdv A outer s H vs Q E hr h => ?_)
  · obtain ⟨p, c, u, v, o, cs, us, vs, own, n, m, rfl, _⟩ := h
    rfl
  · obtain ⟨p, c, u, v, o, cs, us, vs, own, n, m, rfl, hM, ln, lo, n1000, m1000, B, q⟩ := h
    obtain ⟨dx, hp⟩ := hM.ob
    refine ⟨_, (pss_cons (ps_set (i := 1) scMatching_assignment.nd rfl (.inr rfl) (pe_dc (own := [("column", 2), ("row", 3)]) (g := gTup K 2 (gCons (gName 2) (gCons (gName 3) (gNil)))) rfl scMatching_assignment.nd (pi_enum (by rfl) T.m_enumerate (pa_cons (pe_fld (pv 0) rfl) pa_nil)) (blkOk_by (N := N_Matching_assignment) (sc := defScope s_Matching_assignment) (by decide +kernel)) (fun _ _ _ _ _ => (pg_tup (by rfl) (pgs_cons (pg_name (i := 2) scMatching_assignment.nd rfl (Or.inl rfl)) (pgs_cons (pg_name (i := 3) scMatching_assignment.nd rfl (Or.inl rfl)) pgs_nil)))) (fun _ _ _ _ _ => (pts_one (pt_cmpR op_notN (pv 3) pe_non (nomark _)))) (fun _ _ _ _ _ => (pv 3)) (fun _ _ _ _ _ => (pv 2))))
      (pss_one (ps_ret (pe_lc (own := [("row", 3)]) (g := gName 3) (tt := tYes) rfl scMatching_assignment.nd (pi_range1 rfl T.m_range (pa_cons (pe_callB call_len_seq (by rfl) T.m_len (by decide +kernel) (pa_cons (pe_fld (pv 0) rfl) pa_nil)) pa_nil)) (blkOk_by (N := N_Matching_assignment) (sc := defScope s_Matching_assignment) (by decide +kernel)) (fun _ _ _ _ _ => (pg_name (i := 3) scMatching_assignment.nd rfl (Or.inl rfl))) (fun _ _ _ _ _ => pts_nil) (fun _ _ _ _ _ => (pe_dget (hu_of hr) (pv 1) (pv 3) (fun _ _ => rfl))))))), ?_⟩
    refine ⟨_, rfl, p, C_Matching, dx, _, _, rfl, hp, T.c_Matching, T.n_Matching_owners, mf_owners _ _ _ _, o, _, rfl, SqL.of hM.ho, fun D nD => dc_itM (n := m) (by rw [show m = (von own).length by rw [vo_len, on_len]; exact lo.symm]; exact walk_enum) (fun i Hz => Same H Hz ∧ ∃ kvs : List (Key × V), Hz D = some (.dK kvs) ∧ kvs.length ≤ i ∧ ∀ r j : Nat, j < i → go own j = some r → valV kvs (Sum.inl (r : Int)) = some (.int (j : Nat))) ⟨same_new nD, [], upd_same, Nat.le_refl _, fun r j hj => absurd hj (Nat.not_lt_zero _)⟩ (fun i Hz _ h => SqL.of (h.1 _ _ hM.ho)) ?_ ?_⟩
    · rintro i x Hz Hz' hi ⟨sz, kvs, hD, lk, hk⟩ ⟨T1, x1, y1, rfl, nT, rfl, ex, ey⟩
      cases ex
      have ey : (von own)[i]? = some y1 := ey
      have eo := vo_get (on_get (go_some (xs := own) (show i < own.length by omega)))
      rw [eo] at ey
      cases ey
      have sT := same_new (o := .tup [V.int (i : Nat), vo1 ((go own i).map fun (n : Nat) => (n : Int))]) nT
      refine ⟨T1, _, rfl, SqT.of upd_same, rfl, _, _, rfl, _, _, rfl, rfl, rfl, _, rfl, rfl, _, rfl, ?_⟩
      rw [vo_non]
      generalize e : go own i = w1 at sT ⊢
      cases w1 with
      | none =>
        refine iteF ⟨sz.trans sT, kvs, sT _ _ hD, by omega, fun r j hj ej => hk r j ?_ ej⟩
        by_cases h : j = i
        · subst h
          rw [e] at ej
          cases ej
        · omega
      | some r =>
        refine iteT ⟨_, rfl, _, rfl, kvs, Sum.inl (r : Int), rfl, sT _ _ hD, small64k (by omega), same_mut (sz.trans sT) nD, _, upd_same, Nat.le_trans (length_putK _ _ _) (by omega), fun r' j hj ej => ?_⟩
        rw [valV_put]
        by_cases h : r' = r
        · subst h
          rw [if_pos rfl, B.inj j i r' (by omega) (by omega) ej e]
        · rw [if_neg (fun z => h (by have := Sum.inl.inj z; omega))]
          refine hk r' j ?_ ej
          by_cases z : j = i
          · subst z
            rw [e] at ej
            cases ej
            exact absurd rfl h
          · omega
    rintro H1 ⟨s1, kvs, hD, lk, hk⟩
    have hc1 := hM.cs.same (hids_frm (Frm.of (L := []) s1) (by simp))
    obtain ⟨a, uc, ea, ha, huc⟩ := hc1.list_inv
    cases ea
    have ha := (hids_same _ _ _ _ ha)
    refine ⟨_, rfl, p, C_Matching, dx, _, _, rfl, s1 _ _ hp, T.c_Matching, T.n_Matching_costs, mf_costs _ _ _ _, c, _, rfl, .inl (SqL.of ha), ?_⟩
    rw [huc.len, ln]
    refine ⟨_, rfl, by omega, by omega, fun E nE => lcR (n := n) (colOf own) nE (by omega) (fun _ => rfl) (fun x hx Hz Q sz q => ?_) fun H2 s2 hE => ?_⟩
    · obtain ⟨j, hj, e⟩ := B.sur x hx
      obtain ⟨h1, h2⟩ := colOf_ok lo hj e
      exact ⟨_, rfl, _, rfl, D, _, rfl, (by rw [← hk x (colOf own x) h1 h2]; exact DGet.k (k := Sum.inl (x : Int)) (sz _ _ hD)), q _ (Same.refl _)⟩
    · exact q H2 E _ (s1.trans s2) (none_of s1 nE) hE rfl
/-! ### what is right -/
def total (cs : List (List Int)) (a : List Int) : Int := ((List.range cs.length).map fun i => cst cs i (a[i]?.getD 0).toNat).sum
structure RightP (cs : List (List Int)) (a us vs : List Int) : Prop where
  la : a.length = cs.length
  lu : us.length = cs.length
  lv : vs.length = wid cs
  inr : ∀ j ∈ a, 0 ≤ j ∧ j < (wid cs : Nat)
  nd : a.Nodup
  neg : ∀ x ∈ vs, x ≤ 0
  feas : ∀ i j, i < cs.length → j < wid cs → gi us i + gi vs j ≤ cst cs i j
  sum : us.sum + vs.sum = total cs a
theorem sum_zero {α : Type} {f : α → Int} : ∀ {l : List α}, (∀ x ∈ l, f x = 0) → (l.map f).sum = 0
  | [], _ => rfl
  | x :: l, h => by
    rw [List.map_cons, List.sum_cons, h x List.mem_cons_self, sum_zero fun y hy => h y (List.mem_cons_of_mem _ hy)]
    rfl
theorem sum_erase {f : Nat → Int} : ∀ {l : List Nat} {x : Nat}, x ∈ l → (l.map f).sum = f x + ((l.erase x).map f).sum
  | y :: l, x, h => by
    by_cases e : y = x
    · subst e
      rw [List.erase_cons_head, List.map_cons, List.sum_cons]
    · rw [List.erase_cons_tail (by simpa using e), List.map_cons, List.sum_cons, List.map_cons, List.sum_cons]
      rcases List.mem_cons.mp h with h | h
      · exact absurd h.symm e
      · rw [sum_erase h]
        omega
/-- what is 0 outside of a adds up over a alone -/
theorem sum_supp {f : Nat → Int} : ∀ (a N : List Nat), N.Nodup → a.Nodup → (∀ x ∈ a, x ∈ N) → (∀ x ∈ N, x ∉ a → f x = 0) → (N.map f).sum = (a.map f).sum
  | [], N, _, _, _, h => sum_zero fun x hx => h x hx (by simp)
  | x :: a, N, nN, na, sub, h => by
    obtain ⟨n1, n2⟩ := List.nodup_cons.mp na
    have nE := nN.erase x
    rw [sum_erase (sub x List.mem_cons_self), List.map_cons, List.sum_cons, sum_supp a (N.erase x) nE n2 (fun y hy => (List.mem_erase_of_ne (fun z => n1 (by rw [← z]; exact hy))).mpr (sub y (List.mem_cons_of_mem _ hy))) fun y hy hn => ?_]
    have := (nN.mem_erase_iff).mp hy
    exact h y this.2 fun z => (List.mem_cons.mp z).elim this.1 hn
theorem sum_np {α : Type} {f : α → Int} : ∀ {l : List α}, (∀ x ∈ l, f x ≤ 0) → (l.map f).sum ≤ 0
  | [], _ => Int.le_refl _
  | x :: l, h => by
    rw [List.map_cons, List.sum_cons]
    have := h x List.mem_cons_self
    have := sum_np fun y hy => h y (List.mem_cons_of_mem _ hy)
    omega
/-- what is not above 0 adds up to no more than over a part -/
theorem sum_part {f : Nat → Int} : ∀ (a N : List Nat), N.Nodup → a.Nodup → (∀ x ∈ a, x ∈ N) → (∀ x ∈ N, f x ≤ 0) → (N.map f).sum ≤ (a.map f).sum
  | [], N, _, _, _, h => sum_np h
  | x :: a, N, nN, na, sub, h => by
    obtain ⟨n1, n2⟩ := List.nodup_cons.mp na
    have nE := nN.erase x
    rw [sum_erase (sub x List.mem_cons_self), List.map_cons, List.sum_cons]
    have := sum_part a (N.erase x) nE n2 (fun y hy => (List.mem_erase_of_ne (fun z => n1 (by rw [← z]; exact hy))).mpr (sub y (List.mem_cons_of_mem _ hy))) fun y hy => h y ((nN.mem_erase_iff).mp hy).2
    omega
theorem sum_gi : ∀ (us : List Int), us.sum = ((List.range us.length).map (gi us)).sum := fun us => by
  have : (List.range us.length).map (gi us) = us := by
    refine List.ext_getElem (by simp) fun i h1 h2 => ?_
    rw [List.getElem_map, List.getElem_range]
    unfold gi
    rw [List.getElem?_eq_getElem h2]
    rfl
  rw [this]
theorem sum_add {α : Type} (f g : α → Int) : ∀ l : List α, (l.map fun i => f i + g i).sum = (l.map f).sum + (l.map g).sum
  | [] => rfl
  | x :: l => by
    rw [List.map_cons, List.map_cons, List.map_cons, List.sum_cons, List.sum_cons, List.sum_cons, sum_add f g l]
    omega
theorem sum_le {α : Type} {f g : α → Int} : ∀ {l : List α}, (∀ x ∈ l, f x ≤ g x) → (l.map f).sum ≤ (l.map g).sum
  | [], _ => Int.le_refl _
  | x :: l, h => by
    rw [List.map_cons, List.map_cons, List.sum_cons, List.sum_cons]
    have := h x List.mem_cons_self
    have := sum_le fun y hy => h y (List.mem_cons_of_mem _ hy)
    omega
theorem mem_vs {vs : List Int} {x : Int} (h : x ∈ vs) : ∃ j, j < vs.length ∧ x = gi vs j := by
  obtain ⟨j, hj, e⟩ := List.getElem_of_mem h
  refine ⟨j, hj, ?_⟩
  unfold gi
  rw [List.getElem?_eq_getElem hj, e]
  rfl
def nis (a : List Nat) : List Int := a.map fun (n : Nat) => (n : Int)
theorem vi_ints (a : List Nat) : vi (nis a) = vn a := by
  unfold vi nis vn
  rw [List.map_map]
  rfl
theorem MI.right {cs : List (List Int)} {us vs : List Int} {own : List (Option Nat)} (B : MI (cst cs) (wid cs) cs.length (gi us) (gi vs) (go own)) (lu : us.length = cs.length) (lv : vs.length = wid cs) (lo : own.length = wid cs) : RightP cs (nis ((List.range cs.length).map (colOf own))) us vs := by
  have ok : ∀ i, i < cs.length → colOf own i < wid cs ∧ go own (colOf own i) = some i := fun i hi => by
    obtain ⟨j, hj, e⟩ := B.sur i hi
    exact colOf_ok lo hj e
  have nd : ((List.range cs.length).map (colOf own)).Nodup := nodup_map_of List.nodup_range fun a ha b hb e => by
    have h1 := (ok a (List.mem_range.mp ha)).2
    have h2 := (ok b (List.mem_range.mp hb)).2
    rw [e, h2] at h1
    cases h1
    rfl
  refine ⟨by unfold nis; simp, lu, lv, fun j hj => ?_, ?_, fun x hx => ?_, B.feas, ?_⟩
  · obtain ⟨k, hk, rfl⟩ := List.mem_map.mp hj
    obtain ⟨i, hi, rfl⟩ := List.mem_map.mp hk
    have := (ok i (List.mem_range.mp hi)).1
    omega
  · exact nodup_map_of nd fun a _ b _ e => by omega
  · obtain ⟨j, hj, rfl⟩ := mem_vs hx
    exact B.neg j (by omega)
  · have e1 : total cs (nis ((List.range cs.length).map (colOf own))) = ((List.range cs.length).map fun i => gi us i + gi vs (colOf own i)).sum := by
      unfold total
      congr 1
      refine List.map_congr_left fun i hi => ?_
      have hi := List.mem_range.mp hi
      have : (nis ((List.range cs.length).map (colOf own)))[i]? = some ((colOf own i : Nat) : Int) := by
        unfold nis
        rw [List.getElem?_map, List.getElem?_map, List.getElem?_range hi]
        rfl
      rw [this]
      show cst cs i (((colOf own i : Nat) : Int)).toNat = _
      rw [Int.toNat_natCast]
      exact (B.tight _ i (ok i hi).1 (ok i hi).2).2.symm
    rw [e1, sum_add, sum_gi us, sum_gi vs, lu, lv]
    have := sum_supp (f := gi vs) ((List.range cs.length).map (colOf own)) (List.range (wid cs)) List.nodup_range nd (fun x hx => by
      obtain ⟨i, hi, rfl⟩ := List.mem_map.mp hx
      exact List.mem_range.mpr (ok i (List.mem_range.mp hi)).1) (fun x hx hn => by
        refine B.zero x (List.mem_range.mp hx) ?_
        cases e : go own x with
        | none => rfl
        | some i =>
          have hi := B.tight x i (List.mem_range.mp hx) e
          have := B.inj x (colOf own i) i (List.mem_range.mp hx) (ok i hi.1).1 e (ok i hi.1).2
          exact absurd (List.mem_map.mpr ⟨i, List.mem_range.mpr hi.1, this.symm⟩) hn)
    rw [this, List.map_map]
    rfl
/-- no assignment costs less -/
theorem RightP.least {cs : List (List Int)} {a us vs : List Int} (h : RightP cs a us vs) {b : List Nat} (lb : b.length = cs.length) (nb : b.Nodup) (inb : ∀ j ∈ b, j < wid cs) : total cs a ≤ ((List.range cs.length).map fun i => cst cs i (b[i]?.getD 0)).sum := by
  have get : ∀ i, i < cs.length → b[i]? = some (b[i]?.getD 0) := fun i hi => by
    rw [List.getElem?_eq_getElem (by omega)]
    rfl
  have e1 : ((List.range cs.length).map fun i => gi us i + gi vs (b[i]?.getD 0)).sum ≤ ((List.range cs.length).map fun i => cst cs i (b[i]?.getD 0)).sum := sum_le fun i hi => by
    have hi := List.mem_range.mp hi
    exact h.feas i _ hi (inb _ (List.mem_of_getElem? (get i hi)))
  have eb : (List.range cs.length).map (fun i => b[i]?.getD 0) = b := by
    refine List.ext_getElem (by simp [lb]) fun i h1 h2 => ?_
    rw [List.getElem_map, List.getElem_range, List.getElem?_eq_getElem h2]
    rfl
  have e2 := sum_part (f := gi vs) b (List.range (wid cs)) List.nodup_range nb (fun x hx => List.mem_range.mpr (inb x hx)) fun x hx => by
    have hx := List.mem_range.mp hx
    exact h.neg _ (List.mem_of_getElem? (gi_some (by rw [h.lv]; exact hx)))
  have e3 : (b.map (gi vs)).sum = ((List.range cs.length).map fun i => gi vs (b[i]?.getD 0)).sum := by
    conv => lhs; rw [← eb, List.map_map]
    rfl
  have e4 := h.sum
  rw [sum_gi us, sum_gi vs, h.lu, h.lv] at e4
  rw [sum_add] at e1
  omega

end K15
namespace K15
open PySem PySem.Spec PyProof.Rows L2 V0
/-! ### what is right, looked at twice -/
theorem mem_erase_rep {α : Type} : ∀ {l : List α}, ¬ l.Nodup → ∃ l' : List α, l'.length < l.length ∧ ∀ x ∈ l, x ∈ l'
  | [], h => absurd List.nodup_nil h
  | x :: r, h => by
    by_cases m : x ∈ r
    · exact ⟨r, Nat.lt_succ_self _, fun y hy => (List.mem_cons.mp hy).elim (fun e => by rw [e]; exact m) id⟩
    · have : ¬ r.Nodup := fun z => h (List.nodup_cons.mpr ⟨m, z⟩)
      obtain ⟨l', h1, h2⟩ := mem_erase_rep this
      exact ⟨x :: l', by rw [List.length_cons, List.length_cons]; omega, fun y hy => (List.mem_cons.mp hy).elim (fun e => by rw [e]; exact List.mem_cons_self) fun hy => List.mem_cons_of_mem _ (h2 y hy)⟩
theorem len_sub {α : Type} [DecidableEq α] : ∀ {xs ys : List α}, xs.Nodup → (∀ x ∈ xs, x ∈ ys) → xs.length ≤ ys.length
  | [], _, _, _ => Nat.zero_le _
  | x :: xs, ys, nd, h => by
    obtain ⟨n1, n2⟩ := List.nodup_cons.mp nd
    have hx := h x List.mem_cons_self
    have ih := len_sub (ys := ys.erase x) n2 fun y hy => (List.mem_erase_of_ne (fun e => n1 (by rw [← e]; exact hy))).mpr (h y (List.mem_cons_of_mem _ hy))
    rw [List.length_erase_of_mem hx] at ih
    have := List.length_pos_of_mem hx
    rw [List.length_cons]
    omega
/-- as many as a set of them: no one twice -/
theorem set_len {as ns : List Int} (nd : ns.Nodup) (h : ∀ k : Int, k ∈ ns ↔ (decide (k ∈ as)) = true) : ns.length = as.length ↔ as.Nodup := by
  have h : ∀ k : Int, k ∈ ns ↔ k ∈ as := fun k => (h k).trans decide_eq_true_iff
  constructor
  · intro e
    refine Classical.byContradiction fun z => ?_
    obtain ⟨l', h1, h2⟩ := mem_erase_rep z
    have := len_sub nd fun x hx => h2 x ((h x).mp hx)
    omega
  · intro z
    exact Nat.le_antisymm (len_sub nd fun x hx => (h x).mp hx) (len_sub z fun x hx => (h x).mpr hx)
def RectW (cs : List (List Int)) : Prop := ∀ row ∈ cs, row.length = wid cs
/-- the rows of costs, where they stand -/
theorem costs_at {H : Hp} {v : V} {cs : List (List Int)} (d : Dv H v cs) (rc : RectW cs) : ∃ (c : Addr) (uc : List V), v = .ref c ∧ H c = some (.lst uc) ∧ uc.length = cs.length ∧ ∀ i, i < cs.length → ∃ (ra : Addr) (row : List Int), uc[i]? = some (.ref ra) ∧ H ra = some (.lst (vi row)) ∧ row.length = wid cs ∧ (∀ j, j < wid cs → row[j]? = some (cst cs i j)) ∧ cs[i]? = some row := by
  obtain ⟨c, uc, rfl, hc, huc⟩ := d.list_inv
  refine ⟨c, uc, rfl, hc, huc.len, fun i hi => ?_⟩
  obtain ⟨w, hw, dw⟩ := huc.get (List.getElem?_eq_getElem hi)
  obtain ⟨ra, rfl, hra⟩ := dw.intl_inv
  have hm := rc _ (List.getElem_mem hi)
  refine ⟨ra, cs[i], hw, hra, hm, fun j hj => ?_, List.getElem?_eq_getElem hi⟩
  have e : cst cs i j = gi cs[i] j := by
    unfold cst
    rw [List.getElem?_eq_getElem hi]
    rfl
  rw [e]
  exact gi_some (by omega)
theorem int_at {xs : List Int} {i : Nat} {w : V} (h : (vi xs)[i]? = some w) : ∃ k, xs[i]? = some k ∧ w = .int k ∧ k ∈ xs := by
  rw [List.getElem?_map] at h
  obtain ⟨k, hk, e⟩ := Option.map_eq_some_iff.mp h
  exact ⟨k, hk, e.symm, List.mem_of_getElem? hk⟩
def sp__law_total (K : PySem.W.Frag) : Sp := fun ws H Q _ => ∃ (v : V) (al : Addr) (cs : List (List Int)) (as : List Int), ws = [v, .ref al] ∧ Dv H v cs ∧ RectW cs ∧ cs.length ≤ 1000 ∧ H al = some (.lst (vi as)) ∧ as.length = cs.length ∧ (∀ j ∈ as, 0 ≤ j ∧ j < (wid cs : Nat)) ∧
  ∀ H', Same H H' → Q (.int (total cs as)) H'
theorem ok__law_total {P : Program} {w : World} {K : PySem.W.Frag} {mg : Str → Option Value} {base : Heap} {C_Matching : Addr} {f  : Addr} {fd  : FuncData} (F : Fun K "_law_total" "_law_total" s__law_total f fd) (T : Txt K mg C_Matching) :
    FnOk P w K mg base CX0 1 f fd ["costs", "assignment"] (sp__law_total K) := by
  refine F.ok sc_law_total (fun vs H Q E h => ?_) (fun cdv A outer s H vs Q E hr h => ?_)
  · obtain ⟨v, al, cs, as, rfl, _⟩ := h
    rfl
  · obtain ⟨v, al, cs, as, rfl, hc, rc, few, ha, la, inr, q⟩ := h
    obtain ⟨c, uc, rfl, hcl, luc, rows⟩ := costs_at hc rc
    refine ⟨_, (pss_one (ps_ret (pe_callB (cr_sum rfl) (by rfl) T.m_sum (by decide +kernel) (pa_cons (pe_lc (own := [("k", 2)]) (g := gName 2) (tt := tYes) rfl sc_law_total.nd (pi_range1 rfl T.m_range (pa_cons (pe_callB call_len_seq (by rfl) T.m_len (by decide +kernel) (pa_cons (pv 0) pa_nil)) pa_nil)) (blkOk_by (N := N__law_total) (sc := defScope s__law_total) (by decide +kernel)) (fun _ _ _ _ _ => (pg_name (i := 2) sc_law_total.nd rfl (Or.inl rfl))) (fun _ _ _ _ _ => pts_nil) (fun _ _ _ _ _ => (pe_ix (r := rIxL K) ix_list (pe_ix (r := rIxL K) ix_list (pv 0) (pv 2) (fun _ _ => rfl)) (pe_ix (r := rIxL K) ix_list (pv 1) (pv 2) (fun _ _ => rfl)) (fun _ _ => rfl)))) pa_nil)))), ?_⟩
    refine ⟨_, rfl, c, _, rfl, .inl (SqL.of hcl), ?_⟩
    rw [luc]
    refine ⟨_, rfl, by omega, by omega, fun D nD => lcA (walk_range (lo := 0) (n := cs.length)) (fun i => .int (cst cs i (as[i]?.getD 0).toNat)) nD (by omega) (fun _ _ => True.intro) (fun i x Hz Hz' Q hi sz y q => ?_) fun H1 s1 hD => ?_⟩
    · obtain ⟨rfl, rfl⟩ := y
      obtain ⟨ra, row, h1, h2, h3, h4, _⟩ := rows i hi
      have ea : as[i]? = some (as[i]?.getD 0) := by
        rw [List.getElem?_eq_getElem (by omega)]
        rfl
      have bd := inr _ (List.mem_of_getElem? ea)
      have eia : as[i]?.getD 0 = ((as[i]?.getD 0).toNat : Int) := by omega
      show gName 2 (V.int ((0 : Int) + (i : Nat))) _ _ _
      rw [Int.zero_add]
      refine ⟨rfl, _, rfl, _, rfl, c, _, _, _, rfl, rfl, SqL.of (sz _ _ hcl), atI_nat h1, _, rfl, _, rfl, al, _, _, _, rfl, rfl, SqL.of (sz _ _ ha), atI_nat (vi_get ea), ra, _, _, _, rfl, rfl, SqL.of (sz _ _ h2), ?_, q _ (Same.refl _)⟩
      rw [eia]
      exact atI_nat (vi_get (h4 _ (by omega)))
    · refine ⟨D, (List.range cs.length).map fun i => cst cs i (as[i]?.getD 0).toNat, rfl, SqL.of (by rw [hD, List.map_map]; rfl), q _ s1⟩
abbrev SpRight (K : PySem.W.Frag) : Sp := fun ws H Q _ => ∃ (v : V) (al q1 ul vl : Addr) (cs : List (List Int)) (as us vs : List Int), ws = [v, .ref al, .ref q1] ∧ Dv H v cs ∧ RectW cs ∧ cs.length ≤ 1000 ∧ wid cs ≤ 1000 ∧ H q1 = some (.tup [.ref ul, .ref vl]) ∧ H al = some (.lst (vi as)) ∧ H ul = some (.lst (vi us)) ∧ H vl = some (.lst (vi vs)) ∧ as.length ≤ 2000 ∧ us.length ≤ 2000 ∧ vs.length ≤ 2000 ∧
  ∀ H' (k : Bool), Same H H' → (k = true ↔ RightP cs as us vs) → Q (.bl k) H'
def sp__law_right (K : PySem.W.Frag) : Sp := SpRight K
theorem wide_if {cs : List (List Int)} {uc : List V} (h : uc.length = cs.length) (z : ¬ ((uc.length : Nat) : Int) > 0) : wid cs = 0 := by
  cases cs with
  | nil => rfl
  | cons r cs =>
    rw [h, List.length_cons] at z
    omega
theorem all_filter {n : Nat} {p : Nat → Bool} {out : Nat → V} : ((((List.range n).filter p).map out).length : Int) > 0 ↔ ∃ i, i < n ∧ p i = true := by
  rw [List.length_map]
  constructor
  · intro h
    obtain ⟨x, hx⟩ := List.exists_mem_of_length_pos (show 0 < ((List.range n).filter p).length by omega)
    obtain ⟨h1, h2⟩ := List.mem_filter.mp hx
    exact ⟨x, List.mem_range.mp h1, h2⟩
  · rintro ⟨i, h1, h2⟩
    have := List.length_pos_of_mem (List.mem_filter.mpr ⟨List.mem_range.mpr h1, h2⟩)
    omega
theorem ok__law_right {P : Program} {w : World} {K : PySem.W.Frag} {mg : Str → Option Value} {base : Heap} {C_Matching : Addr} {f f_law_total : Addr} {fd fd_law_total : FuncData} (F : Fun K "_law_right" "_law_right" s__law_right f fd) (T : Txt K mg C_Matching)
    (G__law_total : FnOk P w K mg base CX0 1 f_law_total fd_law_total ["costs", "assignment"] (sp__law_total K)) (D__law_total : Def K mg "_law_total" f_law_total fd_law_total ["costs", "assignment"]) :
    FnOk P w K mg base CX0 2 f fd ["costs", "assignment", "potentials"] (sp__law_right K) := by
  refine F.ok sc_law_right (fun vs H Q E h => ?_) (fun cdv A outer s H vs Q E hr h => ?_)
  · obtain ⟨v, al, q1, ul, vl, cs, as, us, vs, rfl, _⟩ := h
    rfl
  · obtain ⟨v, al, q1, ul, vl, cs, as, us, vs, rfl, hc, rc, few, few2, hq1, ha, hu, hv, la, lu, lv, q⟩ := h
    have hc0 := hc
    obtain ⟨c, uc, rfl, hcl, luc, rows⟩ := costs_at hc rc
    refine ⟨_, (pss_cons (ps_set (i := 3) sc_law_right.nd rfl (.inr rfl) (pe_ifExp (pt_cmpR op_gt (pe_callB call_len_seq (by rfl) T.m_len (by decide +kernel) (pa_cons (pv 0) pa_nil)) pe_int (nomark _)) (pe_callB call_len_seq (by rfl) T.m_len (by decide +kernel) (pa_cons (pe_ix (r := rIxL K) ix_list (pv 0) pe_int (fun _ _ => rfl)) pa_nil)) pe_int))
      (pss_cons (ps_asg (pv 2) (pg_tup (by rfl) (pgs_cons (pg_name (i := 4) sc_law_right.nd rfl (Or.inr rfl)) (pgs_cons (pg_name (i := 5) sc_law_right.nd rfl (Or.inr rfl)) pgs_nil))))
      (pss_cons (ps_if (PW.pt (pw_or (pt_cmpR op_ne (pe_callB call_len_seq (by rfl) T.m_len (by decide +kernel) (pa_cons (pv 1) pa_nil)) (pe_callB call_len_seq (by rfl) T.m_len (by decide +kernel) (pa_cons (pv 0) pa_nil)) (nomark _)) (pw_or (pt_cmpR op_ne (pe_callB call_len_seq (by rfl) T.m_len (by decide +kernel) (pa_cons (pv 4) pa_nil)) (pe_callB call_len_seq (by rfl) T.m_len (by decide +kernel) (pa_cons (pv 0) pa_nil)) (nomark _)) (pw_or1 (pt_cmpR op_ne (pe_callB call_len_seq (by rfl) T.m_len (by decide +kernel) (pa_cons (pv 5) pa_nil)) (pv 3) (nomark _)))))) (pss_one (ps_ret pe_bl)) pss_nil)
      (pss_cons (ps_if (PW.pt (pw_or (pt_cmpR op_gt (pe_callB call_len_seq (by rfl) T.m_len (by decide +kernel) (pa_cons (pe_lc (own := [("j", 7)]) (g := gName 7) rfl sc_law_right.nd (pi_list (pv 1)) (blkOk_by (N := N__law_right) (sc := defScope s__law_right) (by decide +kernel)) (fun _ _ _ _ _ => (pg_name (i := 7) sc_law_right.nd rfl (Or.inl rfl))) (fun _ _ _ _ _ => (pts_one (PW.pt (pw_or (pt_cmpR op_lt (pv 7) pe_int (nomark _)) (pw_or1 (pt_cmpR op_ge (pv 7) (pv 3) (nomark _))))))) (fun _ _ _ _ _ => (pv 7))) pa_nil)) pe_int (nomark _)) (pw_or1 (pt_cmpR op_ne (pe_callB (r := V0.rLenSO w) V0.call_lenSO (by rfl) T.m_len (by decide +kernel) (pa_cons (pe_callTy (r := rSetOf K w) (cr_setOf (by rfl)) (by rfl) T.m_set (by decide +kernel) (pa_cons (pv 1) pa_nil)) pa_nil)) (pe_callB call_len_seq (by rfl) T.m_len (by decide +kernel) (pa_cons (pv 1) pa_nil)) (nomark _))))) (pss_one (ps_ret pe_bl)) pss_nil)
      (pss_cons (ps_for PassesOwn.never rfl (pi_range1 rfl T.m_range (pa_cons (pe_callB call_len_seq (by rfl) T.m_len (by decide +kernel) (pa_cons (pv 0) pa_nil)) pa_nil)) (pg_name (i := 6) sc_law_right.nd rfl (Or.inr rfl)) (pss_one (ps_if (pt_cmpR op_gt (pe_callB call_len_seq (by rfl) T.m_len (by decide +kernel) (pa_cons (pe_lc (own := [("j", 7)]) (g := gName 7) rfl sc_law_right.nd (pi_range1 rfl T.m_range (pa_cons (pv 3) pa_nil)) (blkOk_by (N := N__law_right) (sc := defScope s__law_right) (by decide +kernel)) (fun _ _ _ _ _ => (pg_name (i := 7) sc_law_right.nd rfl (Or.inl rfl))) (fun _ _ _ _ _ => (pts_one (pt_cmpR op_gt (pe_op op_add (pe_ix (r := rIxL K) ix_list (pv 4) (pv 6) (fun _ _ => rfl)) (pe_ix (r := rIxL K) ix_list (pv 5) (pv 7) (fun _ _ => rfl))) (pe_ix (r := rIxL K) ix_list (pe_ix (r := rIxL K) ix_list (pv 0) (pv 6) (fun _ _ => rfl)) (pv 7) (fun _ _ => rfl)) (nomark _)))) (fun _ _ _ _ _ => (pv 7))) pa_nil)) pe_int (nomark _)) (pss_one (ps_ret pe_bl)) pss_nil)))
      (pss_one (ps_ret (pe_and (pe_cmpR op_eq (pe_callB call_len_seq (by rfl) T.m_len (by decide +kernel) (pa_cons (pe_lc (own := [("one", 8)]) (g := gName 8) rfl sc_law_right.nd (pi_list (pv 5)) (blkOk_by (N := N__law_right) (sc := defScope s__law_right) (by decide +kernel)) (fun _ _ _ _ _ => (pg_name (i := 8) sc_law_right.nd rfl (Or.inl rfl))) (fun _ _ _ _ _ => (pts_one (pt_cmpR op_gt (pv 8) pe_int (nomark _)))) (fun _ _ _ _ _ => (pv 8))) pa_nil)) pe_int (nomark _)) (pe_one (pe_cmpR op_eq (pe_op op_add (pe_callB (cr_sum rfl) (by rfl) T.m_sum (by decide +kernel) (pa_cons (pv 4) pa_nil)) (pe_callB (cr_sum rfl) (by rfl) T.m_sum (by decide +kernel) (pa_cons (pv 5) pa_nil))) (pe_call G__law_total (hr.mono (by omega)) (by rfl) D__law_total.m D__law_total.k D__law_total.b .nil pass0 (pa_cons (pv 0) (pa_cons (pv 1) pa_nil))) (nomark _))))))))))), ?_⟩
    refine ⟨_, rfl, c, _, rfl, .inl (SqL.of hcl), _, _, rfl, rfl, _, rfl, ifx (fun y H' => y = .int (wid cs : Nat) ∧ H = H') (fun e Q q => ?_) (fun e Q q => ?_) ?_⟩
    · have := of_decide_eq_true e
      obtain ⟨ra, row, h1, h2, h3, h4, _⟩ := rows 0 (by omega)
      refine ⟨_, rfl, c, _, 0, _, rfl, rfl, SqL.of hcl, atI_nat (j := 0) h1, ra, _, rfl, .inl (SqL.of h2), q _ _ ⟨by rw [vi_len, h3], rfl⟩⟩
    · exact q _ _ ⟨by rw [wide_if luc (of_decide_eq_false e)]; rfl, rfl⟩
    rintro _ _ ⟨rfl, rfl⟩
    refine ⟨_, rfl, q1, _, rfl, SqT.of hq1, rfl, _, _, rfl, _, _, rfl, rfl, ?_⟩
    -- lengths
    have no : ∀ {Hx : Hp}, Same H Hx → ¬ RightP cs as us vs → Q (.bl false) Hx := fun sx n => q _ false sx ⟨fun z => (by cases z), fun z => absurd z n⟩
    refine ⟨_, rfl, al, _, rfl, .inl (SqL.of ha), _, rfl, c, _, rfl, .inl (SqL.of hcl), rfl, _, rfl, ?_⟩
    rw [vi_len, luc, dec_nat]
    by_cases l1 : as.length = cs.length
    rotate_left
    · rw [decide_eq_false l1]
      exact iteT (iteT (no (Same.refl _) fun z => l1 z.la))
    rw [decide_eq_true l1]
    refine iteF ⟨_, rfl, ul, _, rfl, .inl (SqL.of hu), _, rfl, c, _, rfl, .inl (SqL.of hcl), rfl, _, rfl, ?_⟩
    rw [vi_len, luc, dec_nat]
    by_cases l2 : us.length = cs.length
    rotate_left
    · rw [decide_eq_false l2]
      exact iteT (iteT (no (Same.refl _) fun z => l2 z.lu))
    rw [decide_eq_true l2]
    refine iteF ⟨_, rfl, vl, _, rfl, .inl (SqL.of hv), _, rfl, rfl, _, rfl, ?_⟩
    rw [vi_len, dec_nat]
    by_cases l3 : vs.length = wid cs
    rotate_left
    · rw [decide_eq_false l3]
      exact iteT (no (Same.refl _) fun z => l3 z.lv)
    rw [decide_eq_true l3]
    refine iteF ?_
    -- columns in range, none twice
    refine ⟨_, rfl, al, rfl, ⟨_, SqL.of ha⟩, fun D nD => lcP (n := as.length) (by have w := walk_list (K := K) (a := al) (xs := vi as); rw [vi_len] at w; exact w) (fun i => decide ((as[i]?.getD 0) < 0 ∨ (as[i]?.getD 0) ≥ (wid cs : Nat))) (fun i => .int (as[i]?.getD 0)) nD (by omega) (fun Hz sz => SqL.of (sz _ _ ha)) (fun i x Hz Hz' Q N hi sz y qt qf => ?_) fun H1 s1 hD => ?_⟩
    · obtain ⟨rfl, y⟩ := y
      obtain ⟨k, hk, rfl, _⟩ := int_at y
      rw [hk, Option.getD_some] at qt qf
      refine ⟨rfl, _, rfl, _, _, rfl, rfl, _, rfl, ?_⟩
      by_cases c1 : k < 0
      · rw [decide_eq_true c1]
        exact iteT (iteT ⟨_, rfl, qt (decide_eq_true (.inl c1)) _ (Same.refl _)⟩)
      rw [decide_eq_false c1]
      refine iteF ⟨_, rfl, _, rfl, _, _, rfl, rfl, _, rfl, ?_⟩
      by_cases c2 : k ≥ (wid cs : Nat)
      · rw [decide_eq_true c2]
        exact iteT ⟨_, rfl, qt (decide_eq_true (.inr c2)) _ (Same.refl _)⟩
      · rw [decide_eq_false c2]
        exact iteF (qf (decide_eq_false (fun z => z.elim c1 c2)) _ (Same.refl _))
    refine ⟨D, _, rfl, .inl (SqL.of hD), _, _, rfl, rfl, _, rfl, ?_⟩
    by_cases c1 : ∀ j ∈ as, 0 ≤ j ∧ j < (wid cs : Nat)
    rotate_left
    · have : ((((List.range as.length).filter fun (i : Nat) => decide ((as[i]?.getD 0) < 0 ∨ (as[i]?.getD 0) ≥ (wid cs : Nat))).map fun (i : Nat) => V.int (as[i]?.getD 0)).length : Int) > 0 := all_filter.mpr (Classical.byContradiction fun z => c1 fun j hj => by
        obtain ⟨i, hi, e⟩ := List.getElem_of_mem hj
        refine Classical.byContradiction fun n => z ⟨i, hi, decide_eq_true ?_⟩
        rw [List.getElem?_eq_getElem hi, Option.getD_some, e]
        omega)
      rw [decide_eq_true this]
      exact iteT (iteT (no s1 fun z => c1 z.inr))
    have nf : ¬ ((((List.range as.length).filter fun (i : Nat) => decide ((as[i]?.getD 0) < 0 ∨ (as[i]?.getD 0) ≥ (wid cs : Nat))).map fun (i : Nat) => V.int (as[i]?.getD 0)).length : Int) > 0 := fun z => by
      obtain ⟨i, hi, e⟩ := all_filter.mp z
      have e := of_decide_eq_true e
      rw [List.getElem?_eq_getElem hi, Option.getD_some] at e
      have := c1 _ (List.getElem_mem hi)
      omega
    rw [decide_eq_false nf]
    refine iteF ⟨_, rfl, al, as, rfl, SqL.of (s1 _ _ ha), by omega, fun p cc np lc => ⟨p, _, _, rfl, upd_same, fun ns nd hm hl => ⟨_, rfl, al, _, rfl, .inl (SqL.of (same_new np _ _ (s1 _ _ ha))), rfl, _, rfl, ?_⟩⟩⟩
    have s2 := s1.trans (same_new (o := SetO w p (fun j => decide (j ∈ as)) cc) np)
    generalize (upd H1 p (SetO w p (fun j => decide (j ∈ as)) cc)) = H2 at s2 ⊢
    rw [vi_len, dec_nat]
    have sl := set_len nd hm
    rw [hl] at sl
    by_cases c2 : as.Nodup
    rotate_left
    · rw [decide_eq_false (fun z => c2 (sl.mp z))]
      exact iteT (no s2 fun z => c2 z.nd)
    rw [decide_eq_true (sl.mpr c2)]
    refine iteF ?_
    -- potentials
    refine ⟨_, rfl, c, _, rfl, .inl (SqL.of (s2 _ _ hcl)), ?_⟩
    rw [luc]
    refine ⟨_, rfl, by omega, by omega, for_range (n := cs.length) (fun i σ Hx => ∃ y6 : Option V, σ = [some (.ref c), some (.ref al), some (.ref q1), some (.int (wid cs : Nat)), some (.ref ul), some (.ref vl), y6, none, none] ∧ Same H Hx ∧ ∀ k j, k < i → j < wid cs → gi us k + gi vs j ≤ cst cs k j) ⟨none, rfl, s2, fun k j hk => absurd hk (Nat.not_lt_zero _)⟩ ?_ ?_⟩
    · rintro i σ Hx hi ⟨y6, rfl, sx, fe⟩
      obtain ⟨ra, row, h1, h2, h3, h4, _⟩ := rows i hi
      rw [Int.zero_add]
      refine ⟨_, rfl, _, rfl, by omega, by omega, fun D nD => lcRf (n := wid cs) (fun j => decide (gi us i + gi vs j > cst cs i j)) (fun j => j) nD (by omega) (fun _ => rfl) (fun j hj Hz Q sz q => ?_) (fun j hj _ Hz Q sz q => ⟨_, rfl, q _ (Same.refl _)⟩) fun H3 s3 hD => ?_⟩
      · have sxz := sx.trans sz
        exact ⟨_, rfl, _, rfl, ul, _, _, _, rfl, rfl, SqL.of (sxz _ _ hu), atI_nat (vi_get (gi_some (by omega))), _, rfl, _, rfl, vl, _, _, _, rfl, rfl, SqL.of (sxz _ _ hv), atI_nat (vi_get (gi_some (by omega))), _, _, rfl, rfl, _, rfl, _, rfl, c, _, _, _, rfl, rfl, SqL.of (sxz _ _ hcl), atI_nat h1, _, rfl, ra, _, _, _, rfl, rfl, SqL.of (sxz _ _ h2), atI_nat (vi_get (h4 j hj)), _, _, rfl, rfl, _, rfl, q _ (Same.refl _)⟩
      refine ⟨D, _, rfl, .inl (SqL.of hD), _, _, rfl, rfl, _, rfl, ?_⟩
      rw [List.map_id', vn_len]
      have sxz := sx.trans s3
      by_cases fi : ∀ j, j < wid cs → gi us i + gi vs j ≤ cst cs i j
      · have e : (List.range (wid cs)).filter (fun j => decide (gi us i + gi vs j > cst cs i j)) = [] := List.filter_eq_nil_iff.mpr fun j hj z => by
          have := fi j (List.mem_range.mp hj)
          have := of_decide_eq_true z
          omega
        rw [e]
        refine iteF ⟨_, rfl, sxz, fun k j hk hj => ?_⟩
        by_cases ki : k = i
        · subst ki
          exact fi j hj
        · exact fe k j (by omega) hj
      · have : 0 < ((List.range (wid cs)).filter (fun j => decide (gi us i + gi vs j > cst cs i j))).length := by
          obtain ⟨j, hj, nj⟩ : ∃ j, j < wid cs ∧ ¬ gi us i + gi vs j ≤ cst cs i j := Classical.byContradiction fun z => fi fun j hj => Classical.byContradiction fun n => z ⟨j, hj, n⟩
          exact List.length_pos_of_mem (List.mem_filter.mpr ⟨List.mem_range.mpr hj, decide_eq_true (by omega)⟩)
        rw [decide_eq_true (show ((((List.range (wid cs)).filter (fun j => decide (gi us i + gi vs j > cst cs i j))).length : Nat) : Int) > 0 by omega)]
        exact iteT (no sxz fun z => fi fun j hj => z.feas i j hi hj)
    rintro σ H3 ⟨y6, rfl, s3, fe⟩
    refine ⟨_, rfl, vl, rfl, ⟨_, SqL.of (s3 _ _ hv)⟩, fun D nD => lcP (n := vs.length) (by have w := walk_list (K := K) (a := vl) (xs := vi vs); rw [vi_len] at w; exact w) (fun i => decide ((vs[i]?.getD 0) > 0)) (fun i => .int (vs[i]?.getD 0)) nD (by omega) (fun Hz sz => SqL.of (sz _ _ (s3 _ _ hv))) (fun i x Hz Hz' Q N hi sz y qt qf => ?_) fun H4 s4 hD => ?_⟩
    · obtain ⟨rfl, y⟩ := y
      obtain ⟨k, hk, rfl, _⟩ := int_at y
      rw [hk, Option.getD_some] at qt qf
      refine ⟨rfl, _, rfl, _, _, rfl, rfl, _, rfl, ?_⟩
      by_cases c3 : k > 0
      · rw [decide_eq_true c3]
        exact iteT ⟨_, rfl, qt (decide_eq_true c3) _ (Same.refl _)⟩
      · rw [decide_eq_false c3]
        exact iteF (qf (decide_eq_false c3) _ (Same.refl _))
    have s34 := s3.trans s4
    refine ⟨D, _, rfl, .inl (SqL.of hD), rfl, _, rfl, ?_⟩
    by_cases c3 : ∀ x ∈ vs, x ≤ 0
    rotate_left
    · have : ((((List.range vs.length).filter fun (i : Nat) => decide ((vs[i]?.getD 0) > 0)).map fun (i : Nat) => V.int (vs[i]?.getD 0)).length : Int) > 0 := all_filter.mpr (Classical.byContradiction fun z => c3 fun x hx => by
        obtain ⟨i, hi, e⟩ := List.getElem_of_mem hx
        refine Classical.byContradiction fun n => z ⟨i, hi, decide_eq_true ?_⟩
        rw [List.getElem?_eq_getElem hi, Option.getD_some, e]
        omega)
      rw [decide_eq_false (fun z => by have z := V.int.inj z; omega)]
      exact iteF (no s34 fun z => c3 z.neg)
    have nf : ¬ ((((List.range vs.length).filter fun (i : Nat) => decide ((vs[i]?.getD 0) > 0)).map fun (i : Nat) => V.int (vs[i]?.getD 0)).length : Int) > 0 := fun z => by
      obtain ⟨i, hi, e⟩ := all_filter.mp z
      have e := of_decide_eq_true e
      rw [List.getElem?_eq_getElem hi, Option.getD_some] at e
      have := c3 _ (List.getElem_mem hi)
      omega
    rw [decide_eq_true (congrArg V.int (by omega))]
    refine iteT ⟨_, rfl, ul, us, rfl, SqL.of (s34 _ _ hu), _, rfl, vl, vs, rfl, SqL.of (s34 _ _ hv), _, _, rfl, rfl, _, rfl, _, rfl, .ref c, al, cs, as, rfl, hc0.same s34, rc, few, s34 _ _ ha, l1, c1, fun H5 s5 => ⟨rfl, ?_⟩⟩
    refine q _ _ (s34.trans s5) ⟨fun z => ⟨l1, l2, l3, c1, c2, c3, fun i j hi hj => fe i j hi hj, V.int.inj (of_decide_eq_true z)⟩, fun z => decide_eq_true (congrArg V.int z.sum)⟩


end K15
namespace K15
open PySem PySem.Spec PyProof.Rows L2 V0
def sp_assign_right (K : PySem.W.Frag) : Sp := SpRight K
theorem any_map {n : Nat} {b : Nat → Bool} : ((List.range n).map b).any id = true ↔ ∃ i, i < n ∧ b i = true := by
  rw [List.any_eq_true]
  constructor
  · rintro ⟨x, hx, e⟩
    obtain ⟨i, hi, rfl⟩ := List.mem_map.mp hx
    exact ⟨i, List.mem_range.mp hi, e⟩
  · rintro ⟨i, hi, e⟩
    exact ⟨_, List.mem_map.mpr ⟨i, List.mem_range.mpr hi, rfl⟩, e⟩
theorem bl_map (n : Nat) (b : Nat → Bool) : (List.range n).map (fun i => V.bl (b i)) = ((List.range n).map b).map V.bl := by
  rw [List.map_map]
  rfl
theorem ok_assign_right {P : Program} {w : World} {K : PySem.W.Frag} {mg : Str → Option Value} {base : Heap} {C_Matching : Addr} {f fmany_columns : Addr} {fd fdmany_columns : FuncData} (F : Fun K "assign_right" "assign_right" s_assign_right f fd) (T : Txt K mg C_Matching)
    (G_many_columns : FnOk P w K mg base CX0 1 fmany_columns fdmany_columns ["costs"] (sp_many_columns K)) (D_many_columns : Def K mg "many_columns" fmany_columns fdmany_columns ["costs"]) :
    FnOk P w K mg base CX0 2 f fd ["costs", "assignment", "potentials"] (sp_assign_right K) := by
  refine F.ok scassign_right (fun vs H Q E h => ?_) (fun cdv A outer s H vs Q E hr h => ?_)
  · obtain ⟨v, al, q1, ul, vl, cs, as, us, vs, rfl, _⟩ := h
    rfl
  · obtain ⟨v, al, q1, ul, vl, cs, as, us, vs, rfl, hc, rc, few, few2, hq1, ha, hu, hv, la, lu, lv, q⟩ := h
    have hc0 := hc
    obtain ⟨c, uc, rfl, hcl, luc, rows⟩ := costs_at hc rc
    refine ⟨_, (pss_cons (ps_asg (pv 2) (pg_tup (by rfl) (pgs_cons (pg_name (i := 3) scassign_right.nd rfl (Or.inl rfl)) (pgs_cons (pg_name (i := 4) scassign_right.nd rfl (Or.inl rfl)) pgs_nil))))
      (pss_cons (ps_set (i := 5) scassign_right.nd rfl (.inr rfl) (pe_call G_many_columns (hr.mono (by omega)) (by rfl) D_many_columns.m D_many_columns.k D_many_columns.b .nil pass0 (pa_cons (pv 0) pa_nil)))
      (pss_cons (ps_if (PW.pt (pw_or (pt_cmpR op_ne (pe_callB call_len_seq (by rfl) T.m_len (by decide +kernel) (pa_cons (pv 1) pa_nil)) (pe_callB call_len_seq (by rfl) T.m_len (by decide +kernel) (pa_cons (pv 0) pa_nil)) (nomark _)) (pw_or (pt_cmpR op_ne (pe_callB call_len_seq (by rfl) T.m_len (by decide +kernel) (pa_cons (pv 3) pa_nil)) (pe_callB call_len_seq (by rfl) T.m_len (by decide +kernel) (pa_cons (pv 0) pa_nil)) (nomark _)) (pw_or1 (pt_cmpR op_ne (pe_callB call_len_seq (by rfl) T.m_len (by decide +kernel) (pa_cons (pv 4) pa_nil)) (pv 5) (nomark _)))))) (pss_one (ps_ret pe_bl)) pss_nil)
      (pss_cons (ps_if (PW.pt (pw_or (pt_val (pe_callB (cr_any (by rfl)) (by rfl) T.m_any (by decide +kernel) (pa_cons (pe_lc (own := [("column", 9)]) (g := gName 9) (tt := tYes) rfl scassign_right.nd (pi_list (pv 1)) (blkOk_by (N := N_assign_right) (sc := defScope s_assign_right) (by decide +kernel)) (fun _ _ _ _ _ => (pg_name (i := 9) scassign_right.nd rfl (Or.inl rfl))) (fun _ _ _ _ _ => pts_nil) (fun _ _ _ _ _ => (pe_cmpR V0.op_notIn_rng (pv 9) (pe_callTy V0.cr_range1 (by rfl) T.m_range (by decide +kernel) (pa_cons (pv 5) pa_nil)) (by rfl)))) pa_nil))) (pw_or1 (pt_cmpR op_ne (pe_callB (r := V0.rLenSO w) V0.call_lenSO (by rfl) T.m_len (by decide +kernel) (pa_cons (pe_callTy (r := rSetOf K w) (cr_setOf (by rfl)) (by rfl) T.m_set (by decide +kernel) (pa_cons (pv 1) pa_nil)) pa_nil)) (pe_callB call_len_seq (by rfl) T.m_len (by decide +kernel) (pa_cons (pv 1) pa_nil)) (nomark _))))) (pss_one (ps_ret pe_bl)) pss_nil)
      (pss_cons (ps_if (pt_val (pe_callB (cr_any (by rfl)) (by rfl) T.m_any (by decide +kernel) (pa_cons (pe_lc (own := [("potential", 8)]) (g := gName 8) (tt := tYes) rfl scassign_right.nd (pi_list (pv 4)) (blkOk_by (N := N_assign_right) (sc := defScope s_assign_right) (by decide +kernel)) (fun _ _ _ _ _ => (pg_name (i := 8) scassign_right.nd rfl (Or.inl rfl))) (fun _ _ _ _ _ => pts_nil) (fun _ _ _ _ _ => (pe_cmpR op_gt (pv 8) pe_int (nomark _)))) pa_nil))) (pss_one (ps_ret pe_bl)) pss_nil)
      (pss_cons (ps_for PassesOwn.never rfl (pi_zip (by rfl) T.m_zip (pa_cons (pv 0) (pa_cons (pv 3) pa_nil))) (pg_tup (by rfl) (pgs_cons (pg_name (i := 6) scassign_right.nd rfl (Or.inl rfl)) (pgs_cons (pg_name (i := 7) scassign_right.nd rfl (Or.inr rfl)) pgs_nil))) (pss_one (ps_if (pt_val (pe_callB (cr_any (by rfl)) (by rfl) T.m_any (by decide +kernel) (pa_cons (pe_lc (own := [("cost", 10), ("second", 11)]) (g := gTup K 2 (gCons (gName 10) (gCons (gName 11) (gNil)))) (tt := tYes) rfl scassign_right.nd (pi_zip (by rfl) T.m_zip (pa_cons (pv 6) (pa_cons (pv 4) pa_nil))) (blkOk_by (N := N_assign_right) (sc := defScope s_assign_right) (by decide +kernel)) (fun _ _ _ _ _ => (pg_tup (by rfl) (pgs_cons (pg_name (i := 10) scassign_right.nd rfl (Or.inl rfl)) (pgs_cons (pg_name (i := 11) scassign_right.nd rfl (Or.inl rfl)) pgs_nil)))) (fun _ _ _ _ _ => pts_nil) (fun _ _ _ _ _ => (pe_cmpR op_gt (pe_op op_add (pv 7) (pv 11)) (pv 10) (nomark _)))) pa_nil))) (pss_one (ps_ret pe_bl)) pss_nil)))
      (pss_one (ps_ret (pe_cmpR op_eq (pe_op op_add (pe_callB (cr_sum rfl) (by rfl) T.m_sum (by decide +kernel) (pa_cons (pv 3) pa_nil)) (pe_callB (cr_sum rfl) (by rfl) T.m_sum (by decide +kernel) (pa_cons (pv 4) pa_nil))) (pe_callB (cr_sum rfl) (by rfl) T.m_sum (by decide +kernel) (pa_cons (pe_lc (own := [("row", 6), ("column", 9)]) (g := gTup K 2 (gCons (gName 6) (gCons (gName 9) (gNil)))) (tt := tYes) rfl scassign_right.nd (pi_zip (by rfl) T.m_zip (pa_cons (pv 0) (pa_cons (pv 1) pa_nil))) (blkOk_by (N := N_assign_right) (sc := defScope s_assign_right) (by decide +kernel)) (fun _ _ _ _ _ => (pg_tup (by rfl) (pgs_cons (pg_name (i := 6) scassign_right.nd rfl (Or.inl rfl)) (pgs_cons (pg_name (i := 9) scassign_right.nd rfl (Or.inl rfl)) pgs_nil)))) (fun _ _ _ _ _ => pts_nil) (fun _ _ _ _ _ => (pe_ix (r := rIxL K) ix_list (pv 6) (pv 9) (fun _ _ => rfl)))) pa_nil)) (nomark _)))))))))), ?_⟩
    refine ⟨_, rfl, q1, _, rfl, SqT.of hq1, rfl, _, _, rfl, _, _, rfl, rfl, ?_⟩
    refine ⟨_, rfl, .ref c, cs, rfl, hc0, ?_⟩
    have no : ∀ {Hx : Hp}, Same H Hx → ¬ RightP cs as us vs → Q (.bl false) Hx := fun sx n => q _ false sx ⟨fun z => (by cases z), fun z => absurd z n⟩
    refine ⟨_, rfl, al, _, rfl, .inl (SqL.of ha), _, rfl, c, _, rfl, .inl (SqL.of hcl), rfl, _, rfl, ?_⟩
    rw [vi_len, luc, dec_nat]
    by_cases l1 : as.length = cs.length
    rotate_left
    · rw [decide_eq_false l1]
      exact iteT (iteT (no (Same.refl _) fun z => l1 z.la))
    rw [decide_eq_true l1]
    refine iteF ⟨_, rfl, ul, _, rfl, .inl (SqL.of hu), _, rfl, c, _, rfl, .inl (SqL.of hcl), rfl, _, rfl, ?_⟩
    rw [vi_len, luc, dec_nat]
    by_cases l2 : us.length = cs.length
    rotate_left
    · rw [decide_eq_false l2]
      exact iteT (iteT (no (Same.refl _) fun z => l2 z.lu))
    rw [decide_eq_true l2]
    refine iteF ⟨_, rfl, vl, _, rfl, .inl (SqL.of hv), _, rfl, rfl, _, rfl, ?_⟩
    rw [vi_len, dec_nat]
    by_cases l3 : vs.length = wid cs
    rotate_left
    · rw [decide_eq_false l3]
      exact iteT (no (Same.refl _) fun z => l3 z.lv)
    rw [decide_eq_true l3]
    refine iteF ?_
    -- columns in range, none twice
    refine ⟨_, rfl, al, rfl, ⟨_, SqL.of ha⟩, fun D nD => lcA (n := as.length) (by have w := walk_list (K := K) (a := al) (xs := vi as); rw [vi_len] at w; exact w) (fun i => .bl (!decide (0 ≤ (as[i]?.getD 0) ∧ (as[i]?.getD 0) < (wid cs : Nat)))) nD (by omega) (fun Hz sz => SqL.of (sz _ _ ha)) (fun i x Hz Hz' Q hi sz y qt => ?_) fun H1 s1 hD => ?_⟩
    · obtain ⟨rfl, y⟩ := y
      obtain ⟨k, hk, rfl, _⟩ := int_at y
      rw [hk, Option.getD_some] at qt
      exact ⟨rfl, _, rfl, _, rfl, _, rfl, fun p np => ⟨_, _, _, _, rfl, rfl, upd_same, qt _ (same_new np)⟩⟩
    rw [bl_map] at hD
    refine ⟨D, _, rfl, SqL.of hD, _, rfl, ?_⟩
    by_cases c1 : ∀ j ∈ as, 0 ≤ j ∧ j < (wid cs : Nat)
    rotate_left
    · rw [any_map.mpr (Classical.byContradiction fun z => c1 fun j hj => by
        obtain ⟨i, hi, e⟩ := List.getElem_of_mem hj
        refine Classical.byContradiction fun n => z ⟨i, hi, ?_⟩
        rw [List.getElem?_eq_getElem hi, Option.getD_some, e, decide_eq_false n]
        rfl)]
      exact iteT (iteT (no s1 fun z => c1 z.inr))
    rw [show ((List.range as.length).map fun (i : Nat) => !decide ((0 : Int) ≤ (as[i]?.getD 0) ∧ (as[i]?.getD 0) < ((wid cs : Nat) : Int))).any id = false from Bool.eq_false_iff.mpr fun z => by
      obtain ⟨i, hi, e⟩ := any_map.mp z
      rw [List.getElem?_eq_getElem hi, Option.getD_some, decide_eq_true (c1 _ (List.getElem_mem hi))] at e
      cases e]
    refine iteF ⟨_, rfl, al, as, rfl, SqL.of (s1 _ _ ha), by omega, fun p cc np lc => ⟨p, _, _, rfl, upd_same, fun ns nd hm hl => ⟨_, rfl, al, _, rfl, .inl (SqL.of (same_new np _ _ (s1 _ _ ha))), rfl, _, rfl, ?_⟩⟩⟩
    have s2 := s1.trans (same_new (o := SetO w p (fun j => decide (j ∈ as)) cc) np)
    generalize (upd H1 p (SetO w p (fun j => decide (j ∈ as)) cc)) = H2 at s2 ⊢
    rw [vi_len, dec_nat]
    have sl := set_len nd hm
    rw [hl] at sl
    by_cases c2 : as.Nodup
    rotate_left
    · rw [decide_eq_false (fun z => c2 (sl.mp z))]
      exact iteT (no s2 fun z => c2 z.nd)
    rw [decide_eq_true (sl.mpr c2)]
    refine iteF ?_
    -- no potential of a column above 0
    refine ⟨_, rfl, vl, rfl, ⟨_, SqL.of (s2 _ _ hv)⟩, fun D nD => lcA (n := vs.length) (by have w := walk_list (K := K) (a := vl) (xs := vi vs); rw [vi_len] at w; exact w) (fun i => .bl (decide ((vs[i]?.getD 0) > 0))) nD (by omega) (fun Hz sz => SqL.of (sz _ _ (s2 _ _ hv))) (fun i x Hz Hz' Q hi sz y qt => ?_) fun H3 s3' hD => ?_⟩
    · obtain ⟨rfl, y⟩ := y
      obtain ⟨k, hk, rfl, _⟩ := int_at y
      rw [hk, Option.getD_some] at qt
      exact ⟨rfl, _, rfl, _, _, rfl, rfl, qt _ (Same.refl _)⟩
    have s3 := s2.trans s3'
    rw [bl_map] at hD
    refine ⟨D, _, rfl, SqL.of hD, _, rfl, ?_⟩
    by_cases c3 : ∀ x ∈ vs, x ≤ 0
    rotate_left
    · rw [any_map.mpr (Classical.byContradiction fun z => c3 fun x hx => by
        obtain ⟨i, hi, e⟩ := List.getElem_of_mem hx
        refine Classical.byContradiction fun n => z ⟨i, hi, decide_eq_true ?_⟩
        rw [List.getElem?_eq_getElem hi, Option.getD_some, e]
        omega)]
      exact iteT (no s3 fun z => c3 z.neg)
    rw [show ((List.range vs.length).map fun (i : Nat) => decide ((vs[i]?.getD 0) > 0)).any id = false from Bool.eq_false_iff.mpr fun z => by
      obtain ⟨i, hi, e⟩ := any_map.mp z
      have e := of_decide_eq_true e
      rw [List.getElem?_eq_getElem hi, Option.getD_some] at e
      have := c3 _ (List.getElem_mem hi)
      omega]
    refine iteF ?_
    -- row by row
    refine ⟨_, rfl, _, rfl, c, ul, uc, vi us, rfl, SqL.of (s3 _ _ hcl), SqL.of (s3 _ _ hu), RZ.for_zipL (xs := uc) (ys := vi us) (by rw [luc, vi_len, l2]) (fun i σ Hx => ∃ y6 y7 : Option V, σ = [some (.ref c), some (.ref al), some (.ref q1), some (.ref ul), some (.ref vl), some (.int (wid cs : Nat)), y6, y7, none, none, none, none] ∧ Same H Hx ∧ ∀ k j, k < i → j < wid cs → gi us k + gi vs j ≤ cst cs k j) ⟨none, none, rfl, s3, fun k j hk => absurd hk (Nat.not_lt_zero _)⟩ (fun i σ Hx hh => ?_) ?_ ?_⟩
    · obtain ⟨_, _, _, sx, _⟩ := hh
      exact ⟨SqL.of (sx _ _ hcl), SqL.of (sx _ _ hu)⟩
    · rintro i x y T1 σ Hx hx hy ⟨y6, y7, rfl, sx, fe⟩ nT
      have hi : i < cs.length := by
        rw [← luc]
        exact (List.getElem?_eq_some_iff.mp hx).1
      obtain ⟨ra, row, h1, h2, h3, h4, _⟩ := rows i hi
      rw [h1] at hx
      cases hx
      rw [vi_get (gi_some (show i < us.length by omega))] at hy
      cases hy
      have sT := sx.trans (same_new (o := .tup [.ref ra, .int (gi us i)]) nT)
      refine ⟨T1, _, rfl, SqT.of upd_same, rfl, _, _, rfl, _, _, rfl, rfl, ?_⟩
      generalize (upd Hx T1 (.tup [.ref ra, .int (gi us i)])) = Hy at sT ⊢
      refine ⟨_, rfl, _, rfl, ra, vl, vi row, vi vs, rfl, SqL.of (sT _ _ h2), SqL.of (sT _ _ hv), fun D nD => lcA (n := wid cs) (walk_zip (by rw [vi_len, vi_len, h3, l3, Nat.min_self])) (fun j => .bl (decide (gi us i + gi vs j > cst cs i j))) nD (by omega) (fun Hz sz => ⟨SqL.of (sz _ _ (sT _ _ h2)), SqL.of (sz _ _ (sT _ _ hv))⟩) (fun j x Hz Hz' Q hj sz y qt => ?_) fun H5 s5 hD => ?_⟩
      · obtain ⟨T2, x2, y2, rfl, nT2, rfl, ex, ey⟩ := y
        have ex : (vi row)[j]? = some x2 := ex
        have ey : (vi vs)[j]? = some y2 := ey
        rw [vi_get (h4 j hj)] at ex
        cases ex
        rw [vi_get (gi_some (show j < vs.length by omega))] at ey
        cases ey
        have sT2 := same_new (o := .tup [.int (cst cs i j), .int (gi vs j)]) nT2
        exact ⟨T2, _, rfl, SqT.of upd_same, rfl, _, _, rfl, _, _, rfl, rfl, rfl, _, rfl, _, rfl, _, _, rfl, rfl, _, rfl, _, _, rfl, rfl, qt _ sT2⟩
      have s5 := sT.trans s5
      rw [bl_map] at hD
      refine ⟨D, _, rfl, SqL.of hD, _, rfl, ?_⟩
      by_cases fi : ∀ j, j < wid cs → gi us i + gi vs j ≤ cst cs i j
      · rw [show ((List.range (wid cs)).map fun (j : Nat) => decide (gi us i + gi vs j > cst cs i j)).any id = false from Bool.eq_false_iff.mpr fun z => by
          obtain ⟨j, hj, e⟩ := any_map.mp z
          have := of_decide_eq_true e
          have := fi j hj
          omega]
        refine iteF ⟨_, _, rfl, s5, fun k j hk hj => ?_⟩
        by_cases ki : k = i
        · subst ki
          exact fi j hj
        · exact fe k j (by omega) hj
      · rw [any_map.mpr (Classical.byContradiction fun z => fi fun j hj => Classical.byContradiction fun n => z ⟨j, hj, decide_eq_true (by omega)⟩)]
        exact iteT (no s5 fun z => fi fun j hj => z.feas i j hi hj)
    rintro σ H6 ⟨y6, y7, rfl, s6, fe⟩
    rw [luc] at fe
    refine ⟨_, rfl, ul, us, rfl, SqL.of (s6 _ _ hu), _, rfl, vl, vs, rfl, SqL.of (s6 _ _ hv), _, _, rfl, rfl, ?_⟩
    refine ⟨_, rfl, _, rfl, c, al, uc, vi as, rfl, SqL.of (s6 _ _ hcl), SqL.of (s6 _ _ ha), fun D nD => lcA (n := cs.length) (walk_zip (by rw [vi_len, luc, l1, Nat.min_self])) (fun i => .int (cst cs i (as[i]?.getD 0).toNat)) nD (by omega) (fun Hz sz => ⟨SqL.of (sz _ _ (s6 _ _ hcl)), SqL.of (sz _ _ (s6 _ _ ha))⟩) (fun i x Hz Hz' Q hi sz y qt => ?_) fun H7 s7 hD => ?_⟩
    · obtain ⟨T2, x2, y2, rfl, nT2, rfl, ex, ey⟩ := y
      have ex : uc[i]? = some x2 := ex
      have ey : (vi as)[i]? = some y2 := ey
      obtain ⟨ra, row, h1, h2, h3, h4, _⟩ := rows i hi
      rw [h1] at ex
      cases ex
      have ea : as[i]? = some (as[i]?.getD 0) := by
        rw [List.getElem?_eq_getElem (by omega)]
        rfl
      rw [vi_get ea] at ey
      cases ey
      have bd := c1 _ (List.mem_of_getElem? ea)
      have eia : as[i]?.getD 0 = ((as[i]?.getD 0).toNat : Int) := by omega
      have sT2 := same_new (o := .tup [.ref ra, .int (as[i]?.getD 0)]) nT2
      refine ⟨T2, _, rfl, SqT.of upd_same, rfl, _, _, rfl, _, _, rfl, rfl, rfl, _, rfl, _, rfl, ra, _, _, _, rfl, rfl, SqL.of (sT2 _ _ (sz _ _ (s6 _ _ h2))), ?_, qt _ sT2⟩
      rw [eia]
      exact atI_nat (vi_get (h4 _ (by omega)))
    have s7 := s6.trans s7
    refine ⟨D, (List.range cs.length).map fun i => cst cs i (as[i]?.getD 0).toNat, rfl, SqL.of (by rw [hD, List.map_map]; rfl), rfl, ?_⟩
    refine q _ _ s7 ⟨fun z => ⟨l1, l2, l3, c1, c2, c3, fun i j hi hj => fe i j hi hj, V.int.inj (of_decide_eq_true z)⟩, fun z => decide_eq_true (congrArg V.int z.sum)⟩

end K15
namespace K15
open PySem PySem.Spec PyProof.Rows L2 V0
/-! ### assigned -/
/-- potentials are not far from the costs -/
def BoundP (cs : List (List Int)) (us vs : List Int) : Prop := ∀ B : Nat, (∀ row ∈ cs, ∀ x ∈ row, x.natAbs ≤ B) → (∀ x ∈ us, x.natAbs ≤ B) ∧ ∀ x ∈ vs, x.natAbs ≤ 2 * B
theorem gi_mem {xs : List Int} {x : Int} (h : x ∈ xs) : ∃ i, i < xs.length ∧ gi xs i = x := by
  obtain ⟨i, hi, e⟩ := List.getElem_of_mem h
  refine ⟨i, hi, ?_⟩
  unfold gi
  rw [List.getElem?_eq_getElem hi, e]
  rfl
theorem mem_gi {xs : List Int} {i : Nat} (h : i < xs.length) : gi xs i ∈ xs := List.mem_of_getElem? (gi_some h)
theorem MI.bound {cs : List (List Int)} {us vs : List Int} {own : Nat → Option Nat} (B : MI (cst cs) (wid cs) cs.length (gi us) (gi vs) own) (rc : RectW cs) (lu : us.length = cs.length) (lv : vs.length = wid cs) (z : 0 < cs.length → ∃ j, j < wid cs ∧ gi vs j = 0) : BoundP cs us vs := by
  intro b h
  have cb : ∀ i j, i < cs.length → j < wid cs → (cst cs i j).natAbs ≤ b := fun i j hi hj => by
    unfold cst
    rw [List.getElem?_eq_getElem hi, Option.getD_some]
    have hm : cs[i] ∈ cs := List.getElem_mem hi
    exact h _ hm _ (mem_gi (by rw [rc _ hm]; exact hj))
  have ub : ∀ i, i < cs.length → (gi us i).natAbs ≤ b := fun i hi => by
    obtain ⟨j0, h0, e0⟩ := z (Nat.lt_of_le_of_lt (Nat.zero_le _) hi)
    have h1 := B.feas i j0 hi h0
    obtain ⟨j, hj, e⟩ := B.sur i hi
    have h2 := (B.tight j i hj e).2
    have h3 := B.neg j hj
    have h4 := cb i j hi hj
    have h5 := cb i j0 hi h0
    omega
  refine ⟨fun x hx => ?_, fun x hx => ?_⟩
  · obtain ⟨i, hi, rfl⟩ := gi_mem hx
    exact ub i (by omega)
  · obtain ⟨j, hj, rfl⟩ := gi_mem hx
    rw [lv] at hj
    cases e : own j with
    | none =>
      have := B.zero j hj e
      omega
    | some i =>
      obtain ⟨hi, h2⟩ := B.tight j i hj e
      have h4 := cb i j hi hj
      have h5 := ub i hi
      omega
def sp_assigned (K : PySem.W.Frag) : Sp := fun ws H Q _ => ∃ (c : Addr) (cs : List (List Int)), ws = [.ref c] ∧ Dv H (.ref c) cs ∧ RectW cs ∧ cs.length ≤ wid cs ∧ wid cs ≤ 1000 ∧
  ∀ H' (t l q1 u v : Addr) (as us vs : List Int), Same H H' → H' t = some (.tup [.ref l, .ref q1]) → H' q1 = some (.tup [.ref u, .ref v]) → H' l = some (.lst (vi as)) → H' u = some (.lst (vi us)) → H' v = some (.lst (vi vs)) → RightP cs as us vs → BoundP cs us vs → H l = none → H u = none → H v = none → Q (.ref t) H'
theorem gi_rep (n : Nat) : gi (List.replicate n 0) = fun _ => 0 := funext fun j => by
  unfold gi
  rw [List.getElem?_replicate]
  split <;> rfl
theorem go_rep (n : Nat) : go (List.replicate n none) = fun _ => none := funext fun j => by
  unfold go
  rw [List.getElem?_replicate]
  split <;> rfl
theorem ok_assigned {P : Program} {w : World} {K : PySem.W.Frag} {mg : Str → Option Value} {base : Heap} {C_Matching : Addr} {f fMatching___init__ fMatching_take_in fMatching_assignment : Addr} {fd fdMatching___init__ fdMatching_take_in fdMatching_assignment : FuncData} (F : Fun K "assigned" "assigned" s_assigned f fd) (T : Txt K mg C_Matching)
    (G_Matching___init__ : FnOk P w K mg base CX0 2 fMatching___init__ fdMatching___init__ ["self", "costs"] (sp_Matching___init__ K C_Matching)) (D_Matching___init__ : IDef K C_Matching fMatching___init__ fdMatching___init__ ["self", "costs"])
    (G_Matching_take_in : FnOk P w K mg base CX0 2 fMatching_take_in fdMatching_take_in ["self", "row"] (sp_Matching_take_in K C_Matching)) (D_Matching_take_in : MDef K C_Matching "take_in" fMatching_take_in fdMatching_take_in ["self", "row"])
    (G_Matching_assignment : FnOk P w K mg base CX0 1 fMatching_assignment fdMatching_assignment ["self"] (sp_Matching_assignment K C_Matching)) (D_Matching_assignment : MDef K C_Matching "assignment" fMatching_assignment fdMatching_assignment ["self"]) :
    FnOk P w K mg base CX0 4 f fd ["costs"] (sp_assigned K) := by
  refine F.ok scassigned (fun vs H Q E h => ?_) (fun cdv A outer s H vs Q E hr h => ?_)
  · obtain ⟨c, cs, rfl, _⟩ := h
    rfl
  · obtain ⟨c, cs, rfl, hc, rc, nm, m1000, q⟩ := h
    refine ⟨_, (pss_cons (ps_set (i := 1) scassigned.nd rfl (.inl rfl) (pe_make D_Matching___init__.k G_Matching___init__ (hr.mono (by omega)) (by rfl) T.m_Matching D_Matching___init__.b .nil pass0 (pa_cons (pv 0) pa_nil)))
      (pss_cons (ps_for PassesOwn.never rfl (pi_range1 rfl T.m_range (pa_cons (pe_callB call_len_seq (by rfl) T.m_len (by decide +kernel) (pa_cons (pv 0) pa_nil)) pa_nil)) (pg_name (i := 2) scassigned.nd rfl (Or.inl rfl)) (pss_one (ps_expr (pe_meth (pv 1) T.c_Matching D_Matching_take_in.m G_Matching_take_in (hr.mono (by omega)) D_Matching_take_in.b .nil pass0 (pa_cons (pv 2) pa_nil)))))
      (pss_one (ps_ret (pe_tup (pa_cons (pe_meth0 (pv 1) T.c_Matching D_Matching_assignment.m G_Matching_assignment (hr.mono (by omega)) D_Matching_assignment.b .nil pass0) (pa_cons (pe_tup (pa_cons (pe_fld (pv 1) rfl) (pa_cons (pe_fld (pv 1) rfl) pa_nil))) pa_nil))))))), ?_⟩
    refine ⟨_, rfl, fun x dx nx ndx ne => ?_⟩
    have s0 : Same H (upd (upd H dx (.own x)) x (.ins C_Matching dx [])) := same_mut (same_new ndx) nx
    have e0 : (upd (upd H dx (.own x)) x (.ins C_Matching dx [])) x = some (.ins C_Matching dx []) := upd_same
    generalize (upd (upd H dx (.own x)) x (.ins C_Matching dx [])) = H0 at s0 e0 ⊢
    have hcx : Dv (hids [x] H0) (.ref c) cs := hc.same fun b o e => hids_of (by simp; exact ne_of_none e nx) (s0 _ _ e)
    refine ⟨x, dx, c, cs, rfl, e0, hcx, by omega, m1000, fun u v o H1 nu nv no f1 M1 => ⟨rfl, ?_⟩⟩
    have sH1 : Same H H1 := fun b ob e => f1 b ob (s0 _ _ e) (by simp; exact ne_of_none e nx)
    obtain ⟨c', uc, ec, hcl, luc, _⟩ := costs_at hc rc
    cases ec
    refine ⟨_, rfl, c, _, rfl, .inl (SqL.of (sH1 _ _ hcl)), ?_⟩
    rw [luc]
    have un : ∀ {a : Addr} {b : Addr} {ob : HO}, H0 a = none → H b = some ob → b ≠ a := fun na e z => by
      rw [← z, s0 _ _ e] at na
      cases na
    refine ⟨_, rfl, by omega, by omega, for_range (n := cs.length) (fun i σ Hx => ∃ (y2 : Option V) (us vs : List Int) (own : List (Option Nat)), σ = [some (.ref c), some (.ref x), y2] ∧ Frm [u, v, o] H1 Hx ∧ MAt C_Matching Hx x c u v o cs us vs own ∧ us.length = cs.length ∧ vs.length = wid cs ∧ own.length = wid cs ∧ MI (cst cs) (wid cs) i (gi us) (gi vs) (go own) ∧ (0 < i → ∃ j, j < wid cs ∧ gi vs j = 0)) ⟨none, _, _, _, rfl, Frm.refl, M1, List.length_replicate, List.length_replicate, List.length_replicate, by rw [gi_rep, gi_rep, go_rep]; exact MI.start _ _, fun z => absurd z (Nat.lt_irrefl 0)⟩ ?_ ?_⟩
    · rintro i σ Hx hi ⟨y2, us, vs, own, rfl, fx, M, lu, lv, lo, B, _⟩
      obtain ⟨dx2, hx⟩ := M.ob
      rw [Int.zero_add]
      refine ⟨_, rfl, x, dx2, _, rfl, hx, mf_no _ _ _ _ (by decide +kernel) (by decide +kernel) (by decide +kernel) (by decide +kernel), _, rfl, x, c, u, v, o, cs, us, vs, own, cs.length, wid cs, i, rfl, M, ⟨rfl, rc⟩, lu, lv, lo, hi, nm, m1000, B, fun H2 us2 vs2 own2 f2 M2 l1 l2 l3 B2 z2 => ?_⟩
      exact ⟨_, us2, vs2, own2, rfl, fx.trans f2, M2, l1, l2, l3, B2, fun _ => z2⟩
    rintro σ Hx ⟨y2, us, vs, own, rfl, fx, M, lu, lv, lo, B, zz⟩
    obtain ⟨dx2, hx⟩ := M.ob
    refine ⟨_, rfl, x, dx2, _, rfl, hx, mf_no _ _ _ _ (by decide +kernel) (by decide +kernel) (by decide +kernel) (by decide +kernel), x, c, u, v, o, cs, us, vs, own, cs.length, wid cs, rfl, M, rfl, lo, by omega, m1000, B, fun H2 l a s2 nl hl ea => ?_⟩
    refine ⟨_, rfl, x, C_Matching, dx2, _, _, rfl, s2 _ _ hx, T.c_Matching, T.n_Matching_of_rows, mf_rows _ _ _ _, _, rfl, x, C_Matching, dx2, _, _, rfl, s2 _ _ hx, T.c_Matching, T.n_Matching_of_columns, mf_cols _ _ _ _, by show 2 ≤ sizeLine; decide, fun q1 nq => ⟨by show 2 ≤ sizeLine; decide, fun t nt => ?_⟩⟩
    have s3 := same_new (o := .tup [.ref u, .ref v]) nq
    have s4 := same_new (o := .tup [.ref l, .ref q1]) nt
    have s5 := s2.trans (s3.trans s4)
    have sHx : Same H Hx := fun b ob e => fx b ob (sH1 _ _ e) (by simp; exact ⟨un nu e, un nv e, un no e⟩)
    refine q _ t l q1 u v (nis a) us vs (sHx.trans s5) upd_same (s4 _ _ upd_same) (by rw [vi_ints]; exact s4 _ _ (s3 _ _ hl)) (s5 _ _ M.hu) (s5 _ _ M.hv) ?_ ?_ (none_of sHx nl) (none_of s0 nu) (none_of s0 nv)
    · rw [ea]
      exact B.right lu lv lo
    · exact B.bound rc lu lv zz

end K15
namespace K15
open PySem PySem.Spec PyProof.Rows L2 V0
/-! ### the draws -/
def sp__law_draws (K : PySem.W.Frag) : Sp := fun vs H Q _ => ∃ (a : Addr) (ns : List Int), vs = [.ref a] ∧ SqL K H a (ns.map V.int) ∧ ns.length ≤ 63 ∧ ∀ H' p c, Same H H' → H p = none → Dw H' p c → Q (.ref p) H'
theorem ok__law_draws {P : Program} {w : World} {K : PySem.W.Frag} {mg : Str → Option Value} {base : Heap} {C_Matching : Addr} {f  : Addr} {fd  : FuncData} (F : Fun K "_law_draws" "_law_draws" s__law_draws f fd) (T : Txt K mg C_Matching) :
    FnOk P w K mg base CX0 1 f fd ["script"] (sp__law_draws K) := by
  refine F.ok sc_law_draws (fun vs H Q E h => ?_) (fun cdv A outer s H vs Q E hr h => ?_)
  · obtain ⟨a, ns, rfl, _⟩ := h
    rfl
  · obtain ⟨a, ns, rfl, hS, hl, q⟩ := h
    refine ⟨_, (pss_one (ps_ret (pe_lst (pa_cons (pe_callTy call_list_of (by rfl) T.m_list (by decide +kernel) (pa_cons (pv 0) pa_nil)) (pa_cons pe_int (pa_cons pe_int (pa_cons pe_int pa_nil))))))), ?_⟩
    refine ⟨_, rfl, a, _, rfl, .inl hS, fun c nc => ⟨by show 4 ≤ sizeLine; decide, fun p np => ?_⟩⟩
    have s1 := same_new (o := .lst (ns.map V.int)) nc
    have e1 : (upd H c (.lst (ns.map V.int))) c = some (.lst (vi ns)) := upd_same
    have ncp : c ≠ p := ne_of_none e1 np
    exact q _ p c (s1.trans (same_new np)) (none_of s1 np) ⟨ncp.symm, ns, 0, 0, 1, upd_same, (by rw [upd_ne ncp]; exact e1), hl, by decide⟩
def sp__law_draw (K : PySem.W.Frag) : Sp := fun vs H Q _ => ∃ (p c : Addr) (n : Nat), vs = [.ref p, .int (n : Nat)] ∧ Dw H p c ∧ 0 < n ∧ n < 2 ^ 64 ∧ ∀ H' (d : Nat), Gw p c H H' → d < n → Q (.int (d : Nat)) H'
theorem ok__law_draw {P : Program} {w : World} {K : PySem.W.Frag} {mg : Str → Option Value} {base : Heap} {C_Matching : Addr} {f  : Addr} {fd  : FuncData} (F : Fun K "_law_draw" "_law_draw" s__law_draw f fd) (T : Txt K mg C_Matching) :
    FnOk P w K mg base CX0 1 f fd ["draws", "limit"] (sp__law_draw K) := by
  refine F.ok sc_law_draw (fun vs H Q E h => ?_) (fun cdv A outer s H vs Q E hr h => ?_)
  · obtain ⟨p, c, n, rfl, _⟩ := h
    rfl
  · obtain ⟨p, c, n, rfl, dw, h0, h1, q⟩ := h
    obtain ⟨npc, xs, i0, b0, z0, hp0, hc0, hl, hz0⟩ := id dw
    obtain ⟨ST, hST⟩ : ∃ ST : Nat → Nat → Nat → Hp, ST = fun i b z => upd H p (.lst [.ref c, .int (i : Nat), .int (b : Nat), .int (z : Nat)]) := ⟨_, rfl⟩
    have hp : ∀ i b z, ST i b z p = some (.lst [.ref c, .int (i : Nat), .int (b : Nat), .int (z : Nat)]) := fun i b z => by rw [hST]; exact upd_same
    have hc : ∀ i b z, ST i b z c = some (.lst (vi xs)) := fun i b z => by rw [hST]; show upd H p _ c = _; rw [upd_ne (Ne.symm npc)]; exact hc0
    have st0 : H = ST i0 b0 z0 := by rw [hST]; exact (upd_id hp0).symm
    have su : ∀ i b z i' b' z', upd (ST i b z) p (.lst [.ref c, .int (i' : Nat), .int (b' : Nat), .int (z' : Nat)]) = ST i' b' z' := fun i b z i' b' z' => by rw [hST]; exact upd_upd
    have go : ∀ i b z, z < 2147483647 → Gw p c H (ST i b z) := fun i b z hz => ⟨dw, ⟨npc, xs, i, b, z, hp i b z, hc i b z, hl, hz⟩, by rw [hST]; exact hid_mut⟩
    have nz : ((n : Nat) : Int) ≠ 0 := by omega
    have fm : ∀ x : Int, ∃ d : Nat, x.fmod (n : Nat) = (d : Int) ∧ d < n := fun x => by
      have h := emod_range (x := x) (show (0 : Int) < (n : Nat) by omega)
      exact ⟨(x.fmod (n : Nat)).toNat, by omega, by omega⟩
    refine ⟨_, (C8.pss_cut (ps_if (PW.pt (pw_and (pt_cmpR op_eq (pe_ix (r := rIxL K) ix_list (pv 0) pe_int (fun _ _ => rfl)) pe_int (nomark _)) (pw_and1 (pt_cmpR op_lt (pe_ix (r := rIxL K) ix_list (pv 0) pe_int (fun _ _ => rfl)) (pe_callB call_len_seq (by rfl) T.m_len (by decide +kernel) (pa_cons (pe_ix (r := rIxL K) ix_list (pv 0) pe_int (fun _ _ => rfl)) pa_nil)) (nomark _))))) (pss_cons (ps_set (i := 2) sc_law_draw.nd rfl (.inl rfl) (pe_ix (r := rIxL K) ix_list (pe_ix (r := rIxL K) ix_list (pv 0) pe_int (fun _ _ => rfl)) (pe_ix (r := rIxL K) ix_list (pv 0) pe_int (fun _ _ => rfl)) (fun _ _ => rfl)))
      (pss_cons (ps_asg (pe_op op_add (pe_ix (r := rIxL K) ix_list (pv 0) pe_int (fun _ _ => rfl)) pe_int) (pg_sub (pv 0) pe_int set_list))
      (C8.pss_cut (ps_if (pt_cmpR op_ge (pv 2) (pe_op op_pow pe_int pe_int) (nomark _)) (pss_one (ps_asg (pv 2) (pg_sub (pv 0) pe_int set_list))) pss_nil)
      (pss_one (ps_asg (pe_op op_modN (pe_callTy call_int1 (by rfl) T.m_int (by decide +kernel) (pa_cons (pe_op op_add (pe_op op_add (pe_op op_mul (pe_ix (r := rIxL K) ix_list (pv 0) pe_int (fun _ _ => rfl)) pe_int) (pv 2)) pe_int) pa_nil)) pe_int) (pg_sub (pv 0) pe_int set_list)))))) pss_nil)
      (pss_cons (ps_if (pt_cmpR op_gt (pe_ix (r := rIxL K) ix_list (pv 0) pe_int (fun _ _ => rfl)) pe_int (nomark _)) (pss_cons (ps_set (i := 3) sc_law_draw.nd rfl (.inl rfl) (pe_op op_modN (pe_callTy call_int1 (by rfl) T.m_int (by decide +kernel) (pa_cons (pe_ix (r := rIxL K) ix_list (pv 0) pe_int (fun _ _ => rfl)) pa_nil)) (pv 1)))
      (pss_cons (ps_asg (pe_op op_fdivW (pe_ix (r := rIxL K) ix_list (pv 0) pe_int (fun _ _ => rfl)) (pv 1)) (pg_sub (pv 0) pe_int set_list))
      (pss_one (ps_ret (pv 3))))) pss_nil)
      (pss_cons (ps_asg (pe_op op_modN (pe_callTy call_int1 (by rfl) T.m_int (by decide +kernel) (pa_cons (pe_op op_add (pe_op op_mul (pe_ix (r := rIxL K) ix_list (pv 0) pe_int (fun _ _ => rfl)) pe_int) pe_int) pa_nil)) pe_int) (pg_sub (pv 0) pe_int set_list))
      (pss_one (ps_ret (pe_op op_modN (pe_callTy call_int1 (by rfl) T.m_int (by decide +kernel) (pa_cons (pe_op op_fdivN (pe_ix (r := rIxL K) ix_list (pv 0) pe_int (fun _ _ => rfl)) pe_int) pa_nil)) (pv 1))))))), ?_⟩
    refine ⟨fun σ H' => ∃ (y2 : Option V) (i b z : Nat), σ = [some (.ref p), some (.int (n : Nat)), y2, none] ∧ H' = ST i b z ∧ z < 2147483647, ?_, ?_⟩
    · rw [st0]
      refine ⟨_, rfl, p, _, 2, _, rfl, rfl, SqL.of (hp _ _ _), atI_nat (j := 2) rfl, rfl, _, rfl, ?_⟩
      rw [show decide (V.int (b0 : Int) = V.int 0) = decide (b0 = 0) from dec_nat _ 0]
      by_cases hb : b0 = 0
      · rw [decide_eq_true hb]
        refine iteT ⟨_, rfl, p, _, 1, _, rfl, rfl, SqL.of (hp _ _ _), atI_nat (j := 1) rfl, _, rfl, p, _, 0, _, rfl, rfl, SqL.of (hp _ _ _), atI_nat (j := 0) rfl, c, _, rfl, .inl (SqL.of (hc _ _ _)), _, _, rfl, rfl, _, rfl, ?_⟩
        by_cases hi : i0 < xs.length
        · rw [decide_eq_true (show ((i0 : Nat) : Int) < (((vi xs).length : Nat) : Int) by rw [List.length_map]; omega)]
          have ex : (vi xs)[i0]? = some (.int xs[i0]) := by
            unfold vi
            rw [List.getElem?_map, List.getElem?_eq_getElem hi]
            rfl
          refine iteT ⟨_, rfl, p, _, 0, _, rfl, rfl, SqL.of (hp _ _ _), atI_nat (j := 0) rfl, _, rfl, p, _, 1, _, rfl, rfl, SqL.of (hp _ _ _), atI_nat (j := 1) rfl, c, _, _, _, rfl, rfl, SqL.of (hc _ _ _), atI_nat ex, ?_⟩
          generalize xs[i0] = cell
          refine ⟨_, rfl, p, _, 1, _, rfl, rfl, SqL.of (hp _ _ _), atI_nat (j := 1) rfl, _, _, rfl, rfl, _, rfl, p, _, 1, 1, rfl, rfl, hp _ _ _, rfl, ?_⟩
          rw [show upd (ST i0 b0 z0) p (.lst (([.ref c, .int (i0 : Nat), .int (b0 : Nat), .int (z0 : Nat)] : List V).set 1 (.int ((i0 : Nat) + 1 : Int)))) = ST (i0 + 1) b0 z0 from su _ _ _ _ _ _]
          refine ⟨fun σ H' => ∃ b : Nat, σ = [some (.ref p), some (.int (n : Nat)), some (.int cell), none] ∧ H' = ST (i0 + 1) b z0, ?_, ?_⟩
          · refine ⟨_, rfl, _, _, rfl, rfl, ⟨by decide, by decide, by decide⟩, _, _, rfl, rfl, _, rfl, ?_⟩
            simp only [ten18]
            refine ite2 (fun hge => ?_) (fun _ => ⟨_, rfl, rfl⟩)
            have hge : cell ≥ 1000000000000000000 := of_decide_eq_true hge
            refine ⟨_, rfl, _, rfl, p, _, 2, 2, rfl, rfl, hp _ _ _, rfl, ?_⟩
            refine ⟨cell.toNat, rfl, ?_⟩
            obtain ⟨cn, rfl⟩ : ∃ cn : Nat, cell = (cn : Int) := ⟨cell.toNat, by omega⟩
            exact su _ _ _ _ _ _
          · rintro σ H' ⟨b, rfl, rfl⟩
            have r := emod_range (x := (z0 : Int) * 48271 + cell + 13) (show (0 : Int) < 2147483647 by decide)
            refine ⟨_, rfl, p, _, 3, _, rfl, rfl, SqL.of (hp _ _ _), atI_nat (j := 3) rfl, _, _, rfl, rfl, .inl ⟨by omega, by omega⟩, _, rfl, _, _, rfl, rfl, _, _, rfl, rfl, .inl ⟨_, rfl, _, _, rfl, rfl, (show (2147483647 : Int) ≠ 0 by decide), _, rfl, p, _, 3, 3, rfl, rfl, hp _ _ _, rfl, ?_⟩⟩
            obtain ⟨y, hy⟩ : ∃ y : Nat, ((z0 : Int) * 48271 + cell + 13).fmod 2147483647 = (y : Int) := ⟨_, (Int.toNat_of_nonneg r.1).symm⟩
            refine ⟨_, i0 + 1, b, y, rfl, ?_, by omega⟩
            have e : upd (ST (i0 + 1) b z0) p (.lst (([.ref c, .int ((i0 + 1 : Nat) : Int), .int (b : Nat), .int (z0 : Nat)] : List V).set 3 (.int (((z0 : Int) * 48271 + cell + 13).fmod 2147483647)))) = ST (i0 + 1) b y := by
              rw [hy]
              exact su _ _ _ _ _ _
            exact e
        · rw [decide_eq_false (show ¬ ((i0 : Nat) : Int) < (((vi xs).length : Nat) : Int) by rw [List.length_map]; omega)]
          exact iteF ⟨_, _, _, _, rfl, rfl, hz0⟩
      · rw [decide_eq_false hb]
        exact iteF ⟨_, _, _, _, rfl, rfl, hz0⟩
    · rintro σ H' ⟨y2, i, b, z, rfl, rfl, hz⟩
      refine ⟨_, rfl, p, _, 2, _, rfl, rfl, SqL.of (hp _ _ _), atI_nat (j := 2) rfl, _, _, rfl, rfl, _, rfl, ?_⟩
      by_cases hb : 0 < b
      · rw [decide_eq_true (show ((b : Nat) : Int) > 0 by omega)]
        obtain ⟨d, hd, hdn⟩ := fm (b : Nat)
        refine iteT ⟨_, rfl, p, _, 2, _, rfl, rfl, SqL.of (hp _ _ _), atI_nat (j := 2) rfl, .inl ⟨_, rfl, _, rfl, _, _, rfl, rfl, nz, ?_⟩⟩
        simp only [hd]
        refine ⟨_, rfl, p, _, 2, _, rfl, rfl, SqL.of (hp _ _ _), atI_nat (j := 2) rfl, _, rfl, _, _, rfl, rfl, wide_div (b := 64) (by omega) (by rw [Int.natAbs_natCast]; exact h1) (by decide) (by decide), _, rfl, p, _, 2, 2, rfl, rfl, hp _ _ _, rfl, ?_⟩
        refine ⟨_, rfl, ?_⟩
        have e : upd (ST i b z) p (.lst (([.ref c, .int (i : Nat), .int (b : Nat), .int (z : Nat)] : List V).set 2 (.int ((b : Int) / (n : Int))))) = ST i (b / n) z := su _ _ _ _ _ _
        exact q _ d (e ▸ go _ _ _ hz) hdn
      · rw [decide_eq_false (show ¬ ((b : Nat) : Int) > 0 by omega)]
        have r := emod_range (x := (z : Int) * 69621 + 7) (show (0 : Int) < 2147483629 by decide)
        refine iteF ⟨_, rfl, p, _, 3, _, rfl, rfl, SqL.of (hp _ _ _), atI_nat (j := 3) rfl, _, _, rfl, rfl, .inl ⟨by omega, by omega⟩, _, _, rfl, rfl, .inl ⟨_, rfl, _, _, rfl, rfl, (show (2147483629 : Int) ≠ 0 by decide), _, rfl, p, _, 3, 3, rfl, rfl, hp _ _ _, rfl, ?_⟩⟩
        obtain ⟨y, hy⟩ : ∃ y : Nat, ((z : Int) * 69621 + 7).fmod 2147483629 = (y : Int) := ⟨_, (Int.toNat_of_nonneg r.1).symm⟩
        have e : upd (ST i b z) p (.lst (([.ref c, .int (i : Nat), .int (b : Nat), .int (z : Nat)] : List V).set 3 (.int (((z : Int) * 69621 + 7).fmod 2147483629)))) = ST i b y := by
          rw [hy]
          exact su _ _ _ _ _ _
        rw [show upd (ST i b z) p (.lst (([.ref c, .int (i : Nat), .int (b : Nat), .int (z : Nat)] : List V).set 3 (.int (((z : Int) * 69621 + 7).fmod 2147483629)))) = ST i b y from e]
        obtain ⟨d, hd, hdn⟩ := fm ((y : Int).fdiv 11)
        refine ⟨_, rfl, p, _, 3, _, rfl, rfl, SqL.of (hp _ _ _), atI_nat (j := 3) rfl, _, _, rfl, rfl, ⟨by decide, by decide⟩, .inl ⟨_, rfl, _, rfl, _, _, rfl, rfl, nz, ?_⟩⟩
        simp only [hd]
        exact q _ d (go _ _ _ (by omega)) hdn

end K15
namespace K15
open PySem PySem.Spec PyProof.Rows L2 V0
/-! ### units, orders, numbers -/
theorem dw_fresh_ne {H H' : Hp} {p c b : Addr} (d : Dw H p c) (n : H b = none) : b ≠ p := (d.off n).1
/-- a comprehension whose turns draw numbers -/
theorem lcD {p c D : Addr} {H1 : Hp} {n : Nat} {g : TG} {te : TE} {vs : List Nat} {σ : L2.St} {Qd : Hp → Prop} (P : Int → Prop) (d : Dw H1 p c) (nD : H1 D = none) (few : n ≤ 1000000)
    (step : ∀ j Hz (Q : VK), j < n → Gw p c H1 Hz → (∀ H4 y, Gw p c Hz H4 → P y → Q (.int y) H4) → g (.int ((0 : Int) + (j : Nat))) (wipe σ vs) Hz fun σ2 H2 => wipe σ2 vs = wipe σ vs ∧ te σ2 H2 Q)
    (hd : ∀ (H' : Hp) (bs : List Int), Gw p c H1 H' → H' D = some (.lst (vi bs)) → bs.length = n → (∀ b ∈ bs, P b) → Qd H') :
    ∃ W : Nat → Nat → Hp → Prop, (∃ m, W 0 m (upd H1 D (.lst []))) ∧ ∀ i m H, W i m H →
      ((Itr 0 n).stop i H ∧ Qd H) ∨ ((Itr 0 n).go i H ∧ ∃ Nx : Hp → Prop, (∀ H', Nx H' → ∃ m', m' < m ∧ W (i + 1) m' H') ∧ ∀ x H', (Itr 0 n).yld i H x H' → g x (wipe σ vs) H' fun σ2 H2 => wipe σ2 vs = wipe σ vs ∧ tYes σ2 H2 fun b H3 =>
        if b = true then te σ2 H3 fun y H4 => ∃ acc, H4 D = some (.lst acc) ∧ acc.length < sizeLine ∧ Nx (upd H4 D (.lst (acc ++ [y]))) else Nx H3) := by
  refine lc_range (tt := tYes) (fun j Hz => Gw p c H1 Hz ∧ ∃ bs : List Int, Hz D = some (.lst (vi bs)) ∧ bs.length = j ∧ ∀ b ∈ bs, P b) ⟨Gw.mut (Gw.refl d) nD, [], upd_same, rfl, fun b h => (by cases h)⟩ ?_ ?_
  · rintro j Hz hj ⟨gz, bs, hD, lb, bb⟩
    refine step j Hz _ hj gz fun H4 y g4 py => ⟨_, g4.get (d.off nD).1 hD, ?_, (gz.trans g4).mut nD, bs ++ [y], ?_, by rw [List.length_append, lb]; rfl, fun z hz => ?_⟩
    · rw [vi_len, lb]
      exact Nat.lt_of_le_of_lt (show _ ≤ 1000000 by omega) (by decide)
    · rw [upd_same]
      unfold vi
      rw [List.map_append]
      rfl
    · rcases List.mem_append.mp hz with hz | hz
      · exact bb z hz
      · rw [List.mem_singleton.mp hz]
        exact py
  · rintro H' ⟨g', bs, hD, lb, bb⟩
    exact hd H' bs g' hD lb bb
/-- .. whose turns make lists of numbers -/
theorem lcDD {p c D : Addr} {H1 : Hp} {n : Nat} {g : TG} {te : TE} {vs : List Nat} {σ : L2.St} {Qd : Hp → Prop} (P : List Int → Prop) (d : Dw H1 p c) (nD : H1 D = none) (few : n ≤ 1000000)
    (step : ∀ j Hz (Q : VK), j < n → Gw p c H1 Hz → (∀ H4 R row, Gw p c Hz H4 → Hz R = none → H4 R = some (.lst (vi row)) → P row → Q (.ref R) H4) → g (.int ((0 : Int) + (j : Nat))) (wipe σ vs) Hz fun σ2 H2 => wipe σ2 vs = wipe σ vs ∧ te σ2 H2 Q)
    (hd : ∀ (H' : Hp) (cs : List (List Int)), Gw p c H1 H' → Dv (hid p H') (.ref D) cs → cs.length = n → (∀ r ∈ cs, P r) → Qd H') :
    ∃ W : Nat → Nat → Hp → Prop, (∃ m, W 0 m (upd H1 D (.lst []))) ∧ ∀ i m H, W i m H →
      ((Itr 0 n).stop i H ∧ Qd H) ∨ ((Itr 0 n).go i H ∧ ∃ Nx : Hp → Prop, (∀ H', Nx H' → ∃ m', m' < m ∧ W (i + 1) m' H') ∧ ∀ x H', (Itr 0 n).yld i H x H' → g x (wipe σ vs) H' fun σ2 H2 => wipe σ2 vs = wipe σ vs ∧ tYes σ2 H2 fun b H3 =>
        if b = true then te σ2 H3 fun y H4 => ∃ acc, H4 D = some (.lst acc) ∧ acc.length < sizeLine ∧ Nx (upd H4 D (.lst (acc ++ [y]))) else Nx H3) := by
  have Dp := (d.off nD).1
  refine lc_range (tt := tYes) (fun j Hz => Gw p c H1 Hz ∧ ∃ (us : List V) (cs : List (List Int)), Hz D = some (.lst us) ∧ Dvs (hid D (hid p Hz)) us cs ∧ cs.length = j ∧ ∀ r ∈ cs, P r) ⟨Gw.mut (Gw.refl d) nD, [], [], upd_same, .nil, rfl, fun b h => (by cases h)⟩ ?_ ?_
  · rintro j Hz hj ⟨gz, us, cs, hD, dv, lb, bb⟩
    refine step j Hz _ hj gz fun H4 R row g4 nR hR pr => ?_
    have hD4 := g4.get Dp hD
    have RD : R ≠ D := (ne_of_none hD nR).symm
    have Rp : R ≠ p := (gz.b.off nR).1
    refine ⟨_, hD4, ?_, (gz.trans g4).mut nD, us ++ [.ref R], cs ++ [row], upd_same, ?_, by rw [List.length_append, lb]; rfl, fun z hz => ?_⟩
    · rw [dv.len, lb]
      exact Nat.lt_of_le_of_lt (show _ ≤ 1000000 by omega) (by decide)
    · have st : Same (hid D (hid p Hz)) (hid D (hid p (upd H4 D (.lst (us ++ [.ref R]))))) := (hid_mono g4.s).trans hid2_mut
      refine Dvs.app (dv.same st) (.cons (Dv.intl (hid_of RD (hid_of Rp ?_))) .nil)
      rw [upd_ne RD, hR]
    · rcases List.mem_append.mp hz with hz | hz
      · exact bb z hz
      · rw [List.mem_singleton.mp hz]
        exact pr
  · rintro H' ⟨g', us, cs, hD, dv, lb, bb⟩
    exact hd H' cs g' (Dv.list (hid_of Dp hD) (dv.same (hid_same _ _))) lb bb
theorem ten_pow (n : Nat) : (10 : Int) ^ ((n : Nat) : Int).toNat = ((10 ^ n : Nat) : Int) := by
  rw [Int.toNat_natCast]
  exact (Int.natCast_pow 10 n).symm
theorem pick5 {x1 x2 x3 x4 x5 : Int} {k : Nat} (h : k < 5) (h1 : 1 ≤ x1 ∧ x1 ≤ 10 ^ 45) (h2 : 1 ≤ x2 ∧ x2 ≤ 10 ^ 45) (h3 : 1 ≤ x3 ∧ x3 ≤ 10 ^ 45) (h4 : 1 ≤ x4 ∧ x4 ≤ 10 ^ 45) (h5 : 1 ≤ x5 ∧ x5 ≤ 10 ^ 45) : ∃ n : Int, ([V.int x1, .int x2, .int x3, .int x4, .int x5] : List V)[k]? = some (.int n) ∧ 1 ≤ n ∧ n ≤ 10 ^ 45 := by
  have : k = 0 ∨ k = 1 ∨ k = 2 ∨ k = 3 ∨ k = 4 := by omega
  rcases this with rfl | rfl | rfl | rfl | rfl
  · exact ⟨x1, rfl, h1⟩
  · exact ⟨x2, rfl, h2⟩
  · exact ⟨x3, rfl, h3⟩
  · exact ⟨x4, rfl, h4⟩
  · exact ⟨x5, rfl, h5⟩
def sp__law_unit (K : PySem.W.Frag) : Sp := fun ws H Q _ => ∃ (p c : Addr), ws = [.ref p] ∧ Dw H p c ∧ ∀ H' (u : Int), Gw p c H H' → 1 ≤ u → u ≤ 10 ^ 45 → Q (.int u) H'
theorem ok__law_unit {P : Program} {w : World} {K : PySem.W.Frag} {mg : Str → Option Value} {base : Heap} {C_Matching : Addr} {f f_law_draw : Addr} {fd fd_law_draw : FuncData} (F : Fun K "_law_unit" "_law_unit" s__law_unit f fd) (T : Txt K mg C_Matching)
    (G__law_draw : FnOk P w K mg base CX0 1 f_law_draw fd_law_draw ["draws", "limit"] (sp__law_draw K)) (D__law_draw : Def K mg "_law_draw" f_law_draw fd_law_draw ["draws", "limit"]) :
    FnOk P w K mg base CX0 2 f fd ["draws"] (sp__law_unit K) := by
  refine F.ok sc_law_unit (fun vs H Q E h => ?_) (fun cdv A outer s H vs Q E hr h => ?_)
  · obtain ⟨p, c, rfl, _⟩ := h
    rfl
  · obtain ⟨p, c, rfl, d0, q⟩ := h
    refine ⟨_, (pss_one (ps_ret (pe_ix (r := rIxL K) ix_list (pe_lst (pa_cons pe_int (pa_cons (pe_op op_pow pe_int pe_int) (pa_cons (pe_op op_pow pe_int pe_int) (pa_cons (pe_op op_pow pe_int pe_int) (pa_cons (pe_op op_pow pe_int pe_int) pa_nil)))))) (pe_call G__law_draw (hr.mono (by omega)) (by rfl) D__law_draw.m D__law_draw.k D__law_draw.b .nil pass0 (pa_cons (pv 0) (pa_cons pe_int pa_nil))) (fun _ _ => rfl)))), ?_⟩
    refine ⟨_, _, rfl, rfl, ⟨by decide, by decide, by decide⟩, _, _, rfl, rfl, ⟨by decide, by decide, by decide⟩, _, _, rfl, rfl, ⟨by decide, by decide, by decide⟩, _, _, rfl, rfl, ⟨by decide, by decide, by decide⟩, by show 5 ≤ sizeLine; decide, fun L nL => ⟨_, rfl, p, c, 5, rfl, d0.same (same_new nL), by decide, by decide, fun H1 k g1 hk => ?_⟩⟩
    have hL := g1.get (d0.off nL).1 upd_same
    obtain ⟨u, es, h1, h2⟩ := pick5 (x1 := 1) (x2 := (10 : Int) ^ (9 : Int).toNat) (x3 := (10 : Int) ^ (18 : Int).toNat) (x4 := (10 : Int) ^ (27 : Int).toNat) (x5 := (10 : Int) ^ (45 : Int).toNat) hk (by decide +kernel) (by decide +kernel) (by decide +kernel) (by decide +kernel) (by decide +kernel)
    exact ⟨L, _, _, _, rfl, rfl, SqL.of hL, atI_nat es, q _ u ((Gw.of d0 (same_new nL)).trans g1) h1 h2⟩
theorem vn_erase (xs : List Nat) (k : Nat) : (vn xs).eraseIdx k = vn (xs.eraseIdx k) := by
  induction xs generalizing k with
  | nil => rfl
  | cons x xs ih =>
    cases k with
    | zero => rfl
    | succ k => exact congrArg (List.cons (V.int (x : Nat))) (ih k)
theorem erase_perm {xs : List Nat} {k y : Nat} (h : xs[k]? = some y) : (y :: xs.eraseIdx k).Perm xs := by
  induction xs generalizing k with
  | nil => cases h
  | cons x xs ih =>
    cases k with
    | zero =>
      cases h
      exact .refl _
    | succ k => exact (List.Perm.swap x y _).trans ((ih h).cons x)
theorem rg_vn (n : Nat) : rgV 0 (n : Nat) = vn (List.range n) := by
  unfold rgV vn
  rw [show (((n : Nat) : Int) - 0).toNat = n by omega]
  exact List.map_congr_left fun i _ => by rw [Int.zero_add]
def sp__law_order (K : PySem.W.Frag) : Sp := fun ws H Q _ => ∃ (p c : Addr) (n : Nat), ws = [.ref p, .int (n : Nat)] ∧ Dw H p c ∧ n ≤ 1000 ∧ ∀ H' l (xs : List Nat), Gw p c H H' → H l = none → H' l = some (.lst (vn xs)) → xs.Perm (List.range n) → Q (.ref l) H'
theorem ok__law_order {P : Program} {w : World} {K : PySem.W.Frag} {mg : Str → Option Value} {base : Heap} {C_Matching : Addr} {f f_law_draw : Addr} {fd fd_law_draw : FuncData} (F : Fun K "_law_order" "_law_order" s__law_order f fd) (T : Txt K mg C_Matching)
    (G__law_draw : FnOk P w K mg base CX0 1 f_law_draw fd_law_draw ["draws", "limit"] (sp__law_draw K)) (D__law_draw : Def K mg "_law_draw" f_law_draw fd_law_draw ["draws", "limit"]) :
    FnOk P w K mg base CX0 2 f fd ["draws", "many"] (sp__law_order K) := by
  refine F.ok sc_law_order (fun vs H Q E h => ?_) (fun cdv A outer s H vs Q E hr h => ?_)
  · obtain ⟨p, c, n, rfl, _⟩ := h
    rfl
  · obtain ⟨p, c, n, rfl, d0, n1, q⟩ := h
    refine ⟨_, (pss_cons (ps_set (i := 2) sc_law_order.nd rfl (.inl rfl) (pe_listRg rfl (by rfl) T.m_list (prg_1 (by rfl) T.m_range (pv 1))))
      (pss_cons (ps_set (i := 3) sc_law_order.nd rfl (.inl rfl) (pe_lst pa_nil))
      (pss_cons (ps_for PassesOwn.never rfl (pi_range1 rfl T.m_range (pa_cons (pv 1) pa_nil)) (pg_name (i := 4) sc_law_order.nd rfl (Or.inl rfl)) (pss_one (ps_expr (pe_bm PySem.F.plainAttrs_list PySem.F.slot_list_append PySem.F.type_list_append mt_append (pv 3) (pa_cons (pe_bm PySem.F.plainAttrs_list PySem.F.slot_list_pop PySem.F.type_list_pop mt_popAt (pv 2) (pa_cons (pe_call G__law_draw (hr.mono (by omega)) (by rfl) D__law_draw.m D__law_draw.k D__law_draw.b .nil pass0 (pa_cons (pv 0) (pa_cons (pe_callB call_len_seq (by rfl) T.m_len (by decide +kernel) (pa_cons (pv 2) pa_nil)) pa_nil))) pa_nil)) pa_nil)))))
      (pss_one (ps_ret (pv 3)))))), ?_⟩
    refine ⟨_, rfl, _, rfl, ⟨by decide, by decide, by omega, by omega, by omega⟩, fun R nR => ?_⟩
    rw [rg_vn]
    have s1 := same_new (o := .lst (vn (List.range n))) nR
    have hR : (upd H R (.lst (vn (List.range n)))) R = some (.lst (vn (List.range n))) := upd_same
    generalize (upd H R (.lst (vn (List.range n)))) = H1 at s1 hR ⊢
    refine ⟨by show 0 ≤ sizeLine; decide, fun F nF => ?_⟩
    have s2 := same_new (o := .lst ([] : List V)) nF
    have hF : (upd H1 F (.lst ([] : List V))) F = some (.lst (vn [])) := upd_same
    have RF : R ≠ F := ne_of_none hR nF
    have hR2 := s2 _ _ hR
    have g2 := Gw.of d0 (s1.trans s2)
    have nF0 := none_of s1 nF
    generalize (upd H1 F (.lst ([] : List V))) = H2 at s2 hF hR2 g2 ⊢
    have Rp := (d0.off nR).1
    have Fp := (d0.off nF0).1
    refine ⟨_, rfl, _, rfl, by omega, by omega, for_range (n := n) (fun i σ Hx => ∃ (y4 : Option V) (rest found : List Nat), σ = [some (.ref p), some (.int (n : Nat)), some (.ref R), some (.ref F), y4] ∧ Gw p c H Hx ∧ Hx R = some (.lst (vn rest)) ∧ Hx F = some (.lst (vn found)) ∧ (found ++ rest).Perm (List.range n) ∧ found.length = i) ⟨none, _, [], rfl, g2, hR2, hF, .refl _, rfl⟩ ?_ ?_⟩
    · rintro i σ Hx hi ⟨y4, rest, found, rfl, gx, hRx, hFx, pm, lf⟩
      have lr := pm.length_eq
      rw [List.length_append, List.length_range] at lr
      refine ⟨_, rfl, .inl ⟨rfl, _, SqL.of hFx⟩, _, rfl, .inl ⟨rfl, _, SqL.of hRx⟩, _, rfl, _, rfl, R, _, rfl, .inl (SqL.of hRx), p, c, rest.length, by rw [vn_len]; rfl, gx.b, by omega, by omega, fun H3 k g3 hk => ?_⟩
      have hR3 := g3.get Rp hRx
      have hF3 := g3.get Fp hFx
      obtain ⟨y, ey⟩ : ∃ y, rest[k]? = some y := ⟨_, List.getElem?_eq_getElem hk⟩
      have eV : (vn rest)[k]? = some (.int (y : Nat)) := by
        unfold vn
        rw [List.getElem?_map, ey]
        rfl
      refine ⟨R, _, _, k, _, rfl, rfl, hR3, by omega, by omega, (ixN_seq (ix_nat (by rw [vn_len]; exact hk))).1, eV, ?_⟩
      rw [vn_erase]
      refine ⟨F, _, _, rfl, rfl, (upd_ne RF.symm).trans hF3, by rw [vn_len]; exact small1000 (by omega), ?_⟩
      refine ⟨_, rest.eraseIdx k, found ++ [y], rfl, ((gx.trans g3).mut nR).mut nF0, (upd_ne RF).trans upd_same, ?_, ?_, by rw [List.length_append, lf]; rfl⟩
      · rw [upd_same]
        unfold vn
        rw [List.map_append]
        rfl
      · rw [List.append_assoc]
        exact ((erase_perm ey).append_left found).trans pm
    rintro σ Hx ⟨y4, rest, found, rfl, gx, hRx, hFx, pm, lf⟩
    have lr := pm.length_eq
    rw [List.length_append, List.length_range] at lr
    have r0 : rest = [] := List.eq_nil_of_length_eq_zero (by omega)
    rw [r0, List.append_nil] at pm
    exact ⟨_, rfl, q Hx F found gx nF0 hFx pm⟩
def sp__law_number (K : PySem.W.Frag) : Sp := fun ws H Q _ => ∃ (p c : Addr) (u : Int), ws = [.ref p, .int u] ∧ Dw H p c ∧ 1 ≤ u ∧ u ≤ 10 ^ 45 ∧ ∀ H' (y : Int), Gw p c H H' → -(5 * 10 ^ 45) ≤ y ∧ y ≤ 5 * 10 ^ 45 → Q (.int y) H'
theorem ok__law_number {P : Program} {w : World} {K : PySem.W.Frag} {mg : Str → Option Value} {base : Heap} {C_Matching : Addr} {f f_law_draw : Addr} {fd fd_law_draw : FuncData} (F : Fun K "_law_number" "_law_number" s__law_number f fd) (T : Txt K mg C_Matching)
    (G__law_draw : FnOk P w K mg base CX0 1 f_law_draw fd_law_draw ["draws", "limit"] (sp__law_draw K)) (D__law_draw : Def K mg "_law_draw" f_law_draw fd_law_draw ["draws", "limit"]) :
    FnOk P w K mg base CX0 2 f fd ["draws", "unit"] (sp__law_number K) := by
  refine F.ok sc_law_number (fun vs H Q E h => ?_) (fun cdv A outer s H vs Q E hr h => ?_)
  · obtain ⟨p, c, u, rfl, _⟩ := h
    rfl
  · obtain ⟨p, c, u, rfl, d0, u1, u2, q⟩ := h
    refine ⟨_, (pss_cons (ps_set (i := 2) sc_law_number.nd rfl (.inl rfl) (pe_call G__law_draw (hr.mono (by omega)) (by rfl) D__law_draw.m D__law_draw.k D__law_draw.b .nil pass0 (pa_cons (pv 0) (pa_cons pe_int pa_nil))))
      (pss_one (ps_ret (pe_op op_sub (pe_op op_sub (pe_op op_add (pe_op op_mul (pe_op op_sub (pe_op op_fdivN (pv 2) pe_int) pe_int) (pv 1)) (pv 2)) (pe_op op_mul (pe_op op_fdivN (pv 2) pe_int) pe_int)) pe_int)))), ?_⟩
    refine ⟨_, rfl, p, c, 35, rfl, d0, by decide, by decide, fun H1 k g1 hk => ?_⟩
    have e7 : ((k : Nat) : Int).fdiv 7 = ((k / 7 : Nat) : Int) := by
      rw [Int.fdiv_eq_ediv_of_nonneg _ (by decide)]
      omega
    obtain ⟨t, et, h5⟩ : ∃ t, k / 7 = t ∧ t < 5 := ⟨_, rfl, by omega⟩
    rw [et] at e7
    refine ⟨_, rfl, _, _, rfl, rfl, ⟨by decide, by decide⟩, _, _, rfl, rfl, _, rfl, _, _, rfl, rfl, .inl ⟨by omega, by omega⟩, _, rfl, _, _, rfl, rfl, _, rfl, _, _, rfl, rfl, ⟨by decide, by decide⟩, _, _, rfl, rfl, .inl ⟨by omega, by omega⟩, _, _, rfl, rfl, _, _, rfl, rfl, q _ _ g1 ?_⟩
    rw [e7]
    have : t = 0 ∨ t = 1 ∨ t = 2 ∨ t = 3 ∨ t = 4 := by omega
    rcases this with rfl | rfl | rfl | rfl | rfl <;> omega

end K15
namespace K15
open PySem PySem.Spec PyProof.Rows L2 V0
/-! ### other assignments and potentials -/
theorem dw_vi_ne {H : Hp} {p c b : Addr} {xs : List Int} (h : Dw H p c) (e : H b = some (.lst (vi xs))) : b ≠ p := fun z => by
  obtain ⟨_, ys, i, b', z', e1, _⟩ := h
  rw [z, e1] at e
  have e := HO.lst.inj (Option.some.inj e)
  cases xs with
  | nil => cases e
  | cons x xs => cases e
theorem dw_tup_ne {H : Hp} {p c b : Addr} {xs : List V} (h : Dw H p c) (e : H b = some (.tup xs)) : b ≠ p := fun z => by
  obtain ⟨_, ys, i, b', z', e1, _⟩ := h
  rw [z, e1] at e
  cases e
theorem dec0 (n : Nat) : decide (V.int (n : Int) = V.int 0) = decide (n = 0) := dec_nat n 0
theorem dec1 (n : Nat) : decide (V.int (n : Int) = V.int 1) = decide (n = 1) := dec_nat n 1
theorem dec2 (n : Nat) : decide (V.int (n : Int) = V.int 2) = decide (n = 2) := dec_nat n 2
theorem dec3 (n : Nat) : decide (V.int (n : Int) = V.int 3) = decide (n = 3) := dec_nat n 3
theorem vi_take (xs : List Int) (n : Nat) : (vi xs).take n = vi (xs.take n) := (List.map_take ..).symm
theorem vi_drop (xs : List Int) (n : Nat) : (vi xs).drop n = vi (xs.drop n) := (List.map_drop ..).symm
theorem vi_app (xs ys : List Int) : vi xs ++ vi ys = vi (xs ++ ys) := (List.map_append ..).symm

/-! ### plain costs -/
def Bd (x : Int) : Prop := x.natAbs ≤ 10 ^ 49
theorem Bd.of {x : Int} (h1 : -10 ^ 49 ≤ x) (h2 : x ≤ 10 ^ 49) : Bd x := by
  unfold Bd
  omega
theorem mul_u {a u : Int} (h1 : 0 ≤ a) (h2 : a ≤ 9000) (u1 : 1 ≤ u) (u2 : u ≤ 10 ^ 45) : 0 ≤ a * u ∧ a * u ≤ 9000 * 10 ^ 45 :=
  ⟨Int.mul_nonneg h1 (by omega), Int.mul_le_mul h2 u2 (by omega) (by omega)⟩
def RowB (wide : Nat) (row : List Int) : Prop := row.length = wide ∧ ∀ x ∈ row, Bd x
def sp__law_plain (K : PySem.W.Frag) : Sp := fun ws H Q _ => ∃ (p c : Addr) (high wide : Nat), ws = [.ref p, .int (high : Nat), .int (wide : Nat)] ∧ Dw H p c ∧ high ≤ 60 ∧ wide ≤ 60 ∧
  ∀ H' a (cs : List (List Int)), Gw p c H H' → H a = none → Dv (hid p H') (.ref a) cs → cs.length = high → (∀ row ∈ cs, RowB wide row) → Q (.ref a) H'
theorem ok__law_plain {P : Program} {w : World} {K : PySem.W.Frag} {mg : Str → Option Value} {base : Heap} {C_Matching : Addr} {f f_law_draw f_law_unit f_law_number : Addr} {fd fd_law_draw fd_law_unit fd_law_number : FuncData} (F : Fun K "_law_plain" "_law_plain" s__law_plain f fd) (T : Txt K mg C_Matching)
    (G__law_draw : FnOk P w K mg base CX0 1 f_law_draw fd_law_draw ["draws", "limit"] (sp__law_draw K)) (D__law_draw : Def K mg "_law_draw" f_law_draw fd_law_draw ["draws", "limit"])
    (G__law_unit : FnOk P w K mg base CX0 2 f_law_unit fd_law_unit ["draws"] (sp__law_unit K)) (D__law_unit : Def K mg "_law_unit" f_law_unit fd_law_unit ["draws"])
    (G__law_number : FnOk P w K mg base CX0 2 f_law_number fd_law_number ["draws", "unit"] (sp__law_number K)) (D__law_number : Def K mg "_law_number" f_law_number fd_law_number ["draws", "unit"]) :
    FnOk P w K mg base CX0 3 f fd ["draws", "high", "wide"] (sp__law_plain K) := by
  refine F.ok sc_law_plain (fun vs H Q E h => ?_) (fun cdv A outer s H vs Q E hr h => ?_)
  · obtain ⟨p, c, high, wide, rfl, _⟩ := h
    rfl
  · obtain ⟨p, c, high, wide, rfl, d0, hh, hw, q⟩ := h
    refine ⟨_, (pss_cons (ps_set (i := 3) sc_law_plain.nd rfl (.inl rfl) (pe_call G__law_draw (hr.mono (by omega)) (by rfl) D__law_draw.m D__law_draw.k D__law_draw.b .nil pass0 (pa_cons (pv 0) (pa_cons pe_int pa_nil))))
      (pss_cons (ps_set (i := 4) sc_law_plain.nd rfl (.inr rfl) (pe_call G__law_unit (hr.mono (by omega)) (by rfl) D__law_unit.m D__law_unit.k D__law_unit.b .nil pass0 (pa_cons (pv 0) pa_nil)))
      (pss_cons (ps_set (i := 5) sc_law_plain.nd rfl (.inr rfl) (pe_op op_add pe_int (pe_call G__law_draw (hr.mono (by omega)) (by rfl) D__law_draw.m D__law_draw.k D__law_draw.b .nil pass0 (pa_cons (pv 0) (pa_cons pe_int pa_nil)))))
      (pss_cons (ps_if (pt_cmpR op_eq (pv 3) pe_int (nomark _)) (pss_one (ps_ret (pe_lc (own := [("k", 7)]) (g := gName 7) (tt := tYes) rfl sc_law_plain.nd (pi_range1 rfl T.m_range (pa_cons (pv 1) pa_nil)) (blkOk_by (N := N__law_plain) (sc := defScope s__law_plain) (by decide +kernel)) (fun _ _ _ _ _ => (pg_name (i := 7) sc_law_plain.nd rfl (Or.inr rfl))) (fun _ _ _ _ _ => pts_nil) (fun _ _ _ _ _ => (pe_lc (own := [("j", 8)]) (g := gName 8) (tt := tYes) rfl sc_law_plain.nd (pi_range1 rfl T.m_range (pa_cons (pv 2) pa_nil)) (blkOk_by (N := N__law_plain) (sc := relS _ (defScope s__law_plain)) (by decide +kernel)) (fun _ _ _ _ _ => (pg_name (i := 8) sc_law_plain.nd rfl (Or.inl rfl))) (fun _ _ _ _ _ => pts_nil) (fun _ _ _ _ _ => (pe_op op_mul (pe_op op_mul (pe_op op_add (pv 7) (pv 5)) (pe_op op_add (pv 8) pe_int)) (pv 4)))))))) pss_nil)
      (pss_cons (ps_if (pt_cmpR op_eq (pv 3) pe_int (nomark _)) (pss_one (ps_ret (pe_lc (own := [("k", 7)]) (g := gName 7) (tt := tYes) rfl sc_law_plain.nd (pi_range1 rfl T.m_range (pa_cons (pv 1) pa_nil)) (blkOk_by (N := N__law_plain) (sc := defScope s__law_plain) (by decide +kernel)) (fun _ _ _ _ _ => (pg_name (i := 7) sc_law_plain.nd rfl (Or.inr rfl))) (fun _ _ _ _ _ => pts_nil) (fun _ _ _ _ _ => (pe_lc (own := [("j", 8)]) (g := gName 8) (tt := tYes) rfl sc_law_plain.nd (pi_range1 rfl T.m_range (pa_cons (pv 2) pa_nil)) (blkOk_by (N := N__law_plain) (sc := relS _ (defScope s__law_plain)) (by decide +kernel)) (fun _ _ _ _ _ => (pg_name (i := 8) sc_law_plain.nd rfl (Or.inl rfl))) (fun _ _ _ _ _ => pts_nil) (fun _ _ _ _ _ => (pe_ifExp (pt_chain op_le op_lt pe_int (pe_op op_sub (pv 8) (pv 7)) (pv 5)) pe_int (pe_op op_add (pv 4) (pv 7))))))))) pss_nil)
      (pss_cons (ps_if (pt_cmpR op_eq (pv 3) pe_int (nomark _)) (pss_cons (ps_set (i := 6) sc_law_plain.nd rfl (.inr rfl) (pe_lc (own := [("j", 8)]) (g := gName 8) (tt := tYes) rfl sc_law_plain.nd (pi_range1 rfl T.m_range (pa_cons (pv 2) pa_nil)) (blkOk_by (N := N__law_plain) (sc := defScope s__law_plain) (by decide +kernel)) (fun _ _ _ _ _ => (pg_name (i := 8) sc_law_plain.nd rfl (Or.inl rfl))) (fun _ _ _ _ _ => pts_nil) (fun _ _ _ _ _ => (pe_call G__law_number (hr.mono (by omega)) (by rfl) D__law_number.m D__law_number.k D__law_number.b .nil pass0 (pa_cons (pv 0) (pa_cons (pv 4) pa_nil))))))
      (pss_one (ps_ret (pe_lc (own := [("k", 7)]) (g := gName 7) (tt := tYes) rfl sc_law_plain.nd (pi_range1 rfl T.m_range (pa_cons (pv 1) pa_nil)) (blkOk_by (N := N__law_plain) (sc := defScope s__law_plain) (by decide +kernel)) (fun _ _ _ _ _ => (pg_name (i := 7) sc_law_plain.nd rfl (Or.inl rfl))) (fun _ _ _ _ _ => pts_nil) (fun _ _ _ _ _ => (pe_callTy (r := vListOf K) call_list_of (by rfl) T.m_list (by decide +kernel) (pa_cons (pv 6) pa_nil))))))) pss_nil)
      (pss_cons (ps_if (pt_cmpR op_eq (pv 3) pe_int (nomark _)) (pss_one (ps_ret (pe_lc (own := [("k", 7)]) (g := gName 7) (tt := tYes) rfl sc_law_plain.nd (pi_range1 rfl T.m_range (pa_cons (pv 1) pa_nil)) (blkOk_by (N := N__law_plain) (sc := defScope s__law_plain) (by decide +kernel)) (fun _ _ _ _ _ => (pg_name (i := 7) sc_law_plain.nd rfl (Or.inl rfl))) (fun _ _ _ _ _ => pts_nil) (fun _ _ _ _ _ => (pe_lc (own := [("j", 8)]) (g := gName 8) (tt := tYes) rfl sc_law_plain.nd (pi_range1 rfl T.m_range (pa_cons (pv 2) pa_nil)) (blkOk_by (N := N__law_plain) (sc := relS _ (defScope s__law_plain)) (by decide +kernel)) (fun _ _ _ _ _ => (pg_name (i := 8) sc_law_plain.nd rfl (Or.inl rfl))) (fun _ _ _ _ _ => pts_nil) (fun _ _ _ _ _ => (pe_call G__law_draw (hr.mono (by omega)) (by rfl) D__law_draw.m D__law_draw.k D__law_draw.b .nil pass0 (pa_cons (pv 0) (pa_cons (pe_op op_add pe_int (pv 5)) pa_nil))))))))) pss_nil)
      (pss_one (ps_ret (pe_lc (own := [("k", 7)]) (g := gName 7) (tt := tYes) rfl sc_law_plain.nd (pi_range1 rfl T.m_range (pa_cons (pv 1) pa_nil)) (blkOk_by (N := N__law_plain) (sc := defScope s__law_plain) (by decide +kernel)) (fun _ _ _ _ _ => (pg_name (i := 7) sc_law_plain.nd rfl (Or.inl rfl))) (fun _ _ _ _ _ => pts_nil) (fun _ _ _ _ _ => (pe_lc (own := [("j", 8)]) (g := gName 8) (tt := tYes) rfl sc_law_plain.nd (pi_range1 rfl T.m_range (pa_cons (pv 2) pa_nil)) (blkOk_by (N := N__law_plain) (sc := relS _ (defScope s__law_plain)) (by decide +kernel)) (fun _ _ _ _ _ => (pg_name (i := 8) sc_law_plain.nd rfl (Or.inl rfl))) (fun _ _ _ _ _ => pts_nil) (fun _ _ _ _ _ => (pe_call G__law_number (hr.mono (by omega)) (by rfl) D__law_number.m D__law_number.k D__law_number.b .nil pass0 (pa_cons (pv 0) (pa_cons (pv 4) pa_nil)))))))))))))))), ?_⟩
    refine ⟨_, rfl, p, c, 6, rfl, d0, by decide, by decide, fun H1 kind g1 hk => ?_⟩
    refine ⟨_, rfl, p, c, rfl, g1.b, fun H2 u g2 u1 u2 => ?_⟩
    refine ⟨_, rfl, p, c, 4, rfl, g2.b, by decide, by decide, fun H3 m g3 hm => ?_⟩
    obtain ⟨more, em, m4⟩ : ∃ more : Nat, (1 : Int) + (m : Nat) = (more : Nat) ∧ more ≤ 4 := ⟨1 + m, by omega, by omega⟩
    refine ⟨_, _, rfl, rfl, ?_⟩
    simp only [em]
    have G3 := g1.trans (g2.trans g3)
    have fin : ∀ (H' : Hp) (D : Addr) (cs : List (List Int)), Gw p c H3 H' → H3 D = none → Dv (hid p H') (.ref D) cs → cs.length = high → (∀ r ∈ cs, RowB wide r) → Q (.ref D) H' := fun H' D cs g n dv l r => q H' D cs (G3.trans g) (G3.none n) dv l r
    have d3 := G3.b
    clear q G3 g1 g2 g3
    -- products
    refine ⟨_, rfl, rfl, _, rfl, ?_⟩
    rw [dec0 kind]
    by_cases k0 : kind = 0
    · rw [decide_eq_true k0]
      refine iteT ⟨_, rfl, _, rfl, by omega, by omega, fun D nD => lcDD (RowB wide) d3 nD (by omega) (fun k Hz Q hk gz qt => ?_) fun H' cs g dv l r => fin H' D cs g nD dv l r⟩
      show gName 7 (V.int ((0 : Int) + (k : Nat))) _ _ _
      rw [Int.zero_add]
      refine ⟨rfl, _, rfl, _, rfl, by omega, by omega, fun R nR => lcD Bd gz.b nR (by omega) (fun j Hy Q' hj gy q' => ?_) fun H5 bs g5 hR lb bb => qt H5 R bs g5 nR hR ⟨lb, bb⟩⟩
      show gName 8 (V.int ((0 : Int) + (j : Nat))) _ _ _
      rw [Int.zero_add]
      have a2 : ((k : Int) + (more : Int)) * ((j : Int) + 1) ≤ 64 * 60 := Int.mul_le_mul (by omega) (by omega) (by omega) (by omega)
      have a1 : 0 ≤ ((k : Int) + (more : Int)) * ((j : Int) + 1) := Int.mul_nonneg (by omega) (by omega)
      have a3 := mul_u a1 (by omega) u1 u2
      exact ⟨rfl, _, rfl, _, rfl, _, _, rfl, rfl, _, rfl, _, _, rfl, rfl, _, _, rfl, rfl, .inl ⟨by omega, by omega⟩, _, rfl, _, _, rfl, rfl, .inl ⟨by omega, by omega⟩, q' _ _ (Gw.refl gy.b) (Bd.of (by omega) (by omega))⟩
    rw [decide_eq_false k0]
    -- ladders
    refine iteF ⟨_, rfl, rfl, _, rfl, ?_⟩
    rw [dec1 kind]
    by_cases k1 : kind = 1
    · rw [decide_eq_true k1]
      refine iteT ⟨_, rfl, _, rfl, by omega, by omega, fun D nD => lcDD (RowB wide) d3 nD (by omega) (fun k Hz Q hk gz qt => ?_) fun H' cs g dv l r => fin H' D cs g nD dv l r⟩
      show gName 7 (V.int ((0 : Int) + (k : Nat))) _ _ _
      rw [Int.zero_add]
      refine ⟨rfl, _, rfl, _, rfl, by omega, by omega, fun R nR => lcD Bd gz.b nR (by omega) (fun j Hy Q' hj gy q' => ?_) fun H5 bs g5 hR lb bb => qt H5 R bs g5 nR hR ⟨lb, bb⟩⟩
      show gName 8 (V.int ((0 : Int) + (j : Nat))) _ _ _
      rw [Int.zero_add]
      refine ⟨rfl, _, rfl, _, rfl, _, _, rfl, rfl, _, _, rfl, rfl, _, rfl, ?_⟩
      by_cases c1 : (0 : Int) ≤ (j : Int) - (k : Int)
      · rw [decide_eq_true c1]
        refine iteT ⟨_, rfl, _, _, rfl, rfl, _, rfl, ?_⟩
        by_cases c2 : (j : Int) - (k : Int) < (more : Int)
        · rw [decide_eq_true c2]
          exact iteT (q' _ 0 (Gw.refl gy.b) (Bd.of (by omega) (by omega)))
        · rw [decide_eq_false c2]
          exact iteF ⟨_, rfl, _, rfl, _, _, rfl, rfl, q' _ _ (Gw.refl gy.b) (Bd.of (by omega) (by omega))⟩
      · rw [decide_eq_false c1]
        exact iteF ⟨_, rfl, iteF ⟨_, rfl, _, rfl, _, _, rfl, rfl, q' _ _ (Gw.refl gy.b) (Bd.of (by omega) (by omega))⟩⟩
    rw [decide_eq_false k1]
    -- rows that are alike
    refine iteF ⟨_, rfl, rfl, _, rfl, ?_⟩
    rw [dec2 kind]
    by_cases k2 : kind = 2
    · rw [decide_eq_true k2]
      refine iteT ⟨_, rfl, _, rfl, by omega, by omega, fun R nR => lcD Bd d3 nR (by omega) (fun j Hy Q' hj gy q' => ?_) fun H5 bs g5 hR lb bb => ?_⟩
      · exact ⟨rfl, _, rfl, _, rfl, p, c, u, rfl, gy.b, u1, u2, fun H6 y g6 hy => q' _ _ g6 (Bd.of (by omega) (by omega))⟩
      refine ⟨_, rfl, _, rfl, by omega, by omega, fun D nD => lcDD (RowB wide) g5.b nD (by omega) (fun k Hz Q hk gz qt => ?_) fun H' cs g dv l r => fin H' D cs (g5.trans g) (g5.none nD) dv l r⟩
      exact ⟨rfl, _, rfl, R, _, rfl, .inl (SqL.of (gz.get (d3.off nR).1 hR)), fun l nl => qt _ l bs (Gw.of gz.b (same_new nl)) nl upd_same ⟨lb, bb⟩⟩
    rw [decide_eq_false k2]
    -- small numbers
    refine iteF ⟨_, rfl, rfl, _, rfl, ?_⟩
    rw [dec3 kind]
    by_cases k3 : kind = 3
    · rw [decide_eq_true k3]
      refine iteT ⟨_, rfl, _, rfl, by omega, by omega, fun D nD => lcDD (RowB wide) d3 nD (by omega) (fun k Hz Q hk gz qt => ?_) fun H' cs g dv l r => fin H' D cs g nD dv l r⟩
      refine ⟨rfl, _, rfl, _, rfl, by omega, by omega, fun R nR => lcD Bd gz.b nR (by omega) (fun j Hy Q' hj gy q' => ?_) fun H5 bs g5 hR lb bb => qt H5 R bs g5 nR hR ⟨lb, bb⟩⟩
      exact ⟨rfl, _, rfl, _, rfl, _, _, rfl, rfl, p, c, 1 + more, congrArg (fun z => [V.ref p, .int z]) (by omega), gy.b, by omega, by omega, fun H6 y g6 hy => q' _ _ g6 (Bd.of (by omega) (by omega))⟩
    rw [decide_eq_false k3]
    -- any numbers
    refine iteF ⟨_, rfl, _, rfl, by omega, by omega, fun D nD => lcDD (RowB wide) d3 nD (by omega) (fun k Hz Q hk gz qt => ?_) fun H' cs g dv l r => fin H' D cs g nD dv l r⟩
    refine ⟨rfl, _, rfl, _, rfl, by omega, by omega, fun R nR => lcD Bd gz.b nR (by omega) (fun j Hy Q' hj gy q' => ?_) fun H5 bs g5 hR lb bb => qt H5 R bs g5 nR hR ⟨lb, bb⟩⟩
    exact ⟨rfl, _, rfl, _, rfl, p, c, u, rfl, gy.b, u1, u2, fun H6 y g6 hy => q' _ _ g6 (Bd.of (by omega) (by omega))⟩

end K15
namespace K15
open PySem PySem.Spec PyProof.Rows L2 V0
/-! ### costs with a planted assignment -/
theorem RightP.make {cs : List (List Int)} {us vs : List Int} {os : List Nat} (lo : os.length = cs.length) (lu : us.length = cs.length) (lv : vs.length = wid cs) (nd : os.Nodup) (inr : ∀ j ∈ os, j < wid cs) (neg : ∀ j, gi vs j ≤ 0)
    (feas : ∀ i j, i < cs.length → j < wid cs → gi us i + gi vs j ≤ cst cs i j) (tight : ∀ i j, os[i]? = some j → gi us i + gi vs j = cst cs i j) (zero : ∀ j, j ∉ os → gi vs j = 0) : RightP cs (nis os) us vs := by
  refine ⟨by unfold nis; rw [List.length_map, lo], lu, lv, fun j hj => ?_, ?_, fun x hx => ?_, feas, ?_⟩
  · obtain ⟨k, hk, rfl⟩ := List.mem_map.mp hj
    have := inr k hk
    omega
  · exact nodup_map_of nd fun a _ b _ e => by omega
  · obtain ⟨j, hj, rfl⟩ := mem_vs hx
    exact neg j
  · have get : ∀ i, i < cs.length → os[i]? = some (os[i]?.getD 0) := fun i hi => by
      rw [List.getElem?_eq_getElem (by omega)]
      rfl
    have e1 : total cs (nis os) = ((List.range cs.length).map fun i => gi us i + gi vs (os[i]?.getD 0)).sum := by
      unfold total
      congr 1
      refine List.map_congr_left fun i hi => ?_
      have hi := List.mem_range.mp hi
      have : (nis os)[i]? = some ((os[i]?.getD 0 : Nat) : Int) := by
        unfold nis
        rw [List.getElem?_map, get i hi]
        rfl
      rw [this]
      show cst cs i (((os[i]?.getD 0 : Nat) : Int)).toNat = _
      rw [Int.toNat_natCast]
      exact (tight i _ (get i hi)).symm
    have eb : (List.range cs.length).map (fun i => os[i]?.getD 0) = os := by
      refine List.ext_getElem (by simp [lo]) fun i h1 h2 => ?_
      rw [List.getElem_map, List.getElem_range, List.getElem?_eq_getElem h2]
      rfl
    have e3 : (os.map (gi vs)).sum = ((List.range cs.length).map fun i => gi vs (os[i]?.getD 0)).sum := by
      conv => lhs; rw [← eb, List.map_map]
      rfl
    rw [e1, sum_add, sum_gi us, sum_gi vs, lu, lv]
    have := sum_supp (f := gi vs) os (List.range (wid cs)) List.nodup_range nd (fun x hx => List.mem_range.mpr (inr x hx)) fun x _ hn => zero x hn
    rw [this, e3]
theorem cst_old {cs : List (List Int)} {r : List Int} {k j : Nat} (h : k < cs.length) : cst (cs ++ [r]) k j = cst cs k j := by
  unfold cst
  rw [List.getElem?_append_left h]
theorem cst_new {cs : List (List Int)} {r : List Int} {j : Nat} : cst (cs ++ [r]) cs.length j = gi r j := by
  unfold cst
  rw [List.getElem?_append_right (Nat.le_refl _), Nat.sub_self]
  rfl
theorem gi_range {n j : Nat} {f : Nat → Int} (h : j < n) : gi ((List.range n).map f) j = f j := by
  unfold gi
  rw [List.getElem?_map, List.getElem?_range h]
  rfl
theorem gi_out {xs : List Int} {j : Nat} (h : ¬ j < xs.length) : gi xs j = 0 := by
  unfold gi
  rw [List.getElem?_eq_none (by omega)]
  rfl
def BL (B : Nat) (xs : List Int) : Prop := ∀ x ∈ xs, x.natAbs ≤ B
/-- an assignment and potentials, where they stand, none too long or too great -/
structure AQ (H : Hp) (al q ul vl : Addr) (as us vs : List Int) (L B : Nat) : Prop where
  hq : H q = some (.tup [.ref ul, .ref vl])
  ha : H al = some (.lst (vi as))
  hu : H ul = some (.lst (vi us))
  hv : H vl = some (.lst (vi vs))
  la : as.length ≤ L
  lu : us.length ≤ L
  lv : vs.length ≤ L
  ba : BL B as
  bu : BL B us
  bv : BL B vs
theorem AQ.go {p c : Addr} {H H' : Hp} {al q ul vl : Addr} {as us vs : List Int} {L B : Nat} (h : AQ H al q ul vl as us vs L B) (g : Gw p c H H') : AQ H' al q ul vl as us vs L B :=
  ⟨g.get (dw_tup_ne g.a h.hq) h.hq, g.get (dw_vi_ne g.a h.ha) h.ha, g.get (dw_vi_ne g.a h.hu) h.hu, g.get (dw_vi_ne g.a h.hv) h.hv, h.la, h.lu, h.lv, h.ba, h.bu, h.bv⟩
theorem AQ.same {H H' : Hp} {al q ul vl : Addr} {as us vs : List Int} {L B : Nat} (h : AQ H al q ul vl as us vs L B) (s : Same H H') : AQ H' al q ul vl as us vs L B :=
  ⟨s _ _ h.hq, s _ _ h.ha, s _ _ h.hu, s _ _ h.hv, h.la, h.lu, h.lv, h.ba, h.bu, h.bv⟩
theorem BL.mono {B B' : Nat} {xs : List Int} (h : BL B xs) (l : B ≤ B') : BL B' xs := fun x hx => Nat.le_trans (h x hx) l
theorem AQ.mono {H : Hp} {al q ul vl : Addr} {as us vs : List Int} {L B L' B' : Nat} (h : AQ H al q ul vl as us vs L B) (l : L ≤ L') (b : B ≤ B') : AQ H al q ul vl as us vs L' B' :=
  ⟨h.hq, h.ha, h.hu, h.hv, Nat.le_trans h.la l, Nat.le_trans h.lu l, Nat.le_trans h.lv l, h.ba.mono b, h.bu.mono b, h.bv.mono b⟩
theorem vi_rep (n : Nat) : List.replicate n (V.int 0) = vi (List.replicate n 0) := by
  unfold vi
  rw [List.map_replicate]
theorem vn_take (xs : List Nat) (n : Nat) : (vn xs).take n = vn (xs.take n) := (List.map_take ..).symm
theorem os_get {os : List Nat} {k : Nat} (h : k < os.length) : ∃ o, os[k]? = some o ∧ (vn os)[k]? = some (.int (o : Nat)) ∧ o ∈ os := by
  refine ⟨os[k], List.getElem?_eq_getElem h, ?_, List.getElem_mem h⟩
  unfold vn
  rw [List.getElem?_map, List.getElem?_eq_getElem h]
  rfl
theorem RectW.of {cs : List (List Int)} {n : Nat} (h : ∀ row ∈ cs, row.length = n) : RectW cs ∧ (0 < cs.length → wid cs = n) := by
  cases cs with
  | nil => exact ⟨fun r hr => (by cases hr), fun z => absurd z (Nat.lt_irrefl 0)⟩
  | cons r0 cr => exact ⟨fun row hrow => (h row hrow).trans (h r0 List.mem_cons_self).symm, fun _ => h r0 List.mem_cons_self⟩
def sp__law_planted (K : PySem.W.Frag) : Sp := fun ws H Q _ => ∃ (p c : Addr) (high wide : Nat), ws = [.ref p, .int (high : Nat), .int (wide : Nat)] ∧ Dw H p c ∧ 0 < high ∧ high ≤ wide ∧ wide ≤ 60 ∧
  ∀ H' t a al q1 ul vl (cs : List (List Int)) (as us vs : List Int), Gw p c H H' → H a = none → H' t = some (.tup [.ref a, .ref al, .ref q1]) → Dv (hid p H') (.ref a) cs → cs.length = high → (∀ row ∈ cs, RowB wide row) → AQ H' al q1 ul vl as us vs 60 (10 ^ 49) → RightP cs as us vs → Q (.ref t) H'
theorem ok__law_planted {P : Program} {w : World} {K : PySem.W.Frag} {mg : Str → Option Value} {base : Heap} {C_Matching : Addr} {f f_law_unit f_law_order f_law_draw f_law_number : Addr} {fd fd_law_unit fd_law_order fd_law_draw fd_law_number : FuncData} (F : Fun K "_law_planted" "_law_planted" s__law_planted f fd) (T : Txt K mg C_Matching)
    (G__law_unit : FnOk P w K mg base CX0 2 f_law_unit fd_law_unit ["draws"] (sp__law_unit K)) (D__law_unit : Def K mg "_law_unit" f_law_unit fd_law_unit ["draws"])
    (G__law_order : FnOk P w K mg base CX0 2 f_law_order fd_law_order ["draws", "many"] (sp__law_order K)) (D__law_order : Def K mg "_law_order" f_law_order fd_law_order ["draws", "many"])
    (G__law_draw : FnOk P w K mg base CX0 1 f_law_draw fd_law_draw ["draws", "limit"] (sp__law_draw K)) (D__law_draw : Def K mg "_law_draw" f_law_draw fd_law_draw ["draws", "limit"])
    (G__law_number : FnOk P w K mg base CX0 2 f_law_number fd_law_number ["draws", "unit"] (sp__law_number K)) (D__law_number : Def K mg "_law_number" f_law_number fd_law_number ["draws", "unit"]) :
    FnOk P w K mg base CX0 3 f fd ["draws", "high", "wide"] (sp__law_planted K) := by
  refine F.ok sc_law_planted (fun vs H Q E h => ?_) (fun cdv A outer s H vs Q E hr h => ?_)
  · obtain ⟨p, c, high, wide, rfl, _⟩ := h
    rfl
  · obtain ⟨p, c, high, wide, rfl, d0, h0, hw, w60, q⟩ := h
    refine ⟨_, (pss_cons (ps_set (i := 3) sc_law_planted.nd rfl (.inr rfl) (pe_call G__law_unit (hr.mono (by omega)) (by rfl) D__law_unit.m D__law_unit.k D__law_unit.b .nil pass0 (pa_cons (pv 0) pa_nil)))
      (pss_cons (ps_set (i := 4) sc_law_planted.nd rfl (.inl rfl) (pe_slice sl_list (pe_call G__law_order (hr.mono (by omega)) (by rfl) D__law_order.m D__law_order.k D__law_order.b .nil pass0 (pa_cons (pv 0) (pa_cons (pv 2) pa_nil))) po_none (po_some (pv 1))))
      (pss_cons (ps_set (i := 5) sc_law_planted.nd rfl (.inr rfl) (pe_op op_rep (pe_lst (pa_cons pe_int pa_nil)) (pv 2)))
      (pss_cons (ps_for PassesOwn.never rfl (pi_list (pv 4)) (pg_name (i := 6) sc_law_planted.nd rfl (Or.inl rfl)) (pss_one (ps_asg (pe_op op_sub (pe_op op_mul (pe_un un_neg (pe_call G__law_draw (hr.mono (by omega)) (by rfl) D__law_draw.m D__law_draw.k D__law_draw.b .nil pass0 (pa_cons (pv 0) (pa_cons pe_int pa_nil)))) (pv 3)) (pe_call G__law_draw (hr.mono (by omega)) (by rfl) D__law_draw.m D__law_draw.k D__law_draw.b .nil pass0 (pa_cons (pv 0) (pa_cons pe_int pa_nil)))) (pg_sub (pv 5) (pv 6) set_list))))
      (pss_cons (ps_set (i := 8) sc_law_planted.nd rfl (.inr rfl) (pe_lc (own := [("k", 7)]) (g := gName 7) (tt := tYes) rfl sc_law_planted.nd (pi_range1 rfl T.m_range (pa_cons (pv 1) pa_nil)) (blkOk_by (N := N__law_planted) (sc := defScope s__law_planted) (by decide +kernel)) (fun _ _ _ _ _ => (pg_name (i := 7) sc_law_planted.nd rfl (Or.inl rfl))) (fun _ _ _ _ _ => pts_nil) (fun _ _ _ _ _ => (pe_call G__law_number (hr.mono (by omega)) (by rfl) D__law_number.m D__law_number.k D__law_number.b .nil pass0 (pa_cons (pv 0) (pa_cons (pv 3) pa_nil))))))
      (pss_cons (ps_set (i := 9) sc_law_planted.nd rfl (.inr rfl) (pe_op op_add pe_int (pe_call G__law_draw (hr.mono (by omega)) (by rfl) D__law_draw.m D__law_draw.k D__law_draw.b .nil pass0 (pa_cons (pv 0) (pa_cons pe_int pa_nil)))))
      (pss_cons (ps_set (i := 10) sc_law_planted.nd rfl (.inl rfl) (pe_lst pa_nil))
      (pss_cons (ps_for PassesOwn.never rfl (pi_range1 rfl T.m_range (pa_cons (pv 1) pa_nil)) (pg_name (i := 7) sc_law_planted.nd rfl (Or.inr rfl)) (pss_cons (ps_set (i := 11) sc_law_planted.nd rfl (.inr rfl) (pe_lc (own := [("j", 6)]) (g := gName 6) (tt := tYes) rfl sc_law_planted.nd (pi_range1 rfl T.m_range (pa_cons (pv 2) pa_nil)) (blkOk_by (N := N__law_planted) (sc := defScope s__law_planted) (by decide +kernel)) (fun _ _ _ _ _ => (pg_name (i := 6) sc_law_planted.nd rfl (Or.inl rfl))) (fun _ _ _ _ _ => pts_nil) (fun _ _ _ _ _ => (pe_op op_mul (pe_call G__law_draw (hr.mono (by omega)) (by rfl) D__law_draw.m D__law_draw.k D__law_draw.b .nil pass0 (pa_cons (pv 0) (pa_cons (pv 9) pa_nil))) (pe_ix (r := rIxL K) ix_list (pe_lst (pa_cons pe_int (pa_cons (pv 3) pa_nil))) (pe_call G__law_draw (hr.mono (by omega)) (by rfl) D__law_draw.m D__law_draw.k D__law_draw.b .nil pass0 (pa_cons (pv 0) (pa_cons pe_int pa_nil))) (fun _ _ => rfl))))))
      (pss_cons (ps_asg pe_int (pg_sub (pv 11) (pe_ix (r := rIxL K) ix_list (pv 4) (pv 7) (fun _ _ => rfl)) set_list))
      (pss_one (ps_expr (pe_bm PySem.F.plainAttrs_list PySem.F.slot_list_append PySem.F.type_list_append mt_append (pv 10) (pa_cons (pe_lc (own := [("j", 6)]) (g := gName 6) (tt := tYes) rfl sc_law_planted.nd (pi_range1 rfl T.m_range (pa_cons (pv 2) pa_nil)) (blkOk_by (N := N__law_planted) (sc := defScope s__law_planted) (by decide +kernel)) (fun _ _ _ _ _ => (pg_name (i := 6) sc_law_planted.nd rfl (Or.inl rfl))) (fun _ _ _ _ _ => pts_nil) (fun _ _ _ _ _ => (pe_op op_add (pe_op op_add (pe_ix (r := rIxL K) ix_list (pv 8) (pv 7) (fun _ _ => rfl)) (pe_ix (r := rIxL K) ix_list (pv 5) (pv 6) (fun _ _ => rfl))) (pe_ix (r := rIxL K) ix_list (pv 11) (pv 6) (fun _ _ => rfl))))) pa_nil)))))))
      (pss_one (ps_ret (pe_tup (pa_cons (pv 10) (pa_cons (pv 4) (pa_cons (pe_tup (pa_cons (pv 8) (pa_cons (pv 5) pa_nil))) pa_nil)))))))))))))), ?_⟩
    refine ⟨_, rfl, p, c, rfl, d0, fun H1 u g1 u1 u2 => ?_⟩
    refine ⟨_, rfl, _, rfl, p, c, wide, rfl, g1.b, by omega, fun H2 l xs g2 nl hl pm => ⟨_, rfl, _, rfl, l, _, rfl, SqL.of hl, fun O nO => ?_⟩⟩
    rw [cut_to', vn_take]
    have nd : (xs.take high).Nodup := (pm.nodup_iff.mpr List.nodup_range).sublist (List.take_sublist ..)
    have inr : ∀ x ∈ xs.take high, x < wide := fun x hx => List.mem_range.mp (pm.mem_iff.mp (List.mem_of_mem_take hx))
    have lo : (xs.take high).length = high := by
      have := pm.length_eq
      rw [List.length_range] at this
      rw [List.length_take]
      omega
    generalize xs.take high = os at nd inr lo ⊢
    clear hl nl pm
    have s3 := same_new (o := .lst (vn os)) nO
    have hO : (upd H2 O (.lst (vn os))) O = some (.lst (vn os)) := upd_same
    have G3 := (g1.trans g2).more s3
    have Op : O ≠ p := (g2.b.off nO).1
    generalize (upd H2 O (.lst (vn os))) = H3 at s3 hO G3 ⊢
    clear g2 s3
    -- columns
    refine ⟨by show 1 ≤ sizeLine; decide, fun z nz => ?_⟩
    have hz : (upd H3 z (.lst [.int 0])) z = some (.lst [.int 0]) := upd_same
    have hO4 := same_new (o := .lst [.int 0]) nz _ _ hO
    have G4 := G3.more (same_new (o := .lst [.int 0]) nz)
    generalize (upd H3 z (.lst [.int 0])) = H4 at hz hO4 G4 ⊢
    refine ⟨_, rfl, z, _, _, rfl, rfl, hz, by omega, by omega, by rw [Int.toNat_natCast]; show 1 * wide ≤ _; rw [Nat.one_mul]; exact Nat.le_of_lt (small1000 (by omega)), fun C nC => ?_⟩
    rw [rep_int, vi_rep]
    have hC : (upd H4 C (.lst (vi (List.replicate wide 0)))) C = some (.lst (vi (List.replicate wide 0))) := upd_same
    have hO5 := same_new (o := .lst (vi (List.replicate wide 0))) nC _ _ hO4
    have G5 := G4.more (same_new (o := .lst (vi (List.replicate wide 0))) nC)
    have CO : C ≠ O := (ne_of_none hO4 nC).symm
    have Cp : C ≠ p := (G4.b.off nC).1
    have nCH := G4.none nC
    generalize (upd H4 C (.lst (vi (List.replicate wide 0)))) = H5 at hC hO5 G5 ⊢
    clear hz hO4 hO G3 G4 nC nz nO
    refine ⟨_, rfl, O, rfl, ⟨_, SqL.of hO5⟩, for_list (xs := vn os) (fun i σ Hx => ∃ (y6 : Option V) (vs : List Int), σ = [some (.ref p), some (.int (high : Nat)), some (.int (wide : Nat)), some (.int u), some (.ref O), some (.ref C), y6, none, none, none, none, none] ∧ Gw p c H Hx ∧ Hx O = some (.lst (vn os)) ∧ Hx C = some (.lst (vi vs)) ∧ vs.length = wide ∧ (∀ j, j ∉ os → gi vs j = 0) ∧ ∀ j, -(3 * 10 ^ 45) ≤ gi vs j ∧ gi vs j ≤ 0) ⟨none, _, rfl, G5, hO5, hC, List.length_replicate, fun j _ => by rw [gi_rep], fun j => by rw [gi_rep]; show -(3 * 10 ^ 45) ≤ (0 : Int) ∧ (0 : Int) ≤ 0; omega⟩ (fun i σ Hx _ h => ?_) ?_ ?_⟩
    · obtain ⟨y, vs, _, _, h1, _⟩ := h
      exact SqL.of h1
    · rintro i w σ Hx hi ⟨y6, vs, rfl, gx, hOx, hCx, lv, zv, bv⟩
      obtain ⟨k, hk, rfl, km⟩ := nat_at hi
      have kw := inr k km
      refine ⟨_, rfl, p, c, 3, rfl, gx.b, by decide, by decide, fun H6 x1 g6 h1 => ⟨_, rfl, _, rfl, _, _, rfl, rfl, .inl ⟨by omega, by omega⟩, _, rfl, p, c, 3, rfl, g6.b, by decide, by decide, fun H7 x2 g7 h2 => ?_⟩⟩
      have g67 := g6.trans g7
      have hC7 := g67.get Cp hCx
      have hO7 := g67.get Op hOx
      refine ⟨_, _, rfl, rfl, _, rfl, _, rfl, C, _, _, k, rfl, rfl, hC7, ix_nat (by rw [vi_len, lv]; exact kw), ?_⟩
      have mb : ∀ x : Nat, x < 3 → -(2 * 10 ^ 45) ≤ -(x : Int) * u ∧ -(x : Int) * u ≤ 0 := fun x hx => by
        have : x = 0 ∨ x = 1 ∨ x = 2 := by omega
        rcases this with rfl | rfl | rfl <;> constructor <;> omega
      have m1 := mb x1 h1
      generalize -(x1 : Int) * u = m at m1 ⊢
      rw [vi_set]
      refine ⟨_, _, rfl, (gx.trans g67).mut nCH, by rw [upd_ne CO.symm]; exact hO7, upd_same, by rw [List.length_set, lv], fun j hj => ?_, fun j => ?_⟩
      · rw [gi_set (by omega), if_neg (fun e => hj (by rw [e]; exact km))]
        exact zv j hj
      · rw [gi_set (by omega)]
        split
        · omega
        · exact bv j
    rintro σ H6 ⟨y6, vs, rfl, G6, hO6, hC6, lv, zv, bv⟩
    clear hC hO5 G5
    -- rows
    refine ⟨_, rfl, _, rfl, by omega, by omega, fun R nR => lcD (fun x => -(5 * 10 ^ 45) ≤ x ∧ x ≤ 5 * 10 ^ 45) G6.b nR (by omega) (fun j Hy Q' hj gy q' => ?_) fun H7 rs g7 hR lr br => ?_⟩
    · exact ⟨rfl, _, rfl, _, rfl, p, c, u, rfl, gy.b, u1, u2, fun H8 y g8 hy => q' _ _ g8 hy⟩
    have Rp : R ≠ p := (G6.b.off nR).1
    have hO7 := g7.get Op hO6
    have hC7 := g7.get Cp hC6
    have G7 := G6.trans g7
    clear hO6 hC6
    refine ⟨_, rfl, p, c, 4, rfl, G7.b, by decide, by decide, fun H8 f4 g8 hf4 => ?_⟩
    obtain ⟨few, ef, few4⟩ : ∃ few : Nat, (1 : Int) + (f4 : Nat) = (few : Nat) ∧ 1 ≤ few ∧ few ≤ 4 := ⟨1 + f4, by omega, by omega⟩
    refine ⟨_, _, rfl, rfl, ?_⟩
    simp only [ef]
    have hO8 := g8.get Op hO7
    have hC8 := g8.get Cp hC7
    have hR8 := g8.get Rp hR
    have G8 := G7.trans g8
    clear hO7 hC7 hR g7 g8
    refine ⟨by show 0 ≤ sizeLine; decide, fun cl ncl => ?_⟩
    have clp := (G8.b.off ncl).1
    have s9 := same_new (o := .lst ([] : List V)) ncl
    have hO9 := s9 _ _ hO8
    have hC9 := s9 _ _ hC8
    have hR9 := s9 _ _ hR8
    have Ocl : O ≠ cl := ne_of_none hO8 ncl
    have Ccl : C ≠ cl := ne_of_none hC8 ncl
    have Rcl : R ≠ cl := ne_of_none hR8 ncl
    have G9 := G8.more s9
    have nclH := G8.none ncl
    have hcl9 : (upd H8 cl (.lst ([] : List V))) cl = some (.lst []) := upd_same
    generalize (upd H8 cl (.lst ([] : List V))) = H9 at hO9 hC9 hR9 G9 hcl9 ⊢
    clear hO8 hC8 hR8 s9 ncl G8 G7 G6
    refine ⟨_, rfl, _, rfl, by omega, by omega, for_range (n := high) (fun i σ Hx => ∃ y6 y7 y11 : Option V, σ = [some (.ref p), some (.int (high : Nat)), some (.int (wide : Nat)), some (.int u), some (.ref O), some (.ref C), y6, y7, some (.ref R), some (.int (few : Nat)), some (.ref cl), y11] ∧ Gw p c H Hx ∧ Hx O = some (.lst (vn os)) ∧ Hx C = some (.lst (vi vs)) ∧ Hx R = some (.lst (vi rs)) ∧ ∃ (us : List V) (cs : List (List Int)), Hx cl = some (.lst us) ∧ Dvs (hid cl (hid p Hx)) us cs ∧ cs.length = i ∧ (∀ row ∈ cs, RowB wide row) ∧
        (∀ k j, k < i → j < wide → gi rs k + gi vs j ≤ cst cs k j) ∧ ∀ k j, k < i → os[k]? = some j → gi rs k + gi vs j = cst cs k j) ⟨_, _, none, rfl, G9, hO9, hC9, hR9, [], [], hcl9, .nil, rfl, fun r h => (by cases h), fun k j h => absurd h (Nat.not_lt_zero _), fun k j h => absurd h (Nat.not_lt_zero _)⟩ ?_ ?_⟩
    · rintro i σ Hx hi ⟨y6, y7, y11, rfl, gx, hOx, hCx, hRx, ur, cs, hcl, dv, lc, rows, feas, tight⟩
      rw [Int.zero_add]
      refine ⟨_, rfl, _, rfl, by omega, by omega, fun M nM => lcD (fun x => 0 ≤ x ∧ x ≤ 3 * 10 ^ 45) gx.b nM (by omega) (fun j Hy Q' hj gy q' => ?_) fun Ha ms ga hM lm bm => ?_⟩
      · refine ⟨rfl, _, rfl, _, rfl, p, c, few, rfl, gy.b, by omega, by omega, fun Hb x gb hx => ⟨_, rfl, by show 2 ≤ sizeLine; decide, fun L nL => ⟨_, rfl, p, c, 2, rfl, gb.b.same (same_new nL), by decide, by decide, fun Hc k2 gc hk2 => ?_⟩⟩⟩
        have hL := gc.get (gb.b.off nL).1 upd_same
        have gd := (gb.more (same_new nL)).trans gc
        have : k2 = 0 ∨ k2 = 1 := by omega
        rcases this with rfl | rfl
        · exact ⟨L, _, _, _, rfl, rfl, SqL.of hL, rfl, _, _, rfl, rfl, .inl ⟨by omega, by omega⟩, q' _ _ gd (by omega)⟩
        · refine ⟨L, _, _, _, rfl, rfl, SqL.of hL, rfl, _, _, rfl, rfl, .inl ⟨by omega, by omega⟩, q' _ _ gd ?_⟩
          have : x = 0 ∨ x = 1 ∨ x = 2 ∨ x = 3 := by omega
          rcases this with rfl | rfl | rfl | rfl <;> constructor <;> omega
      have lm : ms.length = wide := by omega
      have Mp := (gx.b.off nM).1
      have hOa := ga.get Op hOx
      have hCa := ga.get Cp hCx
      have hRa := ga.get Rp hRx
      have hcla := ga.get clp hcl
      have MO : M ≠ O := (ne_of_none hOx nM).symm
      have MC : M ≠ C := (ne_of_none hCx nM).symm
      have MR : M ≠ R := (ne_of_none hRx nM).symm
      have Mcl : M ≠ cl := (ne_of_none hcl nM).symm
      obtain ⟨o, eo, eV, om⟩ := os_get (os := os) (k := i) (by omega)
      have ow := inr o om
      refine ⟨_, rfl, _, rfl, _, rfl, O, _, _, _, rfl, rfl, SqL.of hOa, atI_nat eV, M, _, _, o, rfl, rfl, hM, ix_nat (by rw [vi_len, lm]; exact ow), ?_⟩
      rw [vi_set]
      have lm2 : (ms.set o 0).length = wide := by rw [List.length_set, lm]
      have bm2 : ∀ j, j < wide → 0 ≤ gi (ms.set o 0) j ∧ gi (ms.set o 0) j ≤ 3 * 10 ^ 45 := fun j hj => by
        rw [gi_set (by omega)]
        split
        · omega
        · exact bm _ (mem_gi (by omega))
      have zm : gi (ms.set o 0) o = 0 := by rw [gi_set (by omega), if_pos rfl]
      have hM2 : (upd Ha M (.lst (vi (ms.set o 0)))) M = some (.lst (vi (ms.set o 0))) := upd_same
      have gm : Gw p c Hx (upd Ha M (.lst (vi (ms.set o 0)))) := ga.mut nM
      have hOb : (upd Ha M (.lst (vi (ms.set o 0)))) O = _ := (upd_ne MO.symm).trans hOa
      have hCb : (upd Ha M (.lst (vi (ms.set o 0)))) C = _ := (upd_ne MC.symm).trans hCa
      have hRb : (upd Ha M (.lst (vi (ms.set o 0)))) R = _ := (upd_ne MR.symm).trans hRa
      have hclb : (upd Ha M (.lst (vi (ms.set o 0)))) cl = _ := (upd_ne Mcl.symm).trans hcla
      generalize (upd Ha M (.lst (vi (ms.set o 0)))) = Hb at hM2 gm hOb hCb hRb hclb ⊢
      generalize ms.set o 0 = m2 at lm2 bm2 zm hM2 ⊢
      clear hM hOa hCa hRa hcla ga bm lm
      refine ⟨_, rfl, .inl ⟨rfl, _, SqL.of hclb⟩, _, rfl, _, rfl, by omega, by omega, fun D nD => lcA (walk_range (lo := 0) (n := wide)) (fun j => .int (gi rs i + gi vs j + gi m2 j)) nD (by omega) (fun _ _ => True.intro) (fun j x Hz Hz' Q hj sz y qt => ?_) fun Hc sc hD => ?_⟩
      · obtain ⟨rfl, rfl⟩ := y
        show gName 6 (V.int ((0 : Int) + (j : Nat))) _ _ _
        rw [Int.zero_add]
        exact ⟨rfl, _, rfl, _, rfl, R, _, _, _, rfl, rfl, SqL.of (sz _ _ hRb), atI_nat (vi_get (gi_some (by omega))), _, rfl, _, rfl, C, _, _, _, rfl, rfl, SqL.of (sz _ _ hCb), atI_nat (vi_get (gi_some (by omega))), _, _, rfl, rfl, _, rfl, _, rfl, M, _, _, _, rfl, rfl, SqL.of (sz _ _ hM2), atI_nat (vi_get (gi_some (by omega))), _, _, rfl, rfl, qt _ (Same.refl _)⟩
      have Dcl : D ≠ cl := (ne_of_none hclb nD).symm
      have Dp : D ≠ p := (gm.b.off nD).1
      have Gc := (gx.trans gm).more sc
      refine ⟨cl, _, _, rfl, rfl, sc _ _ hclb, by rw [dv.len, lc]; exact small1000 (by omega), ?_⟩
      have eR : vi ((List.range wide).map fun j => gi rs i + gi vs j + gi m2 j) = (List.range wide).map fun j => V.int (gi rs i + gi vs j + gi m2 j) := by
        unfold vi
        rw [List.map_map]
        rfl
      have lrow : ((List.range wide).map fun j => gi rs i + gi vs j + gi m2 j).length = wide := by rw [List.length_map, List.length_range]
      have erow : ∀ j, j < wide → gi ((List.range wide).map fun j => gi rs i + gi vs j + gi m2 j) j = gi rs i + gi vs j + gi m2 j := fun j hj => gi_range hj
      rw [← eR] at hD
      generalize ((List.range wide).map fun j => gi rs i + gi vs j + gi m2 j) = row at hD lrow erow
      have bri := br _ (mem_gi (xs := rs) (i := i) (by omega))
      refine ⟨_, _, _, rfl, Gc.mut nclH, (upd_ne Ocl).trans (sc _ _ hOb), (upd_ne Ccl).trans (sc _ _ hCb), (upd_ne Rcl).trans (sc _ _ hRb), ur ++ [.ref D], cs ++ [row], upd_same, ?_, by rw [List.length_append, lc]; rfl, fun r hr => ?_, fun k j hk hj => ?_, fun k j hk ej => ?_⟩
      · have st : Same (hid cl (hid p Hx)) (hid cl (hid p (upd Hc cl (.lst (ur ++ [.ref D]))))) := (hid_mono (gm.more sc).s).trans hid2_mut
        refine Dvs.app (dv.same st) (.cons (Dv.intl (hid_of Dcl (hid_of Dp ?_))) .nil)
        rw [upd_ne Dcl, hD]
      · rcases List.mem_append.mp hr with h | h
        · exact rows r h
        · rw [List.mem_singleton.mp h]
          refine ⟨lrow, fun x hx => ?_⟩
          obtain ⟨j, hj, rfl⟩ := gi_mem hx
          rw [lrow] at hj
          rw [erow j hj]
          have := bv j
          have := bm2 j hj
          exact Bd.of (by omega) (by omega)
      · by_cases e : k < i
        · rw [cst_old (by omega)]
          exact feas k j e hj
        · have e : k = cs.length := by omega
          subst e
          rw [cst_new, erow j hj, lc]
          have := bm2 j hj
          omega
      · by_cases e : k < i
        · rw [cst_old (by omega)]
          exact tight k j e ej
        · have e : k = cs.length := by omega
          subst e
          rw [lc, eo] at ej
          cases ej
          rw [cst_new, erow o ow, lc, zm]
          omega
    rintro σ Hx ⟨y6, y7, y11, rfl, gx, hOx, hCx, hRx, ur, cs, hcl, dv, lc, rows, feas, tight⟩
    have wd := (RectW.of fun row hr => (rows row hr).1).2 (by omega)
    refine ⟨_, rfl, _, rfl, _, rfl, _, rfl, by show 2 ≤ sizeLine; decide, fun q1 nq => ⟨by show 3 ≤ sizeLine; decide, fun t nt => ?_⟩⟩
    have s1 := same_new (o := .tup [.ref R, .ref C]) nq
    have s2 := same_new (o := .tup [.ref cl, .ref O, .ref q1]) nt
    have s12 := s1.trans s2
    refine q _ t cl O q1 R C cs (nis os) rs vs (gx.more s12) nclH upd_same ((Dv.list (hid_of clp hcl) (dv.same (hid_same _ _))).same (hid_mono s12)) lc rows ⟨s2 _ _ upd_same, by rw [vi_ints]; exact s12 _ _ hOx, s12 _ _ hRx, s12 _ _ hCx, ?_, by omega, by omega, fun x hx => ?_, fun x hx => ?_, fun x hx => ?_⟩ ?_
    · unfold nis
      rw [List.length_map]
      omega
    · obtain ⟨k, hk, rfl⟩ := List.mem_map.mp hx
      have := inr k hk
      show ((k : Nat) : Int).natAbs ≤ _
      omega
    · have := br x hx
      omega
    · obtain ⟨j, _, rfl⟩ := gi_mem hx
      have := bv j
      omega
    · exact RightP.make (by omega) (by omega) (by omega) nd (fun j hj => by rw [wd]; exact inr j hj) (fun j => (bv j).2) (fun i j hi hj => feas i j (by omega) (by omega)) (fun i j e => tight i j (by
        have := (List.getElem?_eq_some_iff.mp e).1
        omega) e) zv

end K15
namespace K15
open PySem PySem.Spec PyProof.Rows L2 V0
/-! ### other assignments and potentials -/
/-- a comprehension whose turns only read: numbers of which P is told -/
theorem lcN {J : It} {n : Nat} {G : Hp → Prop} {Y : Nat → Hp → V → Hp → Prop} (w : Walk J n G Y) {g : TG} {te : TE} {vs : List Nat} {σ : L2.St} {H1 : Hp} {D : Addr} {Qd : Hp → Prop} (P : Int → Prop)
    (nD : H1 D = none) (few : n ≤ 1000000) (hG : ∀ Hz, Same H1 Hz → G Hz)
    (step : ∀ i x Hz Hz' (Q : VK), i < n → Same H1 Hz → Y i Hz x Hz' → (∀ H4 y, Same Hz H4 → P y → Q (.int y) H4) → g x (wipe σ vs) Hz' fun σ2 H2 => wipe σ2 vs = wipe σ vs ∧ te σ2 H2 Q)
    (hd : ∀ (H' : Hp) (bs : List Int), Same H1 H' → H' D = some (.lst (vi bs)) → bs.length = n → (∀ b ∈ bs, P b) → Qd H') :
    ∃ W : Nat → Nat → Hp → Prop, (∃ m, W 0 m (upd H1 D (.lst []))) ∧ ∀ i m H, W i m H →
      (J.stop i H ∧ Qd H) ∨ (J.go i H ∧ ∃ Nx : Hp → Prop, (∀ H', Nx H' → ∃ m', m' < m ∧ W (i + 1) m' H') ∧ ∀ x H', J.yld i H x H' → g x (wipe σ vs) H' fun σ2 H2 => wipe σ2 vs = wipe σ vs ∧ tYes σ2 H2 fun b H3 =>
        if b = true then te σ2 H3 fun y H4 => ∃ acc, H4 D = some (.lst acc) ∧ acc.length < sizeLine ∧ Nx (upd H4 D (.lst (acc ++ [y]))) else Nx H3) := by
  refine lc_it (tt := tYes) w (fun i Hz => Same H1 Hz ∧ ∃ bs : List Int, Hz D = some (.lst (vi bs)) ∧ bs.length = i ∧ ∀ b ∈ bs, P b) ⟨same_new nD, [], upd_same, rfl, fun b h => (by cases h)⟩ (fun i Hz _ h => hG _ h.1) ?_ ?_
  · rintro i x Hz H' hi ⟨sz, bs, hZ, lb, bb⟩ y
    refine step i x Hz H' _ hi sz y fun H4 v s4 pv => ⟨_, s4 _ _ hZ, ?_, same_mut (sz.trans s4) nD, bs ++ [v], ?_, by rw [List.length_append, lb]; rfl, fun z hz => ?_⟩
    · rw [vi_len, lb]
      exact Nat.lt_of_le_of_lt (show _ ≤ 1000000 by omega) (by decide)
    · rw [upd_same]
      unfold vi
      rw [List.map_append]
      rfl
    · rcases List.mem_append.mp hz with hz | hz
      · exact bb z hz
      · rw [List.mem_singleton.mp hz]
        exact pv
  · rintro H' ⟨s', bs, hD, lb, bb⟩
    exact hd H' bs s' hD lb bb
def sp__law_others (K : PySem.W.Frag) : Sp := fun ws H Q _ => ∃ (p c : Addr) (v : V) (wide : Nat) (cs : List (List Int)), ws = [.ref p, v, .int (wide : Nat)] ∧ Dw H p c ∧ Dv (hid p H) v cs ∧ (∀ row ∈ cs, RowB wide row) ∧ cs.length ≤ 60 ∧ wide ≤ 60 ∧ (0 < cs.length → 0 < wide) ∧
  ∀ H' t al q1 ul vl (as us vs : List Int), Gw p c H H' → H' t = some (.tup [.ref al, .ref q1]) → AQ H' al q1 ul vl as us vs 60 (2 * 10 ^ 49) → Q (.ref t) H'
theorem ok__law_others {P : Program} {w : World} {K : PySem.W.Frag} {mg : Str → Option Value} {base : Heap} {C_Matching : Addr} {f f_law_order f_law_draw : Addr} {fd fd_law_order fd_law_draw : FuncData} (F : Fun K "_law_others" "_law_others" s__law_others f fd) (T : Txt K mg C_Matching)
    (G__law_order : FnOk P w K mg base CX0 2 f_law_order fd_law_order ["draws", "many"] (sp__law_order K)) (D__law_order : Def K mg "_law_order" f_law_order fd_law_order ["draws", "many"])
    (G__law_draw : FnOk P w K mg base CX0 1 f_law_draw fd_law_draw ["draws", "limit"] (sp__law_draw K)) (D__law_draw : Def K mg "_law_draw" f_law_draw fd_law_draw ["draws", "limit"]) :
    FnOk P w K mg base CX0 3 f fd ["draws", "costs", "wide"] (sp__law_others K) := by
  refine F.ok sc_law_others (fun vs H Q E h => ?_) (fun cdv A outer s H vs Q E hr h => ?_)
  · obtain ⟨p, c, v, wide, cs, rfl, _⟩ := h
    rfl
  · obtain ⟨p, c, v, wide, cs, rfl, d0, dv, rows, l60, w60, lw, q⟩ := h
    refine ⟨_, (pss_cons (ps_set (i := 3) sc_law_others.nd rfl (.inl rfl) (pe_slice sl_list (pe_call G__law_order (hr.mono (by omega)) (by rfl) D__law_order.m D__law_order.k D__law_order.b .nil pass0 (pa_cons (pv 0) (pa_cons (pv 2) pa_nil))) po_none (po_some (pe_callB call_len_seq (by rfl) T.m_len (by decide +kernel) (pa_cons (pv 1) pa_nil)))))
      (pss_cons (ps_set (i := 4) sc_law_others.nd rfl (.inr rfl) (pe_ifExp (pt_cmpR op_eq (pe_call G__law_draw (hr.mono (by omega)) (by rfl) D__law_draw.m D__law_draw.k D__law_draw.b .nil pass0 (pa_cons (pv 0) (pa_cons pe_int pa_nil))) pe_int (nomark _)) (pe_lc (own := [("j", 5)]) (g := gName 5) (tt := tYes) rfl sc_law_others.nd (pi_range1 rfl T.m_range (pa_cons (pv 2) pa_nil)) (blkOk_by (N := N__law_others) (sc := defScope s__law_others) (by decide +kernel)) (fun _ _ _ _ _ => (pg_name (i := 5) sc_law_others.nd rfl (Or.inl rfl))) (fun _ _ _ _ _ => pts_nil) (fun _ _ _ _ _ => (pe_un un_neg (pe_call G__law_draw (hr.mono (by omega)) (by rfl) D__law_draw.m D__law_draw.k D__law_draw.b .nil pass0 (pa_cons (pv 0) (pa_cons pe_int pa_nil)))))) (pe_op op_rep (pe_lst (pa_cons pe_int pa_nil)) (pv 2))))
      (pss_one (ps_ret (pe_tup (pa_cons (pv 3) (pa_cons (pe_tup (pa_cons (pe_lc (own := [("row", 6)]) (g := gName 6) (tt := tYes) rfl sc_law_others.nd (pi_list (pv 1)) (blkOk_by (N := N__law_others) (sc := defScope s__law_others) (by decide +kernel)) (fun _ _ _ _ _ => (pg_name (i := 6) sc_law_others.nd rfl (Or.inr rfl))) (fun _ _ _ _ _ => pts_nil) (fun _ _ _ _ _ => (pe_callB (r := rMin K) (cr_min (by rfl)) (by rfl) T.m_min (by decide +kernel) (pa_cons (pe_lc (own := [("j", 5)]) (g := gName 5) (tt := tYes) rfl sc_law_others.nd (pi_range1 rfl T.m_range (pa_cons (pv 2) pa_nil)) (blkOk_by (N := N__law_others) (sc := relS _ (defScope s__law_others)) (by decide +kernel)) (fun _ _ _ _ _ => (pg_name (i := 5) sc_law_others.nd rfl (Or.inl rfl))) (fun _ _ _ _ _ => pts_nil) (fun _ _ _ _ _ => (pe_op op_sub (pe_ix (r := rIxL K) ix_list (pv 6) (pv 5) (fun _ _ => rfl)) (pe_ix (r := rIxL K) ix_list (pv 4) (pv 5) (fun _ _ => rfl))))) pa_nil)))) (pa_cons (pv 4) pa_nil))) pa_nil))))))), ?_⟩
    have rc := (RectW.of fun row hr => (rows row hr).1).1
    obtain ⟨ca, uc, rfl, hcl, luc, hrow⟩ := costs_at dv rc
    have wd := (RectW.of fun row hr => (rows row hr).1).2
    refine ⟨_, rfl, _, rfl, p, c, wide, rfl, d0, by omega, fun H2 l xs g2 nl hl pm => ⟨_, rfl, ca, _, rfl, .inl (SqL.of (g2.up hcl)), ?_⟩⟩
    refine ⟨_, rfl, l, _, rfl, SqL.of hl, fun O nO => ?_⟩
    rw [luc, cut_to', vn_take]
    have inr : ∀ x ∈ xs.take cs.length, x < wide := fun x hx => List.mem_range.mp (pm.mem_iff.mp (List.mem_of_mem_take hx))
    have lo : (xs.take cs.length).length ≤ 60 := by
      rw [List.length_take]
      omega
    generalize xs.take cs.length = os at inr lo ⊢
    clear hl nl pm
    have hO : (upd H2 O (.lst (vn os))) O = some (.lst (vn os)) := upd_same
    have G3 := g2.more (same_new (o := .lst (vn os)) nO)
    have Op : O ≠ p := (g2.b.off nO).1
    generalize (upd H2 O (.lst (vn os))) = H3 at hO G3 ⊢
    clear g2 nO
    -- columns
    refine ⟨_, rfl, p, c, 2, rfl, G3.b, by decide, by decide, fun H4 k4 g4 hk4 => ⟨rfl, _, rfl, ?_⟩⟩
    have hO4 := g4.get Op hO
    have G4 := G3.trans g4
    refine ifx (fun y H' => ∃ (C : Addr) (vs : List Int), y = .ref C ∧ Gw p c H4 H' ∧ H' C = some (.lst (vi vs)) ∧ C ≠ p ∧ vs.length = wide ∧ ∀ x ∈ vs, -1 ≤ x ∧ x ≤ 0) (fun _ Q q => ?_) (fun _ Q q => ?_) ?_
    · refine ⟨_, rfl, _, rfl, by omega, by omega, fun C nC => lcD (n := wide) (fun x => -1 ≤ x ∧ x ≤ 0) G4.b nC (by omega) (fun j Hy Q' hj gy q' => ?_) fun H5 vs g5 hC lv bv => q _ _ ⟨C, vs, rfl, g5, hC, (G4.b.off nC).1, by omega, bv⟩⟩
      exact ⟨rfl, _, rfl, p, c, 2, rfl, gy.b, by decide, by decide, fun H6 x g6 hx => ⟨_, rfl, q' _ _ g6 (by omega)⟩⟩
    · refine ⟨by show 1 ≤ sizeLine; decide, fun z nz => ?_⟩
      have hz : (upd H4 z (.lst [.int 0])) z = some (.lst [.int 0]) := upd_same
      refine ⟨_, rfl, z, _, _, rfl, rfl, hz, by omega, by omega, by rw [Int.toNat_natCast]; show 1 * wide ≤ _; rw [Nat.one_mul]; exact Nat.le_of_lt (small1000 (by omega)), fun C nC => ?_⟩
      rw [rep_int, vi_rep]
      have g5 := (Gw.of G4.b (same_new (o := .lst [.int 0]) nz))
      refine q _ _ ⟨C, List.replicate wide 0, rfl, g5.more (same_new nC), upd_same, (g5.b.off nC).1, List.length_replicate, fun x hx => ?_⟩
      rw [List.eq_of_mem_replicate hx]
      omega
    rintro _ H5 ⟨C, vs, rfl, g5, hC, Cp, lv, bv⟩
    have G5 := G4.trans g5
    have hO5 := g5.get Op hO4
    have hcl5 := G5.up hcl
    have dv5 := dv.same G5.s
    obtain ⟨ca', uc', eca, hcl', luc', hrow'⟩ := costs_at (dv5.same (hid_same _ _)) rc
    cases eca
    refine ⟨_, rfl, _, rfl, ca, rfl, ⟨_, SqL.of hcl'⟩, fun R nR => lcN (n := cs.length) (by have w := walk_list (K := K) (a := ca) (xs := uc'); rw [luc'] at w; exact w) (fun x => -(2 * 10 ^ 49) ≤ x ∧ x ≤ 2 * 10 ^ 49) nR (by omega) (fun Hz sz => SqL.of (sz _ _ hcl')) (fun i x Hz Hz' Q hi sz y qt => ?_) fun H6 us s6 hR lu bu => ?_⟩
    · obtain ⟨rfl, y⟩ := y
      obtain ⟨ra, row, h1, h2, h3, _, h4⟩ := hrow' i hi
      rw [h1] at y
      cases y
      have w0 := lw (by omega)
      have ww := wd (by omega)
      have rb : RowB wide row := rows row (List.mem_of_getElem? h4)
      refine ⟨rfl, _, rfl, _, rfl, by omega, by omega, fun D nD => lcA (walk_range (lo := 0) (n := wide)) (fun j => .int (gi row j - gi vs j)) nD (by omega) (fun _ _ => True.intro) (fun j x Hy Hy' Q' hj sy y q' => ?_) fun H7 s7 hD => ?_⟩
      · obtain ⟨rfl, rfl⟩ := y
        show gName 5 (V.int ((0 : Int) + (j : Nat))) _ _ _
        rw [Int.zero_add]
        exact ⟨rfl, _, rfl, _, rfl, ra, _, _, _, rfl, rfl, SqL.of (sy _ _ (sz _ _ h2)), atI_nat (vi_get (gi_some (by have := rb.1; omega))), _, rfl, _, rfl, C, _, _, _, rfl, rfl, SqL.of (sy _ _ (sz _ _ hC)), atI_nat (vi_get (gi_some (by omega))), _, _, rfl, rfl, q' _ (Same.refl _)⟩
      · refine ⟨D, (List.range wide).map fun j => gi row j - gi vs j, rfl, SqL.of (by rw [hD, List.map_map]; rfl), by rw [List.length_map, List.length_range]; exact w0, fun m hm _ => qt _ _ s7 ?_⟩
        obtain ⟨j, hj, rfl⟩ := List.mem_map.mp hm
        have hj := List.mem_range.mp hj
        have b1 := rb.2 _ (mem_gi (xs := row) (i := j) (by have := rb.1; omega))
        have b2 := bv _ (mem_gi (xs := vs) (i := j) (by omega))
        unfold Bd at b1
        omega
    have s1 := fun {q1 : Addr} (nq : H6 q1 = none) => same_new (o := .tup [.ref R, .ref C]) nq
    refine ⟨_, rfl, by show 2 ≤ sizeLine; decide, fun q1 nq => ⟨by show 2 ≤ sizeLine; decide, fun t nt => ?_⟩⟩
    have s2 := same_new (o := .tup [.ref O, .ref q1]) nt
    have s12 := (s1 nq).trans s2
    refine q _ t O q1 R C (nis os) us vs ((G5.more s6).more s12) upd_same ⟨s2 _ _ upd_same, by rw [vi_ints]; exact s12 _ _ (s6 _ _ hO5), s12 _ _ hR, s12 _ _ (s6 _ _ hC), by unfold nis; rw [List.length_map]; exact lo, by omega, by omega, fun x hx => ?_, fun x hx => ?_, fun x hx => ?_⟩
    · obtain ⟨k, hk, rfl⟩ := List.mem_map.mp hx
      have := inr k hk
      show ((k : Nat) : Int).natAbs ≤ _
      omega
    · have := bu x hx
      omega
    · have := bv x hx
      omega

end K15
namespace K15
open PySem PySem.Spec PyProof.Rows L2 V0
/-! ### a changed list -/
theorem BL.app {B : Nat} {xs ys : List Int} (h : BL B xs) (g : BL B ys) : BL B (xs ++ ys) := fun x hx => (List.mem_append.mp hx).elim (h x) (g x)
theorem BL.take {B n : Nat} {xs : List Int} (h : BL B xs) : BL B (xs.take n) := fun x hx => h x (List.mem_of_mem_take hx)
theorem BL.drop {B n : Nat} {xs : List Int} (h : BL B xs) : BL B (xs.drop n) := fun x hx => h x (List.mem_of_mem_drop hx)
theorem BL.set {B n : Nat} {xs : List Int} {y : Int} (h : BL B xs) (hy : y.natAbs ≤ B) : BL B (xs.set n y) := fun x hx => by
  rcases List.mem_or_eq_of_mem_set hx with e | e
  · exact h x e
  · rw [e]
    exact hy
theorem BL.one {B : Nat} {y : Int} (hy : y.natAbs ≤ B) : BL B [y] := fun x hx => by
  rw [List.mem_singleton.mp hx]
  exact hy
theorem BL.at_ {B k : Nat} {xs : List Int} (h : BL B xs) (hk : k < xs.length) : (gi xs k).natAbs ≤ B := h _ (mem_gi hk)
def sp__law_changed (K : PySem.W.Frag) : Sp := fun ws H Q _ => ∃ (p c rl : Addr) (u : Int) (B : Nat) (row : List Int), ws = [.ref p, .ref rl, .int u] ∧ Dw H p c ∧ H rl = some (.lst (vi row)) ∧ row.length ≤ 2000 ∧ BL B row ∧ 1 ≤ u ∧ u ≤ 10 ^ 45 ∧
  ∀ H' l (out : List Int), Gw p c H H' → H' l = some (.lst (vi out)) → out.length ≤ row.length + 2 → BL (B + 10 ^ 45) out → Q (.ref l) H'
theorem ok__law_changed {P : Program} {w : World} {K : PySem.W.Frag} {mg : Str → Option Value} {base : Heap} {C_Matching : Addr} {f f_law_draw : Addr} {fd fd_law_draw : FuncData} (F : Fun K "_law_changed" "_law_changed" s__law_changed f fd) (T : Txt K mg C_Matching)
    (G__law_draw : FnOk P w K mg base CX0 1 f_law_draw fd_law_draw ["draws", "limit"] (sp__law_draw K)) (D__law_draw : Def K mg "_law_draw" f_law_draw fd_law_draw ["draws", "limit"]) :
    FnOk P w K mg base CX0 2 f fd ["draws", "row", "unit"] (sp__law_changed K) := by
  refine F.ok sc_law_changed (fun vs H Q E h => ?_) (fun cdv A outer s H vs Q E hr h => ?_)
  · obtain ⟨p, c, rl, u, B, row, rfl, _⟩ := h
    rfl
  · obtain ⟨p, c, rl, u, B, row, rfl, d0, hrl, lr, bl, u1, u2, q⟩ := h
    refine ⟨_, (pss_cons (ps_set (i := 1) sc_law_changed.nd rfl (.inl rfl) (pe_callTy call_list_of (by rfl) T.m_list (by decide +kernel) (pa_cons (pv 1) pa_nil)))
      (pss_cons (ps_set (i := 3) sc_law_changed.nd rfl (.inl rfl) (pe_call G__law_draw (hr.mono (by omega)) (by rfl) D__law_draw.m D__law_draw.k D__law_draw.b .nil pass0 (pa_cons (pv 0) (pa_cons pe_int pa_nil))))
      (pss_cons (ps_if (pt_cmpR op_eq (pv 3) pe_int (nomark _)) (pss_one (ps_ret (pe_op op_cat (pv 1) (pe_lst (pa_cons pe_int pa_nil))))) pss_nil)
      (pss_cons (ps_if (pt_cmpR op_eq (pe_callB call_len_seq (by rfl) T.m_len (by decide +kernel) (pa_cons (pv 1) pa_nil)) pe_int (nomark _)) (pss_one (ps_ret (pe_lst (pa_cons pe_int (pa_cons pe_int pa_nil))))) pss_nil)
      (pss_cons (ps_set (i := 4) sc_law_changed.nd rfl (.inl rfl) (pe_call G__law_draw (hr.mono (by omega)) (by rfl) D__law_draw.m D__law_draw.k D__law_draw.b .nil pass0 (pa_cons (pv 0) (pa_cons (pe_callB call_len_seq (by rfl) T.m_len (by decide +kernel) (pa_cons (pv 1) pa_nil)) pa_nil))))
      (pss_cons (ps_set (i := 5) sc_law_changed.nd rfl (.inl rfl) (pe_call G__law_draw (hr.mono (by omega)) (by rfl) D__law_draw.m D__law_draw.k D__law_draw.b .nil pass0 (pa_cons (pv 0) (pa_cons (pe_callB call_len_seq (by rfl) T.m_len (by decide +kernel) (pa_cons (pv 1) pa_nil)) pa_nil))))
      (pss_cons (ps_if (pt_cmpR op_eq (pv 3) pe_int (nomark _)) (pss_one (ps_ret (pe_op op_cat (pe_slice sl_list (pv 1) po_none (po_some (pv 4))) (pe_slice sl_list (pv 1) (po_some (pe_op op_add (pv 4) pe_int)) po_none)))) pss_nil)
      (C8.pss_cut (ps_if (pt_cmpR op_eq (pv 3) pe_int (nomark _)) (pss_one (ps_asg (pe_tup (pa_cons (pe_ix (r := rIxL K) ix_list (pv 1) (pv 5) (fun _ _ => rfl)) (pa_cons (pe_ix (r := rIxL K) ix_list (pv 1) (pv 4) (fun _ _ => rfl)) pa_nil))) (pg_tup (by rfl) (pgs_cons (pg_sub (pv 1) (pv 4) set_list) (pgs_cons (pg_sub (pv 1) (pv 5) set_list) pgs_nil))))) pss_nil)
      (C8.pss_cut (ps_if (pt_cmpR op_gt (pv 3) pe_int (nomark _)) (pss_one (ps_asg (pe_ix (r := rIxL K) ix_list (pe_lst (pa_cons (pe_op op_add (pe_ix (r := rIxL K) ix_list (pv 1) (pv 4) (fun _ _ => rfl)) pe_int) (pa_cons (pe_op op_sub (pe_ix (r := rIxL K) ix_list (pv 1) (pv 4) (fun _ _ => rfl)) pe_int) (pa_cons (pe_ix (r := rIxL K) ix_list (pv 1) (pv 5) (fun _ _ => rfl)) (pa_cons (pe_op op_add (pe_ix (r := rIxL K) ix_list (pv 1) (pv 4) (fun _ _ => rfl)) (pe_ix (r := rIxL K) ix_list (pe_lst (pa_cons (pv 2) (pa_cons (pe_un un_neg (pv 2)) pa_nil))) (pe_call G__law_draw (hr.mono (by omega)) (by rfl) D__law_draw.m D__law_draw.k D__law_draw.b .nil pass0 (pa_cons (pv 0) (pa_cons pe_int pa_nil))) (fun _ _ => rfl))) pa_nil))))) (pe_op op_sub (pv 3) pe_int) (fun _ _ => rfl)) (pg_sub (pv 1) (pv 4) set_list))) pss_nil)
      (pss_one (ps_ret (pv 1)))))))))))), ?_⟩
    have bl' : BL (B + 10 ^ 45) row := bl.mono (by omega)
    refine ⟨_, rfl, rl, _, rfl, .inl (SqL.of hrl), fun l nl => ?_⟩
    have g1 := Gw.of d0 (same_new (o := .lst (vi row)) nl)
    have hl1 : (upd H l (.lst (vi row))) l = some (.lst (vi row)) := upd_same
    generalize (upd H l (.lst (vi row))) = H1 at g1 hl1 ⊢
    have lp := dw_vi_ne g1.b hl1
    refine ⟨_, rfl, p, c, 7, rfl, g1.b, by decide, by decide, fun H2 kind g2 hk => ?_⟩
    have G2 := g1.trans g2
    have hl2 := g2.get lp hl1
    refine ⟨_, rfl, rfl, _, rfl, ?_⟩
    rw [dec0 kind]
    by_cases k0 : kind = 0
    · rw [decide_eq_true k0]
      refine iteT ⟨_, rfl, by show 1 ≤ sizeLine; decide, fun t nt => ⟨l, t, _, _, rfl, rfl, same_new nt _ _ hl2, upd_same, by rw [vi_len]; exact Nat.le_of_lt (Nat.lt_of_le_of_lt (show row.length + 1 ≤ 1000000 by omega) (by decide)), fun v nv => ?_⟩⟩
      refine q _ v (row ++ [0]) ((G2.more (same_new nt)).more (same_new nv)) ?_ (by rw [List.length_append]; exact Nat.add_le_add_left (by decide) _) (bl'.app (BL.one (by show (0 : Nat) ≤ _; omega)))
      rw [upd_same, ← vi_app]
      rfl
    rw [decide_eq_false k0]
    refine iteF ⟨_, rfl, l, _, rfl, .inl (SqL.of hl2), rfl, _, rfl, ?_⟩
    rw [vi_len, dec0 row.length]
    by_cases r0 : row.length = 0
    · rw [decide_eq_true r0]
      refine iteT ⟨by show 2 ≤ sizeLine; decide, fun v nv => q _ v [0, 0] (G2.more (same_new nv)) upd_same (by show 2 ≤ _; omega) fun x hx => ?_⟩
      have : x = 0 := by simpa using hx
      rw [this]
      show (0 : Nat) ≤ _
      omega
    rw [decide_eq_false r0]
    refine iteF ⟨_, rfl, _, rfl, l, _, rfl, .inl (SqL.of hl2), p, c, row.length, by rw [vi_len]; rfl, G2.b, by omega, by omega, fun H3 at_ g3 hat => ?_⟩
    have G3 := G2.trans g3
    have hl3 := g3.get lp hl2
    refine ⟨_, rfl, _, rfl, l, _, rfl, .inl (SqL.of hl3), p, c, row.length, by rw [vi_len]; rfl, G3.b, by omega, by omega, fun H4 oth g4 hoth => ?_⟩
    have G4 := G3.trans g4
    have hl4 := g4.get lp hl3
    clear G2 G3 g2 g3 g4 hl1 hl2 hl3
    refine ⟨_, rfl, rfl, _, rfl, ?_⟩
    rw [dec1 kind]
    by_cases k1 : kind = 1
    · rw [decide_eq_true k1]
      refine iteT ⟨_, rfl, _, rfl, _, rfl, l, _, rfl, SqL.of hl4, fun t nt => ?_⟩
      rw [cut_to', vi_take]
      have st := same_new (o := .lst (vi (row.take at_))) nt
      have ht : (upd H4 t (.lst (vi (row.take at_)))) t = some (.lst (vi (row.take at_))) := upd_same
      generalize (upd H4 t (.lst (vi (row.take at_)))) = H5 at st ht ⊢
      refine ⟨_, rfl, _, rfl, _, _, rfl, rfl, _, rfl, l, _, rfl, SqL.of (st _ _ hl4), fun v nv => ?_⟩
      rw [show ((at_ : Nat) : Int) + 1 = ((at_ + 1 : Nat) : Int) by omega, cut_from, vi_drop]
      have su := same_new (o := .lst (vi (row.drop (at_ + 1)))) nv
      have hu : (upd H5 v (.lst (vi (row.drop (at_ + 1))))) v = some (.lst (vi (row.drop (at_ + 1)))) := upd_same
      generalize (upd H5 v (.lst (vi (row.drop (at_ + 1))))) = H6 at su hu ⊢
      refine ⟨t, v, _, _, rfl, rfl, su _ _ ht, hu, ?_, fun w nw => ?_⟩
      · rw [vi_len, vi_len, List.length_take, List.length_drop]
        exact Nat.le_of_lt (Nat.lt_of_le_of_lt (show _ ≤ 1000000 by omega) (by decide))
      · refine q _ w (row.take at_ ++ row.drop (at_ + 1)) (((G4.more st).more su).more (same_new nw)) (by rw [upd_same, vi_app]) ?_ (bl'.take.app bl'.drop)
        rw [List.length_append, List.length_take, List.length_drop]
        omega
    rw [decide_eq_false k1]
    refine iteF ?_
    refine ⟨fun σ Hx => ∃ (out : List Int), σ = [some (.ref p), some (.ref l), some (.int u), some (.int (kind : Nat)), some (.int (at_ : Nat)), some (.int (oth : Nat))] ∧ Gw p c H Hx ∧ Hx l = some (.lst (vi out)) ∧ out.length = row.length ∧ BL B out, ?_, ?_⟩
    · refine ⟨_, rfl, rfl, _, rfl, ?_⟩
      rw [dec2 kind]
      by_cases k2 : kind = 2
      · rw [decide_eq_true k2]
        refine iteT ?_
        refine ⟨_, rfl, _, rfl, l, _, _, _, rfl, rfl, SqL.of hl4, atI_nat (vi_get (gi_some hoth)), _, rfl, _, rfl, l, _, _, _, rfl, rfl, SqL.of hl4, atI_nat (vi_get (gi_some hat)), by show 2 ≤ sizeLine; decide, fun t nt => ?_⟩
        have st := same_new (o := .tup [V.int (gi row oth), .int (gi row at_)]) nt
        have ht : (upd H4 t (.tup [V.int (gi row oth), .int (gi row at_)])) t = some (.tup [V.int (gi row oth), .int (gi row at_)]) := upd_same
        generalize (upd H4 t (.tup [V.int (gi row oth), .int (gi row at_)])) = H5 at st ht ⊢
        have hl5 := st _ _ hl4
        refine ⟨t, _, rfl, SqT.of ht, rfl, _, _, rfl, _, rfl, _, rfl, l, _, _, at_, rfl, rfl, hl5, ix_nat (by rw [vi_len]; exact hat), _, _, rfl, _, rfl, _, rfl, l, _, _, oth, rfl, rfl, upd_same, ix_nat (by rw [List.length_set, vi_len]; exact hoth), rfl, ?_⟩
        refine ⟨(row.set at_ (gi row oth)).set oth (gi row at_), rfl, ((G4.more st).mut nl).mut nl, ?_, by rw [List.length_set, List.length_set], (bl.set (bl.at_ hoth)).set (bl.at_ hat)⟩
        rw [upd_same, vi_set, vi_set]
      rw [decide_eq_false k2]
      exact iteF ⟨row, rfl, G4, hl4, rfl, bl⟩
    clear hl4 G4 bl
    rintro σ H4 ⟨ro, rfl, G4, hl4, lro, bl⟩
    refine ⟨fun σ Hx => ∃ (out : List Int), σ = [some (.ref p), some (.ref l), some (.int u), some (.int (kind : Nat)), some (.int (at_ : Nat)), some (.int (oth : Nat))] ∧ Gw p c H Hx ∧ Hx l = some (.lst (vi out)) ∧ out.length = row.length ∧ BL (B + 10 ^ 45) out, ?_, ?_⟩
    · refine ⟨_, rfl, _, _, rfl, rfl, _, rfl, ?_⟩
      by_cases k3 : ((kind : Nat) : Int) > 2
      rotate_left
      · rw [decide_eq_false k3]
        exact iteF ⟨ro, rfl, G4, hl4, lro, bl.mono (by omega)⟩
      rw [decide_eq_true k3]
      have ha' : at_ < ro.length := by omega
      have ho' : oth < ro.length := by omega
      have ba := bl.at_ ha'
      have bo := bl.at_ ho'
      have ga := gi_some ha'
      have go' := gi_some ho'
      generalize gi ro at_ = ya at ba ga
      generalize gi ro oth = yo at bo go'
      refine iteT ?_
      refine ⟨_, rfl, _, rfl, l, _, _, _, rfl, rfl, SqL.of hl4, atI_nat (vi_get ga), _, _, rfl, rfl, _, rfl, _, rfl, l, _, _, _, rfl, rfl, SqL.of hl4, atI_nat (vi_get ga), _, _, rfl, rfl, _, rfl, _, rfl, l, _, _, _, rfl, rfl, SqL.of hl4, atI_nat (vi_get go'), _, rfl, _, rfl, l, _, _, _, rfl, rfl, SqL.of hl4, atI_nat (vi_get ga), _, rfl, _, rfl, _, rfl, by show 2 ≤ sizeLine; decide, fun L nL => ⟨_, rfl, p, c, 2, rfl, G4.b.same (same_new nL), by decide, by decide, fun H5 k2 g5 hk2 => ?_⟩⟩
      have hL := g5.get (G4.b.off nL).1 upd_same
      have G5 := (G4.more (same_new nL)).trans g5
      have hl5 := g5.get lp (same_new nL _ _ hl4)
      obtain ⟨z, ez, bz⟩ : ∃ z : Int, ([V.int u, .int (-u)] : List V)[k2]? = some (.int z) ∧ z.natAbs ≤ 10 ^ 45 := by
        have : k2 = 0 ∨ k2 = 1 := by omega
        rcases this with rfl | rfl
        · exact ⟨u, rfl, by omega⟩
        · exact ⟨-u, rfl, by omega⟩
      refine ⟨L, _, _, _, rfl, rfl, SqL.of hL, atI_nat ez, _, _, rfl, rfl, by show 4 ≤ sizeLine; decide, fun M nM => ?_⟩
      obtain ⟨y, ey, by_⟩ : ∃ y : Int, ([V.int (ya + 1), .int (ya - 1), .int yo, .int (ya + z)] : List V)[kind - 3]? = some (.int y) ∧ y.natAbs ≤ B + 10 ^ 45 := by
        have : kind = 3 ∨ kind = 4 ∨ kind = 5 ∨ kind = 6 := by omega
        rcases this with rfl | rfl | rfl | rfl
        · exact ⟨_, rfl, by omega⟩
        · exact ⟨_, rfl, by omega⟩
        · exact ⟨_, rfl, by omega⟩
        · exact ⟨_, rfl, by omega⟩
      have hl6 := same_new (o := .lst [V.int (ya + 1), .int (ya - 1), .int yo, .int (ya + z)]) nM _ _ hl5
      refine ⟨_, rfl, _, _, rfl, rfl, M, _, _, _, rfl, rfl, SqL.of upd_same, (by rw [show ((kind : Nat) : Int) - 3 = ((kind - 3 : Nat) : Int) by omega]; exact atI_nat ey), _, rfl, _, rfl, l, _, _, at_, rfl, rfl, hl6, ix_nat (by rw [vi_len]; exact ha'), ?_⟩
      rw [vi_set]
      exact ⟨ro.set at_ y, rfl, (G5.more (same_new nM)).mut nl, upd_same, by rw [List.length_set, lro], (bl.mono (by omega)).set by_⟩
    rintro σ Hx ⟨out, rfl, gx, hx, lx, bx⟩
    exact ⟨_, rfl, q Hx l out gx hx (by omega) bx⟩

end K15
namespace K15
open PySem PySem.Spec PyProof.Rows L2 V0
/-! ### turned assignments and potentials -/
structure AR (H : Hp) (al ul vl : Addr) (as us vs : List Int) (L B : Nat) : Prop where
  ha : H al = some (.lst (vi as))
  hu : H ul = some (.lst (vi us))
  hv : H vl = some (.lst (vi vs))
  la : as.length ≤ L
  lu : us.length ≤ L
  lv : vs.length ≤ L
  ba : BL B as
  bu : BL B us
  bv : BL B vs
theorem AQ.r {H : Hp} {al q ul vl : Addr} {as us vs : List Int} {L B : Nat} (h : AQ H al q ul vl as us vs L B) : AR H al ul vl as us vs L B := ⟨h.ha, h.hu, h.hv, h.la, h.lu, h.lv, h.ba, h.bu, h.bv⟩
theorem AR.go {p c : Addr} {H H' : Hp} {al ul vl : Addr} {as us vs : List Int} {L B : Nat} (h : AR H al ul vl as us vs L B) (g : Gw p c H H') : AR H' al ul vl as us vs L B :=
  ⟨g.get (dw_vi_ne g.a h.ha) h.ha, g.get (dw_vi_ne g.a h.hu) h.hu, g.get (dw_vi_ne g.a h.hv) h.hv, h.la, h.lu, h.lv, h.ba, h.bu, h.bv⟩
theorem AR.same {H H' : Hp} {al ul vl : Addr} {as us vs : List Int} {L B : Nat} (h : AR H al ul vl as us vs L B) (s : Same H H') : AR H' al ul vl as us vs L B :=
  ⟨s _ _ h.ha, s _ _ h.hu, s _ _ h.hv, h.la, h.lu, h.lv, h.ba, h.bu, h.bv⟩
theorem AR.mono {H : Hp} {al ul vl : Addr} {as us vs : List Int} {L B L' B' : Nat} (h : AR H al ul vl as us vs L B) (l : L ≤ L') (b : B ≤ B') : AR H al ul vl as us vs L' B' :=
  ⟨h.ha, h.hu, h.hv, Nat.le_trans h.la l, Nat.le_trans h.lu l, Nat.le_trans h.lv l, h.ba.mono b, h.bu.mono b, h.bv.mono b⟩
theorem spl_len {xs : List Int} {k : Nat} {y : Int} (h : k < xs.length) : (xs.take k ++ [y] ++ xs.drop (k + 1)).length = xs.length := by
  rw [List.length_append, List.length_append, List.length_take, List.length_drop, List.length_singleton]
  omega
def sp__law_turned (K : PySem.W.Frag) : Sp := fun ws H Q _ => ∃ (p c al q1 ul vl : Addr) (u : Int) (as us vs : List Int) (L B : Nat), ws = [.ref p, .ref al, .ref q1, .int u] ∧ Dw H p c ∧ AQ H al q1 ul vl as us vs L B ∧ L ≤ 1000 ∧ 1 ≤ u ∧ u ≤ 10 ^ 45 ∧
  ∀ H' t al' q' ul' vl' (as' us' vs' : List Int), Gw p c H H' → H' t = some (.tup [.ref al', .ref q']) → AQ H' al' q' ul' vl' as' us' vs' (L + 4) (B + 2 * 10 ^ 45) → Q (.ref t) H'
theorem ok__law_turned {P : Program} {w : World} {K : PySem.W.Frag} {mg : Str → Option Value} {base : Heap} {C_Matching : Addr} {f f_law_draw f_law_changed : Addr} {fd fd_law_draw fd_law_changed : FuncData} (F : Fun K "_law_turned" "_law_turned" s__law_turned f fd) (T : Txt K mg C_Matching)
    (G__law_draw : FnOk P w K mg base CX0 1 f_law_draw fd_law_draw ["draws", "limit"] (sp__law_draw K)) (D__law_draw : Def K mg "_law_draw" f_law_draw fd_law_draw ["draws", "limit"])
    (G__law_changed : FnOk P w K mg base CX0 2 f_law_changed fd_law_changed ["draws", "row", "unit"] (sp__law_changed K)) (D__law_changed : Def K mg "_law_changed" f_law_changed fd_law_changed ["draws", "row", "unit"]) :
    FnOk P w K mg base CX0 3 f fd ["draws", "order", "potentials", "unit"] (sp__law_turned K) := by
  refine F.ok sc_law_turned (fun vs H Q E h => ?_) (fun cdv A outer s H vs Q E hr h => ?_)
  · obtain ⟨p, c, al, q1, ul, vl, u, as, us, vs, L, B, rfl, _⟩ := h
    rfl
  · obtain ⟨p, c, al, q1, ul, vl, u, as, us, vs, L, B, rfl, d0, aq, l1, u1, u2, q⟩ := h
    refine ⟨_, (pss_cons (ps_asg (pv 2) (pg_tup (by rfl) (pgs_cons (pg_name (i := 4) sc_law_turned.nd rfl (Or.inl rfl)) (pgs_cons (pg_name (i := 5) sc_law_turned.nd rfl (Or.inl rfl)) pgs_nil))))
      (pss_cons (ps_for PassesOwn.never rfl (pi_range1 rfl T.m_range (pa_cons (pe_op op_add pe_int (pe_call G__law_draw (hr.mono (by omega)) (by rfl) D__law_draw.m D__law_draw.k D__law_draw.b .nil pass0 (pa_cons (pv 0) (pa_cons pe_int pa_nil)))) pa_nil)) (pg_name (i := 6) sc_law_turned.nd rfl (Or.inl rfl)) (pss_cons (ps_set (i := 7) sc_law_turned.nd rfl (.inl rfl) (pe_call G__law_draw (hr.mono (by omega)) (by rfl) D__law_draw.m D__law_draw.k D__law_draw.b .nil pass0 (pa_cons (pv 0) (pa_cons pe_int pa_nil))))
      (C8.pss_cut (ps_if (pt_cmpR op_eq (pv 7) pe_int (nomark _)) (pss_one (ps_set (i := 1) sc_law_turned.nd rfl (.inl rfl) (pe_call G__law_changed (hr.mono (by omega)) (by rfl) D__law_changed.m D__law_changed.k D__law_changed.b .nil pass0 (pa_cons (pv 0) (pa_cons (pv 1) (pa_cons pe_int pa_nil)))))) pss_nil)
      (C8.pss_cut (ps_if (pt_cmpR op_eq (pv 7) pe_int (nomark _)) (pss_one (ps_set (i := 4) sc_law_turned.nd rfl (.inl rfl) (pe_call G__law_changed (hr.mono (by omega)) (by rfl) D__law_changed.m D__law_changed.k D__law_changed.b .nil pass0 (pa_cons (pv 0) (pa_cons (pv 4) (pa_cons (pv 3) pa_nil)))))) pss_nil)
      (C8.pss_cut (ps_if (pt_cmpR op_eq (pv 7) pe_int (nomark _)) (pss_one (ps_set (i := 5) sc_law_turned.nd rfl (.inl rfl) (pe_call G__law_changed (hr.mono (by omega)) (by rfl) D__law_changed.m D__law_changed.k D__law_changed.b .nil pass0 (pa_cons (pv 0) (pa_cons (pv 5) (pa_cons (pv 3) pa_nil)))))) pss_nil)
      (pss_one (ps_if (PW.pt (pw_and (pt_cmpR op_eq (pv 7) pe_int (nomark _)) (pw_and (pt_cmpR op_gt (pe_callB call_len_seq (by rfl) T.m_len (by decide +kernel) (pa_cons (pv 4) pa_nil)) pe_int (nomark _)) (pw_and1 (pt_cmpR op_gt (pe_callB call_len_seq (by rfl) T.m_len (by decide +kernel) (pa_cons (pv 5) pa_nil)) pe_int (nomark _)))))) (pss_cons (ps_par (i := 8) (j := 9) rfl sc_law_turned.nd rfl rfl (by decide) rfl rfl (pa_cons (pe_call G__law_draw (hr.mono (by omega)) (by rfl) D__law_draw.m D__law_draw.k D__law_draw.b .nil pass0 (pa_cons (pv 0) (pa_cons (pe_callB call_len_seq (by rfl) T.m_len (by decide +kernel) (pa_cons (pv 4) pa_nil)) pa_nil))) (pa_cons (pe_call G__law_draw (hr.mono (by omega)) (by rfl) D__law_draw.m D__law_draw.k D__law_draw.b .nil pass0 (pa_cons (pv 0) (pa_cons (pe_callB call_len_seq (by rfl) T.m_len (by decide +kernel) (pa_cons (pv 5) pa_nil)) pa_nil))) pa_nil)) rfl)
      (pss_cons (ps_set (i := 4) sc_law_turned.nd rfl (.inl rfl) (pe_op op_cat (pe_op op_cat (pe_slice sl_list (pv 4) po_none (po_some (pv 8))) (pe_lst (pa_cons (pe_op op_add (pe_ix (r := rIxL K) ix_list (pv 4) (pv 8) (fun _ _ => rfl)) pe_int) pa_nil))) (pe_slice sl_list (pv 4) (po_some (pe_op op_add (pv 8) pe_int)) po_none)))
      (pss_one (ps_set (i := 5) sc_law_turned.nd rfl (.inl rfl) (pe_op op_cat (pe_op op_cat (pe_slice sl_list (pv 5) po_none (po_some (pv 9))) (pe_lst (pa_cons (pe_op op_sub (pe_ix (r := rIxL K) ix_list (pv 5) (pv 9) (fun _ _ => rfl)) pe_int) pa_nil))) (pe_slice sl_list (pv 5) (po_some (pe_op op_add (pv 9) pe_int)) po_none)))))) pss_nil)))))))
      (pss_one (ps_ret (pe_tup (pa_cons (pv 1) (pa_cons (pe_tup (pa_cons (pv 4) (pa_cons (pv 5) pa_nil))) pa_nil))))))), ?_⟩
    refine ⟨_, rfl, q1, _, rfl, SqT.of aq.hq, rfl, _, _, rfl, _, _, rfl, rfl, ?_⟩
    refine ⟨_, rfl, p, c, 2, rfl, d0, by decide, by decide, fun H1 n2 g1 hn => ?_⟩
    obtain ⟨nn, enn, nn2⟩ : ∃ nn : Nat, (1 : Int) + (n2 : Nat) = (nn : Nat) ∧ nn ≤ 2 := ⟨1 + n2, by omega, by omega⟩
    refine ⟨_, _, rfl, rfl, _, congrArg (fun z => [V.int z]) enn, by omega, by omega, ?_⟩
    refine for_range (n := nn) (fun i σ Hx => ∃ (al ul vl : Addr) (as us vs : List Int) (y6 y7 y8 y9 : Option V), σ = [some (.ref p), some (.ref al), some (.ref q1), some (.int u), some (.ref ul), some (.ref vl), y6, y7, y8, y9] ∧ Gw p c H Hx ∧ AR Hx al ul vl as us vs (L + 2 * i) (B + i * 10 ^ 45)) ⟨al, ul, vl, as, us, vs, none, none, none, none, rfl, g1, (aq.r.go g1).mono (by omega) (by omega)⟩ ?_ ?_
    · rintro i σ Hx hi ⟨al, ul, vl, as, us, vs, y6, y7, y8, y9, rfl, gx, ap⟩
      rw [Int.zero_add]
      refine ⟨_, rfl, p, c, 4, rfl, gx.b, by decide, by decide, fun H2 part g2 hp4 => ?_⟩
      have G2 := gx.trans g2
      have ap2 := ap.go g2
      clear ap gx g2
      -- the assignment
      refine ⟨fun σ Hx => ∃ (al : Addr) (as : List Int), σ = [some (.ref p), some (.ref al), some (.ref q1), some (.int u), some (.ref ul), some (.ref vl), some (.int (i : Nat)), some (.int (part : Nat)), y8, y9] ∧ Gw p c H Hx ∧ AR Hx al ul vl as us vs (L + 2 * i + 2) (B + i * 10 ^ 45 + 10 ^ 45) ∧ (part ≠ 0 → AR Hx al ul vl as us vs (L + 2 * i) (B + i * 10 ^ 45)), ?_, ?_⟩
      · refine ⟨_, rfl, rfl, _, rfl, ?_⟩
        rw [dec0]
        by_cases k : part = 0
        · rw [decide_eq_true k]
          have la2 := ap2.la
          refine iteT ⟨_, rfl, _, rfl, p, c, al, 1, _, as, rfl, G2.b, ap2.ha, by omega, ap2.ba, by omega, by omega, fun H4 l out g4 hl lo bo => ?_⟩
          have ap4 := (ap2.go g4).mono (L' := L + 2 * i + 2) (B' := B + i * 10 ^ 45 + 10 ^ 45) (by omega) (by omega)
          exact ⟨l, out, rfl, G2.trans g4, ⟨hl, ap4.hu, ap4.hv, by omega, ap4.lu, ap4.lv, bo, ap4.bu, ap4.bv⟩, fun z => absurd k z⟩
        · rw [decide_eq_false k]
          exact iteF ⟨al, as, rfl, G2, ap2.mono (by omega) (by omega), fun _ => ap2⟩
      clear ap2 G2
      rintro σ Hy ⟨al, as, rfl, G3, ap3', ap3⟩
      -- potentials of rows
      refine ⟨fun σ Hx => ∃ (ul : Addr) (us : List Int), σ = [some (.ref p), some (.ref al), some (.ref q1), some (.int u), some (.ref ul), some (.ref vl), some (.int (i : Nat)), some (.int (part : Nat)), y8, y9] ∧ Gw p c H Hx ∧ AR Hx al ul vl as us vs (L + 2 * i + 2) (B + i * 10 ^ 45 + 10 ^ 45) ∧ (part ≠ 0 → part ≠ 1 → AR Hx al ul vl as us vs (L + 2 * i) (B + i * 10 ^ 45)), ?_, ?_⟩
      · refine ⟨_, rfl, rfl, _, rfl, ?_⟩
        rw [dec1]
        by_cases k : part = 1
        · rw [decide_eq_true k]
          have ap2 := ap3 (by omega)
          have lu2 := ap2.lu
          refine iteT ⟨_, rfl, _, rfl, _, rfl, p, c, ul, u, _, us, rfl, G3.b, ap2.hu, by omega, ap2.bu, u1, u2, fun H4 l out g4 hl lo bo => ?_⟩
          have ap4 := ap3'.go g4
          exact ⟨l, out, rfl, G3.trans g4, ⟨ap4.ha, hl, ap4.hv, ap4.la, by omega, ap4.lv, ap4.ba, bo, ap4.bv⟩, fun _ z => absurd k z⟩
        · rw [decide_eq_false k]
          exact iteF ⟨ul, us, rfl, G3, ap3', fun z _ => ap3 z⟩
      clear ap3 ap3'
      rintro σ Hy ⟨ul, us, rfl, G4, ap4', ap4⟩
      -- potentials of columns
      refine ⟨fun σ Hx => ∃ (vl : Addr) (vs : List Int), σ = [some (.ref p), some (.ref al), some (.ref q1), some (.int u), some (.ref ul), some (.ref vl), some (.int (i : Nat)), some (.int (part : Nat)), y8, y9] ∧ Gw p c H Hx ∧ AR Hx al ul vl as us vs (L + 2 * i + 2) (B + i * 10 ^ 45 + 10 ^ 45) ∧ (part ≠ 0 → part ≠ 1 → part ≠ 2 → AR Hx al ul vl as us vs (L + 2 * i) (B + i * 10 ^ 45)), ?_, ?_⟩
      · refine ⟨_, rfl, rfl, _, rfl, ?_⟩
        rw [dec2]
        by_cases k : part = 2
        · rw [decide_eq_true k]
          have ap2 := ap4 (by omega) (by omega)
          have lv2 := ap2.lv
          refine iteT ⟨_, rfl, _, rfl, _, rfl, p, c, vl, u, _, vs, rfl, G4.b, ap2.hv, by omega, ap2.bv, u1, u2, fun H4 l out g4 hl lo bo => ?_⟩
          have ap5 := ap4'.go g4
          exact ⟨l, out, rfl, G4.trans g4, ⟨ap5.ha, ap5.hu, hl, ap5.la, ap5.lu, by omega, ap5.ba, ap5.bu, bo⟩, fun _ _ z => absurd k z⟩
        · rw [decide_eq_false k]
          exact iteF ⟨vl, vs, rfl, G4, ap4', fun z z' _ => ap4 z z'⟩
      clear ap4 ap4'
      rintro σ Hy ⟨vl, vs, rfl, G5, ap5', ap5⟩
      have fin : ∀ (y8 y9 : Option V) (Hx : Hp) (ul vl : Addr) (us vs : List Int), Gw p c H Hx → AR Hx al ul vl as us vs (L + 2 * i + 2) (B + i * 10 ^ 45 + 10 ^ 45) → ∃ (al' ul' vl' : Addr) (as us vs : List Int) (y6 y7 y8' y9' : Option V), ([some (.ref p), some (.ref al), some (.ref q1), some (.int u), some (.ref ul), some (.ref vl), some (.int (i : Nat)), some (.int (part : Nat)), y8, y9] : L2.St) = [some (.ref p), some (.ref al'), some (.ref q1), some (.int u), some (.ref ul'), some (.ref vl'), y6, y7, y8', y9'] ∧ Gw p c H Hx ∧ AR Hx al' ul' vl' as us vs (L + 2 * (i + 1)) (B + (i + 1) * 10 ^ 45) := fun y8 y9 Hx ul vl us vs g a => ⟨al, ul, vl, as, us, vs, _, _, y8, y9, rfl, g, a.mono (by omega) (by omega)⟩
      refine ⟨_, rfl, rfl, _, rfl, ?_⟩
      rw [dec3]
      by_cases k : part = 3
      rotate_left
      · rw [decide_eq_false k]
        exact iteF (iteF (fin y8 y9 Hy ul vl us vs G5 ap5'))
      rw [decide_eq_true k]
      have ap := ap5 (by omega) (by omega) (by omega)
      clear ap5 ap5'
      have lu5 := ap.lu
      have lv5 := ap.lv
      refine iteT ⟨_, rfl, ul, _, rfl, .inl (SqL.of ap.hu), _, _, rfl, rfl, _, rfl, ?_⟩
      rw [vi_len]
      by_cases z1 : ((us.length : Nat) : Int) > 0
      rotate_left
      · rw [decide_eq_false z1]
        exact iteF (iteF (fin y8 y9 Hy ul vl us vs G5 (ap.mono (by omega) (by omega))))
      rw [decide_eq_true z1]
      refine iteT ⟨_, rfl, vl, _, rfl, .inl (SqL.of ap.hv), _, _, rfl, rfl, _, rfl, ?_⟩
      rw [vi_len]
      by_cases z2 : ((vs.length : Nat) : Int) > 0
      rotate_left
      · rw [decide_eq_false z2]
        exact iteF (fin y8 y9 Hy ul vl us vs G5 (ap.mono (by omega) (by omega)))
      rw [decide_eq_true z2]
      refine iteT ?_
      refine ⟨_, rfl, _, rfl, ul, _, rfl, .inl (SqL.of ap.hu), p, c, us.length, by rw [vi_len]; rfl, G5.b, by omega, by omega, fun H6 ka g6 hka => ?_⟩
      have ap6 := ap.go g6
      have G6 := G5.trans g6
      clear ap G5 g6
      refine ⟨_, rfl, _, rfl, vl, _, rfl, .inl (SqL.of ap6.hv), p, c, vs.length, by rw [vi_len]; rfl, G6.b, by omega, by omega, fun H7 kb g7 hkb => ?_⟩
      have ap7 := ap6.go g7
      have G7 := G6.trans g7
      clear ap6 G6 g7
      refine ⟨_, _, rfl, ?_⟩
      refine ⟨_, rfl, _, rfl, _, rfl, ul, _, rfl, SqL.of ap7.hu, fun t nt => ?_⟩
      rw [cut_to', vi_take]
      have st := same_new (o := .lst (vi (us.take ka))) nt
      have ht : (upd H7 t (.lst (vi (us.take ka)))) t = some (.lst (vi (us.take ka))) := upd_same
      generalize (upd H7 t (.lst (vi (us.take ka)))) = Ha at st ht ⊢
      refine ⟨_, rfl, _, rfl, ul, _, _, _, rfl, rfl, SqL.of (st _ _ ap7.hu), atI_nat (vi_get (gi_some hka)), _, _, rfl, rfl, by show 1 ≤ sizeLine; decide, fun m nm => ?_⟩
      have sm := same_new (o := .lst [V.int (gi us ka + 1)]) nm
      have hm : (upd Ha m (.lst [V.int (gi us ka + 1)])) m = some (.lst (vi [gi us ka + 1])) := upd_same
      generalize (upd Ha m (.lst [V.int (gi us ka + 1)])) = Hb at sm hm ⊢
      refine ⟨t, m, _, _, rfl, rfl, sm _ _ ht, hm, by rw [vi_len, vi_len, List.length_take]; exact Nat.le_of_lt (Nat.lt_of_le_of_lt (show _ + 1 ≤ 1000000 by omega) (by decide)), fun w nw => ?_⟩
      rw [vi_app]
      have sw := same_new (o := .lst (vi (us.take ka ++ [gi us ka + 1]))) nw
      have hw : (upd Hb w (.lst (vi (us.take ka ++ [gi us ka + 1])))) w = some (.lst (vi (us.take ka ++ [gi us ka + 1]))) := upd_same
      generalize (upd Hb w (.lst (vi (us.take ka ++ [gi us ka + 1])))) = Hc at sw hw ⊢
      have sc := st.trans (sm.trans sw)
      refine ⟨_, rfl, _, rfl, _, _, rfl, rfl, _, rfl, ul, _, rfl, SqL.of (sc _ _ ap7.hu), fun v nv => ?_⟩
      rw [show ((ka : Nat) : Int) + 1 = ((ka + 1 : Nat) : Int) by omega, cut_from, vi_drop]
      have sv := same_new (o := .lst (vi (us.drop (ka + 1)))) nv
      have hv : (upd Hc v (.lst (vi (us.drop (ka + 1))))) v = some (.lst (vi (us.drop (ka + 1)))) := upd_same
      generalize (upd Hc v (.lst (vi (us.drop (ka + 1))))) = Hd at sv hv ⊢
      refine ⟨w, v, _, _, rfl, rfl, sv _ _ hw, hv, by rw [vi_len, vi_len, List.length_append, List.length_take, List.length_drop]; exact Nat.le_of_lt (Nat.lt_of_le_of_lt (show _ + 1 + _ ≤ 1000000 by omega) (by decide)), fun r1 nz => ?_⟩
      rw [vi_app]
      have sz := (sc.trans sv).trans (same_new (o := .lst (vi (us.take ka ++ [gi us ka + 1] ++ us.drop (ka + 1)))) nz)
      have hz : (upd Hd r1 (.lst (vi (us.take ka ++ [gi us ka + 1] ++ us.drop (ka + 1))))) r1 = some (.lst (vi (us.take ka ++ [gi us ka + 1] ++ us.drop (ka + 1)))) := upd_same
      generalize (upd Hd r1 (.lst (vi (us.take ka ++ [gi us ka + 1] ++ us.drop (ka + 1))))) = H8 at sz hz ⊢
      clear st ht sm hm sw hw sc sv hv
      have ap8 : AR H8 al r1 vl as (us.take ka ++ [gi us ka + 1] ++ us.drop (ka + 1)) vs (L + 2 * i + 2) (B + i * 10 ^ 45 + 10 ^ 45) := by
        refine ⟨sz _ _ ap7.ha, hz, sz _ _ ap7.hv, by have := ap7.la; omega, by rw [spl_len hka]; omega, by omega, ap7.ba.mono (by omega), ((ap7.bu.mono (by omega)).take.app (BL.one ?_)).app (ap7.bu.mono (by omega)).drop, ap7.bv.mono (by omega)⟩
        have := ap7.bu.at_ hka
        omega
      have G8 := G7.more sz
      have hv8 := sz _ _ ap7.hv
      generalize us.take ka ++ [gi us ka + 1] ++ us.drop (ka + 1) = rows1 at ap8 hz ⊢
      clear sz hz
      refine ⟨_, rfl, _, rfl, _, rfl, vl, _, rfl, SqL.of hv8, fun t nt => ?_⟩
      rw [cut_to', vi_take]
      have st := same_new (o := .lst (vi (vs.take kb))) nt
      have ht : (upd H8 t (.lst (vi (vs.take kb)))) t = some (.lst (vi (vs.take kb))) := upd_same
      generalize (upd H8 t (.lst (vi (vs.take kb)))) = Ha at st ht ⊢
      refine ⟨_, rfl, _, rfl, vl, _, _, _, rfl, rfl, SqL.of (st _ _ hv8), atI_nat (vi_get (gi_some hkb)), _, _, rfl, rfl, by show 1 ≤ sizeLine; decide, fun m nm => ?_⟩
      have sm := same_new (o := .lst [V.int (gi vs kb - 1)]) nm
      have hm : (upd Ha m (.lst [V.int (gi vs kb - 1)])) m = some (.lst (vi [gi vs kb - 1])) := upd_same
      generalize (upd Ha m (.lst [V.int (gi vs kb - 1)])) = Hb at sm hm ⊢
      refine ⟨t, m, _, _, rfl, rfl, sm _ _ ht, hm, by rw [vi_len, vi_len, List.length_take]; exact Nat.le_of_lt (Nat.lt_of_le_of_lt (show _ + 1 ≤ 1000000 by omega) (by decide)), fun w nw => ?_⟩
      rw [vi_app]
      have sw := same_new (o := .lst (vi (vs.take kb ++ [gi vs kb - 1]))) nw
      have hw : (upd Hb w (.lst (vi (vs.take kb ++ [gi vs kb - 1])))) w = some (.lst (vi (vs.take kb ++ [gi vs kb - 1]))) := upd_same
      generalize (upd Hb w (.lst (vi (vs.take kb ++ [gi vs kb - 1])))) = Hc at sw hw ⊢
      have sc := st.trans (sm.trans sw)
      refine ⟨_, rfl, _, rfl, _, _, rfl, rfl, _, rfl, vl, _, rfl, SqL.of (sc _ _ hv8), fun v nv => ?_⟩
      rw [show ((kb : Nat) : Int) + 1 = ((kb + 1 : Nat) : Int) by omega, cut_from, vi_drop]
      have sv := same_new (o := .lst (vi (vs.drop (kb + 1)))) nv
      have hv : (upd Hc v (.lst (vi (vs.drop (kb + 1))))) v = some (.lst (vi (vs.drop (kb + 1)))) := upd_same
      generalize (upd Hc v (.lst (vi (vs.drop (kb + 1))))) = Hd at sv hv ⊢
      refine ⟨w, v, _, _, rfl, rfl, sv _ _ hw, hv, by rw [vi_len, vi_len, List.length_append, List.length_take, List.length_drop]; exact Nat.le_of_lt (Nat.lt_of_le_of_lt (show _ + 1 + _ ≤ 1000000 by omega) (by decide)), fun z nz => ?_⟩
      rw [vi_app]
      have sz := (sc.trans sv).trans (same_new (o := .lst (vi (vs.take kb ++ [gi vs kb - 1] ++ vs.drop (kb + 1)))) nz)
      have hz : (upd Hd z (.lst (vi (vs.take kb ++ [gi vs kb - 1] ++ vs.drop (kb + 1))))) z = some (.lst (vi (vs.take kb ++ [gi vs kb - 1] ++ vs.drop (kb + 1)))) := upd_same
      generalize (upd Hd z (.lst (vi (vs.take kb ++ [gi vs kb - 1] ++ vs.drop (kb + 1))))) = He at sz hz ⊢
      clear st ht sm hm sw hw sc sv hv
      refine fin _ _ He r1 z rows1 _ (G8.more sz) ⟨sz _ _ ap8.ha, sz _ _ ap8.hu, hz, by have := ap8.la; omega, ap8.lu, by rw [spl_len hkb]; omega, ap8.ba.mono (by omega), ap8.bu, ((ap7.bv.mono (by omega)).take.app (BL.one ?_)).app (ap7.bv.mono (by omega)).drop⟩
      have := ap7.bv.at_ hkb
      omega
    rintro σ Hx ⟨al, ul, vl, as, us, vs, y6, y7, y8, y9, rfl, gx, ap⟩
    refine ⟨_, rfl, _, rfl, _, rfl, by show 2 ≤ sizeLine; decide, fun q' nq => ⟨by show 2 ≤ sizeLine; decide, fun t nt => ?_⟩⟩
    have sq := same_new (o := .tup [.ref ul, .ref vl]) nq
    have st := same_new (o := .tup [.ref al, .ref q']) nt
    have a2 := ((ap.same sq).same st).mono (L' := L + 4) (B' := B + 2 * 10 ^ 45) (by omega) (by omega)
    exact q _ t al q' ul vl as us vs ((gx.more sq).more st) upd_same ⟨st _ _ upd_same, a2.ha, a2.hu, a2.hv, a2.la, a2.lu, a2.lv, a2.ba, a2.bu, a2.bv⟩

end K15
namespace K15
open PySem PySem.Spec PyProof.Rows L2 V0
/-! ### the form of what is told -/
def sp__law_form (K : PySem.W.Frag) : Sp := fun ws H Q _ => ∃ (t al q1 ul vl : Addr) (as us vs : List Int), ws = [.ref t] ∧ H t = some (.tup [.ref al, .ref q1]) ∧ H q1 = some (.tup [.ref ul, .ref vl]) ∧ H al = some (.lst (vi as)) ∧ H ul = some (.lst (vi us)) ∧ H vl = some (.lst (vi vs)) ∧ as.length ≤ 1000 ∧ us.length ≤ 1000 ∧ vs.length ≤ 1000 ∧ ∀ H', Same H H' → Q (.bl true) H'
theorem ok__law_form {P : Program} {w : World} {K : PySem.W.Frag} {mg : Str → Option Value} {base : Heap} {C_Matching : Addr} {f  : Addr} {fd  : FuncData} (F : Fun K "_law_form" "_law_form" s__law_form f fd) (T : Txt K mg C_Matching) :
    FnOk P w K mg base CX0 1 f fd ["told"] (sp__law_form K) := by
  refine F.ok sc_law_form (fun vs H Q E h => ?_) (fun cdv A outer s H vs Q E hr h => ?_)
  · obtain ⟨t, al, q1, ul, vl, as, us, vs, rfl, _⟩ := h
    rfl
  · obtain ⟨t, al, q1, ul, vl, as, us, vs, rfl, ht, hq, ha, hu, hv, la, lu, lv, q⟩ := h
    refine ⟨_, (pss_cons (ps_if (PW.pt (pw_or (pt_not (pt_val (pe_callB call_isi (by rfl) T.m_isinstance (by decide +kernel) (pa_cons (pv 0) (pa_cons (pe_bltn (v := .ty "tuple") (u := .type "tuple") (by rfl) T.m_tuple (by decide +kernel) rfl) pa_nil))))) (pw_or (pt_cmpR op_ne (pe_callB call_len_seq (by rfl) T.m_len (by decide +kernel) (pa_cons (pv 0) pa_nil)) pe_int (nomark _)) (pw_or (pt_not (pt_val (pe_callB call_isi (by rfl) T.m_isinstance (by decide +kernel) (pa_cons (pe_ix (r := rIxT K) ix_tup (pv 0) pe_int (fun _ _ => rfl)) (pa_cons (pe_bltn (v := .ty "tuple") (u := .type "tuple") (by rfl) T.m_tuple (by decide +kernel) rfl) pa_nil))))) (pw_or1 (pt_cmpR op_ne (pe_callB call_len_seq (by rfl) T.m_len (by decide +kernel) (pa_cons (pe_ix (r := rIxT K) ix_tup (pv 0) pe_int (fun _ _ => rfl)) pa_nil)) pe_int (nomark _))))))) (pss_one (ps_ret pe_bl)) pss_nil)
      (pss_cons (ps_for PassesOwn.never rfl (pi_list (pe_lst (pa_cons (pe_ix (r := rIxT K) ix_tup (pv 0) pe_int (fun _ _ => rfl)) (pa_cons (pe_ix (r := rIxT K) ix_tup (pe_ix (r := rIxT K) ix_tup (pv 0) pe_int (fun _ _ => rfl)) pe_int (fun _ _ => rfl)) (pa_cons (pe_ix (r := rIxT K) ix_tup (pe_ix (r := rIxT K) ix_tup (pv 0) pe_int (fun _ _ => rfl)) pe_int (fun _ _ => rfl)) pa_nil))))) (pg_name (i := 1) sc_law_form.nd rfl (Or.inl rfl)) (pss_one (ps_if (PW.pt (pw_or (pt_not (pt_val (pe_callB call_isi (by rfl) T.m_isinstance (by decide +kernel) (pa_cons (pv 1) (pa_cons (pe_bltn (v := .ty "list") (u := .type "list") (by rfl) T.m_list (by decide +kernel) rfl) pa_nil))))) (pw_or1 (pt_val (pe_callB (cr_any (by rfl)) (by rfl) T.m_any (by decide +kernel) (pa_cons (pe_lc (own := [("one", 2)]) (g := gName 2) (tt := tYes) rfl sc_law_form.nd (pi_list (pv 1)) (blkOk_by (N := N__law_form) (sc := defScope s__law_form) (by decide +kernel)) (fun _ _ _ _ _ => (pg_name (i := 2) sc_law_form.nd rfl (Or.inl rfl))) (fun _ _ _ _ _ => pts_nil) (fun _ _ _ _ _ => (pe_or (pe_callB (r := rIsi K) call_isi (by rfl) T.m_isinstance (by decide +kernel) (pa_cons (pv 2) (pa_cons (pe_bltn (v := .ty "bool") (u := .type "bool") (by rfl) T.m_bool (by decide +kernel) rfl) pa_nil))) (pe_one (pe_not (pe_callB (r := rIsi K) call_isi (by rfl) T.m_isinstance (by decide +kernel) (pa_cons (pv 2) (pa_cons (pe_bltn (v := .ty "int") (u := .type "int") (by rfl) T.m_int (by decide +kernel) rfl) pa_nil)))))))) pa_nil)))))) (pss_one (ps_ret pe_bl)) pss_nil)))
      (pss_one (ps_ret pe_bl)))), ?_⟩
    refine ⟨_, rfl, .ref t, .ty "tuple", .type "tuple", .type "tuple", _, rfl, .ty _, .base (.tup ht), kit_ty (r := true) (by decide +kernel), _, rfl, iteF ?_⟩
    refine ⟨_, rfl, t, _, rfl, .inr (SqT.of ht), rfl, _, rfl, iteF ?_⟩
    refine ⟨_, rfl, t, _, 1, _, rfl, rfl, SqT.of ht, atI_nat (j := 1) rfl, .ref q1, .ty "tuple", .type "tuple", .type "tuple", _, rfl, .ty _, .base (.tup hq), kit_ty (r := true) (by decide +kernel), _, rfl, iteF ?_⟩
    refine ⟨_, rfl, t, _, 1, _, rfl, rfl, SqT.of ht, atI_nat (j := 1) rfl, q1, _, rfl, .inr (SqT.of hq), rfl, _, rfl, iteF ?_⟩
    refine ⟨_, rfl, t, _, 0, _, rfl, rfl, SqT.of ht, atI_nat (j := 0) rfl, _, rfl, t, _, 1, _, rfl, rfl, SqT.of ht, atI_nat (j := 1) rfl, q1, _, 0, _, rfl, rfl, SqT.of hq, atI_nat (j := 0) rfl, _, rfl, t, _, 1, _, rfl, rfl, SqT.of ht, atI_nat (j := 1) rfl, q1, _, 1, _, rfl, rfl, SqT.of hq, atI_nat (j := 1) rfl, by show 3 ≤ sizeLine; decide, fun L nL => ?_⟩
    have s1 := same_new (o := .lst [.ref al, .ref ul, .ref vl]) nL
    have hL : (upd H L (.lst [.ref al, .ref ul, .ref vl])) L = some (.lst [.ref al, .ref ul, .ref vl]) := upd_same
    generalize (upd H L (.lst [.ref al, .ref ul, .ref vl])) = H1 at s1 hL ⊢
    refine ⟨L, rfl, ⟨_, SqL.of hL⟩, for_list (xs := [.ref al, .ref ul, .ref vl]) (fun i σ Hx => ∃ y1 : Option V, σ = [some (.ref t), y1, none] ∧ Same H1 Hx) ⟨none, rfl, Same.refl _⟩ (fun i σ Hx _ h => ?_) ?_ ?_⟩
    · obtain ⟨y, _, s⟩ := h
      exact SqL.of (s _ _ hL)
    · rintro i w σ Hx hw ⟨y1, rfl, sx⟩
      obtain ⟨l, xs, rfl, hl, lx⟩ : ∃ (l : Addr) (xs : List Int), w = .ref l ∧ Hx l = some (.lst (vi xs)) ∧ xs.length ≤ 1000 := by
        have hm := List.mem_of_getElem? hw
        have sx' := s1.trans sx
        rcases List.mem_cons.mp hm with rfl | hm
        · exact ⟨al, as, rfl, sx' _ _ ha, la⟩
        rcases List.mem_cons.mp hm with rfl | hm
        · exact ⟨ul, us, rfl, sx' _ _ hu, lu⟩
        · rw [List.mem_singleton.mp hm]
          exact ⟨vl, vs, rfl, sx' _ _ hv, lv⟩
      refine ⟨_, rfl, .ref l, .ty "list", .type "list", .type "list", _, rfl, .ty _, .base (.lst hl), kit_ty (r := true) (by decide +kernel), _, rfl, iteF ?_⟩
      refine ⟨_, rfl, l, rfl, ⟨_, SqL.of hl⟩, fun D nD => lcA (n := xs.length) (by have w := walk_list (K := K) (a := l) (xs := vi xs); rw [vi_len] at w; exact w) (fun _ => .bl false) nD (by omega) (fun Hz sz => SqL.of (sz _ _ hl)) (fun i x Hz Hz' Q hi sz y qt => ?_) fun H2 s2 hD => ?_⟩
      · obtain ⟨rfl, y⟩ := y
        obtain ⟨k, hk, rfl, _⟩ := int_at y
        exact ⟨rfl, _, rfl, .int k, .ty "bool", .type "int", .type "bool", false, rfl, .ty _, .base (.int k), kit_ty (by decide +kernel), _, rfl, iteF ⟨_, rfl, .int k, .ty "int", .type "int", .type "int", true, rfl, .ty _, .base (.int k), kit_ty (by decide +kernel), _, rfl, qt _ (Same.refl _)⟩⟩
      rw [bl_map] at hD
      refine ⟨D, _, rfl, SqL.of hD, _, rfl, ?_⟩
      rw [show ((List.range xs.length).map fun (_ : Nat) => false).any id = false from Bool.eq_false_iff.mpr fun z => by
        obtain ⟨i, hi, e⟩ := any_map.mp z
        cases e]
      exact iteF ⟨_, rfl, sx.trans s2⟩
    rintro σ Hx ⟨y1, rfl, sx⟩
    exact q _ (s1.trans sx)

end K15
namespace K15
open PySem PySem.Spec PyProof.Rows L2 V0
/-! ### alike data are told to be so -/
def clsOf : PyData → Value
  | .none => .type "NoneType"
  | .bool _ => .type "bool"
  | .int _ => .type "int"
  | .str _ => .type "str"
  | .list _ => .type "list"
  | .tuple _ => .type "tuple"
  | .dict _ => .type "dict"
def isTup : PyData → Bool
  | .tuple _ => true
  | _ => false
def isLst : PyData → Bool
  | .list _ => true
  | _ => false
def items : PyData → List PyData
  | .list ds => ds
  | .tuple ds => ds
  | _ => []
mutual
def okD : PyData → Prop
  | .list ds => ds.length ≤ 1000 ∧ okDs ds
  | .tuple ds => ds.length ≤ 1000 ∧ okDs ds
  | _ => True
def okDs : List PyData → Prop
  | [] => True
  | d :: ds => okD d ∧ okDs ds
end
theorem okDs_get : ∀ {ds : List PyData} {i : Nat} {d : PyData}, okDs ds → ds[i]? = some d → okD d
  | [], _, _, _, h => by simp at h
  | _ :: _, 0, _, k, h => by
    cases h
    simp only [okDs] at k
    exact k.1
  | _ :: _, i + 1, _, k, h => by
    simp only [okDs] at k
    exact okDs_get (i := i) k.2 h
theorem depth_get : ∀ {ds : List PyData} {i : Nat} {d : PyData}, ds[i]? = some d → d.depth ≤ PyData.depthAll ds
  | [], _, _, h => by simp at h
  | _ :: _, 0, _, h => by
    cases h
    simp only [PyData.depthAll]
    omega
  | _ :: ds, i + 1, _, h => by
    have := depth_get (ds := ds) (i := i) h
    simp only [PyData.depthAll]
    omega
theorem dhs_get {H : Hp} : ∀ {vs : List V} {ds : List PyData} {i : Nat} {d : PyData}, DhAll H vs ds → ds[i]? = some d → ∃ v, vs[i]? = some v ∧ Dh H v d
  | _, [], _, _, _, h => by simp at h
  | _, _ :: _, 0, _, k, h => by
    cases h
    cases k with
    | cons k1 k2 => exact ⟨_, rfl, k1⟩
  | _, _ :: _, i + 1, _, k, h => by
    cases k with
    | cons k1 k2 => exact dhs_get (i := i) k2 h
theorem dhs_len {H : Hp} : ∀ {vs : List V} {ds : List PyData}, DhAll H vs ds → vs.length = ds.length
  | _, [], k => by cases k; rfl
  | _, _ :: _, k => by
    cases k with
    | cons k1 k2 => rw [List.length_cons, List.length_cons, dhs_len k2]
theorem ty_dh {K : PySem.W.Frag} {H : Hp} : ∀ {x : V} {d : PyData}, Dh H x d → TyX K H x (clsOf d)
  | _, .none, h => by cases h; exact .base .non
  | _, .bool b, h => by cases h; exact .base (.bl b)
  | _, .int i, h => by cases h; exact .base (.int i)
  | _, .str z, h => by cases h; exact .base (.str z)
  | _, .list ds, h => by
    cases h with
    | lst h1 _ => exact .base (.lst h1)
  | _, .tuple ds, h => by
    cases h with
    | tup h1 _ => exact .base (.tup h1)
  | _, .dict _, h => by cases h
theorem kit_tup {K : PySem.W.Frag} {H : Hp} {x : V} {d : PyData} (h : Dh H x d) : PySem.W.kitOne K (clsOf d) (.type "tuple") = some (isTup d) := by
  cases h with
  | non => exact kit_ty (r := false) (by decide +kernel)
  | bl _ => exact kit_ty (r := false) (by decide +kernel)
  | int _ => exact kit_ty (r := false) (by decide +kernel)
  | str _ => exact kit_ty (r := false) (by decide +kernel)
  | lst _ _ => exact kit_ty (r := false) (by decide +kernel)
  | tup _ _ => exact kit_ty (r := true) (by decide +kernel)
theorem kit_lst {K : PySem.W.Frag} {H : Hp} {x : V} {d : PyData} (h : Dh H x d) : PySem.W.kitOne K (clsOf d) (.type "list") = some (isLst d) := by
  cases h with
  | non => exact kit_ty (r := false) (by decide +kernel)
  | bl _ => exact kit_ty (r := false) (by decide +kernel)
  | int _ => exact kit_ty (r := false) (by decide +kernel)
  | str _ => exact kit_ty (r := false) (by decide +kernel)
  | lst _ _ => exact kit_ty (r := true) (by decide +kernel)
  | tup _ _ => exact kit_ty (r := false) (by decide +kernel)
theorem kit_seq {K : PySem.W.Frag} {H : Hp} {x : V} {d : PyData} (h : Dh H x d) : PySem.W.kitAny K (clsOf d) [.type "tuple", .type "list"] = some (isTup d || isLst d) := by
  refine kitAny_cons (kit_tup h) (fun e => ?_) (fun e => by rw [e]; rfl)
  refine kitAny_cons (kit_lst h) (fun e' => ?_) (fun e' => by rw [e', Bool.or_true])
  rw [e, e']
  rfl
theorem dh_items {K : PySem.W.Frag} {H : Hp} {x : V} {d : PyData} (h : Dh H x d) (hs : (isTup d || isLst d) = true) : ∃ p us, x = .ref p ∧ DhAll H us (items d) ∧ ∀ H', Same H H' → (SqL K H' p us ∨ SqT K H' p us) := by
  cases h with
  | lst h1 h2 => exact ⟨_, _, rfl, h2, fun H' s => .inl (SqL.of (s _ _ h1))⟩
  | tup h1 h2 => exact ⟨_, _, rfl, h2, fun H' s => .inr (SqT.of (s _ _ h1))⟩
  | non => cases hs
  | bl _ => cases hs
  | int _ => cases hs
  | str _ => cases hs
theorem ok_items {d : PyData} (h : okD d) (hs : (isTup d || isLst d) = true) : (items d).length ≤ 1000 ∧ okDs (items d) ∧ d.depth = PyData.depthAll (items d) + 1 := by
  cases d with
  | list ds =>
    simp only [okD] at h
    exact ⟨h.1, h.2, by simp only [PyData.depth, items]⟩
  | tuple ds =>
    simp only [okD] at h
    exact ⟨h.1, h.2, by simp only [PyData.depth, items]⟩
  | none => cases hs
  | bool _ => cases hs
  | int _ => cases hs
  | str _ => cases hs
  | dict _ => cases hs
theorem rIx_of {K : PySem.W.Frag} {H : Hp} {p : Addr} {xs : List V} {i : Int} {v : V} {Q : VK} (h : SqL K H p xs ∨ SqT K H p xs) (e : atI xs i = some v) (q : Q v H) : rIx K (.ref p) (.int i) H Q := by
  rcases h with h | h
  · exact .inl ⟨p, xs, i, v, rfl, rfl, h, e, q⟩
  · exact .inr (.inl ⟨p, xs, i, v, rfl, rfl, h, e, q⟩)
theorem all_trues (j : Nat) : (List.replicate j true).all id = true := by
  induction j with
  | zero => rfl
  | succ j ih => rw [List.replicate_succ, List.all_cons, ih]; rfl
def SM (K : PySem.W.Frag) (M : Nat) : Sp := fun vs H Q _ => ∃ (x y : V) (d : PyData), vs = [x, y] ∧ Dh H x d ∧ Dh H y d ∧ okD d ∧ d.depth < M ∧ ∀ H', Same H H' → Q (.bl true) H'
def sp__law_same (K : PySem.W.Frag) : Sp := SM K 16
theorem same_ind {C_Matching : Addr} {P : Program} {w : World} {K : PySem.W.Frag} {mg : Str → Option Value} {base : Heap} {f : Addr} {fd : FuncData} (F : Fun K "_law_same" "_law_same" s__law_same f fd) (T : Txt K mg C_Matching) (D__law_same : Def K mg "_law_same" f fd ["actual", "expected"]) :
    ∀ M, FnOk P w K mg base CX0 (M + 2) f fd ["actual", "expected"] (SM K M)
  | 0 => by
    refine ⟨fun vs H Q E h => ?_, fun A outer s H args us vs Q E hr he hb hv h => ?_⟩
    · obtain ⟨x, y, d, rfl, _⟩ := h
      rfl
    · obtain ⟨x, y, d, _, _, _, _, lt, _⟩ := h
      exact absurd lt (Nat.not_lt_zero _)
  | M + 1 => by
    have G__law_same := same_ind (P := P) (w := w) (base := base) F T D__law_same M
    refine F.ok sc_law_same (fun vs H Q E h => ?_) (fun cdv A outer s H vs Q E hr h => ?_)
    · obtain ⟨x, y, d, rfl, _⟩ := h
      rfl
    · obtain ⟨x, y, d, rfl, dx, dy, ok, lt, q⟩ := h
      refine ⟨_, (pss_cons (ps_if (pt_val (pe_callB (r := rIsiT K) call_isiT (by rfl) T.m_isinstance (by decide +kernel) (pa_cons (pv 1) (pa_cons (pe_tup (pa_cons (pe_bltn (v := .ty "tuple") (u := .type "tuple") (by rfl) T.m_tuple (by decide +kernel) rfl) (pa_cons (pe_bltn (v := .ty "list") (u := .type "list") (by rfl) T.m_list (by decide +kernel) rfl) pa_nil))) pa_nil)))) (pss_cons (ps_if (PW.pt (pw_or (pt_cmpR op_ne (pe_callB call_isi (by rfl) T.m_isinstance (by decide +kernel) (pa_cons (pv 0) (pa_cons (pe_bltn (v := .ty "tuple") (u := .type "tuple") (by rfl) T.m_tuple (by decide +kernel) rfl) pa_nil))) (pe_callB call_isi (by rfl) T.m_isinstance (by decide +kernel) (pa_cons (pv 1) (pa_cons (pe_bltn (v := .ty "tuple") (u := .type "tuple") (by rfl) T.m_tuple (by decide +kernel) rfl) pa_nil))) (nomark _)) (pw_or1 (pt_cmpR op_ne (pe_callB call_isi (by rfl) T.m_isinstance (by decide +kernel) (pa_cons (pv 0) (pa_cons (pe_bltn (v := .ty "list") (u := .type "list") (by rfl) T.m_list (by decide +kernel) rfl) pa_nil))) (pe_callB call_isi (by rfl) T.m_isinstance (by decide +kernel) (pa_cons (pv 1) (pa_cons (pe_bltn (v := .ty "list") (u := .type "list") (by rfl) T.m_list (by decide +kernel) rfl) pa_nil))) (nomark _))))) (pss_one (ps_ret pe_bl)) pss_nil)
      (pss_one (ps_ret (pe_and (pe_cmpR op_eq (pe_callB call_len_seq (by rfl) T.m_len (by decide +kernel) (pa_cons (pv 0) pa_nil)) (pe_callB call_len_seq (by rfl) T.m_len (by decide +kernel) (pa_cons (pv 1) pa_nil)) (nomark _)) (pe_one (pe_callB (cr_all (by rfl)) (by rfl) T.m_all (by decide +kernel) (pa_cons (pe_lc (own := [("k", 2)]) (g := gName 2) (tt := tYes) rfl sc_law_same.nd (pi_range1 rfl T.m_range (pa_cons (pe_callB call_len_seq (by rfl) T.m_len (by decide +kernel) (pa_cons (pv 1) pa_nil)) pa_nil)) (blkOk_by (N := N__law_same) (sc := defScope s__law_same) (by decide +kernel)) (fun _ _ _ _ _ => (pg_name (i := 2) sc_law_same.nd rfl (Or.inl rfl))) (fun _ _ _ _ _ => pts_nil) (fun _ _ _ _ _ => (pe_call G__law_same (hr.mono (by omega)) (by rfl) D__law_same.m D__law_same.k D__law_same.b .nil pass0 (pa_cons (pe_ix (r := rIx K) ix_seq (pv 0) (pv 2) (fun _ _ => rfl)) (pa_cons (pe_ix (r := rIx K) ix_seq (pv 1) (pv 2) (fun _ _ => rfl)) pa_nil))))) pa_nil))))))) pss_nil)
      (pss_cons (ps_if (pt_val (pe_callB call_isi (by rfl) T.m_isinstance (by decide +kernel) (pa_cons (pv 1) (pa_cons (pe_bltn (v := .ty "str") (u := .type "str") (by rfl) T.m_str (by decide +kernel) rfl) pa_nil)))) (pss_one (ps_ret (pe_and (pe_callB call_isi (by rfl) T.m_isinstance (by decide +kernel) (pa_cons (pv 0) (pa_cons (pe_bltn (v := .ty "str") (u := .type "str") (by rfl) T.m_str (by decide +kernel) rfl) pa_nil))) (pe_one (pe_cmpR op_eq (pv 0) (pv 1) (nomark _)))))) pss_nil)
      (pss_cons (ps_if (pt_cmpR op_isN (pv 1) pe_non (nomark _)) (pss_one (ps_ret (pe_cmpR op_isN (pv 0) pe_non (nomark _)))) pss_nil)
      (pss_cons (ps_if (PW.pt (pw_or (pt_val (pe_callB call_isi (by rfl) T.m_isinstance (by decide +kernel) (pa_cons (pv 1) (pa_cons (pe_bltn (v := .ty "bool") (u := .type "bool") (by rfl) T.m_bool (by decide +kernel) rfl) pa_nil)))) (pw_or1 (pt_val (pe_callB call_isi (by rfl) T.m_isinstance (by decide +kernel) (pa_cons (pv 0) (pa_cons (pe_bltn (v := .ty "bool") (u := .type "bool") (by rfl) T.m_bool (by decide +kernel) rfl) pa_nil))))))) (pss_one (ps_ret (pe_and (pe_callB call_isi (by rfl) T.m_isinstance (by decide +kernel) (pa_cons (pv 1) (pa_cons (pe_bltn (v := .ty "bool") (u := .type "bool") (by rfl) T.m_bool (by decide +kernel) rfl) pa_nil))) (pe_and (pe_callB call_isi (by rfl) T.m_isinstance (by decide +kernel) (pa_cons (pv 0) (pa_cons (pe_bltn (v := .ty "bool") (u := .type "bool") (by rfl) T.m_bool (by decide +kernel) rfl) pa_nil))) (pe_one (pe_cmpR op_eq (pv 0) (pv 1) (nomark _))))))) pss_nil)
      (pss_one (ps_ret (pe_and (pe_callB call_isi (by rfl) T.m_isinstance (by decide +kernel) (pa_cons (pv 0) (pa_cons (pe_bltn (v := .ty "int") (u := .type "int") (by rfl) T.m_int (by decide +kernel) rfl) pa_nil))) (pe_one (pe_cmpR op_eq (pv 0) (pv 1) (nomark _)))))))))), ?_⟩
      refine ⟨_, rfl, by show 2 ≤ sizeLine; decide, fun t nt => ?_⟩
      have s1 := same_new (o := .tup [.ty "tuple", .ty "list"]) nt
      have e1 : (upd H t (.tup [.ty "tuple", .ty "list"])) t = some (.tup [.ty "tuple", .ty "list"]) := upd_same
      generalize (upd H t (.tup [.ty "tuple", .ty "list"])) = H1 at s1 e1 ⊢
      have dx := dh_same s1 _ _ dx
      have dy := dh_same s1 _ _ dy
      refine ⟨y, t, _, clsOf d, [.type "tuple", .type "list"], _, rfl, e1, .cons (.ty _) (.cons (.ty _) .nil), ty_dh dy, kit_seq dy, _, rfl, ?_⟩
      by_cases hs : (isTup d || isLst d) = true
      · rw [hs]
        obtain ⟨px, ux, rfl, ax, sx⟩ := dh_items (K := K) dx hs
        obtain ⟨py, uy, rfl, ay, sy⟩ := dh_items (K := K) dy hs
        obtain ⟨l1, ok1, dp⟩ := ok_items ok hs
        have lx := dhs_len ax
        have ly := dhs_len ay
        refine iteT ⟨_, rfl, .ref px, .ty "tuple", clsOf d, .type "tuple", _, rfl, .ty _, ty_dh dx, kit_tup dx, _, rfl, .ref py, .ty "tuple", clsOf d, .type "tuple", _, rfl, .ty _, ty_dh dy, kit_tup dy, rfl, _, rfl, ?_⟩
        rw [decide_eq_true rfl]
        refine iteF ⟨_, rfl, .ref px, .ty "list", clsOf d, .type "list", _, rfl, .ty _, ty_dh dx, kit_lst dx, _, rfl, .ref py, .ty "list", clsOf d, .type "list", _, rfl, .ty _, ty_dh dy, kit_lst dy, rfl, _, rfl, ?_⟩
        rw [decide_eq_true rfl]
        refine iteF ?_
        refine ⟨_, rfl, px, ux, rfl, sx _ (Same.refl _), _, rfl, py, uy, rfl, sy _ (Same.refl _), rfl, _, rfl, ?_⟩
        rw [lx, ly, decide_eq_true rfl]
        refine iteT ⟨_, rfl, py, uy, rfl, sy _ (Same.refl _), _, rfl, by omega, by omega, fun D nD => lc_range (n := uy.length) (fun j Hx => Same H1 Hx ∧ Hx D = some (.lst ((List.replicate j true).map V.bl))) ⟨same_new nD, upd_same⟩ ?_ ?_⟩
        · rintro j Hx hj ⟨sz, hD⟩
          have hjd : j < (items d).length := by omega
          obtain ⟨u1, hu1, d1⟩ := dhs_get ax (List.getElem?_eq_getElem hjd)
          obtain ⟨u2, hu2, d2⟩ := dhs_get ay (List.getElem?_eq_getElem hjd)
          have okj := okDs_get ok1 (List.getElem?_eq_getElem hjd)
          have dj := depth_get (List.getElem?_eq_getElem hjd)
          refine ⟨rfl, _, rfl, _, rfl, rIx_of (sx _ sz) (by rw [Int.zero_add]; exact atI_nat hu1) ⟨_, rfl, _, rfl, rIx_of (sy _ sz) (by rw [Int.zero_add]; exact atI_nat hu2) ⟨u1, u2, (items d)[j], rfl, dh_same sz _ _ d1, dh_same sz _ _ d2, okj, by omega, fun Hy s2 => ?_⟩⟩⟩
          refine ⟨_, s2 _ _ hD, by rw [List.length_map, List.length_replicate]; exact small1000 (by omega), same_mut (sz.trans s2) nD, ?_⟩
          rw [upd_same, List.replicate_succ', List.map_append]
          rfl
        · rintro Hx ⟨sz, hD⟩
          refine ⟨D, _, rfl, SqL.of hD, ?_⟩
          rw [all_trues]
          exact q _ (s1.trans sz)
      · have hs' : (isTup d || isLst d) = false := by simpa using hs
        rw [hs']
        refine iteF ?_
        cases d with
        | none =>
          cases dx
          cases dy
          refine ⟨_, rfl, .non, .ty "str", .type "NoneType", .type "str", false, rfl, .ty _, .base .non, kit_ty (by decide +kernel), _, rfl, iteF ?_⟩
          refine ⟨_, rfl, rfl, _, rfl, ?_⟩
          rw [decide_eq_true rfl]
          refine iteT ⟨_, rfl, rfl, ?_⟩
          rw [decide_eq_true rfl]
          exact q _ s1
        | bool b =>
          cases dx
          cases dy
          refine ⟨_, rfl, .bl b, .ty "str", .type "bool", .type "str", false, rfl, .ty _, .base (.bl b), kit_ty (by decide +kernel), _, rfl, iteF ?_⟩
          refine ⟨_, rfl, rfl, _, rfl, ?_⟩
          rw [decide_eq_false (by intro z; cases z)]
          refine iteF ⟨_, rfl, .bl b, .ty "bool", .type "bool", .type "bool", true, rfl, .ty _, .base (.bl b), kit_ty (by decide +kernel), _, rfl, iteT ?_⟩
          refine ⟨_, rfl, .bl b, .ty "bool", .type "bool", .type "bool", true, rfl, .ty _, .base (.bl b), kit_ty (by decide +kernel), _, rfl, iteT ?_⟩
          refine ⟨_, rfl, .bl b, .ty "bool", .type "bool", .type "bool", true, rfl, .ty _, .base (.bl b), kit_ty (by decide +kernel), _, rfl, iteT ?_⟩
          refine ⟨_, rfl, _, rfl, rfl, ?_⟩
          rw [decide_eq_true rfl]
          exact q _ s1
        | int i =>
          cases dx
          cases dy
          refine ⟨_, rfl, .int i, .ty "str", .type "int", .type "str", false, rfl, .ty _, .base (.int i), kit_ty (by decide +kernel), _, rfl, iteF ?_⟩
          refine ⟨_, rfl, rfl, _, rfl, ?_⟩
          rw [decide_eq_false (by intro z; cases z)]
          refine iteF ⟨_, rfl, .int i, .ty "bool", .type "int", .type "bool", false, rfl, .ty _, .base (.int i), kit_ty (by decide +kernel), _, rfl, iteF ?_⟩
          refine ⟨_, rfl, .int i, .ty "bool", .type "int", .type "bool", false, rfl, .ty _, .base (.int i), kit_ty (by decide +kernel), _, rfl, iteF ?_⟩
          refine ⟨_, rfl, .int i, .ty "int", .type "int", .type "int", true, rfl, .ty _, .base (.int i), kit_ty (by decide +kernel), _, rfl, iteT ?_⟩
          refine ⟨_, rfl, _, rfl, rfl, ?_⟩
          rw [decide_eq_true rfl]
          exact q _ s1
        | str z =>
          cases dx
          cases dy
          refine ⟨_, rfl, .str z, .ty "str", .type "str", .type "str", true, rfl, .ty _, .base (.str z), kit_ty (by decide +kernel), _, rfl, iteT ?_⟩
          refine ⟨_, rfl, .str z, .ty "str", .type "str", .type "str", true, rfl, .ty _, .base (.str z), kit_ty (by decide +kernel), _, rfl, iteT ?_⟩
          refine ⟨_, rfl, _, rfl, rfl, ?_⟩
          rw [decide_eq_true rfl]
          exact q _ s1
        | list ds => cases hs'
        | tuple ds => cases hs'
        | dict ds => cases dx
theorem ok__law_same {P : Program} {w : World} {K : PySem.W.Frag} {mg : Str → Option Value} {base : Heap} {C_Matching : Addr} {f  : Addr} {fd  : FuncData} (F : Fun K "_law_same" "_law_same" s__law_same f fd) (T : Txt K mg C_Matching)
    (D__law_same : Def K mg "_law_same" f fd ["actual", "expected"]) :
    FnOk P w K mg base CX0 30 f fd ["actual", "expected"] (sp__law_same K) := by
  exact (same_ind F T D__law_same 16).mono (by decide)

end K15
namespace K15
open PySem PySem.Spec PyProof.Rows L2 V0
/-! ### texts of great data -/
structure Bg (d : PyData) (n k : Nat) : Prop where
  sh : d.showable = true
  lv : d.leavesShort 52 = true
  bk : d.bulk ≤ n
  nd : d.hasDict = false
  dp : d.depth ≤ k
theorem Bg.int {i : Int} (h : i.natAbs ≤ 10 ^ 50) : Bg (.int i) 0 0 := by
  refine ⟨?_, ?_, by simp only [PyData.bulk]; exact Nat.le_refl _, by simp only [PyData.hasDict], by simp only [PyData.depth]; exact Nat.le_refl _⟩
  · simp only [PyData.showable, decide_eq_true_eq]
    by_cases h0 : i.natAbs = 0
    · rw [h0]
      decide
    · exact (Nat.log2_lt h0).mpr (Nat.lt_of_le_of_lt h (by decide +kernel))
  · have e := int_text_length_le10 (k := 51) (a := i) (by decide) (Nat.lt_of_le_of_lt h (by decide +kernel))
    simp only [PyData.leavesShort, decide_eq_true_eq]
    show (Str.ofString (toString i)).length ≤ 52
    rw [PySem.ofString_length]
    omega
theorem Bg.all {n k : Nat} : ∀ {ds : List PyData}, (∀ d ∈ ds, Bg d n k) → PyData.showableAll ds = true ∧ PyData.leavesShortAll 52 ds = true ∧ PyData.bulkAll ds ≤ ds.length * (n + 1) ∧ PyData.hasDictAll ds = false ∧ PyData.depthAll ds ≤ k
  | [], _ => ⟨by simp only [PyData.showableAll], by simp only [PyData.leavesShortAll], by simp only [PyData.bulkAll]; exact Nat.zero_le _, by simp only [PyData.hasDictAll], by simp only [PyData.depthAll]; exact Nat.zero_le _⟩
  | d :: ds, h => by
    obtain ⟨i1, i2, i3, i4, i5⟩ := Bg.all fun e he => h e (List.mem_cons_of_mem _ he)
    have hd := h d List.mem_cons_self
    refine ⟨by simp only [PyData.showableAll, hd.sh, i1, Bool.and_self], by simp only [PyData.leavesShortAll, hd.lv, i2, Bool.and_self], ?_, by simp only [PyData.hasDictAll, hd.nd, i4, Bool.or_self], by simp only [PyData.depthAll]; exact Nat.max_le.mpr ⟨hd.dp, i5⟩⟩
    have e : (d :: ds).length * (n + 1) = ds.length * (n + 1) + (n + 1) := by rw [List.length_cons]; exact Nat.succ_mul _ _
    rw [e]
    generalize ds.length * (n + 1) = m at i3 ⊢
    simp only [PyData.bulkAll]
    have := hd.bk
    omega
theorem Bg.list {n k : Nat} {ds : List PyData} (h : ∀ d ∈ ds, Bg d n k) : Bg (.list ds) (ds.length * (n + 1)) (k + 1) := by
  obtain ⟨h1, h2, h3, h4, h5⟩ := Bg.all h
  exact ⟨by simp only [PyData.showable, h1], by simp only [PyData.leavesShort, h2], by simp only [PyData.bulk]; exact h3, by simp only [PyData.hasDict, h4], by simp only [PyData.depth]; exact Nat.succ_le_succ h5⟩
theorem Bg.tup {n k : Nat} {ds : List PyData} (h : ∀ d ∈ ds, Bg d n k) : Bg (.tuple ds) (ds.length * (n + 1)) (k + 1) := by
  obtain ⟨h1, h2, h3, h4, h5⟩ := Bg.all h
  exact ⟨by simp only [PyData.showable, h1], by simp only [PyData.leavesShort, h2], by simp only [PyData.bulk]; exact h3, by simp only [PyData.hasDict, h4], by simp only [PyData.depth]; exact Nat.succ_le_succ h5⟩
theorem Bg.mono {d : PyData} {n k n' k' : Nat} (h : Bg d n k) (a : n ≤ n') (b : k ≤ k') : Bg d n' k' := ⟨h.sh, h.lv, Nat.le_trans h.bk a, h.nd, Nat.le_trans h.dp b⟩
theorem repr_big {K : PySem.W.Frag} {H : Hp} {a : Addr} {d : PyData} {n k : Nat} {Q : VK} (hx : Dh H (.ref a) d) (b : Bg d n k) (hn : n ≤ 300000) (hk : k ≤ 60) (q : Q (.str d.shown) H) : rRepr K [.ref a] H Q := by
  refine ⟨a, d, rfl, dh_dp _ _ hx, ⟨b.sh, b.nd, Nat.le_trans b.dp hk, ?_⟩, q⟩
  have h := PyData.shown_le_bulk 52 (by decide) d b.lv
  have e : (52 + 2) * d.bulk ≤ 54 * 300000 := Nat.mul_le_mul_left _ (Nat.le_trans b.bk hn)
  exact Nat.le_trans h (Nat.le_trans (Nat.add_le_add_right e _) (by decide))
theorem Bg.ints {xs : List Int} {n : Nat} (h : ∀ x ∈ xs, x.natAbs ≤ 10 ^ 50) (l : xs.length ≤ n) : Bg (PySem.W.Datum.toD xs) n 1 := by
  have h2 : Bg (.list (xs.map PySem.W.Datum.toD)) ((xs.map PySem.W.Datum.toD).length * (0 + 1)) (0 + 1) := Bg.list fun d hd => by
    obtain ⟨x, hx, rfl⟩ := List.mem_map.mp hd
    exact Bg.int (h x hx)
  exact h2.mono (by rw [List.length_map]; omega) (Nat.le_refl _)
theorem Bg.costs {cs : List (List Int)} (h : ∀ row ∈ cs, row.length ≤ 60 ∧ ∀ x ∈ row, x.natAbs ≤ 10 ^ 50) (l : cs.length ≤ 60) : Bg (PySem.W.Datum.toD cs) 3660 2 := by
  have h2 : Bg (.list (cs.map PySem.W.Datum.toD)) ((cs.map PySem.W.Datum.toD).length * (60 + 1)) (1 + 1) := Bg.list fun d hd => by
    obtain ⟨row, hr, rfl⟩ := List.mem_map.mp hd
    exact Bg.ints (h row hr).2 (h row hr).1
  exact h2.mono (by rw [List.length_map]; omega) (Nat.le_refl _)
/-- costs, an assignment and potentials as one tuple -/
def trio (cs : List (List Int)) (as us vs : List Int) : PyData := .tuple [PySem.W.Datum.toD cs, PySem.W.Datum.toD as, .tuple [PySem.W.Datum.toD us, PySem.W.Datum.toD vs]]
theorem Bg.trio {cs : List (List Int)} {as us vs : List Int} (h : Bg (PySem.W.Datum.toD cs) 3660 2) (a : BL (10 ^ 50) as) (u : BL (10 ^ 50) us) (v : BL (10 ^ 50) vs) (la : as.length ≤ 100) (lu : us.length ≤ 100) (lv : vs.length ≤ 100) : Bg (trio cs as us vs) 12000 4 := by
  have h1 : Bg (.tuple [PySem.W.Datum.toD us, PySem.W.Datum.toD vs]) (2 * (100 + 1)) (1 + 1) := Bg.tup fun d hd => by
    rcases List.mem_cons.mp hd with rfl | hd
    · exact Bg.ints u lu
    · rw [List.mem_singleton.mp hd]
      exact Bg.ints v lv
  have h2 : Bg (.tuple [PySem.W.Datum.toD cs, PySem.W.Datum.toD as, .tuple [PySem.W.Datum.toD us, PySem.W.Datum.toD vs]]) (3 * (3660 + 1)) (2 + 1) := Bg.tup fun d hd => by
    rcases List.mem_cons.mp hd with rfl | hd
    · exact h
    rcases List.mem_cons.mp hd with rfl | hd
    · exact (Bg.ints a la).mono (by omega) (by omega)
    · rw [List.mem_singleton.mp hd]
      exact h1.mono (by omega) (by omega)
  exact h2.mono (by omega) (by omega)
theorem dh_trio {H : Hp} {t al q ul vl : Addr} {v : V} {cs : List (List Int)} {as us vs : List Int} (ht : H t = some (.tup [v, .ref al, .ref q])) (dv : Dv H v cs) (hq : H q = some (.tup [.ref ul, .ref vl])) (ha : H al = some (.lst (vi as))) (hu : H ul = some (.lst (vi us))) (hv : H vl = some (.lst (vi vs))) : Dh H (.ref t) (trio cs as us vs) :=
  Dh.tup ht (.cons dv (.cons (Dv.intl ha) (.cons (Dh.tup hq (.cons (Dv.intl hu) (.cons (Dv.intl hv) .nil))) .nil)))
theorem tNil1 {σ : L2.St} {H : Hp} {R : List V → Hp → VK → Prop} {a : V} {Q : VK} (h : R [a] H Q) : tNil σ H (fun xs H2 => R (a :: xs) H2 Q) := h
theorem ok_bool (k : Bool) : okD (.bool k) := by simp only [okD]
theorem bool_eq {k k' : Bool} {P : Prop} (h : k = true ↔ P) (h' : k' = true ↔ P) : k = k' := by
  cases k <;> cases k' <;> simp_all
theorem Dvs.hid_rows {A : Addr} {H : Hp} (hA : H A = some (.lst [])) : ∀ {us : List V} {cs : List (List Int)}, Dvs H us cs → (∀ row ∈ cs, row ≠ []) → Dvs (hid A H) us cs
  | us, [], d, _ => by
    rw [d.nil_inv]
    exact .nil
  | us, r :: cs, d, h => by
    obtain ⟨v, us', rfl, hv, hs⟩ := d.cons_inv
    obtain ⟨a, rfl, ha⟩ := hv.intl_inv
    refine .cons (Dv.intl (hid_of (fun e => ?_) ha)) (Dvs.hid_rows hA hs fun row hr => h row (List.mem_cons_of_mem _ hr))
    rw [e, hA] at ha
    have e2 := HO.lst.inj (Option.some.inj ha)
    have := h r List.mem_cons_self
    cases r with
    | nil => exact this rfl
    | cons x r => cases e2
theorem Dv.hid_costs {A c : Addr} {H : Hp} {cs : List (List Int)} (d : Dv H (.ref c) cs) (hA : H A = some (.lst [])) (n : c ≠ A) (h : ∀ row ∈ cs, row ≠ []) : Dv (hid A H) (.ref c) cs := by
  obtain ⟨a, us, e, ha, hs⟩ := d.list_inv
  cases e
  exact Dv.list (hid_of n ha) (Dvs.hid_rows hA hs h)
/-- a told assignment with its potentials -/
structure Ent where
  t : Addr
  al : Addr
  q : Addr
  ul : Addr
  vl : Addr
  as : List Int
  us : List Int
  vs : List Int
structure EOk (H : Hp) (e : Ent) : Prop where
  ht : H e.t = some (.tup [.ref e.al, .ref e.q])
  aq : AQ H e.al e.q e.ul e.vl e.as e.us e.vs 60 (2 * 10 ^ 49)
theorem EOk.same {H H' : Hp} {e : Ent} (h : EOk H e) (s : Same H H') : EOk H' e := ⟨s _ _ h.ht, h.aq.same s⟩
def ents (es : List Ent) : List V := es.map fun e => .ref e.t
theorem EOk.of {H : Hp} {e : Ent} {p A : Addr} {xs : List V} {ys : List V} (h : EOk H e) (hA : H A = some (.lst xs)) (hp : H p = some (.lst ys)) (y : V) (ys' : List V) (ey : ys = y :: ys') (hy : ∀ i : Int, y ≠ .int i) (na : e.al ≠ A) (nu : e.ul ≠ A) (nv : e.vl ≠ A) : EOk (hid A (hid p H)) e := by
  have tn : ∀ {b B : Addr} {zs ws : List V}, H b = some (.tup zs) → H B = some (.lst ws) → b ≠ B := fun h1 h2 e => by
    rw [e, h2] at h1
    cases h1
  have pn : ∀ {b : Addr} {zs : List Int}, H b = some (.lst (vi zs)) → b ≠ p := fun {b zs} h1 e => by
    rw [e, hp, ey] at h1
    have e2 := HO.lst.inj (Option.some.inj h1)
    cases zs with
    | nil => cases e2
    | cons z zs => exact hy z (List.cons.inj e2).1
  have g : ∀ {b : Addr} {o : HO}, H b = some o → b ≠ A → b ≠ p → hid A (hid p H) b = some o := fun h1 n1 n2 => hid_of n1 (hid_of n2 h1)
  exact ⟨g h.ht (tn h.ht hA) (tn h.ht hp), ⟨g h.aq.hq (tn h.aq.hq hA) (tn h.aq.hq hp), g h.aq.ha na (pn h.aq.ha), g h.aq.hu nu (pn h.aq.hu), g h.aq.hv nv (pn h.aq.hv), h.aq.la, h.aq.lu, h.aq.lv, h.aq.ba, h.aq.bu, h.aq.bv⟩⟩
theorem ents_at {es : List Ent} {i : Nat} {w : V} (h : (ents es)[i]? = some w) : ∃ e, es[i]? = some e ∧ w = .ref e.t ∧ e ∈ es := by
  unfold ents at h
  rw [List.getElem?_map] at h
  obtain ⟨k, hk, e⟩ := Option.map_eq_some_iff.mp h
  exact ⟨k, hk, e.symm, List.mem_of_getElem? hk⟩
theorem lst_ne {H : Hp} {b A : Addr} {xs : List Int} {ys : List V} (h1 : H b = some (.lst (vi xs))) (h2 : H A = some (.lst ys)) (n : vi xs ≠ ys) : b ≠ A := fun e => by
  rw [e, h2] at h1
  exact n (HO.lst.inj (Option.some.inj h1)).symm

end K15
namespace K15
open PySem PySem.Spec PyProof.Rows L2 V0
/-! ### the law -/
theorem pick4 (a b c d k : Nat) (h : k < 4) : ∃ n : Nat, ([V.int (a : Nat), .int (b : Nat), .int (c : Nat), .int (d : Nat)] : List V)[k]? = some (.int (n : Nat)) ∧ (n = a ∨ n = b ∨ n = c ∨ n = d) := by
  have : k = 0 ∨ k = 1 ∨ k = 2 ∨ k = 3 := by omega
  rcases this with rfl | rfl | rfl | rfl
  · exact ⟨a, rfl, .inl rfl⟩
  · exact ⟨b, rfl, .inr (.inl rfl)⟩
  · exact ⟨c, rfl, .inr (.inr (.inl rfl))⟩
  · exact ⟨d, rfl, .inr (.inr (.inr rfl))⟩
def sp_law (K : PySem.W.Frag) : Sp := fun vs H Q _ => ∃ (a : Addr) (ns : List Int), vs = [.ref a] ∧ SqL K H a (vi ns) ∧ ns.length ≤ 63 ∧ ∀ H', Q (.bl true) H'
theorem hid2_same (A p : Addr) (H : Hp) : Same (hid A (hid p H)) (hid p H) := hid_same _ _
theorem total_eq {cs : List (List Int)} {as us vs as' us' vs' : List Int} (h : RightP cs as us vs) (h' : RightP cs as' us' vs') : total cs as = total cs as' := by
  have key : ∀ {as us vs as' us' vs' : List Int}, RightP cs as us vs → RightP cs as' us' vs' → total cs as ≤ total cs as' := fun {as us vs as' us' vs'} h h' => by
    have lb : (as'.map Int.toNat).length = cs.length := by rw [List.length_map, h'.la]
    have nb : (as'.map Int.toNat).Nodup := nodup_map_of h'.nd fun a ha b hb e => by
      have := h'.inr a ha
      have := h'.inr b hb
      omega
    have := h.least lb nb fun j hj => by
      obtain ⟨x, hx, rfl⟩ := List.mem_map.mp hj
      have := h'.inr x hx
      omega
    refine Int.le_trans this (Int.le_of_eq ?_)
    unfold total
    congr 1
    refine List.map_congr_left fun i hi => ?_
    rw [List.getElem?_map]
    cases as'[i]? <;> rfl
  exact Int.le_antisymm (key h h') (key h' h)
theorem ok_law {P : Program} {w : World} {K : PySem.W.Frag} {mg : Str → Option Value} {base : Heap} {C_Matching : Addr} {f f_law_draws f_law_draw f_law_planted f_law_plain fassigned f_law_form f_law_right f_law_total fassign_right f_law_unit f_law_others f_law_turned f_law_same : Addr} {fd fd_law_draws fd_law_draw fd_law_planted fd_law_plain fdassigned fd_law_form fd_law_right fd_law_total fdassign_right fd_law_unit fd_law_others fd_law_turned fd_law_same : FuncData} (F : Fun K "law" "law" s_law f fd) (T : Txt K mg C_Matching)
    (G__law_draws : FnOk P w K mg base CX0 1 f_law_draws fd_law_draws ["script"] (sp__law_draws K)) (D__law_draws : Def K mg "_law_draws" f_law_draws fd_law_draws ["script"])
    (G__law_draw : FnOk P w K mg base CX0 1 f_law_draw fd_law_draw ["draws", "limit"] (sp__law_draw K)) (D__law_draw : Def K mg "_law_draw" f_law_draw fd_law_draw ["draws", "limit"])
    (G__law_planted : FnOk P w K mg base CX0 3 f_law_planted fd_law_planted ["draws", "high", "wide"] (sp__law_planted K)) (D__law_planted : Def K mg "_law_planted" f_law_planted fd_law_planted ["draws", "high", "wide"])
    (G__law_plain : FnOk P w K mg base CX0 3 f_law_plain fd_law_plain ["draws", "high", "wide"] (sp__law_plain K)) (D__law_plain : Def K mg "_law_plain" f_law_plain fd_law_plain ["draws", "high", "wide"])
    (G_assigned : FnOk P w K mg base CX0 4 fassigned fdassigned ["costs"] (sp_assigned K)) (D_assigned : Def K mg "assigned" fassigned fdassigned ["costs"])
    (G__law_form : FnOk P w K mg base CX0 1 f_law_form fd_law_form ["told"] (sp__law_form K)) (D__law_form : Def K mg "_law_form" f_law_form fd_law_form ["told"])
    (G__law_right : FnOk P w K mg base CX0 2 f_law_right fd_law_right ["costs", "assignment", "potentials"] (sp__law_right K)) (D__law_right : Def K mg "_law_right" f_law_right fd_law_right ["costs", "assignment", "potentials"])
    (G__law_total : FnOk P w K mg base CX0 1 f_law_total fd_law_total ["costs", "assignment"] (sp__law_total K)) (D__law_total : Def K mg "_law_total" f_law_total fd_law_total ["costs", "assignment"])
    (G_assign_right : FnOk P w K mg base CX0 2 fassign_right fdassign_right ["costs", "assignment", "potentials"] (sp_assign_right K)) (D_assign_right : Def K mg "assign_right" fassign_right fdassign_right ["costs", "assignment", "potentials"])
    (G__law_unit : FnOk P w K mg base CX0 2 f_law_unit fd_law_unit ["draws"] (sp__law_unit K)) (D__law_unit : Def K mg "_law_unit" f_law_unit fd_law_unit ["draws"])
    (G__law_others : FnOk P w K mg base CX0 3 f_law_others fd_law_others ["draws", "costs", "wide"] (sp__law_others K)) (D__law_others : Def K mg "_law_others" f_law_others fd_law_others ["draws", "costs", "wide"])
    (G__law_turned : FnOk P w K mg base CX0 3 f_law_turned fd_law_turned ["draws", "order", "potentials", "unit"] (sp__law_turned K)) (D__law_turned : Def K mg "_law_turned" f_law_turned fd_law_turned ["draws", "order", "potentials", "unit"])
    (G__law_same : FnOk P w K mg base CX0 30 f_law_same fd_law_same ["actual", "expected"] (sp__law_same K)) (D__law_same : Def K mg "_law_same" f_law_same fd_law_same ["actual", "expected"]) :
    LawOk P w K mg base f fd ["script"] (sp_law K) := by
  refine lawOk F sclaw (k := 40) ⟨rfl, by decide, by decide⟩ (fun vs H Q E h => ?_) (fun cdv A outer s H vs Q E hr hgd h => ?_)
  · obtain ⟨a, ns, rfl, _⟩ := h
    rfl
  · obtain ⟨a, ns, rfl, hS, hl, q⟩ := h
    refine ⟨_, (pss_cons (ps_set (i := 1) sclaw.nd rfl (.inl rfl) (pe_call G__law_draws (hr.mono (by omega)) (by rfl) D__law_draws.m D__law_draws.k D__law_draws.b .nil pass0 (pa_cons (pv 0) pa_nil)))
      (pss_cons (ps_set (i := 2) sclaw.nd rfl (.inl rfl) (pe_op op_add pe_int (pe_call G__law_draw (hr.mono (by omega)) (by rfl) D__law_draw.m D__law_draw.k D__law_draw.b .nil pass0 (pa_cons (pv 1) (pa_cons (pe_ix (r := rIxL K) ix_list (pe_lst (pa_cons pe_int (pa_cons pe_int (pa_cons pe_int (pa_cons pe_int pa_nil))))) (pe_call G__law_draw (hr.mono (by omega)) (by rfl) D__law_draw.m D__law_draw.k D__law_draw.b .nil pass0 (pa_cons (pv 1) (pa_cons pe_int pa_nil))) (fun _ _ => rfl)) pa_nil)))))
      (pss_cons (ps_set (i := 3) sclaw.nd rfl (.inl rfl) (pe_op op_sub (pv 2) (pe_ix (r := rIxL K) ix_list (pe_lst (pa_cons pe_int (pa_cons pe_int (pa_cons pe_int (pa_cons (pe_call G__law_draw (hr.mono (by omega)) (by rfl) D__law_draw.m D__law_draw.k D__law_draw.b .nil pass0 (pa_cons (pv 1) (pa_cons (pe_op op_add (pv 2) pe_int) pa_nil))) pa_nil))))) (pe_call G__law_draw (hr.mono (by omega)) (by rfl) D__law_draw.m D__law_draw.k D__law_draw.b .nil pass0 (pa_cons (pv 1) (pa_cons pe_int pa_nil))) (fun _ _ => rfl))))
      (pss_cons (ps_set (i := 2) sclaw.nd rfl (.inl rfl) (pe_ifExp (pt_cmpR op_gt (pv 3) pe_int (nomark _)) (pv 2) pe_int))
      (pss_cons (ps_set (i := 4) sclaw.nd rfl (.inl rfl) (pe_lst pa_nil))
      (C8.pss_cut (ps_if (PW.pt (pw_and (pt_cmpR op_eq (pe_call G__law_draw (hr.mono (by omega)) (by rfl) D__law_draw.m D__law_draw.k D__law_draw.b .nil pass0 (pa_cons (pv 1) (pa_cons pe_int pa_nil))) pe_int (nomark _)) (pw_and1 (pt_cmpR op_gt (pv 3) pe_int (nomark _))))) (pss_cons (ps_asg (pe_call G__law_planted (hr.mono (by omega)) (by rfl) D__law_planted.m D__law_planted.k D__law_planted.b .nil pass0 (pa_cons (pv 1) (pa_cons (pv 3) (pa_cons (pv 2) pa_nil)))) (pg_tup (by rfl) (pgs_cons (pg_name (i := 5) sclaw.nd rfl (Or.inl rfl)) (pgs_cons (pg_name (i := 6) sclaw.nd rfl (Or.inl rfl)) (pgs_cons (pg_name (i := 7) sclaw.nd rfl (Or.inl rfl)) pgs_nil)))))
      (pss_one (ps_expr (pe_bm PySem.F.plainAttrs_list PySem.F.slot_list_append PySem.F.type_list_append mt_append (pv 4) (pa_cons (pe_tup (pa_cons (pv 6) (pa_cons (pv 7) pa_nil))) pa_nil))))) (pss_one (ps_set (i := 5) sclaw.nd rfl (.inl rfl) (pe_call G__law_plain (hr.mono (by omega)) (by rfl) D__law_plain.m D__law_plain.k D__law_plain.b .nil pass0 (pa_cons (pv 1) (pa_cons (pv 3) (pa_cons (pv 2) pa_nil)))))))
      (pss_cons (ps_set (i := 8) sclaw.nd rfl (.inl rfl) (pe_callB (r := rRepr K) (call_reprD hgd hr.units) (by rfl) T.m_repr (by decide +kernel) (pa_cons (pv 5) pa_nil)))
      (pss_cons (ps_set (i := 9) sclaw.nd rfl (.inl rfl) (pe_call G_assigned (hr.mono (by omega)) (by rfl) D_assigned.m D_assigned.k D_assigned.b .nil pass0 (pa_cons (pv 5) pa_nil)))
      (pss_cons (ps_if (PW.pt (pw_or (pt_not (pt_val (pe_call G__law_form (hr.mono (by omega)) (by rfl) D__law_form.m D__law_form.k D__law_form.b .nil pass0 (pa_cons (pv 9) pa_nil)))) (pw_or1 (pt_not (pt_val (pe_call G__law_right (hr.mono (by omega)) (by rfl) D__law_right.m D__law_right.k D__law_right.b .nil pass0 (pa_cons (pv 5) (pa_cons (pe_ix (r := rIxT K) ix_tup (pv 9) pe_int (fun _ _ => rfl)) (pa_cons (pe_ix (r := rIxT K) ix_tup (pv 9) pe_int (fun _ _ => rfl)) pa_nil))))))))) (pss_one (ps_ret pe_bl)) pss_nil)
      (pss_cons (ps_for PassesOwn.never rfl (pi_list (pv 4)) (pg_tup (by rfl) (pgs_cons (pg_name (i := 6) sclaw.nd rfl (Or.inl rfl)) (pgs_cons (pg_name (i := 7) sclaw.nd rfl (Or.inl rfl)) pgs_nil))) (pss_one (ps_if (PW.pt (pw_or (pt_cmpR op_ne (pe_call G__law_total (hr.mono (by omega)) (by rfl) D__law_total.m D__law_total.k D__law_total.b .nil pass0 (pa_cons (pv 5) (pa_cons (pv 6) pa_nil))) (pe_call G__law_total (hr.mono (by omega)) (by rfl) D__law_total.m D__law_total.k D__law_total.b .nil pass0 (pa_cons (pv 5) (pa_cons (pe_ix (r := rIxT K) ix_tup (pv 9) pe_int (fun _ _ => rfl)) pa_nil))) (nomark _)) (pw_or1 (pt_cmpR op_notBl (pe_call G_assign_right (hr.mono (by omega)) (by rfl) D_assign_right.m D_assign_right.k D_assign_right.b .nil pass0 (pa_cons (pv 5) (pa_cons (pv 6) (pa_cons (pv 7) pa_nil)))) pe_bl (nomark _))))) (pss_one (ps_ret pe_bl)) pss_nil)))
      (pss_cons (ps_set (i := 10) sclaw.nd rfl (.inl rfl) (pe_call G__law_unit (hr.mono (by omega)) (by rfl) D__law_unit.m D__law_unit.k D__law_unit.b .nil pass0 (pa_cons (pv 1) pa_nil)))
      (pss_cons (ps_expr (pe_bm PySem.F.plainAttrs_list PySem.F.slot_list_append PySem.F.type_list_append mt_append (pv 4) (pa_cons (pv 9) pa_nil)))
      (pss_cons (ps_expr (pe_bm PySem.F.plainAttrs_list PySem.F.slot_list_append PySem.F.type_list_append mt_append (pv 4) (pa_cons (pe_call G__law_others (hr.mono (by omega)) (by rfl) D__law_others.m D__law_others.k D__law_others.b .nil pass0 (pa_cons (pv 1) (pa_cons (pv 5) (pa_cons (pv 2) pa_nil)))) pa_nil)))
      (pss_cons (ps_for PassesOwn.never rfl (pi_range1 rfl T.m_range (pa_cons pe_int pa_nil)) (pg_name (i := 11) sclaw.nd rfl (Or.inl rfl)) (pss_cons (ps_asg (pe_ix (r := rIxL K) ix_list (pv 4) (pe_call G__law_draw (hr.mono (by omega)) (by rfl) D__law_draw.m D__law_draw.k D__law_draw.b .nil pass0 (pa_cons (pv 1) (pa_cons (pe_callB call_len_seq (by rfl) T.m_len (by decide +kernel) (pa_cons (pv 4) pa_nil)) pa_nil))) (fun _ _ => rfl)) (pg_tup (by rfl) (pgs_cons (pg_name (i := 6) sclaw.nd rfl (Or.inl rfl)) (pgs_cons (pg_name (i := 7) sclaw.nd rfl (Or.inl rfl)) pgs_nil))))
      (C8.pss_cut (ps_if (pt_cmpR op_gt (pv 11) pe_int (nomark _)) (pss_one (ps_asg (pe_call G__law_turned (hr.mono (by omega)) (by rfl) D__law_turned.m D__law_turned.k D__law_turned.b .nil pass0 (pa_cons (pv 1) (pa_cons (pv 6) (pa_cons (pv 7) (pa_cons (pv 10) pa_nil))))) (pg_tup (by rfl) (pgs_cons (pg_name (i := 6) sclaw.nd rfl (Or.inl rfl)) (pgs_cons (pg_name (i := 7) sclaw.nd rfl (Or.inl rfl)) pgs_nil))))) pss_nil)
      (pss_cons (ps_set (i := 12) sclaw.nd rfl (.inl rfl) (pe_callB (r := rRepr K) (call_reprD hgd hr.units) (by rfl) T.m_repr (by decide +kernel) (pa_cons (pe_tup (pa_cons (pv 5) (pa_cons (pv 6) (pa_cons (pv 7) pa_nil)))) pa_nil)))
      (pss_cons (ps_if (pt_not (pt_val (pe_call G__law_same (hr.mono (by omega)) (by rfl) D__law_same.m D__law_same.k D__law_same.b .nil pass0 (pa_cons (pe_call G_assign_right (hr.mono (by omega)) (by rfl) D_assign_right.m D_assign_right.k D_assign_right.b .nil pass0 (pa_cons (pv 5) (pa_cons (pv 6) (pa_cons (pv 7) pa_nil)))) (pa_cons (pe_call G__law_right (hr.mono (by omega)) (by rfl) D__law_right.m D__law_right.k D__law_right.b .nil pass0 (pa_cons (pv 5) (pa_cons (pv 6) (pa_cons (pv 7) pa_nil)))) pa_nil))))) (pss_one (ps_ret pe_bl)) pss_nil)
      (pss_one (ps_if (pt_cmpR op_ne (pe_callB (r := rRepr K) (call_reprD hgd hr.units) (by rfl) T.m_repr (by decide +kernel) (pa_cons (pe_tup (pa_cons (pv 5) (pa_cons (pv 6) (pa_cons (pv 7) pa_nil)))) pa_nil)) (pv 12) (nomark _)) (pss_one (ps_ret pe_bl)) pss_nil)))))))
      (pss_one (ps_ret (pe_cmpR op_eq (pe_callB (r := rRepr K) (call_reprD hgd hr.units) (by rfl) T.m_repr (by decide +kernel) (pa_cons (pv 5) pa_nil)) (pv 8) (nomark _)))))))))))))))))), ?_⟩
    refine ⟨_, rfl, a, ns, rfl, hS, hl, fun H1 p c s1 np d1 => ?_⟩
    -- wide
    refine ⟨_, rfl, by show 4 ≤ sizeLine; decide, fun L nL => ⟨_, rfl, p, c, 4, rfl, d1.same (same_new nL), by decide, by decide, fun H2 k g2 hk => ?_⟩⟩
    obtain ⟨w0, ew, hw⟩ := pick4 4 8 20 60 k hk
    refine ⟨L, _, _, _, rfl, rfl, SqL.of (g2.get (d1.off nL).1 upd_same), atI_nat ew, p, c, w0, rfl, g2.b, by omega, by omega, fun H3 x g3 hx => ?_⟩
    have G3 : Gw p c H1 H3 := (Gw.of d1 (same_new nL)).trans (g2.trans g3)
    obtain ⟨wd, hwd⟩ : ∃ wd : Nat, (1 : Int) + (x : Nat) = (wd : Nat) := ⟨1 + x, by omega⟩
    refine ⟨_, _, rfl, rfl, ?_⟩
    simp only [hwd]
    have wd1 : 1 ≤ wd := by omega
    have wd60 : wd ≤ 60 := by omega
    clear g2 g3 nL
    -- high
    refine ⟨_, rfl, _, rfl, _, rfl, _, _, rfl, rfl, p, c, wd + 1, congrArg (fun z => [V.ref p, .int z]) (by omega), G3.b, by omega, by omega, fun H4 e4 g4 he4 => ?_⟩
    refine ⟨by show 4 ≤ sizeLine; decide, fun L nL => ⟨_, rfl, p, c, 4, rfl, g4.b.same (same_new nL), by decide, by decide, fun H5 k g5 hk => ?_⟩⟩
    obtain ⟨z0, ez, hz⟩ := pick4 0 0 1 e4 k hk
    refine ⟨L, _, _, _, rfl, rfl, SqL.of (g5.get (g4.b.off nL).1 upd_same), atI_nat ez, ?_⟩
    have G5 : Gw p c H1 H5 := (G3.trans g4).trans ((Gw.of g4.b (same_new nL)).trans g5)
    obtain ⟨hm, ehm, hmw⟩ : ∃ hm : Nat, ((wd : Nat) : Int) - (z0 : Nat) = (hm : Nat) ∧ hm ≤ wd := ⟨wd - z0, by omega, by omega⟩
    refine ⟨_, _, rfl, rfl, ?_⟩
    simp only [ehm]
    clear g4 g5 nL G3
    -- wide again
    refine ⟨_, rfl, _, _, rfl, rfl, _, rfl, ifx (fun y H' => ∃ w : Nat, y = .int (w : Nat) ∧ w ≤ 60 ∧ hm ≤ w ∧ (0 < hm → 0 < w) ∧ H5 = H') (fun e Q q => ?_) (fun e Q q => ?_) ?_⟩
    · have := of_decide_eq_true e
      exact ⟨_, rfl, q _ _ ⟨wd, rfl, wd60, hmw, fun _ => wd1, rfl⟩⟩
    · have := of_decide_eq_false e
      exact q _ _ ⟨0, rfl, by omega, by omega, fun z => by omega, rfl⟩
    rintro _ _ ⟨w, rfl, w60, hmw', w0', rfl⟩
    clear hmw wd1 wd60 hwd ehm
    -- asked
    refine ⟨by show 0 ≤ sizeLine; decide, fun A' nA => ?_⟩
    have sA := same_new (o := .lst ([] : List V)) nA
    have hA : (upd H5 A' (.lst ([] : List V))) A' = some (.lst []) := upd_same
    have G6 := G5.more sA
    have Ap := (G5.b.off nA).1
    have nA1 := G5.none nA
    generalize (upd H5 A' (.lst ([] : List V))) = H6 at hA G6 ⊢
    clear sA nA G5
    refine ⟨fun σ Hx => ∃ (ca : Addr) (cs : List (List Int)) (es : List Ent) (y6 y7 : Option V), σ = [some (.ref a), some (.ref p), some (.int (w : Nat)), some (.int (hm : Nat)), some (.ref A'), some (.ref ca), y6, y7, none, none, none, none, none] ∧ Gw p c H1 Hx ∧ Dv (hid A' (hid p Hx)) (.ref ca) cs ∧ cs.length = hm ∧ (∀ row ∈ cs, RowB w row) ∧ es.length ≤ 1 ∧ Hx A' = some (.lst (ents es)) ∧ ∀ e ∈ es, EOk (hid A' (hid p Hx)) e ∧ RightP cs e.as e.us e.vs, ?_, ?_⟩
    · refine ⟨_, rfl, p, c, 2, rfl, G6.b, by decide, by decide, fun H7 k7 g7 hk7 => ⟨rfl, _, rfl, ?_⟩⟩
      have hA7 := g7.get Ap hA
      have G7 := G6.trans g7
      have plain : ∀ (Q : Hp → L2.St → Prop), True := fun _ => trivial
      by_cases c1 : k7 = 0 ∧ 0 < hm
      · rw [show decide (V.int ((k7 : Nat) : Int) = V.int 0) = true by rw [dec0, c1.1]; rfl]
        refine iteT ⟨_, rfl, _, _, rfl, rfl, _, rfl, ?_⟩
        rw [decide_eq_true (show ((hm : Nat) : Int) > 0 by omega)]
        refine iteT ?_
        refine ⟨_, rfl, _, rfl, _, rfl, p, c, hm, w, rfl, g7.b, c1.2, hmw', w60, fun H8 t ca al q1 ul vl cs as us vs g8 nca ht dv lc rows aq rp => ?_⟩
        refine ⟨t, _, rfl, SqT.of ht, rfl, _, _, rfl, _, _, rfl, _, _, rfl, rfl, ?_⟩
        have hA8 := g8.get Ap hA7
        refine ⟨_, rfl, .inl ⟨rfl, _, SqL.of hA8⟩, _, rfl, _, rfl, by show 2 ≤ sizeLine; decide, fun t' nt => ?_⟩
        have s9 := same_new (o := .tup [.ref al, .ref q1]) nt
        have ht' : (upd H8 t' (.tup [.ref al, .ref q1])) t' = some (.tup [.ref al, .ref q1]) := upd_same
        generalize (upd H8 t' (.tup [.ref al, .ref q1])) = H9 at s9 ht' ⊢
        have hA9 := s9 _ _ hA8
        have aq9 := aq.same s9
        have dv9 := dv.same (hid_mono s9)
        have g19 := (G7.trans g8).more s9
        refine ⟨A', _, _, rfl, rfl, hA9, by show 0 < sizeLine; decide, ?_⟩
        have wc := (RectW.of fun row hr => (rows row hr).1).2 (by omega)
        have nn : ∀ {xs : List Int}, 0 < xs.length → vi xs ≠ ([] : List V) := fun {xs} h e => by
          cases xs with
          | nil => cases h
          | cons x xs => cases e
        have cA : ca ≠ A' := fun e => by
          rw [e, hA7] at nca
          cases nca
        obtain ⟨_, xs, i', b', z', hp9, _⟩ := g19.b
        have eo := EOk.of (e := ⟨t', al, q1, ul, vl, as, us, vs⟩) (H := H9) ⟨ht', aq9.mono (by omega) (by omega)⟩ hA9 hp9 _ _ rfl (fun i e => by cases e) (lst_ne aq9.ha hA9 (nn (by have := rp.la; omega))) (lst_ne aq9.hu hA9 (nn (by have := rp.lu; omega))) (lst_ne aq9.hv hA9 (nn (by have := rp.lv; omega)))
        have hAp : hid p H9 A' = some (.lst []) := hid_of Ap hA9
        have dvA := Dv.hid_costs dv9 hAp cA fun row hr e => by
          have := (rows row hr).1
          rw [e] at this
          have := w0' c1.2
          simp at *
          omega
        refine ⟨ca, cs, [⟨t', al, q1, ul, vl, as, us, vs⟩], _, _, rfl, g19.mut nA1, dvA.same hid2_mut, lc, rows, Nat.le_refl _, upd_same, fun e he => ?_⟩
        rw [List.mem_singleton.mp he]
        exact ⟨eo.same hid2_mut, rp⟩
      · have fin : ∀ (H8 : Hp) (ca : Addr) (cs : List (List Int)), Gw p c H7 H8 → H7 ca = none → Dv (hid p H8) (.ref ca) cs → cs.length = hm → (∀ row ∈ cs, RowB w row) → ∃ (ca' : Addr) (cs : List (List Int)) (es : List Ent) (y6 y7 : Option V), ([some (.ref a), some (.ref p), some (.int (w : Nat)), some (.int (hm : Nat)), some (.ref A'), some (.ref ca), none, none, none, none, none, none, none] : L2.St) = [some (.ref a), some (.ref p), some (.int (w : Nat)), some (.int (hm : Nat)), some (.ref A'), some (.ref ca'), y6, y7, none, none, none, none, none] ∧ Gw p c H1 H8 ∧ Dv (hid A' (hid p H8)) (.ref ca') cs ∧ cs.length = hm ∧ (∀ row ∈ cs, RowB w row) ∧ es.length ≤ 1 ∧ H8 A' = some (.lst (ents es)) ∧ ∀ e ∈ es, EOk (hid A' (hid p H8)) e ∧ RightP cs e.as e.us e.vs := fun H8 ca cs g8 nca dv lc rows => by
          have hA8 := g8.get Ap hA7
          refine ⟨ca, cs, [], _, _, rfl, G7.trans g8, Dv.hid_costs dv (hid_of Ap hA8) (fun e => ?_) (fun row hr e => ?_), lc, rows, by decide, hA8, fun e he => (by cases he)⟩
          · rw [e, hA7] at nca
            cases nca
          · have h1 := (rows row hr).1
            have h2 : 0 < cs.length := List.length_pos_of_mem hr
            rw [e] at h1
            have := w0' (by omega)
            simp at h1
            omega
        rw [dec0]
        by_cases k0 : k7 = 0
        · rw [decide_eq_true k0]
          refine iteT ⟨_, rfl, _, _, rfl, rfl, _, rfl, ?_⟩
          rw [decide_eq_false (show ¬ ((hm : Nat) : Int) > 0 by omega)]
          exact iteF ⟨_, rfl, _, rfl, _, rfl, p, c, hm, w, rfl, g7.b, by omega, w60, fun H8 ca cs g8 nca dv lc rows => fin H8 ca cs g8 nca dv lc rows⟩
        · rw [decide_eq_false k0]
          exact iteF (iteF ⟨_, rfl, _, rfl, _, rfl, p, c, hm, w, rfl, g7.b, by omega, w60, fun H8 ca cs g8 nca dv lc rows => fin H8 ca cs g8 nca dv lc rows⟩)
    clear hA G6
    rintro σ H7 ⟨ca, cs, es, y6, y7, rfl, G7, dv, lc, rows, les, hA, eok⟩
    have rc := (RectW.of fun row hr => (rows row hr).1).1
    have wc := (RectW.of fun row hr => (rows row hr).1).2
    have dv7 : Dv H7 (.ref ca) cs := (dv.same (hid_same _ _)).same (hid_same _ _)
    have bg : Bg (PySem.W.Datum.toD cs) 3660 2 := Bg.costs (fun row hr => ⟨by have := (rows row hr).1; omega, fun x hx => by have := (rows row hr).2 x hx; unfold Bd at this; omega⟩) (by omega)
    have nm : cs.length ≤ wid cs := by
      by_cases z : 0 < cs.length
      · rw [wc z]
        omega
      · omega
    have wid60 : wid cs ≤ 60 := by
      cases cs with
      | nil => exact Nat.zero_le _
      | cons r0 cr =>
        rw [wc (by show 0 < _ + 1; omega)]
        exact w60
    refine ⟨_, rfl, tNil1 (R := rRepr K) (repr_big (d := PySem.W.Datum.toD cs) dv7 bg (by omega) (by omega) ?_)⟩
    refine ⟨_, rfl, ca, cs, rfl, dv7, rc, nm, by omega, fun H8 t l q1 u0 v0 as us vs s8 ht hq hl' hu hv rp bp nl nu nv => ?_⟩
    have G8 := G7.more s8
    have hA8 := s8 _ _ hA
    have dv8 := dv7.same s8
    have la := rp.la
    have lu := rp.lu
    have lv := rp.lv
    refine ⟨_, rfl, t, l, q1, u0, v0, as, us, vs, rfl, ht, hq, hl', hu, hv, by omega, by omega, by omega, fun H9 s9 => ⟨_, rfl, iteF ?_⟩⟩
    refine ⟨_, rfl, _, rfl, t, _, 0, _, rfl, rfl, SqT.of (s9 _ _ ht), atI_nat (j := 0) rfl, _, rfl, t, _, 1, _, rfl, rfl, SqT.of (s9 _ _ ht), atI_nat (j := 1) rfl, .ref ca, l, q1, u0, v0, cs, as, us, vs, rfl, dv8.same s9, rc, by omega, by omega, s9 _ _ hq, s9 _ _ hl', s9 _ _ hu, s9 _ _ hv, by omega, by omega, by omega, fun H10 k10 s10 e10 => ⟨_, rfl, ?_⟩⟩
    rw [e10.mpr rp]
    refine iteF ?_
    have s810 := s8.trans (s9.trans s10)
    have s910 := s9.trans s10
    have sX : Same (hid A' (hid p H7)) (hid A' (hid p H10)) := hid_mono (hid_mono s810)
    have G10 := G7.more s810
    have hA10 := s810 _ _ hA
    -- the planted assignment costs no less
    refine ⟨_, rfl, A', rfl, ⟨_, SqL.of hA10⟩, for_list (xs := ents es) (fun i σ Hx => ∃ (y6 y7 : Option V), σ = [some (.ref a), some (.ref p), some (.int (w : Nat)), some (.int (hm : Nat)), some (.ref A'), some (.ref ca), y6, y7, some (.str (PySem.W.Datum.toD cs).shown), some (.ref t), none, none, none] ∧ Same H10 Hx) ⟨_, _, rfl, Same.refl _⟩ (fun i σ Hx _ h => ?_) ?_ ?_⟩
    · obtain ⟨_, _, _, s⟩ := h
      exact SqL.of (s _ _ hA10)
    · rintro i v σ Hx hi ⟨y6, y7, rfl, sx⟩
      obtain ⟨e, ee, rfl, em⟩ := ents_at hi
      obtain ⟨eo, er⟩ := eok e em
      have ex : EOk Hx e := (eo.same sX).same (((hid_same _ _).trans (hid_same _ _)).trans sx)
      have dvx : Dv Hx (.ref ca) cs := (dv7.same s810).same sx
      have la' := er.la
      have lu' := er.lu
      have lv' := er.lv
      refine ⟨e.t, _, rfl, SqT.of ex.ht, rfl, _, _, rfl, _, _, rfl, rfl, ?_⟩
      refine ⟨_, rfl, _, rfl, .ref ca, e.al, cs, e.as, rfl, dvx, rc, by omega, ex.aq.ha, la', er.inr, fun Hy sy => ?_⟩
      refine ⟨_, rfl, _, rfl, t, _, 0, _, rfl, rfl, SqT.of (sy _ _ (sx _ _ (s910 _ _ ht))), atI_nat (j := 0) rfl, .ref ca, l, cs, as, rfl, dvx.same sy, rc, by omega, sy _ _ (sx _ _ (s910 _ _ hl')), la, rp.inr, fun Hz sz => ⟨rfl, _, rfl, ?_⟩⟩
      rw [total_eq er rp, decide_eq_true rfl]
      have exz := (ex.same sy).same sz
      refine iteF ⟨_, rfl, _, rfl, _, rfl, .ref ca, e.al, e.q, e.ul, e.vl, cs, e.as, e.us, e.vs, rfl, (dvx.same sy).same sz, rc, by omega, by omega, exz.aq.hq, exz.aq.ha, exz.aq.hu, exz.aq.hv, by omega, by omega, by omega, fun Hw kw sw ew => ?_⟩
      rw [ew.mpr er]
      exact ⟨_, _, rfl, rfl, _, rfl, iteF ⟨_, _, rfl, sx.trans (sy.trans (sz.trans sw))⟩⟩
    rintro σ H11 ⟨y6', y7', rfl, s11⟩
    have s811 := s810.trans s11
    have s911 := s910.trans s11
    have G11 := G10.more s11
    -- more of them
    refine ⟨_, rfl, p, c, rfl, G11.b, fun H12 u g12 u1 u2 => ?_⟩
    have G12 := G11.trans g12
    have hA12 := g12.get Ap (s11 _ _ hA10)
    have X12 : Same (hid A' (hid p H7)) (hid A' (hid p H12)) := hid_mono ((hid_mono s811).trans g12.s)
    have g812 : Gw p c H8 H12 := (Gw.of G8.b s911).trans g12
    have aqt : AQ H8 l q1 u0 v0 as us vs 60 (2 * 10 ^ 49) := by
      obtain ⟨b1, b2⟩ := bp (10 ^ 49) fun row hr x hx => (rows row hr).2 x hx
      refine ⟨hq, hl', hu, hv, by omega, by omega, by omega, fun x hx => ?_, fun x hx => ?_, fun x hx => b2 x hx⟩
      · have := rp.inr x hx
        omega
      · have := b1 x hx
        omega
    have ht12 := g812.get (dw_tup_ne G8.b ht) ht
    have aq12 := aqt.go g812
    refine ⟨_, rfl, .inl ⟨rfl, _, SqL.of hA12⟩, _, rfl, A', _, _, rfl, rfl, hA12, by unfold ents; rw [List.length_map]; exact small1000 (by omega), ?_⟩
    have lA : ∀ {b : Addr}, H7 b = none → b ≠ A' := fun h e => by
      rw [e, hA] at h
      cases h
    have et : EOk (hid A' (hid p H12)) ⟨t, l, q1, u0, v0, as, us, vs⟩ := by
      obtain ⟨_, xs, i', b', z', hp9, _⟩ := g12.b
      exact EOk.of (e := ⟨t, l, q1, u0, v0, as, us, vs⟩) (H := H12) ⟨ht12, aq12⟩ hA12 hp9 _ _ rfl (fun i e => by cases e) (lA nl) (lA nu) (lA nv)
    have e1 : ents es ++ [V.ref t] = ents (es ++ [⟨t, l, q1, u0, v0, as, us, vs⟩]) := by
      unfold ents
      rw [List.map_append]
      rfl
    rw [e1]
    have eok2 : ∀ e ∈ es ++ [⟨t, l, q1, u0, v0, as, us, vs⟩], EOk (hid A' (hid p H12)) e := fun e he => by
      rcases List.mem_append.mp he with h | h
      · exact (eok e h).1.same X12
      · rw [List.mem_singleton.mp h]
        exact et
    have les2 : (es ++ [(⟨t, l, q1, u0, v0, as, us, vs⟩ : Ent)]).length ≤ 2 ∧ 0 < (es ++ [(⟨t, l, q1, u0, v0, as, us, vs⟩ : Ent)]).length := by
      rw [List.length_append]
      exact ⟨Nat.add_le_add_right les 1, Nat.lt_of_lt_of_le (by decide) (Nat.le_add_left 1 _)⟩
    have dv12 := dv.same X12
    generalize es ++ [⟨t, l, q1, u0, v0, as, us, vs⟩] = es2 at eok2 les2 ⊢
    have hA13 : (upd H12 A' (.lst (ents es2))) A' = some (.lst (ents es2)) := upd_same
    have G13 : Gw p c H1 (upd H12 A' (.lst (ents es2))) := G12.mut nA1
    have X13 : Same (hid A' (hid p H12)) (hid A' (hid p (upd H12 A' (.lst (ents es2))))) := hid2_mut
    generalize (upd H12 A' (.lst (ents es2))) = H13 at hA13 G13 X13 ⊢
    have dv13 := dv12.same X13
    refine ⟨_, rfl, .inl ⟨rfl, _, SqL.of hA13⟩, _, rfl, _, rfl, _, rfl, p, c, .ref ca, w, cs, rfl, G13.b, dv13.same (hid_same _ _), rows, by omega, w60, fun z => w0' (by omega), fun H14 t4 al4 q4 ul4 vl4 as4 us4 vs4 g14 ht4 aq4 => ?_⟩
    have hA14 := g14.get Ap hA13
    have X14 : Same (hid A' (hid p H13)) (hid A' (hid p H14)) := hid_mono g14.s
    have neA : ∀ {b : Addr} {xs : List Int}, H14 b = some (.lst (vi xs)) → b ≠ A' := fun {b xs} h => lst_ne h hA14 fun e => by
      obtain ⟨_, h2⟩ := les2
      cases es2 with
      | nil => cases h2
      | cons e2 er =>
        cases xs with
        | nil => cases e
        | cons x xs => cases e
    refine ⟨A', _, _, rfl, rfl, hA14, by unfold ents; rw [List.length_map]; exact small1000 (by omega), ?_⟩
    have e4 : EOk (hid A' (hid p H14)) ⟨t4, al4, q4, ul4, vl4, as4, us4, vs4⟩ := by
      obtain ⟨_, xs, i', b', z', hp9, _⟩ := g14.b
      exact EOk.of (e := ⟨t4, al4, q4, ul4, vl4, as4, us4, vs4⟩) (H := H14) ⟨ht4, aq4⟩ hA14 hp9 _ _ rfl (fun i e => by cases e) (neA aq4.ha) (neA aq4.hu) (neA aq4.hv)
    have e2 : ents es2 ++ [V.ref t4] = ents (es2 ++ [⟨t4, al4, q4, ul4, vl4, as4, us4, vs4⟩]) := by
      unfold ents
      rw [List.map_append]
      rfl
    rw [e2]
    have eok3 : ∀ e ∈ es2 ++ [⟨t4, al4, q4, ul4, vl4, as4, us4, vs4⟩], EOk (hid A' (hid p H14)) e := fun e he => by
      rcases List.mem_append.mp he with h | h
      · exact (eok2 e h).same (X13.trans X14)
      · rw [List.mem_singleton.mp h]
        exact e4
    have les3 : (es2 ++ [(⟨t4, al4, q4, ul4, vl4, as4, us4, vs4⟩ : Ent)]).length ≤ 3 ∧ 0 < (es2 ++ [(⟨t4, al4, q4, ul4, vl4, as4, us4, vs4⟩ : Ent)]).length := by
      rw [List.length_append]
      exact ⟨Nat.add_le_add_right les2.1 1, Nat.lt_of_lt_of_le (by decide) (Nat.le_add_left 1 _)⟩
    generalize es2 ++ [⟨t4, al4, q4, ul4, vl4, as4, us4, vs4⟩] = es3 at eok3 les3 ⊢
    have hA15 : (upd H14 A' (.lst (ents es3))) A' = some (.lst (ents es3)) := upd_same
    have G15 : Gw p c H1 (upd H14 A' (.lst (ents es3))) := (G13.trans g14).mut nA1
    have X15 : Same (hid A' (hid p H14)) (hid A' (hid p (upd H14 A' (.lst (ents es3))))) := hid2_mut
    generalize (upd H14 A' (.lst (ents es3))) = H15 at hA15 G15 X15 ⊢
    have dv15 := (dv13.same (X14.trans X15)).same (hid_same _ _)
    have eok5 : ∀ e ∈ es3, EOk H15 e := fun e he => ((eok3 e he).same X15).same ((hid_same _ _).trans (hid_same _ _))
    clear eok3 eok2 eok X15 X14 X13 X12 dv13 dv12 dv hA14 hA13 hA12 hA8 hA10 sX e4 et
    -- five turns
    refine ⟨_, rfl, by decide, by decide, for_range (n := 5) (fun i σ Hx => ∃ (y6 y7 y11 y12 : Option V), σ = [some (.ref a), some (.ref p), some (.int (w : Nat)), some (.int (hm : Nat)), some (.ref A'), some (.ref ca), y6, y7, some (.str (PySem.W.Datum.toD cs).shown), some (.ref t), some (.int u), y11, y12] ∧ Gw p c H15 Hx) ⟨_, _, none, none, rfl, Gw.refl G15.b⟩ ?_ ?_⟩
    · rintro i σ Hx hi ⟨y6, y7, y11, y12, rfl, gx⟩
      rw [Int.zero_add]
      have hAx := gx.get Ap hA15
      refine ⟨_, rfl, _, rfl, _, rfl, A', _, rfl, .inl (SqL.of hAx), p, c, es3.length, by unfold ents; rw [List.length_map]; rfl, gx.b, by omega, by omega, fun H16 k g16 hk => ?_⟩
      have hA16 := g16.get Ap hAx
      have g6 := gx.trans g16
      obtain ⟨e, ee, em⟩ : ∃ e, es3[k]? = some e ∧ e ∈ es3 := ⟨_, List.getElem?_eq_getElem hk, List.getElem_mem hk⟩
      have eV : (ents es3)[k]? = some (.ref e.t) := by
        unfold ents
        rw [List.getElem?_map, ee]
        rfl
      have eo := eok5 e em
      have het := g6.get (dw_tup_ne G15.b eo.ht) eo.ht
      have aqe := eo.aq.go g6
      refine ⟨A', _, _, _, rfl, rfl, SqL.of hA16, atI_nat eV, e.t, _, rfl, SqT.of het, rfl, _, _, rfl, _, _, rfl, rfl, ?_⟩
      refine ⟨fun σ Hy => ∃ (al q ul vl : Addr) (as us vs : List Int), σ = [some (.ref a), some (.ref p), some (.int (w : Nat)), some (.int (hm : Nat)), some (.ref A'), some (.ref ca), some (.ref al), some (.ref q), some (.str (PySem.W.Datum.toD cs).shown), some (.ref t), some (.int u), some (.int (i : Nat)), y12] ∧ Gw p c H15 Hy ∧ AQ Hy al q ul vl as us vs 64 (10 ^ 50), ?_, ?_⟩
      · refine ⟨_, rfl, _, _, rfl, rfl, _, rfl, ?_⟩
        by_cases c1 : ((i : Nat) : Int) > 1
        · rw [decide_eq_true c1]
          refine iteT ⟨_, rfl, _, rfl, _, rfl, _, rfl, p, c, e.al, e.q, e.ul, e.vl, u, e.as, e.us, e.vs, _, _, rfl, g6.b, aqe, by omega, u1, u2, fun H17 t7 al q ul vl as us vs g17 ht7 aq7 => ?_⟩
          exact ⟨t7, _, rfl, SqT.of ht7, rfl, _, _, rfl, _, _, rfl, rfl, al, q, ul, vl, as, us, vs, rfl, g6.trans g17, aq7.mono (by omega) (by omega)⟩
        · rw [decide_eq_false c1]
          exact iteF ⟨e.al, e.q, e.ul, e.vl, e.as, e.us, e.vs, rfl, g6, aqe.mono (by omega) (by omega)⟩
      clear aqe het
      rintro σ H17 ⟨al, q, ul, vl, as, us, vs, rfl, g17, aq⟩
      have bt : Bg (trio cs as us vs) 12000 4 := Bg.trio bg aq.ba aq.bu aq.bv (Nat.le_trans aq.la (by omega)) (Nat.le_trans aq.lu (by omega)) (Nat.le_trans aq.lv (by omega))
      have dv17 : Dv H17 (.ref ca) cs := (dv15.same g17.s).same (hid_same _ _)
      have a1 := aq.la
      have a2 := aq.lu
      have a3 := aq.lv
      refine ⟨_, rfl, _, rfl, _, rfl, by show 3 ≤ sizeLine; decide, fun t8 n8 => tNil1 (R := rRepr K) (repr_big (d := trio cs as us vs) (dh_trio upd_same (dv17.same (same_new n8)) (same_new n8 _ _ aq.hq) (same_new n8 _ _ aq.ha) (same_new n8 _ _ aq.hu) (same_new n8 _ _ aq.hv)) bt (by omega) (by omega) ?_)⟩
      have s8' := same_new (o := .tup [.ref ca, .ref al, .ref q]) n8
      generalize (upd H17 t8 (.tup [.ref ca, .ref al, .ref q])) = H18 at s8' ⊢
      have aq8 := aq.same s8'
      have dv18 := dv17.same s8'
      have g18 := g17.more s8'
      refine ⟨_, rfl, _, rfl, _, rfl, .ref ca, al, q, ul, vl, cs, as, us, vs, rfl, dv18, rc, by omega, by omega, aq8.hq, aq8.ha, aq8.hu, aq8.hv, by omega, by omega, by omega, fun H19 kk1 s9' e9 => ?_⟩
      have aq9 := aq8.same s9'
      refine ⟨_, rfl, _, rfl, _, rfl, .ref ca, al, q, ul, vl, cs, as, us, vs, rfl, dv18.same s9', rc, by omega, by omega, aq9.hq, aq9.ha, aq9.hu, aq9.hv, by omega, by omega, by omega, fun H20 kk2 s10' e10' => ?_⟩
      have ek := bool_eq e9 e10'
      subst ek
      refine ⟨.bl kk1, .bl kk1, .bool kk1, rfl, .bl kk1, .bl kk1, ok_bool kk1, by simp only [PyData.depth]; omega, fun H21 s11' => ⟨_, rfl, iteF ?_⟩⟩
      have s21 := s9'.trans (s10'.trans s11')
      have aq21 := aq8.same s21
      have dv21 := dv18.same s21
      have g21 := g18.more s21
      refine ⟨_, rfl, _, rfl, _, rfl, by show 3 ≤ sizeLine; decide, fun t9 n9 => tNil1 (R := rRepr K) (repr_big (d := trio cs as us vs) (dh_trio upd_same (dv21.same (same_new n9)) (same_new n9 _ _ aq21.hq) (same_new n9 _ _ aq21.ha) (same_new n9 _ _ aq21.hu) (same_new n9 _ _ aq21.hv)) bt (by omega) (by omega) ?_)⟩
      refine ⟨_, rfl, rfl, _, rfl, ?_⟩
      rw [decide_eq_true rfl]
      exact iteF ⟨_, _, _, _, rfl, g21.more (same_new n9)⟩
    rintro σ Hx ⟨y6, y7, y11, y12, rfl, gx⟩
    have dvx : Dv Hx (.ref ca) cs := (dv15.same gx.s).same (hid_same _ _)
    refine ⟨_, rfl, tNil1 (R := rRepr K) (repr_big (d := PySem.W.Datum.toD cs) dvx bg (by omega) (by omega) ⟨_, rfl, rfl, ?_⟩)⟩
    rw [decide_eq_true rfl]
    exact q _

end K15
namespace K15
open PySem PySem.Spec PyProof.Rows L2 V0
theorem all_mk {l : PySem.W.OpenLaw} {w : World} {K : PySem.W.Frag} {h : Heap} {mg : Str → Option Value} {fa f1 f2 f3 f4 f5 f6 f7 f8 f9 f10 f11 f12 f13 f14 f15 f16 f17 f18 f19 f20 f21 f22 f23 : Addr} {C_Matching : Addr} (X : K.In h) (G : h.Ns mainGlobals mg) (hfa : mg "law" = some (.ref fa))
    {od1 an1 od2 an2 od3 an3 od4 an4 od5 an5 od6 an6 od7 an7 od8 an8 od9 an9 od10 an10 od11 an11 od12 an12 od13 an13 od14 an14 od15 an15 od16 an16 od17 an17 od18 an18 od19 an19 od20 an20 od21 an21 od22 an22 od23 an23 : Option Addr} {sl1 sl2 sl3 sl4 sl5 sl6 sl7 sl8 sl9 sl10 sl11 sl12 sl13 sl14 sl15 sl16 sl17 sl18 sl19 sl20 sl21 sl22 sl23 : Array (Option Value)} {oc1 kV1 dc1 pm1 cd1 ct1 oc2 kV2 dc2 pm2 cd2 ct2 oc3 kV3 dc3 pm3 cd3 ct3 oc4 kV4 dc4 pm4 cd4 ct4 oc5 kV5 dc5 pm5 cd5 ct5 oc6 kV6 dc6 pm6 cd6 ct6 oc7 kV7 dc7 pm7 cd7 ct7 oc8 kV8 dc8 pm8 cd8 ct8 oc9 kV9 dc9 pm9 cd9 ct9 oc10 kV10 dc10 pm10 cd10 ct10 oc11 kV11 dc11 pm11 cd11 ct11 oc12 kV12 dc12 pm12 cd12 ct12 oc13 kV13 dc13 pm13 cd13 ct13 oc14 kV14 dc14 pm14 cd14 ct14 oc15 kV15 dc15 pm15 cd15 ct15 oc16 kV16 dc16 pm16 cd16 ct16 oc17 kV17 dc17 pm17 cd17 ct17 oc18 kV18 dc18 pm18 cd18 ct18 oc19 kV19 dc19 pm19 cd19 ct19 oc20 kV20 dc20 pm20 cd20 ct20 oc21 kV21 dc21 pm21 cd21 ct21 oc22 kV22 dc22 pm22 cd22 ct22 oc23 kV23 dc23 pm23 cd23 ct23 : Value}
    (aC_Matching : PySem.W.nsIn K mainGlobals "Matching" = some (some (.ref C_Matching))) (pg_Matching : PySem.W.plainGet K C_Matching Str.empty = true) (hd_Matching : PySem.W.hasDictIn K C_Matching = true) (po_Matching : PySem.W.plainOver K C_Matching = true) (sa_Matching : PySem.W.findIn K (.ref C_Matching) "__setattr__" = some (some (.builtin "object.__setattr__"))) (mk_Matching : PySem.W.makesIn K C_Matching = true) (kc_Matching : PySem.W.keepIn K (.ref C_Matching) = true)
    (n_Matching_costs : PySem.W.findIn K (.ref C_Matching) "costs" = some none)
    (n_Matching_of_rows : PySem.W.findIn K (.ref C_Matching) "of_rows" = some none)
    (n_Matching_of_columns : PySem.W.findIn K (.ref C_Matching) "of_columns" = some none)
    (n_Matching_owners : PySem.W.findIn K (.ref C_Matching) "owners" = some none)
    (a1 : PySem.W.nsIn K mainGlobals "_law_draws" = some (some (.ref f1))) (l1 : K.lookup f1 = some ⟨oc1, od1, .func (PySem.W.fnOf "_law_draws" "_law_draws" (defArgs s__law_draws) (defBody s__law_draws) (defScope s__law_draws) .none kV1 dc1 pm1 an1 cd1 ct1), sl1⟩) (c1 : PySem.W.codeIn K cd1 "_law_draws" = true) (k1 : PySem.W.keepIn K (.ref f1) = true)
    (a2 : PySem.W.nsIn K mainGlobals "_law_draw" = some (some (.ref f2))) (l2 : K.lookup f2 = some ⟨oc2, od2, .func (PySem.W.fnOf "_law_draw" "_law_draw" (defArgs s__law_draw) (defBody s__law_draw) (defScope s__law_draw) .none kV2 dc2 pm2 an2 cd2 ct2), sl2⟩) (c2 : PySem.W.codeIn K cd2 "_law_draw" = true) (k2 : PySem.W.keepIn K (.ref f2) = true)
    (a3 : PySem.W.nsIn K mainGlobals "_law_unit" = some (some (.ref f3))) (l3 : K.lookup f3 = some ⟨oc3, od3, .func (PySem.W.fnOf "_law_unit" "_law_unit" (defArgs s__law_unit) (defBody s__law_unit) (defScope s__law_unit) .none kV3 dc3 pm3 an3 cd3 ct3), sl3⟩) (c3 : PySem.W.codeIn K cd3 "_law_unit" = true) (k3 : PySem.W.keepIn K (.ref f3) = true)
    (a4 : PySem.W.nsIn K mainGlobals "_law_order" = some (some (.ref f4))) (l4 : K.lookup f4 = some ⟨oc4, od4, .func (PySem.W.fnOf "_law_order" "_law_order" (defArgs s__law_order) (defBody s__law_order) (defScope s__law_order) .none kV4 dc4 pm4 an4 cd4 ct4), sl4⟩) (c4 : PySem.W.codeIn K cd4 "_law_order" = true) (k4 : PySem.W.keepIn K (.ref f4) = true)
    (a5 : PySem.W.nsIn K mainGlobals "_law_number" = some (some (.ref f5))) (l5 : K.lookup f5 = some ⟨oc5, od5, .func (PySem.W.fnOf "_law_number" "_law_number" (defArgs s__law_number) (defBody s__law_number) (defScope s__law_number) .none kV5 dc5 pm5 an5 cd5 ct5), sl5⟩) (c5 : PySem.W.codeIn K cd5 "_law_number" = true) (k5 : PySem.W.keepIn K (.ref f5) = true)
    (a6 : PySem.W.nsIn K mainGlobals "_law_planted" = some (some (.ref f6))) (l6 : K.lookup f6 = some ⟨oc6, od6, .func (PySem.W.fnOf "_law_planted" "_law_planted" (defArgs s__law_planted) (defBody s__law_planted) (defScope s__law_planted) .none kV6 dc6 pm6 an6 cd6 ct6), sl6⟩) (c6 : PySem.W.codeIn K cd6 "_law_planted" = true) (k6 : PySem.W.keepIn K (.ref f6) = true)
    (a7 : PySem.W.nsIn K mainGlobals "_law_plain" = some (some (.ref f7))) (l7 : K.lookup f7 = some ⟨oc7, od7, .func (PySem.W.fnOf "_law_plain" "_law_plain" (defArgs s__law_plain) (defBody s__law_plain) (defScope s__law_plain) .none kV7 dc7 pm7 an7 cd7 ct7), sl7⟩) (c7 : PySem.W.codeIn K cd7 "_law_plain" = true) (k7 : PySem.W.keepIn K (.ref f7) = true)
    (a8 : PySem.W.nsIn K mainGlobals "many_columns" = some (some (.ref f8))) (l8 : K.lookup f8 = some ⟨oc8, od8, .func (PySem.W.fnOf "many_columns" "many_columns" (defArgs s_many_columns) (defBody s_many_columns) (defScope s_many_columns) .none kV8 dc8 pm8 an8 cd8 ct8), sl8⟩) (c8 : PySem.W.codeIn K cd8 "many_columns" = true) (k8 : PySem.W.keepIn K (.ref f8) = true)
    (a9 : PySem.W.findIn K (.ref C_Matching) "__init__" = some (some (.ref f9))) (i9 : PySem.W.isFn K (.ref f9) = true) (l9 : K.lookup f9 = some ⟨oc9, od9, .func (PySem.W.fnOf "__init__" "Matching.__init__" (defArgs s_Matching___init__) (defBody s_Matching___init__) (defScope s_Matching___init__) .none kV9 dc9 pm9 an9 cd9 ct9), sl9⟩) (c9 : PySem.W.codeIn K cd9 "Matching.__init__" = true) (k9 : PySem.W.keepIn K (.ref f9) = true)
    (a10 : PySem.W.findIn K (.ref C_Matching) "_shift" = some (some (.ref f10))) (i10 : PySem.W.isFn K (.ref f10) = true) (l10 : K.lookup f10 = some ⟨oc10, od10, .func (PySem.W.fnOf "_shift" "Matching._shift" (defArgs s_Matching__shift) (defBody s_Matching__shift) (defScope s_Matching__shift) .none kV10 dc10 pm10 an10 cd10 ct10), sl10⟩) (c10 : PySem.W.codeIn K cd10 "Matching._shift" = true) (k10 : PySem.W.keepIn K (.ref f10) = true)
    (a11 : PySem.W.findIn K (.ref C_Matching) "_change_owners" = some (some (.ref f11))) (i11 : PySem.W.isFn K (.ref f11) = true) (l11 : K.lookup f11 = some ⟨oc11, od11, .func (PySem.W.fnOf "_change_owners" "Matching._change_owners" (defArgs s_Matching__change_owners) (defBody s_Matching__change_owners) (defScope s_Matching__change_owners) .none kV11 dc11 pm11 an11 cd11 ct11), sl11⟩) (c11 : PySem.W.codeIn K cd11 "Matching._change_owners" = true) (k11 : PySem.W.keepIn K (.ref f11) = true)
    (a12 : PySem.W.findIn K (.ref C_Matching) "take_in" = some (some (.ref f12))) (i12 : PySem.W.isFn K (.ref f12) = true) (l12 : K.lookup f12 = some ⟨oc12, od12, .func (PySem.W.fnOf "take_in" "Matching.take_in" (defArgs s_Matching_take_in) (defBody s_Matching_take_in) (defScope s_Matching_take_in) .none kV12 dc12 pm12 an12 cd12 ct12), sl12⟩) (c12 : PySem.W.codeIn K cd12 "Matching.take_in" = true) (k12 : PySem.W.keepIn K (.ref f12) = true)
    (a13 : PySem.W.findIn K (.ref C_Matching) "assignment" = some (some (.ref f13))) (i13 : PySem.W.isFn K (.ref f13) = true) (l13 : K.lookup f13 = some ⟨oc13, od13, .func (PySem.W.fnOf "assignment" "Matching.assignment" (defArgs s_Matching_assignment) (defBody s_Matching_assignment) (defScope s_Matching_assignment) .none kV13 dc13 pm13 an13 cd13 ct13), sl13⟩) (c13 : PySem.W.codeIn K cd13 "Matching.assignment" = true) (k13 : PySem.W.keepIn K (.ref f13) = true)
    (a14 : PySem.W.nsIn K mainGlobals "assigned" = some (some (.ref f14))) (l14 : K.lookup f14 = some ⟨oc14, od14, .func (PySem.W.fnOf "assigned" "assigned" (defArgs s_assigned) (defBody s_assigned) (defScope s_assigned) .none kV14 dc14 pm14 an14 cd14 ct14), sl14⟩) (c14 : PySem.W.codeIn K cd14 "assigned" = true) (k14 : PySem.W.keepIn K (.ref f14) = true)
    (a15 : PySem.W.nsIn K mainGlobals "_law_form" = some (some (.ref f15))) (l15 : K.lookup f15 = some ⟨oc15, od15, .func (PySem.W.fnOf "_law_form" "_law_form" (defArgs s__law_form) (defBody s__law_form) (defScope s__law_form) .none kV15 dc15 pm15 an15 cd15 ct15), sl15⟩) (c15 : PySem.W.codeIn K cd15 "_law_form" = true) (k15 : PySem.W.keepIn K (.ref f15) = true)
    (a16 : PySem.W.nsIn K mainGlobals "_law_total" = some (some (.ref f16))) (l16 : K.lookup f16 = some ⟨oc16, od16, .func (PySem.W.fnOf "_law_total" "_law_total" (defArgs s__law_total) (defBody s__law_total) (defScope s__law_total) .none kV16 dc16 pm16 an16 cd16 ct16), sl16⟩) (c16 : PySem.W.codeIn K cd16 "_law_total" = true) (k16 : PySem.W.keepIn K (.ref f16) = true)
    (a17 : PySem.W.nsIn K mainGlobals "_law_right" = some (some (.ref f17))) (l17 : K.lookup f17 = some ⟨oc17, od17, .func (PySem.W.fnOf "_law_right" "_law_right" (defArgs s__law_right) (defBody s__law_right) (defScope s__law_right) .none kV17 dc17 pm17 an17 cd17 ct17), sl17⟩) (c17 : PySem.W.codeIn K cd17 "_law_right" = true) (k17 : PySem.W.keepIn K (.ref f17) = true)
    (a18 : PySem.W.nsIn K mainGlobals "assign_right" = some (some (.ref f18))) (l18 : K.lookup f18 = some ⟨oc18, od18, .func (PySem.W.fnOf "assign_right" "assign_right" (defArgs s_assign_right) (defBody s_assign_right) (defScope s_assign_right) .none kV18 dc18 pm18 an18 cd18 ct18), sl18⟩) (c18 : PySem.W.codeIn K cd18 "assign_right" = true) (k18 : PySem.W.keepIn K (.ref f18) = true)
    (a19 : PySem.W.nsIn K mainGlobals "_law_others" = some (some (.ref f19))) (l19 : K.lookup f19 = some ⟨oc19, od19, .func (PySem.W.fnOf "_law_others" "_law_others" (defArgs s__law_others) (defBody s__law_others) (defScope s__law_others) .none kV19 dc19 pm19 an19 cd19 ct19), sl19⟩) (c19 : PySem.W.codeIn K cd19 "_law_others" = true) (k19 : PySem.W.keepIn K (.ref f19) = true)
    (a20 : PySem.W.nsIn K mainGlobals "_law_changed" = some (some (.ref f20))) (l20 : K.lookup f20 = some ⟨oc20, od20, .func (PySem.W.fnOf "_law_changed" "_law_changed" (defArgs s__law_changed) (defBody s__law_changed) (defScope s__law_changed) .none kV20 dc20 pm20 an20 cd20 ct20), sl20⟩) (c20 : PySem.W.codeIn K cd20 "_law_changed" = true) (k20 : PySem.W.keepIn K (.ref f20) = true)
    (a21 : PySem.W.nsIn K mainGlobals "_law_turned" = some (some (.ref f21))) (l21 : K.lookup f21 = some ⟨oc21, od21, .func (PySem.W.fnOf "_law_turned" "_law_turned" (defArgs s__law_turned) (defBody s__law_turned) (defScope s__law_turned) .none kV21 dc21 pm21 an21 cd21 ct21), sl21⟩) (c21 : PySem.W.codeIn K cd21 "_law_turned" = true) (k21 : PySem.W.keepIn K (.ref f21) = true)
    (a22 : PySem.W.nsIn K mainGlobals "_law_same" = some (some (.ref f22))) (l22 : K.lookup f22 = some ⟨oc22, od22, .func (PySem.W.fnOf "_law_same" "_law_same" (defArgs s__law_same) (defBody s__law_same) (defScope s__law_same) .none kV22 dc22 pm22 an22 cd22 ct22), sl22⟩) (c22 : PySem.W.codeIn K cd22 "_law_same" = true) (k22 : PySem.W.keepIn K (.ref f22) = true)
    (a23 : PySem.W.nsIn K mainGlobals "law" = some (some (.ref f23))) (l23 : K.lookup f23 = some ⟨oc23, od23, .func (PySem.W.fnOf "law" "law" (defArgs s_law) (defBody s_law) (defScope s_law) .none kV23 dc23 pm23 an23 cd23 ct23), sl23⟩) (c23 : PySem.W.codeIn K cd23 "law" = true) (k23 : PySem.W.keepIn K (.ref f23) = true)
    (z_all : PySem.W.nsIn K mainGlobals "all" = some none)
    (z_any : PySem.W.nsIn K mainGlobals "any" = some none)
    (z_bool : PySem.W.nsIn K mainGlobals "bool" = some none)
    (z_enumerate : PySem.W.nsIn K mainGlobals "enumerate" = some none)
    (z_int : PySem.W.nsIn K mainGlobals "int" = some none)
    (z_isinstance : PySem.W.nsIn K mainGlobals "isinstance" = some none)
    (z_len : PySem.W.nsIn K mainGlobals "len" = some none)
    (z_list : PySem.W.nsIn K mainGlobals "list" = some none)
    (z_min : PySem.W.nsIn K mainGlobals "min" = some none)
    (z_range : PySem.W.nsIn K mainGlobals "range" = some none)
    (z_repr : PySem.W.nsIn K mainGlobals "repr" = some none)
    (z_set : PySem.W.nsIn K mainGlobals "set" = some none)
    (z_str : PySem.W.nsIn K mainGlobals "str" = some none)
    (z_sum : PySem.W.nsIn K mainGlobals "sum" = some none)
    (z_tuple : PySem.W.nsIn K mainGlobals "tuple" = some none)
    (z_zip : PySem.W.nsIn K mainGlobals "zip" = some none) :
    ∃ fd : FuncData, (∀ (s : Shared) (v : Value), BindsTo s fd ⟨[v], []⟩ [("script", v)]) ∧ ∀ base : Heap, K.In base → base.Ns mainGlobals mg → LawOk l.prog w K mg base fa fd ["script"] (sp_law K) := by
  have e := hfa.symm.trans (PySem.W.mg_of X G a23)
  cases e
  have T : Txt K mg C_Matching := ⟨⟨pg_Matching, hd_Matching, po_Matching, sa_Matching⟩, PySem.W.mg_of X G aC_Matching, n_Matching_costs, n_Matching_of_rows, n_Matching_of_columns, n_Matching_owners, PySem.W.mg_none_of X G z_all, PySem.W.mg_none_of X G z_any, PySem.W.mg_none_of X G z_bool, PySem.W.mg_none_of X G z_enumerate, PySem.W.mg_none_of X G z_int, PySem.W.mg_none_of X G z_isinstance, PySem.W.mg_none_of X G z_len, PySem.W.mg_none_of X G z_list, PySem.W.mg_none_of X G z_min, PySem.W.mg_none_of X G z_range, PySem.W.mg_none_of X G z_repr, PySem.W.mg_none_of X G z_set, PySem.W.mg_none_of X G z_str, PySem.W.mg_none_of X G z_sum, PySem.W.mg_none_of X G z_tuple, PySem.W.mg_none_of X G z_zip⟩
  have F1 := fun_mk (st := s__law_draws) l1 c1 k1
  have D1 : Def K mg "_law_draws" f1 _ ["script"] := ⟨PySem.W.mg_of X G a1, F1.kp, F1.binds (ps := ["script"]) fun _ _ _ _ _ _ us hl => match us, hl with | [_], _ => rfl⟩
  have F2 := fun_mk (st := s__law_draw) l2 c2 k2
  have D2 : Def K mg "_law_draw" f2 _ ["draws", "limit"] := ⟨PySem.W.mg_of X G a2, F2.kp, F2.binds (ps := ["draws", "limit"]) fun _ _ _ _ _ _ us hl => match us, hl with | [_, _], _ => rfl⟩
  have F3 := fun_mk (st := s__law_unit) l3 c3 k3
  have D3 : Def K mg "_law_unit" f3 _ ["draws"] := ⟨PySem.W.mg_of X G a3, F3.kp, F3.binds (ps := ["draws"]) fun _ _ _ _ _ _ us hl => match us, hl with | [_], _ => rfl⟩
  have F4 := fun_mk (st := s__law_order) l4 c4 k4
  have D4 : Def K mg "_law_order" f4 _ ["draws", "many"] := ⟨PySem.W.mg_of X G a4, F4.kp, F4.binds (ps := ["draws", "many"]) fun _ _ _ _ _ _ us hl => match us, hl with | [_, _], _ => rfl⟩
  have F5 := fun_mk (st := s__law_number) l5 c5 k5
  have D5 : Def K mg "_law_number" f5 _ ["draws", "unit"] := ⟨PySem.W.mg_of X G a5, F5.kp, F5.binds (ps := ["draws", "unit"]) fun _ _ _ _ _ _ us hl => match us, hl with | [_, _], _ => rfl⟩
  have F6 := fun_mk (st := s__law_planted) l6 c6 k6
  have D6 : Def K mg "_law_planted" f6 _ ["draws", "high", "wide"] := ⟨PySem.W.mg_of X G a6, F6.kp, F6.binds (ps := ["draws", "high", "wide"]) fun _ _ _ _ _ _ us hl => match us, hl with | [_, _, _], _ => rfl⟩
  have F7 := fun_mk (st := s__law_plain) l7 c7 k7
  have D7 : Def K mg "_law_plain" f7 _ ["draws", "high", "wide"] := ⟨PySem.W.mg_of X G a7, F7.kp, F7.binds (ps := ["draws", "high", "wide"]) fun _ _ _ _ _ _ us hl => match us, hl with | [_, _, _], _ => rfl⟩
  have F8 := fun_mk (st := s_many_columns) l8 c8 k8
  have D8 : Def K mg "many_columns" f8 _ ["costs"] := ⟨PySem.W.mg_of X G a8, F8.kp, F8.binds (ps := ["costs"]) fun _ _ _ _ _ _ us hl => match us, hl with | [_], _ => rfl⟩
  have F9 := fun_mk (st := s_Matching___init__) l9 c9 k9
  have D9 : IDef K C_Matching f9 _ ["self", "costs"] := ⟨⟨mk_Matching, a9, i9, kc_Matching⟩, F9.binds (ps := ["self", "costs"]) fun _ _ _ _ _ _ us hl => match us, hl with | [_, _], _ => rfl⟩
  have F10 := fun_mk (st := s_Matching__shift) l10 c10 k10
  have D10 : MDef K C_Matching "_shift" f10 _ ["self", "rows", "columns", "gain"] := ⟨⟨a10, i10, k10⟩, F10.binds (ps := ["self", "rows", "columns", "gain"]) fun _ _ _ _ _ _ us hl => match us, hl with | [_, _, _, _], _ => rfl⟩
  have F11 := fun_mk (st := s_Matching__change_owners) l11 c11 k11
  have D11 : MDef K C_Matching "_change_owners" f11 _ ["self", "row", "last", "before"] := ⟨⟨a11, i11, k11⟩, F11.binds (ps := ["self", "row", "last", "before"]) fun _ _ _ _ _ _ us hl => match us, hl with | [_, _, _, _], _ => rfl⟩
  have F12 := fun_mk (st := s_Matching_take_in) l12 c12 k12
  have D12 : MDef K C_Matching "take_in" f12 _ ["self", "row"] := ⟨⟨a12, i12, k12⟩, F12.binds (ps := ["self", "row"]) fun _ _ _ _ _ _ us hl => match us, hl with | [_, _], _ => rfl⟩
  have F13 := fun_mk (st := s_Matching_assignment) l13 c13 k13
  have D13 : MDef K C_Matching "assignment" f13 _ ["self"] := ⟨⟨a13, i13, k13⟩, F13.binds (ps := ["self"]) fun _ _ _ _ _ _ us hl => match us, hl with | [_], _ => rfl⟩
  have F14 := fun_mk (st := s_assigned) l14 c14 k14
  have D14 : Def K mg "assigned" f14 _ ["costs"] := ⟨PySem.W.mg_of X G a14, F14.kp, F14.binds (ps := ["costs"]) fun _ _ _ _ _ _ us hl => match us, hl with | [_], _ => rfl⟩
  have F15 := fun_mk (st := s__law_form) l15 c15 k15
  have D15 : Def K mg "_law_form" f15 _ ["told"] := ⟨PySem.W.mg_of X G a15, F15.kp, F15.binds (ps := ["told"]) fun _ _ _ _ _ _ us hl => match us, hl with | [_], _ => rfl⟩
  have F16 := fun_mk (st := s__law_total) l16 c16 k16
  have D16 : Def K mg "_law_total" f16 _ ["costs", "assignment"] := ⟨PySem.W.mg_of X G a16, F16.kp, F16.binds (ps := ["costs", "assignment"]) fun _ _ _ _ _ _ us hl => match us, hl with | [_, _], _ => rfl⟩
  have F17 := fun_mk (st := s__law_right) l17 c17 k17
  have D17 : Def K mg "_law_right" f17 _ ["costs", "assignment", "potentials"] := ⟨PySem.W.mg_of X G a17, F17.kp, F17.binds (ps := ["costs", "assignment", "potentials"]) fun _ _ _ _ _ _ us hl => match us, hl with | [_, _, _], _ => rfl⟩
  have F18 := fun_mk (st := s_assign_right) l18 c18 k18
  have D18 : Def K mg "assign_right" f18 _ ["costs", "assignment", "potentials"] := ⟨PySem.W.mg_of X G a18, F18.kp, F18.binds (ps := ["costs", "assignment", "potentials"]) fun _ _ _ _ _ _ us hl => match us, hl with | [_, _, _], _ => rfl⟩
  have F19 := fun_mk (st := s__law_others) l19 c19 k19
  have D19 : Def K mg "_law_others" f19 _ ["draws", "costs", "wide"] := ⟨PySem.W.mg_of X G a19, F19.kp, F19.binds (ps := ["draws", "costs", "wide"]) fun _ _ _ _ _ _ us hl => match us, hl with | [_, _, _], _ => rfl⟩
  have F20 := fun_mk (st := s__law_changed) l20 c20 k20
  have D20 : Def K mg "_law_changed" f20 _ ["draws", "row", "unit"] := ⟨PySem.W.mg_of X G a20, F20.kp, F20.binds (ps := ["draws", "row", "unit"]) fun _ _ _ _ _ _ us hl => match us, hl with | [_, _, _], _ => rfl⟩
  have F21 := fun_mk (st := s__law_turned) l21 c21 k21
  have D21 : Def K mg "_law_turned" f21 _ ["draws", "order", "potentials", "unit"] := ⟨PySem.W.mg_of X G a21, F21.kp, F21.binds (ps := ["draws", "order", "potentials", "unit"]) fun _ _ _ _ _ _ us hl => match us, hl with | [_, _, _, _], _ => rfl⟩
  have F22 := fun_mk (st := s__law_same) l22 c22 k22
  have D22 : Def K mg "_law_same" f22 _ ["actual", "expected"] := ⟨PySem.W.mg_of X G a22, F22.kp, F22.binds (ps := ["actual", "expected"]) fun _ _ _ _ _ _ us hl => match us, hl with | [_, _], _ => rfl⟩
  have F23 := fun_mk (st := s_law) l23 c23 k23
  refine ⟨PySem.W.fnOf "law" "law" (defArgs s_law) (defBody s_law) (defScope s_law) .none kV23 dc23 pm23 an23 cd23 ct23, fun s v => .of_eq rfl, fun base _ _ => ?_⟩
  have G1 : FnOk l.prog w K mg base CX0 1 f1 _ ["script"] (sp__law_draws K) := ok__law_draws F1 T 
  have G2 : FnOk l.prog w K mg base CX0 1 f2 _ ["draws", "limit"] (sp__law_draw K) := ok__law_draw F2 T 
  have G3 : FnOk l.prog w K mg base CX0 2 f3 _ ["draws"] (sp__law_unit K) := ok__law_unit F3 T G2 D2
  have G4 : FnOk l.prog w K mg base CX0 2 f4 _ ["draws", "many"] (sp__law_order K) := ok__law_order F4 T G2 D2
  have G5 : FnOk l.prog w K mg base CX0 2 f5 _ ["draws", "unit"] (sp__law_number K) := ok__law_number F5 T G2 D2
  have G6 : FnOk l.prog w K mg base CX0 3 f6 _ ["draws", "high", "wide"] (sp__law_planted K) := ok__law_planted F6 T G3 D3 G4 D4 G2 D2 G5 D5
  have G7 : FnOk l.prog w K mg base CX0 3 f7 _ ["draws", "high", "wide"] (sp__law_plain K) := ok__law_plain F7 T G2 D2 G3 D3 G5 D5
  have G8 : FnOk l.prog w K mg base CX0 1 f8 _ ["costs"] (sp_many_columns K) := ok_many_columns F8 T 
  have G9 : FnOk l.prog w K mg base CX0 2 f9 _ ["self", "costs"] (sp_Matching___init__ K C_Matching) := ok_Matching___init__ F9 T G8 D8
  have G10 : FnOk l.prog w K mg base CX0 1 f10 _ ["self", "rows", "columns", "gain"] (sp_Matching__shift K C_Matching) := ok_Matching__shift F10 T 
  have G11 : FnOk l.prog w K mg base CX0 1 f11 _ ["self", "row", "last", "before"] (sp_Matching__change_owners K C_Matching) := ok_Matching__change_owners F11 T 
  have G12 : FnOk l.prog w K mg base CX0 2 f12 _ ["self", "row"] (sp_Matching_take_in K C_Matching) := ok_Matching_take_in F12 T G10 D10 G11 D11
  have G13 : FnOk l.prog w K mg base CX0 1 f13 _ ["self"] (sp_Matching_assignment K C_Matching) := ok_Matching_assignment F13 T 
  have G14 : FnOk l.prog w K mg base CX0 4 f14 _ ["costs"] (sp_assigned K) := ok_assigned F14 T G9 D9 G12 D12 G13 D13
  have G15 : FnOk l.prog w K mg base CX0 1 f15 _ ["told"] (sp__law_form K) := ok__law_form F15 T 
  have G16 : FnOk l.prog w K mg base CX0 1 f16 _ ["costs", "assignment"] (sp__law_total K) := ok__law_total F16 T 
  have G17 : FnOk l.prog w K mg base CX0 2 f17 _ ["costs", "assignment", "potentials"] (sp__law_right K) := ok__law_right F17 T G16 D16
  have G18 : FnOk l.prog w K mg base CX0 2 f18 _ ["costs", "assignment", "potentials"] (sp_assign_right K) := ok_assign_right F18 T G8 D8
  have G19 : FnOk l.prog w K mg base CX0 3 f19 _ ["draws", "costs", "wide"] (sp__law_others K) := ok__law_others F19 T G4 D4 G2 D2
  have G20 : FnOk l.prog w K mg base CX0 2 f20 _ ["draws", "row", "unit"] (sp__law_changed K) := ok__law_changed F20 T G2 D2
  have G21 : FnOk l.prog w K mg base CX0 3 f21 _ ["draws", "order", "potentials", "unit"] (sp__law_turned K) := ok__law_turned F21 T G2 D2 G20 D20
  have G22 : FnOk l.prog w K mg base CX0 30 f22 _ ["actual", "expected"] (sp__law_same K) := ok__law_same F22 T  D22
  exact ok_law F23 T G1 D1 G2 D2 G6 D6 G7 D7 G14 D14 G15 D15 G17 D17 G16 D16 G18 D18 G3 D3 G19 D19 G21 D21 G22 D22
end K15
open PySem PySem.W PyProof.Rows
set_option maxHeartbeats 0 in
theorem PySem.Challenge.cw_cellcloth_k15_great_assignments_holds : PySem.Challenge.rw_cellcloth_k15_great_assignments.Holds := by
  w_on; o_law; k_head; (case hw => w_witness2)
  k_fill
  refine V0.walk_at (l := PySem.Challenge.rw_cellcloth_k15_great_assignments) (n := 63) (x := "script") (sp := K15.sp_law) rfl (by decide) rfl (fun w h Y => PySem.W.kIn_of Y) ?F (fun _ _ a ns hl _ hS => ⟨a, ns, rfl, hS, hl, fun _ => rfl⟩)
  case F =>
    intro w mg fa h KX G hmg
    refine' K15.all_mk KX G hmg ?aC_Matching ?pg_Matching ?hd_Matching ?po_Matching ?sa_Matching ?mk_Matching ?kc_Matching ?n_Matching_costs ?n_Matching_of_rows ?n_Matching_of_columns ?n_Matching_owners ?a1 ?l1 ?c1 ?k1 ?a2 ?l2 ?c2 ?k2 ?a3 ?l3 ?c3 ?k3 ?a4 ?l4 ?c4 ?k4 ?a5 ?l5 ?c5 ?k5 ?a6 ?l6 ?c6 ?k6 ?a7 ?l7 ?c7 ?k7 ?a8 ?l8 ?c8 ?k8 ?a9 ?i9 ?l9 ?c9 ?k9 ?a10 ?i10 ?l10 ?c10 ?k10 ?a11 ?i11 ?l11 ?c11 ?k11 ?a12 ?i12 ?l12 ?c12 ?k12 ?a13 ?i13 ?l13 ?c13 ?k13 ?a14 ?l14 ?c14 ?k14 ?a15 ?l15 ?c15 ?k15 ?a16 ?l16 ?c16 ?k16 ?a17 ?l17 ?c17 ?k17 ?a18 ?l18 ?c18 ?k18 ?a19 ?l19 ?c19 ?k19 ?a20 ?l20 ?c20 ?k20 ?a21 ?l21 ?c21 ?k21 ?a22 ?l22 ?c22 ?k22 ?a23 ?l23 ?c23 ?k23 ?z_all ?z_any ?z_bool ?z_enumerate ?z_int ?z_isinstance ?z_len ?z_list ?z_min ?z_range ?z_repr ?z_set ?z_str ?z_sum ?z_tuple ?z_zip
    (case aC_Matching => k_is)
    (case pg_Matching => k_is)
    (case hd_Matching => k_is)
    (case po_Matching => k_is)
    (case sa_Matching => k_is)
    (case mk_Matching => k_is)
    (case kc_Matching => k_is)
    (case n_Matching_costs => k_is)
    (case n_Matching_of_rows => k_is)
    (case n_Matching_of_columns => k_is)
    (case n_Matching_owners => k_is)
    (case a1 => k_is)
    (case l1 => k_is)
    (case c1 => k_is)
    (case k1 => k_is)
    (case a2 => k_is)
    (case l2 => k_is)
    (case c2 => k_is)
    (case k2 => k_is)
    (case a3 => k_is)
    (case l3 => k_is)
    (case c3 => k_is)
    (case k3 => k_is)
    (case a4 => k_is)
    (case l4 => k_is)
    (case c4 => k_is)
    (case k4 => k_is)
    (case a5 => k_is)
    (case l5 => k_is)
    (case c5 => k_is)
    (case k5 => k_is)
    (case a6 => k_is)
    (case l6 => k_is)
    (case c6 => k_is)
    (case k6 => k_is)
    (case a7 => k_is)
    (case l7 => k_is)
    (case c7 => k_is)
    (case k7 => k_is)
    (case a8 => k_is)
    (case l8 => k_is)
    (case c8 => k_is)
    (case k8 => k_is)
    (case a9 => k_is)
    (case i9 => k_is)
    (case l9 => k_is)
    (case c9 => k_is)
    (case k9 => k_is)
    (case a10 => k_is)
    (case i10 => k_is)
    (case l10 => k_is)
    (case c10 => k_is)
    (case k10 => k_is)
    (case a11 => k_is)
    (case i11 => k_is)
    (case l11 => k_is)
    (case c11 => k_is)
    (case k11 => k_is)
    (case a12 => k_is)
    (case i12 => k_is)
    (case l12 => k_is)
    (case c12 => k_is)
    (case k12 => k_is)
    (case a13 => k_is)
    (case i13 => k_is)
    (case l13 => k_is)
    (case c13 => k_is)
    (case k13 => k_is)
    (case a14 => k_is)
    (case l14 => k_is)
    (case c14 => k_is)
    (case k14 => k_is)
    (case a15 => k_is)
    (case l15 => k_is)
    (case c15 => k_is)
    (case k15 => k_is)
    (case a16 => k_is)
    (case l16 => k_is)
    (case c16 => k_is)
    (case k16 => k_is)
    (case a17 => k_is)
    (case l17 => k_is)
    (case c17 => k_is)
    (case k17 => k_is)
    (case a18 => k_is)
    (case l18 => k_is)
    (case c18 => k_is)
    (case k18 => k_is)
    (case a19 => k_is)
    (case l19 => k_is)
    (case c19 => k_is)
    (case k19 => k_is)
    (case a20 => k_is)
    (case l20 => k_is)
    (case c20 => k_is)
    (case k20 => k_is)
    (case a21 => k_is)
    (case l21 => k_is)
    (case c21 => k_is)
    (case k21 => k_is)
    (case a22 => k_is)
    (case l22 => k_is)
    (case c22 => k_is)
    (case k22 => k_is)
    (case a23 => k_is)
    (case l23 => k_is)
    (case c23 => k_is)
    (case k23 => k_is)
    (case z_all => k_is)
    (case z_any => k_is)
    (case z_bool => k_is)
    (case z_enumerate => k_is)
    (case z_int => k_is)
    (case z_isinstance => k_is)
    (case z_len => k_is)
    (case z_list => k_is)
    (case z_min => k_is)
    (case z_range => k_is)
    (case z_repr => k_is)
    (case z_set => k_is)
    (case z_str => k_is)
    (case z_sum => k_is)
    (case z_tuple => k_is)
    (case z_zip => k_is)
