import PyProof.Rows.All
import Wide.All
import OpenK.AllK
import Wide.FinOn
import HandS.ForMost
import HandS.Codes
import HandS.IsInst
import HandS.WideBits
import KE.Datum
import PyProof.ReprRoads
import PyProof.ReprLen
import PyProof.Rows.SetFrom
import HandS.Set
import HandS.SetFor
import HandS.Strs
import HandS.SortInts
import HandS.TupSets
import HandS.Star
import HandS.Sort
import HandS.Conv
import HandS.Iter
import KE.KDictList
import HandS.Comp
import HandS.DictComp
import HandS.Wide
import HandS.Walk
import HandS.Dict
import HandS.Call
import KE.DataMinMax
import PyProof.TupleOfSeq
import HandS.HotCalls
import PyProof.TupleIter
import HandS.ForExc
import HandS.ExcInit
import HandS.ExcField
import HandS.ExcCtx
import HandS.FStr
import KE.KExcIs
import HandS.Zip
import PyProof.ZipIter
import PyProof.ReprBulk
import HandS.More
import HandS.Deep
import HandS.Small
import HandS.WordsDict
import HandS.Style
import HandS.TupAny
import HandS.RevRange
import HandS.Text
import HandS.ExcInitHot
import PySem.Challenge.RW_cellcloth_k57_spoilt_bits
set_option Elab.async false
set_option linter.all false
set_option maxRecDepth 100000
set_option maxHeartbeats 4000000
/-! data with a Lean type in the abstract heap: what a value holds, kept by growth; the heap but for what is mutable -/
namespace V0
open PySem PySem.Spec PyProof.Rows L2
open PySem.W (Datum)
/-- a def of the text as callers need it -/
structure Def (K : PySem.W.Frag) (mg : Str → Option Value) (x : Str) (f : Addr) (fd : FuncData) (ps : List Str) : Prop where
  m : mg x = some (.ref f)
  k : PySem.W.keepIn K (.ref f) = true
  b : Binds K fd ps []
abbrev vLen (K : PySem.W.Frag) : List V → Hp → VK → Prop := fun xs H Q => ∃ p ys, xs = [.ref p] ∧ (SqL K H p ys ∨ SqT K H p ys) ∧ Q (.int ys.length) H
abbrev vListOf (K : PySem.W.Frag) : List V → Hp → VK → Prop := fun xs H Q => ∃ p ys, xs = [.ref p] ∧ (SqL K H p ys ∨ SqT K H p ys) ∧ ∀ l, H l = none → Q (.ref l) (upd H l (.lst ys))
abbrev vTupleOf (K : PySem.W.Frag) : List V → Hp → VK → Prop := fun xs H Q => ∃ p ys, xs = [.ref p] ∧ ((SqL K H p ys ∧ ∀ l, H l = none → Q (.ref l) (upd H l (.tup ys))) ∨ (SqT K H p ys ∧ Q (.ref p) H))
/-- a statement that is never reached -/
theorem ps_never {X : Cx} {st : Stmt} : PS X st (fun _ _ _ => False) := ⟨fun _ _ _ _ _ _ h => h.elim⟩
def tTru (K : PySem.W.Frag) (ta : TE) : TT := fun σ H Q => ta σ H fun x H' => ∃ k, TruV K x H' k ∧ Q k H'
/-- as pt_truth, K told -/
theorem pt_truthK {X : Cx} {K : PySem.W.Frag} {a : Expr} {ta : TE} (hK : X.K = K) (ha : PE X a ta) (he : ∀ whole, isTrue a X.env whole = (do let v ← whole; standAt a.pos; holding [v] (truthy v))) :
    PT X a (tTru K ta) := by
  subst hK
  exact pt_truth ha he
theorem hu65 {A : Around} {k : Nat} (hr : Room k A) : A.units + 65 < cLine := by
  have := hr.un
  omega
theorem same_new {H : Hp} {p : Addr} {o : HO} (h : H p = none) : Same H (upd H p o) := fun b x e => by
  rw [upd_ne (ne_of_none e h)]
  exact e
theorem same_mut {H H' : Hp} {p : Addr} {o : HO} (e : Same H H') (h : H p = none) : Same H (upd H' p o) := fun a u ha => by
  rw [upd_ne (ne_of_none ha h)]
  exact e a u ha
theorem tup_same {K : PySem.W.Frag} {H H' : Hp} {a : Addr} {xs : List V} (e : Same H H') (h : SqT K H a xs) : SqT K H' a xs := by
  rcases h with (h | ⟨o, h⟩) | h
  · exact .inl (.inl (e _ _ h))
  · exact .inl (.inr ⟨o, e _ _ h⟩)
  · exact .inr h
theorem map_range_succ {α : Type} (f : Nat → α) (i : Nat) : (List.range (i + 1)).map f = (List.range i).map f ++ [f i] := by
  rw [List.range_succ, List.map_append]
  rfl
/-! ### data -/
class Dm (α : Type) [DecidableEq α] extends Datum α where
  lay : ∀ a : α, (Datum.toD a).canLay0 = true
instance : Dm Int where
  lay _ := by simp only [Datum.toD, PyData.canLay0]
instance : Dm Bool where
  lay _ := by simp only [Datum.toD, PyData.canLay0]
instance : Datum Nat where
  toD n := .int (n : Int)
  plain _ := rfl
  eqv a b := by
    simp only [PyData.eqv]
    rw [PySem.W.beq_decide]
    exact decide_eq_decide.mpr ⟨fun e => by omega, fun e => by rw [e]⟩
  depth := 0
  depth_le _ := Nat.le_refl _
instance : Dm Nat where
  lay _ := by simp only [Datum.toD, PyData.canLay0]
section
variable {α β : Type} [DecidableEq α] [Dm α] [DecidableEq β] [Dm β]
theorem lay_all : ∀ xs : List α, PyData.canLayAll0 (xs.map Datum.toD) = true
  | [] => by simp only [List.map_nil, PyData.canLayAll0]
  | x :: xs => by
    rw [List.map_cons, PyData.canLayAll0, Dm.lay x, lay_all xs]
    rfl
instance : Dm (List α) where
  lay xs := by
    simp only [Datum.toD, PyData.canLay0]
    exact lay_all xs
instance : Dm (α × β) where
  lay p := by
    simp only [Datum.toD, PyData.canLay0, PyData.canLayAll0, Bool.and_true, Bool.and_eq_true]
    exact ⟨Dm.lay p.1, Dm.lay p.2⟩
end
mutual
/-- as Dp, of what stands in the abstract heap alone -/
inductive Dh (H : Hp) : V → PyData → Prop
  | non : Dh H .non .none
  | bl (b : Bool) : Dh H (.bl b) (.bool b)
  | int (i : Int) : Dh H (.int i) (.int i)
  | str (x : Str) : Dh H (.str x) (.str x)
  | lst {a : Addr} {xs : List V} {ds : List PyData} : H a = some (.lst xs) → DhAll H xs ds → Dh H (.ref a) (.list ds)
  | tup {a : Addr} {xs : List V} {ds : List PyData} : H a = some (.tup xs) → DhAll H xs ds → Dh H (.ref a) (.tuple ds)
inductive DhAll (H : Hp) : List V → List PyData → Prop
  | nil : DhAll H [] []
  | cons {v : V} {vs : List V} {d : PyData} {ds : List PyData} : Dh H v d → DhAll H vs ds → DhAll H (v :: vs) (d :: ds)
end
mutual
theorem dh_same {H H' : Hp} (s : Same H H') : ∀ (d : PyData) (v : V), Dh H v d → Dh H' v d
  | .none, _, h => by cases h; exact .non
  | .bool b, _, h => by cases h; exact .bl b
  | .int i, _, h => by cases h; exact .int i
  | .str x, _, h => by cases h; exact .str x
  | .list ds, _, h => by
    cases h with
    | lst h1 h2 => exact .lst (s _ _ h1) (dh_sameAll s ds _ h2)
  | .tuple ds, _, h => by
    cases h with
    | tup h1 h2 => exact .tup (s _ _ h1) (dh_sameAll s ds _ h2)
  | .dict _, _, h => by cases h
theorem dh_sameAll {H H' : Hp} (s : Same H H') : ∀ (ds : List PyData) (vs : List V), DhAll H vs ds → DhAll H' vs ds
  | [], _, h => by cases h; exact .nil
  | d :: ds, _, h => by
    cases h with
    | cons h1 h2 => exact .cons (dh_same s d _ h1) (dh_sameAll s ds _ h2)
end
mutual
theorem dh_dp {K : PySem.W.Frag} {H : Hp} : ∀ (d : PyData) (v : V), Dh H v d → Dp K H v d
  | .none, _, h => by cases h; exact .non
  | .bool b, _, h => by cases h; exact .bl b
  | .int i, _, h => by cases h; exact .int i
  | .str x, _, h => by cases h; exact .str x
  | .list ds, _, h => by
    cases h with
    | lst h1 h2 => exact .lst (SqL.of h1) (dh_dpAll ds _ h2)
  | .tuple ds, _, h => by
    cases h with
    | tup h1 h2 => exact .tup (SqT.of h1) (dh_dpAll ds _ h2)
  | .dict _, _, h => by cases h
theorem dh_dpAll {K : PySem.W.Frag} {H : Hp} : ∀ (ds : List PyData) (vs : List V), DhAll H vs ds → DpAll K H vs ds
  | [], _, h => by cases h; exact .nil
  | d :: ds, _, h => by
    cases h with
    | cons h1 h2 => exact .cons (dh_dp d _ h1) (dh_dpAll ds _ h2)
end
section
variable {α β : Type} [DecidableEq α] [Dm α] [DecidableEq β] [Dm β]
/-- v holds x -/
def Dv (H : Hp) (v : V) (x : α) : Prop := Dh H v (Datum.toD x)
def Dvs (H : Hp) (vs : List V) (xs : List α) : Prop := DhAll H vs (xs.map Datum.toD)
theorem Dv.same {H H' : Hp} {v : V} {x : α} (h : Dv H v x) (s : Same H H') : Dv H' v x := dh_same s _ _ h
theorem Dvs.same {H H' : Hp} {vs : List V} {xs : List α} (h : Dvs H vs xs) (s : Same H H') : Dvs H' vs xs := dh_sameAll s _ _ h
theorem Dv.int {H : Hp} (i : Int) : Dv H (.int i) i := Dh.int i
theorem Dv.nat {H : Hp} (n : Nat) : Dv H (.int (n : Int)) n := Dh.int (n : Int)
theorem Dv.bl {H : Hp} (b : Bool) : Dv H (.bl b) b := Dh.bl b
theorem Dv.int_inv {H : Hp} {v : V} {i : Int} (h : Dv H v i) : v = .int i := by
  unfold Dv at h
  cases h
  rfl
theorem Dv.nat_inv {H : Hp} {v : V} {n : Nat} (h : Dv H v n) : v = .int (n : Int) := by
  unfold Dv at h
  cases h
  rfl
theorem Dvs.nil {H : Hp} : Dvs H [] ([] : List α) := DhAll.nil
theorem Dvs.cons {H : Hp} {v : V} {vs : List V} {x : α} {xs : List α} (h : Dv H v x) (hs : Dvs H vs xs) : Dvs H (v :: vs) (x :: xs) := DhAll.cons h hs
theorem Dvs.cons_inv {H : Hp} {vs : List V} {x : α} {xs : List α} (h : Dvs H vs (x :: xs)) : ∃ v us, vs = v :: us ∧ Dv H v x ∧ Dvs H us xs := by
  unfold Dvs at h
  cases h with
  | cons h1 h2 => exact ⟨_, _, rfl, h1, h2⟩
theorem Dvs.nil_inv {H : Hp} {vs : List V} (h : Dvs H vs ([] : List α)) : vs = [] := by
  unfold Dvs at h
  cases h
  rfl
theorem Dvs.app {H : Hp} : ∀ {vs us : List V} {xs ys : List α}, Dvs H vs xs → Dvs H us ys → Dvs H (vs ++ us) (xs ++ ys)
  | _, _, [], _, h, g => by rw [h.nil_inv]; exact g
  | _, _, _ :: _, _, h, g => by
    obtain ⟨v, us, rfl, h1, h2⟩ := h.cons_inv
    exact .cons h1 (h2.app g)
theorem Dvs.len {H : Hp} : ∀ {vs : List V} {xs : List α}, Dvs H vs xs → vs.length = xs.length
  | _, [], h => by rw [h.nil_inv]; rfl
  | _, _ :: _, h => by
    obtain ⟨v, us, rfl, h1, h2⟩ := h.cons_inv
    rw [List.length_cons, List.length_cons, h2.len]
theorem Dvs.get {H : Hp} : ∀ {vs : List V} {xs : List α} {i : Nat} {x : α}, Dvs H vs xs → xs[i]? = some x → ∃ v, vs[i]? = some v ∧ Dv H v x
  | _, [], i, _, h, e => by simp at e
  | _, _ :: _, 0, _, h, e => by
    obtain ⟨v, us, rfl, h1, h2⟩ := h.cons_inv
    cases e
    exact ⟨_, rfl, h1⟩
  | _, _ :: _, i + 1, _, h, e => by
    obtain ⟨v, us, rfl, h1, h2⟩ := h.cons_inv
    exact h2.get (i := i) e
theorem Dvs.at {H : Hp} {vs : List V} {xs : List α} {i : Nat} {v : V} (h : Dvs H vs xs) (e : vs[i]? = some v) : ∃ x, xs[i]? = some x ∧ Dv H v x := by
  have hi : i < xs.length := by
    rw [← h.len]
    exact (List.getElem?_eq_some_iff.mp e).1
  obtain ⟨u, e2, d⟩ := h.get (List.getElem?_eq_getElem hi)
  rw [e] at e2
  cases e2
  exact ⟨_, List.getElem?_eq_getElem hi, d⟩
theorem Dv.list {H : Hp} {a : Addr} {vs : List V} {xs : List α} (h : H a = some (.lst vs)) (hs : Dvs H vs xs) : Dv H (.ref a) xs := Dh.lst h hs
theorem Dv.list_inv {H : Hp} {v : V} {xs : List α} (h : Dv H v xs) : ∃ a vs, v = .ref a ∧ H a = some (.lst vs) ∧ Dvs H vs xs := by
  unfold Dv at h
  cases h with
  | lst h1 h2 => exact ⟨_, _, rfl, h1, h2⟩
theorem Dv.pair {H : Hp} {a : Addr} {u v : V} {x : α} {y : β} (h : H a = some (.tup [u, v])) (h1 : Dv H u x) (h2 : Dv H v y) : Dv H (.ref a) (x, y) := Dh.tup h (.cons h1 (.cons h2 .nil))
theorem Dv.pair_inv {H : Hp} {v : V} {p : α × β} (h : Dv H v p) : ∃ a u w, v = .ref a ∧ H a = some (.tup [u, w]) ∧ Dv H u p.1 ∧ Dv H w p.2 := by
  unfold Dv at h
  cases h with
  | tup h1 h2 =>
    cases h2 with
    | cons h3 h4 =>
      cases h4 with
      | cons h5 h6 =>
        cases h6
        exact ⟨_, _, _, rfl, h1, h3, h5⟩
abbrev vi (xs : List Int) : List V := xs.map V.int
abbrev vn (xs : List Nat) : List V := xs.map (fun (b : Nat) => V.int (b : Int))
theorem vn_len (xs : List Nat) : (vn xs).length = xs.length := List.length_map _
theorem vn_get {xs : List Nat} {i n : Nat} (h : xs[i]? = some n) : (vn xs)[i]? = some (.int (n : Int)) := by
  rw [List.getElem?_map, h]
  rfl
theorem Dvs.ints_inv {H : Hp} : ∀ {vs : List V} {xs : List Int}, Dvs H vs xs → vs = vi xs
  | _, [], h => h.nil_inv
  | _, _ :: _, h => by
    obtain ⟨v, us, rfl, h1, h2⟩ := h.cons_inv
    rw [h1.int_inv, h2.ints_inv]
    rfl
theorem Dvs.nats_inv {H : Hp} : ∀ {vs : List V} {xs : List Nat}, Dvs H vs xs → vs = vn xs
  | _, [], h => h.nil_inv
  | _, _ :: _, h => by
    obtain ⟨v, us, rfl, h1, h2⟩ := h.cons_inv
    rw [h1.nat_inv, h2.nats_inv]
    rfl
theorem Dvs.ints {H : Hp} : ∀ xs : List Int, Dvs H (vi xs) xs
  | [] => .nil
  | x :: r => .cons (.int x) (Dvs.ints r)
theorem Dvs.nats {H : Hp} : ∀ xs : List Nat, Dvs H (vn xs) xs
  | [] => .nil
  | x :: r => .cons (.nat x) (Dvs.nats r)
theorem Dvs.bls {H : Hp} : ∀ xs : List Bool, Dvs H (xs.map V.bl) xs
  | [] => .nil
  | x :: r => .cons (.bl x) (Dvs.bls r)
/-- a list of whole numbers from 0 on -/
theorem Dv.natl {H : Hp} {a : Addr} {xs : List Nat} (h : H a = some (.lst (vn xs))) : Dv H (.ref a) xs := .list h (Dvs.nats xs)
theorem Dv.natl_inv {H : Hp} {v : V} {xs : List Nat} (h : Dv H v xs) : ∃ a, v = .ref a ∧ H a = some (.lst (vn xs)) := by
  obtain ⟨a, vs, rfl, h1, h2⟩ := h.list_inv
  rw [h2.nats_inv] at h1
  exact ⟨a, rfl, h1⟩
theorem Dv.intl {H : Hp} {a : Addr} {xs : List Int} (h : H a = some (.lst (vi xs))) : Dv H (.ref a) xs := .list h (Dvs.ints xs)
theorem Dv.intl_inv {H : Hp} {v : V} {xs : List Int} (h : Dv H v xs) : ∃ a, v = .ref a ∧ H a = some (.lst (vi xs)) := by
  obtain ⟨a, vs, rfl, h1, h2⟩ := h.list_inv
  rw [h2.ints_inv] at h1
  exact ⟨a, rfl, h1⟩
theorem shaped_of (x : α) (hd : Datum.depth α ≤ 64) : SeqAt.shaped (Datum.toD x) = true := by
  unfold SeqAt.shaped
  rw [Dm.lay x, Bool.true_and]
  exact decide_eq_true (Nat.le_trans (Datum.depth_le x) hd)
theorem eqD {K : PySem.W.Frag} {H : Hp} {x y : V} {Q : VK} {a b : α} (hx : Dv H x a) (hy : Dv H y b) (hd : Datum.depth α ≤ 64) (q : Q (.bl (decide (a = b))) H) : rEqD K x y H Q := by
  refine ⟨_, _, dh_dp _ _ hx, dh_dp _ _ hy, shaped_of a hd, shaped_of b hd, ?_⟩
  rw [Datum.eqv]
  exact q
theorem neD {K : PySem.W.Frag} {H : Hp} {x y : V} {Q : VK} {a b : α} (hx : Dv H x a) (hy : Dv H y b) (hd : Datum.depth α ≤ 64) (q : Q (.bl (!decide (a = b))) H) : rNeD K x y H Q := by
  refine ⟨_, _, dh_dp _ _ hx, dh_dp _ _ hy, shaped_of a hd, shaped_of b hd, ?_⟩
  rw [Datum.eqv]
  exact q
end
/-! ### the heap but for two objects that change -/
def res (p c : Addr) (H : Hp) : Hp := fun b => if b = p ∨ b = c then none else H b
theorem res_eq {p c b : Addr} {H : Hp} (h1 : b ≠ p) (h2 : b ≠ c) : res p c H b = H b := if_neg (fun h => h.elim h1 h2)
theorem res_some {p c b : Addr} {H : Hp} {o : HO} (h : res p c H b = some o) : b ≠ p ∧ b ≠ c ∧ H b = some o := by
  unfold res at h
  by_cases e : b = p ∨ b = c
  · rw [if_pos e] at h
    cases h
  · rw [if_neg e] at h
    exact ⟨fun z => e (.inl z), fun z => e (.inr z), h⟩
theorem res_same (p c : Addr) (H : Hp) : Same (res p c H) H := fun _ _ h => (res_some h).2.2
theorem Same.res {H H' : Hp} (s : Same H H') (p c : Addr) : Same (res p c H) (res p c H') := fun b o h => by
  obtain ⟨h1, h2, h3⟩ := res_some h
  rw [res_eq h1 h2]
  exact s _ _ h3
theorem res_of {p c b : Addr} {H : Hp} {o : HO} (h1 : b ≠ p) (h2 : b ≠ c) (h : H b = some o) : res p c H b = some o := by
  rw [res_eq h1 h2]
  exact h
/-- the heap but for one object -/
def hid (q : Addr) (H : Hp) : Hp := fun b => if b = q then none else H b
theorem hid_eq {q b : Addr} {H : Hp} (h : b ≠ q) : hid q H b = H b := if_neg h
theorem hid_some {q b : Addr} {H : Hp} {o : HO} (h : hid q H b = some o) : b ≠ q ∧ H b = some o := by
  unfold hid at h
  by_cases e : b = q
  · rw [if_pos e] at h
    cases h
  · rw [if_neg e] at h
    exact ⟨e, h⟩
theorem hid_of {q b : Addr} {H : Hp} {o : HO} (h : b ≠ q) (e : H b = some o) : hid q H b = some o := by
  rw [hid_eq h]
  exact e
theorem hid_same (q : Addr) (H : Hp) : Same (hid q H) H := fun _ _ h => (hid_some h).2
theorem hid_mono {q : Addr} {H H' : Hp} (s : Same H H') : Same (hid q H) (hid q H') := fun b o h => by
  obtain ⟨h1, h2⟩ := hid_some h
  exact hid_of h1 (s _ _ h2)
theorem hid_mut {q : Addr} {H : Hp} {o : HO} : Same (hid q H) (hid q (upd H q o)) := fun b u h => by
  obtain ⟨h1, h2⟩ := hid_some h
  exact hid_of h1 (by rw [upd_ne h1]; exact h2)
theorem hid_res_mut {p c q : Addr} {H : Hp} {o : HO} : Same (hid q (res p c H)) (hid q (res p c (upd H q o))) := fun b u h => by
  obtain ⟨h1, h2⟩ := hid_some h
  obtain ⟨h3, h4, h5⟩ := res_some h2
  exact hid_of h1 (res_of h3 h4 (by rw [upd_ne h1]; exact h5))
theorem res_upd {p c q : Addr} {H : Hp} {o : HO} (h1 : q ≠ p) (h2 : q ≠ c) : res p c (upd H q o) q = some o := by
  rw [res_eq h1 h2]
  exact upd_same
theorem res_mut {p c D : Addr} {H H' : Hp} {o : HO} (e : Same (res p c H) (res p c H')) (h : H D = none) : Same (res p c H) (res p c (upd H' D o)) := fun b u hb => by
  obtain ⟨h1, h2, h3⟩ := res_some hb
  have h4 : b ≠ D := fun z => by
    rw [z, h] at h3
    cases h3
  rw [res_eq h1 h2, upd_ne h4]
  exact (res_some (e _ _ hb)).2.2
/-- the state of the draws: the script's numbers, from 0 on, and a seed -/
structure Dr (H : Hp) (p c : Addr) : Prop where
  ne : p ≠ c
  st : ∃ (cs : List Nat) (s : Int), H p = some (.lst [.ref c, .int s]) ∧ H c = some (.lst (vn cs)) ∧ cs.length ≤ 63
theorem Dr.same {H H' : Hp} {p c : Addr} (h : Dr H p c) (s : Same H H') : Dr H' p c := by
  obtain ⟨n, cs, z, h1, h2, h3⟩ := h
  exact ⟨n, cs, z, s _ _ h1, s _ _ h2, h3⟩
theorem Dr.off {H : Hp} {p c q : Addr} (h : Dr H p c) (hq : H q = none) : q ≠ p ∧ q ≠ c := by
  obtain ⟨n, cs, z, h1, h2, h3⟩ := h
  exact ⟨fun e => (by rw [e, h1] at hq; cases hq), fun e => (by rw [e, h2] at hq; cases hq)⟩
/-- from H to H' all but the state of the draws stays -/
structure Go (p c : Addr) (H H' : Hp) : Prop where
  a : Dr H p c
  b : Dr H' p c
  s : Same (res p c H) (res p c H')
theorem Go.refl {p c : Addr} {H : Hp} (h : Dr H p c) : Go p c H H := ⟨h, h, Same.refl _⟩
theorem Go.trans {p c : Addr} {H H1 H2 : Hp} (x : Go p c H H1) (y : Go p c H1 H2) : Go p c H H2 := ⟨x.a, y.b, x.s.trans y.s⟩
theorem Go.of {p c : Addr} {H H' : Hp} (h : Dr H p c) (s : Same H H') : Go p c H H' := ⟨h, h.same s, V0.Same.res s p c⟩
theorem Go.more {p c : Addr} {H H1 H2 : Hp} (x : Go p c H H1) (s : Same H1 H2) : Go p c H H2 := x.trans (Go.of x.b s)
theorem Go.mut {p c D : Addr} {H H' : Hp} {o : HO} (x : Go p c H H') (h : H D = none) : Go p c H (upd H' D o) := by
  refine ⟨x.a, ?_, res_mut x.s h⟩
  obtain ⟨h1, h2⟩ := x.a.off h
  obtain ⟨n, cs, z, e1, e2, e3⟩ := x.b
  exact ⟨n, cs, z, (by rw [upd_ne (fun e => h1 e.symm)]; exact e1), (by rw [upd_ne (fun e => h2 e.symm)]; exact e2), e3⟩
theorem Go.get {p c b : Addr} {H H' : Hp} {o : HO} (x : Go p c H H') (h1 : b ≠ p) (h2 : b ≠ c) (h : H b = some o) : H' b = some o := by
  rw [← res_eq (p := p) (c := c) (H := H) h1 h2] at h
  exact (res_some (x.s _ _ h)).2.2
/-- what was new at H and stands at H1 stands at H' -/
theorem Go.get' {p c b : Addr} {H H1 H' : Hp} {o : HO} (x : Go p c H1 H') (d : Dr H p c) (n : H b = none) (h : H1 b = some o) : H' b = some o := x.get (d.off n).1 (d.off n).2 h
theorem Go.up {p c b : Addr} {H H' : Hp} {o : HO} (x : Go p c H H') (h : res p c H b = some o) : H' b = some o := (res_some (x.s _ _ h)).2.2
theorem Go.none {p c b : Addr} {H H' : Hp} (x : Go p c H H') (h : H' b = none) : H b = none := by
  obtain ⟨h1, h2⟩ := x.b.off h
  cases e : H b with
  | none => rfl
  | some o =>
    rw [x.get h1 h2 e] at h
    cases h
theorem Dv.up {α : Type} [DecidableEq α] [Dm α] {p c : Addr} {H : Hp} {v : V} {x : α} (h : Dv (res p c H) v x) : Dv H v x := h.same (res_same p c H)
theorem Dvs.up {α : Type} [DecidableEq α] [Dm α] {p c : Addr} {H : Hp} {vs : List V} {x : List α} (h : Dvs (res p c H) vs x) : Dvs H vs x := h.same (res_same p c H)
theorem emod_range {x m : Int} (h : 0 < m) : 0 ≤ x.fmod m ∧ x.fmod m < m := by
  rw [Int.fmod_eq_emod_of_nonneg x (by omega)]
  exact ⟨Int.emod_nonneg _ (by omega), Int.emod_lt_of_pos _ h⟩
theorem ix_nat {n j : Nat} (h : j < n) : ixN n (j : Int) = some j := by
  unfold ixN
  rw [if_pos (Int.natCast_nonneg _), if_pos (by omega), Int.toNat_natCast]
/-- what is new at H' -/
def fresh (H H' : Hp) : Hp := fun b => match H b with
  | none => H' b
  | some _ => none
theorem fresh_some {H H' : Hp} {b : Addr} {o : HO} (h : fresh H H' b = some o) : H b = none ∧ H' b = some o := by
  unfold fresh at h
  cases e : H b with
  | none =>
    rw [e] at h
    exact ⟨rfl, h⟩
  | some u =>
    rw [e] at h
    cases h
theorem fresh_of {H H' : Hp} {b : Addr} {o : HO} (h : H b = none) (e : H' b = some o) : fresh H H' b = some o := by
  unfold fresh
  rw [h]
  exact e
theorem fresh_same {H H' : Hp} : Same (fresh H H') H' := fun _ _ h => (fresh_some h).2
theorem fresh_pre {H H1 H' : Hp} (s : Same H H1) : Same (fresh H1 H') (fresh H H') := fun b o h => by
  obtain ⟨h1, h2⟩ := fresh_some h
  refine fresh_of ?_ h2
  cases e : H b with
  | none => rfl
  | some u =>
    rw [s _ _ e] at h1
    cases h1
theorem fresh_post {H H' H2 : Hp} (s : Same H' H2) : Same (fresh H H') (fresh H H2) := fun b o h => by
  obtain ⟨h1, h2⟩ := fresh_some h
  exact fresh_of h1 (s _ _ h2)
theorem fresh_hid {H H' : Hp} {q : Addr} {o : HO} (h : H q = some o) : Same (fresh H H') (hid q H') := fun b u e => by
  obtain ⟨h1, h2⟩ := fresh_some e
  refine hid_of (fun z => ?_) h2
  rw [z, h] at h1
  cases h1
/-- new at H', as H goes to H' by growth -/
theorem none_of {H H' : Hp} {b : Addr} (s : Same H H') (h : H' b = none) : H b = none := by
  cases e : H b with
  | none => rfl
  | some u =>
    rw [s _ _ e] at h
    cases h
theorem upd_id {H : Hp} {a : Addr} {o : HO} (h : H a = some o) : upd H a o = H := funext fun b => by
  by_cases e : b = a
  · rw [e, upd_same, h]
  · rw [upd_ne e]
theorem small64k {n : Nat} (h : n ≤ 65536) : n < sizeLine := Nat.lt_of_le_of_lt h (by decide)
theorem fresh_res {p c : Addr} {H H' : Hp} (d : Dr H p c) : Same (fresh H H') (res p c H') := fun b o h => by
  obtain ⟨h1, h2⟩ := fresh_some h
  obtain ⟨h3, h4⟩ := d.off h1
  exact res_of h3 h4 h2
end V0
/-! nets as data, and what the laws make of them -/
namespace V0
open PySem PySem.Spec PyProof.Rows L2
open PySem.W (Datum)
structure Net where
  ins : Nat
  starts : List Nat
  gates : List (Nat × Nat)
  nexts : List Nat
  outs : List Nat
  deriving DecidableEq
theorem eqv_net (a b : Str) : PyData.eqv (.str a) (.str b) = decide (a = b) := by
  simp only [PyData.eqv]
  exact PySem.W.beq_decide a b
instance : Datum Net where
  toD n := .tuple [.str "net", Datum.toD n.ins, Datum.toD n.starts, Datum.toD n.gates, Datum.toD n.nexts, Datum.toD n.outs]
  plain n := by simp only [PyData.plain, PyData.plainAll, Datum.plain, Bool.and_self]
  eqv a b := by
    simp only [PyData.eqv, PyData.eqvAll, Datum.eqv, Bool.and_true]
    rw [PySem.W.beq_decide, ← Bool.decide_and, ← Bool.decide_and, ← Bool.decide_and, ← Bool.decide_and, ← Bool.decide_and]
    refine decide_eq_decide.mpr ⟨fun ⟨_, h1, h2, h3, h4, h5⟩ => ?_, fun e => by rw [e]; exact ⟨rfl, rfl, rfl, rfl, rfl, rfl⟩⟩
    cases a
    cases b
    simp only at h1 h2 h3 h4 h5
    rw [h1, h2, h3, h4, h5]
  depth := 3
  depth_le n := by
    have h1 := Datum.depth_le n.ins
    have h2 := Datum.depth_le n.starts
    have h3 := Datum.depth_le n.gates
    have h4 := Datum.depth_le n.nexts
    have h5 := Datum.depth_le n.outs
    have e1 : Datum.depth Nat = 0 := rfl
    have e2 : Datum.depth (List Nat) = 1 := rfl
    have e3 : Datum.depth (List (Nat × Nat)) = 2 := rfl
    rw [e1] at h1
    rw [e2] at h2 h4 h5
    rw [e3] at h3
    simp only [PyData.depth, PyData.depthAll]
    omega
instance : Dm Net where
  lay n := by
    have h1 := Dm.lay n.ins
    have h2 := Dm.lay n.starts
    have h3 := Dm.lay n.gates
    have h4 := Dm.lay n.nexts
    have h5 := Dm.lay n.outs
    simp only [Datum.toD] at h1 h2 h3 h4 h5 ⊢
    simp only [PyData.canLay0, PyData.canLayAll0, Bool.and_true] at h1 h2 h3 h4 h5 ⊢
    rw [h2, h3, h4, h5]
    decide +kernel
section
theorem Dv.net_inv {H : Hp} {v : V} {n : Net} (h : Dv H v n) : ∃ a s g x o, v = .ref a ∧ H a = some (.tup [.str "net", .int (n.ins : Int), .ref s, .ref g, .ref x, .ref o]) ∧
    Dv H (.ref s) n.starts ∧ Dv H (.ref g) n.gates ∧ Dv H (.ref x) n.nexts ∧ Dv H (.ref o) n.outs := by
  unfold Dv at h
  cases h with
  | tup h1 h2 =>
    cases h2 with
    | cons a1 h2 =>
      cases h2 with
      | cons a2 h2 =>
        cases h2 with
        | cons a3 h2 =>
          cases h2 with
          | cons a4 h2 =>
            cases h2 with
            | cons a5 h2 =>
              cases h2 with
              | cons a6 h2 =>
                cases h2
                cases a1
                have e2 := Dv.nat_inv (n := n.ins) a2
                subst e2
                obtain ⟨s, _, rfl, _⟩ := Dv.list_inv (xs := n.starts) a3
                obtain ⟨g, _, rfl, _⟩ := Dv.list_inv (xs := n.gates) a4
                obtain ⟨x, _, rfl, _⟩ := Dv.list_inv (xs := n.nexts) a5
                obtain ⟨o, _, rfl, _⟩ := Dv.list_inv (xs := n.outs) a6
                exact ⟨_, _, _, _, _, rfl, h1, a3, a4, a5, a6⟩
theorem Dv.net {H : Hp} {a : Addr} {n : Net} {s g x o : V} (h : H a = some (.tup [.str "net", .int (n.ins : Int), s, g, x, o])) (h1 : Dv H s n.starts) (h2 : Dv H g n.gates) (h3 : Dv H x n.nexts) (h4 : Dv H o n.outs) : Dv H (.ref a) n :=
  Dh.tup h (.cons (.str _) (.cons (.int _) (.cons h1 (.cons h2 (.cons h3 (.cons h4 .nil))))))
end
/-- how many nodes there are behind the inputs and flops -/
def Net.base (n : Net) : Nat := 1 + n.ins + n.starts.length
def Net.many (n : Net) : Nat := n.base + n.gates.length
structure Net.Ok (n : Net) (ins flops most : Nat) : Prop where
  ins : n.ins ≤ ins
  fl : n.starts.length ≤ flops
  bits : ∀ b ∈ n.starts, b < 2
  most : n.gates.length ≤ most
  g : ∀ j g, n.gates[j]? = some g → g.1 < 2 * (n.base + j) ∧ g.2 < 2 * (n.base + j)
  nl : n.nexts.length = n.starts.length
  nx : ∀ x ∈ n.nexts, x < 2 * n.many
  ol : n.outs.length ≤ 3
  ox : ∀ x ∈ n.outs, x < 2 * n.many
/-- a literal's bit in a row of values -/
def bitv (row : List Nat) (l : Nat) : Nat := (row[l / 2]?.getD 0) ^^^ (l % 2)
def rowOf (gs : List (Nat × Nat)) (row : List Nat) : List Nat := gs.foldl (fun r g => r ++ [bitv r g.1 * bitv r g.2]) row
def Net.row (n : Net) (held bits : List Nat) : List Nat := rowOf n.gates (0 :: bits ++ held)
theorem rowOf_len (gs : List (Nat × Nat)) (r : List Nat) : (rowOf gs r).length = r.length + gs.length := by
  induction gs generalizing r with
  | nil => rfl
  | cons g gs ih =>
    show (rowOf gs _).length = _
    rw [ih, List.length_append, List.length_cons, List.length_cons, List.length_nil]
    omega
theorem rowOf_snoc (gs : List (Nat × Nat)) (g : Nat × Nat) (r : List Nat) : rowOf (gs ++ [g]) r = rowOf gs r ++ [bitv (rowOf gs r) g.1 * bitv (rowOf gs r) g.2] := by
  unfold rowOf
  rw [List.foldl_append]
  rfl
theorem bitv_lt {row : List Nat} (h : ∀ b ∈ row, b < 2) (l : Nat) : bitv row l < 2 := by
  have h1 : row[l / 2]?.getD 0 < 2 := by
    cases e : row[l / 2]? with
    | none => decide
    | some x => exact h x (List.mem_of_getElem? e)
  exact Nat.xor_lt_two_pow (n := 1) h1 (Nat.mod_lt _ (by decide))
theorem mul_lt2 {a b : Nat} (ha : a < 2) (hb : b < 2) : a * b < 2 := by
  have : a = 0 ∨ a = 1 := by omega
  rcases this with rfl | rfl <;> omega
theorem rowOf_lt {gs : List (Nat × Nat)} {r : List Nat} (h : ∀ b ∈ r, b < 2) : ∀ b ∈ rowOf gs r, b < 2 := by
  induction gs generalizing r with
  | nil => exact h
  | cons g gs ih =>
    refine ih (r := r ++ [_]) fun b hb => ?_
    rcases List.mem_append.mp hb with hb | hb
    · exact h b hb
    · rw [List.mem_singleton.mp hb]
      exact mul_lt2 (bitv_lt h _) (bitv_lt h _)
theorem take_snoc {α : Type} {xs : List α} {i : Nat} {x : α} (h : xs[i]? = some x) : xs.take (i + 1) = xs.take i ++ [x] := by
  rw [List.take_add_one, h]
  rfl
theorem get_snoc {α : Type} {xs : List α} {x y : α} {k : Nat} (h : (xs ++ [x])[k]? = some y) : (k < xs.length ∧ xs[k]? = some y) ∨ (k = xs.length ∧ y = x) := by
  by_cases hk : k < xs.length
  · rw [List.getElem?_append_left hk] at h
    exact .inl ⟨hk, h⟩
  · rw [List.getElem?_append_right (by omega)] at h
    have e : k - xs.length = 0 := by
      cases e : k - xs.length with
      | zero => rfl
      | succ j =>
        rw [e] at h
        simp at h
    rw [e] at h
    cases h
    exact .inr ⟨by omega, rfl⟩
theorem mem_snoc {α : Type} {P : α → Prop} {xs : List α} {x : α} (h : ∀ y ∈ xs, P y) (hx : P x) : ∀ y ∈ xs ++ [x], P y := by
  intro y hy
  rcases List.mem_append.mp hy with hy | hy
  · exact h y hy
  · rw [List.mem_singleton.mp hy]
    exact hx
theorem vn_snoc (xs : List Nat) (x : Nat) : vn xs ++ [V.int (x : Int)] = vn (xs ++ [x]) := by
  unfold vn
  rw [List.map_append]
  rfl
theorem cut_nn (xs : List Nat) {a b : Nat} (h1 : a ≤ b) (h2 : b ≤ xs.length) : cutV (vn xs) (some (a : Int)) (some (b : Int)) = vn ((xs.drop a).take (b - a)) := by
  unfold cutV
  rw [HT.sIx_nat, HT.sIx_nat, vn_len, Nat.min_eq_left h2, Nat.min_eq_left (Nat.le_trans h1 h2)]
  unfold vn
  rw [← List.map_drop, ← List.map_take]
theorem set_vn (xs : List Nat) (i x : Nat) : (vn xs).set i (.int (x : Int)) = vn (xs.set i x) := by
  unfold vn
  rw [List.map_set]
theorem mem_set {α : Type} {P : α → Prop} {xs : List α} {i : Nat} {x : α} (h : ∀ y ∈ xs, P y) (hx : P x) : ∀ y ∈ xs.set i x, P y := by
  intro y hy
  rcases List.mem_or_eq_of_mem_set hy with hy | rfl
  · exact h y hy
  · exact hx
theorem dec_bool (a b : Bool) : decide (V.bl a = V.bl b) = decide (a = b) := by rw [Bool.eq_iff_iff]; simp
theorem dec_int (a b : Int) : decide (V.int a = V.int b) = decide (a = b) := by rw [Bool.eq_iff_iff]; simp
theorem dec_nat (a b : Nat) : decide (V.int (a : Int) = V.int (b : Int)) = decide (a = b) := by
  rw [dec_int]
  exact decide_eq_decide.mpr ⟨fun e => by omega, fun e => by rw [e]⟩
theorem dec_one (a : Nat) : decide (V.int (a : Int) = V.int 1) = decide (a = 1) := dec_nat a 1
theorem flat_vn : ∀ xs : List Nat, (vn xs).all flatV = true
  | [] => rfl
  | y :: r => by
    show (true && (vn r).all flatV) = true
    rw [flat_vn r]
    rfl
theorem inV_vn (c : Nat) : ∀ xs : List Nat, inV (.int (c : Int)) (vn xs) = decide (c ∈ xs)
  | [] => by rfl
  | y :: r => by
    have ih := inV_vn c r
    show (eqV (.int (y : Int)) (.int (c : Int)) || inV (.int (c : Int)) (vn r)) = _
    rw [ih]
    show (((y : Int) == (c : Int)) || decide (c ∈ r)) = _
    by_cases h : c ∈ r
    · rw [decide_eq_true h, Bool.or_true, decide_eq_true (List.mem_cons_of_mem _ h)]
    · by_cases e : y = c
      · subst e
        rw [beq_self_eq_true, Bool.true_or, decide_eq_true List.mem_cons_self]
      · rw [beq_eq_false_iff_ne.mpr (fun z => e (by omega)), decide_eq_false h, Bool.or_false, decide_eq_false (fun m => ?_)]
        rcases List.mem_cons.mp m with m | m
        · exact e m.symm
        · exact h m
theorem bxor (a b : Nat) : Builtin.bitXor (a : Int) (b : Int) = ((a ^^^ b : Nat) : Int) := by
  rw [Bits.bitXor_pp (Int.natCast_nonneg _) (Int.natCast_nonneg _), Int.toNat_natCast, Int.toNat_natCast]
theorem fdiv_nat (a b : Nat) : ((a : Int)).fdiv (b : Int) = ((a / b : Nat) : Int) := by
  rw [Int.fdiv_eq_ediv_of_nonneg _ (by omega)]
  rfl
theorem fmod_nat (a b : Nat) : ((a : Int)).fmod (b : Int) = ((a % b : Nat) : Int) := by
  rw [Int.fmod_eq_emod_of_nonneg _ (by omega)]
  rfl
theorem nfdiv2 (a : Nat) : ((a : Int)).fdiv 2 = ((a / 2 : Nat) : Int) := fdiv_nat a 2
theorem nfmod2 (a : Nat) : ((a : Int)).fmod 2 = ((a % 2 : Nat) : Int) := fmod_nat a 2
end V0
/-! repr of data, where nothing is being shown; the law's call with what stands around it -/
namespace V0
open PySem PySem.Spec PyProof.Rows L2
open PySem.W (Datum)
def rRepr (K : PySem.W.Frag) : List V → Hp → VK → Prop := fun xs H Q => ∃ (a : Addr) (d : PyData), xs = [.ref a] ∧ Dp K H (.ref a) d ∧ (d.showable = true ∧ d.hasDict = false ∧ d.depth ≤ 60 ∧ d.shown.length ≤ sizeLine) ∧ Q (.str d.shown) H
theorem call_reprD {X : Cx} (hg : X.A.guards = some []) (hu : X.A.units + 64 < cLine) : CallR X (.builtin "repr") (rRepr X.K) := by
  intro pins s σ H xs us Q I r h
  obtain ⟨a, d, rfl, hd, ⟨h1, h2, h3, h4⟩, q⟩ := h
  obtain ⟨u, rfl, rx⟩ := vals1 r
  obtain ⟨as, rd⟩ := Dp.reads I d _ _ hd rx
  obtain rfl : u = Value.ref a := rx
  refine repr_of_reads' rd h1 (PyData.noDict_hsm h2) hg (by omega) (fun _ _ e => e) (fun h' t tk hk => ?_) h4
  exact ⟨.str _, H, I.kept hk, ⟨t, rfl⟩, q⟩
/-- data whose text is short -/
structure Sm (d : PyData) (n : Nat) : Prop where
  sh : d.showable = true
  lv : d.leavesShort 13 = true
  wt : d.weight ≤ n
structure SmA (ds : List PyData) (n : Nat) : Prop where
  sh : PyData.showableAll ds = true
  lv : PyData.leavesShortAll 13 ds = true
  wt : PyData.weightAll ds ≤ n
theorem Sm.mono {d : PyData} {n m : Nat} (h : Sm d n) (l : n ≤ m) : Sm d m := ⟨h.sh, h.lv, Nat.le_trans h.wt l⟩
theorem Sm.int {i : Int} (h : i.natAbs < 10 ^ 12) : Sm (.int i) 40 := by
  have hl : i.natAbs.log2 < 40 := by
    by_cases h0 : i.natAbs = 0
    · rw [h0]
      decide
    · exact (Nat.log2_lt h0).mpr (Nat.lt_trans h (by decide))
  refine ⟨?_, ?_, ?_⟩
  · simp only [PyData.showable, decide_eq_true_eq]
    omega
  · simp only [PyData.leavesShort, decide_eq_true_eq]
    exact PyData.shown_int_le h
  · simp only [PyData.weight]
    split <;> omega
theorem Sm.nat {n : Nat} (h : n < 10 ^ 12) : Sm (.int (n : Int)) 40 := Sm.int (by rw [Int.natAbs_natCast]; exact h)
theorem SmA.nil : SmA [] 0 := ⟨by simp only [PyData.showableAll], by simp only [PyData.leavesShortAll], by simp only [PyData.weightAll]; exact Nat.le_refl _⟩
theorem SmA.cons {d : PyData} {ds : List PyData} {n m : Nat} (h : Sm d n) (hs : SmA ds m) : SmA (d :: ds) (n + 1 + m) :=
  ⟨by simp only [PyData.showableAll, h.sh, hs.sh, Bool.and_self], by simp only [PyData.leavesShortAll, h.lv, hs.lv, Bool.and_self], by simp only [PyData.weightAll]; have := h.wt; have := hs.wt; omega⟩
theorem SmA.all {n : Nat} : ∀ {ds : List PyData}, (∀ d ∈ ds, Sm d n) → SmA ds (ds.length * (n + 1))
  | [], _ => by rw [List.length_nil, Nat.zero_mul]; exact SmA.nil
  | d :: ds, h => by
    have a := SmA.cons (h d List.mem_cons_self) (SmA.all (ds := ds) fun e he => h e (List.mem_cons_of_mem _ he))
    have e : (d :: ds).length * (n + 1) = n + 1 + ds.length * (n + 1) := by
      rw [List.length_cons, Nat.add_mul, Nat.one_mul]
      omega
    rw [e]
    exact a
theorem Sm.list {ds : List PyData} {n : Nat} (h : SmA ds n) : Sm (.list ds) n := ⟨by simp only [PyData.showable, h.sh], by simp only [PyData.leavesShort, h.lv], by simp only [PyData.weight]; exact h.wt⟩
theorem Sm.tup {ds : List PyData} {n : Nat} (h : SmA ds n) : Sm (.tuple ds) n := ⟨by simp only [PyData.showable, h.sh], by simp only [PyData.leavesShort, h.lv], by simp only [PyData.weight]; exact h.wt⟩
theorem Sm.bl (b : Bool) : Sm (.bool b) 0 := ⟨by simp only [PyData.showable], by simp only [PyData.leavesShort], by simp only [PyData.weight]; exact Nat.le_refl _⟩
section
variable {α : Type} [DecidableEq α] [Dm α]
theorem Sm.of_list {xs : List α} {n : Nat} (h : ∀ x ∈ xs, Sm (Datum.toD x) n) : Sm (Datum.toD xs) (xs.length * (n + 1)) := by
  have a := SmA.all (ds := xs.map Datum.toD) (n := n) fun d hd => by
    obtain ⟨x, hx, rfl⟩ := List.mem_map.mp hd
    exact h x hx
  rw [List.length_map] at a
  exact Sm.list a
theorem Sm.nats {xs : List Nat} (h : ∀ x ∈ xs, x < 10 ^ 12) : Sm (Datum.toD xs) (xs.length * 41) := Sm.of_list fun x hx => Sm.nat (h x hx)
theorem Sm.ints {xs : List Int} (h : ∀ x ∈ xs, x.natAbs < 10 ^ 12) : Sm (Datum.toD xs) (xs.length * 41) := Sm.of_list fun x hx => Sm.int (h x hx)
/-- what repr tells of x -/
def txt (x : α) : Str := (Datum.toD x).shown
theorem reprD {K : PySem.W.Frag} {H : Hp} {a : Addr} {x : α} {n : Nat} {Q : VK} (hx : Dv H (.ref a) x) (s : Sm (Datum.toD x) n) (hn : n ≤ 2 ^ 20) (hd : Datum.depth α ≤ 60) (q : Q (.str (txt x)) H) : rRepr K [.ref a] H Q :=
  ⟨a, _, rfl, dh_dp _ _ hx, ⟨s.sh, PyData.hasDict_of_canLay _ (Dm.lay x), Nat.le_trans (Datum.depth_le x) hd, PyData.shown_fits (by decide) (by decide) s.lv (Nat.le_trans s.wt hn)⟩, q⟩
theorem four (x : α) {n : Nat} (s : Sm (Datum.toD x) n) (hn : n ≤ 2 ^ 20) (hd : Datum.depth α ≤ 60) : (Datum.toD x).showable = true ∧ (Datum.toD x).hasDict = false ∧ (Datum.toD x).depth ≤ 60 ∧ (Datum.toD x).shown.length ≤ sizeLine :=
  ⟨s.sh, PyData.hasDict_of_canLay _ (Dm.lay x), Nat.le_trans (Datum.depth_le x) hd, PyData.shown_fits (by decide) (by decide) s.lv (Nat.le_trans s.wt hn)⟩
end
/-! ### the law's call -/
/-- the law's def from where a claim calls it -/
def LawOk (P : Program) (w : World) (K : PySem.W.Frag) (mg : Str → Option Value) (base : Heap) (f : Addr) (fd : FuncData) (ps : List Str) (sp : Sp) : Prop :=
  ∀ (s : Shared) (H : Hp) (args : Args) (us : List Value) (vs : List V) (Q : VK) (E : XK), Env0 P w K mg base callerA [] s H → BindsTo s fd args (ps.zip us) → Vals vs us → sp vs H Q E → codeAny (model P w) callerA (.call (.ref f) args) (CR CX0 [] P w H s Q E) s
theorem lawOk {P : Program} {w : World} {K : PySem.W.Frag} {mg : Str → Option Value} {base : Heap} {x qual : Str} {st : Stmt} {f : Addr} {fd : FuncData} {N ps : List Str} {k : Nat} {sp : Sp} (F : Fun K x qual st f fd) (S : FnScope N ps (defScope st)) (room : Room (k + 1) callerA)
    (len : ∀ vs H Q E, sp vs H Q E → vs.length = ps.length)
    (body : ∀ (cdv : Value) (A : Around) (outer : List Env) (s : Shared) (H : Hp) (vs : List V) (Q : VK) (E : XK), Room k (A.deeper (envOfC qual (defScope st) s.heap.objs.size f cdv)) → (A.deeper (envOfC qual (defScope st) s.heap.objs.size f cdv)).guards = some [] → sp vs H Q E →
      ∃ t, PSs (cxOf CX0 P w K mg base N qual (defScope st) f cdv A outer s H E).nox (defBody st) t ∧ t { nx := fun _ H' => Q .non H', rt := Q } (L2.start N vs) H) : LawOk P w K mg base f fd ps sp := by
  obtain ⟨_, _, _, _, _, _, cdv, _, _, rfl, look, cod⟩ := F.ex
  intro s H args us vs Q E env bind rel want
  have inK : K.In s.heap := env.mod.kin.keeps fun b o g => (env.bs b o g).1
  have free : s.heap.NoLimit := env.mod.nolimit.keeps fun b o g => (env.bs b o g).1
  have vis : ∀ y ∈ ps.zip us, (defScope st).names.lookup y.1 = some .local ∨ ((defScope st).names.lookup y.1 = some .cell ∧ ((cellsFrom (s.heap.objs.size + 1) (defScope st).names []).lookup y.1).isSome = true) := by
    rintro ⟨n, v⟩ hy
    exact (S.par n (List.of_mem_zip hy).1).imp id fun c => ⟨c, PySem.W.cellsFrom_some _ _ _ (.inl c)⟩
  refine codeAny_call_function room.depth (inK _ _ look) rfl S.co S.gen rfl (PySem.W.codeRec_of inK cod) (bind _ _ _ _ ?_)
  refine wpAny_newFunctionEnv_cells S.kind vis fun env1 he s1 made => ?_
  subst he
  refine ⟨free.keeps made.toInCall.keep, codeAny_func ?_⟩
  obtain ⟨t, ht, ok⟩ := body cdv callerA [] s H vs Q E (room.deeper _) rfl want
  have I := inv_start (CX := CX0) (E := E) S room.hd env (len _ _ _ _ want) rel made
  refine wpAny_mono ((ht.nox).run [] s1 (L2.start N vs) H _ I ok) (fun fl s' told => ?_) fun e s' told => told
  cases fl with
  | next =>
    obtain ⟨_, H', J, done⟩ := told
    exact ⟨.non, H', J.os, J.bare, J.base, J.hok, rfl, done⟩
  | ret u =>
    obtain ⟨v, _, H', J, rv, done⟩ := told
    exact ⟨v, H', J.os, J.bare, J.base, J.hok, rv, done⟩
  | brk => exact told.elim fun _ h => h.elim fun _ h => h.2.elim
  | cont => exact told.elim fun _ h => h.elim fun _ h => h.2.elim
theorem law_at {P : Program} {w : World} {K : PySem.W.Frag} {mg mb : Str → Option Value} {f a : Addr} {fd : FuncData} {x : Str} {sp : Sp} {s : Shared} {us : List Value} {ns : List Int}
    (kin : K.In s.heap) (glob : s.heap.Ns mainGlobals mg) (blt : s.heap.Ns builtinsNs mb) (same : ∀ y : Str, y ≠ "__name__" → mb y = bootBuiltins y) (free : s.heap.NoLimit) (gens : s.gens = #[])
    (script : s.heap.get? a = some { cls := .type "list", data := .seq us.toArray }) (whole : IntsAre us ns) (few : ns.length ≤ sizeLine)
    (F : ∀ base : Heap, K.In base → base.Ns mainGlobals mg → LawOk P w K mg base f fd [x] sp) (binds : ∀ (t : Shared) (u : Value), BindsTo t fd ⟨[u], []⟩ [(x, u)])
    (want : ∀ H : Hp, Only H → SqL K H a (ns.map V.int) → sp [.ref a] H (fun v _ => v = .bl true) fun _ _ _ => False) :
    codeAny (model P w) callerA (.call (.ref f) ⟨[.ref a], []⟩) (fun r t => r = .ok (.ret (.bool true)) ∧ OldK s.heap t.heap ∧ t.os = s.os ∧ AllBare t.gens) s := by
  have rel := vals_ints whole
  have long := whole.length
  -- what is tracked at the start: the script, if it is not one of the module's own objects
  obtain ⟨H, only, seq, fits, dom, own⟩ : ∃ H : Hp, Only H ∧ SqL K H a (ns.map V.int) ∧ HOk P w H s.heap ∧ (∀ b o, H b = some o → b = a) ∧ (∀ o, H a = some o → K.lookup a = none) := by
    cases kl : K.lookup a with
    | some o =>
      have g := kin a o kl
      rw [script] at g
      cases g
      refine ⟨fun _ => none, fun _ => .inl rfl, .inr ⟨_, us.toArray, _, kl, rfl, rfl, rfl, ?_, ?_⟩, ?_, ?_, ?_⟩
      · rw [List.size_toArray, long]
        exact few
      · rw [List.toList_toArray]
        exact rel
      · intro b u z
        cases z
      · intro b u z
        cases z
      · intro u z
        cases z
    | none =>
      let fz : HO := .frz { cls := .type "list", data := .seq us.toArray } (.lst (ns.map V.int))
      have at_a : (fun b => if b = a then some fz else none : Hp) a = some fz := if_pos rfl
      have off_a : ∀ {b : Addr}, b ≠ a → (fun b => if b = a then some fz else none : Hp) b = none := fun h => if_neg h
      refine ⟨fun b => if b = a then some fz else none, fun b => ?_, .inl (.inr ⟨_, at_a⟩), fun b u z => ?_, fun b u z => ?_, fun _ _ => rfl⟩
      · by_cases e : b = a
        · subst e
          exact .inr ⟨_, _, at_a⟩
        · exact .inl (off_a e)
      · by_cases e : b = a
        · subst e
          rw [at_a] at z
          cases z
          refine ⟨script, ?_, us, _, rel, script⟩
          rw [List.length_map]
          exact few
        · rw [off_a e] at z
          cases z
      · by_cases e : b = a
        · exact e
        · rw [off_a e] at z
          cases z
  have under : ∀ {b : Addr} {o : Obj}, s.heap.get? b = some o → H b = none → (hidT s.heap H).get? b = some o := fun g n => hidT_get g n
  have dicts : ∀ {b : Addr} {m : Str → Option Value}, s.heap.Ns b m → (hidT s.heap H).Ns b m := by
    rintro b m ⟨o, es, ep, g, d, r⟩
    refine ⟨o, es, ep, under g ?_, d, r⟩
    cases hb : H b with
    | none => rfl
    | some u =>
      obtain rfl := dom b u hb
      rw [script] at g
      cases g
      cases d
  have kinB : K.In (hidT s.heap H) := by
    intro b o kl
    refine under (kin b o kl) ?_
    cases hb : H b with
    | none => rfl
    | some u =>
      obtain rfl := dom b u hb
      rw [own u hb] at kl
      cases kl
  have modB : Mod K mg (hidT s.heap H) := by
    refine ⟨kinB, dicts glob, ⟨mb, dicts blt, same⟩, ?_⟩
    obtain ⟨mc, z1, z2⟩ := free
    exact ⟨mc, dicts z1, z2⟩
  have env : Env0 P w K mg (hidT s.heap H) callerA [] s H :=
    ⟨rfl, modB, fun b o g => of_hidT g, Nat.le_of_eq (hidT_size _ _), trivial, fun b hb => (by cases hb), fits, .of_eq gens⟩
  refine codeAny_mono (F _ kinB (dicts glob) s H ⟨[.ref a], []⟩ [.ref a] [.ref a] _ _ env (binds s (.ref a)) (.cons rfl .nil) (want H only seq)) fun r t told => ?_
  match r, told with
  | .error e, told => exact told.elim
  | .ok .next, told => exact told.elim
  | .ok .brk, told => exact told.elim
  | .ok .cont, told => exact told.elim
  | .ok (.ret u), ⟨v, H', os, bare, un, fits', rv, yes⟩ =>
    have yes' : v = .bl true := yes
    subst yes'
    have eu : u = Value.bool true := rv
    subst eu
    refine ⟨rfl, OldK.of_keep fun b o g => ?_, os, bare⟩
    cases hb : H b with
    | none => exact un.keep b o g hb (fun z => (by cases z)) (by simp)
    | some u2 =>
      rcases only b with z | ⟨ob, xs, z⟩
      · rw [z] at hb
        cases hb
      · obtain ⟨e1, _⟩ := fits b _ z
        obtain ⟨e2, _⟩ := fits' b _ (un.frzs b ob _ z)
        rw [g] at e1
        cases e1
        exact e2
/-- the goal that k_head leaves, where the law's promise is LawOk -/
theorem walk_at {l : PySem.W.OpenLaw} {n : Nat} {q : Program} {loose : List Str} {XP : (Str → Option Value) → Heap → Prop} {YP : World → Heap → Prop} {d : DefRec} {K : Params → PySem.W.Frag} {sp : PySem.W.Frag → Sp} {x : Str}
    (hn : l.most = some n) (hs : n ≤ sizeLine) (plain : d.params.defaults = []) (hY : ∀ (w : World) (h : Heap), YP w h → (K w.params).In h)
    (F : ∀ (w : World) (mg : Str → Option Value) (f : Addr) (h : Heap), (K w.params).In h → h.Ns mainGlobals mg → mg d.name = some (.ref f) →
      ∃ fd : FuncData, (∀ (s : Shared) (u : Value), BindsTo s fd ⟨[u], []⟩ [(x, u)]) ∧ ∀ base : Heap, (K w.params).In base → base.Ns mainGlobals mg → LawOk l.prog w (K w.params) mg base f fd [x] (sp (K w.params)))
    (want : ∀ (K : PySem.W.Frag) (H : Hp) (a : Addr) (ns : List Int), ns.length ≤ n → Only H → SqL K H a (ns.map V.int) → sp K [.ref a] H (fun v _ => v = .bl true) fun _ _ _ => False) :
    PySem.W.WalkO q loose XP YP l.row.toRowW d [] (fun f vs => PySem.call f vs) := by
  refine Att.attach_call hn plain fun w _ s1 mg mb f _ _ _ _ a us ns G Y _ _ _ named obj whole few gens => ?_
  have kin := hY w _ Y
  obtain ⟨fd, binds, told⟩ := F w mg f _ kin G.T.g named
  exact law_at kin G.T.g G.T.b G.T.builtins G.T.nolimit gens obj whole (Nat.le_trans few hs) told binds fun H only seq => want _ H a ns few only seq
end V0
/-! set(xs) of a list of whole numbers, and len of such a set -/
namespace V0
open PySem PySem.Spec PyProof.Rows L2
/-- the set that set.__new__ leaves -/
def bare (w : World) : Obj := { cls := .type "set", dict := none, data := .set #[] 0 (.fresh 0 0 (!w.params.followText "set-order")) }
section
variable {P : Program} {w : World} {A : Around} {E : Value → Shared → Prop} {s : Shared}
/-- what set.__init__ does with a list of ints -/
theorem set_filled {l : Addr} {arr : Array Value} {xs : List Int} {R : Value → Shared → Prop} (calm : A.handled = none) (lst : s.heap.IsList l arr) (num : IntsAre arr.toList xs) (few : xs.length + 1 < scanBound)
    (told : ∀ (h' : Heap) (tk c : Nat), SetR w h' s.heap.objs.size (fun j => decide (j ∈ xs)) c → c ≤ xs.length → (∀ b o, s.heap.get? b = some o → h'.get? b = some o) → R .none { s with heap := h', toks := tk }) :
    codeAny (model P w) A (.call (.builtin "set.__init__") ⟨[.ref s.heap.objs.size, .ref l], []⟩) (wants R E) { s with heap := s.heap.push (bare w) } := by
  have own : (s.heap.push (bare w)).get? s.heap.objs.size = some (bare w) := Heap.get?_push_size _ rfl
  have kind : Shared.TypeIs { s with heap := s.heap.push (bare w) } (.ref s.heap.objs.size) "set" := ⟨_, own, rfl⟩
  have many : arr.size = xs.length := by rw [← Array.length_toList, IntsAre.length num]
  refine codeAny_call_builtin F.called_set.init.plain F.entry_set_init (check_set_init_1 kind ?_)
  obtain ⟨⟨cl, od, dat, sl⟩, at_l, is_l, nn, is_d⟩ := lst
  dsimp only at is_l is_d
  subst is_l is_d
  have below := Heap.lt_size at_l
  have at_l1 : (s.heap.push (bare w)).get? l = some ⟨.type "list", od, .seq arr nn, sl⟩ := Heap.get?_push_of_some _ at_l
  have lst1 : (s.heap.push (bare w)).IsList l arr := ⟨_, at_l1, rfl, nn, rfl⟩
  have no1 := F.sub_list_set
  have no2 := F.sub_list_frozenset
  have no3 : (Value.type "list" == Value.type "dict") = false := by decide
  unfold Builtin.«set.__init__» noKeywords Builtin.Frozenset.updateFrom
  generalize walker : pyIter = PI
  wp_walk
  subst walker
  refine wpAny_pyIter_list lst1 (wpAny_bind (wpAny_runValue ?_))
  have size1 : (s.heap.push (bare w)).objs.size = s.heap.objs.size + 1 := Heap.size_push ..
  have ne1 : l ≠ (s.heap.push (bare w)).objs.size := size1 ▸ Nat.ne_of_lt (Nat.lt_succ_of_lt below)
  have calm3 : A.in1.in1.handled = none := by simp [calm]
  have out : s.heap.objs.size ∉ [(s.heap.push (bare w)).objs.size, l] := by
    intro hm
    rcases List.mem_cons.mp hm with e | hm
    · rw [size1] at e
      exact Nat.ne_of_lt (Nat.lt_succ_self _) e
    · exact Nat.ne_of_lt below (List.mem_singleton.mp hm).symm
  have each : ∀ (i : Nat) (v : Value), arr[i]? = some v → ∃ k t, xs[i]? = some k ∧ v = .int k t := by
    intro i v hv
    have hi : i < xs.length := many ▸ (Array.getElem?_eq_some_iff.mp hv).1
    obtain ⟨t, e⟩ := PyProof.Rows.IntsAre.int_at num i v ((Array.getElem?_toList ..).trans hv)
    refine ⟨xs[i], t, List.getElem?_eq_getElem hi, ?_⟩
    rw [e, List.getD_eq_getElem?_getD, List.getElem?_eq_getElem hi]
    rfl
  refine set_update_ints ((Walks.list calm3 _ l ne1 arr).toS) s.heap.objs.size out xs many few each (arr.size - 0) 0 _ (by omega) (Nat.zero_le _) ⟨⟨_, Heap.get?_push_size _ rfl, rfl, rfl⟩, lst1.push _⟩ ⟨0, Nat.le_refl 0, setR_new_at (Heap.get?_push_of_some _ own)⟩ ?_
  rintro ⟨h', g', d', tk', os'⟩ c moved bound full
  obtain rfl : g' = s.gens := moved.gens
  obtain rfl : d' = s.drawn := moved.drawn
  obtain rfl : os' = s.os := moved.os
  show wpAny _ _ _ _ _ _
  refine wpAny_pure ?_
  show wpAny _ _ (ret Value.none) _ _ _
  refine wpAny_pure (told h' tk' c full (many ▸ bound) fun b o e => ?_)
  have low := Heap.lt_size e
  refine moved.heap b o ?_ (Heap.get?_push_of_some _ (Heap.get?_push_of_some _ e))
  intro hm
  rcases List.mem_cons.mp hm with z | hm
  · exact Nat.ne_of_lt low z
  · have z := List.mem_singleton.mp hm
    rw [size1] at z
    exact Nat.ne_of_lt (Nat.lt_succ_of_lt low) z
theorem call_set_ints {l : Addr} {arr : Array Value} {xs : List Int} {Q : Value → Shared → Prop} (calm : A.handled = none) (lst : s.heap.IsList l arr) (num : IntsAre arr.toList xs) (few : xs.length + 1 < scanBound)
    (then_ : ∀ (h' : Heap) (tk c : Nat), SetR w h' s.heap.objs.size (fun j => decide (j ∈ xs)) c → c ≤ xs.length → (∀ b o, s.heap.get? b = some o → h'.get? b = some o) → Q (.ref s.heap.objs.size) { s with heap := h', toks := tk }) :
    wpAny (model P w) A (call (.type "set") [.ref l]) Q E s := by
  obtain ⟨_, _, order⟩ := F.called_set.mro
  have made := F.called_set.made
  have below := F.called_set.sub
  refine wpAny_call (codeAny_of_tree ?_)
  show wpAny _ _ (callAny (.type "set") ⟨[.ref l], []⟩) _ _ s
  refine wpAny_pure ⟨Code.quiet_builtin _ (by decide +kernel), codeAny_builtin F.entry_type_call ?_⟩
  rw [Around.under_plain (weight_type_call_type "set" [.ref l] []) rfl]
  have f1 := F.called_set.notType
  have f2 := F.called_set.canCreate
  have f3 := F.typeCall_set_1 (.ref l)
  repeat (any_goals (first | assumption | wp_step))
  refine codeAny_mono (code_set_led1 (.ref l) (E := E) (Q₁ := fun u t => u = .ref s.heap.objs.size ∧ t = { s with heap := s.heap.push (bare w) }) ⟨rfl, rfl⟩) fun r t first => ?_
  match r, first with
  | .error e, first => exact first
  | .ok .next, first => exact first.elim
  | .ok .brk, first => exact first.elim
  | .ok .cont, first => exact first.elim
  | .ok (.ret u), ⟨eu, et⟩ =>
    subst eu et
    have kind : Shared.TypeIs { s with heap := s.heap.push (bare w) } (.ref s.heap.objs.size) "set" := ⟨_, Heap.get?_push_size _ rfl, rfl⟩
    have f4 := F.called_set.init.lookup
    have f5 := F.called_set.init.bind (.ref s.heap.objs.size)
    repeat (any_goals (first | assumption | wp_step))
    refine codeAny_mono (set_filled (A := _) (E := E) (R := fun v t => v = .none ∧ ∃ h' tk c, t = { s with heap := h', toks := tk } ∧ SetR w h' s.heap.objs.size (fun j => decide (j ∈ xs)) c ∧ c ≤ xs.length ∧ (∀ b o, s.heap.get? b = some o → h'.get? b = some o)) (by simp [calm]) lst num few fun h' tk c a b k => ⟨rfl, h', tk, c, rfl, a, b, k⟩) fun r t second => ?_
    match r, second with
    | .error e, second => exact second
    | .ok .next, second => exact second.elim
    | .ok .brk, second => exact second.elim
    | .ok .cont, second => exact second.elim
    | .ok (.ret v), ⟨ev, h', tk, c, et, a, b, k⟩ =>
      subst ev et
      repeat (any_goals (first | assumption | wp_step))
      exact then_ _ _ _ a b k
end
/-- set(xs) -/
def rSetOf (K : PySem.W.Frag) (w : World) : List V → Hp → VK → Prop := fun vs H Q => ∃ (l : Addr) (xs : List Int), vs = [.ref l] ∧ SqL K H l (xs.map V.int) ∧ xs.length ≤ 4000 ∧ ∀ p c, H p = none → c ≤ xs.length → Q (.ref p) (upd H p (SetO w p (fun j => decide (j ∈ xs)) c))
theorem cr_setOf {X : Cx} (hc : X.calm = true) : CallR X (.type "set") (rSetOf X.K X.w) := by
  intro pins s σ H vs us Q I r h
  obtain ⟨l, xs, rfl, seq, few, q⟩ := h
  obtain rfl := Vals.ref1 r
  obtain ⟨its, rv, pl, _⟩ := I.list seq
  have num : IntsAre its xs := intsAre_of rv
  refine call_set_ints (I.ok.hd hc) pl.isList (by simpa using num) (by unfold scanBound; omega) fun h' tk c full bound k => ?_
  exact ⟨.ref _, _, I.laid (t' := tk) k (Nat.le_refl _) (setO_new full), rfl, q _ c (I.hok.fresh (Nat.le_refl _)) bound⟩
/-- the ascending list of what stands in xs -/
theorem asc_mem {ns : List Int} {xs : List Nat} (h1 : ns.Pairwise (· < ·)) (h2 : ∀ k : Int, k ∈ ns ↔ k ∈ xs.map (fun (x : Nat) => (x : Int))) : ∃ ys : List Nat, ns = ys.map (fun (x : Nat) => (x : Int)) ∧ ys.Pairwise (· < ·) ∧ ∀ y, y ∈ ys ↔ y ∈ xs := by
  refine ⟨ns.map Int.toNat, ?_, ?_, ?_⟩
  · rw [List.map_map]
    refine (List.map_id ns).symm.trans (List.map_congr_left fun k hk => ?_)
    obtain ⟨x, _, rfl⟩ := List.mem_map.mp ((h2 k).mp hk)
    rfl
  · rw [List.pairwise_map]
    refine h1.imp_of_mem fun {a b} ha hb hab => ?_
    obtain ⟨x, _, rfl⟩ := List.mem_map.mp ((h2 a).mp ha)
    obtain ⟨y, _, rfl⟩ := List.mem_map.mp ((h2 b).mp hb)
    show (x : Int).toNat < (y : Int).toNat
    omega
  · intro y
    rw [List.mem_map]
    constructor
    · rintro ⟨k, hk, rfl⟩
      obtain ⟨x, hx, rfl⟩ := List.mem_map.mp ((h2 k).mp hk)
      exact hx
    · intro hy
      exact ⟨(y : Int), (h2 _).mpr (List.mem_map.mpr ⟨y, hy, rfl⟩), rfl⟩
theorem asc_unique : ∀ {xs ys : List Nat}, xs.Pairwise (· < ·) → ys.Pairwise (· < ·) → (∀ y, y ∈ xs ↔ y ∈ ys) → xs = ys
  | [], [], _, _, _ => rfl
  | [], y :: ys, _, _, h => by
    have := (h y).mpr List.mem_cons_self
    cases this
  | x :: xs, [], _, _, h => by
    have := (h x).mp List.mem_cons_self
    cases this
  | x :: xs, y :: ys, h1, h2, h => by
    rw [List.pairwise_cons] at h1 h2
    have e : x = y := by
      have a := (h x).mp List.mem_cons_self
      have b := (h y).mpr List.mem_cons_self
      rcases List.mem_cons.mp a with a | a
      · exact a
      · rcases List.mem_cons.mp b with b | b
        · exact b.symm
        · have c := h1.1 y b
          have d := h2.1 x a
          omega
    subst e
    rw [asc_unique h1.2 h2.2 fun z => ?_]
    have hz := h z
    rw [List.mem_cons, List.mem_cons] at hz
    constructor
    · intro m
      rcases hz.mp (.inr m) with rfl | m2
      · exact absurd (h1.1 z m) (Nat.lt_irrefl _)
      · exact m2
    · intro m
      rcases hz.mpr (.inr m) with rfl | m2
      · exact absurd (h2.1 z m) (Nat.lt_irrefl _)
      · exact m2
abbrev toI (xs : List Nat) : List Int := xs.map (fun (b : Nat) => (b : Int))
theorem vn_int (xs : List Nat) : vn xs = (toI xs).map V.int := by
  unfold toI
  rw [List.map_map]
  rfl
/-- sorted(set(xs)) -/
theorem sorted_set_nat {K : PySem.W.Frag} {w : World} {H : Hp} {l : Addr} {xs : List Nat} {Q : VK} (h : H l = some (.lst (vn xs))) (few : xs.length < 64)
    (q : ∀ p ys H', Same H H' → H p = none → H' p = some (.lst (vn ys)) → ys.Pairwise (· < ·) → (∀ y, y ∈ ys ↔ y ∈ xs) → ys.length ≤ xs.length → Q (.ref p) H') :
    rSetOf K w [.ref l] H (fun z Hz => rSortedSet w [z] Hz Q) := by
  refine ⟨l, toI xs, rfl, SqL.of (by rw [h, vn_int]), by rw [List.length_map]; omega, fun pz c nz hc => ⟨pz, _, c, rfl, upd_same, ?_, fun ns p asc mem len np => ?_⟩⟩
  · rw [List.length_map] at hc
    omega
  · obtain ⟨ys, rfl, h1, h2⟩ := asc_mem (xs := xs) asc fun k => by rw [mem k, decide_eq_true_eq]
    rw [List.length_map] at hc len
    have s1 := same_new (o := SetO w pz (fun j => decide (j ∈ toI xs)) c) nz
    refine q p ys _ (s1.trans (same_new np)) (none_of s1 np) ?_ h1 h2 (by omega)
    rw [upd_same, vn_int]
theorem perm_asc {ns : List Int} {ks : List Nat} (h1 : ns.Perm (toI ks)) (h2 : ns.Pairwise (· ≤ ·)) (nd : ks.Nodup) : ∃ zs : List Nat, ns = toI zs ∧ zs.Pairwise (· < ·) ∧ ∀ y, y ∈ zs ↔ y ∈ ks := by
  have nd1 : (toI ks).Nodup := by
    show List.Pairwise (· ≠ ·) (List.map _ ks)
    rw [List.pairwise_map]
    have nd' : ks.Pairwise (· ≠ ·) := nd
    exact nd'.imp fun {a b} h e => h (by omega)
  have nd2 : ns.Nodup := h1.nodup_iff.mpr nd1
  have h3 : ns.Pairwise (· < ·) := by
    have h4 : ns.Pairwise (· ≠ ·) := nd2
    exact (h2.and h4).imp fun {a b} h => by omega
  exact asc_mem h3 fun k => h1.mem_iff
/-! ### marks in a dict -/
def mkD (ks : List Nat) : List (Key × V) := ks.map fun (x : Nat) => (Sum.inl (x : Int), V.bl true)
theorem mkD_val (ks : List Nat) (y : Nat) : valV (mkD ks) (Sum.inl (y : Int)) = if y ∈ ks then some (V.bl true) else none := by
  induction ks with
  | nil =>
    rw [if_neg List.not_mem_nil]
    rfl
  | cons x r ih =>
    show valV ((Sum.inl (x : Int), V.bl true) :: mkD r) _ = _
    by_cases e : x = y
    · subst e
      rw [valV_pos (p := (Sum.inl (x : Int), V.bl true)) rfl, if_pos List.mem_cons_self]
    · rw [valV_neg (p := (Sum.inl (x : Int), V.bl true)) (fun z => e (by have := Sum.inl.inj z; omega)), ih]
      by_cases h : y ∈ r
      · rw [if_pos h, if_pos (List.mem_cons_of_mem _ h)]
      · rw [if_neg h, if_neg (fun m => (List.mem_cons.mp m).elim (fun z => e z.symm) h)]
def addN (ks : List Nat) (y : Nat) : List Nat := if y ∈ ks then ks else ks ++ [y]
theorem mkD_put (ks : List Nat) (y : Nat) : putK (mkD ks) (Sum.inl (y : Int)) (V.bl true) = mkD (addN ks y) := by
  unfold addN
  have hv := mkD_val ks y
  by_cases h : y ∈ ks
  · rw [if_pos h]
    rw [if_pos h] at hv
    have ha : ((mkD ks).any fun kv => decide (kv.1 = Sum.inl (y : Int))) = true := by rw [valV_any, hv]; rfl
    unfold putK
    rw [if_pos ha]
    unfold mkD
    rw [List.map_map]
    refine List.map_congr_left fun x _ => ?_
    show (if (Sum.inl (x : Int) : Key) = Sum.inl (y : Int) then ((Sum.inl (x : Int) : Key), V.bl true) else (Sum.inl (x : Int), V.bl true)) = _
    split <;> rfl
  · rw [if_neg h] at hv ⊢
    rw [putK_new _ hv]
    unfold mkD
    rw [List.map_append]
    rfl
theorem addN_mem (ks : List Nat) (y z : Nat) : z ∈ addN ks y ↔ z ∈ ks ∨ z = y := by
  unfold addN
  split
  · rename_i h
    constructor
    · exact .inl
    · rintro (m | rfl)
      · exact m
      · exact h
  · rw [List.mem_append, List.mem_singleton]
theorem addN_nodup {ks : List Nat} (h : ks.Nodup) (y : Nat) : (addN ks y).Nodup := by
  unfold addN
  split
  · exact h
  · rename_i hy
    rw [List.nodup_append]
    refine ⟨h, by simp, fun a ha b hb e => ?_⟩
    rw [List.mem_singleton.mp hb] at e
    exact hy (e ▸ ha)
theorem sum_int : ∀ xs : List Nat, (toI xs).sum = ((xs.sum : Nat) : Int)
  | [] => rfl
  | b :: r => by
    show ((b : Int) :: toI r).sum = ((b + r.sum : Nat) : Int)
    rw [List.sum_cons, sum_int r]
    omega
end V0
/-! sorted(a set of ints), of any number of them -/
namespace V0
open PySem PySem.Spec PyProof.Rows L2
section
variable {P : Program} {w : World} {A : Around} {E : Value → Shared → Prop} {s : Shared} {a : Addr}
theorem sorted_setW {S : Int → Bool} {n : Nat} {Q : Value → Shared → Prop} (R : SetR w s.heap a S n) (hh : A.handled = none)
    (hQ : ∀ s' p (out : Array Value) (c : Nat) (ns : List Int), (∀ b o, s.heap.get? b = some o → s'.heap.get? b = some o) → s'.gens = s.gens → s'.os = s.os → s.heap.objs.size ≤ p →
      s'.heap.get? p = some (seqObj "list" out c) → IntsAre out.toList ns → ns.Pairwise (· < ·) → (∀ k, k ∈ ns ↔ S k = true) → ns.length = n → n ≤ sizeLine → Q (.ref p) s') :
    wpAny (model P w) A (call (.builtin "sorted") [.ref a]) Q E s := by
  obtain ⟨o, es, ep, t, ho, hex, hd, g, nd, hm, hb, hf, hn, hr, hl⟩ := R
  have hz : n ≤ sizeLine := by rw [← hn]; exact fits_of_scanBound hb
  refine Calls.call_function_entry kind_sorted plain_sorted entry_sorted (args_sorted1 _) ?_
  unfold Builtin.«sorted»
  refine wpAny_bind (m := checkCount "sorted" 1 1 _) (wpAny_pure ?_)
  refine wpAny_bind (collect_set (A := A.in1) hh ⟨o, ho, hex.1, hd⟩ hf hb hr hl fun s1 vs k1 hz1 g1 o1 pm => ?_)
  have hvl : vs.length = n := by rw [pm.length_eq, List.length_map, Array.length_toList]; exact hn
  have hI : IntsAre vs (vs.map Builtin.Re.reRawOf) := ints_of vs fun v hv => by
    obtain ⟨e, he, q⟩ := List.mem_map.mp (pm.mem_iff.mp hv)
    obtain ⟨k, tk, h1, _⟩ := g e he
    exact ⟨k, tk, by rw [← q]; exact h1⟩
  have pk : (vs.map Builtin.Re.reRawOf).Perm (es.toList.map keyOf) := by
    have q := pm.map Builtin.Re.reRawOf
    rw [List.map_map] at q
    exact q
  refine wpAny_bind (wpAny_newList ?_ (by rw [hvl]; exact hz))
  have hoL : (s1.heap.push (seqObj "list" vs.toArray 0)).get? s1.heap.objs.size = some (seqObj "list" vs.toArray 0) := Heap.get?_push_size _ rfl
  refine wpAny_bind (wpAny_holding (wpAny_call_entry slot_list_sort ⟨_, hoL, rfl⟩ entry_list_sort (SrtO.list_sort_ord SrtO.swo_int hoL (by rw [hvl]; exact hz) (fun h2 => SrtO.ints_sortable hI h2) fun out h1 h2 => ⟨_, rfl, ?_⟩) (args_list_sort _)))
  obtain ⟨k1', a2, a1⟩ := SrtO.ints_out hI h1 h2
  obtain ⟨c, hc⟩ := sortedHeap_at (vs := vs) (out := out.toArray) hoL
  have pn : (out.map SrtO.iv).Perm (es.toList.map keyOf) := a2.trans pk
  refine wpAny_pure ⟨_, rfl, hQ _ s1.heap.objs.size out.toArray c (out.map SrtO.iv) (fun b u e => ?_) g1 o1 hz1 hc k1' (lt_of_le_nodup _ a1 (pn.nodup_iff.mpr nd)) (fun k => by rw [pn.mem_iff, ← hm k]) ?_ hz⟩
  · have q := k1 b u e
    have hlt := Heap.lt_size q
    show (sortedHeap (s1.heap.push (seqObj "list" vs.toArray 0)) s1.heap.objs.size vs out.toArray).get? b = some u
    rw [sortedHeap_old (Nat.ne_of_lt hlt) (by rw [size_push']; exact Nat.lt_succ_of_lt hlt)]
    exact Heap.get?_push_of_some _ q
  · rw [pn.length_eq, List.length_map, Array.length_toList]; exact hn
end
/-- sorted(found), any number of members -/
def rSortedSetW (w : World) : List V → Hp → VK → Prop := fun vs H Q => ∃ (a : Addr) (S : Int → Bool) (n : Nat), vs = [V.ref a] ∧ H a = some (SetO w a S n) ∧
  ∀ (ns : List Int) (p : Addr), ns.Pairwise (· < ·) → (∀ k : Int, k ∈ ns ↔ S k = true) → ns.length = n → H p = none → Q (.ref p) (upd H p (.lst (ns.map V.int)))
section
variable {X : Cx}
theorem cr_sortedSetW (hc : X.calm = true) : CallR X (.builtin "sorted") (rSortedSetW X.w) := by
  intro pins s σ H vs us Q I r h
  obtain ⟨a, S, n, rfl, ha, q⟩ := h
  have R := setO_get I ha
  rw [Vals.ref1 r]
  refine sorted_setW R (I.ok.hd hc) fun s' p out c ns k g o hp hg hi hs hm hl hz => ?_
  have hlen : (ns.map V.int).length ≤ sizeLine := by rw [List.length_map, hl]; exact hz
  have hn : H p = none := I.hok.fresh hp
  have J : Inv X pins σ (upd H p (.lst (ns.map V.int))) { s with heap := s'.heap, gens := s'.gens, drawn := s'.drawn, toks := s'.toks } :=
    I.call (ch := []) (Un.laid k hp hn) (I.hok.laid k hp ⟨hlen, out.toList, c, vals_of_ints hi, hg⟩) (by rw [g]; exact I.bare) (fun _ z => nomatch z)
  have e : s' = { s with heap := s'.heap, gens := s'.gens, drawn := s'.drawn, toks := s'.toks } := by
    cases s'
    cases s
    cases o
    rfl
  rw [e]
  exact ⟨.ref p, _, J, rfl, q ns p hs hm hl hn⟩
end
end V0
/-! cuts of nets, bits of tables -/
namespace V0
open PySem PySem.Spec PyProof.Rows L2
open PySem.W (Datum)
/-! ### numbers by their bits -/
def num : List Nat → Nat
  | [] => 0
  | b :: r => b + 2 * num r
theorem num_append (xs ys : List Nat) : num (xs ++ ys) = num xs + 2 ^ xs.length * num ys := by
  induction xs with
  | nil => simp [num]
  | cons b r ih =>
    show b + 2 * num (r ++ ys) = b + 2 * num r + 2 ^ (r.length + 1) * num ys
    rw [ih, Nat.pow_succ, Nat.mul_add, Nat.mul_comm (2 ^ r.length) 2, Nat.mul_assoc, Nat.add_assoc]
theorem num_snoc (xs : List Nat) (b : Nat) : num (xs ++ [b]) = num xs + b * 2 ^ xs.length := by
  rw [num_append]
  show num xs + 2 ^ xs.length * (b + 2 * 0) = _
  rw [Nat.mul_zero, Nat.add_zero, Nat.mul_comm]
theorem num_lt {xs : List Nat} (h : ∀ b ∈ xs, b < 2) : num xs < 2 ^ xs.length := by
  induction xs with
  | nil => decide
  | cons b r ih =>
    have h1 := h b List.mem_cons_self
    have h2 := ih fun c hc => h c (List.mem_cons_of_mem _ hc)
    show b + 2 * num r < 2 ^ (r.length + 1)
    rw [Nat.pow_succ]
    omega
theorem num_testBit {xs : List Nat} (h : ∀ b ∈ xs, b < 2) (i : Nat) : (num xs).testBit i = decide (xs[i]? = some 1) := by
  induction xs generalizing i with
  | nil => simp [num]
  | cons b r ih =>
    have h1 := h b List.mem_cons_self
    have hb : b = 0 ∨ b = 1 := by omega
    have h2 := fun j => ih (fun c hc => h c (List.mem_cons_of_mem _ hc)) j
    cases i with
    | zero =>
      show (b + 2 * num r).testBit 0 = decide (some b = some 1)
      rw [Nat.testBit_zero]
      rcases hb with rfl | rfl
      · have : (0 + 2 * num r) % 2 = 0 := by omega
        rw [this]
        rfl
      · have : (1 + 2 * num r) % 2 = 1 := by omega
        rw [this]
        rfl
    | succ j =>
      show (b + 2 * num r).testBit (j + 1) = decide (r[j]? = some 1)
      rw [Nat.testBit_succ, ← h2 j]
      congr 1
      omega
/-- the columns of bits f 0, f 1, .. -/
def colN (m : Nat) (f : Nat → Nat) : Nat := num ((List.range m).map f)
theorem col_succ (m : Nat) (f : Nat → Nat) : colN (m + 1) f = colN m f + f m * 2 ^ m := by
  unfold colN
  rw [map_range_succ, num_snoc, List.length_map, List.length_range]
theorem col_lt (m : Nat) (f : Nat → Nat) (h : ∀ i, i < m → f i < 2) : colN m f < 2 ^ m := by
  have := num_lt (xs := (List.range m).map f) fun b hb => by
    obtain ⟨i, hi, rfl⟩ := List.mem_map.mp hb
    exact h i (List.mem_range.mp hi)
  rw [List.length_map, List.length_range] at this
  exact this
theorem col_testBit {m : Nat} {f : Nat → Nat} (h : ∀ i, i < m → f i < 2) (i : Nat) : (colN m f).testBit i = (decide (i < m) && decide (f i = 1)) := by
  unfold colN
  rw [num_testBit]
  · by_cases hi : i < m
    · rw [List.getElem?_map, List.getElem?_range hi, decide_eq_true hi, Bool.true_and]
      show decide (some (f i) = some 1) = _
      exact decide_eq_decide.mpr ⟨fun e => Option.some.inj e, fun e => by rw [e]⟩
    · rw [List.getElem?_eq_none (by rw [List.length_map, List.length_range]; omega), decide_eq_false hi]
      rfl
  · intro b hb
    obtain ⟨i, hi, rfl⟩ := List.mem_map.mp hb
    exact h i (List.mem_range.mp hi)
theorem col_and {m : Nat} {f g : Nat → Nat} (hf : ∀ i, i < m → f i < 2) (hg : ∀ i, i < m → g i < 2) : colN m f &&& colN m g = colN m (fun i => f i * g i) := by
  apply Nat.eq_of_testBit_eq
  intro i
  rw [Nat.testBit_and, col_testBit hf, col_testBit hg, col_testBit (fun i hi => mul_lt2 (hf i hi) (hg i hi))]
  by_cases hi : i < m
  · rw [decide_eq_true hi, Bool.true_and, Bool.true_and, Bool.true_and]
    have h1 := hf i hi
    have h2 := hg i hi
    have e1 : f i = 0 ∨ f i = 1 := by omega
    have e2 : g i = 0 ∨ g i = 1 := by omega
    rcases e1 with e1 | e1 <;> rcases e2 with e2 | e2 <;> rw [e1, e2] <;> decide
  · rw [decide_eq_false hi]
    rfl
theorem col_xor {m : Nat} {f : Nat → Nat} (hf : ∀ i, i < m → f i < 2) (l : Nat) : colN m f ^^^ (if l % 2 = 1 then 2 ^ m - 1 else 0) = colN m (fun i => f i ^^^ (l % 2)) := by
  have hx : ∀ i, i < m → f i ^^^ (l % 2) < 2 := fun i hi => Nat.xor_lt_two_pow (n := 1) (hf i hi) (Nat.mod_lt _ (by decide))
  apply Nat.eq_of_testBit_eq
  intro i
  rw [Nat.testBit_xor, col_testBit hf, col_testBit hx]
  rcases Nat.mod_two_eq_zero_or_one l with e | e
  · rw [if_neg (by omega), e, Nat.zero_testBit, Bool.xor_false]
    simp
  · rw [if_pos e, e, Nat.testBit_two_pow_sub_one]
    by_cases hi : i < m
    · rw [decide_eq_true hi, Bool.true_and, Bool.true_and]
      have h1 := hf i hi
      have e1 : f i = 0 ∨ f i = 1 := by omega
      rcases e1 with e1 | e1 <;> rw [e1] <;> decide
    · rw [decide_eq_false hi]
      rfl
/-- the sum of the powers whose bit is set -/
theorem sum_pows (m : Nat) (f : Nat → Nat) (h : ∀ i, i < m → f i < 2) : (((List.range m).filter fun i => decide (f i = 1)).map fun i => 2 ^ i).sum = colN m f := by
  induction m with
  | zero => rfl
  | succ m ih =>
    rw [List.range_succ, List.filter_append, List.map_append, List.sum_append, ih fun i hi => h i (by omega), col_succ]
    have h1 := h m (by omega)
    have e1 : f m = 0 ∨ f m = 1 := by omega
    rcases e1 with e1 | e1
    · simp [e1]
    · simp [e1]
/-! ### cuts -/
inductive Sep (n : Net) (cut : List Nat) : Nat → Prop
  | hit {x : Nat} : x ∈ cut → Sep n cut x
  | gate {x : Nat} {g : Nat × Nat} : n.base ≤ x → n.gates[x - n.base]? = some g → Sep n cut (g.1 / 2) → Sep n cut (g.2 / 2) → Sep n cut x
def kids (n : Net) (x : Nat) : List Nat := if x < n.base then [] else match n.gates[x - n.base]? with
  | some g => [g.1 / 2, g.2 / 2]
  | none => []
theorem Sep.expand {n : Net} {cut other : List Nat} {node : Nat} (hn : kids n node ≠ []) (hk : ∀ y ∈ kids n node, y ∈ other) (ho : ∀ y ∈ cut, y ≠ node → y ∈ other) {x : Nat} (h : Sep n cut x) : Sep n other x := by
  induction h with
  | @hit x hx =>
    by_cases e : x = node
    · subst e
      unfold kids at hn hk
      by_cases hb : x < n.base
      · rw [if_pos hb] at hn
        exact absurd rfl hn
      · rw [if_neg hb] at hn hk
        cases eg : n.gates[x - n.base]? with
        | none =>
          rw [eg] at hn
          exact absurd rfl hn
        | some g =>
          rw [eg] at hk
          exact .gate (by omega) eg (.hit (hk _ (by simp))) (.hit (hk _ (by simp)))
    · exact .hit (ho x hx e)
  | gate hb hg _ _ i1 i2 => exact .gate hb hg i1 i2
theorem Sep.mono {n : Net} {cut other : List Nat} (ho : ∀ y ∈ cut, y ∈ other) {x : Nat} (h : Sep n cut x) : Sep n other x := by
  induction h with
  | hit hx => exact .hit (ho _ hx)
  | gate hb hg _ _ i1 i2 => exact .gate hb hg i1 i2
theorem Sep.some {n : Net} {cut : List Nat} {x : Nat} (h : Sep n cut x) : cut ≠ [] := by
  induction h with
  | hit hx => exact List.ne_nil_of_mem hx
  | gate _ _ _ _ i1 _ => exact i1
/-- a net as the law draws it -/
structure TOk (n : Net) : Prop where
  i1 : 1 ≤ n.ins
  i4 : n.ins ≤ 4
  fl : n.starts.length ≤ 2
  gl : n.gates.length ≤ 9
  g : ∀ j g, n.gates[j]? = some g → (2 ≤ g.1 ∧ g.1 < 2 * (n.base + j)) ∧ (2 ≤ g.2 ∧ g.2 < 2 * (n.base + j)) ∧ g.1 / 2 ≠ g.2 / 2
theorem TOk.kid {n : Net} (t : TOk n) {x y : Nat} (h : y ∈ kids n x) : 1 ≤ y ∧ y < x ∧ n.base ≤ x := by
  unfold kids at h
  by_cases hb : x < n.base
  · rw [if_pos hb] at h
    cases h
  · rw [if_neg hb] at h
    cases eg : n.gates[x - n.base]? with
    | none =>
      rw [eg] at h
      cases h
    | some g =>
      rw [eg] at h
      have := t.g _ _ eg
      simp only [List.mem_cons, List.not_mem_nil, or_false] at h
      rcases h with rfl | rfl <;> omega
structure IsCut (n : Net) (gate : Nat) (cut : List Nat) (k : Nat) : Prop where
  len : cut.length ≤ k
  asc : cut.Pairwise (· < ·)
  bnd : ∀ x ∈ cut, 0 < x ∧ x < gate
  sep : ∀ y ∈ kids n gate, Sep n cut y
theorem kids_gate {n : Net} {x : Nat} (h1 : n.base ≤ x) (h2 : x < n.many) : ∃ g, n.gates[x - n.base]? = some g ∧ kids n x = [g.1 / 2, g.2 / 2] := by
  have hj : x - n.base < n.gates.length := by
    unfold Net.many at h2
    omega
  refine ⟨_, List.getElem?_eq_getElem hj, ?_⟩
  unfold kids
  rw [if_neg (by omega), List.getElem?_eq_getElem hj]
theorem IsCut.some {n : Net} {gate k : Nat} {cut : List Nat} (c : IsCut n gate cut k) (h1 : n.base ≤ gate) (h2 : gate < n.many) : cut ≠ [] := by
  obtain ⟨g, _, e⟩ := kids_gate h1 h2
  exact (c.sep (g.1 / 2) (by rw [e]; simp)).some
theorem Sep.gate_of {n : Net} {cut : List Nat} {x : Nat} (h : Sep n cut x) (hx : x ∉ cut) : n.base ≤ x ∧ x < n.many ∧ ∀ y ∈ kids n x, Sep n cut y := by
  cases h with
  | hit h => exact absurd h hx
  | @gate _ g hb hg h1 h2 =>
    have hj := (List.getElem?_eq_some_iff.mp hg).1
    refine ⟨hb, by unfold Net.many; omega, fun y hy => ?_⟩
    unfold kids at hy
    rw [if_neg (by omega), hg] at hy
    simp only [List.mem_cons, List.not_mem_nil, or_false] at hy
    rcases hy with rfl | rfl
    · exact h1
    · exact h2
theorem kids_len (n : Net) (x : Nat) : (kids n x).length ≤ 2 := by
  unfold kids
  split
  · decide
  · split <;> simp
theorem nodup_bound : ∀ {m : Nat} {xs : List Nat}, xs.Nodup → (∀ x ∈ xs, x < m) → xs.length ≤ m
  | 0, xs, _, b => by
    cases xs with
    | nil => exact Nat.le_refl _
    | cons x r => exact absurd (b x List.mem_cons_self) (Nat.not_lt_zero _)
  | m + 1, xs, h, b => by
    have ih := nodup_bound (m := m) (xs := xs.erase m) (h.erase m) fun x hx => by
      have h1 := (h.mem_erase_iff).mp hx
      have h2 := b x h1.2
      have h3 := h1.1
      omega
    rw [List.length_erase] at ih
    split at ih <;> omega
theorem many16 {n : Net} (ok : TOk n) : n.many ≤ 16 := by
  have := ok.i4
  have := ok.fl
  have := ok.gl
  unfold Net.many Net.base
  omega
/-! ### bits of gates -/
def gbit (n : Net) (kn : Nat → Option Nat) (x : Nat) : Nat := match kn x with
  | some b => b
  | none => match n.gates[x - n.base]? with
    | none => 0
    | some g => if h : g.1 / 2 < x ∧ g.2 / 2 < x then (gbit n kn (g.1 / 2) ^^^ (g.1 % 2)) * (gbit n kn (g.2 / 2) ^^^ (g.2 % 2)) else 0
termination_by x
decreasing_by
  · exact h.1
  · exact h.2
theorem gbit_hit {n : Net} {kn : Nat → Option Nat} {x b : Nat} (h : kn x = some b) : gbit n kn x = b := by
  rw [gbit, h]
theorem gbit_gate {n : Net} {kn : Nat → Option Nat} {x : Nat} {g : Nat × Nat} (h : kn x = none) (hg : n.gates[x - n.base]? = some g) (h1 : g.1 / 2 < x) (h2 : g.2 / 2 < x) :
    gbit n kn x = (gbit n kn (g.1 / 2) ^^^ (g.1 % 2)) * (gbit n kn (g.2 / 2) ^^^ (g.2 % 2)) := by
  rw [gbit, h]
  simp only [hg]
  rw [dif_pos ⟨h1, h2⟩]
theorem gbit_lt {n : Net} {kn : Nat → Option Nat} (hk : ∀ x b, kn x = some b → b < 2) (x : Nat) : gbit n kn x < 2 := by
  induction x using Nat.strongRecOn with
  | ind x ih =>
    rw [gbit]
    cases e : kn x with
    | some b => exact hk x b e
    | none =>
      simp only
      cases eg : n.gates[x - n.base]? with
      | none =>
        show 0 < 2
        decide
      | some g =>
        simp only
        split
        · rename_i h
          exact mul_lt2 (Nat.xor_lt_two_pow (n := 1) (ih _ h.1) (Nat.mod_lt _ (by decide))) (Nat.xor_lt_two_pow (n := 1) (ih _ h.2) (Nat.mod_lt _ (by decide)))
        · decide
/-- what is known of the m-th choice of values of a cut -/
def kn (cut : List Nat) (m x : Nat) : Option Nat := if x ∈ cut then some (m / 2 ^ (cut.idxOf x) % 2) else none
theorem kn_lt (cut : List Nat) (m : Nat) : ∀ x b, kn cut m x = some b → b < 2 := by
  intro x b h
  unfold kn at h
  split at h
  · cases h
    exact Nat.mod_lt _ (by decide)
  · cases h
def colOf (n : Net) (cut : List Nat) (x : Nat) : Nat := colN (2 ^ cut.length) fun m => gbit n (kn cut m) x
theorem colOf_hit {n : Net} {cut : List Nat} {x : Nat} (h : x ∈ cut) : colOf n cut x = colN (2 ^ cut.length) fun m => m / 2 ^ (cut.idxOf x) % 2 := by
  unfold colOf
  congr 1
  funext m
  exact gbit_hit (if_pos h)
theorem colOf_gate {n : Net} {cut : List Nat} {x : Nat} {g : Nat × Nat} (h : x ∉ cut) (hg : n.gates[x - n.base]? = some g) (h1 : g.1 / 2 < x) (h2 : g.2 / 2 < x) :
    colOf n cut x = (colOf n cut (g.1 / 2) ^^^ (if g.1 % 2 = 1 then 2 ^ 2 ^ cut.length - 1 else 0)) &&& (colOf n cut (g.2 / 2) ^^^ (if g.2 % 2 = 1 then 2 ^ 2 ^ cut.length - 1 else 0)) := by
  have hx : ∀ (y l : Nat), ∀ i, i < 2 ^ cut.length → gbit n (kn cut i) y ^^^ (l % 2) < 2 := fun y l i _ => Nat.xor_lt_two_pow (n := 1) (gbit_lt (kn_lt cut i) y) (Nat.mod_lt _ (by decide))
  unfold colOf
  rw [col_xor fun i _ => gbit_lt (kn_lt cut i) _, col_xor fun i _ => gbit_lt (kn_lt cut i) _, col_and (hx _ _) (hx _ _)]
  congr 1
  funext m
  exact gbit_gate (if_neg h) hg h1 h2
/-! ### what stands above a cut -/
structure MK (n : Net) (gate : Nat) (cut ks : List Nat) : Prop where
  nd : ks.Nodup
  g : gate ∈ ks
  b : ∀ x ∈ ks, n.base ≤ x ∧ x ≤ gate ∧ x ∉ cut ∧ ∀ y ∈ kids n x, Sep n cut y
structure Above (n : Net) (gate : Nat) (cut ab : List Nat) : Prop where
  asc : ab.Pairwise (· < ·)
  g : gate ∈ ab
  b : ∀ x ∈ ab, n.base ≤ x ∧ x ≤ gate ∧ x ∉ cut
  k : ∀ x ∈ ab, ∀ y ∈ kids n x, y ∈ cut ∨ y ∈ ab
theorem band (a b : Nat) : Builtin.bitAnd (a : Int) (b : Int) = ((a &&& b : Nat) : Int) := by
  rw [bitAnd_pp (Int.natCast_nonneg _) (Int.natCast_nonneg _), Int.toNat_natCast, Int.toNat_natCast]
theorem band_one (a : Nat) : Builtin.bitAnd (a : Int) 1 = ((a % 2 : Nat) : Int) := by
  have h := PySem.W.kbt_mask ((a : Nat) : Int) 1
  rw [show (2 : Int) ^ 1 - 1 = 1 by decide, show (2 : Int) ^ 1 = 2 by decide] at h
  rw [h]
  rfl
theorem shl_nat (a k : Nat) : (a : Int) * 2 ^ ((k : Int)).toNat = ((a * 2 ^ k : Nat) : Int) := by
  rw [Int.toNat_natCast, Int.natCast_mul, Int.natCast_pow]
  rfl
theorem shl_one (k : Nat) : (1 : Int) * 2 ^ ((k : Int)).toNat = ((2 ^ k : Nat) : Int) := by
  rw [Int.one_mul, Int.toNat_natCast, Int.natCast_pow]
  rfl
theorem shr_nat (a k : Nat) : (a : Int) / 2 ^ ((k : Int)).toNat = ((a / 2 ^ k : Nat) : Int) := by
  rw [Int.toNat_natCast, Int.natCast_ediv, Int.natCast_pow]
  rfl
theorem shr_one (a : Nat) : (a : Int) / 2 ^ ((1 : Int)).toNat = ((a / 2 : Nat) : Int) := rfl
end V0
/-! methods and classes of the text as callers need them; len of a set of tuples -/
namespace V0
open PySem PySem.Spec PyProof.Rows L2
structure MDef (K : PySem.W.Frag) (C : Addr) (m : Str) (f : Addr) (fd : FuncData) (ps : List Str) : Prop where
  m : Meth K C m f
  b : Binds K fd ps []
structure IDef (K : PySem.W.Frag) (C : Addr) (f : Addr) (fd : FuncData) (ps : List Str) : Prop where
  k : Mk K C f
  b : Binds K fd ps []
/-- len of a set of tuples -/
def rLenST (P : Program) (w : World) : List V → Hp → VK → Prop := fun vs H Q => ∃ (a : Addr) (L : List (Addr × List Int)), vs = [.ref a] ∧ H a = some (SetTO P w a L) ∧ ((L.map (·.2)).Nodup → Q (.int (L.length : Nat)) H)
theorem call_lenST {X : Cx} : CallR X (.builtin "len") (rLenST X.prog X.w) := by
  intro pins s σ H vs us Q I r h
  obtain ⟨a, L, rfl, ha, q⟩ := h
  obtain rfl := Vals.ref1 r
  have R0 : SetT0 X.prog X.w s.heap a L := (I.hok a _ ha).1
  obtain ⟨es, ep, t, ⟨o, ho, hex, hd⟩, rows, tab, nd, _, _, room, few⟩ := R0.ex
  have hl : es.size = L.length := by
    rw [← Array.length_toList, rows]
    exact List.length_map _
  have hfits : t.fits es.size = true := by
    unfold SetTable.fits SetTable.fill
    have hsz := tab.sz
    rw [List.length_map] at hsz
    rw [tab.dm, Bool.and_eq_true, beq_iff_eq, decide_eq_true_eq]
    show t.place.size = es.size ∧ t.place.size + 0 ≤ t.mask
    omega
  refine call_len_set ho hex hd hfits (by omega) ⟨.int (L.length : Nat), H, I.tok _, ⟨_, by rw [hl]⟩, q nd⟩
end V0
/-! xs[i] op= e; more operators in place; comprehensions of two clauses by an invariant -/
namespace V0
open PySem PySem.Spec PyProof.Rows L2
theorem pg_ixL {X : Cx} : PGet X (rIxL X.K) := by
  intro pins s σ H x y v u Q I rx ry h
  obtain ⟨p, xs, i, z, rfl, rfl, hq, he, q⟩ := h
  cases rx
  obtain ⟨t, rfl⟩ := ry
  obtain ⟨its, r, pl, hz⟩ := I.list hq
  obtain ⟨j, h1, h2, h3, h4, h5⟩ := atI_get he
  obtain ⟨w, ew, rw'⟩ := r.get h2
  have hl := r.length
  have hn := line63
  have fin : EP X pins σ Q w s := ⟨z, H, I, rw', q⟩
  by_cases h0 : 0 ≤ i
  · have hj : i.toNat = j := by
      rw [seqIndex_of h0 h5] at h1
      exact Option.some.inj h1
    exact wpAny_getItem_list pl.isList h0 (by omega) (by rw [hj]; simpa using ew) fin
  · have hj : (i + (its.toArray.size : Int)).toNat = j := by
      rw [seqIndex_neg (by omega) h4] at h1
      rw [List.size_toArray, ← hl]
      exact Option.some.inj h1
    exact wpAny_getItem_list_neg pl.isList (by omega) (by rw [List.size_toArray] <;> omega) (by omega) (by rw [hj]; simpa using ew) fin
theorem ip_or {X : Cx} : PIp X .BitOr (ipI fun i j => Builtin.bitOr i j) := by
  intro pins s σ H x y v u Q I r1 r2 h
  obtain ⟨i, j, e1, e2, q⟩ := h
  subst e1; subst e2
  obtain ⟨t, rfl⟩ := r1
  obtain ⟨t', rfl⟩ := r2
  exact ior_int ⟨.int _, H, I.tok _, ⟨_, rfl⟩, q⟩
/-- a star in a display, K told -/
theorem pa_starK {X : Cx} {K : PySem.W.Frag} {e : Expr} {es : List Expr} {te : TE} {t : TA} {p : Pos} (hK : X.K = K) (he : PE X e te) (hr : PA X es t) (hs : starEach (.Starred e p :: es) X.env = (true, eval e X.env) :: starEach es X.env := by rfl) : PA X (.Starred e p :: es) (StX.tStar K te t) := by
  subst hK
  exact StX.pa_star he hr hs
/-- a if t else b: what both ways give -/
theorem ifx {b : Bool} {A B : VK → Prop} {Q : VK} (R : V → Hp → Prop) (hA : b = true → ∀ Q : VK, (∀ y H', R y H' → Q y H') → A Q) (hB : b = false → ∀ Q : VK, (∀ y H', R y H' → Q y H') → B Q) (fin : ∀ y H', R y H' → Q y H') : if b = true then A Q else B Q := by
  cases b with
  | true => exact iteT (hA rfl Q fin)
  | false => exact iteF (hB rfl Q fin)
/-- a walked thing's number of turns, and what each turn gives -/
structure Wk (J : It) (n : Nat) (Y : Nat → Hp → V → Hp → Prop) (S : Nat → Hp → Prop) : Prop where
  stop : ∀ H, S n H → J.stop n H
  go : ∀ i H, i < n → S i H → J.go i H
  yld : ∀ i H x H', i < n → S i H → J.yld i H x H' → Y i H x H'
theorem wk_range {lo : Int} {n : Nat} : Wk (Itr lo n) n (fun i H x H' => x = .int (lo + i) ∧ H' = H) (fun _ _ => True) := by
  refine ⟨fun H _ => Nat.le_refl _, fun i H h _ => h, fun i H x H' _ _ y => ?_⟩
  obtain ⟨e, y⟩ := y
  exact ⟨y, e⟩
theorem wk_list {K : PySem.W.Frag} {a : Addr} {xs : List V} : Wk (Itl K a) xs.length (fun i H x H' => xs[i]? = some x ∧ H' = H) (fun _ H => SqL K H a xs) := by
  refine ⟨fun H h => ⟨xs, h, Nat.le_refl _⟩, fun i H h s => ⟨xs, xs[i], s, by simp [h]⟩, fun i H x H' _ s y => ?_⟩
  obtain ⟨e, y⟩ := y
  subst e
  exact ⟨y xs s, rfl⟩
theorem wk_tup {K : PySem.W.Frag} {a : Addr} {xs : List V} : Wk (Itt K a) xs.length (fun i H x H' => xs[i]? = some x ∧ H' = H) (fun _ H => SqT K H a xs) := by
  refine ⟨fun H h => ⟨xs, h, Nat.le_refl _⟩, fun i H h s => ⟨xs, xs[i], s, by simp [h]⟩, fun i H x H' _ s y => ?_⟩
  obtain ⟨e, y⟩ := y
  subst e
  exact ⟨y xs s, rfl⟩
/-- the outer clause of a comprehension of two, and its inner one -/
theorem lc2_out {J : It} {n : Nat} {Y : Nat → Hp → V → Hp → Prop} {S : Nat → Hp → Prop} {g : TG} {tt : TT} {inner : L2.St → Hp → (Hp → Prop) → Prop} {vs : List Nat} {σ : L2.St} {H1 : Hp} {Qd : Hp → Prop} (w : Wk J n Y S) (Pv : Nat → Hp → Prop) (h0 : Pv 0 H1) (hl : ∀ i H, i ≤ n → Pv i H → S i H)
    (hs : ∀ i H x H', i < n → Pv i H → Y i H x H' → g x (wipe σ vs) H' fun σ2 H2 => wipe σ2 vs = wipe σ vs ∧ tt σ2 H2 fun b H3 => if b = true then inner σ2 H3 (Pv (i + 1)) else Pv (i + 1) H3) (hd : ∀ H, Pv n H → Qd H) :
    ∃ W : Nat → Nat → Hp → Prop, (∃ m, W 0 m H1) ∧ ∀ i m H, W i m H →
      (J.stop i H ∧ Qd H) ∨ (J.go i H ∧ ∃ Nx : Hp → Prop, (∀ H', Nx H' → ∃ m', m' < m ∧ W (i + 1) m' H') ∧ ∀ x H', J.yld i H x H' → g x (wipe σ vs) H' fun σ2 H2 => wipe σ2 vs = wipe σ vs ∧ tt σ2 H2 fun b H3 =>
        if b = true then inner σ2 H3 Nx else Nx H3) := by
  refine ⟨fun i m H => m = n - i ∧ i ≤ n ∧ Pv i H, ⟨n, by simp, Nat.zero_le _, h0⟩, ?_⟩
  rintro i m H ⟨rfl, hi, p⟩
  by_cases hlt : i < n
  · refine .inr ⟨w.go i H hlt (hl i H hi p), Pv (i + 1), fun H' p' => ⟨n - (i + 1), by omega, rfl, hlt, p'⟩, fun x H' y => ?_⟩
    exact hs i H x H' hlt p (w.yld i H x H' hlt (hl i H hi p) y)
  · have e : i = n := by omega
    subst e
    exact .inl ⟨w.stop H (hl i H hi p), hd H p⟩
end V0
/-! list(d.values()) -/
namespace V0
open PySem PySem.Spec PyProof.Rows L2
/-- list(o.values()), o a dict -/
def tListVals (td : TE) : TE := fun σ H Q => td σ H fun x H1 => ∃ a kvs, x = V.ref a ∧ H1 a = some (.dK kvs) ∧ ∀ q, H1 q = none → Q (.ref q) (upd H1 q (.lst (kvs.map (·.2))))
theorem kv_at : ∀ {kvs : List (Key × V)} {vs : List (Key × Value)}, KV kvs vs → ∀ {i : Nat} {k : Key} {v : Value}, vs[i]? = some (k, v) → ∃ x, kvs[i]? = some (k, x) ∧ RelV x v := by
  intro kvs vs r
  induction r with
  | nil =>
    intro i k v e
    simp at e
  | cons p r ih =>
    intro i k v e
    rename_i a b as bs
    cases i with
    | zero =>
      cases e
      exact ⟨a.2, (show some a = some (k, a.2) from congrArg some (Prod.ext p.1 rfl)), p.2⟩
    | succ i => exact ih e
theorem pe_listVals {X : Cx} {o : Expr} {p pos apos mpos : Pos} {td : TE} (hc : X.calm = true) (hg : Gl X "list") (hm : X.mg "list" = none) (hd : PE X o td) (hbase : attributeBase o "values" X.env (eval o X.env) = eval o X.env := by rfl) (hline : (apos.endLine == mpos.line) = true := by rfl)
    (na : starEach [Expr.Call (.Attribute o "values" apos) [] [] mpos] X.env = (false, eval (Expr.Call (.Attribute o "values" apos) [] [] mpos) X.env) :: starEach [] X.env := by rfl) :
    PE X (.Call (.Name "list" p) [.Call (.Attribute o "values" apos) [] [] mpos] [] pos) (tListVals td) := by
  refine ⟨fun pins s σ H Q I h => ?_⟩
  refine Call_ (ld_blt I hg hm boot_list (PyProof.Rows.callWith_type1 (args_cons (wpAny_Call_method0_late hbase hline (thn (hd.run pins s σ H _ I h) fun v s1 ⟨x, H1, I1, r1, a, kvs, ex, ha, q⟩ => ?_)) na) na))
  subst ex
  obtain rfl : v = Value.ref a := r1
  obtain ⟨hz, hsys, vs, rel, dof⟩ := dk_of I1.hok ha
  obtain ⟨ep, dat⟩ := dof.dictAt
  have dat' := dat
  obtain ⟨ob, es, ho, ex, hdat, hko, hpr, hnd⟩ := dat'
  refine ⟨"dict", "dict.values", F.plainAttrs_dict, F.slot_dict_values, F.type_dict_values, ⟨ob, ho, ex.1⟩, fun b e => ?_, Calls.callWith_builtin rfl (PySem.evalArgs_none ?_)⟩
  · cases e
    exact ⟨ob, ho, ex.2.1⟩
  refine call_meetsIn F.slot_dict_values ⟨ob, ho, ex.1⟩ F.entry_dict_values (F.args_dict_values_1 _) (meets_dict_values (mixKind X.prog X.w) a hsys) ⟨⟨vs, dof⟩, args_nil ?_⟩
  have k1 : ∀ b u, s1.heap.get? b = some u → (s1.heap.push { cls := .type "dict_values", data := .fields #[.ref a] }).get? b = some u := fun b u e => Heap.get?_push_of_some _ e
  have dat1 : (s1.heap.push { cls := .type "dict_values", data := .fields #[.ref a] }).DictAt (mixKind X.prog X.w) a vs ep := dat.keep k1
  have hl : kvs.length = vs.length := Paired.length rel
  refine PySem.W.kdl_call (PySem.W.kdl_values (knd := mixKind X.prog X.w) (kvs := vs) (ep := ep) (r := s1.heap.objs.size) (d := a)) (I1.ok.hd hc) ⟨⟨_, Heap.get?_push_size _ rfl, rfl, rfl⟩, dat1⟩ (by rw [← hl]; exact hz) fun h' tk acc' c' hk hS hacc => ?_
  have up : s1.heap.objs.size ≤ (s1.heap.push { cls := .type "dict_values", data := .fields #[.ref a] }).objs.size := by rw [Heap.size_push]; exact Nat.le_succ _
  refine ⟨.ref _, upd H1 _ (.lst (kvs.map (·.2))), I1.laid (t' := tk) (fun b u e => hk b u (k1 b u e)) up (show ObjOk X.prog X.w _ _ _ (.lst (kvs.map (·.2))) from ⟨?_, acc'.toList, c', ?_, ?_⟩), rfl, q _ (I1.hok.fresh up)⟩
  · rw [List.length_map]
    exact hz
  · have el : acc'.toList.length = acc'.size := by simp
    refine vals_of_at (by rw [List.length_map, el, hacc.1, hl]) fun j x w h1 h2 => ?_
    obtain ⟨k, hky⟩ := hacc.2 j w (by rw [← Array.getElem?_toList]; exact h2)
    obtain ⟨y, e1, e2⟩ := kv_at rel hky
    rw [List.getElem?_map, e1] at h1
    cases h1
    exact e2
  · rw [Array.toArray_toList]
    exact hS
end V0
/-! a dict comprehension set to a name -/
namespace V0
open PySem PySem.Spec PyProof.Rows L2
theorem ps_setDc {X : Cx} {i : Nat} {y : Str} {py : Pos} {kx vx tg iter : Expr} {ifs : List Expr} {scope : Scope} {own : List (Str × Nat)} {pos spos : Pos} {wi : TI} {g : TG} {tt : TT} {tk tv : TE} (hc : X.calm = true) (hN : X.N.Nodup) (hy : X.N[i]? = some y) (hyl : X.env.scope.names.lookup y = some .local)
    (hsw : swapsWith (.DictComp kx vx [⟨tg, iter, ifs, 0⟩] scope pos) (some (.Name y py)) spos.line X.env = pure true) (hi : PI X tg iter wi) (ok : BlkOk X.N X.env.scope scope own)
    (hg : ∀ (s : Shared) (H : Hp) (C : Addr) (cl : List (Str × Addr)) (fp : List Addr), PG (X.blk s H scope (compEnvC scope cl C X.env) fp) tg g) (ht : ∀ (s : Shared) (H : Hp) (C : Addr) (cl : List (Str × Addr)) (fp : List Addr), PTs (X.blk s H scope (compEnvC scope cl C X.env) fp) ifs tt)
    (hk : ∀ (s : Shared) (H : Hp) (C : Addr) (cl : List (Str × Addr)) (fp : List Addr), PE (X.blk s H scope (compEnvC scope cl C X.env) fp) kx tk)
    (he : ∀ (s : Shared) (H : Hp) (C : Addr) (cl : List (Str × Addr)) (fp : List Addr), PE (X.blk s H scope (compEnvC scope cl C X.env) fp) vx tv) (hs : ∀ x, foldedSetIterable iter X.env x = pure x := by intro _; rfl) :
    PS X (.Assign [.Name y py] (.DictComp kx vx [⟨tg, iter, ifs, 0⟩] scope pos) spos) (tAsg (tDc wi g tt tk tv (own.map (·.2))) (gName i)) := by
  refine ⟨fun pins s σ H D I h => ?_⟩
  rw [exec_Assign_Name_used _ _ _ _ hsw]
  refine wpAny_bind (wpAny_standAt (wpAny_bind ?_))
  show wpAny _ X.A (do let _ ← comprehension (.DictComp kx vx [⟨tg, iter, ifs, 0⟩] scope pos) scope X.env (firstIterPos [⟨tg, iter, ifs, 0⟩] pos) newDict false (eval iter X.env) (some (assign (.Name y py) X.env))) _ _ s
  have h : tDc wi g tt tk tv (own.map (·.2)) σ H (fun x H1 => gName i x σ H1 D.nx) := h
  refine wpAny_bind (thn (dc_core (Qf := fun _ s' => SP X pins D .next s') hc hN I hi ok hg ht hk he hs h fun L C s' m H' I' q hn f => ?_) fun _ s' hq => wpAny_pure (wpAny_pure hq))
  show wpAny _ _ (assign (.Name y py) X.env (.ref L)) _ _ _
  refine wpAny_assign_Name (store_ok2 (v := V.ref L) I' hN hy (.inl hyl) rfl (fun s2 I2 ⟨a, sb, ha⟩ => ?_) (.inr hyl))
  obtain ⟨f0, f1, f2, f3, f4, f5⟩ := f
  have haC : C ≠ a := by
    rcases ha with z | z
    · rw [z]; exact f1
    · exact fun e => f4 y a z e.symm
  refine ⟨m, hn.sameBut sb haC, fun h3 sb3 => ?_⟩
  exact ⟨_, H', I2.turned (t' := s2.toks) (fun b o hb e => (sb3.2 b hb).trans e) f0 f1 f3 f4 f5, q⟩
theorem swd_true {kx vx : Expr} {gs : List Comprehension} {scope : Scope} {pos py : Pos} {y : Str} {l : Nat} {env : Env} (hk : env.scope.kind = .function) (hy : env.scope.names.lookup y = some .local) (hl : (py.line == pos.line) = true)
    (ha : (scope.names.any fun (n, k) => n == y && (k == .local || k == .cell)) = false) : swapsWith (.DictComp kx vx gs scope pos) (some (.Name y py)) l env = pure true := by
  have ky : env.kindOf y = some .local := hy
  have hb : env.blockKind = .function := by unfold Env.blockKind; rw [hk]; rfl
  unfold swapsWith
  simp only [hb, ky, ha, Expr.pos, hl]
  rfl
end V0
/-! the state of draws that go through the script once and then on by a seed -/
namespace V0
open PySem PySem.Spec PyProof.Rows L2
structure Dw (H : Hp) (p c : Addr) : Prop where
  ne : p ≠ c
  st : ∃ (xs : List Int) (i b z : Nat), H p = some (.lst [.ref c, .int (i : Nat), .int (b : Nat), .int (z : Nat)]) ∧ H c = some (.lst (vi xs)) ∧ xs.length ≤ 63 ∧ z < 2147483647
theorem Dw.same {H H' : Hp} {p c : Addr} (h : Dw H p c) (s : Same H H') : Dw H' p c := by
  obtain ⟨n, xs, i, b, z, h1, h2, h3⟩ := h
  exact ⟨n, xs, i, b, z, s _ _ h1, s _ _ h2, h3⟩
theorem Dw.off {H : Hp} {p c q : Addr} (h : Dw H p c) (hq : H q = none) : q ≠ p ∧ q ≠ c := by
  obtain ⟨n, xs, i, b, z, h1, h2, h3⟩ := h
  exact ⟨fun e => (by rw [e, h1] at hq; cases hq), fun e => (by rw [e, h2] at hq; cases hq)⟩
/-- from H to H' all but the state of the draws stays -/
structure Gw (p c : Addr) (H H' : Hp) : Prop where
  a : Dw H p c
  b : Dw H' p c
  s : Same (hid p H) (hid p H')
theorem Gw.refl {p c : Addr} {H : Hp} (h : Dw H p c) : Gw p c H H := ⟨h, h, Same.refl _⟩
theorem Gw.trans {p c : Addr} {H H1 H2 : Hp} (x : Gw p c H H1) (y : Gw p c H1 H2) : Gw p c H H2 := ⟨x.a, y.b, x.s.trans y.s⟩
theorem Gw.of {p c : Addr} {H H' : Hp} (h : Dw H p c) (s : Same H H') : Gw p c H H' := ⟨h, h.same s, hid_mono s⟩
theorem Gw.more {p c : Addr} {H H1 H2 : Hp} (x : Gw p c H H1) (s : Same H1 H2) : Gw p c H H2 := x.trans (Gw.of x.b s)
theorem Gw.get {p c b : Addr} {H H' : Hp} {o : HO} (x : Gw p c H H') (h1 : b ≠ p) (h : H b = some o) : H' b = some o := (hid_some (x.s _ _ (hid_of h1 h))).2
/-- what was new at H and stands at H1 stands at H' -/
theorem Gw.get' {p c b : Addr} {H H1 H' : Hp} {o : HO} (x : Gw p c H1 H') (d : Dw H p c) (n : H b = none) (h : H1 b = some o) : H' b = some o := x.get (d.off n).1 h
theorem Gw.up {p c b : Addr} {H H' : Hp} {o : HO} (x : Gw p c H H') (h : hid p H b = some o) : H' b = some o := (hid_some (x.s _ _ h)).2
theorem Gw.mut {p c D : Addr} {H H' : Hp} {o : HO} (x : Gw p c H H') (h : H D = none) : Gw p c H (upd H' D o) := by
  obtain ⟨h1, h2⟩ := x.a.off h
  obtain ⟨n, xs, i, b, z, e1, e2, e3⟩ := x.b
  refine ⟨x.a, ⟨n, xs, i, b, z, (by rw [upd_ne (fun e => h1 e.symm)]; exact e1), (by rw [upd_ne (fun e => h2 e.symm)]; exact e2), e3⟩, fun b u hb => ?_⟩
  obtain ⟨g1, g2⟩ := hid_some hb
  have h4 : b ≠ D := fun y => by
    rw [y, h] at g2
    cases g2
  exact hid_of g1 (by rw [upd_ne h4]; exact (hid_some (x.s _ _ hb)).2)
theorem Gw.none {p c b : Addr} {H H' : Hp} (x : Gw p c H H') (h : H' b = none) : H b = none := by
  obtain ⟨h1, h2⟩ := x.b.off h
  cases e : H b with
  | none => rfl
  | some o =>
    rw [x.get h1 e] at h
    cases h
section
variable {α : Type} [DecidableEq α] [Dm α] {p c : Addr} {H H' : Hp} {v : V} {vs : List V} {x : α} {xs : List α}
theorem Dv.hup (h : Dv (hid p H) v x) : Dv H v x := h.same (hid_same p H)
theorem Dvs.hup (h : Dvs (hid p H) vs xs) : Dvs H vs xs := h.same (hid_same p H)
end
theorem fresh_hidp {p c : Addr} {H H' : Hp} (d : Dw H p c) : Same (fresh H H') (hid p H') := fun b o h => by
  obtain ⟨h1, h2⟩ := fresh_some h
  exact hid_of (d.off h1).1 h2
theorem hid2_mut {p q : Addr} {H : Hp} {o : HO} : Same (hid q (hid p H)) (hid q (hid p (upd H q o))) := fun b u h => by
  obtain ⟨h1, h2⟩ := hid_some h
  obtain ⟨h3, h4⟩ := hid_some h2
  exact hid_of h1 (hid_of h3 (by rw [upd_ne h1]; exact h4))
theorem ten18 : (10 : Int) ^ (18 : Int).toNat = 1000000000000000000 := by decide +kernel
end V0
/-! a pair or None as data; lists that grow in what is new; slices from and to a place -/
namespace V0
open PySem PySem.Spec PyProof.Rows L2
open PySem.W (Datum)
theorem pair_toD (p : Nat × Nat) : Datum.toD p = .tuple [Datum.toD p.1, Datum.toD p.2] := rfl
instance : Datum (Option (Nat × Nat)) where
  toD x := match x with
    | none => .none
    | some p => Datum.toD p
  plain x := by
    cases x with
    | none => simp only [PyData.plain]
    | some p => exact Datum.plain p
  eqv a b := by
    cases a with
    | none =>
      cases b with
      | none => simp only [PyData.eqv, decide_true]
      | some q =>
        rw [decide_eq_false (by intro e; cases e)]
        show PyData.eqv .none (.tuple [Datum.toD q.1, Datum.toD q.2]) = false
        simp only [PyData.eqv]
    | some p =>
      cases b with
      | none =>
        rw [decide_eq_false (by intro e; cases e)]
        show PyData.eqv (.tuple [Datum.toD p.1, Datum.toD p.2]) .none = false
        simp only [PyData.eqv]
      | some q =>
        have h := Datum.eqv p q
        rw [h]
        exact decide_eq_decide.mpr ⟨fun e => by rw [e], fun e => Option.some.inj e⟩
  depth := Datum.depth (Nat × Nat)
  depth_le x := by
    cases x with
    | none =>
      simp only [PyData.depth]
      exact Nat.zero_le _
    | some p => exact Datum.depth_le p
instance : Dm (Option (Nat × Nat)) where
  lay x := by
    cases x with
    | none => simp only [Datum.toD, PyData.canLay0]
    | some p => exact Dm.lay p
theorem Dv.non {H : Hp} : Dv H .non (none : Option (Nat × Nat)) := Dh.non
theorem Dv.some_ {H : Hp} {v : V} {p : Nat × Nat} (h : Dv H v p) : Dv H v (some p : Option (Nat × Nat)) := h
theorem Dv.some_inv {H : Hp} {v : V} {p : Nat × Nat} (h : Dv H v (some p : Option (Nat × Nat))) : Dv H v p := h
theorem Dv.none_inv {H : Hp} {v : V} (h : Dv H v (none : Option (Nat × Nat))) : v = .non := by
  unfold Dv at h
  cases h
  rfl
theorem Dvs.somes {H : Hp} : ∀ {vs : List V} {ps : List (Nat × Nat)}, Dvs H vs ps → Dvs H vs (ps.map some)
  | _, [], h => by rw [h.nil_inv]; exact .nil
  | _, _ :: _, h => by
    obtain ⟨v, us, rfl, h1, h2⟩ := h.cons_inv
    exact .cons h1.some_ h2.somes
/-- a list that is built is put again, with what is new around it -/
theorem hid_fresh_mut {D : Addr} {H Hx : Hp} {o : HO} : Same (hid D (fresh H Hx)) (hid D (fresh H (upd Hx D o))) := fun z u hz => by
  obtain ⟨h1, h2⟩ := hid_some hz
  obtain ⟨h3, h4⟩ := fresh_some h2
  exact hid_of h1 (fresh_of h3 (by rw [upd_ne h1]; exact h4))
theorem cut_to' (xs : List V) (n : Nat) : cutV xs none (some (n : Int)) = xs.take n := by
  unfold cutV
  rw [HT.sIx_none, HT.sIx_nat, List.drop_zero, Nat.sub_zero]
  rcases Nat.le_total n xs.length with h | h
  · rw [Nat.min_eq_left h]
  · rw [Nat.min_eq_right h, List.take_of_length_le (Nat.le_refl _), List.take_of_length_le h]
theorem cut_from (xs : List V) (n : Nat) : cutV xs (some (n : Int)) none = xs.drop n := by
  unfold cutV
  rw [HT.sIx_none, HT.sIx_nat]
  rcases Nat.le_total n xs.length with h | h
  · rw [Nat.min_eq_left h, List.take_of_length_le (by rw [List.length_drop]; exact Nat.le_refl _)]
  · rw [Nat.min_eq_right h, List.drop_of_length_le (Nat.le_refl _), List.drop_of_length_le h, List.take_nil]
end V0
/-! comprehensions over whole numbers whose parts change nothing that stands -/
namespace V0
open PySem PySem.Spec PyProof.Rows L2
theorem lcN {J : It} {G : Hp → Prop} {Y : Nat → Hp → V → Hp → Prop} {xs : List Nat} (w : Walk J xs.length G Y) {sl : Nat} {tt : TT} {te : TE} {σ : L2.St} {H1 : Hp} {D : Addr} {Qd : Hp → Prop} (p : Nat → Bool) (f : Nat → Nat)
    (nD : H1 D = none) (few : xs.length ≤ 60000) (hw : ∀ v, wipe ((wipe σ [sl]).set sl v) [sl] = wipe σ [sl]) (hG : ∀ Hz, Same H1 Hz → G Hz) (hY : ∀ i Hz x H', Y i Hz x H' → H' = Hz ∧ ∃ k, xs[i]? = some k ∧ x = .int (k : Nat))
    (ht : ∀ x ∈ xs, ∀ (Hz : Hp) (Q : Bool → Hp → Prop), Same H1 Hz → (∀ H', Same Hz H' → Q (p x) H') → tt ((wipe σ [sl]).set sl (some (.int (x : Nat)))) Hz Q)
    (hs : ∀ x ∈ xs, p x = true → ∀ (Hz : Hp) (Q : VK), Same H1 Hz → (∀ H', Same Hz H' → Q (.int (f x : Nat)) H') → te ((wipe σ [sl]).set sl (some (.int (x : Nat)))) Hz Q)
    (hd : ∀ H', Same H1 H' → H' D = some (.lst (vn ((xs.filter p).map f))) → Qd H') :
    ∃ W : Nat → Nat → Hp → Prop, (∃ m, W 0 m (upd H1 D (.lst []))) ∧ ∀ i m H, W i m H →
      (J.stop i H ∧ Qd H) ∨ (J.go i H ∧ ∃ Nx : Hp → Prop, (∀ H', Nx H' → ∃ m', m' < m ∧ W (i + 1) m' H') ∧ ∀ x H', J.yld i H x H' → gName sl x (wipe σ [sl]) H' fun σ2 H2 => wipe σ2 [sl] = wipe σ [sl] ∧ tt σ2 H2 fun b H3 =>
        if b = true then te σ2 H3 fun y H4 => ∃ acc, H4 D = some (.lst acc) ∧ acc.length < sizeLine ∧ Nx (upd H4 D (.lst (acc ++ [y]))) else Nx H3) := by
  refine lc_it w (fun i Hz => Same H1 Hz ∧ Hz D = some (.lst (vn (((xs.take i).filter p).map f)))) ⟨same_new nD, upd_same⟩ (fun i Hz _ h => hG _ h.1) ?_ ?_
  · rintro i x Hz H' hi ⟨sz, hZ⟩ y
    obtain ⟨rfl, k, hk, rfl⟩ := hY _ _ _ _ y
    have mem := List.mem_of_getElem? hk
    refine ⟨hw _, ht k mem _ _ sz fun H2 s2 => ?_⟩
    have e : ((xs.take (i + 1)).filter p).map f = ((xs.take i).filter p).map f ++ (if p k = true then [f k] else []) := by
      rw [take_snoc hk, List.filter_append, List.map_append, List.filter_cons]
      split <;> rfl
    by_cases c : p k = true
    · rw [if_pos c]
      refine hs k mem c _ _ (sz.trans s2) fun H3 s3 => ⟨_, s3 _ _ (s2 _ _ hZ), ?_, same_mut (sz.trans (s2.trans s3)) nD, ?_⟩
      · rw [vn_len, List.length_map]
        have h1 := List.length_filter_le p (xs.take i)
        rw [List.length_take] at h1
        exact small64k (by omega)
      · rw [upd_same, e, if_pos c, vn_snoc]
    · rw [if_neg c]
      refine ⟨sz.trans s2, ?_⟩
      rw [e, if_neg c, List.append_nil]
      exact s2 _ _ hZ
  · rintro Hz ⟨sz, hZ⟩
    rw [List.take_length] at hZ
    exact hd Hz sz hZ
section
variable {K : PySem.W.Frag} {a : Addr} {xs : List Nat} {sl : Nat} {tt : TT} {te : TE} {σ : L2.St} {H1 : Hp} {D : Addr} {Qd : Hp → Prop}
theorem yat_nat {i : Nat} {Hz H' : Hp} {x : V} (h : YAt (vn xs) i Hz x H') : H' = Hz ∧ ∃ k, xs[i]? = some k ∧ x = .int (k : Nat) := by
  refine ⟨h.1, ?_⟩
  have h := h.2
  unfold vn at h
  rw [List.getElem?_map] at h
  obtain ⟨k, e1, e2⟩ := Option.map_eq_some_iff.mp h
  exact ⟨k, e1, e2.symm⟩
/-- [f(x) for x in xs if p(x)] -/
theorem lcLf (p : Nat → Bool) (f : Nat → Nat) (nD : H1 D = none) (hx : H1 a = some (.lst (vn xs))) (few : xs.length ≤ 60000) (hw : ∀ v, wipe ((wipe σ [sl]).set sl v) [sl] = wipe σ [sl])
    (ht : ∀ x ∈ xs, ∀ (Hz : Hp) (Q : Bool → Hp → Prop), Same H1 Hz → (∀ H', Same Hz H' → Q (p x) H') → tt ((wipe σ [sl]).set sl (some (.int (x : Nat)))) Hz Q)
    (hs : ∀ x ∈ xs, p x = true → ∀ (Hz : Hp) (Q : VK), Same H1 Hz → (∀ H', Same Hz H' → Q (.int (f x : Nat)) H') → te ((wipe σ [sl]).set sl (some (.int (x : Nat)))) Hz Q)
    (hd : ∀ H', Same H1 H' → H' D = some (.lst (vn ((xs.filter p).map f))) → Qd H') :
    ∃ W : Nat → Nat → Hp → Prop, (∃ m, W 0 m (upd H1 D (.lst []))) ∧ ∀ i m H, W i m H →
      ((Itl K a).stop i H ∧ Qd H) ∨ ((Itl K a).go i H ∧ ∃ Nx : Hp → Prop, (∀ H', Nx H' → ∃ m', m' < m ∧ W (i + 1) m' H') ∧ ∀ x H', (Itl K a).yld i H x H' → gName sl x (wipe σ [sl]) H' fun σ2 H2 => wipe σ2 [sl] = wipe σ [sl] ∧ tt σ2 H2 fun b H3 =>
        if b = true then te σ2 H3 fun y H4 => ∃ acc, H4 D = some (.lst acc) ∧ acc.length < sizeLine ∧ Nx (upd H4 D (.lst (acc ++ [y]))) else Nx H3) := by
  have w := walk_list (K := K) (a := a) (xs := vn xs)
  rw [vn_len] at w
  exact lcN w p f nD few hw (fun Hz s => SqL.of (s _ _ hx)) (fun i Hz x H' y => yat_nat y) ht hs hd
/-- [f(x) for x in xs] -/
theorem lcL (f : Nat → Nat) (nD : H1 D = none) (hx : H1 a = some (.lst (vn xs))) (few : xs.length ≤ 60000) (hw : ∀ v, wipe ((wipe σ [sl]).set sl v) [sl] = wipe σ [sl])
    (hs : ∀ x ∈ xs, ∀ (Hz : Hp) (Q : VK), Same H1 Hz → (∀ H', Same Hz H' → Q (.int (f x : Nat)) H') → te ((wipe σ [sl]).set sl (some (.int (x : Nat)))) Hz Q)
    (hd : ∀ H', Same H1 H' → H' D = some (.lst (vn (xs.map f))) → Qd H') :
    ∃ W : Nat → Nat → Hp → Prop, (∃ m, W 0 m (upd H1 D (.lst []))) ∧ ∀ i m H, W i m H →
      ((Itl K a).stop i H ∧ Qd H) ∨ ((Itl K a).go i H ∧ ∃ Nx : Hp → Prop, (∀ H', Nx H' → ∃ m', m' < m ∧ W (i + 1) m' H') ∧ ∀ x H', (Itl K a).yld i H x H' → gName sl x (wipe σ [sl]) H' fun σ2 H2 => wipe σ2 [sl] = wipe σ [sl] ∧ tYes σ2 H2 fun b H3 =>
        if b = true then te σ2 H3 fun y H4 => ∃ acc, H4 D = some (.lst acc) ∧ acc.length < sizeLine ∧ Nx (upd H4 D (.lst (acc ++ [y]))) else Nx H3) :=
  lcLf (fun _ => true) f nD hx few hw (fun _ _ _ _ _ q => q _ (Same.refl _)) (fun x m _ => hs x m) fun H' s h => hd H' s (by rw [List.filter_eq_self.mpr (fun _ _ => rfl)] at h; exact h)
/-- [f(x) for x in t], t a tuple -/
theorem lcT (f : Nat → Nat) (nD : H1 D = none) (hx : SqT K H1 a (vn xs)) (few : xs.length ≤ 60000) (hw : ∀ v, wipe ((wipe σ [sl]).set sl v) [sl] = wipe σ [sl])
    (hs : ∀ x ∈ xs, ∀ (Hz : Hp) (Q : VK), Same H1 Hz → (∀ H', Same Hz H' → Q (.int (f x : Nat)) H') → te ((wipe σ [sl]).set sl (some (.int (x : Nat)))) Hz Q)
    (hd : ∀ H', Same H1 H' → H' D = some (.lst (vn (xs.map f))) → Qd H') :
    ∃ W : Nat → Nat → Hp → Prop, (∃ m, W 0 m (upd H1 D (.lst []))) ∧ ∀ i m H, W i m H →
      ((Itt K a).stop i H ∧ Qd H) ∨ ((Itt K a).go i H ∧ ∃ Nx : Hp → Prop, (∀ H', Nx H' → ∃ m', m' < m ∧ W (i + 1) m' H') ∧ ∀ x H', (Itt K a).yld i H x H' → gName sl x (wipe σ [sl]) H' fun σ2 H2 => wipe σ2 [sl] = wipe σ [sl] ∧ tYes σ2 H2 fun b H3 =>
        if b = true then te σ2 H3 fun y H4 => ∃ acc, H4 D = some (.lst acc) ∧ acc.length < sizeLine ∧ Nx (upd H4 D (.lst (acc ++ [y]))) else Nx H3) := by
  have w := walk_tup (K := K) (a := a) (xs := vn xs)
  rw [vn_len] at w
  exact lcN w (fun _ => true) f nD few hw (fun Hz s => tup_same s hx) (fun i Hz x H' y => yat_nat y) (fun _ _ _ _ _ q => q _ (Same.refl _)) (fun x m _ => hs x m) fun H' s h => hd H' s (by rw [List.filter_eq_self.mpr (fun _ _ => rfl)] at h; exact h)
/-- [f(x) for x in range(n) if p(x)] -/
theorem lcRf {n : Nat} (p : Nat → Bool) (f : Nat → Nat) (nD : H1 D = none) (few : n ≤ 60000) (hw : ∀ v, wipe ((wipe σ [sl]).set sl v) [sl] = wipe σ [sl])
    (ht : ∀ x, x < n → ∀ (Hz : Hp) (Q : Bool → Hp → Prop), Same H1 Hz → (∀ H', Same Hz H' → Q (p x) H') → tt ((wipe σ [sl]).set sl (some (.int (x : Nat)))) Hz Q)
    (hs : ∀ x, x < n → p x = true → ∀ (Hz : Hp) (Q : VK), Same H1 Hz → (∀ H', Same Hz H' → Q (.int (f x : Nat)) H') → te ((wipe σ [sl]).set sl (some (.int (x : Nat)))) Hz Q)
    (hd : ∀ H', Same H1 H' → H' D = some (.lst (vn (((List.range n).filter p).map f))) → Qd H') :
    ∃ W : Nat → Nat → Hp → Prop, (∃ m, W 0 m (upd H1 D (.lst []))) ∧ ∀ i m H, W i m H →
      ((Itr 0 n).stop i H ∧ Qd H) ∨ ((Itr 0 n).go i H ∧ ∃ Nx : Hp → Prop, (∀ H', Nx H' → ∃ m', m' < m ∧ W (i + 1) m' H') ∧ ∀ x H', (Itr 0 n).yld i H x H' → gName sl x (wipe σ [sl]) H' fun σ2 H2 => wipe σ2 [sl] = wipe σ [sl] ∧ tt σ2 H2 fun b H3 =>
        if b = true then te σ2 H3 fun y H4 => ∃ acc, H4 D = some (.lst acc) ∧ acc.length < sizeLine ∧ Nx (upd H4 D (.lst (acc ++ [y]))) else Nx H3) := by
  have w : Walk (Itr 0 n) (List.range n).length (fun _ => True) (fun i Hz x H' => i < n ∧ YFn (fun i => .int ((0 : Int) + (i : Nat))) i Hz x H') := by
    rw [List.length_range]
    have w0 := walk_range (lo := 0) (n := n)
    exact ⟨w0.goes, w0.stops, fun i Hz x H' hi t y => ⟨hi, w0.yields i Hz x H' hi t y⟩⟩
  refine lcN w p f nD (by rw [List.length_range]; exact few) hw (fun _ _ => trivial) (fun i Hz x H' y => ⟨y.2.1, i, List.getElem?_range y.1, ?_⟩) (fun x m => ht x (List.mem_range.mp m)) (fun x m => hs x (List.mem_range.mp m)) hd
  rw [y.2.2]
  show V.int (0 + (i : Int)) = _
  rw [Int.zero_add]
/-- [f(x) for x in range(n)] -/
theorem lcR {n : Nat} (f : Nat → Nat) (nD : H1 D = none) (few : n ≤ 60000) (hw : ∀ v, wipe ((wipe σ [sl]).set sl v) [sl] = wipe σ [sl])
    (hs : ∀ x, x < n → ∀ (Hz : Hp) (Q : VK), Same H1 Hz → (∀ H', Same Hz H' → Q (.int (f x : Nat)) H') → te ((wipe σ [sl]).set sl (some (.int (x : Nat)))) Hz Q)
    (hd : ∀ H', Same H1 H' → H' D = some (.lst (vn ((List.range n).map f))) → Qd H') :
    ∃ W : Nat → Nat → Hp → Prop, (∃ m, W 0 m (upd H1 D (.lst []))) ∧ ∀ i m H, W i m H →
      ((Itr 0 n).stop i H ∧ Qd H) ∨ ((Itr 0 n).go i H ∧ ∃ Nx : Hp → Prop, (∀ H', Nx H' → ∃ m', m' < m ∧ W (i + 1) m' H') ∧ ∀ x H', (Itr 0 n).yld i H x H' → gName sl x (wipe σ [sl]) H' fun σ2 H2 => wipe σ2 [sl] = wipe σ [sl] ∧ tYes σ2 H2 fun b H3 =>
        if b = true then te σ2 H3 fun y H4 => ∃ acc, H4 D = some (.lst acc) ∧ acc.length < sizeLine ∧ Nx (upd H4 D (.lst (acc ++ [y]))) else Nx H3) :=
  lcRf (fun _ => true) f nD few hw (fun _ _ _ _ _ q => q _ (Same.refl _)) (fun x m _ => hs x m) fun H' s h => hd H' s (by rw [List.filter_eq_self.mpr (fun _ _ => rfl)] at h; exact h)
end
end V0
/-! a display of one entry whose key is a tuple; the least of pairs; i not in range(n); len of a set of whole numbers -/
namespace V0
open PySem PySem.Spec PyProof.Rows L2
/-- as pe_fld, K told -/
theorem pe_fldK {X : Cx} {K : PySem.W.Frag} {e : Expr} {f : Str} {pos : Pos} {ta : TE} (hK : X.K = K) (he : PE X e ta) (hb : attributeBase e f X.env (eval e X.env) = eval e X.env) : PE X (.Attribute e f pos) (tFld K ta f) := by
  subst hK
  exact pe_fld he hb
/-- {t: v}, t a tuple -/
def tDisp1T (tk tv : TE) : TE := fun σ H Q => ∀ p, H p = none → tk σ (upd H p (.dT [])) fun x H1 => tv σ H1 fun y H2 => ∃ H3, H2 p = some (.dT []) ∧ DPut H2 p x y H3 ∧ Q (.ref p) H3
theorem pe_dispT {X : Cx} {k v : Expr} {pos : Pos} {tk tv : TE} (hu : X.A.units + 1 < cLine) (hk : PE X k tk) (hv : PE X v tv) : PE X (.Dict [some k] [v] pos) (tDisp1T tk tv) := by
  refine ⟨fun pins s σ H Q I q => ?_⟩
  have hn := I.hok.fresh (Nat.le_refl s.heap.objs.size)
  have I1 := I.laid (a := s.heap.objs.size) (o := .dT []) (h' := s.heap.push { cls := .type "dict", data := .dict #[] }) (t' := s.toks) (fun _ _ q => Heap.get?_push_of_some _ q) (Nat.le_refl _) (dt_empty s.heap I.big)
  have hp := zip_pairTrees [some k] [v] X.env pos rfl rfl
  rw [arm_eval_Dict, hp, dictDisplay_pairs _ (by unfold pairTrees; simp) (by unfold pairTrees pairTrees; simp)]
  refine wpAny_bind (wpAny_standAt (wpAny_bind ?_))
  unfold subDict
  refine wpAny_bind (wpAny_alloc ?_)
  refine wpAny_bind (wpAny_holding ?_)
  rw [if_pos (by unfold pairTrees pairTrees; simp)]
  refine wpAny_bind (pairTrees_cons_walk (thn (hk.run pins _ σ _ _ I1 (q _ hn)) fun u s1 ⟨x, H1, J1, rx, q1⟩ => thn (hv.run pins s1 σ H1 _ J1 q1) fun w2 s2 ⟨y, H2, J2, ry, H3, e0, g, q2⟩ => pairTrees_nil_walk ?_))
  refine wpAny_holding ?_
  rw [List.forIn_cons]
  rcases g with ⟨kvs, k, e, ey, l, eH⟩ | ⟨kvs, k, b, e, ey, eb, l, eH⟩
  · rw [e0] at e
    cases e
  subst ey eH
  cases (show u = Value.ref b from rx)
  obtain ⟨z, hd, xs, rel, dd⟩ := dt_of J2.hok e
  have hz : xs.length ≤ sizeLine := by rw [← Paired.length rel]; exact z
  have hl : (putK kvs k y).length ≤ sizeLine := by have := length_putK kvs k y; omega
  refine wpAny_bind ?_
  refine wpAny_bind ?_
  show wpAny _ _ (dictSet s.heap.objs.size (Value.ref b) w2 >>= fun _ => pure (ForInStep.yield PUnit.unit)) _ _ _
  refine wpAny_bind (wpAny_dictSet_heap (hsz := hz) (by show X.A.units < cLine; omega) (key_of J2.hok eb) dd fun h' dd' hs => wpAny_pure ?_)
  show wpAny _ _ (forIn [] _ _) _ _ _
  rw [List.forIn_nil]
  refine wpAny_pure (wpAny_pure (wpAny_pure (wpAny_pure ⟨.ref s.heap.objs.size, _, ?_, rfl, q2⟩)))
  obtain ⟨q, es, ep, hq, h2, h3, h4, _, h5⟩ := dd'
  refine d_write J2 (by rw [e]; exact True.intro) hs ⟨q, hq⟩ ⟨hl, hd, _, (rel.put k eb ry).keeps fun c ys ec => ?_, q, es, ep, hq, h2, h3, h4, h5⟩
  rw [upd_ne (ne_of ec e (fun z => nomatch z))]
  exact ec
/-! ### the least of pairs -/
abbrev pD (p : Int × Int) : PyData := .tuple [.int p.1, .int p.2]
theorem dlt_pair (a b c d : Int) : PySem.W.dataLt (pD (a, b)) (pD (c, d)) = (decide (a < c) || (!decide (c < a) && decide (b < d))) := by
  unfold PySem.W.dataLt
  simp only [pD, PySem.W.keyToks, PySem.W.keyToksAll, List.cons_append, List.nil_append]
  rw [lex_self]
  by_cases e : a = c
  · subst e
    rw [lex_self, lex_self]
    by_cases e2 : b = d
    · subst e2
      rw [lex_self, lex_self]
      simp [PyProof.Rows.lexLt]
    · rw [lex_diff (by intro z; exact e2 (Sum.inl.inj z))]
      show decide (b < d) = _
      simp
  · rw [lex_diff (by intro z; exact e (Sum.inl.inj z))]
    show decide (a < c) = _
    by_cases h : a < c
    · simp [h]
    · have : c < a := by omega
      simp [h, this]
theorem minD_pair : ∀ (xs : List (Int × Int)) (x : Int × Int), ∃ m ∈ x :: xs, PySem.W.minD (pD x) (xs.map pD) = pD m ∧ ∀ p ∈ x :: xs, m.1 ≤ p.1
  | [], x => ⟨x, List.mem_cons_self, rfl, fun p hp => by rw [List.mem_singleton.mp hp]; exact Int.le_refl _⟩
  | y :: xs, x => by
    obtain ⟨a, b⟩ := x
    obtain ⟨c, d⟩ := y
    have e : PySem.W.minD (pD (a, b)) (((c, d) :: xs).map pD) = PySem.W.minD (pD (if PySem.W.dataLt (pD (c, d)) (pD (a, b)) = true then (c, d) else (a, b))) (xs.map pD) := by
      unfold PySem.W.minD
      rw [List.map_cons, List.foldl_cons]
      split <;> rfl
    obtain ⟨m, hm, em, le⟩ := minD_pair xs (if PySem.W.dataLt (pD (c, d)) (pD (a, b)) = true then (c, d) else (a, b))
    refine ⟨m, ?_, e.trans em, ?_⟩
    · rcases List.mem_cons.mp hm with h | h
      · rw [h]
        split
        · exact List.mem_cons_of_mem _ List.mem_cons_self
        · exact List.mem_cons_self
      · exact List.mem_cons_of_mem _ (List.mem_cons_of_mem _ h)
    · have l1 := le _ List.mem_cons_self
      have l2 : m.1 ≤ a ∧ m.1 ≤ c := by
        rw [dlt_pair] at l1
        split at l1
        · rename_i h
          simp only [Bool.or_eq_true, Bool.and_eq_true, Bool.not_eq_true', decide_eq_true_eq, decide_eq_false_iff_not] at h
          have l1 : m.1 ≤ c := l1
          omega
        · rename_i h
          simp only [Bool.or_eq_true, Bool.and_eq_true, Bool.not_eq_true', decide_eq_true_eq, decide_eq_false_iff_not] at h
          have l1 : m.1 ≤ a := l1
          omega
      intro p hp
      rcases List.mem_cons.mp hp with rfl | hp
      · exact l2.1
      · rcases List.mem_cons.mp hp with rfl | hp
        · exact l2.2
        · exact le p (List.mem_cons_of_mem _ hp)
theorem alike_pairs (xs : List (Int × Int)) : PySem.W.AlikeAll (xs.map pD) := by
  refine ⟨fun x hx y hy => ?_, fun x hx z => ?_⟩
  · obtain ⟨p, _, rfl⟩ := List.mem_map.mp hx
    obtain ⟨q, _, rfl⟩ := List.mem_map.mp hy
    simp [pD, PySem.W.alike, PySem.W.alikeAll]
  · obtain ⟨p, _, e⟩ := List.mem_map.mp hx
    rw [← e] at z
    cases z
theorem depth_pairs : ∀ xs : List (Int × Int), PyData.depthAll (xs.map pD) ≤ 1
  | [] => by simp [PyData.depthAll]
  | x :: xs => by
    have := depth_pairs xs
    simp only [List.map_cons, PyData.depthAll, pD, PyData.depth]
    omega
/-- min of a list of pairs: an item whose first part is least -/
def rMinP (K : PySem.W.Frag) : List V → Hp → VK → Prop := fun vs H Q => ∃ (a : Addr) (us : List V) (ps : List (Int × Int)), vs = [.ref a] ∧ SqL K H a us ∧ Dvs H us ps ∧ ps ≠ [] ∧
  ∀ (u : V) (m : Int × Int), u ∈ us → m ∈ ps → Dv H u m → (∀ p ∈ ps, m.1 ≤ p.1) → Q u H
theorem cr_minP {X : Cx} (hc : X.calm = true) (hu : X.A.units + 64 < cLine) : CallR X (.builtin "min") (rMinP X.K) := by
  intro pins s σ H vs us Q I r h
  obtain ⟨a, xs, ps, rfl, hs, dv, ne, q⟩ := h
  obtain rfl := Vals.ref1 r
  obtain ⟨its, rv, hl, _⟩ := I.list hs
  have edv : ps.map PySem.W.Datum.toD = ps.map pD := List.map_congr_left fun p _ => rfl
  obtain ⟨p0, rest, rfl⟩ : ∃ p0 rest, ps = p0 :: rest := by
    cases ps with
    | nil => exact absurd rfl ne
    | cons p r => exact ⟨p, r, rfl⟩
  obtain ⟨as, rd⟩ := Dp.readsAll I _ _ its (dh_dpAll _ _ dv) rv
  rw [edv, List.map_cons] at rd
  refine PySem.W.min_list_data (I.ok.hd hc) hl.isList (by simpa using rd) (by have := alike_pairs (p0 :: rest); rw [List.map_cons] at this; exact this) (by have := depth_pairs (p0 :: rest); rw [List.map_cons] at this; omega) fun i v h' tk bs hv hr hk => ?_
  have hv : its[i]? = some v := by simpa using hv
  obtain ⟨u, hu2, ru⟩ : ∃ u, xs[i]? = some u ∧ RelV u v := by
    have hi : i < xs.length := by rw [rv.length]; exact (List.getElem?_eq_some_iff.mp hv).1
    obtain ⟨v2, hv2, r2⟩ := rv.get (List.getElem?_eq_getElem hi)
    rw [hv] at hv2
    cases hv2
    exact ⟨_, List.getElem?_eq_getElem hi, r2⟩
  obtain ⟨m, hm, em, le⟩ := minD_pair rest p0
  obtain ⟨p, hp, dp⟩ := dv.at hu2
  refine ⟨u, H, I.kept hk, ru, ?_⟩
  have e : p = m := by
    obtain ⟨bs2, r3⟩ := Dp.reads (X := X) (I.kept (t' := tk) hk) _ _ _ (dh_dp (K := X.K) _ _ dp) ru
    rw [em] at hr
    have := PySem.SeqAt.Reads.unique _ _ _ _ _ (Dm.lay p) r3 hr
    simp only [PySem.W.Datum.toD] at this
    injection this with h1
    injection h1 with h2 h3
    injection h3 with h4 h5
    injection h2 with h2
    injection h4 with h4
    exact Prod.ext h2 h4
  exact q u p (List.mem_of_getElem? hu2) (List.mem_of_getElem? hp) dp (e ▸ le)
/-! ### ranges -/
theorem cr_range1 {X : Cx} : CallR X (.type "range") (fun vs H Q => ∃ i, vs = [V.int i] ∧ ∀ p, H p = none → Q (.ref p) (upd H p (.rng 0 i))) := by
  intro pins s σ H vs us Q I r h
  obtain ⟨i, rfl, q⟩ := h
  obtain ⟨u1, rfl, ri⟩ := vals1 r
  obtain ⟨t, rfl⟩ := ri
  refine call_range_1 ⟨.ref s.heap.objs.size, upd H s.heap.objs.size (.rng 0 i), I.laid (t' := s.toks + 1 + 1) (fun b o e => Heap.get?_push_of_some _ e) (Nat.le_refl _) ?_, rfl, q _ (I.hok.fresh (Nat.le_refl _))⟩
  exact ⟨s.toks, t, s.toks + 1, Heap.get?_push_size _ rfl⟩
def rNotRng : R2 := fun x y H Q => ∃ i a lo hi, x = V.int i ∧ y = V.ref a ∧ H a = some (.rng lo hi) ∧ Q (.bl (!decide (lo ≤ i ∧ i < hi))) H
theorem op_notIn_rng {X : Cx} : OpR X (compareOp .NotIn) rNotRng := by
  intro pins s σ H x y v u Q I rx ry h
  obtain ⟨i, a, lo, hi, rfl, rfl, ha, q⟩ := h
  obtain ⟨k, rfl⟩ := rx
  obtain rfl : u = Value.ref a := ry
  obtain ⟨t1, t2, t3, ho⟩ := I.hok a _ ha
  show wpAny _ _ (do return Value.bool (!(← contains (Value.ref a) (Value.int i k)))) _ _ s
  refine wpAny_bind (wpAny_contains_slot (T := "range") ⟨_, ho, rfl⟩ F.slot_range_contains (call_meets F.slot_range_contains ⟨_, ho, rfl⟩ F.entry_range_contains (F.args_range_contains_2 _ _) (q_contains a lo hi i t1 t2 t3 k)
    ⟨ho, wpAny_truthy_bool (wpAny_pure ⟨.bl _, H, I, rfl, ?_⟩)⟩))
  rw [place1]
  exact q
/-! ### len of a set -/
def rLenSO (w : World) : List V → Hp → VK → Prop := fun vs H Q => ∃ (a : Addr) (S : Int → Bool) (n : Nat), vs = [V.ref a] ∧ H a = some (SetO w a S n) ∧ ∀ ns : List Int, ns.Nodup → (∀ k : Int, k ∈ ns ↔ S k = true) → ns.length = n → Q (.int (n : Nat)) H
theorem call_lenSO {X : Cx} : CallR X (.builtin "len") (rLenSO X.w) := by
  intro pins s σ H vs us Q I r h
  obtain ⟨a, S, n, rfl, ha, q⟩ := h
  obtain rfl := Vals.ref1 r
  obtain ⟨o, es, ep, t, ho, hex, hd, _, nd, hm, hb, hf, hn, _, _⟩ := setO_get I ha
  refine call_len_set ho hex hd hf (by unfold scanBound at hb; omega) ⟨.int (n : Nat), H, I.tok _, ⟨_, by rw [hn]⟩, ?_⟩
  exact q (es.toList.map keyOf) nd (fun k => (hm k).symm) (by rw [List.length_map, Array.length_toList]; exact hn)
end V0
/-! comprehensions whose parts only read: what stands at each turn is told by its number -/
namespace V0
open PySem PySem.Spec PyProof.Rows L2
theorem range_filter_succ {p : Nat → Bool} {out : Nat → V} (i : Nat) : ((List.range (i + 1)).filter p).map out = ((List.range i).filter p).map out ++ (if p i = true then [out i] else []) := by
  rw [List.range_succ, List.filter_append, List.map_append, List.filter_cons]
  split <;> rfl
/-- [out(i) for each turn i if p(i)] -/
theorem lcP {J : It} {n : Nat} {G : Hp → Prop} {Y : Nat → Hp → V → Hp → Prop} (w : Walk J n G Y) {g : TG} {tt : TT} {te : TE} {vs : List Nat} {σ : L2.St} {H1 : Hp} {D : Addr} {Qd : Hp → Prop} (p : Nat → Bool) (out : Nat → V)
    (nD : H1 D = none) (few : n ≤ 1000000) (hG : ∀ Hz, Same H1 Hz → G Hz)
    (step : ∀ i x Hz Hz' (Q : VK) (N : Hp → Prop), i < n → Same H1 Hz → Y i Hz x Hz' → (p i = true → ∀ H4, Same Hz H4 → Q (out i) H4) → (p i = false → ∀ H4, Same Hz H4 → N H4) →
      g x (wipe σ vs) Hz' fun σ2 H2 => wipe σ2 vs = wipe σ vs ∧ tt σ2 H2 fun b H3 => if b = true then te σ2 H3 Q else N H3)
    (hd : ∀ H', Same H1 H' → H' D = some (.lst (((List.range n).filter p).map out)) → Qd H') :
    ∃ W : Nat → Nat → Hp → Prop, (∃ m, W 0 m (upd H1 D (.lst []))) ∧ ∀ i m H, W i m H →
      (J.stop i H ∧ Qd H) ∨ (J.go i H ∧ ∃ Nx : Hp → Prop, (∀ H', Nx H' → ∃ m', m' < m ∧ W (i + 1) m' H') ∧ ∀ x H', J.yld i H x H' → g x (wipe σ vs) H' fun σ2 H2 => wipe σ2 vs = wipe σ vs ∧ tt σ2 H2 fun b H3 =>
        if b = true then te σ2 H3 fun y H4 => ∃ acc, H4 D = some (.lst acc) ∧ acc.length < sizeLine ∧ Nx (upd H4 D (.lst (acc ++ [y]))) else Nx H3) := by
  refine lc_it w (fun i Hz => Same H1 Hz ∧ Hz D = some (.lst (((List.range i).filter p).map out))) ⟨same_new nD, upd_same⟩ (fun i Hz _ h => hG _ h.1) ?_ fun Hz h => hd Hz h.1 h.2
  rintro i x Hz H' hi ⟨sz, hZ⟩ y
  refine step i x Hz H' _ _ hi sz y (fun c H4 s4 => ⟨_, s4 _ _ hZ, ?_, same_mut (sz.trans s4) nD, ?_⟩) (fun c H4 s4 => ⟨sz.trans s4, ?_⟩)
  · rw [List.length_map]
    have h1 := List.length_filter_le p (List.range i)
    rw [List.length_range] at h1
    exact Nat.lt_of_le_of_lt (show _ ≤ 1000000 by omega) (by decide)
  · rw [upd_same, range_filter_succ, if_pos c]
  · rw [range_filter_succ, if_neg (by rw [c]; exact Bool.false_ne_true), List.append_nil]
    exact s4 _ _ hZ
/-- .. without a test -/
theorem lcA {J : It} {n : Nat} {G : Hp → Prop} {Y : Nat → Hp → V → Hp → Prop} (w : Walk J n G Y) {g : TG} {te : TE} {vs : List Nat} {σ : L2.St} {H1 : Hp} {D : Addr} {Qd : Hp → Prop} (out : Nat → V)
    (nD : H1 D = none) (few : n ≤ 1000000) (hG : ∀ Hz, Same H1 Hz → G Hz)
    (step : ∀ i x Hz Hz' (Q : VK), i < n → Same H1 Hz → Y i Hz x Hz' → (∀ H4, Same Hz H4 → Q (out i) H4) → g x (wipe σ vs) Hz' fun σ2 H2 => wipe σ2 vs = wipe σ vs ∧ te σ2 H2 Q)
    (hd : ∀ H', Same H1 H' → H' D = some (.lst ((List.range n).map out)) → Qd H') :
    ∃ W : Nat → Nat → Hp → Prop, (∃ m, W 0 m (upd H1 D (.lst []))) ∧ ∀ i m H, W i m H →
      (J.stop i H ∧ Qd H) ∨ (J.go i H ∧ ∃ Nx : Hp → Prop, (∀ H', Nx H' → ∃ m', m' < m ∧ W (i + 1) m' H') ∧ ∀ x H', J.yld i H x H' → g x (wipe σ vs) H' fun σ2 H2 => wipe σ2 vs = wipe σ vs ∧ tYes σ2 H2 fun b H3 =>
        if b = true then te σ2 H3 fun y H4 => ∃ acc, H4 D = some (.lst acc) ∧ acc.length < sizeLine ∧ Nx (upd H4 D (.lst (acc ++ [y]))) else Nx H3) := by
  refine lcP (tt := tYes) w (fun _ => true) out nD few hG (fun i x Hz Hz' Q N hi sz y q _ => ?_) fun H' s h => hd H' s (by rw [List.filter_eq_self.mpr (fun _ _ => rfl)] at h; exact h)
  have := step i x Hz Hz' Q hi sz y (q rfl)
  exact this
theorem range_map {α β : Type} {xs : List α} {f : Nat → β} {h : α → β} (e : ∀ i x, xs[i]? = some x → f i = h x) : (List.range xs.length).map f = xs.map h := by
  refine List.ext_getElem (by simp) fun i h1 h2 => ?_
  rw [List.getElem_map, List.getElem_range, List.getElem_map]
  exact e i _ (List.getElem?_eq_getElem _)
end V0
/-! sorted(a tuple of ints) -/
namespace V0
open PySem PySem.Spec PyProof.Rows L2
def rSortedTI (K : PySem.W.Frag) : List V → Hp → VK → Prop := fun vs H Q => ∃ (a : Addr) (ns : List Int), vs = [V.ref a] ∧ SqT K H a (ns.map V.int) ∧
  ∀ (ns' : List Int) (p : Addr), ns'.Perm ns → ns'.Pairwise (· ≤ ·) → H p = none → Q (.ref p) (upd H p (.lst (ns'.map V.int)))
theorem cr_sortedTI {X : Cx} : CallR X (.builtin "sorted") (rSortedTI X.K) := by
  intro pins s σ H vs us Q I r h
  obtain ⟨a, ns, rfl, ht, q⟩ := h
  obtain ⟨its, rv, ⟨o, ho, hcl, n, hd⟩, hz⟩ := I.tuple ht
  rw [Vals.ref1 r]
  have hi := rv.ints
  have hzl : its.length ≤ sizeLine := by rw [← rv.length]; exact hz
  refine Calls.call_function_entry kind_sorted plain_sorted entry_sorted (args_sorted1 _) ?_
  unfold Builtin.«sorted»
  refine wpAny_bind (m := checkCount "sorted" 1 1 _) (wpAny_pure ?_)
  refine wpAny_bind (PySem.wpAny_collect_seq (A := X.A.in1) a (.inr rfl) ho hcl hd (fun h1 k1 => ?_) (by simpa using hzl))
  refine wpAny_bind (wpAny_newList ?_ (by simpa using hzl))
  have e1 : its.toArray.toList = its := by simp
  rw [e1]
  have hoL : (h1.push (seqObj "list" its.toArray 0)).get? h1.objs.size = some (seqObj "list" its.toArray 0) := Heap.get?_push_size _ rfl
  refine wpAny_bind (wpAny_holding (wpAny_call_entry slot_list_sort ⟨_, hoL, rfl⟩ entry_list_sort (SrtO.list_sort_ord SrtO.swo_int hoL hzl (fun h2 => SrtO.ints_sortable hi h2) fun out g1 g2 => ⟨_, rfl, ?_⟩) (args_list_sort _)))
  obtain ⟨k2, a2, a1⟩ := SrtO.ints_out hi g1 g2
  obtain ⟨c, hc⟩ := sortedHeap_at (vs := its) (out := out.toArray) hoL
  have J : Inv X pins σ H { s with heap := h1 } := I.kept (t' := s.toks) k1
  have hlen : ((out.map SrtO.iv).map V.int).length ≤ sizeLine := by
    rw [List.length_map, a2.length_eq]
    rw [List.length_map] at hz
    exact hz
  refine wpAny_pure ⟨_, rfl, .ref h1.objs.size, _, J.laid (t' := s.toks) (a := h1.objs.size) (o := .lst ((out.map SrtO.iv).map V.int)) (fun b u e => ?_) (Nat.le_refl _) ⟨hlen, out, c, vals_of_ints k2, hc⟩, rfl, q _ _ a2 a1 (J.hok.fresh (Nat.le_refl _))⟩
  show (sortedHeap (h1.push (seqObj "list" its.toArray 0)) h1.objs.size its out.toArray).get? b = some u
  have lt := Heap.lt_size e
  rw [sortedHeap_old (Nat.ne_of_lt lt) (by rw [size_push']; exact Nat.lt_succ_of_lt lt)]
  exact Heap.get?_push_of_some _ e
end V0
/-! loops over lists and tuples, and tuples taken apart, while an exception is handled -/
namespace V0
open PySem PySem.Spec PyProof.Rows L2 L2H HotX
section
variable {prog : Program} {w : World} {A : Around} {E : Value → Shared → Prop} {s : Shared}
/-- what an iterator leaves at its end, seen from elsewhere -/
def Off (it : Addr) (h h' : Heap) : Prop := ∀ b o, b ≠ it → h.get? b = some o → h'.get? b = some o
theorem listIter_end_hot {it l x1 : Addr} {i : Nat} {arr : Array Value} {Q : Option Value → Shared → Prop} (hot : HotAt A x1 s.heap) (at_ : s.heap.IsListIter it l i) (lst : s.heap.IsList l arr) (out : arr[i]? = none)
    (told : ∀ h', Off it s.heap h' → Q none { s with heap := h' }) : wpAny (model prog w) A (pyNext (.ref it)) Q E s := by
  obtain ⟨hnd, o1, vs1, g1, d1, c1⟩ := hot
  obtain ⟨oi, gi, ci, di⟩ := id at_
  obtain ⟨ol, gl, _, nl, dl⟩ := lst
  have apart : x1 ≠ it := fun e => by
    rw [e, gi] at g1
    cases g1
    rw [di] at d1
    cases d1
    simp at c1
  unfold pyNext
  refine wpAny_bind (wpAny_attempt (wpAny_callSpecial?_slot (name := Str.ofString "__next__") at_.typeIs slot_listiter_next (wpAny_call_entry slot_listiter_next at_.typeIs entry_listiter_next ?_ (args_listiter_next _))))
  show wpAny _ _ (field (.ref it) 0 >>= _) _ _ s
  refine wpAny_bind (wpAny_field gi di (x := Value.ref l) rfl ?_)
  show wpAny _ _ (if (Value.ref l == Value.none) = true then _ else _) _ _ s
  rw [if_neg (by exact Bool.false_ne_true)]
  show wpAny _ _ (field (.ref it) 1 >>= _) _ _ s
  refine wpAny_bind (wpAny_field gi di (x := Value.int i 0) rfl ?_)
  show wpAny _ _ (seqItems? (.ref l) >>= _) _ _ s
  refine wpAny_bind (wpAny_seqItems gl dl ?_)
  simp only [Int.toNat_natCast, out]
  refine wpAny_bind (wpAny_rule (wpAny_bind (wpAny_setField gi di (by simp) ?_)))
  show wpAny _ _ (newExc (.type "StopIteration") [] >>= _) _ _ _
  refine wpAny_bind ?_
  simp only [newExc, newTuple]
  refine wpAny_bind (wpAny_newObj_type ?_ (by size_fits))
  refine wpAny_bind (m := firstArgMember _ _) (wpAny_of_eq (a := Value.none) (by first | rfl | (simp only [firstArgMember]; rfl)) ?_)
  refine wpAny_newObj_type ?_ (by size_fits)
  have keep : ∀ {b : Addr} {o : Obj}, b ≠ it → s.heap.get? b = some o → (s.heap.update it (Obj.mapFields fun x => x.setIfInBounds 0 Value.none)).get? b = some o := fun hb e => (Heap.get?_update_other _ _ (Ne.symm hb)).trans e
  have two := Heap.get?_push_of_some { cls := .type "tuple", data := .seq #[] } (keep apart g1)
  refine raiseNew_hot ⟨hnd, o1, vs1, Heap.get?_push_of_some _ two, d1, c1⟩ (Nat.ne_of_lt (Heap.lt_size two)) (Heap.get?_push_size _ rfl) rfl (by first | (simp; done) | (simp; omega) | (simp only [Array.size_append]; simp; omega)) ?_
  refine wpAny_bind (wpAny_isInstance (T := "StopIteration") (b := true) ⟨_, Heap.get?_update_self _ (Heap.get?_push_size _ rfl) rfl, rfl⟩ isSubtype_stop ?_)
  refine wpAny_pure (told _ fun b o hb e => ?_)
  have e2 := Heap.get?_push_of_some { cls := .type "tuple", data := .seq #[] } (keep hb e)
  exact (Heap.get?_update_other _ _ (Nat.ne_of_gt (Heap.lt_size e2))).trans (Heap.get?_push_of_some _ e2)
theorem tupIter_end_hot {it l x1 : Addr} {i : Nat} {arr : Array Value} {Q : Option Value → Shared → Prop} (hot : HotAt A x1 s.heap) (at_ : s.heap.IsTupleIter it l i) (tup : s.heap.IsTuple l arr) (out : arr[i]? = none)
    (told : ∀ h', Off it s.heap h' → Q none { s with heap := h' }) : wpAny (model prog w) A (pyNext (.ref it)) Q E s := by
  obtain ⟨hnd, o1, vs1, g1, d1, c1⟩ := hot
  obtain ⟨oi, gi, ci, di⟩ := id at_
  obtain ⟨ol, gl, _, nl, dl⟩ := tup
  have apart : x1 ≠ it := fun e => by
    rw [e, gi] at g1
    cases g1
    rw [di] at d1
    cases d1
    simp at c1
  unfold pyNext
  refine wpAny_bind (wpAny_attempt (wpAny_callSpecial?_slot (name := Str.ofString "__next__") at_.typeIs F.slot_tuple_iterator_next (wpAny_call_entry F.slot_tuple_iterator_next at_.typeIs F.entry_tuple_iterator_next ?_ (F.args_tuple_iterator_next_1 _))))
  show wpAny _ _ (field (.ref it) 0 >>= _) _ _ s
  refine wpAny_bind (wpAny_field gi di (x := Value.ref l) rfl ?_)
  show wpAny _ _ (if (Value.ref l == Value.none) = true then _ else _) _ _ s
  rw [if_neg (by exact Bool.false_ne_true)]
  show wpAny _ _ (field (.ref it) 1 >>= _) _ _ s
  refine wpAny_bind (wpAny_field gi di (x := Value.int i 0) rfl ?_)
  show wpAny _ _ (seqItems? (.ref l) >>= _) _ _ s
  refine wpAny_bind (wpAny_seqItems gl dl ?_)
  simp only [Int.toNat_natCast, out]
  refine wpAny_bind (wpAny_rule (wpAny_bind (wpAny_setField gi di (by simp) ?_)))
  show wpAny _ _ (newExc (.type "StopIteration") [] >>= _) _ _ _
  refine wpAny_bind ?_
  simp only [newExc, newTuple]
  refine wpAny_bind (wpAny_newObj_type ?_ (by size_fits))
  refine wpAny_bind (m := firstArgMember _ _) (wpAny_of_eq (a := Value.none) (by first | rfl | (simp only [firstArgMember]; rfl)) ?_)
  refine wpAny_newObj_type ?_ (by size_fits)
  have keep : ∀ {b : Addr} {o : Obj}, b ≠ it → s.heap.get? b = some o → (s.heap.update it (Obj.mapFields fun x => x.setIfInBounds 0 Value.none)).get? b = some o := fun hb e => (Heap.get?_update_other _ _ (Ne.symm hb)).trans e
  have two := Heap.get?_push_of_some { cls := .type "tuple", data := .seq #[] } (keep apart g1)
  refine raiseNew_hot ⟨hnd, o1, vs1, Heap.get?_push_of_some _ two, d1, c1⟩ (Nat.ne_of_lt (Heap.lt_size two)) (Heap.get?_push_size _ rfl) rfl (by first | (simp; done) | (simp; omega) | (simp only [Array.size_append]; simp; omega)) ?_
  refine wpAny_bind (wpAny_isInstance (T := "StopIteration") (b := true) ⟨_, Heap.get?_update_self _ (Heap.get?_push_size _ rfl) rfl, rfl⟩ isSubtype_stop ?_)
  refine wpAny_pure (told _ fun b o hb e => ?_)
  have e2 := Heap.get?_push_of_some { cls := .type "tuple", data := .seq #[] } (keep hb e)
  exact (Heap.get?_update_other _ _ (Nat.ne_of_gt (Heap.lt_size e2))).trans (Heap.get?_push_of_some _ e2)
/-- a tuple taken apart -/
theorem apart_hot {t x1 : Addr} {arr : Array Value} {Q : List Value → Shared → Prop} (hot : HotAt A x1 s.heap) (tup : IsTup s.heap t arr)
    (told : ∀ h', Off s.heap.objs.size s.heap h' → Q arr.toList { s with heap := h' }) : wpAny (model prog w) A (unpackItems (.ref t) arr.size none) Q E s := by
  obtain ⟨hnd, o1, vs1, g1, d1, c1⟩ := hot
  have below : t < s.heap.objs.size := by
    obtain ⟨o, ho, _⟩ := tup
    exact Heap.lt_size ho
  have tn : t ≠ s.heap.objs.size := Nat.ne_of_lt below
  have xn : x1 ≠ s.heap.objs.size := Nat.ne_of_lt (Heap.lt_size g1)
  unfold unpackItems
  refine wpAny_bind ?_
  unfold notIterableAtAll
  refine wpAny_bind (wpAny_specialOf tup.typeIs slot_tuple_iter.lookup (wpAny_pure ?_))
  simp only [Bool.false_eq_true, if_false]
  refine wpAny_bind (wpAny_holding (iter_tuple tup (wpAny_bind (wpAny_holding ?_))))
  refine draw_tuple tn arr.size 0 _ _ ⟨_, Heap.get?_push_size _ rfl, rfl, rfl⟩ (tup.push _) (by omega) fun h1 it1 same1 => ?_
  have whole : List.take arr.size (List.drop 0 arr.toList) = arr.toList := by
    rw [List.drop_zero]
    exact List.take_of_length_le (by simp)
  rw [whole, if_neg (by simp)]
  have tup1 : IsTup h1 t arr := (tup.push _).extBut same1.extBut tn
  have g2 : h1.get? x1 = some o1 := same1.extBut x1 o1 xn (Heap.get?_push_of_some _ g1)
  refine wpAny_bind (wpAny_holding (tupIter_end_hot (it := s.heap.objs.size) (i := 0 + arr.size) ⟨hnd, o1, vs1, g2, d1, c1⟩ it1 tup1 (by simp) fun h2 off => ?_))
  simp only [Option.isSome_none, Bool.false_eq_true, if_false]
  exact wpAny_pure (told h2 fun b o hb e => off b o hb (same1.extBut b o hb (Heap.get?_push_of_some _ e)))
end
theorem turn_listH {P : Program} {w : World} {K : PySem.W.Frag} {tg : Expr} (a it : Addr) : TurnH P w K tg (Itl K a) [it] it (fun i h => h.IsListIter it a i) where
  mem := (turn_list (P := P) (w := w) (K := K) (tg := tg) a it).mem
  obj := (turn_list (P := P) (w := w) (K := K) (tg := tg) a it).obj
  keep := (turn_list (P := P) (w := w) (K := K) (tg := tg) a it).keep
  item := by
    intro X hP hw hK _ i pins s σ H E I fits at_ going
    subst hP hw hK
    obtain ⟨xs, x, hq, hx⟩ := going
    obtain ⟨its, rv, pl, _⟩ := I.list hq
    obtain ⟨u, hu, ru⟩ := rv.get hx
    obtain ⟨k0, k1, k2, k3, k4, k5⟩ := fits it (by simp)
    refine wpAny_pyNext_list_item at_ pl.isList (x := u) (by simpa using hu) fun h' on sb => ?_
    have J : Inv X pins σ H { s with heap := h' } := I.turned (t' := s.toks) (fun b o hb e => (sb.2 b hb).trans e) k0 k1 k3 k4 k5
    obtain ⟨oi, gi, ci, di⟩ := id on
    refine ⟨u, rfl, go_of (s := { s with heap := h' }) gi ci di (by decide) ⟨x, H, J, ru, ⟨rfl, fun ys hy => ?_⟩, on, fun b hb => (fits b hb).1⟩⟩
    rw [I.list_inj hy hq]
    exact hx
  done := by
    intro X hP hw hK hc i pins s σ H E I fits at_ over
    subst hP hw hK
    obtain ⟨xs, hq, hx⟩ := over
    obtain ⟨its, rv, pl, _⟩ := I.list hq
    obtain ⟨k0, k1, k2, k3, k4, k5⟩ := fits it (by simp)
    have hl := rv.length
    obtain ⟨x1, hot⟩ := hc.at I
    exact listIter_end_hot hot at_ pl.isList (by simp; omega) fun h' off => ⟨rfl, I.turned (t' := s.toks) off k0 k1 k3 k4 k5⟩
  self := (turn_list (P := P) (w := w) (K := K) (tg := tg) a it).self
theorem turn_tupH {P : Program} {w : World} {K : PySem.W.Frag} {tg : Expr} (a it : Addr) : TurnH P w K tg (Itt K a) [it] it (fun i h => h.IsTupleIter it a i) where
  mem := (turn_tuple (P := P) (w := w) (K := K) (tg := tg) a it).mem
  obj := (turn_tuple (P := P) (w := w) (K := K) (tg := tg) a it).obj
  keep := (turn_tuple (P := P) (w := w) (K := K) (tg := tg) a it).keep
  item := by
    intro X hP hw hK _ i pins s σ H E I fits at_ going
    subst hP hw hK
    obtain ⟨xs, x, hq, hx⟩ := going
    obtain ⟨its, rv, pl, _⟩ := I.tuple hq
    obtain ⟨u, hu, ru⟩ := rv.get hx
    obtain ⟨k0, k1, k2, k3, k4, k5⟩ := fits it (by simp)
    refine wpAny_pyNext_tuple_item at_ (show s.heap.IsTuple a its.toArray from pl) (x := u) (by simpa using hu) fun h' on sb => ?_
    have J : Inv X pins σ H { s with heap := h' } := I.turned (t' := s.toks) (fun b o hb e => (sb.2 b hb).trans e) k0 k1 k3 k4 k5
    obtain ⟨oi, gi, ci, di⟩ := id on
    refine ⟨u, rfl, go_of (s := { s with heap := h' }) gi ci di (by decide) ⟨x, H, J, ru, ⟨rfl, fun ys hy => ?_⟩, on, fun b hb => (fits b hb).1⟩⟩
    rw [I.tuple_inj hy hq]
    exact hx
  done := by
    intro X hP hw hK hc i pins s σ H E I fits at_ over
    subst hP hw hK
    obtain ⟨xs, hq, hx⟩ := over
    obtain ⟨its, rv, pl, _⟩ := I.tuple hq
    obtain ⟨k0, k1, k2, k3, k4, k5⟩ := fits it (by simp)
    have hl := rv.length
    obtain ⟨x1, hot⟩ := hc.at I
    exact tupIter_end_hot hot at_ (show s.heap.IsTuple a its.toArray from pl) (by simp; omega) fun h' off => ⟨rfl, I.turned (t' := s.toks) off k0 k1 k3 k4 k5⟩
  self := (turn_tuple (P := P) (w := w) (K := K) (tg := tg) a it).self
section
variable {X : Cx} {tg : Expr}
theorem pi_listH {l : Expr} {tl : TE} (hl : PE X l tl) : PIH X tg l (iList X.K tl) := by
  refine ⟨fun pins s σ H R I h => thn (hl.run pins s σ H _ I h) fun v s1 ⟨x, H1, I1, r1, a, e, ⟨xs, hq⟩, q⟩ => ?_⟩
  subst e
  cases r1
  obtain ⟨its, rv, pl, _⟩ := I1.list hq
  refine wpAny_pyIter_list pl.isList ⟨s1.heap.objs.size, [s1.heap.objs.size], _, _, H1, rfl, I1.kept (t' := s1.toks) fun b o e => Heap.get?_push_of_some _ e, turn_listH a _, ⟨_, Heap.get?_push_size _ rfl, rfl, rfl⟩, fun b hb => ?_, q⟩
  obtain rfl : b = s1.heap.objs.size := by simpa using hb
  exact I1.fpOk (Nat.le_refl _) (I1.hok.fresh (Nat.le_refl _))
theorem pi_tupH {l : Expr} {tl : TE} (hl : PE X l tl) : PIH X tg l (iTup X.K tl) := by
  refine ⟨fun pins s σ H R I h => thn (hl.run pins s σ H _ I h) fun v s1 ⟨x, H1, I1, r1, a, e, ⟨xs, hq⟩, q⟩ => ?_⟩
  subst e
  cases r1
  obtain ⟨its, rv, pl, _⟩ := I1.tuple hq
  refine wpAny_pyIter_tuple (show s1.heap.IsTuple a its.toArray from pl) ⟨s1.heap.objs.size, [s1.heap.objs.size], _, _, H1, rfl, I1.kept (t' := s1.toks) fun b o e => Heap.get?_push_of_some _ e, turn_tupH a _, ⟨_, Heap.get?_push_size _ rfl, rfl, rfl⟩, fun b hb => ?_, q⟩
  obtain rfl : b = s1.heap.objs.size := by simpa using hb
  exact I1.fpOk (Nat.le_refl _) (I1.hok.fresh (Nat.le_refl _))
theorem pg_tupH {es : List Expr} {k : Nat} {t : TGs} {n : Nat} {pos : Pos} (hc : HotC X) (h : PGs X es t) (hn : (assignEach es X.env).length = n := by rfl) (hst : (assignEach es X.env).findIdx? (·.1) = none := by rfl) : PG X (.Tuple es k pos) (gTup X.K n t) := by
  refine ⟨fun pins s σ H v u Q I r ⟨a, xs, e, hq, hl, hw⟩ => ?_⟩
  subst e
  cases r
  obtain ⟨its, rv, tup, _⟩ := I.tuple hq
  obtain ⟨x1, hot⟩ := hc.at I
  have many : (assignEach es X.env).length = its.toArray.size := by simp [hn, ← hl, rv.length]
  rw [assign_Tuple]
  refine wpAny_bind (wpAny_standAt ?_)
  unfold unpack
  rw [many, hst]
  refine wpAny_bind (wpAny_holding (apart_hot hot tup fun h' off => ?_))
  have J : Inv X pins σ H { s with heap := h' } := I.kept (t' := s.toks) fun b o e => off b o (Nat.ne_of_lt (Heap.lt_size e)) e
  exact h.run pins _ σ H xs _ Q J (by simpa using rv) hw
end
end V0
/-! own errors with a field, over a base class over ValueError: made, raised, caught, asked, with defs called where they are handled -/
namespace V0
open PySem PySem.Spec PyProof.Rows L2
/-- Base.__init__(self, ..) of an own class over ValueError without an __init__ of its own -/
theorem pe_binit {X : Cx} {x : Str} {B : Addr} {mc : Value} {e : Expr} {es : List Expr} {ta : TA} {pn pa pc : Pos} {pl : Sem Bool} (hg : Gl X x) (hm : X.mg x = some (.ref B))
    (sp : PySem.W.specialIn X.K (.ref B) "__getattribute__" = some (some (.builtin "type.__getattribute__"))) (rd : PySem.W.readsIn X.K B mc = true)
    (fv : PySem.W.findCls X.K (.ref B) mc "__init__" = some (.val (.builtin "ValueError.__init__"))) (ha : PA X (e :: es) ta)
    (hev : eval (.Call (.Attribute (.Name x pn) "__init__" pa) (e :: es) [] pc) X.env =
      (eval (.Name x pn) X.env >>= fun ov => standAt pa.atName >>= fun _ => holding [ov] (getMethod ov "__init__" pl) >>= fun fx => callWith pc fx.1 fx.2 (backTo pc (starEach (e :: es) X.env)) (backToKw pc (keywordEach [] X.env))) := by rfl)
    (hdb : (x == ("__debug__" : Str)) = false := by decide) (hst : starEach (e :: es) X.env = (false, eval e X.env) :: starEach es X.env := by rfl) (hpl : (backTo pc (starEach es X.env)).any (·.1) = false := by rfl) :
    PE X (.Call (.Attribute (.Name x pn) "__init__" pa) (e :: es) [] pc) (tVeI X.K ta) := by
  constructor
  intro pins s σ H Q I h
  refine PySem.W.methodCall_KW (ld_glob I hg hm ?_ hdb) hev
  refine PySem.W.method_cls I.kIn sp (PySem.W.cls_value I.kIn rd fv rfl ?_)
  refine PyProof.Rows.callWith_method1 (thn (ha.run pc pins _ σ H _ (I.tok _) h) fun us s1 hh => ?_) hst hpl
  obtain ⟨vs, H1, I1, r1, a, C, ws, rfl, hl, T, ea, q⟩ := hh
  obtain ⟨u0, ur, rfl, ra, rr⟩ : ∃ u0 ur, us = u0 :: ur ∧ RelV (.ref a) u0 ∧ Vals ws ur := by
    cases r1 with
    | cons ra rr => exact ⟨_, _, rfl, ra, rr⟩
  obtain rfl : u0 = Value.ref a := ra
  have hz : ur.length ≤ sizeLine := by
    have e1 := rr.length
    rw [sizeLine_eq]
    omega
  exact oinit_ok T I1 ea hz fun s2 I2 => ⟨.non, H1, I2, rfl, q⟩
theorem exm_of {K : PySem.W.Frag} {A S : Addr} {b : Bool} (base : PySem.W.subIn K (.ref S) (.type "BaseException") = some true) (cls : PySem.W.isClsIn K S = true) (ty : PySem.W.typeIn K (.ref S) = some (.type "type")) (sub : PySem.W.subIn K (.ref A) (.ref S) = some b) : PySem.W.exmOne K (.ref A) (.ref S) = some b := by
  have c1 : (PySem.W.subIn K (.ref S) (.type "BaseException") == some true) = true := beq_iff_eq.mpr base
  have c2 : ((PySem.W.clsIn K S).isSome && PySem.W.typeIn K (.ref S) == some (.type "type")) = true := Bool.and_eq_true_iff.mpr ⟨cls, beq_iff_eq.mpr ty⟩
  unfold PySem.W.exmOne PySem.W.kitCls
  simp only [c1, if_true]
  exact (if_pos c2).trans sub
/-- an error class of the text, with its __init__ -/
structure Exc (K : PySem.W.Frag) (mg : Str → Option Value) (x : Str) (C fI : Addr) (fd : FuncData) (fld : Str) : Prop where
  m : mg x = some (.ref C)
  oex : OexC K C
  ini : PySem.W.findIn K (.ref C) "__init__" = some (some (.ref fI))
  ty : PySem.W.typeIn K (.ref fI) = some (.type "function")
  b : Binds K fd ["self", fld] []
  no : PySem.W.findIn K (.ref C) fld = some none
  xf : XfC K C
  cl : PySem.W.isClsIn K C = true
  sf : PySem.W.subIn K (.ref C) (.ref C) = some true
theorem Exc.exm {K : PySem.W.Frag} {mg : Str → Option Value} {x fld : Str} {C fI : Addr} {fd : FuncData} (X : Exc K mg x C fI fd fld) {D : Addr} {b : Bool} (h : PySem.W.subIn K (.ref D) (.ref C) = some b) : PySem.W.exmOne K (.ref D) (.ref C) = some b := exm_of X.oex.exC X.cl X.oex.tyC h
/-- the base class of the errors -/
structure ExcB (K : PySem.W.Frag) (mg : Str → Option Value) (x : Str) (B : Addr) (mc : Value) : Prop where
  m : mg x = some (.ref B)
  ga : PySem.W.specialIn K (.ref B) "__getattribute__" = some (some (.builtin "type.__getattribute__"))
  rd : PySem.W.readsIn K B mc = true
  vi : PySem.W.findCls K (.ref B) mc "__init__" = some (.val (.builtin "ValueError.__init__"))
/-- an error's __init__: its field is the text -/
def spExc (K : PySem.W.Frag) (fld : Str) : Sp := fun vs H Q _ => ∃ (a C : Addr) (z : Str), vs = [.ref a, .str z] ∧ OexC K C ∧ PySem.W.findIn K (.ref C) fld = some none ∧ H a = some (exo a C none) ∧ z.length ≤ 1000 ∧
  ∀ dx, H dx = none → dx ≠ a → Q .non (upd (upd H dx (exd dx [(fld, .str z)])) a (exo a C (some dx)))
theorem app_len (a b : Str) : (a ++ b).length = a.length + b.length := by
  show (a.cps ++ b.cps).size = a.cps.size + b.cps.size
  rw [Array.size_append]
theorem small2000 {n : Nat} (h : n ≤ 2000) : n ≤ sizeLine := Nat.le_trans h (by decide)
/-- what a raise of it leaves: its dict, new; all else as it was -/
theorem raised {K : PySem.W.Frag} {mg : Str → Option Value} {C fI : Addr} {fd : FuncData} {x fld z : Str} {H : Hp} {E : XK} (X : Exc K mg x C fI fd fld) (hz : z.length ≤ 1000)
    (q : ∀ d H', Same H H' → H' d = some (.xd [(fld, .str z)]) → E (.ref C) (some d) H') : ∀ a, H a = none → spExc K fld (.ref a :: ([.str z] ++ [])) (upd H a (exo a C none))
      (fun v H2 => v = .non ∧ ∃ (d : Addr) (fs : List (Str × V)), H2 a = some (exo a C (some d)) ∧ H2 d = some (exd d fs) ∧ H d = none ∧ E (.ref C) (some d) (upd (del H2 a) d (.xd fs))) (fun _ _ _ => False) := by
  intro a na
  refine ⟨a, C, z, rfl, X.oex, X.no, upd_same, hz, fun dx ndx ne => ?_⟩
  have nd : H dx = none := by
    rw [upd_ne ne] at ndx
    exact ndx
  refine ⟨rfl, dx, _, upd_same, by rw [upd_ne ne, upd_same], nd, q dx _ (fun b o e => ?_) upd_same⟩
  have nba : b ≠ a := ne_of_none e na
  have nbd : b ≠ dx := ne_of_none e nd
  rw [upd_ne nbd, del_ne nba, upd_ne nba, upd_ne nbd, upd_ne nba]
  exact e
section
variable {P : Program} {w : World} {K : PySem.W.Frag} {mg : Str → Option Value} {base : Heap}
/-- a def that may raise where nothing is handled -/
theorem okN {x qual : Str} {st : Stmt} {f : Addr} {fd : FuncData} {N ps : List Str} {k : Nat} {sp : Sp} (F : Fun K x qual st f fd) (S : FnScope N ps (defScope st)) (len : ∀ vs H Q E, sp vs H Q E → vs.length = ps.length)
    (walk : ∀ (cdv : Value) (A : Around) (outer : List Env) (s : Shared) (H : Hp) (vs : List V) (Q : VK) (E : XK), Room k (A.deeper (envOfC qual (defScope st) s.heap.objs.size f cdv)) → sp vs H Q E →
      ∃ t, PSs (cxOf (L2N.CX P w) P w K mg base N qual (defScope st) f cdv A outer s H E) (defBody st) t ∧ t { nx := fun _ H' => Q .non H', rt := Q } (L2.start N vs) H) : FnOk P w K mg base (L2N.CX P w) (k + 1) f fd ps sp := by
  obtain ⟨_, _, _, _, _, _, cdv, _, _, rfl, look, cod⟩ := F.ex
  exact fn_of look cod S len fun A outer s H vs Q E room told => walk cdv A outer s H vs Q E room told
/-- a def that is called where an error is handled -/
theorem okH {x qual : Str} {st : Stmt} {f : Addr} {fd : FuncData} {N ps : List Str} {k : Nat} {sp : Sp} (F : Fun K x qual st f fd) (S : FnScope N ps (defScope st)) (len : ∀ vs H Q E, sp vs H Q E → vs.length = ps.length)
    (walk : ∀ (cdv : Value) (A : Around) (outer : List Env) (s : Shared) (H : Hp) (vs : List V) (Q : VK) (E : XK) (p : Addr × Obj), L2H.HotC (L2H.cxH CX0 P w K mg base N qual (defScope st) f cdv A outer s H E p) → L2H.RoomH k (A.deeper (envOfC qual (defScope st) s.heap.objs.size f cdv)) → sp vs H Q E →
      ∃ t, PSs (L2H.cxH CX0 P w K mg base N qual (defScope st) f cdv A outer s H E p) (defBody st) t ∧ t { nx := fun _ H' => Q .non H', rt := Q } (L2.start N vs) H) : L2H.FnH P w K mg base CX0 (k + 1) f fd ps sp := by
  obtain ⟨_, _, _, _, _, _, cdv, _, _, rfl, look, cod⟩ := F.ex
  exact L2H.fn_ofH look cod S len fun A outer s H vs Q E p hot room told => walk cdv A outer s H vs Q E p ⟨p, hot, List.mem_cons_self⟩ room told
end
/-- C(e, ..) of such an error, made where nothing is handled -/
theorem pmk_oexN {X : Cx} {CX : CXT} {x : Str} {e : Expr} {es : List Expr} {ta : TA} {p pos : Pos} {C fI : Addr} {k : Nat} {fd : FuncData} {ps : List Str} {sp : Sp} (T : OexC X.K C) (ini : PySem.W.findIn X.K (.ref C) "__init__" = some (some (.ref fI))) (fty : PySem.W.typeIn X.K (.ref fI) = some (.type "function"))
    (G : FnOk X.prog X.w X.K X.mg X.base CX k fI fd ps sp) (room : Room (k + 1) X.A) (bi : Binds X.K fd ps []) (out : Passes CX X (fun _ _ _ => False)) (gl : Gl X x) (named : X.mg x = some (.ref C)) (args : PA X (e :: es) ta)
    (dbg : (x == ("__debug__" : Str)) = false := by decide) (one : starEach (e :: es) X.env = (false, eval e X.env) :: starEach es X.env := by rfl) (plain : (backTo pos (starEach es X.env)).any (·.1) = false := by rfl) :
    L2N.PMk X (.Call (.Name x p) (e :: es) [] pos) (tMkO C sp [] ta) := by
  intro pins s σ H Q I told
  obtain ⟨_, _, _, _, bm, _, _, _, _, _, _, _, _, _, _, there, ve⟩ := T.cls
  refine wpAny_Call_Name_kw (ld_glob I gl named ?_ dbg)
  refine PySem.W.callWith_K (h₀ := X.base) I.ok.mod.kin T.kC (thn (args.run pos pins s σ H _ I told) fun us s1 ⟨vs, H1, J, rv, _, want⟩ => ⟨J.kIn, ?_⟩) one plain
  show wpAny _ _ (call (.ref C) us) _ _ _
  obtain ⟨h1, gens, drawn, toks, os⟩ := s1
  have up : h1.objs.size ≤ h1.objs.size + 1 := Nat.le_succ _
  have asks := want (h1.objs.size + 1) (J.hok.fresh up)
  rw [List.append_nil] at asks
  have old : ∀ b o, h1.get? b = some o → ((h1.push (PySem.W.kdv_tup us)).push (PySem.HandSPX.excO C h1.objs.size)).get? b = some o := fun b o z => Heap.get?_push_of_some _ (Heap.get?_push_of_some _ z)
  have new_ : ((h1.push (PySem.W.kdv_tup us)).push (PySem.HandSPX.excO C h1.objs.size)).get? (h1.objs.size + 1) = some (PySem.HandSPX.excO C h1.objs.size) := by heap_get
  have J2 : Inv X pins σ (upd H1 (h1.objs.size + 1) (exo (h1.objs.size + 1) C none)) ⟨(h1.push (PySem.W.kdv_tup us)).push (PySem.HandSPX.excO C h1.objs.size), gens, drawn, toks, os⟩ :=
    J.laid (t' := toks) (a := h1.objs.size + 1) (o := exo (h1.objs.size + 1) C none) (h' := (h1.push (PySem.W.kdv_tup us)).push (PySem.HandSPX.excO C h1.objs.size)) old up (exo_ok new_)
  have rv2 : Vals (V.ref (h1.objs.size + 1) :: vs) (Value.ref (h1.objs.size + 1) :: us) := .cons rfl rv
  have many : (Value.ref (h1.objs.size + 1) :: us ++ []).length = ps.length := by
    have z := rv2.length
    rw [G.len _ _ _ _ asks] at z
    rw [List.append_nil]
    exact z.symm
  have few : us.length ≤ sizeLine := by
    have z := Paired.length rv
    rw [sizeLine_eq]
    omega
  have bound := bi _ (Value.ref (h1.objs.size + 1) :: us) J2.kIn many
  rw [List.append_nil] at bound
  refine wpAny_call (PySem.HandSPX.call_own F.excBase_ValueError (fun Y => PySem.HandSPX.refsVE_contains Y bm ve) (J.kIn _ _ there) (PySem.W.looks_findIn J.kIn ini) (fun self => PySem.W.bind_fn J.kIn self fty) few
    (codeAny_mono (G.run _ X.stack _ _ ⟨Value.ref (h1.objs.size + 1) :: us, []⟩ (Value.ref (h1.objs.size + 1) :: us) _ _ (fun _ _ _ => False) (room.make C us []) (J2.env0.make C us []) bound rv2 asks) fun r s' fin => ?_))
  match r, fin with
  | .error er, fin => exact out pins σ _ _ er s' J2 fin
  | .ok .next, fin => exact False.elim fin
  | .ok .brk, fin => exact False.elim fin
  | .ok .cont, fin => exact False.elim fin
  | .ok (.ret u), ⟨v, H2, os2, bare2, un2, hok2, rv', ev, d, fs, ea, ed, hd1, q2⟩ =>
    subst ev
    obtain ⟨h2, g2, d2, t2, os'⟩ := s'
    obtain ⟨_, G', J', kG, ge, hoe, na⟩ := mk_end0 (d2 := d2) (t2 := t2) J up old un2 hok2 os2 bare2 ea ed hd1
    refine ⟨rv', h1.objs.size + 1, _, _, ⟨G', g2, d2, t2, os'⟩, _, .ref C, some d, rfl, J', kG, ge, hoe, ⟨rfl, rfl, fun vs hv => ?_⟩, rfl, rfl, na, rfl, bare2, raises_own T.exC T.tyC, q2⟩
    cases hv
    rfl
/-- where a caught error is handled, defs can be called -/
theorem hot_suite {X : Cx} {a : Addr} {oe : Obj} {cls : Value} {d : Option Addr} {pn : List (Addr × Obj)} (hz : L2N.Zn cls d oe) (hf : ∃ vs, oe.data = .fields vs) : L2H.HotC (X.suite a ((a, oe) :: pn)) := by
  obtain ⟨vs, e⟩ := hf
  exact ⟨(a, oe), ⟨rfl, vs, e, hz.2.2 vs e⟩, List.mem_cons_self⟩
/-- isinstance(e, C), e the error that the suite holds, with its own dict -/
def rIsEx (K : PySem.W.Frag) (D a : Addr) (cls : Value) (d : Option Addr) : List V → Hp → VK → Prop := fun xs H Q => ∃ (c : V) (cv : Value) (b : Bool) (dd : Addr) (fs : List (Str × V)), xs = [.ref a, c] ∧ ClsV c cv ∧ cls = .ref D ∧ d = some dd ∧ H dd = some (.xd fs) ∧ PySem.W.kitOne K (.ref D) cv = some b ∧ Q (.bl b) H
/-- what such an error's class must say for isinstance -/
structure ExcI (K : PySem.W.Frag) (D : Addr) : Prop where
  xf : XfC K D
  cl : PySem.W.isClsIn K D = true
  ha : PySem.W.findIn K (.ref D) "__class__" = some (some (.builtin "object.__class__"))
  hn : PySem.W.specialIn K (.builtin "object.__class__") "__get__" = some (some (.builtin "getset_descriptor.__get__"))
  ht : PySem.W.takesIn K (.builtin "object.__class__") = some true
  hm : PySem.W.mroIn K D (.type "object") = some true
theorem call_isEx {X : Cx} {a D : Addr} {oe : Obj} {cls : Value} {d : Option Addr} {pn : List (Addr × Obj)} (C : ExcI X.K D) (hz : Zc cls d oe) (hf : ∃ vs, oe.data = .fields vs) : CallR (X.suite a ((a, oe) :: pn)) (.builtin "isinstance") (rIsEx X.K D a cls d) := by
  intro pins s σ H xs us Q I r told
  obtain ⟨c, cv, b, dd, fs, rfl, kc, rfl, rfl, hd, e, q⟩ := told
  obtain ⟨u1, u2, rfl, r1, r2⟩ := vals2 r
  obtain rfl := kc.eq r2
  obtain rfl : u1 = Value.ref a := r1
  obtain ⟨here, _⟩ := I.pin (a, oe) (List.mem_append_left _ List.mem_cons_self)
  obtain ⟨vs, hv⟩ := hf
  obtain ⟨mA, ns, _⟩ : ObjOk X.prog X.w H s.heap dd (.xd fs) := I.hok dd _ hd
  obtain ⟨od, ho, _⟩ := lookIn_ns ns
  have J : PySem.W.InstAt s.heap a oe D (some od) := ⟨here, hz.1, by unfold PySem.W.notCls; rw [hv] <;> rfl, by rw [hz.2]; exact ho⟩
  exact PySem.W.kia_one (PySem.W.kitx_exc C.cl C.xf.ga C.xf.gg C.xf.exC C.ha C.hn C.ht C.hm) I.kIn J e (fun z => nomatch z) fun tk => ⟨.bl b, H, I.kept (t' := tk) fun _ _ z => z, rfl, q⟩
/-- around a body nothing is let out -/
theorem takes0N {X : Cx} : L2N.Takes X (fun _ _ _ _ => False) := fun _ _ x => by
  obtain ⟨_, _, _, _, _, _, _, _, _, _, _, _, _, _, _, _, z⟩ := x
  exact z.elim
theorem kit_cls_own {K : PySem.W.Frag} {D B : Addr} {b : Bool} (cl : PySem.W.isClsIn K B = true) (ty : PySem.W.typeIn K (.ref B) = some (.type "type")) (ne : D ≠ B) (sub : PySem.W.subIn K (.ref D) (.ref B) = some b) : PySem.W.kitOne K (.ref D) (.ref B) = some b := by
  have c2 : ((PySem.W.clsIn K B).isSome && PySem.W.typeIn K (.ref B) == some (.type "type")) = true := Bool.and_eq_true_iff.mpr ⟨cl, beq_iff_eq.mpr ty⟩
  unfold PySem.W.kitOne PySem.W.kitCls
  rw [if_neg (fun z => ne (Value.ref.inj (beq_iff_eq.mp z)))]
  simp only [c2, if_true]
  exact sub
theorem kit_cls_ty {K : PySem.W.Frag} {D : Addr} {T : String} {b : Bool} (mt : PySem.W.kitMeta T = true) (sub : PySem.W.subIn K (.ref D) (.type T) = some b) : PySem.W.kitOne K (.ref D) (.type T) = some b := by
  unfold PySem.W.kitOne PySem.W.kitCls
  rw [if_neg (by intro z; cases beq_iff_eq.mp z)]
  simp only [mt, if_true]
  exact sub
theorem kit_cls_yes {K : PySem.W.Frag} {D B : Addr} (cl : PySem.W.isClsIn K B = true) (ty : PySem.W.typeIn K (.ref B) = some (.type "type")) (sub : PySem.W.subIn K (.ref D) (.ref B) = some true) : PySem.W.kitOne K (.ref D) (.ref B) = some true := by
  by_cases e : D = B
  · unfold PySem.W.kitOne
    rw [if_pos (beq_iff_eq.mpr (by rw [e]))]
  · exact kit_cls_own cl ty e sub
end V0
/-! own errors whose field is a whole number -/
namespace V0
open PySem PySem.Spec PyProof.Rows L2
/-- an error's __init__: its field is the number -/
def spExcI (K : PySem.W.Frag) (fld : Str) : Sp := fun vs H Q _ => ∃ (a C : Addr) (z : Nat), vs = [.ref a, .int (z : Nat)] ∧ OexC K C ∧ PySem.W.findIn K (.ref C) fld = some none ∧ H a = some (exo a C none) ∧ z < 10 ^ 12 ∧
  ∀ dx, H dx = none → dx ≠ a → Q .non (upd (upd H dx (exd dx [(fld, .int (z : Nat))])) a (exo a C (some dx)))
/-- what a raise of it leaves: its dict, new; all else as it was -/
theorem raisedI {K : PySem.W.Frag} {mg : Str → Option Value} {C fI : Addr} {fd : FuncData} {x fld : Str} {z : Nat} {H : Hp} {E : XK} (X : Exc K mg x C fI fd fld) (hz : z < 10 ^ 12)
    (q : ∀ d H', Same H H' → H' d = some (.xd [(fld, .int (z : Nat))]) → E (.ref C) (some d) H') : ∀ a, H a = none → spExcI K fld (.ref a :: ([.int (z : Nat)] ++ [])) (upd H a (exo a C none))
      (fun v H2 => v = .non ∧ ∃ (d : Addr) (fs : List (Str × V)), H2 a = some (exo a C (some d)) ∧ H2 d = some (exd d fs) ∧ H d = none ∧ E (.ref C) (some d) (upd (del H2 a) d (.xd fs))) (fun _ _ _ => False) := by
  intro a na
  refine ⟨a, C, z, rfl, X.oex, X.no, upd_same, hz, fun dx ndx ne => ?_⟩
  have nd : H dx = none := by
    rw [upd_ne ne] at ndx
    exact ndx
  refine ⟨rfl, dx, _, upd_same, by rw [upd_ne ne, upd_same], nd, q dx _ (fun b o e => ?_) upd_same⟩
  have nba : b ≠ a := ne_of_none e na
  have nbd : b ≠ dx := ne_of_none e nd
  rw [upd_ne nbd, del_ne nba, upd_ne nba, upd_ne nbd, upd_ne nba]
  exact e
theorem raisedJ {K : PySem.W.Frag} {mg : Str → Option Value} {C fI : Addr} {fd : FuncData} {x fld : Str} {v : Int} {z : Nat} {H : Hp} {E : XK} (X : Exc K mg x C fI fd fld) (e : v = (z : Nat)) (hz : z < 10 ^ 12)
    (q : ∀ d H', Same H H' → H' d = some (.xd [(fld, .int (z : Nat))]) → E (.ref C) (some d) H') : ∀ a, H a = none → spExcI K fld (.ref a :: ([.int v] ++ [])) (upd H a (exo a C none))
      (fun v H2 => v = .non ∧ ∃ (d : Addr) (fs : List (Str × V)), H2 a = some (exo a C (some d)) ∧ H2 d = some (exd d fs) ∧ H d = none ∧ E (.ref C) (some d) (upd (del H2 a) d (.xd fs))) (fun _ _ _ => False) := by
  subst e
  exact raisedI X hz q
end V0
/-! zip of two or three, lists and tuples in any mix (t: a tuple) -/
namespace V0
open PySem PySem.Spec PyProof.Rows L2 RZ
def SqK (t : Bool) (h : Heap) (a : Addr) (xs : Array Value) : Prop := match t with
  | true => h.IsTuple a xs
  | false => h.IsList a xs
def ItK (t : Bool) (h : Heap) (a l : Addr) (i : Nat) : Prop := match t with
  | true => h.IsTupleIter a l i
  | false => h.IsListIter a l i
def SqV (t : Bool) (K : PySem.W.Frag) (H : Hp) (a : Addr) (xs : List V) : Prop := match t with
  | true => SqT K H a xs
  | false => SqL K H a xs
def itO (t : Bool) (l : Addr) : Obj := match t with
  | true => { cls := .type "tuple_iterator", data := .fields #[.ref l, .int 0 0] }
  | false => { cls := .type "list_iterator", data := .fields #[.ref l, .int 0 0] }
abbrev IsTp (h : Heap) (T : Addr) (xs : Array Value) : Prop := h.get? T = some { cls := .type "tuple", data := .seq xs }
theorem SqK.extBut {t : Bool} {h h' : Heap} {a b : Addr} {xs : Array Value} (x : SqK t h a xs) (hs : Heap.ExtBut b h h') (n : a ≠ b) : SqK t h' a xs := by
  cases t
  · exact Heap.IsList.extBut x hs n
  · exact Heap.IsTuple.extBut x hs n
theorem SqK.push {t : Bool} {h : Heap} {a : Addr} {xs : Array Value} (x : SqK t h a xs) (o : Obj) : SqK t (h.push o) a xs := by
  cases t
  · exact Heap.IsList.push x o
  · exact Heap.IsTuple.push x o
theorem SqK.lt {t : Bool} {h : Heap} {a : Addr} {xs : Array Value} (x : SqK t h a xs) : a < h.objs.size := by
  cases t <;> (obtain ⟨o, ho, _⟩ := x; exact Heap.lt_size ho)
theorem ItK.extBut {t : Bool} {h h' : Heap} {a b l : Addr} {i : Nat} (x : ItK t h a l i) (hs : Heap.ExtBut b h h') (n : a ≠ b) : ItK t h' a l i := by
  cases t
  · exact Heap.IsListIter.extBut x hs n
  · exact Heap.IsTupleIter.extBut x hs n
theorem ItK.at {t : Bool} {h h' : Heap} {a l : Addr} {i : Nat} (x : ItK t h a l i) (e : ∀ o, h.get? a = some o → h'.get? a = some o) : ItK t h' a l i := by
  cases t
  · exact Heap.IsListIter.at x e
  · exact Heap.IsTupleIter.at x e
theorem ItK.lt {t : Bool} {h : Heap} {a l : Addr} {i : Nat} (x : ItK t h a l i) : a < h.objs.size := by
  cases t <;> (obtain ⟨o, ho, _⟩ := x; exact Heap.lt_size ho)
theorem ItK.obj {t : Bool} {h : Heap} {a l : Addr} {i : Nat} (x : ItK t h a l i) : ∃ o, h.get? a = some o ∧ ∀ v, o.data ≠ .cell v := by
  cases t <;> (obtain ⟨o, ho, _, d⟩ := x; exact ⟨o, ho, fun v q => by rw [d] at q; cases q⟩)
theorem itO_free (t : Bool) (l : Addr) : (itO t l).isFreed = false := by cases t <;> rfl
theorem itK_new {t : Bool} {h : Heap} {a l : Addr} (g : h.get? a = some (itO t l)) : ItK t h a l 0 := by
  cases t <;> exact ⟨_, g, rfl, rfl⟩
theorem _root_.L2.Inv.seqK {X : Cx} {pins : List (Addr × Obj)} {σ : L2.St} {H : Hp} {s : Shared} {t : Bool} {a : Addr} {xs : List V} (I : Inv X pins σ H s) (h : SqV t X.K H a xs) : ∃ its, Vals xs its ∧ SqK t s.heap a its.toArray := by
  cases t
  · obtain ⟨its, rv, p, _⟩ := I.list h
    exact ⟨its, rv, p.isList⟩
  · obtain ⟨its, rv, p, _⟩ := I.tuple h
    exact ⟨its, rv, show s.heap.IsTuple a its.toArray from p⟩
theorem _root_.L2.Inv.seqK_inj {X : Cx} {pins : List (Addr × Obj)} {σ : L2.St} {H : Hp} {s : Shared} {t : Bool} {a : Addr} {xs ys : List V} (I : Inv X pins σ H s) (h : SqV t X.K H a xs) (h' : SqV t X.K H a ys) : xs = ys := by
  cases t
  · exact I.list_inj h h'
  · exact I.tuple_inj h h'
section
variable {prog : Program} {w : World} {A : Around} {E : Value → Shared → Prop} {s : Shared}
theorem pyIterK {t : Bool} {l : Addr} {xs : Array Value} {Q : Value → Shared → Prop} (hl : SqK t s.heap l xs) (hQ : Q (.ref s.heap.objs.size) { s with heap := s.heap.push (itO t l) }) : wpAny (model prog w) A (pyIter (.ref l)) Q E s := by
  cases t
  · exact wpAny_pyIter_list hl hQ
  · exact wpAny_pyIter_tuple hl hQ
theorem nextOf_itemK {t : Bool} {it l : Addr} {i : Nat} {xs : Array Value} {x : Value} {Q : Value → Shared → Prop} (hit : ItK t s.heap it l i) (hl : SqK t s.heap l xs) (hx : xs[i]? = some x)
    (hQ : ∀ h', ItK t h' it l (i + 1) → Heap.SameBut it s.heap h' → Q x { s with heap := h' }) : wpAny (model prog w) A (Builtin.SmallTypes.nextOf (.ref it)) Q E s := by
  cases t
  · exact wpAny_nextOf_list_item hit hl hx hQ
  · exact nextOf_tuple_item hit hl hx hQ
theorem nextOf_endK {t : Bool} {it l : Addr} {i : Nat} {xs : Array Value} {Q : Value → Shared → Prop} (hh : A.handled = none) (hit : ItK t s.heap it l i) (hl : SqK t s.heap l xs) (hx : xs[i]? = none)
    (hE : ∀ h' e, Heap.ExtBut it s.heap h' → (∃ o, h'.get? e = some o ∧ o.cls = .type "StopIteration") → E (.ref e) { s with heap := h' }) : wpAny (model prog w) A (Builtin.SmallTypes.nextOf (.ref it)) Q E s := by
  cases t
  · exact wpAny_nextOf_list_end hh hit hl hx hE
  · exact nextOf_tuple_end hh hit hl hx hE
theorem wpAny_updateTp {T : Addr} {arr : Array Value} {x : Value} {k : Nat} {Q : Unit → Shared → Prop} (hT : IsTp s.heap T arr)
    (h : ∀ h', h'.get? T = some { cls := .type "tuple", data := .seq (arr.setIfInBounds k x) } → Heap.SameBut T s.heap h' → Q () { s with heap := h' }) (hz : arr.size ≤ sizeLine := by size_fits) :
    wpAny (model prog w) A (updateSeq T (·.setIfInBounds k x)) Q E s := by
  refine wpAny_updateSeq hT rfl (h _ ?_ (Heap.SameBut.update ..)) hz (by rw [Array.size_setIfInBounds]; omega)
  rw [Heap.get?_update_self _ hT rfl]
  simp [Obj.mapSeq]
structure Ap2 (z TI TO i1 i2 l1 l2 : Addr) : Prop where
  TIz : TI ≠ z
  TOz : TO ≠ z
  TITO : TI ≠ TO
  i1z : i1 ≠ z
  TIi1 : TI ≠ i1
  TOi1 : TO ≠ i1
  l1z : l1 ≠ z
  l1TO : l1 ≠ TO
  i2z : i2 ≠ z
  TIi2 : TI ≠ i2
  TOi2 : TO ≠ i2
  l2z : l2 ≠ z
  l2TO : l2 ≠ TO
  l1i1 : l1 ≠ i1
  l1i2 : l1 ≠ i2
  i1i2 : i1 ≠ i2
  l2i1 : l2 ≠ i1
  i2i1 : i2 ≠ i1
  l2i2 : l2 ≠ i2
theorem zip2_item {z TI TO i1 i2 l1 l2 : Addr} {t1 t2 : Bool} {k1 k2 : Nat} {xs1 xs2 : Array Value} {a1 a2 : Value} {x1 x2 : Value} {Q : Value → Shared → Prop} (D : Ap2 z TI TO i1 i2 l1 l2)
    (hz : IsZip s.heap z TI TO .none) (hTI : IsTp s.heap TI #[.ref i1, .ref i2]) (hTO : IsTp s.heap TO #[a1, a2])
    (h1 : ItK t1 s.heap i1 l1 k1) (h2 : ItK t2 s.heap i2 l2 k2) (hl1 : SqK t1 s.heap l1 xs1) (hl2 : SqK t2 s.heap l2 xs2) (hx1 : xs1[k1]? = some x1) (hx2 : xs2[k2]? = some x2)
    (hQ : ∀ h', IsZip h' z TI TO (rawInt s.heap.objs.size) → IsTp h' TO #[x1, x2] → ItK t1 h' i1 l1 (k1 + 1) → ItK t2 h' i2 l2 (k2 + 1) → IsTp h' s.heap.objs.size #[x1, x2] → h'.objs.size = s.heap.objs.size + 1 →
      (∀ c o, c ≠ z → c ≠ TO → c ≠ i1 → c ≠ i2 → s.heap.get? c = some o → h'.get? c = some o) → Q ((.ref s.heap.objs.size)) { s with heap := h' }) :
    wpAny (model prog w) A (Builtin.«zip.__next__» ⟨[.ref z], []⟩) (fun fin s' => ∃ v, fin = .done (.ret v) ∧ Q v s') E s := by
  show wpAny _ _ (field (.ref z) 2 >>= _) _ _ _
  refine wpAny_bind (wpAny_field hz rfl (x := .bool false) rfl ?_)
  show wpAny _ _ (field (.ref z) 3 >>= _) _ _ _
  refine wpAny_bind (wpAny_field hz rfl (x := .ref TI) rfl ?_)
  refine wpAny_bind (wpAny_seqItems hTI rfl ?_)
  show wpAny _ _ (Builtin.SmallTypes.ownedTupleIsFree (.ref z) >>= _) _ _ _
  refine wpAny_bind ?_
  unfold Builtin.SmallTypes.ownedTupleIsFree
  refine wpAny_bind (wpAny_field hz rfl (x := .none) rfl (wpAny_pure ?_))
  simp only [if_true]
  refine wpAny_bind (wpAny_rule ?_)
  refine wpAny_bind (wpAny_field hz rfl (x := .ref TO) rfl ?_)
  refine wpAny_bind (wpAny_setField_rec hz (by simp) fun g0 hz0 hs0 => ?_)
  replace hz0 : IsZip g0 z TI TO .ellipsis := hz0
  refine wpAny_bind ?_
  simp only [List.zipIdx_cons, List.zipIdx_nil, List.forIn_cons, List.forIn_nil]
  have hO0 := hs0.extBut _ _ D.TOz hTO
  have I10 := h1.extBut hs0.extBut D.i1z
  have I20 := h2.extBut hs0.extBut D.i2z
  have L10 := hl1.extBut hs0.extBut D.l1z
  have L20 := hl2.extBut hs0.extBut D.l2z
  have kp0 : ∀ c o, c ≠ z → c ≠ TO → c ≠ i1 → c ≠ i2 → s.heap.get? c = some o → g0.get? c = some o := fun c o c1 c2 d1 d2 e => hs0.extBut _ _ c1 e
  refine wpAny_bind (wpAny_bind (wpAny_onRaise ?_))
  show wpAny _ _ (Builtin.SmallTypes.nextOf (.ref i1) >>= _) _ _ _
  refine wpAny_bind (nextOf_itemK I10 L10 hx1 fun g1 I11 hs1 => wpAny_pure ?_)
  have hO1 := hs1.extBut _ _ D.TOi1 hO0
  have hz1 := hs1.extBut _ _ D.i1z.symm hz0
  have I21 := I20.extBut hs1.extBut D.i2i1
  have L11 := L10.extBut hs1.extBut D.l1i1
  have L21 := L20.extBut hs1.extBut D.l2i1
  have kp1 : ∀ c o, c ≠ z → c ≠ TO → c ≠ i1 → c ≠ i2 → s.heap.get? c = some o → g1.get? c = some o := fun c o c1 c2 d1 d2 e => hs1.extBut _ _ d1 (kp0 c o c1 c2 d1 d2 e)
  refine wpAny_bind (wpAny_seqItems hO1 rfl ?_)
  refine wpAny_bind (wpAny_updateTp hO1 fun g2 hO2 hs2 => ?_)
  replace hO2 : IsTp g2 TO #[x1, a2] := hO2
  refine wpAny_bind (wpAny_letGo (wpAny_pure ?_))
  have hz2 := hs2.extBut _ _ D.TOz.symm hz1
  have I12 := I11.extBut hs2.extBut D.TOi1.symm
  have I22 := I21.extBut hs2.extBut D.TOi2.symm
  have L12 := L11.extBut hs2.extBut D.l1TO
  have L22 := L21.extBut hs2.extBut D.l2TO
  have kp2 : ∀ c o, c ≠ z → c ≠ TO → c ≠ i1 → c ≠ i2 → s.heap.get? c = some o → g2.get? c = some o := fun c o c1 c2 d1 d2 e => hs2.extBut _ _ c2 (kp1 c o c1 c2 d1 d2 e)
  refine wpAny_bind (wpAny_bind (wpAny_onRaise ?_))
  show wpAny _ _ (Builtin.SmallTypes.nextOf (.ref i2) >>= _) _ _ _
  refine wpAny_bind (nextOf_itemK I22 L22 hx2 fun g3 I23 hs3 => wpAny_pure ?_)
  have hO3 := hs3.extBut _ _ D.TOi2 hO2
  have hz3 := hs3.extBut _ _ D.i2z.symm hz2
  have I13 := I12.extBut hs3.extBut D.i1i2
  have L13 := L12.extBut hs3.extBut D.l1i2
  have L23 := L22.extBut hs3.extBut D.l2i2
  have kp3 : ∀ c o, c ≠ z → c ≠ TO → c ≠ i1 → c ≠ i2 → s.heap.get? c = some o → g3.get? c = some o := fun c o c1 c2 d1 d2 e => hs3.extBut _ _ d2 (kp2 c o c1 c2 d1 d2 e)
  refine wpAny_bind (wpAny_seqItems hO3 rfl ?_)
  refine wpAny_bind (wpAny_updateTp hO3 fun g4 hO4 hs4 => ?_)
  replace hO4 : IsTp g4 TO #[x1, x2] := hO4
  refine wpAny_bind (wpAny_letGo (wpAny_pure (wpAny_pure ?_)))
  have hz4 := hs4.extBut _ _ D.TOz.symm hz3
  have I14 := I13.extBut hs4.extBut D.TOi1.symm
  have I24 := I23.extBut hs4.extBut D.TOi2.symm
  have L14 := L13.extBut hs4.extBut D.l1TO
  have L24 := L23.extBut hs4.extBut D.l2TO
  have kp4 : ∀ c o, c ≠ z → c ≠ TO → c ≠ i1 → c ≠ i2 → s.heap.get? c = some o → g4.get? c = some o := fun c o c1 c2 d1 d2 e => hs4.extBut _ _ c2 (kp3 c o c1 c2 d1 d2 e)
  refine wpAny_bind (wpAny_seqItems hO4 rfl ?_)
  refine wpAny_bind (wpAny_newTuple ?_)
  have hsz : g4.objs.size = s.heap.objs.size := by rw [hs4.1, hs3.1, hs2.1, hs1.1, hs0.1]
  have hzlt : z < g4.objs.size := Heap.lt_size hz4
  show wpAny _ _ (Builtin.SmallTypes.ownedTupleHandOut (.ref z) (.ref g4.objs.size) >>= _) _ _ _
  refine wpAny_bind ?_
  unfold Builtin.SmallTypes.ownedTupleHandOut
  have hzp : IsZip (g4.push { cls := .type "tuple", data := .seq #[x1, x2] }) z TI TO .ellipsis := Heap.get?_push_of_some _ hz4
  refine wpAny_bind (wpAny_setField_rec hzp (by simp) fun ha hza hsa => ?_)
  replace hza : IsZip ha z TI TO (rawInt g4.objs.size) := hza
  refine wpAny_setField_rec hza (by simp) fun hb hzb hsb => ?_
  replace hzb : IsZip hb z TI TO (rawInt g4.objs.size) := hzb
  have up : ∀ c o, c ≠ z → g4.get? c = some o → hb.get? c = some o := fun c o c1 e => hsb.extBut _ _ c1 (hsa.extBut _ _ c1 (Heap.get?_push_of_some _ e))
  have hTb : IsTp hb g4.objs.size #[x1, x2] := hsb.extBut _ _ (Nat.ne_of_gt hzlt) (hsa.extBut _ _ (Nat.ne_of_gt hzlt) (Heap.get?_push_size _ rfl))
  have szb : hb.objs.size = g4.objs.size + 1 := by rw [hsb.1, hsa.1, Heap.size_push]
  rw [hsz] at hzb hTb szb
  refine wpAny_pure ⟨_, rfl, ?_⟩
  show Q (.ref g4.objs.size) _
  rw [hsz]
  exact hQ hb hzb (up _ _ D.TOz hO4) (I14.at fun o e => up _ o D.i1z e) (I24.at fun o e => up _ o D.i2z e) hTb szb fun c o c1 c2 d1 d2 e => up c o c1 (kp4 c o c1 c2 d1 d2 e)
theorem zip2_end {z TI TO i1 i2 l1 l2 : Addr} {t1 t2 : Bool} {k1 k2 : Nat} {xs1 xs2 : Array Value} {a1 a2 : Value} {Q : Fin → Shared → Prop} (hh : A.handled = none) (D : Ap2 z TI TO i1 i2 l1 l2)
    (hz : IsZip s.heap z TI TO .none) (hTI : IsTp s.heap TI #[.ref i1, .ref i2]) (hTO : IsTp s.heap TO #[a1, a2])
    (h1 : ItK t1 s.heap i1 l1 k1) (h2 : ItK t2 s.heap i2 l2 k2) (hl1 : SqK t1 s.heap l1 xs1) (hl2 : SqK t2 s.heap l2 xs2) (hend : xs1[k1]? = none ∨ xs2[k2]? = none)
    (hE : ∀ h' e, (∀ c o, c ≠ z → c ≠ TO → c ≠ i1 → c ≠ i2 → s.heap.get? c = some o → h'.get? c = some o) → (∃ o, h'.get? e = some o ∧ o.cls = .type "StopIteration") → E (.ref e) { s with heap := h' }) :
    wpAny (model prog w) A (Builtin.«zip.__next__» ⟨[.ref z], []⟩) Q E s := by
  show wpAny _ _ (field (.ref z) 2 >>= _) _ _ _
  refine wpAny_bind (wpAny_field hz rfl (x := .bool false) rfl ?_)
  show wpAny _ _ (field (.ref z) 3 >>= _) _ _ _
  refine wpAny_bind (wpAny_field hz rfl (x := .ref TI) rfl ?_)
  refine wpAny_bind (wpAny_seqItems hTI rfl ?_)
  show wpAny _ _ (Builtin.SmallTypes.ownedTupleIsFree (.ref z) >>= _) _ _ _
  refine wpAny_bind ?_
  unfold Builtin.SmallTypes.ownedTupleIsFree
  refine wpAny_bind (wpAny_field hz rfl (x := .none) rfl (wpAny_pure ?_))
  simp only [if_true]
  refine wpAny_bind (wpAny_rule ?_)
  refine wpAny_bind (wpAny_field hz rfl (x := .ref TO) rfl ?_)
  refine wpAny_bind (wpAny_setField_rec hz (by simp) fun g0 hz0 hs0 => ?_)
  replace hz0 : IsZip g0 z TI TO .ellipsis := hz0
  refine wpAny_bind ?_
  simp only [List.zipIdx_cons, List.zipIdx_nil, List.forIn_cons, List.forIn_nil]
  have hO0 := hs0.extBut _ _ D.TOz hTO
  have I10 := h1.extBut hs0.extBut D.i1z
  have I20 := h2.extBut hs0.extBut D.i2z
  have L10 := hl1.extBut hs0.extBut D.l1z
  have L20 := hl2.extBut hs0.extBut D.l2z
  have kp0 : ∀ c o, c ≠ z → c ≠ TO → c ≠ i1 → c ≠ i2 → s.heap.get? c = some o → g0.get? c = some o := fun c o c1 c2 d1 d2 e => hs0.extBut _ _ c1 e
  cases hx1 : xs1[k1]? with
  | none =>
    refine wpAny_bind (wpAny_bind (wpAny_onRaise ?_))
    show wpAny _ _ (Builtin.SmallTypes.nextOf (.ref i1) >>= _) _ _ _
    refine wpAny_bind (nextOf_endK hh I10 L10 hx1 fun ga e hsA he => ?_)
    obtain ⟨oe, hoe, hce⟩ := he
    have hza : IsZip ga z TI TO .ellipsis := hsA _ _ D.i1z.symm hz0
    have hez : e ≠ z := fun x => by subst x; rw [hza] at hoe; cases hoe; simp at hce
    exact wpAny_setField_rec hza (by simp) fun gb _ hsb => hE gb e (fun c o c1 c2 d1 d2 x => hsb.extBut _ _ c1 (hsA _ _ d1 (kp0 c o c1 c2 d1 d2 x))) ⟨oe, hsb.extBut _ _ hez hoe, hce⟩
  | some x1 =>
    refine wpAny_bind (wpAny_bind (wpAny_onRaise ?_))
    show wpAny _ _ (Builtin.SmallTypes.nextOf (.ref i1) >>= _) _ _ _
    refine wpAny_bind (nextOf_itemK I10 L10 hx1 fun g1 I11 hs1 => wpAny_pure ?_)
    have hO1 := hs1.extBut _ _ D.TOi1 hO0
    have hz1 := hs1.extBut _ _ D.i1z.symm hz0
    have I21 := I20.extBut hs1.extBut D.i2i1
    have L11 := L10.extBut hs1.extBut D.l1i1
    have L21 := L20.extBut hs1.extBut D.l2i1
    have kp1 : ∀ c o, c ≠ z → c ≠ TO → c ≠ i1 → c ≠ i2 → s.heap.get? c = some o → g1.get? c = some o := fun c o c1 c2 d1 d2 e => hs1.extBut _ _ d1 (kp0 c o c1 c2 d1 d2 e)
    refine wpAny_bind (wpAny_seqItems hO1 rfl ?_)
    refine wpAny_bind (wpAny_updateTp hO1 fun g2 hO2 hs2 => ?_)
    replace hO2 : IsTp g2 TO #[x1, a2] := hO2
    refine wpAny_bind (wpAny_letGo (wpAny_pure ?_))
    have hz2 := hs2.extBut _ _ D.TOz.symm hz1
    have I12 := I11.extBut hs2.extBut D.TOi1.symm
    have I22 := I21.extBut hs2.extBut D.TOi2.symm
    have L12 := L11.extBut hs2.extBut D.l1TO
    have L22 := L21.extBut hs2.extBut D.l2TO
    have kp2 : ∀ c o, c ≠ z → c ≠ TO → c ≠ i1 → c ≠ i2 → s.heap.get? c = some o → g2.get? c = some o := fun c o c1 c2 d1 d2 e => hs2.extBut _ _ c2 (kp1 c o c1 c2 d1 d2 e)
    have hx2 : xs2[k2]? = none := by
      rcases hend with q | q
      · rw [hx1] at q; cases q
      · exact q
    refine wpAny_bind (wpAny_bind (wpAny_onRaise ?_))
    show wpAny _ _ (Builtin.SmallTypes.nextOf (.ref i2) >>= _) _ _ _
    refine wpAny_bind (nextOf_endK hh I22 L22 hx2 fun ga e hsA he => ?_)
    obtain ⟨oe, hoe, hce⟩ := he
    have hza : IsZip ga z TI TO .ellipsis := hsA _ _ D.i2z.symm hz2
    have hez : e ≠ z := fun x => by subst x; rw [hza] at hoe; cases hoe; simp at hce
    exact wpAny_setField_rec hza (by simp) fun gb _ hsb => hE gb e (fun c o c1 c2 d1 d2 x => hsb.extBut _ _ c1 (hsA _ _ d2 (kp2 c o c1 c2 d1 d2 x))) ⟨oe, hsb.extBut _ _ hez hoe, hce⟩
theorem pyNext_zip2_item {z TI TO i1 i2 l1 l2 : Addr} {t1 t2 : Bool} {k1 k2 : Nat} {xs1 xs2 : Array Value} {a1 a2 : Value} {x1 x2 : Value} {Q : Option Value → Shared → Prop} (D : Ap2 z TI TO i1 i2 l1 l2)
    (hz : IsZip s.heap z TI TO .none) (hTI : IsTp s.heap TI #[.ref i1, .ref i2]) (hTO : IsTp s.heap TO #[a1, a2])
    (h1 : ItK t1 s.heap i1 l1 k1) (h2 : ItK t2 s.heap i2 l2 k2) (hl1 : SqK t1 s.heap l1 xs1) (hl2 : SqK t2 s.heap l2 xs2) (hx1 : xs1[k1]? = some x1) (hx2 : xs2[k2]? = some x2)
    (hQ : ∀ h', IsZip h' z TI TO (rawInt s.heap.objs.size) → IsTp h' TO #[x1, x2] → ItK t1 h' i1 l1 (k1 + 1) → ItK t2 h' i2 l2 (k2 + 1) → IsTp h' s.heap.objs.size #[x1, x2] → h'.objs.size = s.heap.objs.size + 1 →
      (∀ c o, c ≠ z → c ≠ TO → c ≠ i1 → c ≠ i2 → s.heap.get? c = some o → h'.get? c = some o) → Q (some (.ref s.heap.objs.size)) { s with heap := h' }) : wpAny (model prog w) A (pyNext (.ref z)) Q E s := by
  have hT : s.TypeIs (.ref z) "zip" := ⟨_, hz, rfl⟩
  unfold pyNext
  exact wpAny_bind (wpAny_attempt (wpAny_callSpecial?_slot (name := Str.ofString "__next__") hT F.slot_zip_next (wpAny_call_entry F.slot_zip_next hT F.entry_zip_next (zip2_item D hz hTI hTO h1 h2 hl1 hl2 hx1 hx2 fun h' b0 b1 b2 b3 b4 b5 b6 => wpAny_pure (hQ h' b0 b1 b2 b3 b4 b5 b6)) (F.args_zip_next_1 _))))
theorem pyNext_zip2_end {z TI TO i1 i2 l1 l2 : Addr} {t1 t2 : Bool} {k1 k2 : Nat} {xs1 xs2 : Array Value} {a1 a2 : Value} {Q : Option Value → Shared → Prop} (hh : A.handled = none) (D : Ap2 z TI TO i1 i2 l1 l2)
    (hz : IsZip s.heap z TI TO .none) (hTI : IsTp s.heap TI #[.ref i1, .ref i2]) (hTO : IsTp s.heap TO #[a1, a2])
    (h1 : ItK t1 s.heap i1 l1 k1) (h2 : ItK t2 s.heap i2 l2 k2) (hl1 : SqK t1 s.heap l1 xs1) (hl2 : SqK t2 s.heap l2 xs2) (hend : xs1[k1]? = none ∨ xs2[k2]? = none)
    (hQ : ∀ h', (∀ c o, c ≠ z → c ≠ TO → c ≠ i1 → c ≠ i2 → s.heap.get? c = some o → h'.get? c = some o) → Q none { s with heap := h' }) : wpAny (model prog w) A (pyNext (.ref z)) Q E s := by
  have hT : s.TypeIs (.ref z) "zip" := ⟨_, hz, rfl⟩
  unfold pyNext
  refine wpAny_bind (wpAny_attempt (wpAny_callSpecial?_slot (name := Str.ofString "__next__") hT F.slot_zip_next (wpAny_call_entry F.slot_zip_next hT F.entry_zip_next (zip2_end hh D hz hTI hTO h1 h2 hl1 hl2 hend fun h' e hk he => ?_) (F.args_zip_next_1 _))))
  obtain ⟨o, ho, hc⟩ := he
  refine wpAny_bind (wpAny_isInstance (T := "StopIteration") (b := true) ⟨o, ho, hc⟩ isSubtype_stop ?_)
  exact wpAny_pure (hQ _ hk)
abbrev zq2_1 (h : Heap) (t1 : Bool) (l1 : Addr) : Heap := (h).push (itO t1 l1)
abbrev zq2_2 (h : Heap) (t1 t2 : Bool) (l1 l2 : Addr) : Heap := (zq2_1 h t1 l1).push (itO t2 l2)
abbrev zq2_I (h : Heap) (t1 t2 : Bool) (l1 l2 : Addr) : Heap := (zq2_2 h t1 t2 l1 l2).push { cls := .type "tuple", data := .seq #[.ref h.objs.size, .ref (zq2_1 h t1 l1).objs.size] }
abbrev zq2_O (h : Heap) (t1 t2 : Bool) (l1 l2 : Addr) : Heap := (zq2_I h t1 t2 l1 l2).push { cls := .type "tuple", data := .seq #[.none, .none] }
abbrev zq2_Z (h : Heap) (t1 t2 : Bool) (l1 l2 : Addr) : Heap := (zq2_O h t1 t2 l1 l2).push { cls := .type "zip", data := .fields #[.none, .bool false, .bool false, .ref (zq2_2 h t1 t2 l1 l2).objs.size, .ref (zq2_I h t1 t2 l1 l2).objs.size] }
theorem meets_zip2 (t1 t2 : Bool) (l1 l2 : Addr) (xs1 xs2 : Array Value) :
    Meets (Builtin.«zip.__new__» ⟨[.type "zip", .ref l1, .ref l2], []⟩) (fun _ R s => SqK t1 s.heap l1 xs1 ∧ SqK t2 s.heap l2 xs2 ∧ 
      R (.ok (.ret (.ref (zq2_O s.heap t1 t2 l1 l2).objs.size))) { s with heap := zq2_Z s.heap t1 t2 l1 l2 }) :=
  .of_wp fun prog w A R s h => by
    obtain ⟨hp, g, d, tk, os⟩ := s; obtain ⟨hl1, hl2, h⟩ := h
    have hsub := sub_zip
    have hL1 : SqK t1 (Shared.heap ⟨hp, g, d, tk, os⟩) l1 xs1 := hl1
    have hL2 : SqK t2 (Shared.heap ⟨zq2_1 hp t1 l1, g, d, tk, os⟩) l2 xs2 := (SqK.push hl2 _)
    wp_walk using pyIterK hL1, pyIterK hL2
    exact ⟨_, rfl, h⟩
theorem typeCall_zip2 (u1 u2 : Value) : checkTypeCall "zip" ⟨[u1, u2], []⟩ = pure () := by kernel_rfl
theorem newCall_zip2 (u1 u2 : Value) : checkBuiltinCall "zip.__new__" ⟨[.type "zip", u1, u2], []⟩ = pure () := by kernel_rfl
theorem args_oinit3 (v u1 u2 : Value) : argsOk "object.__init__" ⟨[v, u1, u2], []⟩ := by
  unfold argsOk; rw [signature?_of (id := "object.__init__") (n := ['_', '_', 't', 'i', 'n', 'i', '_', '_']) (o := ['t', 'c', 'e', 'j', 'b', 'o']) (by kernel_rfl) F.owner_object]; kernel_rfl
theorem call_zip2 {t1 t2 : Bool} {l1 l2 : Addr} {xs1 xs2 : Array Value} {Q : Value → Shared → Prop} (hl1 : SqK t1 s.heap l1 xs1) (hl2 : SqK t2 s.heap l2 xs2)
    (h : ∀ h', IsZip h' (s.heap.objs.size + 4) (s.heap.objs.size + 2) (s.heap.objs.size + 3) .none → IsTp h' (s.heap.objs.size + 2) #[.ref s.heap.objs.size, .ref (s.heap.objs.size + 1)] → IsTp h' (s.heap.objs.size + 3) #[.none, .none] → ItK t1 h' s.heap.objs.size l1 0 → ItK t2 h' (s.heap.objs.size + 1) l2 0 → h'.objs.size = s.heap.objs.size + 5 →
      (∀ c o, s.heap.get? c = some o → h'.get? c = some o) → Q (.ref (s.heap.objs.size + 4)) { s with heap := h' }) :
    wpAny (model prog w) A (call (.type "zip") [.ref l1, .ref l2]) Q E s := by
  refine callType_new F.called_zip (by decide) (typeCall_zip2 _ _) (newCall_zip2 _ _) (fun obj => args_oinit3 obj _ _) F.entry_zip_new
    (meets_zip2 t1 t2 l1 l2 xs1 xs2) ⟨hl1, hl2, ?_⟩
  have z1 : (zq2_1 s.heap t1 l1).objs.size = s.heap.objs.size + 1 := Heap.size_push ..
  have z2 : (zq2_2 s.heap t1 t2 l1 l2).objs.size = s.heap.objs.size + 2 := by rw [Heap.size_push, z1]
  have z3 : (zq2_I s.heap t1 t2 l1 l2).objs.size = s.heap.objs.size + 3 := by rw [Heap.size_push, z2]
  have z4 : (zq2_O s.heap t1 t2 l1 l2).objs.size = s.heap.objs.size + 4 := by rw [Heap.size_push, z3]
  have z5 : (zq2_Z s.heap t1 t2 l1 l2).objs.size = s.heap.objs.size + 5 := by rw [Heap.size_push, z4]
  have g5 : (zq2_Z s.heap t1 t2 l1 l2).get? (zq2_O s.heap t1 t2 l1 l2).objs.size = some _ := Heap.get?_push_size _ rfl
  have g4 : (zq2_Z s.heap t1 t2 l1 l2).get? (zq2_I s.heap t1 t2 l1 l2).objs.size = some _ := Heap.get?_push_of_some _ (Heap.get?_push_size _ rfl)
  have g3 : (zq2_Z s.heap t1 t2 l1 l2).get? (zq2_2 s.heap t1 t2 l1 l2).objs.size = some _ := Heap.get?_push_of_some _ (Heap.get?_push_of_some _ (Heap.get?_push_size _ rfl))
  have g2 : (zq2_Z s.heap t1 t2 l1 l2).get? (zq2_1 s.heap t1 l1).objs.size = some _ := Heap.get?_push_of_some _ (Heap.get?_push_of_some _ (Heap.get?_push_of_some _ (Heap.get?_push_size _ (itO_free _ _))))
  have g1 : (zq2_Z s.heap t1 t2 l1 l2).get? (s.heap).objs.size = some _ := Heap.get?_push_of_some _ (Heap.get?_push_of_some _ (Heap.get?_push_of_some _ (Heap.get?_push_of_some _ (Heap.get?_push_size _ (itO_free _ _)))))
  show _ ∧ _
  rw [z2, z3, z4] at g5
  rw [z1, z2] at g3
  rw [z3] at g4
  rw [z1] at g2
  rw [z4]
  exact ⟨⟨_, g5, rfl⟩, h _ g5 g3 g4 (itK_new g1) (itK_new g2) z5 fun c o x => Heap.get?_push_of_some _ (Heap.get?_push_of_some _ (Heap.get?_push_of_some _ (Heap.get?_push_of_some _ (Heap.get?_push_of_some _ (x)))))⟩
def Itz2 (K : PySem.W.Frag) (t1 t2 : Bool) (b1 b2 : Addr) : It :=
  ⟨fun i H => ∃ (ys1 ys2 : List V) (y1 y2 : V), SqV t1 K H b1 ys1 ∧ SqV t2 K H b2 ys2 ∧ ys1[i]? = some y1 ∧ ys2[i]? = some y2,
    fun i H v H' => ∃ T y1 y2, v = .ref T ∧ H T = none ∧ H' = upd H T (.tup [y1, y2]) ∧ (∀ ys, SqV t1 K H b1 ys → ys[i]? = some y1) ∧ (∀ ys, SqV t2 K H b2 ys → ys[i]? = some y2),
    fun i H => ∃ ys1 ys2 : List V, SqV t1 K H b1 ys1 ∧ SqV t2 K H b2 ys2 ∧ (ys1.length ≤ i ∨ ys2.length ≤ i)⟩
theorem turn_zip2 {P : Program} {w : World} {K : PySem.W.Frag} {elts : List Expr} {kk : Nat} {tpos : Pos} {t1 t2 : Bool} {b1 b2 z TI TO i1 i2 : Addr} (D : Ap2 z TI TO i1 i2 b1 b2) :
    Turn P w K (.Tuple elts kk tpos) (Itz2 K t1 t2 b1 b2) [z, TI, TO, i1, i2] z (fun i h => IsZip h z TI TO .none ∧ IsTp h TI #[.ref i1, .ref i2] ∧ (∃ u1 u2, IsTp h TO #[u1, u2]) ∧ ItK t1 h i1 b1 i ∧ ItK t2 h i2 b2 i) where
  mem := by simp
  obj := fun i h st c hc => by
    obtain ⟨hz, hTI, ⟨u1, u2, hTO⟩, h1, h2⟩ := st
    have e' : c = z ∨ c = TI ∨ c = TO ∨ c = i1 ∨ c = i2 := by simpa using hc
    rcases e' with q | q | q | q | q
    · rw [q]; exact ⟨_, hz, fun v q => nomatch q⟩
    · rw [q]; exact ⟨_, hTI, fun v q => nomatch q⟩
    · rw [q]; exact ⟨_, hTO, fun v q => nomatch q⟩
    · rw [q]; exact h1.obj
    · rw [q]; exact h2.obj
  keep := fun i h h' st k => by
    obtain ⟨hz, hTI, ⟨u1, u2, hTO⟩, h1, h2⟩ := st
    exact ⟨k z (by simp) _ hz, k TI (by simp) _ hTI, ⟨u1, u2, k TO (by simp) _ hTO⟩, h1.at fun o q => k i1 (by simp) o q, h2.at fun o q => k i2 (by simp) o q⟩
  item := by
    intro X hP hw hK hc i pins s σ H E I hf st hg
    subst hP hw hK
    obtain ⟨hz, hTI, ⟨u1, u2, hTO⟩, h1, h2⟩ := st
    obtain ⟨ys1, ys2, y1, y2, hq1, hq2, hy1, hy2⟩ := hg
    obtain ⟨its1, rv1, p1⟩ := I.seqK hq1
    obtain ⟨w1, hw1, rw1⟩ := rv1.get hy1
    obtain ⟨its2, rv2, p2⟩ := I.seqK hq2
    obtain ⟨w2, hw2, rw2⟩ := rv2.get hy2
    have hzl : z < s.heap.objs.size := Heap.lt_size hz
    refine pyNext_zip2_item D hz hTI hTO h1 h2 p1 p2 (x1 := w1) (x2 := w2) (by simpa using hw1) (by simpa using hw2) fun h' z' TO' n1 n2 hT hsz hk => ?_
    refine ⟨_, rfl, wpAny_letOwnedTupleGo_zip (s := { s with heap := h' }) z' fun h'' z'' sb => ?_⟩
    have hT2 : h''.get? s.heap.objs.size = some { cls := .type "tuple", data := .seq #[w1, w2] } := (sb.2 _ (Nat.ne_of_gt hzl)).trans hT
    have new : ObjOk X.prog X.w (upd H s.heap.objs.size (.tup [y1, y2])) h'' s.heap.objs.size (.tup [y1, y2]) :=
      ⟨by show 2 ≤ sizeLine; decide, [w1, w2], .cons rw1 (.cons rw2 (.nil)), ⟨_, hT2, rfl, _, rfl⟩⟩
    have I1 : Inv X pins σ (upd H s.heap.objs.size (.tup [y1, y2])) { s with heap := h'' } :=
      I.turnedNew (t' := s.toks) (ch := [z, TI, TO, i1, i2]) (fun c o hb q => (sb.2 c (fun q' => hb (by simp [q']))).trans (hk c o (fun q' => hb (by simp [q'])) (fun q' => hb (by simp [q'])) (fun q' => hb (by simp [q'])) (fun q' => hb (by simp [q'])) q)) hf (Nat.le_refl _) new
    refine ⟨.ref s.heap.objs.size, _, I1, rfl, ⟨_, y1, y2, rfl, I.hok.fresh (Nat.le_refl _), rfl, fun l hl => by rw [I.seqK_inj hl hq1]; exact hy1, fun l hl => by rw [I.seqK_inj hl hq2]; exact hy2⟩, ⟨z'', ?_, ⟨w1, w2, ?_⟩, ?_, ?_⟩, fun c hcm => ?_⟩
    · exact (sb.2 _ D.TIz).trans (hk _ _ D.TIz D.TITO D.TIi1 D.TIi2 hTI)
    · exact (sb.2 _ D.TOz).trans TO'
    · exact n1.at fun o q => (sb.2 _ D.i1z).trans q
    · exact n2.at fun o q => (sb.2 _ D.i2z).trans q
    · have hlt : c < s.heap.objs.size := by
        have e' : c = z ∨ c = TI ∨ c = TO ∨ c = i1 ∨ c = i2 := by simpa using hcm
        rcases e' with q | q | q | q | q
        · rw [q]; exact hzl
        · rw [q]; exact Heap.lt_size hTI
        · rw [q]; exact Heap.lt_size hTO
        · rw [q]; exact h1.lt
        · rw [q]; exact h2.lt
      rw [upd_ne (Nat.ne_of_lt hlt)]
      exact (hf c hcm).1
  done := by
    intro X hP hw hK hc i pins s σ H E I hf st hg
    subst hP hw hK
    obtain ⟨hz, hTI, ⟨u1, u2, hTO⟩, h1, h2⟩ := st
    obtain ⟨ys1, ys2, hq1, hq2, hend⟩ := hg
    obtain ⟨its1, rv1, p1⟩ := I.seqK hq1
    have len1 := rv1.length
    obtain ⟨its2, rv2, p2⟩ := I.seqK hq2
    have len2 := rv2.length
    have he : its1.toArray[i]? = none ∨ its2.toArray[i]? = none := by
      rcases hend with q | q
      · exact .inl (by simp; omega)
      · exact .inr ((by simp; omega))
    exact pyNext_zip2_end (I.ok.hd hc) D hz hTI hTO h1 h2 p1 p2 he fun h' hk => ⟨rfl, I.turnedL (t' := s.toks) (ch := [z, TI, TO, i1, i2]) (fun c o hb q => hk c o (fun q' => hb (by simp [q'])) (fun q' => hb (by simp [q'])) (fun q' => hb (by simp [q'])) (fun q' => hb (by simp [q'])) q) hf⟩
  self := fun A i s Q E st h => wpAny_pyIter_zip st.1 h
theorem ap2_new (I : Nat) {l1 : Nat} {l2 : Nat} (h1 : l1 < I) (h2 : l2 < I) : Ap2 (I + 4) (I + 2) (I + 3) I (I + 1) l1 l2 := by
  constructor <;> (refine PySem.W.neN ?_; omega)
theorem vals_refs2 {x1 x2 : V} {us : List Value} (h : Vals [x1, x2] us) : ∃ v1 v2, us = [v1, v2] ∧ RelV x1 v1 ∧ RelV x2 v2 := by
  cases h with
  | cons r1 h =>
    cases h with
    | cons r2 h =>
      cases h
      exact ⟨_, _, rfl, r1, r2⟩
def iZip2 (K : PySem.W.Frag) (ta : TA) : TI := fun σ H R => ta σ H fun vs H1 => ∃ (t1 t2 : Bool) (b1 b2 : Addr) (ys1 ys2 : List V), vs = [.ref b1, .ref b2] ∧ SqV t1 K H1 b1 ys1 ∧ SqV t2 K H1 b2 ys2 ∧ R (Itz2 K t1 t2 b1 b2) H1
theorem pi_zip2 {X : Cx} {e1 e2 : Expr} {ta : TA} {p pos tpos : Pos} {elts : List Expr} {kk : Nat} (hg : Gl X "zip") (hm : X.mg "zip" = none) (ha : PA X [e1, e2] ta)
    (hs1 : starEach [e1, e2] X.env = (false, eval e1 X.env) :: starEach [e2] X.env := by rfl) (hpl : (backTo pos (starEach [e2] X.env)).any (·.1) = false := by rfl) :
    PI X (.Tuple elts kk tpos) (.Call (.Name "zip" p) [e1, e2] [] pos) (iZip2 X.K ta) := by
  refine ⟨fun pins s σ H R I h => ?_⟩
  refine Call_ (ld_blt I hg hm PyProof.Rows.boot_zip (PyProof.Rows.callWith_type1 (thn (ha.run pos pins s σ H _ I h) fun us s1 ⟨vs, H1, I1, r1, q1⟩ => ?_) hs1 hpl))
  obtain ⟨t1, t2, b1, b2, ys1, ys2, ex, hq1, hq2, q⟩ := q1
  subst ex
  obtain ⟨v1, v2, rfl, r1_, r2_⟩ := vals_refs2 r1
  obtain rfl : v1 = Value.ref b1 := r1_
  obtain ⟨its1, rv1, p1⟩ := I1.seqK hq1
  obtain rfl : v2 = Value.ref b2 := r2_
  obtain ⟨its2, rv2, p2⟩ := I1.seqK hq2
  have lts : ∀ c, c ∈ [s1.heap.objs.size + 4, s1.heap.objs.size + 2, s1.heap.objs.size + 3, s1.heap.objs.size, s1.heap.objs.size + 1] → s1.heap.objs.size ≤ c := fun c hcm => by
    have e' : c = s1.heap.objs.size + 4 ∨ c = s1.heap.objs.size + 2 ∨ c = s1.heap.objs.size + 3 ∨ c = s1.heap.objs.size ∨ c = s1.heap.objs.size + 1 := by simpa using hcm
    rcases e' with z | z | z | z | z
    · rw [z]; exact Nat.le_add_right _ _
    · rw [z]; exact Nat.le_add_right _ _
    · rw [z]; exact Nat.le_add_right _ _
    · rw [z]; exact Nat.le_refl _
    · rw [z]; exact Nat.le_add_right _ _
  refine call_zip2 p1 p2 fun h' hz hTI hTO n1 n2 hsz hk => wpAny_pyIter_zip hz ?_
  have I2 : Inv X pins σ H1 { s1 with heap := h' } := I1.kept (t' := s1.toks) hk
  exact ⟨s1.heap.objs.size + 4, [s1.heap.objs.size + 4, s1.heap.objs.size + 2, s1.heap.objs.size + 3, s1.heap.objs.size, s1.heap.objs.size + 1], _, _, H1, rfl, I2, turn_zip2 (ap2_new s1.heap.objs.size p1.lt p2.lt), ⟨hz, hTI, ⟨_, _, hTO⟩, n1, n2⟩, fun c hcm => I1.fpOk (lts c hcm) (I1.hok.fresh (lts c hcm)), q⟩
structure Ap3 (z TI TO i1 i2 i3 l1 l2 l3 : Addr) : Prop where
  TIz : TI ≠ z
  TOz : TO ≠ z
  TITO : TI ≠ TO
  i1z : i1 ≠ z
  TIi1 : TI ≠ i1
  TOi1 : TO ≠ i1
  l1z : l1 ≠ z
  l1TO : l1 ≠ TO
  i2z : i2 ≠ z
  TIi2 : TI ≠ i2
  TOi2 : TO ≠ i2
  l2z : l2 ≠ z
  l2TO : l2 ≠ TO
  i3z : i3 ≠ z
  TIi3 : TI ≠ i3
  TOi3 : TO ≠ i3
  l3z : l3 ≠ z
  l3TO : l3 ≠ TO
  l1i1 : l1 ≠ i1
  l1i2 : l1 ≠ i2
  i1i2 : i1 ≠ i2
  l1i3 : l1 ≠ i3
  i1i3 : i1 ≠ i3
  l2i1 : l2 ≠ i1
  i2i1 : i2 ≠ i1
  l2i2 : l2 ≠ i2
  l2i3 : l2 ≠ i3
  i2i3 : i2 ≠ i3
  l3i1 : l3 ≠ i1
  i3i1 : i3 ≠ i1
  l3i2 : l3 ≠ i2
  i3i2 : i3 ≠ i2
  l3i3 : l3 ≠ i3
theorem zip3_item {z TI TO i1 i2 i3 l1 l2 l3 : Addr} {t1 t2 t3 : Bool} {k1 k2 k3 : Nat} {xs1 xs2 xs3 : Array Value} {a1 a2 a3 : Value} {x1 x2 x3 : Value} {Q : Value → Shared → Prop} (D : Ap3 z TI TO i1 i2 i3 l1 l2 l3)
    (hz : IsZip s.heap z TI TO .none) (hTI : IsTp s.heap TI #[.ref i1, .ref i2, .ref i3]) (hTO : IsTp s.heap TO #[a1, a2, a3])
    (h1 : ItK t1 s.heap i1 l1 k1) (h2 : ItK t2 s.heap i2 l2 k2) (h3 : ItK t3 s.heap i3 l3 k3) (hl1 : SqK t1 s.heap l1 xs1) (hl2 : SqK t2 s.heap l2 xs2) (hl3 : SqK t3 s.heap l3 xs3) (hx1 : xs1[k1]? = some x1) (hx2 : xs2[k2]? = some x2) (hx3 : xs3[k3]? = some x3)
    (hQ : ∀ h', IsZip h' z TI TO (rawInt s.heap.objs.size) → IsTp h' TO #[x1, x2, x3] → ItK t1 h' i1 l1 (k1 + 1) → ItK t2 h' i2 l2 (k2 + 1) → ItK t3 h' i3 l3 (k3 + 1) → IsTp h' s.heap.objs.size #[x1, x2, x3] → h'.objs.size = s.heap.objs.size + 1 →
      (∀ c o, c ≠ z → c ≠ TO → c ≠ i1 → c ≠ i2 → c ≠ i3 → s.heap.get? c = some o → h'.get? c = some o) → Q ((.ref s.heap.objs.size)) { s with heap := h' }) :
    wpAny (model prog w) A (Builtin.«zip.__next__» ⟨[.ref z], []⟩) (fun fin s' => ∃ v, fin = .done (.ret v) ∧ Q v s') E s := by
  show wpAny _ _ (field (.ref z) 2 >>= _) _ _ _
  refine wpAny_bind (wpAny_field hz rfl (x := .bool false) rfl ?_)
  show wpAny _ _ (field (.ref z) 3 >>= _) _ _ _
  refine wpAny_bind (wpAny_field hz rfl (x := .ref TI) rfl ?_)
  refine wpAny_bind (wpAny_seqItems hTI rfl ?_)
  show wpAny _ _ (Builtin.SmallTypes.ownedTupleIsFree (.ref z) >>= _) _ _ _
  refine wpAny_bind ?_
  unfold Builtin.SmallTypes.ownedTupleIsFree
  refine wpAny_bind (wpAny_field hz rfl (x := .none) rfl (wpAny_pure ?_))
  simp only [if_true]
  refine wpAny_bind (wpAny_rule ?_)
  refine wpAny_bind (wpAny_field hz rfl (x := .ref TO) rfl ?_)
  refine wpAny_bind (wpAny_setField_rec hz (by simp) fun g0 hz0 hs0 => ?_)
  replace hz0 : IsZip g0 z TI TO .ellipsis := hz0
  refine wpAny_bind ?_
  simp only [List.zipIdx_cons, List.zipIdx_nil, List.forIn_cons, List.forIn_nil]
  have hO0 := hs0.extBut _ _ D.TOz hTO
  have I10 := h1.extBut hs0.extBut D.i1z
  have I20 := h2.extBut hs0.extBut D.i2z
  have I30 := h3.extBut hs0.extBut D.i3z
  have L10 := hl1.extBut hs0.extBut D.l1z
  have L20 := hl2.extBut hs0.extBut D.l2z
  have L30 := hl3.extBut hs0.extBut D.l3z
  have kp0 : ∀ c o, c ≠ z → c ≠ TO → c ≠ i1 → c ≠ i2 → c ≠ i3 → s.heap.get? c = some o → g0.get? c = some o := fun c o c1 c2 d1 d2 d3 e => hs0.extBut _ _ c1 e
  refine wpAny_bind (wpAny_bind (wpAny_onRaise ?_))
  show wpAny _ _ (Builtin.SmallTypes.nextOf (.ref i1) >>= _) _ _ _
  refine wpAny_bind (nextOf_itemK I10 L10 hx1 fun g1 I11 hs1 => wpAny_pure ?_)
  have hO1 := hs1.extBut _ _ D.TOi1 hO0
  have hz1 := hs1.extBut _ _ D.i1z.symm hz0
  have I21 := I20.extBut hs1.extBut D.i2i1
  have I31 := I30.extBut hs1.extBut D.i3i1
  have L11 := L10.extBut hs1.extBut D.l1i1
  have L21 := L20.extBut hs1.extBut D.l2i1
  have L31 := L30.extBut hs1.extBut D.l3i1
  have kp1 : ∀ c o, c ≠ z → c ≠ TO → c ≠ i1 → c ≠ i2 → c ≠ i3 → s.heap.get? c = some o → g1.get? c = some o := fun c o c1 c2 d1 d2 d3 e => hs1.extBut _ _ d1 (kp0 c o c1 c2 d1 d2 d3 e)
  refine wpAny_bind (wpAny_seqItems hO1 rfl ?_)
  refine wpAny_bind (wpAny_updateTp hO1 fun g2 hO2 hs2 => ?_)
  replace hO2 : IsTp g2 TO #[x1, a2, a3] := hO2
  refine wpAny_bind (wpAny_letGo (wpAny_pure ?_))
  have hz2 := hs2.extBut _ _ D.TOz.symm hz1
  have I12 := I11.extBut hs2.extBut D.TOi1.symm
  have I22 := I21.extBut hs2.extBut D.TOi2.symm
  have I32 := I31.extBut hs2.extBut D.TOi3.symm
  have L12 := L11.extBut hs2.extBut D.l1TO
  have L22 := L21.extBut hs2.extBut D.l2TO
  have L32 := L31.extBut hs2.extBut D.l3TO
  have kp2 : ∀ c o, c ≠ z → c ≠ TO → c ≠ i1 → c ≠ i2 → c ≠ i3 → s.heap.get? c = some o → g2.get? c = some o := fun c o c1 c2 d1 d2 d3 e => hs2.extBut _ _ c2 (kp1 c o c1 c2 d1 d2 d3 e)
  refine wpAny_bind (wpAny_bind (wpAny_onRaise ?_))
  show wpAny _ _ (Builtin.SmallTypes.nextOf (.ref i2) >>= _) _ _ _
  refine wpAny_bind (nextOf_itemK I22 L22 hx2 fun g3 I23 hs3 => wpAny_pure ?_)
  have hO3 := hs3.extBut _ _ D.TOi2 hO2
  have hz3 := hs3.extBut _ _ D.i2z.symm hz2
  have I13 := I12.extBut hs3.extBut D.i1i2
  have I33 := I32.extBut hs3.extBut D.i3i2
  have L13 := L12.extBut hs3.extBut D.l1i2
  have L23 := L22.extBut hs3.extBut D.l2i2
  have L33 := L32.extBut hs3.extBut D.l3i2
  have kp3 : ∀ c o, c ≠ z → c ≠ TO → c ≠ i1 → c ≠ i2 → c ≠ i3 → s.heap.get? c = some o → g3.get? c = some o := fun c o c1 c2 d1 d2 d3 e => hs3.extBut _ _ d2 (kp2 c o c1 c2 d1 d2 d3 e)
  refine wpAny_bind (wpAny_seqItems hO3 rfl ?_)
  refine wpAny_bind (wpAny_updateTp hO3 fun g4 hO4 hs4 => ?_)
  replace hO4 : IsTp g4 TO #[x1, x2, a3] := hO4
  refine wpAny_bind (wpAny_letGo (wpAny_pure ?_))
  have hz4 := hs4.extBut _ _ D.TOz.symm hz3
  have I14 := I13.extBut hs4.extBut D.TOi1.symm
  have I24 := I23.extBut hs4.extBut D.TOi2.symm
  have I34 := I33.extBut hs4.extBut D.TOi3.symm
  have L14 := L13.extBut hs4.extBut D.l1TO
  have L24 := L23.extBut hs4.extBut D.l2TO
  have L34 := L33.extBut hs4.extBut D.l3TO
  have kp4 : ∀ c o, c ≠ z → c ≠ TO → c ≠ i1 → c ≠ i2 → c ≠ i3 → s.heap.get? c = some o → g4.get? c = some o := fun c o c1 c2 d1 d2 d3 e => hs4.extBut _ _ c2 (kp3 c o c1 c2 d1 d2 d3 e)
  refine wpAny_bind (wpAny_bind (wpAny_onRaise ?_))
  show wpAny _ _ (Builtin.SmallTypes.nextOf (.ref i3) >>= _) _ _ _
  refine wpAny_bind (nextOf_itemK I34 L34 hx3 fun g5 I35 hs5 => wpAny_pure ?_)
  have hO5 := hs5.extBut _ _ D.TOi3 hO4
  have hz5 := hs5.extBut _ _ D.i3z.symm hz4
  have I15 := I14.extBut hs5.extBut D.i1i3
  have I25 := I24.extBut hs5.extBut D.i2i3
  have L15 := L14.extBut hs5.extBut D.l1i3
  have L25 := L24.extBut hs5.extBut D.l2i3
  have L35 := L34.extBut hs5.extBut D.l3i3
  have kp5 : ∀ c o, c ≠ z → c ≠ TO → c ≠ i1 → c ≠ i2 → c ≠ i3 → s.heap.get? c = some o → g5.get? c = some o := fun c o c1 c2 d1 d2 d3 e => hs5.extBut _ _ d3 (kp4 c o c1 c2 d1 d2 d3 e)
  refine wpAny_bind (wpAny_seqItems hO5 rfl ?_)
  refine wpAny_bind (wpAny_updateTp hO5 fun g6 hO6 hs6 => ?_)
  replace hO6 : IsTp g6 TO #[x1, x2, x3] := hO6
  refine wpAny_bind (wpAny_letGo (wpAny_pure (wpAny_pure ?_)))
  have hz6 := hs6.extBut _ _ D.TOz.symm hz5
  have I16 := I15.extBut hs6.extBut D.TOi1.symm
  have I26 := I25.extBut hs6.extBut D.TOi2.symm
  have I36 := I35.extBut hs6.extBut D.TOi3.symm
  have L16 := L15.extBut hs6.extBut D.l1TO
  have L26 := L25.extBut hs6.extBut D.l2TO
  have L36 := L35.extBut hs6.extBut D.l3TO
  have kp6 : ∀ c o, c ≠ z → c ≠ TO → c ≠ i1 → c ≠ i2 → c ≠ i3 → s.heap.get? c = some o → g6.get? c = some o := fun c o c1 c2 d1 d2 d3 e => hs6.extBut _ _ c2 (kp5 c o c1 c2 d1 d2 d3 e)
  refine wpAny_bind (wpAny_seqItems hO6 rfl ?_)
  refine wpAny_bind (wpAny_newTuple ?_)
  have hsz : g6.objs.size = s.heap.objs.size := by rw [hs6.1, hs5.1, hs4.1, hs3.1, hs2.1, hs1.1, hs0.1]
  have hzlt : z < g6.objs.size := Heap.lt_size hz6
  show wpAny _ _ (Builtin.SmallTypes.ownedTupleHandOut (.ref z) (.ref g6.objs.size) >>= _) _ _ _
  refine wpAny_bind ?_
  unfold Builtin.SmallTypes.ownedTupleHandOut
  have hzp : IsZip (g6.push { cls := .type "tuple", data := .seq #[x1, x2, x3] }) z TI TO .ellipsis := Heap.get?_push_of_some _ hz6
  refine wpAny_bind (wpAny_setField_rec hzp (by simp) fun ha hza hsa => ?_)
  replace hza : IsZip ha z TI TO (rawInt g6.objs.size) := hza
  refine wpAny_setField_rec hza (by simp) fun hb hzb hsb => ?_
  replace hzb : IsZip hb z TI TO (rawInt g6.objs.size) := hzb
  have up : ∀ c o, c ≠ z → g6.get? c = some o → hb.get? c = some o := fun c o c1 e => hsb.extBut _ _ c1 (hsa.extBut _ _ c1 (Heap.get?_push_of_some _ e))
  have hTb : IsTp hb g6.objs.size #[x1, x2, x3] := hsb.extBut _ _ (Nat.ne_of_gt hzlt) (hsa.extBut _ _ (Nat.ne_of_gt hzlt) (Heap.get?_push_size _ rfl))
  have szb : hb.objs.size = g6.objs.size + 1 := by rw [hsb.1, hsa.1, Heap.size_push]
  rw [hsz] at hzb hTb szb
  refine wpAny_pure ⟨_, rfl, ?_⟩
  show Q (.ref g6.objs.size) _
  rw [hsz]
  exact hQ hb hzb (up _ _ D.TOz hO6) (I16.at fun o e => up _ o D.i1z e) (I26.at fun o e => up _ o D.i2z e) (I36.at fun o e => up _ o D.i3z e) hTb szb fun c o c1 c2 d1 d2 d3 e => up c o c1 (kp6 c o c1 c2 d1 d2 d3 e)
theorem zip3_end {z TI TO i1 i2 i3 l1 l2 l3 : Addr} {t1 t2 t3 : Bool} {k1 k2 k3 : Nat} {xs1 xs2 xs3 : Array Value} {a1 a2 a3 : Value} {Q : Fin → Shared → Prop} (hh : A.handled = none) (D : Ap3 z TI TO i1 i2 i3 l1 l2 l3)
    (hz : IsZip s.heap z TI TO .none) (hTI : IsTp s.heap TI #[.ref i1, .ref i2, .ref i3]) (hTO : IsTp s.heap TO #[a1, a2, a3])
    (h1 : ItK t1 s.heap i1 l1 k1) (h2 : ItK t2 s.heap i2 l2 k2) (h3 : ItK t3 s.heap i3 l3 k3) (hl1 : SqK t1 s.heap l1 xs1) (hl2 : SqK t2 s.heap l2 xs2) (hl3 : SqK t3 s.heap l3 xs3) (hend : xs1[k1]? = none ∨ xs2[k2]? = none ∨ xs3[k3]? = none)
    (hE : ∀ h' e, (∀ c o, c ≠ z → c ≠ TO → c ≠ i1 → c ≠ i2 → c ≠ i3 → s.heap.get? c = some o → h'.get? c = some o) → (∃ o, h'.get? e = some o ∧ o.cls = .type "StopIteration") → E (.ref e) { s with heap := h' }) :
    wpAny (model prog w) A (Builtin.«zip.__next__» ⟨[.ref z], []⟩) Q E s := by
  show wpAny _ _ (field (.ref z) 2 >>= _) _ _ _
  refine wpAny_bind (wpAny_field hz rfl (x := .bool false) rfl ?_)
  show wpAny _ _ (field (.ref z) 3 >>= _) _ _ _
  refine wpAny_bind (wpAny_field hz rfl (x := .ref TI) rfl ?_)
  refine wpAny_bind (wpAny_seqItems hTI rfl ?_)
  show wpAny _ _ (Builtin.SmallTypes.ownedTupleIsFree (.ref z) >>= _) _ _ _
  refine wpAny_bind ?_
  unfold Builtin.SmallTypes.ownedTupleIsFree
  refine wpAny_bind (wpAny_field hz rfl (x := .none) rfl (wpAny_pure ?_))
  simp only [if_true]
  refine wpAny_bind (wpAny_rule ?_)
  refine wpAny_bind (wpAny_field hz rfl (x := .ref TO) rfl ?_)
  refine wpAny_bind (wpAny_setField_rec hz (by simp) fun g0 hz0 hs0 => ?_)
  replace hz0 : IsZip g0 z TI TO .ellipsis := hz0
  refine wpAny_bind ?_
  simp only [List.zipIdx_cons, List.zipIdx_nil, List.forIn_cons, List.forIn_nil]
  have hO0 := hs0.extBut _ _ D.TOz hTO
  have I10 := h1.extBut hs0.extBut D.i1z
  have I20 := h2.extBut hs0.extBut D.i2z
  have I30 := h3.extBut hs0.extBut D.i3z
  have L10 := hl1.extBut hs0.extBut D.l1z
  have L20 := hl2.extBut hs0.extBut D.l2z
  have L30 := hl3.extBut hs0.extBut D.l3z
  have kp0 : ∀ c o, c ≠ z → c ≠ TO → c ≠ i1 → c ≠ i2 → c ≠ i3 → s.heap.get? c = some o → g0.get? c = some o := fun c o c1 c2 d1 d2 d3 e => hs0.extBut _ _ c1 e
  cases hx1 : xs1[k1]? with
  | none =>
    refine wpAny_bind (wpAny_bind (wpAny_onRaise ?_))
    show wpAny _ _ (Builtin.SmallTypes.nextOf (.ref i1) >>= _) _ _ _
    refine wpAny_bind (nextOf_endK hh I10 L10 hx1 fun ga e hsA he => ?_)
    obtain ⟨oe, hoe, hce⟩ := he
    have hza : IsZip ga z TI TO .ellipsis := hsA _ _ D.i1z.symm hz0
    have hez : e ≠ z := fun x => by subst x; rw [hza] at hoe; cases hoe; simp at hce
    exact wpAny_setField_rec hza (by simp) fun gb _ hsb => hE gb e (fun c o c1 c2 d1 d2 d3 x => hsb.extBut _ _ c1 (hsA _ _ d1 (kp0 c o c1 c2 d1 d2 d3 x))) ⟨oe, hsb.extBut _ _ hez hoe, hce⟩
  | some x1 =>
    refine wpAny_bind (wpAny_bind (wpAny_onRaise ?_))
    show wpAny _ _ (Builtin.SmallTypes.nextOf (.ref i1) >>= _) _ _ _
    refine wpAny_bind (nextOf_itemK I10 L10 hx1 fun g1 I11 hs1 => wpAny_pure ?_)
    have hO1 := hs1.extBut _ _ D.TOi1 hO0
    have hz1 := hs1.extBut _ _ D.i1z.symm hz0
    have I21 := I20.extBut hs1.extBut D.i2i1
    have I31 := I30.extBut hs1.extBut D.i3i1
    have L11 := L10.extBut hs1.extBut D.l1i1
    have L21 := L20.extBut hs1.extBut D.l2i1
    have L31 := L30.extBut hs1.extBut D.l3i1
    have kp1 : ∀ c o, c ≠ z → c ≠ TO → c ≠ i1 → c ≠ i2 → c ≠ i3 → s.heap.get? c = some o → g1.get? c = some o := fun c o c1 c2 d1 d2 d3 e => hs1.extBut _ _ d1 (kp0 c o c1 c2 d1 d2 d3 e)
    refine wpAny_bind (wpAny_seqItems hO1 rfl ?_)
    refine wpAny_bind (wpAny_updateTp hO1 fun g2 hO2 hs2 => ?_)
    replace hO2 : IsTp g2 TO #[x1, a2, a3] := hO2
    refine wpAny_bind (wpAny_letGo (wpAny_pure ?_))
    have hz2 := hs2.extBut _ _ D.TOz.symm hz1
    have I12 := I11.extBut hs2.extBut D.TOi1.symm
    have I22 := I21.extBut hs2.extBut D.TOi2.symm
    have I32 := I31.extBut hs2.extBut D.TOi3.symm
    have L12 := L11.extBut hs2.extBut D.l1TO
    have L22 := L21.extBut hs2.extBut D.l2TO
    have L32 := L31.extBut hs2.extBut D.l3TO
    have kp2 : ∀ c o, c ≠ z → c ≠ TO → c ≠ i1 → c ≠ i2 → c ≠ i3 → s.heap.get? c = some o → g2.get? c = some o := fun c o c1 c2 d1 d2 d3 e => hs2.extBut _ _ c2 (kp1 c o c1 c2 d1 d2 d3 e)
    cases hx2 : xs2[k2]? with
    | none =>
      refine wpAny_bind (wpAny_bind (wpAny_onRaise ?_))
      show wpAny _ _ (Builtin.SmallTypes.nextOf (.ref i2) >>= _) _ _ _
      refine wpAny_bind (nextOf_endK hh I22 L22 hx2 fun ga e hsA he => ?_)
      obtain ⟨oe, hoe, hce⟩ := he
      have hza : IsZip ga z TI TO .ellipsis := hsA _ _ D.i2z.symm hz2
      have hez : e ≠ z := fun x => by subst x; rw [hza] at hoe; cases hoe; simp at hce
      exact wpAny_setField_rec hza (by simp) fun gb _ hsb => hE gb e (fun c o c1 c2 d1 d2 d3 x => hsb.extBut _ _ c1 (hsA _ _ d2 (kp2 c o c1 c2 d1 d2 d3 x))) ⟨oe, hsb.extBut _ _ hez hoe, hce⟩
    | some x2 =>
      refine wpAny_bind (wpAny_bind (wpAny_onRaise ?_))
      show wpAny _ _ (Builtin.SmallTypes.nextOf (.ref i2) >>= _) _ _ _
      refine wpAny_bind (nextOf_itemK I22 L22 hx2 fun g3 I23 hs3 => wpAny_pure ?_)
      have hO3 := hs3.extBut _ _ D.TOi2 hO2
      have hz3 := hs3.extBut _ _ D.i2z.symm hz2
      have I13 := I12.extBut hs3.extBut D.i1i2
      have I33 := I32.extBut hs3.extBut D.i3i2
      have L13 := L12.extBut hs3.extBut D.l1i2
      have L23 := L22.extBut hs3.extBut D.l2i2
      have L33 := L32.extBut hs3.extBut D.l3i2
      have kp3 : ∀ c o, c ≠ z → c ≠ TO → c ≠ i1 → c ≠ i2 → c ≠ i3 → s.heap.get? c = some o → g3.get? c = some o := fun c o c1 c2 d1 d2 d3 e => hs3.extBut _ _ d2 (kp2 c o c1 c2 d1 d2 d3 e)
      refine wpAny_bind (wpAny_seqItems hO3 rfl ?_)
      refine wpAny_bind (wpAny_updateTp hO3 fun g4 hO4 hs4 => ?_)
      replace hO4 : IsTp g4 TO #[x1, x2, a3] := hO4
      refine wpAny_bind (wpAny_letGo (wpAny_pure ?_))
      have hz4 := hs4.extBut _ _ D.TOz.symm hz3
      have I14 := I13.extBut hs4.extBut D.TOi1.symm
      have I24 := I23.extBut hs4.extBut D.TOi2.symm
      have I34 := I33.extBut hs4.extBut D.TOi3.symm
      have L14 := L13.extBut hs4.extBut D.l1TO
      have L24 := L23.extBut hs4.extBut D.l2TO
      have L34 := L33.extBut hs4.extBut D.l3TO
      have kp4 : ∀ c o, c ≠ z → c ≠ TO → c ≠ i1 → c ≠ i2 → c ≠ i3 → s.heap.get? c = some o → g4.get? c = some o := fun c o c1 c2 d1 d2 d3 e => hs4.extBut _ _ c2 (kp3 c o c1 c2 d1 d2 d3 e)
      have hx3 : xs3[k3]? = none := by
        rcases hend with q | q | q
        · rw [hx1] at q; cases q
        · rw [hx2] at q; cases q
        · exact q
      refine wpAny_bind (wpAny_bind (wpAny_onRaise ?_))
      show wpAny _ _ (Builtin.SmallTypes.nextOf (.ref i3) >>= _) _ _ _
      refine wpAny_bind (nextOf_endK hh I34 L34 hx3 fun ga e hsA he => ?_)
      obtain ⟨oe, hoe, hce⟩ := he
      have hza : IsZip ga z TI TO .ellipsis := hsA _ _ D.i3z.symm hz4
      have hez : e ≠ z := fun x => by subst x; rw [hza] at hoe; cases hoe; simp at hce
      exact wpAny_setField_rec hza (by simp) fun gb _ hsb => hE gb e (fun c o c1 c2 d1 d2 d3 x => hsb.extBut _ _ c1 (hsA _ _ d3 (kp4 c o c1 c2 d1 d2 d3 x))) ⟨oe, hsb.extBut _ _ hez hoe, hce⟩
theorem pyNext_zip3_item {z TI TO i1 i2 i3 l1 l2 l3 : Addr} {t1 t2 t3 : Bool} {k1 k2 k3 : Nat} {xs1 xs2 xs3 : Array Value} {a1 a2 a3 : Value} {x1 x2 x3 : Value} {Q : Option Value → Shared → Prop} (D : Ap3 z TI TO i1 i2 i3 l1 l2 l3)
    (hz : IsZip s.heap z TI TO .none) (hTI : IsTp s.heap TI #[.ref i1, .ref i2, .ref i3]) (hTO : IsTp s.heap TO #[a1, a2, a3])
    (h1 : ItK t1 s.heap i1 l1 k1) (h2 : ItK t2 s.heap i2 l2 k2) (h3 : ItK t3 s.heap i3 l3 k3) (hl1 : SqK t1 s.heap l1 xs1) (hl2 : SqK t2 s.heap l2 xs2) (hl3 : SqK t3 s.heap l3 xs3) (hx1 : xs1[k1]? = some x1) (hx2 : xs2[k2]? = some x2) (hx3 : xs3[k3]? = some x3)
    (hQ : ∀ h', IsZip h' z TI TO (rawInt s.heap.objs.size) → IsTp h' TO #[x1, x2, x3] → ItK t1 h' i1 l1 (k1 + 1) → ItK t2 h' i2 l2 (k2 + 1) → ItK t3 h' i3 l3 (k3 + 1) → IsTp h' s.heap.objs.size #[x1, x2, x3] → h'.objs.size = s.heap.objs.size + 1 →
      (∀ c o, c ≠ z → c ≠ TO → c ≠ i1 → c ≠ i2 → c ≠ i3 → s.heap.get? c = some o → h'.get? c = some o) → Q (some (.ref s.heap.objs.size)) { s with heap := h' }) : wpAny (model prog w) A (pyNext (.ref z)) Q E s := by
  have hT : s.TypeIs (.ref z) "zip" := ⟨_, hz, rfl⟩
  unfold pyNext
  exact wpAny_bind (wpAny_attempt (wpAny_callSpecial?_slot (name := Str.ofString "__next__") hT F.slot_zip_next (wpAny_call_entry F.slot_zip_next hT F.entry_zip_next (zip3_item D hz hTI hTO h1 h2 h3 hl1 hl2 hl3 hx1 hx2 hx3 fun h' b0 b1 b2 b3 b4 b5 b6 b7 => wpAny_pure (hQ h' b0 b1 b2 b3 b4 b5 b6 b7)) (F.args_zip_next_1 _))))
theorem pyNext_zip3_end {z TI TO i1 i2 i3 l1 l2 l3 : Addr} {t1 t2 t3 : Bool} {k1 k2 k3 : Nat} {xs1 xs2 xs3 : Array Value} {a1 a2 a3 : Value} {Q : Option Value → Shared → Prop} (hh : A.handled = none) (D : Ap3 z TI TO i1 i2 i3 l1 l2 l3)
    (hz : IsZip s.heap z TI TO .none) (hTI : IsTp s.heap TI #[.ref i1, .ref i2, .ref i3]) (hTO : IsTp s.heap TO #[a1, a2, a3])
    (h1 : ItK t1 s.heap i1 l1 k1) (h2 : ItK t2 s.heap i2 l2 k2) (h3 : ItK t3 s.heap i3 l3 k3) (hl1 : SqK t1 s.heap l1 xs1) (hl2 : SqK t2 s.heap l2 xs2) (hl3 : SqK t3 s.heap l3 xs3) (hend : xs1[k1]? = none ∨ xs2[k2]? = none ∨ xs3[k3]? = none)
    (hQ : ∀ h', (∀ c o, c ≠ z → c ≠ TO → c ≠ i1 → c ≠ i2 → c ≠ i3 → s.heap.get? c = some o → h'.get? c = some o) → Q none { s with heap := h' }) : wpAny (model prog w) A (pyNext (.ref z)) Q E s := by
  have hT : s.TypeIs (.ref z) "zip" := ⟨_, hz, rfl⟩
  unfold pyNext
  refine wpAny_bind (wpAny_attempt (wpAny_callSpecial?_slot (name := Str.ofString "__next__") hT F.slot_zip_next (wpAny_call_entry F.slot_zip_next hT F.entry_zip_next (zip3_end hh D hz hTI hTO h1 h2 h3 hl1 hl2 hl3 hend fun h' e hk he => ?_) (F.args_zip_next_1 _))))
  obtain ⟨o, ho, hc⟩ := he
  refine wpAny_bind (wpAny_isInstance (T := "StopIteration") (b := true) ⟨o, ho, hc⟩ isSubtype_stop ?_)
  exact wpAny_pure (hQ _ hk)
abbrev zq3_1 (h : Heap) (t1 : Bool) (l1 : Addr) : Heap := (h).push (itO t1 l1)
abbrev zq3_2 (h : Heap) (t1 t2 : Bool) (l1 l2 : Addr) : Heap := (zq3_1 h t1 l1).push (itO t2 l2)
abbrev zq3_3 (h : Heap) (t1 t2 t3 : Bool) (l1 l2 l3 : Addr) : Heap := (zq3_2 h t1 t2 l1 l2).push (itO t3 l3)
abbrev zq3_I (h : Heap) (t1 t2 t3 : Bool) (l1 l2 l3 : Addr) : Heap := (zq3_3 h t1 t2 t3 l1 l2 l3).push { cls := .type "tuple", data := .seq #[.ref h.objs.size, .ref (zq3_1 h t1 l1).objs.size, .ref (zq3_2 h t1 t2 l1 l2).objs.size] }
abbrev zq3_O (h : Heap) (t1 t2 t3 : Bool) (l1 l2 l3 : Addr) : Heap := (zq3_I h t1 t2 t3 l1 l2 l3).push { cls := .type "tuple", data := .seq #[.none, .none, .none] }
abbrev zq3_Z (h : Heap) (t1 t2 t3 : Bool) (l1 l2 l3 : Addr) : Heap := (zq3_O h t1 t2 t3 l1 l2 l3).push { cls := .type "zip", data := .fields #[.none, .bool false, .bool false, .ref (zq3_3 h t1 t2 t3 l1 l2 l3).objs.size, .ref (zq3_I h t1 t2 t3 l1 l2 l3).objs.size] }
theorem meets_zip3 (t1 t2 t3 : Bool) (l1 l2 l3 : Addr) (xs1 xs2 xs3 : Array Value) :
    Meets (Builtin.«zip.__new__» ⟨[.type "zip", .ref l1, .ref l2, .ref l3], []⟩) (fun _ R s => SqK t1 s.heap l1 xs1 ∧ SqK t2 s.heap l2 xs2 ∧ SqK t3 s.heap l3 xs3 ∧ 
      R (.ok (.ret (.ref (zq3_O s.heap t1 t2 t3 l1 l2 l3).objs.size))) { s with heap := zq3_Z s.heap t1 t2 t3 l1 l2 l3 }) :=
  .of_wp fun prog w A R s h => by
    obtain ⟨hp, g, d, tk, os⟩ := s; obtain ⟨hl1, hl2, hl3, h⟩ := h
    have hsub := sub_zip
    have hL1 : SqK t1 (Shared.heap ⟨hp, g, d, tk, os⟩) l1 xs1 := hl1
    have hL2 : SqK t2 (Shared.heap ⟨zq3_1 hp t1 l1, g, d, tk, os⟩) l2 xs2 := (SqK.push hl2 _)
    have hL3 : SqK t3 (Shared.heap ⟨zq3_2 hp t1 t2 l1 l2, g, d, tk, os⟩) l3 xs3 := (SqK.push (SqK.push hl3 _) _)
    wp_walk using pyIterK hL1, pyIterK hL2, pyIterK hL3
    exact ⟨_, rfl, h⟩
theorem typeCall_zip3 (u1 u2 u3 : Value) : checkTypeCall "zip" ⟨[u1, u2, u3], []⟩ = pure () := by kernel_rfl
theorem newCall_zip3 (u1 u2 u3 : Value) : checkBuiltinCall "zip.__new__" ⟨[.type "zip", u1, u2, u3], []⟩ = pure () := by kernel_rfl
theorem args_oinit4 (v u1 u2 u3 : Value) : argsOk "object.__init__" ⟨[v, u1, u2, u3], []⟩ := by
  unfold argsOk; rw [signature?_of (id := "object.__init__") (n := ['_', '_', 't', 'i', 'n', 'i', '_', '_']) (o := ['t', 'c', 'e', 'j', 'b', 'o']) (by kernel_rfl) F.owner_object]; kernel_rfl
theorem call_zip3 {t1 t2 t3 : Bool} {l1 l2 l3 : Addr} {xs1 xs2 xs3 : Array Value} {Q : Value → Shared → Prop} (hl1 : SqK t1 s.heap l1 xs1) (hl2 : SqK t2 s.heap l2 xs2) (hl3 : SqK t3 s.heap l3 xs3)
    (h : ∀ h', IsZip h' (s.heap.objs.size + 5) (s.heap.objs.size + 3) (s.heap.objs.size + 4) .none → IsTp h' (s.heap.objs.size + 3) #[.ref s.heap.objs.size, .ref (s.heap.objs.size + 1), .ref (s.heap.objs.size + 2)] → IsTp h' (s.heap.objs.size + 4) #[.none, .none, .none] → ItK t1 h' s.heap.objs.size l1 0 → ItK t2 h' (s.heap.objs.size + 1) l2 0 → ItK t3 h' (s.heap.objs.size + 2) l3 0 → h'.objs.size = s.heap.objs.size + 6 →
      (∀ c o, s.heap.get? c = some o → h'.get? c = some o) → Q (.ref (s.heap.objs.size + 5)) { s with heap := h' }) :
    wpAny (model prog w) A (call (.type "zip") [.ref l1, .ref l2, .ref l3]) Q E s := by
  refine callType_new F.called_zip (by decide) (typeCall_zip3 _ _ _) (newCall_zip3 _ _ _) (fun obj => args_oinit4 obj _ _ _) F.entry_zip_new
    (meets_zip3 t1 t2 t3 l1 l2 l3 xs1 xs2 xs3) ⟨hl1, hl2, hl3, ?_⟩
  have z1 : (zq3_1 s.heap t1 l1).objs.size = s.heap.objs.size + 1 := Heap.size_push ..
  have z2 : (zq3_2 s.heap t1 t2 l1 l2).objs.size = s.heap.objs.size + 2 := by rw [Heap.size_push, z1]
  have z3 : (zq3_3 s.heap t1 t2 t3 l1 l2 l3).objs.size = s.heap.objs.size + 3 := by rw [Heap.size_push, z2]
  have z4 : (zq3_I s.heap t1 t2 t3 l1 l2 l3).objs.size = s.heap.objs.size + 4 := by rw [Heap.size_push, z3]
  have z5 : (zq3_O s.heap t1 t2 t3 l1 l2 l3).objs.size = s.heap.objs.size + 5 := by rw [Heap.size_push, z4]
  have z6 : (zq3_Z s.heap t1 t2 t3 l1 l2 l3).objs.size = s.heap.objs.size + 6 := by rw [Heap.size_push, z5]
  have g6 : (zq3_Z s.heap t1 t2 t3 l1 l2 l3).get? (zq3_O s.heap t1 t2 t3 l1 l2 l3).objs.size = some _ := Heap.get?_push_size _ rfl
  have g5 : (zq3_Z s.heap t1 t2 t3 l1 l2 l3).get? (zq3_I s.heap t1 t2 t3 l1 l2 l3).objs.size = some _ := Heap.get?_push_of_some _ (Heap.get?_push_size _ rfl)
  have g4 : (zq3_Z s.heap t1 t2 t3 l1 l2 l3).get? (zq3_3 s.heap t1 t2 t3 l1 l2 l3).objs.size = some _ := Heap.get?_push_of_some _ (Heap.get?_push_of_some _ (Heap.get?_push_size _ rfl))
  have g3 : (zq3_Z s.heap t1 t2 t3 l1 l2 l3).get? (zq3_2 s.heap t1 t2 l1 l2).objs.size = some _ := Heap.get?_push_of_some _ (Heap.get?_push_of_some _ (Heap.get?_push_of_some _ (Heap.get?_push_size _ (itO_free _ _))))
  have g2 : (zq3_Z s.heap t1 t2 t3 l1 l2 l3).get? (zq3_1 s.heap t1 l1).objs.size = some _ := Heap.get?_push_of_some _ (Heap.get?_push_of_some _ (Heap.get?_push_of_some _ (Heap.get?_push_of_some _ (Heap.get?_push_size _ (itO_free _ _)))))
  have g1 : (zq3_Z s.heap t1 t2 t3 l1 l2 l3).get? (s.heap).objs.size = some _ := Heap.get?_push_of_some _ (Heap.get?_push_of_some _ (Heap.get?_push_of_some _ (Heap.get?_push_of_some _ (Heap.get?_push_of_some _ (Heap.get?_push_size _ (itO_free _ _))))))
  show _ ∧ _
  rw [z3, z4, z5] at g6
  rw [z1, z2, z3] at g4
  rw [z4] at g5
  rw [z1] at g2
  rw [z2] at g3
  rw [z5]
  exact ⟨⟨_, g6, rfl⟩, h _ g6 g4 g5 (itK_new g1) (itK_new g2) (itK_new g3) z6 fun c o x => Heap.get?_push_of_some _ (Heap.get?_push_of_some _ (Heap.get?_push_of_some _ (Heap.get?_push_of_some _ (Heap.get?_push_of_some _ (Heap.get?_push_of_some _ (x))))))⟩
def Itz3 (K : PySem.W.Frag) (t1 t2 t3 : Bool) (b1 b2 b3 : Addr) : It :=
  ⟨fun i H => ∃ (ys1 ys2 ys3 : List V) (y1 y2 y3 : V), SqV t1 K H b1 ys1 ∧ SqV t2 K H b2 ys2 ∧ SqV t3 K H b3 ys3 ∧ ys1[i]? = some y1 ∧ ys2[i]? = some y2 ∧ ys3[i]? = some y3,
    fun i H v H' => ∃ T y1 y2 y3, v = .ref T ∧ H T = none ∧ H' = upd H T (.tup [y1, y2, y3]) ∧ (∀ ys, SqV t1 K H b1 ys → ys[i]? = some y1) ∧ (∀ ys, SqV t2 K H b2 ys → ys[i]? = some y2) ∧ (∀ ys, SqV t3 K H b3 ys → ys[i]? = some y3),
    fun i H => ∃ ys1 ys2 ys3 : List V, SqV t1 K H b1 ys1 ∧ SqV t2 K H b2 ys2 ∧ SqV t3 K H b3 ys3 ∧ (ys1.length ≤ i ∨ ys2.length ≤ i ∨ ys3.length ≤ i)⟩
theorem turn_zip3 {P : Program} {w : World} {K : PySem.W.Frag} {elts : List Expr} {kk : Nat} {tpos : Pos} {t1 t2 t3 : Bool} {b1 b2 b3 z TI TO i1 i2 i3 : Addr} (D : Ap3 z TI TO i1 i2 i3 b1 b2 b3) :
    Turn P w K (.Tuple elts kk tpos) (Itz3 K t1 t2 t3 b1 b2 b3) [z, TI, TO, i1, i2, i3] z (fun i h => IsZip h z TI TO .none ∧ IsTp h TI #[.ref i1, .ref i2, .ref i3] ∧ (∃ u1 u2 u3, IsTp h TO #[u1, u2, u3]) ∧ ItK t1 h i1 b1 i ∧ ItK t2 h i2 b2 i ∧ ItK t3 h i3 b3 i) where
  mem := by simp
  obj := fun i h st c hc => by
    obtain ⟨hz, hTI, ⟨u1, u2, u3, hTO⟩, h1, h2, h3⟩ := st
    have e' : c = z ∨ c = TI ∨ c = TO ∨ c = i1 ∨ c = i2 ∨ c = i3 := by simpa using hc
    rcases e' with q | q | q | q | q | q
    · rw [q]; exact ⟨_, hz, fun v q => nomatch q⟩
    · rw [q]; exact ⟨_, hTI, fun v q => nomatch q⟩
    · rw [q]; exact ⟨_, hTO, fun v q => nomatch q⟩
    · rw [q]; exact h1.obj
    · rw [q]; exact h2.obj
    · rw [q]; exact h3.obj
  keep := fun i h h' st k => by
    obtain ⟨hz, hTI, ⟨u1, u2, u3, hTO⟩, h1, h2, h3⟩ := st
    exact ⟨k z (by simp) _ hz, k TI (by simp) _ hTI, ⟨u1, u2, u3, k TO (by simp) _ hTO⟩, h1.at fun o q => k i1 (by simp) o q, h2.at fun o q => k i2 (by simp) o q, h3.at fun o q => k i3 (by simp) o q⟩
  item := by
    intro X hP hw hK hc i pins s σ H E I hf st hg
    subst hP hw hK
    obtain ⟨hz, hTI, ⟨u1, u2, u3, hTO⟩, h1, h2, h3⟩ := st
    obtain ⟨ys1, ys2, ys3, y1, y2, y3, hq1, hq2, hq3, hy1, hy2, hy3⟩ := hg
    obtain ⟨its1, rv1, p1⟩ := I.seqK hq1
    obtain ⟨w1, hw1, rw1⟩ := rv1.get hy1
    obtain ⟨its2, rv2, p2⟩ := I.seqK hq2
    obtain ⟨w2, hw2, rw2⟩ := rv2.get hy2
    obtain ⟨its3, rv3, p3⟩ := I.seqK hq3
    obtain ⟨w3, hw3, rw3⟩ := rv3.get hy3
    have hzl : z < s.heap.objs.size := Heap.lt_size hz
    refine pyNext_zip3_item D hz hTI hTO h1 h2 h3 p1 p2 p3 (x1 := w1) (x2 := w2) (x3 := w3) (by simpa using hw1) (by simpa using hw2) (by simpa using hw3) fun h' z' TO' n1 n2 n3 hT hsz hk => ?_
    refine ⟨_, rfl, wpAny_letOwnedTupleGo_zip (s := { s with heap := h' }) z' fun h'' z'' sb => ?_⟩
    have hT2 : h''.get? s.heap.objs.size = some { cls := .type "tuple", data := .seq #[w1, w2, w3] } := (sb.2 _ (Nat.ne_of_gt hzl)).trans hT
    have new : ObjOk X.prog X.w (upd H s.heap.objs.size (.tup [y1, y2, y3])) h'' s.heap.objs.size (.tup [y1, y2, y3]) :=
      ⟨by show 3 ≤ sizeLine; decide, [w1, w2, w3], .cons rw1 (.cons rw2 (.cons rw3 (.nil))), ⟨_, hT2, rfl, _, rfl⟩⟩
    have I1 : Inv X pins σ (upd H s.heap.objs.size (.tup [y1, y2, y3])) { s with heap := h'' } :=
      I.turnedNew (t' := s.toks) (ch := [z, TI, TO, i1, i2, i3]) (fun c o hb q => (sb.2 c (fun q' => hb (by simp [q']))).trans (hk c o (fun q' => hb (by simp [q'])) (fun q' => hb (by simp [q'])) (fun q' => hb (by simp [q'])) (fun q' => hb (by simp [q'])) (fun q' => hb (by simp [q'])) q)) hf (Nat.le_refl _) new
    refine ⟨.ref s.heap.objs.size, _, I1, rfl, ⟨_, y1, y2, y3, rfl, I.hok.fresh (Nat.le_refl _), rfl, fun l hl => by rw [I.seqK_inj hl hq1]; exact hy1, fun l hl => by rw [I.seqK_inj hl hq2]; exact hy2, fun l hl => by rw [I.seqK_inj hl hq3]; exact hy3⟩, ⟨z'', ?_, ⟨w1, w2, w3, ?_⟩, ?_, ?_, ?_⟩, fun c hcm => ?_⟩
    · exact (sb.2 _ D.TIz).trans (hk _ _ D.TIz D.TITO D.TIi1 D.TIi2 D.TIi3 hTI)
    · exact (sb.2 _ D.TOz).trans TO'
    · exact n1.at fun o q => (sb.2 _ D.i1z).trans q
    · exact n2.at fun o q => (sb.2 _ D.i2z).trans q
    · exact n3.at fun o q => (sb.2 _ D.i3z).trans q
    · have hlt : c < s.heap.objs.size := by
        have e' : c = z ∨ c = TI ∨ c = TO ∨ c = i1 ∨ c = i2 ∨ c = i3 := by simpa using hcm
        rcases e' with q | q | q | q | q | q
        · rw [q]; exact hzl
        · rw [q]; exact Heap.lt_size hTI
        · rw [q]; exact Heap.lt_size hTO
        · rw [q]; exact h1.lt
        · rw [q]; exact h2.lt
        · rw [q]; exact h3.lt
      rw [upd_ne (Nat.ne_of_lt hlt)]
      exact (hf c hcm).1
  done := by
    intro X hP hw hK hc i pins s σ H E I hf st hg
    subst hP hw hK
    obtain ⟨hz, hTI, ⟨u1, u2, u3, hTO⟩, h1, h2, h3⟩ := st
    obtain ⟨ys1, ys2, ys3, hq1, hq2, hq3, hend⟩ := hg
    obtain ⟨its1, rv1, p1⟩ := I.seqK hq1
    have len1 := rv1.length
    obtain ⟨its2, rv2, p2⟩ := I.seqK hq2
    have len2 := rv2.length
    obtain ⟨its3, rv3, p3⟩ := I.seqK hq3
    have len3 := rv3.length
    have he : its1.toArray[i]? = none ∨ its2.toArray[i]? = none ∨ its3.toArray[i]? = none := by
      rcases hend with q | q | q
      · exact .inl (by simp; omega)
      · exact .inr (.inl (by simp; omega))
      · exact .inr (.inr ((by simp; omega)))
    exact pyNext_zip3_end (I.ok.hd hc) D hz hTI hTO h1 h2 h3 p1 p2 p3 he fun h' hk => ⟨rfl, I.turnedL (t' := s.toks) (ch := [z, TI, TO, i1, i2, i3]) (fun c o hb q => hk c o (fun q' => hb (by simp [q'])) (fun q' => hb (by simp [q'])) (fun q' => hb (by simp [q'])) (fun q' => hb (by simp [q'])) (fun q' => hb (by simp [q'])) q) hf⟩
  self := fun A i s Q E st h => wpAny_pyIter_zip st.1 h
theorem ap3_new (I : Nat) {l1 : Nat} {l2 : Nat} {l3 : Nat} (h1 : l1 < I) (h2 : l2 < I) (h3 : l3 < I) : Ap3 (I + 5) (I + 3) (I + 4) I (I + 1) (I + 2) l1 l2 l3 := by
  constructor <;> (refine PySem.W.neN ?_; omega)
theorem vals_refs3 {x1 x2 x3 : V} {us : List Value} (h : Vals [x1, x2, x3] us) : ∃ v1 v2 v3, us = [v1, v2, v3] ∧ RelV x1 v1 ∧ RelV x2 v2 ∧ RelV x3 v3 := by
  cases h with
  | cons r1 h =>
    cases h with
    | cons r2 h =>
      cases h with
      | cons r3 h =>
        cases h
        exact ⟨_, _, _, rfl, r1, r2, r3⟩
def iZip3 (K : PySem.W.Frag) (ta : TA) : TI := fun σ H R => ta σ H fun vs H1 => ∃ (t1 t2 t3 : Bool) (b1 b2 b3 : Addr) (ys1 ys2 ys3 : List V), vs = [.ref b1, .ref b2, .ref b3] ∧ SqV t1 K H1 b1 ys1 ∧ SqV t2 K H1 b2 ys2 ∧ SqV t3 K H1 b3 ys3 ∧ R (Itz3 K t1 t2 t3 b1 b2 b3) H1
theorem pi_zip3 {X : Cx} {e1 e2 e3 : Expr} {ta : TA} {p pos tpos : Pos} {elts : List Expr} {kk : Nat} (hg : Gl X "zip") (hm : X.mg "zip" = none) (ha : PA X [e1, e2, e3] ta)
    (hs1 : starEach [e1, e2, e3] X.env = (false, eval e1 X.env) :: starEach [e2, e3] X.env := by rfl) (hpl : (backTo pos (starEach [e2, e3] X.env)).any (·.1) = false := by rfl) :
    PI X (.Tuple elts kk tpos) (.Call (.Name "zip" p) [e1, e2, e3] [] pos) (iZip3 X.K ta) := by
  refine ⟨fun pins s σ H R I h => ?_⟩
  refine Call_ (ld_blt I hg hm PyProof.Rows.boot_zip (PyProof.Rows.callWith_type1 (thn (ha.run pos pins s σ H _ I h) fun us s1 ⟨vs, H1, I1, r1, q1⟩ => ?_) hs1 hpl))
  obtain ⟨t1, t2, t3, b1, b2, b3, ys1, ys2, ys3, ex, hq1, hq2, hq3, q⟩ := q1
  subst ex
  obtain ⟨v1, v2, v3, rfl, r1_, r2_, r3_⟩ := vals_refs3 r1
  obtain rfl : v1 = Value.ref b1 := r1_
  obtain ⟨its1, rv1, p1⟩ := I1.seqK hq1
  obtain rfl : v2 = Value.ref b2 := r2_
  obtain ⟨its2, rv2, p2⟩ := I1.seqK hq2
  obtain rfl : v3 = Value.ref b3 := r3_
  obtain ⟨its3, rv3, p3⟩ := I1.seqK hq3
  have lts : ∀ c, c ∈ [s1.heap.objs.size + 5, s1.heap.objs.size + 3, s1.heap.objs.size + 4, s1.heap.objs.size, s1.heap.objs.size + 1, s1.heap.objs.size + 2] → s1.heap.objs.size ≤ c := fun c hcm => by
    have e' : c = s1.heap.objs.size + 5 ∨ c = s1.heap.objs.size + 3 ∨ c = s1.heap.objs.size + 4 ∨ c = s1.heap.objs.size ∨ c = s1.heap.objs.size + 1 ∨ c = s1.heap.objs.size + 2 := by simpa using hcm
    rcases e' with z | z | z | z | z | z
    · rw [z]; exact Nat.le_add_right _ _
    · rw [z]; exact Nat.le_add_right _ _
    · rw [z]; exact Nat.le_add_right _ _
    · rw [z]; exact Nat.le_refl _
    · rw [z]; exact Nat.le_add_right _ _
    · rw [z]; exact Nat.le_add_right _ _
  refine call_zip3 p1 p2 p3 fun h' hz hTI hTO n1 n2 n3 hsz hk => wpAny_pyIter_zip hz ?_
  have I2 : Inv X pins σ H1 { s1 with heap := h' } := I1.kept (t' := s1.toks) hk
  exact ⟨s1.heap.objs.size + 5, [s1.heap.objs.size + 5, s1.heap.objs.size + 3, s1.heap.objs.size + 4, s1.heap.objs.size, s1.heap.objs.size + 1, s1.heap.objs.size + 2], _, _, H1, rfl, I2, turn_zip3 (ap3_new s1.heap.objs.size p1.lt p2.lt p3.lt), ⟨hz, hTI, ⟨_, _, _, hTO⟩, n1, n2, n3⟩, fun c hcm => I1.fpOk (lts c hcm) (I1.hok.fresh (lts c hcm)), q⟩
end
theorem ip_mul {X : Cx} : PIp X .Mult (fun x y H Q => ∃ i j, x = .int i ∧ y = .int j ∧ CMul i j ∧ Q (.int (i * j)) H) := by
  intro pins s σ H x y v u Q I r1 r2 h
  obtain ⟨i, j, e1, e2, hc, q⟩ := h
  subst e1; subst e2
  obtain ⟨t, rfl⟩ := r1
  obtain ⟨t', rfl⟩ := r2
  exact imul_int ⟨.int _, H, I.tok _, ⟨_, rfl⟩, q⟩ hc.ok
theorem ip_and {X : Cx} : PIp X .BitAnd (ipI fun i j => Builtin.bitAnd i j) := by
  intro pins s σ H x y v u Q I r1 r2 h
  obtain ⟨i, j, e1, e2, q⟩ := h
  subst e1; subst e2
  obtain ⟨t, rfl⟩ := r1
  obtain ⟨t', rfl⟩ := r2
  exact iand_int ⟨.int _, H, I.tok _, ⟨_, rfl⟩, q⟩
theorem ip_xor {X : Cx} : PIp X .BitXor (ipI fun i j => Builtin.bitXor i j) := by
  intro pins s σ H x y v u Q I r1 r2 h
  obtain ⟨i, j, e1, e2, q⟩ := h
  subst e1; subst e2
  obtain ⟨t, rfl⟩ := r1
  obtain ⟨t', rfl⟩ := r2
  exact ixor_int ⟨.int _, H, I.tok _, ⟨_, rfl⟩, q⟩
theorem walk_zip2 {K : PySem.W.Frag} {t1 t2 : Bool} {b1 b2 : Addr} {xs ys : List V} (l : xs.length = ys.length) : Walk (Itz2 K t1 t2 b1 b2) xs.length (fun H => SqV t1 K H b1 xs ∧ SqV t2 K H b2 ys) (fun i H v H' => ∃ T x y, v = .ref T ∧ H T = none ∧ H' = upd H T (.tup [x, y]) ∧ xs[i]? = some x ∧ ys[i]? = some y) :=
  ⟨fun i H hi h => ⟨xs, ys, xs[i], ys[i]'(by omega), h.1, h.2, by simp [hi], by simp [show i < ys.length by omega]⟩, fun H h => ⟨xs, ys, h.1, h.2, .inl (Nat.le_refl _)⟩, fun i H x H' hi h y => by
    obtain ⟨T, x1, x2, e, n, u, f1, f2⟩ := y
    exact ⟨T, x1, x2, e, n, u, f1 _ h.1, f2 _ h.2⟩⟩
theorem walk_zip3 {K : PySem.W.Frag} {t1 t2 t3 : Bool} {b1 b2 b3 : Addr} {xs ys zs : List V} (l : xs.length = ys.length) (l' : xs.length = zs.length) : Walk (Itz3 K t1 t2 t3 b1 b2 b3) xs.length (fun H => SqV t1 K H b1 xs ∧ SqV t2 K H b2 ys ∧ SqV t3 K H b3 zs) (fun i H v H' => ∃ T x y z, v = .ref T ∧ H T = none ∧ H' = upd H T (.tup [x, y, z]) ∧ xs[i]? = some x ∧ ys[i]? = some y ∧ zs[i]? = some z) :=
  ⟨fun i H hi h => ⟨xs, ys, zs, xs[i], ys[i]'(by omega), zs[i]'(by omega), h.1, h.2.1, h.2.2, by simp [hi], by simp [show i < ys.length by omega], by simp [show i < zs.length by omega]⟩, fun H h => ⟨xs, ys, zs, h.1, h.2.1, h.2.2, .inl (Nat.le_refl _)⟩, fun i H x H' hi h y => by
    obtain ⟨T, x1, x2, x3, e, n, u, f1, f2, f3⟩ := y
    exact ⟨T, x1, x2, x3, e, n, u, f1 _ h.1, f2 _ h.2.1, f3 _ h.2.2⟩⟩
end V0
namespace K57
open PySem PySem.Spec PyProof.Rows L2 V0
def topS (i : Nat) : Stmt := PySem.Challenge.pw_cellcloth_k57_spoilt_bits.main.body.getD i (.Pass ⟨0, 0, 0, 0⟩)
abbrev s__law_draws : Stmt := topS 36
abbrev N__law_draws : List Str := ["script"]
theorem sc_law_draws : FnScope ["script"] ["script"] (defScope s__law_draws) := ⟨rfl, rfl, rfl, by decide +kernel, rfl, by decide +kernel, by decide +kernel⟩
abbrev s__law_draw : Stmt := topS 37
abbrev N__law_draw : List Str := ["draws", "limit", "cell", "value"]
theorem sc_law_draw : FnScope ["draws", "limit", "cell", "value"] ["draws", "limit"] (defScope s__law_draw) := ⟨rfl, rfl, rfl, by decide +kernel, rfl, by decide +kernel, by decide +kernel⟩
abbrev s__law_fabric : Stmt := topS 38
abbrev N__law_fabric : List Str := ["draws", "most", "wide", "high"]
theorem sc_law_fabric : FnScope ["draws", "most", "wide", "high"] ["draws", "most"] (defScope s__law_fabric) := ⟨rfl, rfl, rfl, by decide +kernel, rfl, by decide +kernel, by decide +kernel⟩
abbrev s__law_setting : Stmt := topS 41
abbrev N__law_setting : List Str := ["draws", "fabric", "taps", "drives", "k"]
theorem sc_law_setting : FnScope ["draws", "fabric", "taps", "drives", "k"] ["draws", "fabric"] (defScope s__law_setting) := ⟨rfl, rfl, rfl, by decide +kernel, rfl, by decide +kernel, by decide +kernel⟩
abbrev s__law_sides : Stmt := topS 39
abbrev N__law_sides : List Str := ["fabric", "rows", "number", "x", "y", "side"]
theorem sc_law_sides : FnScope ["fabric", "rows", "number", "x", "y", "side"] ["fabric"] (defScope s__law_sides) := ⟨rfl, rfl, rfl, by decide +kernel, rfl, by decide +kernel, by decide +kernel⟩
abbrev s__law_pads : Stmt := topS 40
abbrev N__law_pads : List Str := ["draws", "fabric", "many", "sides", "rows", "k", "pad"]
theorem sc_law_pads : FnScope ["draws", "fabric", "many", "sides", "rows", "k", "pad"] ["draws", "fabric", "many"] (defScope s__law_pads) := ⟨rfl, rfl, rfl, by decide +kernel, rfl, by decide +kernel, by decide +kernel⟩
abbrev s__law_config : Stmt := topS 42
abbrev N__law_config : List Str := ["draws", "most", "fabric", "settings", "k"]
theorem sc_law_config : FnScope ["draws", "most", "fabric", "settings", "k"] ["draws", "most"] (defScope s__law_config) := ⟨rfl, rfl, rfl, by decide +kernel, rfl, by decide +kernel, by decide +kernel⟩
abbrev s__law_turned : Stmt := topS 51
abbrev N__law_turned : List Str := ["bits", "at"]
theorem sc_law_turned : FnScope ["bits", "at"] ["bits", "at"] (defScope s__law_turned) := ⟨rfl, rfl, rfl, by decide +kernel, rfl, by decide +kernel, by decide +kernel⟩
abbrev s__law_flipped : Stmt := topS 52
abbrev N__law_flipped : List Str := ["draws", "bits", "kind", "many", "first", "chosen", "k", "at"]
theorem sc_law_flipped : FnScope ["draws", "bits", "kind", "many", "first", "chosen", "k", "at"] ["draws", "bits", "kind"] (defScope s__law_flipped) := ⟨rfl, rfl, rfl, by decide +kernel, rfl, by decide +kernel, by decide +kernel⟩
abbrev s__law_sum : Stmt := topS 44
abbrev N__law_sum : List Str := ["bits", "rest", "at", "far"]
theorem sc_law_sum : FnScope ["bits", "rest", "at", "far"] ["bits"] (defScope s__law_sum) := ⟨rfl, rfl, rfl, by decide +kernel, rfl, by decide +kernel, by decide +kernel⟩
abbrev s__law_spoilt : Stmt := topS 53
abbrev N__law_spoilt : List Str := ["draws", "config", "bits", "kind", "cut", "front", "k", "pads", "one", "other"]
theorem sc_law_spoilt : FnScope ["draws", "config", "bits", "kind", "cut", "front", "k", "pads", "one", "other"] ["draws", "config", "bits"] (defScope s__law_spoilt) := ⟨rfl, rfl, rfl, by decide +kernel, rfl, by decide +kernel, by decide +kernel⟩
abbrev s__law_written : Stmt := topS 43
abbrev N__law_written : List Str := ["number", "size", "rows", "k"]
theorem sc_law_written : FnScope ["number", "size", "rows", "k"] ["number", "size"] (defScope s__law_written) := ⟨rfl, rfl, rfl, by decide +kernel, rfl, by decide +kernel, by decide +kernel⟩
abbrev s__law_tap : Stmt := topS 45
abbrev N__law_tap : List Str := ["fabric"]
theorem sc_law_tap : FnScope ["fabric"] ["fabric"] (defScope s__law_tap) := ⟨rfl, rfl, rfl, by decide +kernel, rfl, by decide +kernel, by decide +kernel⟩
abbrev s__law_bits : Stmt := topS 46
abbrev N__law_bits : List Str := ["config", "fabric", "bits", "number", "size", "setting", "code", "x", "y", "side", "track"]
theorem sc_law_bits : FnScope ["config", "fabric", "bits", "number", "size", "setting", "code", "x", "y", "side", "track"] ["config"] (defScope s__law_bits) := ⟨rfl, rfl, rfl, by decide +kernel, rfl, by decide +kernel, by decide +kernel⟩
abbrev s__law_number : Stmt := topS 47
abbrev N__law_number : List Str := ["bits", "at", "size", "number", "bit"]
theorem sc_law_number : FnScope ["bits", "at", "size", "number", "bit"] ["bits", "at", "size"] (defScope s__law_number) := ⟨rfl, rfl, rfl, by decide +kernel, rfl, by decide +kernel, by decide +kernel⟩
abbrev s__law_codes_fault : Stmt := topS 49
abbrev N__law_codes_fault : List Str := ["bits", "fabric", "at", "number", "size", "many", "most", "k"]
theorem sc_law_codes_fault : FnScope ["bits", "fabric", "at", "number", "size", "many", "most", "k"] ["bits", "fabric", "at"] (defScope s__law_codes_fault) := ⟨rfl, rfl, rfl, by decide +kernel, rfl, by decide +kernel, by decide +kernel⟩
abbrev s__law_pad_right : Stmt := topS 48
abbrev N__law_pad_right : List Str := ["fabric", "pad", "x", "y", "side", "track"]
theorem sc_law_pad_right : FnScope ["fabric", "pad", "x", "y", "side", "track"] ["fabric", "pad"] (defScope s__law_pad_right) := ⟨rfl, rfl, rfl, by decide +kernel, rfl, by decide +kernel, by decide +kernel⟩
abbrev s__law_fault : Stmt := topS 50
abbrev N__law_fault : List Str := ["bits", "at", "size", "head", "k", "fabric", "places", "one", "many", "pads", "pad"]
theorem sc_law_fault : FnScope ["bits", "at", "size", "head", "k", "fabric", "places", "one", "many", "pads", "pad"] ["bits"] (defScope s__law_fault) := ⟨rfl, rfl, rfl, by decide +kernel, rfl, by decide +kernel, by decide +kernel⟩
abbrev s_sum_of : Stmt := topS 24
abbrev N_sum_of : List Str := ["bits", "told", "bit", "above"]
theorem scsum_of : FnScope ["bits", "told", "bit", "above"] ["bits"] (defScope s_sum_of) := ⟨rfl, rfl, rfl, by decide +kernel, rfl, by decide +kernel, by decide +kernel⟩
abbrev s__written : Stmt := topS 28
abbrev N__written : List Str := ["numbers", "widths", "number", "width", "at"]
theorem sc_written : FnScope ["numbers", "widths", "number", "width", "at"] ["numbers", "widths"] (defScope s__written) := ⟨rfl, rfl, rfl, by decide +kernel, rfl, by decide +kernel, by decide +kernel⟩
abbrev s_greatest_tap : Stmt := topS 13
abbrev N_greatest_tap : List Str := ["fabric"]
theorem scgreatest_tap : FnScope ["fabric"] ["fabric"] (defScope s_greatest_tap) := ⟨rfl, rfl, rfl, by decide +kernel, rfl, by decide +kernel, by decide +kernel⟩
abbrev s__tap_bits : Stmt := topS 26
abbrev N__tap_bits : List Str := ["fabric"]
theorem sc_tap_bits : FnScope ["fabric"] ["fabric"] (defScope s__tap_bits) := ⟨rfl, rfl, rfl, by decide +kernel, rfl, by decide +kernel, by decide +kernel⟩
abbrev s__sum_bits : Stmt := topS 29
abbrev N__sum_bits : List Str := ["bits", "told", "at"]
theorem sc_sum_bits : FnScope ["bits", "told", "at"] ["bits"] (defScope s__sum_bits) := ⟨rfl, rfl, rfl, by decide +kernel, rfl, by decide +kernel, by decide +kernel⟩
abbrev s_bits_of : Stmt := topS 22
abbrev N_bits_of : List Str := ["config", "_", "fabric", "settings", "ins", "outs", "head", "bits", "tap_bits", "table", "kept", "start", "taps", "drives", "told", "number"]
theorem scbits_of : FnScope ["config", "_", "fabric", "settings", "ins", "outs", "head", "bits", "tap_bits", "table", "kept", "start", "taps", "drives", "told", "number"] ["config"] (defScope s_bits_of) := ⟨rfl, rfl, rfl, by decide +kernel, rfl, by decide +kernel, by decide +kernel⟩
abbrev s__read : Stmt := topS 30
abbrev N__read : List Str := ["bits", "at", "widths", "numbers", "width", "k", "bit"]
theorem sc_read : FnScope ["bits", "at", "widths", "numbers", "width", "k", "bit"] ["bits", "at", "widths"] (defScope s__read) := ⟨rfl, rfl, rfl, by decide +kernel, rfl, by decide +kernel, by decide +kernel⟩
abbrev s__head_of : Stmt := topS 31
abbrev N__head_of : List Str := ["bits", "numbers", "wide", "high", "tracks", "pins", "ins", "outs", "most", "at", "number", "greatest", "width"]
theorem sc_head_of : FnScope ["bits", "numbers", "wide", "high", "tracks", "pins", "ins", "outs", "most", "at", "number", "greatest", "width"] ["bits"] (defScope s__head_of) := ⟨rfl, rfl, rfl, by decide +kernel, rfl, by decide +kernel, by decide +kernel⟩
abbrev s__setting_bits : Stmt := topS 27
abbrev N__setting_bits : List Str := ["fabric", "_", "tracks", "pins"]
theorem sc_setting_bits : FnScope ["fabric", "_", "tracks", "pins"] ["fabric"] (defScope s__setting_bits) := ⟨rfl, rfl, rfl, by decide +kernel, rfl, by decide +kernel, by decide +kernel⟩
abbrev s_size_of : Stmt := topS 25
abbrev N_size_of : List Str := ["fabric", "ins", "outs", "places"]
theorem scsize_of : FnScope ["fabric", "ins", "outs", "places"] ["fabric", "ins", "outs"] (defScope s_size_of) := ⟨rfl, rfl, rfl, by decide +kernel, rfl, by decide +kernel, by decide +kernel⟩
abbrev s__codes_at : Stmt := topS 33
abbrev N__codes_at : List Str := ["bits", "at", "many", "width", "greatest", "codes", "k", "code"]
theorem sc_codes_at : FnScope ["bits", "at", "many", "width", "greatest", "codes", "k", "code"] ["bits", "at", "many", "width", "greatest"] (defScope s__codes_at) := ⟨rfl, rfl, rfl, by decide +kernel, rfl, by decide +kernel, by decide +kernel⟩
abbrev s_greatest_drive : Stmt := topS 14
abbrev N_greatest_drive : List Str := []
theorem scgreatest_drive : FnScope [] [] (defScope s_greatest_drive) := ⟨rfl, rfl, rfl, by decide +kernel, rfl, by decide +kernel, by decide +kernel⟩
abbrev s__setting_at : Stmt := topS 32
abbrev N__setting_at : List Str := ["bits", "at", "fabric", "_", "tracks", "pins", "table", "kept", "start", "taps_at", "tap_bits", "taps", "drives"]
theorem sc_setting_at : FnScope ["bits", "at", "fabric", "_", "tracks", "pins", "table", "kept", "start", "taps_at", "tap_bits", "taps", "drives"] ["bits", "at", "fabric"] (defScope s__setting_at) := ⟨rfl, rfl, rfl, by decide +kernel, rfl, by decide +kernel, by decide +kernel⟩
abbrev s_beside : Stmt := topS 11
abbrev N_beside : List Str := ["fabric", "x", "y", "side", "_", "wide", "high", "across", "down"]
theorem scbeside : FnScope ["fabric", "x", "y", "side", "_", "wide", "high", "across", "down"] ["fabric", "x", "y", "side"] (defScope s_beside) := ⟨rfl, rfl, rfl, by decide +kernel, rfl, by decide +kernel, by decide +kernel⟩
abbrev s_is_border : Stmt := topS 12
abbrev N_is_border : List Str := ["fabric", "told", "x", "y", "side", "track", "_", "wide", "high", "tracks"]
theorem scis_border : FnScope ["fabric", "told", "x", "y", "side", "track", "_", "wide", "high", "tracks"] ["fabric", "told"] (defScope s_is_border) := ⟨rfl, rfl, rfl, by decide +kernel, rfl, by decide +kernel, by decide +kernel⟩
abbrev s__ends_at : Stmt := topS 34
abbrev N__ends_at : List Str := ["bits", "at", "many", "fabric", "found", "k", "told"]
theorem sc_ends_at : FnScope ["bits", "at", "many", "fabric", "found", "k", "told"] ["bits", "at", "many", "fabric"] (defScope s__ends_at) := ⟨rfl, rfl, rfl, by decide +kernel, rfl, by decide +kernel, by decide +kernel⟩
abbrev s_config_of : Stmt := topS 23
abbrev N_config_of : List Str := ["bits", "fabric", "many_ins", "many_outs", "size", "settings", "at", "_", "ins", "outs"]
theorem scconfig_of : FnScope ["bits", "fabric", "many_ins", "many_outs", "size", "settings", "at", "_", "ins", "outs"] ["bits"] (defScope s_config_of) := ⟨rfl, rfl, rfl, by decide +kernel, rfl, by decide +kernel, by decide +kernel⟩
abbrev s__law_told : Stmt := topS 54
abbrev N__law_told : List Str := ["bits", "error"]
theorem sc_law_told : FnScope ["bits", "error"] ["bits"] (defScope s__law_told) := ⟨rfl, rfl, rfl, by decide +kernel, rfl, by decide +kernel, by decide +kernel⟩
abbrev s_law : Stmt := topS 55
abbrev N_law : List Str := ["script", "draws", "config", "bits", "flipped", "due", "told"]
theorem sclaw : FnScope ["script", "draws", "config", "bits", "flipped", "due", "told"] ["script"] (defScope s_law) := ⟨rfl, rfl, rfl, by decide +kernel, rfl, by decide +kernel, by decide +kernel⟩
abbrev s_XBitsError : Stmt := inClass (topS 3) 0
theorem sc_XBitsError : FnScope ["self", "at"] ["self", "at"] (defScope s_XBitsError) := ⟨rfl, rfl, rfl, by decide +kernel, rfl, by decide +kernel, by decide +kernel⟩
structure Txt (K : PySem.W.Frag) (mg : Str → Option Value) (C_BitsError fI_BitsError : Addr) (fd_BitsError : FuncData) (B_ : Addr) (mc_ : Value) (O_FitError : Addr) (O_TextError : Addr) (tk_MOST_PLACES : Tok) (tk_MOST_TRACKS : Tok) (tk_MOST_PINS : Tok) (tk_MOST_ENDS : Tok) (tk_HEAD_BITS : Tok) (tk_END_BITS : Tok) (tk_SUM_BITS : Tok) (tk_DRIVE_BITS : Tok) (a_HEAD : Addr) (a_END : Addr) (a_STEPS_0 : Addr) (a_STEPS_1 : Addr) (a_STEPS_2 : Addr) (a_STEPS_3 : Addr) (a_STEPS : Addr) : Prop where
  xb : ExcB K mg "ClothError" B_ mc_
  bc : PySem.W.isClsIn K B_ = true
  bt : PySem.W.typeIn K (.ref B_) = some (.type "type")
  x_BitsError : Exc K mg "BitsError" C_BitsError fI_BitsError fd_BitsError "at"
  i_BitsError : ExcI K C_BitsError
  sb_BitsError : PySem.W.subIn K (.ref C_BitsError) (.ref B_) = some true
  sv_BitsError : PySem.W.subIn K (.ref C_BitsError) (.type "ValueError") = some true
  xo_FitError : mg "FitError" = some (.ref O_FitError) ∧ PySem.W.isClsIn K O_FitError = true ∧ PySem.W.typeIn K (.ref O_FitError) = some (.type "type") ∧ PySem.W.subIn K (.ref C_BitsError) (.ref O_FitError) = some false ∧ (C_BitsError == O_FitError) = false
  xo_TextError : mg "TextError" = some (.ref O_TextError) ∧ PySem.W.isClsIn K O_TextError = true ∧ PySem.W.typeIn K (.ref O_TextError) = some (.type "type") ∧ PySem.W.subIn K (.ref C_BitsError) (.ref O_TextError) = some false ∧ (C_BitsError == O_TextError) = false
  m_MOST_PLACES : mg "MOST_PLACES" = some (.int (12) tk_MOST_PLACES)
  m_MOST_TRACKS : mg "MOST_TRACKS" = some (.int (8) tk_MOST_TRACKS)
  m_MOST_PINS : mg "MOST_PINS" = some (.int (4) tk_MOST_PINS)
  m_MOST_ENDS : mg "MOST_ENDS" = some (.int (64) tk_MOST_ENDS)
  m_HEAD_BITS : mg "HEAD_BITS" = some (.int (27) tk_HEAD_BITS)
  m_END_BITS : mg "END_BITS" = some (.int (13) tk_END_BITS)
  m_SUM_BITS : mg "SUM_BITS" = some (.int (16) tk_SUM_BITS)
  m_DRIVE_BITS : mg "DRIVE_BITS" = some (.int (3) tk_DRIVE_BITS)
  m_HEAD : mg "HEAD" = some (.ref a_HEAD)
  m_END : mg "END" = some (.ref a_END)
  m_STEPS : mg "STEPS" = some (.ref a_STEPS)
  t_HEAD : ∀ H, SqT K H a_HEAD [.int (4), .int (4), .int (3), .int (2), .int (7), .int (7)]
  t_END : ∀ H, SqT K H a_END [.int (4), .int (4), .int (2), .int (3)]
  t_STEPS_0 : ∀ H, SqT K H a_STEPS_0 [.int (0), .int (-1)]
  t_STEPS_1 : ∀ H, SqT K H a_STEPS_1 [.int (1), .int (0)]
  t_STEPS_2 : ∀ H, SqT K H a_STEPS_2 [.int (0), .int (1)]
  t_STEPS_3 : ∀ H, SqT K H a_STEPS_3 [.int (-1), .int (0)]
  t_STEPS : ∀ H, SqT K H a_STEPS [.ref a_STEPS_0, .ref a_STEPS_1, .ref a_STEPS_2, .ref a_STEPS_3]
  m_bool : mg "bool" = none
  m_enumerate : mg "enumerate" = none
  m_int : mg "int" = none
  m_isinstance : mg "isinstance" = none
  m_len : mg "len" = none
  m_list : mg "list" = none
  m_min : mg "min" = none
  m_range : mg "range" = none
  m_reversed : mg "reversed" = none
  m_sum : mg "sum" = none
  m_tuple : mg "tuple" = none
  m_zip : mg "zip" = none
end K57
namespace K57
open PySem PySem.Spec PyProof.Rows L2 V0
theorem xi_log {k : Nat} (h : k < 10 ^ 12) : ((k : Int)).natAbs.log2 < 1920 := by
  rw [Int.natAbs_natCast]
  by_cases h0 : k = 0
  · rw [h0]
    decide
  · exact (Nat.log2_lt h0).mpr (Nat.lt_trans h (by decide))
theorem xi_len {k : Nat} (h : k < 10 ^ 12) : (Str.ofString (toString (k : Int))).length ≤ 13 := PyData.shown_int_le (i := (k : Int)) (by rw [Int.natAbs_natCast]; exact h)
theorem ok_XBitsError {P : Program} {w : World} {K : PySem.W.Frag} {mg : Str → Option Value} {base : Heap} {C_BitsError fI_BitsError : Addr} {fd_BitsError : FuncData} {B_ : Addr} {mc_ : Value} {O_FitError : Addr} {O_TextError : Addr} {tk_MOST_PLACES : Tok} {tk_MOST_TRACKS : Tok} {tk_MOST_PINS : Tok} {tk_MOST_ENDS : Tok} {tk_HEAD_BITS : Tok} {tk_END_BITS : Tok} {tk_SUM_BITS : Tok} {tk_DRIVE_BITS : Tok} {a_HEAD : Addr} {a_END : Addr} {a_STEPS_0 : Addr} {a_STEPS_1 : Addr} {a_STEPS_2 : Addr} {a_STEPS_3 : Addr} {a_STEPS : Addr} {f : Addr} {fd : FuncData} (F : Fun K "__init__" "BitsError.__init__" s_XBitsError f fd) (T : Txt K mg C_BitsError fI_BitsError fd_BitsError B_ mc_ O_FitError O_TextError tk_MOST_PLACES tk_MOST_TRACKS tk_MOST_PINS tk_MOST_ENDS tk_HEAD_BITS tk_END_BITS tk_SUM_BITS tk_DRIVE_BITS a_HEAD a_END a_STEPS_0 a_STEPS_1 a_STEPS_2 a_STEPS_3 a_STEPS) : FnOk P w K mg base CX0 1 f fd ["self", "at"] (spExcI K "at") := by
  refine F.ok sc_XBitsError (fun vs H Q E h => ?_) (fun cdv A outer s H vs Q E hr h => ?_)
  · obtain ⟨a, C, z, rfl, _⟩ := h
    rfl
  · obtain ⟨a, C, z, rfl, hC, hno, ha, hz, q⟩ := h
    refine ⟨_, pss_cons (ps_expr (pe_binit (by rfl) T.xb.m T.xb.ga T.xb.rd T.xb.vi (pa_cons (pv 0) (pa_cons (pe_joined (PJ.cons pe_str (PJ.cons (pe_fmt (pv 1)) PJ.nil))) pa_nil)))) (pss_one (ps_ost (pv 0) (pv 1))), ?_⟩
    refine ⟨_, rfl, _, rfl, by decide, _, rfl, .inr ⟨_, rfl, xi_log hz, _, rfl, ?_, a, C, _, rfl, by show 1 ≤ 1000; decide, hC, ha, ?_⟩⟩
    · rw [app_len]
      have h13 := xi_len hz
      refine small2000 ?_
      have : (Str.empty ++ ("the bits do not fit at " : Str)).length = 23 := by decide +kernel
      omega
    · exact ⟨_, rfl, _, rfl, a, C, rfl, hC, hno, .inl ⟨ha, fun dx n ne => q dx n ne⟩⟩
end K57
namespace K57
open PySem PySem.Spec PyProof.Rows L2 V0
/-! ### configs as data -/
structure Fab where
  w : Nat
  h : Nat
  t : Nat
  p : Nat
  deriving DecidableEq
instance : PySem.W.Datum Fab where
  toD n := .tuple [.str "fabric", PySem.W.Datum.toD n.w, PySem.W.Datum.toD n.h, PySem.W.Datum.toD n.t, PySem.W.Datum.toD n.p]
  plain n := by simp only [PyData.plain, PyData.plainAll, PySem.W.Datum.plain, Bool.and_self]
  eqv a b := by
    simp only [PyData.eqv, PyData.eqvAll, PySem.W.Datum.eqv, Bool.and_true]
    rw [PySem.W.beq_decide, ← Bool.decide_and, ← Bool.decide_and, ← Bool.decide_and, ← Bool.decide_and]
    refine decide_eq_decide.mpr ⟨fun ⟨_, h1, h2, h3, h4⟩ => ?_, fun e => by rw [e]; exact ⟨rfl, rfl, rfl, rfl, rfl⟩⟩
    cases a
    cases b
    simp only at h1 h2 h3 h4
    rw [h1, h2, h3, h4]
  depth := 1
  depth_le n := by
    have h1 := PySem.W.Datum.depth_le n.w
    have e1 : PySem.W.Datum.depth (Nat) = 0 := rfl
    rw [e1] at h1
    have h2 := PySem.W.Datum.depth_le n.h
    have e2 : PySem.W.Datum.depth (Nat) = 0 := rfl
    rw [e2] at h2
    have h3 := PySem.W.Datum.depth_le n.t
    have e3 : PySem.W.Datum.depth (Nat) = 0 := rfl
    rw [e3] at h3
    have h4 := PySem.W.Datum.depth_le n.p
    have e4 : PySem.W.Datum.depth (Nat) = 0 := rfl
    rw [e4] at h4
    simp only [PyData.depth, PyData.depthAll]
    omega
instance : Dm Fab where
  lay n := by
    have h1 := Dm.lay n.w
    have h2 := Dm.lay n.h
    have h3 := Dm.lay n.t
    have h4 := Dm.lay n.p
    simp only [PySem.W.Datum.toD] at h1 h2 h3 h4 ⊢
    simp only [PyData.canLay0, PyData.canLayAll0, Bool.and_true] at h1 h2 h3 h4 ⊢
    decide +kernel
structure Pad where
  x : Nat
  y : Nat
  s : Nat
  k : Nat
  deriving DecidableEq
instance : PySem.W.Datum Pad where
  toD n := .tuple [PySem.W.Datum.toD n.x, PySem.W.Datum.toD n.y, PySem.W.Datum.toD n.s, PySem.W.Datum.toD n.k]
  plain n := by simp only [PyData.plain, PyData.plainAll, PySem.W.Datum.plain, Bool.and_self]
  eqv a b := by
    simp only [PyData.eqv, PyData.eqvAll, PySem.W.Datum.eqv, Bool.and_true]
    rw [← Bool.decide_and, ← Bool.decide_and, ← Bool.decide_and]
    refine decide_eq_decide.mpr ⟨fun ⟨h1, h2, h3, h4⟩ => ?_, fun e => by rw [e]; exact ⟨rfl, rfl, rfl, rfl⟩⟩
    cases a
    cases b
    simp only at h1 h2 h3 h4
    rw [h1, h2, h3, h4]
  depth := 1
  depth_le n := by
    have h1 := PySem.W.Datum.depth_le n.x
    have e1 : PySem.W.Datum.depth (Nat) = 0 := rfl
    rw [e1] at h1
    have h2 := PySem.W.Datum.depth_le n.y
    have e2 : PySem.W.Datum.depth (Nat) = 0 := rfl
    rw [e2] at h2
    have h3 := PySem.W.Datum.depth_le n.s
    have e3 : PySem.W.Datum.depth (Nat) = 0 := rfl
    rw [e3] at h3
    have h4 := PySem.W.Datum.depth_le n.k
    have e4 : PySem.W.Datum.depth (Nat) = 0 := rfl
    rw [e4] at h4
    simp only [PyData.depth, PyData.depthAll]
    omega
instance : Dm Pad where
  lay n := by
    have h1 := Dm.lay n.x
    have h2 := Dm.lay n.y
    have h3 := Dm.lay n.s
    have h4 := Dm.lay n.k
    simp only [PySem.W.Datum.toD] at h1 h2 h3 h4 ⊢
    simp only [PyData.canLay0, PyData.canLayAll0, Bool.and_true] at h1 h2 h3 h4 ⊢
structure Sett where
  table : Nat
  kept : Nat
  start : Nat
  taps : List Nat
  drv : List Nat
  deriving DecidableEq
instance : PySem.W.Datum Sett where
  toD n := .tuple [.str "setting", PySem.W.Datum.toD n.table, PySem.W.Datum.toD n.kept, PySem.W.Datum.toD n.start, PySem.W.Datum.toD n.taps, PySem.W.Datum.toD n.drv]
  plain n := by simp only [PyData.plain, PyData.plainAll, PySem.W.Datum.plain, Bool.and_self]
  eqv a b := by
    simp only [PyData.eqv, PyData.eqvAll, PySem.W.Datum.eqv, Bool.and_true]
    rw [PySem.W.beq_decide, ← Bool.decide_and, ← Bool.decide_and, ← Bool.decide_and, ← Bool.decide_and, ← Bool.decide_and]
    refine decide_eq_decide.mpr ⟨fun ⟨_, h1, h2, h3, h4, h5⟩ => ?_, fun e => by rw [e]; exact ⟨rfl, rfl, rfl, rfl, rfl, rfl⟩⟩
    cases a
    cases b
    simp only at h1 h2 h3 h4 h5
    rw [h1, h2, h3, h4, h5]
  depth := 2
  depth_le n := by
    have h1 := PySem.W.Datum.depth_le n.table
    have e1 : PySem.W.Datum.depth (Nat) = 0 := rfl
    rw [e1] at h1
    have h2 := PySem.W.Datum.depth_le n.kept
    have e2 : PySem.W.Datum.depth (Nat) = 0 := rfl
    rw [e2] at h2
    have h3 := PySem.W.Datum.depth_le n.start
    have e3 : PySem.W.Datum.depth (Nat) = 0 := rfl
    rw [e3] at h3
    have h4 := PySem.W.Datum.depth_le n.taps
    have e4 : PySem.W.Datum.depth (List Nat) = 1 := rfl
    rw [e4] at h4
    have h5 := PySem.W.Datum.depth_le n.drv
    have e5 : PySem.W.Datum.depth (List Nat) = 1 := rfl
    rw [e5] at h5
    simp only [PyData.depth, PyData.depthAll]
    omega
instance : Dm Sett where
  lay n := by
    have h1 := Dm.lay n.table
    have h2 := Dm.lay n.kept
    have h3 := Dm.lay n.start
    have h4 := Dm.lay n.taps
    have h5 := Dm.lay n.drv
    simp only [PySem.W.Datum.toD] at h1 h2 h3 h4 h5 ⊢
    simp only [PyData.canLay0, PyData.canLayAll0, Bool.and_true] at h1 h2 h3 h4 h5 ⊢
    rw [h4, h5]
    decide +kernel
structure Conf where
  fab : Fab
  set : List Sett
  ins : List Pad
  outs : List Pad
  deriving DecidableEq
instance : PySem.W.Datum Conf where
  toD n := .tuple [.str "config", PySem.W.Datum.toD n.fab, PySem.W.Datum.toD n.set, PySem.W.Datum.toD n.ins, PySem.W.Datum.toD n.outs]
  plain n := by simp only [PyData.plain, PyData.plainAll, PySem.W.Datum.plain, Bool.and_self]
  eqv a b := by
    simp only [PyData.eqv, PyData.eqvAll, PySem.W.Datum.eqv, Bool.and_true]
    rw [PySem.W.beq_decide, ← Bool.decide_and, ← Bool.decide_and, ← Bool.decide_and, ← Bool.decide_and]
    refine decide_eq_decide.mpr ⟨fun ⟨_, h1, h2, h3, h4⟩ => ?_, fun e => by rw [e]; exact ⟨rfl, rfl, rfl, rfl, rfl⟩⟩
    cases a
    cases b
    simp only at h1 h2 h3 h4
    rw [h1, h2, h3, h4]
  depth := 4
  depth_le n := by
    have h1 := PySem.W.Datum.depth_le n.fab
    have e1 : PySem.W.Datum.depth (Fab) = 1 := rfl
    rw [e1] at h1
    have h2 := PySem.W.Datum.depth_le n.set
    have e2 : PySem.W.Datum.depth (List Sett) = 3 := rfl
    rw [e2] at h2
    have h3 := PySem.W.Datum.depth_le n.ins
    have e3 : PySem.W.Datum.depth (List Pad) = 2 := rfl
    rw [e3] at h3
    have h4 := PySem.W.Datum.depth_le n.outs
    have e4 : PySem.W.Datum.depth (List Pad) = 2 := rfl
    rw [e4] at h4
    simp only [PyData.depth, PyData.depthAll]
    omega
instance : Dm Conf where
  lay n := by
    have h1 := Dm.lay n.fab
    have h2 := Dm.lay n.set
    have h3 := Dm.lay n.ins
    have h4 := Dm.lay n.outs
    simp only [PySem.W.Datum.toD] at h1 h2 h3 h4 ⊢
    simp only [PyData.canLay0, PyData.canLayAll0, Bool.and_true] at h1 h2 h3 h4 ⊢
    rw [h1, h2, h3, h4]
    decide +kernel
theorem dh_tup {H : Hp} {v : V} {ds : List PyData} (h : Dh H v (.tuple ds)) : ∃ a xs, v = .ref a ∧ H a = some (.tup xs) ∧ DhAll H xs ds := by
  cases h with
  | tup h1 h2 => exact ⟨_, _, rfl, h1, h2⟩
theorem dha_cons {H : Hp} {vs : List V} {d : PyData} {ds : List PyData} (h : DhAll H vs (d :: ds)) : ∃ v us, vs = v :: us ∧ Dh H v d ∧ DhAll H us ds := by
  cases h with
  | cons h1 h2 => exact ⟨_, _, rfl, h1, h2⟩
theorem dha_nil {H : Hp} {vs : List V} (h : DhAll H vs []) : vs = [] := by
  cases h
  rfl
def Fab.its (f : Fab) : List V := [.str "fabric", .int (f.w : Nat), .int (f.h : Nat), .int (f.t : Nat), .int (f.p : Nat)]
def Pad.its (e : Pad) : List V := [.int (e.x : Nat), .int (e.y : Nat), .int (e.s : Nat), .int (e.k : Nat)]
theorem Dv.fab {H : Hp} {a : Addr} {f : Fab} (h : H a = some (.tup f.its)) : Dv H (.ref a) f := Dh.tup h (.cons (.str _) (.cons (.int _) (.cons (.int _) (.cons (.int _) (.cons (.int _) .nil)))))
theorem Dv.pad {H : Hp} {a : Addr} {e : Pad} (h : H a = some (.tup e.its)) : Dv H (.ref a) e := Dh.tup h (.cons (.int _) (.cons (.int _) (.cons (.int _) (.cons (.int _) .nil))))
theorem fab_inv {H : Hp} {v : V} {f : Fab} (h : Dv H v f) : ∃ a, v = .ref a ∧ H a = some (.tup f.its) := by
  obtain ⟨a, us, rfl, ha, hx⟩ := dh_tup h
  obtain ⟨v0, r0, rfl, h0, hx⟩ := dha_cons hx
  obtain ⟨v1, r1, rfl, h1, hx⟩ := dha_cons hx
  obtain ⟨v2, r2, rfl, h2, hx⟩ := dha_cons hx
  obtain ⟨v3, r3, rfl, h3, hx⟩ := dha_cons hx
  obtain ⟨v4, r4, rfl, h4, hx⟩ := dha_cons hx
  cases dha_nil hx
  cases h0
  cases h1
  cases h2
  cases h3
  cases h4
  exact ⟨a, rfl, ha⟩
theorem pad_inv {H : Hp} {v : V} {e : Pad} (h : Dv H v e) : ∃ a, v = .ref a ∧ H a = some (.tup e.its) := by
  obtain ⟨a, us, rfl, ha, hx⟩ := dh_tup h
  obtain ⟨v1, r1, rfl, h1, hx⟩ := dha_cons hx
  obtain ⟨v2, r2, rfl, h2, hx⟩ := dha_cons hx
  obtain ⟨v3, r3, rfl, h3, hx⟩ := dha_cons hx
  obtain ⟨v4, r4, rfl, h4, hx⟩ := dha_cons hx
  cases dha_nil hx
  cases h1
  cases h2
  cases h3
  cases h4
  exact ⟨a, rfl, ha⟩
theorem Dv.sett {H : Hp} {a b c : Addr} {s : Sett} (h : H a = some (.tup [.str "setting", .int (s.table : Nat), .int (s.kept : Nat), .int (s.start : Nat), .ref b, .ref c])) (hb : H b = some (.lst (vn s.taps))) (hc : H c = some (.lst (vn s.drv))) : Dv H (.ref a) s :=
  Dh.tup h (.cons (.str _) (.cons (.int _) (.cons (.int _) (.cons (.int _) (.cons (Dv.natl hb) (.cons (Dv.natl hc) .nil))))))
theorem sett_inv {H : Hp} {v : V} {s : Sett} (h : Dv H v s) : ∃ a b c, v = .ref a ∧ H a = some (.tup [.str "setting", .int (s.table : Nat), .int (s.kept : Nat), .int (s.start : Nat), .ref b, .ref c]) ∧ H b = some (.lst (vn s.taps)) ∧ H c = some (.lst (vn s.drv)) := by
  obtain ⟨a, us, rfl, ha, hx⟩ := dh_tup h
  obtain ⟨v0, r0, rfl, h0, hx⟩ := dha_cons hx
  obtain ⟨v1, r1, rfl, h1, hx⟩ := dha_cons hx
  obtain ⟨v2, r2, rfl, h2, hx⟩ := dha_cons hx
  obtain ⟨v3, r3, rfl, h3, hx⟩ := dha_cons hx
  obtain ⟨v4, r4, rfl, h4, hx⟩ := dha_cons hx
  obtain ⟨v5, r5, rfl, h5, hx⟩ := dha_cons hx
  cases dha_nil hx
  cases h0
  cases h1
  cases h2
  cases h3
  obtain ⟨b, rfl, hb⟩ := Dv.natl_inv (xs := s.taps) h4
  obtain ⟨c, rfl, hc⟩ := Dv.natl_inv (xs := s.drv) h5
  exact ⟨a, b, c, rfl, ha, hb, hc⟩
theorem Dv.conf {H : Hp} {a : Addr} {vf vs vi_ vo_ : V} {c : Conf} (h : H a = some (.tup [.str "config", vf, vs, vi_, vo_])) (hf : Dv H vf c.fab) (hs : Dv H vs c.set) (hi : Dv H vi_ c.ins) (ho : Dv H vo_ c.outs) : Dv H (.ref a) c :=
  Dh.tup h (.cons (.str _) (.cons hf (.cons hs (.cons hi (.cons ho .nil)))))
theorem conf_inv {H : Hp} {v : V} {c : Conf} (h : Dv H v c) : ∃ a vf vs vi_ vo_, v = .ref a ∧ H a = some (.tup [.str "config", vf, vs, vi_, vo_]) ∧ Dv H vf c.fab ∧ Dv H vs c.set ∧ Dv H vi_ c.ins ∧ Dv H vo_ c.outs := by
  obtain ⟨a, us, rfl, ha, hx⟩ := dh_tup h
  obtain ⟨v0, r0, rfl, h0, hx⟩ := dha_cons hx
  obtain ⟨v1, r1, rfl, h1, hx⟩ := dha_cons hx
  obtain ⟨v2, r2, rfl, h2, hx⟩ := dha_cons hx
  obtain ⟨v3, r3, rfl, h3, hx⟩ := dha_cons hx
  obtain ⟨v4, r4, rfl, h4, hx⟩ := dha_cons hx
  cases dha_nil hx
  cases h0
  exact ⟨a, v1, v2, v3, v4, rfl, ha, h1, h2, h3, h4⟩

end K57
namespace K57
open PySem PySem.Spec PyProof.Rows L2 V0
/-! ### small numbers of a fabric -/
theorem fi (f : Fab) (j : Nat) {v : V} (h : f.its[j]? = some v) : atI f.its (j : Int) = some v := atI_nat h
def Fab.tapMost (f : Fab) : Nat := 1 + 4 * f.t
def tapB (t : Nat) : Nat := Builtin.Int.intBits ((1 + 4 * t : Nat) : Int)
def Fab.setBits (f : Fab) : Nat := 2 ^ f.p + 2 + f.p * tapB f.t + 4 * f.t * 3
def Fab.size (f : Fab) (i o : Nat) : Nat := 27 + f.w * f.h * f.setBits + (i + o) * 13 + 16
structure FabOk (f : Fab) : Prop where
  w0 : 1 ≤ f.w
  w1 : f.w ≤ 12
  h0 : 1 ≤ f.h
  h1 : f.h ≤ 12
  t0 : 1 ≤ f.t
  t1 : f.t ≤ 8
  p0 : 1 ≤ f.p
  p1 : f.p ≤ 4
theorem tapB_le {t : Nat} (h : t ≤ 8) : tapB t ≤ 6 := by
  have : t = 0 ∨ t = 1 ∨ t = 2 ∨ t = 3 ∨ t = 4 ∨ t = 5 ∨ t = 6 ∨ t = 7 ∨ t = 8 := by omega
  rcases this with rfl | rfl | rfl | rfl | rfl | rfl | rfl | rfl | rfl <;> decide
def sp_greatest_tap (K : PySem.W.Frag) : Sp := fun ws H Q _ => ∃ (v : V) (f : Fab), ws = [v] ∧ Dv H v f ∧ f.t ≤ 8 ∧ Q (.int (f.tapMost : Nat)) H
theorem ok_greatest_tap {P : Program} {w : World} {K : PySem.W.Frag} {mg : Str → Option Value} {base : Heap} {C_BitsError fI_BitsError : Addr} {fd_BitsError : FuncData} {B_ : Addr} {mc_ : Value} {O_FitError : Addr} {O_TextError : Addr} {tk_MOST_PLACES : Tok} {tk_MOST_TRACKS : Tok} {tk_MOST_PINS : Tok} {tk_MOST_ENDS : Tok} {tk_HEAD_BITS : Tok} {tk_END_BITS : Tok} {tk_SUM_BITS : Tok} {tk_DRIVE_BITS : Tok} {a_HEAD : Addr} {a_END : Addr} {a_STEPS_0 : Addr} {a_STEPS_1 : Addr} {a_STEPS_2 : Addr} {a_STEPS_3 : Addr} {a_STEPS : Addr} {f  : Addr} {fd  : FuncData} (F : Fun K "greatest_tap" "greatest_tap" s_greatest_tap f fd) (T : Txt K mg C_BitsError fI_BitsError fd_BitsError B_ mc_ O_FitError O_TextError tk_MOST_PLACES tk_MOST_TRACKS tk_MOST_PINS tk_MOST_ENDS tk_HEAD_BITS tk_END_BITS tk_SUM_BITS tk_DRIVE_BITS a_HEAD a_END a_STEPS_0 a_STEPS_1 a_STEPS_2 a_STEPS_3 a_STEPS) :
    FnOk P w K mg base CX0 1 f fd ["fabric"] (sp_greatest_tap K) := by
  refine F.ok scgreatest_tap (fun vs H Q E h => ?_) (fun cdv A outer s H vs Q E hr h => ?_)
  · obtain ⟨v, f, rfl, _⟩ := h
    rfl
  · obtain ⟨v, f, rfl, hv, t1, q⟩ := h
    refine ⟨_, (pss_one (ps_ret (pe_op op_add pe_int (pe_op op_mul pe_int (pe_ix (r := rIxT K) ix_tup (pv 0) pe_int (fun _ _ => rfl)))))), ?_⟩
    obtain ⟨a, rfl, ha⟩ := fab_inv hv
    refine ⟨_, rfl, a, _, 3, _, rfl, rfl, SqT.of ha, atI_nat (j := 3) rfl, _, _, rfl, rfl, .inl ⟨by decide, by decide⟩, _, _, rfl, rfl, ?_⟩
    have e : (1 : Int) + 4 * ((f.t : Nat) : Int) = ((f.tapMost : Nat) : Int) := by unfold Fab.tapMost; omega
    rw [← e] at q
    exact q
def sp_greatest_drive (K : PySem.W.Frag) : Sp := fun ws H Q _ => ws = [] ∧ Q (.int 5) H
theorem ok_greatest_drive {P : Program} {w : World} {K : PySem.W.Frag} {mg : Str → Option Value} {base : Heap} {C_BitsError fI_BitsError : Addr} {fd_BitsError : FuncData} {B_ : Addr} {mc_ : Value} {O_FitError : Addr} {O_TextError : Addr} {tk_MOST_PLACES : Tok} {tk_MOST_TRACKS : Tok} {tk_MOST_PINS : Tok} {tk_MOST_ENDS : Tok} {tk_HEAD_BITS : Tok} {tk_END_BITS : Tok} {tk_SUM_BITS : Tok} {tk_DRIVE_BITS : Tok} {a_HEAD : Addr} {a_END : Addr} {a_STEPS_0 : Addr} {a_STEPS_1 : Addr} {a_STEPS_2 : Addr} {a_STEPS_3 : Addr} {a_STEPS : Addr} {f  : Addr} {fd  : FuncData} (F : Fun K "greatest_drive" "greatest_drive" s_greatest_drive f fd) (T : Txt K mg C_BitsError fI_BitsError fd_BitsError B_ mc_ O_FitError O_TextError tk_MOST_PLACES tk_MOST_TRACKS tk_MOST_PINS tk_MOST_ENDS tk_HEAD_BITS tk_END_BITS tk_SUM_BITS tk_DRIVE_BITS a_HEAD a_END a_STEPS_0 a_STEPS_1 a_STEPS_2 a_STEPS_3 a_STEPS) :
    FnOk P w K mg base CX0 1 f fd [] (sp_greatest_drive K) := by
  refine F.ok scgreatest_drive (fun vs H Q E h => ?_) (fun cdv A outer s H vs Q E hr h => ?_)
  · rw [h.1]
    rfl
  · obtain ⟨rfl, q⟩ := h
    exact ⟨_, (pss_one (ps_ret pe_int)), q⟩
def sp__tap_bits (K : PySem.W.Frag) : Sp := fun ws H Q _ => ∃ (v : V) (f : Fab), ws = [v] ∧ Dv H v f ∧ f.t ≤ 8 ∧ Q (.int (tapB f.t : Nat)) H
theorem ok__tap_bits {P : Program} {w : World} {K : PySem.W.Frag} {mg : Str → Option Value} {base : Heap} {C_BitsError fI_BitsError : Addr} {fd_BitsError : FuncData} {B_ : Addr} {mc_ : Value} {O_FitError : Addr} {O_TextError : Addr} {tk_MOST_PLACES : Tok} {tk_MOST_TRACKS : Tok} {tk_MOST_PINS : Tok} {tk_MOST_ENDS : Tok} {tk_HEAD_BITS : Tok} {tk_END_BITS : Tok} {tk_SUM_BITS : Tok} {tk_DRIVE_BITS : Tok} {a_HEAD : Addr} {a_END : Addr} {a_STEPS_0 : Addr} {a_STEPS_1 : Addr} {a_STEPS_2 : Addr} {a_STEPS_3 : Addr} {a_STEPS : Addr} {f fgreatest_tap : Addr} {fd fdgreatest_tap : FuncData} (F : Fun K "_tap_bits" "_tap_bits" s__tap_bits f fd) (T : Txt K mg C_BitsError fI_BitsError fd_BitsError B_ mc_ O_FitError O_TextError tk_MOST_PLACES tk_MOST_TRACKS tk_MOST_PINS tk_MOST_ENDS tk_HEAD_BITS tk_END_BITS tk_SUM_BITS tk_DRIVE_BITS a_HEAD a_END a_STEPS_0 a_STEPS_1 a_STEPS_2 a_STEPS_3 a_STEPS)
    (G_greatest_tap : FnOk P w K mg base CX0 1 fgreatest_tap fdgreatest_tap ["fabric"] (sp_greatest_tap K)) (D_greatest_tap : Def K mg "greatest_tap" fgreatest_tap fdgreatest_tap ["fabric"]) :
    FnOk P w K mg base CX0 2 f fd ["fabric"] (sp__tap_bits K) := by
  refine F.ok sc_tap_bits (fun vs H Q E h => ?_) (fun cdv A outer s H vs Q E hr h => ?_)
  · obtain ⟨v, f, rfl, _⟩ := h
    rfl
  · obtain ⟨v, f, rfl, hv, t1, q⟩ := h
    exact ⟨_, (pss_one (ps_ret (pe_bits (pe_call G_greatest_tap (hr.mono (by omega)) (by rfl) D_greatest_tap.m D_greatest_tap.k D_greatest_tap.b .nil pass0 (pa_cons (pv 0) pa_nil))))), _, rfl, v, f, rfl, hv, t1, _, rfl, q⟩
def sp__setting_bits (K : PySem.W.Frag) : Sp := fun ws H Q _ => ∃ (v : V) (f : Fab), ws = [v] ∧ Dv H v f ∧ f.t ≤ 8 ∧ f.p ≤ 4 ∧ Q (.int (f.setBits : Nat)) H
theorem ok__setting_bits {P : Program} {w : World} {K : PySem.W.Frag} {mg : Str → Option Value} {base : Heap} {C_BitsError fI_BitsError : Addr} {fd_BitsError : FuncData} {B_ : Addr} {mc_ : Value} {O_FitError : Addr} {O_TextError : Addr} {tk_MOST_PLACES : Tok} {tk_MOST_TRACKS : Tok} {tk_MOST_PINS : Tok} {tk_MOST_ENDS : Tok} {tk_HEAD_BITS : Tok} {tk_END_BITS : Tok} {tk_SUM_BITS : Tok} {tk_DRIVE_BITS : Tok} {a_HEAD : Addr} {a_END : Addr} {a_STEPS_0 : Addr} {a_STEPS_1 : Addr} {a_STEPS_2 : Addr} {a_STEPS_3 : Addr} {a_STEPS : Addr} {f f_tap_bits : Addr} {fd fd_tap_bits : FuncData} (F : Fun K "_setting_bits" "_setting_bits" s__setting_bits f fd) (T : Txt K mg C_BitsError fI_BitsError fd_BitsError B_ mc_ O_FitError O_TextError tk_MOST_PLACES tk_MOST_TRACKS tk_MOST_PINS tk_MOST_ENDS tk_HEAD_BITS tk_END_BITS tk_SUM_BITS tk_DRIVE_BITS a_HEAD a_END a_STEPS_0 a_STEPS_1 a_STEPS_2 a_STEPS_3 a_STEPS)
    (G__tap_bits : FnOk P w K mg base CX0 2 f_tap_bits fd_tap_bits ["fabric"] (sp__tap_bits K)) (D__tap_bits : Def K mg "_tap_bits" f_tap_bits fd_tap_bits ["fabric"]) :
    FnOk P w K mg base CX0 3 f fd ["fabric"] (sp__setting_bits K) := by
  refine F.ok sc_setting_bits (fun vs H Q E h => ?_) (fun cdv A outer s H vs Q E hr h => ?_)
  · obtain ⟨v, f, rfl, _⟩ := h
    rfl
  · obtain ⟨v, f, rfl, hv, t1, p1, q⟩ := h
    refine ⟨_, (pss_cons (ps_asg (pv 0) (pg_tup (by rfl) (pgs_cons (pg_name (i := 1) sc_setting_bits.nd rfl (Or.inl rfl)) (pgs_cons (pg_name (i := 1) sc_setting_bits.nd rfl (Or.inl rfl)) (pgs_cons (pg_name (i := 1) sc_setting_bits.nd rfl (Or.inl rfl)) (pgs_cons (pg_name (i := 2) sc_setting_bits.nd rfl (Or.inl rfl)) (pgs_cons (pg_name (i := 3) sc_setting_bits.nd rfl (Or.inl rfl)) pgs_nil)))))))
      (pss_one (ps_ret (pe_op op_add (pe_op op_add (pe_op op_add (pe_op op_shl pe_int (pv 3)) pe_int) (pe_op op_mul (pv 3) (pe_call G__tap_bits (hr.mono (by omega)) (by rfl) D__tap_bits.m D__tap_bits.k D__tap_bits.b .nil pass0 (pa_cons (pv 0) pa_nil)))) (pe_op op_mul (pe_op op_mul pe_int (pv 2)) (pe_glob (v := V.int _) rfl T.m_DRIVE_BITS ⟨_, rfl⟩)))))), ?_⟩
    obtain ⟨a, rfl, ha⟩ := fab_inv hv
    have tb := tapB_le t1
    refine ⟨_, rfl, a, _, rfl, SqT.of ha, rfl, _, _, rfl, _, _, rfl, _, _, rfl, _, _, rfl, _, _, rfl, rfl, ?_⟩
    refine ⟨_, rfl, _, _, rfl, rfl, ⟨by omega, by omega, by decide⟩, _, _, rfl, rfl, _, rfl, _, rfl, .ref a, f, rfl, hv, t1, _, _, rfl, rfl, .inl ⟨by omega, by omega⟩, _, _, rfl, rfl, _, rfl, _, _, rfl, rfl, .inl ⟨by omega, by omega⟩, _, _, rfl, rfl, .inl ⟨by omega, by omega⟩, _, _, rfl, rfl, ?_⟩
    have e : (1 : Int) * 2 ^ ((f.p : Nat) : Int).toNat + 2 + ((f.p : Nat) : Int) * ((tapB f.t : Nat) : Int) + 4 * ((f.t : Nat) : Int) * 3 = ((f.setBits : Nat) : Int) := by
      unfold Fab.setBits
      rw [Int.toNat_natCast, Int.one_mul]
      push_cast
      rfl
    rw [← e] at q
    exact q
def sp_size_of (K : PySem.W.Frag) : Sp := fun ws H Q _ => ∃ (v : V) (f : Fab) (i o : Nat), ws = [v, .int (i : Nat), .int (o : Nat)] ∧ Dv H v f ∧ FabOk f ∧ i ≤ 1000 ∧ o ≤ 1000 ∧ Q (.int (f.size i o : Nat)) H
theorem ok_size_of {P : Program} {w : World} {K : PySem.W.Frag} {mg : Str → Option Value} {base : Heap} {C_BitsError fI_BitsError : Addr} {fd_BitsError : FuncData} {B_ : Addr} {mc_ : Value} {O_FitError : Addr} {O_TextError : Addr} {tk_MOST_PLACES : Tok} {tk_MOST_TRACKS : Tok} {tk_MOST_PINS : Tok} {tk_MOST_ENDS : Tok} {tk_HEAD_BITS : Tok} {tk_END_BITS : Tok} {tk_SUM_BITS : Tok} {tk_DRIVE_BITS : Tok} {a_HEAD : Addr} {a_END : Addr} {a_STEPS_0 : Addr} {a_STEPS_1 : Addr} {a_STEPS_2 : Addr} {a_STEPS_3 : Addr} {a_STEPS : Addr} {f f_setting_bits : Addr} {fd fd_setting_bits : FuncData} (F : Fun K "size_of" "size_of" s_size_of f fd) (T : Txt K mg C_BitsError fI_BitsError fd_BitsError B_ mc_ O_FitError O_TextError tk_MOST_PLACES tk_MOST_TRACKS tk_MOST_PINS tk_MOST_ENDS tk_HEAD_BITS tk_END_BITS tk_SUM_BITS tk_DRIVE_BITS a_HEAD a_END a_STEPS_0 a_STEPS_1 a_STEPS_2 a_STEPS_3 a_STEPS)
    (G__setting_bits : FnOk P w K mg base CX0 3 f_setting_bits fd_setting_bits ["fabric"] (sp__setting_bits K)) (D__setting_bits : Def K mg "_setting_bits" f_setting_bits fd_setting_bits ["fabric"]) :
    FnOk P w K mg base CX0 4 f fd ["fabric", "ins", "outs"] (sp_size_of K) := by
  refine F.ok scsize_of (fun vs H Q E h => ?_) (fun cdv A outer s H vs Q E hr h => ?_)
  · obtain ⟨v, f, i, o, rfl, _⟩ := h
    rfl
  · obtain ⟨v, f, i, o, rfl, hv, ok, i1, o1, q⟩ := h
    refine ⟨_, (pss_cons (ps_set (i := 3) scsize_of.nd rfl (.inl rfl) (pe_op op_mul (pe_ix (r := rIxT K) ix_tup (pv 0) pe_int (fun _ _ => rfl)) (pe_ix (r := rIxT K) ix_tup (pv 0) pe_int (fun _ _ => rfl))))
      (pss_one (ps_ret (pe_op op_add (pe_op op_add (pe_op op_add (pe_glob (v := V.int _) rfl T.m_HEAD_BITS ⟨_, rfl⟩) (pe_op op_mul (pv 3) (pe_call G__setting_bits (hr.mono (by omega)) (by rfl) D__setting_bits.m D__setting_bits.k D__setting_bits.b .nil pass0 (pa_cons (pv 0) pa_nil)))) (pe_op op_mul (pe_op op_add (pv 1) (pv 2)) (pe_glob (v := V.int _) rfl T.m_END_BITS ⟨_, rfl⟩))) (pe_glob (v := V.int _) rfl T.m_SUM_BITS ⟨_, rfl⟩))))), ?_⟩
    obtain ⟨a, rfl, ha⟩ := fab_inv hv
    have h1 := ok.w1
    have h2 := ok.h1
    refine ⟨_, rfl, a, _, 1, _, rfl, rfl, SqT.of ha, atI_nat (j := 1) rfl, _, rfl, a, _, 2, _, rfl, rfl, SqT.of ha, atI_nat (j := 2) rfl, _, _, rfl, rfl, .inl ⟨by omega, by omega⟩, ?_⟩
    have wh : ((f.w : Nat) : Int) * ((f.h : Nat) : Int) ≤ 12 * 12 := Int.mul_le_mul (by omega) (by omega) (by omega) (by omega)
    have wh0 : 0 ≤ ((f.w : Nat) : Int) * ((f.h : Nat) : Int) := Int.mul_nonneg (by omega) (by omega)
    refine ⟨_, rfl, _, rfl, .ref a, f, rfl, hv, ok.t1, ok.p1, _, _, rfl, rfl, .inl ⟨by omega, by omega⟩, _, _, rfl, rfl, _, rfl, _, rfl, _, _, rfl, rfl, _, _, rfl, rfl, .inl ⟨by omega, by omega⟩, _, _, rfl, rfl, _, _, rfl, rfl, ?_⟩
    have e : (27 : Int) + ((f.w : Nat) : Int) * ((f.h : Nat) : Int) * ((f.setBits : Nat) : Int) + (((i : Nat) : Int) + ((o : Nat) : Int)) * 13 + 16 = ((f.size i o : Nat) : Int) := by
      unfold Fab.size
      push_cast
      rfl
    rw [← e] at q
    exact q

end K57
namespace K57
open PySem PySem.Spec PyProof.Rows L2 V0
/-! ### numbers as bits -/
/-- the low w bits of n, the lowest first -/
def bt (n w : Nat) : List Nat := (List.range w).map fun k => n / 2 ^ k % 2
def wr (ns ws : List Nat) : List Nat := ((List.range ns.length).map fun i => bt (ns[i]?.getD 0) (ws[i]?.getD 0)).flatten
theorem bt_len (n w : Nat) : (bt n w).length = w := by
  unfold bt
  rw [List.length_map, List.length_range]
def nsum (ws : List Nat) : Nat := ws.foldr (· + ·) 0
theorem flat_step {f : Nat → List Nat} (i : Nat) : ((List.range (i + 1)).map f).flatten = ((List.range i).map f).flatten ++ f i := by
  rw [List.range_succ, List.map_append, List.flatten_append]
  simp
theorem bt_step (n k : Nat) : bt n (k + 1) = bt n k ++ [n / 2 ^ k % 2] := by
  unfold bt
  rw [List.range_succ, List.map_append]
  rfl
theorem flat_len {f : Nat → List Nat} {B : Nat} : ∀ n, (∀ i, i < n → (f i).length ≤ B) → (((List.range n).map f).flatten).length ≤ n * B
  | 0, _ => by simp
  | n + 1, h => by
    rw [flat_step, List.length_append, Nat.succ_mul]
    exact Nat.add_le_add (flat_len n fun i hi => h i (by omega)) (h n (by omega))
def sp__written (K : PySem.W.Frag) : Sp := fun vs H Q _ => ∃ (t1 t2 : Bool) (a b : Addr) (ns ws : List Nat), vs = [.ref a, .ref b] ∧ SqV t1 K H a (vn ns) ∧ SqV t2 K H b (vn ws) ∧ ns.length = ws.length ∧ ns.length ≤ 1000 ∧ (∀ x ∈ ws, x ≤ 60) ∧
  ∀ H' l, Same H H' → H l = none → H' l = some (.lst (vn (wr ns ws))) → Q (.ref l) H'
theorem SqV.same {t : Bool} {K : PySem.W.Frag} {H H' : Hp} {a : Addr} {xs : List V} (h : SqV t K H a xs) (s : Same H H') : SqV t K H' a xs := by
  cases t
  · rcases h with (h | ⟨o, h⟩) | h
    · exact .inl (.inl (s _ _ h))
    · exact .inl (.inr ⟨o, s _ _ h⟩)
    · exact .inr h
  · exact tup_same s h
theorem nat_at' {xs : List Nat} {i : Nat} {w : V} (h : (vn xs)[i]? = some w) : ∃ k, xs[i]? = some k ∧ w = .int (k : Nat) ∧ k ∈ xs := by
  unfold vn at h
  rw [List.getElem?_map] at h
  obtain ⟨k, hk, e⟩ := Option.map_eq_some_iff.mp h
  exact ⟨k, hk, e.symm, List.mem_of_getElem? hk⟩
theorem Walk.wk {J : It} {n : Nat} {G : Hp → Prop} {Y : Nat → Hp → V → Hp → Prop} (w : Walk J n G Y) : Wk J n Y (fun _ H => G H) := ⟨fun H h => w.stops H h, fun i H h s => w.goes i H h s, fun i H x H' h s y => w.yields i H x H' h s y⟩
theorem ok__written {P : Program} {w : World} {K : PySem.W.Frag} {mg : Str → Option Value} {base : Heap} {C_BitsError fI_BitsError : Addr} {fd_BitsError : FuncData} {B_ : Addr} {mc_ : Value} {O_FitError : Addr} {O_TextError : Addr} {tk_MOST_PLACES : Tok} {tk_MOST_TRACKS : Tok} {tk_MOST_PINS : Tok} {tk_MOST_ENDS : Tok} {tk_HEAD_BITS : Tok} {tk_END_BITS : Tok} {tk_SUM_BITS : Tok} {tk_DRIVE_BITS : Tok} {a_HEAD : Addr} {a_END : Addr} {a_STEPS_0 : Addr} {a_STEPS_1 : Addr} {a_STEPS_2 : Addr} {a_STEPS_3 : Addr} {a_STEPS : Addr} {f  : Addr} {fd  : FuncData} (F : Fun K "_written" "_written" s__written f fd) (T : Txt K mg C_BitsError fI_BitsError fd_BitsError B_ mc_ O_FitError O_TextError tk_MOST_PLACES tk_MOST_TRACKS tk_MOST_PINS tk_MOST_ENDS tk_HEAD_BITS tk_END_BITS tk_SUM_BITS tk_DRIVE_BITS a_HEAD a_END a_STEPS_0 a_STEPS_1 a_STEPS_2 a_STEPS_3 a_STEPS) :
    FnOk P w K mg base CX0 1 f fd ["numbers", "widths"] (sp__written K) := by
  refine F.ok sc_written (fun vs H Q E h => ?_) (fun cdv A outer s H vs Q E hr h => ?_)
  · obtain ⟨t1, t2, a, b, ns, ws, rfl, _⟩ := h
    rfl
  · obtain ⟨t1, t2, a, b, ns, ws, rfl, ha, hb, ln, few, bw, q⟩ := h
    refine ⟨_, (pss_one (ps_ret (pe_lc2 (own := [("number", 2), ("width", 3), ("at", 4)]) (vs1 := [4]) (g := gTup K 2 (gCons (gName 2) (gCons (gName 3) (gNil)))) (g1 := gName 4) (tt := tYes) (tt1 := tYes) rfl sc_written.nd (V0.pi_zip2 (by rfl) T.m_zip (pa_cons (pv 0) (pa_cons (pv 1) pa_nil))) (blkOk_by (N := N__written) (sc := defScope s__written) (by decide +kernel)) (by decide) (fun _ _ _ _ _ => (pg_tup (by rfl) (pgs_cons (pg_name (i := 2) sc_written.nd rfl (Or.inl rfl)) (pgs_cons (pg_name (i := 3) sc_written.nd rfl (Or.inl rfl)) pgs_nil)))) (fun _ _ _ _ _ => pts_nil) (fun _ _ _ _ _ => (pi_range1 rfl T.m_range (pa_cons (pv 3) pa_nil))) (fun _ _ _ _ _ => (pg_name (i := 4) sc_written.nd rfl (Or.inl rfl))) (fun _ _ _ _ _ => pts_nil) (fun _ _ _ _ _ => (pe_op op_and (pe_op op_shr (pv 2) (pv 4)) pe_int))))), ?_⟩
    have ll : (vn ns).length = (vn ws).length := by rw [vn_len, vn_len, ln]
    refine ⟨_, rfl, _, rfl, t1, t2, a, b, vn ns, vn ws, rfl, ha, hb, fun D nD => ?_⟩
    have wk := Walk.wk (walk_zip2 (K := K) (t1 := t1) (t2 := t2) (b1 := a) (b2 := b) ll)
    rw [vn_len] at wk
    have bound : ∀ n, n ≤ ns.length → (((List.range n).map fun i => bt (ns[i]?.getD 0) (ws[i]?.getD 0)).flatten).length ≤ 60000 := fun n hn => by
      refine Nat.le_trans (flat_len (B := 60) n fun i hi => ?_) (by omega)
      rw [bt_len, List.getElem?_eq_getElem (by omega), Option.getD_some]
      exact bw _ (List.getElem_mem _)
    refine lc2_out wk (fun i Hx => Same H Hx ∧ Hx D = some (.lst (vn (((List.range i).map fun i => bt (ns[i]?.getD 0) (ws[i]?.getD 0)).flatten)))) ⟨same_new nD, upd_same⟩ (fun i Hx _ h => ⟨SqV.same ha h.1, SqV.same hb h.1⟩) ?_ ?_
    · rintro i Hx x Hx' hi ⟨sx, hD⟩ ⟨T1, x1, x2, rfl, nT, rfl, e1, e2⟩
      obtain ⟨n, en, rfl, _⟩ := nat_at' e1
      obtain ⟨w, ew, rfl, wm⟩ := nat_at' e2
      have w60 := bw w wm
      have sT := same_new (o := .tup [V.int (n : Nat), .int (w : Nat)]) nT
      refine ⟨T1, _, rfl, SqT.of upd_same, rfl, _, _, rfl, _, _, rfl, rfl, rfl, ?_⟩
      have hD' := sT _ _ hD
      have sx' := sx.trans sT
      generalize (upd Hx T1 (.tup [V.int (n : Nat), .int (w : Nat)])) = Hy at hD' sx' ⊢
      refine ⟨_, rfl, _, rfl, by omega, by omega, lc2_out (wk_range (n := w)) (fun k Hz => Same H Hz ∧ Hz D = some (.lst (vn (((List.range i).map fun i => bt (ns[i]?.getD 0) (ws[i]?.getD 0)).flatten ++ bt n k)))) ⟨sx', by rw [show bt n 0 = [] from rfl, List.append_nil]; exact hD'⟩ (fun _ _ _ _ => trivial) ?_ ?_⟩
      · rintro k Hz x Hz' hk ⟨sz, hz⟩ ⟨rfl, rfl⟩
        show gName 4 (V.int ((0 : Int) + (k : Nat))) _ _ _
        rw [Int.zero_add]
        refine ⟨rfl, _, rfl, _, rfl, _, _, rfl, rfl, Int.natCast_nonneg _, _, _, rfl, rfl, ?_⟩
        refine ⟨_, hz, ?_, same_mut sz nD, ?_⟩
        · rw [vn_len, List.length_append, bt_len]
          have := bound i (by omega)
          exact small64k (by omega)
        · rw [upd_same, shr_nat]
          show some (HO.lst (_ ++ [V.int (Builtin.bitAnd ((n / 2 ^ k : Nat) : Int) 1)])) = _
          rw [band_one, bt_step, ← List.append_assoc]
          unfold vn
          rw [List.map_append (l₂ := [n / 2 ^ k % 2])]
          rfl
      · rintro Hz ⟨sz, hz⟩
        refine ⟨sz, ?_⟩
        rw [flat_step, en, ew]
        exact hz
    · rintro Hx ⟨sx, hD⟩
      exact q Hx D sx nD hD

end K57
namespace K57
open PySem PySem.Spec PyProof.Rows L2 V0
/-! ### the check sum, by a register and by division -/
def crcS (r b : Nat) : Nat := if r * 2 / 65536 ≠ b then (r * 2 % 65536) ^^^ 4129 else r * 2 % 65536
def crc (bs : List Nat) : Nat := bs.foldl crcS 65535
theorem crcS_lt (r b : Nat) : crcS r b < 65536 := by
  unfold crcS
  split
  · exact Nat.xor_lt_two_pow (n := 16) (Nat.mod_lt _ (by decide)) (by decide)
  · exact Nat.mod_lt _ (by decide)
theorem crc_lt (bs : List Nat) : crc bs < 65536 := by
  unfold crc
  have : ∀ (bs : List Nat) (r : Nat), r < 65536 → bs.foldl crcS r < 65536 := by
    intro bs
    induction bs with
    | nil => exact fun r h => h
    | cons b bs ih => exact fun r _ => ih _ (crcS_lt r b)
  exact this bs _ (by decide)
theorem crc_step {bs : List Nat} {i b : Nat} (h : bs[i]? = some b) : crc (bs.take (i + 1)) = crcS (crc (bs.take i)) b := by
  unfold crc
  rw [take_snoc h, List.foldl_append]
  rfl
/-- bit j of the register, the highest first -/
def rb (r j : Nat) : Bool := r.testBit (15 - j) && decide (j < 16)
theorem poly_bit : ∀ j, j < 16 → Nat.testBit 4129 (15 - j) = (j == 3 || j == 10 || j == 15) := by decide
theorem top_bit {r : Nat} (h : r < 65536) : r * 2 / 65536 = (rb r 0).toNat := by
  have e : r * 2 / 65536 = r / 32768 := by omega
  have e2 : rb r 0 = decide (r / 32768 % 2 = 1) := by
    unfold rb
    rw [Nat.testBit_eq_decide_div_mod_eq]
    simp
  rw [e, e2]
  have : r / 32768 = 0 ∨ r / 32768 = 1 := by omega
  rcases this with h | h <;> rw [h] <;> rfl
theorem rb_step {r b : Nat} (hr : r < 65536) {j : Nat} (hj : j < 16) : rb (crcS r b) j = Bool.xor (rb r (j + 1)) (decide ((rb r 0).toNat ≠ b) && (j == 3 || j == 10 || j == 15)) := by
  have lo : ∀ i, i < 16 → (r * 2 % 65536).testBit (15 - i) = rb r (i + 1) := fun i hi => by
    rw [show (65536 : Nat) = 2 ^ 16 by decide, Nat.testBit_mod_two_pow, show r * 2 = r * 2 ^ 1 by omega, Nat.testBit_mul_two_pow]
    unfold rb
    by_cases e : i = 15
    · subst e
      simp
    · have h1 : 1 ≤ 15 - i := by omega
      have h2 : 15 - i < 16 := by omega
      have h3 : i + 1 < 16 := by omega
      rw [decide_eq_true h2, decide_eq_true h3, show 15 - i - 1 = 15 - (i + 1) by omega]
      simp [h1]
  unfold crcS
  rw [top_bit hr]
  have hrb : ∀ x, rb x j = x.testBit (15 - j) := fun x => by
    unfold rb
    rw [decide_eq_true hj, Bool.and_true]
  by_cases c : (rb r 0).toNat ≠ b
  · rw [if_pos c, hrb, Nat.testBit_xor, lo j hj, poly_bit j hj, decide_eq_true c, Bool.true_and]
  · rw [if_neg c, hrb, lo j hj, decide_eq_false c, Bool.false_and, Bool.xor_false]
/-- the register, written out -/
def crcL (bs : List Nat) : List Nat := (List.range 16).map fun j => (rb (crc bs) j).toNat
theorem bxor (a b : Nat) : Builtin.bitXor (a : Int) (b : Int) = ((a ^^^ b : Nat) : Int) := by
  rw [Bits.bitXor_pp (Int.natCast_nonneg _) (Int.natCast_nonneg _), Int.toNat_natCast, Int.toNat_natCast]
def sp_sum_of (K : PySem.W.Frag) : Sp := fun vs H Q _ => ∃ (a : Addr) (bs : List Nat), vs = [.ref a] ∧ H a = some (.lst (vn bs)) ∧ Q (.int (crc bs : Nat)) H
theorem ok_sum_of {P : Program} {w : World} {K : PySem.W.Frag} {mg : Str → Option Value} {base : Heap} {C_BitsError fI_BitsError : Addr} {fd_BitsError : FuncData} {B_ : Addr} {mc_ : Value} {O_FitError : Addr} {O_TextError : Addr} {tk_MOST_PLACES : Tok} {tk_MOST_TRACKS : Tok} {tk_MOST_PINS : Tok} {tk_MOST_ENDS : Tok} {tk_HEAD_BITS : Tok} {tk_END_BITS : Tok} {tk_SUM_BITS : Tok} {tk_DRIVE_BITS : Tok} {a_HEAD : Addr} {a_END : Addr} {a_STEPS_0 : Addr} {a_STEPS_1 : Addr} {a_STEPS_2 : Addr} {a_STEPS_3 : Addr} {a_STEPS : Addr} {f  : Addr} {fd  : FuncData} (F : Fun K "sum_of" "sum_of" s_sum_of f fd) (T : Txt K mg C_BitsError fI_BitsError fd_BitsError B_ mc_ O_FitError O_TextError tk_MOST_PLACES tk_MOST_TRACKS tk_MOST_PINS tk_MOST_ENDS tk_HEAD_BITS tk_END_BITS tk_SUM_BITS tk_DRIVE_BITS a_HEAD a_END a_STEPS_0 a_STEPS_1 a_STEPS_2 a_STEPS_3 a_STEPS) :
    FnOk P w K mg base CX0 1 f fd ["bits"] (sp_sum_of K) := by
  refine F.ok scsum_of (fun vs H Q E h => ?_) (fun cdv A outer s H vs Q E hr h => ?_)
  · obtain ⟨a, bs, rfl, _⟩ := h
    rfl
  · obtain ⟨a, bs, rfl, ha, q⟩ := h
    refine ⟨_, (pss_cons (ps_set (i := 1) scsum_of.nd rfl (.inl rfl) pe_int)
      (pss_cons (ps_for PassesOwn.never rfl (pi_list (pv 0)) (pg_name (i := 2) scsum_of.nd rfl (Or.inl rfl)) (pss_cons (ps_aug (i := 1) scsum_of.nd rfl (.inl rfl) pe_int V0.ip_mul)
      (pss_cons (ps_set (i := 3) scsum_of.nd rfl (.inl rfl) (pe_op op_shr (pv 1) pe_int))
      (pss_cons (ps_aug (i := 1) scsum_of.nd rfl (.inl rfl) pe_int V0.ip_and)
      (pss_one (ps_if (pt_cmpR op_ne (pv 3) (pv 2) (nomark _)) (pss_one (ps_aug (i := 1) scsum_of.nd rfl (.inl rfl) pe_int V0.ip_xor)) pss_nil))))))
      (pss_one (ps_ret (pv 1))))), ?_⟩
    refine ⟨_, rfl, a, rfl, ⟨_, SqL.of ha⟩, for_list (xs := vn bs) (fun i σ Hx => ∃ y2 y3 : Option V, σ = [some (.ref a), some (.int (crc (bs.take i) : Nat)), y2, y3] ∧ Hx = H) ⟨none, none, rfl, rfl⟩ (fun i σ Hx _ h => ?_) ?_ ?_⟩
    · obtain ⟨_, _, _, rfl⟩ := h
      exact SqL.of ha
    · rintro i w σ Hx hw ⟨y2, y3, rfl, rfl⟩
      obtain ⟨b, hb, rfl, _⟩ := nat_at' hw
      rw [crc_step hb]
      have lt := crc_lt (bs.take i)
      generalize crc (bs.take i) = r at lt
      refine ⟨_, rfl, _, _, rfl, rfl, .inl ⟨by omega, by omega⟩, ?_⟩
      refine ⟨_, rfl, _, _, rfl, rfl, by show (0 : Int) ≤ 16; decide, ?_⟩
      refine ⟨_, rfl, _, _, rfl, rfl, ?_⟩
      have e2 : Builtin.bitAnd (((r : Nat) : Int) * 2) 65535 = ((r * 2 % 65536 : Nat) : Int) := by
        rw [show ((r : Nat) : Int) * 2 = ((r * 2 : Nat) : Int) by omega, show (65535 : Int) = ((2 ^ 16 - 1 : Nat) : Int) by decide, band, Nat.and_two_pow_sub_one_eq_mod]
      have e3 : ((r : Nat) : Int) * 2 / 2 ^ ((16 : Int)).toNat = ((r * 2 / 65536 : Nat) : Int) := by
        rw [show ((r : Nat) : Int) * 2 = ((r * 2 : Nat) : Int) by omega]
        exact shr_nat _ 16
      refine ⟨_, rfl, _, rfl, rfl, _, rfl, ?_⟩
      simp only [e2, e3]
      rw [dec_nat]
      by_cases c : r * 2 / 65536 = b
      · rw [decide_eq_true c, show crcS r b = r * 2 % 65536 from if_neg (fun z => z c)]
        exact iteF ⟨_, _, rfl, rfl⟩
      · rw [decide_eq_false c, show crcS r b = (r * 2 % 65536) ^^^ 4129 from if_pos c]
        refine iteT ⟨_, rfl, _, _, rfl, rfl, some (.int (b : Nat)), some (.int ((r * 2 / 65536 : Nat) : Int)), ?_, rfl⟩
        have e4 : Builtin.bitXor ((r * 2 % 65536 : Nat) : Int) 4129 = (((r * 2 % 65536) ^^^ 4129 : Nat) : Int) := bxor _ 4129
        rw [← e4]
        rfl
    rintro σ Hx ⟨y2, y3, rfl, rfl⟩
    rw [vn_len, List.take_length]
    exact ⟨_, rfl, q⟩
def sp__sum_bits (K : PySem.W.Frag) : Sp := fun vs H Q _ => ∃ (a : Addr) (bs : List Nat), vs = [.ref a] ∧ H a = some (.lst (vn bs)) ∧ ∀ H' l, Same H H' → H l = none → H' l = some (.lst (vn (crcL bs))) → Q (.ref l) H'
theorem ok__sum_bits {P : Program} {w : World} {K : PySem.W.Frag} {mg : Str → Option Value} {base : Heap} {C_BitsError fI_BitsError : Addr} {fd_BitsError : FuncData} {B_ : Addr} {mc_ : Value} {O_FitError : Addr} {O_TextError : Addr} {tk_MOST_PLACES : Tok} {tk_MOST_TRACKS : Tok} {tk_MOST_PINS : Tok} {tk_MOST_ENDS : Tok} {tk_HEAD_BITS : Tok} {tk_END_BITS : Tok} {tk_SUM_BITS : Tok} {tk_DRIVE_BITS : Tok} {a_HEAD : Addr} {a_END : Addr} {a_STEPS_0 : Addr} {a_STEPS_1 : Addr} {a_STEPS_2 : Addr} {a_STEPS_3 : Addr} {a_STEPS : Addr} {f fsum_of : Addr} {fd fdsum_of : FuncData} (F : Fun K "_sum_bits" "_sum_bits" s__sum_bits f fd) (T : Txt K mg C_BitsError fI_BitsError fd_BitsError B_ mc_ O_FitError O_TextError tk_MOST_PLACES tk_MOST_TRACKS tk_MOST_PINS tk_MOST_ENDS tk_HEAD_BITS tk_END_BITS tk_SUM_BITS tk_DRIVE_BITS a_HEAD a_END a_STEPS_0 a_STEPS_1 a_STEPS_2 a_STEPS_3 a_STEPS)
    (G_sum_of : FnOk P w K mg base CX0 1 fsum_of fdsum_of ["bits"] (sp_sum_of K)) (D_sum_of : Def K mg "sum_of" fsum_of fdsum_of ["bits"]) :
    FnOk P w K mg base CX0 2 f fd ["bits"] (sp__sum_bits K) := by
  refine F.ok sc_sum_bits (fun vs H Q E h => ?_) (fun cdv A outer s H vs Q E hr h => ?_)
  · obtain ⟨a, bs, rfl, _⟩ := h
    rfl
  · obtain ⟨a, bs, rfl, ha, q⟩ := h
    refine ⟨_, (pss_cons (ps_set (i := 1) sc_sum_bits.nd rfl (.inr rfl) (pe_call G_sum_of (hr.mono (by omega)) (by rfl) D_sum_of.m D_sum_of.k D_sum_of.b .nil pass0 (pa_cons (pv 0) pa_nil)))
      (pss_one (ps_ret (pe_lc (own := [("at", 2)]) (g := gName 2) (tt := tYes) rfl sc_sum_bits.nd (pi_revR (by rfl) T.m_reversed (prg_1 (by rfl) T.m_range (pe_glob (v := V.int _) rfl T.m_SUM_BITS ⟨_, rfl⟩))) (blkOk_by (N := N__sum_bits) (sc := defScope s__sum_bits) (by decide +kernel)) (fun _ _ _ _ _ => (pg_name (i := 2) sc_sum_bits.nd rfl (Or.inl rfl))) (fun _ _ _ _ _ => pts_nil) (fun _ _ _ _ _ => (pe_op op_and (pe_op op_shr (pv 1) (pv 2)) pe_int)))))), ?_⟩
    refine ⟨_, rfl, a, bs, rfl, ha, ?_⟩
    refine ⟨_, rfl, by decide, by decide, by decide, by decide, fun D nD => lcA (n := 16) (walk_rangeC (lo := 15) (c := -1) (n := 16)) (fun j => .int ((rb (crc bs) j).toNat : Nat)) nD (by decide) (fun _ _ => True.intro) (fun j x Hz Hz' Q hj sz y qt => ?_) fun H2 s2 hD => ?_⟩
    · obtain ⟨rfl, rfl⟩ := y
      have ea : (15 : Int) + ((j : Nat) : Int) * -1 = ((15 - j : Nat) : Int) := by omega
      show gName 2 (V.int ((15 : Int) + ((j : Nat) : Int) * -1)) _ _ _
      rw [ea]
      refine ⟨rfl, _, rfl, _, rfl, _, _, rfl, rfl, Int.natCast_nonneg _, _, _, rfl, rfl, ?_⟩
      have e : Builtin.bitAnd (((crc bs : Nat) : Int) / 2 ^ (((15 - j : Nat) : Int)).toNat) 1 = (((rb (crc bs) j).toNat : Nat) : Int) := by
        rw [shr_nat, band_one]
        unfold rb
        rw [decide_eq_true hj, Bool.and_true, Nat.testBit_eq_decide_div_mod_eq]
        rcases Nat.mod_two_eq_zero_or_one (crc bs / 2 ^ (15 - j)) with h | h <;> rw [h] <;> rfl
      have qt' := qt _ (Same.refl _)
      rw [← e] at qt'
      exact qt'
    · refine q H2 D s2 nD ?_
      rw [hD]
      unfold crcL vn
      rw [List.map_map]
      rfl

end K57
namespace K57
open PySem PySem.Spec PyProof.Rows L2 V0
/-! ### the check sum, by division -/
def blN (N : Nat) (R : Nat → Bool) : List Nat := (List.range N).map fun k => (R k).toNat
theorem blN_len (N : Nat) (R : Nat → Bool) : (blN N R).length = N := by
  unfold blN
  rw [List.length_map, List.length_range]
theorem blN_get {N k : Nat} {R : Nat → Bool} (h : k < N) : (blN N R)[k]? = some (R k).toNat := by
  unfold blN
  rw [List.getElem?_map, List.getElem?_range h]
  rfl
theorem blN_ext {N : Nat} {R R' : Nat → Bool} (h : ∀ k, k < N → R k = R' k) : blN N R = blN N R' := List.map_congr_left fun k hk => by rw [h k (List.mem_range.mp hk)]
theorem blN_set {N k : Nat} {R : Nat → Bool} {b : Bool} : (vn (blN N R)).set k (.int (b.toNat : Nat)) = vn (blN N fun j => if j = k then b else R j) := by
  unfold vn blN
  rw [List.map_map, List.map_map]
  refine List.ext_getElem (by simp) fun i h1 h2 => ?_
  rw [List.getElem_set]
  simp only [List.getElem_map, List.getElem_range, Function.comp_apply]
  by_cases e : k = i
  · subst e
    rw [if_pos rfl, if_pos rfl]
  · rw [if_neg e, if_neg (fun z => e z.symm)]
theorem vn_at {xs : List Nat} {i n : Nat} (h : xs[i]? = some n) : (vn xs)[i]? = some (.int (n : Nat)) := vn_get h
theorem flip1 (b : Bool) : (1 : Int) - ((b.toNat : Nat) : Int) = (((!b).toNat : Nat) : Int) := by cases b <;> rfl
def mb (bs : List Nat) (k : Nat) : Bool := bs[k]?.getD 0 == 1
theorem bs_blN {bs : List Nat} (h : ∀ b ∈ bs, b < 2) : bs ++ List.replicate 16 0 = blN (bs.length + 16) (mb bs) := by
  refine List.ext_getElem? fun i => ?_
  by_cases hi : i < bs.length
  · rw [List.getElem?_append_left hi, blN_get (by omega), List.getElem?_eq_getElem hi]
    have h2 := h _ (List.getElem_mem hi)
    have : bs[i] = 0 ∨ bs[i] = 1 := by omega
    unfold mb
    rw [List.getElem?_eq_getElem hi, Option.getD_some]
    rcases this with e | e <;> rw [e] <;> rfl
  · by_cases h3 : i < bs.length + 16
    · rw [List.getElem?_append_right (by omega), blN_get h3, List.getElem?_replicate, if_pos (by omega)]
      unfold mb
      rw [List.getElem?_eq_none (by omega)]
      rfl
    · rw [List.getElem?_eq_none (by rw [List.length_append, List.length_replicate]; omega), List.getElem?_eq_none (by rw [blN_len]; omega)]
theorem rb_all (k : Nat) : rb 65535 k = decide (k < 16) := by
  unfold rb
  have h : ∀ i, i < 16 → Nat.testBit 65535 i = true := by decide
  rw [h (15 - k) (by omega), Bool.true_and]
theorem rb_out {r j : Nat} (h : ¬ j < 16) : rb r j = false := by
  unfold rb
  rw [decide_eq_false h, Bool.and_false]
def far4 : List Nat := [0, 4, 11, 16]
/-- one step of the division is one step of the register -/
theorem div_step {bs : List Nat} {R R' : Nat → Bool} {at_ b : Nat} (hb : bs[at_]? = some b) (b2 : b < 2) (inv : ∀ k, at_ ≤ k → R k = Bool.xor (rb (crc (bs.take at_)) (k - at_)) (mb bs k))
    (yes : R at_ = true → ∀ k, R' k = Bool.xor (R k) (decide (∃ f ∈ far4, k = at_ + f))) (no : R at_ = false → R' = R) : ∀ k, at_ + 1 ≤ k → R' k = Bool.xor (rb (crc (bs.take (at_ + 1))) (k - (at_ + 1))) (mb bs k) := by
  intro k hk
  rw [crc_step hb]
  have lt := crc_lt (bs.take at_)
  generalize crc (bs.take at_) = r at inv lt
  have i0 := inv at_ (Nat.le_refl _)
  rw [Nat.sub_self] at i0
  have ik := inv k (by omega)
  have mb0 : mb bs at_ = (b == 1) := by unfold mb; rw [hb]; rfl
  have c0 : R at_ = decide ((rb r 0).toNat ≠ b) := by
    rw [i0, mb0]
    have : b = 0 ∨ b = 1 := by omega
    rcases this with rfl | rfl <;> cases rb r 0 <;> rfl
  have ek : k - at_ = (k - (at_ + 1)) + 1 := by omega
  by_cases hj : k - (at_ + 1) < 16
  · rw [rb_step lt hj, ← ek, ← c0]
    cases c : R at_ with
    | false => rw [no c, ik, Bool.false_and, Bool.xor_false]
    | true =>
      have ed : decide (∃ f ∈ far4, k = at_ + f) = (k - (at_ + 1) == 3 || k - (at_ + 1) == 10 || k - (at_ + 1) == 15) := by
        have e1 : (∃ f ∈ far4, k = at_ + f) ↔ k - (at_ + 1) = 3 ∨ k - (at_ + 1) = 10 ∨ k - (at_ + 1) = 15 := by
          unfold far4
          simp only [List.mem_cons, List.not_mem_nil, or_false, exists_eq_or_imp, exists_eq_left]
          omega
        rw [Bool.eq_iff_iff, decide_eq_true_iff, e1]
        simp only [Bool.or_eq_true, beq_iff_eq, or_assoc]
      rw [yes c k, ik, Bool.true_and, ed]
      cases rb r (k - at_) <;> cases mb bs k <;> cases (k - (at_ + 1) == 3 || k - (at_ + 1) == 10 || k - (at_ + 1) == 15) <;> rfl
  · rw [rb_out hj]
    have ik2 : R k = mb bs k := by rw [ik, rb_out (by omega), Bool.false_xor]
    cases c : R at_ with
    | false => rw [no c, ik2, Bool.false_xor]
    | true =>
      have ed : decide (∃ f ∈ far4, k = at_ + f) = false := decide_eq_false (by
        unfold far4
        simp only [List.mem_cons, List.not_mem_nil, or_false, exists_eq_or_imp, exists_eq_left]
        omega)
      rw [yes c k, ed, ik2, Bool.xor_false, Bool.false_xor]
def sp__law_sum (K : PySem.W.Frag) : Sp := fun vs H Q _ => ∃ (a : Addr) (bs : List Nat), vs = [.ref a] ∧ H a = some (.lst (vn bs)) ∧ (∀ b ∈ bs, b < 2) ∧ bs.length ≤ 60000 ∧ ∀ H' l, Same H H' → H l = none → H' l = some (.lst (vn (crcL bs))) → Q (.ref l) H'
theorem ok__law_sum {P : Program} {w : World} {K : PySem.W.Frag} {mg : Str → Option Value} {base : Heap} {C_BitsError fI_BitsError : Addr} {fd_BitsError : FuncData} {B_ : Addr} {mc_ : Value} {O_FitError : Addr} {O_TextError : Addr} {tk_MOST_PLACES : Tok} {tk_MOST_TRACKS : Tok} {tk_MOST_PINS : Tok} {tk_MOST_ENDS : Tok} {tk_HEAD_BITS : Tok} {tk_END_BITS : Tok} {tk_SUM_BITS : Tok} {tk_DRIVE_BITS : Tok} {a_HEAD : Addr} {a_END : Addr} {a_STEPS_0 : Addr} {a_STEPS_1 : Addr} {a_STEPS_2 : Addr} {a_STEPS_3 : Addr} {a_STEPS : Addr} {f  : Addr} {fd  : FuncData} (F : Fun K "_law_sum" "_law_sum" s__law_sum f fd) (T : Txt K mg C_BitsError fI_BitsError fd_BitsError B_ mc_ O_FitError O_TextError tk_MOST_PLACES tk_MOST_TRACKS tk_MOST_PINS tk_MOST_ENDS tk_HEAD_BITS tk_END_BITS tk_SUM_BITS tk_DRIVE_BITS a_HEAD a_END a_STEPS_0 a_STEPS_1 a_STEPS_2 a_STEPS_3 a_STEPS) :
    FnOk P w K mg base CX0 1 f fd ["bits"] (sp__law_sum K) := by
  refine F.ok sc_law_sum (fun vs H Q E h => ?_) (fun cdv A outer s H vs Q E hr h => ?_)
  · obtain ⟨a, bs, rfl, _⟩ := h
    rfl
  · obtain ⟨a, bs, rfl, ha, b2, few, q⟩ := h
    refine ⟨_, (pss_cons (ps_set (i := 1) sc_law_sum.nd rfl (.inl rfl) (pe_op op_cat (pe_callTy call_list_of (by rfl) T.m_list (by decide +kernel) (pa_cons (pv 0) pa_nil)) (pe_op op_rep (pe_lst (pa_cons pe_int pa_nil)) pe_int)))
      (pss_cons (ps_for PassesOwn.never rfl (pi_range1 rfl T.m_range (pa_cons pe_int pa_nil)) (pg_name (i := 2) sc_law_sum.nd rfl (Or.inl rfl)) (pss_one (ps_asg (pe_op op_sub pe_int (pe_ix (r := rIxL K) ix_list (pv 1) (pv 2) (fun _ _ => rfl))) (pg_sub (pv 1) (pv 2) set_list))))
      (pss_cons (ps_for PassesOwn.never rfl (pi_range1 rfl T.m_range (pa_cons (pe_callB call_len_seq (by rfl) T.m_len (by decide +kernel) (pa_cons (pv 0) pa_nil)) pa_nil)) (pg_name (i := 2) sc_law_sum.nd rfl (Or.inl rfl)) (pss_one (ps_if (pt_cmpR op_eq (pe_ix (r := rIxL K) ix_list (pv 1) (pv 2) (fun _ _ => rfl)) pe_int (nomark _)) (pss_one (ps_for PassesOwn.never rfl (pi_list (pe_lst (pa_cons pe_int (pa_cons pe_int (pa_cons pe_int (pa_cons pe_int pa_nil)))))) (pg_name (i := 3) sc_law_sum.nd rfl (Or.inl rfl)) (pss_one (ps_asg (pe_op op_sub pe_int (pe_ix (r := rIxL K) ix_list (pv 1) (pe_op op_add (pv 2) (pv 3)) (fun _ _ => rfl))) (pg_sub (pv 1) (pe_op op_add (pv 2) (pv 3)) set_list))))) pss_nil)))
      (pss_one (ps_ret (pe_slice sl_list (pv 1) (po_some (pe_callB call_len_seq (by rfl) T.m_len (by decide +kernel) (pa_cons (pv 0) pa_nil))) po_none)))))), ?_⟩
    refine ⟨_, rfl, a, _, rfl, .inl (SqL.of ha), fun l nl => ?_⟩
    have s1 := same_new (o := .lst (vn bs)) nl
    have hl : (upd H l (.lst (vn bs))) l = some (.lst (vn bs)) := upd_same
    generalize (upd H l (.lst (vn bs))) = H1 at s1 hl ⊢
    refine ⟨by show 1 ≤ sizeLine; decide, fun z nz => ?_⟩
    have s2 := same_new (o := .lst [V.int 0]) nz
    have hz : (upd H1 z (.lst [V.int 0])) z = some (.lst [V.int 0]) := upd_same
    have hl2 := s2 _ _ hl
    generalize (upd H1 z (.lst [V.int 0])) = H2 at s2 hz hl2 ⊢
    refine ⟨z, _, _, rfl, rfl, hz, by decide, by decide, by show 1 * 16 ≤ sizeLine; decide, fun u nu => ?_⟩
    rw [show (List.replicate (16 : Int).toNat [V.int 0]).flatten = vn (List.replicate 16 0) from rfl]
    have s3 := same_new (o := .lst (vn (List.replicate 16 0))) nu
    have hu : (upd H2 u (.lst (vn (List.replicate 16 0)))) u = some (.lst (vn (List.replicate 16 0))) := upd_same
    have hl3 := s3 _ _ hl2
    generalize (upd H2 u (.lst (vn (List.replicate 16 0)))) = H3 at s3 hu hl3 ⊢
    refine ⟨l, u, _, _, rfl, rfl, hl3, hu, by rw [vn_len, vn_len, List.length_replicate]; exact Nat.le_of_lt (small64k (by omega)), fun R nR => ?_⟩
    have nRH := none_of (s1.trans (s2.trans s3)) nR
    rw [show vn bs ++ vn (List.replicate 16 0) = vn (blN (bs.length + 16) (mb bs)) by rw [← bs_blN b2]; exact (List.map_append ..).symm]
    have s4 : Same H (upd H3 R (.lst (vn (blN (bs.length + 16) (mb bs))))) := same_mut (s1.trans (s2.trans s3)) nRH
    have hR : (upd H3 R (.lst (vn (blN (bs.length + 16) (mb bs))))) R = some (.lst (vn (blN (bs.length + 16) (mb bs)))) := upd_same
    generalize (upd H3 R (.lst (vn (blN (bs.length + 16) (mb bs))))) = H4 at s4 hR ⊢
    clear s1 s2 s3 hl hl2 hl3 hu hz
    -- the first sixteen are turned
    refine ⟨_, rfl, by decide, by decide, for_range (n := 16) (fun i σ Hx => ∃ y2 : Option V, σ = [some (.ref a), some (.ref R), y2, none] ∧ Same H Hx ∧ Hx R = some (.lst (vn (blN (bs.length + 16) fun k => Bool.xor (decide (k < i)) (mb bs k))))) ⟨none, rfl, s4, by rw [hR]; exact congrArg (fun z => some (HO.lst (vn z))) (blN_ext fun k _ => by simp)⟩ ?_ ?_⟩
    · rintro i σ Hx hi ⟨y2, rfl, sx, hx⟩
      rw [Int.zero_add]
      refine ⟨_, rfl, _, rfl, R, _, _, _, rfl, rfl, SqL.of hx, atI_nat (vn_at (blN_get (by omega))), _, _, rfl, rfl, _, rfl, _, rfl, R, _, _, i, rfl, rfl, hx, ix_nat (by rw [vn_len, blN_len]; omega), ?_⟩
      refine ⟨_, rfl, same_mut sx nRH, ?_⟩
      rw [upd_same]
      show some (HO.lst ((vn (blN _ _)).set i (.int ((1 : Int) - (((Bool.xor (decide (i < i)) (mb bs i)).toNat : Nat) : Int))))) = _
      rw [flip1, blN_set]
      refine congrArg (fun z => some (HO.lst (vn z))) (blN_ext fun k _ => ?_)
      by_cases e : k = i
      · rw [if_pos e, e, decide_eq_false (Nat.lt_irrefl i), decide_eq_true (Nat.lt_succ_self i)]
        cases mb bs i <;> rfl
      · rw [if_neg e, decide_eq_decide.mpr (show k < i ↔ k < i + 1 by omega)]
    clear hR s4
    rintro σ H5 ⟨y2, rfl, s5, hR⟩
    refine ⟨_, rfl, a, _, rfl, .inl (SqL.of (s5 _ _ ha)), ?_⟩
    rw [vn_len]
    refine ⟨_, rfl, by omega, by omega, for_range (n := bs.length) (fun i σ Hx => ∃ (y2 y3 : Option V) (P : Nat → Bool), σ = [some (.ref a), some (.ref R), y2, y3] ∧ Same H Hx ∧ Hx R = some (.lst (vn (blN (bs.length + 16) P))) ∧ ∀ k, i ≤ k → P k = Bool.xor (rb (crc (bs.take i)) (k - i)) (mb bs k)) ⟨_, none, _, rfl, s5, hR, fun k _ => by rw [Nat.sub_zero, ← rb_all]; rfl⟩ ?_ ?_⟩
    · rintro i σ Hx hi ⟨y2, y3, P, rfl, sx, hx, inv⟩
      rw [Int.zero_add]
      have hb : bs[i]? = some bs[i] := List.getElem?_eq_getElem hi
      have lb := b2 _ (List.getElem_mem hi)
      refine ⟨_, rfl, _, rfl, R, _, _, _, rfl, rfl, SqL.of hx, atI_nat (vn_at (blN_get (by omega))), rfl, _, rfl, ?_⟩
      rw [show decide (V.int (((P i).toNat : Nat) : Int) = V.int 1) = P i by cases P i <;> rfl]
      cases c : P i with
      | false => exact iteF ⟨_, y3, P, rfl, sx, hx, div_step hb lb inv (fun z => by rw [c] at z; cases z) fun _ => rfl⟩
      | true =>
        refine iteT ⟨by show 4 ≤ sizeLine; decide, fun L nL => ?_⟩
        have sL := same_new (o := .lst [V.int 0, .int 4, .int 11, .int 16]) nL
        have hL : (upd Hx L (.lst [V.int 0, .int 4, .int 11, .int 16])) L = some (.lst (vn far4)) := upd_same
        have hx1 := sL _ _ hx
        have sx1 := sx.trans sL
        have LR : R ≠ L := ne_of_none hx nL
        generalize (upd Hx L (.lst [V.int 0, .int 4, .int 11, .int 16])) = H6 at hL hx1 sx1 ⊢
        refine ⟨L, rfl, ⟨_, SqL.of hL⟩, for_list (xs := vn far4) (fun j σ Hy => ∃ (y3 : Option V) (P' : Nat → Bool), σ = [some (.ref a), some (.ref R), some (.int (i : Nat)), y3] ∧ Same H Hy ∧ Hy R = some (.lst (vn (blN (bs.length + 16) P'))) ∧ Hy L = some (.lst (vn far4)) ∧ ∀ k, P' k = Bool.xor (P k) (decide (∃ f ∈ far4.take j, k = i + f))) ⟨y3, P, rfl, sx1, hx1, hL, fun k => by simp⟩ (fun j σ Hy _ h => ?_) ?_ ?_⟩
        · obtain ⟨_, _, _, _, _, h, _⟩ := h
          exact SqL.of h
        · rintro j v σ Hy hj ⟨y3, P', rfl, sy, hy, hLy, fl⟩
          obtain ⟨f, hf, rfl, fm⟩ := nat_at' hj
          have f16 : f ≤ 16 := by
            have : ∀ f ∈ far4, f ≤ 16 := by decide
            exact this f fm
          have ef : ((i : Nat) : Int) + ((f : Nat) : Int) = ((i + f : Nat) : Int) := by omega
          refine ⟨_, rfl, _, rfl, _, rfl, _, _, rfl, rfl, R, _, _, _, rfl, rfl, SqL.of hy, (by rw [ef]; exact atI_nat (vn_at (blN_get (by omega)))), _, _, rfl, rfl, _, rfl, _, rfl, _, rfl, _, _, rfl, rfl, R, _, _, i + f, rfl, rfl, hy, (by rw [ef]; exact ix_nat (by rw [vn_len, blN_len]; omega)), ?_⟩
          refine ⟨_, fun k => if k = i + f then !(P' (i + f)) else P' k, rfl, same_mut sy nRH, ?_, (upd_ne LR.symm).trans hLy, fun k => ?_⟩
          · rw [upd_same]
            show some (HO.lst ((vn (blN _ _)).set (i + f) (.int ((1 : Int) - (((P' (i + f)).toNat : Nat) : Int))))) = _
            rw [flip1, blN_set]
          show (if k = i + f then !(P' (i + f)) else P' k) = _
          rw [take_snoc hf]
          have nd : i + f ∉ (far4.take j).map (i + ·) := fun z => by
            obtain ⟨g, hg, e⟩ := List.mem_map.mp z
            have e : g = f := by omega
            subst e
            have nd4 : far4.Nodup := by decide
            have h2 := nd4.sublist (List.take_sublist (j + 1) far4)
            rw [take_snoc hf] at h2
            exact (List.nodup_append.mp h2).2.2 g hg g (by simp) rfl
          by_cases e : k = i + f
          · have d1 : decide (∃ g ∈ far4.take j, k = i + g) = false := decide_eq_false fun ⟨g, hg, eg⟩ => nd (List.mem_map.mpr ⟨g, hg, by show i + g = i + f; omega⟩)
            have d2 : decide (∃ g ∈ far4.take j ++ [f], k = i + g) = true := decide_eq_true ⟨f, by simp, e⟩
            rw [if_pos e, d2, ← e, fl k, d1]
            cases P k <;> rfl
          · rw [if_neg e, fl k]
            congr 1
            refine decide_eq_decide.mpr ⟨fun ⟨g, hg, eg⟩ => ⟨g, List.mem_append_left _ hg, eg⟩, fun ⟨g, hg, eg⟩ => ?_⟩
            rcases List.mem_append.mp hg with h | h
            · exact ⟨g, h, eg⟩
            · rw [List.mem_singleton.mp h] at eg
              exact absurd eg e
        rintro σ Hy ⟨y3, P', rfl, sy, hy, hLy, fl⟩
        rw [vn_len, List.take_length] at fl
        exact ⟨_, _, P', rfl, sy, hy, div_step hb lb inv (fun _ => fl) fun z => by rw [c] at z; cases z⟩
    rintro σ H7 ⟨y2, y3, P, rfl, s7, h7, inv⟩
    refine ⟨_, rfl, _, rfl, a, _, rfl, .inl (SqL.of (s7 _ _ ha)), ?_⟩
    rw [vn_len]
    refine ⟨_, rfl, R, _, rfl, SqL.of h7, fun U nU => ?_⟩
    rw [cut_from]
    refine q _ U (s7.trans (same_new nU)) (none_of s7 nU) ?_
    rw [upd_same]
    congr 2
    unfold crcL vn blN
    rw [List.map_map, List.map_map, ← List.map_drop]
    refine List.ext_getElem (by simp) fun i h1 h2 => ?_
    simp only [List.length_map, List.length_range] at h2
    rw [List.getElem_map, List.getElem_map, List.getElem_drop, List.getElem_range, List.getElem_range]
    show V.int (((P (bs.length + i)).toNat : Nat) : Int) = V.int (((rb (crc bs) i).toNat : Nat) : Int)
    rw [inv _ (by omega), List.take_length, show bs.length + i - bs.length = i by omega]
    have : mb bs (bs.length + i) = false := by
      unfold mb
      rw [List.getElem?_eq_none (by omega)]
      rfl
    rw [this, Bool.xor_false]

end K57
namespace K57
open PySem PySem.Spec PyProof.Rows L2 V0
/-! ### bits as numbers -/
/-- the number whose low bits are those of bs from at, w of them -/
def num (bs : List Nat) (at_ w : Nat) : Nat := ((List.range w).map fun k => (bs[at_ + k]?.getD 0) * 2 ^ k).sum
def rd (bs : List Nat) (at_ : Nat) (ws : List Nat) : List Nat := (List.range ws.length).map fun i => num bs (at_ + (ws.take i).sum) (ws[i]?.getD 0)
theorem cast_sum (xs : List Nat) : (xs.map fun (n : Nat) => (n : Int)).sum = ((xs.sum : Nat) : Int) := by
  induction xs with
  | nil => rfl
  | cons x xs ih =>
    rw [List.map_cons, List.sum_cons, List.sum_cons, ih]
    omega
theorem sum_take_snoc {ws : List Nat} {i w : Nat} (h : ws[i]? = some w) : (ws.take (i + 1)).sum = (ws.take i).sum + w := by
  rw [take_snoc h, List.sum_append]
  simp
theorem sum_take_le (ws : List Nat) (i : Nat) : (ws.take i).sum ≤ ws.sum := by
  have := List.take_append_drop i ws
  have e : ws.sum = (ws.take i).sum + (ws.drop i).sum := by
    rw [← List.sum_append, this]
  omega
theorem rd_len (bs : List Nat) (at_ : Nat) (ws : List Nat) : (rd bs at_ ws).length = ws.length := by
  unfold rd
  rw [List.length_map, List.length_range]
def sp__read (K : PySem.W.Frag) : Sp := fun vs H Q _ => ∃ (t : Bool) (a b : Addr) (bs ws : List Nat) (at_ : Nat), vs = [.ref a, .int (at_ : Nat), .ref b] ∧ H a = some (.lst (vn bs)) ∧ SqV t K H b (vn ws) ∧ (∀ x ∈ bs, x < 2) ∧ bs.length ≤ 60000 ∧ ws.length ≤ 1000 ∧ at_ + ws.sum ≤ bs.length ∧
  ∀ H' l, Same H H' → H l = none → H' l = some (.lst (vn (rd bs at_ ws))) → Q (.ref l) H'
/-- one turn of the loop -/
abbrev RdI (H : Hp) (a b D : Addr) (bs ws : List Nat) (at_ : Nat) (i : Nat) (σ : L2.St) (Hx : Hp) : Prop :=
  ∃ y4 : Option V, σ = [some (.ref a), some (.int (at_ + (ws.take i).sum : Nat)), some (.ref b), some (.ref D), y4, none, none] ∧ Same H Hx ∧ Hx D = some (.lst (vn ((rd bs at_ ws).take i)))
theorem ok__read {P : Program} {w : World} {K : PySem.W.Frag} {mg : Str → Option Value} {base : Heap} {C_BitsError fI_BitsError : Addr} {fd_BitsError : FuncData} {B_ : Addr} {mc_ : Value} {O_FitError : Addr} {O_TextError : Addr} {tk_MOST_PLACES : Tok} {tk_MOST_TRACKS : Tok} {tk_MOST_PINS : Tok} {tk_MOST_ENDS : Tok} {tk_HEAD_BITS : Tok} {tk_END_BITS : Tok} {tk_SUM_BITS : Tok} {tk_DRIVE_BITS : Tok} {a_HEAD : Addr} {a_END : Addr} {a_STEPS_0 : Addr} {a_STEPS_1 : Addr} {a_STEPS_2 : Addr} {a_STEPS_3 : Addr} {a_STEPS : Addr} {f  : Addr} {fd  : FuncData} (F : Fun K "_read" "_read" s__read f fd) (T : Txt K mg C_BitsError fI_BitsError fd_BitsError B_ mc_ O_FitError O_TextError tk_MOST_PLACES tk_MOST_TRACKS tk_MOST_PINS tk_MOST_ENDS tk_HEAD_BITS tk_END_BITS tk_SUM_BITS tk_DRIVE_BITS a_HEAD a_END a_STEPS_0 a_STEPS_1 a_STEPS_2 a_STEPS_3 a_STEPS) :
    FnOk P w K mg base CX0 1 f fd ["bits", "at", "widths"] (sp__read K) := by
  refine F.ok sc_read (fun vs H Q E h => ?_) (fun cdv A outer s H vs Q E hr h => ?_)
  · obtain ⟨t, a, b, bs, ws, at_, rfl, _⟩ := h
    rfl
  · obtain ⟨t, a, b, bs, ws, at_, rfl, ha, hb, b2, few, fw, fit, q⟩ := h
    have turn : ∀ (Q2 : L2.St → Hp → Prop) (D : Addr), True := fun _ _ => trivial
    clear turn
    cases t with
    | false =>
      refine ⟨_, (pss_cons (ps_set (i := 3) sc_read.nd rfl (.inl rfl) (pe_lst pa_nil))
      (pss_cons (ps_for PassesOwn.never rfl (pi_list (pv 2)) (pg_name (i := 4) sc_read.nd rfl (Or.inl rfl)) (pss_cons (ps_expr (pe_bm PySem.F.plainAttrs_list PySem.F.slot_list_append PySem.F.type_list_append mt_append (pv 3) (pa_cons (pe_callB (cr_sum rfl) (by rfl) T.m_sum (by decide +kernel) (pa_cons (pe_lc (own := [("k", 5), ("bit", 6)]) (g := gTup K 2 (gCons (gName 5) (gCons (gName 6) (gNil)))) (tt := tYes) rfl sc_read.nd (pi_enum (by rfl) T.m_enumerate (pa_cons (pe_slice sl_list (pv 0) (po_some (pv 1)) (po_some (pe_op op_add (pv 1) (pv 4)))) pa_nil)) (blkOk_by (N := N__read) (sc := defScope s__read) (by decide +kernel)) (fun _ _ _ _ _ => (pg_tup (by rfl) (pgs_cons (pg_name (i := 5) sc_read.nd rfl (Or.inl rfl)) (pgs_cons (pg_name (i := 6) sc_read.nd rfl (Or.inl rfl)) pgs_nil)))) (fun _ _ _ _ _ => pts_nil) (fun _ _ _ _ _ => (pe_op op_shl (pv 6) (pv 5)))) pa_nil)) pa_nil)))
      (pss_one (ps_aug (i := 1) sc_read.nd rfl (.inl rfl) (pv 4) ip_add))))
      (pss_one (ps_ret (pv 3))))), ?_⟩
      refine ⟨by show 0 ≤ sizeLine; decide, fun D nD => ?_⟩
      have s1 := same_new (o := .lst ([] : List V)) nD
      have hD : (upd H D (.lst ([] : List V))) D = some (.lst (vn [])) := upd_same
      generalize (upd H D (.lst ([] : List V))) = H1 at s1 hD ⊢
      have hb1 : SqL K H1 b (vn ws) := SqV.same (t := false) hb s1
      refine ⟨_, rfl, b, rfl, ⟨_, hb1⟩, for_list (xs := vn ws) (RdI H a b D bs ws at_) ⟨none, rfl, s1, hD⟩ (fun i σ Hx _ h => ?_) ?_ ?_⟩
      · obtain ⟨_, _, sx, _⟩ := h
        exact SqV.same (t := false) hb sx
      · rintro i w σ Hx hw ⟨y4, rfl, sx, hx⟩
        obtain ⟨n, en, rfl, _⟩ := nat_at' hw
        have st := sum_take_snoc en
        have le := sum_take_le ws (i + 1)
        have il : i < ws.length := (List.getElem?_eq_some_iff.mp en).1
        have hax := sx _ _ ha
        refine ⟨_, rfl, .inl ⟨rfl, _, SqL.of hx⟩, _, rfl, _, rfl, _, rfl, _, rfl, _, rfl, _, _, rfl, rfl, _, rfl, a, _, rfl, SqL.of hax, fun S nS => ?_⟩
        rw [show ((at_ + (ws.take i).sum : Nat) : Int) + ((n : Nat) : Int) = ((at_ + (ws.take i).sum + n : Nat) : Int) by omega, cut_nn bs (by omega) (by omega), Nat.add_sub_cancel_left]
        have s2 := same_new (o := .lst (vn ((bs.drop (at_ + (ws.take i).sum)).take n))) nS
        have hS : (upd Hx S (.lst (vn ((bs.drop (at_ + (ws.take i).sum)).take n)))) S = some (.lst (vn ((bs.drop (at_ + (ws.take i).sum)).take n))) := upd_same
        have hx2 := s2 _ _ hx
        generalize (upd Hx S (.lst (vn ((bs.drop (at_ + (ws.take i).sum)).take n)))) = H2 at s2 hS hx2 ⊢
        have ll : ((bs.drop (at_ + (ws.take i).sum)).take n).length = n := by
          rw [List.length_take, List.length_drop]
          omega
        have gl : ∀ k, k < n → ((bs.drop (at_ + (ws.take i).sum)).take n)[k]? = some (bs[at_ + (ws.take i).sum + k]?.getD 0) := fun k hk => by
          rw [List.getElem?_take, if_pos hk, List.getElem?_drop, List.getElem?_eq_getElem (by omega)]
          rfl
        refine ⟨S, _, rfl, SqL.of hS, fun E nE => lcA (n := n) (by have w := walk_enum (K := K) (a := S) (xs := vn ((bs.drop (at_ + (ws.take i).sum)).take n)); rw [vn_len, ll] at w; exact w) (fun k => .int (((bs[at_ + (ws.take i).sum + k]?.getD 0) * 2 ^ k : Nat) : Int)) nE (by omega) (fun Hz sz => SqL.of (sz _ _ hS)) (fun k x Hz Hz' Q hk sz y qt => ?_) fun H3 s3 hE => ?_⟩
        · obtain ⟨T1, x1, x2, rfl, nT, rfl, e1, e2⟩ := y
          cases e1
          have e2 : (vn ((bs.drop (at_ + (ws.take i).sum)).take n))[k]? = some x2 := e2
          rw [vn_get (gl k hk)] at e2
          cases e2
          have sT := same_new (o := .tup [V.int (k : Nat), .int ((bs[at_ + (ws.take i).sum + k]?.getD 0 : Nat) : Int)]) nT
          have lb : bs[at_ + (ws.take i).sum + k]?.getD 0 < 2 := by
            rw [List.getElem?_eq_getElem (by omega), Option.getD_some]
            exact b2 _ (List.getElem_mem _)
          refine ⟨T1, _, rfl, SqT.of upd_same, rfl, _, _, rfl, _, _, rfl, rfl, rfl, _, rfl, _, rfl, _, _, rfl, rfl, ⟨by omega, by omega, by omega⟩, ?_⟩
          have q2 := qt _ sT
          rw [← shl_nat] at q2
          exact q2
        have hx3 := s3 _ _ hx2
        have eE : (List.range n).map (fun k => V.int (((bs[at_ + (ws.take i).sum + k]?.getD 0) * 2 ^ k : Nat) : Int)) = (((List.range n).map fun k => (bs[at_ + (ws.take i).sum + k]?.getD 0) * 2 ^ k).map fun (m : Nat) => (m : Int)).map V.int := by
          rw [List.map_map, List.map_map]
          rfl
        rw [eE] at hE
        refine ⟨E, _, rfl, SqL.of hE, ?_⟩
        rw [cast_sum]
        refine ⟨D, _, _, rfl, rfl, hx3, by rw [vn_len, List.length_take, rd_len]; exact small64k (by omega), ?_⟩
        refine ⟨_, rfl, _, rfl, _, _, rfl, rfl, some (.int (n : Nat)), ?_, same_mut (sx.trans (s2.trans s3)) nD, ?_⟩
        · rw [st, show at_ + ((ws.take i).sum + n) = at_ + (ws.take i).sum + n by omega, Int.natCast_add (at_ + (ws.take i).sum) n]
          rfl
        · rw [upd_same, vn_snoc]
          have eg : (rd bs at_ ws)[i]? = some (num bs (at_ + (ws.take i).sum) n) := by
            unfold rd
            rw [List.getElem?_map, List.getElem?_range il, Option.map_some, en]
            rfl
          rw [take_snoc eg]
          rfl
      rintro σ Hx ⟨y4, rfl, sx, hx⟩
      rw [vn_len, ← rd_len bs at_ ws, List.take_length] at hx
      exact ⟨_, rfl, q Hx D sx nD hx⟩
    | true =>
      refine ⟨_, (pss_cons (ps_set (i := 3) sc_read.nd rfl (.inl rfl) (pe_lst pa_nil))
      (pss_cons (ps_for PassesOwn.never rfl (pi_tup (pv 2)) (pg_name (i := 4) sc_read.nd rfl (Or.inl rfl)) (pss_cons (ps_expr (pe_bm PySem.F.plainAttrs_list PySem.F.slot_list_append PySem.F.type_list_append mt_append (pv 3) (pa_cons (pe_callB (cr_sum rfl) (by rfl) T.m_sum (by decide +kernel) (pa_cons (pe_lc (own := [("k", 5), ("bit", 6)]) (g := gTup K 2 (gCons (gName 5) (gCons (gName 6) (gNil)))) (tt := tYes) rfl sc_read.nd (pi_enum (by rfl) T.m_enumerate (pa_cons (pe_slice sl_list (pv 0) (po_some (pv 1)) (po_some (pe_op op_add (pv 1) (pv 4)))) pa_nil)) (blkOk_by (N := N__read) (sc := defScope s__read) (by decide +kernel)) (fun _ _ _ _ _ => (pg_tup (by rfl) (pgs_cons (pg_name (i := 5) sc_read.nd rfl (Or.inl rfl)) (pgs_cons (pg_name (i := 6) sc_read.nd rfl (Or.inl rfl)) pgs_nil)))) (fun _ _ _ _ _ => pts_nil) (fun _ _ _ _ _ => (pe_op op_shl (pv 6) (pv 5)))) pa_nil)) pa_nil)))
      (pss_one (ps_aug (i := 1) sc_read.nd rfl (.inl rfl) (pv 4) ip_add))))
      (pss_one (ps_ret (pv 3))))), ?_⟩
      refine ⟨by show 0 ≤ sizeLine; decide, fun D nD => ?_⟩
      have s1 := same_new (o := .lst ([] : List V)) nD
      have hD : (upd H D (.lst ([] : List V))) D = some (.lst (vn [])) := upd_same
      generalize (upd H D (.lst ([] : List V))) = H1 at s1 hD ⊢
      have hb1 : SqT K H1 b (vn ws) := SqV.same (t := true) hb s1
      refine ⟨_, rfl, b, rfl, ⟨_, hb1⟩, for_tup (xs := vn ws) (RdI H a b D bs ws at_) ⟨none, rfl, s1, hD⟩ (fun i σ Hx _ h => ?_) ?_ ?_⟩
      · obtain ⟨_, _, sx, _⟩ := h
        exact SqV.same (t := true) hb sx
      · rintro i w σ Hx hw ⟨y4, rfl, sx, hx⟩
        obtain ⟨n, en, rfl, _⟩ := nat_at' hw
        have st := sum_take_snoc en
        have le := sum_take_le ws (i + 1)
        have il : i < ws.length := (List.getElem?_eq_some_iff.mp en).1
        have hax := sx _ _ ha
        refine ⟨_, rfl, .inl ⟨rfl, _, SqL.of hx⟩, _, rfl, _, rfl, _, rfl, _, rfl, _, rfl, _, _, rfl, rfl, _, rfl, a, _, rfl, SqL.of hax, fun S nS => ?_⟩
        rw [show ((at_ + (ws.take i).sum : Nat) : Int) + ((n : Nat) : Int) = ((at_ + (ws.take i).sum + n : Nat) : Int) by omega, cut_nn bs (by omega) (by omega), Nat.add_sub_cancel_left]
        have s2 := same_new (o := .lst (vn ((bs.drop (at_ + (ws.take i).sum)).take n))) nS
        have hS : (upd Hx S (.lst (vn ((bs.drop (at_ + (ws.take i).sum)).take n)))) S = some (.lst (vn ((bs.drop (at_ + (ws.take i).sum)).take n))) := upd_same
        have hx2 := s2 _ _ hx
        generalize (upd Hx S (.lst (vn ((bs.drop (at_ + (ws.take i).sum)).take n)))) = H2 at s2 hS hx2 ⊢
        have ll : ((bs.drop (at_ + (ws.take i).sum)).take n).length = n := by
          rw [List.length_take, List.length_drop]
          omega
        have gl : ∀ k, k < n → ((bs.drop (at_ + (ws.take i).sum)).take n)[k]? = some (bs[at_ + (ws.take i).sum + k]?.getD 0) := fun k hk => by
          rw [List.getElem?_take, if_pos hk, List.getElem?_drop, List.getElem?_eq_getElem (by omega)]
          rfl
        refine ⟨S, _, rfl, SqL.of hS, fun E nE => lcA (n := n) (by have w := walk_enum (K := K) (a := S) (xs := vn ((bs.drop (at_ + (ws.take i).sum)).take n)); rw [vn_len, ll] at w; exact w) (fun k => .int (((bs[at_ + (ws.take i).sum + k]?.getD 0) * 2 ^ k : Nat) : Int)) nE (by omega) (fun Hz sz => SqL.of (sz _ _ hS)) (fun k x Hz Hz' Q hk sz y qt => ?_) fun H3 s3 hE => ?_⟩
        · obtain ⟨T1, x1, x2, rfl, nT, rfl, e1, e2⟩ := y
          cases e1
          have e2 : (vn ((bs.drop (at_ + (ws.take i).sum)).take n))[k]? = some x2 := e2
          rw [vn_get (gl k hk)] at e2
          cases e2
          have sT := same_new (o := .tup [V.int (k : Nat), .int ((bs[at_ + (ws.take i).sum + k]?.getD 0 : Nat) : Int)]) nT
          have lb : bs[at_ + (ws.take i).sum + k]?.getD 0 < 2 := by
            rw [List.getElem?_eq_getElem (by omega), Option.getD_some]
            exact b2 _ (List.getElem_mem _)
          refine ⟨T1, _, rfl, SqT.of upd_same, rfl, _, _, rfl, _, _, rfl, rfl, rfl, _, rfl, _, rfl, _, _, rfl, rfl, ⟨by omega, by omega, by omega⟩, ?_⟩
          have q2 := qt _ sT
          rw [← shl_nat] at q2
          exact q2
        have hx3 := s3 _ _ hx2
        have eE : (List.range n).map (fun k => V.int (((bs[at_ + (ws.take i).sum + k]?.getD 0) * 2 ^ k : Nat) : Int)) = (((List.range n).map fun k => (bs[at_ + (ws.take i).sum + k]?.getD 0) * 2 ^ k).map fun (m : Nat) => (m : Int)).map V.int := by
          rw [List.map_map, List.map_map]
          rfl
        rw [eE] at hE
        refine ⟨E, _, rfl, SqL.of hE, ?_⟩
        rw [cast_sum]
        refine ⟨D, _, _, rfl, rfl, hx3, by rw [vn_len, List.length_take, rd_len]; exact small64k (by omega), ?_⟩
        refine ⟨_, rfl, _, rfl, _, _, rfl, rfl, some (.int (n : Nat)), ?_, same_mut (sx.trans (s2.trans s3)) nD, ?_⟩
        · rw [st, show at_ + ((ws.take i).sum + n) = at_ + (ws.take i).sum + n by omega, Int.natCast_add (at_ + (ws.take i).sum) n]
          rfl
        · rw [upd_same, vn_snoc]
          have eg : (rd bs at_ ws)[i]? = some (num bs (at_ + (ws.take i).sum) n) := by
            unfold rd
            rw [List.getElem?_map, List.getElem?_range il, Option.map_some, en]
            rfl
          rw [take_snoc eg]
          rfl
      rintro σ Hx ⟨y4, rfl, sx, hx⟩
      rw [vn_len, ← rd_len bs at_ ws, List.take_length] at hx
      exact ⟨_, rfl, q Hx D sx nD hx⟩

end K57
namespace K57
open PySem PySem.Spec PyProof.Rows L2 V0
/-! ### borders -/
def sdx (s : Nat) : Int := if s = 1 then 1 else if s = 3 then -1 else 0
def sdy (s : Nat) : Int := if s = 0 then -1 else if s = 2 then 1 else 0
/-- beside it, on that side, lies no place -/
def Bord (f : Fab) (x y s : Nat) : Prop := ¬ ((0 ≤ (x : Int) + sdx s ∧ (x : Int) + sdx s < (f.w : Nat)) ∧ 0 ≤ (y : Int) + sdy s ∧ (y : Int) + sdy s < (f.h : Nat))
instance (f : Fab) (x y s : Nat) : Decidable (Bord f x y s) := inferInstanceAs (Decidable (¬ _))
structure PadOk (f : Fab) (e : Pad) : Prop where
  x : e.x < f.w
  y : e.y < f.h
  s : e.s < 4
  k : e.k < f.t
  b : Bord f e.x e.y e.s
def sp_beside (K : PySem.W.Frag) : Sp := fun ws H Q _ => ∃ (v : V) (f : Fab) (x y s : Nat), ws = [v, .int (x : Nat), .int (y : Nat), .int (s : Nat)] ∧ Dv H v f ∧ s < 4 ∧ (Bord f x y s → Q .non H) ∧ (¬ Bord f x y s → ∀ t, H t = none → Q (.ref t) (upd H t (.tup [.int ((x : Int) + sdx s), .int ((y : Int) + sdy s)])))
theorem ok_beside {P : Program} {w : World} {K : PySem.W.Frag} {mg : Str → Option Value} {base : Heap} {C_BitsError fI_BitsError : Addr} {fd_BitsError : FuncData} {B_ : Addr} {mc_ : Value} {O_FitError : Addr} {O_TextError : Addr} {tk_MOST_PLACES : Tok} {tk_MOST_TRACKS : Tok} {tk_MOST_PINS : Tok} {tk_MOST_ENDS : Tok} {tk_HEAD_BITS : Tok} {tk_END_BITS : Tok} {tk_SUM_BITS : Tok} {tk_DRIVE_BITS : Tok} {a_HEAD : Addr} {a_END : Addr} {a_STEPS_0 : Addr} {a_STEPS_1 : Addr} {a_STEPS_2 : Addr} {a_STEPS_3 : Addr} {a_STEPS : Addr} {f  : Addr} {fd  : FuncData} (F : Fun K "beside" "beside" s_beside f fd) (T : Txt K mg C_BitsError fI_BitsError fd_BitsError B_ mc_ O_FitError O_TextError tk_MOST_PLACES tk_MOST_TRACKS tk_MOST_PINS tk_MOST_ENDS tk_HEAD_BITS tk_END_BITS tk_SUM_BITS tk_DRIVE_BITS a_HEAD a_END a_STEPS_0 a_STEPS_1 a_STEPS_2 a_STEPS_3 a_STEPS) :
    FnOk P w K mg base CX0 1 f fd ["fabric", "x", "y", "side"] (sp_beside K) := by
  refine F.ok scbeside (fun vs H Q E h => ?_) (fun cdv A outer s H vs Q E hr h => ?_)
  · obtain ⟨v, f, x, y, s, rfl, _⟩ := h
    rfl
  · obtain ⟨v, f, x, y, s, rfl, hv, s4, q1, q2⟩ := h
    refine ⟨_, (pss_cons (ps_asg (pv 0) (pg_tup (by rfl) (pgs_cons (pg_name (i := 4) scbeside.nd rfl (Or.inl rfl)) (pgs_cons (pg_name (i := 5) scbeside.nd rfl (Or.inl rfl)) (pgs_cons (pg_name (i := 6) scbeside.nd rfl (Or.inl rfl)) (pgs_cons (pg_name (i := 4) scbeside.nd rfl (Or.inl rfl)) (pgs_cons (pg_name (i := 4) scbeside.nd rfl (Or.inl rfl)) pgs_nil)))))))
      (pss_cons (ps_set (i := 7) scbeside.nd rfl (.inl rfl) (pe_op op_add (pv 1) (pe_ix (r := rIxT K) ix_tup (pe_ix (r := rIxT K) ix_tup (pe_glob (v := V.ref _) rfl T.m_STEPS rfl) (pv 3) (fun _ _ => rfl)) pe_int (fun _ _ => rfl))))
      (pss_cons (ps_set (i := 8) scbeside.nd rfl (.inl rfl) (pe_op op_add (pv 2) (pe_ix (r := rIxT K) ix_tup (pe_ix (r := rIxT K) ix_tup (pe_glob (v := V.ref _) rfl T.m_STEPS rfl) (pv 3) (fun _ _ => rfl)) pe_int (fun _ _ => rfl))))
      (pss_cons (ps_if (PW.pt (pw_and (pt_chain op_le op_lt pe_int (pv 7) (pv 5)) (pw_and1 (pt_chain op_le op_lt pe_int (pv 8) (pv 6))))) (pss_one (ps_ret (pe_tup (pa_cons (pv 7) (pa_cons (pv 8) pa_nil))))) pss_nil)
      (pss_one (ps_ret pe_non)))))), ?_⟩
    obtain ⟨a, rfl, ha⟩ := fab_inv hv
    have st : ∃ b, ([.ref a_STEPS_0, .ref a_STEPS_1, .ref a_STEPS_2, .ref a_STEPS_3] : List V)[s]? = some (.ref b) ∧ ∀ H, SqT K H b [.int (sdx s), .int (sdy s)] := by
      have : s = 0 ∨ s = 1 ∨ s = 2 ∨ s = 3 := by omega
      rcases this with rfl | rfl | rfl | rfl
      · exact ⟨_, rfl, T.t_STEPS_0⟩
      · exact ⟨_, rfl, T.t_STEPS_1⟩
      · exact ⟨_, rfl, T.t_STEPS_2⟩
      · exact ⟨_, rfl, T.t_STEPS_3⟩
    obtain ⟨b, eb, hb⟩ := st
    refine ⟨_, rfl, a, _, rfl, SqT.of ha, rfl, _, _, rfl, _, _, rfl, _, _, rfl, _, _, rfl, _, _, rfl, rfl, ?_⟩
    refine ⟨_, rfl, _, rfl, a_STEPS, _, _, _, rfl, rfl, T.t_STEPS H, atI_nat eb, b, _, 0, _, rfl, rfl, hb H, atI_nat (j := 0) rfl, _, _, rfl, rfl, ?_⟩
    refine ⟨_, rfl, _, rfl, a_STEPS, _, _, _, rfl, rfl, T.t_STEPS H, atI_nat eb, b, _, 1, _, rfl, rfl, hb H, atI_nat (j := 1) rfl, _, _, rfl, rfl, ?_⟩
    refine ⟨_, rfl, _, _, rfl, rfl, _, rfl, ?_⟩
    by_cases c1 : (0 : Int) ≤ (x : Int) + sdx s
    rotate_left
    · rw [decide_eq_false c1]
      exact iteF ⟨_, rfl, iteF (iteF (q1 fun z => c1 z.1.1))⟩
    rw [decide_eq_true c1]
    refine iteT ⟨_, rfl, _, _, rfl, rfl, _, rfl, ?_⟩
    by_cases c2 : (x : Int) + sdx s < ((f.w : Nat) : Int)
    rotate_left
    · rw [decide_eq_false c2]
      exact iteF (iteF (q1 fun z => c2 z.1.2))
    rw [decide_eq_true c2]
    refine iteT ⟨_, rfl, _, _, rfl, rfl, _, rfl, ?_⟩
    by_cases c3 : (0 : Int) ≤ (y : Int) + sdy s
    rotate_left
    · rw [decide_eq_false c3]
      exact iteF ⟨_, rfl, iteF (q1 fun z => c3 z.2.1)⟩
    rw [decide_eq_true c3]
    refine iteT ⟨_, rfl, _, _, rfl, rfl, _, rfl, ?_⟩
    by_cases c4 : (y : Int) + sdy s < ((f.h : Nat) : Int)
    rotate_left
    · rw [decide_eq_false c4]
      exact iteF (q1 fun z => c4 z.2.2)
    rw [decide_eq_true c4]
    exact iteT ⟨_, rfl, _, rfl, by show 2 ≤ sizeLine; decide, fun t nt => q2 (fun z => z ⟨⟨c1, c2⟩, c3, c4⟩) t nt⟩
def sp_is_border (K : PySem.W.Frag) : Sp := fun ws H Q _ => ∃ (v u : V) (f : Fab) (e : Pad), ws = [v, u] ∧ Dv H v f ∧ Dv H u e ∧ (∀ H' k, Same H H' → (k = true ↔ PadOk f e) → Q (.bl k) H')
theorem ok_is_border {P : Program} {w : World} {K : PySem.W.Frag} {mg : Str → Option Value} {base : Heap} {C_BitsError fI_BitsError : Addr} {fd_BitsError : FuncData} {B_ : Addr} {mc_ : Value} {O_FitError : Addr} {O_TextError : Addr} {tk_MOST_PLACES : Tok} {tk_MOST_TRACKS : Tok} {tk_MOST_PINS : Tok} {tk_MOST_ENDS : Tok} {tk_HEAD_BITS : Tok} {tk_END_BITS : Tok} {tk_SUM_BITS : Tok} {tk_DRIVE_BITS : Tok} {a_HEAD : Addr} {a_END : Addr} {a_STEPS_0 : Addr} {a_STEPS_1 : Addr} {a_STEPS_2 : Addr} {a_STEPS_3 : Addr} {a_STEPS : Addr} {f fbeside : Addr} {fd fdbeside : FuncData} (F : Fun K "is_border" "is_border" s_is_border f fd) (T : Txt K mg C_BitsError fI_BitsError fd_BitsError B_ mc_ O_FitError O_TextError tk_MOST_PLACES tk_MOST_TRACKS tk_MOST_PINS tk_MOST_ENDS tk_HEAD_BITS tk_END_BITS tk_SUM_BITS tk_DRIVE_BITS a_HEAD a_END a_STEPS_0 a_STEPS_1 a_STEPS_2 a_STEPS_3 a_STEPS)
    (G_beside : FnOk P w K mg base CX0 1 fbeside fdbeside ["fabric", "x", "y", "side"] (sp_beside K)) (D_beside : Def K mg "beside" fbeside fdbeside ["fabric", "x", "y", "side"]) :
    FnOk P w K mg base CX0 2 f fd ["fabric", "told"] (sp_is_border K) := by
  refine F.ok scis_border (fun vs H Q E h => ?_) (fun cdv A outer s H vs Q E hr h => ?_)
  · obtain ⟨v, u, f, e, rfl, _⟩ := h
    rfl
  · obtain ⟨v, u, f, e, rfl, hv, hu, q⟩ := h
    refine ⟨_, (pss_cons (ps_asg (pv 1) (pg_tup (by rfl) (pgs_cons (pg_name (i := 2) scis_border.nd rfl (Or.inl rfl)) (pgs_cons (pg_name (i := 3) scis_border.nd rfl (Or.inl rfl)) (pgs_cons (pg_name (i := 4) scis_border.nd rfl (Or.inl rfl)) (pgs_cons (pg_name (i := 5) scis_border.nd rfl (Or.inl rfl)) pgs_nil))))))
      (pss_cons (ps_asg (pv 0) (pg_tup (by rfl) (pgs_cons (pg_name (i := 6) scis_border.nd rfl (Or.inl rfl)) (pgs_cons (pg_name (i := 7) scis_border.nd rfl (Or.inl rfl)) (pgs_cons (pg_name (i := 8) scis_border.nd rfl (Or.inl rfl)) (pgs_cons (pg_name (i := 9) scis_border.nd rfl (Or.inl rfl)) (pgs_cons (pg_name (i := 6) scis_border.nd rfl (Or.inl rfl)) pgs_nil)))))))
      (pss_cons (ps_if (PW.pt (pw_or (pt_cmpR V0.op_notIn_rng (pv 2) (pe_callTy V0.cr_range1 (by rfl) T.m_range (by decide +kernel) (pa_cons (pv 7) pa_nil)) (by rfl)) (pw_or (pt_cmpR V0.op_notIn_rng (pv 3) (pe_callTy V0.cr_range1 (by rfl) T.m_range (by decide +kernel) (pa_cons (pv 8) pa_nil)) (by rfl)) (pw_or (pt_cmpR V0.op_notIn_rng (pv 4) (pe_callTy V0.cr_range1 (by rfl) T.m_range (by decide +kernel) (pa_cons pe_int pa_nil)) (by rfl)) (pw_or1 (pt_cmpR V0.op_notIn_rng (pv 5) (pe_callTy V0.cr_range1 (by rfl) T.m_range (by decide +kernel) (pa_cons (pv 9) pa_nil)) (by rfl))))))) (pss_one (ps_ret pe_bl)) pss_nil)
      (pss_one (ps_ret (pe_cmpR op_isN (pe_call G_beside (hr.mono (by omega)) (by rfl) D_beside.m D_beside.k D_beside.b .nil pass0 (pa_cons (pv 0) (pa_cons (pv 2) (pa_cons (pv 3) (pa_cons (pv 4) pa_nil))))) pe_non (nomark _))))))), ?_⟩
    obtain ⟨a, rfl, ha⟩ := fab_inv hv
    obtain ⟨b, rfl, hb⟩ := pad_inv hu
    refine ⟨_, rfl, b, _, rfl, SqT.of hb, rfl, _, _, rfl, _, _, rfl, _, _, rfl, _, _, rfl, rfl, ?_⟩
    refine ⟨_, rfl, a, _, rfl, SqT.of ha, rfl, _, _, rfl, _, _, rfl, _, _, rfl, _, _, rfl, _, _, rfl, rfl, ?_⟩
    refine ⟨_, rfl, _, rfl, _, rfl, fun p1 np => ⟨_, _, _, _, rfl, rfl, upd_same, _, rfl, ?_⟩⟩
    have s1 : Same H _ := same_new (o := HO.rng 0 ((f.w : Nat) : Int)) np
    generalize (upd H p1 (.rng 0 ((f.w : Nat) : Int))) = H1 at s1 ⊢
    by_cases c1 : e.x < f.w
    rotate_left
    · rw [decide_eq_false (show ¬ ((0 : Int) ≤ ((e.x : Nat) : Int) ∧ ((e.x : Nat) : Int) < ((f.w : Nat) : Int)) by omega)]
      exact iteT (iteT (q _ false s1 ⟨fun z => (by cases z), fun z => absurd z.x c1⟩))
    rw [decide_eq_true (show (0 : Int) ≤ ((e.x : Nat) : Int) ∧ ((e.x : Nat) : Int) < ((f.w : Nat) : Int) by omega)]
    refine iteF ?_
    refine ⟨_, rfl, _, rfl, _, rfl, fun p2 np => ⟨_, _, _, _, rfl, rfl, upd_same, _, rfl, ?_⟩⟩
    have s2 : Same H _ := s1.trans (same_new (o := HO.rng 0 ((f.h : Nat) : Int)) np)
    generalize (upd H1 p2 (.rng 0 ((f.h : Nat) : Int))) = H2 at s2 ⊢
    by_cases c2 : e.y < f.h
    rotate_left
    · rw [decide_eq_false (show ¬ ((0 : Int) ≤ ((e.y : Nat) : Int) ∧ ((e.y : Nat) : Int) < ((f.h : Nat) : Int)) by omega)]
      exact iteT (iteT (q _ false s2 ⟨fun z => (by cases z), fun z => absurd z.y c2⟩))
    rw [decide_eq_true (show (0 : Int) ≤ ((e.y : Nat) : Int) ∧ ((e.y : Nat) : Int) < ((f.h : Nat) : Int) by omega)]
    refine iteF ?_
    refine ⟨_, rfl, _, rfl, fun p3 np => ⟨_, _, _, _, rfl, rfl, upd_same, _, rfl, ?_⟩⟩
    have s3 : Same H _ := s2.trans (same_new (o := HO.rng 0 4) np)
    generalize (upd H2 p3 (.rng 0 4)) = H3 at s3 ⊢
    by_cases c3 : e.s < 4
    rotate_left
    · rw [decide_eq_false (show ¬ ((0 : Int) ≤ ((e.s : Nat) : Int) ∧ ((e.s : Nat) : Int) < 4) by omega)]
      exact iteT (iteT (q _ false s3 ⟨fun z => (by cases z), fun z => absurd z.s c3⟩))
    rw [decide_eq_true (show (0 : Int) ≤ ((e.s : Nat) : Int) ∧ ((e.s : Nat) : Int) < 4 by omega)]
    refine iteF ?_
    refine ⟨_, rfl, _, rfl, _, rfl, fun p4 np => ⟨_, _, _, _, rfl, rfl, upd_same, _, rfl, ?_⟩⟩
    have s4 : Same H _ := s3.trans (same_new (o := HO.rng 0 ((f.t : Nat) : Int)) np)
    generalize (upd H3 p4 (.rng 0 ((f.t : Nat) : Int))) = H4 at s4 ⊢
    by_cases c4 : e.k < f.t
    rotate_left
    · rw [decide_eq_false (show ¬ ((0 : Int) ≤ ((e.k : Nat) : Int) ∧ ((e.k : Nat) : Int) < ((f.t : Nat) : Int)) by omega)]
      exact iteT (q _ false s4 ⟨fun z => (by cases z), fun z => absurd z.k c4⟩)
    rw [decide_eq_true (show (0 : Int) ≤ ((e.k : Nat) : Int) ∧ ((e.k : Nat) : Int) < ((f.t : Nat) : Int) by omega)]
    refine iteF ?_
    refine ⟨_, rfl, _, rfl, _, rfl, _, rfl, .ref a, f, e.x, e.y, e.s, rfl, Dv.fab (s4 _ _ ha), c3, fun z => ?_, fun z t nt => ?_⟩
    · exact ⟨rfl, q _ true s4 ⟨fun _ => ⟨c1, c2, c3, c4, z⟩, fun _ => rfl⟩⟩
    · exact ⟨rfl, q _ false (s4.trans (same_new nt)) ⟨fun z => (by cases z), fun w => absurd w.b z⟩⟩

end K57
namespace K57
open PySem PySem.Spec PyProof.Rows L2 V0
/-! ### what stands where -/
/-- xs stands in bs from at on -/
def At (bs : List Nat) (at_ : Nat) (xs : List Nat) : Prop := ∀ k x, xs[k]? = some x → bs[at_ + k]? = some x
theorem At.left {bs xs ys : List Nat} {a : Nat} (h : At bs a (xs ++ ys)) : At bs a xs := fun k x e => h k x (by
  rw [List.getElem?_append_left (List.getElem?_eq_some_iff.mp e).1]
  exact e)
theorem At.right {bs xs ys : List Nat} {a : Nat} (h : At bs a (xs ++ ys)) : At bs (a + xs.length) ys := fun k x e => by
  rw [Nat.add_assoc]
  refine h _ x ?_
  rw [List.getElem?_append_right (Nat.le_add_right _ _), Nat.add_sub_cancel_left]
  exact e
theorem At.self (xs : List Nat) : At xs 0 xs := fun k x e => by
  rw [Nat.zero_add]
  exact e
theorem At.fits {bs xs : List Nat} {a : Nat} (h : At bs a xs) : xs.length = 0 ∨ a + xs.length ≤ bs.length := by
  cases e : xs.length with
  | zero => exact .inl rfl
  | succ n =>
    refine .inr ?_
    have hx : xs[n]? = some xs[n] := List.getElem?_eq_getElem (by omega)
    have := (List.getElem?_eq_some_iff.mp (h n _ hx)).1
    omega
theorem num_step (bs : List Nat) (a w : Nat) : num bs a (w + 1) = num bs a w + (bs[a + w]?.getD 0) * 2 ^ w := by
  unfold num
  rw [List.range_succ, List.map_append, List.sum_append]
  simp
theorem bt_get {n w k : Nat} (h : k < w) : (bt n w)[k]? = some (n / 2 ^ k % 2) := by
  unfold bt
  rw [List.getElem?_map, List.getElem?_range h]
  rfl
theorem num_bt {bs : List Nat} {a n : Nat} : ∀ {w : Nat}, At bs a (bt n w) → num bs a w = n % 2 ^ w
  | 0, _ => by
    rw [Nat.pow_zero, Nat.mod_one]
    rfl
  | w + 1, h => by
    have h1 : At bs a (bt n w) := by
      rw [bt_step] at h
      exact h.left
    have h2 := h w _ (bt_get (Nat.lt_succ_self w))
    rw [num_step, num_bt h1, h2, Option.getD_some, Nat.mod_pow_succ, Nat.mul_comm]
theorem wr_cons (n w : Nat) (ns ws : List Nat) : wr (n :: ns) (w :: ws) = bt n w ++ wr ns ws := by
  unfold wr
  rw [List.length_cons, List.range_succ_eq_map, List.map_cons, List.flatten_cons, List.map_map]
  rfl
theorem wr_nil (ws : List Nat) : wr [] ws = [] := rfl
theorem rd_cons (bs : List Nat) (a w : Nat) (ws : List Nat) : rd bs a (w :: ws) = num bs a w :: rd bs (a + w) ws := by
  unfold rd
  rw [List.length_cons, List.range_succ_eq_map, List.map_cons, List.map_map]
  refine congr (congrArg List.cons ?_) (List.map_congr_left fun i _ => ?_)
  · rfl
  · show num bs (a + ((w :: ws).take (i + 1)).sum) ((w :: ws)[i + 1]?.getD 0) = _
    rw [List.take_succ_cons, List.sum_cons, List.getElem?_cons_succ, Nat.add_assoc]
/-- what was written is read -/
theorem rd_wr {bs : List Nat} : ∀ {ns ws : List Nat} {a : Nat}, ns.length = ws.length → At bs a (wr ns ws) → (∀ (i n w : Nat), ns[i]? = some n → ws[i]? = some w → n < 2 ^ w) → rd bs a ws = ns
  | [], [], _, _, _, _ => rfl
  | [], w :: ws, _, h, _, _ => by cases h
  | n :: ns, [], _, h, _, _ => by cases h
  | n :: ns, w :: ws, a, l, h, b => by
    rw [wr_cons] at h
    rw [rd_cons, num_bt h.left, Nat.mod_eq_of_lt (b 0 n w rfl rfl)]
    have h2 := h.right
    rw [bt_len] at h2
    rw [rd_wr (Nat.succ.inj l) h2 fun i n' w' e1 e2 => b (i + 1) n' w' e1 e2]
theorem wr_len : ∀ {ns ws : List Nat}, ns.length = ws.length → (wr ns ws).length = ws.sum
  | [], [], _ => rfl
  | [], w :: ws, h => by cases h
  | n :: ns, [], h => by cases h
  | n :: ns, w :: ws, h => by
    rw [wr_cons, List.length_append, bt_len, wr_len (Nat.succ.inj h), List.sum_cons]
theorem bt_two (n w : Nat) : ∀ x ∈ bt n w, x < 2 := fun x hx => by
  obtain ⟨k, _, rfl⟩ := List.mem_map.mp hx
  exact Nat.mod_lt _ (by decide)
theorem wr_two (ns ws : List Nat) : ∀ x ∈ wr ns ws, x < 2 := fun x hx => by
  obtain ⟨l, hl, hx⟩ := List.mem_flatten.mp hx
  obtain ⟨i, _, rfl⟩ := List.mem_map.mp hl
  exact bt_two _ _ x hx
theorem crcL_two (bs : List Nat) : ∀ x ∈ crcL bs, x < 2 := fun x hx => by
  obtain ⟨j, _, rfl⟩ := List.mem_map.mp hx
  cases rb (crc bs) j <;> decide
theorem crcL_len (bs : List Nat) : (crcL bs).length = 16 := by
  unfold crcL
  rw [List.length_map, List.length_range]
/-! ### the whole encoding -/
def headB (c : Conf) : List Nat := wr [c.fab.w - 1, c.fab.h - 1, c.fab.t - 1, c.fab.p - 1, c.ins.length, c.outs.length] [4, 4, 3, 2, 7, 7]
def settB (f : Fab) (s : Sett) : List Nat := wr [s.table, s.kept, s.start] [2 ^ f.p, 1, 1] ++ wr s.taps (List.replicate s.taps.length (tapB f.t)) ++ wr s.drv (List.replicate s.drv.length 3)
def padB (e : Pad) : List Nat := wr [e.x, e.y, e.s, e.k] [4, 4, 2, 3]
def body (c : Conf) : List Nat := headB c ++ (c.set.map (settB c.fab)).flatten ++ ((c.ins ++ c.outs).map padB).flatten
def enc (c : Conf) : List Nat := body c ++ crcL (body c)
structure SettOk (f : Fab) (s : Sett) : Prop where
  table : s.table < 2 ^ 2 ^ f.p
  kept : s.kept < 2
  start : s.start < 2
  taps : s.taps.length = f.p
  tap : ∀ x ∈ s.taps, x ≤ f.tapMost
  drv : s.drv.length = 4 * f.t
  dr : ∀ x ∈ s.drv, x ≤ 5
structure ConfOk (c : Conf) : Prop where
  fab : FabOk c.fab
  many : c.set.length = c.fab.w * c.fab.h
  set : ∀ s ∈ c.set, SettOk c.fab s
  ins : ∀ e ∈ c.ins, PadOk c.fab e
  outs : ∀ e ∈ c.outs, PadOk c.fab e
  nins : c.ins.Nodup
  nouts : c.outs.Nodup
  lins : c.ins.length ≤ 64
  louts : c.outs.length ≤ 64
theorem tap_lt {f : Fab} (h : f.t ≤ 8) {x : Nat} (hx : x ≤ f.tapMost) : x < 2 ^ tapB f.t := by
  unfold Fab.tapMost at hx
  generalize f.t = t at h hx
  have : t = 0 ∨ t = 1 ∨ t = 2 ∨ t = 3 ∨ t = 4 ∨ t = 5 ∨ t = 6 ∨ t = 7 ∨ t = 8 := by omega
  rcases this with rfl | rfl | rfl | rfl | rfl | rfl | rfl | rfl | rfl <;> exact Nat.lt_of_le_of_lt hx (by decide)
theorem rep_sum (n x : Nat) : (List.replicate n x).sum = n * x := by
  induction n with
  | zero => rw [Nat.zero_mul]; rfl
  | succ n ih =>
    rw [List.replicate_succ, List.sum_cons, ih, Nat.succ_mul]
    omega
theorem settB_len {f : Fab} {s : Sett} (h : SettOk f s) : (settB f s).length = f.setBits := by
  unfold settB Fab.setBits
  rw [List.length_append, List.length_append, wr_len (ns := [s.table, s.kept, s.start]) (ws := [2 ^ f.p, 1, 1]) rfl, wr_len (by rw [List.length_replicate]), wr_len (by rw [List.length_replicate]), rep_sum, rep_sum, h.taps, h.drv]
  show 2 ^ f.p + (1 + (1 + 0)) + _ + _ = _
  omega
theorem padB_len (e : Pad) : (padB e).length = 13 := wr_len rfl
theorem flat_map_len {α : Type} {f : α → List Nat} {n : Nat} : ∀ {xs : List α}, (∀ x ∈ xs, (f x).length = n) → ((xs.map f).flatten).length = xs.length * n
  | [], _ => by rw [List.length_nil, Nat.zero_mul]; rfl
  | x :: xs, h => by
    rw [List.map_cons, List.flatten_cons, List.length_append, h x List.mem_cons_self, flat_map_len fun y hy => h y (List.mem_cons_of_mem _ hy), List.length_cons, Nat.succ_mul]
    omega
theorem at_map {α : Type} {bs : List Nat} {f : α → List Nat} {n : Nat} : ∀ {xs : List α} {a : Nat}, (∀ x ∈ xs, (f x).length = n) → At bs a (xs.map f).flatten → ∀ (i : Nat) (x : α), xs[i]? = some x → At bs (a + i * n) (f x)
  | [], _, _, _, i, x, e => by simp at e
  | y :: ys, a, h, hat, 0, x, e => by
    cases e
    rw [List.map_cons, List.flatten_cons] at hat
    rw [Nat.zero_mul]
    exact hat.left
  | y :: ys, a, h, hat, i + 1, x, e => by
    rw [List.map_cons, List.flatten_cons] at hat
    have h2 := hat.right
    rw [h y List.mem_cons_self] at h2
    have := at_map (fun z hz => h z (List.mem_cons_of_mem _ hz)) h2 i x e
    have e2 : a + (i + 1) * n = a + n + i * n := by rw [Nat.succ_mul]; omega
    rw [e2]
    exact this
theorem headB_len (c : Conf) : (headB c).length = 27 := wr_len rfl
theorem body_len {c : Conf} (h : ConfOk c) : (body c).length = 27 + c.fab.w * c.fab.h * c.fab.setBits + (c.ins.length + c.outs.length) * 13 := by
  unfold body
  rw [List.length_append, List.length_append, headB_len, flat_map_len fun s hs => settB_len (h.set s hs), flat_map_len fun e _ => padB_len e, h.many, List.length_append]
theorem enc_len {c : Conf} (h : ConfOk c) : (enc c).length = c.fab.size c.ins.length c.outs.length := by
  unfold enc Fab.size
  rw [List.length_append, body_len h, crcL_len]
theorem body_two (c : Conf) : ∀ x ∈ body c, x < 2 := fun x hx => by
  unfold body at hx
  rcases List.mem_append.mp hx with hx | hx
  · rcases List.mem_append.mp hx with hx | hx
    · exact wr_two _ _ x hx
    · obtain ⟨l, hl, hx⟩ := List.mem_flatten.mp hx
      obtain ⟨s, _, rfl⟩ := List.mem_map.mp hl
      rcases List.mem_append.mp hx with hx | hx
      · rcases List.mem_append.mp hx with hx | hx
        · exact wr_two _ _ x hx
        · exact wr_two _ _ x hx
      · exact wr_two _ _ x hx
  · obtain ⟨l, hl, hx⟩ := List.mem_flatten.mp hx
    obtain ⟨s, _, rfl⟩ := List.mem_map.mp hl
    exact wr_two _ _ x hx
theorem enc_two (c : Conf) : ∀ x ∈ enc c, x < 2 := fun x hx => (List.mem_append.mp hx).elim (body_two c x) (crcL_two _ x)

end K57
namespace K57
open PySem PySem.Spec PyProof.Rows L2 V0
/-! ### how long the bits are -/
theorem enc_few {c : Conf} (ok : ConfOk c) : (enc c).length ≤ 60000 ∧ c.fab.setBits ≤ 138 := by
  have f := ok.fab
  have h1 := Nat.mul_le_mul f.w1 f.h1
  have h2 : c.fab.setBits ≤ 138 := by
    unfold Fab.setBits
    have h3 := Nat.mul_le_mul f.p1 (tapB_le f.t1)
    have h4 := f.t1
    have h5 : 2 ^ c.fab.p ≤ 2 ^ 4 := Nat.pow_le_pow_right (by decide) f.p1
    omega
  have h3 := Nat.mul_le_mul h1 h2
  have h4 := ok.lins
  have h5 := ok.louts
  rw [enc_len ok]
  unfold Fab.size
  exact ⟨by omega, h2⟩

/-! ### bits as a config, and where they do not fit -/
def seg (bs : List Nat) (a w : Nat) : List Nat := (List.range w).map fun k => bs[a + k]?.getD 0
theorem seg_len (bs : List Nat) (a w : Nat) : (seg bs a w).length = w := by
  unfold seg
  rw [List.length_map, List.length_range]
theorem seg_app (bs : List Nat) (a u v : Nat) : seg bs a (u + v) = seg bs a u ++ seg bs (a + u) v := by
  unfold seg
  rw [List.range_add, List.map_append, List.map_map]
  refine congrArg _ (List.map_congr_left fun k _ => ?_)
  show bs[a + (u + k)]?.getD 0 = _
  rw [Nat.add_assoc]
theorem seg_one (bs : List Nat) (a w : Nat) : seg bs a (w + 1) = seg bs a w ++ [bs[a + w]?.getD 0] := by
  rw [seg_app]
  rfl
theorem seg_take {bs : List Nat} : ∀ {n : Nat}, n ≤ bs.length → seg bs 0 n = bs.take n
  | 0, _ => by rw [List.take_zero]; rfl
  | n + 1, h => by
    have e : bs[n]? = some bs[n] := List.getElem?_eq_getElem (by omega)
    rw [seg_one, seg_take (n := n) (by omega), take_snoc e, Nat.zero_add, e, Option.getD_some]
theorem getD_two {bs : List Nat} (h : ∀ b ∈ bs, b < 2) (i : Nat) : bs[i]?.getD 0 < 2 := by
  cases e : bs[i]? with
  | none => decide
  | some x => exact h x (List.mem_of_getElem? e)
theorem num_lt {bs : List Nat} (h : ∀ b ∈ bs, b < 2) (a : Nat) : ∀ w, num bs a w < 2 ^ w
  | 0 => by
    show (0 : Nat) < 1
    exact Nat.one_pos
  | w + 1 => by
    have h1 := num_lt h a w
    have h2 := getD_two h (a + w)
    have h3 : bs[a + w]?.getD 0 * 2 ^ w ≤ 1 * 2 ^ w := Nat.mul_le_mul_right _ (by omega)
    rw [num_step, Nat.pow_succ]
    omega
theorem bt_low (m b w : Nat) : ∀ v, v ≤ w → bt (m + b * 2 ^ w) v = bt m v := fun v hv => by
  unfold bt
  refine List.map_congr_left fun k hk => ?_
  have hk := List.mem_range.mp hk
  have e : b * 2 ^ w = 2 ^ k * (2 * (b * 2 ^ (w - k - 1))) := by
    have e1 : w = k + 1 + (w - k - 1) := by omega
    have e2 : 2 ^ w = 2 ^ k * 2 * 2 ^ (w - k - 1) := by
      rw [← Nat.pow_succ, ← Nat.pow_add, ← e1]
    rw [e2, Nat.mul_left_comm b, Nat.mul_assoc, Nat.mul_left_comm]
  rw [e, Nat.add_mul_div_left _ _ (Nat.two_pow_pos k)]
  omega
theorem bt_num {bs : List Nat} (h : ∀ b ∈ bs, b < 2) (a : Nat) : ∀ w, bt (num bs a w) w = seg bs a w
  | 0 => rfl
  | w + 1 => by
    have h1 := num_lt h a w
    have h2 := getD_two h (a + w)
    rw [bt_step, num_step, seg_one, bt_low _ _ w w (Nat.le_refl _), bt_num h a w, Nat.mul_comm, Nat.add_mul_div_left _ _ (Nat.two_pow_pos w), Nat.div_eq_of_lt h1, Nat.zero_add, Nat.mod_eq_of_lt h2]
theorem wr_rd {bs : List Nat} (h : ∀ b ∈ bs, b < 2) : ∀ (ws : List Nat) (a : Nat), wr (rd bs a ws) ws = seg bs a ws.sum
  | [], _ => rfl
  | w :: ws, a => by rw [rd_cons, wr_cons, bt_num h, wr_rd h ws, List.sum_cons, ← seg_app]
theorem rd_rep (bs : List Nat) (w : Nat) : ∀ (n a : Nat), rd bs a (List.replicate n w) = (List.range n).map fun k => num bs (a + k * w) w
  | 0, _ => rfl
  | n + 1, a => by
    rw [List.replicate_succ, rd_cons, rd_rep bs w n, List.range_succ_eq_map, List.map_cons, List.map_map, Nat.zero_mul]
    refine congrArg _ (List.map_congr_left fun k _ => ?_)
    show _ = num bs (a + (k + 1) * w) w
    rw [Nat.succ_mul, Nat.add_assoc, Nat.add_comm w]
theorem seg_flat {bs : List Nat} {f : Nat → List Nat} {a m : Nat} : ∀ n, (∀ i, i < n → f i = seg bs (a + i * m) m) → ((List.range n).map f).flatten = seg bs a (n * m)
  | 0, _ => by rw [Nat.zero_mul]; rfl
  | n + 1, h => by
    rw [flat_step, seg_flat n fun i hi => h i (by omega), h n (by omega), Nat.succ_mul, seg_app]
/-! what is read -/
def nI (xs : List Nat) : Nat := num xs 13 7
def nO (xs : List Nat) : Nat := num xs 20 7
def decF (xs : List Nat) : Fab := ⟨num xs 0 4 + 1, num xs 4 4 + 1, num xs 8 3 + 1, num xs 11 2 + 1⟩
def decT (xs : List Nat) (a w n : Nat) : List Nat := (List.range n).map fun k => num xs (a + k * w) w
def decS (xs : List Nat) (f : Fab) (a : Nat) : Sett := ⟨num xs a (2 ^ f.p), num xs (a + 2 ^ f.p) 1, num xs (a + 2 ^ f.p + 1) 1, decT xs (a + 2 ^ f.p + 2) (tapB f.t) f.p, decT xs (a + 2 ^ f.p + 2 + f.p * tapB f.t) 3 (4 * f.t)⟩
def decSs (xs : List Nat) (f : Fab) (n : Nat) : List Sett := (List.range n).map fun i => decS xs f (27 + i * f.setBits)
def decP (xs : List Nat) (a : Nat) : Pad := ⟨num xs a 4, num xs (a + 4) 4, num xs (a + 8) 2, num xs (a + 10) 3⟩
def decPs (xs : List Nat) (a n : Nat) : List Pad := (List.range n).map fun k => decP xs (a + k * 13)
def endsA (f : Fab) : Nat := 27 + f.w * f.h * f.setBits
def decC (xs : List Nat) : Conf := ⟨decF xs, decSs xs (decF xs) ((decF xs).w * (decF xs).h), decPs xs (endsA (decF xs)) (nI xs), decPs xs (endsA (decF xs) + nI xs * 13) (nO xs)⟩
/-! where they do not fit -/
def fs (n : Nat) (g : Nat → Option Nat) : Option Nat := (List.range n).findSome? g
theorem fs_step (n : Nat) (g : Nat → Option Nat) : fs (n + 1) g = (fs n g).or (g n) := by
  unfold fs
  rw [List.range_succ, List.findSome?_append]
  cases h : g n with
  | none => simp [h]
  | some z => simp [h]
theorem fs_next {n : Nat} {g : Nat → Option Nat} (h : fs n g = none) : fs (n + 1) g = g n := by rw [fs_step, h]; rfl
theorem fs_hit {i z : Nat} {g : Nat → Option Nat} (h : fs i g = none) (e : g i = some z) : ∀ n, i < n → fs n g = some z
  | 0, l => by omega
  | n + 1, l => by
    by_cases c : i = n
    · subst c
      rw [fs_next h, e]
    · rw [fs_step, fs_hit h e n (by omega)]
      rfl
theorem fs_none {n : Nat} {g : Nat → Option Nat} (h : fs n g = none) : ∀ i, i < n → g i = none := fun i hi => by
  induction n with
  | zero => omega
  | succ n ih =>
    rw [fs_step] at h
    have h1 : fs n g = none := by
      cases e : fs n g with
      | none => rfl
      | some z => rw [e] at h; cases h
    rw [h1] at h
    by_cases c : i = n
    · subst c
      exact h
    · exact ih h1 (by omega)
def codesG (xs : List Nat) (a w g k : Nat) : Option Nat := if num xs (a + k * w) w > g then some (a + k * w) else none
def codesF (xs : List Nat) (a w n g : Nat) : Option Nat := fs n (codesG xs a w g)
def settF (xs : List Nat) (f : Fab) (a : Nat) : Option Nat := (codesF xs (a + 2 ^ f.p + 2) (tapB f.t) f.p f.tapMost).or (codesF xs (a + 2 ^ f.p + 2 + f.p * tapB f.t) 3 (4 * f.t) 5)
def settsF (xs : List Nat) (f : Fab) (n : Nat) : Option Nat := fs n fun i => settF xs f (27 + i * f.setBits)
open Classical in
noncomputable def endsG (xs : List Nat) (f : Fab) (a k : Nat) : Option Nat := if PadOk f (decP xs (a + k * 13)) ∧ decP xs (a + k * 13) ∉ decPs xs a k then none else some (a + k * 13)
noncomputable def endsF (xs : List Nat) (f : Fab) (a n : Nat) : Option Nat := fs n (endsG xs f a)
def headG (xs : List Nat) (k : Nat) : Option Nat := if (rd xs 0 [4, 4, 3, 2, 7, 7])[k]?.getD 0 > ([11, 11, 7, 3, 64, 64] : List Nat)[k]?.getD 0 then some (([0, 4, 8, 11, 13, 20] : List Nat)[k]?.getD 0) else none
def headF (xs : List Nat) : Option Nat := fs 6 (headG xs)
def headR (xs : List Nat) : Option Nat := if xs.length < 27 then some xs.length else headF xs
noncomputable def restF (xs : List Nat) : Option Nat :=
  (settsF xs (decF xs) ((decF xs).w * (decF xs).h)).or ((endsF xs (decF xs) (endsA (decF xs)) (nI xs)).or (endsF xs (decF xs) (endsA (decF xs) + nI xs * 13) (nO xs)))
def sizeF (xs : List Nat) : Nat := (decF xs).size (nI xs) (nO xs)
noncomputable def sumF (xs : List Nat) : Option Nat := if xs.drop (sizeF xs - 16) ≠ crcL (xs.take (sizeF xs - 16)) then some (sizeF xs - 16) else restF xs
noncomputable def lenF (xs : List Nat) : Option Nat := if xs.length ≠ sizeF xs then some (min xs.length (sizeF xs)) else sumF xs
noncomputable def faultB (xs : List Nat) : Option Nat := if xs.length < 27 then some xs.length else (headF xs).or (lenF xs)
theorem or_none {a b : Option Nat} (h : a.or b = none) : a = none ∧ b = none := by
  cases a with
  | none => exact ⟨rfl, h⟩
  | some z => cases h
theorem rd_head6 (xs : List Nat) : rd xs 0 [4, 4, 3, 2, 7, 7] = [num xs 0 4, num xs 4 4, num xs 8 3, num xs 11 2, nI xs, nO xs] := by
  rw [rd_cons, rd_cons, rd_cons, rd_cons, rd_cons, rd_cons]
  rfl
theorem headF_fab {xs : List Nat} (two : ∀ b ∈ xs, b < 2) (h : headF xs = none) : FabOk (decF xs) ∧ nI xs ≤ 64 ∧ nO xs ≤ 64 := by
  have g := fs_none h
  unfold headG at g
  simp only [rd_head6] at g
  have g0 : ¬ num xs 0 4 > 11 := fun c => by
    have := g 0 (by decide)
    rw [if_pos (by exact c)] at this
    cases this
  have g1 : ¬ num xs 4 4 > 11 := fun c => by
    have := g 1 (by decide)
    rw [if_pos (by exact c)] at this
    cases this
  have g4 : ¬ nI xs > 64 := fun c => by
    have := g 4 (by decide)
    rw [if_pos (by exact c)] at this
    cases this
  have g5 : ¬ nO xs > 64 := fun c => by
    have := g 5 (by decide)
    rw [if_pos (by exact c)] at this
    cases this
  have g2 : num xs 8 3 < 2 ^ 3 := num_lt two 8 3
  have g3 : num xs 11 2 < 2 ^ 2 := num_lt two 11 2
  refine ⟨⟨?_, ?_, ?_, ?_, ?_, ?_, ?_, ?_⟩, by omega, by omega⟩
  · show 1 ≤ num xs 0 4 + 1
    omega
  · show num xs 0 4 + 1 ≤ 12
    omega
  · show 1 ≤ num xs 4 4 + 1
    omega
  · show num xs 4 4 + 1 ≤ 12
    omega
  · show 1 ≤ num xs 8 3 + 1
    omega
  · show num xs 8 3 + 1 ≤ 8
    omega
  · show 1 ≤ num xs 11 2 + 1
    omega
  · show num xs 11 2 + 1 ≤ 4
    omega
theorem codesF_le {xs : List Nat} {a w n g : Nat} (h : codesF xs a w n g = none) : ∀ x ∈ decT xs a w n, x ≤ g := fun x hx => by
  obtain ⟨k, hk, rfl⟩ := List.mem_map.mp hx
  have := fs_none h k (List.mem_range.mp hk)
  unfold codesG at this
  by_cases c : num xs (a + k * w) w > g
  · rw [if_pos c] at this
    cases this
  · omega
theorem decT_len (xs : List Nat) (a w n : Nat) : (decT xs a w n).length = n := by
  unfold decT
  rw [List.length_map, List.length_range]
theorem settF_ok {xs : List Nat} (two : ∀ b ∈ xs, b < 2) {f : Fab} {a : Nat} (h : settF xs f a = none) : SettOk f (decS xs f a) := by
  obtain ⟨h1, h2⟩ := or_none h
  exact ⟨num_lt two _ _, num_lt two _ 1, num_lt two _ 1, decT_len _ _ _ _, codesF_le h1, decT_len _ _ _ _, codesF_le h2⟩
theorem endsF_ok {xs : List Nat} {f : Fab} {a n : Nat} (h : endsF xs f a n = none) : (∀ e ∈ decPs xs a n, PadOk f e) ∧ (decPs xs a n).Nodup := by
  have g : ∀ k, k < n → PadOk f (decP xs (a + k * 13)) ∧ decP xs (a + k * 13) ∉ decPs xs a k := fun k hk => by
    have := fs_none h k hk
    unfold endsG at this
    by_cases c : PadOk f (decP xs (a + k * 13)) ∧ decP xs (a + k * 13) ∉ decPs xs a k
    · exact c
    · rw [if_neg c] at this
      cases this
  refine ⟨fun e he => ?_, ?_⟩
  · obtain ⟨k, hk, rfl⟩ := List.mem_map.mp he
    exact (g k (List.mem_range.mp hk)).1
  · clear h
    induction n with
    | zero => exact List.nodup_nil
    | succ n ih =>
      unfold decPs
      rw [List.range_succ, List.map_append]
      refine List.nodup_append.mpr ⟨ih fun k hk => g k (by omega), List.nodup_cons.mpr ⟨by simp, List.nodup_nil⟩, fun x hx y hy e => ?_⟩
      rw [List.map_cons, List.map_nil, List.mem_singleton] at hy
      subst hy
      rw [e] at hx
      exact (g n (by omega)).2 hx
theorem decPs_len (xs : List Nat) (a n : Nat) : (decPs xs a n).length = n := by
  unfold decPs
  rw [List.length_map, List.length_range]
theorem rest_ok {xs : List Nat} (two : ∀ b ∈ xs, b < 2) (hh : headF xs = none) (h : restF xs = none) : ConfOk (decC xs) := by
  obtain ⟨fo, hi, ho⟩ := headF_fab two hh
  obtain ⟨h1, h23⟩ := or_none h
  obtain ⟨h2, h3⟩ := or_none h23
  refine ⟨fo, ?_, fun s hs => ?_, (endsF_ok h2).1, (endsF_ok h3).1, (endsF_ok h2).2, (endsF_ok h3).2, ?_, ?_⟩
  · show (decSs _ _ _).length = _
    unfold decSs
    rw [List.length_map, List.length_range]
    rfl
  · obtain ⟨i, hi, rfl⟩ := List.mem_map.mp hs
    exact settF_ok two (fs_none h1 i (List.mem_range.mp hi))
  · show (decPs _ _ _).length ≤ _
    rw [decPs_len]
    exact hi
  · show (decPs _ _ _).length ≤ _
    rw [decPs_len]
    exact ho
theorem settB_dec {xs : List Nat} (two : ∀ b ∈ xs, b < 2) (f : Fab) (a : Nat) : settB f (decS xs f a) = seg xs a f.setBits := by
  have e1 : wr [num xs a (2 ^ f.p), num xs (a + 2 ^ f.p) 1, num xs (a + 2 ^ f.p + 1) 1] [2 ^ f.p, 1, 1] = seg xs a (2 ^ f.p + 2) := by
    have := wr_rd two [2 ^ f.p, 1, 1] a
    rw [rd_cons, rd_cons, rd_cons] at this
    rw [List.sum_cons] at this
    exact this
  have e2 : ∀ b w n, wr (decT xs b w n) (List.replicate (decT xs b w n).length w) = seg xs b (n * w) := fun b w n => by
    rw [decT_len]
    have := wr_rd two (List.replicate n w) b
    rw [rd_rep, rep_sum] at this
    exact this
  unfold settB
  show wr [num xs a (2 ^ f.p), num xs (a + 2 ^ f.p) 1, num xs (a + 2 ^ f.p + 1) 1] [2 ^ f.p, 1, 1] ++ wr (decT xs (a + 2 ^ f.p + 2) (tapB f.t) f.p) (List.replicate (decT xs (a + 2 ^ f.p + 2) (tapB f.t) f.p).length (tapB f.t)) ++ wr (decT xs (a + 2 ^ f.p + 2 + f.p * tapB f.t) 3 (4 * f.t)) (List.replicate (decT xs (a + 2 ^ f.p + 2 + f.p * tapB f.t) 3 (4 * f.t)).length 3) = _
  rw [e1, e2, e2]
  unfold Fab.setBits
  rw [seg_app xs a (2 ^ f.p + 2 + f.p * tapB f.t), seg_app xs a (2 ^ f.p + 2)]
  simp only [Nat.add_assoc]
theorem padB_dec {xs : List Nat} (two : ∀ b ∈ xs, b < 2) (a : Nat) : padB (decP xs a) = seg xs a 13 := by
  have := wr_rd two [4, 4, 2, 3] a
  rw [rd_cons, rd_cons, rd_cons, rd_cons] at this
  exact this
theorem body_dec {xs : List Nat} (two : ∀ b ∈ xs, b < 2) : body (decC xs) = seg xs 0 (sizeF xs - 16) := by
  have e0 : headB (decC xs) = seg xs 0 27 := by
    have := wr_rd two [4, 4, 3, 2, 7, 7] 0
    rw [rd_head6] at this
    have l1 : (decC xs).ins.length = nI xs := decPs_len _ _ _
    have l2 : (decC xs).outs.length = nO xs := decPs_len _ _ _
    unfold headB
    rw [l1, l2]
    exact this
  have e1 : ((decC xs).set.map (settB (decC xs).fab)).flatten = seg xs 27 ((decF xs).w * (decF xs).h * (decF xs).setBits) := by
    show ((decSs xs (decF xs) _).map (settB (decF xs))).flatten = _
    unfold decSs
    rw [List.map_map]
    exact seg_flat _ fun i _ => settB_dec two _ _
  have e2 : ∀ a n, ((decPs xs a n).map padB).flatten = seg xs a (n * 13) := fun a n => by
    unfold decPs
    rw [List.map_map]
    exact seg_flat _ fun i _ => padB_dec two _
  unfold body
  rw [e0, e1, List.map_append, List.flatten_append]
  show seg xs 0 27 ++ _ ++ (((decPs xs (endsA (decF xs)) (nI xs)).map padB).flatten ++ ((decPs xs (endsA (decF xs) + nI xs * 13) (nO xs)).map padB).flatten) = _
  rw [e2, e2]
  unfold sizeF Fab.size endsA
  generalize (decF xs).w * (decF xs).h * (decF xs).setBits = N
  rw [Nat.add_sub_cancel, Nat.add_mul, ← Nat.add_assoc, seg_app xs 0 (27 + N + nI xs * 13), seg_app xs 0 (27 + N), seg_app xs 0 27, Nat.zero_add, Nat.zero_add, Nat.zero_add]
  simp only [List.append_assoc]
theorem decPs_snoc (xs : List Nat) (a i : Nat) : decPs xs a (i + 1) = decPs xs a i ++ [decP xs (a + i * 13)] := by
  unfold decPs
  rw [List.range_succ, List.map_append]
  rfl
theorem decSs_snoc (xs : List Nat) (f : Fab) (i : Nat) : decSs xs f (i + 1) = decSs xs f i ++ [decS xs f (27 + i * f.setBits)] := by
  unfold decSs
  rw [List.range_succ, List.map_append]
  rfl
/-- bits that fit are those of their config -/
theorem fault_none {xs : List Nat} (two : ∀ b ∈ xs, b < 2) (h : faultB xs = none) : ConfOk (decC xs) ∧ enc (decC xs) = xs := by
  unfold faultB at h
  by_cases c : xs.length < 27
  · rw [if_pos c] at h
    cases h
  rw [if_neg c] at h
  obtain ⟨hh, h⟩ := or_none h
  unfold lenF at h
  by_cases c1 : xs.length ≠ sizeF xs
  · rw [if_pos c1] at h
    cases h
  rw [if_neg c1] at h
  unfold sumF at h
  by_cases c2 : xs.drop (sizeF xs - 16) ≠ crcL (xs.take (sizeF xs - 16))
  · rw [if_pos c2] at h
    cases h
  rw [if_neg c2] at h
  refine ⟨rest_ok two hh h, ?_⟩
  have e : xs.length = sizeF xs := by omega
  have e2 : xs.drop (sizeF xs - 16) = crcL (xs.take (sizeF xs - 16)) := Classical.byContradiction c2
  unfold enc
  rw [body_dec two, seg_take (by omega), ← e2, List.take_append_drop]

end K57
namespace K57
open PySem PySem.Spec PyProof.Rows L2 V0
/-! ### the head read, or the place where it does not fit -/
def sp__head_of (K : PySem.W.Frag) (C : Addr) : Sp := fun vs H Q E => ∃ (a : Addr) (bs : List Nat), vs = [.ref a] ∧ H a = some (.lst (vn bs)) ∧ (∀ x ∈ bs, x < 2) ∧ bs.length ≤ 60000 ∧
  (headR bs = none → ∀ H' t b, Same H H' → H t = none → H b = none → H' t = some (.tup [.ref b, .int (nI bs : Nat), .int (nO bs : Nat)]) → H' b = some (.tup (decF bs).its) → Q (.ref t) H') ∧
  ∀ z, headR bs = some z → ∀ d H', Same H H' → H' d = some (.xd [("at", .int (z : Nat))]) → E (.ref C) (some d) H'
theorem offs_sum {i : Nat} (h : i < 6) : (([4, 4, 3, 2, 7, 7] : List Nat).take i).sum = ([0, 4, 8, 11, 13, 20] : List Nat)[i]?.getD 0 := by
  have : i = 0 ∨ i = 1 ∨ i = 2 ∨ i = 3 ∨ i = 4 ∨ i = 5 := by omega
  rcases this with rfl | rfl | rfl | rfl | rfl | rfl <;> rfl
theorem ok__head_of {P : Program} {w : World} {K : PySem.W.Frag} {mg : Str → Option Value} {base : Heap} {C_BitsError fI_BitsError : Addr} {fd_BitsError : FuncData} {B_ : Addr} {mc_ : Value} {O_FitError : Addr} {O_TextError : Addr} {tk_MOST_PLACES : Tok} {tk_MOST_TRACKS : Tok} {tk_MOST_PINS : Tok} {tk_MOST_ENDS : Tok} {tk_HEAD_BITS : Tok} {tk_END_BITS : Tok} {tk_SUM_BITS : Tok} {tk_DRIVE_BITS : Tok} {a_HEAD : Addr} {a_END : Addr} {a_STEPS_0 : Addr} {a_STEPS_1 : Addr} {a_STEPS_2 : Addr} {a_STEPS_3 : Addr} {a_STEPS : Addr} {f f_read : Addr} {fd fd_read : FuncData} (F : Fun K "_head_of" "_head_of" s__head_of f fd) (T : Txt K mg C_BitsError fI_BitsError fd_BitsError B_ mc_ O_FitError O_TextError tk_MOST_PLACES tk_MOST_TRACKS tk_MOST_PINS tk_MOST_ENDS tk_HEAD_BITS tk_END_BITS tk_SUM_BITS tk_DRIVE_BITS a_HEAD a_END a_STEPS_0 a_STEPS_1 a_STEPS_2 a_STEPS_3 a_STEPS)
    (G__read : FnOk P w K mg base CX0 1 f_read fd_read ["bits", "at", "widths"] (sp__read K)) (D__read : Def K mg "_read" f_read fd_read ["bits", "at", "widths"])
    (G_BitsError : FnOk P w K mg base CX0 1 fI_BitsError fd_BitsError ["self", "at"] (spExcI K "at"))
    (G_BitsError : FnOk P w K mg base CX0 1 fI_BitsError fd_BitsError ["self", "at"] (spExcI K "at")) :
    FnOk P w K mg base (L2N.CX P w) 3 f fd ["bits"] (sp__head_of K C_BitsError) := by
  refine okN F sc_head_of (fun vs H Q E h => ?_) (fun cdv A outer s0 H vs Q E hr h => ?_)
  · obtain ⟨a, bs, rfl, _⟩ := h
    rfl
  · obtain ⟨a, bs, rfl, ha, b2, few, q, er⟩ := h
    refine ⟨_, (pss_cons (ps_if (pt_cmpR op_lt (pe_callB call_len_seq (by rfl) T.m_len (by decide +kernel) (pa_cons (pv 0) pa_nil)) (pe_glob (v := V.int _) rfl T.m_HEAD_BITS ⟨_, rfl⟩) (nomark _)) (pss_one (L2N.ps_raise rfl (L2N.takes_of rfl rfl rfl rfl) (pmk_oexN T.x_BitsError.oex T.x_BitsError.ini T.x_BitsError.ty G_BitsError (hr.mono (by omega)) T.x_BitsError.b pass0 (by rfl) T.x_BitsError.m (pa_cons (pe_callB call_len_seq (by rfl) T.m_len (by decide +kernel) (pa_cons (pv 0) pa_nil)) pa_nil)))) pss_nil)
      (pss_cons (ps_set (i := 1) sc_head_of.nd rfl (.inl rfl) (pe_call G__read (hr.mono (by omega)) (by rfl) D__read.m D__read.k D__read.b .nil pass0 (pa_cons (pv 0) (pa_cons pe_int (pa_cons (pe_glob (v := V.ref _) rfl T.m_HEAD rfl) pa_nil)))))
      (pss_cons (ps_asg (pv 1) (pg_unl (by rfl) (pgs_cons (pg_name (i := 2) sc_head_of.nd rfl (Or.inl rfl)) (pgs_cons (pg_name (i := 3) sc_head_of.nd rfl (Or.inl rfl)) (pgs_cons (pg_name (i := 4) sc_head_of.nd rfl (Or.inl rfl)) (pgs_cons (pg_name (i := 5) sc_head_of.nd rfl (Or.inl rfl)) (pgs_cons (pg_name (i := 6) sc_head_of.nd rfl (Or.inl rfl)) (pgs_cons (pg_name (i := 7) sc_head_of.nd rfl (Or.inl rfl)) pgs_nil))))))))
      (pss_cons (ps_set (i := 8) sc_head_of.nd rfl (.inl rfl) (pe_tup (pa_cons (pe_op op_sub (pe_glob (v := V.int _) rfl T.m_MOST_PLACES ⟨_, rfl⟩) pe_int) (pa_cons (pe_op op_sub (pe_glob (v := V.int _) rfl T.m_MOST_PLACES ⟨_, rfl⟩) pe_int) (pa_cons (pe_op op_sub (pe_glob (v := V.int _) rfl T.m_MOST_TRACKS ⟨_, rfl⟩) pe_int) (pa_cons (pe_op op_sub (pe_glob (v := V.int _) rfl T.m_MOST_PINS ⟨_, rfl⟩) pe_int) (pa_cons (pe_glob (v := V.int _) rfl T.m_MOST_ENDS ⟨_, rfl⟩) (pa_cons (pe_glob (v := V.int _) rfl T.m_MOST_ENDS ⟨_, rfl⟩) pa_nil))))))))
      (pss_cons (ps_set (i := 9) sc_head_of.nd rfl (.inl rfl) pe_int)
      (pss_cons (ps_for (passes_of rfl) rfl (V0.pi_zip3 (by rfl) T.m_zip (pa_cons (pv 1) (pa_cons (pv 8) (pa_cons (pe_glob (v := V.ref _) rfl T.m_HEAD rfl) pa_nil)))) (pg_tup (by rfl) (pgs_cons (pg_name (i := 10) sc_head_of.nd rfl (Or.inl rfl)) (pgs_cons (pg_name (i := 11) sc_head_of.nd rfl (Or.inl rfl)) (pgs_cons (pg_name (i := 12) sc_head_of.nd rfl (Or.inl rfl)) pgs_nil)))) (pss_cons (ps_if (pt_cmpR op_gt (pv 10) (pv 11) (nomark _)) (pss_one (L2N.ps_raise rfl (L2N.takes_of rfl rfl rfl rfl) (pmk_oexN T.x_BitsError.oex T.x_BitsError.ini T.x_BitsError.ty G_BitsError (hr.mono (by omega)) T.x_BitsError.b pass0 (by rfl) T.x_BitsError.m (pa_cons (pv 9) pa_nil)))) pss_nil)
      (pss_one (ps_aug (i := 9) sc_head_of.nd rfl (.inl rfl) (pv 12) ip_add))))
      (pss_one (ps_ret (pe_tup (pa_cons (pe_tup (pa_cons pe_str (pa_cons (pe_op op_add (pv 2) pe_int) (pa_cons (pe_op op_add (pv 3) pe_int) (pa_cons (pe_op op_add (pv 4) pe_int) (pa_cons (pe_op op_add (pv 5) pe_int) pa_nil)))))) (pa_cons (pv 6) (pa_cons (pv 7) pa_nil)))))))))))), ?_⟩
    refine ⟨_, rfl, a, _, rfl, .inl (SqL.of ha), _, _, rfl, rfl, _, rfl, ?_⟩
    rw [vn_len]
    by_cases l27 : bs.length < 27
    · have hR : headR bs = some bs.length := by
        unfold headR
        rw [if_pos l27]
      rw [decide_eq_true (show ((bs.length : Nat) : Int) < 27 by omega)]
      refine iteT ⟨_, rfl, a, _, rfl, .inl (SqL.of ha), by show 1 ≤ 1000; decide, raisedJ T.x_BitsError (by rw [vn_len]) (by omega) fun d H2 s2 e2 => er _ hR d H2 s2 e2⟩
    have hR : headR bs = headF bs := by
      unfold headR
      rw [if_neg l27]
    rw [hR] at q er
    rw [decide_eq_false (show ¬ ((bs.length : Nat) : Int) < 27 by omega)]
    refine iteF ⟨_, rfl, true, a, a_HEAD, bs, [4, 4, 3, 2, 7, 7], 0, rfl, ha, T.t_HEAD H, b2, few, by decide, by show 0 + 27 ≤ _; omega, fun H1 l s1 nl hl => ?_⟩
    rw [rd_head6] at hl
    have m1 := num_lt b2 0 4
    have m2 := num_lt b2 4 4
    have m3 := num_lt b2 8 3
    have m4 := num_lt b2 11 2
    have m5 : nI bs < 2 ^ 7 := num_lt b2 13 7
    have m6 : nO bs < 2 ^ 7 := num_lt b2 20 7
    refine ⟨_, rfl, l, _, rfl, SqL.of hl, rfl, _, _, rfl, _, _, rfl, _, _, rfl, _, _, rfl, _, _, rfl, _, _, rfl, rfl, ?_⟩
    refine ⟨_, _, rfl, rfl, _, _, rfl, rfl, _, _, rfl, rfl, _, _, rfl, rfl, by show 6 ≤ sizeLine; decide, fun m nm => ?_⟩
    have s2 := same_new (o := .tup (vn [11, 11, 7, 3, 64, 64])) nm
    have hm : (upd H1 m (.tup (vn [11, 11, 7, 3, 64, 64]))) m = some (.tup (vn [11, 11, 7, 3, 64, 64])) := upd_same
    generalize he : (upd H1 m (.tup (vn [11, 11, 7, 3, 64, 64]))) = H2 at s2 hm
    show tSeq _ _ _ _ (upd H1 m (.tup (vn [11, 11, 7, 3, 64, 64])))
    rw [he]
    clear he
    have hl2 := s2 _ _ hl
    have s12 := s1.trans s2
    refine ⟨_, rfl, _, rfl, false, true, true, l, m, a_HEAD, _, _, _, rfl, SqL.of hl2, SqT.of hm, T.t_HEAD H2, for_it (walk_zip3 (K := K) (t1 := false) (t2 := true) (t3 := true) (b1 := l) (b2 := m) (b3 := a_HEAD) (xs := vn [num bs 0 4, num bs 4 4, num bs 8 3, num bs 11 2, nI bs, nO bs]) (ys := vn [11, 11, 7, 3, 64, 64]) (zs := vn [4, 4, 3, 2, 7, 7]) rfl rfl) (fun i σ Hx => ∃ (y10 y11 y12 : Option V), σ = [some (.ref a), some (.ref l), some (.int (num bs 0 4 : Nat)), some (.int (num bs 4 4 : Nat)), some (.int (num bs 8 3 : Nat)), some (.int (num bs 11 2 : Nat)), some (.int (nI bs : Nat)), some (.int (nO bs : Nat)), some (.ref m), some (.int ((([4, 4, 3, 2, 7, 7] : List Nat).take i).sum : Nat)), y10, y11, y12] ∧ Same H2 Hx ∧ fs i (headG bs) = none) ⟨none, none, none, rfl, Same.refl _, rfl⟩ (fun i σ Hx _ h => ?_) ?_ ?_⟩
    · obtain ⟨_, _, _, _, s, _⟩ := h
      exact ⟨SqL.of (s _ _ hl2), SqT.of (s _ _ hm), T.t_HEAD Hx⟩
    · rintro i x σ Hx Hx' hi ⟨y10, y11, y12, rfl, sx, hf⟩ ⟨T1, x1, x2, x3, rfl, nT, rfl, e1, e2, e3⟩
      obtain ⟨n, en, rfl, _⟩ := nat_at' e1
      obtain ⟨g, eg, rfl, _⟩ := nat_at' e2
      obtain ⟨w, ew, rfl, _⟩ := nat_at' e3
      have hi6 : i < 6 := hi
      have gi : headG bs i = if n > g then some (([0, 4, 8, 11, 13, 20] : List Nat)[i]?.getD 0) else none := by
        unfold headG
        rw [rd_head6, en, eg]
        rfl
      refine ⟨T1, _, rfl, SqT.of upd_same, rfl, _, _, rfl, _, _, rfl, _, _, rfl, rfl, ?_⟩
      refine ⟨_, rfl, _, rfl, _, _, rfl, rfl, _, rfl, ?_⟩
      by_cases gt : n > g
      · rw [if_pos gt] at gi
        rw [decide_eq_true (show ((n : Nat) : Int) > ((g : Nat) : Int) by omega)]
        have lt : ([0, 4, 8, 11, 13, 20] : List Nat)[i]?.getD 0 < 10 ^ 12 := by
          rw [← offs_sum hi6]
          exact Nat.lt_of_le_of_lt (sum_take_le _ i) (by decide)
        exact iteT ⟨_, rfl, by show 1 ≤ 1000; decide, raisedJ T.x_BitsError (congrArg _ (offs_sum hi6)) lt fun d H3 s3 e4 => er _ (fs_hit hf gi 6 hi6) d H3 ((s12.trans sx).trans ((same_new nT).trans s3)) e4⟩
      · rw [if_neg gt] at gi
        rw [decide_eq_false (show ¬ ((n : Nat) : Int) > ((g : Nat) : Int) by omega)]
        refine iteF ⟨_, rfl, _, rfl, _, _, rfl, rfl, some (.int (n : Nat)), some (.int (g : Nat)), some (.int (w : Nat)), ?_, sx.trans (same_new nT), by rw [fs_next hf]; exact gi⟩
        rw [sum_take_snoc ew, Int.natCast_add]
        rfl
    rintro σ Hx ⟨y10, y11, y12, rfl, sx, hf⟩
    have hf : headF bs = none := hf
    refine ⟨_, rfl, _, _, rfl, rfl, _, rfl, _, _, rfl, rfl, _, rfl, _, _, rfl, rfl, _, rfl, _, _, rfl, rfl, by show 5 ≤ sizeLine; decide, fun b nb => ⟨_, rfl, _, rfl, by show 3 ≤ sizeLine; decide, fun t nt => ?_⟩⟩
    have sb := same_new (o := .tup [V.str "fabric", .int (((num bs 0 4 : Nat) : Int) + 1), .int (((num bs 4 4 : Nat) : Int) + 1), .int (((num bs 8 3 : Nat) : Int) + 1), .int (((num bs 11 2 : Nat) : Int) + 1)]) nb
    have st := same_new (o := .tup [.ref b, .int (nI bs : Nat), .int (nO bs : Nat)]) nt
    have sX := s12.trans sx
    refine q hf _ t b (sX.trans (sb.trans st)) (none_of (sX.trans sb) nt) (none_of sX nb) upd_same (st _ _ ?_)
    rw [upd_same]
    rfl

end K57
namespace K57
open PySem PySem.Spec PyProof.Rows L2 V0
/-! ### codes and settings read, or the place where they do not fit -/
theorem vn_rep (n x : Nat) : vn (List.replicate n x) = List.replicate n (V.int (x : Nat)) := by
  unfold vn
  rw [List.map_replicate]
theorem rep_nat (k : Nat) (x : V) : (List.replicate ((k : Nat) : Int).toNat [x]).flatten = List.replicate k x := by
  rw [Int.toNat_natCast]
  induction k with
  | zero => rfl
  | succ k ih => rw [List.replicate_succ, List.flatten_cons, ih, List.replicate_succ]; rfl
def sp__codes_at (K : PySem.W.Frag) (C : Addr) : Sp := fun vs H Q E => ∃ (a : Addr) (bs : List Nat) (at_ many width g : Nat), vs = [.ref a, .int (at_ : Nat), .int (many : Nat), .int (width : Nat), .int (g : Nat)] ∧ H a = some (.lst (vn bs)) ∧ (∀ x ∈ bs, x < 2) ∧ bs.length ≤ 60000 ∧ many ≤ 100 ∧ width ≤ 60 ∧ at_ + many * width ≤ bs.length ∧
  (codesF bs at_ width many g = none → ∀ H' l, Same H H' → H l = none → H' l = some (.lst (vn (decT bs at_ width many))) → Q (.ref l) H') ∧
  ∀ z, codesF bs at_ width many g = some z → ∀ d H', Same H H' → H' d = some (.xd [("at", .int (z : Nat))]) → E (.ref C) (some d) H'
theorem ok__codes_at {P : Program} {w : World} {K : PySem.W.Frag} {mg : Str → Option Value} {base : Heap} {C_BitsError fI_BitsError : Addr} {fd_BitsError : FuncData} {B_ : Addr} {mc_ : Value} {O_FitError : Addr} {O_TextError : Addr} {tk_MOST_PLACES : Tok} {tk_MOST_TRACKS : Tok} {tk_MOST_PINS : Tok} {tk_MOST_ENDS : Tok} {tk_HEAD_BITS : Tok} {tk_END_BITS : Tok} {tk_SUM_BITS : Tok} {tk_DRIVE_BITS : Tok} {a_HEAD : Addr} {a_END : Addr} {a_STEPS_0 : Addr} {a_STEPS_1 : Addr} {a_STEPS_2 : Addr} {a_STEPS_3 : Addr} {a_STEPS : Addr} {f f_read : Addr} {fd fd_read : FuncData} (F : Fun K "_codes_at" "_codes_at" s__codes_at f fd) (T : Txt K mg C_BitsError fI_BitsError fd_BitsError B_ mc_ O_FitError O_TextError tk_MOST_PLACES tk_MOST_TRACKS tk_MOST_PINS tk_MOST_ENDS tk_HEAD_BITS tk_END_BITS tk_SUM_BITS tk_DRIVE_BITS a_HEAD a_END a_STEPS_0 a_STEPS_1 a_STEPS_2 a_STEPS_3 a_STEPS)
    (G__read : FnOk P w K mg base CX0 1 f_read fd_read ["bits", "at", "widths"] (sp__read K)) (D__read : Def K mg "_read" f_read fd_read ["bits", "at", "widths"])
    (G_BitsError : FnOk P w K mg base CX0 1 fI_BitsError fd_BitsError ["self", "at"] (spExcI K "at")) :
    FnOk P w K mg base (L2N.CX P w) 3 f fd ["bits", "at", "many", "width", "greatest"] (sp__codes_at K C_BitsError) := by
  refine okN F sc_codes_at (fun vs H Q E h => ?_) (fun cdv A outer s H vs Q E hr h => ?_)
  · obtain ⟨a, bs, at_, many, width, g, rfl, _⟩ := h
    rfl
  · obtain ⟨a, bs, at_, many, width, g, rfl, ha, b2, few, m100, w60, fit, q, er⟩ := h
    refine ⟨_, (pss_cons (ps_set (i := 5) sc_codes_at.nd rfl (.inl rfl) (pe_call G__read (hr.mono (by omega)) (by rfl) D__read.m D__read.k D__read.b .nil pass0 (pa_cons (pv 0) (pa_cons (pv 1) (pa_cons (pe_op op_rep (pe_lst (pa_cons (pv 3) pa_nil)) (pv 2)) pa_nil)))))
      (pss_cons (ps_for (passes_of rfl) rfl (pi_enum (by rfl) T.m_enumerate (pa_cons (pv 5) pa_nil)) (pg_tup (by rfl) (pgs_cons (pg_name (i := 6) sc_codes_at.nd rfl (Or.inl rfl)) (pgs_cons (pg_name (i := 7) sc_codes_at.nd rfl (Or.inl rfl)) pgs_nil))) (pss_one (ps_if (pt_cmpR op_gt (pv 7) (pv 4) (nomark _)) (pss_one (L2N.ps_raise rfl (L2N.takes_of rfl rfl rfl rfl) (pmk_oexN T.x_BitsError.oex T.x_BitsError.ini T.x_BitsError.ty G_BitsError (hr.mono (by omega)) T.x_BitsError.b pass0 (by rfl) T.x_BitsError.m (pa_cons (pe_op op_add (pv 1) (pe_op op_mul (pv 6) (pv 3))) pa_nil)))) pss_nil)))
      (pss_one (ps_ret (pv 5))))), ?_⟩
    refine ⟨_, rfl, _, rfl, _, rfl, by show 1 ≤ sizeLine; decide, fun z nz => ?_⟩
    have s1 := same_new (o := .lst [V.int (width : Nat)]) nz
    have hz : (upd H z (.lst [V.int (width : Nat)])) z = some (.lst [V.int (width : Nat)]) := upd_same
    generalize (upd H z (.lst [V.int (width : Nat)])) = H1 at s1 hz ⊢
    refine ⟨_, rfl, z, _, _, rfl, rfl, hz, by omega, by omega, by rw [Int.toNat_natCast]; show 1 * many ≤ _; rw [Nat.one_mul]; exact Nat.le_of_lt (small64k (by omega)), fun u nu => ?_⟩
    rw [rep_nat, ← vn_rep]
    have s2 := s1.trans (same_new (o := .lst (vn (List.replicate many width))) nu)
    have hu : (upd H1 u (.lst (vn (List.replicate many width)))) u = some (.lst (vn (List.replicate many width))) := upd_same
    generalize (upd H1 u (.lst (vn (List.replicate many width)))) = H2 at s2 hu ⊢
    refine ⟨false, a, u, bs, List.replicate many width, at_, rfl, s2 _ _ ha, SqL.of hu, b2, few, by rw [List.length_replicate]; omega, by rw [rep_sum]; exact fit, fun H3 l s3 nl hl => ?_⟩
    rw [rd_rep, show (List.range many).map (fun k => num bs (at_ + k * width) width) = decT bs at_ width many from rfl] at hl
    have s23 := s2.trans s3
    refine ⟨_, rfl, l, _, rfl, SqL.of hl, for_it (walk_enum (K := K) (a := l) (xs := vn (decT bs at_ width many))) (fun i σ Hx => ∃ y6 y7 : Option V, σ = [some (.ref a), some (.int (at_ : Nat)), some (.int (many : Nat)), some (.int (width : Nat)), some (.int (g : Nat)), some (.ref l), y6, y7] ∧ Same H3 Hx ∧ fs i (codesG bs at_ width g) = none) ⟨none, none, rfl, Same.refl _, rfl⟩ (fun i σ Hx _ h => ?_) ?_ ?_⟩
    · obtain ⟨_, _, _, s, _⟩ := h
      exact SqL.of (s _ _ hl)
    · rintro i x σ Hx Hx' hi ⟨y6, y7, rfl, sx, hf⟩ ⟨T1, x1, x2, rfl, nT, rfl, e1, e2⟩
      cases e1
      obtain ⟨n, hn, rfl, nm⟩ := nat_at' e2
      have im : i < many := by
        have := (List.getElem?_eq_some_iff.mp hn).1
        rw [decT_len] at this
        exact this
      have en : n = num bs (at_ + i * width) width := by
        unfold decT at hn
        rw [List.getElem?_map, List.getElem?_range im] at hn
        exact (Option.some.inj hn).symm
      have gi : codesG bs at_ width g i = if n > g then some (at_ + i * width) else none := by rw [en]; rfl
      have lim : i * width ≤ many * width := Nat.mul_le_mul_right _ (by omega)
      refine ⟨T1, _, rfl, SqT.of upd_same, rfl, _, _, rfl, _, _, rfl, rfl, ?_⟩
      refine ⟨_, rfl, _, rfl, _, _, rfl, rfl, _, rfl, ?_⟩
      by_cases gt : n > g
      · rw [if_pos gt] at gi
        rw [decide_eq_true (show ((n : Nat) : Int) > ((g : Nat) : Int) by omega)]
        exact iteT ⟨_, rfl, _, rfl, _, rfl, _, _, rfl, rfl, .inl ⟨by omega, by omega⟩, _, _, rfl, rfl, by show 1 ≤ 1000; decide, raisedJ T.x_BitsError (show ((at_ : Nat) : Int) + ((i : Nat) : Int) * ((width : Nat) : Int) = ((at_ + i * width : Nat) : Int) by rw [Int.natCast_add, Int.natCast_mul]) (by omega) fun d H4 s4 e4 => er _ (fs_hit hf gi many im) d H4 ((s23.trans sx).trans ((same_new nT).trans s4)) e4⟩
      · rw [if_neg gt] at gi
        rw [decide_eq_false (show ¬ ((n : Nat) : Int) > ((g : Nat) : Int) by omega)]
        exact iteF ⟨_, _, rfl, sx.trans (same_new nT), by rw [fs_next hf]; exact gi⟩
    rintro σ Hx ⟨y6, y7, rfl, sx, hf⟩
    rw [vn_len, decT_len] at hf
    exact ⟨_, rfl, q hf Hx l (s23.trans sx) (none_of s2 nl) (sx _ _ hl)⟩
def sp__setting_at (K : PySem.W.Frag) (C : Addr) : Sp := fun vs H Q E => ∃ (a : Addr) (v : V) (f : Fab) (bs : List Nat) (at_ : Nat), vs = [.ref a, .int (at_ : Nat), v] ∧ H a = some (.lst (vn bs)) ∧ (∀ x ∈ bs, x < 2) ∧ bs.length ≤ 60000 ∧ Dv H v f ∧ FabOk f ∧ at_ + f.setBits ≤ bs.length ∧
  (settF bs f at_ = none → ∀ H' t, Same H H' → H t = none → Dv (fresh H H') (.ref t) (decS bs f at_) → Q (.ref t) H') ∧
  ∀ z, settF bs f at_ = some z → ∀ d H', Same H H' → H' d = some (.xd [("at", .int (z : Nat))]) → E (.ref C) (some d) H'
theorem ok__setting_at {P : Program} {w : World} {K : PySem.W.Frag} {mg : Str → Option Value} {base : Heap} {C_BitsError fI_BitsError : Addr} {fd_BitsError : FuncData} {B_ : Addr} {mc_ : Value} {O_FitError : Addr} {O_TextError : Addr} {tk_MOST_PLACES : Tok} {tk_MOST_TRACKS : Tok} {tk_MOST_PINS : Tok} {tk_MOST_ENDS : Tok} {tk_HEAD_BITS : Tok} {tk_END_BITS : Tok} {tk_SUM_BITS : Tok} {tk_DRIVE_BITS : Tok} {a_HEAD : Addr} {a_END : Addr} {a_STEPS_0 : Addr} {a_STEPS_1 : Addr} {a_STEPS_2 : Addr} {a_STEPS_3 : Addr} {a_STEPS : Addr} {f f_read f_tap_bits f_codes_at fgreatest_tap fgreatest_drive : Addr} {fd fd_read fd_tap_bits fd_codes_at fdgreatest_tap fdgreatest_drive : FuncData} (F : Fun K "_setting_at" "_setting_at" s__setting_at f fd) (T : Txt K mg C_BitsError fI_BitsError fd_BitsError B_ mc_ O_FitError O_TextError tk_MOST_PLACES tk_MOST_TRACKS tk_MOST_PINS tk_MOST_ENDS tk_HEAD_BITS tk_END_BITS tk_SUM_BITS tk_DRIVE_BITS a_HEAD a_END a_STEPS_0 a_STEPS_1 a_STEPS_2 a_STEPS_3 a_STEPS)
    (G__read : FnOk P w K mg base CX0 1 f_read fd_read ["bits", "at", "widths"] (sp__read K)) (D__read : Def K mg "_read" f_read fd_read ["bits", "at", "widths"])
    (G__tap_bits : FnOk P w K mg base CX0 2 f_tap_bits fd_tap_bits ["fabric"] (sp__tap_bits K)) (D__tap_bits : Def K mg "_tap_bits" f_tap_bits fd_tap_bits ["fabric"])
    (G__codes_at : FnOk P w K mg base (L2N.CX P w) 3 f_codes_at fd_codes_at ["bits", "at", "many", "width", "greatest"] (sp__codes_at K C_BitsError)) (D__codes_at : Def K mg "_codes_at" f_codes_at fd_codes_at ["bits", "at", "many", "width", "greatest"])
    (G_greatest_tap : FnOk P w K mg base CX0 1 fgreatest_tap fdgreatest_tap ["fabric"] (sp_greatest_tap K)) (D_greatest_tap : Def K mg "greatest_tap" fgreatest_tap fdgreatest_tap ["fabric"])
    (G_greatest_drive : FnOk P w K mg base CX0 1 fgreatest_drive fdgreatest_drive [] (sp_greatest_drive K)) (D_greatest_drive : Def K mg "greatest_drive" fgreatest_drive fdgreatest_drive []) :
    FnOk P w K mg base (L2N.CX P w) 4 f fd ["bits", "at", "fabric"] (sp__setting_at K C_BitsError) := by
  refine okN F sc_setting_at (fun vs H Q E h => ?_) (fun cdv A outer s0 H vs Q E hr h => ?_)
  · obtain ⟨a, v, f, bs, at_, rfl, _⟩ := h
    rfl
  · obtain ⟨a, v, f, bs, at_, rfl, ha, b2, few, hv, ok, fit, q, er⟩ := h
    refine ⟨_, (pss_cons (ps_asg (pv 2) (pg_tup (by rfl) (pgs_cons (pg_name (i := 3) sc_setting_at.nd rfl (Or.inl rfl)) (pgs_cons (pg_name (i := 3) sc_setting_at.nd rfl (Or.inl rfl)) (pgs_cons (pg_name (i := 3) sc_setting_at.nd rfl (Or.inl rfl)) (pgs_cons (pg_name (i := 4) sc_setting_at.nd rfl (Or.inl rfl)) (pgs_cons (pg_name (i := 5) sc_setting_at.nd rfl (Or.inl rfl)) pgs_nil)))))))
      (pss_cons (ps_asg (pe_call G__read (hr.mono (by omega)) (by rfl) D__read.m D__read.k D__read.b .nil pass0 (pa_cons (pv 0) (pa_cons (pv 1) (pa_cons (pe_tup (pa_cons (pe_op op_shl pe_int (pv 5)) (pa_cons pe_int (pa_cons pe_int pa_nil)))) pa_nil)))) (pg_unl (by rfl) (pgs_cons (pg_name (i := 6) sc_setting_at.nd rfl (Or.inl rfl)) (pgs_cons (pg_name (i := 7) sc_setting_at.nd rfl (Or.inl rfl)) (pgs_cons (pg_name (i := 8) sc_setting_at.nd rfl (Or.inl rfl)) pgs_nil)))))
      (pss_cons (ps_set (i := 9) sc_setting_at.nd rfl (.inl rfl) (pe_op op_add (pe_op op_add (pv 1) (pe_op op_shl pe_int (pv 5))) pe_int))
      (pss_cons (ps_set (i := 10) sc_setting_at.nd rfl (.inl rfl) (pe_call G__tap_bits (hr.mono (by omega)) (by rfl) D__tap_bits.m D__tap_bits.k D__tap_bits.b .nil pass0 (pa_cons (pv 2) pa_nil)))
      (pss_cons (ps_set (i := 11) sc_setting_at.nd rfl (.inl rfl) (pe_call G__codes_at (hr.mono (by omega)) (by rfl) D__codes_at.m D__codes_at.k D__codes_at.b .nil (L2N.passes_call (L2N.takes_of rfl rfl rfl rfl) (fun _ _ _ _ h => h)) (pa_cons (pv 0) (pa_cons (pv 9) (pa_cons (pv 5) (pa_cons (pv 10) (pa_cons (pe_call G_greatest_tap (hr.mono (by omega)) (by rfl) D_greatest_tap.m D_greatest_tap.k D_greatest_tap.b .nil pass0 (pa_cons (pv 2) pa_nil)) pa_nil)))))))
      (pss_cons (ps_set (i := 12) sc_setting_at.nd rfl (.inl rfl) (pe_call G__codes_at (hr.mono (by omega)) (by rfl) D__codes_at.m D__codes_at.k D__codes_at.b .nil (L2N.passes_call (L2N.takes_of rfl rfl rfl rfl) (fun _ _ _ _ h => h)) (pa_cons (pv 0) (pa_cons (pe_op op_add (pv 9) (pe_op op_mul (pv 5) (pv 10))) (pa_cons (pe_op op_mul pe_int (pv 4)) (pa_cons (pe_glob (v := V.int _) rfl T.m_DRIVE_BITS ⟨_, rfl⟩) (pa_cons (pe_call0 G_greatest_drive (hr.mono (by omega)) (by rfl) D_greatest_drive.m D_greatest_drive.k D_greatest_drive.b .nil pass0) pa_nil)))))))
      (pss_one (ps_ret (pe_tup (pa_cons pe_str (pa_cons (pv 6) (pa_cons (pv 7) (pa_cons (pv 8) (pa_cons (pv 11) (pa_cons (pv 12) pa_nil))))))))))))))), ?_⟩
    obtain ⟨fa, rfl, hfa⟩ := fab_inv hv
    have t1 := ok.t1
    have p1 := ok.p1
    have p0 := ok.p0
    have tb := tapB_le t1
    have e3 : [2 ^ f.p, 1, 1].sum = 2 ^ f.p + 2 := by show 2 ^ f.p + (1 + (1 + 0)) = _; omega
    have pm : f.p * tapB f.t ≤ 4 * 6 := Nat.mul_le_mul p1 tb
    have fit' := fit
    unfold Fab.setBits at fit'
    unfold settF at q er
    refine ⟨_, rfl, fa, _, rfl, SqT.of hfa, rfl, _, _, rfl, _, _, rfl, _, _, rfl, _, _, rfl, _, _, rfl, rfl, ?_⟩
    refine ⟨_, rfl, _, rfl, _, rfl, _, _, rfl, rfl, ⟨by omega, by omega, by decide⟩, by show 3 ≤ sizeLine; decide, fun w nw => ?_⟩
    have s1 := same_new (o := .tup [V.int ((1 : Int) * 2 ^ ((f.p : Nat) : Int).toNat), .int 1, .int 1]) nw
    have hw : (upd H w (.tup [V.int ((1 : Int) * 2 ^ ((f.p : Nat) : Int).toNat), .int 1, .int 1])) w = some (.tup (vn [2 ^ f.p, 1, 1])) := by
      rw [upd_same, shl_one]
      rfl
    refine ⟨true, a, w, bs, [2 ^ f.p, 1, 1], at_, rfl, s1 _ _ ha, SqT.of hw, b2, few, by show 3 ≤ 1000; decide, by rw [e3]; omega, fun H2 l s2 nl hl => ?_⟩
    have er3 : rd bs at_ [2 ^ f.p, 1, 1] = [num bs at_ (2 ^ f.p), num bs (at_ + 2 ^ f.p) 1, num bs (at_ + 2 ^ f.p + 1) 1] := by
      rw [rd_cons, rd_cons, rd_cons]
      rfl
    rw [er3] at hl
    refine ⟨l, _, rfl, SqL.of hl, rfl, _, _, rfl, _, _, rfl, _, _, rfl, rfl, ?_⟩
    have s12 := s1.trans s2
    refine ⟨_, rfl, _, rfl, _, _, rfl, rfl, ⟨by omega, by omega, by decide⟩, _, _, rfl, rfl, _, _, rfl, rfl, ?_⟩
    have e4 : ((at_ : Nat) : Int) + (1 : Int) * 2 ^ ((f.p : Nat) : Int).toNat + 2 = ((at_ + 2 ^ f.p + 2 : Nat) : Int) := by
      rw [shl_one]
      omega
    simp only [e4]
    refine ⟨_, rfl, .ref fa, f, rfl, Dv.fab (s12 _ _ hfa), t1, ?_⟩
    refine ⟨_, rfl, _, rfl, _, rfl, _, rfl, _, rfl, .ref fa, f, rfl, Dv.fab (s12 _ _ hfa), t1, a, bs, at_ + 2 ^ f.p + 2, f.p, tapB f.t, f.tapMost, rfl, s12 _ _ ha, b2, few, by omega, by omega, by omega, fun h1 H3 lt s3 nlt hlt => ?_, fun z hz d H3 s3 e => er z (by rw [hz]; rfl) d H3 (s12.trans s3) e⟩
    rw [h1] at q er
    have s13 := s12.trans s3
    have e5 : ((at_ + 2 ^ f.p + 2 : Nat) : Int) + ((f.p : Nat) : Int) * ((tapB f.t : Nat) : Int) = ((at_ + 2 ^ f.p + 2 + f.p * tapB f.t : Nat) : Int) := by
      rw [← Int.natCast_mul]
      omega
    have e6 : (4 : Int) * ((f.t : Nat) : Int) = ((4 * f.t : Nat) : Int) := by omega
    refine ⟨_, rfl, _, rfl, _, rfl, _, rfl, _, _, rfl, rfl, .inl ⟨by omega, by omega⟩, _, _, rfl, rfl, _, rfl, _, _, rfl, rfl, .inl ⟨by decide, by decide⟩, rfl, a, bs, at_ + 2 ^ f.p + 2 + f.p * tapB f.t, 4 * f.t, 3, 5, ?_, s13 _ _ ha, b2, few, by omega, by decide, by omega, fun h2 H4 ld s4 nld hld => ?_, fun z hz d H4 s4 e => er z hz d H4 (s13.trans s4) e⟩
    · show [V.ref a, .int (((at_ + 2 ^ f.p + 2 : Nat) : Int) + ((f.p : Nat) : Int) * ((tapB f.t : Nat) : Int)), .int ((4 : Int) * ((f.t : Nat) : Int)), .int 3, .int 5] = _
      rw [e5, e6]
      rfl
    refine ⟨_, rfl, _, rfl, _, rfl, _, rfl, _, rfl, by show 6 ≤ sizeLine; decide, fun t nt => ?_⟩
    have s14 := s13.trans s4
    have s5 := same_new (o := .tup [.str "setting", V.int ((num bs at_ (2 ^ f.p) : Nat) : Int), .int ((num bs (at_ + 2 ^ f.p) 1 : Nat) : Int), .int ((num bs (at_ + 2 ^ f.p + 1) 1 : Nat) : Int), .ref lt, .ref ld]) nt
    have fr : ∀ {b : Addr} {o : HO} {H' : Hp}, H b = none → H' b = some o → fresh H H' b = some o := fun h e => fresh_of h e
    refine q h2 _ t (s14.trans s5) (none_of s14 nt) ?_
    exact Dv.sett (fr (none_of s14 nt) upd_same) (fr (none_of s12 nlt) (s5 _ _ (s4 _ _ hlt))) (fr (none_of s13 nld) (s5 _ _ hld))

end K57
namespace K57
open PySem PySem.Spec PyProof.Rows L2 V0
/-! ### the ends read, or the place where they do not fit -/
theorem any_in {α : Type} [DecidableEq α] [Dm α] (xs : List α) (e : α) : ((xs.map PySem.W.Datum.toD).any fun z => PyData.eqv z (PySem.W.Datum.toD e)) = decide (e ∈ xs) := by
  induction xs with
  | nil => rfl
  | cons x xs ih =>
    rw [List.map_cons, List.any_cons, ih, PySem.W.Datum.eqv]
    by_cases h : x = e
    · subst h
      rw [decide_eq_true rfl, Bool.true_or, decide_eq_true List.mem_cons_self]
    · rw [decide_eq_false h, Bool.false_or]
      exact decide_eq_decide.mpr ⟨fun m => List.mem_cons_of_mem _ m, fun m => (List.mem_cons.mp m).elim (fun z => absurd z.symm h) id⟩
def sp__ends_at (K : PySem.W.Frag) (C : Addr) : Sp := fun vs H Q E => ∃ (a : Addr) (v : V) (f : Fab) (bs : List Nat) (at_ n : Nat), vs = [.ref a, .int (at_ : Nat), .int (n : Nat), v] ∧ H a = some (.lst (vn bs)) ∧ (∀ x ∈ bs, x < 2) ∧ bs.length ≤ 60000 ∧ Dv H v f ∧ FabOk f ∧ n ≤ 100 ∧ at_ + n * 13 ≤ bs.length ∧
  (endsF bs f at_ n = none → ∀ H' t, Same H H' → H t = none → Dv (fresh H H') (.ref t) (decPs bs at_ n) → Q (.ref t) H') ∧
  ∀ z, endsF bs f at_ n = some z → ∀ d H', Same H H' → H' d = some (.xd [("at", .int (z : Nat))]) → E (.ref C) (some d) H'
theorem ok__ends_at {P : Program} {w : World} {K : PySem.W.Frag} {mg : Str → Option Value} {base : Heap} {C_BitsError fI_BitsError : Addr} {fd_BitsError : FuncData} {B_ : Addr} {mc_ : Value} {O_FitError : Addr} {O_TextError : Addr} {tk_MOST_PLACES : Tok} {tk_MOST_TRACKS : Tok} {tk_MOST_PINS : Tok} {tk_MOST_ENDS : Tok} {tk_HEAD_BITS : Tok} {tk_END_BITS : Tok} {tk_SUM_BITS : Tok} {tk_DRIVE_BITS : Tok} {a_HEAD : Addr} {a_END : Addr} {a_STEPS_0 : Addr} {a_STEPS_1 : Addr} {a_STEPS_2 : Addr} {a_STEPS_3 : Addr} {a_STEPS : Addr} {f f_read fis_border : Addr} {fd fd_read fdis_border : FuncData} (F : Fun K "_ends_at" "_ends_at" s__ends_at f fd) (T : Txt K mg C_BitsError fI_BitsError fd_BitsError B_ mc_ O_FitError O_TextError tk_MOST_PLACES tk_MOST_TRACKS tk_MOST_PINS tk_MOST_ENDS tk_HEAD_BITS tk_END_BITS tk_SUM_BITS tk_DRIVE_BITS a_HEAD a_END a_STEPS_0 a_STEPS_1 a_STEPS_2 a_STEPS_3 a_STEPS)
    (G__read : FnOk P w K mg base CX0 1 f_read fd_read ["bits", "at", "widths"] (sp__read K)) (D__read : Def K mg "_read" f_read fd_read ["bits", "at", "widths"])
    (G_is_border : FnOk P w K mg base CX0 2 fis_border fdis_border ["fabric", "told"] (sp_is_border K)) (D_is_border : Def K mg "is_border" fis_border fdis_border ["fabric", "told"])
    (G_BitsError : FnOk P w K mg base CX0 1 fI_BitsError fd_BitsError ["self", "at"] (spExcI K "at")) :
    FnOk P w K mg base (L2N.CX P w) 4 f fd ["bits", "at", "many", "fabric"] (sp__ends_at K C_BitsError) := by
  refine okN F sc_ends_at (fun vs H Q E h => ?_) (fun cdv A outer s0 H vs Q E hr h => ?_)
  · obtain ⟨a, v, f, bs, at_, n, rfl, _⟩ := h
    rfl
  · obtain ⟨a, v, f, bs, at_, n, rfl, ha, b2, few, hv, ok, l100, fit, q, er⟩ := h
    refine ⟨_, (pss_cons (ps_set (i := 4) sc_ends_at.nd rfl (.inl rfl) (pe_lst pa_nil))
      (pss_cons (ps_for (passes_of rfl) rfl (pi_range1 rfl T.m_range (pa_cons (pv 2) pa_nil)) (pg_name (i := 5) sc_ends_at.nd rfl (Or.inl rfl)) (pss_cons (ps_set (i := 6) sc_ends_at.nd rfl (.inl rfl) (pe_callTy call_tuple_of (by rfl) T.m_tuple (by decide +kernel) (pa_cons (pe_call G__read (hr.mono (by omega)) (by rfl) D__read.m D__read.k D__read.b .nil pass0 (pa_cons (pv 0) (pa_cons (pe_op op_add (pv 1) (pe_op op_mul (pv 5) (pe_glob (v := V.int _) rfl T.m_END_BITS ⟨_, rfl⟩))) (pa_cons (pe_glob (v := V.ref _) rfl T.m_END rfl) pa_nil)))) pa_nil)))
      (pss_cons (ps_if (PW.pt (pw_or (pt_not (pt_val (pe_call G_is_border (hr.mono (by omega)) (by rfl) D_is_border.m D_is_border.k D_is_border.b .nil pass0 (pa_cons (pv 3) (pa_cons (pv 6) pa_nil))))) (pw_or1 (pt_cmpR (r := rInD K) (op_inD (hu65 hr)) (pv 6) (pv 4) (by rfl))))) (pss_one (L2N.ps_raise rfl (L2N.takes_of rfl rfl rfl rfl) (pmk_oexN T.x_BitsError.oex T.x_BitsError.ini T.x_BitsError.ty G_BitsError (hr.mono (by omega)) T.x_BitsError.b pass0 (by rfl) T.x_BitsError.m (pa_cons (pe_op op_add (pv 1) (pe_op op_mul (pv 5) (pe_glob (v := V.int _) rfl T.m_END_BITS ⟨_, rfl⟩))) pa_nil)))) pss_nil)
      (pss_one (ps_expr (pe_bm PySem.F.plainAttrs_list PySem.F.slot_list_append PySem.F.type_list_append mt_append (pv 4) (pa_cons (pv 6) pa_nil)))))))
      (pss_one (ps_ret (pv 4))))), ?_⟩
    refine ⟨by show 0 ≤ sizeLine; decide, fun D nD => ?_⟩
    have s1 := same_new (o := .lst ([] : List V)) nD
    have hD : (upd H D (.lst ([] : List V))) D = some (.lst []) := upd_same
    generalize (upd H D (.lst ([] : List V))) = H1 at s1 hD ⊢
    refine ⟨_, rfl, _, rfl, by omega, by omega, for_range (n := n) (fun i σ Hx => ∃ (y5 y6 : Option V) (us : List V), σ = [some (.ref a), some (.int (at_ : Nat)), some (.int (n : Nat)), some v, some (.ref D), y5, y6] ∧ Same H Hx ∧ Hx D = some (.lst us) ∧ Dvs (hid D (fresh H Hx)) us (decPs bs at_ i) ∧ fs i (endsG bs f at_) = none) ⟨none, none, [], rfl, s1, hD, .nil, rfl⟩ ?_ ?_⟩
    · rintro i σ Hx hi ⟨y5, y6, us, rfl, sx, hx, dus, hf⟩
      rw [Int.zero_add]
      have ea : ((at_ : Nat) : Int) + ((i : Nat) : Int) * 13 = ((at_ + i * 13 : Nat) : Int) := by omega
      refine ⟨_, rfl, _, rfl, _, rfl, _, _, rfl, rfl, .inl ⟨by omega, by omega⟩, _, _, rfl, rfl, true, a, a_END, bs, [4, 4, 2, 3], at_ + i * 13, congrArg (fun z => [V.ref a, .int z, .ref a_END]) ea, sx _ _ ha, T.t_END Hx, b2, few, by decide, by show at_ + i * 13 + 13 ≤ _; omega, fun H2 l s2 nl hl => ?_⟩
      have e4 : rd bs (at_ + i * 13) [4, 4, 2, 3] = [(decP bs (at_ + i * 13)).x, (decP bs (at_ + i * 13)).y, (decP bs (at_ + i * 13)).s, (decP bs (at_ + i * 13)).k] := by
        rw [rd_cons, rd_cons, rd_cons, rd_cons]
        rfl
      rw [e4] at hl
      have g1 : (PadOk f (decP bs (at_ + i * 13)) ∧ decP bs (at_ + i * 13) ∉ decPs bs at_ i) → endsG bs f at_ i = none := fun h => by
        unfold endsG
        rw [if_pos h]
      have g2 : ¬ (PadOk f (decP bs (at_ + i * 13)) ∧ decP bs (at_ + i * 13) ∉ decPs bs at_ i) → endsG bs f at_ i = some (at_ + i * 13) := fun h => by
        unfold endsG
        rw [if_neg h]
      have sn := decPs_snoc bs at_ i
      generalize decP bs (at_ + i * 13) = e at hl g1 g2 sn
      refine ⟨l, _, rfl, .inl ⟨SqL.of hl, fun t nt => ?_⟩⟩
      have s3 := same_new (o := .tup (vn [e.x, e.y, e.s, e.k])) nt
      have ht : (upd H2 t (.tup (vn [e.x, e.y, e.s, e.k]))) t = some (.tup e.its) := upd_same
      generalize (upd H2 t (.tup (vn [e.x, e.y, e.s, e.k]))) = H3 at s3 ht ⊢
      have sx3 := sx.trans (s2.trans s3)
      refine ⟨_, rfl, _, rfl, v, .ref t, f, e, rfl, hv.same sx3, Dv.pad ht, fun H4 k s4 ek => ⟨_, rfl, ?_⟩⟩
      have sx4 := sx3.trans s4
      have ra : ¬ (PadOk f e ∧ e ∉ decPs bs at_ i) → ∀ H5, Same H4 H5 → _ := fun no H5 s5 => raisedJ (E := E) (H := H5) T.x_BitsError ea (by omega) fun d H6 s6 e6 => er _ (fs_hit hf (g2 no) n hi) d H6 (sx4.trans (s5.trans s6)) e6
      cases k with
      | false =>
        have no : ¬ (PadOk f e ∧ e ∉ decPs bs at_ i) := fun z => by
          have := ek.mpr z.1
          cases this
        exact iteT (iteT ⟨_, rfl, _, rfl, _, _, rfl, rfl, .inl ⟨by omega, by omega⟩, _, _, rfl, rfl, by show 1 ≤ 1000; decide, ra no H4 (Same.refl _)⟩)
      | true =>
        have pe := ek.mp rfl
        have hx4 := (s2.trans (s3.trans s4)) _ _ hx
        have fr : Same (hid D (fresh H Hx)) (hid D (fresh H H4)) := hid_mono (fresh_post (s2.trans (s3.trans s4)))
        have dl : Dv H4 (.ref D) (decPs bs at_ i) := Dv.list hx4 ((dus.same fr).same ((hid_same _ _).trans fun b o z => (fresh_some z).2))
        refine iteF ⟨_, rfl, _, rfl, _, _, dh_dp _ _ (Dv.pad (e := e) (s4 _ _ ht)), dh_dp _ _ dl, shaped_of e (by decide), shaped_of (decPs bs at_ i) (by decide), ?_⟩
        rw [any_in]
        by_cases ni : e ∈ decPs bs at_ i
        · rw [decide_eq_true ni]
          exact ⟨_, rfl, iteT ⟨_, rfl, _, rfl, _, _, rfl, rfl, .inl ⟨by omega, by omega⟩, _, _, rfl, rfl, by show 1 ≤ 1000; decide, ra (fun z => z.2 ni) H4 (Same.refl _)⟩⟩
        rw [decide_eq_false ni]
        have gi := g1 ⟨pe, ni⟩
        refine ⟨_, rfl, iteF ⟨_, rfl, .inl ⟨rfl, _, SqL.of hx4⟩, _, rfl, D, _, _, rfl, rfl, hx4, ?_, ?_⟩⟩
        · rw [dus.len, decPs_len]
          exact small64k (by omega)
        · have nt0 := none_of (sx.trans s2) nt
          have tD : t ≠ D := (ne_of_none (s2 _ _ hx) nt).symm
          refine ⟨_, _, us ++ [.ref t], rfl, same_mut sx4 nD, upd_same, ?_, by rw [fs_next hf]; exact gi⟩
          rw [sn]
          have fm : Same (hid D (fresh H H4)) (hid D (fresh H (upd H4 D (.lst (us ++ [.ref t]))))) := fun b u z => by
            obtain ⟨h1, h2⟩ := hid_some z
            obtain ⟨h3, h4⟩ := fresh_some h2
            exact hid_of h1 (fresh_of h3 (by rw [upd_ne h1]; exact h4))
          refine ((dus.same fr).same fm).app (.cons (Dv.pad (hid_of tD (fresh_of nt0 ?_))) .nil)
          rw [upd_ne tD]
          exact s4 _ _ ht
    rintro σ Hx ⟨y5, y6, us, rfl, sx, hx, dus, hf⟩
    refine ⟨_, rfl, q hf Hx D sx nD (Dv.list (fresh_of nD hx) (dus.same (hid_same _ _)))⟩

end K57
namespace K57
open PySem PySem.Spec PyProof.Rows L2 V0
/-! ### a config read back, or the place where the bits do not fit -/
theorem faultB_eq (bs : List Nat) : faultB bs = (headR bs).or (lenF bs) := by
  unfold faultB headR
  by_cases c : bs.length < 27
  · rw [if_pos c, if_pos c]
    rfl
  · rw [if_neg c, if_neg c]
theorem headR_none {bs : List Nat} (h : headR bs = none) : 27 ≤ bs.length ∧ headF bs = none := by
  unfold headR at h
  by_cases c : bs.length < 27
  · rw [if_pos c] at h
    cases h
  · rw [if_neg c] at h
    exact ⟨by omega, h⟩
theorem min_ite (a b : Nat) : (if ((b : Nat) : Int) < ((a : Nat) : Int) then ((b : Nat) : Int) else ((a : Nat) : Int)) = ((min a b : Nat) : Int) := by
  by_cases h : b < a
  · rw [if_pos (by omega), Nat.min_eq_right (by omega)]
  · rw [if_neg (by omega), Nat.min_eq_left (by omega)]
def sp_config_of (K : PySem.W.Frag) (C : Addr) : Sp := fun vs H Q E => ∃ (a : Addr) (bs : List Nat), vs = [.ref a] ∧ H a = some (.lst (vn bs)) ∧ (∀ x ∈ bs, x < 2) ∧ bs.length ≤ 60000 ∧
  (faultB bs = none → ∀ H' t, Same H H' → H t = none → Dv (fresh H H') (.ref t) (decC bs) → Q (.ref t) H') ∧
  ∀ z, faultB bs = some z → ∀ d H', Same H H' → H' d = some (.xd [("at", .int (z : Nat))]) → E (.ref C) (some d) H'
theorem ok_config_of {P : Program} {w : World} {K : PySem.W.Frag} {mg : Str → Option Value} {base : Heap} {C_BitsError fI_BitsError : Addr} {fd_BitsError : FuncData} {B_ : Addr} {mc_ : Value} {O_FitError : Addr} {O_TextError : Addr} {tk_MOST_PLACES : Tok} {tk_MOST_TRACKS : Tok} {tk_MOST_PINS : Tok} {tk_MOST_ENDS : Tok} {tk_HEAD_BITS : Tok} {tk_END_BITS : Tok} {tk_SUM_BITS : Tok} {tk_DRIVE_BITS : Tok} {a_HEAD : Addr} {a_END : Addr} {a_STEPS_0 : Addr} {a_STEPS_1 : Addr} {a_STEPS_2 : Addr} {a_STEPS_3 : Addr} {a_STEPS : Addr} {f f_head_of fsize_of f_sum_bits f_setting_at f_setting_bits f_ends_at : Addr} {fd fd_head_of fdsize_of fd_sum_bits fd_setting_at fd_setting_bits fd_ends_at : FuncData} (F : Fun K "config_of" "config_of" s_config_of f fd) (T : Txt K mg C_BitsError fI_BitsError fd_BitsError B_ mc_ O_FitError O_TextError tk_MOST_PLACES tk_MOST_TRACKS tk_MOST_PINS tk_MOST_ENDS tk_HEAD_BITS tk_END_BITS tk_SUM_BITS tk_DRIVE_BITS a_HEAD a_END a_STEPS_0 a_STEPS_1 a_STEPS_2 a_STEPS_3 a_STEPS)
    (G__head_of : FnOk P w K mg base (L2N.CX P w) 3 f_head_of fd_head_of ["bits"] (sp__head_of K C_BitsError)) (D__head_of : Def K mg "_head_of" f_head_of fd_head_of ["bits"])
    (G_size_of : FnOk P w K mg base CX0 4 fsize_of fdsize_of ["fabric", "ins", "outs"] (sp_size_of K)) (D_size_of : Def K mg "size_of" fsize_of fdsize_of ["fabric", "ins", "outs"])
    (G__sum_bits : FnOk P w K mg base CX0 2 f_sum_bits fd_sum_bits ["bits"] (sp__sum_bits K)) (D__sum_bits : Def K mg "_sum_bits" f_sum_bits fd_sum_bits ["bits"])
    (G__setting_at : FnOk P w K mg base (L2N.CX P w) 4 f_setting_at fd_setting_at ["bits", "at", "fabric"] (sp__setting_at K C_BitsError)) (D__setting_at : Def K mg "_setting_at" f_setting_at fd_setting_at ["bits", "at", "fabric"])
    (G__setting_bits : FnOk P w K mg base CX0 3 f_setting_bits fd_setting_bits ["fabric"] (sp__setting_bits K)) (D__setting_bits : Def K mg "_setting_bits" f_setting_bits fd_setting_bits ["fabric"])
    (G__ends_at : FnOk P w K mg base (L2N.CX P w) 4 f_ends_at fd_ends_at ["bits", "at", "many", "fabric"] (sp__ends_at K C_BitsError)) (D__ends_at : Def K mg "_ends_at" f_ends_at fd_ends_at ["bits", "at", "many", "fabric"])
    (G_BitsError : FnOk P w K mg base CX0 1 fI_BitsError fd_BitsError ["self", "at"] (spExcI K "at"))
    (G_BitsError : FnOk P w K mg base CX0 1 fI_BitsError fd_BitsError ["self", "at"] (spExcI K "at")) :
    FnOk P w K mg base (L2N.CX P w) 6 f fd ["bits"] (sp_config_of K C_BitsError) := by
  refine okN F scconfig_of (fun vs H Q E h => ?_) (fun cdv A outer s0 H vs Q E hr h => ?_)
  · obtain ⟨a, bs, rfl, _⟩ := h
    rfl
  · obtain ⟨a, bs, rfl, ha, b2, few, q, er⟩ := h
    refine ⟨_, (pss_cons (ps_asg (pe_call G__head_of (hr.mono (by omega)) (by rfl) D__head_of.m D__head_of.k D__head_of.b .nil (L2N.passes_call (L2N.takes_of rfl rfl rfl rfl) (fun _ _ _ _ h => h)) (pa_cons (pv 0) pa_nil)) (pg_tup (by rfl) (pgs_cons (pg_name (i := 1) scconfig_of.nd rfl (Or.inl rfl)) (pgs_cons (pg_name (i := 2) scconfig_of.nd rfl (Or.inl rfl)) (pgs_cons (pg_name (i := 3) scconfig_of.nd rfl (Or.inl rfl)) pgs_nil)))))
      (pss_cons (ps_set (i := 4) scconfig_of.nd rfl (.inl rfl) (pe_call G_size_of (hr.mono (by omega)) (by rfl) D_size_of.m D_size_of.k D_size_of.b .nil pass0 (pa_cons (pv 1) (pa_cons (pv 2) (pa_cons (pv 3) pa_nil)))))
      (pss_cons (ps_if (pt_cmpR op_ne (pe_callB call_len_seq (by rfl) T.m_len (by decide +kernel) (pa_cons (pv 0) pa_nil)) (pv 4) (nomark _)) (pss_one (L2N.ps_raise rfl (L2N.takes_of rfl rfl rfl rfl) (pmk_oexN T.x_BitsError.oex T.x_BitsError.ini T.x_BitsError.ty G_BitsError (hr.mono (by omega)) T.x_BitsError.b pass0 (by rfl) T.x_BitsError.m (pa_cons (pe_callB (call_min2 (by rfl)) (by rfl) T.m_min (by decide +kernel) (pa_cons (pe_callB call_len_seq (by rfl) T.m_len (by decide +kernel) (pa_cons (pv 0) pa_nil)) (pa_cons (pv 4) pa_nil))) pa_nil)))) pss_nil)
      (pss_cons (ps_if (pt_cmpR (op_neD hr.units) (pe_slice sl_list (pv 0) (po_some (pe_op op_sub (pv 4) (pe_glob (v := V.int _) rfl T.m_SUM_BITS ⟨_, rfl⟩))) po_none) (pe_call G__sum_bits (hr.mono (by omega)) (by rfl) D__sum_bits.m D__sum_bits.k D__sum_bits.b .nil pass0 (pa_cons (pe_slice sl_list (pv 0) po_none (po_some (pe_op op_sub (pv 4) (pe_glob (v := V.int _) rfl T.m_SUM_BITS ⟨_, rfl⟩)))) pa_nil)) (nomark _)) (pss_one (L2N.ps_raise rfl (L2N.takes_of rfl rfl rfl rfl) (pmk_oexN T.x_BitsError.oex T.x_BitsError.ini T.x_BitsError.ty G_BitsError (hr.mono (by omega)) T.x_BitsError.b pass0 (by rfl) T.x_BitsError.m (pa_cons (pe_op op_sub (pv 4) (pe_glob (v := V.int _) rfl T.m_SUM_BITS ⟨_, rfl⟩)) pa_nil)))) pss_nil)
      (pss_cons (ps_set (i := 5) scconfig_of.nd rfl (.inl rfl) (pe_lst pa_nil))
      (pss_cons (ps_set (i := 6) scconfig_of.nd rfl (.inl rfl) (pe_glob (v := V.int _) rfl T.m_HEAD_BITS ⟨_, rfl⟩))
      (pss_cons (ps_for (passes_of rfl) rfl (pi_range1 rfl T.m_range (pa_cons (pe_op op_mul (pe_ix (r := rIxT K) ix_tup (pv 1) pe_int (fun _ _ => rfl)) (pe_ix (r := rIxT K) ix_tup (pv 1) pe_int (fun _ _ => rfl))) pa_nil)) (pg_name (i := 7) scconfig_of.nd rfl (Or.inl rfl)) (pss_cons (ps_expr (pe_bm PySem.F.plainAttrs_list PySem.F.slot_list_append PySem.F.type_list_append mt_append (pv 5) (pa_cons (pe_call G__setting_at (hr.mono (by omega)) (by rfl) D__setting_at.m D__setting_at.k D__setting_at.b .nil (L2N.passes_call (L2N.takes_of rfl rfl rfl rfl) (fun _ _ _ _ h => h)) (pa_cons (pv 0) (pa_cons (pv 6) (pa_cons (pv 1) pa_nil)))) pa_nil)))
      (pss_one (ps_aug (i := 6) scconfig_of.nd rfl (.inl rfl) (pe_call G__setting_bits (hr.mono (by omega)) (by rfl) D__setting_bits.m D__setting_bits.k D__setting_bits.b .nil pass0 (pa_cons (pv 1) pa_nil)) ip_add))))
      (pss_cons (ps_set (i := 8) scconfig_of.nd rfl (.inl rfl) (pe_call G__ends_at (hr.mono (by omega)) (by rfl) D__ends_at.m D__ends_at.k D__ends_at.b .nil (L2N.passes_call (L2N.takes_of rfl rfl rfl rfl) (fun _ _ _ _ h => h)) (pa_cons (pv 0) (pa_cons (pv 6) (pa_cons (pv 2) (pa_cons (pv 1) pa_nil))))))
      (pss_cons (ps_set (i := 9) scconfig_of.nd rfl (.inl rfl) (pe_call G__ends_at (hr.mono (by omega)) (by rfl) D__ends_at.m D__ends_at.k D__ends_at.b .nil (L2N.passes_call (L2N.takes_of rfl rfl rfl rfl) (fun _ _ _ _ h => h)) (pa_cons (pv 0) (pa_cons (pe_op op_add (pv 6) (pe_op op_mul (pv 2) (pe_glob (v := V.int _) rfl T.m_END_BITS ⟨_, rfl⟩))) (pa_cons (pv 3) (pa_cons (pv 1) pa_nil))))))
      (pss_one (ps_ret (pe_tup (pa_cons pe_str (pa_cons (pv 1) (pa_cons (pv 5) (pa_cons (pv 8) (pa_cons (pv 9) pa_nil))))))))))))))))), ?_⟩
    rw [faultB_eq] at q er
    refine ⟨_, rfl, a, bs, rfl, ha, b2, few, fun hR H1 t b s1 nt nb ht hb => ⟨t, _, rfl, SqT.of ht, rfl, _, _, rfl, _, _, rfl, _, _, rfl, rfl, ?_⟩, fun z hz d H' s' e => er z (by rw [hz]; rfl) d H' s' e⟩
    rw [hR] at q er
    obtain ⟨l27, hF⟩ := headR_none hR
    obtain ⟨f, h5, h6⟩ := headF_fab b2 hF
    have wh := Nat.mul_le_mul f.w1 f.h1
    have sb : (decF bs).setBits ≤ 138 := by
      unfold Fab.setBits
      have h3 := Nat.mul_le_mul f.p1 (tapB_le f.t1)
      have h4 := f.t1
      have h5 : 2 ^ (decF bs).p ≤ 2 ^ 4 := Nat.pow_le_pow_right (by decide) f.p1
      omega
    have esz : sizeF bs = 27 + (decF bs).w * (decF bs).h * (decF bs).setBits + (nI bs + nO bs) * 13 + 16 := rfl
    have wh144 : (decF bs).w * (decF bs).h ≤ 144 := wh
    have lim : (decF bs).w * (decF bs).h * (decF bs).setBits ≤ 144 * 138 := Nat.mul_le_mul wh144 sb
    refine ⟨_, rfl, _, rfl, _, rfl, .ref b, decF bs, nI bs, nO bs, rfl, Dv.fab hb, f, by omega, by omega, ?_⟩
    rw [show (decF bs).size (nI bs) (nO bs) = sizeF bs from rfl]
    have ha1 := s1 _ _ ha
    refine ⟨_, rfl, a, _, rfl, .inl (SqL.of ha1), _, rfl, rfl, _, rfl, ?_⟩
    rw [vn_len]
    by_cases c1 : bs.length = sizeF bs
    case neg =>
      have hL : lenF bs = some (min bs.length (sizeF bs)) := by
        unfold lenF
        rw [if_pos c1]
      rw [decide_eq_false (show ¬ V.int ((bs.length : Nat) : Int) = V.int ((sizeF bs : Nat) : Int) from fun e => c1 (Int.ofNat.inj (V.int.inj e)))]
      refine iteT ⟨_, rfl, a, _, rfl, .inl (SqL.of ha1), _, rfl, _, _, rfl, by show 1 ≤ 1000; decide, raisedJ T.x_BitsError ?_ (by omega) fun d H2 s2 e2 => er _ hL d H2 (s1.trans s2) e2⟩
      rw [vn_len]
      exact min_ite _ _
    have hL : lenF bs = sumF bs := by
      unfold lenF
      rw [if_neg (fun z => z c1)]
    rw [hL] at q er
    rw [show decide (V.int ((bs.length : Nat) : Int) = V.int ((sizeF bs : Nat) : Int)) = true from decide_eq_true (by rw [c1])]
    refine iteF ?_
    have em : ((sizeF bs : Nat) : Int) - 16 = ((sizeF bs - 16 : Nat) : Int) := by omega
    refine ⟨_, rfl, _, rfl, _, _, rfl, rfl, _, rfl, a, _, rfl, SqL.of ha1, fun S nS => ?_⟩
    have eS : cutV (vn bs) (some (((sizeF bs : Nat) : Int) - 16)) none = vn (bs.drop (sizeF bs - 16)) := by
      rw [em, cut_from]
      unfold vn
      rw [← List.map_drop]
    have s2 := same_new (o := .lst (cutV (vn bs) (some (((sizeF bs : Nat) : Int) - 16)) none)) nS
    have hS : (upd H1 S (.lst (cutV (vn bs) (some (((sizeF bs : Nat) : Int) - 16)) none))) S = some (.lst (vn (bs.drop (sizeF bs - 16)))) := by rw [upd_same, eS]
    refine ⟨_, rfl, _, rfl, _, _, rfl, rfl, _, rfl, a, _, rfl, SqL.of (s2 _ _ ha1), fun R nR => ?_⟩
    have eR : cutV (vn bs) none (some (((sizeF bs : Nat) : Int) - 16)) = vn (bs.take (sizeF bs - 16)) := by
      rw [em, cut_to']
      unfold vn
      rw [← List.map_take]
    have s3 := same_new (o := .lst (cutV (vn bs) none (some (((sizeF bs : Nat) : Int) - 16)))) nR
    refine ⟨R, bs.take (sizeF bs - 16), rfl, (by rw [← eR]; exact upd_same), fun H4 l s4 nl hl => ?_⟩
    have dS : Dv H4 (.ref S) (bs.drop (sizeF bs - 16)) := Dv.natl (s4 _ _ (s3 _ _ hS))
    have dl : Dv H4 (.ref l) (crcL (bs.take (sizeF bs - 16))) := Dv.natl hl
    have s14 := s1.trans (s2.trans (s3.trans s4))
    have hb4 := (s2.trans (s3.trans s4)) _ _ hb
    refine neD dS dl (by decide) ⟨_, rfl, ?_⟩
    by_cases c2 : bs.drop (sizeF bs - 16) = crcL (bs.take (sizeF bs - 16))
    case neg =>
      have hU : sumF bs = some (sizeF bs - 16) := by
        unfold sumF
        rw [if_pos c2]
      rw [decide_eq_false c2]
      exact iteT ⟨_, rfl, _, _, rfl, rfl, by show 1 ≤ 1000; decide, raisedJ T.x_BitsError em (by omega) fun d H5 s5 e5 => er _ hU d H5 (s14.trans s5) e5⟩
    have hU : sumF bs = restF bs := by
      unfold sumF
      rw [if_neg (fun z => z c2)]
    rw [hU] at q er
    rw [decide_eq_true c2]
    refine iteF ?_
    refine ⟨by show 0 ≤ sizeLine; decide, fun D nD => ?_⟩
    have s5 := same_new (o := .lst ([] : List V)) nD
    have hD : (upd H4 D (.lst ([] : List V))) D = some (.lst []) := upd_same
    have nD0 := none_of s14 nD
    have s15 := s14.trans s5
    have hb5 := s5 _ _ hb4
    generalize (upd H4 D (.lst ([] : List V))) = H5 at s15 hD hb5 ⊢
    have bD : b ≠ D := ne_of_none hb4 nD
    clear dS dl hl nl s4 s3 s2 hS
    refine ⟨_, rfl, b, _, 1, _, rfl, rfl, SqT.of hb5, atI_nat (j := 1) rfl, _, rfl, b, _, 2, _, rfl, rfl, SqT.of hb5, atI_nat (j := 2) rfl, _, _, rfl, rfl, .inl ⟨by have := f.w1; omega, by have := f.w1; omega⟩, ?_⟩
    have ewh : (((decF bs).w : Nat) : Int) * (((decF bs).h : Nat) : Int) = (((decF bs).w * (decF bs).h : Nat) : Int) := (Int.natCast_mul ..).symm
    refine ⟨_, congrArg (fun z => [V.int z]) ewh, by omega, by omega, for_range (n := (decF bs).w * (decF bs).h) (fun i σ Hx => ∃ (y7 : Option V) (us : List V), σ = [some (.ref a), some (.ref b), some (.int (nI bs : Nat)), some (.int (nO bs : Nat)), some (.int (sizeF bs : Nat)), some (.ref D), some (.int (27 + i * (decF bs).setBits : Nat)), y7, none, none] ∧ Same H Hx ∧ Hx b = some (.tup (decF bs).its) ∧ Hx D = some (.lst us) ∧ Dvs (hid D (fresh H Hx)) us (decSs bs (decF bs) i) ∧ fs i (fun i => settF bs (decF bs) (27 + i * (decF bs).setBits)) = none) ⟨none, [], ?_, s15, hb5, hD, .nil, rfl⟩ ?_ ?_⟩
    · rw [Nat.zero_mul]
      rfl
    · rintro i σ Hx hi ⟨y7, us, rfl, sx, hbx, hx, dus, hf⟩
      rw [Int.zero_add]
      have le : (i + 1) * (decF bs).setBits ≤ (decF bs).w * (decF bs).h * (decF bs).setBits := Nat.mul_le_mul_right _ (by omega)
      have e1 : (i + 1) * (decF bs).setBits = i * (decF bs).setBits + (decF bs).setBits := Nat.succ_mul ..
      have lim2 : i * (decF bs).setBits ≤ 144 * 138 := Nat.mul_le_mul (by omega) sb
      refine ⟨_, rfl, .inl ⟨rfl, _, SqL.of hx⟩, _, rfl, _, rfl, _, rfl, a, .ref b, decF bs, bs, 27 + i * (decF bs).setBits, rfl, sx _ _ ha, b2, few, Dv.fab hbx, f, by omega, fun hz H6 t6 s6 nt6 d6 => ?_, fun z hz d H6 s6 e6 => er z (by unfold restF settsF; rw [fs_hit hf hz _ hi]; rfl) d H6 (sx.trans s6) e6⟩
      have hx6 := s6 _ _ hx
      have sx6 := sx.trans s6
      refine ⟨D, _, _, rfl, rfl, hx6, ?_, ?_⟩
      · rw [dus.len]
        unfold decSs
        rw [List.length_map, List.length_range]
        exact small64k (by omega)
      · refine ⟨_, rfl, _, rfl, .ref b, decF bs, rfl, Dv.fab ((upd_ne bD).trans (s6 _ _ hbx)), f.t1, f.p1, _, _, rfl, rfl, some (.int (i : Nat)), us ++ [.ref t6], ?_, same_mut sx6 nD0, (upd_ne bD).trans (s6 _ _ hbx), upd_same, ?_, by rw [fs_next hf]; exact hz⟩
        · rw [e1, show 27 + (i * (decF bs).setBits + (decF bs).setBits) = 27 + i * (decF bs).setBits + (decF bs).setBits by omega, Int.natCast_add (27 + i * (decF bs).setBits)]
          rfl
        · rw [decSs_snoc]
          have fr : Same (hid D (fresh H Hx)) (hid D (fresh H (upd H6 D (.lst (us ++ [.ref t6]))))) := fun b u z => by
            obtain ⟨h1, h2⟩ := hid_some z
            obtain ⟨h3, h4⟩ := fresh_some h2
            exact hid_of h1 (fresh_of h3 (by rw [upd_ne h1]; exact s6 _ _ h4))
          have fr2 : Same (fresh Hx H6) (hid D (fresh H (upd H6 D (.lst (us ++ [.ref t6]))))) := fun b u z => by
            obtain ⟨h3, h4⟩ := fresh_some z
            have n1 : b ≠ D := (ne_of_none hx h3).symm
            exact hid_of n1 (fresh_of (none_of sx h3) (by rw [upd_ne n1]; exact h4))
          exact (dus.same fr).app (.cons (d6.same fr2) .nil)
    rintro σ H7 ⟨y7, us, rfl, s7, hb7, h7, dus, hf⟩
    have hS : restF bs = (endsF bs (decF bs) (endsA (decF bs)) (nI bs)).or (endsF bs (decF bs) (endsA (decF bs) + nI bs * 13) (nO bs)) := by
      unfold restF settsF
      rw [hf]
      rfl
    rw [hS] at q er
    have eA : endsA (decF bs) = 27 + (decF bs).w * (decF bs).h * (decF bs).setBits := rfl
    refine ⟨_, rfl, _, rfl, _, rfl, _, rfl, a, .ref b, decF bs, bs, endsA (decF bs), nI bs, rfl, s7 _ _ ha, b2, few, Dv.fab hb7, f, by omega, by omega, fun hI H8 li s8 nli dli => ?_, fun z hz d H8 s8 e8 => er z (by rw [hz]; rfl) d H8 (s7.trans s8) e8⟩
    rw [hI] at q er
    have hb8 := s8 _ _ hb7
    have s78 := s7.trans s8
    have eo : ((27 + (decF bs).w * (decF bs).h * (decF bs).setBits : Nat) : Int) + ((nI bs : Nat) : Int) * 13 = ((endsA (decF bs) + nI bs * 13 : Nat) : Int) := by omega
    refine ⟨_, rfl, _, rfl, _, rfl, _, _, rfl, rfl, .inl ⟨by omega, by omega⟩, _, _, rfl, rfl, _, rfl, _, rfl, a, .ref b, decF bs, bs, endsA (decF bs) + nI bs * 13, nO bs, ?_, s78 _ _ ha, b2, few, Dv.fab hb8, f, by omega, by omega, fun hO H9 lo s9 nlo dlo => ?_, fun z hz d H9 s9 e9 => er z hz d H9 (s78.trans s9) e9⟩
    · show [V.ref a, .int (((27 + (decF bs).w * (decF bs).h * (decF bs).setBits : Nat) : Int) + ((nI bs : Nat) : Int) * 13), .int (nO bs : Nat), .ref b] = _
      rw [eo]
    have s79 := s78.trans s9
    have hb9 := s9 _ _ hb8
    have h9 := s9 _ _ (s8 _ _ h7)
    refine ⟨_, rfl, _, rfl, _, rfl, _, rfl, by show 5 ≤ sizeLine; decide, fun t' nt' => ?_⟩
    have sT := same_new (o := .tup [.str "config", .ref b, .ref D, .ref li, .ref lo]) nt'
    have sZ := s79.trans sT
    refine q hO _ t' sZ (none_of s79 nt') (Dv.conf (fresh_of (none_of s79 nt') upd_same) (Dv.fab (fresh_of nb (sT _ _ hb9))) (Dv.list (fresh_of nD0 (sT _ _ h9)) (dus.same fun b u z => ?_)) (dli.same fun b u z => ?_) (dlo.same fun b u z => ?_))
    · obtain ⟨_, h2⟩ := hid_some z
      obtain ⟨h3, h4⟩ := fresh_some h2
      exact fresh_of h3 (sT _ _ (s9 _ _ (s8 _ _ h4)))
    · obtain ⟨h3, h4⟩ := fresh_some z
      exact fresh_of (none_of s7 h3) (sT _ _ (s9 _ _ h4))
    · obtain ⟨h3, h4⟩ := fresh_some z
      exact fresh_of (none_of s78 h3) (sT _ _ h4)

end K57
namespace K57
open PySem PySem.Spec PyProof.Rows L2 V0
/-! ### a config as bits -/
theorem wr_take {f : Fab} {ss : List Sett} {i : Nat} {s : Sett} (h : ss[i]? = some s) : ((ss.take (i + 1)).map (settB f)).flatten = ((ss.take i).map (settB f)).flatten ++ settB f s := by
  rw [take_snoc h, List.map_append, List.flatten_append]
  simp
theorem pd_take {es : List Pad} {i : Nat} {e : Pad} (h : es[i]? = some e) : ((es.take (i + 1)).map padB).flatten = ((es.take i).map padB).flatten ++ padB e := by
  rw [take_snoc h, List.map_append, List.flatten_append]
  simp
theorem vn_cat (xs ys : List Nat) : vn xs ++ vn ys = vn (xs ++ ys) := (List.map_append ..).symm
/-- what is left of the head, the settings and the ends is short -/
theorem part_few {c : Conf} (ok : ConfOk c) {i : Nat} (hi : i ≤ c.set.length) : (headB c ++ ((c.set.take i).map (settB c.fab)).flatten).length ≤ 30000 := by
  obtain ⟨_, sb⟩ := enc_few ok
  have f := ok.fab
  have h1 := Nat.mul_le_mul f.w1 f.h1
  rw [List.length_append, headB_len, flat_map_len fun s hs => settB_len (ok.set s (List.mem_of_mem_take hs)), List.length_take]
  have h2 : min i c.set.length * c.fab.setBits ≤ 144 * 138 := Nat.mul_le_mul (by rw [ok.many]; omega) sb
  omega
def sp_bits_of (K : PySem.W.Frag) : Sp := fun vs H Q _ => ∃ (v : V) (c : Conf), vs = [v] ∧ Dv H v c ∧ ConfOk c ∧ ∀ H' l, Same H H' → H l = none → H' l = some (.lst (vn (enc c))) → Q (.ref l) H'
theorem ok_bits_of {P : Program} {w : World} {K : PySem.W.Frag} {mg : Str → Option Value} {base : Heap} {C_BitsError fI_BitsError : Addr} {fd_BitsError : FuncData} {B_ : Addr} {mc_ : Value} {O_FitError : Addr} {O_TextError : Addr} {tk_MOST_PLACES : Tok} {tk_MOST_TRACKS : Tok} {tk_MOST_PINS : Tok} {tk_MOST_ENDS : Tok} {tk_HEAD_BITS : Tok} {tk_END_BITS : Tok} {tk_SUM_BITS : Tok} {tk_DRIVE_BITS : Tok} {a_HEAD : Addr} {a_END : Addr} {a_STEPS_0 : Addr} {a_STEPS_1 : Addr} {a_STEPS_2 : Addr} {a_STEPS_3 : Addr} {a_STEPS : Addr} {f f_written f_tap_bits f_sum_bits : Addr} {fd fd_written fd_tap_bits fd_sum_bits : FuncData} (F : Fun K "bits_of" "bits_of" s_bits_of f fd) (T : Txt K mg C_BitsError fI_BitsError fd_BitsError B_ mc_ O_FitError O_TextError tk_MOST_PLACES tk_MOST_TRACKS tk_MOST_PINS tk_MOST_ENDS tk_HEAD_BITS tk_END_BITS tk_SUM_BITS tk_DRIVE_BITS a_HEAD a_END a_STEPS_0 a_STEPS_1 a_STEPS_2 a_STEPS_3 a_STEPS)
    (G__written : FnOk P w K mg base CX0 1 f_written fd_written ["numbers", "widths"] (sp__written K)) (D__written : Def K mg "_written" f_written fd_written ["numbers", "widths"])
    (G__tap_bits : FnOk P w K mg base CX0 2 f_tap_bits fd_tap_bits ["fabric"] (sp__tap_bits K)) (D__tap_bits : Def K mg "_tap_bits" f_tap_bits fd_tap_bits ["fabric"])
    (G__sum_bits : FnOk P w K mg base CX0 2 f_sum_bits fd_sum_bits ["bits"] (sp__sum_bits K)) (D__sum_bits : Def K mg "_sum_bits" f_sum_bits fd_sum_bits ["bits"]) :
    FnOk P w K mg base CX0 3 f fd ["config"] (sp_bits_of K) := by
  refine F.ok scbits_of (fun vs H Q E h => ?_) (fun cdv A outer s0 H vs Q E hr h => ?_)
  · obtain ⟨v, c, rfl, _⟩ := h
    rfl
  · obtain ⟨v, c, rfl, hv, ok, q⟩ := h
    refine ⟨_, (pss_cons (ps_asg (pv 0) (pg_tup (by rfl) (pgs_cons (pg_name (i := 1) scbits_of.nd rfl (Or.inl rfl)) (pgs_cons (pg_name (i := 2) scbits_of.nd rfl (Or.inl rfl)) (pgs_cons (pg_name (i := 3) scbits_of.nd rfl (Or.inl rfl)) (pgs_cons (pg_name (i := 4) scbits_of.nd rfl (Or.inl rfl)) (pgs_cons (pg_name (i := 5) scbits_of.nd rfl (Or.inl rfl)) pgs_nil)))))))
      (pss_cons (ps_set (i := 6) scbits_of.nd rfl (.inl rfl) (pe_op op_cat (pe_lc (own := [("number", 15)]) (g := gName 15) (tt := tYes) rfl scbits_of.nd (pi_tup (pe_slice sl_tup (pv 2) (po_some pe_int) po_none)) (blkOk_by (N := N_bits_of) (sc := defScope s_bits_of) (by decide +kernel)) (fun _ _ _ _ _ => (pg_name (i := 15) scbits_of.nd rfl (Or.inl rfl))) (fun _ _ _ _ _ => pts_nil) (fun _ _ _ _ _ => (pe_op op_sub (pv 15) pe_int))) (pe_lst (pa_cons (pe_callB call_len_seq (by rfl) T.m_len (by decide +kernel) (pa_cons (pv 4) pa_nil)) (pa_cons (pe_callB call_len_seq (by rfl) T.m_len (by decide +kernel) (pa_cons (pv 5) pa_nil)) pa_nil)))))
      (pss_cons (ps_set (i := 7) scbits_of.nd rfl (.inl rfl) (pe_call G__written (hr.mono (by omega)) (by rfl) D__written.m D__written.k D__written.b .nil pass0 (pa_cons (pv 6) (pa_cons (pe_glob (v := V.ref _) rfl T.m_HEAD rfl) pa_nil))))
      (pss_cons (ps_set (i := 8) scbits_of.nd rfl (.inl rfl) (pe_call G__tap_bits (hr.mono (by omega)) (by rfl) D__tap_bits.m D__tap_bits.k D__tap_bits.b .nil pass0 (pa_cons (pv 2) pa_nil)))
      (pss_cons (ps_for PassesOwn.never rfl (pi_list (pv 3)) (pg_tup (by rfl) (pgs_cons (pg_name (i := 1) scbits_of.nd rfl (Or.inl rfl)) (pgs_cons (pg_name (i := 9) scbits_of.nd rfl (Or.inl rfl)) (pgs_cons (pg_name (i := 10) scbits_of.nd rfl (Or.inl rfl)) (pgs_cons (pg_name (i := 11) scbits_of.nd rfl (Or.inl rfl)) (pgs_cons (pg_name (i := 12) scbits_of.nd rfl (Or.inl rfl)) (pgs_cons (pg_name (i := 13) scbits_of.nd rfl (Or.inl rfl)) pgs_nil))))))) (pss_cons (ps_expr (pe_bm PySem.F.plainAttrs_list PySem.F.slot_list_extend PySem.F.type_list_extend mt_extend (pv 7) (pa_cons (pe_call G__written (hr.mono (by omega)) (by rfl) D__written.m D__written.k D__written.b .nil pass0 (pa_cons (pe_lst (pa_cons (pv 9) (pa_cons (pv 10) (pa_cons (pv 11) pa_nil)))) (pa_cons (pe_tup (pa_cons (pe_op op_shl pe_int (pe_ix (r := rIxT K) ix_tup (pv 2) pe_int (fun _ _ => rfl))) (pa_cons pe_int (pa_cons pe_int pa_nil)))) pa_nil))) pa_nil)))
      (pss_cons (ps_expr (pe_bm PySem.F.plainAttrs_list PySem.F.slot_list_extend PySem.F.type_list_extend mt_extend (pv 7) (pa_cons (pe_call G__written (hr.mono (by omega)) (by rfl) D__written.m D__written.k D__written.b .nil pass0 (pa_cons (pv 12) (pa_cons (pe_op op_rep (pe_lst (pa_cons (pv 8) pa_nil)) (pe_callB call_len_seq (by rfl) T.m_len (by decide +kernel) (pa_cons (pv 12) pa_nil))) pa_nil))) pa_nil)))
      (pss_one (ps_expr (pe_bm PySem.F.plainAttrs_list PySem.F.slot_list_extend PySem.F.type_list_extend mt_extend (pv 7) (pa_cons (pe_call G__written (hr.mono (by omega)) (by rfl) D__written.m D__written.k D__written.b .nil pass0 (pa_cons (pv 13) (pa_cons (pe_op op_rep (pe_lst (pa_cons (pe_glob (v := V.int _) rfl T.m_DRIVE_BITS ⟨_, rfl⟩) pa_nil)) (pe_callB call_len_seq (by rfl) T.m_len (by decide +kernel) (pa_cons (pv 13) pa_nil))) pa_nil))) pa_nil)))))))
      (pss_cons (ps_for PassesOwn.never rfl (pi_list (pe_op op_cat (pv 4) (pv 5))) (pg_name (i := 14) scbits_of.nd rfl (Or.inl rfl)) (pss_one (ps_expr (pe_bm PySem.F.plainAttrs_list PySem.F.slot_list_extend PySem.F.type_list_extend mt_extend (pv 7) (pa_cons (pe_call G__written (hr.mono (by omega)) (by rfl) D__written.m D__written.k D__written.b .nil pass0 (pa_cons (pv 14) (pa_cons (pe_glob (v := V.ref _) rfl T.m_END rfl) pa_nil))) pa_nil)))))
      (pss_one (ps_ret (pe_op op_cat (pv 7) (pe_call G__sum_bits (hr.mono (by omega)) (by rfl) D__sum_bits.m D__sum_bits.k D__sum_bits.b .nil pass0 (pa_cons (pv 7) pa_nil))))))))))), ?_⟩
    have f := ok.fab
    have g1 := f.w0
    have g2 := f.h0
    have g3 := f.t0
    have g4 := f.p0
    have p1 := f.p1
    have t1 := f.t1
    have tb := tapB_le t1
    have li := ok.lins
    have lo := ok.louts
    obtain ⟨few, sb⟩ := enc_few ok
    obtain ⟨a, vf, vs, vi_, vo_, rfl, ha, hf, hs, hi, ho⟩ := conf_inv hv
    obtain ⟨fa, rfl, hfa⟩ := fab_inv hf
    obtain ⟨sa, us, rfl, hsa, dus⟩ := hs.list_inv
    obtain ⟨ia, ui, rfl, hia, dui⟩ := hi.list_inv
    obtain ⟨oa, uo, rfl, hoa, duo⟩ := ho.list_inv
    refine ⟨_, rfl, a, _, rfl, SqT.of ha, rfl, _, _, rfl, _, _, rfl, _, _, rfl, _, _, rfl, _, _, rfl, rfl, ?_⟩
    -- head
    refine ⟨_, rfl, _, rfl, fa, _, rfl, SqT.of hfa, by show ¬ (HT.sIx 5 0 (some 1) = 0 ∧ HT.sIx 5 5 none = 5); decide, fun S nS => ?_⟩
    rw [show cutV c.fab.its (some 1) none = vn [c.fab.w, c.fab.h, c.fab.t, c.fab.p] from cut_from c.fab.its 1]
    have s1 := same_new (o := .tup (vn [c.fab.w, c.fab.h, c.fab.t, c.fab.p])) nS
    have hS : (upd H S (.tup (vn [c.fab.w, c.fab.h, c.fab.t, c.fab.p]))) S = some (.tup (vn [c.fab.w, c.fab.h, c.fab.t, c.fab.p])) := upd_same
    generalize (upd H S (.tup (vn [c.fab.w, c.fab.h, c.fab.t, c.fab.p]))) = H1 at s1 hS ⊢
    refine ⟨S, rfl, ⟨_, SqT.of hS⟩, fun D nD => lcA (n := 4) (walk_tup (K := K) (a := S) (xs := vn [c.fab.w, c.fab.h, c.fab.t, c.fab.p])) (fun i => .int (([c.fab.w - 1, c.fab.h - 1, c.fab.t - 1, c.fab.p - 1][i]?.getD 0 : Nat) : Int)) nD (by decide) (fun Hz sz => SqT.of (sz _ _ hS)) (fun i x Hz Hz' Q hi' sz y qt => ?_) fun H2 s2 hD => ?_⟩
    · obtain ⟨rfl, y⟩ := y
      have qt' := qt _ (Same.refl _)
      have : i = 0 ∨ i = 1 ∨ i = 2 ∨ i = 3 := by omega
      rcases this with rfl | rfl | rfl | rfl
      · cases y
        have e : ((c.fab.w - 1 : Nat) : Int) = ((c.fab.w : Nat) : Int) - 1 := by omega
        refine ⟨rfl, _, rfl, _, _, rfl, rfl, ?_⟩
        rw [show ([c.fab.w - 1, c.fab.h - 1, c.fab.t - 1, c.fab.p - 1][0]?.getD 0 : Nat) = c.fab.w - 1 from rfl, e] at qt'
        exact qt'
      · cases y
        have e : ((c.fab.h - 1 : Nat) : Int) = ((c.fab.h : Nat) : Int) - 1 := by omega
        refine ⟨rfl, _, rfl, _, _, rfl, rfl, ?_⟩
        rw [show ([c.fab.w - 1, c.fab.h - 1, c.fab.t - 1, c.fab.p - 1][1]?.getD 0 : Nat) = c.fab.h - 1 from rfl, e] at qt'
        exact qt'
      · cases y
        have e : ((c.fab.t - 1 : Nat) : Int) = ((c.fab.t : Nat) : Int) - 1 := by omega
        refine ⟨rfl, _, rfl, _, _, rfl, rfl, ?_⟩
        rw [show ([c.fab.w - 1, c.fab.h - 1, c.fab.t - 1, c.fab.p - 1][2]?.getD 0 : Nat) = c.fab.t - 1 from rfl, e] at qt'
        exact qt'
      · cases y
        have e : ((c.fab.p - 1 : Nat) : Int) = ((c.fab.p : Nat) : Int) - 1 := by omega
        refine ⟨rfl, _, rfl, _, _, rfl, rfl, ?_⟩
        rw [show ([c.fab.w - 1, c.fab.h - 1, c.fab.t - 1, c.fab.p - 1][3]?.getD 0 : Nat) = c.fab.p - 1 from rfl, e] at qt'
        exact qt'
    have hD : H2 D = some (.lst (vn [c.fab.w - 1, c.fab.h - 1, c.fab.t - 1, c.fab.p - 1])) := hD
    have s12 := s1.trans s2
    refine ⟨_, rfl, ia, _, rfl, .inl (SqL.of (s12 _ _ hia)), _, rfl, oa, _, rfl, .inl (SqL.of (s12 _ _ hoa)), by show 2 ≤ sizeLine; decide, fun L nL => ?_⟩
    have lui := dui.len
    have luo := duo.len
    have s3 := same_new (o := .lst [V.int (ui.length : Nat), .int (uo.length : Nat)]) nL
    have hL : (upd H2 L (.lst [V.int (ui.length : Nat), .int (uo.length : Nat)])) L = some (.lst (vn [c.ins.length, c.outs.length])) := by rw [upd_same, lui, luo]; rfl
    have hD3 := s3 _ _ hD
    refine ⟨D, L, _, _, rfl, rfl, hD3, hL, by show 6 ≤ sizeLine; decide, fun hd nhd => ?_⟩
    have s4 := same_new (o := .lst (vn [c.fab.w - 1, c.fab.h - 1, c.fab.t - 1, c.fab.p - 1] ++ vn [c.ins.length, c.outs.length])) nhd
    have s14 := s12.trans (s3.trans s4)
    refine ⟨_, rfl, false, true, hd, a_HEAD, [c.fab.w - 1, c.fab.h - 1, c.fab.t - 1, c.fab.p - 1, c.ins.length, c.outs.length], [4, 4, 3, 2, 7, 7], rfl, SqL.of upd_same, T.t_HEAD _, rfl, by show 6 ≤ 1000; decide, by decide, fun H5 B s5 nB hB => ?_⟩
    have s15 := s14.trans s5
    have nB0 := none_of s14 nB
    clear hL hD3 hD hS
    refine ⟨_, rfl, .ref fa, c.fab, rfl, Dv.fab (s15 _ _ hfa), t1, ?_⟩
    refine ⟨_, rfl, sa, rfl, ⟨_, SqL.of (s15 _ _ hsa)⟩, for_list (xs := us) (fun i σ Hx => ∃ y1 y9 y10 y11 y12 y13 : Option V, σ = [some (.ref a), y1, some (.ref fa), some (.ref sa), some (.ref ia), some (.ref oa), some (.ref hd), some (.ref B), some (.int (tapB c.fab.t : Nat)), y9, y10, y11, y12, y13, none, none] ∧ Same H Hx ∧ Hx B = some (.lst (vn (headB c ++ ((c.set.take i).map (settB c.fab)).flatten)))) ⟨_, none, none, none, none, none, rfl, s15, by rw [hB, List.take_zero]; show _ = some (HO.lst (vn (headB c ++ []))); rw [List.append_nil]; rfl⟩ (fun i σ Hx _ h => ?_) ?_ ?_⟩
    · obtain ⟨_, _, _, _, _, _, _, sx, _⟩ := h
      exact SqL.of (sx _ _ hsa)
    · rintro i w σ Hx hw ⟨y1, y9, y10, y11, y12, y13, rfl, sx, hx⟩
      obtain ⟨s, es, ds⟩ := dus.at hw
      have sm := List.mem_of_getElem? es
      have sok := ok.set s sm
      have il : i < c.set.length := (List.getElem?_eq_some_iff.mp es).1
      have pf := part_few ok (i := i) (by omega)
      obtain ⟨b, tl, dl, rfl, hb, htl, hdl⟩ := sett_inv ds
      refine ⟨b, _, rfl, SqT.of (sx _ _ hb), rfl, _, _, rfl, _, _, rfl, _, _, rfl, _, _, rfl, _, _, rfl, _, _, rfl, rfl, ?_⟩
      -- table, kept, start
      refine ⟨_, rfl, .inl ⟨rfl, _, SqL.of hx⟩, _, rfl, _, rfl, _, rfl, by show 3 ≤ sizeLine; decide, fun L nL => ?_⟩
      have s1 := same_new (o := .lst (vn [s.table, s.kept, s.start])) nL
      have hL : (upd Hx L (.lst (vn [s.table, s.kept, s.start]))) L = some (.lst (vn [s.table, s.kept, s.start])) := upd_same
      refine ⟨_, rfl, fa, _, 4, _, rfl, rfl, SqT.of (s1 _ _ (sx _ _ hfa)), atI_nat (j := 4) rfl, _, _, rfl, rfl, ⟨by omega, by omega, by decide⟩, by show 3 ≤ sizeLine; decide, fun W nW => ?_⟩
      have s2 := same_new (o := .tup [V.int ((1 : Int) * 2 ^ ((c.fab.p : Nat) : Int).toNat), .int 1, .int 1]) nW
      have hW : (upd (upd Hx L (.lst (vn [s.table, s.kept, s.start]))) W (.tup [V.int ((1 : Int) * 2 ^ ((c.fab.p : Nat) : Int).toNat), .int 1, .int 1])) W = some (.tup (vn [2 ^ c.fab.p, 1, 1])) := by
        rw [upd_same, shl_one]
        rfl
      have p16 : 2 ^ c.fab.p ≤ 2 ^ 4 := Nat.pow_le_pow_right (by decide) p1
      refine ⟨false, true, L, W, [s.table, s.kept, s.start], [2 ^ c.fab.p, 1, 1], rfl, SqL.of (s2 _ _ hL), SqT.of hW, rfl, by show 3 ≤ 1000; decide, fun x hx => ?_, fun H2 l s3 nl hl => ?_⟩
      · rcases List.mem_cons.mp hx with rfl | hx
        · omega
        rcases List.mem_cons.mp hx with rfl | hx
        · decide
        · rw [List.mem_singleton.mp hx]
          decide
      have sx2 := sx.trans (s1.trans (s2.trans s3))
      have hx2 := (s1.trans (s2.trans s3)) _ _ hx
      have lB : l ≠ B := fun e => by
        rw [e, (s1.trans s2) _ _ hx] at nl
        cases nl
      have l1 : (wr [s.table, s.kept, s.start] [2 ^ c.fab.p, 1, 1]).length ≤ 100 := by
        rw [wr_len (ns := [s.table, s.kept, s.start]) (ws := [2 ^ c.fab.p, 1, 1]) rfl]
        show 2 ^ c.fab.p + (1 + (1 + 0)) ≤ _
        omega
      refine ⟨B, l, _, _, rfl, rfl, hx2, hl, by rw [vn_len, vn_len]; exact Nat.le_of_lt (small64k (by omega)), ?_⟩
      rw [vn_cat]
      have m1 : Same H (upd H2 B (.lst (vn (headB c ++ ((c.set.take i).map (settB c.fab)).flatten ++ wr [s.table, s.kept, s.start] [2 ^ c.fab.p, 1, 1])))) := same_mut sx2 nB0
      have hB1 : (upd H2 B (.lst (vn (headB c ++ ((c.set.take i).map (settB c.fab)).flatten ++ wr [s.table, s.kept, s.start] [2 ^ c.fab.p, 1, 1])))) B = _ := upd_same
      generalize (upd H2 B (.lst (vn (headB c ++ ((c.set.take i).map (settB c.fab)).flatten ++ wr [s.table, s.kept, s.start] [2 ^ c.fab.p, 1, 1])))) = H3 at m1 hB1 ⊢
      clear hx2 sx2 hl hW hL s1 s2 s3 nl nL nW lB
      -- taps
      refine ⟨_, rfl, .inl ⟨rfl, _, SqL.of hB1⟩, _, rfl, _, rfl, by show 1 ≤ sizeLine; decide, fun z nz => ?_⟩
      have s1 := same_new (o := .lst [V.int (tapB c.fab.t : Nat)]) nz
      have hz : (upd H3 z (.lst [V.int (tapB c.fab.t : Nat)])) z = some (.lst [V.int (tapB c.fab.t : Nat)]) := upd_same
      generalize (upd H3 z (.lst [V.int (tapB c.fab.t : Nat)])) = H4 at s1 hz ⊢
      refine ⟨_, rfl, tl, _, rfl, .inl (SqL.of (s1 _ _ (m1 _ _ htl))), z, _, _, rfl, rfl, hz, by omega, by rw [vn_len, sok.taps]; omega, by rw [vn_len, sok.taps, Int.toNat_natCast]; show 1 * c.fab.p ≤ _; rw [Nat.one_mul]; exact Nat.le_of_lt (small64k (by omega)), fun u nu => ?_⟩
      rw [vn_len, rep_nat, ← vn_rep]
      have s2 := same_new (o := .lst (vn (List.replicate s.taps.length (tapB c.fab.t)))) nu
      have hu : (upd H4 u (.lst (vn (List.replicate s.taps.length (tapB c.fab.t))))) u = some (.lst (vn (List.replicate s.taps.length (tapB c.fab.t)))) := upd_same
      generalize (upd H4 u (.lst (vn (List.replicate s.taps.length (tapB c.fab.t))))) = H5 at s2 hu ⊢
      refine ⟨false, false, tl, u, s.taps, List.replicate s.taps.length (tapB c.fab.t), rfl, SqL.of (s2 _ _ (s1 _ _ (m1 _ _ htl))), SqL.of hu, by rw [List.length_replicate], by rw [sok.taps]; omega, fun x hx => by rw [List.eq_of_mem_replicate hx]; omega, fun H6 l s3 nl hl => ?_⟩
      have s13 := s1.trans (s2.trans s3)
      have l2 : (wr s.taps (List.replicate s.taps.length (tapB c.fab.t))).length ≤ 100 := by
        rw [wr_len (by rw [List.length_replicate]), rep_sum, sok.taps]
        have := Nat.mul_le_mul p1 tb
        omega
      refine ⟨B, l, _, _, rfl, rfl, s13 _ _ hB1, hl, by rw [vn_len, vn_len, List.length_append]; exact Nat.le_of_lt (small64k (by omega)), ?_⟩
      rw [vn_cat]
      have m2 : Same H (upd H6 B (.lst (vn (headB c ++ ((c.set.take i).map (settB c.fab)).flatten ++ wr [s.table, s.kept, s.start] [2 ^ c.fab.p, 1, 1] ++ wr s.taps (List.replicate s.taps.length (tapB c.fab.t)))))) := same_mut (m1.trans s13) nB0
      have hB2 : (upd H6 B (.lst (vn (headB c ++ ((c.set.take i).map (settB c.fab)).flatten ++ wr [s.table, s.kept, s.start] [2 ^ c.fab.p, 1, 1] ++ wr s.taps (List.replicate s.taps.length (tapB c.fab.t)))))) B = _ := upd_same
      generalize (upd H6 B (.lst (vn (headB c ++ ((c.set.take i).map (settB c.fab)).flatten ++ wr [s.table, s.kept, s.start] [2 ^ c.fab.p, 1, 1] ++ wr s.taps (List.replicate s.taps.length (tapB c.fab.t)))))) = H7 at m2 hB2 ⊢
      clear hB1 hl hu hz s1 s2 s3 s13 nz nu nl
      -- drives
      refine ⟨_, rfl, .inl ⟨rfl, _, SqL.of hB2⟩, _, rfl, by show 1 ≤ sizeLine; decide, fun z nz => ?_⟩
      have s1 := same_new (o := .lst [V.int 3]) nz
      have hz : (upd H7 z (.lst [V.int 3])) z = some (.lst [V.int 3]) := upd_same
      generalize (upd H7 z (.lst [V.int 3])) = H8 at s1 hz ⊢
      refine ⟨_, rfl, dl, _, rfl, .inl (SqL.of (s1 _ _ (m2 _ _ hdl))), z, _, _, rfl, rfl, hz, by omega, by rw [vn_len, sok.drv]; omega, by rw [vn_len, sok.drv, Int.toNat_natCast]; show 1 * (4 * c.fab.t) ≤ _; rw [Nat.one_mul]; exact Nat.le_of_lt (small64k (by omega)), fun u nu => ?_⟩
      rw [vn_len, rep_nat, show List.replicate s.drv.length (V.int 3) = vn (List.replicate s.drv.length 3) from (vn_rep _ 3).symm]
      have s2 := same_new (o := .lst (vn (List.replicate s.drv.length 3))) nu
      have hu : (upd H8 u (.lst (vn (List.replicate s.drv.length 3)))) u = some (.lst (vn (List.replicate s.drv.length 3))) := upd_same
      generalize (upd H8 u (.lst (vn (List.replicate s.drv.length 3)))) = H9 at s2 hu ⊢
      refine ⟨false, false, dl, u, s.drv, List.replicate s.drv.length 3, rfl, SqL.of (s2 _ _ (s1 _ _ (m2 _ _ hdl))), SqL.of hu, by rw [List.length_replicate], by rw [sok.drv]; omega, fun x hx => by rw [List.eq_of_mem_replicate hx]; decide, fun H10 l s3 nl hl => ?_⟩
      have s13 := s1.trans (s2.trans s3)
      have l3 : (wr s.drv (List.replicate s.drv.length 3)).length ≤ 100 := by
        rw [wr_len (by rw [List.length_replicate]), rep_sum, sok.drv]
        omega
      refine ⟨B, l, _, _, rfl, rfl, s13 _ _ hB2, hl, by rw [vn_len, vn_len, List.length_append, List.length_append]; exact Nat.le_of_lt (small64k (by omega)), ?_⟩
      rw [vn_cat]
      refine ⟨_, _, _, _, _, _, rfl, same_mut (m2.trans s13) nB0, ?_⟩
      rw [upd_same, wr_take es]
      unfold settB
      simp only [List.append_assoc]
    clear hB
    rintro σ H6 ⟨y1, y9, y10, y11, y12, y13, rfl, s6, hB⟩
    have lus := dus.len
    rw [lus, List.take_length] at hB
    have pf := part_few ok (Nat.le_refl _)
    rw [List.take_length] at pf
    have hia6 := s6 _ _ hia
    have hoa6 := s6 _ _ hoa
    refine ⟨_, rfl, _, rfl, ia, oa, _, _, rfl, rfl, hia6, hoa6, by rw [dui.len, duo.len]; exact Nat.le_of_lt (small64k (by omega)), fun J nJ => ?_⟩
    have s7 := same_new (o := .lst (ui ++ uo)) nJ
    have hJ : (upd H6 J (.lst (ui ++ uo))) J = some (.lst (ui ++ uo)) := upd_same
    have hB7 := s7 _ _ hB
    have JB : J ≠ B := (ne_of_none hB nJ).symm
    have s67 := s6.trans s7
    generalize (upd H6 J (.lst (ui ++ uo))) = H7 at s7 hJ hB7 s67 ⊢
    have dio : Dvs H (ui ++ uo) (c.ins ++ c.outs) := dui.app duo
    refine ⟨J, rfl, ⟨_, SqL.of hJ⟩, for_list (xs := ui ++ uo) (fun i σ Hx => ∃ y14 : Option V, σ = [some (.ref a), y1, some (.ref fa), some (.ref sa), some (.ref ia), some (.ref oa), some (.ref hd), some (.ref B), some (.int (tapB c.fab.t : Nat)), y9, y10, y11, y12, y13, y14, none] ∧ Same H Hx ∧ Hx J = some (.lst (ui ++ uo)) ∧ Hx B = some (.lst (vn (headB c ++ (c.set.map (settB c.fab)).flatten ++ (((c.ins ++ c.outs).take i).map padB).flatten)))) ⟨none, rfl, s67, hJ, by rw [hB7, List.take_zero]; show _ = some (HO.lst (vn (_ ++ []))); rw [List.append_nil]⟩ (fun i σ Hx _ h => ?_) ?_ ?_⟩
    · obtain ⟨_, _, _, h, _⟩ := h
      exact SqL.of h
    · rintro i w σ Hx hw ⟨y14, rfl, sx, hj, hx⟩
      obtain ⟨e, ee, de⟩ := dio.at hw
      obtain ⟨b, rfl, hb⟩ := pad_inv de
      have il : i < (c.ins ++ c.outs).length := (List.getElem?_eq_some_iff.mp ee).1
      rw [List.length_append] at il
      have lp : (((c.ins ++ c.outs).take i).map padB).flatten.length ≤ 2000 := by
        rw [flat_map_len fun e _ => padB_len e, List.length_take]
        omega
      refine ⟨_, rfl, .inl ⟨rfl, _, SqL.of hx⟩, _, rfl, true, true, b, a_END, [e.x, e.y, e.s, e.k], [4, 4, 2, 3], rfl, SqT.of (sx _ _ hb), T.t_END Hx, rfl, by show 4 ≤ 1000; decide, by decide, fun H2 l s3 nl hl => ?_⟩
      have l4 : (wr [e.x, e.y, e.s, e.k] [4, 4, 2, 3]).length = 13 := wr_len rfl
      refine ⟨B, l, _, _, rfl, rfl, s3 _ _ hx, hl, by rw [vn_len, vn_len, List.length_append]; exact Nat.le_of_lt (small64k (by omega)), ?_⟩
      rw [vn_cat]
      refine ⟨_, rfl, same_mut (sx.trans s3) nB0, (upd_ne JB).trans (s3 _ _ hj), ?_⟩
      rw [upd_same, pd_take ee]
      unfold padB
      simp only [List.append_assoc]
    rintro σ H8 ⟨y14, rfl, s8, hj, h8⟩
    have lio := dio.len
    rw [lio, List.take_length] at h8
    have h8 : H8 B = some (.lst (vn (body c))) := h8
    refine ⟨_, rfl, _, rfl, B, body c, rfl, h8, fun H9 l s9 nl hl => ⟨B, l, _, _, rfl, rfl, s9 _ _ h8, hl, ?_, fun Z nZ => ?_⟩⟩
    · have := few
      unfold enc at this
      rw [List.length_append] at this
      rw [vn_len, vn_len]
      exact Nat.le_of_lt (small64k (by omega))
    · have sz := s8.trans s9
      refine q _ Z (sz.trans (same_new nZ)) (none_of sz nZ) ?_
      rw [upd_same, vn_cat]
      rfl

end K57
namespace K57
open PySem PySem.Spec PyProof.Rows L2 V0
/-! ### bits, worked out anew -/
def sp__law_written (K : PySem.W.Frag) : Sp := fun vs H Q _ => ∃ (n w : Nat), vs = [.int (n : Nat), .int (w : Nat)] ∧ w ≤ 60 ∧ ∀ H' l, Same H H' → H l = none → H' l = some (.lst (vn (bt n w))) → Q (.ref l) H'
theorem ok__law_written {P : Program} {w : World} {K : PySem.W.Frag} {mg : Str → Option Value} {base : Heap} {C_BitsError fI_BitsError : Addr} {fd_BitsError : FuncData} {B_ : Addr} {mc_ : Value} {O_FitError : Addr} {O_TextError : Addr} {tk_MOST_PLACES : Tok} {tk_MOST_TRACKS : Tok} {tk_MOST_PINS : Tok} {tk_MOST_ENDS : Tok} {tk_HEAD_BITS : Tok} {tk_END_BITS : Tok} {tk_SUM_BITS : Tok} {tk_DRIVE_BITS : Tok} {a_HEAD : Addr} {a_END : Addr} {a_STEPS_0 : Addr} {a_STEPS_1 : Addr} {a_STEPS_2 : Addr} {a_STEPS_3 : Addr} {a_STEPS : Addr} {f  : Addr} {fd  : FuncData} (F : Fun K "_law_written" "_law_written" s__law_written f fd) (T : Txt K mg C_BitsError fI_BitsError fd_BitsError B_ mc_ O_FitError O_TextError tk_MOST_PLACES tk_MOST_TRACKS tk_MOST_PINS tk_MOST_ENDS tk_HEAD_BITS tk_END_BITS tk_SUM_BITS tk_DRIVE_BITS a_HEAD a_END a_STEPS_0 a_STEPS_1 a_STEPS_2 a_STEPS_3 a_STEPS) :
    FnOk P w K mg base CX0 1 f fd ["number", "size"] (sp__law_written K) := by
  refine F.ok sc_law_written (fun vs H Q E h => ?_) (fun cdv A outer s0 H vs Q E hr h => ?_)
  · obtain ⟨n, w, rfl, _⟩ := h
    rfl
  · obtain ⟨n, w, rfl, w60, q⟩ := h
    refine ⟨_, (pss_cons (ps_set (i := 2) sc_law_written.nd rfl (.inl rfl) (pe_lst pa_nil))
      (pss_cons (ps_for PassesOwn.never rfl (pi_range1 rfl T.m_range (pa_cons (pv 1) pa_nil)) (pg_name (i := 3) sc_law_written.nd rfl (Or.inl rfl)) (pss_cons (ps_expr (pe_bm PySem.F.plainAttrs_list PySem.F.slot_list_append PySem.F.type_list_append mt_append (pv 2) (pa_cons (pe_op op_modN (pe_callTy call_int1 (by rfl) T.m_int (by decide +kernel) (pa_cons (pv 0) pa_nil)) pe_int) pa_nil)))
      (pss_one (ps_set (i := 0) sc_law_written.nd rfl (.inl rfl) (pe_op op_fdivN (pv 0) pe_int)))))
      (pss_one (ps_ret (pv 2))))), ?_⟩
    refine ⟨by show 0 ≤ sizeLine; decide, fun D nD => ?_⟩
    have s1 := same_new (o := .lst ([] : List V)) nD
    have hD : (upd H D (.lst ([] : List V))) D = some (.lst (vn [])) := upd_same
    generalize (upd H D (.lst ([] : List V))) = H1 at s1 hD ⊢
    refine ⟨_, rfl, _, rfl, by omega, by omega, for_range (n := w) (fun i σ Hx => ∃ y3 : Option V, σ = [some (.int (n / 2 ^ i : Nat)), some (.int (w : Nat)), some (.ref D), y3] ∧ Same H Hx ∧ Hx D = some (.lst (vn (bt n i)))) ⟨none, by rw [Nat.pow_zero, Nat.div_one]; rfl, s1, hD⟩ ?_ ?_⟩
    · rintro i σ Hx hi ⟨y3, rfl, sx, hx⟩
      have e1 : ((n / 2 ^ i : Nat) : Int).fmod 2 = ((n / 2 ^ i % 2 : Nat) : Int) := by
        rw [Int.fmod_eq_emod_of_nonneg _ (by decide)]
        omega
      have e2 : ((n / 2 ^ i : Nat) : Int).fdiv 2 = ((n / 2 ^ (i + 1) : Nat) : Int) := by
        rw [Int.fdiv_eq_ediv_of_nonneg _ (by decide), Nat.pow_succ, ← Nat.div_div_eq_div_mul]
        omega
      refine ⟨_, rfl, .inl ⟨rfl, _, SqL.of hx⟩, _, rfl, .inl ⟨_, rfl, _, _, rfl, rfl, (show (2 : Int) ≠ 0 by decide), D, _, _, rfl, rfl, hx, by rw [vn_len, bt_len]; exact small64k (by omega), ?_⟩⟩
      refine ⟨_, rfl, _, _, rfl, rfl, ⟨by decide, by decide⟩, some (.int ((0 : Int) + (i : Nat))), ?_, same_mut sx nD, ?_⟩
      · rw [← e2]
        rfl
      · rw [upd_same]
        show some (HO.lst (vn (bt n i) ++ [V.int (((n / 2 ^ i : Nat) : Int).fmod 2)])) = _
        rw [e1, vn_snoc, bt_step]
    rintro σ Hx ⟨y3, rfl, sx, hx⟩
    exact ⟨_, rfl, q Hx D sx nD hx⟩
def sp__law_tap (K : PySem.W.Frag) : Sp := fun vs H Q _ => ∃ (v : V) (f : Fab), vs = [v] ∧ Dv H v f ∧ 1 ≤ f.t ∧ f.t ≤ 8 ∧ ∀ H', Same H H' → Q (.int (tapB f.t : Nat)) H'
theorem ok__law_tap {P : Program} {w : World} {K : PySem.W.Frag} {mg : Str → Option Value} {base : Heap} {C_BitsError fI_BitsError : Addr} {fd_BitsError : FuncData} {B_ : Addr} {mc_ : Value} {O_FitError : Addr} {O_TextError : Addr} {tk_MOST_PLACES : Tok} {tk_MOST_TRACKS : Tok} {tk_MOST_PINS : Tok} {tk_MOST_ENDS : Tok} {tk_HEAD_BITS : Tok} {tk_END_BITS : Tok} {tk_SUM_BITS : Tok} {tk_DRIVE_BITS : Tok} {a_HEAD : Addr} {a_END : Addr} {a_STEPS_0 : Addr} {a_STEPS_1 : Addr} {a_STEPS_2 : Addr} {a_STEPS_3 : Addr} {a_STEPS : Addr} {f  : Addr} {fd  : FuncData} (F : Fun K "_law_tap" "_law_tap" s__law_tap f fd) (T : Txt K mg C_BitsError fI_BitsError fd_BitsError B_ mc_ O_FitError O_TextError tk_MOST_PLACES tk_MOST_TRACKS tk_MOST_PINS tk_MOST_ENDS tk_HEAD_BITS tk_END_BITS tk_SUM_BITS tk_DRIVE_BITS a_HEAD a_END a_STEPS_0 a_STEPS_1 a_STEPS_2 a_STEPS_3 a_STEPS) :
    FnOk P w K mg base CX0 1 f fd ["fabric"] (sp__law_tap K) := by
  refine F.ok sc_law_tap (fun vs H Q E h => ?_) (fun cdv A outer s0 H vs Q E hr h => ?_)
  · obtain ⟨v, f, rfl, _⟩ := h
    rfl
  · obtain ⟨v, f, rfl, hv, t0, t1, q⟩ := h
    refine ⟨_, (pss_one (ps_ret (pe_ix (r := rIxL K) ix_list (pe_lst (pa_cons pe_int (pa_cons pe_int (pa_cons pe_int (pa_cons pe_int (pa_cons pe_int (pa_cons pe_int (pa_cons pe_int (pa_cons pe_int pa_nil))))))))) (pe_op op_sub (pe_ix (r := rIxT K) ix_tup (pv 0) pe_int (fun _ _ => rfl)) pe_int) (fun _ _ => rfl)))), ?_⟩
    obtain ⟨a, rfl, ha⟩ := fab_inv hv
    refine ⟨by show 8 ≤ sizeLine; decide, fun L nL => ?_⟩
    have s1 := same_new (o := .lst (vn [3, 4, 4, 5, 5, 5, 5, 6])) nL
    refine ⟨_, rfl, a, _, 3, _, rfl, rfl, SqT.of (s1 _ _ ha), atI_nat (j := 3) rfl, _, _, rfl, rfl, L, _, _, _, rfl, rfl, SqL.of upd_same, ?_, q _ s1⟩
    rw [show ((f.t : Nat) : Int) - 1 = ((f.t - 1 : Nat) : Int) by omega]
    refine atI_nat ?_
    generalize f.t = t at t0 t1
    have : t = 1 ∨ t = 2 ∨ t = 3 ∨ t = 4 ∨ t = 5 ∨ t = 6 ∨ t = 7 ∨ t = 8 := by omega
    rcases this with rfl | rfl | rfl | rfl | rfl | rfl | rfl | rfl <;> decide

end K57
namespace K57
open PySem PySem.Spec PyProof.Rows L2 V0
/-! ### the draws -/
def sp__law_draws (K : PySem.W.Frag) : Sp := fun vs H Q _ => ∃ (a : Addr) (ns : List Int), vs = [.ref a] ∧ SqL K H a (ns.map V.int) ∧ ns.length ≤ 63 ∧ ∀ H' p c, Same H H' → H p = none → Dw H' p c → Q (.ref p) H'
theorem ok__law_draws {P : Program} {w : World} {K : PySem.W.Frag} {mg : Str → Option Value} {base : Heap} {C_BitsError fI_BitsError : Addr} {fd_BitsError : FuncData} {B_ : Addr} {mc_ : Value} {O_FitError : Addr} {O_TextError : Addr} {tk_MOST_PLACES : Tok} {tk_MOST_TRACKS : Tok} {tk_MOST_PINS : Tok} {tk_MOST_ENDS : Tok} {tk_HEAD_BITS : Tok} {tk_END_BITS : Tok} {tk_SUM_BITS : Tok} {tk_DRIVE_BITS : Tok} {a_HEAD : Addr} {a_END : Addr} {a_STEPS_0 : Addr} {a_STEPS_1 : Addr} {a_STEPS_2 : Addr} {a_STEPS_3 : Addr} {a_STEPS : Addr} {f  : Addr} {fd  : FuncData} (F : Fun K "_law_draws" "_law_draws" s__law_draws f fd) (T : Txt K mg C_BitsError fI_BitsError fd_BitsError B_ mc_ O_FitError O_TextError tk_MOST_PLACES tk_MOST_TRACKS tk_MOST_PINS tk_MOST_ENDS tk_HEAD_BITS tk_END_BITS tk_SUM_BITS tk_DRIVE_BITS a_HEAD a_END a_STEPS_0 a_STEPS_1 a_STEPS_2 a_STEPS_3 a_STEPS) :
    FnOk P w K mg base CX0 1 f fd ["script"] (sp__law_draws K) := by
  refine F.ok sc_law_draws (fun vs H Q E h => ?_) (fun cdv A outer s H vs Q E hr h => ?_)
  · obtain ⟨a, ns, rfl, _⟩ := h
    rfl
  · obtain ⟨a, ns, rfl, hS, hl, q⟩ := h
    refine ⟨_, (pss_one (ps_ret (pe_lst (pa_cons (pe_callTy call_list_of (by rfl) T.m_list (by decide +kernel) (pa_cons (pv 0) pa_nil)) (pa_cons pe_int (pa_cons pe_int (pa_cons pe_int pa_nil))))))), ?_⟩
    refine ⟨_, rfl, a, _, rfl, .inl hS, fun c nc => ⟨by show 4 ≤ sizeLine; decide, fun p np => ?_⟩⟩
    have s1 := same_new (o := .lst (ns.map V.int)) nc
    have e1 : (upd H c (.lst (ns.map V.int))) c = some (.lst (vi ns)) := upd_same
    have ncp : c ≠ p := ne_of_none e1 np
    exact q _ p c (s1.trans (same_new np)) (none_of s1 np) ⟨ncp.symm, ns, 0, 0, 1, upd_same, (by rw [upd_ne ncp]; exact e1), hl, by decide⟩
def sp__law_draw (K : PySem.W.Frag) : Sp := fun vs H Q _ => ∃ (p c : Addr) (n : Nat), vs = [.ref p, .int (n : Nat)] ∧ Dw H p c ∧ 0 < n ∧ n < 2 ^ 64 ∧ ∀ H' (d : Nat), Gw p c H H' → d < n → Q (.int (d : Nat)) H'
theorem ok__law_draw {P : Program} {w : World} {K : PySem.W.Frag} {mg : Str → Option Value} {base : Heap} {C_BitsError fI_BitsError : Addr} {fd_BitsError : FuncData} {B_ : Addr} {mc_ : Value} {O_FitError : Addr} {O_TextError : Addr} {tk_MOST_PLACES : Tok} {tk_MOST_TRACKS : Tok} {tk_MOST_PINS : Tok} {tk_MOST_ENDS : Tok} {tk_HEAD_BITS : Tok} {tk_END_BITS : Tok} {tk_SUM_BITS : Tok} {tk_DRIVE_BITS : Tok} {a_HEAD : Addr} {a_END : Addr} {a_STEPS_0 : Addr} {a_STEPS_1 : Addr} {a_STEPS_2 : Addr} {a_STEPS_3 : Addr} {a_STEPS : Addr} {f  : Addr} {fd  : FuncData} (F : Fun K "_law_draw" "_law_draw" s__law_draw f fd) (T : Txt K mg C_BitsError fI_BitsError fd_BitsError B_ mc_ O_FitError O_TextError tk_MOST_PLACES tk_MOST_TRACKS tk_MOST_PINS tk_MOST_ENDS tk_HEAD_BITS tk_END_BITS tk_SUM_BITS tk_DRIVE_BITS a_HEAD a_END a_STEPS_0 a_STEPS_1 a_STEPS_2 a_STEPS_3 a_STEPS) :
    FnOk P w K mg base CX0 1 f fd ["draws", "limit"] (sp__law_draw K) := by
  refine F.ok sc_law_draw (fun vs H Q E h => ?_) (fun cdv A outer s H vs Q E hr h => ?_)
  · obtain ⟨p, c, n, rfl, _⟩ := h
    rfl
  · obtain ⟨p, c, n, rfl, dw, h0, h1, q⟩ := h
    obtain ⟨npc, xs, i0, b0, z0, hp0, hc0, hl, hz0⟩ := id dw
    obtain ⟨ST, hST⟩ : ∃ ST : Nat → Nat → Nat → Hp, ST = fun i b z => upd H p (.lst [.ref c, .int (i : Nat), .int (b : Nat), .int (z : Nat)]) := ⟨_, rfl⟩
    have hp : ∀ i b z, ST i b z p = some (.lst [.ref c, .int (i : Nat), .int (b : Nat), .int (z : Nat)]) := fun i b z => by rw [hST]; exact upd_same
    have hc : ∀ i b z, ST i b z c = some (.lst (vi xs)) := fun i b z => by rw [hST]; show upd H p _ c = _; rw [upd_ne (Ne.symm npc)]; exact hc0
    have st0 : H = ST i0 b0 z0 := by rw [hST]; exact (upd_id hp0).symm
    have su : ∀ i b z i' b' z', upd (ST i b z) p (.lst [.ref c, .int (i' : Nat), .int (b' : Nat), .int (z' : Nat)]) = ST i' b' z' := fun i b z i' b' z' => by rw [hST]; exact upd_upd
    have go : ∀ i b z, z < 2147483647 → Gw p c H (ST i b z) := fun i b z hz => ⟨dw, ⟨npc, xs, i, b, z, hp i b z, hc i b z, hl, hz⟩, by rw [hST]; exact hid_mut⟩
    have nz : ((n : Nat) : Int) ≠ 0 := by omega
    have fm : ∀ x : Int, ∃ d : Nat, x.fmod (n : Nat) = (d : Int) ∧ d < n := fun x => by
      have h := emod_range (x := x) (show (0 : Int) < (n : Nat) by omega)
      exact ⟨(x.fmod (n : Nat)).toNat, by omega, by omega⟩
    refine ⟨_, (C8.pss_cut (ps_if (PW.pt (pw_and (pt_cmpR op_eq (pe_ix (r := rIxL K) ix_list (pv 0) pe_int (fun _ _ => rfl)) pe_int (nomark _)) (pw_and1 (pt_cmpR op_lt (pe_ix (r := rIxL K) ix_list (pv 0) pe_int (fun _ _ => rfl)) (pe_callB call_len_seq (by rfl) T.m_len (by decide +kernel) (pa_cons (pe_ix (r := rIxL K) ix_list (pv 0) pe_int (fun _ _ => rfl)) pa_nil)) (nomark _))))) (pss_cons (ps_set (i := 2) sc_law_draw.nd rfl (.inl rfl) (pe_ix (r := rIxL K) ix_list (pe_ix (r := rIxL K) ix_list (pv 0) pe_int (fun _ _ => rfl)) (pe_ix (r := rIxL K) ix_list (pv 0) pe_int (fun _ _ => rfl)) (fun _ _ => rfl)))
      (pss_cons (ps_asg (pe_op op_add (pe_ix (r := rIxL K) ix_list (pv 0) pe_int (fun _ _ => rfl)) pe_int) (pg_sub (pv 0) pe_int set_list))
      (C8.pss_cut (ps_if (pt_cmpR op_ge (pv 2) (pe_op op_pow pe_int pe_int) (nomark _)) (pss_one (ps_asg (pv 2) (pg_sub (pv 0) pe_int set_list))) pss_nil)
      (pss_one (ps_asg (pe_op op_modN (pe_callTy call_int1 (by rfl) T.m_int (by decide +kernel) (pa_cons (pe_op op_add (pe_op op_add (pe_op op_mul (pe_ix (r := rIxL K) ix_list (pv 0) pe_int (fun _ _ => rfl)) pe_int) (pv 2)) pe_int) pa_nil)) pe_int) (pg_sub (pv 0) pe_int set_list)))))) pss_nil)
      (pss_cons (ps_if (pt_cmpR op_gt (pe_ix (r := rIxL K) ix_list (pv 0) pe_int (fun _ _ => rfl)) pe_int (nomark _)) (pss_cons (ps_set (i := 3) sc_law_draw.nd rfl (.inl rfl) (pe_op op_modN (pe_callTy call_int1 (by rfl) T.m_int (by decide +kernel) (pa_cons (pe_ix (r := rIxL K) ix_list (pv 0) pe_int (fun _ _ => rfl)) pa_nil)) (pv 1)))
      (pss_cons (ps_asg (pe_op op_fdivW (pe_ix (r := rIxL K) ix_list (pv 0) pe_int (fun _ _ => rfl)) (pv 1)) (pg_sub (pv 0) pe_int set_list))
      (pss_one (ps_ret (pv 3))))) pss_nil)
      (pss_cons (ps_asg (pe_op op_modN (pe_callTy call_int1 (by rfl) T.m_int (by decide +kernel) (pa_cons (pe_op op_add (pe_op op_mul (pe_ix (r := rIxL K) ix_list (pv 0) pe_int (fun _ _ => rfl)) pe_int) pe_int) pa_nil)) pe_int) (pg_sub (pv 0) pe_int set_list))
      (pss_one (ps_ret (pe_op op_modN (pe_callTy call_int1 (by rfl) T.m_int (by decide +kernel) (pa_cons (pe_op op_fdivN (pe_ix (r := rIxL K) ix_list (pv 0) pe_int (fun _ _ => rfl)) pe_int) pa_nil)) (pv 1))))))), ?_⟩
    refine ⟨fun σ H' => ∃ (y2 : Option V) (i b z : Nat), σ = [some (.ref p), some (.int (n : Nat)), y2, none] ∧ H' = ST i b z ∧ z < 2147483647, ?_, ?_⟩
    · rw [st0]
      refine ⟨_, rfl, p, _, 2, _, rfl, rfl, SqL.of (hp _ _ _), atI_nat (j := 2) rfl, rfl, _, rfl, ?_⟩
      rw [show decide (V.int (b0 : Int) = V.int 0) = decide (b0 = 0) from dec_nat _ 0]
      by_cases hb : b0 = 0
      · rw [decide_eq_true hb]
        refine iteT ⟨_, rfl, p, _, 1, _, rfl, rfl, SqL.of (hp _ _ _), atI_nat (j := 1) rfl, _, rfl, p, _, 0, _, rfl, rfl, SqL.of (hp _ _ _), atI_nat (j := 0) rfl, c, _, rfl, .inl (SqL.of (hc _ _ _)), _, _, rfl, rfl, _, rfl, ?_⟩
        by_cases hi : i0 < xs.length
        · rw [decide_eq_true (show ((i0 : Nat) : Int) < (((vi xs).length : Nat) : Int) by rw [List.length_map]; omega)]
          have ex : (vi xs)[i0]? = some (.int xs[i0]) := by
            unfold vi
            rw [List.getElem?_map, List.getElem?_eq_getElem hi]
            rfl
          refine iteT ⟨_, rfl, p, _, 0, _, rfl, rfl, SqL.of (hp _ _ _), atI_nat (j := 0) rfl, _, rfl, p, _, 1, _, rfl, rfl, SqL.of (hp _ _ _), atI_nat (j := 1) rfl, c, _, _, _, rfl, rfl, SqL.of (hc _ _ _), atI_nat ex, ?_⟩
          generalize xs[i0] = cell
          refine ⟨_, rfl, p, _, 1, _, rfl, rfl, SqL.of (hp _ _ _), atI_nat (j := 1) rfl, _, _, rfl, rfl, _, rfl, p, _, 1, 1, rfl, rfl, hp _ _ _, rfl, ?_⟩
          rw [show upd (ST i0 b0 z0) p (.lst (([.ref c, .int (i0 : Nat), .int (b0 : Nat), .int (z0 : Nat)] : List V).set 1 (.int ((i0 : Nat) + 1 : Int)))) = ST (i0 + 1) b0 z0 from su _ _ _ _ _ _]
          refine ⟨fun σ H' => ∃ b : Nat, σ = [some (.ref p), some (.int (n : Nat)), some (.int cell), none] ∧ H' = ST (i0 + 1) b z0, ?_, ?_⟩
          · refine ⟨_, rfl, _, _, rfl, rfl, ⟨by decide, by decide, by decide⟩, _, _, rfl, rfl, _, rfl, ?_⟩
            simp only [ten18]
            refine ite2 (fun hge => ?_) (fun _ => ⟨_, rfl, rfl⟩)
            have hge : cell ≥ 1000000000000000000 := of_decide_eq_true hge
            refine ⟨_, rfl, _, rfl, p, _, 2, 2, rfl, rfl, hp _ _ _, rfl, ?_⟩
            refine ⟨cell.toNat, rfl, ?_⟩
            obtain ⟨cn, rfl⟩ : ∃ cn : Nat, cell = (cn : Int) := ⟨cell.toNat, by omega⟩
            exact su _ _ _ _ _ _
          · rintro σ H' ⟨b, rfl, rfl⟩
            have r := emod_range (x := (z0 : Int) * 48271 + cell + 13) (show (0 : Int) < 2147483647 by decide)
            refine ⟨_, rfl, p, _, 3, _, rfl, rfl, SqL.of (hp _ _ _), atI_nat (j := 3) rfl, _, _, rfl, rfl, .inl ⟨by omega, by omega⟩, _, rfl, _, _, rfl, rfl, _, _, rfl, rfl, .inl ⟨_, rfl, _, _, rfl, rfl, (show (2147483647 : Int) ≠ 0 by decide), _, rfl, p, _, 3, 3, rfl, rfl, hp _ _ _, rfl, ?_⟩⟩
            obtain ⟨y, hy⟩ : ∃ y : Nat, ((z0 : Int) * 48271 + cell + 13).fmod 2147483647 = (y : Int) := ⟨_, (Int.toNat_of_nonneg r.1).symm⟩
            refine ⟨_, i0 + 1, b, y, rfl, ?_, by omega⟩
            have e : upd (ST (i0 + 1) b z0) p (.lst (([.ref c, .int ((i0 + 1 : Nat) : Int), .int (b : Nat), .int (z0 : Nat)] : List V).set 3 (.int (((z0 : Int) * 48271 + cell + 13).fmod 2147483647)))) = ST (i0 + 1) b y := by
              rw [hy]
              exact su _ _ _ _ _ _
            exact e
        · rw [decide_eq_false (show ¬ ((i0 : Nat) : Int) < (((vi xs).length : Nat) : Int) by rw [List.length_map]; omega)]
          exact iteF ⟨_, _, _, _, rfl, rfl, hz0⟩
      · rw [decide_eq_false hb]
        exact iteF ⟨_, _, _, _, rfl, rfl, hz0⟩
    · rintro σ H' ⟨y2, i, b, z, rfl, rfl, hz⟩
      refine ⟨_, rfl, p, _, 2, _, rfl, rfl, SqL.of (hp _ _ _), atI_nat (j := 2) rfl, _, _, rfl, rfl, _, rfl, ?_⟩
      by_cases hb : 0 < b
      · rw [decide_eq_true (show ((b : Nat) : Int) > 0 by omega)]
        obtain ⟨d, hd, hdn⟩ := fm (b : Nat)
        refine iteT ⟨_, rfl, p, _, 2, _, rfl, rfl, SqL.of (hp _ _ _), atI_nat (j := 2) rfl, .inl ⟨_, rfl, _, rfl, _, _, rfl, rfl, nz, ?_⟩⟩
        simp only [hd]
        refine ⟨_, rfl, p, _, 2, _, rfl, rfl, SqL.of (hp _ _ _), atI_nat (j := 2) rfl, _, rfl, _, _, rfl, rfl, wide_div (b := 64) (by omega) (by rw [Int.natAbs_natCast]; exact h1) (by decide) (by decide), _, rfl, p, _, 2, 2, rfl, rfl, hp _ _ _, rfl, ?_⟩
        refine ⟨_, rfl, ?_⟩
        have e : upd (ST i b z) p (.lst (([.ref c, .int (i : Nat), .int (b : Nat), .int (z : Nat)] : List V).set 2 (.int ((b : Int) / (n : Int))))) = ST i (b / n) z := su _ _ _ _ _ _
        exact q _ d (e ▸ go _ _ _ hz) hdn
      · rw [decide_eq_false (show ¬ ((b : Nat) : Int) > 0 by omega)]
        have r := emod_range (x := (z : Int) * 69621 + 7) (show (0 : Int) < 2147483629 by decide)
        refine iteF ⟨_, rfl, p, _, 3, _, rfl, rfl, SqL.of (hp _ _ _), atI_nat (j := 3) rfl, _, _, rfl, rfl, .inl ⟨by omega, by omega⟩, _, _, rfl, rfl, .inl ⟨_, rfl, _, _, rfl, rfl, (show (2147483629 : Int) ≠ 0 by decide), _, rfl, p, _, 3, 3, rfl, rfl, hp _ _ _, rfl, ?_⟩⟩
        obtain ⟨y, hy⟩ : ∃ y : Nat, ((z : Int) * 69621 + 7).fmod 2147483629 = (y : Int) := ⟨_, (Int.toNat_of_nonneg r.1).symm⟩
        have e : upd (ST i b z) p (.lst (([.ref c, .int (i : Nat), .int (b : Nat), .int (z : Nat)] : List V).set 3 (.int (((z : Int) * 69621 + 7).fmod 2147483629)))) = ST i b y := by
          rw [hy]
          exact su _ _ _ _ _ _
        rw [show upd (ST i b z) p (.lst (([.ref c, .int (i : Nat), .int (b : Nat), .int (z : Nat)] : List V).set 3 (.int (((z : Int) * 69621 + 7).fmod 2147483629)))) = ST i b y from e]
        obtain ⟨d, hd, hdn⟩ := fm ((y : Int).fdiv 11)
        refine ⟨_, rfl, p, _, 3, _, rfl, rfl, SqL.of (hp _ _ _), atI_nat (j := 3) rfl, _, _, rfl, rfl, ⟨by decide, by decide⟩, .inl ⟨_, rfl, _, rfl, _, _, rfl, rfl, nz, ?_⟩⟩
        simp only [hd]
        exact q _ d (go _ _ _ (by omega)) hdn

end K57
namespace K57
open PySem PySem.Spec PyProof.Rows L2 V0
/-! ### drawn fabrics -/
def sp__law_fabric (K : PySem.W.Frag) : Sp := fun ws H Q _ => ∃ (p c : Addr) (M : Nat), ws = [.ref p, .int (M : Nat)] ∧ 1 ≤ M ∧ M ≤ 12 ∧ Dw H p c ∧ ∀ H' t (f : Fab), Gw p c H H' → H t = none → H' t = some (.tup f.its) → FabOk f → Q (.ref t) H'
theorem pickB (a b k : Nat) : ∃ n : Nat, atI ([V.int (a : Nat), .int (b : Nat)] : List V) (if decide (V.int ((k : Nat) : Int) = V.int 0) = true then 1 else 0) = some (.int (n : Nat)) ∧ (n = a ∨ n = b) := by
  split
  · exact ⟨b, atI_nat (j := 1) rfl, .inr rfl⟩
  · exact ⟨a, atI_nat (j := 0) rfl, .inl rfl⟩
theorem ok__law_fabric {P : Program} {w : World} {K : PySem.W.Frag} {mg : Str → Option Value} {base : Heap} {C_BitsError fI_BitsError : Addr} {fd_BitsError : FuncData} {B_ : Addr} {mc_ : Value} {O_FitError : Addr} {O_TextError : Addr} {tk_MOST_PLACES : Tok} {tk_MOST_TRACKS : Tok} {tk_MOST_PINS : Tok} {tk_MOST_ENDS : Tok} {tk_HEAD_BITS : Tok} {tk_END_BITS : Tok} {tk_SUM_BITS : Tok} {tk_DRIVE_BITS : Tok} {a_HEAD : Addr} {a_END : Addr} {a_STEPS_0 : Addr} {a_STEPS_1 : Addr} {a_STEPS_2 : Addr} {a_STEPS_3 : Addr} {a_STEPS : Addr} {f f_law_draw : Addr} {fd fd_law_draw : FuncData} (F : Fun K "_law_fabric" "_law_fabric" s__law_fabric f fd) (T : Txt K mg C_BitsError fI_BitsError fd_BitsError B_ mc_ O_FitError O_TextError tk_MOST_PLACES tk_MOST_TRACKS tk_MOST_PINS tk_MOST_ENDS tk_HEAD_BITS tk_END_BITS tk_SUM_BITS tk_DRIVE_BITS a_HEAD a_END a_STEPS_0 a_STEPS_1 a_STEPS_2 a_STEPS_3 a_STEPS)
    (G__law_draw : FnOk P w K mg base CX0 1 f_law_draw fd_law_draw ["draws", "limit"] (sp__law_draw K)) (D__law_draw : Def K mg "_law_draw" f_law_draw fd_law_draw ["draws", "limit"]) :
    FnOk P w K mg base CX0 2 f fd ["draws", "most"] (sp__law_fabric K) := by
  refine F.ok sc_law_fabric (fun vs H Q E h => ?_) (fun cdv A outer s H vs Q E hr h => ?_)
  · obtain ⟨p, c, M, rfl, _⟩ := h
    rfl
  · obtain ⟨p, c, M, rfl, M1, M12, d0, q⟩ := h
    refine ⟨_, (pss_cons (ps_set (i := 2) sc_law_fabric.nd rfl (.inl rfl) (pe_op op_add pe_int (pe_call G__law_draw (hr.mono (by omega)) (by rfl) D__law_draw.m D__law_draw.k D__law_draw.b .nil pass0 (pa_cons (pv 0) (pa_cons (pe_ix (r := rIxL K) ix_list (pe_lst (pa_cons (pv 1) (pa_cons pe_int pa_nil))) (pe_callTy call_int1 (by rfl) T.m_int (by decide +kernel) (pa_cons (pe_cmpR op_eq (pe_call G__law_draw (hr.mono (by omega)) (by rfl) D__law_draw.m D__law_draw.k D__law_draw.b .nil pass0 (pa_cons (pv 0) (pa_cons pe_int pa_nil))) pe_int (nomark _)) pa_nil)) (fun _ _ => rfl)) pa_nil)))))
      (pss_cons (ps_set (i := 3) sc_law_fabric.nd rfl (.inl rfl) (pe_op op_add pe_int (pe_call G__law_draw (hr.mono (by omega)) (by rfl) D__law_draw.m D__law_draw.k D__law_draw.b .nil pass0 (pa_cons (pv 0) (pa_cons (pe_callB (call_min2 (by rfl)) (by rfl) T.m_min (by decide +kernel) (pa_cons (pv 1) (pa_cons (pe_op op_add pe_int (pe_op op_fdivN pe_int (pv 2))) pa_nil))) pa_nil)))))
      (pss_one (ps_ret (pe_tup (pa_cons pe_str (pa_cons (pv 2) (pa_cons (pv 3) (pa_cons (pe_op op_add pe_int (pe_call G__law_draw (hr.mono (by omega)) (by rfl) D__law_draw.m D__law_draw.k D__law_draw.b .nil pass0 (pa_cons (pv 0) (pa_cons (pe_ix (r := rIxL K) ix_list (pe_lst (pa_cons pe_int (pa_cons pe_int pa_nil))) (pe_callTy call_int1 (by rfl) T.m_int (by decide +kernel) (pa_cons (pe_cmpR op_eq (pe_call G__law_draw (hr.mono (by omega)) (by rfl) D__law_draw.m D__law_draw.k D__law_draw.b .nil pass0 (pa_cons (pv 0) (pa_cons pe_int pa_nil))) pe_int (nomark _)) pa_nil)) (fun _ _ => rfl)) pa_nil)))) (pa_cons (pe_op op_add pe_int (pe_call G__law_draw (hr.mono (by omega)) (by rfl) D__law_draw.m D__law_draw.k D__law_draw.b .nil pass0 (pa_cons (pv 0) (pa_cons pe_int pa_nil)))) pa_nil)))))))))), ?_⟩
    refine ⟨_, rfl, _, rfl, by show 2 ≤ sizeLine; decide, fun L nL => ⟨_, rfl, p, c, 12, rfl, d0.same (same_new nL), by decide, by decide, fun H1 k1 g1 hk1 => ?_⟩⟩
    have hL := g1.get (d0.off nL).1 upd_same
    obtain ⟨n1, e1, b1⟩ := pickB M 12 k1
    refine ⟨rfl, .inr ⟨_, rfl, L, _, _, _, rfl, rfl, SqL.of hL, e1, p, c, n1, rfl, g1.b, by omega, by omega, fun H2 x g2 hx => ⟨_, _, rfl, rfl, ?_⟩⟩⟩
    have G2 : Gw p c H H2 := (Gw.of d0 (same_new nL)).trans (g1.trans g2)
    obtain ⟨wd, hwd⟩ : ∃ wd : Nat, (1 : Int) + (x : Nat) = (wd : Nat) := ⟨1 + x, by omega⟩
    simp only [hwd]
    have fd0 : 0 ≤ (24 : Int).fdiv (wd : Nat) := by
      rw [Int.fdiv_eq_ediv_of_nonneg _ (by omega)]
      exact Int.ediv_nonneg (by decide) (by omega)
    obtain ⟨hn, ehn, hn1, hn4⟩ : ∃ hn : Nat, (if (1 : Int) + (24 : Int).fdiv (wd : Nat) < ((M : Nat) : Int) then (1 : Int) + (24 : Int).fdiv (wd : Nat) else ((M : Nat) : Int)) = (hn : Nat) ∧ 1 ≤ hn ∧ hn ≤ M := by
      split
      · exact ⟨((1 : Int) + (24 : Int).fdiv (wd : Nat)).toNat, by omega, by omega, by omega⟩
      · exact ⟨M, rfl, M1, Nat.le_refl _⟩
    refine ⟨_, rfl, _, rfl, _, rfl, _, _, rfl, rfl, ⟨by omega, by omega⟩, _, _, rfl, rfl, _, _, rfl, p, c, hn, congrArg (fun z => [V.ref p, .int z]) ehn, G2.b, by omega, by omega, fun H3 y g3 hy => ⟨_, _, rfl, rfl, ?_⟩⟩
    obtain ⟨hm, ehm⟩ : ∃ hm : Nat, (1 : Int) + (y : Nat) = (hm : Nat) := ⟨1 + y, by omega⟩
    simp only [ehm]
    have G3 := G2.trans g3
    refine ⟨_, rfl, _, rfl, _, rfl, by show 2 ≤ sizeLine; decide, fun L2 nL2 => ⟨_, rfl, p, c, 8, rfl, G3.b.same (same_new nL2), by decide, by decide, fun H4 k4 g4 hk4 => ?_⟩⟩
    have hL2 := g4.get (G3.b.off nL2).1 upd_same
    obtain ⟨n4, e4, b4⟩ := pickB 3 8 k4
    refine ⟨rfl, .inr ⟨_, rfl, L2, _, _, _, rfl, rfl, SqL.of hL2, e4, p, c, n4, rfl, g4.b, by omega, by omega, fun H5 x5 g5 hx5 => ⟨_, _, rfl, rfl, _, rfl, p, c, 4, rfl, g5.b, by decide, by decide, fun H6 x6 g6 hx6 => ⟨_, _, rfl, rfl, by show 5 ≤ sizeLine; decide, fun t nt => ?_⟩⟩⟩⟩
    have G6 : Gw p c H H6 := ((G3.more (same_new nL2)).trans g4).trans (g5.trans g6)
    refine q _ t ⟨wd, hm, 1 + x5, 1 + x6⟩ (G6.more (same_new nt)) (G6.none nt) ?_ ⟨by show 1 ≤ wd; omega, by show wd ≤ 12; omega, by show 1 ≤ hm; omega, by show hm ≤ 12; omega, by show 1 ≤ 1 + x5; omega, by show 1 + x5 ≤ 8; omega, by show 1 ≤ 1 + x6; omega, by show 1 + x6 ≤ 4; omega⟩
    rw [upd_same]
    unfold Fab.its
    rw [show ((1 + x5 : Nat) : Int) = (1 : Int) + (x5 : Nat) by omega, show ((1 + x6 : Nat) : Int) = (1 : Int) + (x6 : Nat) by omega]

end K57
namespace K57
open PySem PySem.Spec PyProof.Rows L2 V0
/-! ### drawn settings -/
/-- a comprehension whose turns draw numbers -/
theorem lcDn {p c D : Addr} {H1 : Hp} {n : Nat} {g : TG} {te : TE} {vs : List Nat} {σ : L2.St} {Qd : Hp → Prop} (P : Nat → Prop) (d : Dw H1 p c) (nD : H1 D = none) (few : n ≤ 60000)
    (step : ∀ j Hz (Q : VK), j < n → Gw p c H1 Hz → (∀ H4 (y : Nat), Gw p c Hz H4 → P y → Q (.int (y : Nat)) H4) → g (.int ((0 : Int) + (j : Nat))) (wipe σ vs) Hz fun σ2 H2 => wipe σ2 vs = wipe σ vs ∧ te σ2 H2 Q)
    (hd : ∀ (H' : Hp) (bs : List Nat), Gw p c H1 H' → H' D = some (.lst (vn bs)) → bs.length = n → (∀ b ∈ bs, P b) → Qd H') :
    ∃ W : Nat → Nat → Hp → Prop, (∃ m, W 0 m (upd H1 D (.lst []))) ∧ ∀ i m H, W i m H →
      ((Itr 0 n).stop i H ∧ Qd H) ∨ ((Itr 0 n).go i H ∧ ∃ Nx : Hp → Prop, (∀ H', Nx H' → ∃ m', m' < m ∧ W (i + 1) m' H') ∧ ∀ x H', (Itr 0 n).yld i H x H' → g x (wipe σ vs) H' fun σ2 H2 => wipe σ2 vs = wipe σ vs ∧ tYes σ2 H2 fun b H3 =>
        if b = true then te σ2 H3 fun y H4 => ∃ acc, H4 D = some (.lst acc) ∧ acc.length < sizeLine ∧ Nx (upd H4 D (.lst (acc ++ [y]))) else Nx H3) := by
  refine lc_range (tt := tYes) (fun j Hz => Gw p c H1 Hz ∧ ∃ bs : List Nat, Hz D = some (.lst (vn bs)) ∧ bs.length = j ∧ ∀ b ∈ bs, P b) ⟨Gw.mut (Gw.refl d) nD, [], upd_same, rfl, fun b h => (by cases h)⟩ ?_ ?_
  · rintro j Hz hj ⟨gz, bs, hD, lb, bb⟩
    refine step j Hz _ hj gz fun H4 y g4 py => ⟨_, g4.get (d.off nD).1 hD, ?_, (gz.trans g4).mut nD, bs ++ [y], ?_, by rw [List.length_append, lb]; rfl, fun z hz => ?_⟩
    · rw [vn_len, lb]
      exact small64k (by omega)
    · rw [upd_same, vn_snoc]
    · rcases List.mem_append.mp hz with hz | hz
      · exact bb z hz
      · rw [List.mem_singleton.mp hz]
        exact py
  · rintro H' ⟨g', bs, hD, lb, bb⟩
    exact hd H' bs g' hD lb bb
theorem mul_bool (a : Nat) (k : Bool) : ∃ n : Nat, ((a : Nat) : Int) * (if k = true then 1 else 0) = ((n : Nat) : Int) ∧ n ≤ a := by
  cases k
  · exact ⟨0, by simp, Nat.zero_le _⟩
  · exact ⟨a, by simp, Nat.le_refl _⟩
def sp__law_setting (K : PySem.W.Frag) : Sp := fun ws H Q _ => ∃ (p c fa : Addr) (f : Fab), ws = [.ref p, .ref fa] ∧ Dw H p c ∧ H fa = some (.tup f.its) ∧ FabOk f ∧ ∀ H' t b d (s : Sett), Gw p c H H' → H t = none → H b = none → H d = none → H' t = some (.tup [.str "setting", .int (s.table : Nat), .int (s.kept : Nat), .int (s.start : Nat), .ref b, .ref d]) → H' b = some (.lst (vn s.taps)) → H' d = some (.lst (vn s.drv)) → SettOk f s → Q (.ref t) H'
theorem dw_its_ne {H : Hp} {p c b : Addr} {xs : List V} (h : Dw H p c) (e : H b = some (.tup xs)) : b ≠ p := fun z => by
  obtain ⟨_, ys, i, b', z', e1, _⟩ := h
  rw [z, e1] at e
  cases e
theorem ok__law_setting {P : Program} {w : World} {K : PySem.W.Frag} {mg : Str → Option Value} {base : Heap} {C_BitsError fI_BitsError : Addr} {fd_BitsError : FuncData} {B_ : Addr} {mc_ : Value} {O_FitError : Addr} {O_TextError : Addr} {tk_MOST_PLACES : Tok} {tk_MOST_TRACKS : Tok} {tk_MOST_PINS : Tok} {tk_MOST_ENDS : Tok} {tk_HEAD_BITS : Tok} {tk_END_BITS : Tok} {tk_SUM_BITS : Tok} {tk_DRIVE_BITS : Tok} {a_HEAD : Addr} {a_END : Addr} {a_STEPS_0 : Addr} {a_STEPS_1 : Addr} {a_STEPS_2 : Addr} {a_STEPS_3 : Addr} {a_STEPS : Addr} {f f_law_draw : Addr} {fd fd_law_draw : FuncData} (F : Fun K "_law_setting" "_law_setting" s__law_setting f fd) (T : Txt K mg C_BitsError fI_BitsError fd_BitsError B_ mc_ O_FitError O_TextError tk_MOST_PLACES tk_MOST_TRACKS tk_MOST_PINS tk_MOST_ENDS tk_HEAD_BITS tk_END_BITS tk_SUM_BITS tk_DRIVE_BITS a_HEAD a_END a_STEPS_0 a_STEPS_1 a_STEPS_2 a_STEPS_3 a_STEPS)
    (G__law_draw : FnOk P w K mg base CX0 1 f_law_draw fd_law_draw ["draws", "limit"] (sp__law_draw K)) (D__law_draw : Def K mg "_law_draw" f_law_draw fd_law_draw ["draws", "limit"]) :
    FnOk P w K mg base CX0 2 f fd ["draws", "fabric"] (sp__law_setting K) := by
  refine F.ok sc_law_setting (fun vs H Q E h => ?_) (fun cdv A outer s0 H vs Q E hr h => ?_)
  · obtain ⟨p, c, fa, f, rfl, _⟩ := h
    rfl
  · obtain ⟨p, c, fa, f, rfl, d0, hfa, ok, q⟩ := h
    refine ⟨_, (pss_cons (ps_setLc (i := 2) (own := [("k", 4)]) (g := gName 4) (tt := tYes) rfl sc_law_setting.nd rfl rfl (sw_true rfl rfl rfl (by decide +kernel)) (pi_range1 rfl T.m_range (pa_cons (pe_ix (r := rIxT K) ix_tup (pv 1) pe_int (fun _ _ => rfl)) pa_nil)) (blkOk_by (N := N__law_setting) (sc := defScope s__law_setting) (by decide +kernel)) (fun _ _ _ _ _ => (pg_name (i := 4) sc_law_setting.nd rfl (Or.inl rfl))) (fun _ _ _ _ _ => pts_nil) (fun _ _ _ _ _ => (pe_op op_mul (pe_call G__law_draw (hr.mono (by omega)) (by rfl) D__law_draw.m D__law_draw.k D__law_draw.b .nil pass0 (pa_cons (pv 0) (pa_cons (pe_op op_add (pe_op op_mul pe_int (pe_ix (r := rIxT K) ix_tup (pv 1) pe_int (fun _ _ => rfl))) pe_int) pa_nil))) (pe_callTy call_int1 (by rfl) T.m_int (by decide +kernel) (pa_cons (pe_cmpR op_gt (pe_call G__law_draw (hr.mono (by omega)) (by rfl) D__law_draw.m D__law_draw.k D__law_draw.b .nil pass0 (pa_cons (pv 0) (pa_cons pe_int pa_nil))) pe_int (nomark _)) pa_nil)))))
      (pss_cons (ps_setLc (i := 3) (own := [("k", 4)]) (g := gName 4) (tt := tYes) rfl sc_law_setting.nd rfl rfl (sw_true rfl rfl rfl (by decide +kernel)) (pi_range1 rfl T.m_range (pa_cons (pe_op op_mul pe_int (pe_ix (r := rIxT K) ix_tup (pv 1) pe_int (fun _ _ => rfl))) pa_nil)) (blkOk_by (N := N__law_setting) (sc := defScope s__law_setting) (by decide +kernel)) (fun _ _ _ _ _ => (pg_name (i := 4) sc_law_setting.nd rfl (Or.inl rfl))) (fun _ _ _ _ _ => pts_nil) (fun _ _ _ _ _ => (pe_op op_mul (pe_call G__law_draw (hr.mono (by omega)) (by rfl) D__law_draw.m D__law_draw.k D__law_draw.b .nil pass0 (pa_cons (pv 0) (pa_cons pe_int pa_nil))) (pe_callTy call_int1 (by rfl) T.m_int (by decide +kernel) (pa_cons (pe_cmpR op_gt (pe_call G__law_draw (hr.mono (by omega)) (by rfl) D__law_draw.m D__law_draw.k D__law_draw.b .nil pass0 (pa_cons (pv 0) (pa_cons pe_int pa_nil))) pe_int (nomark _)) pa_nil)))))
      (pss_one (ps_ret (pe_tup (pa_cons pe_str (pa_cons (pe_call G__law_draw (hr.mono (by omega)) (by rfl) D__law_draw.m D__law_draw.k D__law_draw.b .nil pass0 (pa_cons (pv 0) (pa_cons (pe_ix (r := rIxL K) ix_list (pe_lst (pa_cons pe_int (pa_cons pe_int (pa_cons pe_int (pa_cons pe_int pa_nil))))) (pe_op op_sub (pe_ix (r := rIxT K) ix_tup (pv 1) pe_int (fun _ _ => rfl)) pe_int) (fun _ _ => rfl)) pa_nil))) (pa_cons (pe_call G__law_draw (hr.mono (by omega)) (by rfl) D__law_draw.m D__law_draw.k D__law_draw.b .nil pass0 (pa_cons (pv 0) (pa_cons pe_int pa_nil))) (pa_cons (pe_call G__law_draw (hr.mono (by omega)) (by rfl) D__law_draw.m D__law_draw.k D__law_draw.b .nil pass0 (pa_cons (pv 0) (pa_cons pe_int pa_nil))) (pa_cons (pv 2) (pa_cons (pv 3) pa_nil))))))))))), ?_⟩
    have p1 := ok.p1
    have p0 := ok.p0
    have t1 := ok.t1
    have et : (4 : Int) * ((f.t : Nat) : Int) = ((4 * f.t : Nat) : Int) := by omega
    refine ⟨_, rfl, fa, _, 4, _, rfl, rfl, SqT.of hfa, atI_nat (j := 4) rfl, _, rfl, by omega, by omega, fun D nD => lcDn (n := f.p) (fun x => x ≤ f.tapMost) d0 nD (by omega) (fun j Hz Q' hj gz q' => ?_) fun H1 taps g1 hD l1 b1 => ?_⟩
    · have hz := gz.get (dw_its_ne d0 hfa) hfa
      refine ⟨rfl, _, rfl, _, rfl, fa, _, 3, _, rfl, rfl, SqT.of hz, atI_nat (j := 3) rfl, _, _, rfl, rfl, .inl ⟨by decide, by decide⟩, _, _, rfl, rfl, p, c, 4 * f.t + 2, congrArg (fun z => [V.ref p, .int z]) (by omega), gz.b, by omega, by omega, fun H2 a g2 ha => ⟨_, rfl, p, c, 3, rfl, g2.b, by decide, by decide, fun H3 b g3 hb => ⟨_, _, rfl, rfl, .inr ⟨_, rfl, _, _, rfl, rfl, .inl ⟨by omega, by omega⟩, ?_⟩⟩⟩⟩
      obtain ⟨n, en, ln⟩ := mul_bool a (decide (((b : Nat) : Int) > 0))
      have := q' _ n (g2.trans g3) (by unfold Fab.tapMost; omega)
      rw [← en] at this
      exact this
    have hfa1 := g1.get (dw_its_ne d0 hfa) hfa
    refine ⟨_, rfl, fa, _, 3, _, rfl, rfl, SqT.of hfa1, atI_nat (j := 3) rfl, _, _, rfl, rfl, .inl ⟨by decide, by decide⟩, _, congrArg (fun z => [V.int z]) et, by omega, by omega, fun D2 nD2 => lcDn (n := 4 * f.t) (fun x => x ≤ 5) g1.b nD2 (by omega) (fun j Hz Q' hj gz q' => ?_) fun H2 drv g2 hD2 l2 b2 => ?_⟩
    · refine ⟨rfl, _, rfl, p, c, 6, rfl, gz.b, by decide, by decide, fun H2 a g2 ha => ⟨_, rfl, p, c, 2, rfl, g2.b, by decide, by decide, fun H3 b g3 hb => ⟨_, _, rfl, rfl, .inr ⟨_, rfl, _, _, rfl, rfl, .inl ⟨by omega, by omega⟩, ?_⟩⟩⟩⟩
      obtain ⟨n, en, ln⟩ := mul_bool a (decide (((b : Nat) : Int) > 0))
      have := q' _ n (g2.trans g3) (by omega)
      rw [← en] at this
      exact this
    have G2 := g1.trans g2
    have hfa2 := g2.get (dw_its_ne g1.b hfa1) hfa1
    have Dp := (d0.off nD).1
    have D2p := (g1.b.off nD2).1
    have hD' := g2.get Dp hD
    obtain ⟨tn, etn, btn⟩ : ∃ tn : Nat, ([V.int 4, .int 16, .int 256, .int 65536] : List V)[f.p - 1]? = some (.int (tn : Nat)) ∧ tn = 2 ^ 2 ^ f.p := by
      have : f.p = 1 ∨ f.p = 2 ∨ f.p = 3 ∨ f.p = 4 := by omega
      rcases this with e | e | e | e <;> rw [e]
      · exact ⟨4, rfl, by decide⟩
      · exact ⟨16, rfl, by decide⟩
      · exact ⟨256, rfl, by decide⟩
      · exact ⟨65536, rfl, by decide⟩
    have tnb : 0 < tn ∧ tn ≤ 65536 := by
      have : f.p = 1 ∨ f.p = 2 ∨ f.p = 3 ∨ f.p = 4 := by omega
      rcases this with e | e | e | e <;> rw [e] at etn <;> cases etn <;> decide
    refine ⟨_, rfl, by show 4 ≤ sizeLine; decide, fun L nL => ?_⟩
    have gL := Gw.of G2.b (same_new (o := .lst [V.int 4, .int 16, .int 256, .int 65536]) nL)
    refine ⟨_, rfl, fa, _, 4, _, rfl, rfl, SqT.of (same_new nL _ _ hfa2), atI_nat (j := 4) rfl, _, _, rfl, rfl, L, _, _, _, rfl, rfl, SqL.of upd_same, (by rw [show ((f.p : Nat) : Int) - 1 = ((f.p - 1 : Nat) : Int) by omega]; exact atI_nat etn), p, c, tn, rfl, gL.b, tnb.1, by omega, fun H3 x3 g3 h3 => ⟨_, rfl, p, c, 2, rfl, g3.b, by decide, by decide, fun H4 x4 g4 h4 => ⟨_, rfl, p, c, 2, rfl, g4.b, by decide, by decide, fun H5 x5 g5 h5 => ⟨_, rfl, _, rfl, by show 6 ≤ sizeLine; decide, fun t nt => ?_⟩⟩⟩⟩
    have g25 := gL.trans (g3.trans (g4.trans g5))
    have st := same_new (o := .tup [V.str "setting", .int (x3 : Nat), .int (x4 : Nat), .int (x5 : Nat), .ref D, .ref D2]) nt
    have G5 := G2.trans g25
    exact q _ t D D2 ⟨x3, x4, x5, taps, drv⟩ (G5.more st) (G5.none nt) nD (g1.none nD2) upd_same (st _ _ (g25.get Dp hD')) (st _ _ (g25.get D2p hD2)) ⟨by show x3 < _; rw [← btn]; exact h3, h4, h5, l1, b1, l2, b2⟩

end K57
namespace K57
open PySem PySem.Spec PyProof.Rows L2 V0
/-! ### the sides of the border -/
structure SideAt (H : Hp) (f : Fab) (v : V) : Prop where
  ex : ∃ (t : Addr) (x y s : Nat), v = .ref t ∧ H t = some (.tup [.int (x : Nat), .int (y : Nat), .int (s : Nat)]) ∧ x < f.w ∧ y < f.h ∧ s < 4 ∧ Bord f x y s
theorem SideAt.same {H H' : Hp} {f : Fab} {v : V} (h : SideAt H f v) (e : Same H H') : SideAt H' f v := by
  obtain ⟨t, x, y, s, rfl, ht, r⟩ := h.ex
  exact ⟨t, x, y, s, rfl, e _ _ ht, r⟩
theorem SideAt.mut {H : Hp} {f : Fab} {v : V} {D : Addr} {us : List V} {o : HO} (h : SideAt H f v) (hD : H D = some (.lst us)) : SideAt (upd H D o) f v := by
  obtain ⟨t, x, y, s, rfl, ht, r⟩ := h.ex
  exact ⟨t, x, y, s, rfl, (upd_ne (fun e => by rw [e, hD] at ht; cases ht)).trans ht, r⟩
/-- the four sides that lie on the border, in the order of the sides -/
theorem side_ok {f : Fab} {x y s : Nat} (hx : x < f.w) (hy : y < f.h) (h : s < 4) (b : [decide (y = 0), decide (x + 1 = f.w), decide (y + 1 = f.h), decide (x = 0)][s]? = some true) : Bord f x y s := by
  have : s = 0 ∨ s = 1 ∨ s = 2 ∨ s = 3 := by omega
  unfold Bord sdx sdy
  rcases this with rfl | rfl | rfl | rfl
  · have := of_decide_eq_true (Option.some.inj b)
    simp only [if_true]
    omega
  · have := of_decide_eq_true (Option.some.inj b)
    simp
    omega
  · have := of_decide_eq_true (Option.some.inj b)
    simp
    omega
  · have := of_decide_eq_true (Option.some.inj b)
    simp
    omega
theorem side_no {f : Fab} {x y s : Nat} (hx : x < f.w) (hy : y < f.h) (h : s < 4) (b : [decide (y = 0), decide (x + 1 = f.w), decide (y + 1 = f.h), decide (x = 0)][s]? = some false) : ¬ Bord f x y s := by
  have : s = 0 ∨ s = 1 ∨ s = 2 ∨ s = 3 := by omega
  unfold Bord sdx sdy
  rcases this with rfl | rfl | rfl | rfl
  · have := of_decide_eq_false (Option.some.inj b)
    simp
    omega
  · have := of_decide_eq_false (Option.some.inj b)
    simp
    omega
  · have := of_decide_eq_false (Option.some.inj b)
    simp
    omega
  · have := of_decide_eq_false (Option.some.inj b)
    simp
    omega
/-- that side of that place stands among us -/
def HasSide (H : Hp) (us : List V) (x y s : Nat) : Prop := ∃ t, V.ref t ∈ us ∧ H t = some (.tup [.int (x : Nat), .int (y : Nat), .int (s : Nat)])
theorem HasSide.same {H H' : Hp} {us : List V} {x y s : Nat} (h : HasSide H us x y s) (e : Same H H') : HasSide H' us x y s := by
  obtain ⟨t, h1, h2⟩ := h
  exact ⟨t, h1, e _ _ h2⟩
theorem HasSide.mut {H : Hp} {us ws : List V} {x y s : Nat} {D : Addr} {o : HO} (h : HasSide H us x y s) (hD : H D = some (.lst ws)) : HasSide (upd H D o) us x y s := by
  obtain ⟨t, h1, h2⟩ := h
  exact ⟨t, h1, (upd_ne (fun e => by rw [e, hD] at h2; cases h2)).trans h2⟩
theorem HasSide.left {H : Hp} {us ws : List V} {x y s : Nat} (h : HasSide H us x y s) : HasSide H (us ++ ws) x y s := by
  obtain ⟨t, h1, h2⟩ := h
  exact ⟨t, List.mem_append_left _ h1, h2⟩
theorem HasSide.right {H : Hp} {us ws : List V} {x y s : Nat} (h : HasSide H us x y s) : HasSide H (ws ++ us) x y s := by
  obtain ⟨t, h1, h2⟩ := h
  exact ⟨t, List.mem_append_right _ h1, h2⟩
def sp__law_sides (K : PySem.W.Frag) : Sp := fun ws H Q _ => ∃ (fa : Addr) (f : Fab), ws = [.ref fa] ∧ H fa = some (.tup f.its) ∧ FabOk f ∧ ∀ H' l us, Same H H' → H l = none → H' l = some (.lst us) → us ≠ [] → us.length ≤ 1000 → (∀ v ∈ us, SideAt H' f v) → (∀ x y s, x < f.w → y < f.h → s < 4 → Bord f x y s → HasSide H' us x y s) → Q (.ref l) H'
theorem ok__law_sides {P : Program} {w : World} {K : PySem.W.Frag} {mg : Str → Option Value} {base : Heap} {C_BitsError fI_BitsError : Addr} {fd_BitsError : FuncData} {B_ : Addr} {mc_ : Value} {O_FitError : Addr} {O_TextError : Addr} {tk_MOST_PLACES : Tok} {tk_MOST_TRACKS : Tok} {tk_MOST_PINS : Tok} {tk_MOST_ENDS : Tok} {tk_HEAD_BITS : Tok} {tk_END_BITS : Tok} {tk_SUM_BITS : Tok} {tk_DRIVE_BITS : Tok} {a_HEAD : Addr} {a_END : Addr} {a_STEPS_0 : Addr} {a_STEPS_1 : Addr} {a_STEPS_2 : Addr} {a_STEPS_3 : Addr} {a_STEPS : Addr} {f  : Addr} {fd  : FuncData} (F : Fun K "_law_sides" "_law_sides" s__law_sides f fd) (T : Txt K mg C_BitsError fI_BitsError fd_BitsError B_ mc_ O_FitError O_TextError tk_MOST_PLACES tk_MOST_TRACKS tk_MOST_PINS tk_MOST_ENDS tk_HEAD_BITS tk_END_BITS tk_SUM_BITS tk_DRIVE_BITS a_HEAD a_END a_STEPS_0 a_STEPS_1 a_STEPS_2 a_STEPS_3 a_STEPS) :
    FnOk P w K mg base CX0 1 f fd ["fabric"] (sp__law_sides K) := by
  refine F.ok sc_law_sides (fun vs H Q E h => ?_) (fun cdv A outer s0 H vs Q E hr h => ?_)
  · obtain ⟨fa, f, rfl, _⟩ := h
    rfl
  · obtain ⟨fa, f, rfl, hfa, ok, q⟩ := h
    refine ⟨_, (pss_cons (ps_set (i := 1) sc_law_sides.nd rfl (.inl rfl) (pe_lst pa_nil))
      (pss_cons (ps_for PassesOwn.never rfl (pi_range1 rfl T.m_range (pa_cons (pe_op op_mul (pe_ix (r := rIxT K) ix_tup (pv 0) pe_int (fun _ _ => rfl)) (pe_ix (r := rIxT K) ix_tup (pv 0) pe_int (fun _ _ => rfl))) pa_nil)) (pg_name (i := 2) sc_law_sides.nd rfl (Or.inl rfl)) (pss_cons (ps_set (i := 3) sc_law_sides.nd rfl (.inr rfl) (pe_op op_modN (pv 2) (pe_ix (r := rIxT K) ix_tup (pv 0) pe_int (fun _ _ => rfl))))
      (pss_cons (ps_set (i := 4) sc_law_sides.nd rfl (.inr rfl) (pe_op op_fdivN (pv 2) (pe_ix (r := rIxT K) ix_tup (pv 0) pe_int (fun _ _ => rfl))))
      (pss_one (ps_set (i := 1) sc_law_sides.nd rfl (.inl rfl) (pe_op op_cat (pv 1) (pe_lc (own := [("side", 5)]) (g := gName 5) rfl sc_law_sides.nd (pi_range1 rfl T.m_range (pa_cons pe_int pa_nil)) (blkOk_by (N := N__law_sides) (sc := defScope s__law_sides) (by decide +kernel)) (fun _ _ _ _ _ => (pg_name (i := 5) sc_law_sides.nd rfl (Or.inl rfl))) (fun _ _ _ _ _ => (pts_one (pt_val (pe_ix (r := rIxL K) ix_list (pe_lst (pa_cons (pe_cmpR op_eq (pv 4) pe_int (nomark _)) (pa_cons (pe_cmpR op_eq (pv 3) (pe_op op_sub (pe_ix (r := rIxT K) ix_tup (pv 0) pe_int (fun _ _ => rfl)) pe_int) (nomark _)) (pa_cons (pe_cmpR op_eq (pv 4) (pe_op op_sub (pe_ix (r := rIxT K) ix_tup (pv 0) pe_int (fun _ _ => rfl)) pe_int) (nomark _)) (pa_cons (pe_cmpR op_eq (pv 3) pe_int (nomark _)) pa_nil))))) (pv 5) (fun _ _ => rfl))))) (fun _ _ _ _ _ => (pe_tup (pa_cons (pv 3) (pa_cons (pv 4) (pa_cons (pv 5) pa_nil))))))))))))
      (pss_one (ps_ret (pv 1))))), ?_⟩
    have w1 := ok.w1
    have h1 := ok.h1
    have w0 := ok.w0
    have h0 := ok.h0
    have wh := Nat.mul_le_mul w1 h1
    have ewh : ((f.w : Nat) : Int) * ((f.h : Nat) : Int) = ((f.w * f.h : Nat) : Int) := (Int.natCast_mul ..).symm
    refine ⟨by show 0 ≤ sizeLine; decide, fun R nR => ?_⟩
    have s1 := same_new (o := .lst ([] : List V)) nR
    have hR : (upd H R (.lst ([] : List V))) R = some (.lst []) := upd_same
    generalize (upd H R (.lst ([] : List V))) = H1 at s1 hR ⊢
    refine ⟨_, rfl, fa, _, 1, _, rfl, rfl, SqT.of (s1 _ _ hfa), atI_nat (j := 1) rfl, _, rfl, fa, _, 2, _, rfl, rfl, SqT.of (s1 _ _ hfa), atI_nat (j := 2) rfl, _, _, rfl, rfl, .inl ⟨by omega, by omega⟩, _, congrArg (fun z => [V.int z]) ewh, by omega, by omega, for_range (n := f.w * f.h) (fun i σ Hx => ∃ (y2 y3 y4 : Option V) (R : Addr) (us : List V), σ = [some (.ref fa), some (.ref R), y2, y3, y4, none] ∧ Same H Hx ∧ H R = none ∧ Hx R = some (.lst us) ∧ us.length ≤ i * 4 ∧ (0 < i → us ≠ []) ∧ (∀ v ∈ us, SideAt Hx f v) ∧ ∀ k s, k < i → s < 4 → Bord f (k % f.w) (k / f.w) s → HasSide Hx us (k % f.w) (k / f.w) s) ⟨none, none, none, R, [], rfl, s1, nR, hR, Nat.zero_le _, fun z => absurd z (Nat.lt_irrefl 0), fun v h => (by cases h), fun k s h => absurd h (Nat.not_lt_zero _)⟩ ?_ ?_⟩
    · rintro i σ Hx hi ⟨y2, y3, y4, R, us, rfl, sx, nRH, hx, lus, ne, good, all⟩
      rw [Int.zero_add]
      have hfx := sx _ _ hfa
      have ex : ((i : Nat) : Int).fmod ((f.w : Nat) : Int) = ((i % f.w : Nat) : Int) := by
        rw [Int.fmod_eq_emod_of_nonneg _ (by omega)]
        exact (Int.natCast_emod ..).symm
      have ey : ((i : Nat) : Int).fdiv ((f.w : Nat) : Int) = ((i / f.w : Nat) : Int) := by
        rw [Int.fdiv_eq_ediv_of_nonneg _ (by omega)]
        exact (Int.natCast_ediv ..).symm
      have lx : i % f.w < f.w := Nat.mod_lt _ (by omega)
      have ly : i / f.w < f.h := Nat.div_lt_of_lt_mul hi
      refine ⟨_, rfl, _, rfl, fa, _, 1, _, rfl, rfl, SqT.of hfx, atI_nat (j := 1) rfl, _, _, rfl, rfl, (show ((f.w : Nat) : Int) ≠ 0 by omega), ?_⟩
      refine ⟨_, rfl, _, rfl, fa, _, 1, _, rfl, rfl, SqT.of hfx, atI_nat (j := 1) rfl, _, _, rfl, rfl, ⟨by omega, by omega⟩, ?_⟩
      simp only [ex, ey]
      refine ⟨_, rfl, ?_⟩
      generalize hgx : i % f.w = x at lx
      generalize hgy : i / f.w = y at ly
      refine ⟨_, rfl, by decide, by decide, fun D nD => lc_range (n := 4) (fun j Hz => Same Hx Hz ∧ ∃ vs, Hz D = some (.lst vs) ∧ vs.length ≤ j ∧ (y = 0 → 0 < j → vs ≠ []) ∧ (∀ v ∈ vs, SideAt Hz f v) ∧ ∀ s, s < j → Bord f x y s → HasSide Hz vs x y s) ⟨same_new nD, [], upd_same, Nat.le_refl _, fun _ z => absurd z (Nat.lt_irrefl 0), fun v h => (by cases h), fun s h => absurd h (Nat.not_lt_zero _)⟩ ?_ ?_⟩
      · rintro j Hz hj ⟨sz, vs, hz, lv, nv, gv, av⟩
        show gName 5 (V.int ((0 : Int) + (j : Nat))) _ _ _
        rw [Int.zero_add]
        have hfz := sz _ _ hfx
        have pick : ∃ b, ([.bl (decide (V.int ((y : Nat) : Int) = V.int 0)), .bl (decide (V.int ((x : Nat) : Int) = V.int (((f.w : Nat) : Int) - 1))), .bl (decide (V.int ((y : Nat) : Int) = V.int (((f.h : Nat) : Int) - 1))), .bl (decide (V.int ((x : Nat) : Int) = V.int 0))] : List V)[j]? = some (.bl b) ∧ [decide (y = 0), decide (x + 1 = f.w), decide (y + 1 = f.h), decide (x = 0)][j]? = some b := by
          have d0 : ∀ a : Nat, decide (V.int ((a : Nat) : Int) = V.int 0) = decide (a = 0) := fun a => dec_nat a 0
          have d1 : ∀ a w : Nat, decide (V.int ((a : Nat) : Int) = V.int (((w : Nat) : Int) - 1)) = decide (a + 1 = w) := fun a w => by
            rw [V0.dec_int]
            exact decide_eq_decide.mpr ⟨fun e => by omega, fun e => by omega⟩
          rw [d0, d0, d1, d1]
          have : j = 0 ∨ j = 1 ∨ j = 2 ∨ j = 3 := by omega
          rcases this with rfl | rfl | rfl | rfl
          · exact ⟨_, rfl, rfl⟩
          · exact ⟨_, rfl, rfl⟩
          · exact ⟨_, rfl, rfl⟩
          · exact ⟨_, rfl, rfl⟩
        obtain ⟨b, eb, eb2⟩ := pick
        refine ⟨rfl, _, rfl, rfl, _, rfl, _, rfl, fa, _, 1, _, rfl, rfl, SqT.of hfz, atI_nat (j := 1) rfl, _, _, rfl, rfl, rfl, _, rfl, _, rfl, fa, _, 2, _, rfl, rfl, SqT.of hfz, atI_nat (j := 2) rfl, _, _, rfl, rfl, rfl, _, rfl, rfl, by show 4 ≤ sizeLine; decide, fun L nL => ⟨_, rfl, L, _, _, _, rfl, rfl, SqL.of upd_same, atI_nat eb, _, rfl, ?_⟩⟩
        have sL := same_new (o := .lst [.bl (decide (V.int ((y : Nat) : Int) = V.int 0)), .bl (decide (V.int ((x : Nat) : Int) = V.int (((f.w : Nat) : Int) - 1))), .bl (decide (V.int ((y : Nat) : Int) = V.int (((f.h : Nat) : Int) - 1))), .bl (decide (V.int ((x : Nat) : Int) = V.int 0))]) nL
        cases b with
        | false =>
          refine iteF ⟨sz.trans sL, vs, sL _ _ hz, by omega, fun z _ => ?_, fun v hv => (gv v hv).same sL, fun s hs bd => ?_⟩
          by_cases j0 : 0 < j
          · exact nv z j0
          · have : j = 0 := by omega
            subst this
            have := of_decide_eq_false (Option.some.inj eb2)
            exact absurd z this
          · by_cases e : s = j
            · subst e
              exact absurd bd (side_no lx ly hj eb2)
            · exact (av s (by omega) bd).same sL
        | true =>
          refine iteT ⟨_, rfl, _, rfl, _, rfl, by show 3 ≤ sizeLine; decide, fun t nt => ?_⟩
          have st := same_new (o := .tup [V.int ((x : Nat) : Int), .int (y : Nat), .int (j : Nat)]) nt
          have sz2 := sz.trans (sL.trans st)
          have hz2 := (sL.trans st) _ _ hz
          have tD : t ≠ D := (ne_of_none (sL _ _ hz) nt).symm
          refine ⟨vs, hz2, small64k (by omega), same_mut sz2 nD, vs ++ [.ref t], upd_same, by rw [List.length_append]; exact Nat.add_le_add_right lv 1, fun _ _ e => by simp at e, fun v hv => ?_, fun s hs bd => ?_⟩
          · rcases List.mem_append.mp hv with h | h
            · exact ((gv v h).same (sL.trans st)).mut hz2
            · rw [List.mem_singleton.mp h]
              exact SideAt.mut ⟨t, x, y, j, rfl, upd_same, lx, ly, hj, side_ok lx ly hj eb2⟩ hz2
          · by_cases e : s = j
            · subst e
              exact HasSide.mut (us := vs ++ [.ref t]) ⟨t, by simp, upd_same⟩ hz2
            · exact (((av s (by omega) bd).same (sL.trans st)).left).mut hz2
      rintro H2 ⟨s2, vs, hD, lv, nv, gv, av⟩
      refine ⟨R, D, _, _, rfl, rfl, s2 _ _ hx, hD, Nat.le_of_lt (small64k (by omega)), fun R' nR' => ?_⟩
      have s3 := same_new (o := .lst (us ++ vs)) nR'
      have sx3 := sx.trans (s2.trans s3)
      refine ⟨_, _, _, R', us ++ vs, rfl, sx3, none_of (sx.trans s2) nR', upd_same, by rw [List.length_append]; omega, fun _ e => ?_, fun v hv => ?_, fun k s hk hs bd => ?_⟩
      · have e1 := (List.append_eq_nil_iff.mp e)
        by_cases i0 : 0 < i
        · exact ne i0 e1.1
        · have : i = 0 := by omega
          subst this
          exact nv (by rw [← hgy, Nat.zero_div]) (by decide) e1.2
      · rcases List.mem_append.mp hv with h | h
        · exact (good v h).same (s2.trans s3)
        · exact (gv v h).same s3
      · by_cases e : k = i
        · subst e
          rw [hgx, hgy] at bd ⊢
          exact ((av s hs bd).same s3).right
        · exact ((all k s (by omega) hs bd).same (s2.trans s3)).left
    rintro σ Hx ⟨y2, y3, y4, R, us, rfl, sx, nRH, hx, lus, ne, good, all⟩
    refine ⟨_, rfl, q Hx R us sx nRH hx (ne (by have := Nat.mul_le_mul w0 h0; omega)) (by omega) good fun x y s hx hy hs bd => ?_⟩
    have e1 : (x + f.w * y) % f.w = x := by rw [Nat.add_mul_mod_self_left, Nat.mod_eq_of_lt hx]
    have e2 : (x + f.w * y) / f.w = y := by rw [Nat.add_mul_div_left _ _ (by omega), Nat.div_eq_of_lt hx, Nat.zero_add]
    have lt : x + f.w * y < f.w * f.h := by
      have : f.w * (y + 1) ≤ f.w * f.h := Nat.mul_le_mul_left _ hy
      rw [Nat.mul_add, Nat.mul_one] at this
      omega
    have := all _ s lt hs
    rw [e1, e2] at this
    exact this bd

end K57
namespace K57
open PySem PySem.Spec PyProof.Rows L2 V0
/-! ### drawn pads -/
theorem SideAt.go {p c : Addr} {H H' : Hp} {f : Fab} {v : V} (h : SideAt H f v) (g : Gw p c H H') : SideAt H' f v := by
  obtain ⟨t, x, y, s, rfl, ht, r⟩ := h.ex
  exact ⟨t, x, y, s, rfl, g.get (dw_its_ne g.a ht) ht, r⟩
theorem fresh_gw {p c : Addr} {H H1 H2 : Hp} (d : Dw H p c) (g : Gw p c H1 H2) : Same (fresh H H1) (fresh H H2) := fun b o z => by
  obtain ⟨h1, h2⟩ := fresh_some z
  exact fresh_of h1 (g.get (d.off h1).1 h2)
def sp__law_pads (K : PySem.W.Frag) : Sp := fun ws H Q _ => ∃ (p c fa : Addr) (f : Fab) (many : Nat), ws = [.ref p, .ref fa, .int (many : Nat)] ∧ Dw H p c ∧ H fa = some (.tup f.its) ∧ FabOk f ∧ many ≤ 60 ∧
  ∀ H' l (es : List Pad), Gw p c H H' → H l = none → Dv (fresh H H') (.ref l) es → (∀ e ∈ es, PadOk f e) → es.Nodup → es.length ≤ many → Q (.ref l) H'
theorem ok__law_pads {P : Program} {w : World} {K : PySem.W.Frag} {mg : Str → Option Value} {base : Heap} {C_BitsError fI_BitsError : Addr} {fd_BitsError : FuncData} {B_ : Addr} {mc_ : Value} {O_FitError : Addr} {O_TextError : Addr} {tk_MOST_PLACES : Tok} {tk_MOST_TRACKS : Tok} {tk_MOST_PINS : Tok} {tk_MOST_ENDS : Tok} {tk_HEAD_BITS : Tok} {tk_END_BITS : Tok} {tk_SUM_BITS : Tok} {tk_DRIVE_BITS : Tok} {a_HEAD : Addr} {a_END : Addr} {a_STEPS_0 : Addr} {a_STEPS_1 : Addr} {a_STEPS_2 : Addr} {a_STEPS_3 : Addr} {a_STEPS : Addr} {f f_law_sides f_law_draw : Addr} {fd fd_law_sides fd_law_draw : FuncData} (F : Fun K "_law_pads" "_law_pads" s__law_pads f fd) (T : Txt K mg C_BitsError fI_BitsError fd_BitsError B_ mc_ O_FitError O_TextError tk_MOST_PLACES tk_MOST_TRACKS tk_MOST_PINS tk_MOST_ENDS tk_HEAD_BITS tk_END_BITS tk_SUM_BITS tk_DRIVE_BITS a_HEAD a_END a_STEPS_0 a_STEPS_1 a_STEPS_2 a_STEPS_3 a_STEPS)
    (G__law_sides : FnOk P w K mg base CX0 1 f_law_sides fd_law_sides ["fabric"] (sp__law_sides K)) (D__law_sides : Def K mg "_law_sides" f_law_sides fd_law_sides ["fabric"])
    (G__law_draw : FnOk P w K mg base CX0 1 f_law_draw fd_law_draw ["draws", "limit"] (sp__law_draw K)) (D__law_draw : Def K mg "_law_draw" f_law_draw fd_law_draw ["draws", "limit"]) :
    FnOk P w K mg base CX0 2 f fd ["draws", "fabric", "many"] (sp__law_pads K) := by
  refine F.ok sc_law_pads (fun vs H Q E h => ?_) (fun cdv A outer s0 H vs Q E hr h => ?_)
  · obtain ⟨p, c, fa, f, many, rfl, _⟩ := h
    rfl
  · obtain ⟨p, c, fa, f, many, rfl, d0, hfa, ok, m60, q⟩ := h
    refine ⟨_, (pss_cons (ps_set (i := 3) sc_law_pads.nd rfl (.inl rfl) (pe_call G__law_sides (hr.mono (by omega)) (by rfl) D__law_sides.m D__law_sides.k D__law_sides.b .nil pass0 (pa_cons (pv 1) pa_nil)))
      (pss_cons (ps_set (i := 4) sc_law_pads.nd rfl (.inl rfl) (pe_lst pa_nil))
      (pss_cons (ps_for PassesOwn.never rfl (pi_range1 rfl T.m_range (pa_cons (pv 2) pa_nil)) (pg_name (i := 5) sc_law_pads.nd rfl (Or.inl rfl)) (pss_cons (ps_set (i := 6) sc_law_pads.nd rfl (.inl rfl) (pe_op op_catA (pe_ix (r := rIxL K) ix_list (pv 3) (pe_call G__law_draw (hr.mono (by omega)) (by rfl) D__law_draw.m D__law_draw.k D__law_draw.b .nil pass0 (pa_cons (pv 0) (pa_cons (pe_callB call_len_seq (by rfl) T.m_len (by decide +kernel) (pa_cons (pv 3) pa_nil)) pa_nil))) (fun _ _ => rfl)) (pe_tup (pa_cons (pe_call G__law_draw (hr.mono (by omega)) (by rfl) D__law_draw.m D__law_draw.k D__law_draw.b .nil pass0 (pa_cons (pv 0) (pa_cons (pe_ix (r := rIxT K) ix_tup (pv 1) pe_int (fun _ _ => rfl)) pa_nil))) pa_nil))))
      (pss_one (ps_if (pt_cmpR (r := rNotInD K) (op_notInD (hu65 hr)) (pv 6) (pv 4) (by rfl)) (pss_one (ps_expr (pe_bm PySem.F.plainAttrs_list PySem.F.slot_list_append PySem.F.type_list_append mt_append (pv 4) (pa_cons (pv 6) pa_nil)))) pss_nil))))
      (pss_one (ps_ret (pv 4)))))), ?_⟩
    have t0 := ok.t0
    have t1 := ok.t1
    refine ⟨_, rfl, fa, f, rfl, hfa, ok, fun H1 S ss s1 nS hS ne l1000 good _ => ?_⟩
    have Sp := (d0.off nS).1
    refine ⟨by show 0 ≤ sizeLine; decide, fun R nR => ?_⟩
    have s2 := same_new (o := .lst ([] : List V)) nR
    have hR : (upd H1 R (.lst ([] : List V))) R = some (.lst []) := upd_same
    have nR0 := none_of s1 nR
    have hS2 := s2 _ _ hS
    have SR : S ≠ R := ne_of_none hS nR
    have G2 := Gw.of d0 (s1.trans s2)
    have good2 : ∀ v ∈ ss, SideAt (upd H1 R (.lst ([] : List V))) f v := fun v hv => (good v hv).same s2
    generalize (upd H1 R (.lst ([] : List V))) = H2 at hR hS2 G2 good2 ⊢
    have Rp := (d0.off nR0).1
    have ls : 0 < ss.length := List.length_pos_iff.mpr ne
    refine ⟨_, rfl, _, rfl, by omega, by omega, for_range (n := many) (fun i σ Hx => ∃ (y5 y6 : Option V) (us : List V) (es : List Pad), σ = [some (.ref p), some (.ref fa), some (.int (many : Nat)), some (.ref S), some (.ref R), y5, y6] ∧ Gw p c H Hx ∧ Hx S = some (.lst ss) ∧ (∀ v ∈ ss, SideAt Hx f v) ∧ Hx R = some (.lst us) ∧ Dvs (hid R (fresh H Hx)) us es ∧ es.length ≤ i ∧ es.Nodup ∧ ∀ e ∈ es, PadOk f e) ⟨none, none, [], [], rfl, G2, hS2, good2, hR, .nil, Nat.le_refl _, List.nodup_nil, fun e h => (by cases h)⟩ ?_ ?_⟩
    · rintro i σ Hx hi ⟨y5, y6, us, es, rfl, gx, hSx, gd, hx, dus, le, nd, pok⟩
      refine ⟨_, rfl, _, rfl, _, rfl, S, _, rfl, .inl (SqL.of hSx), p, c, ss.length, rfl, gx.b, ls, by omega, fun H3 k g3 hk => ?_⟩
      have hS3 := g3.get Sp hSx
      have ek : ss[k]? = some ss[k] := List.getElem?_eq_getElem hk
      obtain ⟨t, x, y, s, ev, ht, lx, ly, l4, bd⟩ := ((gd _ (List.getElem_mem hk)).go g3).ex
      rw [ev] at ek
      refine ⟨S, _, _, _, rfl, rfl, SqL.of hS3, atI_nat ek, ?_⟩
      have hfa3 := (gx.trans g3).get (dw_its_ne d0 hfa) hfa
      refine ⟨_, rfl, _, rfl, fa, _, 3, _, rfl, rfl, SqT.of hfa3, atI_nat (j := 3) rfl, p, c, f.t, rfl, g3.b, by omega, by omega, fun H4 z g4 hz => ⟨by show 1 ≤ sizeLine; decide, fun q' nq => ?_⟩⟩
      have ht4 := g4.get (dw_its_ne g3.b ht) ht
      have sq := same_new (o := .tup [V.int (z : Nat)]) nq
      refine ⟨t, q', _, _, rfl, rfl, SqT.of (sq _ _ ht4), SqT.of upd_same, by show 4 ≤ sizeLine; decide, (fun e => by cases e), (fun _ e => by cases e), fun _ _ w nw => ?_⟩
      have sw := same_new (o := .tup [V.int (x : Nat), .int (y : Nat), .int (s : Nat), .int (z : Nat)]) nw
      have hw : (upd (upd H4 q' (.tup [V.int (z : Nat)])) w (.tup [V.int (x : Nat), .int (y : Nat), .int (s : Nat), .int (z : Nat)])) w = some (.tup (Pad.its ⟨x, y, s, z⟩)) := upd_same
      have gw := (g3.trans g4).more (sq.trans sw)
      have Gx := gx.trans gw
      have nw0 := (gx.trans ((g3.trans g4).more sq)).none nw
      have hR6 := gw.get Rp hx
      have hS6 := gw.get Sp hSx
      have wR : w ≠ R := (ne_of_none (((g3.trans g4).more sq).get Rp hx) nw).symm
      have fr : Same (hid R (fresh H Hx)) (hid R (fresh H (upd (upd H4 q' (.tup [V.int (z : Nat)])) w (.tup [V.int (x : Nat), .int (y : Nat), .int (s : Nat), .int (z : Nat)])))) := hid_mono (fresh_gw d0 gw)
      have gd6 : ∀ v ∈ ss, SideAt (upd (upd H4 q' (.tup [V.int (z : Nat)])) w (.tup [V.int (x : Nat), .int (y : Nat), .int (s : Nat), .int (z : Nat)])) f v := fun v hv => (gd v hv).go gw
      have d6 := dus.same fr
      have dl := Dv.list hR6 (d6.same ((hid_same _ _).trans fun b o z => (fresh_some z).2))
      refine ⟨_, rfl, _, rfl, _, _, dh_dp _ _ (Dv.pad (e := ⟨x, y, s, z⟩) hw), dh_dp _ _ dl, shaped_of (⟨x, y, s, z⟩ : Pad) (by decide), shaped_of es (by decide), _, rfl, ?_⟩
      rw [any_in]
      by_cases m : (⟨x, y, s, z⟩ : Pad) ∈ es
      · rw [decide_eq_true m]
        exact iteF ⟨_, _, us, es, rfl, Gx, hS6, gd6, hR6, d6, by omega, nd, pok⟩
      · rw [decide_eq_false m]
        refine iteT ⟨_, rfl, .inl ⟨rfl, _, SqL.of hR6⟩, _, rfl, R, _, _, rfl, rfl, hR6, by rw [d6.len]; exact small64k (by omega), ?_⟩
        have fm : ∀ {Hq : Hp} {o : HO}, Same (hid R (fresh H Hq)) (hid R (fresh H (upd Hq R o))) := fun b u z => by
          obtain ⟨h1, h2⟩ := hid_some z
          obtain ⟨h3, h4⟩ := fresh_some h2
          exact hid_of h1 (fresh_of h3 (by rw [upd_ne h1]; exact h4))
        refine ⟨_, _, us ++ [.ref w], es ++ [⟨x, y, s, z⟩], rfl, Gx.mut nR0, (upd_ne SR).trans hS6, fun v hv => (gd6 v hv).mut hR6, upd_same, (d6.same fm).app (.cons (Dv.pad (hid_of wR (fresh_of nw0 ((upd_ne wR).trans hw)))) .nil), by rw [List.length_append]; exact Nat.add_le_add_right le 1, ?_, fun e he => ?_⟩
        · exact List.nodup_append.mpr ⟨nd, by simp, fun a ha b hb e => m (by rw [List.mem_singleton.mp hb] at e; rw [← e]; exact ha)⟩
        · rcases List.mem_append.mp he with h | h
          · exact pok e h
          · rw [List.mem_singleton.mp h]
            exact ⟨lx, ly, l4, hz, bd⟩
    rintro σ Hx ⟨y5, y6, us, es, rfl, gx, hSx, gd, hx, dus, le, nd, pok⟩
    exact ⟨_, rfl, q Hx R es gx nR0 (Dv.list (fresh_of nR0 hx) (dus.same (hid_same _ _))) pok nd le⟩

end K57
namespace K57
open PySem PySem.Spec PyProof.Rows L2 V0
/-! ### drawn configs -/
def sp__law_config (K : PySem.W.Frag) : Sp := fun ws H Q _ => ∃ (p c : Addr) (M : Nat), ws = [.ref p, .int (M : Nat)] ∧ 1 ≤ M ∧ M ≤ 12 ∧ Dw H p c ∧ ∀ H' t (cf : Conf), Gw p c H H' → H t = none → Dv (fresh H H') (.ref t) cf → ConfOk cf → Q (.ref t) H'
theorem ok__law_config {P : Program} {w : World} {K : PySem.W.Frag} {mg : Str → Option Value} {base : Heap} {C_BitsError fI_BitsError : Addr} {fd_BitsError : FuncData} {B_ : Addr} {mc_ : Value} {O_FitError : Addr} {O_TextError : Addr} {tk_MOST_PLACES : Tok} {tk_MOST_TRACKS : Tok} {tk_MOST_PINS : Tok} {tk_MOST_ENDS : Tok} {tk_HEAD_BITS : Tok} {tk_END_BITS : Tok} {tk_SUM_BITS : Tok} {tk_DRIVE_BITS : Tok} {a_HEAD : Addr} {a_END : Addr} {a_STEPS_0 : Addr} {a_STEPS_1 : Addr} {a_STEPS_2 : Addr} {a_STEPS_3 : Addr} {a_STEPS : Addr} {f f_law_fabric f_law_setting f_law_pads f_law_draw : Addr} {fd fd_law_fabric fd_law_setting fd_law_pads fd_law_draw : FuncData} (F : Fun K "_law_config" "_law_config" s__law_config f fd) (T : Txt K mg C_BitsError fI_BitsError fd_BitsError B_ mc_ O_FitError O_TextError tk_MOST_PLACES tk_MOST_TRACKS tk_MOST_PINS tk_MOST_ENDS tk_HEAD_BITS tk_END_BITS tk_SUM_BITS tk_DRIVE_BITS a_HEAD a_END a_STEPS_0 a_STEPS_1 a_STEPS_2 a_STEPS_3 a_STEPS)
    (G__law_fabric : FnOk P w K mg base CX0 2 f_law_fabric fd_law_fabric ["draws", "most"] (sp__law_fabric K)) (D__law_fabric : Def K mg "_law_fabric" f_law_fabric fd_law_fabric ["draws", "most"])
    (G__law_setting : FnOk P w K mg base CX0 2 f_law_setting fd_law_setting ["draws", "fabric"] (sp__law_setting K)) (D__law_setting : Def K mg "_law_setting" f_law_setting fd_law_setting ["draws", "fabric"])
    (G__law_pads : FnOk P w K mg base CX0 2 f_law_pads fd_law_pads ["draws", "fabric", "many"] (sp__law_pads K)) (D__law_pads : Def K mg "_law_pads" f_law_pads fd_law_pads ["draws", "fabric", "many"])
    (G__law_draw : FnOk P w K mg base CX0 1 f_law_draw fd_law_draw ["draws", "limit"] (sp__law_draw K)) (D__law_draw : Def K mg "_law_draw" f_law_draw fd_law_draw ["draws", "limit"]) :
    FnOk P w K mg base CX0 3 f fd ["draws", "most"] (sp__law_config K) := by
  refine F.ok sc_law_config (fun vs H Q E h => ?_) (fun cdv A outer s0 H vs Q E hr h => ?_)
  · obtain ⟨p, c, M, rfl, _⟩ := h
    rfl
  · obtain ⟨p, c, M, rfl, M1, M12, d0, q⟩ := h
    refine ⟨_, (pss_cons (ps_set (i := 2) sc_law_config.nd rfl (.inr rfl) (pe_call G__law_fabric (hr.mono (by omega)) (by rfl) D__law_fabric.m D__law_fabric.k D__law_fabric.b .nil pass0 (pa_cons (pv 0) (pa_cons (pv 1) pa_nil))))
      (pss_cons (ps_setLc (i := 3) (own := [("k", 4)]) (g := gName 4) (tt := tYes) rfl sc_law_config.nd rfl rfl (sw_true rfl rfl rfl (by decide +kernel)) (pi_range1 rfl T.m_range (pa_cons (pe_op op_mul (pe_ix (r := rIxT K) ix_tup (pv 2) pe_int (fun _ _ => rfl)) (pe_ix (r := rIxT K) ix_tup (pv 2) pe_int (fun _ _ => rfl))) pa_nil)) (blkOk_by (N := N__law_config) (sc := defScope s__law_config) (by decide +kernel)) (fun _ _ _ _ _ => (pg_name (i := 4) sc_law_config.nd rfl (Or.inl rfl))) (fun _ _ _ _ _ => pts_nil) (fun _ _ _ _ _ => (pe_call G__law_setting (hr.mono (by omega)) (by rfl) D__law_setting.m D__law_setting.k D__law_setting.b .nil pass0 (pa_cons (pv 0) (pa_cons (pv 2) pa_nil)))))
      (pss_one (ps_ret (pe_tup (pa_cons pe_str (pa_cons (pv 2) (pa_cons (pv 3) (pa_cons (pe_call G__law_pads (hr.mono (by omega)) (by rfl) D__law_pads.m D__law_pads.k D__law_pads.b .nil pass0 (pa_cons (pv 0) (pa_cons (pv 2) (pa_cons (pe_call G__law_draw (hr.mono (by omega)) (by rfl) D__law_draw.m D__law_draw.k D__law_draw.b .nil pass0 (pa_cons (pv 0) (pa_cons pe_int pa_nil))) pa_nil)))) (pa_cons (pe_call G__law_pads (hr.mono (by omega)) (by rfl) D__law_pads.m D__law_pads.k D__law_pads.b .nil pass0 (pa_cons (pv 0) (pa_cons (pv 2) (pa_cons (pe_call G__law_draw (hr.mono (by omega)) (by rfl) D__law_draw.m D__law_draw.k D__law_draw.b .nil pass0 (pa_cons (pv 0) (pa_cons pe_int pa_nil))) pa_nil)))) pa_nil)))))))))), ?_⟩
    refine ⟨_, rfl, _, rfl, p, c, M, rfl, M1, M12, d0, fun H1 fa f g1 nfa hfa ok => ?_⟩
    have w1 := ok.w1
    have h1 := ok.h1
    have wh := Nat.mul_le_mul w1 h1
    have ewh : ((f.w : Nat) : Int) * ((f.h : Nat) : Int) = ((f.w * f.h : Nat) : Int) := (Int.natCast_mul ..).symm
    refine ⟨_, rfl, fa, _, 1, _, rfl, rfl, SqT.of hfa, atI_nat (j := 1) rfl, _, rfl, fa, _, 2, _, rfl, rfl, SqT.of hfa, atI_nat (j := 2) rfl, _, _, rfl, rfl, .inl ⟨by omega, by omega⟩, _, congrArg (fun z => [V.int z]) ewh, by omega, by omega, fun D nD => lc_range (n := f.w * f.h) (fun j Hz => Gw p c H1 Hz ∧ ∃ (us : List V) (ss : List Sett), Hz D = some (.lst us) ∧ Dvs (hid D (fresh H Hz)) us ss ∧ ss.length = j ∧ ∀ s ∈ ss, SettOk f s) ⟨Gw.mut (Gw.refl g1.b) nD, [], [], upd_same, .nil, rfl, fun s h => (by cases h)⟩ ?_ ?_⟩
    · rintro j Hz hj ⟨gz, us, ss, hD, dus, lj, sok⟩
      have hfz := gz.get (dw_its_ne g1.b hfa) hfa
      have Dp := (g1.b.off nD).1
      have Gz := g1.trans gz
      refine ⟨rfl, _, rfl, _, rfl, p, c, fa, f, rfl, gz.b, hfz, ok, fun H2 t b d s g2 nt nb nd ht hb hd so => ?_⟩
      have hD2 := g2.get Dp hD
      have nD0 := g1.none nD
      have ap : ∀ {a : Addr}, Hz a = none → a ≠ D := fun h => (ne_of_none hD h).symm
      refine ⟨us, hD2, by rw [dus.len, lj]; exact small64k (by omega), (gz.trans g2).mut nD, us ++ [.ref t], ss ++ [s], upd_same, ?_, by rw [List.length_append, lj]; rfl, fun x hx => ?_⟩
      · have fm : ∀ {Hq : Hp} {o : HO}, Same (hid D (fresh H Hq)) (hid D (fresh H (upd Hq D o))) := fun b u z => by
          obtain ⟨h1, h2⟩ := hid_some z
          obtain ⟨h3, h4⟩ := fresh_some h2
          exact hid_of h1 (fresh_of h3 (by rw [upd_ne h1]; exact h4))
        have put : ∀ {a : Addr} {o o' : HO}, Hz a = none → H2 a = some o → hid D (fresh H (upd H2 D o')) a = some o := fun n e => hid_of (ap n) (fresh_of (Gz.none n) ((upd_ne (ap n)).trans e))
        exact ((dus.same (hid_mono (fresh_gw d0 g2))).same fm).app (.cons (Dv.sett (put nt ht) (put nb hb) (put nd hd)) .nil)
      · rcases List.mem_append.mp hx with h | h
        · exact sok x h
        · rw [List.mem_singleton.mp h]
          exact so
    rintro H2 ⟨g2, us, ss, hD, dus, lj, sok⟩
    have Dp := (g1.b.off nD).1
    have nD0 := g1.none nD
    have G2 := g1.trans g2
    have hf2 := g2.get (dw_its_ne g1.b hfa) hfa
    refine ⟨_, rfl, _, rfl, _, rfl, _, rfl, _, rfl, p, c, 6, rfl, g2.b, by decide, by decide, fun H3 k3 g3 hk3 => ?_⟩
    have hf3 := g3.get (dw_its_ne g2.b hf2) hf2
    refine ⟨p, c, fa, f, k3, rfl, g3.b, hf3, ok, by omega, fun H4 li es g4 nli dli pok nd le => ?_⟩
    have hf4 := g4.get (dw_its_ne g3.b hf3) hf3
    refine ⟨_, rfl, _, rfl, _, rfl, p, c, 6, rfl, g4.b, by decide, by decide, fun H5 k5 g5 hk5 => ?_⟩
    have hf5 := g5.get (dw_its_ne g4.b hf4) hf4
    refine ⟨p, c, fa, f, k5, rfl, g5.b, hf5, ok, by omega, fun H6 lo eo g6 nlo dlo pok' nd' le' => ⟨by show 5 ≤ sizeLine; decide, fun t nt => ?_⟩⟩
    have G3 := G2.trans g3
    have G4 := G3.trans g4
    have G5 := G4.trans g5
    have G6 := G5.trans g6
    have st := same_new (o := .tup [V.str "config", .ref fa, .ref D, .ref li, .ref lo]) nt
    have hf6 := g6.get (dw_its_ne g5.b hf5) hf5
    have g36 := g3.trans (g4.trans (g5.trans g6))
    have fs : Same (fresh H H6) (fresh H (upd H6 t (.tup [V.str "config", .ref fa, .ref D, .ref li, .ref lo]))) := fresh_post st
    have up : ∀ {Ha Hb : Hp}, Gw p c H Ha → Gw p c Ha Hb → Same (fresh Ha Hb) (fresh H Hb) := fun ga _ b u z => by
      obtain ⟨h3, h4⟩ := fresh_some z
      exact fresh_of (ga.none h3) h4
    refine q _ t ⟨f, ss, es, eo⟩ (G6.more st) (G6.none nt) (Dv.conf (fresh_of (G6.none nt) upd_same) (Dv.fab (fresh_of nfa (st _ _ hf6))) (Dv.list (fresh_of nD0 (st _ _ (g36.get Dp hD))) ?_) ?_ ?_) ⟨ok, by rw [lj], sok, pok, pok', nd, nd', by show es.length ≤ 64; omega, by show eo.length ≤ 64; omega⟩
    · exact ((dus.same (hid_same _ _)).same (fresh_gw d0 g36)).same fs
    · exact ((dli.same (up G3 g4)).same (fresh_gw d0 (g5.trans g6))).same fs
    · exact (dlo.same (up G5 g6)).same fs

end K57
namespace K57
open PySem PySem.Spec PyProof.Rows L2 V0
/-! ### all bits, written anew -/
theorem flat_take {α : Type} {f : α → List Nat} {xs : List α} {i : Nat} {x : α} (h : xs[i]? = some x) : ((xs.take (i + 1)).map f).flatten = ((xs.take i).map f).flatten ++ f x := by
  rw [take_snoc h, List.map_append, List.flatten_append]
  simp
theorem wr_rep (w : Nat) : ∀ xs : List Nat, wr xs (List.replicate xs.length w) = (xs.map fun x => bt x w).flatten
  | [] => rfl
  | x :: xs => by rw [List.length_cons, List.replicate_succ, wr_cons, wr_rep w xs, List.map_cons, List.flatten_cons]
theorem bt_one {k : Nat} (h : k < 2) : bt k 1 = [k] := by
  have : k = 0 ∨ k = 1 := by omega
  rcases this with rfl | rfl <;> rfl
theorem settB_eq {f : Fab} {s : Sett} (h : SettOk f s) : settB f s = bt s.table (2 ^ f.p) ++ [s.kept, s.start] ++ (s.taps.map fun x => bt x (tapB f.t)).flatten ++ (s.drv.map fun x => bt x 3).flatten := by
  unfold settB
  rw [wr_rep, wr_rep, wr_cons, wr_cons, wr_cons, wr_nil, bt_one h.kept, bt_one h.start]
  rfl
theorem padB_eq (e : Pad) : padB e = bt e.x 4 ++ bt e.y 4 ++ bt e.s 2 ++ bt e.k 3 := by
  unfold padB
  rw [wr_cons, wr_cons, wr_cons, wr_cons, wr_nil, List.append_nil, List.append_assoc, List.append_assoc]
theorem few_map {xs : List Nat} {w n : Nat} {i : Nat} (h : xs.length ≤ n) : ((xs.take i).map fun x => bt x w).flatten.length ≤ n * w := by
  rw [flat_map_len fun x _ => bt_len x w, List.length_take]
  exact Nat.mul_le_mul_right _ (by omega)
def sp__law_bits (K : PySem.W.Frag) : Sp := fun vs H Q _ => ∃ (v : V) (c : Conf), vs = [v] ∧ Dv H v c ∧ ConfOk c ∧ ∀ H' l, Same H H' → H l = none → H' l = some (.lst (vn (enc c))) → Q (.ref l) H'
theorem ok__law_bits {P : Program} {w : World} {K : PySem.W.Frag} {mg : Str → Option Value} {base : Heap} {C_BitsError fI_BitsError : Addr} {fd_BitsError : FuncData} {B_ : Addr} {mc_ : Value} {O_FitError : Addr} {O_TextError : Addr} {tk_MOST_PLACES : Tok} {tk_MOST_TRACKS : Tok} {tk_MOST_PINS : Tok} {tk_MOST_ENDS : Tok} {tk_HEAD_BITS : Tok} {tk_END_BITS : Tok} {tk_SUM_BITS : Tok} {tk_DRIVE_BITS : Tok} {a_HEAD : Addr} {a_END : Addr} {a_STEPS_0 : Addr} {a_STEPS_1 : Addr} {a_STEPS_2 : Addr} {a_STEPS_3 : Addr} {a_STEPS : Addr} {f f_law_written f_law_tap f_law_sum : Addr} {fd fd_law_written fd_law_tap fd_law_sum : FuncData} (F : Fun K "_law_bits" "_law_bits" s__law_bits f fd) (T : Txt K mg C_BitsError fI_BitsError fd_BitsError B_ mc_ O_FitError O_TextError tk_MOST_PLACES tk_MOST_TRACKS tk_MOST_PINS tk_MOST_ENDS tk_HEAD_BITS tk_END_BITS tk_SUM_BITS tk_DRIVE_BITS a_HEAD a_END a_STEPS_0 a_STEPS_1 a_STEPS_2 a_STEPS_3 a_STEPS)
    (G__law_written : FnOk P w K mg base CX0 1 f_law_written fd_law_written ["number", "size"] (sp__law_written K)) (D__law_written : Def K mg "_law_written" f_law_written fd_law_written ["number", "size"])
    (G__law_tap : FnOk P w K mg base CX0 1 f_law_tap fd_law_tap ["fabric"] (sp__law_tap K)) (D__law_tap : Def K mg "_law_tap" f_law_tap fd_law_tap ["fabric"])
    (G__law_sum : FnOk P w K mg base CX0 1 f_law_sum fd_law_sum ["bits"] (sp__law_sum K)) (D__law_sum : Def K mg "_law_sum" f_law_sum fd_law_sum ["bits"]) :
    FnOk P w K mg base CX0 2 f fd ["config"] (sp__law_bits K) := by
  refine F.ok sc_law_bits (fun vs H Q E h => ?_) (fun cdv A outer s0 H vs Q E hr h => ?_)
  · obtain ⟨v, c, rfl, _⟩ := h
    rfl
  · obtain ⟨v, c, rfl, hv, ok, q⟩ := h
    refine ⟨_, (pss_cons (ps_set (i := 1) sc_law_bits.nd rfl (.inl rfl) (pe_ix (r := rIxT K) ix_tup (pv 0) pe_int (fun _ _ => rfl)))
      (pss_cons (ps_set (i := 2) sc_law_bits.nd rfl (.inl rfl) (pe_lst pa_nil))
      (pss_cons (ps_for PassesOwn.never rfl (pi_list (pe_lst (pa_cons (pe_tup (pa_cons (pe_op op_sub (pe_ix (r := rIxT K) ix_tup (pv 1) pe_int (fun _ _ => rfl)) pe_int) (pa_cons pe_int pa_nil))) (pa_cons (pe_tup (pa_cons (pe_op op_sub (pe_ix (r := rIxT K) ix_tup (pv 1) pe_int (fun _ _ => rfl)) pe_int) (pa_cons pe_int pa_nil))) (pa_cons (pe_tup (pa_cons (pe_op op_sub (pe_ix (r := rIxT K) ix_tup (pv 1) pe_int (fun _ _ => rfl)) pe_int) (pa_cons pe_int pa_nil))) (pa_cons (pe_tup (pa_cons (pe_op op_sub (pe_ix (r := rIxT K) ix_tup (pv 1) pe_int (fun _ _ => rfl)) pe_int) (pa_cons pe_int pa_nil))) (pa_cons (pe_tup (pa_cons (pe_callB call_len_seq (by rfl) T.m_len (by decide +kernel) (pa_cons (pe_ix (r := rIxT K) ix_tup (pv 0) pe_int (fun _ _ => rfl)) pa_nil)) (pa_cons pe_int pa_nil))) (pa_cons (pe_tup (pa_cons (pe_callB call_len_seq (by rfl) T.m_len (by decide +kernel) (pa_cons (pe_ix (r := rIxT K) ix_tup (pv 0) pe_int (fun _ _ => rfl)) pa_nil)) (pa_cons pe_int pa_nil))) pa_nil)))))))) (pg_tup (by rfl) (pgs_cons (pg_name (i := 3) sc_law_bits.nd rfl (Or.inl rfl)) (pgs_cons (pg_name (i := 4) sc_law_bits.nd rfl (Or.inl rfl)) pgs_nil))) (pss_one (ps_set (i := 2) sc_law_bits.nd rfl (.inl rfl) (pe_op op_cat (pv 2) (pe_call G__law_written (hr.mono (by omega)) (by rfl) D__law_written.m D__law_written.k D__law_written.b .nil pass0 (pa_cons (pv 3) (pa_cons (pv 4) pa_nil)))))))
      (pss_cons (ps_for PassesOwn.never rfl (pi_list (pe_ix (r := rIxT K) ix_tup (pv 0) pe_int (fun _ _ => rfl))) (pg_name (i := 5) sc_law_bits.nd rfl (Or.inl rfl)) (pss_cons (ps_set (i := 2) sc_law_bits.nd rfl (.inl rfl) (pe_op op_cat (pe_op op_cat (pv 2) (pe_call G__law_written (hr.mono (by omega)) (by rfl) D__law_written.m D__law_written.k D__law_written.b .nil pass0 (pa_cons (pe_ix (r := rIxT K) ix_tup (pv 5) pe_int (fun _ _ => rfl)) (pa_cons (pe_ix (r := rIxL K) ix_list (pe_lst (pa_cons pe_int (pa_cons pe_int (pa_cons pe_int (pa_cons pe_int pa_nil))))) (pe_op op_sub (pe_ix (r := rIxT K) ix_tup (pv 1) pe_int (fun _ _ => rfl)) pe_int) (fun _ _ => rfl)) pa_nil)))) (pe_lst (pa_cons (pe_ix (r := rIxT K) ix_tup (pv 5) pe_int (fun _ _ => rfl)) (pa_cons (pe_ix (r := rIxT K) ix_tup (pv 5) pe_int (fun _ _ => rfl)) pa_nil)))))
      (pss_cons (ps_for PassesOwn.never rfl (pi_list (pe_ix (r := rIxT K) ix_tup (pv 5) pe_int (fun _ _ => rfl))) (pg_name (i := 6) sc_law_bits.nd rfl (Or.inl rfl)) (pss_one (ps_set (i := 2) sc_law_bits.nd rfl (.inl rfl) (pe_op op_cat (pv 2) (pe_call G__law_written (hr.mono (by omega)) (by rfl) D__law_written.m D__law_written.k D__law_written.b .nil pass0 (pa_cons (pv 6) (pa_cons (pe_call G__law_tap (hr.mono (by omega)) (by rfl) D__law_tap.m D__law_tap.k D__law_tap.b .nil pass0 (pa_cons (pv 1) pa_nil)) pa_nil)))))))
      (pss_one (ps_for PassesOwn.never rfl (pi_list (pe_ix (r := rIxT K) ix_tup (pv 5) pe_int (fun _ _ => rfl))) (pg_name (i := 6) sc_law_bits.nd rfl (Or.inl rfl)) (pss_one (ps_set (i := 2) sc_law_bits.nd rfl (.inl rfl) (pe_op op_cat (pv 2) (pe_call G__law_written (hr.mono (by omega)) (by rfl) D__law_written.m D__law_written.k D__law_written.b .nil pass0 (pa_cons (pv 6) (pa_cons pe_int pa_nil)))))))))))
      (pss_cons (ps_for PassesOwn.never rfl (pi_list (pe_op op_cat (pe_ix (r := rIxT K) ix_tup (pv 0) pe_int (fun _ _ => rfl)) (pe_ix (r := rIxT K) ix_tup (pv 0) pe_int (fun _ _ => rfl)))) (pg_tup (by rfl) (pgs_cons (pg_name (i := 7) sc_law_bits.nd rfl (Or.inl rfl)) (pgs_cons (pg_name (i := 8) sc_law_bits.nd rfl (Or.inl rfl)) (pgs_cons (pg_name (i := 9) sc_law_bits.nd rfl (Or.inl rfl)) (pgs_cons (pg_name (i := 10) sc_law_bits.nd rfl (Or.inl rfl)) pgs_nil))))) (pss_one (ps_set (i := 2) sc_law_bits.nd rfl (.inl rfl) (pe_op op_cat (pe_op op_cat (pe_op op_cat (pe_op op_cat (pv 2) (pe_call G__law_written (hr.mono (by omega)) (by rfl) D__law_written.m D__law_written.k D__law_written.b .nil pass0 (pa_cons (pv 7) (pa_cons pe_int pa_nil)))) (pe_call G__law_written (hr.mono (by omega)) (by rfl) D__law_written.m D__law_written.k D__law_written.b .nil pass0 (pa_cons (pv 8) (pa_cons pe_int pa_nil)))) (pe_call G__law_written (hr.mono (by omega)) (by rfl) D__law_written.m D__law_written.k D__law_written.b .nil pass0 (pa_cons (pv 9) (pa_cons pe_int pa_nil)))) (pe_call G__law_written (hr.mono (by omega)) (by rfl) D__law_written.m D__law_written.k D__law_written.b .nil pass0 (pa_cons (pv 10) (pa_cons pe_int pa_nil)))))))
      (pss_one (ps_ret (pe_op op_cat (pv 2) (pe_call G__law_sum (hr.mono (by omega)) (by rfl) D__law_sum.m D__law_sum.k D__law_sum.b .nil pass0 (pa_cons (pv 2) pa_nil)))))))))), ?_⟩
    have f := ok.fab
    have g1 := f.w0
    have g2 := f.h0
    have g3 := f.t0
    have g4 := f.p0
    have p1 := f.p1
    have q1 := f.t1
    have tb := tapB_le q1
    have li := ok.lins
    have lo := ok.louts
    obtain ⟨few, sb⟩ := enc_few ok
    have p16 : 2 ^ c.fab.p ≤ 2 ^ 4 := Nat.pow_le_pow_right (by decide) p1
    obtain ⟨a, vf, vs, vi_, vo_, rfl, ha, hf, hs, hi, ho⟩ := conf_inv hv
    obtain ⟨fa, rfl, hfa⟩ := fab_inv hf
    obtain ⟨sa, us, rfl, hsa, dus⟩ := hs.list_inv
    obtain ⟨ia, ui, rfl, hia, dui⟩ := hi.list_inv
    obtain ⟨oa, uo, rfl, hoa, duo⟩ := ho.list_inv
    have lui := dui.len
    have luo := duo.len
    refine ⟨_, rfl, a, _, 1, _, rfl, rfl, SqT.of ha, atI_nat (j := 1) rfl, by show 0 ≤ sizeLine; decide, fun B nB => ?_⟩
    have s0 := same_new (o := .lst ([] : List V)) nB
    have hB : (upd H B (.lst ([] : List V))) B = some (.lst (vn [])) := upd_same
    generalize (upd H B (.lst ([] : List V))) = H0 at s0 hB ⊢
    -- the head
    refine ⟨_, rfl, fa, _, 1, _, rfl, rfl, SqT.of (s0 _ _ hfa), atI_nat (j := 1) rfl, _, _, rfl, rfl, by show 2 ≤ sizeLine; decide, fun t1 nt1 => ?_⟩
    have s1 := same_new (o := .tup [V.int (((c.fab.w : Nat) : Int) - 1), .int 4]) nt1
    have e1 : (upd H0 t1 (.tup [V.int (((c.fab.w : Nat) : Int) - 1), .int 4])) t1 = some (.tup (vn [c.fab.w - 1, 4])) := by
      rw [upd_same, show ((c.fab.w : Nat) : Int) - 1 = ((c.fab.w - 1 : Nat) : Int) by omega]
      rfl
    generalize (upd H0 t1 (.tup [V.int (((c.fab.w : Nat) : Int) - 1), .int 4])) = H1 at s1 e1 ⊢
    have x1 := s0.trans s1
    refine ⟨_, rfl, fa, _, 2, _, rfl, rfl, SqT.of (x1 _ _ hfa), atI_nat (j := 2) rfl, _, _, rfl, rfl, by show 2 ≤ sizeLine; decide, fun t2 nt2 => ?_⟩
    have s2 := same_new (o := .tup [V.int (((c.fab.h : Nat) : Int) - 1), .int 4]) nt2
    have e2 : (upd H1 t2 (.tup [V.int (((c.fab.h : Nat) : Int) - 1), .int 4])) t2 = some (.tup (vn [c.fab.h - 1, 4])) := by
      rw [upd_same, show ((c.fab.h : Nat) : Int) - 1 = ((c.fab.h - 1 : Nat) : Int) by omega]
      rfl
    generalize (upd H1 t2 (.tup [V.int (((c.fab.h : Nat) : Int) - 1), .int 4])) = H2 at s2 e2 ⊢
    have x2 := x1.trans s2
    refine ⟨_, rfl, fa, _, 3, _, rfl, rfl, SqT.of (x2 _ _ hfa), atI_nat (j := 3) rfl, _, _, rfl, rfl, by show 2 ≤ sizeLine; decide, fun t3 nt3 => ?_⟩
    have s3 := same_new (o := .tup [V.int (((c.fab.t : Nat) : Int) - 1), .int 3]) nt3
    have e3 : (upd H2 t3 (.tup [V.int (((c.fab.t : Nat) : Int) - 1), .int 3])) t3 = some (.tup (vn [c.fab.t - 1, 3])) := by
      rw [upd_same, show ((c.fab.t : Nat) : Int) - 1 = ((c.fab.t - 1 : Nat) : Int) by omega]
      rfl
    generalize (upd H2 t3 (.tup [V.int (((c.fab.t : Nat) : Int) - 1), .int 3])) = H3 at s3 e3 ⊢
    have x3 := x2.trans s3
    refine ⟨_, rfl, fa, _, 4, _, rfl, rfl, SqT.of (x3 _ _ hfa), atI_nat (j := 4) rfl, _, _, rfl, rfl, by show 2 ≤ sizeLine; decide, fun t4 nt4 => ?_⟩
    have s4 := same_new (o := .tup [V.int (((c.fab.p : Nat) : Int) - 1), .int 2]) nt4
    have e4 : (upd H3 t4 (.tup [V.int (((c.fab.p : Nat) : Int) - 1), .int 2])) t4 = some (.tup (vn [c.fab.p - 1, 2])) := by
      rw [upd_same, show ((c.fab.p : Nat) : Int) - 1 = ((c.fab.p - 1 : Nat) : Int) by omega]
      rfl
    generalize (upd H3 t4 (.tup [V.int (((c.fab.p : Nat) : Int) - 1), .int 2])) = H4 at s4 e4 ⊢
    have x4 := x3.trans s4
    refine ⟨_, rfl, a, _, 3, _, rfl, rfl, SqT.of (x4 _ _ ha), atI_nat (j := 3) rfl, ia, _, rfl, .inl (SqL.of (x4 _ _ hia)), by show 2 ≤ sizeLine; decide, fun t5 nt5 => ?_⟩
    rw [lui]
    have s5 := same_new (o := .tup [V.int ((c.ins.length : Nat) : Int), .int 7]) nt5
    have e5 : (upd H4 t5 (.tup [V.int ((c.ins.length : Nat) : Int), .int 7])) t5 = some (.tup (vn [c.ins.length, 7])) := upd_same
    generalize (upd H4 t5 (.tup [V.int ((c.ins.length : Nat) : Int), .int 7])) = H5 at s5 e5 ⊢
    have x5 := x4.trans s5
    refine ⟨_, rfl, a, _, 4, _, rfl, rfl, SqT.of (x5 _ _ ha), atI_nat (j := 4) rfl, oa, _, rfl, .inl (SqL.of (x5 _ _ hoa)), by show 2 ≤ sizeLine; decide, fun t6 nt6 => ?_⟩
    rw [luo]
    have s6 := same_new (o := .tup [V.int ((c.outs.length : Nat) : Int), .int 7]) nt6
    have e6 : (upd H5 t6 (.tup [V.int ((c.outs.length : Nat) : Int), .int 7])) t6 = some (.tup (vn [c.outs.length, 7])) := upd_same
    generalize (upd H5 t6 (.tup [V.int ((c.outs.length : Nat) : Int), .int 7])) = H6 at s6 e6 ⊢
    refine ⟨by show 6 ≤ sizeLine; decide, fun L nL => ?_⟩
    have s7 := same_new (o := .lst [V.ref t1, .ref t2, .ref t3, .ref t4, .ref t5, .ref t6]) nL
    have hL : (upd H6 L (.lst [V.ref t1, .ref t2, .ref t3, .ref t4, .ref t5, .ref t6])) L = some (.lst [V.ref t1, .ref t2, .ref t3, .ref t4, .ref t5, .ref t6]) := upd_same
    generalize (upd H6 L (.lst [V.ref t1, .ref t2, .ref t3, .ref t4, .ref t5, .ref t6])) = H7 at s7 hL ⊢
    have b7 := s6.trans s7
    have b6 := s5.trans b7
    have b5 := s4.trans b6
    have b4 := s3.trans b5
    have b3 := s2.trans b4
    have b2 := s1.trans b3
    have x7 := s0.trans b2
    have hB7 := b2 _ _ hB
    have tt : ∀ (i : Nat) (w : V), ([V.ref t1, .ref t2, .ref t3, .ref t4, .ref t5, .ref t6] : List V)[i]? = some w → ∃ t, w = .ref t ∧ H7 t = some (.tup (vn [[c.fab.w - 1, c.fab.h - 1, c.fab.t - 1, c.fab.p - 1, c.ins.length, c.outs.length][i]?.getD 0, [4, 4, 3, 2, 7, 7][i]?.getD 0])) ∧ i < 6 := fun i w h => by
      have il := (List.getElem?_eq_some_iff.mp h).1
      have : i = 0 ∨ i = 1 ∨ i = 2 ∨ i = 3 ∨ i = 4 ∨ i = 5 := by
        have : i < 6 := il
        omega
      rcases this with rfl | rfl | rfl | rfl | rfl | rfl <;> cases h
      · exact ⟨_, rfl, b3 _ _ e1, by decide⟩
      · exact ⟨_, rfl, b4 _ _ e2, by decide⟩
      · exact ⟨_, rfl, b5 _ _ e3, by decide⟩
      · exact ⟨_, rfl, b6 _ _ e4, by decide⟩
      · exact ⟨_, rfl, b7 _ _ e5, by decide⟩
      · exact ⟨_, rfl, s7 _ _ e6, by decide⟩
    have wb : ∀ i : Nat, ([4, 4, 3, 2, 7, 7] : List Nat)[i]?.getD 0 ≤ 7 := fun i => by
      by_cases h : i < 6
      · have : i = 0 ∨ i = 1 ∨ i = 2 ∨ i = 3 ∨ i = 4 ∨ i = 5 := by omega
        rcases this with rfl | rfl | rfl | rfl | rfl | rfl <;> decide
      · rw [List.getElem?_eq_none (by show 6 ≤ i; omega)]
        decide
    clear e1 e2 e3 e4 e5 e6 s1 s2 s3 s4 s5 s6 s7 x1 x2 x3 x4 x5 b2 b3 b4 b5 b6 b7 nt1 nt2 nt3 nt4 nt5 nt6
    refine ⟨L, rfl, ⟨_, SqL.of hL⟩, for_list (xs := [V.ref t1, .ref t2, .ref t3, .ref t4, .ref t5, .ref t6]) (fun i σ Hx => ∃ (y3 y4 : Option V) (B : Addr), σ = [some (.ref a), some (.ref fa), some (.ref B), y3, y4, none, none, none, none, none, none] ∧ Same H7 Hx ∧ Hx B = some (.lst (vn ((List.range i).map fun i => bt ([c.fab.w - 1, c.fab.h - 1, c.fab.t - 1, c.fab.p - 1, c.ins.length, c.outs.length][i]?.getD 0) ([4, 4, 3, 2, 7, 7][i]?.getD 0)).flatten))) ⟨none, none, B, rfl, Same.refl _, hB7⟩ (fun i σ Hx _ h => ?_) ?_ ?_⟩
    · obtain ⟨_, _, _, _, sx, _⟩ := h
      exact SqL.of (sx _ _ hL)
    · rintro i w σ Hx hw ⟨y3, y4, B, rfl, sx, hx⟩
      obtain ⟨t, rfl, ht, i6⟩ := tt i w hw
      have lb := flat_len (f := fun i => bt ([c.fab.w - 1, c.fab.h - 1, c.fab.t - 1, c.fab.p - 1, c.ins.length, c.outs.length][i]?.getD 0) ([4, 4, 3, 2, 7, 7][i]?.getD 0)) (B := 7) i fun j _ => by
        rw [bt_len]
        exact wb j
      have wi := wb i
      refine ⟨t, _, rfl, SqT.of (sx _ _ ht), rfl, _, _, rfl, _, _, rfl, rfl, ?_⟩
      refine ⟨_, rfl, _, rfl, _, rfl, _, _, rfl, by omega, fun H8 l s8 nl hl => ⟨B, l, _, _, rfl, rfl, s8 _ _ hx, hl, by rw [vn_len, vn_len, bt_len]; exact Nat.le_of_lt (small64k (by omega)), fun Z nZ => ?_⟩⟩
      refine ⟨_, _, Z, rfl, sx.trans (s8.trans (same_new nZ)), ?_⟩
      rw [upd_same, vn_cat, flat_step]
    clear tt wb hB hB7
    rintro σ H8 ⟨y3, y4, B, rfl, s8, hB⟩
    have hB : H8 B = some (.lst (vn (headB c))) := hB
    have x8 := x7.trans s8
    -- the settings
    refine ⟨_, rfl, a, _, 2, _, rfl, rfl, SqT.of (x8 _ _ ha), atI_nat (j := 2) rfl, sa, rfl, ⟨_, SqL.of (x8 _ _ hsa)⟩, for_list (xs := us) (fun i σ Hx => ∃ (y5 y6 : Option V) (B : Addr), σ = [some (.ref a), some (.ref fa), some (.ref B), y3, y4, y5, y6, none, none, none, none] ∧ Same H Hx ∧ Hx B = some (.lst (vn (headB c ++ ((c.set.take i).map (settB c.fab)).flatten)))) ⟨none, none, B, rfl, x8, by rw [hB, List.take_zero]; show _ = some (HO.lst (vn (headB c ++ []))); rw [List.append_nil]⟩ (fun i σ Hx _ h => ?_) ?_ ?_⟩
    · obtain ⟨_, _, _, _, sx, _⟩ := h
      exact SqL.of (sx _ _ hsa)
    · rintro i w σ Hx hw ⟨y5, y6, B, rfl, sx, hx⟩
      obtain ⟨s, es, ds⟩ := dus.at hw
      have sok := ok.set s (List.mem_of_getElem? es)
      have il : i < c.set.length := (List.getElem?_eq_some_iff.mp es).1
      have pf := part_few ok (i := i) (by omega)
      obtain ⟨b, tl, dl, rfl, hb, htl, hdl⟩ := sett_inv ds
      refine ⟨_, rfl, _, rfl, b, _, 1, _, rfl, rfl, SqT.of (sx _ _ hb), atI_nat (j := 1) rfl, by show 4 ≤ sizeLine; decide, fun L nL => ?_⟩
      have s1 := same_new (o := .lst (vn [2, 4, 8, 16])) nL
      have y1 := sx.trans s1
      refine ⟨_, rfl, fa, _, 4, _, rfl, rfl, SqT.of (y1 _ _ hfa), atI_nat (j := 4) rfl, _, _, rfl, rfl, L, _, _, .int ((2 ^ c.fab.p : Nat) : Int), rfl, rfl, SqL.of upd_same, ?_, s.table, 2 ^ c.fab.p, rfl, by omega, fun H2 l s2 nl hl => ?_⟩
      · rw [show ((c.fab.p : Nat) : Int) - 1 = ((c.fab.p - 1 : Nat) : Int) by omega]
        refine atI_nat ?_
        generalize c.fab.p = t at g4 p1
        have : t = 1 ∨ t = 2 ∨ t = 3 ∨ t = 4 := by omega
        rcases this with rfl | rfl | rfl | rfl <;> decide
      have y2 := y1.trans s2
      refine ⟨B, l, _, _, rfl, rfl, (s1.trans s2) _ _ hx, hl, by rw [vn_len, vn_len, bt_len]; exact Nat.le_of_lt (small64k (by omega)), fun Z nZ => ?_⟩
      rw [vn_cat]
      have s3 := same_new (o := .lst (vn (headB c ++ ((c.set.take i).map (settB c.fab)).flatten ++ bt s.table (2 ^ c.fab.p)))) nZ
      have hZ : (upd H2 Z (.lst (vn (headB c ++ ((c.set.take i).map (settB c.fab)).flatten ++ bt s.table (2 ^ c.fab.p))))) Z = some (.lst (vn (headB c ++ ((c.set.take i).map (settB c.fab)).flatten ++ bt s.table (2 ^ c.fab.p)))) := upd_same
      generalize (upd H2 Z (.lst (vn (headB c ++ ((c.set.take i).map (settB c.fab)).flatten ++ bt s.table (2 ^ c.fab.p))))) = H3 at s3 hZ ⊢
      have y3' := y2.trans s3
      refine ⟨_, rfl, b, _, 2, _, rfl, rfl, SqT.of (y3' _ _ hb), atI_nat (j := 2) rfl, _, rfl, b, _, 3, _, rfl, rfl, SqT.of (y3' _ _ hb), atI_nat (j := 3) rfl, by show 2 ≤ sizeLine; decide, fun Y nY => ?_⟩
      have s4 := same_new (o := .lst [V.int (s.kept : Nat), .int (s.start : Nat)]) nY
      refine ⟨Z, Y, _, _, rfl, rfl, s4 _ _ hZ, upd_same, by rw [vn_len, List.length_append, bt_len]; exact Nat.le_of_lt (small64k (by show _ + 2 ≤ _; omega)), fun X nX => ?_⟩
      have s5 := same_new (o := .lst (vn (headB c ++ ((c.set.take i).map (settB c.fab)).flatten ++ bt s.table (2 ^ c.fab.p)) ++ [V.int (s.kept : Nat), .int (s.start : Nat)])) nX
      have hX : (upd (upd H3 Y (.lst [V.int (s.kept : Nat), .int (s.start : Nat)])) X (.lst (vn (headB c ++ ((c.set.take i).map (settB c.fab)).flatten ++ bt s.table (2 ^ c.fab.p)) ++ [V.int (s.kept : Nat), .int (s.start : Nat)]))) X = some (.lst (vn (headB c ++ ((c.set.take i).map (settB c.fab)).flatten ++ (bt s.table (2 ^ c.fab.p) ++ [s.kept, s.start])))) := by
        rw [upd_same]
        show some (HO.lst (vn _ ++ vn [s.kept, s.start])) = _
        rw [vn_cat, List.append_assoc]
      have y5' := y3'.trans (s4.trans s5)
      generalize (upd (upd H3 Y (.lst [V.int (s.kept : Nat), .int (s.start : Nat)])) X (.lst (vn (headB c ++ ((c.set.take i).map (settB c.fab)).flatten ++ bt s.table (2 ^ c.fab.p)) ++ [V.int (s.kept : Nat), .int (s.start : Nat)]))) = H5 at s5 hX y5' ⊢
      clear s1 s2 s3 s4 s5 y1 y2 y3' nL nl nZ nY nX hZ hl
      have l1 : (bt s.table (2 ^ c.fab.p) ++ [s.kept, s.start]).length ≤ 18 := by
        rw [List.length_append, bt_len]
        show _ + 2 ≤ 18
        omega
      have se := settB_eq sok
      generalize bt s.table (2 ^ c.fab.p) ++ [s.kept, s.start] = b1 at hX l1 se ⊢
      -- taps
      refine ⟨_, rfl, b, _, 4, _, rfl, rfl, SqT.of (y5' _ _ hb), atI_nat (j := 4) rfl, tl, rfl, ⟨_, SqL.of (y5' _ _ htl)⟩, for_list (xs := vn s.taps) (fun k σ Hx => ∃ (y6 : Option V) (B : Addr), σ = [some (.ref a), some (.ref fa), some (.ref B), y3, y4, some (.ref b), y6, none, none, none, none] ∧ Same H Hx ∧ Hx B = some (.lst (vn (headB c ++ ((c.set.take i).map (settB c.fab)).flatten ++ b1 ++ ((s.taps.take k).map fun x => bt x (tapB c.fab.t)).flatten)))) ⟨y6, X, rfl, y5', by rw [hX, List.take_zero]; show _ = some (HO.lst (vn (_ ++ []))); rw [List.append_nil]⟩ (fun k σ Hx _ h => ?_) ?_ ?_⟩
      · obtain ⟨_, _, _, sx, _⟩ := h
        exact SqL.of (sx _ _ htl)
      · rintro k w σ Hx hw ⟨y6, B, rfl, sx, hx⟩
        obtain ⟨x, ex, rfl, xm⟩ := nat_at' hw
        have fw := few_map (w := tapB c.fab.t) (i := k) (n := 4) (by rw [sok.taps]; exact p1)
        refine ⟨_, rfl, _, rfl, _, rfl, .ref fa, c.fab, rfl, Dv.fab (sx _ _ hfa), g3, q1, fun H6 s6 => ⟨x, tapB c.fab.t, rfl, by omega, fun H7 l s7 nl hl => ⟨B, l, _, _, rfl, rfl, (s6.trans s7) _ _ hx, hl, by rw [vn_len, vn_len, List.length_append, List.length_append, bt_len]; exact Nat.le_of_lt (small64k (by omega)), fun Z nZ => ⟨_, Z, rfl, sx.trans (s6.trans (s7.trans (same_new nZ))), ?_⟩⟩⟩⟩
        rw [upd_same, vn_cat, flat_take ex, List.append_assoc]
      clear hX y5'
      rintro σ H6 ⟨y6, B, rfl, s6, hB6⟩
      rw [vn_len, List.take_length] at hB6
      have l2 : (s.taps.map fun x => bt x (tapB c.fab.t)).flatten.length ≤ 24 := by
        rw [flat_map_len fun x _ => bt_len x _, sok.taps]
        exact Nat.mul_le_mul p1 tb
      generalize (s.taps.map fun x => bt x (tapB c.fab.t)).flatten = b2 at hB6 l2 se
      -- drives
      refine ⟨_, rfl, b, _, 5, _, rfl, rfl, SqT.of (s6 _ _ hb), atI_nat (j := 5) rfl, dl, rfl, ⟨_, SqL.of (s6 _ _ hdl)⟩, for_list (xs := vn s.drv) (fun k σ Hx => ∃ (y6 : Option V) (B : Addr), σ = [some (.ref a), some (.ref fa), some (.ref B), y3, y4, some (.ref b), y6, none, none, none, none] ∧ Same H Hx ∧ Hx B = some (.lst (vn (headB c ++ ((c.set.take i).map (settB c.fab)).flatten ++ b1 ++ b2 ++ ((s.drv.take k).map fun x => bt x 3).flatten)))) ⟨y6, B, rfl, s6, by rw [hB6, List.take_zero]; show _ = some (HO.lst (vn (_ ++ []))); rw [List.append_nil]⟩ (fun k σ Hx _ h => ?_) ?_ ?_⟩
      · obtain ⟨_, _, _, sx, _⟩ := h
        exact SqL.of (sx _ _ hdl)
      · rintro k w σ Hx hw ⟨y6, B, rfl, sx, hx⟩
        obtain ⟨x, ex, rfl, xm⟩ := nat_at' hw
        have fw := few_map (w := 3) (i := k) (n := 32) (xs := s.drv) (by rw [sok.drv]; omega)
        refine ⟨_, rfl, _, rfl, x, 3, rfl, by decide, fun H7 l s7 nl hl => ⟨B, l, _, _, rfl, rfl, s7 _ _ hx, hl, by rw [vn_len, vn_len, List.length_append, List.length_append, List.length_append, bt_len]; exact Nat.le_of_lt (small64k (by omega)), fun Z nZ => ⟨_, Z, rfl, sx.trans (s7.trans (same_new nZ)), ?_⟩⟩⟩
        rw [upd_same, vn_cat, flat_take ex, List.append_assoc]
      rintro σ H7 ⟨y6, B, rfl, s7, hB7⟩
      rw [vn_len, List.take_length] at hB7
      refine ⟨_, _, B, rfl, s7, ?_⟩
      rw [hB7, wr_take es, se]
      simp only [List.append_assoc]
    clear hB
    rintro σ H9 ⟨y5, y6, B, rfl, s9, hB⟩
    have lus := dus.len
    rw [lus, List.take_length] at hB
    have pf := part_few ok (Nat.le_refl _)
    rw [List.take_length] at pf
    -- the ends
    refine ⟨_, rfl, a, _, 3, _, rfl, rfl, SqT.of (s9 _ _ ha), atI_nat (j := 3) rfl, _, rfl, a, _, 4, _, rfl, rfl, SqT.of (s9 _ _ ha), atI_nat (j := 4) rfl, ia, oa, _, _, rfl, rfl, s9 _ _ hia, s9 _ _ hoa, by rw [lui, luo]; exact Nat.le_of_lt (small64k (by omega)), fun J nJ => ?_⟩
    have s7 := same_new (o := .lst (ui ++ uo)) nJ
    have hJ : (upd H9 J (.lst (ui ++ uo))) J = some (.lst (ui ++ uo)) := upd_same
    have hB7 := s7 _ _ hB
    have s67 := s9.trans s7
    generalize (upd H9 J (.lst (ui ++ uo))) = HJ at s7 hJ hB7 s67 ⊢
    have dio : Dvs H (ui ++ uo) (c.ins ++ c.outs) := dui.app duo
    generalize eqb : headB c ++ (c.set.map (settB c.fab)).flatten = bs at hB hB7 pf
    refine ⟨J, rfl, ⟨_, SqL.of hJ⟩, for_list (xs := ui ++ uo) (fun i σ Hx => ∃ (y7 y8 y9 y10 : Option V) (B : Addr), σ = [some (.ref a), some (.ref fa), some (.ref B), y3, y4, y5, y6, y7, y8, y9, y10] ∧ Same HJ Hx ∧ Hx B = some (.lst (vn (bs ++ (((c.ins ++ c.outs).take i).map padB).flatten)))) ⟨none, none, none, none, B, rfl, Same.refl _, by rw [hB7, List.take_zero]; show _ = some (HO.lst (vn (_ ++ []))); rw [List.append_nil]⟩ (fun i σ Hx _ h => ?_) ?_ ?_⟩
    · obtain ⟨_, _, _, _, _, _, sx, _⟩ := h
      exact SqL.of (sx _ _ hJ)
    · rintro i w σ Hx hw ⟨y7, y8, y9, y10, B, rfl, sx, hx⟩
      obtain ⟨e, ee, de⟩ := dio.at hw
      obtain ⟨b, rfl, hb⟩ := pad_inv de
      have lp : (((c.ins ++ c.outs).take i).map padB).flatten.length ≤ 128 * 13 := by
        rw [flat_map_len fun e _ => padB_len e, List.length_take]
        refine Nat.mul_le_mul_right _ (Nat.le_trans (Nat.min_le_right _ _) ?_)
        rw [List.length_append]
        omega
      have pe := padB_eq e
      generalize eq0 : bs ++ (((c.ins ++ c.outs).take i).map padB).flatten = b0 at hx
      have lb0 : b0.length ≤ 32000 := by
        rw [← eq0, List.length_append]
        omega
      refine ⟨b, _, rfl, SqT.of (sx _ _ (s67 _ _ hb)), rfl, _, _, rfl, _, _, rfl, _, _, rfl, _, _, rfl, rfl, ?_⟩
      refine ⟨_, rfl, _, rfl, e.x, 4, rfl, by decide, fun H1 l1 s1 nl1 hl1 => ⟨B, l1, _, _, rfl, rfl, s1 _ _ hx, hl1, by rw [vn_len, vn_len, bt_len]; exact Nat.le_of_lt (small64k (by omega)), fun Z1 nZ1 => ?_⟩⟩
      rw [vn_cat]
      have z1 := s1.trans (same_new (o := .lst (vn (b0 ++ bt e.x 4))) nZ1)
      have hZ1 : (upd H1 Z1 (.lst (vn (b0 ++ bt e.x 4)))) Z1 = some (.lst (vn (b0 ++ bt e.x 4))) := upd_same
      generalize (upd H1 Z1 (.lst (vn (b0 ++ bt e.x 4)))) = H2 at z1 hZ1 ⊢
      refine ⟨_, rfl, e.y, 4, rfl, by decide, fun H3 l2 s2 nl2 hl2 => ⟨Z1, l2, _, _, rfl, rfl, s2 _ _ hZ1, hl2, by rw [vn_len, vn_len, List.length_append, bt_len, bt_len]; exact Nat.le_of_lt (small64k (by omega)), fun Z2 nZ2 => ?_⟩⟩
      rw [vn_cat]
      have z2 := s2.trans (same_new (o := .lst (vn (b0 ++ bt e.x 4 ++ bt e.y 4))) nZ2)
      have hZ2 : (upd H3 Z2 (.lst (vn (b0 ++ bt e.x 4 ++ bt e.y 4)))) Z2 = some (.lst (vn (b0 ++ bt e.x 4 ++ bt e.y 4))) := upd_same
      generalize (upd H3 Z2 (.lst (vn (b0 ++ bt e.x 4 ++ bt e.y 4)))) = H4 at z2 hZ2 ⊢
      refine ⟨_, rfl, e.s, 2, rfl, by decide, fun H5 l3 s3 nl3 hl3 => ⟨Z2, l3, _, _, rfl, rfl, s3 _ _ hZ2, hl3, by rw [vn_len, vn_len, List.length_append, List.length_append, bt_len, bt_len, bt_len]; exact Nat.le_of_lt (small64k (by omega)), fun Z3 nZ3 => ?_⟩⟩
      rw [vn_cat]
      have z3 := s3.trans (same_new (o := .lst (vn (b0 ++ bt e.x 4 ++ bt e.y 4 ++ bt e.s 2))) nZ3)
      have hZ3 : (upd H5 Z3 (.lst (vn (b0 ++ bt e.x 4 ++ bt e.y 4 ++ bt e.s 2)))) Z3 = some (.lst (vn (b0 ++ bt e.x 4 ++ bt e.y 4 ++ bt e.s 2))) := upd_same
      generalize (upd H5 Z3 (.lst (vn (b0 ++ bt e.x 4 ++ bt e.y 4 ++ bt e.s 2)))) = H6 at z3 hZ3 ⊢
      refine ⟨_, rfl, e.k, 3, rfl, by decide, fun H7 l4 s4 nl4 hl4 => ⟨Z3, l4, _, _, rfl, rfl, s4 _ _ hZ3, hl4, by rw [vn_len, vn_len, List.length_append, List.length_append, List.length_append, bt_len, bt_len, bt_len, bt_len]; exact Nat.le_of_lt (small64k (by omega)), fun Z4 nZ4 => ?_⟩⟩
      rw [vn_cat]
      refine ⟨_, _, _, _, Z4, rfl, sx.trans (z1.trans (z2.trans (z3.trans (s4.trans (same_new nZ4))))), ?_⟩
      rw [upd_same, pd_take ee, pe, ← eq0]
      simp only [List.append_assoc]
    rintro σ H8' ⟨y7, y8, y9, y10, B, rfl, s8', h8⟩
    have lio := dio.len
    rw [lio, List.take_length, show bs ++ ((c.ins ++ c.outs).map padB).flatten = body c by rw [← eqb]; rfl] at h8
    have s8 := s67.trans s8'
    have few2 := few
    unfold enc at few2
    rw [List.length_append] at few2
    refine ⟨_, rfl, _, rfl, B, body c, rfl, h8, body_two c, by omega, fun H9' l s9' nl hl => ⟨B, l, _, _, rfl, rfl, s9' _ _ h8, hl, by rw [vn_len, vn_len]; exact Nat.le_of_lt (small64k (by omega)), fun Z nZ => ?_⟩⟩
    have sz := s8.trans s9'
    refine q _ Z (sz.trans (same_new nZ)) (none_of sz nZ) ?_
    rw [upd_same, vn_cat]
    rfl

end K57
namespace K57
open PySem PySem.Spec PyProof.Rows L2 V0
/-! ### numbers of bits, worked out anew -/
theorem num_cons (bs : List Nat) (a : Nat) : ∀ w, num bs a (w + 1) = bs[a]?.getD 0 + 2 * num bs (a + 1) w
  | 0 => by
    rw [num_step]
    show 0 + _ * 2 ^ 0 = _ + 2 * 0
    rw [Nat.add_zero]
    omega
  | w + 1 => by
    rw [num_step, num_cons bs a w, num_step bs (a + 1) w, Nat.pow_succ, show a + (w + 1) = a + 1 + w by omega, Nat.mul_add, Nat.mul_comm (2 ^ w) 2, Nat.mul_left_comm, Nat.add_assoc]
theorem cut_neg_from (xs : List V) (n : Nat) (h : 0 < n) : cutV xs (some (-((n : Nat) : Int))) none = xs.drop (xs.length - n) := by
  unfold cutV
  have e : HT.sIx xs.length 0 (some (-((n : Nat) : Int))) = xs.length - n := by
    show (if -((n : Nat) : Int) < 0 then (-((n : Nat) : Int) + (xs.length : Int)).toNat else min (-((n : Nat) : Int)).toNat xs.length) = _
    rw [if_pos (by omega)]
    omega
  rw [HT.sIx_none, e, List.take_of_length_le (by rw [List.length_drop]; exact Nat.le_refl _)]
theorem cut_neg_to (xs : List V) (n : Nat) (h : 0 < n) : cutV xs none (some (-((n : Nat) : Int))) = xs.take (xs.length - n) := by
  unfold cutV
  have e : HT.sIx xs.length xs.length (some (-((n : Nat) : Int))) = xs.length - n := by
    show (if -((n : Nat) : Int) < 0 then (-((n : Nat) : Int) + (xs.length : Int)).toNat else min (-((n : Nat) : Int)).toNat xs.length) = _
    rw [if_pos (by omega)]
    omega
  rw [HT.sIx_none, e, List.drop_zero, Nat.sub_zero]
theorem vn_rev (xs : List Nat) : (vn xs).reverse = vn xs.reverse := by
  unfold vn
  rw [List.map_reverse]
def sp__law_number (K : PySem.W.Frag) : Sp := fun vs H Q _ => ∃ (a : Addr) (bs : List Nat) (at_ size : Nat), vs = [.ref a, .int (at_ : Nat), .int (size : Nat)] ∧ H a = some (.lst (vn bs)) ∧ (∀ b ∈ bs, b < 2) ∧ bs.length ≤ 60000 ∧ size ≤ 60 ∧ at_ + size ≤ bs.length ∧ ∀ H', Same H H' → Q (.int (num bs at_ size : Nat)) H'
theorem ok__law_number {P : Program} {w : World} {K : PySem.W.Frag} {mg : Str → Option Value} {base : Heap} {C_BitsError fI_BitsError : Addr} {fd_BitsError : FuncData} {B_ : Addr} {mc_ : Value} {O_FitError : Addr} {O_TextError : Addr} {tk_MOST_PLACES : Tok} {tk_MOST_TRACKS : Tok} {tk_MOST_PINS : Tok} {tk_MOST_ENDS : Tok} {tk_HEAD_BITS : Tok} {tk_END_BITS : Tok} {tk_SUM_BITS : Tok} {tk_DRIVE_BITS : Tok} {a_HEAD : Addr} {a_END : Addr} {a_STEPS_0 : Addr} {a_STEPS_1 : Addr} {a_STEPS_2 : Addr} {a_STEPS_3 : Addr} {a_STEPS : Addr} {f  : Addr} {fd  : FuncData} (F : Fun K "_law_number" "_law_number" s__law_number f fd) (T : Txt K mg C_BitsError fI_BitsError fd_BitsError B_ mc_ O_FitError O_TextError tk_MOST_PLACES tk_MOST_TRACKS tk_MOST_PINS tk_MOST_ENDS tk_HEAD_BITS tk_END_BITS tk_SUM_BITS tk_DRIVE_BITS a_HEAD a_END a_STEPS_0 a_STEPS_1 a_STEPS_2 a_STEPS_3 a_STEPS) :
    FnOk P w K mg base CX0 1 f fd ["bits", "at", "size"] (sp__law_number K) := by
  refine F.ok sc_law_number (fun vs H Q E h => ?_) (fun cdv A outer s0 H vs Q E hr h => ?_)
  · obtain ⟨a, bs, at_, size, rfl, _⟩ := h
    rfl
  · obtain ⟨a, bs, at_, size, rfl, ha, b2, few, s60, fit, q⟩ := h
    refine ⟨_, (pss_cons (ps_set (i := 3) sc_law_number.nd rfl (.inl rfl) pe_int)
      (pss_cons (ps_for PassesOwn.never rfl (pi_list (pe_revL (pe_slice sl_list (pv 0) (po_some (pv 1)) (po_some (pe_op op_add (pv 1) (pv 2)))))) (pg_name (i := 4) sc_law_number.nd rfl (Or.inl rfl)) (pss_one (ps_set (i := 3) sc_law_number.nd rfl (.inl rfl) (pe_op op_add (pe_op op_mul pe_int (pv 3)) (pv 4)))))
      (pss_one (ps_ret (pv 3))))), ?_⟩
    refine ⟨_, rfl, _, rfl, _, rfl, _, rfl, _, rfl, _, _, rfl, rfl, _, rfl, a, _, rfl, SqL.of ha, fun S nS => ?_⟩
    rw [show ((at_ : Nat) : Int) + ((size : Nat) : Int) = ((at_ + size : Nat) : Int) by omega, cut_nn bs (by omega) (by omega), Nat.add_sub_cancel_left]
    have s1 := same_new (o := .lst (vn ((bs.drop at_).take size))) nS
    have hS : (upd H S (.lst (vn ((bs.drop at_).take size)))) S = some (.lst (vn ((bs.drop at_).take size))) := upd_same
    generalize (upd H S (.lst (vn ((bs.drop at_).take size)))) = H1 at s1 hS ⊢
    refine ⟨S, _, rfl, SqL.of hS, fun R nR => ?_⟩
    rw [vn_rev]
    have s2 := same_new (o := .lst (vn ((bs.drop at_).take size).reverse)) nR
    have hR : (upd H1 R (.lst (vn ((bs.drop at_).take size).reverse))) R = some (.lst (vn ((bs.drop at_).take size).reverse)) := upd_same
    generalize (upd H1 R (.lst (vn ((bs.drop at_).take size).reverse))) = H2 at s2 hR ⊢
    have s12 := s1.trans s2
    have ll : ((bs.drop at_).take size).length = size := by
      rw [List.length_take, List.length_drop]
      omega
    refine ⟨R, rfl, ⟨_, SqL.of hR⟩, for_list (xs := vn ((bs.drop at_).take size).reverse) (fun i σ Hx => ∃ y4 : Option V, σ = [some (.ref a), some (.int (at_ : Nat)), some (.int (size : Nat)), some (.int (num bs (at_ + (size - i)) i : Nat)), y4] ∧ Same H Hx ∧ Same H2 Hx) ⟨none, rfl, s12, Same.refl _⟩ (fun i σ Hx _ h => ?_) ?_ ?_⟩
    · obtain ⟨_, _, _, sx⟩ := h
      exact SqL.of (sx _ _ hR)
    · rintro i w σ Hx hw ⟨y4, rfl, sx, sx2⟩
      obtain ⟨x, ex, rfl, xm⟩ := nat_at' hw
      have il : i < size := by
        have := (List.getElem?_eq_some_iff.mp ex).1
        rw [List.length_reverse, ll] at this
        exact this
      have ex2 : x = bs[at_ + (size - (i + 1))]?.getD 0 := by
        rw [List.getElem?_reverse (by rw [ll]; exact il), ll, List.getElem?_take, if_pos (by omega), List.getElem?_drop] at ex
        rw [show at_ + (size - (i + 1)) = at_ + (size - 1 - i) by omega, ex]
        rfl
      have lt := num_lt b2 (at_ + (size - i)) i
      have le : (2 : Nat) ^ i ≤ 2 ^ 60 := Nat.pow_le_pow_right (by decide) (by omega)
      have big : (2 : Nat) ^ 60 = 1152921504606846976 := by decide
      refine ⟨_, rfl, _, _, rfl, rfl, .inl ⟨by omega, by omega⟩, _, rfl, _, _, rfl, rfl, some (.int (x : Nat)), ?_, sx, sx2⟩
      have e : (2 : Int) * ((num bs (at_ + (size - i)) i : Nat) : Int) + ((x : Nat) : Int) = ((num bs (at_ + (size - (i + 1))) (i + 1) : Nat) : Int) := by
        rw [num_cons, ← ex2, show at_ + (size - (i + 1)) + 1 = at_ + (size - i) by omega]
        omega
      rw [← e]
      rfl
    rintro σ Hx ⟨y4, rfl, sx, _⟩
    rw [vn_len, List.length_reverse, ll, Nat.sub_self, Nat.add_zero]
    exact ⟨_, rfl, q Hx sx⟩
/-! ### pads that are right -/
structure Side where
  x : Nat
  y : Nat
  s : Nat
  deriving DecidableEq
instance : PySem.W.Datum Side where
  toD n := .tuple [PySem.W.Datum.toD n.x, PySem.W.Datum.toD n.y, PySem.W.Datum.toD n.s]
  plain n := by simp only [PyData.plain, PyData.plainAll, PySem.W.Datum.plain, Bool.and_self]
  eqv a b := by
    simp only [PyData.eqv, PyData.eqvAll, PySem.W.Datum.eqv, Bool.and_true]
    rw [← Bool.decide_and, ← Bool.decide_and]
    refine decide_eq_decide.mpr ⟨fun ⟨h1, h2, h3⟩ => ?_, fun e => by rw [e]; exact ⟨rfl, rfl, rfl⟩⟩
    cases a
    cases b
    simp only at h1 h2 h3
    rw [h1, h2, h3]
  depth := 1
  depth_le n := by
    have h1 := PySem.W.Datum.depth_le n.x
    have e1 : PySem.W.Datum.depth (Nat) = 0 := rfl
    rw [e1] at h1
    have h2 := PySem.W.Datum.depth_le n.y
    rw [e1] at h2
    have h3 := PySem.W.Datum.depth_le n.s
    rw [e1] at h3
    simp only [PyData.depth, PyData.depthAll]
    omega
instance : Dm Side where
  lay n := by
    have h1 := Dm.lay n.x
    have h2 := Dm.lay n.y
    have h3 := Dm.lay n.s
    simp only [PySem.W.Datum.toD] at h1 h2 h3 ⊢
    simp only [PyData.canLay0, PyData.canLayAll0, Bool.and_true] at h1 h2 h3 ⊢
theorem Dv.side {H : Hp} {a : Addr} {x y s : Nat} (h : H a = some (.tup [.int (x : Nat), .int (y : Nat), .int (s : Nat)])) : Dv H (.ref a) (⟨x, y, s⟩ : Side) := Dh.tup h (.cons (.int _) (.cons (.int _) (.cons (.int _) .nil)))
theorem side_inv {H : Hp} {t : Addr} {x y s : Nat} {e : Side} (h : Dv H (.ref t) e) (ht : H t = some (.tup [.int (x : Nat), .int (y : Nat), .int (s : Nat)])) : e = ⟨x, y, s⟩ := by
  obtain ⟨a, us, e0, ha, hx⟩ := dh_tup h
  cases e0
  rw [ht] at ha
  obtain ⟨v1, r1, rfl, h1, hx⟩ := dha_cons hx
  obtain ⟨v2, r2, rfl, h2, hx⟩ := dha_cons hx
  obtain ⟨v3, r3, rfl, h3, hx⟩ := dha_cons hx
  cases dha_nil hx
  cases h1
  cases h2
  cases h3
  cases e
  simp only [Option.some.injEq, HO.tup.injEq, List.cons.injEq, V.int.injEq, Int.ofNat.injEq, Int.natCast_inj, and_true] at ha
  obtain ⟨a1, a2, a3⟩ := ha
  rw [a1, a2, a3]
theorem sides_data {H : Hp} {f : Fab} : ∀ {us : List V}, (∀ v ∈ us, SideAt H f v) → ∃ ss : List Side, Dvs H us ss ∧ ∀ e ∈ ss, e.x < f.w ∧ e.y < f.h ∧ e.s < 4 ∧ Bord f e.x e.y e.s
  | [], _ => ⟨[], .nil, fun e h => by cases h⟩
  | v :: us, good => by
    obtain ⟨ss, d, g⟩ := sides_data (us := us) fun v hv => good v (List.mem_cons_of_mem _ hv)
    obtain ⟨t, x, y, s, rfl, ht, r⟩ := (good v List.mem_cons_self).ex
    refine ⟨⟨x, y, s⟩ :: ss, .cons (Dv.side ht) d, fun e he => ?_⟩
    rcases List.mem_cons.mp he with rfl | he
    · exact r
    · exact g e he
theorem has_in {H : Hp} {us : List V} {ss : List Side} {x y s : Nat} (d : Dvs H us ss) (h : HasSide H us x y s) : (⟨x, y, s⟩ : Side) ∈ ss := by
  obtain ⟨t, hm, ht⟩ := h
  obtain ⟨i, hi⟩ := List.getElem?_of_mem hm
  obtain ⟨e, he, de⟩ := d.at hi
  rw [← side_inv de ht]
  exact List.mem_of_getElem? he
def sp__law_pad_right (K : PySem.W.Frag) : Sp := fun vs H Q _ => ∃ (fa b : Addr) (f : Fab) (e : Pad), vs = [.ref fa, .ref b] ∧ H fa = some (.tup f.its) ∧ H b = some (.tup e.its) ∧ FabOk f ∧ ∀ H' k, Same H H' → (k = true ↔ PadOk f e) → Q (.bl k) H'
theorem ok__law_pad_right {P : Program} {w : World} {K : PySem.W.Frag} {mg : Str → Option Value} {base : Heap} {C_BitsError fI_BitsError : Addr} {fd_BitsError : FuncData} {B_ : Addr} {mc_ : Value} {O_FitError : Addr} {O_TextError : Addr} {tk_MOST_PLACES : Tok} {tk_MOST_TRACKS : Tok} {tk_MOST_PINS : Tok} {tk_MOST_ENDS : Tok} {tk_HEAD_BITS : Tok} {tk_END_BITS : Tok} {tk_SUM_BITS : Tok} {tk_DRIVE_BITS : Tok} {a_HEAD : Addr} {a_END : Addr} {a_STEPS_0 : Addr} {a_STEPS_1 : Addr} {a_STEPS_2 : Addr} {a_STEPS_3 : Addr} {a_STEPS : Addr} {f f_law_sides : Addr} {fd fd_law_sides : FuncData} (F : Fun K "_law_pad_right" "_law_pad_right" s__law_pad_right f fd) (T : Txt K mg C_BitsError fI_BitsError fd_BitsError B_ mc_ O_FitError O_TextError tk_MOST_PLACES tk_MOST_TRACKS tk_MOST_PINS tk_MOST_ENDS tk_HEAD_BITS tk_END_BITS tk_SUM_BITS tk_DRIVE_BITS a_HEAD a_END a_STEPS_0 a_STEPS_1 a_STEPS_2 a_STEPS_3 a_STEPS)
    (G__law_sides : FnOk P w K mg base CX0 1 f_law_sides fd_law_sides ["fabric"] (sp__law_sides K)) (D__law_sides : Def K mg "_law_sides" f_law_sides fd_law_sides ["fabric"]) :
    FnOk P w K mg base CX0 2 f fd ["fabric", "pad"] (sp__law_pad_right K) := by
  refine F.ok sc_law_pad_right (fun vs H Q E h => ?_) (fun cdv A outer s0 H vs Q E hr h => ?_)
  · obtain ⟨fa, b, f, e, rfl, _⟩ := h
    rfl
  · obtain ⟨fa, b, f, e, rfl, hfa, hb, ok, q⟩ := h
    refine ⟨_, (pss_cons (ps_asg (pv 1) (pg_tup (by rfl) (pgs_cons (pg_name (i := 2) sc_law_pad_right.nd rfl (Or.inl rfl)) (pgs_cons (pg_name (i := 3) sc_law_pad_right.nd rfl (Or.inl rfl)) (pgs_cons (pg_name (i := 4) sc_law_pad_right.nd rfl (Or.inl rfl)) (pgs_cons (pg_name (i := 5) sc_law_pad_right.nd rfl (Or.inl rfl)) pgs_nil))))))
      (pss_one (ps_ret (pe_and (pe_cmpR op_lt (pv 5) (pe_ix (r := rIxT K) ix_tup (pv 0) pe_int (fun _ _ => rfl)) (nomark _)) (pe_one (pe_cmpR (r := rInD K) (op_inD (hu65 hr)) (pe_tup (pa_cons (pv 2) (pa_cons (pv 3) (pa_cons (pv 4) pa_nil)))) (pe_call G__law_sides (hr.mono (by omega)) (by rfl) D__law_sides.m D__law_sides.k D__law_sides.b .nil pass0 (pa_cons (pv 0) pa_nil)) (by rfl))))))), ?_⟩
    refine ⟨_, rfl, b, _, rfl, SqT.of hb, rfl, _, _, rfl, _, _, rfl, _, _, rfl, _, _, rfl, rfl, ?_⟩
    refine ⟨_, rfl, _, rfl, fa, _, 3, _, rfl, rfl, SqT.of hfa, atI_nat (j := 3) rfl, _, _, rfl, rfl, _, rfl, ?_⟩
    by_cases c1 : e.k < f.t
    case neg =>
      rw [decide_eq_false (show ¬ ((e.k : Nat) : Int) < ((f.t : Nat) : Int) by omega)]
      exact iteF (q H false (Same.refl _) ⟨fun h => (by cases h), fun h => absurd h.k c1⟩)
    rw [decide_eq_true (show ((e.k : Nat) : Int) < ((f.t : Nat) : Int) by omega)]
    refine iteT ⟨_, rfl, _, rfl, _, rfl, by show 3 ≤ sizeLine; decide, fun t nt => ?_⟩
    have s1 := same_new (o := .tup [V.int (e.x : Nat), .int (e.y : Nat), .int (e.s : Nat)]) nt
    have ht : (upd H t (.tup [V.int (e.x : Nat), .int (e.y : Nat), .int (e.s : Nat)])) t = some (.tup [V.int (e.x : Nat), .int (e.y : Nat), .int (e.s : Nat)]) := upd_same
    refine ⟨_, rfl, fa, f, rfl, s1 _ _ hfa, ok, fun H2 l us s2 nl hl ne few good all => ?_⟩
    obtain ⟨ss, d, g⟩ := sides_data good
    have dl : Dv H2 (.ref l) ss := Dv.list hl d
    refine ⟨_, _, dh_dp _ _ (Dv.side (s2 _ _ ht)), dh_dp _ _ dl, shaped_of (⟨e.x, e.y, e.s⟩ : Side) (by decide), shaped_of ss (by decide), ?_⟩
    rw [any_in]
    refine q H2 _ (s1.trans s2) ⟨fun h => ?_, fun h => decide_eq_true (has_in d (all _ _ _ h.x h.y h.s h.b))⟩
    obtain ⟨a1, a2, a3, a4⟩ := g _ (of_decide_eq_true h)
    exact ⟨a1, a2, a3, c1, a4⟩

end K57
namespace K57
open PySem PySem.Spec PyProof.Rows L2 V0
/-! ### faults of codes, worked out anew -/
def ofF : Option Nat → Int
  | none => -1
  | some z => (z : Nat)
theorem two_pick {p : Nat} (p0 : 1 ≤ p) (p1 : p ≤ 4) : atI ([.int 2, .int 4, .int 8, .int 16] : List V) (((p : Nat) : Int) - 1) = some (.int ((2 ^ p : Nat) : Int)) := by
  rw [show ((p : Nat) : Int) - 1 = ((p - 1 : Nat) : Int) by omega]
  refine atI_nat ?_
  have : p = 1 ∨ p = 2 ∨ p = 3 ∨ p = 4 := by omega
  rcases this with rfl | rfl | rfl | rfl <;> rfl
theorem new_lst {H : Hp} {a : Addr} {xs : List V} (n : H a = none) : Same H (upd H a (.lst xs)) ∧ (upd H a (.lst xs)) a = some (.lst xs) := ⟨same_new n, upd_same⟩
def sp__law_codes_fault (K : PySem.W.Frag) : Sp := fun vs H Q _ => ∃ (a fa : Addr) (f : Fab) (bs : List Nat), vs = [.ref a, .ref fa, .int ((27 : Nat) : Int)] ∧ H a = some (.lst (vn bs)) ∧ (∀ b ∈ bs, b < 2) ∧ bs.length ≤ 60000 ∧ H fa = some (.tup f.its) ∧ FabOk f ∧ 27 + f.w * f.h * f.setBits ≤ bs.length ∧ ∀ H', Same H H' → Q (.int (ofF (settsF bs f (f.w * f.h)))) H'
theorem ok__law_codes_fault {P : Program} {w : World} {K : PySem.W.Frag} {mg : Str → Option Value} {base : Heap} {C_BitsError fI_BitsError : Addr} {fd_BitsError : FuncData} {B_ : Addr} {mc_ : Value} {O_FitError : Addr} {O_TextError : Addr} {tk_MOST_PLACES : Tok} {tk_MOST_TRACKS : Tok} {tk_MOST_PINS : Tok} {tk_MOST_ENDS : Tok} {tk_HEAD_BITS : Tok} {tk_END_BITS : Tok} {tk_SUM_BITS : Tok} {tk_DRIVE_BITS : Tok} {a_HEAD : Addr} {a_END : Addr} {a_STEPS_0 : Addr} {a_STEPS_1 : Addr} {a_STEPS_2 : Addr} {a_STEPS_3 : Addr} {a_STEPS : Addr} {f f_law_tap f_law_number : Addr} {fd fd_law_tap fd_law_number : FuncData} (F : Fun K "_law_codes_fault" "_law_codes_fault" s__law_codes_fault f fd) (T : Txt K mg C_BitsError fI_BitsError fd_BitsError B_ mc_ O_FitError O_TextError tk_MOST_PLACES tk_MOST_TRACKS tk_MOST_PINS tk_MOST_ENDS tk_HEAD_BITS tk_END_BITS tk_SUM_BITS tk_DRIVE_BITS a_HEAD a_END a_STEPS_0 a_STEPS_1 a_STEPS_2 a_STEPS_3 a_STEPS)
    (G__law_tap : FnOk P w K mg base CX0 1 f_law_tap fd_law_tap ["fabric"] (sp__law_tap K)) (D__law_tap : Def K mg "_law_tap" f_law_tap fd_law_tap ["fabric"])
    (G__law_number : FnOk P w K mg base CX0 1 f_law_number fd_law_number ["bits", "at", "size"] (sp__law_number K)) (D__law_number : Def K mg "_law_number" f_law_number fd_law_number ["bits", "at", "size"]) :
    FnOk P w K mg base CX0 2 f fd ["bits", "fabric", "at"] (sp__law_codes_fault K) := by
  refine F.ok sc_law_codes_fault (fun vs H Q E h => ?_) (fun cdv A outer s0 H vs Q E hr h => ?_)
  · obtain ⟨a, fa, f, bs, rfl, _⟩ := h
    rfl
  · obtain ⟨a, fa, f, bs, rfl, ha, b2, few, hfa, ok, fit, q⟩ := h
    refine ⟨_, (pss_cons (ps_for PassesOwn.never rfl (pi_range1 rfl T.m_range (pa_cons (pe_op op_mul (pe_ix (r := rIxT K) ix_tup (pv 1) pe_int (fun _ _ => rfl)) (pe_ix (r := rIxT K) ix_tup (pv 1) pe_int (fun _ _ => rfl))) pa_nil)) (pg_name (i := 3) sc_law_codes_fault.nd rfl (Or.inl rfl)) (pss_cons (ps_set (i := 2) sc_law_codes_fault.nd rfl (.inl rfl) (pe_op op_add (pe_op op_add (pv 2) (pe_ix (r := rIxL K) ix_list (pe_lst (pa_cons pe_int (pa_cons pe_int (pa_cons pe_int (pa_cons pe_int pa_nil))))) (pe_op op_sub (pe_ix (r := rIxT K) ix_tup (pv 1) pe_int (fun _ _ => rfl)) pe_int) (fun _ _ => rfl))) pe_int))
      (pss_one (ps_for PassesOwn.never rfl (pi_list (pe_lst (pa_cons (pe_tup (pa_cons (pe_call G__law_tap (hr.mono (by omega)) (by rfl) D__law_tap.m D__law_tap.k D__law_tap.b .nil pass0 (pa_cons (pv 1) pa_nil)) (pa_cons (pe_ix (r := rIxT K) ix_tup (pv 1) pe_int (fun _ _ => rfl)) (pa_cons (pe_op op_add (pe_op op_mul pe_int (pe_ix (r := rIxT K) ix_tup (pv 1) pe_int (fun _ _ => rfl))) pe_int) pa_nil)))) (pa_cons (pe_tup (pa_cons pe_int (pa_cons (pe_op op_mul pe_int (pe_ix (r := rIxT K) ix_tup (pv 1) pe_int (fun _ _ => rfl))) (pa_cons pe_int pa_nil)))) pa_nil)))) (pg_tup (by rfl) (pgs_cons (pg_name (i := 4) sc_law_codes_fault.nd rfl (Or.inl rfl)) (pgs_cons (pg_name (i := 5) sc_law_codes_fault.nd rfl (Or.inl rfl)) (pgs_cons (pg_name (i := 6) sc_law_codes_fault.nd rfl (Or.inl rfl)) pgs_nil)))) (pss_one (ps_for PassesOwn.never rfl (pi_range1 rfl T.m_range (pa_cons (pv 5) pa_nil)) (pg_name (i := 7) sc_law_codes_fault.nd rfl (Or.inl rfl)) (pss_cons (ps_if (pt_cmpR op_gt (pe_call G__law_number (hr.mono (by omega)) (by rfl) D__law_number.m D__law_number.k D__law_number.b .nil pass0 (pa_cons (pv 0) (pa_cons (pv 2) (pa_cons (pv 4) pa_nil)))) (pv 6) (nomark _)) (pss_one (ps_ret (pv 2))) pss_nil)
      (pss_one (ps_set (i := 2) sc_law_codes_fault.nd rfl (.inl rfl) (pe_op op_add (pv 2) (pv 4)))))))))))
      (pss_one (ps_ret (pe_un un_neg pe_int)))), ?_⟩
    have w1 := ok.w1
    have h1 := ok.h1
    have p0 := ok.p0
    have p1 := ok.p1
    have t0 := ok.t0
    have t1 := ok.t1
    have tb := tapB_le t1
    have wh := Nat.mul_le_mul w1 h1
    have pm : f.p * tapB f.t ≤ 4 * 6 := Nat.mul_le_mul p1 tb
    have p16 : 2 ^ f.p ≤ 2 ^ 4 := Nat.pow_le_pow_right (by decide) p1
    have ewh : ((f.w : Nat) : Int) * ((f.h : Nat) : Int) = ((f.w * f.h : Nat) : Int) := (Int.natCast_mul ..).symm
    have esb : f.setBits = 2 ^ f.p + 2 + f.p * tapB f.t + 4 * f.t * 3 := rfl
    refine ⟨_, rfl, fa, _, 1, _, rfl, rfl, SqT.of hfa, atI_nat (j := 1) rfl, _, rfl, fa, _, 2, _, rfl, rfl, SqT.of hfa, atI_nat (j := 2) rfl, _, _, rfl, rfl, .inl ⟨by omega, by omega⟩, _, congrArg (fun z => [V.int z]) ewh, by omega, by omega, for_range (n := f.w * f.h) (fun i σ Hx => ∃ (y3 y4 y5 y6 y7 : Option V), σ = [some (.ref a), some (.ref fa), some (.int ((27 + i * f.setBits : Nat) : Int)), y3, y4, y5, y6, y7] ∧ Same H Hx ∧ fs i (fun i => settF bs f (27 + i * f.setBits)) = none) ⟨none, none, none, none, none, by rw [Nat.zero_mul]; rfl, Same.refl _, rfl⟩ ?_ ?_⟩
    · rintro i σ Hx hi ⟨y3, y4, y5, y6, y7, rfl, sx, hf⟩
      rw [Int.zero_add]
      have le : (i + 1) * f.setBits ≤ f.w * f.h * f.setBits := Nat.mul_le_mul_right _ (by omega)
      have e1 : (i + 1) * f.setBits = i * f.setBits + f.setBits := Nat.succ_mul ..
      have ret : ∀ {z : Nat} {Hz : Hp}, settF bs f (27 + i * f.setBits) = some z → Same H Hz → Q (.int ((z : Nat) : Int)) Hz := fun {z Hz} hz sz => by
        have := q Hz sz
        unfold settsF at this
        rw [fs_hit hf hz _ hi] at this
        exact this
      have nxt : settF bs f (27 + i * f.setBits) = none → fs (i + 1) (fun i => settF bs f (27 + i * f.setBits)) = none := fun h => by
        rw [fs_next hf]
        exact h
      unfold settF at ret nxt
      generalize hA : 27 + i * f.setBits = A at ret nxt
      have eA : 27 + (i + 1) * f.setBits = A + 2 ^ f.p + 2 + f.p * tapB f.t + 4 * f.t * 3 := by omega
      refine ⟨_, rfl, by show 4 ≤ sizeLine; decide, fun L nL => ?_⟩
      have sL := same_new (o := .lst [V.int 2, .int 4, .int 8, .int 16]) nL
      have xL := sx.trans sL
      refine ⟨_, rfl, fa, _, 4, _, rfl, rfl, SqT.of (xL _ _ hfa), atI_nat (j := 4) rfl, _, _, rfl, rfl, L, _, _, _, rfl, rfl, SqL.of upd_same, two_pick p0 p1, _, _, rfl, rfl, _, _, rfl, rfl, ?_⟩
      have e2 : ((A : Nat) : Int) + ((2 ^ f.p : Nat) : Int) + 2 = ((A + 2 ^ f.p + 2 : Nat) : Int) := by omega
      simp only [e2]
      refine ⟨_, rfl, .ref fa, f, rfl, Dv.fab (xL _ _ hfa), t0, t1, fun H2 s2 => ?_⟩
      have x2 := xL.trans s2
      refine ⟨_, rfl, fa, _, 4, _, rfl, rfl, SqT.of (x2 _ _ hfa), atI_nat (j := 4) rfl, _, rfl, fa, _, 3, _, rfl, rfl, SqT.of (x2 _ _ hfa), atI_nat (j := 3) rfl, _, _, rfl, rfl, .inl ⟨by omega, by omega⟩, _, _, rfl, rfl, by show 3 ≤ sizeLine; decide, fun u1 n1 => ?_⟩
      have s3 := same_new (o := .tup [V.int ((tapB f.t : Nat) : Int), .int ((f.p : Nat) : Int), .int ((4 : Int) * ((f.t : Nat) : Int) + 1)]) n1
      have hu1 : (upd H2 u1 (.tup [V.int ((tapB f.t : Nat) : Int), .int ((f.p : Nat) : Int), .int ((4 : Int) * ((f.t : Nat) : Int) + 1)])) u1 = some (.tup (vn [tapB f.t, f.p, f.tapMost])) := by
        rw [upd_same, show (4 : Int) * ((f.t : Nat) : Int) + 1 = ((f.tapMost : Nat) : Int) by unfold Fab.tapMost; omega]
        rfl
      generalize (upd H2 u1 (.tup [V.int ((tapB f.t : Nat) : Int), .int ((f.p : Nat) : Int), .int ((4 : Int) * ((f.t : Nat) : Int) + 1)])) = H3 at s3 hu1 ⊢
      have x3 := x2.trans s3
      refine ⟨_, rfl, fa, _, 3, _, rfl, rfl, SqT.of (x3 _ _ hfa), atI_nat (j := 3) rfl, _, _, rfl, rfl, .inl ⟨by omega, by omega⟩, by show 3 ≤ sizeLine; decide, fun u2 n2 => ?_⟩
      have s4 := same_new (o := .tup [V.int 3, .int ((4 : Int) * ((f.t : Nat) : Int)), .int 5]) n2
      have hu2 : (upd H3 u2 (.tup [V.int 3, .int ((4 : Int) * ((f.t : Nat) : Int)), .int 5])) u2 = some (.tup (vn [3, 4 * f.t, 5])) := by
        rw [upd_same, show (4 : Int) * ((f.t : Nat) : Int) = ((4 * f.t : Nat) : Int) by omega]
        rfl
      generalize (upd H3 u2 (.tup [V.int 3, .int ((4 : Int) * ((f.t : Nat) : Int)), .int 5])) = H4 at s4 hu2 ⊢
      have x4 := x3.trans s4
      have hu1' := s4 _ _ hu1
      refine ⟨by show 2 ≤ sizeLine; decide, fun M nM => ?_⟩
      have s5 := same_new (o := .lst [V.ref u1, .ref u2]) nM
      have hM : (upd H4 M (.lst [V.ref u1, .ref u2])) M = some (.lst [V.ref u1, .ref u2]) := upd_same
      have hv1 := s5 _ _ hu1'
      have hv2 := s5 _ _ hu2
      have x5 := x4.trans s5
      generalize (upd H4 M (.lst [V.ref u1, .ref u2])) = H5 at s5 hM hv1 hv2 x5 ⊢
      have tt : ∀ (j : Nat) (w : V), ([V.ref u1, .ref u2] : List V)[j]? = some w → ∃ (t : Addr) (size many most : Nat), w = .ref t ∧ H5 t = some (.tup (vn [size, many, most])) ∧ size ≤ 60 ∧ many ≤ 100 ∧ (if j = 0 then A + 2 ^ f.p + 2 else if j = 1 then A + 2 ^ f.p + 2 + f.p * tapB f.t else A + 2 ^ f.p + 2 + f.p * tapB f.t + 4 * f.t * 3) + many * size ≤ bs.length ∧
          (if j + 1 = 0 then A + 2 ^ f.p + 2 else if j + 1 = 1 then A + 2 ^ f.p + 2 + f.p * tapB f.t else A + 2 ^ f.p + 2 + f.p * tapB f.t + 4 * f.t * 3) = (if j = 0 then A + 2 ^ f.p + 2 else if j = 1 then A + 2 ^ f.p + 2 + f.p * tapB f.t else A + 2 ^ f.p + 2 + f.p * tapB f.t + 4 * f.t * 3) + many * size ∧
          (fs j (fun j => if j = 0 then codesF bs (A + 2 ^ f.p + 2) (tapB f.t) f.p f.tapMost else codesF bs (A + 2 ^ f.p + 2 + f.p * tapB f.t) 3 (4 * f.t) 5) = none → ∀ z, codesF bs (if j = 0 then A + 2 ^ f.p + 2 else if j = 1 then A + 2 ^ f.p + 2 + f.p * tapB f.t else A + 2 ^ f.p + 2 + f.p * tapB f.t + 4 * f.t * 3) size many most = some z → (codesF bs (A + 2 ^ f.p + 2) (tapB f.t) f.p f.tapMost).or (codesF bs (A + 2 ^ f.p + 2 + f.p * tapB f.t) 3 (4 * f.t) 5) = some z) ∧
          (codesF bs (if j = 0 then A + 2 ^ f.p + 2 else if j = 1 then A + 2 ^ f.p + 2 + f.p * tapB f.t else A + 2 ^ f.p + 2 + f.p * tapB f.t + 4 * f.t * 3) size many most = none → (fun j => if j = 0 then codesF bs (A + 2 ^ f.p + 2) (tapB f.t) f.p f.tapMost else codesF bs (A + 2 ^ f.p + 2 + f.p * tapB f.t) 3 (4 * f.t) 5) j = none) := fun j w h => by
        have jl := (List.getElem?_eq_some_iff.mp h).1
        have : j = 0 ∨ j = 1 := by
          have : j < 2 := jl
          omega
        rcases this with rfl | rfl
        · cases h
          refine ⟨u1, tapB f.t, f.p, f.tapMost, rfl, hv1, by omega, by omega, ?_, rfl, fun _ z hz => ?_, fun h => h⟩
          · rw [if_pos rfl]
            omega
          · rw [if_pos rfl] at hz
            rw [hz]
            rfl
        · cases h
          refine ⟨u2, 3, 4 * f.t, 5, rfl, hv2, by decide, by omega, ?_, rfl, fun h0 z hz => ?_, fun h => h⟩
          · show A + 2 ^ f.p + 2 + f.p * tapB f.t + 4 * f.t * 3 ≤ _
            omega
          · have h00 : codesF bs (A + 2 ^ f.p + 2) (tapB f.t) f.p f.tapMost = none := fs_none h0 0 (by decide)
            rw [h00]
            exact hz
      refine ⟨M, rfl, ⟨_, SqL.of hM⟩, for_list (xs := [V.ref u1, .ref u2]) (fun j σ Hx => ∃ (y4 y5 y6 y7 : Option V), σ = [some (.ref a), some (.ref fa), some (.int ((if j = 0 then A + 2 ^ f.p + 2 else if j = 1 then A + 2 ^ f.p + 2 + f.p * tapB f.t else A + 2 ^ f.p + 2 + f.p * tapB f.t + 4 * f.t * 3 : Nat) : Int)), some (.int (i : Nat)), y4, y5, y6, y7] ∧ Same H5 Hx ∧ fs j (fun j => if j = 0 then codesF bs (A + 2 ^ f.p + 2) (tapB f.t) f.p f.tapMost else codesF bs (A + 2 ^ f.p + 2 + f.p * tapB f.t) 3 (4 * f.t) 5) = none) ⟨y4, y5, y6, y7, rfl, Same.refl _, rfl⟩ (fun j σ Hx _ h => ?_) ?_ ?_⟩
      · obtain ⟨_, _, _, _, _, s, _⟩ := h
        exact SqL.of (s _ _ hM)
      · rintro j w σ Hy hw ⟨y4, y5, y6, y7, rfl, sy, hfj⟩
        obtain ⟨t, size, many, most, rfl, ht, s60, m100, fitj, nextj, hit, miss⟩ := tt j w hw
        rw [nextj]
        generalize (if j = 0 then A + 2 ^ f.p + 2 else if j = 1 then A + 2 ^ f.p + 2 + f.p * tapB f.t else A + 2 ^ f.p + 2 + f.p * tapB f.t + 4 * f.t * 3) = B at fitj hit miss ⊢
        refine ⟨t, _, rfl, SqT.of (sy _ _ ht), rfl, _, _, rfl, _, _, rfl, _, _, rfl, rfl, ?_⟩
        refine ⟨_, rfl, _, rfl, by omega, by omega, for_range (n := many) (fun k σ Hx => ∃ (y7 : Option V), σ = [some (.ref a), some (.ref fa), some (.int ((B + k * size : Nat) : Int)), some (.int (i : Nat)), some (.int (size : Nat)), some (.int (many : Nat)), some (.int (most : Nat)), y7] ∧ Same H5 Hx ∧ fs k (codesG bs B size most) = none) ⟨y7, by rw [Nat.zero_mul]; rfl, sy, rfl⟩ ?_ ?_⟩
        · rintro k σ Hz hk ⟨y7, rfl, sz, hfk⟩
          rw [Int.zero_add]
          have lim : (k + 1) * size ≤ many * size := Nat.mul_le_mul_right _ (by omega)
          have e3 : (k + 1) * size = k * size + size := Nat.succ_mul ..
          refine ⟨_, rfl, _, rfl, _, rfl, a, bs, B + k * size, size, rfl, sz _ _ (x5 _ _ ha), b2, few, s60, by omega, fun H6 s6 => ?_⟩
          refine ⟨_, rfl, _, _, rfl, rfl, _, rfl, ?_⟩
          by_cases gt : num bs (B + k * size) size > most
          · rw [decide_eq_true (show ((num bs (B + k * size) size : Nat) : Int) > ((most : Nat) : Int) by omega)]
            refine iteT ⟨_, rfl, ret (hit hfj _ (fs_hit hfk (by unfold codesG; rw [if_pos gt]) many hk)) (x5.trans (sz.trans s6))⟩
          · rw [decide_eq_false (show ¬ ((num bs (B + k * size) size : Nat) : Int) > ((most : Nat) : Int) by omega)]
            refine iteF ⟨_, rfl, _, rfl, _, _, rfl, rfl, some (.int (k : Nat)), ?_, sz.trans s6, by rw [fs_next hfk]; unfold codesG; rw [if_neg gt]⟩
            rw [e3, ← Nat.add_assoc, Int.natCast_add (B + k * size)]
            rfl
        · rintro σ Hz ⟨y7, rfl, sz, hfk⟩
          refine ⟨_, _, _, _, rfl, sz, ?_⟩
          rw [fs_next hfj]
          exact miss hfk
      · rintro σ Hy ⟨y4, y5, y6, y7, rfl, sy, hfj⟩
        refine ⟨some (.int (i : Nat)), y4, y5, y6, y7, ?_, x5.trans sy, nxt ?_⟩
        · rw [eA]
          rfl
        · have h0 : codesF bs (A + 2 ^ f.p + 2) (tapB f.t) f.p f.tapMost = none := fs_none hfj 0 (by show 0 < 2; decide)
          have h1 : codesF bs (A + 2 ^ f.p + 2 + f.p * tapB f.t) 3 (4 * f.t) 5 = none := fs_none hfj 1 (by show 1 < 2; decide)
          rw [h0, h1]
          rfl
    rintro σ Hx ⟨y3, y4, y5, y6, y7, rfl, sx, hf⟩
    have := q Hx sx
    unfold settsF at this
    rw [hf] at this
    exact ⟨_, rfl, this⟩

end K57
namespace K57
open PySem PySem.Spec PyProof.Rows L2 V0
/-! ### the place where bits do not fit, worked out anew -/
theorem vn_getD {xs : List Nat} {k : Nat} (h : k < xs.length) : (vn xs)[k]? = some (.int ((xs[k]?.getD 0 : Nat) : Int)) := by
  rw [vn_get (List.getElem?_eq_getElem h), List.getElem?_eq_getElem h, Option.getD_some]
def sp__law_fault (K : PySem.W.Frag) : Sp := fun vs H Q _ => ∃ (a : Addr) (bs : List Nat), vs = [.ref a] ∧ H a = some (.lst (vn bs)) ∧ (∀ b ∈ bs, b < 2) ∧ bs.length ≤ 60000 ∧ ∀ H', Same H H' → Q (.int (ofF (faultB bs))) H'
theorem ok__law_fault {P : Program} {w : World} {K : PySem.W.Frag} {mg : Str → Option Value} {base : Heap} {C_BitsError fI_BitsError : Addr} {fd_BitsError : FuncData} {B_ : Addr} {mc_ : Value} {O_FitError : Addr} {O_TextError : Addr} {tk_MOST_PLACES : Tok} {tk_MOST_TRACKS : Tok} {tk_MOST_PINS : Tok} {tk_MOST_ENDS : Tok} {tk_HEAD_BITS : Tok} {tk_END_BITS : Tok} {tk_SUM_BITS : Tok} {tk_DRIVE_BITS : Tok} {a_HEAD : Addr} {a_END : Addr} {a_STEPS_0 : Addr} {a_STEPS_1 : Addr} {a_STEPS_2 : Addr} {a_STEPS_3 : Addr} {a_STEPS : Addr} {f f_law_number f_law_tap f_law_sum f_law_codes_fault f_law_pad_right : Addr} {fd fd_law_number fd_law_tap fd_law_sum fd_law_codes_fault fd_law_pad_right : FuncData} (F : Fun K "_law_fault" "_law_fault" s__law_fault f fd) (T : Txt K mg C_BitsError fI_BitsError fd_BitsError B_ mc_ O_FitError O_TextError tk_MOST_PLACES tk_MOST_TRACKS tk_MOST_PINS tk_MOST_ENDS tk_HEAD_BITS tk_END_BITS tk_SUM_BITS tk_DRIVE_BITS a_HEAD a_END a_STEPS_0 a_STEPS_1 a_STEPS_2 a_STEPS_3 a_STEPS)
    (G__law_number : FnOk P w K mg base CX0 1 f_law_number fd_law_number ["bits", "at", "size"] (sp__law_number K)) (D__law_number : Def K mg "_law_number" f_law_number fd_law_number ["bits", "at", "size"])
    (G__law_tap : FnOk P w K mg base CX0 1 f_law_tap fd_law_tap ["fabric"] (sp__law_tap K)) (D__law_tap : Def K mg "_law_tap" f_law_tap fd_law_tap ["fabric"])
    (G__law_sum : FnOk P w K mg base CX0 1 f_law_sum fd_law_sum ["bits"] (sp__law_sum K)) (D__law_sum : Def K mg "_law_sum" f_law_sum fd_law_sum ["bits"])
    (G__law_codes_fault : FnOk P w K mg base CX0 2 f_law_codes_fault fd_law_codes_fault ["bits", "fabric", "at"] (sp__law_codes_fault K)) (D__law_codes_fault : Def K mg "_law_codes_fault" f_law_codes_fault fd_law_codes_fault ["bits", "fabric", "at"])
    (G__law_pad_right : FnOk P w K mg base CX0 2 f_law_pad_right fd_law_pad_right ["fabric", "pad"] (sp__law_pad_right K)) (D__law_pad_right : Def K mg "_law_pad_right" f_law_pad_right fd_law_pad_right ["fabric", "pad"]) :
    FnOk P w K mg base CX0 3 f fd ["bits"] (sp__law_fault K) := by
  refine F.ok sc_law_fault (fun vs H Q E h => ?_) (fun cdv A outer s0 H vs Q E hr h => ?_)
  · obtain ⟨a, bs, rfl, _⟩ := h
    rfl
  · obtain ⟨a, bs, rfl, ha, b2, few, q⟩ := h
    refine ⟨_, (pss_cons (ps_if (pt_cmpR op_lt (pe_callB call_len_seq (by rfl) T.m_len (by decide +kernel) (pa_cons (pv 0) pa_nil)) pe_int (nomark _)) (pss_one (ps_ret (pe_callB call_len_seq (by rfl) T.m_len (by decide +kernel) (pa_cons (pv 0) pa_nil)))) pss_nil)
      (pss_cons (ps_setLc (i := 3) (own := [("at", 1), ("size", 2)]) (g := gTup K 2 (gCons (gName 1) (gCons (gName 2) (gNil)))) (tt := tYes) rfl sc_law_fault.nd rfl rfl (sw_true rfl rfl rfl (by decide +kernel)) (pi_list (pe_lst (pa_cons (pe_tup (pa_cons pe_int (pa_cons pe_int pa_nil))) (pa_cons (pe_tup (pa_cons pe_int (pa_cons pe_int pa_nil))) (pa_cons (pe_tup (pa_cons pe_int (pa_cons pe_int pa_nil))) (pa_cons (pe_tup (pa_cons pe_int (pa_cons pe_int pa_nil))) (pa_cons (pe_tup (pa_cons pe_int (pa_cons pe_int pa_nil))) (pa_cons (pe_tup (pa_cons pe_int (pa_cons pe_int pa_nil))) pa_nil)))))))) (blkOk_by (N := N__law_fault) (sc := defScope s__law_fault) (by decide +kernel)) (fun _ _ _ _ _ => (pg_tup (by rfl) (pgs_cons (pg_name (i := 1) sc_law_fault.nd rfl (Or.inl rfl)) (pgs_cons (pg_name (i := 2) sc_law_fault.nd rfl (Or.inl rfl)) pgs_nil)))) (fun _ _ _ _ _ => pts_nil) (fun _ _ _ _ _ => (pe_call G__law_number (hr.mono (by omega)) (by rfl) D__law_number.m D__law_number.k D__law_number.b .nil pass0 (pa_cons (pv 0) (pa_cons (pv 1) (pa_cons (pv 2) pa_nil))))))
      (pss_cons (ps_for PassesOwn.never rfl (pi_range1 rfl T.m_range (pa_cons pe_int pa_nil)) (pg_name (i := 4) sc_law_fault.nd rfl (Or.inl rfl)) (pss_one (ps_if (pt_cmpR op_gt (pe_ix (r := rIxL K) ix_list (pv 3) (pv 4) (fun _ _ => rfl)) (pe_ix (r := rIxL K) ix_list (pe_lst (pa_cons pe_int (pa_cons pe_int (pa_cons pe_int (pa_cons pe_int (pa_cons pe_int (pa_cons pe_int pa_nil))))))) (pv 4) (fun _ _ => rfl)) (nomark _)) (pss_one (ps_ret (pe_ix (r := rIxL K) ix_list (pe_lst (pa_cons pe_int (pa_cons pe_int (pa_cons pe_int (pa_cons pe_int (pa_cons pe_int (pa_cons pe_int pa_nil))))))) (pv 4) (fun _ _ => rfl)))) pss_nil)))
      (pss_cons (ps_set (i := 5) sc_law_fault.nd rfl (.inl rfl) (pe_tup (pa_cons pe_str (pa_cons (pe_op op_add (pe_ix (r := rIxL K) ix_list (pv 3) pe_int (fun _ _ => rfl)) pe_int) (pa_cons (pe_op op_add (pe_ix (r := rIxL K) ix_list (pv 3) pe_int (fun _ _ => rfl)) pe_int) (pa_cons (pe_op op_add (pe_ix (r := rIxL K) ix_list (pv 3) pe_int (fun _ _ => rfl)) pe_int) (pa_cons (pe_op op_add (pe_ix (r := rIxL K) ix_list (pv 3) pe_int (fun _ _ => rfl)) pe_int) pa_nil)))))))
      (pss_cons (ps_set (i := 6) sc_law_fault.nd rfl (.inl rfl) (pe_op op_mul (pe_ix (r := rIxT K) ix_tup (pv 5) pe_int (fun _ _ => rfl)) (pe_ix (r := rIxT K) ix_tup (pv 5) pe_int (fun _ _ => rfl))))
      (pss_cons (ps_set (i := 7) sc_law_fault.nd rfl (.inl rfl) (pe_op op_add (pe_op op_add (pe_op op_add (pe_ix (r := rIxL K) ix_list (pe_lst (pa_cons pe_int (pa_cons pe_int (pa_cons pe_int (pa_cons pe_int pa_nil))))) (pe_ix (r := rIxL K) ix_list (pv 3) pe_int (fun _ _ => rfl)) (fun _ _ => rfl)) pe_int) (pe_op op_mul (pe_ix (r := rIxT K) ix_tup (pv 5) pe_int (fun _ _ => rfl)) (pe_call G__law_tap (hr.mono (by omega)) (by rfl) D__law_tap.m D__law_tap.k D__law_tap.b .nil pass0 (pa_cons (pv 5) pa_nil)))) (pe_op op_mul pe_int (pe_ix (r := rIxT K) ix_tup (pv 5) pe_int (fun _ _ => rfl)))))
      (pss_cons (ps_set (i := 2) sc_law_fault.nd rfl (.inl rfl) (pe_op op_add (pe_op op_add (pe_op op_add pe_int (pe_op op_mul (pv 6) (pv 7))) (pe_op op_mul pe_int (pe_op op_add (pe_ix (r := rIxL K) ix_list (pv 3) pe_int (fun _ _ => rfl)) (pe_ix (r := rIxL K) ix_list (pv 3) pe_int (fun _ _ => rfl))))) pe_int))
      (pss_cons (ps_if (pt_cmpR op_ne (pe_callB call_len_seq (by rfl) T.m_len (by decide +kernel) (pa_cons (pv 0) pa_nil)) (pv 2) (nomark _)) (pss_one (ps_ret (pe_callB (call_min2 (by rfl)) (by rfl) T.m_min (by decide +kernel) (pa_cons (pe_callB call_len_seq (by rfl) T.m_len (by decide +kernel) (pa_cons (pv 0) pa_nil)) (pa_cons (pv 2) pa_nil))))) pss_nil)
      (pss_cons (ps_if (pt_cmpR (op_neD hr.units) (pe_call G__law_sum (hr.mono (by omega)) (by rfl) D__law_sum.m D__law_sum.k D__law_sum.b .nil pass0 (pa_cons (pe_slice sl_list (pv 0) po_none (po_some (pe_un un_neg pe_int))) pa_nil)) (pe_slice sl_list (pv 0) (po_some (pe_un un_neg pe_int)) po_none) (nomark _)) (pss_one (ps_ret (pe_op op_sub (pv 2) pe_int))) pss_nil)
      (pss_cons (ps_set (i := 1) sc_law_fault.nd rfl (.inl rfl) (pe_call G__law_codes_fault (hr.mono (by omega)) (by rfl) D__law_codes_fault.m D__law_codes_fault.k D__law_codes_fault.b .nil pass0 (pa_cons (pv 0) (pa_cons (pv 5) (pa_cons pe_int pa_nil)))))
      (pss_cons (ps_if (pt_cmpR op_ge (pv 1) pe_int (nomark _)) (pss_one (ps_ret (pv 1))) pss_nil)
      (pss_cons (ps_set (i := 1) sc_law_fault.nd rfl (.inl rfl) (pe_op op_add pe_int (pe_op op_mul (pv 6) (pv 7))))
      (pss_cons (ps_for PassesOwn.never rfl (pi_list (pe_slice sl_list (pv 3) (po_some pe_int) po_none)) (pg_name (i := 8) sc_law_fault.nd rfl (Or.inl rfl)) (pss_cons (ps_set (i := 9) sc_law_fault.nd rfl (.inl rfl) (pe_lst pa_nil))
      (pss_one (ps_for PassesOwn.never rfl (pi_range1 rfl T.m_range (pa_cons (pv 8) pa_nil)) (pg_name (i := 4) sc_law_fault.nd rfl (Or.inl rfl)) (pss_cons (ps_set (i := 10) sc_law_fault.nd rfl (.inl rfl) (pe_tup (pa_cons (pe_call G__law_number (hr.mono (by omega)) (by rfl) D__law_number.m D__law_number.k D__law_number.b .nil pass0 (pa_cons (pv 0) (pa_cons (pv 1) (pa_cons pe_int pa_nil)))) (pa_cons (pe_call G__law_number (hr.mono (by omega)) (by rfl) D__law_number.m D__law_number.k D__law_number.b .nil pass0 (pa_cons (pv 0) (pa_cons (pe_op op_add (pv 1) pe_int) (pa_cons pe_int pa_nil)))) (pa_cons (pe_call G__law_number (hr.mono (by omega)) (by rfl) D__law_number.m D__law_number.k D__law_number.b .nil pass0 (pa_cons (pv 0) (pa_cons (pe_op op_add (pv 1) pe_int) (pa_cons pe_int pa_nil)))) (pa_cons (pe_call G__law_number (hr.mono (by omega)) (by rfl) D__law_number.m D__law_number.k D__law_number.b .nil pass0 (pa_cons (pv 0) (pa_cons (pe_op op_add (pv 1) pe_int) (pa_cons pe_int pa_nil)))) pa_nil))))))
      (pss_cons (ps_if (PW.pt (pw_or (pt_not (pt_val (pe_call G__law_pad_right (hr.mono (by omega)) (by rfl) D__law_pad_right.m D__law_pad_right.k D__law_pad_right.b .nil pass0 (pa_cons (pv 5) (pa_cons (pv 10) pa_nil))))) (pw_or1 (pt_cmpR (r := rInD K) (op_inD (hu65 hr)) (pv 10) (pv 9) (by rfl))))) (pss_one (ps_ret (pv 1))) pss_nil)
      (pss_cons (ps_expr (pe_bm PySem.F.plainAttrs_list PySem.F.slot_list_append PySem.F.type_list_append mt_append (pv 9) (pa_cons (pv 10) pa_nil)))
      (pss_one (ps_set (i := 1) sc_law_fault.nd rfl (.inl rfl) (pe_op op_add (pv 1) pe_int))))))))))
      (pss_one (ps_ret (pe_un un_neg pe_int)))))))))))))))), ?_⟩
    rw [faultB_eq] at q
    refine ⟨_, rfl, a, _, rfl, .inl (SqL.of ha), _, _, rfl, rfl, _, rfl, ?_⟩
    rw [vn_len]
    by_cases l27 : bs.length < 27
    · have hR : headR bs = some bs.length := by
        unfold headR
        rw [if_pos l27]
      rw [decide_eq_true (show ((bs.length : Nat) : Int) < 27 by omega)]
      refine iteT ⟨_, rfl, a, _, rfl, .inl (SqL.of ha), ?_⟩
      rw [vn_len]
      have := q H (Same.refl _)
      rw [hR] at this
      exact this
    have hR : headR bs = headF bs := by
      unfold headR
      rw [if_neg l27]
    rw [hR] at q
    rw [decide_eq_false (show ¬ ((bs.length : Nat) : Int) < 27 by omega)]
    refine iteF ?_
    -- the head
    refine ⟨by show 2 ≤ sizeLine; decide, fun t1 nt1 => ?_⟩
    have s1 := same_new (o := .tup [V.int 0, .int 4]) nt1
    have e1 : (upd H t1 (.tup [V.int 0, .int 4])) t1 = some (.tup (vn [0, 4])) := upd_same
    generalize (upd H t1 (.tup [V.int 0, .int 4])) = H1 at s1 e1 ⊢
    refine ⟨by show 2 ≤ sizeLine; decide, fun t2 nt2 => ?_⟩
    have s2 := same_new (o := .tup [V.int 4, .int 4]) nt2
    have e2 : (upd H1 t2 (.tup [V.int 4, .int 4])) t2 = some (.tup (vn [4, 4])) := upd_same
    generalize (upd H1 t2 (.tup [V.int 4, .int 4])) = H2 at s2 e2 ⊢
    refine ⟨by show 2 ≤ sizeLine; decide, fun t3 nt3 => ?_⟩
    have s3 := same_new (o := .tup [V.int 8, .int 3]) nt3
    have e3 : (upd H2 t3 (.tup [V.int 8, .int 3])) t3 = some (.tup (vn [8, 3])) := upd_same
    generalize (upd H2 t3 (.tup [V.int 8, .int 3])) = H3 at s3 e3 ⊢
    refine ⟨by show 2 ≤ sizeLine; decide, fun t4 nt4 => ?_⟩
    have s4 := same_new (o := .tup [V.int 11, .int 2]) nt4
    have e4 : (upd H3 t4 (.tup [V.int 11, .int 2])) t4 = some (.tup (vn [11, 2])) := upd_same
    generalize (upd H3 t4 (.tup [V.int 11, .int 2])) = H4 at s4 e4 ⊢
    refine ⟨by show 2 ≤ sizeLine; decide, fun t5 nt5 => ?_⟩
    have s5 := same_new (o := .tup [V.int 13, .int 7]) nt5
    have e5 : (upd H4 t5 (.tup [V.int 13, .int 7])) t5 = some (.tup (vn [13, 7])) := upd_same
    generalize (upd H4 t5 (.tup [V.int 13, .int 7])) = H5 at s5 e5 ⊢
    refine ⟨by show 2 ≤ sizeLine; decide, fun t6 nt6 => ?_⟩
    have s6 := same_new (o := .tup [V.int 20, .int 7]) nt6
    have e6 : (upd H5 t6 (.tup [V.int 20, .int 7])) t6 = some (.tup (vn [20, 7])) := upd_same
    generalize (upd H5 t6 (.tup [V.int 20, .int 7])) = H6 at s6 e6 ⊢
    refine ⟨by show 6 ≤ sizeLine; decide, fun L nL => ?_⟩
    obtain ⟨s7, hL⟩ := new_lst (xs := [V.ref t1, .ref t2, .ref t3, .ref t4, .ref t5, .ref t6]) nL
    generalize (upd H6 L (.lst [V.ref t1, .ref t2, .ref t3, .ref t4, .ref t5, .ref t6])) = H7 at s7 hL ⊢
    have b7 := s6.trans s7
    have b6 := s5.trans b7
    have b5 := s4.trans b6
    have b4 := s3.trans b5
    have b3 := s2.trans b4
    have x7 := s1.trans b3
    have tt : ∀ (i : Nat) (w : V), ([V.ref t1, .ref t2, .ref t3, .ref t4, .ref t5, .ref t6] : List V)[i]? = some w → ∃ t, w = .ref t ∧ H7 t = some (.tup (vn [([0, 4, 8, 11, 13, 20] : List Nat)[i]?.getD 0, ([4, 4, 3, 2, 7, 7] : List Nat)[i]?.getD 0])) ∧ i < 6 := fun i w h => by
      have il := (List.getElem?_eq_some_iff.mp h).1
      have : i = 0 ∨ i = 1 ∨ i = 2 ∨ i = 3 ∨ i = 4 ∨ i = 5 := by
        have : i < 6 := il
        omega
      rcases this with rfl | rfl | rfl | rfl | rfl | rfl <;> cases h
      · exact ⟨_, rfl, b3 _ _ e1, by decide⟩
      · exact ⟨_, rfl, b4 _ _ e2, by decide⟩
      · exact ⟨_, rfl, b5 _ _ e3, by decide⟩
      · exact ⟨_, rfl, b6 _ _ e4, by decide⟩
      · exact ⟨_, rfl, b7 _ _ e5, by decide⟩
      · exact ⟨_, rfl, s7 _ _ e6, by decide⟩
    have wb : ∀ i : Nat, i < 6 → ([4, 4, 3, 2, 7, 7] : List Nat)[i]?.getD 0 ≤ 7 ∧ ([0, 4, 8, 11, 13, 20] : List Nat)[i]?.getD 0 + ([4, 4, 3, 2, 7, 7] : List Nat)[i]?.getD 0 ≤ 27 := fun i h => by
      have : i = 0 ∨ i = 1 ∨ i = 2 ∨ i = 3 ∨ i = 4 ∨ i = 5 := by omega
      rcases this with rfl | rfl | rfl | rfl | rfl | rfl <;> decide
    clear e1 e2 e3 e4 e5 e6 s1 s2 s3 s4 s5 s6 s7 b3 b4 b5 b6 b7 nt1 nt2 nt3 nt4 nt5 nt6
    refine ⟨L, rfl, ⟨_, SqL.of hL⟩, fun D nD => lcA (n := 6) (walk_list (K := K) (a := L) (xs := [V.ref t1, .ref t2, .ref t3, .ref t4, .ref t5, .ref t6])) (fun i => .int ((num bs (([0, 4, 8, 11, 13, 20] : List Nat)[i]?.getD 0) (([4, 4, 3, 2, 7, 7] : List Nat)[i]?.getD 0) : Nat) : Int)) nD (by decide) (fun Hz sz => SqL.of (sz _ _ hL)) (fun i x Hz Hz' Q hi' sz y qt => ?_) fun H8 s8 hD => ?_⟩
    · obtain ⟨rfl, y⟩ := y
      obtain ⟨t, rfl, ht, i6⟩ := tt i x y
      obtain ⟨w1, w2⟩ := wb i i6
      refine ⟨t, _, rfl, SqT.of (sz _ _ ht), rfl, _, _, rfl, _, _, rfl, rfl, rfl, _, rfl, _, rfl, _, rfl, a, bs, _, _, rfl, sz _ _ (x7 _ _ ha), b2, few, by omega, by omega, fun H' s' => qt H' s'⟩
    have hD : H8 D = some (.lst (vn [num bs 0 4, num bs 4 4, num bs 8 3, num bs 11 2, nI bs, nO bs])) := hD
    have x8 := x7.trans s8
    clear tt wb hL
    refine ⟨_, rfl, by decide, by decide, for_range (n := 6) (fun i σ Hx => ∃ (y4 : Option V), σ = [some (.ref a), none, none, some (.ref D), y4, none, none, none, none, none, none] ∧ Same H8 Hx ∧ fs i (headG bs) = none) ⟨none, rfl, Same.refl _, rfl⟩ ?_ ?_⟩
    · rintro k σ Hx hk ⟨y4, rfl, sx, hf⟩
      rw [Int.zero_add]
      have hd := sx _ _ hD
      refine ⟨_, rfl, _, rfl, D, _, _, _, rfl, rfl, SqL.of hd, atI_nat (vn_getD hk), by show 6 ≤ sizeLine; decide, fun M nM => ?_⟩
      have sM := same_new (o := .lst (vn [11, 11, 7, 3, 64, 64])) nM
      refine ⟨_, rfl, M, _, _, _, rfl, rfl, SqL.of upd_same, atI_nat (vn_getD (xs := [11, 11, 7, 3, 64, 64]) hk), _, _, rfl, rfl, _, rfl, ?_⟩
      have gi : headG bs k = if ([num bs 0 4, num bs 4 4, num bs 8 3, num bs 11 2, nI bs, nO bs] : List Nat)[k]?.getD 0 > ([11, 11, 7, 3, 64, 64] : List Nat)[k]?.getD 0 then some (([0, 4, 8, 11, 13, 20] : List Nat)[k]?.getD 0) else none := by
        unfold headG
        rw [rd_head6]
      generalize ([num bs 0 4, num bs 4 4, num bs 8 3, num bs 11 2, nI bs, nO bs] : List Nat)[k]?.getD 0 = n at gi ⊢
      generalize ([11, 11, 7, 3, 64, 64] : List Nat)[k]?.getD 0 = g at gi ⊢
      by_cases gt : n > g
      · rw [if_pos gt] at gi
        rw [decide_eq_true (show ((n : Nat) : Int) > ((g : Nat) : Int) by omega)]
        refine iteT ⟨by show 6 ≤ sizeLine; decide, fun M2 nM2 => ⟨_, rfl, M2, _, _, _, rfl, rfl, SqL.of upd_same, atI_nat (vn_getD (xs := [0, 4, 8, 11, 13, 20]) hk), ?_⟩⟩
        have := q _ (x8.trans (sx.trans (sM.trans (same_new (o := .lst (vn [0, 4, 8, 11, 13, 20])) nM2))))
        unfold headF at this
        rw [fs_hit hf gi 6 hk] at this
        exact this
      · rw [if_neg gt] at gi
        rw [decide_eq_false (show ¬ ((n : Nat) : Int) > ((g : Nat) : Int) by omega)]
        exact iteF ⟨_, rfl, sx.trans sM, by rw [fs_next hf]; exact gi⟩
    rintro σ H9 ⟨y4, rfl, s9, hF⟩
    have hF : headF bs = none := hF
    rw [hF] at q
    have q : ∀ H', Same H H' → Q (.int (ofF (lenF bs))) H' := q
    obtain ⟨f, h5, h6⟩ := headF_fab b2 hF
    have hD9 := s9 _ _ hD
    have x9 := x8.trans s9
    have w1 := f.w1
    have h1 := f.h1
    have p0 := f.p0
    have p1 := f.p1
    have t0 := f.t0
    have t8 := f.t1
    have wh := Nat.mul_le_mul f.w1 f.h1
    have tb := tapB_le t8
    have sb : (decF bs).setBits ≤ 138 := by
      unfold Fab.setBits
      have h3 := Nat.mul_le_mul f.p1 (tapB_le f.t1)
      have h5 : 2 ^ (decF bs).p ≤ 2 ^ 4 := Nat.pow_le_pow_right (by decide) f.p1
      omega
    have esz : sizeF bs = 27 + (decF bs).w * (decF bs).h * (decF bs).setBits + (nI bs + nO bs) * 13 + 16 := rfl
    have wh144 : (decF bs).w * (decF bs).h ≤ 144 := wh
    have lim : (decF bs).w * (decF bs).h * (decF bs).setBits ≤ 144 * 138 := Nat.mul_le_mul wh144 sb
    -- the fabric
    refine ⟨_, rfl, D, _, 0, _, rfl, rfl, SqL.of hD9, atI_nat (j := 0) rfl, _, _, rfl, rfl, _, rfl, D, _, 1, _, rfl, rfl, SqL.of hD9, atI_nat (j := 1) rfl, _, _, rfl, rfl, _, rfl, D, _, 2, _, rfl, rfl, SqL.of hD9, atI_nat (j := 2) rfl, _, _, rfl, rfl, _, rfl, D, _, 3, _, rfl, rfl, SqL.of hD9, atI_nat (j := 3) rfl, _, _, rfl, rfl, by show 5 ≤ sizeLine; decide, fun t nt => ?_⟩
    have st := same_new (o := .tup (decF bs).its) nt
    have ht : (upd H9 t (.tup (decF bs).its)) t = some (.tup (decF bs).its) := upd_same
    have hDt := st _ _ hD9
    have x10 := x9.trans st
    show tSeq _ _ _ _ (upd H9 t (.tup (decF bs).its))
    generalize (upd H9 t (.tup (decF bs).its)) = H10 at st ht hDt x10 ⊢
    have ewh : (((decF bs).w : Nat) : Int) * (((decF bs).h : Nat) : Int) = (((decF bs).w * (decF bs).h : Nat) : Int) := (Int.natCast_mul ..).symm
    refine ⟨_, rfl, t, _, 1, _, rfl, rfl, SqT.of ht, atI_nat (j := 1) rfl, _, rfl, t, _, 2, _, rfl, rfl, SqT.of ht, atI_nat (j := 2) rfl, _, _, rfl, rfl, .inl ⟨by omega, by omega⟩, ?_⟩
    simp only [ewh]
    refine ⟨by show 4 ≤ sizeLine; decide, fun L4 nL4 => ?_⟩
    have sL4 := same_new (o := .lst [V.int 2, .int 4, .int 8, .int 16]) nL4
    have pick : atI ([.int 2, .int 4, .int 8, .int 16] : List V) ((num bs 11 2 : Nat) : Int) = some (.int ((2 ^ (decF bs).p : Nat) : Int)) := by
      have := two_pick p0 p1
      rw [show (((decF bs).p : Nat) : Int) - 1 = ((num bs 11 2 : Nat) : Int) by show ((num bs 11 2 + 1 : Nat) : Int) - 1 = _; omega] at this
      exact this
    refine ⟨_, rfl, D, _, 3, _, rfl, rfl, SqL.of (sL4 _ _ hDt), atI_nat (j := 3) rfl, L4, _, _, _, rfl, rfl, SqL.of upd_same, pick, _, _, rfl, rfl, _, rfl, t, _, 4, _, rfl, rfl, SqT.of (sL4 _ _ ht), atI_nat (j := 4) rfl, _, rfl, .ref t, decF bs, rfl, Dv.fab (sL4 _ _ ht), t0, t8, fun H11 s11 => ?_⟩
    have s11' := sL4.trans s11
    refine ⟨_, _, rfl, rfl, .inl ⟨by omega, by omega⟩, _, _, rfl, rfl, _, rfl, t, _, 3, _, rfl, rfl, SqT.of (s11' _ _ ht), atI_nat (j := 3) rfl, _, _, rfl, rfl, .inl ⟨by omega, by omega⟩, _, _, rfl, rfl, ?_⟩
    have e6 : ((2 ^ (decF bs).p : Nat) : Int) + 2 + (((decF bs).p : Nat) : Int) * ((tapB (decF bs).t : Nat) : Int) + 12 * (((decF bs).t : Nat) : Int) = (((decF bs).setBits : Nat) : Int) := by
      unfold Fab.setBits
      rw [← Int.natCast_mul]
      omega
    simp only [e6]
    have ht11 := s11' _ _ ht
    have hD11 := s11' _ _ hDt
    have x11 := x10.trans s11'
    have ha11 := x11 _ _ ha
    refine ⟨_, rfl, _, rfl, _, _, rfl, rfl, .inl ⟨by omega, by omega⟩, _, _, rfl, rfl, _, rfl, D, _, 4, _, rfl, rfl, SqL.of hD11, atI_nat (j := 4) rfl, _, rfl, D, _, 5, _, rfl, rfl, SqL.of hD11, atI_nat (j := 5) rfl, _, _, rfl, rfl, _, _, rfl, rfl, .inl ⟨by omega, by omega⟩, _, _, rfl, rfl, _, _, rfl, rfl, ?_⟩
    have e7 : (27 : Int) + (((decF bs).w * (decF bs).h : Nat) : Int) * (((decF bs).setBits : Nat) : Int) + 13 * (((nI bs : Nat) : Int) + ((nO bs : Nat) : Int)) + 16 = ((sizeF bs : Nat) : Int) := by
      rw [esz, ← Int.natCast_mul]
      omega
    simp only [e7]
    refine ⟨_, rfl, a, _, rfl, .inl (SqL.of ha11), _, rfl, rfl, _, rfl, ?_⟩
    rw [vn_len]
    by_cases c1 : bs.length = sizeF bs
    case neg =>
      have hL : lenF bs = some (min bs.length (sizeF bs)) := by
        unfold lenF
        rw [if_pos c1]
      rw [decide_eq_false (show ¬ V.int ((bs.length : Nat) : Int) = V.int ((sizeF bs : Nat) : Int) from fun e => c1 (Int.ofNat.inj (V.int.inj e)))]
      refine iteT ⟨_, rfl, a, _, rfl, .inl (SqL.of ha11), _, rfl, _, _, rfl, ?_⟩
      rw [vn_len, min_ite]
      have := q _ x11
      rw [hL] at this
      exact this
    have hL : lenF bs = sumF bs := by
      unfold lenF
      rw [if_neg (fun z => z c1)]
    rw [hL] at q
    rw [show decide (V.int ((bs.length : Nat) : Int) = V.int ((sizeF bs : Nat) : Int)) = true from decide_eq_true (by rw [c1])]
    refine iteF ?_
    -- the sum
    have em : ((sizeF bs : Nat) : Int) - 16 = ((sizeF bs - 16 : Nat) : Int) := by omega
    refine ⟨_, rfl, _, rfl, _, rfl, a, _, rfl, SqL.of ha11, fun S nS => ?_⟩
    have eS : cutV (vn bs) none (some (-16)) = vn (bs.take (sizeF bs - 16)) := by
      have := cut_neg_to (vn bs) 16 (by decide)
      rw [vn_len, c1] at this
      unfold vn at this ⊢
      rw [List.map_take]
      exact this
    have sS := same_new (o := .lst (cutV (vn bs) none (some (-16)))) nS
    have hS : (upd H11 S (.lst (cutV (vn bs) none (some (-16))))) S = some (.lst (vn (bs.take (sizeF bs - 16)))) := by rw [upd_same, eS]
    refine ⟨S, bs.take (sizeF bs - 16), rfl, hS, fun b hb => b2 b (List.mem_of_mem_take hb), by rw [List.length_take]; omega, fun H12 l s12 nl hl => ?_⟩
    have x12 := sS.trans s12
    refine ⟨_, rfl, _, rfl, _, rfl, a, _, rfl, SqL.of (x12 _ _ ha11), fun R nR => ?_⟩
    have eR : cutV (vn bs) (some (-16)) none = vn (bs.drop (sizeF bs - 16)) := by
      have := cut_neg_from (vn bs) 16 (by decide)
      rw [vn_len, c1] at this
      unfold vn at this ⊢
      rw [List.map_drop]
      exact this
    have sR := same_new (o := .lst (cutV (vn bs) (some (-16)) none)) nR
    have hR' : (upd H12 R (.lst (cutV (vn bs) (some (-16)) none))) R = some (.lst (vn (bs.drop (sizeF bs - 16)))) := by rw [upd_same, eR]
    have x13 := x11.trans (x12.trans sR)
    refine neD (a := crcL (bs.take (sizeF bs - 16))) (b := bs.drop (sizeF bs - 16)) (Dv.natl (sR _ _ hl)) (Dv.natl hR') (by decide) ⟨_, rfl, ?_⟩
    by_cases c2 : bs.drop (sizeF bs - 16) = crcL (bs.take (sizeF bs - 16))
    case neg =>
      have hU : sumF bs = some (sizeF bs - 16) := by
        unfold sumF
        rw [if_pos c2]
      rw [decide_eq_false (fun e => c2 e.symm)]
      refine iteT ⟨_, rfl, _, _, rfl, rfl, ?_⟩
      have := q _ x13
      rw [hU, show ofF (some (sizeF bs - 16)) = ((sizeF bs : Nat) : Int) - 16 from em.symm] at this
      exact this
    have hU : sumF bs = restF bs := by
      unfold sumF
      rw [if_neg (fun z => z c2)]
    rw [hU] at q
    rw [decide_eq_true c2.symm]
    refine iteF ?_
    have ht13 := (x12.trans sR) _ _ ht11
    have hD13 := (x12.trans sR) _ _ hD11
    have ha13 := x13 _ _ ha
    -- the codes
    refine ⟨_, rfl, _, rfl, a, t, decF bs, bs, rfl, ha13, b2, few, ht13, f, by omega, fun H14 s14 => ?_⟩
    refine ⟨_, rfl, _, _, rfl, rfl, _, rfl, ?_⟩
    unfold restF at q
    rcases hS' : settsF bs (decF bs) ((decF bs).w * (decF bs).h) with _ | z
    case some =>
      rw [hS'] at q
      rw [decide_eq_true (show ofF (some z) ≥ 0 by show ((z : Nat) : Int) ≥ 0; omega)]
      exact iteT ⟨_, rfl, q _ (x13.trans s14)⟩
    rw [hS'] at q
    rw [decide_eq_false (show ¬ ofF none ≥ 0 by decide)]
    refine iteF ?_
    have q : ∀ H', Same H H' → Q (.int (ofF ((endsF bs (decF bs) (endsA (decF bs)) (nI bs)).or (endsF bs (decF bs) (endsA (decF bs) + nI bs * 13) (nO bs))))) H' := q
    refine ⟨_, rfl, _, rfl, _, _, rfl, rfl, .inl ⟨by omega, by omega⟩, _, _, rfl, rfl, ?_⟩
    have e8 : (27 : Int) + (((decF bs).w * (decF bs).h : Nat) : Int) * (((decF bs).setBits : Nat) : Int) = ((endsA (decF bs) : Nat) : Int) := by
      unfold endsA
      rw [← Int.natCast_mul]
      omega
    simp only [e8]
    have eA : endsA (decF bs) = 27 + (decF bs).w * (decF bs).h * (decF bs).setBits := rfl
    generalize endsA (decF bs) = A at q eA ⊢
    have hD14 := s14 _ _ hD13
    refine ⟨_, rfl, _, rfl, D, _, rfl, SqL.of hD14, fun E' nE => ?_⟩
    have eE : cutV (vn [num bs 0 4, num bs 4 4, num bs 8 3, num bs 11 2, nI bs, nO bs]) (some 4) none = vn [nI bs, nO bs] := (cut_from _ 4).trans rfl
    rw [eE]
    obtain ⟨sE, hE⟩ := new_lst (xs := vn [nI bs, nO bs]) nE
    generalize (upd H14 E' (.lst (vn [nI bs, nO bs]))) = H15 at sE hE ⊢
    have x15 := x13.trans (s14.trans sE)
    have ht15 := (s14.trans sE) _ _ ht13
    -- what the two turns are
    have tt : ∀ (j : Nat) (n : Nat), ([nI bs, nO bs] : List Nat)[j]? = some n → n ≤ 64 ∧ (if j = 0 then A else if j = 1 then A + nI bs * 13 else A + nI bs * 13 + nO bs * 13) + n * 13 ≤ bs.length ∧
        (if j + 1 = 0 then A else if j + 1 = 1 then A + nI bs * 13 else A + nI bs * 13 + nO bs * 13) = (if j = 0 then A else if j = 1 then A + nI bs * 13 else A + nI bs * 13 + nO bs * 13) + n * 13 ∧
        (fs j (fun j => if j = 0 then endsF bs (decF bs) A (nI bs) else endsF bs (decF bs) (A + nI bs * 13) (nO bs)) = none → ∀ z, endsF bs (decF bs) (if j = 0 then A else if j = 1 then A + nI bs * 13 else A + nI bs * 13 + nO bs * 13) n = some z → (endsF bs (decF bs) A (nI bs)).or (endsF bs (decF bs) (A + nI bs * 13) (nO bs)) = some z) ∧
        (endsF bs (decF bs) (if j = 0 then A else if j = 1 then A + nI bs * 13 else A + nI bs * 13 + nO bs * 13) n = none → (fun j => if j = 0 then endsF bs (decF bs) A (nI bs) else endsF bs (decF bs) (A + nI bs * 13) (nO bs)) j = none) := fun j n h => by
      have jl := (List.getElem?_eq_some_iff.mp h).1
      have : j = 0 ∨ j = 1 := by
        have : j < 2 := jl
        omega
      rcases this with rfl | rfl
      · cases h
        refine ⟨h5, ?_, rfl, fun _ z hz => ?_, fun h => h⟩
        · rw [if_pos rfl]
          omega
        · rw [if_pos rfl] at hz
          rw [hz]
          rfl
      · cases h
        refine ⟨h6, ?_, rfl, fun h0 z hz => ?_, fun h => h⟩
        · show A + nI bs * 13 + nO bs * 13 ≤ _
          omega
        · have h00 : endsF bs (decF bs) A (nI bs) = none := fs_none h0 0 (by decide)
          rw [h00]
          exact hz
    refine ⟨E', rfl, ⟨_, SqL.of hE⟩, for_list (xs := vn [nI bs, nO bs]) (fun j σ Hx => ∃ (y4 y8 y9 y10 : Option V), σ = [some (.ref a), some (.int ((if j = 0 then A else if j = 1 then A + nI bs * 13 else A + nI bs * 13 + nO bs * 13 : Nat) : Int)), some (.int ((sizeF bs : Nat) : Int)), some (.ref D), y4, some (.ref t), some (.int (((decF bs).w * (decF bs).h : Nat) : Int)), some (.int (((decF bs).setBits : Nat) : Int)), y8, y9, y10] ∧ Same H15 Hx ∧ fs j (fun j => if j = 0 then endsF bs (decF bs) A (nI bs) else endsF bs (decF bs) (A + nI bs * 13) (nO bs)) = none) ⟨y4, none, none, none, rfl, Same.refl _, rfl⟩ (fun j σ Hx _ h => ?_) ?_ ?_⟩
    · obtain ⟨_, _, _, _, _, s, _⟩ := h
      exact SqL.of (s _ _ hE)
    · rintro j w σ Hy hw ⟨y4, y8, y9, y10, rfl, sy, hfj⟩
      obtain ⟨many, em', rfl, _⟩ := nat_at' hw
      obtain ⟨m64, fitj, nextj, hit, miss⟩ := tt j many em'
      rw [nextj]
      generalize (if j = 0 then A else if j = 1 then A + nI bs * 13 else A + nI bs * 13 + nO bs * 13) = B at fitj hit miss ⊢
      refine ⟨by show 0 ≤ sizeLine; decide, fun P' nP => ?_⟩
      obtain ⟨sP, hP⟩ := new_lst (xs := []) nP
      generalize (upd Hy P' (.lst [])) = H16 at sP hP ⊢
      refine ⟨_, rfl, _, rfl, by omega, by omega, for_range (n := many) (fun k σ Hx => ∃ (y4 y10 : Option V) (us : List V), σ = [some (.ref a), some (.int ((B + k * 13 : Nat) : Int)), some (.int ((sizeF bs : Nat) : Int)), some (.ref D), y4, some (.ref t), some (.int (((decF bs).w * (decF bs).h : Nat) : Int)), some (.int (((decF bs).setBits : Nat) : Int)), some (.int (many : Nat)), some (.ref P'), y10] ∧ Same Hy Hx ∧ Hx P' = some (.lst us) ∧ Dvs (hid P' (fresh Hy Hx)) us (decPs bs B k) ∧ fs k (endsG bs (decF bs) B) = none) ⟨y4, y10, [], by rw [Nat.zero_mul]; rfl, sP, hP, .nil, rfl⟩ ?_ ?_⟩
      · rintro k σ Hz hk ⟨y4, y10, us, rfl, sz, hx, dus, hfk⟩
        rw [Int.zero_add]
        have xz := x15.trans (sy.trans sz)
        have haz := xz _ _ ha
        have htz := (sy.trans sz) _ _ ht15
        refine ⟨_, rfl, _, rfl, a, bs, B + k * 13, 4, rfl, haz, b2, few, by decide, by omega, fun G1 g1 => ⟨_, rfl, _, rfl, _, _, rfl, rfl, a, bs, B + k * 13 + 4, 4, rfl, g1 _ _ haz, b2, few, by decide, by omega, fun G2 g2 => ⟨_, rfl, _, rfl, _, _, rfl, rfl, a, bs, B + k * 13 + 8, 2, rfl, (g1.trans g2) _ _ haz, b2, few, by decide, by omega, fun G3 g3 => ⟨_, rfl, _, rfl, _, _, rfl, rfl, a, bs, B + k * 13 + 10, 3, rfl, (g1.trans (g2.trans g3)) _ _ haz, b2, few, by decide, by omega, fun G4 g4 => ⟨by show 4 ≤ sizeLine; decide, fun u nu => ?_⟩⟩⟩⟩⟩
        have g14 := g1.trans (g2.trans (g3.trans g4))
        have su := same_new (o := .tup (decP bs (B + k * 13)).its) nu
        have hu : (upd G4 u (.tup (decP bs (B + k * 13)).its)) u = some (.tup (decP bs (B + k * 13)).its) := upd_same
        show tSeq _ _ _ _ (upd G4 u (.tup (decP bs (B + k * 13)).its))
        have k1 : (PadOk (decF bs) (decP bs (B + k * 13)) ∧ decP bs (B + k * 13) ∉ decPs bs B k) → endsG bs (decF bs) B k = none := fun h => by
          unfold endsG
          rw [if_pos h]
        have k2 : ¬ (PadOk (decF bs) (decP bs (B + k * 13)) ∧ decP bs (B + k * 13) ∉ decPs bs B k) → endsG bs (decF bs) B k = some (B + k * 13) := fun h => by
          unfold endsG
          rw [if_neg h]
        have sn := decPs_snoc bs B k
        generalize decP bs (B + k * 13) = e at hu su k1 k2 sn ⊢
        generalize (upd G4 u (.tup e.its)) = G5 at su hu ⊢
        have g15 := g14.trans su
        refine ⟨_, rfl, _, rfl, t, u, decF bs, e, rfl, g15 _ _ htz, hu, f, fun G6 b g6 eb => ⟨_, rfl, ?_⟩⟩
        have g16 := g15.trans g6
        have ret : ¬ (PadOk (decF bs) e ∧ e ∉ decPs bs B k) → Q (.int ((B + k * 13 : Nat) : Int)) G6 := fun no => by
          have := q _ (xz.trans g16)
          rw [hit hfj _ (fs_hit hfk (k2 no) many hk)] at this
          exact this
        cases b with
        | false =>
          have no : ¬ (PadOk (decF bs) e ∧ e ∉ decPs bs B k) := fun z => by
            have := eb.mpr z.1
            cases this
          exact iteT (iteT ⟨_, rfl, ret no⟩)
        | true =>
          have pe := eb.mp rfl
          have hx4 := g16 _ _ hx
          have fr : Same (hid P' (fresh Hy Hz)) (hid P' (fresh Hy G6)) := hid_mono (fresh_post g16)
          have dl : Dv G6 (.ref P') (decPs bs B k) := Dv.list hx4 ((dus.same fr).same ((hid_same _ _).trans fun b o z => (fresh_some z).2))
          refine iteF ⟨_, rfl, _, rfl, _, _, dh_dp _ _ (Dv.pad (e := e) (g6 _ _ hu)), dh_dp _ _ dl, shaped_of e (by decide), shaped_of (decPs bs B k) (by decide), ?_⟩
          rw [any_in]
          by_cases ni : e ∈ decPs bs B k
          · rw [decide_eq_true ni]
            exact ⟨_, rfl, iteT ⟨_, rfl, ret (fun z => z.2 ni)⟩⟩
          rw [decide_eq_false ni]
          refine ⟨_, rfl, iteF ⟨_, rfl, .inl ⟨rfl, _, SqL.of hx4⟩, _, rfl, P', _, _, rfl, rfl, hx4, ?_, ?_⟩⟩
          · rw [dus.len, decPs_len]
            exact small64k (by omega)
          · have nt0 := none_of (sz.trans g14) nu
            have tD : u ≠ P' := (ne_of_none (g14 _ _ hx) nu).symm
            refine ⟨_, rfl, _, _, rfl, rfl, some (.int (k : Nat)), some (.ref u), us ++ [.ref u], ?_, same_mut (sz.trans g16) nP, upd_same, ?_, by rw [fs_next hfk]; exact k1 ⟨pe, ni⟩⟩
            · rw [Nat.succ_mul, ← Nat.add_assoc, Int.natCast_add (B + k * 13)]
              rfl
            · rw [sn]
              have fm : Same (hid P' (fresh Hy G6)) (hid P' (fresh Hy (upd G6 P' (.lst (us ++ [.ref u]))))) := fun b u z => by
                obtain ⟨h1, h2⟩ := hid_some z
                obtain ⟨h3, h4⟩ := fresh_some h2
                exact hid_of h1 (fresh_of h3 (by rw [upd_ne h1]; exact h4))
              refine ((dus.same fr).same fm).app (.cons (Dv.pad (hid_of tD (fresh_of nt0 ?_))) .nil)
              rw [upd_ne tD]
              exact g6 _ _ hu
      · rintro σ Hz ⟨y4, y10, us, rfl, sz, hx, dus, hfk⟩
        refine ⟨_, _, _, _, rfl, sy.trans sz, ?_⟩
        rw [fs_next hfj]
        exact miss hfk
    rintro σ Hx ⟨y4, y8, y9, y10, rfl, sx, hf⟩
    have h0 : endsF bs (decF bs) A (nI bs) = none := fs_none hf 0 (by show 0 < 2; decide)
    have h1' : endsF bs (decF bs) (A + nI bs * 13) (nO bs) = none := fs_none hf 1 (by show 1 < 2; decide)
    have := q _ (x15.trans sx)
    rw [h0, h1'] at this
    exact ⟨_, rfl, this⟩

end K57
namespace K57
open PySem PySem.Spec PyProof.Rows L2 V0
/-! ### what the sum sees: turned bits -/
theorem rb_ext {r s : Nat} (h : r < 65536) (h' : s < 65536) (e : ∀ j, j < 16 → rb r j = rb s j) : r = s := by
  refine Nat.eq_of_testBit_eq fun i => ?_
  by_cases c : i < 16
  · have := e (15 - i) (by omega)
    unfold rb at this
    rw [show 15 - (15 - i) = i by omega, decide_eq_true (show 15 - i < 16 by omega), Bool.and_true, Bool.and_true] at this
    exact this
  · have p : (65536 : Nat) ≤ 2 ^ i := Nat.le_trans (by decide : 65536 ≤ 2 ^ 16) (Nat.pow_le_pow_right (by decide) (by omega))
    rw [Nat.testBit_lt_two_pow (Nat.lt_of_lt_of_le h p), Nat.testBit_lt_two_pow (Nat.lt_of_lt_of_le h' p)]
theorem rb_xor (r s j : Nat) : rb (r ^^^ s) j = Bool.xor (rb r j) (rb s j) := by
  unfold rb
  rw [Nat.testBit_xor]
  cases decide (j < 16) <;> simp
theorem xor_lt {r s : Nat} (h : r < 65536) (h' : s < 65536) : r ^^^ s < 65536 := Nat.xor_lt_two_pow (n := 16) h h'
def lin (bs : List Nat) (r : Nat) : Nat := bs.foldl crcS r
def it : Nat → Nat → Nat
  | 0, d => d
  | n + 1, d => it n (crcS d 0)
theorem it_lt : ∀ (n : Nat) {d : Nat}, d < 65536 → it n d < 65536
  | 0, _, h => h
  | n + 1, _, _ => it_lt n (crcS_lt _ _)
theorem it_add : ∀ (m n d : Nat), it (m + n) d = it n (it m d)
  | 0, n, d => by rw [Nat.zero_add]; rfl
  | m + 1, n, d => by
    rw [show m + 1 + n = m + n + 1 by omega]
    exact it_add m n (crcS d 0)
theorem it_zero : ∀ n, it n 0 = 0
  | 0 => rfl
  | n + 1 => it_zero n
theorem crcS_xor {r d b : Nat} (hr : r < 65536) (hd : d < 65536) (hb : b < 2) : crcS (r ^^^ d) b = crcS r b ^^^ crcS d 0 := by
  refine rb_ext (crcS_lt _ _) (xor_lt (crcS_lt _ _) (crcS_lt _ _)) fun j hj => ?_
  rw [rb_xor, rb_step (xor_lt hr hd) hj, rb_step hr hj, rb_step hd hj, rb_xor, rb_xor]
  generalize rb r (j + 1) = x
  generalize rb d (j + 1) = y
  generalize rb r 0 = u
  generalize rb d 0 = v
  generalize (j == 3 || j == 10 || j == 15) = p
  have : b = 0 ∨ b = 1 := by omega
  rcases this with rfl | rfl <;> cases x <;> cases y <;> cases u <;> cases v <;> cases p <;> decide
theorem it_xor {d e : Nat} (hd : d < 65536) (he : e < 65536) : ∀ n, it n (d ^^^ e) = it n d ^^^ it n e := fun n => by
  induction n generalizing d e with
  | zero => rfl
  | succ n ih =>
    show it n (crcS (d ^^^ e) 0) = it n (crcS d 0) ^^^ it n (crcS e 0)
    rw [crcS_xor hd he (by decide), ih (crcS_lt _ _) (crcS_lt _ _)]
theorem lin_xor : ∀ {bs : List Nat} {r d : Nat}, (∀ b ∈ bs, b < 2) → r < 65536 → d < 65536 → lin bs (r ^^^ d) = lin bs r ^^^ it bs.length d
  | [], _, _, _, _, _ => rfl
  | b :: bs, r, d, h, hr, hd => by
    show lin bs (crcS (r ^^^ d) b) = lin bs (crcS r b) ^^^ it bs.length (crcS d 0)
    rw [crcS_xor hr hd (h b List.mem_cons_self), lin_xor (fun x hx => h x (List.mem_cons_of_mem _ hx)) (crcS_lt _ _) (crcS_lt _ _)]
theorem crcS_flip {r b : Nat} (hr : r < 65536) (hb : b < 2) : crcS r (1 - b) = crcS r b ^^^ 4129 := by
  unfold crcS
  have t2 : r * 2 / 65536 < 2 := by omega
  generalize r * 2 % 65536 = x
  generalize r * 2 / 65536 = t at t2
  by_cases c : t = b
  · rw [if_pos (show t ≠ 1 - b by omega), if_neg (fun z => z c)]
  · rw [if_neg (show ¬ t ≠ 1 - b by omega), if_pos c, Nat.xor_assoc, Nat.xor_self, Nat.xor_zero]
/-- one bit turned -/
def turn (bs : List Nat) (k : Nat) : List Nat := bs.take k ++ [1 - bs[k]?.getD 0] ++ bs.drop (k + 1)
theorem turn_len {bs : List Nat} {k : Nat} (h : k < bs.length) : (turn bs k).length = bs.length := by
  unfold turn
  rw [List.length_append, List.length_append, List.length_take, List.length_drop]
  show min k _ + 1 + _ = _
  omega
theorem turn_two {bs : List Nat} (h : ∀ b ∈ bs, b < 2) (k : Nat) : ∀ b ∈ turn bs k, b < 2 := fun b hb => by
  unfold turn at hb
  rcases List.mem_append.mp hb with hb | hb
  · rcases List.mem_append.mp hb with hb | hb
    · exact h b (List.mem_of_mem_take hb)
    · rw [List.mem_singleton.mp hb]
      omega
  · exact h b (List.mem_of_mem_drop hb)
theorem crc_turn {bs : List Nat} (h : ∀ b ∈ bs, b < 2) {k : Nat} (hk : k < bs.length) : crc (turn bs k) = crc bs ^^^ it (bs.length - 1 - k) 4129 := by
  have e : bs[k]? = some bs[k] := List.getElem?_eq_getElem hk
  have hb := h _ (List.getElem_mem hk)
  have split : bs = bs.take k ++ bs[k] :: bs.drop (k + 1) := by
    rw [← List.drop_eq_getElem_cons hk, List.take_append_drop]
  have l2 : (bs.drop (k + 1)).length = bs.length - 1 - k := by
    rw [List.length_drop]
    omega
  have e2 : crc bs = lin (bs.drop (k + 1)) (crcS (crc (bs.take k)) bs[k]) := by
    conv => lhs; rw [split]
    unfold crc lin
    rw [List.foldl_append]
    rfl
  have e1 : crc (turn bs k) = lin (bs.drop (k + 1)) (crcS (crc (bs.take k)) (1 - bs[k])) := by
    unfold turn
    rw [e, Option.getD_some]
    unfold crc lin
    rw [List.foldl_append, List.foldl_append]
    rfl
  rw [e1, e2, crcS_flip (crc_lt _) hb, lin_xor (fun b hb => h b (List.mem_of_mem_drop hb)) (crcS_lt _ _) (by decide), l2]
/-- what turned bits add to the sum -/
def xsum (n : Nat) (ks : List Nat) : Nat := ks.foldr (fun k x => it (n - 1 - k) 4129 ^^^ x) 0
theorem xsum_lt (n : Nat) : ∀ ks, xsum n ks < 65536
  | [] => by
    show (0 : Nat) < 65536
    decide
  | k :: ks => xor_lt (it_lt _ (by decide)) (xsum_lt n ks)
theorem crc_turns : ∀ {ks bs : List Nat}, (∀ b ∈ bs, b < 2) → (∀ k ∈ ks, k < bs.length) → crc (ks.foldl turn bs) = crc bs ^^^ xsum bs.length ks
  | [], bs, _, _ => (Nat.xor_zero _).symm
  | k :: ks, bs, h, hk => by
    have h1 := hk k List.mem_cons_self
    rw [List.foldl_cons, crc_turns (turn_two h k) (fun j hj => by rw [turn_len h1]; exact hk j (List.mem_cons_of_mem _ hj)), crc_turn h h1, turn_len h1, Nat.xor_assoc]
    rfl
/-! it sees them -/
theorem step_zero {d : Nat} (hd : d < 65536) (h : crcS d 0 = 0) : d = 0 := by
  have e : ∀ j, j < 16 → rb (crcS d 0) j = false := fun j _ => by
    rw [h]
    unfold rb
    rw [Nat.zero_testBit, Bool.false_and]
  have r16 : rb d 16 = false := by
    unfold rb
    rw [decide_eq_false (by decide), Bool.and_false]
  have t : rb d 0 = false := by
    have := e 15 (by decide)
    rw [rb_step hd (by decide), r16] at this
    generalize rb d 0 = u at this
    cases u
    · rfl
    · exact absurd this (by decide)
  refine rb_ext hd (by decide) fun j hj => ?_
  have z : rb 0 j = false := by
    unfold rb
    rw [Nat.zero_testBit, Bool.false_and]
  rw [z]
  cases j with
  | zero => exact t
  | succ j =>
    have := e j (by omega)
    rw [rb_step hd (by omega), t] at this
    generalize (j == 3 || j == 10 || j == 15) = p at this
    generalize rb d (j + 1) = u at this ⊢
    cases u
    · rfl
    · cases p <;> exact absurd this (by decide)
theorem it_ne {d : Nat} (hd : d < 65536) (h : d ≠ 0) : ∀ n, it n d ≠ 0 := fun n => by
  induction n generalizing d with
  | zero => exact h
  | succ n ih => exact ih (crcS_lt _ _) fun z => h (step_zero hd z)
theorem xor_eq {x y : Nat} (h : x ^^^ y = 0) : x = y := by
  have := congrArg (fun z => z ^^^ y) h
  simp only [Nat.xor_assoc, Nat.xor_self, Nat.xor_zero, Nat.zero_xor] at this
  exact this
/-- the sum of bits does not come round soon -/
def chk : Nat → Nat → Bool
  | 0, _ => true
  | n + 1, r => (crcS r 0 != 4129) && chk n (crcS r 0)
theorem chk_it : ∀ {n r : Nat}, chk n r = true → ∀ d, 0 < d → d ≤ n → it d r ≠ 4129
  | 0, _, _, d, h1, h2 => by omega
  | n + 1, r, h, d, h1, h2 => by
    unfold chk at h
    obtain ⟨a, b⟩ := Bool.and_eq_true_iff.mp h
    cases d with
    | zero => omega
    | succ d =>
      by_cases z : d = 0
      · subst z
        exact bne_iff_ne.mp a
      · exact chk_it b d (by omega) (by omega)
set_option maxRecDepth 1000000 in
theorem chk_all : chk 30000 4129 = true := by decide +kernel
theorem hard1 (n k : Nat) : xsum n [k] ≠ 0 := fun h => by
  have h : it (n - 1 - k) 4129 ^^^ 0 = 0 := h
  rw [Nat.xor_zero] at h
  exact it_ne (by decide) (by decide) _ h
theorem it_apart {a d : Nat} (h0 : 0 < d) (h : d ≤ 30000) : it (d + a) 4129 ≠ it a 4129 := fun e => by
  rw [it_add] at e
  have z : it a (it d 4129 ^^^ 4129) = 0 := by
    rw [it_xor (it_lt d (by decide)) (by decide), e, Nat.xor_self]
  refine chk_it chk_all d h0 h ?_
  by_cases c : it d 4129 ^^^ 4129 = 0
  · exact xor_eq c
  · exact absurd z (it_ne (xor_lt (it_lt d (by decide)) (by decide)) c a)
theorem hard2 {n k j : Nat} (hn : n ≤ 30000) (hk : k < n) (hj : j < n) (ne : k ≠ j) : xsum n [k, j] ≠ 0 := fun h => by
  have h : it (n - 1 - k) 4129 ^^^ (it (n - 1 - j) 4129 ^^^ 0) = 0 := h
  rw [Nat.xor_zero] at h
  have e := xor_eq h
  by_cases c : k < j
  · have := it_apart (a := n - 1 - j) (d := j - k) (by omega) (by omega)
    rw [show j - k + (n - 1 - j) = n - 1 - k by omega] at this
    exact this e
  · have := it_apart (a := n - 1 - k) (d := k - j) (by omega) (by omega)
    rw [show k - j + (n - 1 - k) = n - 1 - j by omega] at this
    exact this e.symm
/-- whether an odd number of bits is set -/
def par (r : Nat) : Bool := (List.range 16).foldr (fun j b => Bool.xor (rb r j) b) false
theorem par_xor (r s : Nat) : par (r ^^^ s) = Bool.xor (par r) (par s) := by
  unfold par
  have : ∀ l : List Nat, l.foldr (fun j b => Bool.xor (rb (r ^^^ s) j) b) false = Bool.xor (l.foldr (fun j b => Bool.xor (rb r j) b) false) (l.foldr (fun j b => Bool.xor (rb s j) b) false) := fun l => by
    induction l with
    | nil => rfl
    | cons j l ih =>
      rw [List.foldr_cons, List.foldr_cons, List.foldr_cons, ih, rb_xor]
      generalize l.foldr (fun j b => Bool.xor (rb r j) b) false = u
      generalize l.foldr (fun j b => Bool.xor (rb s j) b) false = v
      cases rb r j <;> cases rb s j <;> cases u <;> cases v <;> rfl
  exact this _
theorem par_step {d : Nat} (hd : d < 65536) : par (crcS d 0) = par d := by
  have e : ∀ j, j < 16 → rb (crcS d 0) j = Bool.xor (rb d (j + 1)) (rb d 0 && (j == 3 || j == 10 || j == 15)) := fun j hj => by
    rw [rb_step hd hj]
    cases rb d 0 <;> rfl
  have r16 : rb d 16 = false := by
    unfold rb
    rw [decide_eq_false (by decide), Bool.and_false]
  have l16 : List.range 16 = [0, 1, 2, 3, 4, 5, 6, 7, 8, 9, 10, 11, 12, 13, 14, 15] := by decide
  unfold par
  rw [l16]
  simp only [List.foldr_cons, List.foldr_nil]
  rw [e 0 (by decide), e 1 (by decide), e 2 (by decide), e 3 (by decide), e 4 (by decide), e 5 (by decide), e 6 (by decide), e 7 (by decide), e 8 (by decide), e 9 (by decide), e 10 (by decide), e 11 (by decide), e 12 (by decide), e 13 (by decide), e 14 (by decide), e 15 (by decide), r16]
  generalize rb d 0 = b0
  generalize rb d 1 = b1
  generalize rb d 2 = b2
  generalize rb d 3 = b3
  generalize rb d 4 = b4
  generalize rb d 5 = b5
  generalize rb d 6 = b6
  generalize rb d 7 = b7
  generalize rb d 8 = b8
  generalize rb d 9 = b9
  generalize rb d 10 = b10
  generalize rb d 11 = b11
  generalize rb d 12 = b12
  generalize rb d 13 = b13
  generalize rb d 14 = b14
  generalize rb d 15 = b15
  cases b0 <;> simp
theorem par_it : ∀ (n : Nat) {d : Nat}, d < 65536 → par (it n d) = par d
  | 0, _, _ => rfl
  | n + 1, d, h => (par_it n (crcS_lt d 0)).trans (par_step h)
theorem par_sum (n : Nat) : ∀ ks : List Nat, par (xsum n ks) = decide (ks.length % 2 = 1)
  | [] => by
    show par 0 = false
    decide +kernel
  | k :: ks => by
    have p1 : par 4129 = true := by decide +kernel
    show par (it (n - 1 - k) 4129 ^^^ xsum n ks) = _
    rw [par_xor, par_it _ (by decide), p1, par_sum n ks, List.length_cons]
    by_cases c : ks.length % 2 = 1
    · rw [decide_eq_true c, decide_eq_false (by omega)]
      rfl
    · rw [decide_eq_false c, decide_eq_true (by omega)]
      rfl
theorem hard3 (n : Nat) {ks : List Nat} (h : ks.length % 2 = 1) : xsum n ks ≠ 0 := fun z => by
  have := par_sum n ks
  rw [z, decide_eq_true h] at this
  exact absurd this (by decide +kernel)
/-! turned bits within sixteen -/
theorem nodup_map_of {α β : Type} {f : α → β} : ∀ {l : List α}, l.Nodup → (∀ a ∈ l, ∀ b ∈ l, f a = f b → a = b) → (l.map f).Nodup
  | [], _, _ => List.nodup_nil
  | x :: l, nd, h => by
    obtain ⟨n1, n2⟩ := List.nodup_cons.mp nd
    rw [List.map_cons]
    refine List.nodup_cons.mpr ⟨fun z => ?_, nodup_map_of n2 fun a ha b hb => h a (List.mem_cons_of_mem _ ha) b (List.mem_cons_of_mem _ hb)⟩
    obtain ⟨y, hy, e⟩ := List.mem_map.mp z
    exact n1 (h y (List.mem_cons_of_mem _ hy) x List.mem_cons_self e ▸ hy)
def opn (m : Nat) (R : List Nat) : List Nat := (List.range m).filter fun x => decide (x ∉ R)
theorem it_pow : ∀ m, m < 16 → it m 1 = 2 ^ m := by decide
theorem it_4129 : it 16 1 = 4129 := by decide
def pows (ms : List Nat) : Nat := ms.foldr (fun m x => 2 ^ m ^^^ x) 0
theorem pows_bit (i : Nat) : ∀ {ms : List Nat}, ms.Nodup → (pows ms).testBit i = decide (i ∈ ms)
  | [], _ => by
    show Nat.testBit 0 i = _
    rw [Nat.zero_testBit, decide_eq_false (by simp)]
  | m :: ms, h => by
    obtain ⟨h1, h2⟩ := List.nodup_cons.mp h
    show Nat.testBit (2 ^ m ^^^ pows ms) i = _
    rw [Nat.testBit_xor, pows_bit i h2, Nat.testBit_two_pow]
    by_cases c : m = i
    · subst c
      rw [decide_eq_true rfl, decide_eq_false h1, decide_eq_true List.mem_cons_self]
      rfl
    · rw [decide_eq_false c, Bool.false_xor]
      exact decide_eq_decide.mpr ⟨fun z => List.mem_cons_of_mem _ z, fun z => (List.mem_cons.mp z).elim (fun e => absurd e.symm c) id⟩
theorem pows_lt : ∀ {ms : List Nat}, (∀ m ∈ ms, m < 16) → pows ms < 65536
  | [], _ => by
    show (0 : Nat) < 65536
    decide
  | m :: ms, h => xor_lt (Nat.pow_lt_pow_right (by decide) (h m List.mem_cons_self) : 2 ^ m < 2 ^ 16) (pows_lt fun x hx => h x (List.mem_cons_of_mem _ hx))
theorem sum_pows {n a : Nat} (ha : a + 16 ≤ n) : ∀ {ks : List Nat}, (∀ k ∈ ks, a ≤ k ∧ k < a + 16) → xsum n ks = it (n - 1 - (a + 15) + 16) (pows (ks.map fun k => a + 15 - k))
  | [], _ => by
    show 0 = it _ 0
    rw [it_zero]
  | k :: ks, h => by
    obtain ⟨h1, h2⟩ := h k List.mem_cons_self
    have lt : pows (ks.map fun k => a + 15 - k) < 65536 := pows_lt fun m hm => by
      obtain ⟨j, hj, rfl⟩ := List.mem_map.mp hm
      have := h j (List.mem_cons_of_mem _ hj)
      omega
    have e : it (n - 1 - k) 4129 = it (n - 1 - (a + 15) + 16) (2 ^ (a + 15 - k)) := by
      rw [← it_pow _ (by omega), ← it_4129, ← it_add, ← it_add]
      congr 1
      omega
    show it (n - 1 - k) 4129 ^^^ xsum n ks = it _ (2 ^ (a + 15 - k) ^^^ pows (ks.map fun k => a + 15 - k))
    rw [sum_pows ha fun x hx => h x (List.mem_cons_of_mem _ hx), e, it_xor (Nat.pow_lt_pow_right (by decide) (by omega) : 2 ^ (a + 15 - k) < 2 ^ 16) lt]
theorem hard16 {n a : Nat} (ha : a + 16 ≤ n) {ks : List Nat} (nd : ks.Nodup) (ne : ks ≠ []) (h : ∀ k ∈ ks, a ≤ k ∧ k < a + 16) : xsum n ks ≠ 0 := by
  rw [sum_pows ha h]
  have nd2 : (ks.map fun k => a + 15 - k).Nodup := nodup_map_of nd fun x hx y hy e => by
    have := h x hx
    have := h y hy
    omega
  have lt : pows (ks.map fun k => a + 15 - k) < 65536 := pows_lt fun m hm => by
    obtain ⟨j, hj, rfl⟩ := List.mem_map.mp hm
    have := h j hj
    omega
  refine it_ne lt (fun z => ?_) _
  cases ks with
  | nil => exact ne rfl
  | cons k ks =>
    have := pows_bit (a + 15 - k) nd2
    rw [z, Nat.zero_testBit, decide_eq_true (List.mem_map.mpr ⟨k, List.mem_cons_self, rfl⟩)] at this
    cases this
/-! bits with their sum -/
theorem feed {r : Nat} (hr : r < 65536) : ∀ i, i ≤ 16 → ∀ j, rb (lin ((List.range i).map fun j => (rb r j).toNat) r) j = rb r (j + i) ∧ lin ((List.range i).map fun j => (rb r j).toNat) r < 65536
  | 0, _, j => ⟨rfl, hr⟩
  | i + 1, hi, j => by
    have step : lin ((List.range (i + 1)).map fun j => (rb r j).toNat) r = crcS (lin ((List.range i).map fun j => (rb r j).toNat) r) (rb r i).toNat := by
      unfold lin
      rw [List.range_succ, List.map_append, List.foldl_append]
      rfl
    obtain ⟨_, lt⟩ := feed hr i (by omega) j
    have ih := fun j => (feed hr i (by omega) j).1
    rw [step]
    refine ⟨?_, crcS_lt _ _⟩
    by_cases c : j < 16
    · rw [rb_step lt c, ih, ih, Nat.zero_add, decide_eq_false (fun z => z rfl), Bool.false_and, Bool.xor_false, show j + 1 + i = j + (i + 1) by omega]
    · unfold rb
      rw [decide_eq_false c, decide_eq_false (show ¬ j + (i + 1) < 16 by omega), Bool.and_false, Bool.and_false]
theorem crc_self (bs : List Nat) : crc (bs ++ crcL bs) = 0 := by
  have e : crc (bs ++ crcL bs) = lin (crcL bs) (crc bs) := by
    unfold crc lin
    rw [List.foldl_append]
  rw [e]
  have f := fun j => feed (crc_lt bs) 16 (Nat.le_refl _) j
  refine rb_ext (f 0).2 (by decide) fun j hj => ?_
  refine (f j).1.trans ?_
  unfold rb
  rw [decide_eq_false (show ¬ j + 16 < 16 by omega), Bool.and_false, Nat.zero_testBit, Bool.false_and]
theorem crc_enc (c : Conf) : crc (enc c) = 0 := crc_self (body c)
/-- the last sixteen bits as a number are the sum of the others: then the sum of all is nothing -/
theorem sum_told {bs : List Nat} (h : ∀ b ∈ bs, b < 2) (l : 16 ≤ bs.length) (e : num (bs.drop (bs.length - 16)).reverse 0 16 = crc (bs.take (bs.length - 16))) : crc bs = 0 := by
  have h2 : ∀ b ∈ (bs.drop (bs.length - 16)).reverse, b < 2 := fun b hb => h b (List.mem_of_mem_drop (List.mem_reverse.mp hb))
  have ll : (bs.drop (bs.length - 16)).length = 16 := by
    rw [List.length_drop]
    omega
  have b1 := bt_num h2 0 16
  have b0 : (bs.drop (bs.length - 16)).reverse.take 16 = (bs.drop (bs.length - 16)).reverse := List.take_of_length_le (by rw [List.length_reverse, ll]; exact Nat.le_refl _)
  rw [e, seg_take (by rw [List.length_reverse, ll]; exact Nat.le_refl _), b0] at b1
  have b2 : bs.drop (bs.length - 16) = crcL (bs.take (bs.length - 16)) := by
    rw [← List.reverse_reverse (bs.drop (bs.length - 16)), ← b1]
    unfold crcL
    generalize crc (bs.take (bs.length - 16)) = r
    refine List.ext_getElem? fun j => ?_
    by_cases c : j < 16
    · rw [List.getElem?_reverse (by rw [bt_len]; exact c), bt_len, bt_get (by omega), List.getElem?_map, List.getElem?_range c]
      show _ = some (rb r j).toNat
      unfold rb
      rw [decide_eq_true c, Bool.and_true, Nat.toNat_testBit]
    · rw [List.getElem?_eq_none (by rw [List.length_reverse, bt_len]; omega), List.getElem?_eq_none (by rw [List.length_map, List.length_range]; omega)]
  have := crc_self (bs.take (bs.length - 16))
  rw [← b2, List.take_append_drop] at this
  exact this

end K57
namespace K57
open PySem PySem.Spec PyProof.Rows L2 V0
/-! ### bits turned -/
def sp__law_turned (K : PySem.W.Frag) : Sp := fun vs H Q _ => ∃ (a : Addr) (bs : List Nat) (at_ : Nat), vs = [.ref a, .int (at_ : Nat)] ∧ H a = some (.lst (vn bs)) ∧ (∀ b ∈ bs, b < 2) ∧ bs.length ≤ 60000 ∧ at_ < bs.length ∧ ∀ H' l, Same H H' → H l = none → H' l = some (.lst (vn (turn bs at_))) → Q (.ref l) H'
theorem ok__law_turned {P : Program} {w : World} {K : PySem.W.Frag} {mg : Str → Option Value} {base : Heap} {C_BitsError fI_BitsError : Addr} {fd_BitsError : FuncData} {B_ : Addr} {mc_ : Value} {O_FitError : Addr} {O_TextError : Addr} {tk_MOST_PLACES : Tok} {tk_MOST_TRACKS : Tok} {tk_MOST_PINS : Tok} {tk_MOST_ENDS : Tok} {tk_HEAD_BITS : Tok} {tk_END_BITS : Tok} {tk_SUM_BITS : Tok} {tk_DRIVE_BITS : Tok} {a_HEAD : Addr} {a_END : Addr} {a_STEPS_0 : Addr} {a_STEPS_1 : Addr} {a_STEPS_2 : Addr} {a_STEPS_3 : Addr} {a_STEPS : Addr} {f  : Addr} {fd  : FuncData} (F : Fun K "_law_turned" "_law_turned" s__law_turned f fd) (T : Txt K mg C_BitsError fI_BitsError fd_BitsError B_ mc_ O_FitError O_TextError tk_MOST_PLACES tk_MOST_TRACKS tk_MOST_PINS tk_MOST_ENDS tk_HEAD_BITS tk_END_BITS tk_SUM_BITS tk_DRIVE_BITS a_HEAD a_END a_STEPS_0 a_STEPS_1 a_STEPS_2 a_STEPS_3 a_STEPS) :
    FnOk P w K mg base CX0 1 f fd ["bits", "at"] (sp__law_turned K) := by
  refine F.ok sc_law_turned (fun vs H Q E h => ?_) (fun cdv A outer s0 H vs Q E hr h => ?_)
  · obtain ⟨a, bs, at_, rfl, _⟩ := h
    rfl
  · obtain ⟨a, bs, at_, rfl, ha, b2, few, lt, q⟩ := h
    refine ⟨_, (pss_one (ps_ret (pe_op op_cat (pe_op op_cat (pe_slice sl_list (pv 0) po_none (po_some (pv 1))) (pe_lst (pa_cons (pe_op op_sub pe_int (pe_ix (r := rIxL K) ix_list (pv 0) (pv 1) (fun _ _ => rfl))) pa_nil))) (pe_slice sl_list (pv 0) (po_some (pe_op op_add (pv 1) pe_int)) po_none)))), ?_⟩
    have eb := List.getElem?_eq_getElem lt
    have hb := b2 _ (List.getElem_mem lt)
    have et : turn bs at_ = bs.take at_ ++ [1 - bs[at_]] ++ bs.drop (at_ + 1) := by
      unfold turn
      rw [eb]
      rfl
    rw [et] at q
    refine ⟨_, rfl, _, rfl, _, rfl, a, _, rfl, SqL.of ha, fun S nS => ?_⟩
    rw [cut_to', show (vn bs).take at_ = vn (bs.take at_) by unfold vn; rw [List.map_take]]
    obtain ⟨s1, hS⟩ := new_lst (xs := vn (bs.take at_)) nS
    generalize (upd H S (.lst (vn (bs.take at_)))) = H1 at s1 hS ⊢
    refine ⟨_, rfl, _, rfl, a, _, _, _, rfl, rfl, SqL.of (s1 _ _ ha), atI_nat (vn_get eb), _, _, rfl, rfl, by show 1 ≤ sizeLine; decide, fun T' nT => ?_⟩
    have s2 := same_new (o := .lst [V.int ((1 : Int) - ((bs[at_] : Nat) : Int))]) nT
    have hT : (upd H1 T' (.lst [V.int ((1 : Int) - ((bs[at_] : Nat) : Int))])) T' = some (.lst (vn [1 - bs[at_]])) := by
      rw [upd_same, show (1 : Int) - ((bs[at_] : Nat) : Int) = ((1 - bs[at_] : Nat) : Int) by omega]
      rfl
    refine ⟨S, T', _, _, rfl, rfl, s2 _ _ hS, hT, by rw [vn_len, vn_len, List.length_take]; exact Nat.le_of_lt (small64k (by show _ + 1 ≤ _; omega)), fun U nU => ?_⟩
    rw [vn_cat]
    have s3 := (s1.trans s2).trans (same_new (o := .lst (vn (bs.take at_ ++ [1 - bs[at_]]))) nU)
    have hU : (upd (upd H1 T' (.lst [V.int ((1 : Int) - ((bs[at_] : Nat) : Int))])) U (.lst (vn (bs.take at_ ++ [1 - bs[at_]])))) U = some (.lst (vn (bs.take at_ ++ [1 - bs[at_]]))) := upd_same
    generalize (upd (upd H1 T' (.lst [V.int ((1 : Int) - ((bs[at_] : Nat) : Int))])) U (.lst (vn (bs.take at_ ++ [1 - bs[at_]])))) = H2 at s3 hU ⊢
    refine ⟨_, rfl, _, rfl, _, _, rfl, rfl, _, rfl, a, _, rfl, SqL.of (s3 _ _ ha), fun W nW => ?_⟩
    rw [show ((at_ : Nat) : Int) + 1 = ((at_ + 1 : Nat) : Int) by omega, cut_from, show (vn bs).drop (at_ + 1) = vn (bs.drop (at_ + 1)) by unfold vn; rw [List.map_drop]]
    obtain ⟨s4, hW⟩ := new_lst (xs := vn (bs.drop (at_ + 1))) nW
    generalize (upd H2 W (.lst (vn (bs.drop (at_ + 1))))) = H3 at s4 hW ⊢
    refine ⟨U, W, _, _, rfl, rfl, s4 _ _ hU, hW, by rw [vn_len, vn_len, List.length_append, List.length_take, List.length_drop]; exact Nat.le_of_lt (small64k (by show _ + 1 + _ ≤ _; omega)), fun Z nZ => ?_⟩
    rw [vn_cat]
    have s5 := s3.trans s4
    exact q _ Z (s5.trans (same_new nZ)) (none_of s5 nZ) upd_same
theorem turns_ok : ∀ {ks bs : List Nat}, (∀ b ∈ bs, b < 2) → (∀ k ∈ ks, k < bs.length) → (∀ b ∈ ks.foldl turn bs, b < 2) ∧ (ks.foldl turn bs).length = bs.length
  | [], _, h, _ => ⟨h, rfl⟩
  | k :: ks, bs, h, hk => by
    have h1 := hk k List.mem_cons_self
    obtain ⟨a, b⟩ := turns_ok (ks := ks) (bs := turn bs k) (turn_two h k) fun j hj => by
      rw [turn_len h1]
      exact hk j (List.mem_cons_of_mem _ hj)
    exact ⟨a, b.trans (turn_len h1)⟩
def sp__law_flipped (K : PySem.W.Frag) : Sp := fun vs H Q _ => ∃ (p c B : Addr) (bs : List Nat) (kind : Nat), vs = [.ref p, .ref B, .int (kind : Nat)] ∧ Dw H p c ∧ H B = some (.lst (vn bs)) ∧ (∀ b ∈ bs, b < 2) ∧ 16 ≤ bs.length ∧ bs.length ≤ 30000 ∧ kind < 3 ∧ crc bs = 0 ∧
  ∀ H' l zs, Gw p c H H' → H' l = some (.lst (vn zs)) → (∀ b ∈ zs, b < 2) → zs.length = bs.length → crc zs ≠ 0 → Q (.ref l) H'
theorem ok__law_flipped {P : Program} {w : World} {K : PySem.W.Frag} {mg : Str → Option Value} {base : Heap} {C_BitsError fI_BitsError : Addr} {fd_BitsError : FuncData} {B_ : Addr} {mc_ : Value} {O_FitError : Addr} {O_TextError : Addr} {tk_MOST_PLACES : Tok} {tk_MOST_TRACKS : Tok} {tk_MOST_PINS : Tok} {tk_MOST_ENDS : Tok} {tk_HEAD_BITS : Tok} {tk_END_BITS : Tok} {tk_SUM_BITS : Tok} {tk_DRIVE_BITS : Tok} {a_HEAD : Addr} {a_END : Addr} {a_STEPS_0 : Addr} {a_STEPS_1 : Addr} {a_STEPS_2 : Addr} {a_STEPS_3 : Addr} {a_STEPS : Addr} {f f_law_draw f_law_turned : Addr} {fd fd_law_draw fd_law_turned : FuncData} (F : Fun K "_law_flipped" "_law_flipped" s__law_flipped f fd) (T : Txt K mg C_BitsError fI_BitsError fd_BitsError B_ mc_ O_FitError O_TextError tk_MOST_PLACES tk_MOST_TRACKS tk_MOST_PINS tk_MOST_ENDS tk_HEAD_BITS tk_END_BITS tk_SUM_BITS tk_DRIVE_BITS a_HEAD a_END a_STEPS_0 a_STEPS_1 a_STEPS_2 a_STEPS_3 a_STEPS)
    (G__law_draw : FnOk P w K mg base CX0 1 f_law_draw fd_law_draw ["draws", "limit"] (sp__law_draw K)) (D__law_draw : Def K mg "_law_draw" f_law_draw fd_law_draw ["draws", "limit"])
    (G__law_turned : FnOk P w K mg base CX0 1 f_law_turned fd_law_turned ["bits", "at"] (sp__law_turned K)) (D__law_turned : Def K mg "_law_turned" f_law_turned fd_law_turned ["bits", "at"]) :
    FnOk P w K mg base CX0 2 f fd ["draws", "bits", "kind"] (sp__law_flipped K) := by
  refine F.ok sc_law_flipped (fun vs H Q E h => ?_) (fun cdv A outer s0 H vs Q E hr h => ?_)
  · obtain ⟨p, c, B, bs, kind, rfl, _⟩ := h
    rfl
  · obtain ⟨p, c, B, bs, kind, rfl, d0, hB, b2, l16, few, k3, z0, q⟩ := h
    refine ⟨_, (pss_cons (ps_set (i := 3) sc_law_flipped.nd rfl (.inl rfl) (pe_ix (r := rIxL K) ix_list (pe_lst (pa_cons (pe_op op_add pe_int (pe_call G__law_draw (hr.mono (by omega)) (by rfl) D__law_draw.m D__law_draw.k D__law_draw.b .nil pass0 (pa_cons (pv 0) (pa_cons pe_int pa_nil)))) (pa_cons (pe_op op_add pe_int (pe_op op_mul pe_int (pe_call G__law_draw (hr.mono (by omega)) (by rfl) D__law_draw.m D__law_draw.k D__law_draw.b .nil pass0 (pa_cons (pv 0) (pa_cons pe_int pa_nil))))) (pa_cons (pe_op op_add pe_int (pe_call G__law_draw (hr.mono (by omega)) (by rfl) D__law_draw.m D__law_draw.k D__law_draw.b .nil pass0 (pa_cons (pv 0) (pa_cons pe_int pa_nil)))) pa_nil)))) (pv 2) (fun _ _ => rfl)))
      (pss_cons (ps_set (i := 4) sc_law_flipped.nd rfl (.inl rfl) (pe_call G__law_draw (hr.mono (by omega)) (by rfl) D__law_draw.m D__law_draw.k D__law_draw.b .nil pass0 (pa_cons (pv 0) (pa_cons (pe_op op_sub (pe_callB call_len_seq (by rfl) T.m_len (by decide +kernel) (pa_cons (pv 1) pa_nil)) pe_int) pa_nil))))
      (pss_cons (ps_set (i := 5) sc_law_flipped.nd rfl (.inl rfl) (pe_lst pa_nil))
      (pss_cons (ps_for PassesOwn.never rfl (pi_range1 rfl T.m_range (pa_cons (pv 3) pa_nil)) (pg_name (i := 6) sc_law_flipped.nd rfl (Or.inl rfl)) (C8.pss_cut (ps_set (i := 7) sc_law_flipped.nd rfl (.inl rfl) (pe_ifExp (pt_cmpR op_eq (pv 2) pe_int (nomark _)) (pe_op op_add (pv 4) (pe_call G__law_draw (hr.mono (by omega)) (by rfl) D__law_draw.m D__law_draw.k D__law_draw.b .nil pass0 (pa_cons (pv 0) (pa_cons pe_int pa_nil)))) (pe_call G__law_draw (hr.mono (by omega)) (by rfl) D__law_draw.m D__law_draw.k D__law_draw.b .nil pass0 (pa_cons (pv 0) (pa_cons (pe_callB call_len_seq (by rfl) T.m_len (by decide +kernel) (pa_cons (pv 1) pa_nil)) pa_nil)))))
      (pss_one (ps_if (pt_cmpR (r := rIn K true) op_notIn_seq (pv 7) (pv 5) (by rfl)) (pss_one (ps_expr (pe_bm PySem.F.plainAttrs_list PySem.F.slot_list_append PySem.F.type_list_append mt_append (pv 5) (pa_cons (pv 7) pa_nil)))) pss_nil))))
      (C8.pss_cut (ps_if (PW.pt (pw_and (pt_cmpR op_eq (pv 2) pe_int (nomark _)) (pw_and1 (pt_cmpR op_eq (pe_op op_modN (pe_callB call_len_seq (by rfl) T.m_len (by decide +kernel) (pa_cons (pv 5) pa_nil)) pe_int) pe_int (nomark _))))) (pss_one (ps_set (i := 5) sc_law_flipped.nd rfl (.inl rfl) (pe_slice sl_list (pv 5) (po_some pe_int) po_none))) pss_nil)
      (pss_cons (ps_for PassesOwn.never rfl (pi_list (pv 5)) (pg_name (i := 7) sc_law_flipped.nd rfl (Or.inl rfl)) (pss_one (ps_set (i := 1) sc_law_flipped.nd rfl (.inl rfl) (pe_call G__law_turned (hr.mono (by omega)) (by rfl) D__law_turned.m D__law_turned.k D__law_turned.b .nil pass0 (pa_cons (pv 1) (pa_cons (pv 7) pa_nil))))))
      (pss_one (ps_ret (pv 1))))))))), ?_⟩
    have lp : ∀ {b : Addr} {xs : List Nat} {Hx : Hp}, Dw Hx p c → Hx b = some (.lst (vn xs)) → b ≠ p := fun {b xs Hx} d h e => by
      obtain ⟨_, ys, i, b', z, hp, _⟩ := d
      rw [e, hp] at h
      cases xs with
      | nil => cases h
      | cons x xs => cases h
    refine ⟨_, rfl, p, c, 2, rfl, d0, by decide, by decide, fun H1 k1 g1 hk1 => ⟨_, _, rfl, rfl, _, rfl, p, c, 3, rfl, g1.b, by decide, by decide, fun H2 k2 g2 hk2 => ⟨_, _, rfl, rfl, .inl ⟨by omega, by omega⟩, _, _, rfl, rfl, _, rfl, p, c, 16, rfl, g2.b, by decide, by decide, fun H3 k3' g3 hk3 => ⟨_, _, rfl, rfl, by show 3 ≤ sizeLine; decide, fun L nL => ?_⟩⟩⟩⟩
    have g13 := g1.trans (g2.trans g3)
    obtain ⟨m, em, m1, m16, mk⟩ : ∃ m : Nat, ([V.int ((1 : Int) + ((k1 : Nat) : Int)), .int ((3 : Int) + 2 * ((k2 : Nat) : Int)), .int ((1 : Int) + ((k3' : Nat) : Int))] : List V)[kind]? = some (.int (m : Nat)) ∧ 1 ≤ m ∧ m ≤ 16 ∧ (kind = 0 → m ≤ 2) := by
      have : kind = 0 ∨ kind = 1 ∨ kind = 2 := by omega
      rcases this with rfl | rfl | rfl
      · exact ⟨1 + k1, rfl, by omega, by omega, fun _ => by omega⟩
      · exact ⟨3 + 2 * k2, rfl, by omega, by omega, fun h => by omega⟩
      · exact ⟨1 + k3', rfl, by omega, by omega, fun h => by omega⟩
    have gL := g13.more (same_new (o := .lst [V.int ((1 : Int) + ((k1 : Nat) : Int)), .int ((3 : Int) + 2 * ((k2 : Nat) : Int)), .int ((1 : Int) + ((k3' : Nat) : Int))]) nL)
    refine ⟨_, rfl, L, _, _, _, rfl, rfl, SqL.of upd_same, atI_nat em, ?_⟩
    generalize (upd H3 L _) = H4 at gL ⊢
    have hB4 := gL.get (lp d0 hB) hB
    have el : (((vn bs).length : Nat) : Int) - 15 = ((bs.length - 15 : Nat) : Int) := by
      rw [vn_len]
      omega
    refine ⟨_, rfl, _, rfl, B, _, rfl, .inl (SqL.of hB4), _, _, rfl, rfl, p, c, bs.length - 15, congrArg (fun z => [V.ref p, .int z]) el, gL.b, by omega, by omega, fun H5 first g5 hf => ?_⟩
    have g05 := gL.trans g5
    refine ⟨by show 0 ≤ sizeLine; decide, fun C nC => ?_⟩
    obtain ⟨sC, hC⟩ := new_lst (xs := []) nC
    have nC0 := g05.none nC
    have Cp := (d0.off nC0).1
    have g06 := g05.more sC
    generalize (upd H5 C (.lst [])) = H6 at hC g06 ⊢
    refine ⟨_, rfl, _, rfl, by omega, by omega, for_range (n := m) (fun i σ Hx => ∃ (y6 y7 : Option V) (cs : List Nat), σ = [some (.ref p), some (.ref B), some (.int (kind : Nat)), some (.int (m : Nat)), some (.int (first : Nat)), some (.ref C), y6, y7] ∧ Gw p c H Hx ∧ Hx C = some (.lst (vn cs)) ∧ cs.Nodup ∧ cs.length ≤ i ∧ (0 < i → cs ≠ []) ∧ (∀ x ∈ cs, x < bs.length) ∧ (kind = 2 → ∀ x ∈ cs, first ≤ x ∧ x < first + 16)) ⟨none, none, [], rfl, g06, hC, List.nodup_nil, Nat.le_refl _, fun h => absurd h (Nat.lt_irrefl _), fun x h => (by cases h), fun _ x h => (by cases h)⟩ ?_ ?_⟩
    · rintro i σ Hx hi ⟨y6, y7, cs, rfl, gx, hCx, nd, lc, ne, lt, inw⟩
      have hBx := gx.get (lp d0 hB) hB
      refine ⟨fun σ Hy => ∃ x : Nat, σ = [some (.ref p), some (.ref B), some (.int (kind : Nat)), some (.int (m : Nat)), some (.int (first : Nat)), some (.ref C), some (.int ((0 : Int) + (i : Nat))), some (.int (x : Nat))] ∧ Gw p c Hx Hy ∧ x < bs.length ∧ (kind = 2 → first ≤ x ∧ x < first + 16), ?_, ?_⟩
      · refine ⟨_, rfl, rfl, _, rfl, ?_⟩
        by_cases c2 : kind = 2
        · rw [show decide (V.int ((kind : Nat) : Int) = V.int 2) = true from decide_eq_true (by rw [c2]; rfl)]
          refine iteT ⟨_, rfl, _, rfl, p, c, 16, rfl, gx.b, by decide, by decide, fun H7 k g7 hk => ⟨_, _, rfl, rfl, first + k, rfl, g7, by omega, fun _ => by omega⟩⟩
        · rw [show decide (V.int ((kind : Nat) : Int) = V.int 2) = false from decide_eq_false (fun e => c2 (Int.ofNat.inj (V.int.inj e)))]
          refine iteF ⟨_, rfl, _, rfl, B, _, rfl, .inl (SqL.of hBx), p, c, bs.length, by rw [vn_len]; rfl, gx.b, by omega, by omega, fun H7 k g7 hk => ⟨k, rfl, g7, hk, fun h => absurd h c2⟩⟩
      · rintro σ Hy ⟨x, rfl, gy, xl, xw⟩
        have hCy := gy.get (lp gx.b hCx) hCx
        refine ⟨_, rfl, _, rfl, C, _, rfl, .inl (SqL.of hCy), rfl, flat_vn cs, _, rfl, ?_⟩
        rw [if_pos rfl, inV_vn]
        by_cases m' : x ∈ cs
        · rw [decide_eq_true m']
          exact iteF ⟨_, _, cs, rfl, gx.trans gy, hCy, nd, by omega, fun _ => List.ne_nil_of_mem m', lt, inw⟩
        · rw [decide_eq_false m']
          refine iteT ⟨_, rfl, .inl ⟨rfl, _, SqL.of hCy⟩, _, rfl, C, _, _, rfl, rfl, hCy, by rw [vn_len]; exact small64k (by omega), ?_⟩
          rw [vn_snoc]
          refine ⟨_, _, cs ++ [x], rfl, (gx.trans gy).mut nC0, upd_same, List.nodup_append.mpr ⟨nd, List.nodup_cons.mpr ⟨by simp, List.nodup_nil⟩, fun a ha b hb e => ?_⟩, by rw [List.length_append]; exact Nat.add_le_add_right lc 1, fun _ e => by simp at e, fun z hz => ?_, fun h2 z hz => ?_⟩
          · rw [List.mem_singleton.mp hb] at e
            exact m' (e ▸ ha)
          · rcases List.mem_append.mp hz with h | h
            · exact lt z h
            · rw [List.mem_singleton.mp h]
              exact xl
          · rcases List.mem_append.mp hz with h | h
            · exact inw h2 z h
            · rw [List.mem_singleton.mp h]
              exact xw h2
    rintro σ H7 ⟨y6, y7, cs, rfl, g7, hC7, nd, lc, ne, lt, inw⟩
    have ne := ne m1
    refine ⟨fun σ Hx => ∃ (C' : Addr) (ks : List Nat), σ = [some (.ref p), some (.ref B), some (.int (kind : Nat)), some (.int (m : Nat)), some (.int (first : Nat)), some (.ref C'), y6, y7] ∧ Gw p c H Hx ∧ Hx C' = some (.lst (vn ks)) ∧ (∀ k ∈ ks, k < bs.length) ∧ xsum bs.length ks ≠ 0, ?_, ?_⟩
    · refine ⟨_, rfl, rfl, _, rfl, ?_⟩
      by_cases c1 : kind = 1
      · rw [show decide (V.int ((kind : Nat) : Int) = V.int 1) = true from decide_eq_true (by rw [c1]; rfl)]
        refine iteT ⟨_, rfl, C, _, rfl, .inl (SqL.of hC7), _, _, rfl, rfl, (show (2 : Int) ≠ 0 by decide), rfl, _, rfl, ?_⟩
        show ite (decide (V.int (Int.fmod (((vn cs).length : Nat) : Int) 2) = V.int 0) = true) _ _
        rw [vn_len, Int.fmod_eq_emod_of_nonneg _ (by decide)]
        by_cases ev : cs.length % 2 = 0
        · rw [show decide (V.int (((cs.length : Nat) : Int) % 2) = V.int 0) = true from decide_eq_true (congrArg V.int (by omega))]
          refine iteT ⟨_, rfl, _, rfl, C, _, rfl, SqL.of hC7, fun C2 nC2 => ?_⟩
          rw [show cutV (vn cs) (some 1) none = vn (cs.drop 1) from (cut_from _ 1).trans (by unfold vn; rw [List.map_drop])]
          exact ⟨C2, cs.drop 1, rfl, g7.more (same_new nC2), upd_same, fun k hk => lt k (List.mem_of_mem_drop hk), hard3 _ (by
            have := List.length_pos_iff.mpr ne
            rw [List.length_drop]
            omega)⟩
        · rw [show decide (V.int (((cs.length : Nat) : Int) % 2) = V.int 0) = false from decide_eq_false (fun e => ev (by have := V.int.inj e; omega))]
          exact iteF ⟨C, cs, rfl, g7, hC7, lt, hard3 _ (by omega)⟩
      · rw [show decide (V.int ((kind : Nat) : Int) = V.int 1) = false from decide_eq_false (fun e => c1 (Int.ofNat.inj (V.int.inj e)))]
        refine iteF (iteF ⟨C, cs, rfl, g7, hC7, lt, ?_⟩)
        have : kind = 0 ∨ kind = 2 := by omega
        rcases this with k0 | k2'
        · have lc2 : cs.length ≤ 2 := Nat.le_trans lc (mk k0)
          match cs, ne, lc2, nd, lt with
          | [k], _, _, _, _ => exact hard1 _ k
          | [k, j], _, _, nd, lt => exact hard2 few (lt k List.mem_cons_self) (lt j (by simp)) (fun e => by
              have := (List.nodup_cons.mp nd).1
              exact this (by rw [e]; exact List.mem_cons_self))
        · exact hard16 (a := first) (by omega) nd ne (inw k2')
    rintro σ H8 ⟨C', ks, rfl, g8, hC8, ltk, hard⟩
    have hB8 := g8.get (lp d0 hB) hB
    refine ⟨_, rfl, C', rfl, ⟨_, SqL.of hC8⟩, for_list (xs := vn ks) (fun i σ Hx => ∃ (y7 : Option V) (B' : Addr), σ = [some (.ref p), some (.ref B'), some (.int (kind : Nat)), some (.int (m : Nat)), some (.int (first : Nat)), some (.ref C'), y6, y7] ∧ Same H8 Hx ∧ Hx B' = some (.lst (vn ((ks.take i).foldl turn bs)))) ⟨y7, B, rfl, Same.refl _, hB8⟩ (fun i σ Hx _ h => ?_) ?_ ?_⟩
    · obtain ⟨_, _, _, s, _⟩ := h
      exact SqL.of (s _ _ hC8)
    · rintro i w σ Hx hw ⟨y7, B', rfl, sx, hx⟩
      obtain ⟨k, ek, rfl, km⟩ := nat_at' hw
      obtain ⟨t2, tl⟩ := turns_ok (ks := ks.take i) b2 fun j hj => ltk j (List.mem_of_mem_take hj)
      refine ⟨_, rfl, _, rfl, B', _, k, rfl, hx, t2, by omega, by rw [tl]; exact ltk k km, fun H9 l s9 nl hl => ⟨_, l, rfl, sx.trans s9, ?_⟩⟩
      rw [hl, take_snoc ek, List.foldl_append]
      rfl
    rintro σ H9 ⟨y7, B', rfl, s9, h9⟩
    rw [vn_len, List.take_length] at h9
    obtain ⟨t2, tl⟩ := turns_ok (ks := ks) b2 ltk
    refine ⟨_, rfl, q H9 B' _ (g8.more s9) h9 t2 tl ?_⟩
    rw [crc_turns b2 ltk, z0, Nat.zero_xor]
    exact hard

end K57
namespace K57
open PySem PySem.Spec PyProof.Rows L2 V0
/-! ### spoilt bits -/
theorem vn_takeE (xs : List Nat) (n : Nat) : (vn xs).take n = vn (xs.take n) := by
  unfold vn
  rw [List.map_take]
theorem vn_dropE (xs : List Nat) (n : Nat) : (vn xs).drop n = vn (xs.drop n) := by
  unfold vn
  rw [List.map_drop]
theorem lst_off {p c b : Addr} {xs : List Nat} {H : Hp} (d : Dw H p c) (h : H b = some (.lst (vn xs))) : b ≠ p := fun e => by
  obtain ⟨_, ys, i, b', z, hp, _⟩ := d
  rw [e, hp] at h
  cases xs with
  | nil => cases h
  | cons x xs => cases h
def sp__law_spoilt (K : PySem.W.Frag) : Sp := fun vs H Q _ => ∃ (p c t B : Addr) (cf : Conf), vs = [.ref p, .ref t, .ref B] ∧ Dw H p c ∧ Dv (hid p H) (.ref t) cf ∧ ConfOk cf ∧ H B = some (.lst (vn (enc cf))) ∧
  ∀ H' l tt zs fl, Gw p c H H' → H' tt = some (.tup [.ref l, .bl fl]) → H' l = some (.lst (vn zs)) → (∀ b ∈ zs, b < 2) → zs.length ≤ 31000 → (fl = true → 16 ≤ zs.length ∧ crc zs ≠ 0) → Q (.ref tt) H'
theorem ok__law_spoilt {P : Program} {w : World} {K : PySem.W.Frag} {mg : Str → Option Value} {base : Heap} {C_BitsError fI_BitsError : Addr} {fd_BitsError : FuncData} {B_ : Addr} {mc_ : Value} {O_FitError : Addr} {O_TextError : Addr} {tk_MOST_PLACES : Tok} {tk_MOST_TRACKS : Tok} {tk_MOST_PINS : Tok} {tk_MOST_ENDS : Tok} {tk_HEAD_BITS : Tok} {tk_END_BITS : Tok} {tk_SUM_BITS : Tok} {tk_DRIVE_BITS : Tok} {a_HEAD : Addr} {a_END : Addr} {a_STEPS_0 : Addr} {a_STEPS_1 : Addr} {a_STEPS_2 : Addr} {a_STEPS_3 : Addr} {a_STEPS : Addr} {f f_law_draw f_law_flipped f_law_turned f_law_sum : Addr} {fd fd_law_draw fd_law_flipped fd_law_turned fd_law_sum : FuncData} (F : Fun K "_law_spoilt" "_law_spoilt" s__law_spoilt f fd) (T : Txt K mg C_BitsError fI_BitsError fd_BitsError B_ mc_ O_FitError O_TextError tk_MOST_PLACES tk_MOST_TRACKS tk_MOST_PINS tk_MOST_ENDS tk_HEAD_BITS tk_END_BITS tk_SUM_BITS tk_DRIVE_BITS a_HEAD a_END a_STEPS_0 a_STEPS_1 a_STEPS_2 a_STEPS_3 a_STEPS)
    (G__law_draw : FnOk P w K mg base CX0 1 f_law_draw fd_law_draw ["draws", "limit"] (sp__law_draw K)) (D__law_draw : Def K mg "_law_draw" f_law_draw fd_law_draw ["draws", "limit"])
    (G__law_flipped : FnOk P w K mg base CX0 2 f_law_flipped fd_law_flipped ["draws", "bits", "kind"] (sp__law_flipped K)) (D__law_flipped : Def K mg "_law_flipped" f_law_flipped fd_law_flipped ["draws", "bits", "kind"])
    (G__law_turned : FnOk P w K mg base CX0 1 f_law_turned fd_law_turned ["bits", "at"] (sp__law_turned K)) (D__law_turned : Def K mg "_law_turned" f_law_turned fd_law_turned ["bits", "at"])
    (G__law_sum : FnOk P w K mg base CX0 1 f_law_sum fd_law_sum ["bits"] (sp__law_sum K)) (D__law_sum : Def K mg "_law_sum" f_law_sum fd_law_sum ["bits"]) :
    FnOk P w K mg base CX0 3 f fd ["draws", "config", "bits"] (sp__law_spoilt K) := by
  refine F.ok sc_law_spoilt (fun vs H Q E h => ?_) (fun cdv A outer s0 H vs Q E hr h => ?_)
  · obtain ⟨p, c, t, B, cf, rfl, _⟩ := h
    rfl
  · obtain ⟨p, c, t, B, cf, rfl, d0, dv, ok, hB, q⟩ := h
    refine ⟨_, (pss_cons (ps_set (i := 3) sc_law_spoilt.nd rfl (.inl rfl) (pe_call G__law_draw (hr.mono (by omega)) (by rfl) D__law_draw.m D__law_draw.k D__law_draw.b .nil pass0 (pa_cons (pv 0) (pa_cons pe_int pa_nil))))
      (pss_cons (ps_if (pt_cmpR op_lt (pv 3) pe_int (nomark _)) (pss_one (ps_ret (pe_tup (pa_cons (pe_call G__law_flipped (hr.mono (by omega)) (by rfl) D__law_flipped.m D__law_flipped.k D__law_flipped.b .nil pass0 (pa_cons (pv 0) (pa_cons (pv 2) (pa_cons (pv 3) pa_nil)))) (pa_cons pe_bl pa_nil))))) pss_nil)
      (pss_cons (ps_if (pt_cmpR op_eq (pv 3) pe_int (nomark _)) (pss_cons (ps_set (i := 4) sc_law_spoilt.nd rfl (.inl rfl) (pe_slice sl_list (pv 2) po_none (po_some (pe_call G__law_draw (hr.mono (by omega)) (by rfl) D__law_draw.m D__law_draw.k D__law_draw.b .nil pass0 (pa_cons (pv 0) (pa_cons (pe_op op_add (pe_callB call_len_seq (by rfl) T.m_len (by decide +kernel) (pa_cons (pv 2) pa_nil)) pe_int) pa_nil))))))
      (pss_one (ps_ret (pe_tup (pa_cons (pe_ix (r := rIxL K) ix_list (pe_lst (pa_cons (pv 4) (pa_cons (pe_op op_cat (pv 2) (pe_lst (pa_cons (pe_call G__law_draw (hr.mono (by omega)) (by rfl) D__law_draw.m D__law_draw.k D__law_draw.b .nil pass0 (pa_cons (pv 0) (pa_cons pe_int pa_nil))) pa_nil))) (pa_cons (pe_slice sl_list (pv 2) po_none (po_some (pe_call G__law_draw (hr.mono (by omega)) (by rfl) D__law_draw.m D__law_draw.k D__law_draw.b .nil pass0 (pa_cons (pv 0) (pa_cons pe_int pa_nil))))) pa_nil)))) (pe_call G__law_draw (hr.mono (by omega)) (by rfl) D__law_draw.m D__law_draw.k D__law_draw.b .nil pass0 (pa_cons (pv 0) (pa_cons pe_int pa_nil))) (fun _ _ => rfl)) (pa_cons pe_bl pa_nil)))))) pss_nil)
      (pss_cons (ps_set (i := 5) sc_law_spoilt.nd rfl (.inl rfl) (pe_slice sl_list (pv 2) po_none (po_some (pe_un un_neg pe_int))))
      (C8.pss_cut (ps_if (pt_cmpR op_eq (pv 3) pe_int (nomark _)) (pss_one (ps_for PassesOwn.never rfl (pi_range1 rfl T.m_range (pa_cons (pe_op op_add pe_int (pe_call G__law_draw (hr.mono (by omega)) (by rfl) D__law_draw.m D__law_draw.k D__law_draw.b .nil pass0 (pa_cons (pv 0) (pa_cons pe_int pa_nil)))) pa_nil)) (pg_name (i := 6) sc_law_spoilt.nd rfl (Or.inl rfl)) (pss_one (ps_set (i := 5) sc_law_spoilt.nd rfl (.inl rfl) (pe_call G__law_turned (hr.mono (by omega)) (by rfl) D__law_turned.m D__law_turned.k D__law_turned.b .nil pass0 (pa_cons (pv 5) (pa_cons (pe_op op_add pe_int (pe_call G__law_draw (hr.mono (by omega)) (by rfl) D__law_draw.m D__law_draw.k D__law_draw.b .nil pass0 (pa_cons (pv 0) (pa_cons (pe_op op_sub (pe_callB call_len_seq (by rfl) T.m_len (by decide +kernel) (pa_cons (pv 5) pa_nil)) pe_int) pa_nil)))) pa_nil))))))) pss_nil)
      (C8.pss_cut (ps_if (pt_cmpR op_eq (pv 3) pe_int (nomark _)) (pss_one (ps_for PassesOwn.never rfl (pi_range1 rfl T.m_range (pa_cons (pe_op op_add pe_int (pe_call G__law_draw (hr.mono (by omega)) (by rfl) D__law_draw.m D__law_draw.k D__law_draw.b .nil pass0 (pa_cons (pv 0) (pa_cons pe_int pa_nil)))) pa_nil)) (pg_name (i := 6) sc_law_spoilt.nd rfl (Or.inl rfl)) (pss_one (ps_set (i := 5) sc_law_spoilt.nd rfl (.inl rfl) (pe_call G__law_turned (hr.mono (by omega)) (by rfl) D__law_turned.m D__law_turned.k D__law_turned.b .nil pass0 (pa_cons (pv 5) (pa_cons (pe_call G__law_draw (hr.mono (by omega)) (by rfl) D__law_draw.m D__law_draw.k D__law_draw.b .nil pass0 (pa_cons (pv 0) (pa_cons pe_int pa_nil))) pa_nil))))))) pss_nil)
      (pss_cons (ps_set (i := 7) sc_law_spoilt.nd rfl (.inl rfl) (pe_op op_mul pe_int (pe_op op_add (pe_callB call_len_seq (by rfl) T.m_len (by decide +kernel) (pa_cons (pe_ix (r := rIxT K) ix_tup (pv 1) pe_int (fun _ _ => rfl)) pa_nil)) (pe_callB call_len_seq (by rfl) T.m_len (by decide +kernel) (pa_cons (pe_ix (r := rIxT K) ix_tup (pv 1) pe_int (fun _ _ => rfl)) pa_nil)))))
      (C8.pss_cut (ps_if (PW.pt (pw_and (pt_cmpR op_eq (pv 3) pe_int (nomark _)) (pw_and1 (pt_cmpR op_gt (pv 7) pe_int (nomark _))))) (pss_cons (ps_set (i := 8) sc_law_spoilt.nd rfl (.inl rfl) (pe_op op_add (pe_op op_sub (pe_callB call_len_seq (by rfl) T.m_len (by decide +kernel) (pa_cons (pv 5) pa_nil)) (pv 7)) (pe_op op_mul pe_int (pe_call G__law_draw (hr.mono (by omega)) (by rfl) D__law_draw.m D__law_draw.k D__law_draw.b .nil pass0 (pa_cons (pv 0) (pa_cons (pe_op op_fdivN (pv 7) pe_int) pa_nil))))))
      (pss_cons (ps_set (i := 9) sc_law_spoilt.nd rfl (.inl rfl) (pe_op op_add (pe_op op_sub (pe_callB call_len_seq (by rfl) T.m_len (by decide +kernel) (pa_cons (pv 5) pa_nil)) (pv 7)) (pe_op op_mul pe_int (pe_call G__law_draw (hr.mono (by omega)) (by rfl) D__law_draw.m D__law_draw.k D__law_draw.b .nil pass0 (pa_cons (pv 0) (pa_cons (pe_op op_fdivN (pv 7) pe_int) pa_nil))))))
      (pss_one (ps_set (i := 5) sc_law_spoilt.nd rfl (.inl rfl) (pe_op op_cat (pe_op op_cat (pe_slice sl_list (pv 5) po_none (po_some (pv 8))) (pe_slice sl_list (pv 5) (po_some (pv 9)) (po_some (pe_op op_add (pv 9) pe_int)))) (pe_slice sl_list (pv 5) (po_some (pe_op op_add (pv 8) pe_int)) po_none)))))) pss_nil)
      (pss_one (ps_ret (pe_tup (pa_cons (pe_op op_cat (pv 5) (pe_call G__law_sum (hr.mono (by omega)) (by rfl) D__law_sum.m D__law_sum.k D__law_sum.b .nil pass0 (pa_cons (pv 5) pa_nil))) (pa_cons pe_bl pa_nil))))))))))))), ?_⟩
    obtain ⟨few, sb⟩ := enc_few ok
    have f := ok.fab
    have w0 := f.w0
    have h0 := f.h0
    have li := ok.lins
    have lo := ok.louts
    have wh1 := Nat.mul_le_mul w0 h0
    have sb3 : 3 ≤ cf.fab.setBits := by
      unfold Fab.setBits
      have : 0 < 2 ^ cf.fab.p := Nat.two_pow_pos _
      omega
    have wsb := Nat.mul_le_mul (Nat.mul_le_mul f.w1 f.h1) sb
    have wsb3 := Nat.mul_le_mul wh1 sb3
    have en : (enc cf).length = 27 + cf.fab.w * cf.fab.h * cf.fab.setBits + (cf.ins.length + cf.outs.length) * 13 + 16 := enc_len ok
    have two := enc_two cf
    have ze := crc_enc cf
    have n0 : (enc cf).length ≤ 30000 := by omega
    generalize hbs : enc cf = bs at hB en two ze n0 few
    have Bp := lst_off d0 hB
    refine ⟨_, rfl, p, c, 8, rfl, d0, by decide, by decide, fun H1 kind g1 hk => ?_⟩
    have hB1 := g1.get Bp hB
    refine ⟨_, rfl, _, _, rfl, rfl, _, rfl, ?_⟩
    by_cases k3 : kind < 3
    · rw [decide_eq_true (show ((kind : Nat) : Int) < 3 by omega)]
      refine iteT ⟨_, rfl, _, rfl, _, rfl, p, c, B, bs, kind, rfl, g1.b, hB1, two, by omega, n0, k3, ze, fun H2 l zs g2 hl z2 zl zne => ⟨by show 2 ≤ sizeLine; decide, fun tt ntt => ?_⟩⟩
      have st := same_new (o := .tup [V.ref l, .bl true]) ntt
      exact q _ l tt zs true ((g1.trans g2).more st) upd_same (st _ _ hl) z2 (by omega) fun _ => ⟨by omega, zne⟩
    rw [decide_eq_false (show ¬ ((kind : Nat) : Int) < 3 by omega)]
    refine iteF ⟨_, rfl, rfl, _, rfl, ?_⟩
    by_cases k33 : kind = 3
    · rw [show decide (V.int ((kind : Nat) : Int) = V.int 3) = true from decide_eq_true (by rw [k33]; rfl)]
      have el : (((vn bs).length : Nat) : Int) + 1 = ((bs.length + 1 : Nat) : Int) := by
        rw [vn_len]
        omega
      refine iteT ⟨_, rfl, _, rfl, _, rfl, B, _, rfl, .inl (SqL.of hB1), _, _, rfl, rfl, p, c, bs.length + 1, congrArg (fun z => [V.ref p, .int z]) el, g1.b, by omega, by omega, fun H2 k2 g2 hk2 => ⟨_, rfl, B, _, rfl, SqL.of (g2.get (lst_off g1.b hB1) hB1), fun S nS => ?_⟩⟩
      have hB2 := g2.get (lst_off g1.b hB1) hB1
      rw [cut_to', vn_takeE]
      obtain ⟨sS, hS⟩ := new_lst (xs := vn (bs.take k2)) nS
      generalize (upd H2 S (.lst (vn (bs.take k2)))) = H3 at sS hS ⊢
      have d3 := g2.b.same sS
      have g03 := (g1.trans g2).more sS
      have hB3 := sS _ _ hB2
      refine ⟨_, rfl, _, rfl, _, rfl, p, c, 2, rfl, d3, by decide, by decide, fun H4 b g4 hb => ⟨by show 1 ≤ sizeLine; decide, fun T' nT => ?_⟩⟩
      have hB4 := g4.get (lst_off d3 hB3) hB3
      have hS4 := g4.get (lst_off d3 hS) hS
      obtain ⟨sT, hT⟩ := new_lst (xs := vn [b]) nT
      have hT : (upd H4 T' (.lst [V.int ((b : Nat) : Int)])) T' = some (.lst (vn [b])) := hT
      have sT : Same H4 (upd H4 T' (.lst [V.int ((b : Nat) : Int)])) := sT
      refine ⟨B, T', _, _, rfl, rfl, sT _ _ hB4, hT, by rw [vn_len, vn_len]; exact Nat.le_of_lt (small64k (by show _ + 1 ≤ _; omega)), fun U nU => ?_⟩
      rw [vn_cat]
      have sU := same_new (o := .lst (vn (bs ++ [b]))) nU
      have hU : (upd (upd H4 T' (.lst [V.int ((b : Nat) : Int)])) U (.lst (vn (bs ++ [b])))) U = some (.lst (vn (bs ++ [b]))) := upd_same
      have sTU := sT.trans sU
      generalize (upd (upd H4 T' (.lst [V.int ((b : Nat) : Int)])) U (.lst (vn (bs ++ [b])))) = H5 at sTU hU ⊢
      have d5 := g4.b.same sTU
      have g05 := (g03.trans g4).more sTU
      have hB5 := sTU _ _ hB4
      have hS5 := sTU _ _ hS4
      refine ⟨_, rfl, _, rfl, p, c, 40, rfl, d5, by decide, by decide, fun H6 k6 g6 hk6 => ⟨_, rfl, B, _, rfl, SqL.of (g6.get (lst_off d5 hB5) hB5), fun W nW => ?_⟩⟩
      have hB6 := g6.get (lst_off d5 hB5) hB5
      have hS6 := g6.get (lst_off d5 hS5) hS5
      have hU6 := g6.get (lst_off d5 hU) hU
      rw [cut_to', vn_takeE]
      obtain ⟨sW, hW⟩ := new_lst (xs := vn (bs.take k6)) nW
      generalize (upd H6 W (.lst (vn (bs.take k6)))) = H7 at sW hW ⊢
      have d7 := g6.b.same sW
      have g07 := (g05.trans g6).more sW
      have hS7 := sW _ _ hS6
      have hU7 := sW _ _ hU6
      refine ⟨by show 3 ≤ sizeLine; decide, fun L nL => ?_⟩
      obtain ⟨sL, hL⟩ := new_lst (xs := [V.ref S, .ref U, .ref W]) nL
      have Lp := (d7.off nL).1
      generalize (upd H7 L (.lst [V.ref S, .ref U, .ref W])) = H8 at sL hL ⊢
      have d8 := d7.same sL
      have g08 := g07.more sL
      refine ⟨_, rfl, p, c, 3, rfl, d8, by decide, by decide, fun H9 k9 g9 hk9 => ?_⟩
      have hL9 := g9.get Lp hL
      have get9 : ∀ {x : Addr} {ys : List Nat}, H7 x = some (.lst (vn ys)) → H9 x = some (.lst (vn ys)) := fun h => g9.get (lst_off d8 (sL _ _ h)) (sL _ _ h)
      obtain ⟨l, zs, el', hl, z2, zl⟩ : ∃ (l : Addr) (zs : List Nat), ([V.ref S, .ref U, .ref W] : List V)[k9]? = some (.ref l) ∧ H9 l = some (.lst (vn zs)) ∧ (∀ b ∈ zs, b < 2) ∧ zs.length ≤ 31000 := by
        have : k9 = 0 ∨ k9 = 1 ∨ k9 = 2 := by omega
        rcases this with rfl | rfl | rfl
        · exact ⟨S, _, rfl, get9 hS7, fun x hx => two x (List.mem_of_mem_take hx), by rw [List.length_take]; omega⟩
        · refine ⟨U, _, rfl, get9 hU7, fun x hx => ?_, by rw [List.length_append]; show _ + 1 ≤ _; omega⟩
          rcases List.mem_append.mp hx with h | h
          · exact two x h
          · rw [List.mem_singleton.mp h]
            exact hb
        · exact ⟨W, _, rfl, get9 hW, fun x hx => two x (List.mem_of_mem_take hx), by rw [List.length_take]; omega⟩
      refine ⟨L, _, _, _, rfl, rfl, SqL.of hL9, atI_nat el', by show 2 ≤ sizeLine; decide, fun tt ntt => ?_⟩
      have st := same_new (o := .tup [V.ref l, .bl false]) ntt
      exact q _ l tt zs false ((g08.trans g9).more st) upd_same (st _ _ hl) z2 zl fun h => by cases h
    rw [show decide (V.int ((kind : Nat) : Int) = V.int 3) = false from decide_eq_false (fun e => k33 (Int.ofNat.inj (V.int.inj e)))]
    refine iteF ?_
    -- the front
    refine ⟨_, rfl, _, rfl, _, rfl, B, _, rfl, SqL.of hB1, fun F0 nF => ?_⟩
    have eF : cutV (vn bs) none (some (-16)) = vn (bs.take (bs.length - 16)) := by
      have := cut_neg_to (vn bs) 16 (by decide)
      rw [vn_len] at this
      rw [← vn_takeE]
      exact this
    have sF := same_new (o := .lst (cutV (vn bs) none (some (-16)))) nF
    have hF : (upd H1 F0 (.lst (cutV (vn bs) none (some (-16))))) F0 = some (.lst (vn (bs.take (bs.length - 16)))) := by rw [upd_same, eF]
    have g2 := g1.more sF
    generalize (upd H1 F0 (.lst (cutV (vn bs) none (some (-16))))) = H2 at hF g2 ⊢
    have tl : (bs.take (bs.length - 16)).length = bs.length - 16 := by
      rw [List.length_take]
      omega
    have tw : ∀ b ∈ bs.take (bs.length - 16), b < 2 := fun x hx => two x (List.mem_of_mem_take hx)
    -- kind 4
    refine ⟨fun σ Hx => ∃ (y6 : Option V) (G : Addr) (zs : List Nat), σ = [some (.ref p), some (.ref t), some (.ref B), some (.int (kind : Nat)), none, some (.ref G), y6, none, none, none] ∧ Gw p c H Hx ∧ Hx G = some (.lst (vn zs)) ∧ (∀ b ∈ zs, b < 2) ∧ zs.length = bs.length - 16, ?_, ?_⟩
    · refine ⟨_, rfl, rfl, _, rfl, ?_⟩
      by_cases k4 : kind = 4
      · rw [show decide (V.int ((kind : Nat) : Int) = V.int 4) = true from decide_eq_true (by rw [k4]; rfl)]
        refine iteT ⟨_, rfl, p, c, 3, rfl, g2.b, by decide, by decide, fun H3 k g3 hk3 => ⟨_, _, rfl, rfl, _, (show [V.int ((1 : Int) + ((k : Nat) : Int))] = [V.int ((1 + k : Nat) : Int)] from rfl), by omega, by omega, for_range (n := 1 + k) (fun i σ Hx => ∃ (y6 : Option V) (G : Addr) (zs : List Nat), σ = [some (.ref p), some (.ref t), some (.ref B), some (.int (kind : Nat)), none, some (.ref G), y6, none, none, none] ∧ Gw p c H Hx ∧ Hx G = some (.lst (vn zs)) ∧ (∀ b ∈ zs, b < 2) ∧ zs.length = bs.length - 16) ⟨none, F0, _, rfl, g2.trans g3, g3.get (lst_off g2.b hF) hF, tw, tl⟩ ?_ ?_⟩⟩
        · rintro i σ Hx hi ⟨y6, G, zs, rfl, gx, hG, z2, zl⟩
          have el : (((vn zs).length : Nat) : Int) - 27 = ((zs.length - 27 : Nat) : Int) := by
            rw [vn_len]
            omega
          refine ⟨_, rfl, _, rfl, _, rfl, G, _, rfl, .inl (SqL.of hG), _, _, rfl, rfl, p, c, zs.length - 27, congrArg (fun z => [V.ref p, .int z]) el, gx.b, by omega, by omega, fun H4 j g4 hj => ⟨_, _, rfl, rfl, G, zs, 27 + j, rfl, g4.get (lst_off gx.b hG) hG, z2, by omega, by omega, fun H5 l s5 nl hl => ⟨_, l, _, rfl, (gx.trans g4).more s5, hl, turn_two z2 _, by rw [turn_len (by omega)]; exact zl⟩⟩⟩
        · rintro σ Hx ⟨y6, G, zs, rfl, gx, hG, z2, zl⟩
          exact ⟨y6, G, zs, rfl, gx, hG, z2, zl⟩
      · rw [show decide (V.int ((kind : Nat) : Int) = V.int 4) = false from decide_eq_false (fun e => k4 (Int.ofNat.inj (V.int.inj e)))]
        exact iteF ⟨none, F0, _, rfl, g2, hF, tw, tl⟩
    clear hF tw tl g2 sF eF
    rintro σ H3 ⟨y6, G, zs, rfl, g3, hG, z2, zl⟩
    -- kind 5
    refine ⟨fun σ Hx => ∃ (y6 : Option V) (G : Addr) (zs : List Nat), σ = [some (.ref p), some (.ref t), some (.ref B), some (.int (kind : Nat)), none, some (.ref G), y6, none, none, none] ∧ Gw p c H Hx ∧ Hx G = some (.lst (vn zs)) ∧ (∀ b ∈ zs, b < 2) ∧ zs.length = bs.length - 16, ?_, ?_⟩
    · refine ⟨_, rfl, rfl, _, rfl, ?_⟩
      by_cases k5 : kind = 5
      · rw [show decide (V.int ((kind : Nat) : Int) = V.int 5) = true from decide_eq_true (by rw [k5]; rfl)]
        refine iteT ⟨_, rfl, p, c, 2, rfl, g3.b, by decide, by decide, fun H4 k g4 hk4 => ⟨_, _, rfl, rfl, _, (show [V.int ((1 : Int) + ((k : Nat) : Int))] = [V.int ((1 + k : Nat) : Int)] from rfl), by omega, by omega, for_range (n := 1 + k) (fun i σ Hx => ∃ (y6 : Option V) (G : Addr) (zs : List Nat), σ = [some (.ref p), some (.ref t), some (.ref B), some (.int (kind : Nat)), none, some (.ref G), y6, none, none, none] ∧ Gw p c H Hx ∧ Hx G = some (.lst (vn zs)) ∧ (∀ b ∈ zs, b < 2) ∧ zs.length = bs.length - 16) ⟨y6, G, zs, rfl, g3.trans g4, g4.get (lst_off g3.b hG) hG, z2, zl⟩ ?_ ?_⟩⟩
        · rintro i σ Hx hi ⟨y6, G, zs, rfl, gx, hG, z2, zl⟩
          refine ⟨_, rfl, _, rfl, p, c, 27, rfl, gx.b, by decide, by decide, fun H4 j g4 hj => ⟨G, zs, j, rfl, g4.get (lst_off gx.b hG) hG, z2, by omega, by omega, fun H5 l s5 nl hl => ⟨_, l, _, rfl, (gx.trans g4).more s5, hl, turn_two z2 _, by rw [turn_len (by omega)]; exact zl⟩⟩⟩
        · rintro σ Hx ⟨y6, G, zs, rfl, gx, hG, z2, zl⟩
          exact ⟨y6, G, zs, rfl, gx, hG, z2, zl⟩
      · rw [show decide (V.int ((kind : Nat) : Int) = V.int 5) = false from decide_eq_false (fun e => k5 (Int.ofNat.inj (V.int.inj e)))]
        exact iteF ⟨y6, G, zs, rfl, g3, hG, z2, zl⟩
    clear hG z2 zl g3 y6 G zs
    rintro σ H4 ⟨y6, G, zs, rfl, g4, hG, z2, zl⟩
    -- pads
    have dv4 := (dv.same g4.s).hup
    obtain ⟨_, vf, vs, vi_, vo_, et, hta, hf, hs, hi, ho⟩ := conf_inv dv4
    cases et
    obtain ⟨ia, ui, rfl, hia, dui⟩ := hi.list_inv
    obtain ⟨oa, uo, rfl, hoa, duo⟩ := ho.list_inv
    have lui := dui.len
    have luo := duo.len
    refine ⟨_, rfl, t, _, 3, _, rfl, rfl, SqT.of hta, atI_nat (j := 3) rfl, ia, _, rfl, .inl (SqL.of hia), ?_⟩
    rw [lui]
    refine ⟨_, rfl, t, _, 4, _, rfl, rfl, SqT.of hta, atI_nat (j := 4) rfl, oa, _, rfl, .inl (SqL.of hoa), ?_⟩
    rw [luo]
    refine ⟨_, _, rfl, rfl, _, _, rfl, rfl, .inl ⟨by omega, by omega⟩, ?_⟩
    have ep : (13 : Int) * (((cf.ins.length : Nat) : Int) + ((cf.outs.length : Nat) : Int)) = ((13 * (cf.ins.length + cf.outs.length) : Nat) : Int) := by omega
    simp only [ep]
    generalize hm : cf.ins.length + cf.outs.length = m at en ⊢
    have m128 : m ≤ 128 := by omega
    -- kind 6
    refine ⟨fun σ Hx => ∃ (y8 y9 : Option V) (G : Addr) (zs : List Nat), σ = [some (.ref p), some (.ref t), some (.ref B), some (.int (kind : Nat)), none, some (.ref G), y6, some (.int ((13 * m : Nat) : Int)), y8, y9] ∧ Gw p c H Hx ∧ Hx G = some (.lst (vn zs)) ∧ (∀ b ∈ zs, b < 2) ∧ zs.length ≤ 30000, ?_, ?_⟩
    · refine ⟨_, rfl, rfl, _, rfl, ?_⟩
      by_cases k6 : kind = 6
      · rw [show decide (V.int ((kind : Nat) : Int) = V.int 6) = true from decide_eq_true (by rw [k6]; rfl)]
        refine iteT ⟨_, rfl, _, _, rfl, rfl, _, rfl, ?_⟩
        by_cases m1 : 13 * m > 13
        · rw [decide_eq_true (show ((13 * m : Nat) : Int) > 13 by omega)]
          have e1 : (((vn zs).length : Nat) : Int) - ((13 * m : Nat) : Int) = ((zs.length - 13 * m : Nat) : Int) := by
            rw [vn_len]
            omega
          have e2 : (((13 * m : Nat) : Int)).fdiv 13 = ((m : Nat) : Int) := by
            rw [Int.fdiv_eq_ediv_of_nonneg _ (by decide)]
            omega
          refine iteT ⟨_, rfl, G, _, rfl, .inl (SqL.of hG), _, rfl, _, _, rfl, rfl, _, rfl, _, rfl, _, _, rfl, rfl, ⟨by decide, by decide⟩, p, c, m, congrArg (fun z => [V.ref p, .int z]) e2, g4.b, by omega, by omega, fun H5 k1 g5 hk1 => ⟨_, _, rfl, rfl, .inl ⟨by omega, by omega⟩, _, _, rfl, rfl, ?_⟩⟩
          have hG5 := g5.get (lst_off g4.b hG) hG
          refine ⟨_, rfl, G, _, rfl, .inl (SqL.of hG5), _, rfl, _, _, rfl, rfl, _, rfl, _, rfl, _, _, rfl, rfl, ⟨by decide, by decide⟩, p, c, m, congrArg (fun z => [V.ref p, .int z]) e2, g5.b, by omega, by omega, fun H6 k2 g6 hk2 => ⟨_, _, rfl, rfl, .inl ⟨by omega, by omega⟩, _, _, rfl, rfl, ?_⟩⟩
          have hG6 := g6.get (lst_off g5.b hG5) hG5
          have f1 : ∀ k : Nat, (((vn zs).length : Nat) : Int) - ((13 * m : Nat) : Int) + 13 * ((k : Nat) : Int) = ((zs.length - 13 * m + 13 * k : Nat) : Int) := fun k => by
            rw [e1]
            omega
          simp only [f1]
          generalize ha : zs.length - 13 * m + 13 * k1 = a1
          generalize ha' : zs.length - 13 * m + 13 * k2 = a2
          refine ⟨_, rfl, _, rfl, _, rfl, G, _, rfl, SqL.of hG6, fun S nS => ?_⟩
          rw [cut_to', vn_takeE]
          obtain ⟨sS, hS⟩ := new_lst (xs := vn (zs.take a1)) nS
          generalize (upd H6 S (.lst (vn (zs.take a1)))) = H7 at sS hS ⊢
          refine ⟨_, rfl, _, rfl, _, rfl, _, rfl, _, _, rfl, rfl, _, rfl, G, _, rfl, SqL.of (sS _ _ hG6), fun T' nT => ?_⟩
          rw [show ((a2 : Nat) : Int) + 13 = ((a2 + 13 : Nat) : Int) by omega, cut_nn zs (by omega) (by omega), Nat.add_sub_cancel_left]
          obtain ⟨sT, hT⟩ := new_lst (xs := vn ((zs.drop a2).take 13)) nT
          generalize (upd H7 T' (.lst (vn ((zs.drop a2).take 13)))) = H8 at sT hT ⊢
          refine ⟨S, T', _, _, rfl, rfl, sT _ _ hS, hT, by rw [vn_len, vn_len, List.length_take, List.length_take]; exact Nat.le_of_lt (small64k (by omega)), fun U nU => ?_⟩
          rw [vn_cat]
          obtain ⟨sU, hU⟩ := new_lst (xs := vn (zs.take a1 ++ (zs.drop a2).take 13)) nU
          generalize (upd H8 U (.lst (vn (zs.take a1 ++ (zs.drop a2).take 13)))) = H9 at sU hU ⊢
          have s69 := sS.trans (sT.trans sU)
          refine ⟨_, rfl, _, rfl, _, _, rfl, rfl, _, rfl, G, _, rfl, SqL.of (s69 _ _ hG6), fun W nW => ?_⟩
          rw [show ((a1 : Nat) : Int) + 13 = ((a1 + 13 : Nat) : Int) by omega, cut_from, vn_dropE]
          obtain ⟨sW, hW⟩ := new_lst (xs := vn (zs.drop (a1 + 13))) nW
          generalize (upd H9 W (.lst (vn (zs.drop (a1 + 13))))) = H10 at sW hW ⊢
          have ll : (zs.take a1 ++ (zs.drop a2).take 13 ++ zs.drop (a1 + 13)).length ≤ 30000 := by
            have q1 : 13 * m ≤ zs.length := by omega
            have q2 : a1 + 13 ≤ zs.length := by omega
            have q3 : min a1 zs.length = a1 := Nat.min_eq_left (by omega)
            have q4 : min 13 (zs.drop a2).length ≤ 13 := Nat.min_le_left _ _
            rw [List.length_append, List.length_append, List.length_take, List.length_take, List.length_drop, List.length_drop, q3]
            omega
          refine ⟨U, W, _, _, rfl, rfl, sW _ _ hU, hW, by rw [vn_len, vn_len, ← List.length_append]; exact Nat.le_of_lt (small64k (by omega)), fun Z nZ => ?_⟩
          rw [vn_cat]
          refine ⟨_, _, Z, _, rfl, ((g4.trans g5).trans g6).more (s69.trans (sW.trans (same_new nZ))), upd_same, fun b hb => ?_, ll⟩
          rcases List.mem_append.mp hb with h | h
          · rcases List.mem_append.mp h with h | h
            · exact z2 b (List.mem_of_mem_take h)
            · exact z2 b (List.mem_of_mem_drop (List.mem_of_mem_take h))
          · exact z2 b (List.mem_of_mem_drop h)
        · rw [decide_eq_false (show ¬ ((13 * m : Nat) : Int) > 13 by omega)]
          exact iteF ⟨_, _, G, zs, rfl, g4, hG, z2, by omega⟩
      · rw [show decide (V.int ((kind : Nat) : Int) = V.int 6) = false from decide_eq_false (fun e => k6 (Int.ofNat.inj (V.int.inj e)))]
        exact iteF (iteF ⟨_, _, G, zs, rfl, g4, hG, z2, by omega⟩)
    clear hG z2 zl g4 G zs dui duo lui luo hia hoa hta hf hs dv4 hi ho
    rintro σ H5 ⟨y8, y9, G, zs, rfl, g5, hG, z2, zl⟩
    refine ⟨_, rfl, _, rfl, G, zs, rfl, hG, z2, by omega, fun H6 l s6 nl hl => ⟨G, l, _, _, rfl, rfl, s6 _ _ hG, hl, by rw [vn_len, vn_len, crcL_len]; exact Nat.le_of_lt (small64k (by omega)), fun Z nZ => ⟨by show 2 ≤ sizeLine; decide, fun tt ntt => ?_⟩⟩⟩
    rw [vn_cat] at ntt ⊢
    have sz := same_new (o := .lst (vn (zs ++ crcL zs))) nZ
    have st := same_new (o := .tup [V.ref Z, .bl false]) ntt
    refine q _ Z tt (zs ++ crcL zs) false (g5.more (s6.trans (sz.trans st))) upd_same (st _ _ upd_same) (fun b hb => ?_) (by rw [List.length_append, crcL_len]; omega) fun h => by cases h
    rcases List.mem_append.mp hb with h | h
    · exact z2 b h
    · exact crcL_two _ b h

end K57
namespace K57
open PySem PySem.Spec PyProof.Rows L2 V0
/-! ### what the program tells of bits -/
def sp__law_told (K : PySem.W.Frag) : Sp := fun vs H Q _ => ∃ (a : Addr) (bs : List Nat), vs = [.ref a] ∧ H a = some (.lst (vn bs)) ∧ (∀ b ∈ bs, b < 2) ∧ bs.length ≤ 60000 ∧
  (faultB bs = none → ∀ H' l, Same H H' → H' l = some (.lst (vn bs)) → Q (.ref l) H') ∧ ∀ z, faultB bs = some z → ∀ H', Same H H' → Q (.int (z : Nat)) H'
theorem ok__law_told {P : Program} {w : World} {K : PySem.W.Frag} {mg : Str → Option Value} {base : Heap} {C_BitsError fI_BitsError : Addr} {fd_BitsError : FuncData} {B_ : Addr} {mc_ : Value} {O_FitError : Addr} {O_TextError : Addr} {tk_MOST_PLACES : Tok} {tk_MOST_TRACKS : Tok} {tk_MOST_PINS : Tok} {tk_MOST_ENDS : Tok} {tk_HEAD_BITS : Tok} {tk_END_BITS : Tok} {tk_SUM_BITS : Tok} {tk_DRIVE_BITS : Tok} {a_HEAD : Addr} {a_END : Addr} {a_STEPS_0 : Addr} {a_STEPS_1 : Addr} {a_STEPS_2 : Addr} {a_STEPS_3 : Addr} {a_STEPS : Addr} {f fbits_of fconfig_of : Addr} {fd fdbits_of fdconfig_of : FuncData} (F : Fun K "_law_told" "_law_told" s__law_told f fd) (T : Txt K mg C_BitsError fI_BitsError fd_BitsError B_ mc_ O_FitError O_TextError tk_MOST_PLACES tk_MOST_TRACKS tk_MOST_PINS tk_MOST_ENDS tk_HEAD_BITS tk_END_BITS tk_SUM_BITS tk_DRIVE_BITS a_HEAD a_END a_STEPS_0 a_STEPS_1 a_STEPS_2 a_STEPS_3 a_STEPS)
    (G_bits_of : FnOk P w K mg base CX0 3 fbits_of fdbits_of ["config"] (sp_bits_of K)) (D_bits_of : Def K mg "bits_of" fbits_of fdbits_of ["config"])
    (G_config_of : FnOk P w K mg base (L2N.CX P w) 6 fconfig_of fdconfig_of ["bits"] (sp_config_of K C_BitsError)) (D_config_of : Def K mg "config_of" fconfig_of fdconfig_of ["bits"]) :
    FnOk P w K mg base CX0 7 f fd ["bits"] (sp__law_told K) := by
  refine F.ok sc_law_told (fun vs H Q E h => ?_) (fun cdv A outer s0 H vs Q E hr h => ?_)
  · obtain ⟨a, bs, rfl, _⟩ := h
    rfl
  · obtain ⟨a, bs, rfl, ha, b2, few, q, qe⟩ := h
    refine ⟨_, (pss_one (L2N.ps_try_as (i := 1) (n := "error") (c := .ref C_BitsError) (Wout := fun _ _ _ _ => False) rfl rfl sc_law_told.nd rfl rfl ⟨rfl, by decide, .inl T.x_BitsError.m⟩ takes0N (fun W pn xe tk _ => (pss_one (ps_ret (pe_call G_bits_of (hr.mono (by omega)) (by rfl) D_bits_of.m D_bits_of.k D_bits_of.b .nil pass0 (pa_cons (by exact (pe_callS G_config_of (hr.mono (by omega)) (by rfl) D_config_of.m D_config_of.k D_config_of.b (fun σ => L2N.passAt tk σ) (by exact (pa_cons (pv 0) pa_nil)))) pa_nil))))) (fun a oe cls d pn hz hf => (pss_cons (ps_if (PW.pt (pw_or (pt_val (pe_callB (call_isEx T.i_BitsError hz.zc hf) (by rfl) T.m_isinstance (by decide +kernel) (pa_cons (pv 1) (pa_cons (pe_glob (v := .ref O_FitError) rfl T.xo_FitError.1 rfl) pa_nil)))) (pw_or (pt_val (pe_callB (call_isEx T.i_BitsError hz.zc hf) (by rfl) T.m_isinstance (by decide +kernel) (pa_cons (pv 1) (pa_cons (pe_glob (v := .ref O_TextError) rfl T.xo_TextError.1 rfl) pa_nil)))) (pw_or1 (pt_not (pt_val (pe_callB (call_isEx T.i_BitsError hz.zc hf) (by rfl) T.m_isinstance (by decide +kernel) (pa_cons (pv 1) (pa_cons (pe_glob (v := .ref B_) rfl T.xb.m rfl) pa_nil))))))))) (pss_one (ps_ret pe_non)) pss_nil)
      (pss_one (ps_ret (pe_xf T.x_BitsError.xf T.x_BitsError.no hz.zc hf (pv 1)))))))), ?_⟩
    refine ⟨_, rfl, a, bs, rfl, ha, b2, few, fun hF H1 t s1 nt dv => ?_, fun z hz d H1 s1 e => ⟨true, T.x_BitsError.exm T.x_BitsError.sf, fun _ b nb => ?_, fun h => by cases h⟩⟩
    · obtain ⟨ok, ee⟩ := fault_none b2 hF
      refine ⟨.ref t, decC bs, rfl, dv.same fresh_same, ok, fun H2 l s2 nl hl => ?_⟩
      rw [ee] at hl
      exact q hF H2 l (s1.trans s2) hl
    · refine ⟨_, rfl, _, _, false, d, _, rfl, .own O_FitError, rfl, rfl, e, kit_cls_own T.xo_FitError.2.1 T.xo_FitError.2.2.1 (beq_eq_false_iff_ne.mp T.xo_FitError.2.2.2.2) T.xo_FitError.2.2.2.1, _, rfl, iteF ?_⟩
      refine ⟨_, rfl, _, _, false, d, _, rfl, .own O_TextError, rfl, rfl, e, kit_cls_own T.xo_TextError.2.1 T.xo_TextError.2.2.1 (beq_eq_false_iff_ne.mp T.xo_TextError.2.2.2.2) T.xo_TextError.2.2.2.1, _, rfl, iteF ?_⟩
      refine ⟨_, rfl, _, _, true, d, _, rfl, .own B_, rfl, rfl, e, kit_cls_yes T.bc T.bt T.sb_BitsError, _, rfl, iteF ?_⟩
      exact ⟨_, rfl, rfl, rfl, d, _, .int (z : Nat), rfl, e, by rfl, qe z hz _ s1⟩
/-! ### the law -/
def sp_law (K : PySem.W.Frag) : Sp := fun vs H Q _ => ∃ (a : Addr) (ns : List Int), vs = [.ref a] ∧ SqL K H a (vi ns) ∧ ns.length ≤ 63 ∧ ∀ H', Q (.bl true) H'
theorem ok_law {P : Program} {w : World} {K : PySem.W.Frag} {mg : Str → Option Value} {base : Heap} {C_BitsError fI_BitsError : Addr} {fd_BitsError : FuncData} {B_ : Addr} {mc_ : Value} {O_FitError : Addr} {O_TextError : Addr} {tk_MOST_PLACES : Tok} {tk_MOST_TRACKS : Tok} {tk_MOST_PINS : Tok} {tk_MOST_ENDS : Tok} {tk_HEAD_BITS : Tok} {tk_END_BITS : Tok} {tk_SUM_BITS : Tok} {tk_DRIVE_BITS : Tok} {a_HEAD : Addr} {a_END : Addr} {a_STEPS_0 : Addr} {a_STEPS_1 : Addr} {a_STEPS_2 : Addr} {a_STEPS_3 : Addr} {a_STEPS : Addr} {f f_law_draws f_law_config f_law_spoilt f_law_bits f_law_fault f_law_number fsum_of f_law_told : Addr} {fd fd_law_draws fd_law_config fd_law_spoilt fd_law_bits fd_law_fault fd_law_number fdsum_of fd_law_told : FuncData} (F : Fun K "law" "law" s_law f fd) (T : Txt K mg C_BitsError fI_BitsError fd_BitsError B_ mc_ O_FitError O_TextError tk_MOST_PLACES tk_MOST_TRACKS tk_MOST_PINS tk_MOST_ENDS tk_HEAD_BITS tk_END_BITS tk_SUM_BITS tk_DRIVE_BITS a_HEAD a_END a_STEPS_0 a_STEPS_1 a_STEPS_2 a_STEPS_3 a_STEPS)
    (G__law_draws : FnOk P w K mg base CX0 1 f_law_draws fd_law_draws ["script"] (sp__law_draws K)) (D__law_draws : Def K mg "_law_draws" f_law_draws fd_law_draws ["script"])
    (G__law_config : FnOk P w K mg base CX0 3 f_law_config fd_law_config ["draws", "most"] (sp__law_config K)) (D__law_config : Def K mg "_law_config" f_law_config fd_law_config ["draws", "most"])
    (G__law_spoilt : FnOk P w K mg base CX0 3 f_law_spoilt fd_law_spoilt ["draws", "config", "bits"] (sp__law_spoilt K)) (D__law_spoilt : Def K mg "_law_spoilt" f_law_spoilt fd_law_spoilt ["draws", "config", "bits"])
    (G__law_bits : FnOk P w K mg base CX0 2 f_law_bits fd_law_bits ["config"] (sp__law_bits K)) (D__law_bits : Def K mg "_law_bits" f_law_bits fd_law_bits ["config"])
    (G__law_fault : FnOk P w K mg base CX0 3 f_law_fault fd_law_fault ["bits"] (sp__law_fault K)) (D__law_fault : Def K mg "_law_fault" f_law_fault fd_law_fault ["bits"])
    (G__law_number : FnOk P w K mg base CX0 1 f_law_number fd_law_number ["bits", "at", "size"] (sp__law_number K)) (D__law_number : Def K mg "_law_number" f_law_number fd_law_number ["bits", "at", "size"])
    (G_sum_of : FnOk P w K mg base CX0 1 fsum_of fdsum_of ["bits"] (sp_sum_of K)) (D_sum_of : Def K mg "sum_of" fsum_of fdsum_of ["bits"])
    (G__law_told : FnOk P w K mg base CX0 7 f_law_told fd_law_told ["bits"] (sp__law_told K)) (D__law_told : Def K mg "_law_told" f_law_told fd_law_told ["bits"]) :
    FnOk P w K mg base CX0 8 f fd ["script"] (sp_law K) := by
  refine F.ok sclaw (fun vs H Q E h => ?_) (fun cdv A outer s0 H vs Q E hr h => ?_)
  · obtain ⟨a, ns, rfl, _⟩ := h
    rfl
  · obtain ⟨a, ns, rfl, hS, hl, q⟩ := h
    refine ⟨_, (pss_cons (ps_set (i := 1) sclaw.nd rfl (.inl rfl) (pe_call G__law_draws (hr.mono (by omega)) (by rfl) D__law_draws.m D__law_draws.k D__law_draws.b .nil pass0 (pa_cons (pv 0) pa_nil)))
      (pss_cons (ps_set (i := 2) sclaw.nd rfl (.inl rfl) (pe_call G__law_config (hr.mono (by omega)) (by rfl) D__law_config.m D__law_config.k D__law_config.b .nil pass0 (pa_cons (pv 1) (pa_cons pe_int pa_nil))))
      (pss_cons (ps_asg (pe_call G__law_spoilt (hr.mono (by omega)) (by rfl) D__law_spoilt.m D__law_spoilt.k D__law_spoilt.b .nil pass0 (pa_cons (pv 1) (pa_cons (pv 2) (pa_cons (pe_call G__law_bits (hr.mono (by omega)) (by rfl) D__law_bits.m D__law_bits.k D__law_bits.b .nil pass0 (pa_cons (pv 2) pa_nil)) pa_nil)))) (pg_tup (by rfl) (pgs_cons (pg_name (i := 3) sclaw.nd rfl (Or.inl rfl)) (pgs_cons (pg_name (i := 4) sclaw.nd rfl (Or.inl rfl)) pgs_nil))))
      (pss_cons (ps_set (i := 5) sclaw.nd rfl (.inl rfl) (pe_call G__law_fault (hr.mono (by omega)) (by rfl) D__law_fault.m D__law_fault.k D__law_fault.b .nil pass0 (pa_cons (pv 3) pa_nil)))
      (pss_cons (ps_if (PW.pt (pw_and (pt_val (pv 4)) (pw_and1 (pt_cmpR op_eq (pe_call G__law_number (hr.mono (by omega)) (by rfl) D__law_number.m D__law_number.k D__law_number.b .nil pass0 (pa_cons (pe_revL (pe_slice sl_list (pv 3) (po_some (pe_un un_neg pe_int)) po_none)) (pa_cons pe_int (pa_cons pe_int pa_nil)))) (pe_call G_sum_of (hr.mono (by omega)) (by rfl) D_sum_of.m D_sum_of.k D_sum_of.b .nil pass0 (pa_cons (pe_slice sl_list (pv 3) po_none (po_some (pe_un un_neg pe_int))) pa_nil)) (nomark _))))) (pss_one (ps_ret pe_bl)) pss_nil)
      (pss_cons (ps_set (i := 6) sclaw.nd rfl (.inl rfl) (pe_call G__law_told (hr.mono (by omega)) (by rfl) D__law_told.m D__law_told.k D__law_told.b .nil pass0 (pa_cons (pe_callTy call_list_of (by rfl) T.m_list (by decide +kernel) (pa_cons (pv 3) pa_nil)) pa_nil)))
      (pss_cons (ps_if (pt_cmpR op_lt (pv 5) pe_int (nomark _)) (pss_one (ps_ret (pe_cmpR (op_eqD hr.units) (pv 6) (pv 3) (nomark _)))) pss_nil)
      (pss_one (ps_ret (pe_and (pe_callB call_isi (by rfl) T.m_isinstance (by decide +kernel) (pa_cons (pv 6) (pa_cons (pe_bltn (v := .ty "int") (u := .type "int") (by rfl) T.m_int (by decide +kernel) rfl) pa_nil))) (pe_and (pe_not (pe_callB call_isi (by rfl) T.m_isinstance (by decide +kernel) (pa_cons (pv 6) (pa_cons (pe_bltn (v := .ty "bool") (u := .type "bool") (by rfl) T.m_bool (by decide +kernel) rfl) pa_nil)))) (pe_one (pe_cmpR op_eq (pv 6) (pv 5) (nomark _)))))))))))))), ?_⟩
    refine ⟨_, rfl, a, ns, rfl, hS, hl, fun H1 p c s1 np d1 => ?_⟩
    refine ⟨_, rfl, p, c, 3, rfl, by decide, by decide, d1, fun H2 t cf g2 nt dv0 ok => ?_⟩
    have dv2 := dv0.same (fresh_hidp d1)
    refine ⟨_, rfl, _, rfl, _, rfl, .ref t, cf, rfl, dv2.hup, ok, fun H3 B s3 nB hB => ?_⟩
    refine ⟨p, c, t, B, cf, rfl, g2.b.same s3, dv2.same (hid_mono s3), ok, hB, fun H4 l tt zs fl g4 htt hl z2 zl zf => ⟨tt, _, rfl, SqT.of htt, rfl, _, _, rfl, _, _, rfl, rfl, ?_⟩⟩
    refine ⟨_, rfl, l, zs, rfl, hl, z2, by omega, fun H5 s5 => ?_⟩
    have hl5 := s5 _ _ hl
    refine ⟨_, rfl, _, rfl, ?_⟩
    cases fl with
    | true =>
      obtain ⟨l16, zne⟩ := zf rfl
      refine iteT ⟨_, rfl, _, rfl, _, rfl, l, _, rfl, SqL.of hl5, fun S nS => ?_⟩
      have eS : cutV (vn zs) (some (-16)) none = vn (zs.drop (zs.length - 16)) := by
        have := cut_neg_from (vn zs) 16 (by decide)
        rw [vn_len] at this
        rw [← vn_dropE]
        exact this
      have sS := same_new (o := .lst (cutV (vn zs) (some (-16)) none)) nS
      have hS' : (upd H5 S (.lst (cutV (vn zs) (some (-16)) none))) S = some (.lst (vn (zs.drop (zs.length - 16)))) := by rw [upd_same, eS]
      generalize (upd H5 S (.lst (cutV (vn zs) (some (-16)) none))) = H6 at sS hS' ⊢
      refine ⟨S, _, rfl, SqL.of hS', fun R nR => ?_⟩
      rw [vn_rev]
      obtain ⟨sR, hR⟩ := new_lst (xs := vn (zs.drop (zs.length - 16)).reverse) nR
      generalize (upd H6 R (.lst (vn (zs.drop (zs.length - 16)).reverse))) = H7 at sR hR ⊢
      have ll : (zs.drop (zs.length - 16)).reverse.length = 16 := by
        rw [List.length_reverse, List.length_drop]
        omega
      refine ⟨R, _, 0, 16, rfl, hR, fun b hb => z2 b (List.mem_of_mem_drop (List.mem_reverse.mp hb)), by omega, by decide, by omega, fun H8 s8 => ?_⟩
      have s58 := sS.trans (sR.trans s8)
      refine ⟨_, rfl, _, rfl, _, rfl, l, _, rfl, SqL.of (s58 _ _ hl5), fun P' nP => ?_⟩
      have eP : cutV (vn zs) none (some (-16)) = vn (zs.take (zs.length - 16)) := by
        have := cut_neg_to (vn zs) 16 (by decide)
        rw [vn_len] at this
        rw [← vn_takeE]
        exact this
      have sP := same_new (o := .lst (cutV (vn zs) none (some (-16)))) nP
      have hP : (upd H8 P' (.lst (cutV (vn zs) none (some (-16))))) P' = some (.lst (vn (zs.take (zs.length - 16)))) := by rw [upd_same, eP]
      refine ⟨P', _, rfl, hP, rfl, _, rfl, ?_⟩
      rw [show decide (V.int ((num (zs.drop (zs.length - 16)).reverse 0 16 : Nat) : Int) = V.int ((crc (zs.take (zs.length - 16)) : Nat) : Int)) = false from decide_eq_false (fun e => zne (sum_told z2 l16 (Int.ofNat.inj (V.int.inj e))))]
      refine iteF ?_
      have hl9 := (s58.trans sP) _ _ hl5
      refine ⟨_, rfl, l, _, rfl, .inl (SqL.of hl9), fun b nb => ?_⟩
      have sb := same_new (o := .lst (vn zs)) nb
      refine ⟨b, zs, rfl, upd_same, z2, by omega, fun hF H10 l' s10 h10 => ?_, fun z hz H10 s10 => ?_⟩
      · refine ⟨_, rfl, _, _, rfl, rfl, _, rfl, ?_⟩
        rw [hF, decide_eq_true (show ofF none < 0 by decide)]
        refine iteT ⟨_, rfl, _, rfl, eqD (α := List Nat) (Dv.natl h10) (Dv.natl ((sb.trans s10) _ _ hl9)) (by decide) ?_⟩
        rw [decide_eq_true rfl]
        exact q _
      · refine ⟨_, rfl, _, _, rfl, rfl, _, rfl, ?_⟩
        rw [hz, decide_eq_false (show ¬ ofF (some z) < 0 by show ¬ ((z : Nat) : Int) < 0; omega)]
        refine iteF ⟨_, rfl, .int (z : Nat), .ty "int", .type "int", .type "int", true, rfl, .ty _, .base (.int _), kit_ty (by decide +kernel), _, rfl, iteT ?_⟩
        refine ⟨_, rfl, .int (z : Nat), .ty "bool", .type "int", .type "bool", false, rfl, .ty _, .base (.int _), kit_ty (by decide +kernel), _, rfl, _, rfl, iteT ?_⟩
        refine ⟨_, rfl, _, rfl, rfl, ?_⟩
        rw [show decide (V.int ((z : Nat) : Int) = V.int (ofF (some z))) = true from decide_eq_true rfl]
        exact q _
    | false =>
      refine iteF (iteF ?_)
      refine ⟨_, rfl, l, _, rfl, .inl (SqL.of hl5), fun b nb => ?_⟩
      have sb := same_new (o := .lst (vn zs)) nb
      refine ⟨b, zs, rfl, upd_same, z2, by omega, fun hF H10 l' s10 h10 => ?_, fun z hz H10 s10 => ?_⟩
      · refine ⟨_, rfl, _, _, rfl, rfl, _, rfl, ?_⟩
        rw [hF, decide_eq_true (show ofF none < 0 by decide)]
        refine iteT ⟨_, rfl, _, rfl, eqD (α := List Nat) (Dv.natl h10) (Dv.natl ((sb.trans s10) _ _ hl5)) (by decide) ?_⟩
        rw [decide_eq_true rfl]
        exact q _
      · refine ⟨_, rfl, _, _, rfl, rfl, _, rfl, ?_⟩
        rw [hz, decide_eq_false (show ¬ ofF (some z) < 0 by show ¬ ((z : Nat) : Int) < 0; omega)]
        refine iteF ⟨_, rfl, .int (z : Nat), .ty "int", .type "int", .type "int", true, rfl, .ty _, .base (.int _), kit_ty (by decide +kernel), _, rfl, iteT ?_⟩
        refine ⟨_, rfl, .int (z : Nat), .ty "bool", .type "int", .type "bool", false, rfl, .ty _, .base (.int _), kit_ty (by decide +kernel), _, rfl, _, rfl, iteT ?_⟩
        refine ⟨_, rfl, _, rfl, rfl, ?_⟩
        rw [show decide (V.int ((z : Nat) : Int) = V.int (ofF (some z))) = true from decide_eq_true rfl]
        exact q _

end K57
namespace K57
open PySem PySem.Spec PyProof.Rows L2 V0
theorem all_mk {l : PySem.W.OpenLaw} {w : World} {K : PySem.W.Frag} {h : Heap} {mg : Str → Option Value} {fa f1 f2 f3 f4 f5 f6 f7 f8 f9 f10 f11 f12 f13 f14 f15 f16 f17 f18 f19 f20 f21 f22 f23 f24 f25 f26 f27 f28 f29 f30 f31 f32 f33 f34 f35 f36 f37 : Addr} {C_BitsError fI_BitsError : Addr} {B_ : Addr} (X : K.In h) (G : h.Ns mainGlobals mg) (hfa : mg "law" = some (.ref fa))
    {tk_MOST_PLACES tk_MOST_TRACKS tk_MOST_PINS tk_MOST_ENDS tk_HEAD_BITS tk_END_BITS tk_SUM_BITS tk_DRIVE_BITS : Tok}
    {od_BitsError an_BitsError : Option Addr} {sl_BitsError : Array (Option Value)} {oc_BitsError kV_BitsError dc_BitsError pm_BitsError cd_BitsError ct_BitsError : Value}
    {nm_BitsError qn_BitsError : Str} {N_BitsError : Addr} {bs_BitsError bm_BitsError su_BitsError : List Value} {sn_BitsError : List Str} {ab_BitsError : Bool} {co_BitsError : Option Bool} {dd_BitsError : Option Addr} {ka_BitsError kb_BitsError kc_BitsError kd_BitsError ke_BitsError : Option Value}
    {od1 an1 od2 an2 od3 an3 od4 an4 od5 an5 od6 an6 od7 an7 od8 an8 od9 an9 od10 an10 od11 an11 od12 an12 od13 an13 od14 an14 od15 an15 od16 an16 od17 an17 od18 an18 od19 an19 od20 an20 od21 an21 od22 an22 od23 an23 od24 an24 od25 an25 od26 an26 od27 an27 od28 an28 od29 an29 od30 an30 od31 an31 od32 an32 od33 an33 od34 an34 od35 an35 od36 an36 od37 an37 : Option Addr} {sl1 sl2 sl3 sl4 sl5 sl6 sl7 sl8 sl9 sl10 sl11 sl12 sl13 sl14 sl15 sl16 sl17 sl18 sl19 sl20 sl21 sl22 sl23 sl24 sl25 sl26 sl27 sl28 sl29 sl30 sl31 sl32 sl33 sl34 sl35 sl36 sl37 : Array (Option Value)} {oc1 kV1 dc1 pm1 cd1 ct1 oc2 kV2 dc2 pm2 cd2 ct2 oc3 kV3 dc3 pm3 cd3 ct3 oc4 kV4 dc4 pm4 cd4 ct4 oc5 kV5 dc5 pm5 cd5 ct5 oc6 kV6 dc6 pm6 cd6 ct6 oc7 kV7 dc7 pm7 cd7 ct7 oc8 kV8 dc8 pm8 cd8 ct8 oc9 kV9 dc9 pm9 cd9 ct9 oc10 kV10 dc10 pm10 cd10 ct10 oc11 kV11 dc11 pm11 cd11 ct11 oc12 kV12 dc12 pm12 cd12 ct12 oc13 kV13 dc13 pm13 cd13 ct13 oc14 kV14 dc14 pm14 cd14 ct14 oc15 kV15 dc15 pm15 cd15 ct15 oc16 kV16 dc16 pm16 cd16 ct16 oc17 kV17 dc17 pm17 cd17 ct17 oc18 kV18 dc18 pm18 cd18 ct18 oc19 kV19 dc19 pm19 cd19 ct19 oc20 kV20 dc20 pm20 cd20 ct20 oc21 kV21 dc21 pm21 cd21 ct21 oc22 kV22 dc22 pm22 cd22 ct22 oc23 kV23 dc23 pm23 cd23 ct23 oc24 kV24 dc24 pm24 cd24 ct24 oc25 kV25 dc25 pm25 cd25 ct25 oc26 kV26 dc26 pm26 cd26 ct26 oc27 kV27 dc27 pm27 cd27 ct27 oc28 kV28 dc28 pm28 cd28 ct28 oc29 kV29 dc29 pm29 cd29 ct29 oc30 kV30 dc30 pm30 cd30 ct30 oc31 kV31 dc31 pm31 cd31 ct31 oc32 kV32 dc32 pm32 cd32 ct32 oc33 kV33 dc33 pm33 cd33 ct33 oc34 kV34 dc34 pm34 cd34 ct34 oc35 kV35 dc35 pm35 cd35 ct35 oc36 kV36 dc36 pm36 cd36 ct36 oc37 kV37 dc37 pm37 cd37 ct37 : Value}
    (aB_ : PySem.W.nsIn K mainGlobals "ClothError" = some (some (.ref B_))) (gB_ : PySem.W.specialIn K (.ref B_) "__getattribute__" = some (some (.builtin "type.__getattribute__"))) (rB_ : PySem.W.readsIn K B_ (.type "type") = true) (vB_ : PySem.W.findCls K (.ref B_) (.type "type") "__init__" = some (.val (.builtin "ValueError.__init__"))) (qB_ : PySem.W.isClsIn K B_ = true) (yB_ : PySem.W.typeIn K (.ref B_) = some (.type "type"))
    (m_BitsError : PySem.W.nsIn K mainGlobals "BitsError" = some (some (.ref C_BitsError))) (o_BitsError : K.lookup C_BitsError = some (excClassObj nm_BitsError qn_BitsError C_BitsError N_BitsError bs_BitsError bm_BitsError true sn_BitsError su_BitsError ab_BitsError co_BitsError dd_BitsError ka_BitsError kb_BitsError kc_BitsError kd_BitsError ke_BitsError "ValueError.__new__")) (v_BitsError : PySem.HandSPX.refsVE bm_BitsError = true)
    (i_BitsError : PySem.W.findIn K (.ref C_BitsError) "__init__" = some (some (.ref fI_BitsError))) (l_BitsError : K.lookup fI_BitsError = some ⟨oc_BitsError, od_BitsError, .func (PySem.W.fnOf "__init__" "BitsError.__init__" (defArgs s_XBitsError) (defBody s_XBitsError) (defScope s_XBitsError) .none kV_BitsError dc_BitsError pm_BitsError an_BitsError cd_BitsError ct_BitsError), sl_BitsError⟩) (c_BitsError : PySem.W.codeIn K cd_BitsError "BitsError.__init__" = true) (k_BitsError : PySem.W.keepIn K (.ref fI_BitsError) = true) (t_BitsError : PySem.W.typeIn K (.ref fI_BitsError) = some (.type "function"))
    (s_BitsError : PySem.W.findIn K (.ref C_BitsError) "__setattr__" = some (some (.builtin "object.__setattr__"))) (e_BitsError : PySem.W.subIn K (.ref C_BitsError) (.type "BaseException") = some true) (y_BitsError : PySem.W.typeIn K (.ref C_BitsError) = some (.type "type")) (p_BitsError : PySem.W.keepIn K (.ref C_BitsError) = true) (n_BitsError : PySem.W.findIn K (.ref C_BitsError) "at" = some none)
    (u_BitsError : PySem.W.findIn K (.ref C_BitsError) "__getattribute__" = some (some (.builtin "BaseException.__getattribute__"))) (w_BitsError : PySem.W.findIn K (.ref C_BitsError) "__getattr__" = some none) (d_BitsError : PySem.W.hasDictIn K C_BitsError = true) (q_BitsError : PySem.W.isClsIn K C_BitsError = true) (xx_BitsError : PySem.W.subIn K (.ref C_BitsError) (.ref C_BitsError) = some true) (sb_BitsError : PySem.W.subIn K (.ref C_BitsError) (.ref B_) = some true) (sv_BitsError : PySem.W.subIn K (.ref C_BitsError) (.type "ValueError") = some true)
    (ca_BitsError : PySem.W.findIn K (.ref C_BitsError) "__class__" = some (some (.builtin "object.__class__"))) (ch_BitsError : PySem.W.mroIn K C_BitsError (.type "object") = some true)
    (po_FitError : PySem.W.nsIn K mainGlobals "FitError" = some (some (.ref O_FitError))) (qo_FitError : PySem.W.isClsIn K O_FitError = true) (yo_FitError : PySem.W.typeIn K (.ref O_FitError) = some (.type "type")) (so_FitError_BitsError : PySem.W.subIn K (.ref C_BitsError) (.ref O_FitError) = some false) (no_FitError_BitsError : (C_BitsError == O_FitError) = false)
    (po_TextError : PySem.W.nsIn K mainGlobals "TextError" = some (some (.ref O_TextError))) (qo_TextError : PySem.W.isClsIn K O_TextError = true) (yo_TextError : PySem.W.typeIn K (.ref O_TextError) = some (.type "type")) (so_TextError_BitsError : PySem.W.subIn K (.ref C_BitsError) (.ref O_TextError) = some false) (no_TextError_BitsError : (C_BitsError == O_TextError) = false)
    (cn_ : PySem.W.specialIn K (.builtin "object.__class__") "__get__" = some (some (.builtin "getset_descriptor.__get__"))) (ct_ : PySem.W.takesIn K (.builtin "object.__class__") = some true)
    (aI_MOST_PLACES : PySem.W.nsIn K mainGlobals "MOST_PLACES" = some (some (.int (12) tk_MOST_PLACES)))
    (aI_MOST_TRACKS : PySem.W.nsIn K mainGlobals "MOST_TRACKS" = some (some (.int (8) tk_MOST_TRACKS)))
    (aI_MOST_PINS : PySem.W.nsIn K mainGlobals "MOST_PINS" = some (some (.int (4) tk_MOST_PINS)))
    (aI_MOST_ENDS : PySem.W.nsIn K mainGlobals "MOST_ENDS" = some (some (.int (64) tk_MOST_ENDS)))
    (aI_HEAD_BITS : PySem.W.nsIn K mainGlobals "HEAD_BITS" = some (some (.int (27) tk_HEAD_BITS)))
    (aI_END_BITS : PySem.W.nsIn K mainGlobals "END_BITS" = some (some (.int (13) tk_END_BITS)))
    (aI_SUM_BITS : PySem.W.nsIn K mainGlobals "SUM_BITS" = some (some (.int (16) tk_SUM_BITS)))
    (aI_DRIVE_BITS : PySem.W.nsIn K mainGlobals "DRIVE_BITS" = some (some (.int (3) tk_DRIVE_BITS)))
    {dt_HEAD : Option Addr} {nt_HEAD : Nat} {st_HEAD : Array (Option Value)} {tt_HEAD_0 : Tok} {tt_HEAD_1 : Tok} {tt_HEAD_2 : Tok} {tt_HEAD_3 : Tok} {tt_HEAD_4 : Tok} {tt_HEAD_5 : Tok} (oT_HEAD : K.lookup a_HEAD = some ⟨.type "tuple", dt_HEAD, .seq #[.int (4) tt_HEAD_0, .int (4) tt_HEAD_1, .int (3) tt_HEAD_2, .int (2) tt_HEAD_3, .int (7) tt_HEAD_4, .int (7) tt_HEAD_5] nt_HEAD, st_HEAD⟩)
    {dt_END : Option Addr} {nt_END : Nat} {st_END : Array (Option Value)} {tt_END_0 : Tok} {tt_END_1 : Tok} {tt_END_2 : Tok} {tt_END_3 : Tok} (oT_END : K.lookup a_END = some ⟨.type "tuple", dt_END, .seq #[.int (4) tt_END_0, .int (4) tt_END_1, .int (2) tt_END_2, .int (3) tt_END_3] nt_END, st_END⟩)
    {dt_STEPS_0 : Option Addr} {nt_STEPS_0 : Nat} {st_STEPS_0 : Array (Option Value)} {tt_STEPS_0_0 : Tok} {tt_STEPS_0_1 : Tok} (oT_STEPS_0 : K.lookup a_STEPS_0 = some ⟨.type "tuple", dt_STEPS_0, .seq #[.int (0) tt_STEPS_0_0, .int (-1) tt_STEPS_0_1] nt_STEPS_0, st_STEPS_0⟩)
    {dt_STEPS_1 : Option Addr} {nt_STEPS_1 : Nat} {st_STEPS_1 : Array (Option Value)} {tt_STEPS_1_0 : Tok} {tt_STEPS_1_1 : Tok} (oT_STEPS_1 : K.lookup a_STEPS_1 = some ⟨.type "tuple", dt_STEPS_1, .seq #[.int (1) tt_STEPS_1_0, .int (0) tt_STEPS_1_1] nt_STEPS_1, st_STEPS_1⟩)
    {dt_STEPS_2 : Option Addr} {nt_STEPS_2 : Nat} {st_STEPS_2 : Array (Option Value)} {tt_STEPS_2_0 : Tok} {tt_STEPS_2_1 : Tok} (oT_STEPS_2 : K.lookup a_STEPS_2 = some ⟨.type "tuple", dt_STEPS_2, .seq #[.int (0) tt_STEPS_2_0, .int (1) tt_STEPS_2_1] nt_STEPS_2, st_STEPS_2⟩)
    {dt_STEPS_3 : Option Addr} {nt_STEPS_3 : Nat} {st_STEPS_3 : Array (Option Value)} {tt_STEPS_3_0 : Tok} {tt_STEPS_3_1 : Tok} (oT_STEPS_3 : K.lookup a_STEPS_3 = some ⟨.type "tuple", dt_STEPS_3, .seq #[.int (-1) tt_STEPS_3_0, .int (0) tt_STEPS_3_1] nt_STEPS_3, st_STEPS_3⟩)
    {dt_STEPS : Option Addr} {nt_STEPS : Nat} {st_STEPS : Array (Option Value)} (oT_STEPS : K.lookup a_STEPS = some ⟨.type "tuple", dt_STEPS, .seq #[.ref a_STEPS_0, .ref a_STEPS_1, .ref a_STEPS_2, .ref a_STEPS_3] nt_STEPS, st_STEPS⟩)
    (aT_HEAD : PySem.W.nsIn K mainGlobals "HEAD" = some (some (.ref a_HEAD)))
    (aT_END : PySem.W.nsIn K mainGlobals "END" = some (some (.ref a_END)))
    (aT_STEPS : PySem.W.nsIn K mainGlobals "STEPS" = some (some (.ref a_STEPS)))
    (a1 : PySem.W.nsIn K mainGlobals "_law_draws" = some (some (.ref f1))) (l1 : K.lookup f1 = some ⟨oc1, od1, .func (PySem.W.fnOf "_law_draws" "_law_draws" (defArgs s__law_draws) (defBody s__law_draws) (defScope s__law_draws) .none kV1 dc1 pm1 an1 cd1 ct1), sl1⟩) (c1 : PySem.W.codeIn K cd1 "_law_draws" = true) (k1 : PySem.W.keepIn K (.ref f1) = true)
    (a2 : PySem.W.nsIn K mainGlobals "_law_draw" = some (some (.ref f2))) (l2 : K.lookup f2 = some ⟨oc2, od2, .func (PySem.W.fnOf "_law_draw" "_law_draw" (defArgs s__law_draw) (defBody s__law_draw) (defScope s__law_draw) .none kV2 dc2 pm2 an2 cd2 ct2), sl2⟩) (c2 : PySem.W.codeIn K cd2 "_law_draw" = true) (k2 : PySem.W.keepIn K (.ref f2) = true)
    (a3 : PySem.W.nsIn K mainGlobals "_law_fabric" = some (some (.ref f3))) (l3 : K.lookup f3 = some ⟨oc3, od3, .func (PySem.W.fnOf "_law_fabric" "_law_fabric" (defArgs s__law_fabric) (defBody s__law_fabric) (defScope s__law_fabric) .none kV3 dc3 pm3 an3 cd3 ct3), sl3⟩) (c3 : PySem.W.codeIn K cd3 "_law_fabric" = true) (k3 : PySem.W.keepIn K (.ref f3) = true)
    (a4 : PySem.W.nsIn K mainGlobals "_law_setting" = some (some (.ref f4))) (l4 : K.lookup f4 = some ⟨oc4, od4, .func (PySem.W.fnOf "_law_setting" "_law_setting" (defArgs s__law_setting) (defBody s__law_setting) (defScope s__law_setting) .none kV4 dc4 pm4 an4 cd4 ct4), sl4⟩) (c4 : PySem.W.codeIn K cd4 "_law_setting" = true) (k4 : PySem.W.keepIn K (.ref f4) = true)
    (a5 : PySem.W.nsIn K mainGlobals "_law_sides" = some (some (.ref f5))) (l5 : K.lookup f5 = some ⟨oc5, od5, .func (PySem.W.fnOf "_law_sides" "_law_sides" (defArgs s__law_sides) (defBody s__law_sides) (defScope s__law_sides) .none kV5 dc5 pm5 an5 cd5 ct5), sl5⟩) (c5 : PySem.W.codeIn K cd5 "_law_sides" = true) (k5 : PySem.W.keepIn K (.ref f5) = true)
    (a6 : PySem.W.nsIn K mainGlobals "_law_pads" = some (some (.ref f6))) (l6 : K.lookup f6 = some ⟨oc6, od6, .func (PySem.W.fnOf "_law_pads" "_law_pads" (defArgs s__law_pads) (defBody s__law_pads) (defScope s__law_pads) .none kV6 dc6 pm6 an6 cd6 ct6), sl6⟩) (c6 : PySem.W.codeIn K cd6 "_law_pads" = true) (k6 : PySem.W.keepIn K (.ref f6) = true)
    (a7 : PySem.W.nsIn K mainGlobals "_law_config" = some (some (.ref f7))) (l7 : K.lookup f7 = some ⟨oc7, od7, .func (PySem.W.fnOf "_law_config" "_law_config" (defArgs s__law_config) (defBody s__law_config) (defScope s__law_config) .none kV7 dc7 pm7 an7 cd7 ct7), sl7⟩) (c7 : PySem.W.codeIn K cd7 "_law_config" = true) (k7 : PySem.W.keepIn K (.ref f7) = true)
    (a8 : PySem.W.nsIn K mainGlobals "_law_turned" = some (some (.ref f8))) (l8 : K.lookup f8 = some ⟨oc8, od8, .func (PySem.W.fnOf "_law_turned" "_law_turned" (defArgs s__law_turned) (defBody s__law_turned) (defScope s__law_turned) .none kV8 dc8 pm8 an8 cd8 ct8), sl8⟩) (c8 : PySem.W.codeIn K cd8 "_law_turned" = true) (k8 : PySem.W.keepIn K (.ref f8) = true)
    (a9 : PySem.W.nsIn K mainGlobals "_law_flipped" = some (some (.ref f9))) (l9 : K.lookup f9 = some ⟨oc9, od9, .func (PySem.W.fnOf "_law_flipped" "_law_flipped" (defArgs s__law_flipped) (defBody s__law_flipped) (defScope s__law_flipped) .none kV9 dc9 pm9 an9 cd9 ct9), sl9⟩) (c9 : PySem.W.codeIn K cd9 "_law_flipped" = true) (k9 : PySem.W.keepIn K (.ref f9) = true)
    (a10 : PySem.W.nsIn K mainGlobals "_law_sum" = some (some (.ref f10))) (l10 : K.lookup f10 = some ⟨oc10, od10, .func (PySem.W.fnOf "_law_sum" "_law_sum" (defArgs s__law_sum) (defBody s__law_sum) (defScope s__law_sum) .none kV10 dc10 pm10 an10 cd10 ct10), sl10⟩) (c10 : PySem.W.codeIn K cd10 "_law_sum" = true) (k10 : PySem.W.keepIn K (.ref f10) = true)
    (a11 : PySem.W.nsIn K mainGlobals "_law_spoilt" = some (some (.ref f11))) (l11 : K.lookup f11 = some ⟨oc11, od11, .func (PySem.W.fnOf "_law_spoilt" "_law_spoilt" (defArgs s__law_spoilt) (defBody s__law_spoilt) (defScope s__law_spoilt) .none kV11 dc11 pm11 an11 cd11 ct11), sl11⟩) (c11 : PySem.W.codeIn K cd11 "_law_spoilt" = true) (k11 : PySem.W.keepIn K (.ref f11) = true)
    (a12 : PySem.W.nsIn K mainGlobals "_law_written" = some (some (.ref f12))) (l12 : K.lookup f12 = some ⟨oc12, od12, .func (PySem.W.fnOf "_law_written" "_law_written" (defArgs s__law_written) (defBody s__law_written) (defScope s__law_written) .none kV12 dc12 pm12 an12 cd12 ct12), sl12⟩) (c12 : PySem.W.codeIn K cd12 "_law_written" = true) (k12 : PySem.W.keepIn K (.ref f12) = true)
    (a13 : PySem.W.nsIn K mainGlobals "_law_tap" = some (some (.ref f13))) (l13 : K.lookup f13 = some ⟨oc13, od13, .func (PySem.W.fnOf "_law_tap" "_law_tap" (defArgs s__law_tap) (defBody s__law_tap) (defScope s__law_tap) .none kV13 dc13 pm13 an13 cd13 ct13), sl13⟩) (c13 : PySem.W.codeIn K cd13 "_law_tap" = true) (k13 : PySem.W.keepIn K (.ref f13) = true)
    (a14 : PySem.W.nsIn K mainGlobals "_law_bits" = some (some (.ref f14))) (l14 : K.lookup f14 = some ⟨oc14, od14, .func (PySem.W.fnOf "_law_bits" "_law_bits" (defArgs s__law_bits) (defBody s__law_bits) (defScope s__law_bits) .none kV14 dc14 pm14 an14 cd14 ct14), sl14⟩) (c14 : PySem.W.codeIn K cd14 "_law_bits" = true) (k14 : PySem.W.keepIn K (.ref f14) = true)
    (a15 : PySem.W.nsIn K mainGlobals "_law_number" = some (some (.ref f15))) (l15 : K.lookup f15 = some ⟨oc15, od15, .func (PySem.W.fnOf "_law_number" "_law_number" (defArgs s__law_number) (defBody s__law_number) (defScope s__law_number) .none kV15 dc15 pm15 an15 cd15 ct15), sl15⟩) (c15 : PySem.W.codeIn K cd15 "_law_number" = true) (k15 : PySem.W.keepIn K (.ref f15) = true)
    (a16 : PySem.W.nsIn K mainGlobals "_law_codes_fault" = some (some (.ref f16))) (l16 : K.lookup f16 = some ⟨oc16, od16, .func (PySem.W.fnOf "_law_codes_fault" "_law_codes_fault" (defArgs s__law_codes_fault) (defBody s__law_codes_fault) (defScope s__law_codes_fault) .none kV16 dc16 pm16 an16 cd16 ct16), sl16⟩) (c16 : PySem.W.codeIn K cd16 "_law_codes_fault" = true) (k16 : PySem.W.keepIn K (.ref f16) = true)
    (a17 : PySem.W.nsIn K mainGlobals "_law_pad_right" = some (some (.ref f17))) (l17 : K.lookup f17 = some ⟨oc17, od17, .func (PySem.W.fnOf "_law_pad_right" "_law_pad_right" (defArgs s__law_pad_right) (defBody s__law_pad_right) (defScope s__law_pad_right) .none kV17 dc17 pm17 an17 cd17 ct17), sl17⟩) (c17 : PySem.W.codeIn K cd17 "_law_pad_right" = true) (k17 : PySem.W.keepIn K (.ref f17) = true)
    (a18 : PySem.W.nsIn K mainGlobals "_law_fault" = some (some (.ref f18))) (l18 : K.lookup f18 = some ⟨oc18, od18, .func (PySem.W.fnOf "_law_fault" "_law_fault" (defArgs s__law_fault) (defBody s__law_fault) (defScope s__law_fault) .none kV18 dc18 pm18 an18 cd18 ct18), sl18⟩) (c18 : PySem.W.codeIn K cd18 "_law_fault" = true) (k18 : PySem.W.keepIn K (.ref f18) = true)
    (a19 : PySem.W.nsIn K mainGlobals "sum_of" = some (some (.ref f19))) (l19 : K.lookup f19 = some ⟨oc19, od19, .func (PySem.W.fnOf "sum_of" "sum_of" (defArgs s_sum_of) (defBody s_sum_of) (defScope s_sum_of) .none kV19 dc19 pm19 an19 cd19 ct19), sl19⟩) (c19 : PySem.W.codeIn K cd19 "sum_of" = true) (k19 : PySem.W.keepIn K (.ref f19) = true)
    (a20 : PySem.W.nsIn K mainGlobals "_written" = some (some (.ref f20))) (l20 : K.lookup f20 = some ⟨oc20, od20, .func (PySem.W.fnOf "_written" "_written" (defArgs s__written) (defBody s__written) (defScope s__written) .none kV20 dc20 pm20 an20 cd20 ct20), sl20⟩) (c20 : PySem.W.codeIn K cd20 "_written" = true) (k20 : PySem.W.keepIn K (.ref f20) = true)
    (a21 : PySem.W.nsIn K mainGlobals "greatest_tap" = some (some (.ref f21))) (l21 : K.lookup f21 = some ⟨oc21, od21, .func (PySem.W.fnOf "greatest_tap" "greatest_tap" (defArgs s_greatest_tap) (defBody s_greatest_tap) (defScope s_greatest_tap) .none kV21 dc21 pm21 an21 cd21 ct21), sl21⟩) (c21 : PySem.W.codeIn K cd21 "greatest_tap" = true) (k21 : PySem.W.keepIn K (.ref f21) = true)
    (a22 : PySem.W.nsIn K mainGlobals "_tap_bits" = some (some (.ref f22))) (l22 : K.lookup f22 = some ⟨oc22, od22, .func (PySem.W.fnOf "_tap_bits" "_tap_bits" (defArgs s__tap_bits) (defBody s__tap_bits) (defScope s__tap_bits) .none kV22 dc22 pm22 an22 cd22 ct22), sl22⟩) (c22 : PySem.W.codeIn K cd22 "_tap_bits" = true) (k22 : PySem.W.keepIn K (.ref f22) = true)
    (a23 : PySem.W.nsIn K mainGlobals "_sum_bits" = some (some (.ref f23))) (l23 : K.lookup f23 = some ⟨oc23, od23, .func (PySem.W.fnOf "_sum_bits" "_sum_bits" (defArgs s__sum_bits) (defBody s__sum_bits) (defScope s__sum_bits) .none kV23 dc23 pm23 an23 cd23 ct23), sl23⟩) (c23 : PySem.W.codeIn K cd23 "_sum_bits" = true) (k23 : PySem.W.keepIn K (.ref f23) = true)
    (a24 : PySem.W.nsIn K mainGlobals "bits_of" = some (some (.ref f24))) (l24 : K.lookup f24 = some ⟨oc24, od24, .func (PySem.W.fnOf "bits_of" "bits_of" (defArgs s_bits_of) (defBody s_bits_of) (defScope s_bits_of) .none kV24 dc24 pm24 an24 cd24 ct24), sl24⟩) (c24 : PySem.W.codeIn K cd24 "bits_of" = true) (k24 : PySem.W.keepIn K (.ref f24) = true)
    (a25 : PySem.W.nsIn K mainGlobals "_read" = some (some (.ref f25))) (l25 : K.lookup f25 = some ⟨oc25, od25, .func (PySem.W.fnOf "_read" "_read" (defArgs s__read) (defBody s__read) (defScope s__read) .none kV25 dc25 pm25 an25 cd25 ct25), sl25⟩) (c25 : PySem.W.codeIn K cd25 "_read" = true) (k25 : PySem.W.keepIn K (.ref f25) = true)
    (a26 : PySem.W.nsIn K mainGlobals "_head_of" = some (some (.ref f26))) (l26 : K.lookup f26 = some ⟨oc26, od26, .func (PySem.W.fnOf "_head_of" "_head_of" (defArgs s__head_of) (defBody s__head_of) (defScope s__head_of) .none kV26 dc26 pm26 an26 cd26 ct26), sl26⟩) (c26 : PySem.W.codeIn K cd26 "_head_of" = true) (k26 : PySem.W.keepIn K (.ref f26) = true)
    (a27 : PySem.W.nsIn K mainGlobals "_setting_bits" = some (some (.ref f27))) (l27 : K.lookup f27 = some ⟨oc27, od27, .func (PySem.W.fnOf "_setting_bits" "_setting_bits" (defArgs s__setting_bits) (defBody s__setting_bits) (defScope s__setting_bits) .none kV27 dc27 pm27 an27 cd27 ct27), sl27⟩) (c27 : PySem.W.codeIn K cd27 "_setting_bits" = true) (k27 : PySem.W.keepIn K (.ref f27) = true)
    (a28 : PySem.W.nsIn K mainGlobals "size_of" = some (some (.ref f28))) (l28 : K.lookup f28 = some ⟨oc28, od28, .func (PySem.W.fnOf "size_of" "size_of" (defArgs s_size_of) (defBody s_size_of) (defScope s_size_of) .none kV28 dc28 pm28 an28 cd28 ct28), sl28⟩) (c28 : PySem.W.codeIn K cd28 "size_of" = true) (k28 : PySem.W.keepIn K (.ref f28) = true)
    (a29 : PySem.W.nsIn K mainGlobals "_codes_at" = some (some (.ref f29))) (l29 : K.lookup f29 = some ⟨oc29, od29, .func (PySem.W.fnOf "_codes_at" "_codes_at" (defArgs s__codes_at) (defBody s__codes_at) (defScope s__codes_at) .none kV29 dc29 pm29 an29 cd29 ct29), sl29⟩) (c29 : PySem.W.codeIn K cd29 "_codes_at" = true) (k29 : PySem.W.keepIn K (.ref f29) = true)
    (a30 : PySem.W.nsIn K mainGlobals "greatest_drive" = some (some (.ref f30))) (l30 : K.lookup f30 = some ⟨oc30, od30, .func (PySem.W.fnOf "greatest_drive" "greatest_drive" (defArgs s_greatest_drive) (defBody s_greatest_drive) (defScope s_greatest_drive) .none kV30 dc30 pm30 an30 cd30 ct30), sl30⟩) (c30 : PySem.W.codeIn K cd30 "greatest_drive" = true) (k30 : PySem.W.keepIn K (.ref f30) = true)
    (a31 : PySem.W.nsIn K mainGlobals "_setting_at" = some (some (.ref f31))) (l31 : K.lookup f31 = some ⟨oc31, od31, .func (PySem.W.fnOf "_setting_at" "_setting_at" (defArgs s__setting_at) (defBody s__setting_at) (defScope s__setting_at) .none kV31 dc31 pm31 an31 cd31 ct31), sl31⟩) (c31 : PySem.W.codeIn K cd31 "_setting_at" = true) (k31 : PySem.W.keepIn K (.ref f31) = true)
    (a32 : PySem.W.nsIn K mainGlobals "beside" = some (some (.ref f32))) (l32 : K.lookup f32 = some ⟨oc32, od32, .func (PySem.W.fnOf "beside" "beside" (defArgs s_beside) (defBody s_beside) (defScope s_beside) .none kV32 dc32 pm32 an32 cd32 ct32), sl32⟩) (c32 : PySem.W.codeIn K cd32 "beside" = true) (k32 : PySem.W.keepIn K (.ref f32) = true)
    (a33 : PySem.W.nsIn K mainGlobals "is_border" = some (some (.ref f33))) (l33 : K.lookup f33 = some ⟨oc33, od33, .func (PySem.W.fnOf "is_border" "is_border" (defArgs s_is_border) (defBody s_is_border) (defScope s_is_border) .none kV33 dc33 pm33 an33 cd33 ct33), sl33⟩) (c33 : PySem.W.codeIn K cd33 "is_border" = true) (k33 : PySem.W.keepIn K (.ref f33) = true)
    (a34 : PySem.W.nsIn K mainGlobals "_ends_at" = some (some (.ref f34))) (l34 : K.lookup f34 = some ⟨oc34, od34, .func (PySem.W.fnOf "_ends_at" "_ends_at" (defArgs s__ends_at) (defBody s__ends_at) (defScope s__ends_at) .none kV34 dc34 pm34 an34 cd34 ct34), sl34⟩) (c34 : PySem.W.codeIn K cd34 "_ends_at" = true) (k34 : PySem.W.keepIn K (.ref f34) = true)
    (a35 : PySem.W.nsIn K mainGlobals "config_of" = some (some (.ref f35))) (l35 : K.lookup f35 = some ⟨oc35, od35, .func (PySem.W.fnOf "config_of" "config_of" (defArgs s_config_of) (defBody s_config_of) (defScope s_config_of) .none kV35 dc35 pm35 an35 cd35 ct35), sl35⟩) (c35 : PySem.W.codeIn K cd35 "config_of" = true) (k35 : PySem.W.keepIn K (.ref f35) = true)
    (a36 : PySem.W.nsIn K mainGlobals "_law_told" = some (some (.ref f36))) (l36 : K.lookup f36 = some ⟨oc36, od36, .func (PySem.W.fnOf "_law_told" "_law_told" (defArgs s__law_told) (defBody s__law_told) (defScope s__law_told) .none kV36 dc36 pm36 an36 cd36 ct36), sl36⟩) (c36 : PySem.W.codeIn K cd36 "_law_told" = true) (k36 : PySem.W.keepIn K (.ref f36) = true)
    (a37 : PySem.W.nsIn K mainGlobals "law" = some (some (.ref f37))) (l37 : K.lookup f37 = some ⟨oc37, od37, .func (PySem.W.fnOf "law" "law" (defArgs s_law) (defBody s_law) (defScope s_law) .none kV37 dc37 pm37 an37 cd37 ct37), sl37⟩) (c37 : PySem.W.codeIn K cd37 "law" = true) (k37 : PySem.W.keepIn K (.ref f37) = true)
    (z_bool : PySem.W.nsIn K mainGlobals "bool" = some none)
    (z_enumerate : PySem.W.nsIn K mainGlobals "enumerate" = some none)
    (z_int : PySem.W.nsIn K mainGlobals "int" = some none)
    (z_isinstance : PySem.W.nsIn K mainGlobals "isinstance" = some none)
    (z_len : PySem.W.nsIn K mainGlobals "len" = some none)
    (z_list : PySem.W.nsIn K mainGlobals "list" = some none)
    (z_min : PySem.W.nsIn K mainGlobals "min" = some none)
    (z_range : PySem.W.nsIn K mainGlobals "range" = some none)
    (z_reversed : PySem.W.nsIn K mainGlobals "reversed" = some none)
    (z_sum : PySem.W.nsIn K mainGlobals "sum" = some none)
    (z_tuple : PySem.W.nsIn K mainGlobals "tuple" = some none)
    (z_zip : PySem.W.nsIn K mainGlobals "zip" = some none) :
    ∃ fd : FuncData, (∀ (s : Shared) (v : Value), BindsTo s fd ⟨[v], []⟩ [("script", v)]) ∧ ∀ base : Heap, K.In base → base.Ns mainGlobals mg → FnOk l.prog w K mg base CX0 8 fa fd ["script"] (sp_law K) := by
  have e := hfa.symm.trans (PySem.W.mg_of X G a37)
  cases e
  have FX_BitsError := fun_mk (st := s_XBitsError) l_BitsError c_BitsError k_BitsError
  have XX_BitsError : Exc K mg "BitsError" C_BitsError fI_BitsError _ "at" := ⟨PySem.W.mg_of X G m_BitsError, ⟨⟨nm_BitsError, qn_BitsError, N_BitsError, bs_BitsError, bm_BitsError, sn_BitsError, su_BitsError, ab_BitsError, co_BitsError, dd_BitsError, ka_BitsError, kb_BitsError, kc_BitsError, kd_BitsError, ke_BitsError, o_BitsError, v_BitsError⟩, s_BitsError, e_BitsError, y_BitsError, p_BitsError⟩, i_BitsError, t_BitsError, FX_BitsError.binds (ps := ["self", "at"]) fun _ _ _ _ _ _ us hl => match us, hl with | [_, _], _ => rfl, n_BitsError, ⟨u_BitsError, w_BitsError, e_BitsError, d_BitsError⟩, q_BitsError, xx_BitsError⟩
  have T : Txt K mg C_BitsError fI_BitsError _ B_ (.type "type") O_FitError O_TextError tk_MOST_PLACES tk_MOST_TRACKS tk_MOST_PINS tk_MOST_ENDS tk_HEAD_BITS tk_END_BITS tk_SUM_BITS tk_DRIVE_BITS a_HEAD a_END a_STEPS_0 a_STEPS_1 a_STEPS_2 a_STEPS_3 a_STEPS := ⟨⟨PySem.W.mg_of X G aB_, gB_, rB_, vB_⟩, qB_, yB_, XX_BitsError, ⟨⟨u_BitsError, w_BitsError, e_BitsError, d_BitsError⟩, q_BitsError, ca_BitsError, cn_, ct_, ch_BitsError⟩, sb_BitsError, sv_BitsError, ⟨PySem.W.mg_of X G po_FitError, qo_FitError, yo_FitError, so_FitError_BitsError, no_FitError_BitsError⟩, ⟨PySem.W.mg_of X G po_TextError, qo_TextError, yo_TextError, so_TextError_BitsError, no_TextError_BitsError⟩, PySem.W.mg_of X G aI_MOST_PLACES, PySem.W.mg_of X G aI_MOST_TRACKS, PySem.W.mg_of X G aI_MOST_PINS, PySem.W.mg_of X G aI_MOST_ENDS, PySem.W.mg_of X G aI_HEAD_BITS, PySem.W.mg_of X G aI_END_BITS, PySem.W.mg_of X G aI_SUM_BITS, PySem.W.mg_of X G aI_DRIVE_BITS, PySem.W.mg_of X G aT_HEAD, PySem.W.mg_of X G aT_END, PySem.W.mg_of X G aT_STEPS, fun _ => .inr ⟨_, _, _, oT_HEAD, rfl, rfl, (by show 6 ≤ sizeLine; decide), .cons ⟨_, rfl⟩ (.cons ⟨_, rfl⟩ (.cons ⟨_, rfl⟩ (.cons ⟨_, rfl⟩ (.cons ⟨_, rfl⟩ (.cons ⟨_, rfl⟩ (.nil))))))⟩, fun _ => .inr ⟨_, _, _, oT_END, rfl, rfl, (by show 4 ≤ sizeLine; decide), .cons ⟨_, rfl⟩ (.cons ⟨_, rfl⟩ (.cons ⟨_, rfl⟩ (.cons ⟨_, rfl⟩ (.nil))))⟩, fun _ => .inr ⟨_, _, _, oT_STEPS_0, rfl, rfl, (by show 2 ≤ sizeLine; decide), .cons ⟨_, rfl⟩ (.cons ⟨_, rfl⟩ (.nil))⟩, fun _ => .inr ⟨_, _, _, oT_STEPS_1, rfl, rfl, (by show 2 ≤ sizeLine; decide), .cons ⟨_, rfl⟩ (.cons ⟨_, rfl⟩ (.nil))⟩, fun _ => .inr ⟨_, _, _, oT_STEPS_2, rfl, rfl, (by show 2 ≤ sizeLine; decide), .cons ⟨_, rfl⟩ (.cons ⟨_, rfl⟩ (.nil))⟩, fun _ => .inr ⟨_, _, _, oT_STEPS_3, rfl, rfl, (by show 2 ≤ sizeLine; decide), .cons ⟨_, rfl⟩ (.cons ⟨_, rfl⟩ (.nil))⟩, fun _ => .inr ⟨_, _, _, oT_STEPS, rfl, rfl, (by show 4 ≤ sizeLine; decide), .cons rfl (.cons rfl (.cons rfl (.cons rfl (.nil))))⟩, PySem.W.mg_none_of X G z_bool, PySem.W.mg_none_of X G z_enumerate, PySem.W.mg_none_of X G z_int, PySem.W.mg_none_of X G z_isinstance, PySem.W.mg_none_of X G z_len, PySem.W.mg_none_of X G z_list, PySem.W.mg_none_of X G z_min, PySem.W.mg_none_of X G z_range, PySem.W.mg_none_of X G z_reversed, PySem.W.mg_none_of X G z_sum, PySem.W.mg_none_of X G z_tuple, PySem.W.mg_none_of X G z_zip⟩
  have F1 := fun_mk (st := s__law_draws) l1 c1 k1
  have D1 : Def K mg "_law_draws" f1 _ ["script"] := ⟨PySem.W.mg_of X G a1, F1.kp, F1.binds (ps := ["script"]) fun _ _ _ _ _ _ us hl => match us, hl with | [_], _ => rfl⟩
  have F2 := fun_mk (st := s__law_draw) l2 c2 k2
  have D2 : Def K mg "_law_draw" f2 _ ["draws", "limit"] := ⟨PySem.W.mg_of X G a2, F2.kp, F2.binds (ps := ["draws", "limit"]) fun _ _ _ _ _ _ us hl => match us, hl with | [_, _], _ => rfl⟩
  have F3 := fun_mk (st := s__law_fabric) l3 c3 k3
  have D3 : Def K mg "_law_fabric" f3 _ ["draws", "most"] := ⟨PySem.W.mg_of X G a3, F3.kp, F3.binds (ps := ["draws", "most"]) fun _ _ _ _ _ _ us hl => match us, hl with | [_, _], _ => rfl⟩
  have F4 := fun_mk (st := s__law_setting) l4 c4 k4
  have D4 : Def K mg "_law_setting" f4 _ ["draws", "fabric"] := ⟨PySem.W.mg_of X G a4, F4.kp, F4.binds (ps := ["draws", "fabric"]) fun _ _ _ _ _ _ us hl => match us, hl with | [_, _], _ => rfl⟩
  have F5 := fun_mk (st := s__law_sides) l5 c5 k5
  have D5 : Def K mg "_law_sides" f5 _ ["fabric"] := ⟨PySem.W.mg_of X G a5, F5.kp, F5.binds (ps := ["fabric"]) fun _ _ _ _ _ _ us hl => match us, hl with | [_], _ => rfl⟩
  have F6 := fun_mk (st := s__law_pads) l6 c6 k6
  have D6 : Def K mg "_law_pads" f6 _ ["draws", "fabric", "many"] := ⟨PySem.W.mg_of X G a6, F6.kp, F6.binds (ps := ["draws", "fabric", "many"]) fun _ _ _ _ _ _ us hl => match us, hl with | [_, _, _], _ => rfl⟩
  have F7 := fun_mk (st := s__law_config) l7 c7 k7
  have D7 : Def K mg "_law_config" f7 _ ["draws", "most"] := ⟨PySem.W.mg_of X G a7, F7.kp, F7.binds (ps := ["draws", "most"]) fun _ _ _ _ _ _ us hl => match us, hl with | [_, _], _ => rfl⟩
  have F8 := fun_mk (st := s__law_turned) l8 c8 k8
  have D8 : Def K mg "_law_turned" f8 _ ["bits", "at"] := ⟨PySem.W.mg_of X G a8, F8.kp, F8.binds (ps := ["bits", "at"]) fun _ _ _ _ _ _ us hl => match us, hl with | [_, _], _ => rfl⟩
  have F9 := fun_mk (st := s__law_flipped) l9 c9 k9
  have D9 : Def K mg "_law_flipped" f9 _ ["draws", "bits", "kind"] := ⟨PySem.W.mg_of X G a9, F9.kp, F9.binds (ps := ["draws", "bits", "kind"]) fun _ _ _ _ _ _ us hl => match us, hl with | [_, _, _], _ => rfl⟩
  have F10 := fun_mk (st := s__law_sum) l10 c10 k10
  have D10 : Def K mg "_law_sum" f10 _ ["bits"] := ⟨PySem.W.mg_of X G a10, F10.kp, F10.binds (ps := ["bits"]) fun _ _ _ _ _ _ us hl => match us, hl with | [_], _ => rfl⟩
  have F11 := fun_mk (st := s__law_spoilt) l11 c11 k11
  have D11 : Def K mg "_law_spoilt" f11 _ ["draws", "config", "bits"] := ⟨PySem.W.mg_of X G a11, F11.kp, F11.binds (ps := ["draws", "config", "bits"]) fun _ _ _ _ _ _ us hl => match us, hl with | [_, _, _], _ => rfl⟩
  have F12 := fun_mk (st := s__law_written) l12 c12 k12
  have D12 : Def K mg "_law_written" f12 _ ["number", "size"] := ⟨PySem.W.mg_of X G a12, F12.kp, F12.binds (ps := ["number", "size"]) fun _ _ _ _ _ _ us hl => match us, hl with | [_, _], _ => rfl⟩
  have F13 := fun_mk (st := s__law_tap) l13 c13 k13
  have D13 : Def K mg "_law_tap" f13 _ ["fabric"] := ⟨PySem.W.mg_of X G a13, F13.kp, F13.binds (ps := ["fabric"]) fun _ _ _ _ _ _ us hl => match us, hl with | [_], _ => rfl⟩
  have F14 := fun_mk (st := s__law_bits) l14 c14 k14
  have D14 : Def K mg "_law_bits" f14 _ ["config"] := ⟨PySem.W.mg_of X G a14, F14.kp, F14.binds (ps := ["config"]) fun _ _ _ _ _ _ us hl => match us, hl with | [_], _ => rfl⟩
  have F15 := fun_mk (st := s__law_number) l15 c15 k15
  have D15 : Def K mg "_law_number" f15 _ ["bits", "at", "size"] := ⟨PySem.W.mg_of X G a15, F15.kp, F15.binds (ps := ["bits", "at", "size"]) fun _ _ _ _ _ _ us hl => match us, hl with | [_, _, _], _ => rfl⟩
  have F16 := fun_mk (st := s__law_codes_fault) l16 c16 k16
  have D16 : Def K mg "_law_codes_fault" f16 _ ["bits", "fabric", "at"] := ⟨PySem.W.mg_of X G a16, F16.kp, F16.binds (ps := ["bits", "fabric", "at"]) fun _ _ _ _ _ _ us hl => match us, hl with | [_, _, _], _ => rfl⟩
  have F17 := fun_mk (st := s__law_pad_right) l17 c17 k17
  have D17 : Def K mg "_law_pad_right" f17 _ ["fabric", "pad"] := ⟨PySem.W.mg_of X G a17, F17.kp, F17.binds (ps := ["fabric", "pad"]) fun _ _ _ _ _ _ us hl => match us, hl with | [_, _], _ => rfl⟩
  have F18 := fun_mk (st := s__law_fault) l18 c18 k18
  have D18 : Def K mg "_law_fault" f18 _ ["bits"] := ⟨PySem.W.mg_of X G a18, F18.kp, F18.binds (ps := ["bits"]) fun _ _ _ _ _ _ us hl => match us, hl with | [_], _ => rfl⟩
  have F19 := fun_mk (st := s_sum_of) l19 c19 k19
  have D19 : Def K mg "sum_of" f19 _ ["bits"] := ⟨PySem.W.mg_of X G a19, F19.kp, F19.binds (ps := ["bits"]) fun _ _ _ _ _ _ us hl => match us, hl with | [_], _ => rfl⟩
  have F20 := fun_mk (st := s__written) l20 c20 k20
  have D20 : Def K mg "_written" f20 _ ["numbers", "widths"] := ⟨PySem.W.mg_of X G a20, F20.kp, F20.binds (ps := ["numbers", "widths"]) fun _ _ _ _ _ _ us hl => match us, hl with | [_, _], _ => rfl⟩
  have F21 := fun_mk (st := s_greatest_tap) l21 c21 k21
  have D21 : Def K mg "greatest_tap" f21 _ ["fabric"] := ⟨PySem.W.mg_of X G a21, F21.kp, F21.binds (ps := ["fabric"]) fun _ _ _ _ _ _ us hl => match us, hl with | [_], _ => rfl⟩
  have F22 := fun_mk (st := s__tap_bits) l22 c22 k22
  have D22 : Def K mg "_tap_bits" f22 _ ["fabric"] := ⟨PySem.W.mg_of X G a22, F22.kp, F22.binds (ps := ["fabric"]) fun _ _ _ _ _ _ us hl => match us, hl with | [_], _ => rfl⟩
  have F23 := fun_mk (st := s__sum_bits) l23 c23 k23
  have D23 : Def K mg "_sum_bits" f23 _ ["bits"] := ⟨PySem.W.mg_of X G a23, F23.kp, F23.binds (ps := ["bits"]) fun _ _ _ _ _ _ us hl => match us, hl with | [_], _ => rfl⟩
  have F24 := fun_mk (st := s_bits_of) l24 c24 k24
  have D24 : Def K mg "bits_of" f24 _ ["config"] := ⟨PySem.W.mg_of X G a24, F24.kp, F24.binds (ps := ["config"]) fun _ _ _ _ _ _ us hl => match us, hl with | [_], _ => rfl⟩
  have F25 := fun_mk (st := s__read) l25 c25 k25
  have D25 : Def K mg "_read" f25 _ ["bits", "at", "widths"] := ⟨PySem.W.mg_of X G a25, F25.kp, F25.binds (ps := ["bits", "at", "widths"]) fun _ _ _ _ _ _ us hl => match us, hl with | [_, _, _], _ => rfl⟩
  have F26 := fun_mk (st := s__head_of) l26 c26 k26
  have D26 : Def K mg "_head_of" f26 _ ["bits"] := ⟨PySem.W.mg_of X G a26, F26.kp, F26.binds (ps := ["bits"]) fun _ _ _ _ _ _ us hl => match us, hl with | [_], _ => rfl⟩
  have F27 := fun_mk (st := s__setting_bits) l27 c27 k27
  have D27 : Def K mg "_setting_bits" f27 _ ["fabric"] := ⟨PySem.W.mg_of X G a27, F27.kp, F27.binds (ps := ["fabric"]) fun _ _ _ _ _ _ us hl => match us, hl with | [_], _ => rfl⟩
  have F28 := fun_mk (st := s_size_of) l28 c28 k28
  have D28 : Def K mg "size_of" f28 _ ["fabric", "ins", "outs"] := ⟨PySem.W.mg_of X G a28, F28.kp, F28.binds (ps := ["fabric", "ins", "outs"]) fun _ _ _ _ _ _ us hl => match us, hl with | [_, _, _], _ => rfl⟩
  have F29 := fun_mk (st := s__codes_at) l29 c29 k29
  have D29 : Def K mg "_codes_at" f29 _ ["bits", "at", "many", "width", "greatest"] := ⟨PySem.W.mg_of X G a29, F29.kp, F29.binds (ps := ["bits", "at", "many", "width", "greatest"]) fun _ _ _ _ _ _ us hl => match us, hl with | [_, _, _, _, _], _ => rfl⟩
  have F30 := fun_mk (st := s_greatest_drive) l30 c30 k30
  have D30 : Def K mg "greatest_drive" f30 _ [] := ⟨PySem.W.mg_of X G a30, F30.kp, F30.binds (ps := []) fun _ _ _ _ _ _ us hl => match us, hl with | [], _ => rfl⟩
  have F31 := fun_mk (st := s__setting_at) l31 c31 k31
  have D31 : Def K mg "_setting_at" f31 _ ["bits", "at", "fabric"] := ⟨PySem.W.mg_of X G a31, F31.kp, F31.binds (ps := ["bits", "at", "fabric"]) fun _ _ _ _ _ _ us hl => match us, hl with | [_, _, _], _ => rfl⟩
  have F32 := fun_mk (st := s_beside) l32 c32 k32
  have D32 : Def K mg "beside" f32 _ ["fabric", "x", "y", "side"] := ⟨PySem.W.mg_of X G a32, F32.kp, F32.binds (ps := ["fabric", "x", "y", "side"]) fun _ _ _ _ _ _ us hl => match us, hl with | [_, _, _, _], _ => rfl⟩
  have F33 := fun_mk (st := s_is_border) l33 c33 k33
  have D33 : Def K mg "is_border" f33 _ ["fabric", "told"] := ⟨PySem.W.mg_of X G a33, F33.kp, F33.binds (ps := ["fabric", "told"]) fun _ _ _ _ _ _ us hl => match us, hl with | [_, _], _ => rfl⟩
  have F34 := fun_mk (st := s__ends_at) l34 c34 k34
  have D34 : Def K mg "_ends_at" f34 _ ["bits", "at", "many", "fabric"] := ⟨PySem.W.mg_of X G a34, F34.kp, F34.binds (ps := ["bits", "at", "many", "fabric"]) fun _ _ _ _ _ _ us hl => match us, hl with | [_, _, _, _], _ => rfl⟩
  have F35 := fun_mk (st := s_config_of) l35 c35 k35
  have D35 : Def K mg "config_of" f35 _ ["bits"] := ⟨PySem.W.mg_of X G a35, F35.kp, F35.binds (ps := ["bits"]) fun _ _ _ _ _ _ us hl => match us, hl with | [_], _ => rfl⟩
  have F36 := fun_mk (st := s__law_told) l36 c36 k36
  have D36 : Def K mg "_law_told" f36 _ ["bits"] := ⟨PySem.W.mg_of X G a36, F36.kp, F36.binds (ps := ["bits"]) fun _ _ _ _ _ _ us hl => match us, hl with | [_], _ => rfl⟩
  have F37 := fun_mk (st := s_law) l37 c37 k37
  refine ⟨PySem.W.fnOf "law" "law" (defArgs s_law) (defBody s_law) (defScope s_law) .none kV37 dc37 pm37 an37 cd37 ct37, fun s v => .of_eq rfl, fun base _ _ => ?_⟩
  have GX_BitsError : FnOk l.prog w K mg base CX0 1 fI_BitsError _ ["self", "at"] (spExcI K "at") := ok_XBitsError FX_BitsError T
  have G1 : FnOk l.prog w K mg base CX0 1 f1 _ ["script"] (sp__law_draws K) := ok__law_draws F1 T 
  have G2 : FnOk l.prog w K mg base CX0 1 f2 _ ["draws", "limit"] (sp__law_draw K) := ok__law_draw F2 T 
  have G3 : FnOk l.prog w K mg base CX0 2 f3 _ ["draws", "most"] (sp__law_fabric K) := ok__law_fabric F3 T G2 D2
  have G4 : FnOk l.prog w K mg base CX0 2 f4 _ ["draws", "fabric"] (sp__law_setting K) := ok__law_setting F4 T G2 D2
  have G5 : FnOk l.prog w K mg base CX0 1 f5 _ ["fabric"] (sp__law_sides K) := ok__law_sides F5 T 
  have G6 : FnOk l.prog w K mg base CX0 2 f6 _ ["draws", "fabric", "many"] (sp__law_pads K) := ok__law_pads F6 T G5 D5 G2 D2
  have G7 : FnOk l.prog w K mg base CX0 3 f7 _ ["draws", "most"] (sp__law_config K) := ok__law_config F7 T G3 D3 G4 D4 G6 D6 G2 D2
  have G8 : FnOk l.prog w K mg base CX0 1 f8 _ ["bits", "at"] (sp__law_turned K) := ok__law_turned F8 T 
  have G9 : FnOk l.prog w K mg base CX0 2 f9 _ ["draws", "bits", "kind"] (sp__law_flipped K) := ok__law_flipped F9 T G2 D2 G8 D8
  have G10 : FnOk l.prog w K mg base CX0 1 f10 _ ["bits"] (sp__law_sum K) := ok__law_sum F10 T 
  have G11 : FnOk l.prog w K mg base CX0 3 f11 _ ["draws", "config", "bits"] (sp__law_spoilt K) := ok__law_spoilt F11 T G2 D2 G9 D9 G8 D8 G10 D10
  have G12 : FnOk l.prog w K mg base CX0 1 f12 _ ["number", "size"] (sp__law_written K) := ok__law_written F12 T 
  have G13 : FnOk l.prog w K mg base CX0 1 f13 _ ["fabric"] (sp__law_tap K) := ok__law_tap F13 T 
  have G14 : FnOk l.prog w K mg base CX0 2 f14 _ ["config"] (sp__law_bits K) := ok__law_bits F14 T G12 D12 G13 D13 G10 D10
  have G15 : FnOk l.prog w K mg base CX0 1 f15 _ ["bits", "at", "size"] (sp__law_number K) := ok__law_number F15 T 
  have G16 : FnOk l.prog w K mg base CX0 2 f16 _ ["bits", "fabric", "at"] (sp__law_codes_fault K) := ok__law_codes_fault F16 T G13 D13 G15 D15
  have G17 : FnOk l.prog w K mg base CX0 2 f17 _ ["fabric", "pad"] (sp__law_pad_right K) := ok__law_pad_right F17 T G5 D5
  have G18 : FnOk l.prog w K mg base CX0 3 f18 _ ["bits"] (sp__law_fault K) := ok__law_fault F18 T G15 D15 G13 D13 G10 D10 G16 D16 G17 D17
  have G19 : FnOk l.prog w K mg base CX0 1 f19 _ ["bits"] (sp_sum_of K) := ok_sum_of F19 T 
  have G20 : FnOk l.prog w K mg base CX0 1 f20 _ ["numbers", "widths"] (sp__written K) := ok__written F20 T 
  have G21 : FnOk l.prog w K mg base CX0 1 f21 _ ["fabric"] (sp_greatest_tap K) := ok_greatest_tap F21 T 
  have G22 : FnOk l.prog w K mg base CX0 2 f22 _ ["fabric"] (sp__tap_bits K) := ok__tap_bits F22 T G21 D21
  have G23 : FnOk l.prog w K mg base CX0 2 f23 _ ["bits"] (sp__sum_bits K) := ok__sum_bits F23 T G19 D19
  have G24 : FnOk l.prog w K mg base CX0 3 f24 _ ["config"] (sp_bits_of K) := ok_bits_of F24 T G20 D20 G22 D22 G23 D23
  have G25 : FnOk l.prog w K mg base CX0 1 f25 _ ["bits", "at", "widths"] (sp__read K) := ok__read F25 T 
  have G26 : FnOk l.prog w K mg base (L2N.CX l.prog w) 3 f26 _ ["bits"] (sp__head_of K C_BitsError) := ok__head_of F26 T G25 D25 GX_BitsError GX_BitsError
  have G27 : FnOk l.prog w K mg base CX0 3 f27 _ ["fabric"] (sp__setting_bits K) := ok__setting_bits F27 T G22 D22
  have G28 : FnOk l.prog w K mg base CX0 4 f28 _ ["fabric", "ins", "outs"] (sp_size_of K) := ok_size_of F28 T G27 D27
  have G29 : FnOk l.prog w K mg base (L2N.CX l.prog w) 3 f29 _ ["bits", "at", "many", "width", "greatest"] (sp__codes_at K C_BitsError) := ok__codes_at F29 T G25 D25 GX_BitsError
  have G30 : FnOk l.prog w K mg base CX0 1 f30 _ [] (sp_greatest_drive K) := ok_greatest_drive F30 T 
  have G31 : FnOk l.prog w K mg base (L2N.CX l.prog w) 4 f31 _ ["bits", "at", "fabric"] (sp__setting_at K C_BitsError) := ok__setting_at F31 T G25 D25 G22 D22 G29 D29 G21 D21 G30 D30
  have G32 : FnOk l.prog w K mg base CX0 1 f32 _ ["fabric", "x", "y", "side"] (sp_beside K) := ok_beside F32 T 
  have G33 : FnOk l.prog w K mg base CX0 2 f33 _ ["fabric", "told"] (sp_is_border K) := ok_is_border F33 T G32 D32
  have G34 : FnOk l.prog w K mg base (L2N.CX l.prog w) 4 f34 _ ["bits", "at", "many", "fabric"] (sp__ends_at K C_BitsError) := ok__ends_at F34 T G25 D25 G33 D33 GX_BitsError
  have G35 : FnOk l.prog w K mg base (L2N.CX l.prog w) 6 f35 _ ["bits"] (sp_config_of K C_BitsError) := ok_config_of F35 T G26 D26 G28 D28 G23 D23 G31 D31 G27 D27 G34 D34 GX_BitsError GX_BitsError
  have G36 : FnOk l.prog w K mg base CX0 7 f36 _ ["bits"] (sp__law_told K) := ok__law_told F36 T G24 D24 G35 D35
  exact ok_law F37 T G1 D1 G7 D7 G11 D11 G14 D14 G18 D18 G15 D15 G19 D19 G36 D36
end K57
open PySem PySem.W PyProof.Rows
set_option maxHeartbeats 0 in
theorem PySem.Challenge.cw_cellcloth_k57_spoilt_bits_holds : PySem.Challenge.rw_cellcloth_k57_spoilt_bits.Holds := by
  w_on; o_law; k_head; (case hw => w_witness2)
  k_fill
  refine L2.walk_of (l := PySem.Challenge.rw_cellcloth_k57_spoilt_bits) (n := 63) (k := 8) (x := "script") (CX := fun _ => L2.CX0) (sp := fun w => K57.sp_law _) rfl (by decide) rfl ⟨rfl, by decide, by decide⟩ (fun w h Y => PySem.W.kIn_of Y) ?F (fun _ _ a ns hl _ hS => ⟨a, ns, rfl, hS, hl, fun _ => rfl⟩) (fun _ _ _ _ _ h => h)
  case F =>
    intro w mg fa h KX G hmg
    refine' K57.all_mk KX G hmg ?aB_ ?gB_ ?rB_ ?vB_ ?qB_ ?yB_ ?m_BitsError ?o_BitsError ?v_BitsError ?i_BitsError ?l_BitsError ?c_BitsError ?k_BitsError ?t_BitsError ?s_BitsError ?e_BitsError ?y_BitsError ?p_BitsError ?n_BitsError ?u_BitsError ?w_BitsError ?d_BitsError ?q_BitsError ?xx_BitsError ?sb_BitsError ?sv_BitsError ?ca_BitsError ?ch_BitsError ?po_FitError ?qo_FitError ?yo_FitError ?so_FitError_BitsError ?no_FitError_BitsError ?po_TextError ?qo_TextError ?yo_TextError ?so_TextError_BitsError ?no_TextError_BitsError ?cn_ ?ct_ ?aI_MOST_PLACES ?aI_MOST_TRACKS ?aI_MOST_PINS ?aI_MOST_ENDS ?aI_HEAD_BITS ?aI_END_BITS ?aI_SUM_BITS ?aI_DRIVE_BITS ?oT_HEAD ?oT_END ?oT_STEPS_0 ?oT_STEPS_1 ?oT_STEPS_2 ?oT_STEPS_3 ?oT_STEPS ?aT_HEAD ?aT_END ?aT_STEPS ?a1 ?l1 ?c1 ?k1 ?a2 ?l2 ?c2 ?k2 ?a3 ?l3 ?c3 ?k3 ?a4 ?l4 ?c4 ?k4 ?a5 ?l5 ?c5 ?k5 ?a6 ?l6 ?c6 ?k6 ?a7 ?l7 ?c7 ?k7 ?a8 ?l8 ?c8 ?k8 ?a9 ?l9 ?c9 ?k9 ?a10 ?l10 ?c10 ?k10 ?a11 ?l11 ?c11 ?k11 ?a12 ?l12 ?c12 ?k12 ?a13 ?l13 ?c13 ?k13 ?a14 ?l14 ?c14 ?k14 ?a15 ?l15 ?c15 ?k15 ?a16 ?l16 ?c16 ?k16 ?a17 ?l17 ?c17 ?k17 ?a18 ?l18 ?c18 ?k18 ?a19 ?l19 ?c19 ?k19 ?a20 ?l20 ?c20 ?k20 ?a21 ?l21 ?c21 ?k21 ?a22 ?l22 ?c22 ?k22 ?a23 ?l23 ?c23 ?k23 ?a24 ?l24 ?c24 ?k24 ?a25 ?l25 ?c25 ?k25 ?a26 ?l26 ?c26 ?k26 ?a27 ?l27 ?c27 ?k27 ?a28 ?l28 ?c28 ?k28 ?a29 ?l29 ?c29 ?k29 ?a30 ?l30 ?c30 ?k30 ?a31 ?l31 ?c31 ?k31 ?a32 ?l32 ?c32 ?k32 ?a33 ?l33 ?c33 ?k33 ?a34 ?l34 ?c34 ?k34 ?a35 ?l35 ?c35 ?k35 ?a36 ?l36 ?c36 ?k36 ?a37 ?l37 ?c37 ?k37 ?z_bool ?z_enumerate ?z_int ?z_isinstance ?z_len ?z_list ?z_min ?z_range ?z_reversed ?z_sum ?z_tuple ?z_zip
    (case aT_HEAD => k_is)
    (case aT_END => k_is)
    (case aT_STEPS => k_is)
    (case oT_HEAD => k_is)
    (case oT_END => k_is)
    (case oT_STEPS => k_is)
    (case oT_STEPS_0 => k_is)
    (case oT_STEPS_1 => k_is)
    (case oT_STEPS_2 => k_is)
    (case oT_STEPS_3 => k_is)
    (case aB_ => k_is)
    (case gB_ => k_is)
    (case rB_ => k_is)
    (case vB_ => k_is)
    (case qB_ => k_is)
    (case yB_ => k_is)
    (case m_BitsError => k_is)
    (case o_BitsError => k_is)
    (case v_BitsError => exact rfl)
    (case i_BitsError => k_is)
    (case l_BitsError => k_is)
    (case c_BitsError => k_is)
    (case k_BitsError => k_is)
    (case t_BitsError => k_is)
    (case s_BitsError => k_is)
    (case e_BitsError => k_is)
    (case y_BitsError => k_is)
    (case p_BitsError => k_is)
    (case n_BitsError => k_is)
    (case u_BitsError => k_is)
    (case w_BitsError => k_is)
    (case d_BitsError => k_is)
    (case q_BitsError => k_is)
    (case xx_BitsError => k_is)
    (case sb_BitsError => k_is)
    (case sv_BitsError => k_is)
    (case ca_BitsError => k_is)
    (case ch_BitsError => k_is)
    (case po_FitError => k_is)
    (case qo_FitError => k_is)
    (case yo_FitError => k_is)
    (case so_FitError_BitsError => k_is)
    (case no_FitError_BitsError => exact rfl)
    (case po_TextError => k_is)
    (case qo_TextError => k_is)
    (case yo_TextError => k_is)
    (case so_TextError_BitsError => k_is)
    (case no_TextError_BitsError => exact rfl)
    (case cn_ => k_is)
    (case ct_ => k_is)
    (case aI_MOST_PLACES => k_is)
    (case aI_MOST_TRACKS => k_is)
    (case aI_MOST_PINS => k_is)
    (case aI_MOST_ENDS => k_is)
    (case aI_HEAD_BITS => k_is)
    (case aI_END_BITS => k_is)
    (case aI_SUM_BITS => k_is)
    (case aI_DRIVE_BITS => k_is)
    (case a1 => k_is)
    (case l1 => k_is)
    (case c1 => k_is)
    (case k1 => k_is)
    (case a2 => k_is)
    (case l2 => k_is)
    (case c2 => k_is)
    (case k2 => k_is)
    (case a3 => k_is)
    (case l3 => k_is)
    (case c3 => k_is)
    (case k3 => k_is)
    (case a4 => k_is)
    (case l4 => k_is)
    (case c4 => k_is)
    (case k4 => k_is)
    (case a5 => k_is)
    (case l5 => k_is)
    (case c5 => k_is)
    (case k5 => k_is)
    (case a6 => k_is)
    (case l6 => k_is)
    (case c6 => k_is)
    (case k6 => k_is)
    (case a7 => k_is)
    (case l7 => k_is)
    (case c7 => k_is)
    (case k7 => k_is)
    (case a8 => k_is)
    (case l8 => k_is)
    (case c8 => k_is)
    (case k8 => k_is)
    (case a9 => k_is)
    (case l9 => k_is)
    (case c9 => k_is)
    (case k9 => k_is)
    (case a10 => k_is)
    (case l10 => k_is)
    (case c10 => k_is)
    (case k10 => k_is)
    (case a11 => k_is)
    (case l11 => k_is)
    (case c11 => k_is)
    (case k11 => k_is)
    (case a12 => k_is)
    (case l12 => k_is)
    (case c12 => k_is)
    (case k12 => k_is)
    (case a13 => k_is)
    (case l13 => k_is)
    (case c13 => k_is)
    (case k13 => k_is)
    (case a14 => k_is)
    (case l14 => k_is)
    (case c14 => k_is)
    (case k14 => k_is)
    (case a15 => k_is)
    (case l15 => k_is)
    (case c15 => k_is)
    (case k15 => k_is)
    (case a16 => k_is)
    (case l16 => k_is)
    (case c16 => k_is)
    (case k16 => k_is)
    (case a17 => k_is)
    (case l17 => k_is)
    (case c17 => k_is)
    (case k17 => k_is)
    (case a18 => k_is)
    (case l18 => k_is)
    (case c18 => k_is)
    (case k18 => k_is)
    (case a19 => k_is)
    (case l19 => k_is)
    (case c19 => k_is)
    (case k19 => k_is)
    (case a20 => k_is)
    (case l20 => k_is)
    (case c20 => k_is)
    (case k20 => k_is)
    (case a21 => k_is)
    (case l21 => k_is)
    (case c21 => k_is)
    (case k21 => k_is)
    (case a22 => k_is)
    (case l22 => k_is)
    (case c22 => k_is)
    (case k22 => k_is)
    (case a23 => k_is)
    (case l23 => k_is)
    (case c23 => k_is)
    (case k23 => k_is)
    (case a24 => k_is)
    (case l24 => k_is)
    (case c24 => k_is)
    (case k24 => k_is)
    (case a25 => k_is)
    (case l25 => k_is)
    (case c25 => k_is)
    (case k25 => k_is)
    (case a26 => k_is)
    (case l26 => k_is)
    (case c26 => k_is)
    (case k26 => k_is)
    (case a27 => k_is)
    (case l27 => k_is)
    (case c27 => k_is)
    (case k27 => k_is)
    (case a28 => k_is)
    (case l28 => k_is)
    (case c28 => k_is)
    (case k28 => k_is)
    (case a29 => k_is)
    (case l29 => k_is)
    (case c29 => k_is)
    (case k29 => k_is)
    (case a30 => k_is)
    (case l30 => k_is)
    (case c30 => k_is)
    (case k30 => k_is)
    (case a31 => k_is)
    (case l31 => k_is)
    (case c31 => k_is)
    (case k31 => k_is)
    (case a32 => k_is)
    (case l32 => k_is)
    (case c32 => k_is)
    (case k32 => k_is)
    (case a33 => k_is)
    (case l33 => k_is)
    (case c33 => k_is)
    (case k33 => k_is)
    (case a34 => k_is)
    (case l34 => k_is)
    (case c34 => k_is)
    (case k34 => k_is)
    (case a35 => k_is)
    (case l35 => k_is)
    (case c35 => k_is)
    (case k35 => k_is)
    (case a36 => k_is)
    (case l36 => k_is)
    (case c36 => k_is)
    (case k36 => k_is)
    (case a37 => k_is)
    (case l37 => k_is)
    (case c37 => k_is)
    (case k37 => k_is)
    (case z_bool => k_is)
    (case z_enumerate => k_is)
    (case z_int => k_is)
    (case z_isinstance => k_is)
    (case z_len => k_is)
    (case z_list => k_is)
    (case z_min => k_is)
    (case z_range => k_is)
    (case z_reversed => k_is)
    (case z_sum => k_is)
    (case z_tuple => k_is)
    (case z_zip => k_is)
