import PyProof.Rows.All
import Wide.All
import OpenK.AllK
import Wide.FinOn
import HandS.ForExc
import HandS.ForMost
import HandS.More
import HandS.Conv
import HandS.SortInts
import HandS.SortRule
import HandS.IsInst
import HandS.ExcCtx
import HandS.SetFor
import HandS.MakeKwOnly
import HandS.Style
import HandS.TryOnly
import HandS.Deep
import KE.DatumOrd
import HandS.Iter
import HandS.Defaults
import HandS.Text
import HandS.StrMore
import HandS.Strs
import HandS.FStr
import HandS.FStrTup
import PyProof.ReprNest
import PyProof.ReprUnder
import HandS.Nested
import HandS.ExcInit
import KE.KExcSuper
import KE.KSuper
import HandS.ExcField
import HandS.ExcIs
import KE.KExcIs
import HandS.Hot
import HandS.HotCalls
import HandS.Comp
import PyProof.StrOps2
import HandS.Wide
import PySem.Challenge.RW_movedays_k55_texts_of_no_tale
import KE.DataFind
set_option Elab.async false
set_option linter.all false
set_option maxRecDepth 100000
/-! A layer over the hand layer: values as data (Dt), frozen objects hidden (F), mutable ones by address (G). -/
namespace DL
open PySem PySem.Spec L2

/-- data: what a value is, with all that is frozen below it -/
inductive Dt where
  | non | bl (b : Bool) | int (i : Int) | str (s : Str)
  | lst (xs : List Dt) | tup (xs : List Dt)
  | obj (C : Addr) (ns : List Str) (xs : List Dt)
  | ref (a : Addr)
  /-- the law's own script -/
  | scr (ns : List Int)
  /-- a built-in class -/
  | ty (n : String)
  /-- a table that is filled when asked: row i is rows[i] -/
  | memo (rows : List (List Nat))
  /-- a dict of numbers by numbers that stays as it is -/
  | dk (l : List (Nat × Nat))
  /-- a caught exception: its class, its field what -/
  | exc (C : Addr) (w : Dt)

/-- at a: an exception of the class at C, its dict at d -/
def exg (a C d : Addr) : HO := .ext fun h => ∃ (o : Obj) (vs : Array Value), h.get? a = some o ∧ o.cls = .ref C ∧ o.dict = some d ∧ o.data = .fields vs ∧ vs[2]? = some .none
def kvV (l : List (Nat × Nat)) : List (Key × V) := l.map fun p => (.inl (p.1 : Int), .int (p.2 : Int))
/-- what stands for a table in the frozen heap; no list, tuple or instance -/
def memoR (rows : List (List Nat)) : List (List Key × V) := rows.map fun row => (row.map fun (n : Nat) => (.inl (n : Int) : Key), V.non)
def notM : HO → Bool
  | .dT _ => false
  | _ => true

mutual
/-- the value v is the data d, over the frozen heap F -/
inductive Is (K : PySem.W.Frag) (F : Hp) : V → Dt → Prop
  | non : Is K F .non .non
  | bl (b : Bool) : Is K F (.bl b) (.bl b)
  | int (i : Int) : Is K F (.int i) (.int i)
  | str (x : Str) : Is K F (.str x) (.str x)
  | ref (a : Addr) : Is K F (.ref a) (.ref a)
  | ty (n : String) : Is K F (.ty n) (.ty n)
  | scr {a : Addr} {ns : List Int} : SqL K F a (ns.map V.int) → Is K F (.ref a) (.scr ns)
  | lst {a : Addr} {vs : List V} {ds : List Dt} : F a = some (.lst vs) → IsL K F vs ds → Is K F (.ref a) (.lst ds)
  | tup {a : Addr} {vs : List V} {ds : List Dt} : F a = some (.tup vs) → IsL K F vs ds → Is K F (.ref a) (.tup ds)
  | memo {a : Addr} {rows : List (List Nat)} : F a = some (.dT (memoR rows)) → Is K F (.ref a) (.memo rows)
  | dk {a : Addr} {l : List (Nat × Nat)} : F a = some (.dK (kvV l)) → Is K F (.ref a) (.dk l)
  | exc {a C d : Addr} {v : V} {w : Dt} : F a = some (exg a C d) → F d = some (.xd [("what", v)]) → Is K F v w → Is K F (.ref a) (.exc C w)
  | obj {a C dx : Addr} {fs : List (Str × V)} {ns : List Str} {ds : List Dt} : F a = some (.ins C dx fs) → fs.map (·.1) = ns → IsL K F (fs.map (·.2)) ds → Is K F (.ref a) (.obj C ns ds)
inductive IsL (K : PySem.W.Frag) (F : Hp) : List V → List Dt → Prop
  | nil : IsL K F [] []
  | cons {v : V} {vs : List V} {d : Dt} {ds : List Dt} : Is K F v d → IsL K F vs ds → IsL K F (v :: vs) (d :: ds)
end

def Le (F F' : Hp) : Prop := ∀ a o, F a = some o → F' a = some o
theorem Le.refl (F : Hp) : Le F F := fun _ _ e => e
theorem Le.trans {F F' F'' : Hp} (h : Le F F') (h' : Le F' F'') : Le F F'' := fun a o e => h' a o (h a o e)
theorem Le.upd {F : Hp} {p : Addr} {o : HO} (h : F p = none) : Le F (upd F p o) := fun a u e => by
  rw [upd_ne (ne_of_none e h)]; exact e

section
variable {K : PySem.W.Frag} {F F' : Hp}
theorem Rd.le (h : Le F F') {a : Addr} {u : HO} (r : Rd F a u) : Rd F' a u := r.elim (fun e => .inl (h _ _ e)) fun ⟨o, e⟩ => .inr ⟨o, h _ _ e⟩
theorem SqL.le (h : Le F F') {a : Addr} {xs : List V} (r : SqL K F a xs) : SqL K F' a xs := r.elim (fun e => .inl (Rd.le h e)) .inr
theorem SqT.le (h : Le F F') {a : Addr} {xs : List V} (r : SqT K F a xs) : SqT K F' a xs := r.elim (fun e => .inl (Rd.le h e)) .inr
mutual
theorem Is.le (h : Le F F') : ∀ {v : V} {d : Dt}, Is K F v d → Is K F' v d
  | _, _, .non => .non
  | _, _, .bl b => .bl b
  | _, _, .int i => .int i
  | _, _, .str x => .str x
  | _, _, .ref a => .ref a
  | _, _, .ty n => .ty n
  | _, _, .scr s => .scr (SqL.le h s)
  | _, _, .lst s r => .lst (h _ _ s) (IsL.le h r)
  | _, _, .tup s r => .tup (h _ _ s) (IsL.le h r)
  | _, _, .memo e => .memo (h _ _ e)
  | _, _, .dk e => .dk (h _ _ e)
  | _, _, .exc e1 e2 r => .exc (h _ _ e1) (h _ _ e2) (Is.le h r)
  | _, _, .obj e n r => .obj (h _ _ e) n (IsL.le h r)
theorem IsL.le (h : Le F F') : ∀ {vs : List V} {ds : List Dt}, IsL K F vs ds → IsL K F' vs ds
  | _, _, .nil => .nil
  | _, _, .cons r s => .cons (Is.le h r) (IsL.le h s)
end
theorem IsL.length : ∀ {vs : List V} {ds : List Dt}, IsL K F vs ds → vs.length = ds.length
  | _, _, .nil => rfl
  | _, _, .cons _ s => by simp [IsL.length s]
theorem IsL.get : ∀ {vs : List V} {ds : List Dt} {i : Nat} {d : Dt}, IsL K F vs ds → ds[i]? = some d → ∃ v, vs[i]? = some v ∧ Is K F v d
  | _, _, _, _, .nil, e => by simp at e
  | _, _, 0, _, .cons r _, e => by simp at e; subst e; exact ⟨_, rfl, r⟩
  | _, _, i + 1, _, .cons _ s, e => by
    obtain ⟨v, h1, h2⟩ := IsL.get s (i := i) (by simpa using e)
    exact ⟨v, by simpa using h1, h2⟩
theorem IsL.getV : ∀ {vs : List V} {ds : List Dt} {i : Nat} {v : V}, IsL K F vs ds → vs[i]? = some v → ∃ d, ds[i]? = some d ∧ Is K F v d
  | _, _, _, _, .nil, e => by simp at e
  | _, _, 0, _, .cons r _, e => by simp at e; subst e; exact ⟨_, rfl, r⟩
  | _, _, i + 1, _, .cons _ s, e => by
    obtain ⟨v, h1, h2⟩ := IsL.getV s (i := i) (by simpa using e)
    exact ⟨v, by simpa using h1, h2⟩
theorem IsL.append : ∀ {vs ws : List V} {ds es : List Dt}, IsL K F vs ds → IsL K F ws es → IsL K F (vs ++ ws) (ds ++ es)
  | _, _, _, _, .nil, s => s
  | _, _, _, _, .cons r t, s => .cons r (IsL.append t s)
theorem IsL.one {v : V} {d : Dt} (h : Is K F v d) : IsL K F [v] [d] := .cons h .nil
theorem IsL.set {v : V} {d : Dt} (h : Is K F v d) : ∀ {vs : List V} {ds : List Dt} (i : Nat), IsL K F vs ds → IsL K F (vs.set i v) (ds.set i d)
  | _, _, _, .nil => .nil
  | _, _, 0, .cons _ t => .cons h t
  | _, _, i + 1, .cons r t => .cons r (IsL.set h i t)
theorem IsL.take : ∀ {vs : List V} {ds : List Dt} (n : Nat), IsL K F vs ds → IsL K F (vs.take n) (ds.take n)
  | _, _, 0, _ => .nil
  | _, _, _ + 1, .nil => .nil
  | _, _, n + 1, .cons r t => .cons r (IsL.take n t)
theorem IsL.drop : ∀ {vs : List V} {ds : List Dt} (n : Nat), IsL K F vs ds → IsL K F (vs.drop n) (ds.drop n)
  | _, _, 0, r => r
  | _, _, _ + 1, .nil => .nil
  | _, _, n + 1, .cons _ t => IsL.drop n t
theorem IsL.eraseIdx : ∀ {vs : List V} {ds : List Dt} (n : Nat), IsL K F vs ds → IsL K F (vs.eraseIdx n) (ds.eraseIdx n)
  | _, _, _, .nil => .nil
  | _, _, 0, .cons _ t => t
  | _, _, n + 1, .cons r t => .cons r (IsL.eraseIdx n t)
theorem IsL.reverse : ∀ {vs : List V} {ds : List Dt}, IsL K F vs ds → IsL K F vs.reverse ds.reverse
  | _, _, .nil => .nil
  | _, _, .cons r t => by rw [List.reverse_cons, List.reverse_cons]; exact IsL.append (IsL.reverse t) (.one r)
theorem IsL.dropLast : ∀ {vs : List V} {ds : List Dt}, IsL K F vs ds → IsL K F vs.dropLast ds.dropLast := fun {vs ds} h => by
  rw [List.dropLast_eq_take, List.dropLast_eq_take, h.length]; exact h.take _
theorem IsL.replicate {v : V} {d : Dt} (h : Is K F v d) : ∀ n : Nat, IsL K F (List.replicate n v) (List.replicate n d)
  | 0 => .nil
  | n + 1 => .cons h (IsL.replicate h n)
theorem IsL.ints : ∀ ns : List Int, IsL K F (ns.map V.int) (ns.map Dt.int)
  | [] => .nil
  | n :: ns => .cons (.int n) (IsL.ints ns)
theorem IsL.bls : ∀ ns : List Bool, IsL K F (ns.map V.bl) (ns.map Dt.bl)
  | [] => .nil
  | n :: ns => .cons (.bl n) (IsL.bls ns)
theorem IsL.ints_inv : ∀ {vs : List V} {ns : List Int}, IsL K F vs (ns.map Dt.int) → vs = ns.map V.int
  | [], [], _ => rfl
  | _, n :: ns, h => by
    cases h with
    | cons r t => cases r; rw [IsL.ints_inv t]; rfl
theorem IsL.bls_inv : ∀ {vs : List V} {ns : List Bool}, IsL K F vs (ns.map Dt.bl) → vs = ns.map V.bl
  | [], [], _ => rfl
  | _, n :: ns, h => by
    cases h with
    | cons r t => cases r; rw [IsL.bls_inv t]; rfl
end

/-- a mutable object -/
inductive MO where
  | lst (xs : List Dt)
  | ins (C : Addr) (ns : List Str) (xs : List Dt)
  | dK (kvs : List (Key × Dt))
  /-- just this -/
  | raw (o : HO)
abbrev Gp := Addr → Option MO
def gupd (G : Gp) (a : Addr) (m : MO) : Gp := fun b => if b = a then some m else G b
def gdel (G : Gp) (a : Addr) : Gp := fun b => if b = a then none else G b
theorem gupd_same {G : Gp} {a : Addr} {m : MO} : gupd G a m a = some m := by unfold gupd; rw [if_pos rfl]
theorem gupd_ne {G : Gp} {a b : Addr} {m : MO} (h : b ≠ a) : gupd G a m b = G b := by unfold gupd; rw [if_neg h]
theorem gupd_gupd {G : Gp} {a : Addr} {m n : MO} : gupd (gupd G a m) a n = gupd G a n := by funext b; unfold gupd; split <;> rfl
theorem gdel_ne {G : Gp} {a b : Addr} (h : b ≠ a) : gdel G a b = G b := by unfold gdel; rw [if_neg h]
theorem gdel_same {G : Gp} {a : Addr} : gdel G a a = none := by unfold gdel; rw [if_pos rfl]
theorem gdel_gupd {G : Gp} {a : Addr} {m : MO} (h : G a = none) : gdel (gupd G a m) a = G := by
  funext b; unfold gdel gupd
  by_cases e : b = a
  · rw [if_pos e, e, h]
  · rw [if_neg e, if_neg e]
theorem gne {G : Gp} {a b : Addr} {m : MO} (h : G a = some m) (h' : G b = none) : a ≠ b := by
  intro e; subst e; rw [h] at h'; cases h'

inductive IsK (K : PySem.W.Frag) (F : Hp) : List (Key × V) → List (Key × Dt) → Prop
  | nil : IsK K F [] []
  | cons {k : Key} {v : V} {d : Dt} {r : List (Key × V)} {s : List (Key × Dt)} : Is K F v d → IsK K F r s → IsK K F ((k, v) :: r) ((k, d) :: s)
theorem IsK.le {K : PySem.W.Frag} {F F' : Hp} (h : Le F F') : ∀ {r : List (Key × V)} {s : List (Key × Dt)}, IsK K F r s → IsK K F' r s
  | _, _, .nil => .nil
  | _, _, .cons a b => .cons (Is.le h a) (IsK.le h b)

def MRep (K : PySem.W.Frag) (F : Hp) : HO → MO → Prop
  | .lst vs, .lst ds => IsL K F vs ds
  | .ins C _ fs, .ins C' ns xs => C = C' ∧ fs.map (·.1) = ns ∧ IsL K F (fs.map (·.2)) xs
  | .dK r, .dK s => IsK K F r s
  | o, .raw u => o = u
  | _, _ => False
theorem MRep.le {K : PySem.W.Frag} {F F' : Hp} (h : Le F F') : ∀ {o : HO} {m : MO}, MRep K F o m → MRep K F' o m := fun {o m} r => by
  cases o <;> cases m <;> first
    | exact r.elim
    | exact IsL.le h r
    | exact ⟨r.1, r.2.1, IsL.le h r.2.2⟩
    | exact IsK.le h r
    | exact r

/-- the dict s holds some of the table's rows -/
def MemoOk (F : Hp) (r : List (List Key × V)) (s : List (Key × V)) : Prop := (s.map (·.1)).Nodup ∧ ∀ k v, (k, v) ∈ s → ∃ (i : Nat) (row : List Key × V) (b : Addr), k = .inl (i : Int) ∧ r[i]? = some row ∧ v = .ref b ∧ F b = some (.lst (row.1.map kV))
theorem MemoOk.le {F F' : Hp} {r : List (List Key × V)} {s : List (Key × V)} (h : MemoOk F r s) (l : Le F F') : MemoOk F' r s :=
  ⟨h.1, fun k v m => let ⟨i, row, b, e1, e2, e3, e4⟩ := h.2 k v m; ⟨i, row, b, e1, e2, e3, l _ _ e4⟩⟩
theorem MemoOk.nil {F : Hp} {r : List (List Key × V)} : MemoOk F r [] := ⟨List.nodup_nil, fun _ _ m => (nomatch m)⟩
/-- no table -/
def notMO : MO → Bool
  | .raw o => notM o
  | _ => true
theorem MRep.notM {K : PySem.W.Frag} {F : Hp} {o : HO} {m : MO} (r : MRep K F o m) (hm : notMO m = true) : notM o = true := by
  cases o <;> first
    | rfl
    | (cases m <;> first
        | exact r.elim
        | (cases r; exact hm))
structure Good (K : PySem.W.Frag) (B F : Hp) (G : Gp) (H : Hp) : Prop where
  bs : Le B F
  fz0 : ∀ a o, F a = some o → notM o = true → H a = some o
  mm : ∀ a r, F a = some (.dT r) → ∃ s, H a = some (.dK s) ∧ MemoOk F r s
  mu : ∀ a m, G a = some m → F a = none ∧ ∃ o, H a = some o ∧ MRep K F o m

section
variable {K : PySem.W.Frag} {B F F' : Hp} {G : Gp} {H : Hp} {p : Addr}
theorem Good.fz (g : Good K B F G H) (a : Addr) (o : HO) (e : F a = some o) (h : notM o = true := by rfl) : H a = some o := g.fz0 a o e h
theorem Good.fnone (g : Good K B F G H) (h : H p = none) : F p = none := by
  cases e : F p with
  | none => rfl
  | some o =>
    cases q : notM o with
    | true => rw [g.fz0 _ _ e q] at h; cases h
    | false =>
      cases o with
      | dT r => obtain ⟨s, e', _⟩ := g.mm _ _ e; rw [h] at e'; cases e'
      | _ => cases q
theorem Good.gnone (g : Good K B F G H) (h : H p = none) : G p = none := by
  cases e : G p with
  | none => rfl
  | some m =>
    obtain ⟨_, o, e', _⟩ := g.mu _ _ e
    rw [h] at e'; cases e'
theorem Good.gnoneF {o : HO} (g : Good K B F G H) (h : F p = some o) : G p = none := by
  cases e : G p with
  | none => rfl
  | some m =>
    obtain ⟨e', _⟩ := g.mu _ _ e
    rw [h] at e'; cases e'
theorem Good.sql (g : Good K B F G H) {xs : List V} (h : SqL K F p xs) : SqL K H p xs := h.elim (fun e => .inl (e.elim (fun e => .inl (g.fz _ _ e)) fun ⟨o, e⟩ => .inr ⟨o, g.fz _ _ e⟩)) .inr
/-- a new frozen object -/
theorem Good.newF (g : Good K B F G H) (h : H p = none) (o : HO) (ho : notM o = true := by rfl) : Le F (upd F p o) ∧ Good K B (upd F p o) G (upd H p o) := by
  have l : Le F (upd F p o) := Le.upd (g.fnone h)
  refine ⟨l, g.bs.trans l, fun a u e z => ?_, fun a r e => ?_, fun a m e => ?_⟩
  · by_cases q : a = p
    · subst q; rw [upd_same] at e ⊢; exact e
    · rw [upd_ne q] at e ⊢; exact g.fz0 _ _ e z
  · have q : a ≠ p := fun q => by
      subst q; rw [upd_same] at e; cases e; cases ho
    rw [upd_ne q] at e ⊢
    obtain ⟨s, e1, e2⟩ := g.mm _ _ e
    exact ⟨s, e1, e2.le l⟩
  · have q : a ≠ p := gne e (g.gnone h)
    obtain ⟨e1, o1, e2, r⟩ := g.mu _ _ e
    exact ⟨by rw [upd_ne q]; exact e1, o1, by rw [upd_ne q]; exact e2, r.le l⟩
/-- a new dict, taken for a table that is empty as yet -/
theorem Good.newT (g : Good K B F G H) (h : H p = none) (r : List (List Key × V)) : Le F (upd F p (.dT r)) ∧ Good K B (upd F p (.dT r)) G (upd H p (.dK [])) := by
  have l : Le F (upd F p (.dT r)) := Le.upd (g.fnone h)
  refine ⟨l, g.bs.trans l, fun a u e z => ?_, fun a r' e => ?_, fun a m e => ?_⟩
  · by_cases q : a = p
    · subst q; rw [upd_same] at e; cases e; cases z
    · rw [upd_ne q] at e ⊢; exact g.fz0 _ _ e z
  · by_cases q : a = p
    · subst q; exact ⟨[], upd_same, .nil⟩
    · rw [upd_ne q] at e ⊢
      obtain ⟨s, e1, e2⟩ := g.mm _ _ e
      exact ⟨s, e1, e2.le l⟩
  · have q : a ≠ p := gne e (g.gnone h)
    obtain ⟨e1, o1, e2, r⟩ := g.mu _ _ e
    exact ⟨by rw [upd_ne q]; exact e1, o1, by rw [upd_ne q]; exact e2, r.le l⟩
/-- a table gets a row -/
theorem Good.fillT (g : Good K B F G H) {r : List (List Key × V)} (h : F p = some (.dT r)) {s : List (Key × V)} (hs : MemoOk F r s) : Good K B F G (upd H p (.dK s)) := by
  refine ⟨g.bs, fun a u e z => ?_, fun a r' e => ?_, fun a m e => ?_⟩
  · have q : a ≠ p := fun q => by subst q; rw [h] at e; cases e; cases z
    rw [upd_ne q]; exact g.fz0 _ _ e z
  · by_cases q : a = p
    · subst q; rw [h] at e; cases e; exact ⟨s, upd_same, hs⟩
    · rw [upd_ne q]; exact g.mm _ _ e
  · have q : a ≠ p := gne e (g.gnoneF h)
    obtain ⟨e1, o1, e2, r⟩ := g.mu _ _ e
    exact ⟨e1, o1, by rw [upd_ne q]; exact e2, r⟩
/-- a write where F knows nothing -/
theorem Good.mmN (g : Good K B F G H) (h : F p = none) (o : HO) : ∀ a r, F a = some (.dT r) → ∃ s, upd H p o a = some (.dK s) ∧ MemoOk F r s := fun a r e => by
  have q : a ≠ p := fun q => by subst q; rw [h] at e; cases e
  rw [upd_ne q]; exact g.mm _ _ e
/-- a new object that neither F nor G knows -/
theorem Good.newN (g : Good K B F G H) (h : H p = none) (o : HO) : Good K B F G (upd H p o) := by
  refine ⟨g.bs, fun a u e z => ?_, g.mmN (g.fnone h) o, fun a m e => ?_⟩
  · rw [upd_ne (ne_of_none e (g.fnone h))]; exact g.fz0 _ _ e z
  · have q : a ≠ p := gne e (g.gnone h)
    obtain ⟨e1, o1, e2, r⟩ := g.mu _ _ e
    exact ⟨e1, o1, by rw [upd_ne q]; exact e2, r⟩
/-- a new mutable object -/
theorem Good.newM (g : Good K B F G H) (h : H p = none) {o : HO} {m : MO} (r : MRep K F o m) : Good K B F (gupd G p m) (upd H p o) := by
  refine ⟨g.bs, fun a u e z => ?_, g.mmN (g.fnone h) o, fun a n e => ?_⟩
  · rw [upd_ne (ne_of_none e (g.fnone h))]; exact g.fz0 _ _ e z
  · by_cases q : a = p
    · subst q
      rw [gupd_same] at e; cases e
      exact ⟨g.fnone h, o, upd_same, r⟩
    · rw [gupd_ne q] at e
      obtain ⟨e1, o1, e2, r⟩ := g.mu _ _ e
      exact ⟨e1, o1, by rw [upd_ne q]; exact e2, r⟩
/-- a mutable object is written -/
theorem Good.write (g : Good K B F G H) {m0 : MO} (h : G p = some m0) {o : HO} {m : MO} (r : MRep K F o m) : Good K B F (gupd G p m) (upd H p o) := by
  obtain ⟨f0, o0, h0, _⟩ := g.mu _ _ h
  refine ⟨g.bs, fun a u e z => ?_, g.mmN f0 o, fun a n e => ?_⟩
  · rw [upd_ne (ne_of_none e f0)]; exact g.fz0 _ _ e z
  · by_cases q : a = p
    · subst q
      rw [gupd_same] at e; cases e
      exact ⟨f0, o, upd_same, r⟩
    · rw [gupd_ne q] at e
      obtain ⟨e1, o1, e2, r⟩ := g.mu _ _ e
      exact ⟨e1, o1, by rw [upd_ne q]; exact e2, r⟩
/-- a mutable object is frozen -/
theorem Good.freeze (g : Good K B F G H) {m : MO} (h : G p = some m) (hm : notMO m = true := by rfl) : ∃ o, H p = some o ∧ Le F (upd F p o) ∧ Good K B (upd F p o) (gdel G p) H ∧ MRep K (upd F p o) o m := by
  obtain ⟨f0, o0, h0, r0⟩ := g.mu _ _ h
  have l : Le F (upd F p o0) := Le.upd f0
  refine ⟨o0, h0, l, ⟨g.bs.trans l, fun a u e z => ?_, fun a r e => ?_, fun a n e => ?_⟩, r0.le l⟩
  · by_cases q : a = p
    · subst q; rw [upd_same] at e; cases e; exact h0
    · rw [upd_ne q] at e; exact g.fz0 _ _ e z
  · have q : a ≠ p := fun q => by
      subst q; rw [upd_same] at e; cases e; cases r0.notM hm
    rw [upd_ne q] at e
    obtain ⟨s, e1, e2⟩ := g.mm _ _ e
    exact ⟨s, e1, e2.le l⟩
  · have q : a ≠ p := fun z => by rw [z, gdel_same] at e; cases e
    rw [gdel_ne q] at e
    obtain ⟨e1, o1, e2, r⟩ := g.mu _ _ e
    exact ⟨by rw [upd_ne q]; exact e1, o1, e2, r.le l⟩
theorem Good.freezeL (g : Good K B F G H) {ds : List Dt} (h : G p = some (.lst ds)) : ∃ F', Le F F' ∧ Good K B F' (gdel G p) H ∧ Is K F' (.ref p) (.lst ds) := by
  obtain ⟨o, _, l, g', r⟩ := g.freeze h
  cases o <;> first
    | exact r.elim
    | exact ⟨_, l, g', .lst upd_same r⟩
theorem Good.freezeO (g : Good K B F G H) {C : Addr} {ns : List Str} {ds : List Dt} (h : G p = some (.ins C ns ds)) : ∃ F', Le F F' ∧ Good K B F' (gdel G p) H ∧ Is K F' (.ref p) (.obj C ns ds) := by
  obtain ⟨o, _, l, g', r⟩ := g.freeze h
  cases o <;> first
    | exact r.elim
    | (obtain ⟨rfl, e, r⟩ := r; exact ⟨_, l, g', .obj upd_same e r⟩)
/-- mutable objects may be forgotten -/
theorem Good.sub (g : Good K B F G H) {G' : Gp} (h : ∀ a m, G' a = some m → G a = some m) : Good K B F G' H := ⟨g.bs, g.fz0, g.mm, fun a m e => g.mu a m (h a m e)⟩
theorem Good.mlst (g : Good K B F G H) {ds : List Dt} (h : G p = some (.lst ds)) : ∃ vs, H p = some (.lst vs) ∧ IsL K F vs ds := by
  obtain ⟨_, o, e, r⟩ := g.mu _ _ h
  cases o <;> first
    | exact r.elim
    | exact ⟨_, e, r⟩
theorem Good.mins (g : Good K B F G H) {C : Addr} {ns : List Str} {ds : List Dt} (h : G p = some (.ins C ns ds)) : ∃ dx fs, H p = some (.ins C dx fs) ∧ fs.map (·.1) = ns ∧ IsL K F (fs.map (·.2)) ds := by
  obtain ⟨_, o, e, r⟩ := g.mu _ _ h
  cases o <;> first
    | exact r.elim
    | (obtain ⟨rfl, e', r⟩ := r; exact ⟨_, _, e, e', r⟩)
theorem Good.mdK (g : Good K B F G H) {s : List (Key × Dt)} (h : G p = some (.dK s)) : ∃ r, H p = some (.dK r) ∧ IsK K F r s := by
  obtain ⟨_, o, e, r⟩ := g.mu _ _ h
  cases o <;> first
    | exact r.elim
    | exact ⟨_, e, r⟩
theorem Good.rebase (g : Good K B F G H) : Good K F F G H := ⟨Le.refl F, g.fz0, g.mm, g.mu⟩
theorem Good.unbase (g : Good K F F' G H) (l : Le B F) : Good K B F' G H := ⟨l.trans g.bs, g.fz0, g.mm, g.mu⟩
/-- what the layer knows at the start: all but dicts with keys of tuples -/
def noT (H : Hp) : Hp := fun a => match H a with
  | some o => if notM o = true then some o else none
  | none => none
theorem noT_of {o : HO} (h : H p = some o) (ho : notM o = true) : noT H p = some o := by
  unfold noT; rw [h]; dsimp only; rw [if_pos ho]
theorem of_noT {o : HO} (h : noT H p = some o) : H p = some o ∧ notM o = true := by
  unfold noT at h
  cases e : H p with
  | none => rw [e] at h; cases h
  | some u =>
    rw [e] at h; dsimp only at h
    split at h
    · rename_i q; cases h; exact ⟨rfl, q⟩
    · cases h
theorem Good.start : Good K (noT H) (noT H) (fun _ => none) H := ⟨Le.refl _, fun a o e _ => (of_noT e).1, fun a r e => (nomatch (of_noT e).2), fun _ _ e => (nomatch e)⟩
theorem SqL.noT {xs : List V} (h : SqL K H p xs) : SqL K (DL.noT H) p xs := h.elim (fun e => .inl (e.elim (fun e => .inl (noT_of e rfl)) fun ⟨o, e⟩ => .inr ⟨o, noT_of e rfl⟩)) .inr
end

/-! ### slots -/
abbrev DSt := List (Option Dt)
structure Sl (K : PySem.W.Frag) (F : Hp) (σ : St) (δ : DSt) : Prop where
  len : σ.length = δ.length
  get : ∀ (i : Nat) (d : Dt), δ[i]? = some (some d) → ∃ v, σ[i]? = some (some v) ∧ Is K F v d
section
variable {K : PySem.W.Frag} {F F' : Hp} {σ : St} {δ : DSt}
theorem Sl.le (h : Le F F') (s : Sl K F σ δ) : Sl K F' σ δ := ⟨s.len, fun i d e => let ⟨v, a, b⟩ := s.get i d e; ⟨v, a, b.le h⟩⟩
theorem Sl.set {v : V} {d : Dt} (s : Sl K F σ δ) (i : Nat) (h : Is K F v d) : Sl K F (σ.set i (some v)) (δ.set i (some d)) := by
  refine ⟨by simp [s.len], fun j e q => ?_⟩
  by_cases hj : i = j
  · subst hj
    by_cases hl : i < δ.length
    · rw [List.getElem?_set_self hl] at q
      cases q
      exact ⟨v, List.getElem?_set_self (by rw [s.len]; exact hl), h⟩
    · rw [List.getElem?_eq_none (by simpa using hl)] at q; cases q
  · rw [List.getElem?_set_ne hj] at q ⊢
    exact s.get j e q
theorem Sl.none (s : Sl K F σ δ) (i : Nat) : Sl K F (σ.set i none) (δ.set i none) := by
  refine ⟨by simp [s.len], fun j e q => ?_⟩
  by_cases hj : i = j
  · subst hj
    by_cases hl : i < δ.length
    · rw [List.getElem?_set_self hl] at q; cases q
    · rw [List.getElem?_eq_none (by simpa using hl)] at q; cases q
  · rw [List.getElem?_set_ne hj] at q ⊢
    exact s.get j e q
def dwipe (δ : DSt) : List Nat → DSt
  | [] => δ
  | v :: vs => (dwipe δ vs).set v none
theorem Sl.wipe (s : Sl K F σ δ) : ∀ vs : List Nat, Sl K F (wipe σ vs) (dwipe δ vs)
  | [] => s
  | _ :: vs => (Sl.wipe s vs).none _
/-- what is known of a slot may be forgotten, or changed for another reading of the same value -/
theorem Sl.setD {d : Dt} {i : Nat} (s : Sl K F σ δ) (h : ∀ v, σ[i]? = some (some v) → Is K F v d) (hi : ∃ v, σ[i]? = some (some v)) : Sl K F σ (δ.set i (some d)) := by
  refine ⟨by simp [s.len], fun j e q => ?_⟩
  by_cases hj : i = j
  · subst hj
    by_cases hl : i < δ.length
    · rw [List.getElem?_set_self hl] at q
      cases q
      obtain ⟨v, hv⟩ := hi
      exact ⟨v, hv, h v hv⟩
    · rw [List.getElem?_eq_none (by simpa using hl)] at q; cases q
  · rw [List.getElem?_set_ne hj] at q
    exact s.get j e q
end

/-! ### readings by data -/
abbrev DK := Dt → Gp → Prop
abbrev DTE := DSt → Gp → DK → Prop
abbrev DTT := DSt → Gp → (Bool → Gp → Prop) → Prop
abbrev DTA := DSt → Gp → (List Dt → Gp → Prop) → Prop
structure DEnds where
  nx : DSt → Gp → Prop
  rt : DK
  bk : DSt → Gp → Prop := fun _ _ => False
  ct : DSt → Gp → Prop := fun _ _ => False
abbrev DTS := DEnds → DSt → Gp → Prop

/-- what stands behind an end P: the value's end Q -/
def Cont (K : PySem.W.Frag) (B F : Hp) (P : DK) (Q : VK) : Prop := ∀ d G' v F' H', P d G' → Le F F' → Good K B F' G' H' → Is K F' v d → Q v H'
def ContB (K : PySem.W.Frag) (B F : Hp) (P : Bool → Gp → Prop) (Q : Bool → Hp → Prop) : Prop := ∀ b G' F' H', P b G' → Le F F' → Good K B F' G' H' → Q b H'
def ContA (K : PySem.W.Frag) (B F : Hp) (P : List Dt → Gp → Prop) (Q : List V → Hp → Prop) : Prop := ∀ ds G' vs F' H', P ds G' → Le F F' → Good K B F' G' H' → IsL K F' vs ds → Q vs H'
def ContS (K : PySem.W.Frag) (B F : Hp) (P : DSt → Gp → Prop) (Q : St → Hp → Prop) : Prop := ∀ δ' G' σ' F' H', P δ' G' → Le F F' → Good K B F' G' H' → Sl K F' σ' δ' → Q σ' H'
structure Fits (K : PySem.W.Frag) (B F : Hp) (R : DEnds) (D : Ends) : Prop where
  nx : ContS K B F R.nx D.nx
  rt : Cont K B F R.rt D.rt
  bk : ContS K B F R.bk D.bk
  ct : ContS K B F R.ct D.ct
section
variable {K : PySem.W.Frag} {B F F' : Hp}
theorem Cont.le {P : DK} {Q : VK} (c : Cont K B F P Q) (h : Le F F') : Cont K B F' P Q := fun d G' v F'' H' p l g i => c d G' v F'' H' p (h.trans l) g i
theorem ContB.le {P : Bool → Gp → Prop} {Q : Bool → Hp → Prop} (c : ContB K B F P Q) (h : Le F F') : ContB K B F' P Q := fun d G' F'' H' p l g => c d G' F'' H' p (h.trans l) g
theorem ContA.le {P : List Dt → Gp → Prop} {Q : List V → Hp → Prop} (c : ContA K B F P Q) (h : Le F F') : ContA K B F' P Q := fun d G' v F'' H' p l g i => c d G' v F'' H' p (h.trans l) g i
theorem ContS.le {P : DSt → Gp → Prop} {Q : St → Hp → Prop} (c : ContS K B F P Q) (h : Le F F') : ContS K B F' P Q := fun d G' v F'' H' p l g i => c d G' v F'' H' p (h.trans l) g i
theorem Fits.le {R : DEnds} {D : Ends} (c : Fits K B F R D) (h : Le F F') : Fits K B F' R D := ⟨c.nx.le h, c.rt.le h, c.bk.le h, c.ct.le h⟩
end
def tD (K : PySem.W.Frag) (B : Hp) (t : DTE) : TE := fun σ H Q => ∃ F G δ P, Good K B F G H ∧ Sl K F σ δ ∧ t δ G P ∧ Cont K B F P Q
def tDT (K : PySem.W.Frag) (B : Hp) (t : DTT) : TT := fun σ H Q => ∃ F G δ P, Good K B F G H ∧ Sl K F σ δ ∧ t δ G P ∧ ContB K B F P Q
def tDA (K : PySem.W.Frag) (B : Hp) (t : DTA) : TA := fun σ H Q => ∃ F G δ P, Good K B F G H ∧ Sl K F σ δ ∧ t δ G P ∧ ContA K B F P Q
def tDS (K : PySem.W.Frag) (B : Hp) (t : DTS) : TS := fun D σ H => ∃ F G δ R, Good K B F G H ∧ Sl K F σ δ ∧ t R δ G ∧ Fits K B F R D
abbrev DE (X : Cx) (B : Hp) (e : Expr) (t : DTE) : Prop := PE X e (tD X.K B t)
abbrev DT (X : Cx) (B : Hp) (e : Expr) (t : DTT) : Prop := PT X e (tDT X.K B t)
abbrev DA (X : Cx) (B : Hp) (es : List Expr) (t : DTA) : Prop := PA X es (tDA X.K B t)
abbrev DS (X : Cx) (B : Hp) (st : Stmt) (t : DTS) : Prop := PS X st (tDS X.K B t)
abbrev DSs (X : Cx) (B : Hp) (sts : List Stmt) (t : DTS) : Prop := PSs X sts (tDS X.K B t)

theorem PE.imp {X : Cx} {e : Expr} {t t' : TE} (h : PE X e t) (f : ∀ σ H Q, t' σ H Q → t σ H Q) : PE X e t' := ⟨fun pins s σ H Q I q => h.run pins s σ H Q I (f _ _ _ q)⟩
theorem PT.imp {X : Cx} {e : Expr} {t t' : TT} (h : PT X e t) (f : ∀ σ H Q, t' σ H Q → t σ H Q) : PT X e t' := ⟨fun pins s σ H Q I q => h.run pins s σ H Q I (f _ _ _ q)⟩
theorem PW.imp {X : Cx} {e : Expr} {t t' : TT} (h : PW X e t) (f : ∀ σ H Q, t' σ H Q → t σ H Q) : PW X e t' := ⟨fun wh pins s σ H Q I q => h.run wh pins s σ H Q I (f _ _ _ q)⟩
theorem PA.imp {X : Cx} {es : List Expr} {t t' : TA} (h : PA X es t) (f : ∀ σ H Q, t' σ H Q → t σ H Q) : PA X es t' := ⟨fun pos pins s σ H Q I q => h.run pos pins s σ H Q I (f _ _ _ q)⟩
theorem PS.imp {X : Cx} {e : Stmt} {t t' : TS} (h : PS X e t) (f : ∀ D σ H, t' D σ H → t D σ H) : PS X e t' := ⟨fun pins s σ H D I q => h.run pins s σ H D I (f _ _ _ q)⟩
theorem PSs.imp {X : Cx} {e : List Stmt} {t t' : TS} (h : PSs X e t) (f : ∀ D σ H, t' D σ H → t D σ H) : PSs X e t' := ⟨fun pins s σ H D I q => h.run pins s σ H D I (f _ _ _ q)⟩

/-! ### names, constants -/
section
variable {X : Cx} {B : Hp} {e a b : Expr} {es : List Expr} {pos : Pos} {ta tb te : DTE} {t : DTA}
def dVar (i : Nat) : DTE := fun δ G P => ∃ d, δ[i]? = some (some d) ∧ P d G
def dC (d : Dt) : DTE := fun _ G P => P d G
theorem dv {i : Nat} (h : PE X e (tVar i)) : DE X B e (dVar i) := PE.imp h fun σ H Q ⟨F, G, δ, P, g, s, ⟨d, e, p⟩, c⟩ => by
  obtain ⟨v, e1, r⟩ := s.get i d e
  exact ⟨v, e1, c d G v F H p (Le.refl F) g r⟩
theorem d_int {i j} : DE X B (.Constant (.int i) j pos) (dC (.int i)) := PE.imp pe_int fun σ H Q ⟨F, G, δ, P, g, s, p, c⟩ => c _ G _ F H p (Le.refl F) g (.int i)
theorem d_bl {b j} : DE X B (.Constant (.bool b) j pos) (dC (.bl b)) := PE.imp pe_bl fun σ H Q ⟨F, G, δ, P, g, s, p, c⟩ => c _ G _ F H p (Le.refl F) g (.bl b)
theorem d_non {j} : DE X B (.Constant .none j pos) (dC .non) := PE.imp pe_non fun σ H Q ⟨F, G, δ, P, g, s, p, c⟩ => c _ G _ F H p (Le.refl F) g .non
theorem d_str {x j} : DE X B (.Constant (.str x) j pos) (dC (.str x)) := PE.imp pe_str fun σ H Q ⟨F, G, δ, P, g, s, p, c⟩ => c _ G _ F H p (Le.refl F) g (.str x)

/-! ### argument lists, displays -/
def dNil : DTA := fun _ G P => P [] G
def dCons (te : DTE) (t : DTA) : DTA := fun δ G P => te δ G fun x G1 => t δ G1 fun xs G2 => P (x :: xs) G2
theorem da_nil : DA X B [] dNil := PA.imp pa_nil fun σ H Q ⟨F, G, δ, P, g, s, p, c⟩ => c _ G _ F H p (Le.refl F) g .nil
theorem da_cons (ha : DE X B e te) (hr : DA X B es t) (hs : starEach (e :: es) X.env = (false, eval e X.env) :: starEach es X.env := by rfl) : DA X B (e :: es) (dCons te t) :=
  PA.imp (pa_cons ha hr hs) fun σ H Q ⟨F, G, δ, P, g, s, p, c⟩ =>
    ⟨F, G, δ, _, g, s, p, fun x G1 v F1 H1 p1 l1 g1 r1 => ⟨F1, G1, δ, _, g1, s.le l1, p1, fun xs G2 vs F2 H2 p2 l2 g2 r2 => c _ G2 _ F2 H2 p2 (l1.trans l2) g2 (.cons (r1.le l2) r2)⟩⟩
/-- a new frozen list, a new frozen tuple -/
def dLst (t : DTA) : DTE := fun δ G P => t δ G fun xs G1 => xs.length ≤ sizeLine ∧ P (.lst xs) G1
def dTup (t : DTA) : DTE := fun δ G P => t δ G fun xs G1 => xs.length ≤ sizeLine ∧ P (.tup xs) G1
/-- a new mutable list -/
def dLstM (t : DTA) : DTE := fun δ G P => t δ G fun xs G1 => xs.length ≤ sizeLine ∧ ∀ p, G1 p = none → P (.ref p) (gupd G1 p (.lst xs))
theorem d_lst (h : DA X B es t) : DE X B (.List es pos) (dLst t) := PE.imp (pe_lst h) fun σ H Q ⟨F, G, δ, P, g, s, p, c⟩ =>
  ⟨F, G, δ, _, g, s, p, fun xs G1 vs F1 H1 ⟨z, p1⟩ l1 g1 r1 => ⟨by rw [r1.length]; exact z, fun q hq => by
    obtain ⟨l2, g2⟩ := g1.newF hq (.lst vs)
    exact c _ _ _ _ _ p1 (l1.trans l2) g2 (.lst upd_same (r1.le l2))⟩⟩
theorem d_tup {k} (h : DA X B es t) : DE X B (.Tuple es k pos) (dTup t) := PE.imp (pe_tup h) fun σ H Q ⟨F, G, δ, P, g, s, p, c⟩ =>
  ⟨F, G, δ, _, g, s, p, fun xs G1 vs F1 H1 ⟨z, p1⟩ l1 g1 r1 => ⟨by rw [r1.length]; exact z, fun q hq => by
    obtain ⟨l2, g2⟩ := g1.newF hq (.tup vs)
    exact c _ _ _ _ _ p1 (l1.trans l2) g2 (.tup upd_same (r1.le l2))⟩⟩
theorem d_lstM (h : DA X B es t) : DE X B (.List es pos) (dLstM t) := PE.imp (pe_lst h) fun σ H Q ⟨F, G, δ, P, g, s, p, c⟩ =>
  ⟨F, G, δ, _, g, s, p, fun xs G1 vs F1 H1 ⟨z, p1⟩ l1 g1 r1 => ⟨by rw [r1.length]; exact z, fun q hq =>
    c _ _ _ _ _ (p1 q (g1.gnone hq)) l1 (g1.newM hq (m := .lst xs) r1) (.ref q)⟩⟩

/-! ### operators by data -/
abbrev DR2 := Dt → Dt → Gp → DK → Prop
/-- a rule r' of the hand layer serves the data rule r -/
def Serves (K : PySem.W.Frag) (B : Hp) (r' : R2) (r : DR2) : Prop := ∀ F G H v w x y P Q, Good K B F G H → Is K F v x → Is K F w y → r x y G P → Cont K B F P Q → r' v w H Q
def dOp (r : DR2) (ta tb : DTE) : DTE := fun δ G P => ta δ G fun x G1 => tb δ G1 fun y G2 => r x y G2 P
theorem dop_imp {r' : R2} {r : DR2} (hs : Serves X.K B r' r) : ∀ σ H Q, tD X.K B (dOp r ta tb) σ H Q → tOp r' (tD X.K B ta) (tD X.K B tb) σ H Q := fun σ H Q ⟨F, G, δ, P, g, s, p, c⟩ =>
  ⟨F, G, δ, _, g, s, p, fun x G1 v F1 H1 p1 l1 g1 r1 => ⟨F1, G1, δ, _, g1, s.le l1, p1, fun y G2 w F2 H2 p2 l2 g2 r2 => hs F2 G2 H2 v w x y P Q g2 (r1.le l2) r2 p2 (c.le (l1.trans l2))⟩⟩
structure DOp (X : Cx) (B : Hp) (f : Value → Value → Sem Value) (r : DR2) : Prop where
  ex : ∃ r', OpR X f r' ∧ Serves X.K B r' r
theorem d_op {op : Operator} {r : DR2} (ho : DOp X B (binaryOp op) r) (ha : DE X B a ta) (hb : DE X B b tb) : DE X B (.BinOp a op b pos) (dOp r ta tb) := by
  obtain ⟨r', h1, h2⟩ := ho.ex
  exact PE.imp (pe_op h1 ha hb) (dop_imp h2)
theorem d_cmp {op : CmpOp} {r : DR2} (ho : DOp X B (compareOp op) r) (ha : DE X B a ta) (hb : DE X B b tb) (hm : behindInMarks op b = false) : DE X B (.Compare a [op] [b] pos) (dOp r ta tb) := by
  obtain ⟨r', h1, h2⟩ := ho.ex
  exact PE.imp (pe_cmpR h1 ha hb hm) (dop_imp h2)
/-- an expression whose value is a truth, as a test -/
def dB (t : DTE) : DTT := fun δ G P => t δ G fun x G1 => ∃ c, x = .bl c ∧ P c G1
theorem db_imp {t : DTE} : ∀ σ H Q, tDT X.K B (dB t) σ H Q → tTest (tD X.K B t) σ H Q := fun σ H Q ⟨F, G, δ, P, g, s, p, c⟩ =>
  ⟨F, G, δ, _, g, s, p, fun x G1 v F1 H1 ⟨k, e, p1⟩ l1 g1 r1 => by
    subst e
    cases r1
    exact ⟨k, rfl, c k G1 F1 H1 p1 l1 g1⟩⟩
theorem dt_val {t : DTE} (h : DE X B e t) (he : ∀ whole, isTrue e X.env whole = (do let v ← whole; standAt e.pos; holding [v] (truthy v)) := by intro _; rfl) : DT X B e (dB t) := PT.imp (pt_val h he) db_imp
theorem dt_cmp {op : CmpOp} {r : DR2} (ho : DOp X B (compareOp op) r) (ha : DE X B a ta) (hb : DE X B b tb) (hm : behindInMarks op b = false) : DT X B (.Compare a [op] [b] pos) (dB (dOp r ta tb)) := by
  obtain ⟨r', h1, h2⟩ := ho.ex
  exact PT.imp (pt_cmpR h1 ha hb hm) fun σ H Q ⟨F, G, δ, P, g, s, p, c⟩ => by
    obtain ⟨F', G', δ', P', g', s', p', c'⟩ := db_imp σ H Q ⟨F, G, δ, P, g, s, p, c⟩
    exact dop_imp h2 σ H _ ⟨F', G', δ', P', g', s', p', c'⟩

/-- two ints -/
def r2I (C : Int → Int → Prop) (f : Int → Int → Dt) : DR2 := fun x y G P => ∃ i j, x = .int i ∧ y = .int j ∧ C i j ∧ P (f i j) G
theorem serves_rI {C C' : Int → Int → Prop} {f : Int → Int → Dt} {h : Int → Int → V} {K : PySem.W.Frag} {B : Hp} (hc : ∀ i j, C i j → C' i j) (hv : ∀ i j F, Is K F (h i j) (f i j)) : Serves K B (rI C' h) (r2I C f) := by
  rintro F G H v w x y P Q g rx ry ⟨i, j, rfl, rfl, c, p⟩ k
  cases rx
  cases ry
  exact ⟨i, j, rfl, rfl, hc i j c, k _ G _ F H p (Le.refl F) g (hv i j F)⟩
theorem serves_rI0 {f : Int → Int → Dt} {h : Int → Int → V} {K : PySem.W.Frag} {B : Hp} (hv : ∀ i j F, Is K F (h i j) (f i j)) : Serves K B (rI0 h) (r2I (fun _ _ => True) f) := by
  rintro F G H v w x y P Q g rx ry ⟨i, j, rfl, rfl, c, p⟩ k
  cases rx
  cases ry
  exact ⟨i, j, rfl, rfl, k _ G _ F H p (Le.refl F) g (hv i j F)⟩
def rTrue : Int → Int → Prop := fun _ _ => True
theorem o_add : DOp X B (binaryOp .Add) (r2I (fun _ _ => True) fun i j => .int (i + j)) := ⟨_, op_add, serves_rI0 fun _ _ _ => .int _⟩
theorem o_sub : DOp X B (binaryOp .Sub) (r2I (fun _ _ => True) fun i j => .int (i - j)) := ⟨_, op_sub, serves_rI0 fun _ _ _ => .int _⟩
theorem o_lt : DOp X B (compareOp .Lt) (r2I (fun _ _ => True) fun i j => .bl (decide (i < j))) := ⟨_, op_lt, serves_rI0 fun _ _ _ => .bl _⟩
theorem o_le : DOp X B (compareOp .LtE) (r2I (fun _ _ => True) fun i j => .bl (decide (i ≤ j))) := ⟨_, op_le, serves_rI0 fun _ _ _ => .bl _⟩
theorem o_gt : DOp X B (compareOp .Gt) (r2I (fun _ _ => True) fun i j => .bl (decide (j < i))) := ⟨_, op_gt, serves_rI0 fun _ _ _ => .bl _⟩
theorem o_ge : DOp X B (compareOp .GtE) (r2I (fun _ _ => True) fun i j => .bl (decide (j ≤ i))) := ⟨_, op_ge, serves_rI0 fun _ _ _ => .bl _⟩
theorem o_mul : DOp X B (binaryOp .Mult) (r2I CMul fun i j => .int (i * j)) := ⟨_, op_mul, serves_rI (fun _ _ h => h) fun _ _ _ => .int _⟩
theorem o_fdivN : DOp X B (binaryOp .FloorDiv) (r2I CDivN fun i j => .int (i.fdiv j)) := ⟨_, op_fdivN, serves_rI (fun _ _ h => h) fun _ _ _ => .int _⟩
theorem o_modN : DOp X B (binaryOp .Mod) (r2I (fun _ j => j ≠ 0) fun i j => .int (i.fmod j)) := ⟨_, op_modN, serves_rI (fun _ _ h => h) fun _ _ _ => .int _⟩
theorem o_pow : DOp X B (binaryOp .Pow) (r2I CPow fun i j => .int (i ^ j.toNat)) := ⟨_, op_pow, serves_rI (fun _ _ h => h) fun _ _ _ => .int _⟩
/-- one of two rules -/
theorem OpR.or {f : Value → Value → Sem Value} {r1 r2 : R2} (h1 : OpR X f r1) (h2 : OpR X f r2) : OpR X f (fun x y H Q => r1 x y H Q ∨ r2 x y H Q) := by
  intro pins s σ H x y v u Q I rx ry h
  rcases h with h | h
  · exact h1 pins s σ H x y v u Q I rx ry h
  · exact h2 pins s σ H x y v u Q I rx ry h
theorem DOp.or {f : Value → Value → Sem Value} {r1 r2 : DR2} (h1 : DOp X B f r1) (h2 : DOp X B f r2) : DOp X B f (fun x y G P => r1 x y G P ∨ r2 x y G P) := by
  obtain ⟨q1, a1, b1⟩ := h1.ex
  obtain ⟨q2, a2, b2⟩ := h2.ex
  refine ⟨_, a1.or a2, ?_⟩
  intro F G H v w x y P Q g rx ry h k
  rcases h with h | h
  · exact .inl (b1 F G H v w x y P Q g rx ry h k)
  · exact .inr (b2 F G H v w x y P Q g rx ry h k)
end
end DL

set_option Elab.async false
set_option linter.all false
set_option maxRecDepth 100000
namespace DL
open PySem PySem.Spec L2
section
variable {X : Cx} {B : Hp} {e a b o : Expr} {es : List Expr} {st : Stmt} {rest : List Stmt} {pos : Pos} {ta tb te : DTE} {tl : DTA} {t u : DTS}

/-! ### ghost steps: the same values read otherwise -/
structure Clo (d : Dt) (G : Gp) (d' : Dt) (G' : Gp) : Prop where
  go : ∀ (K : PySem.W.Frag) (B F H : Hp) (v : V), Good K B F G H → Is K F v d → ∃ F', Le F F' ∧ Good K B F' G' H ∧ Is K F' v d'
structure CloS (δ : DSt) (G : Gp) (δ' : DSt) (G' : Gp) : Prop where
  go : ∀ (K : PySem.W.Frag) (B F H : Hp) (σ : L2.St), Good K B F G H → Sl K F σ δ → ∃ F', Le F F' ∧ Good K B F' G' H ∧ Sl K F' σ δ'
theorem Clo.refl {d : Dt} {G : Gp} : Clo d G d G := ⟨fun K B F H v g i => ⟨F, Le.refl F, g, i⟩⟩
theorem Clo.trans {d d1 d2 : Dt} {G G1 G2 : Gp} (a : Clo d G d1 G1) (b : Clo d1 G1 d2 G2) : Clo d G d2 G2 := ⟨fun K B F H v g i => by
  obtain ⟨F1, l1, g1, i1⟩ := a.go K B F H v g i
  obtain ⟨F2, l2, g2, i2⟩ := b.go K B F1 H v g1 i1
  exact ⟨F2, l1.trans l2, g2, i2⟩⟩
theorem Clo.sub {d : Dt} {G G' : Gp} (h : ∀ a m, G' a = some m → G a = some m) : Clo d G d G' := ⟨fun K B F H v g i => ⟨F, Le.refl F, g.sub h, i⟩⟩
theorem Clo.frz {p : Addr} {G : Gp} {ds : List Dt} (h : G p = some (.lst ds)) : Clo (.ref p) G (.lst ds) (gdel G p) := ⟨fun K B F H v g i => by
  cases i
  exact g.freezeL h⟩
theorem Clo.frzO {p C : Addr} {G : Gp} {ns : List Str} {ds : List Dt} (h : G p = some (.ins C ns ds)) : Clo (.ref p) G (.obj C ns ds) (gdel G p) := ⟨fun K B F H v g i => by
  cases i
  exact g.freezeO h⟩
theorem CloS.refl {δ : DSt} {G : Gp} : CloS δ G δ G := ⟨fun K B F H v g i => ⟨F, Le.refl F, g, i⟩⟩
theorem CloS.trans {d d1 d2 : DSt} {G G1 G2 : Gp} (a : CloS d G d1 G1) (b : CloS d1 G1 d2 G2) : CloS d G d2 G2 := ⟨fun K B F H v g i => by
  obtain ⟨F1, l1, g1, i1⟩ := a.go K B F H v g i
  obtain ⟨F2, l2, g2, i2⟩ := b.go K B F1 H v g1 i1
  exact ⟨F2, l1.trans l2, g2, i2⟩⟩
theorem CloS.sub {δ : DSt} {G G' : Gp} (h : ∀ a m, G' a = some m → G a = some m) : CloS δ G δ G' := ⟨fun K B F H v g i => ⟨F, Le.refl F, g.sub h, i⟩⟩
theorem CloS.frz {p : Addr} {G : Gp} {ds : List Dt} {δ : DSt} (i : Nat) (hi : δ[i]? = some (some (.ref p))) (h : G p = some (.lst ds)) : CloS δ G (δ.set i (some (.lst ds))) (gdel G p) := ⟨fun K B F H σ g s => by
  obtain ⟨F', l, g', r⟩ := g.freezeL h
  refine ⟨F', l, g', (s.le l).setD (fun v hv => ?_) ?_⟩
  · obtain ⟨w, e1, e2⟩ := s.get i _ hi
    rw [hv] at e1; cases e1; cases e2
    exact r
  · obtain ⟨w, e1, e2⟩ := s.get i _ hi
    exact ⟨w, e1⟩⟩

/-! ### blocks -/
def dNext : DTS := fun D δ G => D.nx δ G
def dSeq (t u : DTS) : DTS := fun D δ G => t { D with nx := u D } δ G
theorem dss_nil : DSs X B [] dNext := PSs.imp pss_nil fun D σ H ⟨F, G, δ, R, g, s, p, f⟩ => f.nx δ G σ F H p (Le.refl F) g s
theorem Fits.nx' {K : PySem.W.Frag} {B F : Hp} {R : DEnds} {D : Ends} (f : Fits K B F R D) {P : DSt → Gp → Prop} {Q : L2.St → Hp → Prop} (h : ContS K B F P Q) : Fits K B F { R with nx := P } { D with nx := Q } := ⟨h, f.rt, f.bk, f.ct⟩
theorem dss_cons (h1 : DS X B st t) (h2 : DSs X B rest u) : DSs X B (st :: rest) (dSeq t u) := PSs.imp (pss_cons h1 h2) fun D σ H ⟨F, G, δ, R, g, s, p, f⟩ =>
  ⟨F, G, δ, { R with nx := u R }, g, s, p, f.nx' fun δ' G' σ' F' H' p' l' g' s' => ⟨F', G', δ', R, g', s', p', f.le l'⟩⟩
theorem dss_one (h1 : DS X B st t) : DSs X B [st] t := PSs.imp (pss_one h1) fun _ _ _ q => q
/-- a ghost step ahead of a block -/
def dClo (t : DTS) : DTS := fun D δ G => ∃ δ' G', CloS δ G δ' G' ∧ t D δ' G'
theorem dss_clo {sts : List Stmt} (h : DSs X B sts t) : DSs X B sts (dClo t) := PSs.imp h fun D σ H ⟨F, G, δ, R, g, s, ⟨δ', G', c, p⟩, f⟩ => by
  obtain ⟨F', l, g', s'⟩ := c.go _ B F H σ g s
  exact ⟨F', G', δ', R, g', s', p, f.le l⟩
def dDrop (te : DTE) : DTS := fun D δ G => te δ G fun _ G' => D.nx δ G'
theorem ds_expr (he : DE X B e te) (hs : swapsWith e none pos.line X.env = pure false := by rfl) : DS X B (.Expr e pos) (dDrop te) := PS.imp (ps_expr he hs) fun D σ H ⟨F, G, δ, R, g, s, p, f⟩ =>
  ⟨F, G, δ, _, g, s, p, fun d G' v F' H' p' l g' i => f.nx δ G' σ F' H' p' l g' (s.le l)⟩
def dRet (te : DTE) : DTS := fun D δ G => te δ G D.rt
theorem ds_ret (he : DE X B e te) : DS X B (.Return (some e) pos) (dRet te) := PS.imp (ps_ret he) fun D σ H ⟨F, G, δ, R, g, s, p, f⟩ => ⟨F, G, δ, _, g, s, p, f.rt⟩
/-- .. with a ghost step -/
def dCl (P : DK) : DK := fun d G => ∃ d' G', Clo d G d' G' ∧ P d' G'
theorem Cont.cl {K : PySem.W.Frag} {B F : Hp} {P : DK} {Q : VK} (c : Cont K B F P Q) : Cont K B F (dCl P) Q := fun d G v F' H' ⟨d', G', k, p⟩ l g i => by
  obtain ⟨F2, l2, g2, i2⟩ := k.go K B F' H' v g i
  exact c d' G' v F2 H' p (l.trans l2) g2 i2
def dRetC (te : DTE) : DTS := fun D δ G => te δ G (dCl D.rt)
theorem ds_retC (he : DE X B e te) : DS X B (.Return (some e) pos) (dRetC te) := PS.imp (ps_ret he) fun D σ H ⟨F, G, δ, R, g, s, p, f⟩ => ⟨F, G, δ, _, g, s, p, f.rt.cl⟩
def dRetN : DTS := fun D _ G => D.rt .non G
theorem ds_retN : DS X B (.Return none pos) dRetN := PS.imp ps_retN fun D σ H ⟨F, G, δ, R, g, s, p, f⟩ => f.rt _ G _ F H p (Le.refl F) g .non
def dIf (c : DTT) (t u : DTS) : DTS := fun D δ G => c δ G fun b G1 => if b = true then t D δ G1 else u D δ G1
theorem ds_if {c : Expr} {xs ys : List Stmt} {tc : DTT} (hc : DT X B c tc) (ha : DSs X B xs t) (hb : DSs X B ys u) : DS X B (.If c xs ys pos) (dIf tc t u) := PS.imp (ps_if hc ha hb) fun D σ H ⟨F, G, δ, R, g, s, p, f⟩ =>
  ⟨F, G, δ, _, g, s, p, fun b G' F' H' p' l g' => by
    cases b with
    | true => exact ⟨F', G', δ, R, g', s.le l, p', f.le l⟩
    | false => exact ⟨F', G', δ, R, g', s.le l, p', f.le l⟩⟩
def dNever : DTS := fun _ _ _ => False
theorem ds_never : DS X B st dNever := PS.imp ps_never fun D σ H ⟨F, G, δ, R, g, s, p, f⟩ => p.elim
def dBreak : DTS := fun D δ G => D.bk δ G
def dCont : DTS := fun D δ G => D.ct δ G
theorem ds_break : DS X B (.Break pos) dBreak := PS.imp ps_break fun D σ H ⟨F, G, δ, R, g, s, p, f⟩ => f.bk δ G σ F H p (Le.refl F) g s
theorem ds_continue : DS X B (.Continue pos) dCont := PS.imp ps_continue fun D σ H ⟨F, G, δ, R, g, s, p, f⟩ => f.ct δ G σ F H p (Le.refl F) g s
theorem ds_pass : DS X B (.Pass pos) dNext := PS.imp ps_pass fun D σ H ⟨F, G, δ, R, g, s, p, f⟩ => f.nx δ G σ F H p (Le.refl F) g s

/-! ### targets -/
abbrev DTG := Dt → DSt → Gp → (DSt → Gp → Prop) → Prop
abbrev DTGs := List Dt → DSt → Gp → (DSt → Gp → Prop) → Prop
def tDG (K : PySem.W.Frag) (B : Hp) (g : DTG) : TG := fun v σ H Q => ∃ F G δ d R, Good K B F G H ∧ Sl K F σ δ ∧ Is K F v d ∧ g d δ G R ∧ ContS K B F R Q
def tDGs (K : PySem.W.Frag) (B : Hp) (g : DTGs) : TGs := fun vs σ H Q => ∃ F G δ ds R, Good K B F G H ∧ Sl K F σ δ ∧ IsL K F vs ds ∧ g ds δ G R ∧ ContS K B F R Q
abbrev DG (X : Cx) (B : Hp) (tg : Expr) (g : DTG) : Prop := PG X tg (tDG X.K B g)
abbrev DGs (X : Cx) (B : Hp) (tgs : List Expr) (g : DTGs) : Prop := PGs X tgs (tDGs X.K B g)
theorem PG.imp {tg : Expr} {g g' : TG} (h : PG X tg g) (f : ∀ v σ H Q, g' v σ H Q → g v σ H Q) : PG X tg g' := ⟨fun pins s σ H v u Q I r q => h.run pins s σ H v u Q I r (f _ _ _ _ q)⟩
theorem PGs.imp {tg : List Expr} {g g' : TGs} (h : PGs X tg g) (f : ∀ v σ H Q, g' v σ H Q → g v σ H Q) : PGs X tg g' := ⟨fun pins s σ H v u Q I r q => h.run pins s σ H v u Q I r (f _ _ _ _ q)⟩
def dgN (i : Nat) : DTG := fun d δ G R => R (δ.set i (some d)) G
theorem dg_name {i : Nat} {tg : Expr} (h : PG X tg (gName i)) : DG X B tg (dgN i) := PG.imp h fun v σ H Q ⟨F, G, δ, d, R, g, s, i, p, c⟩ => c _ G _ F H p (Le.refl F) g (s.set _ i)
def dgNil : DTGs := fun ds δ G R => ds = [] ∧ R δ G
def dgCons (t : DTG) (u : DTGs) : DTGs := fun ds δ G R => ∃ d r, ds = d :: r ∧ t d δ G fun δ' G' => u r δ' G' R
theorem dgs_nil : DGs X B [] dgNil := PGs.imp pgs_nil fun v σ H Q ⟨F, G, δ, ds, R, g, s, i, ⟨e, p⟩, c⟩ => by
  subst e
  cases i
  exact ⟨rfl, c δ G σ F H p (Le.refl F) g s⟩
theorem dgs_cons {t : DTG} {u : DTGs} (h1 : DG X B e t) (h2 : DGs X B es u) (hs : (assignEach (e :: es) X.env).map (·.2) = assign e X.env :: (assignEach es X.env).map (·.2) := by rfl) : DGs X B (e :: es) (dgCons t u) :=
  PGs.imp (pgs_cons h1 h2 hs) fun v σ H Q ⟨F, G, δ, ds, R, g, s, i, ⟨d, r, e, p⟩, c⟩ => by
    subst e
    cases i with
    | cons i1 i2 => exact ⟨_, _, rfl, F, G, δ, d, _, g, s, i1, p, fun δ' G' σ' F' H' p' l' g' s' => ⟨F', G', δ', r, R, g', s', i2.le l', p', c.le l'⟩⟩
def dgTup (n : Nat) (t : DTGs) : DTG := fun d δ G R => ∃ ds, d = .tup ds ∧ ds.length = n ∧ t ds δ G R
theorem dg_tup {k : Nat} {t : DTGs} {n : Nat} (hc : X.calm = true) (h : DGs X B es t) (hn : (assignEach es X.env).length = n := by rfl) (hst : (assignEach es X.env).findIdx? (·.1) = none := by rfl) : DG X B (.Tuple es k pos) (dgTup n t) :=
  PG.imp (pg_tup hc h hn hst) fun v σ H Q ⟨F, G, δ, d, R, g, s, i, ⟨ds, e, hl, p⟩, c⟩ => by
    subst e
    cases i with
    | tup q r => exact ⟨_, _, rfl, SqT.of (g.fz _ _ q), by rw [r.length]; exact hl, F, G, δ, ds, R, g, s, r, p, c⟩
/-- o[i] = v, by data -/
abbrev DTSet := Dt → Dt → Dt → Gp → (Gp → Prop) → Prop
structure DSet (X : Cx) (B : Hp) (r : DTSet) : Prop where
  ex : ∃ r', PSet X r' ∧ ∀ F G H vo vi v o i d P Q, Good X.K B F G H → Is X.K F vo o → Is X.K F vi i → Is X.K F v d → r o i d G P → (∀ G' F' H', P G' → Le F F' → Good X.K B F' G' H' → Q H') → r' vo vi v H Q
def dgSub (to ti : DTE) (r : DTSet) : DTG := fun d δ G R => to δ G fun o G1 => ti δ G1 fun i G2 => r o i d G2 fun G3 => R δ G3
theorem dg_sub {o i : Expr} {to ti : DTE} {r : DTSet} (ho : DE X B o to) (hi : DE X B i ti) (hs : DSet X B r)
    (ha : ∀ v, assign (.Subscript o i pos) X.env v = (do
      let ov ← holding [v] (eval o X.env)
      let iv ← holding [v, ov] (eval i X.env)
      standAt pos
      holding [v, ov, iv] (setItem ov iv v)
      release [v, ov, iv] []) := by intro _; rfl) : DG X B (.Subscript o i pos) (dgSub to ti r) := by
  obtain ⟨r', h1, h2⟩ := hs.ex
  exact PG.imp (pg_sub ho hi h1 ha) fun v σ H Q ⟨F, G, δ, d, R, g, s, iv, p, c⟩ =>
    ⟨F, G, δ, _, g, s, p, fun x G1 vx F1 H1 p1 l1 g1 r1 => ⟨F1, G1, δ, _, g1, s.le l1, p1, fun y G2 vy F2 H2 p2 l2 g2 r2 =>
      h2 F2 G2 H2 vx vy v x y d _ _ g2 (r1.le l2) r2 (iv.le (l1.trans l2)) p2 fun G3 F3 H3 p3 l3 g3 => c δ G3 σ F3 H3 p3 ((l1.trans l2).trans l3) g3 (s.le ((l1.trans l2).trans l3))⟩⟩
def dAsg (te : DTE) (g : DTG) : DTS := fun D δ G => te δ G fun d G' => g d δ G' D.nx
theorem ds_asg {tg : Expr} {g : DTG} (he : DE X B e te) (hg : DG X B tg g) (hs : swapsWithSole [tg] e pos.line X.env = pure false := by rfl) (hw : swappedStores [tg] e X.env = pure none := by rfl)
    (h1 : (assignEach [tg] X.env).map (·.2) = [assign tg X.env] := by rfl) : DS X B (.Assign [tg] e pos) (dAsg te g) := PS.imp (ps_asg he hg hs hw h1) fun D σ H ⟨F, G, δ, R, gd, s, p, f⟩ =>
  ⟨F, G, δ, _, gd, s, p, fun d G' v F' H' p' l g' i => ⟨F', G', δ, d, _, g', s.le l, i, p', f.nx.le l⟩⟩
def dSt (i : Nat) (te : DTE) : DTS := fun D δ G => te δ G fun d G' => D.nx (δ.set i (some d)) G'
theorem ds_set0 {i : Nat} (te' : TE) (h : PS X st (tAsg te' (gName i))) (hi : ∀ σ H Q, tD X.K B te σ H Q → te' σ H Q) : DS X B st (dSt i te) := PS.imp h fun D σ H ⟨F, G, δ, R, gd, s, p, f⟩ =>
  hi σ H _ ⟨F, G, δ, _, gd, s, p, fun d G' v F' H' p' l g' i => f.nx _ G' _ F' H' p' l g' ((s.le l).set _ i)⟩
theorem ds_set {i : Nat} {x : Str} {pos' : Pos} (hN : X.N.Nodup) (hi : X.N[i]? = some x) (hx : Loc X.env.scope x) (he : DE X B e te) (hs : swapsWith e (some (.Name x pos')) pos.line X.env = pure false := by rfl) (hf : X.fn x = true ∨ X.env.scope.names.lookup x = some .local := by first | exact .inl rfl | exact .inr rfl | assumption) :
    DS X B (.Assign [.Name x pos'] e pos) (dSt i te) := ds_set0 _ (ps_set hN hi hx he hs hf) fun _ _ _ q => q
/-- a, b = x, y -/
def dPar (i j : Nat) (t : DTA) : DTS := fun D δ G => t δ G fun ds G' => ∃ d e, ds = [d, e] ∧ D.nx ((δ.set i (some d)).set j (some e)) G'
theorem ds_par {i j : Nat} (ta' : TA) (h : PS X st (tPar i j ta')) (hi : ∀ σ H Q, tDA X.K B tl σ H Q → ta' σ H Q) : DS X B st (dPar i j tl) := PS.imp h fun D σ H ⟨F, G, δ, R, gd, s, p, f⟩ =>
  hi σ H _ ⟨F, G, δ, _, gd, s, p, fun ds G' vs F' H' ⟨d, e, hd, p'⟩ l g' r => by
    subst hd
    cases r with
    | cons r1 r =>
      cases r with
      | cons r2 r =>
        cases r
        exact ⟨_, _, rfl, f.nx _ G' _ F' H' p' l g' (((s.le l).set _ r1).set _ r2)⟩⟩

/-! ### while -/
def dWhile (c : DTT) (tb : DTS) : DTS := fun D δ G => ∃ W : Nat → DSt → Gp → Prop, (∃ m, W m δ G) ∧ ∀ m δ G, W m δ G →
  c δ G fun b G1 => if b = true then tb { D with nx := fun δ' G' => ∃ m', m' < m ∧ W m' δ' G', ct := fun δ' G' => ∃ m', m' < m ∧ W m' δ' G', bk := D.nx } δ G1 else D.nx δ G1
theorem ds_while {c : Expr} {body : List Stmt} {tc : DTT} (hp : PassesOwn (model X.prog X.w) X.A X.env X.xe) (hc : DT X B c tc) (hb : DSs X B body t) : DS X B (.While c body [] pos) (dWhile tc t) :=
  PS.imp (ps_while hp hc hb) fun D σ H ⟨F, G, δ, R, g, s, ⟨W, ⟨m, w⟩, turn⟩, f⟩ => by
    refine ⟨fun m σ H => ∃ F' G' δ', Le F F' ∧ Good X.K B F' G' H ∧ Sl X.K F' σ δ' ∧ W m δ' G', ⟨m, F, G, δ, Le.refl F, g, s, w⟩, ?_⟩
    rintro m σ H ⟨F1, G1, δ1, l1, g1, s1, w1⟩
    refine ⟨F1, G1, δ1, _, g1, s1, turn m δ1 G1 w1, fun b G2 F2 H2 p2 l2 g2 => ?_⟩
    cases b with
    | true =>
      refine ⟨fun σ' H' => ∃ F' G' δ', Le F F' ∧ Good X.K B F' G' H' ∧ Sl X.K F' σ' δ' ∧ ∃ m', m' < m ∧ W m' δ' G', fun σ' H' ⟨F', G', δ', l, g', s', m', hm, w'⟩ => ⟨m', hm, F', G', δ', l, g', s', w'⟩, ?_⟩
      have l3 := l1.trans l2
      refine ⟨F2, G2, δ1, _, g2, s1.le l2, p2, ⟨fun δ' G' σ' F' H' p' l' g' s' => ?_, f.rt.le l3, f.nx.le l3, fun δ' G' σ' F' H' p' l' g' s' => ?_⟩⟩
      · obtain ⟨m', hm, w'⟩ := p'
        exact ⟨F', G', δ', l3.trans l', g', s', m', hm, w'⟩
      · obtain ⟨m', hm, w'⟩ := p'
        exact ⟨F', G', δ', l3.trans l', g', s', m', hm, w'⟩
    | false => exact f.nx δ1 G2 σ F2 H2 p2 (l1.trans l2) g2 (s1.le l2)

/-! ### what a loop walks -/
structure Dlv (K : PySem.W.Frag) (B F : Hp) (J : It) (ds : List Dt) : Prop where
  go : ∀ i F' G H, Le F F' → Good K B F' G H → i < ds.length → J.go i H
  yl : ∀ i F' G H x H' d, Le F F' → Good K B F' G H → ds[i]? = some d → J.yld i H x H' → ∃ F'', Le F' F'' ∧ Good K B F'' G H' ∧ Is K F'' x d
  st : ∀ i F' G H, Le F F' → Good K B F' G H → ds.length ≤ i → J.stop i H
abbrev DTI := DSt → Gp → (List Dt → Gp → Prop) → Prop
def tDI (K : PySem.W.Frag) (B : Hp) (wi : DTI) : TI := fun σ H R => ∃ F G δ P, Good K B F G H ∧ Sl K F σ δ ∧ wi δ G P ∧ ∀ ds G' F' H' J, P ds G' → Le F F' → Good K B F' G' H' → Dlv K B F' J ds → R J H'
abbrev DI (X : Cx) (B : Hp) (tg iter : Expr) (wi : DTI) : Prop := PI X tg iter (tDI X.K B wi)
theorem PI.imp {tg iter : Expr} {t t' : TI} (h : PI X tg iter t) (f : ∀ σ H Q, t' σ H Q → t σ H Q) : PI X tg iter t' := ⟨fun pins s σ H Q I q => h.run pins s σ H Q I (f _ _ _ q)⟩
def diL (te : DTE) : DTI := fun δ G P => te δ G fun d G1 => ∃ ds, d = .lst ds ∧ P ds G1
theorem di_list {tg : Expr} (h : DE X B e te) : DI X B tg e (diL te) := PI.imp (pi_list h) fun σ H R ⟨F, G, δ, P, g, s, p, c⟩ =>
  ⟨F, G, δ, _, g, s, p, fun d G1 v F1 H1 ⟨ds, e, p1⟩ l1 g1 i1 => by
    subst e
    cases i1 with
    | lst q r => exact ⟨_, rfl, ⟨_, SqL.of (g1.fz _ _ q)⟩, c ds G1 F1 H1 _ p1 l1 g1 ⟨fun i F' G H l g hi => ⟨_, _, SqL.of (g.fz _ _ (l _ _ q)), List.getElem?_eq_getElem (by rw [r.length]; exact hi)⟩,
        fun i F' G H x H' d l g hd ⟨e, hx⟩ => by
          subst e
          have h1 := hx _ (SqL.of (g.fz _ _ (l _ _ q)))
          obtain ⟨v, h2, h3⟩ := r.get hd
          rw [h1] at h2
          cases h2
          exact ⟨F', Le.refl F', g, h3.le l⟩,
        fun i F' G H l g hi => ⟨_, SqL.of (g.fz _ _ (l _ _ q)), by rw [r.length]; exact hi⟩⟩⟩⟩
def diT (te : DTE) : DTI := fun δ G P => te δ G fun d G1 => ∃ ds, d = .tup ds ∧ P ds G1
theorem di_tup {tg : Expr} (h : DE X B e te) : DI X B tg e (diT te) := PI.imp (pi_tup h) fun σ H R ⟨F, G, δ, P, g, s, p, c⟩ =>
  ⟨F, G, δ, _, g, s, p, fun d G1 v F1 H1 ⟨ds, e, p1⟩ l1 g1 i1 => by
    subst e
    cases i1 with
    | tup q r => exact ⟨_, rfl, ⟨_, SqT.of (g1.fz _ _ q)⟩, c ds G1 F1 H1 _ p1 l1 g1 ⟨fun i F' G H l g hi => ⟨_, _, SqT.of (g.fz _ _ (l _ _ q)), List.getElem?_eq_getElem (by rw [r.length]; exact hi)⟩,
        fun i F' G H x H' d l g hd ⟨e, hx⟩ => by
          subst e
          have h1 := hx _ (SqT.of (g.fz _ _ (l _ _ q)))
          obtain ⟨v, h2, h3⟩ := r.get hd
          rw [h1] at h2
          cases h2
          exact ⟨F', Le.refl F', g, h3.le l⟩,
        fun i F' G H l g hi => ⟨_, SqT.of (g.fz _ _ (l _ _ q)), by rw [r.length]; exact hi⟩⟩⟩⟩
/-- the script -/
def diS (te : DTE) : DTI := fun δ G P => te δ G fun d G1 => ∃ ns : List Int, d = .scr ns ∧ P (ns.map Dt.int) G1
theorem di_scr {tg : Expr} (h : DE X B e te) : DI X B tg e (diS te) := PI.imp (pi_list h) fun σ H R ⟨F, G, δ, P, g, s, p, c⟩ =>
  ⟨F, G, δ, _, g, s, p, fun d G1 v F1 H1 ⟨ns, e, p1⟩ l1 g1 i1 => by
    subst e
    cases i1 with
    | scr q => exact ⟨_, rfl, ⟨_, g1.sql q⟩, c _ G1 F1 H1 _ p1 l1 g1 ⟨fun i F' G H l g hi => ⟨_, _, g.sql (SqL.le l q), List.getElem?_eq_getElem (by simpa using hi)⟩,
        fun i F' G H x H' d l g hd ⟨e, hx⟩ => by
          subst e
          have h1 := hx _ (g.sql (SqL.le l q))
          obtain ⟨v, h2, h3⟩ := (IsL.ints (K := X.K) (F := F') ns).get hd
          rw [h1] at h2
          cases h2
          exact ⟨F', Le.refl F', g, h3⟩,
        fun i F' G H l g hi => ⟨_, g.sql (SqL.le l q), by simpa using hi⟩⟩⟩⟩
/-- lo, lo + 1, .. -/
def upto (lo : Int) (n : Nat) : List Dt := (List.range n).map fun (k : Nat) => Dt.int (lo + (k : Int))
theorem upto_length (lo : Int) (n : Nat) : (upto lo n).length = n := by simp [upto]
theorem upto_get {lo : Int} {n i : Nat} {d : Dt} (h : (upto lo n)[i]? = some d) : i < n ∧ d = .int (lo + (i : Int)) := by
  unfold upto at h
  rw [List.getElem?_map] at h
  by_cases hi : i < n
  · rw [List.getElem?_range hi] at h
    cases h
    exact ⟨hi, rfl⟩
  · rw [List.getElem?_eq_none (by simpa using hi)] at h
    cases h
theorem Dlv.rng (K : PySem.W.Frag) (B F : Hp) (lo : Int) (n : Nat) : Dlv K B F (Itr lo n) (upto lo n) where
  go := fun i F' G H l g hi => by rw [upto_length] at hi; exact hi
  yl := fun i F' G H x H' d l g hd ⟨e, hx⟩ => by
    subst e
    obtain ⟨_, rfl⟩ := upto_get hd
    subst hx
    exact ⟨F', Le.refl F', g, .int _⟩
  st := fun i F' G H l g hi => by rw [upto_length] at hi; exact hi
def diR1 (t : DTA) : DTI := fun δ G P => t δ G fun ds G1 => ∃ j, ds = [.int j] ∧ -(2 ^ 62) ≤ j ∧ j < 2 ^ 62 ∧ P (upto 0 j.toNat) G1
theorem di_range1 {tg : Expr} {p : Pos} (hg : Gl X "range") (hm : X.mg "range" = none) (ha : DA X B [a] tl) (hs : starEach [a] X.env = [(false, eval a X.env)] := by rfl) : DI X B tg (.Call (.Name "range" p) [a] [] pos) (diR1 tl) :=
  PI.imp (pi_range1 hg hm ha hs) fun σ H R ⟨F, G, δ, P, g, s, p, c⟩ => ⟨F, G, δ, _, g, s, p, fun ds G1 vs F1 H1 ⟨j, e, h1, h2, p1⟩ l1 g1 i1 => by
    subst e
    cases i1 with
    | cons i1 i2 =>
      cases i1
      cases i2
      exact ⟨j, rfl, h1, h2, c _ G1 F1 H1 _ p1 l1 g1 (Dlv.rng _ _ _ _ _)⟩⟩
def diR2 (t : DTA) : DTI := fun δ G P => t δ G fun ds G1 => ∃ i j, ds = [.int i, .int j] ∧ (-(2 ^ 62) ≤ i ∧ i < 2 ^ 62 ∧ -(2 ^ 62) ≤ j ∧ j < 2 ^ 62) ∧ P (upto i (j - i).toNat) G1
theorem di_range2 {tg : Expr} {p : Pos} (hg : Gl X "range") (hm : X.mg "range" = none) (ha : DA X B [a, b] tl) (hs : starEach [a, b] X.env = [(false, eval a X.env), (false, eval b X.env)] := by rfl) (hs2 : starEach [b] X.env = [(false, eval b X.env)] := by rfl) : DI X B tg (.Call (.Name "range" p) [a, b] [] pos) (diR2 tl) :=
  PI.imp (pi_range2 hg hm ha hs hs2) fun σ H R ⟨F, G, δ, P, g, s, p, c⟩ => ⟨F, G, δ, _, g, s, p, fun ds G1 vs F1 H1 ⟨i, j, e, h1, p1⟩ l1 g1 i1 => by
    subst e
    cases i1 with
    | cons i1 i2 =>
      cases i1
      cases i2 with
      | cons i2 i3 =>
        cases i2
        cases i3
        exact ⟨i, j, rfl, h1, c _ G1 F1 H1 _ p1 l1 g1 (Dlv.rng _ _ _ _ _)⟩⟩

/-! ### for -/
def dFor (wi : DTI) (g : DTG) (tb : DTS) : DTS := fun D δ G => wi δ G fun ds G1 => ∃ W : Nat → DSt → Gp → Prop, W 0 δ G1 ∧
  (∀ i d δ' G', ds[i]? = some d → W i δ' G' → g d δ' G' fun δ2 G2 => tb { D with nx := W (i + 1), ct := W (i + 1), bk := D.nx } δ2 G2) ∧ ∀ δ' G', W ds.length δ' G' → D.nx δ' G'
theorem ds_for {tg iter : Expr} {body : List Stmt} {wi : DTI} {g : DTG} (hp : PassesOwn (model X.prog X.w) X.A X.env X.xe) (hc : X.calm = true) (hi : DI X B tg iter wi) (hg : DG X B tg g) (hb : DSs X B body t)
    (hs : ∀ x, foldedSetIterable iter X.env x = pure x := by intro _; rfl) : DS X B (.For tg iter body [] pos) (dFor wi g t) :=
  PS.imp (ps_for hp hc hi hg hb hs) fun D σ H ⟨F, G, δ, R, gd, s, p, f⟩ => by
    refine ⟨F, G, δ, _, gd, s, p, fun ds G1 F1 H1 J ⟨W, w0, turn, fin⟩ l1 g1 dl => ?_⟩
    refine ⟨fun i m σ H => m = ds.length - i ∧ i ≤ ds.length ∧ ∃ F' G' δ', Le F1 F' ∧ Good X.K B F' G' H ∧ Sl X.K F' σ δ' ∧ W i δ' G', ⟨_, rfl, Nat.zero_le _, F1, G1, δ, Le.refl F1, g1, s.le l1, w0⟩, ?_⟩
    rintro i m σ H ⟨rfl, hi, F2, G2, δ2, l2, g2, s2, w2⟩
    by_cases hlt : i < ds.length
    · refine .inr ⟨dl.go i F2 G2 H l2 g2 hlt, fun σ' H' => ∃ F' G' δ', Le F1 F' ∧ Good X.K B F' G' H' ∧ Sl X.K F' σ' δ' ∧ W (i + 1) δ' G',
        fun σ' H' h => ⟨ds.length - (i + 1), by omega, rfl, hlt, h⟩, fun x H' y => ?_⟩
      obtain ⟨F3, l3, g3, i3⟩ := dl.yl i F2 G2 H x H' _ l2 g2 (List.getElem?_eq_getElem hlt) y
      refine ⟨F3, G2, δ2, _, _, g3, s2.le l3, i3, turn i _ δ2 G2 (List.getElem?_eq_getElem hlt) w2, fun δ4 G4 σ4 F4 H4 p4 l4 g4 s4 => ?_⟩
      have l14 : Le F1 F4 := (l2.trans l3).trans l4
      exact ⟨F4, G4, δ4, _, g4, s4, p4, ⟨fun δ5 G5 σ5 F5 H5 p5 l5 g5 s5 => ⟨F5, G5, δ5, l14.trans l5, g5, s5, p5⟩, f.rt.le (l1.trans l14), f.nx.le (l1.trans l14), fun δ5 G5 σ5 F5 H5 p5 l5 g5 s5 => ⟨F5, G5, δ5, l14.trans l5, g5, s5, p5⟩⟩⟩
    · have e : i = ds.length := by omega
      subst e
      exact .inl ⟨dl.st _ F2 G2 H l2 g2 (Nat.le_refl _), f.nx δ2 G2 σ F2 H (fin δ2 G2 w2) (l1.trans l2) g2 s2⟩

/-- a value read otherwise -/
def dFrz (te : DTE) : DTE := fun δ G P => te δ G (dCl P)
theorem d_frz (h : DE X B e te) : DE X B e (dFrz te) := PE.imp h fun σ H Q ⟨F, G, δ, P, g, s, p, c⟩ => ⟨F, G, δ, _, g, s, p, c.cl⟩

/-! ### comprehensions -/
def dYes : DTT := fun _ G P => P true G
theorem wipe_set {σ : L2.St} {v : Option V} {i : Nat} : ∀ {vs : List Nat}, i ∈ vs → wipe (σ.set i v) vs = wipe σ vs
  | w :: vs, h => by
    show (wipe (σ.set i v) vs).set w none = (wipe σ vs).set w none
    by_cases hv : i ∈ vs
    · rw [wipe_set hv]
    · have hw : i = w := by
        rcases List.mem_cons.mp h with z | z
        · exact z
        · exact absurd z hv
      subst hw
      have : ∀ (vs : List Nat), wipe (σ.set i v) vs = (wipe (σ.set i v) vs) := fun _ => rfl
      clear this h
      have key : ∀ (l : List Nat), i ∉ l → wipe (σ.set i v) l = (wipe σ l).set i v := by
        intro l
        induction l with
        | nil => intro _; rfl
        | cons w l ih =>
          intro hl
          show (wipe (σ.set i v) l).set w none = ((wipe σ l).set w none).set i v
          rw [ih (fun z => hl (List.mem_cons_of_mem _ z)), List.set_comm]
          rintro rfl
          exact hl List.mem_cons_self
      rw [key vs hv, List.set_set]
theorem wipe_wipe {σ : L2.St} (vs : List Nat) : wipe (wipe σ vs) vs = wipe σ vs := by
  have h : ∀ (l : List Nat), (∀ w ∈ l, w ∈ vs) → wipe (wipe σ l) vs = wipe σ vs := by
    intro l
    induction l with
    | nil => intro _; rfl
    | cons w l ih =>
      intro hl
      show wipe ((wipe σ l).set w none) vs = wipe σ vs
      rw [wipe_set (hl w List.mem_cons_self), ih fun z hz => hl z (List.mem_cons_of_mem _ hz)]
  exact h vs fun _ z => z
/-- a target that stores into the block's own slots alone -/
def tDGw (K : PySem.W.Frag) (B : Hp) (vs : List Nat) (g : DTG) : TG := fun v σ H Q => ∃ F G δ d R, Good K B F G H ∧ Sl K F σ δ ∧ Is K F v d ∧ g d δ G R ∧ ∀ δ' G' σ' F' H', R δ' G' → Le F F' → Good K B F' G' H' → Sl K F' σ' δ' → wipe σ' vs = wipe σ vs → Q σ' H'
def tDGsw (K : PySem.W.Frag) (B : Hp) (vs : List Nat) (g : DTGs) : TGs := fun us σ H Q => ∃ F G δ ds R, Good K B F G H ∧ Sl K F σ δ ∧ IsL K F us ds ∧ g ds δ G R ∧ ∀ δ' G' σ' F' H', R δ' G' → Le F F' → Good K B F' G' H' → Sl K F' σ' δ' → wipe σ' vs = wipe σ vs → Q σ' H'
theorem dgw_name {vs : List Nat} {i : Nat} {tg : Expr} (h : PG X tg (gName i)) (hi : i ∈ vs := by decide) : PG X tg (tDGw X.K B vs (dgN i)) := PG.imp h fun v σ H Q ⟨F, G, δ, d, R, g, s, i, p, c⟩ => c _ G _ F H p (Le.refl F) g (s.set _ i) (wipe_set hi)
theorem dgsw_nil {vs : List Nat} : PGs X [] (tDGsw X.K B vs dgNil) := PGs.imp pgs_nil fun v σ H Q ⟨F, G, δ, ds, R, g, s, i, ⟨e, p⟩, c⟩ => by
  subst e
  cases i
  exact ⟨rfl, c δ G σ F H p (Le.refl F) g s rfl⟩
theorem dgsw_cons {vs : List Nat} {t : DTG} {u : DTGs} (h1 : PG X e (tDGw X.K B vs t)) (h2 : PGs X es (tDGsw X.K B vs u)) (hs : (assignEach (e :: es) X.env).map (·.2) = assign e X.env :: (assignEach es X.env).map (·.2) := by rfl) : PGs X (e :: es) (tDGsw X.K B vs (dgCons t u)) :=
  PGs.imp (pgs_cons h1 h2 hs) fun v σ H Q ⟨F, G, δ, ds, R, g, s, i, ⟨d, r, e, p⟩, c⟩ => by
    subst e
    cases i with
    | cons i1 i2 => exact ⟨_, _, rfl, F, G, δ, d, _, g, s, i1, p, fun δ' G' σ' F' H' p' l' g' s' e' => ⟨F', G', δ', r, R, g', s', i2.le l', p', fun δ2 G2 σ2 F2 H2 p2 l2 g2 s2 e2 => c δ2 G2 σ2 F2 H2 p2 (l'.trans l2) g2 s2 (e2.trans e')⟩⟩
theorem dgw_tup {vs : List Nat} {k : Nat} {t : DTGs} {n : Nat} (hc : X.calm = true) (h : PGs X es (tDGsw X.K B vs t)) (hn : (assignEach es X.env).length = n := by rfl) (hst : (assignEach es X.env).findIdx? (·.1) = none := by rfl) : PG X (.Tuple es k pos) (tDGw X.K B vs (dgTup n t)) :=
  PG.imp (pg_tup hc h hn hst) fun v σ H Q ⟨F, G, δ, d, R, g, s, i, ⟨ds, e, hl, p⟩, c⟩ => by
    subst e
    cases i with
    | tup q r => exact ⟨_, _, rfl, SqT.of (g.fz _ _ q), by rw [r.length]; exact hl, F, G, δ, ds, R, g, s, r, p, c⟩
abbrev DTs (X : Cx) (B : Hp) (ifs : List Expr) (t : DTT) : Prop := PTs X ifs (tDT X.K B t)
theorem dts_nil : DTs X B [] dYes := ⟨fun pins s σ H Q I ⟨F, G, δ, P, g, sl, p, c⟩ => pts_nil.run pins s σ H Q I (c true G F H p (Le.refl F) g)⟩
theorem dts_one {c : Expr} {t : DTT} (h : DT X B c t) : DTs X B [c] t := pts_one h
def GLe (G G' : Gp) : Prop := ∀ a m, G a = some m → G' a = some m
theorem GLe.refl (G : Gp) : GLe G G := fun _ _ e => e
theorem GLe.trans {G G' G'' : Gp} (h : GLe G G') (h' : GLe G' G'') : GLe G G'' := fun a m e => h' a m (h a m e)
theorem GLe.gupd {G : Gp} {p : Addr} {m : MO} (h : G p = none) : GLe G (gupd G p m) := fun a n e => by rw [gupd_ne (gne e h)]; exact e
/-- [elt for tg in iter if ..]: D the new list, mutable -/
def dLc (wi : DTI) (g : DTG) (tt : DTT) (te : DTE) (vs : List Nat) : DTE := fun δ G P => wi δ G fun ds G1 => ∀ D, G1 D = none → ∃ W : Nat → List Dt → Gp → Prop, W 0 [] (gupd G1 D (.lst [])) ∧
  (∀ i d acc G', ds[i]? = some d → W i acc G' → g d (dwipe δ vs) G' fun δ2 G2 => tt δ2 G2 fun b G3 => if b = true then te δ2 G3 fun y G4 => G4 D = some (.lst acc) ∧ acc.length < sizeLine ∧ W (i + 1) (acc ++ [y]) (gupd G4 D (.lst (acc ++ [y]))) else W (i + 1) acc G3) ∧
  ∀ acc G', W ds.length acc G' → P (.ref D) G'
/-- .. its element and test change nothing; frozen -/
def dLcP (wi : DTI) (g : DTG) (tt : DTT) (te : DTE) (vs : List Nat) : DTE := fun δ G P => wi δ G fun ds G1 => ds.length < sizeLine ∧ ∃ (p : Dt → Bool) (f : Dt → Dt),
  (∀ d G', d ∈ ds → GLe G1 G' → g d (dwipe δ vs) G' fun δ2 G2 => G2 = G' ∧ tt δ2 G2 fun b G3 => G3 = G' ∧ b = p d ∧ (b = true → te δ2 G3 fun y G4 => G4 = G' ∧ y = f d)) ∧ P (.lst ((ds.filter p).map f)) G1
variable {elt tg iter : Expr} {ifs : List Expr} {scope : Scope} {own : List (Str × Nat)} {wi : DTI} {g : DTG} {tt : DTT}
theorem lc_imp {vs : List Nat} (hinj : ∀ a xs ys (H : Hp), H a = some (HO.lst xs) → H a = some (HO.lst ys) → xs = ys) : ∀ σ H Q, tD X.K B (dLc wi g tt te vs) σ H Q → tLc (tDI X.K B wi) (tDGw X.K B vs g) (tDT X.K B tt) (tD X.K B te) vs σ H Q := fun σ H Q ⟨F, G, δ, P, gd, s, p, c⟩ => by
  refine ⟨F, G, δ, _, gd, s, p, fun ds G1 F1 H1 J h1 l1 g1 dl D hD => ?_⟩
  obtain ⟨W, w0, turn, fin⟩ := h1 D (g1.gnone hD)
  refine ⟨fun i m H => m = ds.length - i ∧ i ≤ ds.length ∧ ∃ F' G' acc, Le F1 F' ∧ Good X.K B F' G' H ∧ W i acc G', ⟨_, rfl, Nat.zero_le _, F1, _, [], Le.refl F1, g1.newM hD (m := .lst []) .nil, w0⟩, ?_⟩
  rintro i m H ⟨rfl, hi, F2, G2, acc, l2, g2, w2⟩
  by_cases hlt : i < ds.length
  · refine .inr ⟨dl.go i F2 G2 H l2 g2 hlt, fun H' => ∃ F' G' acc, Le F1 F' ∧ Good X.K B F' G' H' ∧ W (i + 1) acc G', fun H' h => ⟨ds.length - (i + 1), by omega, rfl, hlt, h⟩, fun x H' y => ?_⟩
    obtain ⟨F3, l3, g3, i3⟩ := dl.yl i F2 G2 H x H' _ l2 g2 (List.getElem?_eq_getElem hlt) y
    have l13 : Le F F3 := (l1.trans l2).trans l3
    refine ⟨F3, G2, _, _, _, g3, (s.le l13).wipe vs, i3, turn i _ acc G2 (List.getElem?_eq_getElem hlt) w2, fun δ4 G4 σ4 F4 H4 p4 l4 g4 s4 e4 => ⟨e4.trans (wipe_wipe vs), ?_⟩⟩
    refine ⟨F4, G4, δ4, _, g4, s4, p4, fun b G5 F5 H5 p5 l5 g5 => ?_⟩
    cases b with
    | true =>
      refine ⟨F5, G5, δ4, _, g5, s4.le l5, p5, fun d G6 v F6 H6 ⟨h6, hz, w6⟩ l6 g6 i6 => ?_⟩
      obtain ⟨vs', e6, r6⟩ := g6.mlst h6
      refine ⟨vs', e6, by rw [r6.length]; exact hz, F6, _, _, ((l2.trans l3).trans l4).trans (l5.trans l6), g6.write h6 (o := .lst (vs' ++ [v])) (m := .lst (acc ++ [d])) (r6.append (.one i6)), w6⟩
    | false => exact ⟨F5, G5, acc, ((l2.trans l3).trans l4).trans l5, g5, p5⟩
  · have e : i = ds.length := by omega
    subst e
    exact .inl ⟨dl.st _ F2 G2 H l2 g2 (Nat.le_refl _), c _ G2 _ F2 H (fin acc G2 w2) (l1.trans l2) g2 (.ref D)⟩
theorem filter_take_succ {α : Type} {p : α → Bool} : ∀ {l : List α} {i : Nat} {x : α}, l[i]? = some x → (l.take (i + 1)).filter p = (l.take i).filter p ++ (if p x = true then [x] else [])
  | [], i, x, h => by simp at h
  | a :: l, 0, x, h => by
    have e : a = x := Option.some.inj h
    subst e
    simp [List.filter_cons]
  | a :: l, i + 1, x, h => by
    have ih := filter_take_succ (p := p) (l := l) (i := i) (x := x) h
    show (a :: l.take (i + 1)).filter p = (a :: l.take i).filter p ++ _
    rw [List.filter_cons, List.filter_cons, ih]
    split <;> rfl
theorem lcP_imp {vs : List Nat} : ∀ σ H Q, tD X.K B (dLcP wi g tt te vs) σ H Q → tLc (tDI X.K B wi) (tDGw X.K B vs g) (tDT X.K B tt) (tD X.K B te) vs σ H Q := fun σ H Q ⟨F, G, δ, P, gd, s, p, c⟩ => by
  refine ⟨F, G, δ, _, gd, s, p, fun ds G1 F1 H1 J ⟨hz, pp, ff, turn, fin⟩ l1 g1 dl D hD => ?_⟩
  have gD := g1.gnone hD
  refine ⟨fun i m H => m = ds.length - i ∧ i ≤ ds.length ∧ ∃ F', Le F1 F' ∧ Good X.K B F' (gupd G1 D (.lst (((ds.take i).filter pp).map ff))) H, ⟨_, rfl, Nat.zero_le _, F1, Le.refl F1, g1.newM hD (m := .lst []) .nil⟩, ?_⟩
  rintro i m H ⟨rfl, hi, F2, l2, g2⟩
  by_cases hlt : i < ds.length
  · have hd := List.getElem?_eq_getElem hlt
    refine .inr ⟨dl.go i F2 _ H l2 g2 hlt, fun H' => ∃ F', Le F1 F' ∧ Good X.K B F' (gupd G1 D (.lst (((ds.take (i + 1)).filter pp).map ff))) H', fun H' h => ⟨ds.length - (i + 1), by omega, rfl, hlt, h⟩, fun x H' y => ?_⟩
    obtain ⟨F3, l3, g3, i3⟩ := dl.yl i F2 _ H x H' _ l2 g2 hd y
    have l13 : Le F F3 := (l1.trans l2).trans l3
    refine ⟨F3, _, _, _, _, g3, (s.le l13).wipe vs, i3, turn _ _ (List.getElem_mem hlt) (GLe.gupd gD), fun δ4 G4 σ4 F4 H4 p4 l4 g4 s4 e4 => ⟨e4.trans (wipe_wipe vs), ?_⟩⟩
    obtain ⟨rfl, p4⟩ := p4
    refine ⟨F4, _, δ4, _, g4, s4, p4, fun b G5 F5 H5 p5 l5 g5 => ?_⟩
    obtain ⟨rfl, hb, p5⟩ := p5
    have lens : (((ds.take i).filter pp).map ff).length < sizeLine := by
      rw [List.length_map]
      refine Nat.lt_of_le_of_lt (Nat.le_trans (List.length_filter_le _ _) ?_) hz
      rw [List.length_take]
      exact Nat.min_le_right _ _
    cases b with
    | true =>
      refine ⟨F5, _, δ4, _, g5, s4.le l5, p5 rfl, fun d G6 v F6 H6 ⟨e6, hy⟩ l6 g6 i6 => ?_⟩
      subst e6
      subst hy
      obtain ⟨vs', e6, r6⟩ := g6.mlst gupd_same
      refine ⟨vs', e6, by rw [r6.length]; exact lens, F6, ((l2.trans l3).trans l4).trans (l5.trans l6), ?_⟩
      have w := g6.write gupd_same (o := .lst (vs' ++ [v])) (m := .lst (((ds.take i).filter pp).map ff ++ [ff ds[i]])) (r6.append (.one i6))
      rw [gupd_gupd] at w
      rw [filter_take_succ hd, if_pos hb.symm, List.map_append]
      exact w
    | false =>
      rw [if_neg Bool.false_ne_true]
      refine ⟨F5, ((l2.trans l3).trans l4).trans l5, ?_⟩
      rw [filter_take_succ hd, if_neg (by rw [← hb]; exact Bool.false_ne_true), List.append_nil]
      exact g5
  · have e : i = ds.length := by omega
    subst e
    rw [List.take_length] at g2
    refine .inl ⟨dl.st _ F2 _ H l2 g2 (Nat.le_refl _), ?_⟩
    obtain ⟨F4, l4, g4, i4⟩ := g2.freezeL gupd_same
    rw [gdel_gupd gD] at g4
    exact c _ G1 _ F4 H fin ((l1.trans l2).trans l4) g4 i4
theorem d_lc (hc : X.calm = true) (hN : X.N.Nodup) (hi : DI X B tg iter wi) (ok : BlkOk X.N X.env.scope scope own)
    (hg : ∀ (s : Shared) (H : Hp) (C : Addr) (cl : List (Str × Addr)) (fp : List Addr), PG (X.blk s H scope (compEnvC scope cl C X.env) fp) tg (tDGw X.K B (own.map (·.2)) g)) (ht : ∀ (s : Shared) (H : Hp) (C : Addr) (cl : List (Str × Addr)) (fp : List Addr), PTs (X.blk s H scope (compEnvC scope cl C X.env) fp) ifs (tDT X.K B tt))
    (he : ∀ (s : Shared) (H : Hp) (C : Addr) (cl : List (Str × Addr)) (fp : List Addr), PE (X.blk s H scope (compEnvC scope cl C X.env) fp) elt (tD X.K B te)) (hs : ∀ x, foldedSetIterable iter X.env x = pure x := by intro _; rfl) :
    DE X B (.ListComp elt [⟨tg, iter, ifs, 0⟩] scope pos) (dLc wi g tt te (own.map (·.2))) := PE.imp (pe_lc hc hN hi ok hg ht he hs) (lc_imp fun a xs ys H h1 h2 => by rw [h1] at h2; cases h2; rfl)
theorem d_lcP (hc : X.calm = true) (hN : X.N.Nodup) (hi : DI X B tg iter wi) (ok : BlkOk X.N X.env.scope scope own)
    (hg : ∀ (s : Shared) (H : Hp) (C : Addr) (cl : List (Str × Addr)) (fp : List Addr), PG (X.blk s H scope (compEnvC scope cl C X.env) fp) tg (tDGw X.K B (own.map (·.2)) g)) (ht : ∀ (s : Shared) (H : Hp) (C : Addr) (cl : List (Str × Addr)) (fp : List Addr), PTs (X.blk s H scope (compEnvC scope cl C X.env) fp) ifs (tDT X.K B tt))
    (he : ∀ (s : Shared) (H : Hp) (C : Addr) (cl : List (Str × Addr)) (fp : List Addr), PE (X.blk s H scope (compEnvC scope cl C X.env) fp) elt (tD X.K B te)) (hs : ∀ x, foldedSetIterable iter X.env x = pure x := by intro _; rfl) :
    DE X B (.ListComp elt [⟨tg, iter, ifs, 0⟩] scope pos) (dLcP wi g tt te (own.map (·.2))) := PE.imp (pe_lc hc hN hi ok hg ht he hs) lcP_imp
/-- name = [..] -/
theorem ds_setLc {i : Nat} {y : Str} {py spos : Pos} (hc : X.calm = true) (hN : X.N.Nodup) (hy : X.N[i]? = some y) (hyl : X.env.scope.names.lookup y = some .local)
    (hsw : swapsWith (.ListComp elt [⟨tg, iter, ifs, 0⟩] scope pos) (some (.Name y py)) spos.line X.env = pure true) (hi : DI X B tg iter wi) (ok : BlkOk X.N X.env.scope scope own)
    (hg : ∀ (s : Shared) (H : Hp) (C : Addr) (cl : List (Str × Addr)) (fp : List Addr), PG (X.blk s H scope (compEnvC scope cl C X.env) fp) tg (tDGw X.K B (own.map (·.2)) g)) (ht : ∀ (s : Shared) (H : Hp) (C : Addr) (cl : List (Str × Addr)) (fp : List Addr), PTs (X.blk s H scope (compEnvC scope cl C X.env) fp) ifs (tDT X.K B tt))
    (he : ∀ (s : Shared) (H : Hp) (C : Addr) (cl : List (Str × Addr)) (fp : List Addr), PE (X.blk s H scope (compEnvC scope cl C X.env) fp) elt (tD X.K B te)) (hs : ∀ x, foldedSetIterable iter X.env x = pure x := by intro _; rfl) :
    DS X B (.Assign [.Name y py] (.ListComp elt [⟨tg, iter, ifs, 0⟩] scope pos) spos) (dSt i (dLc wi g tt te (own.map (·.2)))) :=
  ds_set0 _ (L2.ps_setLc hc hN hy hyl hsw hi ok hg ht he hs) (lc_imp fun a xs ys H h1 h2 => by rw [h1] at h2; cases h2; rfl)
theorem ds_setLcP {i : Nat} {y : Str} {py spos : Pos} (hc : X.calm = true) (hN : X.N.Nodup) (hy : X.N[i]? = some y) (hyl : X.env.scope.names.lookup y = some .local)
    (hsw : swapsWith (.ListComp elt [⟨tg, iter, ifs, 0⟩] scope pos) (some (.Name y py)) spos.line X.env = pure true) (hi : DI X B tg iter wi) (ok : BlkOk X.N X.env.scope scope own)
    (hg : ∀ (s : Shared) (H : Hp) (C : Addr) (cl : List (Str × Addr)) (fp : List Addr), PG (X.blk s H scope (compEnvC scope cl C X.env) fp) tg (tDGw X.K B (own.map (·.2)) g)) (ht : ∀ (s : Shared) (H : Hp) (C : Addr) (cl : List (Str × Addr)) (fp : List Addr), PTs (X.blk s H scope (compEnvC scope cl C X.env) fp) ifs (tDT X.K B tt))
    (he : ∀ (s : Shared) (H : Hp) (C : Addr) (cl : List (Str × Addr)) (fp : List Addr), PE (X.blk s H scope (compEnvC scope cl C X.env) fp) elt (tD X.K B te)) (hs : ∀ x, foldedSetIterable iter X.env x = pure x := by intro _; rfl) :
    DS X B (.Assign [.Name y py] (.ListComp elt [⟨tg, iter, ifs, 0⟩] scope pos) spos) (dSt i (dLcP wi g tt te (own.map (·.2)))) :=
  ds_set0 _ (L2.ps_setLc hc hN hy hyl hsw hi ok hg ht he hs) lcP_imp
end
end DL

set_option Elab.async false
set_option linter.all false
set_option maxRecDepth 100000
namespace DL
open PySem PySem.Spec L2
section
variable {X : Cx} {B : Hp} {e a b o : Expr} {es : List Expr} {st : Stmt} {rest : List Stmt} {pos : Pos} {ta tb te to : DTE} {tl : DTA} {t u : DTS}

/-! ### truth: and, or, not, if-else, chains -/
structure DW (X : Cx) (B : Hp) (e : Expr) (t : DTT) : Prop where
  w : PW X e (tDT X.K B t)
theorem DW.dt {t : DTT} (h : DW X B e t) : DT X B e t := h.w.pt
def dAnd (t u : DTT) : DTT := fun δ G P => t δ G fun c G1 => if c = true then u δ G1 P else P false G1
def dOr (t u : DTT) : DTT := fun δ G P => t δ G fun c G1 => if c = true then P true G1 else u δ G1 P
def dNot (t : DTT) : DTT := fun δ G P => t δ G fun c G1 => P (!c) G1
variable {tA tB : DTT}
theorem dw_and1 (ha : DT X B a tA) : DW X B (.BoolOp .And [a] pos) tA := ⟨pw_and1 ha⟩
theorem dw_or1 (ha : DT X B a tA) : DW X B (.BoolOp .Or [a] pos) tA := ⟨pw_or1 ha⟩
theorem dw_and (ha : DT X B a tA) (hb : DW X B (.BoolOp .And (b :: es) pos) tB) : DW X B (.BoolOp .And (a :: b :: es) pos) (dAnd tA tB) := ⟨PW.imp (pw_and ha hb.w) fun σ H Q ⟨F, G, δ, P, g, s, p, c⟩ =>
  ⟨F, G, δ, _, g, s, p, fun k G' F' H' p' l g' => by
    cases k with
    | true => exact ⟨F', G', δ, P, g', s.le l, p', c.le l⟩
    | false => exact c false G' F' H' p' l g'⟩⟩
theorem dw_or (ha : DT X B a tA) (hb : DW X B (.BoolOp .Or (b :: es) pos) tB) : DW X B (.BoolOp .Or (a :: b :: es) pos) (dOr tA tB) := ⟨PW.imp (pw_or ha hb.w) fun σ H Q ⟨F, G, δ, P, g, s, p, c⟩ =>
  ⟨F, G, δ, _, g, s, p, fun k G' F' H' p' l g' => by
    cases k with
    | true => exact c true G' F' H' p' l g'
    | false => exact ⟨F', G', δ, P, g', s.le l, p', c.le l⟩⟩⟩
theorem dt_not (ha : DT X B a tA) : DT X B (.UnaryOp .Not a pos) (dNot tA) := PT.imp (pt_not ha) fun σ H Q ⟨F, G, δ, P, g, s, p, c⟩ =>
  ⟨F, G, δ, _, g, s, p, fun k G' F' H' p' l g' => c _ G' F' H' p' l g'⟩
def dAndV (ta tb : DTE) : DTE := fun δ G P => ta δ G fun x G1 => ∃ c, x = .bl c ∧ if c = true then tb δ G1 P else P (.bl false) G1
def dOrV (ta tb : DTE) : DTE := fun δ G P => ta δ G fun x G1 => ∃ c, x = .bl c ∧ if c = true then P (.bl true) G1 else tb δ G1 P
def dNotV (ta : DTE) : DTE := fun δ G P => ta δ G fun x G1 => ∃ c, x = .bl c ∧ P (.bl (!c)) G1
theorem d_one {op} (h : DE X B a te) : DE X B (.BoolOp op [a] pos) te := pe_one h
theorem d_and (ha : DE X B a ta) (hb : DE X B (.BoolOp .And (b :: es) pos) tb) : DE X B (.BoolOp .And (a :: b :: es) pos) (dAndV ta tb) := PE.imp (pe_and ha hb) fun σ H Q ⟨F, G, δ, P, g, s, p, c⟩ =>
  ⟨F, G, δ, _, g, s, p, fun d G' v F' H' ⟨k, e, p'⟩ l g' i => by
    subst e
    cases i
    refine ⟨k, rfl, ?_⟩
    cases k with
    | true => exact ⟨F', G', δ, P, g', s.le l, p', c.le l⟩
    | false => exact c _ G' _ F' H' p' l g' (.bl _)⟩
theorem d_or (ha : DE X B a ta) (hb : DE X B (.BoolOp .Or (b :: es) pos) tb) : DE X B (.BoolOp .Or (a :: b :: es) pos) (dOrV ta tb) := PE.imp (pe_or ha hb) fun σ H Q ⟨F, G, δ, P, g, s, p, c⟩ =>
  ⟨F, G, δ, _, g, s, p, fun d G' v F' H' ⟨k, e, p'⟩ l g' i => by
    subst e
    cases i
    refine ⟨k, rfl, ?_⟩
    cases k with
    | true => exact c _ G' _ F' H' p' l g' (.bl _)
    | false => exact ⟨F', G', δ, P, g', s.le l, p', c.le l⟩⟩
theorem d_not (ha : DE X B a ta) : DE X B (.UnaryOp .Not a pos) (dNotV ta) := PE.imp (pe_not ha) fun σ H Q ⟨F, G, δ, P, g, s, p, c⟩ =>
  ⟨F, G, δ, _, g, s, p, fun d G' v F' H' ⟨k, e, p'⟩ l g' i => by
    subst e
    cases i
    exact ⟨k, rfl, c _ G' _ F' H' p' l g' (.bl _)⟩⟩
def dIfE (t : DTT) (ta tb : DTE) : DTE := fun δ G P => t δ G fun c G1 => if c = true then ta δ G1 P else tb δ G1 P
theorem d_ifExp {c : Expr} (hc : DT X B c tA) (ha : DE X B a ta) (hb : DE X B b tb) : DE X B (.IfExp c a b pos) (dIfE tA ta tb) := PE.imp (pe_ifExp hc ha hb) fun σ H Q ⟨F, G, δ, P, g, s, p, c⟩ =>
  ⟨F, G, δ, _, g, s, p, fun k G' F' H' p' l g' => by
    cases k with
    | true => exact ⟨F', G', δ, P, g', s.le l, p', c.le l⟩
    | false => exact ⟨F', G', δ, P, g', s.le l, p', c.le l⟩⟩
/-- a op b op' c -/
def dChain (r r' : DR2) (ta tb tc : DTE) : DTE := fun δ G P => ta δ G fun x G1 => tb δ G1 fun y G2 => r x y G2 fun z G3 => ∃ k, z = .bl k ∧ if k = true then tc δ G3 fun w G4 => r' y w G4 P else P (.bl false) G3
theorem chain_imp {tc : DTE} {r r' : DR2} {q q' : R2} (hs : Serves X.K B q r) (hs' : Serves X.K B q' r') : ∀ σ H Q, tD X.K B (dChain r r' ta tb tc) σ H Q → tChain q q' (tD X.K B ta) (tD X.K B tb) (tD X.K B tc) σ H Q := fun σ H Q ⟨F, G, δ, P, g, s, p, c⟩ =>
  ⟨F, G, δ, _, g, s, p, fun x G1 vx F1 H1 p1 l1 g1 i1 => ⟨F1, G1, δ, _, g1, s.le l1, p1, fun y G2 vy F2 H2 p2 l2 g2 i2 =>
    hs F2 G2 H2 vx vy x y _ _ g2 (i1.le l2) i2 p2 fun z G3 vz F3 H3 ⟨k, ek, p3⟩ l3 g3 i3 => by
      subst ek
      cases i3
      refine ⟨k, rfl, ?_⟩
      have l13 := (l1.trans l2).trans l3
      cases k with
      | true =>
        exact ⟨F3, G3, δ, _, g3, s.le l13, p3, fun w G4 vw F4 H4 p4 l4 g4 i4 => hs' F4 G4 H4 vy vw y w P Q g4 (i2.le (l3.trans l4)) i4 p4 (c.le (l13.trans l4))⟩
      | false => exact c _ G3 _ F3 H3 p3 l13 g3 (.bl _)⟩⟩
theorem d_chain {c : Expr} {tc : DTE} {op op' : CmpOp} {r r' : DR2} (ho : DOp X B (compareOp op) r) (ho' : DOp X B (compareOp op') r') (ha : DE X B a ta) (hb : DE X B b tb) (hc : DE X B c tc)
    (hm : lastMarks [op, op'] [b, c] = false := by rfl) : DE X B (.Compare a [op, op'] [b, c] pos) (dChain r r' ta tb tc) := by
  obtain ⟨q, h1, h2⟩ := ho.ex
  obtain ⟨q', h1', h2'⟩ := ho'.ex
  exact PE.imp (pe_chain h1 h1' ha hb hc hm) (chain_imp h2 h2')

/-! ### lists, tuples: what may be read -/
def asL (G : Gp) : Dt → Option (List Dt)
  | .lst xs => some xs
  | .ref a => match G a with
    | some (.lst xs) => some xs
    | _ => none
  | _ => none
def asQ (G : Gp) : Dt → Option (List Dt)
  | .tup xs => some xs
  | .scr ns => some (ns.map Dt.int)
  | d => asL G d
section
variable {K : PySem.W.Frag} {B F : Hp} {G : Gp} {H : Hp} {v : V} {d : Dt} {ds : List Dt}
theorem asL_is (g : Good K B F G H) (i : Is K F v d) (h : asL G d = some ds) : ∃ p vs, v = .ref p ∧ H p = some (.lst vs) ∧ IsL K F vs ds := by
  cases i with
  | lst e r =>
    cases h
    exact ⟨_, _, rfl, g.fz _ _ e, r⟩
  | ref a =>
    unfold asL at h
    dsimp only at h
    split at h
    · rename_i xs e
      cases h
      obtain ⟨vs, e1, r⟩ := g.mlst e
      exact ⟨_, vs, rfl, e1, r⟩
    · cases h
  | _ => cases h
theorem asQ_is (g : Good K B F G H) (i : Is K F v d) (h : asQ G d = some ds) : ∃ p vs, v = .ref p ∧ (SqL K H p vs ∨ SqT K H p vs) ∧ IsL K F vs ds := by
  cases i with
  | tup e r =>
    cases h
    exact ⟨_, _, rfl, .inr (SqT.of (g.fz _ _ e)), r⟩
  | scr q =>
    cases h
    exact ⟨_, _, rfl, .inl (g.sql q), .ints _⟩
  | lst e r =>
    obtain ⟨p, vs, e1, e2, r'⟩ := asL_is g (.lst e r) h
    exact ⟨p, vs, e1, .inl (SqL.of e2), r'⟩
  | ref a =>
    obtain ⟨p, vs, e1, e2, r'⟩ := asL_is g (.ref a) h
    exact ⟨p, vs, e1, .inl (SqL.of e2), r'⟩
  | _ => cases h
end

/-! ### built-ins, by data -/
abbrev DR := List Dt → Gp → DK → Prop
structure DCall (X : Cx) (B : Hp) (f : Value) (r : DR) : Prop where
  ex : ∃ r', CallR X f r' ∧ ∀ F G H vs ds P Q, Good X.K B F G H → IsL X.K F vs ds → r ds G P → Cont X.K B F P Q → r' vs H Q
def dCB (r : DR) (t : DTA) : DTE := fun δ G P => t δ G fun ds G1 => r ds G1 P
theorem d_callB {x : Str} {p : Pos} {id : String} {r : DR} (hc : DCall X B (.builtin id) r) (hg : Gl X x) (hm : X.mg x = none) (hv : bootBuiltins x = some (.builtin id)) (ha : DA X B (e :: es) tl) (hn : x ≠ "__name__" := by decide) (hdb : (x == ("__debug__" : Str)) = false := by decide)
    (he : starEach (e :: es) X.env = (false, eval e X.env) :: starEach es X.env := by rfl) (hpl : (backTo pos (starEach es X.env)).any (·.1) = false := by rfl) : DE X B (.Call (.Name x p) (e :: es) [] pos) (dCB r tl) := by
  obtain ⟨r', h1, h2⟩ := hc.ex
  exact PE.imp (pe_callB h1 hg hm hv ha hn hdb he hpl) fun σ H Q ⟨F, G, δ, P, g, s, q, c⟩ => ⟨F, G, δ, _, g, s, q, fun ds G1 vs F1 H1 p1 l1 g1 i1 => h2 F1 G1 H1 vs ds P Q g1 i1 p1 (c.le l1)⟩
theorem d_callTy {x : Str} {p : Pos} {T : String} {r : DR} (hc : DCall X B (.type T) r) (hg : Gl X x) (hm : X.mg x = none) (hv : bootBuiltins x = some (.type T)) (ha : DA X B (e :: es) tl) (hn : x ≠ "__name__" := by decide) (hdb : (x == ("__debug__" : Str)) = false := by decide)
    (he : starEach (e :: es) X.env = (false, eval e X.env) :: starEach es X.env := by rfl) (hpl : (backTo pos (starEach es X.env)).any (·.1) = false := by rfl) : DE X B (.Call (.Name x p) (e :: es) [] pos) (dCB r tl) := by
  obtain ⟨r', h1, h2⟩ := hc.ex
  exact PE.imp (pe_callTy h1 hg hm hv ha hn hdb he hpl) fun σ H Q ⟨F, G, δ, P, g, s, q, c⟩ => ⟨F, G, δ, _, g, s, q, fun ds G1 vs F1 H1 p1 l1 g1 i1 => h2 F1 G1 H1 vs ds P Q g1 i1 p1 (c.le l1)⟩
/-- len -/
def rLen : DR := fun ds G P => ∃ d xs, ds = [d] ∧ asQ G d = some xs ∧ P (.int xs.length) G
theorem c_len : DCall X B (.builtin "len") rLen := ⟨_, call_len_seq, fun F G H vs ds P Q g i ⟨d, xs, e, h, p⟩ c => by
  subst e
  cases i with
  | cons i1 i2 =>
    cases i2
    obtain ⟨q, ws, rfl, e2, r⟩ := asQ_is g i1 h
    exact ⟨q, ws, rfl, e2, by rw [r.length]; exact c _ G _ F H p (Le.refl F) g (.int _)⟩⟩
/-- list(xs), frozen; mutable -/
def rList : DR := fun ds G P => ∃ d xs, ds = [d] ∧ asQ G d = some xs ∧ P (.lst xs) G
def rListM : DR := fun ds G P => ∃ d xs, ds = [d] ∧ asQ G d = some xs ∧ ∀ p, G p = none → P (.ref p) (gupd G p (.lst xs))
theorem c_list : DCall X B (.type "list") rList := ⟨_, call_list_of, fun F G H vs ds P Q g i ⟨d, xs, e, h, p⟩ c => by
  subst e
  cases i with
  | cons i1 i2 =>
    cases i2
    obtain ⟨q, ws, rfl, e2, r⟩ := asQ_is g i1 h
    refine ⟨q, ws, rfl, e2, fun l hl => ?_⟩
    obtain ⟨l2, g2⟩ := g.newF hl (.lst ws)
    exact c _ _ _ _ _ p l2 g2 (.lst upd_same (r.le l2))⟩
theorem c_listM : DCall X B (.type "list") rListM := ⟨_, call_list_of, fun F G H vs ds P Q g i ⟨d, xs, e, h, p⟩ c => by
  subst e
  cases i with
  | cons i1 i2 =>
    cases i2
    obtain ⟨q, ws, rfl, e2, r⟩ := asQ_is g i1 h
    refine ⟨q, ws, rfl, e2, fun l hl => ?_⟩
    exact c _ _ _ _ _ (p l (g.gnone hl)) (Le.refl F) (g.newM hl (m := .lst xs) r) (.ref l)⟩
/-- tuple(xs), xs a list -/
def rTuple : DR := fun ds G P => ∃ d xs, ds = [d] ∧ asL G d = some xs ∧ P (.tup xs) G
theorem c_tuple : DCall X B (.type "tuple") rTuple := ⟨_, call_tuple_of, fun F G H vs ds P Q g i ⟨d, xs, e, h, p⟩ c => by
  subst e
  cases i with
  | cons i1 i2 =>
    cases i2
    obtain ⟨q, ws, rfl, e2, r⟩ := asL_is g i1 h
    refine ⟨q, ws, rfl, .inl ⟨SqL.of e2, fun l hl => ?_⟩⟩
    obtain ⟨l2, g2⟩ := g.newF hl (.tup ws)
    exact c _ _ _ _ _ p l2 g2 (.tup upd_same (r.le l2))⟩
/-- min, max of two ints -/
def rMin2 : DR := fun ds G P => ∃ i j, ds = [.int i, .int j] ∧ P (.int (min i j)) G
def rMax2 : DR := fun ds G P => ∃ i j, ds = [.int i, .int j] ∧ P (.int (max i j)) G
theorem c_min2 (hc : X.calm = true) : DCall X B (.builtin "min") rMin2 := ⟨_, call_min2 hc, fun F G H vs ds P Q g i ⟨x, y, e, p⟩ c => by
  subst e
  cases i with
  | cons i1 i2 =>
    cases i2 with
    | cons i2 i3 =>
      cases i1; cases i2; cases i3
      refine ⟨x, y, rfl, c _ G _ F H p (Le.refl F) g ?_⟩
      have e : (if y < x then y else x) = min x y := by
        rw [Int.min_def]
        by_cases h : y < x
        · rw [if_pos h, if_neg (by omega)]
        · rw [if_neg h, if_pos (by omega)]
      rw [e]
      exact .int _⟩
theorem c_max2 (hc : X.calm = true) : DCall X B (.builtin "max") rMax2 := ⟨_, call_max2 hc, fun F G H vs ds P Q g i ⟨x, y, e, p⟩ c => by
  subst e
  cases i with
  | cons i1 i2 =>
    cases i2 with
    | cons i2 i3 =>
      cases i1; cases i2; cases i3
      refine ⟨x, y, rfl, c _ G _ F H p (Le.refl F) g ?_⟩
      have e : (if y > x then y else x) = max x y := by
        rw [Int.max_def]
        by_cases h : y > x
        · rw [if_pos h, if_pos (by omega)]
        · rw [if_neg h]
          by_cases h2 : x ≤ y
          · rw [if_pos h2]; omega
          · rw [if_neg h2]
      rw [e]
      exact .int _⟩
/-- min, max of a list of ints -/
def rMinL : DR := fun ds G P => ∃ (d : Dt) (ns : List Int), ds = [d] ∧ asL G d = some (ns.map Dt.int) ∧ 0 < ns.length ∧ ∀ m, m ∈ ns → (∀ y ∈ ns, m ≤ y) → P (.int m) G
def rMaxL : DR := fun ds G P => ∃ (d : Dt) (ns : List Int), ds = [d] ∧ asL G d = some (ns.map Dt.int) ∧ 0 < ns.length ∧ ∀ m, m ∈ ns → (∀ y ∈ ns, y ≤ m) → P (.int m) G
theorem c_minL (hc : X.calm = true) : DCall X B (.builtin "min") rMinL := ⟨_, cr_min hc, fun F G H vs ds P Q g i ⟨d, ns, e, h, hl, p⟩ c => by
  subst e
  cases i with
  | cons i1 i2 =>
    cases i2
    obtain ⟨q, ws, rfl, e2, r⟩ := asL_is g i1 h
    cases r.ints_inv
    exact ⟨q, ns, rfl, SqL.of e2, hl, fun m hm hle => c _ G _ F H (p m hm hle) (Le.refl F) g (.int m)⟩⟩
theorem c_maxL (hc : X.calm = true) : DCall X B (.builtin "max") rMaxL := ⟨_, cr_max hc, fun F G H vs ds P Q g i ⟨d, ns, e, h, hl, p⟩ c => by
  subst e
  cases i with
  | cons i1 i2 =>
    cases i2
    obtain ⟨q, ws, rfl, e2, r⟩ := asL_is g i1 h
    cases r.ints_inv
    exact ⟨q, ns, rfl, SqL.of e2, hl, fun m hm hle => c _ G _ F H (p m hm hle) (Le.refl F) g (.int m)⟩⟩
/-- sum of a list of ints -/
def rSumL : DR := fun ds G P => ∃ (d : Dt) (ns : List Int), ds = [d] ∧ asL G d = some (ns.map Dt.int) ∧ P (.int ns.sum) G
theorem c_sum (hc : X.calm = true) : DCall X B (.builtin "sum") rSumL := ⟨_, cr_sum hc, fun F G H vs ds P Q g i ⟨d, ns, e, h, p⟩ c => by
  subst e
  cases i with
  | cons i1 i2 =>
    cases i2
    obtain ⟨q, ws, rfl, e2, r⟩ := asL_is g i1 h
    cases r.ints_inv
    exact ⟨q, ns, rfl, SqL.of e2, c _ G _ F H p (Le.refl F) g (.int _)⟩⟩
/-- all, any of a list of truths -/
def rAllL : DR := fun ds G P => ∃ (d : Dt) (bs : List Bool), ds = [d] ∧ asL G d = some (bs.map Dt.bl) ∧ P (.bl (bs.all id)) G
def rAnyL : DR := fun ds G P => ∃ (d : Dt) (bs : List Bool), ds = [d] ∧ asL G d = some (bs.map Dt.bl) ∧ P (.bl (bs.any id)) G
theorem c_all (hc : X.calm = true) : DCall X B (.builtin "all") rAllL := ⟨_, cr_all hc, fun F G H vs ds P Q g i ⟨d, ns, e, h, p⟩ c => by
  subst e
  cases i with
  | cons i1 i2 =>
    cases i2
    obtain ⟨q, ws, rfl, e2, r⟩ := asL_is g i1 h
    cases r.bls_inv
    exact ⟨q, ns, rfl, SqL.of e2, c _ G _ F H p (Le.refl F) g (.bl _)⟩⟩
theorem c_any (hc : X.calm = true) : DCall X B (.builtin "any") rAnyL := ⟨_, cr_any hc, fun F G H vs ds P Q g i ⟨d, ns, e, h, p⟩ c => by
  subst e
  cases i with
  | cons i1 i2 =>
    cases i2
    obtain ⟨q, ws, rfl, e2, r⟩ := asL_is g i1 h
    cases r.bls_inv
    exact ⟨q, ns, rfl, SqL.of e2, c _ G _ F H p (Le.refl F) g (.bl _)⟩⟩
/-- sorted of ints; of pairs of ints -/
def rSortI : DR := fun ds G P => ∃ (d : Dt) (ns : List Int), ds = [d] ∧ asL G d = some (ns.map Dt.int) ∧ ∀ ns' : List Int, ns'.Perm ns → ns'.Pairwise (· ≤ ·) → P (.lst (ns'.map Dt.int)) G
theorem c_sortI : DCall X B (.builtin "sorted") rSortI := ⟨_, cr_sortedI, fun F G H vs ds P Q g i ⟨d, ns, e, h, p⟩ c => by
  subst e
  cases i with
  | cons i1 i2 =>
    cases i2
    obtain ⟨q, ws, rfl, e2, r⟩ := asL_is g i1 h
    cases r.ints_inv
    refine ⟨q, ns, rfl, SqL.of e2, fun ns' l hp hs hl => ?_⟩
    obtain ⟨l2, g2⟩ := g.newF hl (.lst (ns'.map V.int))
    exact c _ _ _ _ _ (p ns' hp hs) l2 g2 (.lst upd_same (.ints ns'))⟩
def pairD (p : Int × Int) : Dt := .tup [.int p.1, .int p.2]
def leP (p q : Int × Int) : Prop := p.1 < q.1 ∨ (p.1 = q.1 ∧ p.2 ≤ q.2)
def rSortP : DR := fun ds G P => ∃ (d : Dt) (ns : List (Int × Int)), ds = [d] ∧ asL G d = some (ns.map pairD) ∧ ∀ ns' : List (Int × Int), ns'.Perm ns → ns'.Pairwise leP → P (.lst (ns'.map pairD)) G
/-- abs -/
def rAbs : DR := fun ds G P => ∃ i : Int, ds = [.int i] ∧ P (.int (if i < 0 then -i else i)) G
theorem c_abs : DCall X B (.builtin "abs") rAbs := ⟨_, call_abs, fun F G H vs ds P Q g i ⟨x, e, p⟩ c => by
  subst e
  cases i with
  | cons i1 i2 =>
    cases i1; cases i2
    exact ⟨x, rfl, c _ G _ F H p (Le.refl F) g (.int _)⟩⟩
theorem CallR.or {f : Value} {r1 r2 : List V → Hp → VK → Prop} (h1 : CallR X f r1) (h2 : CallR X f r2) : CallR X f (fun xs H Q => r1 xs H Q ∨ r2 xs H Q) := by
  intro pins s σ H xs us Q I r h
  rcases h with h | h
  · exact h1 pins s σ H xs us Q I r h
  · exact h2 pins s σ H xs us Q I r h
theorem DCall.or {f : Value} {r1 r2 : DR} (h1 : DCall X B f r1) (h2 : DCall X B f r2) : DCall X B f (fun xs G P => r1 xs G P ∨ r2 xs G P) := by
  obtain ⟨q1, a1, b1⟩ := h1.ex
  obtain ⟨q2, a2, b2⟩ := h2.ex
  refine ⟨_, CallR.or a1 a2, fun F G H vs ds P Q g i h c => ?_⟩
  rcases h with h | h
  · exact .inl (b1 F G H vs ds P Q g i h c)
  · exact .inr (b2 F G H vs ds P Q g i h c)

/-! ### places -/
def rIxQ : DR2 := fun x y G P => ∃ xs i d, y = .int i ∧ asQ G x = some xs ∧ atI xs i = some d ∧ P d G
theorem o_ix : ∃ r', IxR X r' ∧ Serves X.K B r' rIxQ := ⟨_, ix_seq, fun F G H v w x y P Q g rx ry ⟨xs, i, d, e, h, ha, p⟩ c => by
  subst e
  cases ry
  obtain ⟨q, vs, rfl, e2, r⟩ := asQ_is g rx h
  have ha' : ∃ z, atI vs i = some z ∧ Is X.K F z d := by
    unfold atI at ha ⊢
    rw [r.length]
    cases e3 : ixN xs.length i with
    | none => rw [e3] at ha; cases ha
    | some j =>
      rw [e3] at ha
      exact r.get ha
  obtain ⟨z, hz, iz⟩ := ha'
  have fin := c _ G z F H p (Le.refl F) g iz
  rcases e2 with e2 | e2
  · exact .inl ⟨q, vs, i, z, rfl, rfl, e2, hz, fin⟩
  · exact .inr (.inl ⟨q, vs, i, z, rfl, rfl, e2, hz, fin⟩)⟩
theorem d_ix (ha : DE X B a ta) (hb : DE X B b tb) (hs : PlainIx b) : DE X B (.Subscript a b pos) (dOp rIxQ ta tb) := by
  obtain ⟨r', h1, h2⟩ := o_ix (X := X) (B := B)
  exact PE.imp (pe_ix h1 ha hb hs) (dop_imp h2)
def sSet : DTSet := fun o i d G Q => ∃ a xs k j, o = .ref a ∧ i = .int k ∧ G a = some (.lst xs) ∧ ixN xs.length k = some j ∧ Q (gupd G a (.lst (xs.set j d)))
theorem s_set : DSet X B sSet := ⟨_, set_list, fun F G H vo vi v o i d P Q g ro ri rd ⟨a, xs, k, j, e1, e2, h, hj, p⟩ c => by
  subst e1; subst e2
  cases ro; cases ri
  obtain ⟨vs, e, r⟩ := g.mlst h
  exact ⟨a, vs, k, j, rfl, rfl, e, by rw [r.length]; exact hj, c _ F _ p (Le.refl F) (g.write h (m := .lst (xs.set j d)) (r.set rd j))⟩⟩

/-! ### methods of lists -/
structure DMt (X : Cx) (B : Hp) (id : String) (r : Dt → List Dt → Gp → DK → Prop) : Prop where
  ex : ∃ r', MtR X id r' ∧ ∀ F G H v x vs ds P Q, Good X.K B F G H → Is X.K F v x → IsL X.K F vs ds → r x ds G P → Cont X.K B F P Q → r' v vs H Q
def dBM (r : Dt → List Dt → Gp → DK → Prop) (to : DTE) (t : DTA) : DTE := fun δ G P => to δ G fun x G1 => (∃ xs, asL G1 x = some xs) ∧ t δ G1 fun ds G2 => r x ds G2 P
def dBM0 (r : Dt → List Dt → Gp → DK → Prop) (to : DTE) : DTE := fun δ G P => to δ G fun x G1 => (∃ xs, asL G1 x = some xs) ∧ r x [] G1 P
theorem bm_imp {r : Dt → List Dt → Gp → DK → Prop} {r' : V → List V → Hp → VK → Prop} (h2 : ∀ F G H v x vs ds P Q, Good X.K B F G H → Is X.K F v x → IsL X.K F vs ds → r x ds G P → Cont X.K B F P Q → r' v vs H Q) : ∀ σ H Q, tD X.K B (dBM r to tl) σ H Q → tBM X.K "list" r' (tD X.K B to) (tDA X.K B tl) σ H Q := fun σ H Q ⟨F, G, δ, P, g, s, p, c⟩ =>
  ⟨F, G, δ, _, g, s, p, fun x G1 v F1 H1 ⟨⟨xs, hx⟩, p1⟩ l1 g1 i1 => by
    obtain ⟨q, ws, rfl, e2, _⟩ := asL_is g1 i1 hx
    refine ⟨.inl ⟨rfl, _, SqL.of e2⟩, F1, G1, δ, _, g1, s.le l1, p1, fun ds G2 vs F2 H2 p2 l2 g2 i2 => h2 F2 G2 H2 _ x vs ds P Q g2 (i1.le l2) i2 p2 (c.le (l1.trans l2))⟩⟩
theorem bm0_imp {r : Dt → List Dt → Gp → DK → Prop} {r' : V → List V → Hp → VK → Prop} (h2 : ∀ F G H v x vs ds P Q, Good X.K B F G H → Is X.K F v x → IsL X.K F vs ds → r x ds G P → Cont X.K B F P Q → r' v vs H Q) : ∀ σ H Q, tD X.K B (dBM0 r to) σ H Q → tBM0 X.K "list" r' (tD X.K B to) σ H Q := fun σ H Q ⟨F, G, δ, P, g, s, p, c⟩ =>
  ⟨F, G, δ, _, g, s, p, fun x G1 v F1 H1 ⟨⟨xs, hx⟩, p1⟩ l1 g1 i1 => by
    obtain ⟨q, ws, rfl, e2, _⟩ := asL_is g1 i1 hx
    exact ⟨.inl ⟨rfl, _, SqL.of e2⟩, h2 F1 G1 H1 _ x [] [] P Q g1 i1 .nil p1 (c.le l1)⟩⟩
def rAppendD : Dt → List Dt → Gp → DK → Prop := fun x ds G P => ∃ a xs d, x = .ref a ∧ ds = [d] ∧ G a = some (.lst xs) ∧ xs.length < sizeLine ∧ P .non (gupd G a (.lst (xs ++ [d])))
theorem m_append : DMt X B "list.append" rAppendD := ⟨_, mt_append, fun F G H v x vs ds P Q g i1 i2 ⟨a, xs, d, e1, e2, h, hz, p⟩ c => by
  subst e1; subst e2
  cases i1
  cases i2 with
  | cons i2 i3 =>
    cases i3
    obtain ⟨ws, e, r⟩ := g.mlst h
    exact ⟨a, ws, _, rfl, rfl, e, by rw [r.length]; exact hz, c _ _ _ _ _ p (Le.refl F) (g.write h (o := .lst (ws ++ [_])) (m := .lst (xs ++ [d])) (r.append (.one i2))) .non⟩⟩
end
end DL

set_option Elab.async false
set_option linter.all false
set_option maxRecDepth 100000
namespace DL
open PySem PySem.Spec L2
/-! ### what an exception of a def leaves: its class, the value of its field what -/
abbrev DXK := Addr → Dt → Gp → Prop
def noX : DXK := fun _ _ _ => False
def ContX (K : PySem.W.Frag) (B : Hp) (R : DXK) (E : XK) : Prop := ∀ C w G d v F H, R C w G → Good K B F G H → F d = some (.xd [("what", v)]) → Is K F v w → E (.ref C) (some d) H
theorem contX_no {K : PySem.W.Frag} {B : Hp} {E : XK} : ContX K B noX E := fun _ _ _ _ _ _ _ h => h.elim
theorem ContX.le {K : PySem.W.Frag} {B F : Hp} {R : DXK} {E : XK} (c : ContX K B R E) (l : Le B F) : ContX K F R E := fun C w G d v F' H h g e i => c C w G d v F' H h (g.unbase l) e i
/-- a def's promise by data -/
abbrev DSp := List Dt → Gp → DK → DXK → Prop
def toSp (K : PySem.W.Frag) (c : DSp) : Sp := fun vs H Q E => ∃ F G ds P R, Good K F F G H ∧ IsL K F vs ds ∧ c ds G P R ∧ Cont K F F P Q ∧ ContX K F R E
theorem Cont.rebase {K : PySem.W.Frag} {B F : Hp} {P : DK} {Q : VK} (c : Cont K B F P Q) (l : Le B F) : Cont K F F P Q := fun d G' v F' H' p l' g i => c d G' v F' H' p l' (g.unbase l) i
theorem ContS.nil {K : PySem.W.Frag} {B F : Hp} {P : L2.St → Hp → Prop} : ContS K B F (fun _ _ => False) P := fun _ _ _ _ _ h => h.elim

def dstart (N : List Str) (ds : List Dt) : DSt := ds.map some ++ List.replicate (N.length - ds.length) none
theorem Sl.start {K : PySem.W.Frag} {F : Hp} {vs : List V} {ds : List Dt} (N : List Str) (r : IsL K F vs ds) : Sl K F (L2.start N vs) (dstart N ds) := by
  unfold L2.start dstart
  refine ⟨by simp [r.length], fun i d h => ?_⟩
  by_cases hi : i < ds.length
  · rw [List.getElem?_append_left (by simpa using hi), List.getElem?_map] at h
    cases e : ds[i]? with
    | none => rw [e] at h; cases h
    | some d' =>
      rw [e] at h
      cases h
      obtain ⟨v, h1, h2⟩ := r.get e
      refine ⟨v, ?_, h2⟩
      rw [List.getElem?_append_left (by simpa [r.length] using hi), List.getElem?_map, h1]
      rfl
  · rw [List.getElem?_append_right (by simpa using hi), List.getElem?_replicate] at h
    split at h <;> cases h
section
variable {X : Cx} {B : Hp} {e a b o : Expr} {es : List Expr} {st : Stmt} {pos : Pos} {ta tb te to : DTE} {tl : DTA} {t u : DTS}
variable {CX : CXT} {k : Nat} {f C : Addr} {fd : FuncData} {ps : List Str} {E : XK} {R : DXK} {c : DSp} {x m : Str} {p apos : Pos}

/-! ### calls of the text's own defs -/
def dCall (c : DSp) (R : DXK) (t : DTA) : DTE := fun δ G P => t δ G fun ds G1 => c ds G1 P R
theorem toSp_of {K : PySem.W.Frag} {F : Hp} {G : Gp} {H : Hp} {vs : List V} {ds : List Dt} {P : DK} {Q : VK} (g : Good K B F G H) (i : IsL K F vs ds) (h : c ds G P R) (k : Cont K B F P Q) (kx : ContX K B R E) : toSp K c vs H Q E :=
  ⟨F, G, ds, P, R, g.rebase, i, h, k.rebase g.bs, kx.le g.bs⟩
theorem d_callX (F : FnOk X.prog X.w X.K X.mg X.base CX k f fd ps (toSp X.K c)) (hr : Room k X.A) (hg : Gl X x) (hm : X.mg x = some (.ref f)) (hk : PySem.W.keepIn X.K (.ref f) = true) (hb : Binds X.K fd ps []) (hx : Passes CX X E) (kx : ContX X.K B R E)
    (ha : DA X B (e :: es) tl) (hdb : (x == ("__debug__" : Str)) = false := by decide) (he : starEach (e :: es) X.env = (false, eval e X.env) :: starEach es X.env := by rfl) (hpl : (backTo pos (starEach es X.env)).any (·.1) = false := by rfl) :
    DE X B (.Call (.Name x p) (e :: es) [] pos) (dCall c R tl) := PE.imp (pe_call F hr hg hm hk hb .nil hx ha hdb he hpl) fun σ H Q ⟨F, G, δ, P, g, s, q, k⟩ =>
  ⟨F, G, δ, _, g, s, q, fun ds G1 vs F1 H1 p1 l1 g1 i1 => by
    show toSp X.K c (vs ++ []) H1 Q E
    rw [List.append_nil]
    exact toSp_of g1 i1 p1 (k.le l1) kx⟩
theorem d_call (F : FnOk X.prog X.w X.K X.mg X.base CX0 k f fd ps (toSp X.K c)) (hr : Room k X.A) (hg : Gl X x) (hm : X.mg x = some (.ref f)) (hk : PySem.W.keepIn X.K (.ref f) = true) (hb : Binds X.K fd ps [])
    (ha : DA X B (e :: es) tl) (hdb : (x == ("__debug__" : Str)) = false := by decide) (he : starEach (e :: es) X.env = (false, eval e X.env) :: starEach es X.env := by rfl) (hpl : (backTo pos (starEach es X.env)).any (·.1) = false := by rfl) :
    DE X B (.Call (.Name x p) (e :: es) [] pos) (dCall c noX tl) := d_callX (E := fun _ _ _ => False) F hr hg hm hk hb pass0 contX_no ha hdb he hpl
/-! ### instances -/
def insOf (G : Gp) : Dt → Option (Addr × List Str × List Dt)
  | .obj C ns xs => some (C, ns, xs)
  | .ref a => match G a with
    | some (.ins C ns xs) => some (C, ns, xs)
    | _ => none
  | _ => none
def dlook : List Str → List Dt → Str → Option Dt
  | n :: ns, x :: xs, f => if f = n then some x else dlook ns xs f
  | _, _, _ => none
def dput (f : Str) (d : Dt) : List Str → List Dt → List Str × List Dt
  | n :: ns, x :: xs => if n = f then (n :: ns, d :: xs) else ((n :: (dput f d ns xs).1), (x :: (dput f d ns xs).2))
  | _, _ => ([f], [d])
section
variable {K : PySem.W.Frag} {F : Hp} {G : Gp} {H : Hp} {v : V} {d : Dt}
theorem insOf_is {ns : List Str} {xs : List Dt} (g : Good K B F G H) (i : Is K F v d) (h : insOf G d = some (C, ns, xs)) : ∃ p dx fs, v = .ref p ∧ H p = some (.ins C dx fs) ∧ fs.map (·.1) = ns ∧ IsL K F (fs.map (·.2)) xs := by
  cases i with
  | obj e n r =>
    cases h
    exact ⟨_, _, _, rfl, g.fz _ _ e, n, r⟩
  | ref a =>
    unfold insOf at h
    dsimp only at h
    split at h
    · rename_i e
      cases h
      obtain ⟨dx, fs, e1, n, r⟩ := g.mins e
      exact ⟨_, dx, fs, rfl, e1, n, r⟩
    · cases h
  | _ => cases h
theorem dlook_is {f : Str} : ∀ {fs : List (Str × V)} {ns : List Str} {xs : List Dt} {d : Dt}, fs.map (·.1) = ns → IsL K F (fs.map (·.2)) xs → dlook ns xs f = some d → ∃ v, fs.lookup f = some v ∧ Is K F v d
  | [], _, _, _, rfl, r, h => by
    cases r
    unfold dlook at h
    cases h
  | (n, v) :: fs, _, _, d, rfl, r, h => by
    cases r with
    | @cons _ _ d1 ds1 r1 r2 =>
      have h' : (if f = n then some d1 else dlook (fs.map (·.1)) ds1 f) = some d := h
      by_cases q : f = n
      · rw [if_pos q] at h'
        cases h'
        refine ⟨v, ?_, r1⟩
        have qb : (f == n) = true := by rw [q]; exact beq_self_eq_true n
        rw [List.lookup_cons, qb]
      · rw [if_neg q] at h'
        obtain ⟨w, h1, h2⟩ := dlook_is rfl r2 h'
        refine ⟨w, ?_, h2⟩
        have qb : (f == n) = false := beq_eq_false_iff_ne.mpr q
        rw [List.lookup_cons, qb]
        exact h1
theorem lookup_none {f : Str} : ∀ {fs : List (Str × V)}, f ∉ fs.map (·.1) → fs.lookup f = none
  | [], _ => rfl
  | (n, v) :: fs, h => by
    have qb : (f == n) = false := beq_eq_false_iff_ne.mpr fun q => h (by rw [q]; exact List.mem_cons_self)
    rw [List.lookup_cons, qb]
    exact lookup_none fun z => h (List.mem_cons_of_mem _ z)
theorem dput_is {f : Str} {v : V} {d : Dt} (i : Is K F v d) : ∀ {fs : List (Str × V)} {ns : List Str} {xs : List Dt}, fs.map (·.1) = ns → IsL K F (fs.map (·.2)) xs → (putF f v fs).map (·.1) = (dput f d ns xs).1 ∧ IsL K F ((putF f v fs).map (·.2)) (dput f d ns xs).2
  | [], _, _, rfl, r => by
    cases r
    exact ⟨rfl, .one i⟩
  | (n, w) :: fs, _, _, rfl, r => by
    cases r with
    | @cons _ _ d1 ds1 r1 r2 =>
      obtain ⟨h1, h2⟩ := dput_is i (fs := fs) rfl r2
      show ((if n = f then (n, v) :: fs else (n, w) :: putF f v fs).map (·.1)) = (if n = f then (n :: fs.map (·.1), d :: ds1) else _).1 ∧ IsL K F ((if n = f then (n, v) :: fs else (n, w) :: putF f v fs).map (·.2)) (if n = f then (n :: fs.map (·.1), d :: ds1) else _).2
      by_cases q : n = f
      · rw [if_pos q, if_pos q]
        exact ⟨rfl, .cons i r2⟩
      · rw [if_neg q, if_neg q]
        exact ⟨by rw [List.map_cons, h1], .cons r1 h2⟩
end
def dFld (C : Addr) (f : Str) (ta : DTE) : DTE := fun δ G P => ta δ G fun x G1 => ∃ ns xs d, insOf G1 x = some (C, ns, xs) ∧ dlook ns xs f = some d ∧ P d G1
theorem d_fld {n : Str} (cl : Cls X.K C) (na : NoAttr X.K C n) (he : DE X B e ta) (hb : attributeBase e n X.env (eval e X.env) = eval e X.env := by rfl) : DE X B (.Attribute e n pos) (dFld C n ta) := PE.imp (pe_fld he hb) fun σ H Q ⟨F, G, δ, P, g, s, q, k⟩ =>
  ⟨F, G, δ, _, g, s, q, fun x G1 v F1 H1 ⟨ns, xs, d, h1, h2, p1⟩ l1 g1 i1 => by
    obtain ⟨a, dx, fs, rfl, e1, n1, r1⟩ := insOf_is g1 i1 h1
    obtain ⟨w, h3, i3⟩ := dlook_is n1 r1 h2
    exact ⟨a, C, dx, fs, w, rfl, e1, cl, na, h3, k d G1 w F1 H1 p1 l1 g1 i3⟩⟩
def dFldSet (C : Addr) (f : Str) (ta tv : DTE) : DTS := fun D δ G => tv δ G fun y G1 => ta δ G1 fun x G2 => ∃ a ns xs, x = .ref a ∧ G2 a = some (.ins C ns xs) ∧ ns.length < 1000 ∧ D.nx δ (gupd G2 a (.ins C (dput f y ns xs).1 (dput f y ns xs).2))
theorem ds_fld {n : Str} {value : Expr} {tv : DTE} {pos' : Pos} (cl : Cls X.K C) (na : NoAttr X.K C n) (ha : DE X B o ta) (hv : DE X B value tv) (hs : swapsWith value (some (.Attribute o n pos')) pos.line X.env = pure false := by rfl) : DS X B (.Assign [.Attribute o n pos'] value pos) (dFldSet C n ta tv) :=
  PS.imp (ps_fld ha hv hs) fun D σ H ⟨F, G, δ, R, g, s, q, f⟩ =>
  ⟨F, G, δ, _, g, s, q, fun y G1 v F1 H1 p1 l1 g1 i1 => ⟨F1, G1, δ, _, g1, s.le l1, p1, fun x G2 w F2 H2 ⟨a, ns, xs, ex, h2, hz, p2⟩ l2 g2 i2 => by
    subst ex
    cases i2
    obtain ⟨dx, fs, e1, n1, r1⟩ := g2.mins h2
    obtain ⟨h3, h4⟩ := dput_is (i1.le l2) (f := n) n1 r1
    refine ⟨a, C, dx, fs, rfl, e1, cl, na, by rw [← n1, List.length_map] at hz; exact hz, ?_⟩
    exact f.nx _ _ _ F2 _ p2 (l1.trans l2) (g2.write h2 (o := .ins C dx (putF n v fs)) (m := .ins C _ _) ⟨rfl, h3, h4⟩) (s.le (l1.trans l2))⟩⟩
def dMeth (C : Addr) (m : Str) (c : DSp) (R : DXK) (ta : DTE) (t : DTA) : DTE := fun δ G P => ta δ G fun x G1 => (∃ ns xs, insOf G1 x = some (C, ns, xs) ∧ m ∉ ns) ∧ t δ G1 fun ds G2 => c (x :: ds) G2 P R
theorem meth_imp {K : PySem.W.Frag} (kx : ContX K B R E) : ∀ σ H Q, tD K B (dMeth C m c R ta tl) σ H Q → tMeth C m (toSp K c) [] E (tD K B ta) (tDA K B tl) σ H Q := fun σ H Q ⟨F, G, δ, P, g, s, q, k⟩ =>
  ⟨F, G, δ, _, g, s, q, fun x G1 v F1 H1 ⟨⟨ns, xs, h1, hm⟩, p1⟩ l1 g1 i1 => by
    obtain ⟨a, dx, fs, rfl, e1, n1, r1⟩ := insOf_is g1 i1 h1
    refine ⟨a, dx, fs, rfl, e1, lookup_none (by rw [n1]; exact hm), F1, G1, δ, _, g1, s.le l1, p1, fun ds G2 vs F2 H2 p2 l2 g2 i2 => ?_⟩
    show toSp K c (V.ref a :: (vs ++ [])) H2 Q E
    rw [List.append_nil]
    exact toSp_of g2 (.cons (i1.le l2) i2) p2 (k.le (l1.trans l2)) kx⟩
theorem d_methX {pl : Sem Bool} (he : DE X B o ta) (cl : Cls X.K C) (hm : Meth X.K C m f) (F : FnOk X.prog X.w X.K X.mg X.base CX k f fd ps (toSp X.K c)) (hr : Room k X.A) (hb : Binds X.K fd ps []) (hx : Passes CX X E) (kx : ContX X.K B R E) (ha : DA X B (e :: es) tl)
    (hst : starEach (e :: es) X.env = (false, eval e X.env) :: starEach es X.env := by rfl) (hpl : (backTo pos (starEach es X.env)).any (·.1) = false := by rfl)
    (ht : eval (.Call (.Attribute o m apos) (e :: es) [] pos) X.env = (do
      let ov ← eval o X.env
      standAt apos.atName
      let (f, first) ← holding [ov] (getMethod ov m pl)
      callWith pos f first (backTo pos (starEach (e :: es) X.env)) (backToKw pos (keywordEach [] X.env))) := by rfl) :
    DE X B (.Call (.Attribute o m apos) (e :: es) [] pos) (dMeth C m c R ta tl) := PE.imp (pe_meth he cl hm F hr hb .nil hx ha hst hpl ht) (meth_imp kx)
theorem d_meth {pl : Sem Bool} (he : DE X B o ta) (cl : Cls X.K C) (hm : Meth X.K C m f) (F : FnOk X.prog X.w X.K X.mg X.base CX0 k f fd ps (toSp X.K c)) (hr : Room k X.A) (hb : Binds X.K fd ps []) (ha : DA X B (e :: es) tl)
    (hst : starEach (e :: es) X.env = (false, eval e X.env) :: starEach es X.env := by rfl) (hpl : (backTo pos (starEach es X.env)).any (·.1) = false := by rfl)
    (ht : eval (.Call (.Attribute o m apos) (e :: es) [] pos) X.env = (do
      let ov ← eval o X.env
      standAt apos.atName
      let (f, first) ← holding [ov] (getMethod ov m pl)
      callWith pos f first (backTo pos (starEach (e :: es) X.env)) (backToKw pos (keywordEach [] X.env))) := by rfl) :
    DE X B (.Call (.Attribute o m apos) (e :: es) [] pos) (dMeth C m c noX ta tl) := d_methX (E := fun _ _ _ => False) he cl hm F hr hb pass0 contX_no ha hst hpl ht
theorem d_meth0 {pl : Sem Bool} (he : DE X B o ta) (cl : Cls X.K C) (hm : Meth X.K C m f) (F : FnOk X.prog X.w X.K X.mg X.base CX0 k f fd ps (toSp X.K c)) (hr : Room k X.A) (hb : Binds X.K fd ps [])
    (ht : eval (.Call (.Attribute o m apos) [] [] pos) X.env = (do
      let ov ← eval o X.env
      standAt apos.atName
      let (f, first) ← holding [ov] (getMethod ov m pl)
      callWith pos f first (backTo pos (starEach [] X.env)) (backToKw pos (keywordEach [] X.env))) := by rfl) :
    DE X B (.Call (.Attribute o m apos) [] [] pos) (dMeth C m c noX ta dNil) := PE.imp (pe_meth0 (E := fun _ _ _ => False) he cl hm F hr hb .nil pass0 ht) fun σ H Q ⟨F, G, δ, P, g, s, q, k⟩ =>
  ⟨F, G, δ, _, g, s, q, fun x G1 v F1 H1 ⟨⟨ns, xs, h1, hm⟩, p1⟩ l1 g1 i1 => by
    obtain ⟨a, dx, fs, rfl, e1, n1, r1⟩ := insOf_is g1 i1 h1
    exact ⟨a, dx, fs, rfl, e1, lookup_none (by rw [n1]; exact hm), toSp_of g1 (.cons i1 .nil) p1 (k.le l1) contX_no⟩⟩
/-- C(..): a new instance, mutable -/
def dMake (C : Addr) (c : DSp) (R : DXK) (t : DTA) : DTE := fun δ G P => t δ G fun ds G1 => ∀ p, G1 p = none → c (.ref p :: ds) (gupd G1 p (.ins C [] [])) (fun d G2 => d = .non ∧ P (.ref p) G2) R
theorem d_makeX (M : Mk X.K C f) (F : FnOk X.prog X.w X.K X.mg X.base CX k f fd ps (toSp X.K c)) (hr : Room (k + 1) X.A) (hg : Gl X x) (hm : X.mg x = some (.ref C)) (hb : Binds X.K fd ps []) (hx : Passes CX X E) (kx : ContX X.K B R E)
    (ha : DA X B (e :: es) tl) (hdb : (x == ("__debug__" : Str)) = false := by decide) (he : starEach (e :: es) X.env = (false, eval e X.env) :: starEach es X.env := by rfl) (hpl : (backTo pos (starEach es X.env)).any (·.1) = false := by rfl) :
    DE X B (.Call (.Name x p) (e :: es) [] pos) (dMake C c R tl) := PE.imp (pe_make M F hr hg hm hb .nil hx ha hdb he hpl) fun σ H Q ⟨F, G, δ, P, g, s, q, k⟩ =>
  ⟨F, G, δ, _, g, s, q, fun ds G1 vs F1 H1 p1 l1 g1 i1 => fun q dx hq hdx hne => by
    rw [List.append_nil]
    have g2 : Good X.K B F1 G1 (upd H1 dx (.own q)) := g1.newN hdx _
    have hq2 : upd H1 dx (.own q) q = none := by rw [upd_ne (Ne.symm hne)]; exact hq
    have g3 := g2.newM hq2 (o := .ins C dx []) (m := .ins C [] []) ⟨rfl, rfl, .nil⟩
    exact toSp_of g3 (.cons (.ref q) i1) (p1 q (g1.gnone hq)) (fun d G' v F' H' ⟨ed, p'⟩ l' g' i' => by
      subst ed
      cases i'
      exact ⟨rfl, k _ G' _ F' H' p' (l1.trans l') g' (.ref q)⟩) kx⟩
theorem d_make (M : Mk X.K C f) (F : FnOk X.prog X.w X.K X.mg X.base CX0 k f fd ps (toSp X.K c)) (hr : Room (k + 1) X.A) (hg : Gl X x) (hm : X.mg x = some (.ref C)) (hb : Binds X.K fd ps [])
    (ha : DA X B (e :: es) tl) (hdb : (x == ("__debug__" : Str)) = false := by decide) (he : starEach (e :: es) X.env = (false, eval e X.env) :: starEach es X.env := by rfl) (hpl : (backTo pos (starEach es X.env)).any (·.1) = false := by rfl) :
    DE X B (.Call (.Name x p) (e :: es) [] pos) (dMake C c noX tl) := d_makeX (E := fun _ _ _ => False) M F hr hg hm hb pass0 contX_no ha hdb he hpl
end

/-! ### a def keeps its promise -/
section
variable {P : Program} {w : World} {K : PySem.W.Frag} {mg : Str → Option Value} {base : Heap}
def dEnds (P : DK) : DEnds := { nx := fun _ G => P .non G, rt := P }
theorem d_ok {x qual : Str} {st : Stmt} {f : Addr} {fd : FuncData} {N ps : List Str} {k : Nat} {c : DSp} (F : Fun K x qual st f fd) (S : FnScope N ps (defScope st)) (len : ∀ ds G P R, c ds G P R → ds.length = ps.length)
    (hb : ∀ (cdv : Value) (A : Around) (outer : List Env) (s : Shared) (H : Hp) (E : XK) (B : Hp), Room k (A.deeper (PyProof.Rows.envOfC qual (defScope st) s.heap.objs.size f cdv)) →
      ∃ t : DTS, DSs (cxOf CX0 P w K mg base N qual (defScope st) f cdv A outer s H E).nox B (defBody st) t ∧ ∀ ds G P R, c ds G P R → t (dEnds P) (dstart N ds) G) : FnOk P w K mg base CX0 (k + 1) f fd ps (toSp K c) := by
  refine F.ok S (fun vs H Q E ⟨F0, G, ds, P', R, g, i, h, _⟩ => by rw [i.length]; exact len _ _ _ _ h) fun cdv A outer s H vs Q E hr ⟨F0, G, ds, P', R, g, i, h, kc, kx⟩ => ?_
  obtain ⟨t, h1, h2⟩ := hb cdv A outer s H E F0 hr
  refine ⟨_, h1, F0, G, dstart N ds, dEnds P', g, Sl.start N i, h2 ds G P' R h, ⟨fun δ' G' σ' F' H' p' l' g' s' => kc .non G' .non F' H' p' l' g' .non, kc, ContS.nil, ContS.nil⟩⟩
theorem okN {x qual : Str} {st : Stmt} {f : Addr} {fd : FuncData} {N ps : List Str} {k : Nat} {sp : Sp} (F : Fun K x qual st f fd) (S : FnScope N ps (defScope st)) (len : ∀ vs H Q E, sp vs H Q E → vs.length = ps.length)
    (hb : ∀ (cdv : Value) (A : Around) (outer : List Env) (s : Shared) (H : Hp) (vs : List V) (Q : VK) (E : XK), Room k (A.deeper (PyProof.Rows.envOfC qual (defScope st) s.heap.objs.size f cdv)) → sp vs H Q E →
      ∃ t, PSs (cxOf (L2N.CX P w) P w K mg base N qual (defScope st) f cdv A outer s H E) (defBody st) t ∧ t { nx := fun _ H' => Q .non H', rt := Q } (L2.start N vs) H) : FnOk P w K mg base (L2N.CX P w) (k + 1) f fd ps sp := by
  obtain ⟨oc, od, kV, doc, pm, an, cdv, ct, osl, e, lk, hcd⟩ := F.ex
  subst e
  exact fn_of lk hcd S len (hb cdv)
/-- .. that may raise -/
theorem d_okX {x qual : Str} {st : Stmt} {f : Addr} {fd : FuncData} {N ps : List Str} {k : Nat} {c : DSp} (F : Fun K x qual st f fd) (S : FnScope N ps (defScope st)) (len : ∀ ds G P R, c ds G P R → ds.length = ps.length)
    (hb : ∀ (cdv : Value) (A : Around) (outer : List Env) (s : Shared) (H : Hp) (E : XK) (B : Hp) (R : DXK), Room k (A.deeper (PyProof.Rows.envOfC qual (defScope st) s.heap.objs.size f cdv)) → ContX K B R E →
      ∃ t : DTS, DSs (cxOf (L2N.CX P w) P w K mg base N qual (defScope st) f cdv A outer s H E) B (defBody st) t ∧ ∀ ds G P, c ds G P R → t (dEnds P) (dstart N ds) G) : FnOk P w K mg base (L2N.CX P w) (k + 1) f fd ps (toSp K c) := by
  refine okN F S (fun vs H Q E ⟨F0, G, ds, P', R, g, i, h, _⟩ => by rw [i.length]; exact len _ _ _ _ h) fun cdv A outer s H vs Q E hr ⟨F0, G, ds, P', R, g, i, h, kc, kx⟩ => ?_
  obtain ⟨t, h1, h2⟩ := hb cdv A outer s H E F0 R hr kx
  refine ⟨_, h1, F0, G, dstart N ds, dEnds P', g, Sl.start N i, h2 ds G P' h, ⟨fun δ' G' σ' F' H' p' l' g' s' => kc .non G' .non F' H' p' l' g' .non, kc, ContS.nil, ContS.nil⟩⟩
end
end DL

set_option Elab.async false
set_option linter.all false
set_option maxRecDepth 100000
namespace DL
open PySem PySem.Spec L2
/-- the built-ins' names that the text leaves alone -/
structure Bt (mg : Str → Option Value) : Prop where
  len : mg "len" = none
  range : mg "range" = none
  list : mg "list" = none
  tuple : mg "tuple" = none
  min : mg "min" = none
  max : mg "max" = none
  sum : mg "sum" = none
  sorted : mg "sorted" = none
  all : mg "all" = none
  any : mg "any" = none
  abs : mg "abs" = none
  isinstance : mg "isinstance" = none
  enumerate : mg "enumerate" = none
  zip : mg "zip" = none
  set : mg "set" = none
  dict : mg "dict" = none
  int : mg "int" = none
  bool : mg "bool" = none
  str : mg "str" = none
/-- a def of the text's top, as it stands -/
def TopFn (K : PySem.W.Frag) (mg : Str → Option Value) (x : Str) (st : Stmt) (ps : List Str) : Prop := ∃ f fd, Fun K x x st f fd ∧ mg x = some (.ref f) ∧ Binds K fd ps []
/-- a method, as it stands -/
def TopMt (K : PySem.W.Frag) (C : Addr) (m qual : Str) (st : Stmt) (ps : List Str) : Prop := ∃ f fd, Fun K m qual st f fd ∧ Meth K C m f ∧ Binds K fd ps []
structure ClsT (K : PySem.W.Frag) (mg : Str → Option Value) (x : Str) (C : Addr) : Prop where
  cl : Cls K C
  mg : mg x = some (.ref C)
/-- a class's __init__, as it stands -/
def TopMk (K : PySem.W.Frag) (C : Addr) (qual : Str) (st : Stmt) (ps : List Str) : Prop := ∃ f fd, Fun K "__init__" qual st f fd ∧ Mk K C f ∧ Binds K fd ps []
section
variable (P : Program) (w : World) (K : PySem.W.Frag) (mg : Str → Option Value) (base : Heap) (CX : CXT)
def Dfn (x : Str) (ps : List Str) (c : DSp) (k : Nat) : Prop := ∃ f fd, FnOk P w K mg base CX k f fd ps (toSp K c) ∧ mg x = some (.ref f) ∧ PySem.W.keepIn K (.ref f) = true ∧ Binds K fd ps []
def Dmt (C : Addr) (m : Str) (ps : List Str) (c : DSp) (k : Nat) : Prop := ∃ f fd, FnOk P w K mg base CX k f fd ps (toSp K c) ∧ Meth K C m f ∧ Binds K fd ps []
def Dmk (C : Addr) (ps : List Str) (c : DSp) (k : Nat) : Prop := ∃ f fd, FnOk P w K mg base CX k f fd ps (toSp K c) ∧ Mk K C f ∧ Binds K fd ps []
end
section
variable {X : Cx} {B : Hp} {e a b o : Expr} {es : List Expr} {pos p apos : Pos} {to : DTE} {tl : DTA} {k : Nat} {C : Addr} {ps : List Str} {c : DSp} {x m : Str}
theorem d_callD {j : Nat} (D : Dfn X.prog X.w X.K X.mg X.base CX0 x ps c k) (hr : Room j X.A) (hg : Gl X x) (ha : DA X B (e :: es) tl) (hj : k ≤ j := by decide)
    (hdb : (x == ("__debug__" : Str)) = false := by decide) (he : starEach (e :: es) X.env = (false, eval e X.env) :: starEach es X.env := by rfl) (hpl : (backTo pos (starEach es X.env)).any (·.1) = false := by rfl) :
    DE X B (.Call (.Name x p) (e :: es) [] pos) (dCall c noX tl) := by
  obtain ⟨f, fd, F, m, kp, b⟩ := D
  exact d_call F (hr.mono hj) hg m kp b ha hdb he hpl
theorem d_methD {j : Nat} {pl : Sem Bool} (he : DE X B o to) (cl : Cls X.K C) (D : Dmt X.prog X.w X.K X.mg X.base CX0 C m ps c k) (hr : Room j X.A) (ha : DA X B (e :: es) tl) (hj : k ≤ j := by decide)
    (hst : starEach (e :: es) X.env = (false, eval e X.env) :: starEach es X.env := by rfl) (hpl : (backTo pos (starEach es X.env)).any (·.1) = false := by rfl)
    (ht : eval (.Call (.Attribute o m apos) (e :: es) [] pos) X.env = (do
      let ov ← eval o X.env
      standAt apos.atName
      let (f, first) ← holding [ov] (getMethod ov m pl)
      callWith pos f first (backTo pos (starEach (e :: es) X.env)) (backToKw pos (keywordEach [] X.env))) := by rfl) :
    DE X B (.Call (.Attribute o m apos) (e :: es) [] pos) (dMeth C m c noX to tl) := by
  obtain ⟨f, fd, F, m, b⟩ := D
  exact d_meth he cl m F (hr.mono hj) b ha hst hpl ht
theorem d_methD0 {j : Nat} {pl : Sem Bool} (he : DE X B o to) (cl : Cls X.K C) (D : Dmt X.prog X.w X.K X.mg X.base CX0 C m ps c k) (hr : Room j X.A) (hj : k ≤ j := by decide)
    (ht : eval (.Call (.Attribute o m apos) [] [] pos) X.env = (do
      let ov ← eval o X.env
      standAt apos.atName
      let (f, first) ← holding [ov] (getMethod ov m pl)
      callWith pos f first (backTo pos (starEach [] X.env)) (backToKw pos (keywordEach [] X.env))) := by rfl) :
    DE X B (.Call (.Attribute o m apos) [] [] pos) (dMeth C m c noX to dNil) := by
  obtain ⟨f, fd, F, m, b⟩ := D
  exact d_meth0 he cl m F (hr.mono hj) b ht
theorem d_makeD {j : Nat} (D : Dmk X.prog X.w X.K X.mg X.base CX0 C ps c k) (hr : Room j X.A) (hg : Gl X x) (hm : X.mg x = some (.ref C)) (ha : DA X B (e :: es) tl) (hj : k + 1 ≤ j := by decide)
    (hdb : (x == ("__debug__" : Str)) = false := by decide) (he : starEach (e :: es) X.env = (false, eval e X.env) :: starEach es X.env := by rfl) (hpl : (backTo pos (starEach es X.env)).any (·.1) = false := by rfl) :
    DE X B (.Call (.Name x p) (e :: es) [] pos) (dMake C c noX tl) := by
  obtain ⟨f, fd, F, M, b⟩ := D
  exact d_make M F (hr.mono hj) hg hm b ha hdb he hpl
end
section
variable {P : Program} {w : World} {K : PySem.W.Frag} {mg : Str → Option Value} {base : Heap}
theorem dfn_of {x : Str} {st : Stmt} {N ps : List Str} {k : Nat} {c : DSp} (T : TopFn K mg x st ps) (S : FnScope N ps (defScope st)) (len : ∀ ds G P R, c ds G P R → ds.length = ps.length)
    (hb : ∀ (f : Addr) (cdv : Value) (A : Around) (outer : List Env) (s : Shared) (H : Hp) (E : XK) (B : Hp), Room k (A.deeper (PyProof.Rows.envOfC x (defScope st) s.heap.objs.size f cdv)) →
      ∃ t : DTS, DSs (cxOf CX0 P w K mg base N x (defScope st) f cdv A outer s H E).nox B (defBody st) t ∧ ∀ ds G P R, c ds G P R → t (dEnds P) (dstart N ds) G) : Dfn P w K mg base CX0 x ps c (k + 1) := by
  obtain ⟨f, fd, F, m, b⟩ := T
  exact ⟨f, fd, d_ok F S len (hb f), m, F.kp, b⟩
theorem dmt_of {C : Addr} {m qual : Str} {st : Stmt} {N ps : List Str} {k : Nat} {c : DSp} (T : TopMt K C m qual st ps) (S : FnScope N ps (defScope st)) (len : ∀ ds G P R, c ds G P R → ds.length = ps.length)
    (hb : ∀ (f : Addr) (cdv : Value) (A : Around) (outer : List Env) (s : Shared) (H : Hp) (E : XK) (B : Hp), Room k (A.deeper (PyProof.Rows.envOfC qual (defScope st) s.heap.objs.size f cdv)) →
      ∃ t : DTS, DSs (cxOf CX0 P w K mg base N qual (defScope st) f cdv A outer s H E).nox B (defBody st) t ∧ ∀ ds G P R, c ds G P R → t (dEnds P) (dstart N ds) G) : Dmt P w K mg base CX0 C m ps c (k + 1) := by
  obtain ⟨f, fd, F, m, b⟩ := T
  exact ⟨f, fd, d_ok F S len (hb f), m, b⟩
theorem dmk_of {C : Addr} {qual : Str} {st : Stmt} {N ps : List Str} {k : Nat} {c : DSp} (T : TopMk K C qual st ps) (S : FnScope N ps (defScope st)) (len : ∀ ds G P R, c ds G P R → ds.length = ps.length)
    (hb : ∀ (f : Addr) (cdv : Value) (A : Around) (outer : List Env) (s : Shared) (H : Hp) (E : XK) (B : Hp), Room k (A.deeper (PyProof.Rows.envOfC qual (defScope st) s.heap.objs.size f cdv)) →
      ∃ t : DTS, DSs (cxOf CX0 P w K mg base N qual (defScope st) f cdv A outer s H E).nox B (defBody st) t ∧ ∀ ds G P R, c ds G P R → t (dEnds P) (dstart N ds) G) : Dmk P w K mg base CX0 C ps c (k + 1) := by
  obtain ⟨f, fd, F, m, b⟩ := T
  exact ⟨f, fd, d_ok F S len (hb f), m, b⟩
end
end DL

set_option Elab.async false
set_option linter.all false
set_option maxRecDepth 100000
namespace DL
open PySem PySem.Spec L2
section
variable {X : Cx} {B : Hp} {e a b o : Expr} {es : List Expr} {st : Stmt} {rest : List Stmt} {pos : Pos} {ta tb te to : DTE} {tl : DTA} {t u : DTS}
/-- -a -/
def dNeg (ta : DTE) : DTE := fun δ G P => ta δ G fun x G1 => ∃ i : Int, x = .int i ∧ P (.int (-i)) G1
theorem d_neg (ha : DE X B a ta) : DE X B (.UnaryOp .USub a pos) (dNeg ta) := PE.imp (pe_un un_neg ha) fun σ H Q ⟨F, G, δ, P, g, s, p, c⟩ =>
  ⟨F, G, δ, _, g, s, p, fun d G' v F' H' ⟨i, e, p'⟩ l g' iv => by
    subst e
    cases iv
    exact ⟨i, rfl, c _ G' _ F' H' p' l g' (.int _)⟩⟩
/-- list(range(..)) -/
structure DRg (X : Cx) (B : Hp) (e : Expr) (t : DSt → Gp → (Int → Int → Gp → Prop) → Prop) : Prop where
  ex : ∃ t', PRg X e t' ∧ ∀ F G H σ δ P Q, Good X.K B F G H → Sl X.K F σ δ → t δ G P → (∀ i j G' F' H', P i j G' → Le F F' → Good X.K B F' G' H' → Q i j H') → t' σ H Q
def dRg1 (ta : DTE) : DSt → Gp → (Int → Int → Gp → Prop) → Prop := fun δ G P => ta δ G fun x G1 => ∃ n, x = .int n ∧ P 0 n G1
theorem d_rg1 {p : Pos} (hg : Gl X "range") (hm : X.mg "range" = none) (ha : DE X B a ta) (na : starEach [a] X.env = (false, eval a X.env) :: starEach [] X.env := by rfl) : DRg X B (.Call (.Name "range" p) [a] [] pos) (dRg1 ta) :=
  ⟨_, prg_1 hg hm ha na, fun F G H σ δ P Q g s p c => ⟨F, G, δ, _, g, s, p, fun d G' v F' H' ⟨n, e, p'⟩ l g' iv => by
    subst e
    cases iv
    exact ⟨n, rfl, c 0 n G' F' H' p' l g'⟩⟩⟩
def rgD (a b : Int) : List Dt := (List.range (b - a).toNat).map fun (i : Nat) => Dt.int (a + (i : Int))
theorem IsL.rg {K : PySem.W.Frag} {F : Hp} (a b : Int) : IsL K F (rgV a b) (rgD a b) := by
  unfold rgV rgD
  generalize (b - a).toNat = n
  have key : ∀ l : List Nat, IsL K F (l.map fun (i : Nat) => V.int (a + (i : Int))) (l.map fun (i : Nat) => Dt.int (a + (i : Int))) := by
    intro l
    induction l with
    | nil => exact .nil
    | cons x l ih => exact .cons (.int _) ih
  exact key _
theorem rgD_upto (n : Int) : rgD 0 n = upto 0 n.toNat := by unfold rgD upto; rw [Int.sub_zero]
def dListRg (t : DSt → Gp → (Int → Int → Gp → Prop) → Prop) : DTE := fun δ G P => t δ G fun i j G1 => RgOk i j ∧ P (.lst (rgD i j)) G1
def dListRgM (t : DSt → Gp → (Int → Int → Gp → Prop) → Prop) : DTE := fun δ G P => t δ G fun i j G1 => RgOk i j ∧ ∀ q, G1 q = none → P (.ref q) (gupd G1 q (.lst (rgD i j)))
theorem d_listRg {p : Pos} {t : DSt → Gp → (Int → Int → Gp → Prop) → Prop} (hc : X.calm = true) (hg : Gl X "list") (hm : X.mg "list" = none) (he : DRg X B e t) (na : starEach [e] X.env = (false, eval e X.env) :: starEach [] X.env := by rfl) : DE X B (.Call (.Name "list" p) [e] [] pos) (dListRg t) := by
  obtain ⟨t', h1, h2⟩ := he.ex
  exact PE.imp (pe_listRg hc hg hm h1 na) fun σ H Q ⟨F, G, δ, P, g, s, p, c⟩ => h2 F G H σ δ _ _ g s p fun i j G' F' H' ⟨ok, p'⟩ l g' => ⟨ok, fun q hq => by
    obtain ⟨l2, g2⟩ := g'.newF hq (.lst (rgV i j))
    exact c _ _ _ _ _ p' (l.trans l2) g2 (.lst upd_same (.rg i j))⟩
theorem d_listRgM {p : Pos} {t : DSt → Gp → (Int → Int → Gp → Prop) → Prop} (hc : X.calm = true) (hg : Gl X "list") (hm : X.mg "list" = none) (he : DRg X B e t) (na : starEach [e] X.env = (false, eval e X.env) :: starEach [] X.env := by rfl) : DE X B (.Call (.Name "list" p) [e] [] pos) (dListRgM t) := by
  obtain ⟨t', h1, h2⟩ := he.ex
  exact PE.imp (pe_listRg hc hg hm h1 na) fun σ H Q ⟨F, G, δ, P, g, s, p, c⟩ => h2 F G H σ δ _ _ g s p fun i j G' F' H' ⟨ok, p'⟩ l g' => ⟨ok, fun q hq =>
    c _ _ _ _ _ (p' q (g'.gnone hq)) l (g'.newM hq (m := .lst (rgD i j)) (.rg i j)) (.ref q)⟩
/-! ### methods of lists -/
variable {apos : Pos}
theorem d_append (ho : DE X B o to) (ha : DE X B a ta)
    (hs : starEach [a] X.env = (false, eval a X.env) :: starEach [] X.env := by rfl)
    (pe : ∀ {r : V → List V → Hp → VK → Prop} {t : TA} {to : TE}, MtR X "list.append" r → PE X o to → PA X [a] t → PE X (.Call (.Attribute o "append" apos) [a] [] pos) (tBM X.K "list" r to t) := by exact fun h1 h2 h3 => pe_bm PySem.F.plainAttrs_list PySem.F.slot_list_append PySem.F.type_list_append h1 h2 h3) :
    DE X B (.Call (.Attribute o "append" apos) [a] [] pos) (dBM rAppendD to (dCons ta dNil)) := by
  obtain ⟨r', h1, h2⟩ := (m_append (X := X) (B := B)).ex
  exact PE.imp (pe h1 ho (da_cons ha da_nil hs)) (bm_imp h2)
def rPopD : Dt → List Dt → Gp → DK → Prop := fun x ds G P => ∃ a xs d, x = .ref a ∧ ds = [] ∧ G a = some (.lst xs) ∧ xs[xs.length - 1]? = some d ∧ P d (gupd G a (.lst xs.dropLast))
theorem m_pop : DMt X B "list.pop" rPopD := ⟨_, mt_pop, fun F G H v x vs ds P Q g i1 i2 ⟨a, xs, d, e1, e2, h, hd, p⟩ c => by
  subst e1; subst e2
  cases i1
  cases i2
  obtain ⟨ws, e, r⟩ := g.mlst h
  obtain ⟨z, hz, iz⟩ := r.get hd
  exact ⟨a, ws, z, rfl, rfl, e, by rw [r.length]; exact hz, c _ _ _ _ _ p (Le.refl F) (g.write h (o := .lst ws.dropLast) (m := .lst xs.dropLast) r.dropLast) iz⟩⟩
theorem d_pop (ho : DE X B o to)
    (pe : ∀ {r : V → List V → Hp → VK → Prop} {to : TE}, MtR X "list.pop" r → PE X o to → PE X (.Call (.Attribute o "pop" apos) [] [] pos) (tBM0 X.K "list" r to) := by exact fun h1 h2 => pe_bm0 PySem.F.plainAttrs_list PySem.F.slot_list_pop PySem.F.type_list_pop h1 h2) :
    DE X B (.Call (.Attribute o "pop" apos) [] [] pos) (dBM0 rPopD to) := by
  obtain ⟨r', h1, h2⟩ := (m_pop (X := X) (B := B)).ex
  exact PE.imp (pe h1 ho) (bm0_imp h2)
def rPopAtD : Dt → List Dt → Gp → DK → Prop := fun x ds G P => ∃ a xs i k d, x = .ref a ∧ ds = [.int i] ∧ G a = some (.lst xs) ∧ -(2 ^ 63) ≤ i ∧ i < 2 ^ 63 ∧ seqIndex? i xs.length = some k ∧ xs[k]? = some d ∧ P d (gupd G a (.lst (xs.eraseIdx k)))
theorem m_popAt : DMt X B "list.pop" rPopAtD := ⟨_, mt_popAt, fun F G H v x vs ds P Q g i1 i2 ⟨a, xs, i, k, d, e1, e2, h, b1, b2, hk, hd, p⟩ c => by
  subst e1; subst e2
  cases i1
  cases i2 with
  | cons i2 i3 =>
    cases i2; cases i3
    obtain ⟨ws, e, r⟩ := g.mlst h
    obtain ⟨z, hz, iz⟩ := r.get hd
    exact ⟨a, ws, i, k, z, rfl, rfl, e, b1, b2, by rw [r.length]; exact hk, hz, c _ _ _ _ _ p (Le.refl F) (g.write h (o := .lst (ws.eraseIdx k)) (m := .lst (xs.eraseIdx k)) (r.eraseIdx k)) iz⟩⟩
theorem d_popAt (ho : DE X B o to) (ha : DE X B a ta)
    (hs : starEach [a] X.env = (false, eval a X.env) :: starEach [] X.env := by rfl)
    (pe : ∀ {r : V → List V → Hp → VK → Prop} {t : TA} {to : TE}, MtR X "list.pop" r → PE X o to → PA X [a] t → PE X (.Call (.Attribute o "pop" apos) [a] [] pos) (tBM X.K "list" r to t) := by exact fun h1 h2 h3 => pe_bm PySem.F.plainAttrs_list PySem.F.slot_list_pop PySem.F.type_list_pop h1 h2 h3) :
    DE X B (.Call (.Attribute o "pop" apos) [a] [] pos) (dBM rPopAtD to (dCons ta dNil)) := by
  obtain ⟨r', h1, h2⟩ := (m_popAt (X := X) (B := B)).ex
  exact PE.imp (pe h1 ho (da_cons ha da_nil hs)) (bm_imp h2)
/-! ### enumerate -/
def enumD (ds : List Dt) : List Dt := (List.range ds.length).map fun (i : Nat) => Dt.tup [.int (i : Int), ds.getD i .non]
theorem enumD_length (ds : List Dt) : (enumD ds).length = ds.length := by simp [enumD]
theorem enumD_get {ds : List Dt} {i : Nat} {d : Dt} (h : (enumD ds)[i]? = some d) : ∃ x, ds[i]? = some x ∧ d = .tup [.int (i : Int), x] := by
  unfold enumD at h
  rw [List.getElem?_map] at h
  by_cases hi : i < ds.length
  · rw [List.getElem?_range hi] at h
    cases h
    refine ⟨ds[i], List.getElem?_eq_getElem hi, ?_⟩
    simp [List.getD, List.getElem?_eq_getElem hi]
  · rw [List.getElem?_eq_none (by simpa using hi)] at h
    cases h
def diEnum (t : DTA) : DTI := fun δ G P => t δ G fun ds G1 => ∃ d xs, ds = [d] ∧ d = .lst xs ∧ P (enumD xs) G1
theorem di_enumerate {elts : List Expr} {kk : Nat} {tpos p : Pos} (hg : Gl X "enumerate") (hm : X.mg "enumerate" = none) (ha : DA X B [e] tl) (hs : starEach [e] X.env = [(false, eval e X.env)] := by rfl) : DI X B (.Tuple elts kk tpos) (.Call (.Name "enumerate" p) [e] [] pos) (diEnum tl) :=
  PI.imp (pi_enum hg hm ha hs) fun σ H R ⟨F, G, δ, P, g, s, p, c⟩ => ⟨F, G, δ, _, g, s, p, fun ds G1 vs F1 H1 ⟨d, xs, e1, e2, p1⟩ l1 g1 i1 => by
    subst e1; subst e2
    cases i1 with
    | cons i1 i2 =>
      cases i2
      cases i1 with
      | lst q r =>
        refine ⟨_, _, rfl, SqL.of (g1.fz _ _ q), c _ G1 F1 H1 _ p1 l1 g1 ⟨fun i F' G H l g hi => ⟨_, _, SqL.of (g.fz _ _ (l _ _ q)), List.getElem?_eq_getElem (by rw [r.length]; rw [enumD_length] at hi; exact hi)⟩,
          fun i F' G H x H' d l g hd ⟨T, w, e, hT, e', hx⟩ => ?_,
          fun i F' G H l g hi => ⟨_, SqL.of (g.fz _ _ (l _ _ q)), by rw [r.length]; rw [enumD_length] at hi; exact hi⟩⟩⟩
        subst e; subst e'
        obtain ⟨y, hy, rfl⟩ := enumD_get hd
        have h1 := hx _ (SqL.of (g.fz _ _ (l _ _ q)))
        obtain ⟨v, h2, h3⟩ := r.get hy
        rw [h1] at h2
        cases h2
        obtain ⟨l2, g2⟩ := g.newF hT (.tup [.int (i : Nat), w])
        exact ⟨_, l2, g2, .tup upd_same (.cons (.int _) (.one (h3.le (l.trans l2))))⟩⟩
/-! ### truth of any value -/
def truD (G : Gp) (d : Dt) (k : Bool) : Prop := match d with
  | .non => k = false
  | .bl b => k = b
  | .int i => k = (i != 0)
  | d => ∃ xs, asQ G d = some xs ∧ k = !xs.isEmpty
def dTru (te : DTE) : DTT := fun δ G P => te δ G fun x G1 => ∃ k, truD G1 x k ∧ P k G1
theorem IsL.isEmpty {K : PySem.W.Frag} {F : Hp} {vs : List V} {ds : List Dt} (r : IsL K F vs ds) : vs.isEmpty = ds.isEmpty := by cases r <;> rfl
theorem dt_truth (ha : DE X B a ta) (he : ∀ whole, isTrue a X.env whole = (do let v ← whole; standAt a.pos; holding [v] (truthy v)) := by intro _; rfl) : DT X B a (dTru ta) :=
  PT.imp (pt_truth ha he) fun σ H Q ⟨F, G, δ, P, g, s, p, c⟩ => ⟨F, G, δ, _, g, s, p, fun d G' v F' H' ⟨k, hk, p'⟩ l g' iv => by
    refine ⟨k, ?_, c k G' F' H' p' l g'⟩
    have seq : (∃ xs, asQ G' d = some xs ∧ k = !xs.isEmpty) → TruV X.K v H' k := by
      rintro ⟨xs, h1, h2⟩
      obtain ⟨q, vs, rfl, e2, r⟩ := asQ_is g' iv h1
      rw [← r.isEmpty] at h2
      rcases e2 with e2 | e2
      · exact .inl ⟨vs, e2, h2⟩
      · exact .inr (.inl ⟨vs, e2, h2⟩)
    cases iv with
    | non => exact hk
    | bl b => exact hk
    | int i => exact hk
    | str x => exact (by obtain ⟨xs, h1, _⟩ := hk; cases h1)
    | ref a => exact seq hk
    | scr q => exact seq hk
    | lst q r => exact seq hk
    | tup q r => exact seq hk
    | obj q n r => exact (by obtain ⟨xs, h1, _⟩ := hk; cases h1)
    | memo q => exact (by obtain ⟨xs, h1, _⟩ := hk; cases h1)
    | dk q => exact (by obtain ⟨xs, h1, _⟩ := hk; cases h1)
    | exc q q2 r => exact (by obtain ⟨xs, h1, _⟩ := hk; cases h1)
    | ty n => exact (by obtain ⟨xs, h1, _⟩ := hk; cases h1)⟩
/-! ### sorted of pairs -/
theorem IsL.of_all {K : PySem.W.Frag} {F : Hp} {g : V → Dt} : ∀ {vs : List V}, (∀ v ∈ vs, Is K F v (g v)) → IsL K F vs (vs.map g)
  | [], _ => .nil
  | v :: vs, h => .cons (h v List.mem_cons_self) (IsL.of_all fun w hw => h w (List.mem_cons_of_mem _ hw))
theorem IsL.all_of {K : PySem.W.Frag} {F : Hp} : ∀ {vs : List V} {ds : List Dt}, IsL K F vs ds → ∀ v ∈ vs, ∃ d ∈ ds, Is K F v d
  | _, _, .nil, v, h => absurd h (by simp)
  | _, _, .cons r s, v, h => by
    rcases List.mem_cons.mp h with e | h
    · subst e; exact ⟨_, List.mem_cons_self, r⟩
    · obtain ⟨d, h1, h2⟩ := IsL.all_of s v h
      exact ⟨d, List.mem_cons_of_mem _ h1, h2⟩
def keyP (H : Hp) : V → Int × Int
  | .ref t => match H t with
    | some (.tup [.int i, .int j]) => (i, j)
    | _ => (0, 0)
  | _ => (0, 0)
theorem keyP_is {K : PySem.W.Frag} {F : Hp} {G : Gp} {H : Hp} {v : V} {p : Int × Int} (g : Good K B F G H) (i : Is K F v (pairD p)) : keyP H v = p ∧ ∃ t, v = .ref t ∧ H t = some (.tup [.int p.1, .int p.2]) := by
  cases i with
  | @tup t _ _ q r =>
    cases r with
    | cons r1 r =>
      cases r with
      | cons r2 r =>
        cases r; cases r1; cases r2
        have e := g.fz _ _ q
        refine ⟨?_, t, rfl, e⟩
        simp only [keyP, e]
theorem c_sortP : DCall X B (.builtin "sorted") rSortP := ⟨_, cr_sortedPO, fun F G H vs ds P Q g i ⟨d, ns, e, h, p⟩ c => by
  subst e
  cases i with
  | cons i1 i2 =>
    cases i2
    obtain ⟨q, ws, rfl, e2, r⟩ := asL_is g i1 h
    have all : ∀ v ∈ ws, Is X.K F v (pairD (keyP H v)) ∧ ∃ t, v = .ref t ∧ H t = some (.tup [.int (keyP H v).1, .int (keyP H v).2]) := fun v hv => by
      obtain ⟨d', hd', iv⟩ := r.all_of v hv
      obtain ⟨pr, _, rfl⟩ := List.mem_map.mp hd'
      obtain ⟨k1, k2⟩ := keyP_is g iv
      rw [k1]
      exact ⟨iv, k2⟩
    have ens : ws.map (keyP H) = ns := by
      have key : ∀ {ws : List V} {ns : List (Int × Int)}, IsL X.K F ws (ns.map pairD) → ws.map (keyP H) = ns := by
        intro ws ns r
        induction ns generalizing ws with
        | nil => cases r; rfl
        | cons n ns ih =>
          cases r with
          | cons r1 r2 => rw [List.map_cons, (keyP_is g r1).1, ih r2]
      exact key r
    refine ⟨q, ws, keyP H, rfl, SqL.of e2, fun v hv => ?_, fun ys l hs hb hl => ?_⟩
    · obtain ⟨_, t, e1, e3⟩ := all v hv
      exact ⟨t, e1, e3⟩
    · obtain ⟨l2, g2⟩ := g.newF hl (.lst ys)
      have pm : (ys.map (keyP H)).Perm ns := by rw [← ens]; exact hb.perm.map _
      refine c _ _ _ _ _ (p (ys.map (keyP H)) pm ?_) l2 g2 (.lst upd_same ?_)
      · refine List.pairwise_map.mpr (hs.imp fun {x y} hxy => ?_)
        have := SrtO.lexB_no.mp hxy
        unfold leP
        omega
      · rw [List.map_map]
        exact IsL.of_all fun v hv => (all v (hb.perm.mem_iff.mp hv)).1.le l2⟩
/-! ### [x] * n -/
def rRepD : DR2 := fun x y G P => ∃ (xs : List Dt) (k : Int), asL G x = some xs ∧ y = .int k ∧ -(2 ^ 63) ≤ k ∧ k < 2 ^ 63 ∧ xs.length * k.toNat ≤ sizeLine ∧ P (.lst (List.replicate k.toNat xs).flatten) G
def rRepM : DR2 := fun x y G P => ∃ (xs : List Dt) (k : Int), asL G x = some xs ∧ y = .int k ∧ -(2 ^ 63) ≤ k ∧ k < 2 ^ 63 ∧ xs.length * k.toNat ≤ sizeLine ∧ ∀ p, G p = none → P (.ref p) (gupd G p (.lst (List.replicate k.toNat xs).flatten))
theorem IsL.rep {K : PySem.W.Frag} {F : Hp} {vs : List V} {ds : List Dt} (r : IsL K F vs ds) : ∀ n : Nat, IsL K F (List.replicate n vs).flatten (List.replicate n ds).flatten
  | 0 => .nil
  | n + 1 => by
    rw [List.replicate_succ, List.replicate_succ, List.flatten_cons, List.flatten_cons]
    exact r.append (IsL.rep r n)
theorem o_rep : DOp X B (binaryOp .Mult) rRepD := ⟨_, op_rep, fun F G H v w x y P Q g rx ry ⟨xs, k, h, e, b1, b2, hz, p⟩ c => by
  subst e
  cases ry
  obtain ⟨q, vs, rfl, e2, r⟩ := asL_is g rx h
  refine ⟨q, k, vs, rfl, rfl, e2, b1, b2, by rw [r.length]; exact hz, fun l hl => ?_⟩
  obtain ⟨l2, g2⟩ := g.newF hl (.lst (List.replicate k.toNat vs).flatten)
  exact c _ _ _ _ _ p l2 g2 (.lst upd_same ((r.rep _).le l2))⟩
theorem o_repM : DOp X B (binaryOp .Mult) rRepM := ⟨_, op_rep, fun F G H v w x y P Q g rx ry ⟨xs, k, h, e, b1, b2, hz, p⟩ c => by
  subst e
  cases ry
  obtain ⟨q, vs, rfl, e2, r⟩ := asL_is g rx h
  refine ⟨q, k, vs, rfl, rfl, e2, b1, b2, by rw [r.length]; exact hz, fun l hl => ?_⟩
  exact c _ _ _ _ _ (p l (g.gnone hl)) (Le.refl F) (g.newM hl (m := .lst (List.replicate k.toNat xs).flatten) (r.rep _)) (.ref l)⟩
/-! ### lists joined -/
def rCatD : DR2 := fun x y G P => ∃ xs ys, asL G x = some xs ∧ asL G y = some ys ∧ xs.length + ys.length ≤ sizeLine ∧ P (.lst (xs ++ ys)) G
theorem o_cat : DOp X B (binaryOp .Add) rCatD := ⟨_, op_cat, fun F G H v w x y P Q g rx ry ⟨xs, ys, h1, h2, hz, p⟩ c => by
  obtain ⟨q, vs, rfl, e2, r⟩ := asL_is g rx h1
  obtain ⟨q', vs', rfl, e2', r'⟩ := asL_is g ry h2
  refine ⟨q, q', vs, vs', rfl, rfl, e2, e2', by rw [r.length, r'.length]; exact hz, fun l hl => ?_⟩
  obtain ⟨l2, g2⟩ := g.newF hl (.lst (vs ++ vs'))
  exact c _ _ _ _ _ p l2 g2 (.lst upd_same ((r.append r').le l2))⟩
end

/-! ### data compared -/
def pl : Nat → Dt → Bool
  | _, .non => true
  | _, .int _ => true
  | _, .str x => PyData.strOk x
  | n + 1, .lst xs => xs.all (pl n)
  | n + 1, .tup xs => xs.all (pl n)
  | _, _ => false
def toPy : Nat → Dt → PyData
  | _, .int i => .int i
  | _, .str x => .str x
  | n + 1, .lst xs => .list (xs.map (toPy n))
  | n + 1, .tup xs => .tuple (xs.map (toPy n))
  | _, _ => .none
theorem pl_is {K : PySem.W.Frag} {F : Hp} {H : Hp} (l : ∀ a o, F a = some o → notM o = true → H a = some o) : ∀ (n : Nat) {v : V} {d : Dt}, pl n d = true → Is K F v d → Dp K H v (toPy n d) := by
  intro n
  induction n with
  | zero =>
    intro v d h i
    cases i <;> first
      | (simp [pl] at h; done)
      | (simp only [toPy]; constructor)
  | succ n ih =>
    have all : ∀ {vs : List V} {ds : List Dt}, ds.all (pl n) = true → IsL K F vs ds → DpAll K H vs (ds.map (toPy n)) := by
      intro vs ds
      induction ds generalizing vs with
      | nil => intro _ r; cases r; exact .nil
      | cons d ds ih2 =>
        intro h r
        rw [List.all_cons, Bool.and_eq_true] at h
        cases r with
        | cons r1 r2 => exact .cons (ih h.1 r1) (ih2 h.2 r2)
    intro v d h i
    cases i with
    | lst q r => simp only [pl] at h; exact .lst (SqL.of (l _ _ q rfl)) (all h r)
    | tup q r => simp only [pl] at h; exact .tup (SqT.of (l _ _ q rfl)) (all h r)
    | non => simp only [toPy]; exact .non
    | int i => simp only [toPy]; exact .int i
    | str x => simp only [toPy]; exact .str x
    | _ => simp [pl] at h
theorem pl_lay : ∀ (n : Nat) {d : Dt}, pl n d = true → (toPy n d).canLay0 = true ∧ (toPy n d).depth ≤ n := by
  intro n
  induction n with
  | zero =>
    intro d h
    cases d <;> simp [pl] at h <;> simp [toPy, PyData.canLay0, PyData.depth, h]
  | succ n ih =>
    have all : ∀ {ds : List Dt}, ds.all (pl n) = true → PyData.canLayAll0 (ds.map (toPy n)) = true ∧ PyData.depthAll (ds.map (toPy n)) ≤ n := by
      intro ds
      induction ds with
      | nil => intro _; simp [PyData.canLayAll0, PyData.depthAll]
      | cons d ds ih2 =>
        intro h
        rw [List.all_cons, Bool.and_eq_true] at h
        obtain ⟨a1, a2⟩ := ih h.1
        obtain ⟨b1, b2⟩ := ih2 h.2
        simp only [List.map_cons, PyData.canLayAll0, PyData.depthAll, a1, b1, Bool.and_self, true_and]
        omega
    intro d h
    cases d with
    | lst xs =>
      simp only [pl] at h
      obtain ⟨a, b⟩ := all h
      simp only [toPy, PyData.canLay0, PyData.depth, a, true_and]
      omega
    | tup xs =>
      simp only [pl] at h
      obtain ⟨a, b⟩ := all h
      simp only [toPy, PyData.canLay0, PyData.depth, a, true_and]
      omega
    | _ => simp [pl] at h <;> simp [toPy, PyData.canLay0, PyData.depth, h]
theorem pl_shaped {n : Nat} {d : Dt} (hn : n ≤ 64) (h : pl n d = true) : SeqAt.shaped (toPy n d) = true := by
  obtain ⟨a, b⟩ := pl_lay n h
  unfold SeqAt.shaped
  rw [a, Bool.true_and]
  exact decide_eq_true (Nat.le_trans b hn)
theorem pl_eqv : ∀ (n : Nat) {d e : Dt}, pl n d = true → pl n e = true → (PyData.eqv (toPy n d) (toPy n e) = true ↔ d = e) := by
  intro n
  induction n with
  | zero =>
    intro d e h h'
    cases d <;> simp [pl] at h <;> cases e <;> simp [pl] at h' <;> simp [toPy, PyData.eqv]
  | succ n ih =>
    have all : ∀ {ds es : List Dt}, ds.all (pl n) = true → es.all (pl n) = true → (PyData.eqvAll (ds.map (toPy n)) (es.map (toPy n)) = true ↔ ds = es) := by
      intro ds
      induction ds with
      | nil =>
        intro es _ _
        cases es <;> simp [PyData.eqvAll]
      | cons d ds ih2 =>
        intro es h h'
        cases es with
        | nil => simp [PyData.eqvAll]
        | cons e es =>
          rw [List.all_cons, Bool.and_eq_true] at h h'
          simp only [List.map_cons, PyData.eqvAll, Bool.and_eq_true, ih h.1 h'.1, ih2 h.2 h'.2, List.cons.injEq]
    intro d e h h'
    cases d <;> simp [pl] at h <;> cases e <;> simp [pl] at h' <;> simp [toPy, PyData.eqv]
    · exact all (by simpa using h) (by simpa using h')
    · exact all (by simpa using h) (by simpa using h')
section
variable {X : Cx} {B : Hp}
/-- what a value is, a mutable list read as it stands -/
def now (G : Gp) (d : Dt) : Dt := match asL G d with
  | some xs => .lst xs
  | none => d
theorem now_is {K : PySem.W.Frag} {F : Hp} {G : Gp} {H : Hp} {v : V} {d : Dt} (g : Good K B F G H) (i : Is K F v d) {n : Nat} (h : pl n (now G d) = true) : Dp K H v (toPy n (now G d)) := by
  unfold now at h ⊢
  split
  · rename_i xs e
    rw [e] at h
    obtain ⟨q, vs, rfl, e2, r⟩ := asL_is g i e
    cases n with
    | zero => simp [pl] at h
    | succ n =>
      simp only [pl] at h
      have := pl_is (K := K) (F := upd F q (.lst vs)) (H := H) (fun a o e z => by
        by_cases ha : a = q
        · subst ha; rw [upd_same] at e; cases e; exact e2
        · rw [upd_ne ha] at e; exact g.fz0 _ _ e z) (n + 1) (v := .ref q) (d := .lst xs) (by simp only [pl]; exact h)
      refine this (.lst upd_same ?_)
      have hle : ∀ a o, F a = some o → a ≠ q → (upd F q (.lst vs)) a = some o := fun a o e ha => by rw [upd_ne ha]; exact e
      cases hq : F q with
      | none => exact r.le (Le.upd hq)
      | some o =>
        have hn : notM o = true := by
          cases o with
          | dT r => obtain ⟨s, e', _⟩ := g.mm _ _ hq; rw [e2] at e'; cases e'
          | _ => rfl
        have e3 := g.fz0 _ _ hq hn
        rw [e2] at e3
        cases e3
        have : upd F q (.lst vs) = F := by
          funext a
          unfold upd
          split
          · rename_i ha; rw [ha, hq]
          · rfl
        rw [this]; exact r
  · rename_i e
    rw [e] at h
    exact pl_is g.fz0 n h i
def rEqP (neg : Bool) : DR2 := fun x y G P => (pl 9 (now G x) = true ∧ pl 9 (now G y) = true) ∧ ∀ b : Bool, (b = true ↔ now G x = now G y) → P (.bl (if neg then !b else b)) G
theorem o_eq {k : Nat} (hr : Room k X.A) : DOp X B (compareOp .Eq) (rEqP false) := ⟨_, op_eqD hr.units, fun F G H v w x y P Q g rx ry ⟨⟨h1, h2⟩, p⟩ c =>
  ⟨_, _, now_is g rx h1, now_is g ry h2, pl_shaped (by decide) h1, pl_shaped (by decide) h2, c _ G _ F H (p _ (pl_eqv 9 h1 h2)) (Le.refl F) g (.bl _)⟩⟩
theorem o_ne {k : Nat} (hr : Room k X.A) : DOp X B (compareOp .NotEq) (rEqP true) := ⟨_, op_neD hr.units, fun F G H v w x y P Q g rx ry ⟨⟨h1, h2⟩, p⟩ c =>
  ⟨_, _, now_is g rx h1, now_is g ry h2, pl_shaped (by decide) h1, pl_shaped (by decide) h2, c _ G _ F H (p _ (pl_eqv 9 h1 h2)) (Le.refl F) g (.bl _)⟩⟩
/-- two ints, two texts, two truths -/
def flatD : Dt → Bool
  | .int _ => true
  | _ => false
theorem o_eqI : DOp X B (compareOp .Eq) (r2I (fun _ _ => True) fun i j => .bl (decide (i = j))) := ⟨_, op_eq, fun F G H v w x y P Q g rx ry ⟨i, j, e1, e2, _, p⟩ c => by
  subst e1; subst e2
  cases rx; cases ry
  refine ⟨rfl, c _ G _ F H p (Le.refl F) g ?_⟩
  have e : decide (V.int i = V.int j) = decide (i = j) := by simp
  rw [e]; exact .bl _⟩
theorem o_neI : DOp X B (compareOp .NotEq) (r2I (fun _ _ => True) fun i j => .bl (!decide (i = j))) := ⟨_, op_ne, fun F G H v w x y P Q g rx ry ⟨i, j, e1, e2, _, p⟩ c => by
  subst e1; subst e2
  cases rx; cases ry
  refine ⟨rfl, c _ G _ F H p (Le.refl F) g ?_⟩
  have e : decide (V.int i = V.int j) = decide (i = j) := by simp
  rw [e]; exact .bl _⟩
end

/-! ### for simp -/
section
variable {G : Gp} {a : Addr} {xs : List Dt} {ns : List Int} {C : Addr} {fs : List Str}
theorem asL_lst : asL G (.lst xs) = some xs := rfl
theorem asQ_lst : asQ G (.lst xs) = some xs := rfl
theorem asQ_tup : asQ G (.tup xs) = some xs := rfl
theorem asQ_scr : asQ G (.scr ns) = some (ns.map Dt.int) := rfl
theorem asL_ref (h : G a = some (.lst xs)) : asL G (.ref a) = some xs := by simp only [asL, h]
theorem asQ_ref (h : G a = some (.lst xs)) : asQ G (.ref a) = some xs := by simp only [asQ, asL, h]
theorem ins_obj : insOf G (.obj C fs xs) = some (C, fs, xs) := rfl
theorem ins_ref (h : G a = some (.ins C fs xs)) : insOf G (.ref a) = some (C, fs, xs) := by simp only [insOf, h]
def mapI (g : Int → Int) : Dt → Dt
  | .int z => .int (g z)
  | d => d
end
theorem dFor_intro {wi : DTI} {g : DTG} {tb : DTS} {D : DEnds} {δ : DSt} {G : Gp} (ds : List Dt) (G1 : Gp) (W : Nat → DSt → Gp → Prop) (hw : ∀ P : List Dt → Gp → Prop, P ds G1 → wi δ G P) (h0 : W 0 δ G1)
    (turn : ∀ i d δ' G', ds[i]? = some d → W i δ' G' → g d δ' G' fun δ2 G2 => tb { D with nx := W (i + 1), ct := W (i + 1), bk := D.nx } δ2 G2) (fin : ∀ δ' G', W ds.length δ' G' → D.nx δ' G') : dFor wi g tb D δ G := hw _ ⟨W, h0, turn, fin⟩
theorem dLcP_intro {wi : DTI} {g : DTG} {tt : DTT} {te : DTE} {vs : List Nat} {δ : DSt} {G : Gp} {P : DK} (ds : List Dt) (p : Dt → Bool) (f : Dt → Dt) (hw : ∀ P : List Dt → Gp → Prop, P ds G → wi δ G P) (hz : ds.length < sizeLine)
    (turn : ∀ d G', d ∈ ds → GLe G G' → g d (dwipe δ vs) G' fun δ2 G2 => G2 = G' ∧ tt δ2 G2 fun b G3 => G3 = G' ∧ b = p d ∧ (b = true → te δ2 G3 fun y G4 => G4 = G' ∧ y = f d)) (fin : P (.lst ((ds.filter p).map f)) G) : dLcP wi g tt te vs δ G P :=
  hw _ ⟨hz, p, f, turn, fin⟩
theorem dWhile_intro {c : DTT} {tb : DTS} {D : DEnds} {δ : DSt} {G : Gp} (W : Nat → DSt → Gp → Prop) (m : Nat) (h0 : W m δ G)
    (turn : ∀ m δ G, W m δ G → c δ G fun b G1 => if b = true then tb { D with nx := fun δ' G' => ∃ m', m' < m ∧ W m' δ' G', ct := fun δ' G' => ∃ m', m' < m ∧ W m' δ' G', bk := D.nx } δ G1 else D.nx δ G1) : dWhile c tb D δ G := ⟨W, ⟨m, h0⟩, turn⟩
theorem dLc_intro {wi : DTI} {g : DTG} {tt : DTT} {te : DTE} {vs : List Nat} {δ : DSt} {G : Gp} {P : DK} (ds : List Dt) (G1 : Gp) (W : Addr → Nat → List Dt → Gp → Prop) (hw : ∀ P : List Dt → Gp → Prop, P ds G1 → wi δ G P) (h0 : ∀ D, G1 D = none → W D 0 [] (gupd G1 D (.lst [])))
    (turn : ∀ D i d acc G', G1 D = none → ds[i]? = some d → W D i acc G' → g d (dwipe δ vs) G' fun δ2 G2 => tt δ2 G2 fun b G3 => if b = true then te δ2 G3 fun y G4 => G4 D = some (.lst acc) ∧ acc.length < sizeLine ∧ W D (i + 1) (acc ++ [y]) (gupd G4 D (.lst (acc ++ [y]))) else W D (i + 1) acc G3)
    (fin : ∀ D acc G', G1 D = none → W D ds.length acc G' → P (.ref D) G') : dLc wi g tt te vs δ G P :=
  hw _ fun D hD => ⟨W D, h0 D hD, fun i d acc G' => turn D i d acc G' hD, fun acc G' => fin D acc G' hD⟩
/-! ### small places -/
section
variable {x y z u : Dt} {l : List Dt} {G : Gp} {a : Addr} {xs : List Dt}
theorem atI_0 : atI (x :: l) 0 = some x := by unfold atI ixN; simp
theorem atI_1 : atI (x :: y :: l) 1 = some y := by
  unfold atI ixN
  rw [if_pos (by decide), if_pos (by simp only [List.length_cons]; omega)]
  rfl
theorem atI_2 : atI (x :: y :: z :: l) 2 = some z := by
  unfold atI ixN
  rw [if_pos (by decide), if_pos (by simp only [List.length_cons]; omega)]
  rfl
theorem atI_3 : atI (x :: y :: z :: u :: l) 3 = some u := by
  unfold atI ixN
  rw [if_pos (by decide), if_pos (by simp only [List.length_cons]; omega)]
  rfl
theorem ix4_1 : ixN 4 1 = some 1 := by decide
theorem ix4_3 : ixN 4 3 = some 3 := by decide
theorem ix4_0 : ixN 4 0 = some 0 := by decide
theorem now_ref (h : G a = some (.lst xs)) : now G (.ref a) = .lst xs := by simp only [now, asL, h]
theorem now_lst : now G (.lst xs) = .lst xs := rfl
theorem now_int {i : Int} : now G (.int i) = .int i := rfl
theorem now_tup : now G (.tup xs) = .tup xs := rfl
theorem pl_ints (ns : List Int) : pl 9 (.lst (ns.map Dt.int)) = true := by simp [pl]
theorem pl_nil : pl 9 (.lst []) = true := rfl
end
end DL

set_option Elab.async false
set_option linter.all false
set_option maxRecDepth 100000
set_option maxHeartbeats 2000000
namespace DL
open PySem PySem.Spec L2
/-- what is asked of a class whose instances are looked at by isinstance -/
structure IsF (K : PySem.W.Frag) (C : Addr) : Prop where
  cl : Cls K C
  ha : PySem.W.findIn K (.ref C) "__class__" = some (some (.builtin "object.__class__"))
  hn : PySem.W.specialIn K (.builtin "object.__class__") "__get__" = some (some (.builtin "getset_descriptor.__get__"))
  htk : PySem.W.takesIn K (.builtin "object.__class__") = some true
  hm : PySem.W.mroIn K C (.type "object") = some true
def tagD (G : Gp) : Dt → Option Value
  | .non => some (.type "NoneType")
  | .bl _ => some (.type "bool")
  | .int _ => some (.type "int")
  | .str _ => some (.type "str")
  | .lst _ => some (.type "list")
  | .tup _ => some (.type "tuple")
  | .obj C _ _ => some (.ref C)
  | .ref a => match G a with
    | some (.lst _) => some (.type "list")
    | some (.ins C _ _) => some (.ref C)
    | some (.dK _) => some (.type "dict")
    | some (.raw _) => none
    | none => none
  | _ => none
theorem tag_is {K : PySem.W.Frag} {B F : Hp} {G : Gp} {H : Hp} {v : V} {d : Dt} {t : Value} (g : Good K B F G H) (i : Is K F v d) (h : tagD G d = some t) (hc : ∀ C, t = .ref C → IsF K C) : TyX K H v t := by
  cases i with
  | non => cases h; exact .base .non
  | bl b => cases h; exact .base (.bl b)
  | int n => cases h; exact .base (.int n)
  | str x => cases h; exact .base (.str x)
  | lst q r => cases h; exact .base (.lst (g.fz _ _ q))
  | tup q r => cases h; exact .base (.tup (g.fz _ _ q))
  | obj q n r =>
    cases h
    obtain ⟨h1, h2, h3, h4, h5⟩ := hc _ rfl
    exact .base (.ins (g.fz _ _ q) h1 h2 h3 h4 h5)
  | ref a =>
    unfold tagD at h
    dsimp only at h
    split at h
    · rename_i xs e
      cases h
      obtain ⟨vs, e1, _⟩ := g.mlst e
      exact .base (.lst e1)
    · rename_i C ns xs e
      cases h
      obtain ⟨dx, fs, e1, _, _⟩ := g.mins e
      obtain ⟨h1, h2, h3, h4, h5⟩ := hc _ rfl
      exact .base (.ins e1 h1 h2 h3 h4 h5)
    · rename_i kvs e
      cases h
      obtain ⟨r, e1, _⟩ := g.mdK e
      exact .base (.dK e1)
    · cases h
    · cases h
  | ty n => cases h
  | scr q => cases h
  | memo q => cases h
  | dk q => cases h
  | exc q q2 r => cases h
def clsD : Dt → Option Value
  | .ty n => some (.type n)
  | .ref C => some (.ref C)
  | _ => none
section
variable {X : Cx} {B : Hp} {pos : Pos} {e a b : Expr} {ta tb : DTE}
def rIsiD (K : PySem.W.Frag) : DR := fun ds G P => ∃ d c t u b, ds = [d, c] ∧ tagD G d = some t ∧ clsD c = some u ∧ (∀ C, t = .ref C → IsF K C) ∧ PySem.W.kitOne K t u = some b ∧ P (.bl b) G
theorem c_isi : DCall X B (.builtin "isinstance") (rIsiD X.K) := ⟨_, call_isi, fun F G H vs ds P Q g i ⟨d, c, t, u, b, e, h1, h2, h3, h4, p⟩ k => by
  subst e
  cases i with
  | cons i1 i2 =>
    cases i2 with
    | cons i2 i3 =>
      cases i3
      have hc : ∃ w, ClsV w u ∧ ∀ w', Is X.K F w' c → w' = w := by
        cases c <;> first
          | (cases h2; exact ⟨_, .ty _, fun w' h => by cases h; rfl⟩)
          | (cases h2; exact ⟨_, .own _, fun w' h => by cases h; rfl⟩)
          | cases h2
      obtain ⟨w, hw, hw'⟩ := hc
      have := hw' _ i2
      subst this
      exact ⟨_, _, t, u, b, rfl, hw, tag_is g i1 h1 h3, h4, k _ G _ F H p (Le.refl F) g (.bl b)⟩⟩
/-- a built-in class, an own class, as a value -/
theorem d_ty {x : Str} {n : String} (hg : Gl X x) (hm : X.mg x = none) (hv : bootBuiltins x = some (.type n)) (hn : x ≠ "__name__" := by decide) (hd : (x == ("__debug__" : Str)) = false := by decide) : DE X B (.Name x pos) (dC (.ty n)) :=
  PE.imp (pe_bltn hg hm hv (v := .ty n) rfl hn hd) fun σ H Q ⟨F, G, δ, P, g, s, p, c⟩ => c _ G _ F H p (Le.refl F) g (.ty n)
theorem d_cls {x : Str} {C : Addr} (hg : Gl X x) (hm : X.mg x = some (.ref C)) (hd : (x == ("__debug__" : Str)) = false := by decide) : DE X B (.Name x pos) (dC (.ref C)) :=
  PE.imp (pe_glob hg hm (v := .ref C) rfl hd) fun σ H Q ⟨F, G, δ, P, g, s, p, c⟩ => c _ G _ F H p (Le.refl F) g (.ref C)
/-! ### own == and != -/
/-- the class at C has its own def at f for the comparison -/
structure OwnCmp (K : PySem.W.Frag) (C f : Addr) (m : Str) : Prop where
  at_ : PySem.W.findIn K (.ref C) m = some (some (.ref f))
  fn : PySem.W.isFn K (.ref f) = true
def rOwn (K : PySem.W.Frag) (C : Addr) (c : DSp) : DR2 := fun x y G P => (∃ ns xs, insOf G x = some (C, ns, xs)) ∧ (∃ t, tagD G y = some t ∧ (∀ D, t = .ref D → IsF K D) ∧ PySem.W.notFirst K C t = true) ∧ c [x, y] G P noX
theorem notImp_ne {v : V} {u : Value} (r : RelV v u) : u ≠ .notImplemented := by
  intro e
  subst e
  have := r.abs
  cases this
theorem cmpBack_of {Q : Value → Shared → Prop} {u : Value} {s : Shared} (h : u ≠ .notImplemented) (q : Q u s) : PySem.W.CmpBack Q u s := by
  unfold PySem.W.CmpBack
  split
  · exact h rfl
  · exact q
theorem own_op {op : CmpOp} {C f : Addr} {fd : FuncData} {ps : List Str} {k j : Nat} {c : DSp} (hop : ∀ u v : Value, compareOp op u v = richCompare op u v) (F : FnOk X.prog X.w X.K X.mg X.base CX0 k f fd ps (toSp X.K c)) (hb : Binds X.K fd ps []) (ho : OwnCmp X.K C f (PySem.cmpInfo op).2.1) (hr : Room j X.A) (hj : k ≤ j) :
    DOp X B (compareOp op) (rOwn X.K C c) := by
  refine ⟨fun x y H Q => ∃ a dx fs t, x = .ref a ∧ H a = some (.ins C dx fs) ∧ TyX X.K H y t ∧ PySem.W.notFirst X.K C t = true ∧ toSp X.K c [x, y] H Q (fun _ _ _ => False), ?_, ?_⟩
  · rintro pins s σ H x y v u Q I rx ry ⟨a, dx, fs, t, rfl, ha, ty, hn, hsp⟩
    cases (show v = Value.ref a from rx)
    rw [hop]
    obtain ⟨mA, J, _⟩ := ins_get I.hok ha
    obtain ⟨od, J, _⟩ := J.look
    obtain ⟨m, hF⟩ := I.fr
    obtain ⟨P, Z, p, hx⟩ := kit_of I ry ty
    refine PySem.W.cmp_K (f := f) hr.units0 hF I.ok.mod.kin J (Z.ty _ _ I.kIn p) hn ho.at_ ho.fn ?_
    have := run_fn (E := fun _ _ _ => False) (us := [.ref a, u]) (vs := [.ref a, y]) (F.mono hj) hr hb .nil (fun _ _ _ _ _ _ _ h => h.elim) I (.cons rfl (.cons ry .nil)) (by simpa using hsp)
    refine wpAny_mono this (fun w s' ⟨z, H', I', rz, q⟩ => ?_) fun _ _ z => z
    exact cmpBack_of (notImp_ne rz) ⟨z, H', I', rz, q⟩
  · rintro F G H v w x y P Q g rx ry ⟨⟨ns, xs, h1⟩, ⟨t, h2, h3, h4⟩, p⟩ k
    obtain ⟨a, dx, fs, rfl, e1, _, _⟩ := insOf_is g rx h1
    exact ⟨a, dx, fs, t, rfl, e1, tag_is g ry h2 h3, h4, toSp_of g (.cons rx (.cons ry .nil)) p k contX_no⟩
end
section
variable {K : PySem.W.Frag}
theorem kit_bool_bool : PySem.W.kitOne K (.type "bool") (.type "bool") = some true := kit_ty (by decide +kernel)
theorem kit_int_bool : PySem.W.kitOne K (.type "int") (.type "bool") = some false := kit_ty (by decide +kernel)
theorem kit_int_int : PySem.W.kitOne K (.type "int") (.type "int") = some true := kit_ty (by decide +kernel)
theorem kit_bool_int : PySem.W.kitOne K (.type "bool") (.type "int") = some true := kit_ty (by decide +kernel)
theorem kit_str_bool : PySem.W.kitOne K (.type "str") (.type "bool") = some false := kit_ty (by decide +kernel)
theorem kit_str_int : PySem.W.kitOne K (.type "str") (.type "int") = some false := kit_ty (by decide +kernel)
theorem kit_str_str : PySem.W.kitOne K (.type "str") (.type "str") = some true := kit_ty (by decide +kernel)
theorem kit_list_bool : PySem.W.kitOne K (.type "list") (.type "bool") = some false := kit_ty (by decide +kernel)
theorem kit_list_int : PySem.W.kitOne K (.type "list") (.type "int") = some false := kit_ty (by decide +kernel)
theorem kit_list_str : PySem.W.kitOne K (.type "list") (.type "str") = some false := kit_ty (by decide +kernel)
theorem kit_list_list : PySem.W.kitOne K (.type "list") (.type "list") = some true := kit_ty (by decide +kernel)
theorem kit_list_tuple : PySem.W.kitOne K (.type "list") (.type "tuple") = some false := kit_ty (by decide +kernel)
theorem kit_tuple_bool : PySem.W.kitOne K (.type "tuple") (.type "bool") = some false := kit_ty (by decide +kernel)
theorem kit_tuple_int : PySem.W.kitOne K (.type "tuple") (.type "int") = some false := kit_ty (by decide +kernel)
theorem kit_tuple_str : PySem.W.kitOne K (.type "tuple") (.type "str") = some false := kit_ty (by decide +kernel)
theorem kit_tuple_list : PySem.W.kitOne K (.type "tuple") (.type "list") = some false := kit_ty (by decide +kernel)
theorem kit_tuple_tuple : PySem.W.kitOne K (.type "tuple") (.type "tuple") = some true := kit_ty (by decide +kernel)
end
end DL

set_option Elab.async false
set_option linter.all false
set_option maxRecDepth 100000
set_option maxHeartbeats 2000000
namespace HT
open PySem PyProof.Rows
section
variable {prog : Program} {w : World} {A : Around} {E : Value → Shared → Prop} {s : Shared}
theorem sliceApplied_step {sl : Addr} {k : Int} {tk : Tok} {n : Nat} {a b : Int} {c : Nat} {Q : Int × Int × Nat → Shared → Prop} (hs : s.heap.IsSliceOf sl .none .none (.int k tk)) (h0 : (k == 0) = false)
    (e : Builtin.Slice.sliceAdjust none none k (n : Int) = (a, b)) (e2 : Builtin.Slice.slicePlaces a b k = c) (h : Q (a, k, c) s) : wpAny (model prog w) A (Builtin.Slice.sliceApplied (.ref sl) (pure (n : Int))) Q E s := by
  obtain ⟨os, hos, hcs, hds⟩ := id hs
  unfold Builtin.Slice.sliceApplied Builtin.Slice.sliceFields
  refine wpAny_bind (wpAny_bind (wpAny_field hos hds (x := .none) rfl (wpAny_bind (wpAny_field hos hds (x := .none) rfl (wpAny_bind (wpAny_field hos hds (x := .int k tk) rfl (wpAny_pure ?_)))))))
  refine wpAny_bind (slicePart_int ?_)
  show wpAny _ _ (if (k == 0) = true then _ else _) _ _ s
  rw [if_neg (by rw [h0]; exact Bool.false_ne_true)]
  refine wpAny_bind (slicePart_none (wpAny_bind (slicePart_none (wpAny_bind (wpAny_pure ?_)))))
  show wpAny _ _ (match Builtin.Slice.sliceAdjust none none k (n : Int) with | (lo, hi) => pure (lo, k, Builtin.Slice.slicePlaces lo hi k)) _ _ s
  rw [e]
  show wpAny _ _ (pure (a, k, Builtin.Slice.slicePlaces a b k)) _ _ s
  rw [e2]
  exact wpAny_pure h
theorem getItem_pair_back {t sl : Addr} {u v : Value} {tk : Tok} {Q : Value → Shared → Prop} (ht : IsTup s.heap t #[u, v]) (hs : s.heap.IsSliceOf sl .none .none (.int (-1) tk))
    (h : Q (.ref s.heap.objs.size) { s with heap := s.heap.push { cls := .type "tuple", data := .seq #[v, u] } }) : wpAny (model prog w) A (getItem (.ref t) (.ref sl)) Q E s := by
  have htake : sizeOk (.seq #[v, u]) := by
    show 2 ≤ sizeLine
    rw [sizeLine_eq]; decide
  obtain ⟨os, hos, hcs, hds⟩ := id hs
  have hTs : s.TypeIs (.ref sl) "slice" := ⟨os, hos, hcs⟩
  unfold getItem
  try with_reducible refine wpAny_holding ?_
  first | refine wpAny_bind (wpAny_pure ?_) | skip
  refine wpAny_bind (wpAny_sequenceKey ht.typeIs (by decide) ?_)
  refine wpAny_bind (wpAny_callSpecial?_slot (name := Str.ofString "__getitem__") ht.typeIs PyProof.Rows.slot_tuple_getitem
    (wpAny_call_entry PyProof.Rows.slot_tuple_getitem ht.typeIs entry_tuple_getitem ?_ (args_tuple_getitem _ _)))
  show wpAny _ _ (Builtin.Tuple.tupleItemsOf (.ref t) >>= _) _ _ s
  refine wpAny_bind (tupleItemsOf_ ht ?_)
  refine wpAny_bind (wpAny_typeOf hTs ?_)
  rw [if_pos (by decide)]
  refine wpAny_bind (sliceApplied_step (n := 2) (a := 1) (b := -1) (c := 2) hs (by decide) (by decide) (by decide) ?_)
  show wpAny _ _ (if ((1 : Int) == 0 && (-1 : Int) == 1 && 2 == 2) = true then _ else _) _ _ s
  rw [if_neg (by decide)]
  first
    | exact wpAny_bind (m := Builtin.Tuple.tupleExact _) (wpAny_newObj_type (wpAny_pure ⟨_, rfl, wpAny_pure h⟩) htake)
    | exact wpAny_bind (m := Builtin.Tuple.tupleExact _) (wpAny_newObj_type (wpAny_bind (wpAny_pure (wpAny_pure ⟨_, rfl, wpAny_pure h⟩))) htake)
    | exact wpAny_bind (wpAny_bind (m := Builtin.Tuple.tupleExact _) (wpAny_newObj_type (wpAny_pure (wpAny_pure ⟨_, rfl, wpAny_pure h⟩)) htake))
    | exact wpAny_bind (wpAny_bind (m := Builtin.Tuple.tupleExact _) (wpAny_newObj_type (wpAny_pure ⟨_, rfl, wpAny_pure h⟩) htake))
theorem getItem_pair_whole {t sl : Addr} {u v : Value} {tk : Tok} {Q : Value → Shared → Prop} (ht : IsTup s.heap t #[u, v]) (hs : s.heap.IsSliceOf sl .none .none (.int 1 tk))
    (h : Q (.ref t) s) : wpAny (model prog w) A (getItem (.ref t) (.ref sl)) Q E s := by
  obtain ⟨os, hos, hcs, hds⟩ := id hs
  have hTs : s.TypeIs (.ref sl) "slice" := ⟨os, hos, hcs⟩
  unfold getItem
  try with_reducible refine wpAny_holding ?_
  first | refine wpAny_bind (wpAny_pure ?_) | skip
  refine wpAny_bind (wpAny_sequenceKey ht.typeIs (by decide) ?_)
  refine wpAny_bind (wpAny_callSpecial?_slot (name := Str.ofString "__getitem__") ht.typeIs PyProof.Rows.slot_tuple_getitem
    (wpAny_call_entry PyProof.Rows.slot_tuple_getitem ht.typeIs entry_tuple_getitem ?_ (args_tuple_getitem _ _)))
  show wpAny _ _ (Builtin.Tuple.tupleItemsOf (.ref t) >>= _) _ _ s
  refine wpAny_bind (tupleItemsOf_ ht ?_)
  refine wpAny_bind (wpAny_typeOf hTs ?_)
  rw [if_pos (by decide)]
  refine wpAny_bind (sliceApplied_step (n := 2) (a := 0) (b := 2) (c := 2) hs (by decide) (by decide) (by decide) ?_)
  show wpAny _ _ (if ((0 : Int) == 0 && (1 : Int) == 1 && 2 == 2) = true then _ else _) _ _ s
  rw [if_pos (by decide)]
  unfold Builtin.Tuple.tupleIsExact
  refine wpAny_bind (wpAny_bind (wpAny_typeOf ht.typeIs (wpAny_pure ?_)))
  rw [if_pos (by decide)]
  exact wpAny_bind (wpAny_rule (wpAny_pure ⟨_, rfl, wpAny_pure h⟩))
end
end HT
namespace DL
open PySem PySem.Spec L2
section
variable {X : Cx} {B : Hp} {e b : Expr} {te tb : TE} {ta td : DTE} {pos p3 : Pos}
/-- t[::k], t a pair, k 1 or -1 -/
def tStep (K : PySem.W.Frag) (te ts : TE) : TE := fun σ H Q => te σ H fun x H1 => ts σ H1 fun y H2 => ∃ a u v k, x = .ref a ∧ SqT K H2 a [u, v] ∧ y = .int k ∧ ((k = 1 ∧ Q (.ref a) H2) ∨ (k = -1 ∧ ∀ p, H2 p = none → Q (.ref p) (upd H2 p (.tup [v, u]))))
open PyProof.Rows in
theorem pe_step (he : PE X e te) (hb : PE X b tb) : PE X (.Subscript e (.Slice none none (some b) p3) pos) (tStep X.K te tb) := by
  refine ⟨fun pins s σ H Q I h => ?_⟩
  refine PyProof.Rows.Subscript_ (thn (he.run pins s σ H _ I h) fun v s1 ⟨x, H1, I1, r1, q1⟩ => ?_)
  refine wpAny_Slice (thn (po_none.run pins s1 σ H1 (fun o H2 => o = none ∧ H2 = H1) I1 ⟨rfl, rfl⟩) fun vl s2 ⟨l, H2, I2, pl, el, e2⟩ => ?_)
  subst el e2
  refine thn (po_none.run pins s2 σ H2 (fun o H3 => o = none ∧ H3 = H2) I2 ⟨rfl, rfl⟩) fun vu s3 ⟨u, H3, I3, pu, eu, e3⟩ => ?_
  subst eu e3
  rw [evalPart_some]
  refine thn (hb.run pins s3 σ H3 _ I3 q1) fun vs s4 ⟨y, H4, I4, ry, a, u, v', k, ex, hx, ey, q⟩ => ?_
  subst ex; subst ey
  cases r1
  obtain ⟨tk, rfl⟩ := (show ∃ t, vs = Value.int k t from ry)
  cases pl
  cases pu
  have I5 : Inv X pins σ H4 { s4 with heap := s4.heap.push { cls := .type "slice", data := .fields #[.none, .none, .int k tk] } } := I4.kept (t' := s4.toks) fun b ob q => Heap.get?_push_of_some _ q
  obtain ⟨its, r, ht, hz⟩ := I5.tuple hx
  obtain ⟨u1, v1, rfl, ru, rv⟩ : ∃ u1 v1, its = [u1, v1] ∧ RelV u u1 ∧ RelV v' v1 := by
    cases r with
    | cons r1 r =>
      cases r with
      | cons r2 r =>
        cases r
        exact ⟨_, _, rfl, r1, r2⟩
  show wpAny (model X.prog X.w) X.A (subscriptTail e (.Slice none none (some b) p3) (.ref a) (.ref s4.heap.objs.size)) (EP X pins σ Q) X.xe { s4 with heap := s4.heap.push { cls := .type "slice", data := .fields #[.none, .none, .int k tk] } }
  refine tail_any (ops := [.ref a, .ref s4.heap.objs.size]) ht.typeIs (PyProof.Rows.slot_tuple_getitem.lookup) ?_ (by with_unfolding_all rfl)
  rcases q with ⟨rfl, q⟩ | ⟨rfl, q⟩
  · exact HT.getItem_pair_whole ht (Heap.IsSliceOf.new ..) ⟨.ref a, H4, I5, rfl, q⟩
  · refine HT.getItem_pair_back ht (Heap.IsSliceOf.new ..) ?_
    refine ⟨.ref _, _, I5.laid (t' := s4.toks) (o := .tup [v', u]) (fun b ob q => Heap.get?_push_of_some _ q) (Nat.le_refl _) ?_, rfl, q _ (I5.hok.fresh (Nat.le_refl _))⟩
    exact ⟨by rw [sizeLine_eq]; show 2 ≤ 16777216; decide, [v1, u1], .cons rv (.cons ru .nil), IsTup.new _ _⟩
def dStep (te ts : DTE) : DTE := fun δ G P => te δ G fun x G1 => ts δ G1 fun y G2 => ∃ u v k, x = .tup [u, v] ∧ y = .int k ∧ ((k = 1 ∧ P (.tup [u, v]) G2) ∨ (k = -1 ∧ P (.tup [v, u]) G2))
theorem d_step (ha : DE X B e ta) (hb : DE X B b td) : DE X B (.Subscript e (.Slice none none (some b) p3) pos) (dStep ta td) := PE.imp (pe_step ha hb) fun σ H Q ⟨F, G, δ, P, g, s, p, c⟩ =>
  ⟨F, G, δ, _, g, s, p, fun x G1 vx F1 H1 p1 l1 g1 i1 => ⟨F1, G1, δ, _, g1, s.le l1, p1, fun y G2 vy F2 H2 ⟨u, v, k, ex, ey, q⟩ l2 g2 i2 => by
    subst ex; subst ey
    cases i2
    have i3 := i1.le l2
    cases i3 with
    | tup q0 r =>
      cases r with
      | cons ru r =>
        cases r with
        | cons rv r =>
          cases r
          refine ⟨_, _, _, k, rfl, SqT.of (g2.fz _ _ q0), rfl, ?_⟩
          rcases q with ⟨e, q⟩ | ⟨e, q⟩
          · exact .inl ⟨e, c _ G2 _ F2 H2 q (l1.trans l2) g2 (.tup q0 (.cons ru (.one rv)))⟩
          · refine .inr ⟨e, fun p hp => ?_⟩
            obtain ⟨l3, g3⟩ := g2.newF hp (.tup [_, _])
            exact c _ G2 _ _ _ q ((l1.trans l2).trans l3) g3 (.tup upd_same (.cons (rv.le l3) (.one (ru.le l3))))⟩⟩
end
end DL

set_option Elab.async false
set_option linter.all false
set_option maxRecDepth 100000
set_option maxHeartbeats 2000000
/-! min and max of a pair; is None; == and != of two flat values. -/
namespace DL
open PySem PySem.Spec L2
section
variable {prog : Program} {w : World} {A : Around} {E : Value → Shared → Prop} {s : Shared}
theorem min_pair {x : Addr} {a b : Int} {t u : Tok} {Q : Value → Shared → Prop} (calm : A.handled = none) (tup : s.heap.IsTuple x (intItems #[(a, t), (b, u)]))
    (go : ∀ h' tk, (∀ c o, s.heap.get? c = some o → h'.get? c = some o) → Q (if b < a then .int b u else .int a t) { s with heap := h', toks := tk }) :
    wpAny (model prog w) A (call (.builtin "min") [.ref x]) Q E s := by
  have inside : x < s.heap.objs.size := let ⟨_, e, _⟩ := tup; Heap.lt_size e
  have walks := Walks.tuple (prog := prog) (w := w) (A := A.in1) calm s.heap.objs.size x (Nat.ne_of_lt inside) (intItems #[(a, t), (b, u)])
  refine call_min_walk (wpAny_pyIter_tuple tup ⟨_, _, _, _, _, _, _, rfl, walks, ⟨⟨_, Heap.get?_push_size _ rfl, rfl, rfl⟩, tup.push _⟩, ?small, by simp [intItems], CmpOf.ints_lt (numAt #[(a, t), (b, u)]) fun _ _ => intItems_at, ?best⟩)
  case small =>
    intro c hc
    show c < (s.heap.push _).objs.size
    rw [Heap.size_push]
    simp only [List.mem_cons, List.not_mem_nil, or_false] at hc
    rcases hc with e | e <;> subst e
    · exact Nat.lt_succ_self _
    · exact Nat.lt_succ_of_lt inside
  case best =>
    intro v h' tk hv stay
    have old := go h' tk fun c o e => stay c o (fun hm => Nat.ne_of_lt (Heap.lt_size e) (List.mem_singleton.mp hm)) (Heap.get?_push_of_some _ e)
    rw [show (intItems #[(a, t), (b, u)]).size - 1 = 1 by simp [intItems]] at hv
    by_cases less : b < a
    · rw [if_pos less] at old
      simp [argBest, numAt, intItems, less] at hv
      rw [← hv]; exact old
    · rw [if_neg less] at old
      simp [argBest, numAt, intItems, less] at hv
      rw [← hv]; exact old
theorem max_pair {x : Addr} {a b : Int} {t u : Tok} {Q : Value → Shared → Prop} (calm : A.handled = none) (tup : s.heap.IsTuple x (intItems #[(a, t), (b, u)]))
    (go : ∀ h' tk, (∀ c o, s.heap.get? c = some o → h'.get? c = some o) → Q (if b > a then .int b u else .int a t) { s with heap := h', toks := tk }) :
    wpAny (model prog w) A (call (.builtin "max") [.ref x]) Q E s := by
  have inside : x < s.heap.objs.size := let ⟨_, e, _⟩ := tup; Heap.lt_size e
  have walks := Walks.tuple (prog := prog) (w := w) (A := A.in1) calm s.heap.objs.size x (Nat.ne_of_lt inside) (intItems #[(a, t), (b, u)])
  refine call_max_walk (wpAny_pyIter_tuple tup ⟨_, _, _, _, _, _, _, rfl, walks, ⟨⟨_, Heap.get?_push_size _ rfl, rfl, rfl⟩, tup.push _⟩, ?small, by simp [intItems], CmpOf.ints_gt (numAt #[(a, t), (b, u)]) fun _ _ => intItems_at, ?best⟩)
  case small =>
    intro c hc
    show c < (s.heap.push _).objs.size
    rw [Heap.size_push]
    simp only [List.mem_cons, List.not_mem_nil, or_false] at hc
    rcases hc with e | e <;> subst e
    · exact Nat.lt_succ_self _
    · exact Nat.lt_succ_of_lt inside
  case best =>
    intro v h' tk hv stay
    have old := go h' tk fun c o e => stay c o (fun hm => Nat.ne_of_lt (Heap.lt_size e) (List.mem_singleton.mp hm)) (Heap.get?_push_of_some _ e)
    rw [show (intItems #[(a, t), (b, u)]).size - 1 = 1 by simp [intItems]] at hv
    by_cases less : b > a
    · rw [if_pos less] at old
      simp [argBest, numAt, intItems, less] at hv
      rw [← hv]; exact old
    · rw [if_neg less] at old
      simp [argBest, numAt, intItems, less] at hv
      rw [← hv]; exact old
end
section
variable {X : Cx} {B : Hp}
theorem call_minP (hc : X.calm = true) : CallR X (.builtin "min") (fun vs H Q => ∃ a i j, vs = [V.ref a] ∧ SqT X.K H a [.int i, .int j] ∧ Q (.int (if j < i then j else i)) H) := by
  intro pins s σ H vs us Q I r h
  obtain ⟨a, i, j, rfl, hs, q⟩ := h
  rw [Vals.ref1 r]
  obtain ⟨its, rv, ht, hz⟩ := I.tuple hs
  obtain ⟨t, u, rfl⟩ : ∃ t u, its = [.int i t, .int j u] := by
    cases rv with
    | cons r1 r =>
      cases r with
      | cons r2 r =>
        cases r
        obtain ⟨t, rfl⟩ := r1
        obtain ⟨u, rfl⟩ := r2
        exact ⟨t, u, rfl⟩
  refine min_pair (I.ok.hd hc) (a := i) (b := j) (t := t) (u := u) (show Heap.IsTuple s.heap a (intItems #[(i, t), (j, u)]) from by simpa [intItems] using (show s.heap.IsTuple a #[Value.int i t, Value.int j u] from ht)) fun h' tk k => ⟨_, H, I.kept k, ?_, q⟩
  by_cases hj : j < i
  · rw [if_pos hj, if_pos hj]; exact ⟨_, rfl⟩
  · rw [if_neg hj, if_neg hj]; exact ⟨_, rfl⟩
def rminP : DR := fun ds G P => ∃ (i j : Int), ds = [.tup [.int i, .int j]] ∧ P (.int (min i j)) G
theorem c_minP (hc : X.calm = true) : DCall X B (.builtin "min") rminP := ⟨_, call_minP hc, fun F G H vs ds P Q g i ⟨m, n, e, p⟩ c => by
  subst e
  cases i with
  | cons i1 i2 =>
    cases i2
    cases i1 with
    | tup q0 r =>
      cases r with
      | cons ru r =>
        cases r with
        | cons rv r =>
          cases r
          cases ru; cases rv
          refine ⟨_, m, n, rfl, SqT.of (g.fz _ _ q0), ?_⟩
          have e : (if n < m then n else m) = min m n := by
            split <;> omega
          rw [e]
          exact c _ G _ F H p (Le.refl F) g (.int _)⟩
theorem call_maxP (hc : X.calm = true) : CallR X (.builtin "max") (fun vs H Q => ∃ a i j, vs = [V.ref a] ∧ SqT X.K H a [.int i, .int j] ∧ Q (.int (if j > i then j else i)) H) := by
  intro pins s σ H vs us Q I r h
  obtain ⟨a, i, j, rfl, hs, q⟩ := h
  rw [Vals.ref1 r]
  obtain ⟨its, rv, ht, hz⟩ := I.tuple hs
  obtain ⟨t, u, rfl⟩ : ∃ t u, its = [.int i t, .int j u] := by
    cases rv with
    | cons r1 r =>
      cases r with
      | cons r2 r =>
        cases r
        obtain ⟨t, rfl⟩ := r1
        obtain ⟨u, rfl⟩ := r2
        exact ⟨t, u, rfl⟩
  refine max_pair (I.ok.hd hc) (a := i) (b := j) (t := t) (u := u) (show Heap.IsTuple s.heap a (intItems #[(i, t), (j, u)]) from by simpa [intItems] using (show s.heap.IsTuple a #[Value.int i t, Value.int j u] from ht)) fun h' tk k => ⟨_, H, I.kept k, ?_, q⟩
  by_cases hj : j > i
  · rw [if_pos hj, if_pos hj]; exact ⟨_, rfl⟩
  · rw [if_neg hj, if_neg hj]; exact ⟨_, rfl⟩
def rmaxP : DR := fun ds G P => ∃ (i j : Int), ds = [.tup [.int i, .int j]] ∧ P (.int (max i j)) G
theorem c_maxP (hc : X.calm = true) : DCall X B (.builtin "max") rmaxP := ⟨_, call_maxP hc, fun F G H vs ds P Q g i ⟨m, n, e, p⟩ c => by
  subst e
  cases i with
  | cons i1 i2 =>
    cases i2
    cases i1 with
    | tup q0 r =>
      cases r with
      | cons ru r =>
        cases r with
        | cons rv r =>
          cases r
          cases ru; cases rv
          refine ⟨_, m, n, rfl, SqT.of (g.fz _ _ q0), ?_⟩
          have e : (if n > m then n else m) = max m n := by
            split <;> omega
          rw [e]
          exact c _ G _ F H p (Le.refl F) g (.int _)⟩
def isNon : Dt → Bool
  | .non => true
  | _ => false
/-- is None -/
def rIsND : DR2 := fun x y G P => y = .non ∧ P (.bl (isNon x)) G
theorem o_isD : DOp X B (compareOp .Is) rIsND := ⟨_, op_isN, fun F G H v w x y P Q g rx ry ⟨e, p⟩ c => by
  subst e
  cases ry
  refine ⟨rfl, c _ G _ F H p (Le.refl F) g ?_⟩
  have e : decide (v = V.non) = isNon x := by cases rx <;> simp [isNon]
  rw [e]
  exact .bl _⟩
/-- two flat values of one kind -/
def rEqS (neg : Bool) : DR2 := fun x y G P => (∃ b c : Bool, x = .bl b ∧ y = .bl c ∧ P (.bl (neg != decide (b = c))) G) ∨ (∃ i j : Int, x = .int i ∧ y = .int j ∧ P (.bl (neg != decide (i = j))) G) ∨ (∃ s t : Str, x = .str s ∧ y = .str t ∧ P (.bl (neg != decide (s = t))) G)
theorem o_eqS : DOp X B (compareOp .Eq) (rEqS false) := ⟨_, op_eq, fun F G H v w x y P Q g rx ry h c => by
  rcases h with ⟨i, j, rfl, rfl, p⟩ | ⟨i, j, rfl, rfl, p⟩ | ⟨i, j, rfl, rfl, p⟩ <;> cases rx <;> cases ry <;> refine ⟨rfl, c _ G _ F H p (Le.refl F) g ?_⟩
  · have e : decide (V.bl i = V.bl j) = (false != decide (i = j)) := by simp
    rw [e]; exact .bl _
  · have e : decide (V.int i = V.int j) = (false != decide (i = j)) := by simp
    rw [e]; exact .bl _
  · have e : decide (V.str i = V.str j) = (false != decide (i = j)) := by simp
    rw [e]; exact .bl _⟩
theorem o_neS : DOp X B (compareOp .NotEq) (rEqS true) := ⟨_, op_ne, fun F G H v w x y P Q g rx ry h c => by
  rcases h with ⟨i, j, rfl, rfl, p⟩ | ⟨i, j, rfl, rfl, p⟩ | ⟨i, j, rfl, rfl, p⟩ <;> cases rx <;> cases ry <;> refine ⟨rfl, c _ G _ F H p (Le.refl F) g ?_⟩
  · have e : (!decide (V.bl i = V.bl j)) = (true != decide (i = j)) := by simp
    rw [e]; exact .bl _
  · have e : (!decide (V.int i = V.int j)) = (true != decide (i = j)) := by simp
    rw [e]; exact .bl _
  · have e : (!decide (V.str i = V.str j)) = (true != decide (i = j)) := by simp
    rw [e]; exact .bl _⟩
/-- a body whose contract asks the impossible -/
theorem dss_never {st : Stmt} {rest : List Stmt} : DSs X B (st :: rest) dNever := by
  induction rest generalizing st with
  | nil => exact dss_one ds_never
  | cons r rs ih => exact dss_cons ds_never ih
end
end DL

set_option Elab.async false
set_option linter.all false
set_option maxRecDepth 100000
set_option maxHeartbeats 2000000
/-! list.reverse, list.count, in, int(bool), slices of lists and of the script, {}, a keyword. -/
namespace DL
open PySem PySem.Spec L2
section
variable {X : Cx} {B : Hp} {e a b o : Expr} {pos apos p2 : Pos} {ta tb te to : DTE} {tl : DTA}
def rRevD : Dt → List Dt → Gp → DK → Prop := fun x ds G P => ∃ a xs, x = .ref a ∧ ds = [] ∧ G a = some (.lst xs) ∧ P .non (gupd G a (.lst xs.reverse))
theorem isL_reverse {K : PySem.W.Frag} {F : Hp} : ∀ {vs : List V} {ds : List Dt}, IsL K F vs ds → IsL K F vs.reverse ds.reverse
  | _, _, .nil => .nil
  | _, _, .cons h r => by
    rw [List.reverse_cons, List.reverse_cons]
    exact (isL_reverse r).append (.one h)
theorem m_reverse : DMt X B "list.reverse" rRevD := ⟨_, mt_reverse, fun F G H v x vs ds P Q g i1 i2 ⟨a, xs, e1, e2, h, p⟩ c => by
  subst e1; subst e2
  cases i1
  cases i2
  obtain ⟨ws, e, r⟩ := g.mlst h
  exact ⟨a, ws, rfl, rfl, e, c _ _ _ _ _ p (Le.refl F) (g.write h (o := .lst ws.reverse) (m := .lst xs.reverse) (isL_reverse r)) .non⟩⟩
theorem d_reverse (ho : DE X B o to)
    (pe : ∀ {r : V → List V → Hp → VK → Prop} {to : TE}, MtR X "list.reverse" r → PE X o to → PE X (.Call (.Attribute o "reverse" apos) [] [] pos) (tBM0 X.K "list" r to) := by exact fun h1 h2 => pe_bm0 PySem.F.plainAttrs_list PySem.F.slot_list_reverse PySem.F.type_list_reverse h1 h2) :
    DE X B (.Call (.Attribute o "reverse" apos) [] [] pos) (dBM0 rRevD to) := by
  obtain ⟨r', h1, h2⟩ := (m_reverse (X := X) (B := B)).ex
  exact PE.imp (pe h1 ho) (bm0_imp h2)
def rCountD : Dt → List Dt → Gp → DK → Prop := fun x ds G P => ∃ (ns : List Int) (k : Int), asL G x = some (ns.map Dt.int) ∧ ds = [.int k] ∧ P (.int (ns.count k : Nat)) G
theorem m_count : DMt X B "list.count" rCountD := ⟨_, mt_lcount, fun F G H v x vs ds P Q g i1 i2 ⟨ns, k, h, e2, p⟩ c => by
  subst e2
  cases i2 with
  | cons i2 i3 =>
    cases i2; cases i3
    obtain ⟨q, ws, rfl, e, r⟩ := asL_is g i1 h
    cases r.ints_inv
    exact ⟨q, ns, k, rfl, rfl, SqL.of e, c _ G _ F H p (Le.refl F) g (.int _)⟩⟩
theorem d_count (ho : DE X B o to) (ha : DE X B a ta)
    (hs : starEach [a] X.env = (false, eval a X.env) :: starEach [] X.env := by rfl)
    (pe : ∀ {r : V → List V → Hp → VK → Prop} {t : TA} {to : TE}, MtR X "list.count" r → PE X o to → PA X [a] t → PE X (.Call (.Attribute o "count" apos) [a] [] pos) (tBM X.K "list" r to t) := by exact fun h1 h2 h3 => pe_bm PySem.F.plainAttrs_list PySem.F.slot_list_count PySem.F.type_list_count h1 h2 h3) :
    DE X B (.Call (.Attribute o "count" apos) [a] [] pos) (dBM rCountD to (dCons ta dNil)) := by
  obtain ⟨r', h1, h2⟩ := (m_count (X := X) (B := B)).ex
  exact PE.imp (pe h1 ho (da_cons ha da_nil hs)) (bm_imp h2)
/-! ### in -/
theorem inV_ints (k : Int) : ∀ (ns : List Int), inV (.int k) (ns.map V.int) = decide (k ∈ ns) ∧ (ns.map V.int).all flatV = true
  | [] => by simp [inV]
  | n :: ns => by
    obtain ⟨h1, h2⟩ := inV_ints k ns
    refine ⟨?_, by rw [List.map_cons, List.all_cons, h2]; rfl⟩
    have e : inV (.int k) ((n :: ns).map V.int) = (eqV (.int n) (.int k) || inV (.int k) (ns.map V.int)) := rfl
    rw [e, h1]
    have e2 : eqV (.int n) (.int k) = decide (k = n) := by
      show (n == k) = decide (k = n)
      rw [Bool.eq_iff_iff, beq_iff_eq, decide_eq_true_eq]
      exact eq_comm
    rw [e2, Bool.eq_iff_iff]
    simp
/-- an int in a list or a tuple of ints -/
def rInD (neg : Bool) : DR2 := fun x y G P => ∃ (k : Int) (ns : List Int), x = .int k ∧ (asL G y = some (ns.map Dt.int) ∨ y = .tup (ns.map Dt.int)) ∧ P (.bl (neg != decide (k ∈ ns))) G
theorem in_imp {neg : Bool} : ∀ F G H v w x y P Q, Good X.K B F G H → Is X.K F v x → Is X.K F w y → rInD neg x y G P → Cont X.K B F P Q → L2.rIn X.K neg v w H Q := by
  rintro F G H v w x y P Q g rx ry ⟨k, ns, rfl, h, p⟩ c
  cases rx
  obtain ⟨h1, h2⟩ := inV_ints k ns
  have fin : Q (.bl (if neg then !inV (.int k) (ns.map V.int) else inV (.int k) (ns.map V.int))) H := by
    have e : (if neg then !inV (.int k) (ns.map V.int) else inV (.int k) (ns.map V.int)) = (neg != decide (k ∈ ns)) := by
      rw [h1]; cases neg <;> simp
    rw [e]
    exact c _ G _ F H p (Le.refl F) g (.bl _)
  rcases h with h | rfl
  · obtain ⟨q, ws, rfl, e, r⟩ := asL_is g ry h
    cases r.ints_inv
    exact ⟨q, _, rfl, .inl (SqL.of e), rfl, h2, fin⟩
  · cases ry with
    | tup q0 r =>
      cases r.ints_inv
      exact ⟨_, _, rfl, .inr (SqT.of (g.fz _ _ q0)), rfl, h2, fin⟩
theorem o_in : DOp X B (compareOp .In) (rInD false) := ⟨_, op_in_seq, in_imp⟩
theorem o_nin : DOp X B (compareOp .NotIn) (rInD true) := ⟨_, op_notIn_seq, in_imp⟩
/-! ### int(truth) -/
def rIntB : DR := fun ds G P => ∃ b : Bool, ds = [.bl b] ∧ P (.int (if b then 1 else 0)) G
theorem c_intB : DCall X B (.type "int") rIntB := ⟨_, call_int1, fun F G H vs ds P Q g i ⟨b, e, p⟩ c => by
  subst e
  cases i with
  | cons i1 i2 =>
    cases i2; cases i1
    exact .inr ⟨b, rfl, c _ G _ F H p (Le.refl F) g (.int _)⟩⟩
/-! ### {} -/
def dDict : DTE := fun _ G P => ∀ p, G p = none → P (.ref p) (gupd G p (.dK []))
theorem d_dict : DE X B (.Dict [] [] pos) dDict := PE.imp pe_dnewK fun σ H Q ⟨F, G, δ, P, g, s, p, c⟩ => fun q hq =>
  c _ _ _ _ _ (p q (g.gnone hq)) (Le.refl F) (g.newM hq (o := .dK []) (m := .dK []) .nil) (.ref q)
/-! ### xs[:k] -/
def dTake (te tk : DTE) : DTE := fun δ G P => te δ G fun x G1 => tk δ G1 fun y G2 => ∃ xs k, y = .int (k : Nat) ∧ (asL G2 x = some xs ∨ (∃ ns : List Int, x = .scr ns ∧ xs = ns.map Dt.int)) ∧ P (.lst (xs.take k)) G2
theorem cutV_take (xs : List V) (k : Nat) : cutV xs none (some (k : Int)) = xs.take k := by
  unfold cutV
  simp only [HT.sIx]
  rw [List.drop_zero, Nat.sub_zero]
  rw [if_neg (by omega)]
  by_cases h : k ≤ xs.length
  · congr 1; omega
  · rw [List.take_of_length_le (by omega), List.take_of_length_le (by omega)]
theorem isL_ints {K : PySem.W.Frag} {F : Hp} : ∀ (ns : List Int), IsL K F (ns.map V.int) (ns.map Dt.int)
  | [] => .nil
  | n :: ns => .cons (.int n) (isL_ints ns)
theorem isL_take {K : PySem.W.Frag} {F : Hp} : ∀ {vs : List V} {ds : List Dt} (k : Nat), IsL K F vs ds → IsL K F (vs.take k) (ds.take k)
  | _, _, 0, _ => .nil
  | _, _, _ + 1, .nil => .nil
  | _, _, k + 1, .cons h r => .cons h (isL_take k r)
theorem d_take (ha : DE X B a ta) (hb : DE X B b tb) : DE X B (.Subscript a (.Slice none (some b) none p2) pos) (dTake ta tb) := PE.imp (pe_slice sl_list ha po_none (po_some hb)) fun σ H Q ⟨F, G, δ, P, g, s, p, c⟩ =>
  ⟨F, G, δ, _, g, s, p, fun x G1 vx F1 H1 p1 l1 g1 i1 => ⟨F1, G1, δ, _, g1, s.le l1, p1, fun y G2 vy F2 H2 ⟨xs, k, ey, h, q⟩ l2 g2 i2 => by
    subst ey
    cases i2
    refine ⟨_, rfl, ?_⟩
    have i3 := i1.le l2
    have fin : ∀ {a : Addr} {ws : List V}, SqL X.K H2 a ws → IsL X.K F2 ws xs → L2.rSlL X.K (.ref a) none (some (k : Int)) H2 Q := fun {a ws} hs r => ⟨a, ws, rfl, hs, fun p hp => by
      rw [cutV_take]
      obtain ⟨l3, g3⟩ := g2.newF hp (.lst (ws.take k))
      exact c _ G2 _ _ _ q ((l1.trans l2).trans l3) g3 (.lst upd_same ((isL_take k r).le l3))⟩
    rcases h with h | ⟨ns, rfl, rfl⟩
    · obtain ⟨q0, ws, rfl, e, r⟩ := asL_is g2 i3 h
      exact fin (SqL.of e) r
    · cases i3 with
      | scr q0 => exact fin (g2.sql q0) (isL_ints ns)⟩⟩
end
/-! ### C(name = v) -/
section
variable {P : Program} {w : World} {K : PySem.W.Frag} {mg : Str → Option Value} {base : Heap}
def DmkK (P : Program) (w : World) (K : PySem.W.Frag) (mg : Str → Option Value) (base : Heap) (C : Addr) (ps ks : List Str) (c : DSp) (k : Nat) : Prop :=
  ∃ f fd g, FnOk P w K mg base CX0 k f fd ps (toSp K c) ∧ Mk K C f ∧ KBn K fd ps 1 ks g (fun vs zs => vs ++ zs)
end
section
variable {X : Cx} {B : Hp} {e : Expr} {p pos kpos : Pos} {x nm : Str} {C : Addr} {ps : List Str} {c : DSp} {k j : Nat} {ta : DTE}
theorem d_makeKw (D : DmkK X.prog X.w X.K X.mg X.base C ps [nm] c k) (hr : Room j X.A) (hg : Gl X x) (hm : X.mg x = some (.ref C)) (ha : DE X B e ta) (hj : k + 1 ≤ j := by decide)
    (hall : (backToKw pos (keywordEach [⟨some nm, e, kpos⟩] X.env)).all (·.1.isSome) = true := by rfl) (hks : (backToKw pos (keywordEach [⟨some nm, e, kpos⟩] X.env)).filterMap (·.1) = [nm] := by rfl) (hdb : (x == ("__debug__" : Str)) = false := by decide)
    (hpl : ((backTo pos (starEach [] X.env)).any (·.1) || (backToKw pos (keywordEach [⟨some nm, e, kpos⟩] X.env)).any (·.1.isNone)) = false := by rfl) :
    DE X B (.Call (.Name x p) [] [⟨some nm, e, kpos⟩] pos) (dMake C c noX (dCons ta dNil)) := by
  obtain ⟨f, fd, g, F, M, b⟩ := D
  refine PE.imp (pe_makeK0 (E := fun _ _ _ => False) M F (hr.mono hj) hg hm b pass0 (pk_cons ha pk_nil) hall hks hdb hpl) fun σ H Q ⟨F, G, δ, P, g, s, q, k⟩ => ?_
  exact ⟨F, G, δ, _, g, s, q, fun d G1 v F1 H1 p1 l1 g1 i1 => ⟨rfl, rfl, fun q dx hq hdx hne => by
    have g2 : Good X.K B F1 G1 (upd H1 dx (.own q)) := g1.newN hdx _
    have hq2 : upd H1 dx (.own q) q = none := by rw [upd_ne (Ne.symm hne)]; exact hq
    have g3 := g2.newM hq2 (o := .ins C dx []) (m := .ins C [] []) ⟨rfl, rfl, .nil⟩
    exact toSp_of g3 (.cons (.ref q) (.one i1)) (p1 q (g1.gnone hq)) (fun d G' v F' H' ⟨ed, p'⟩ l' g' i' => by
      subst ed
      cases i'
      exact ⟨rfl, k _ G' _ F' H' p' (l1.trans l') g' (.ref q)⟩) contX_no⟩⟩
end
end DL

set_option Elab.async false
set_option linter.all false
set_option maxRecDepth 100000
set_option maxHeartbeats 2000000
/-! for over enumerate(xs), xs mutable, as long as xs stays as it is. -/
namespace DL
open PySem PySem.Spec L2
structure DlvM (K : PySem.W.Frag) (B F : Hp) (J : It) (ds : List Dt) (C : Gp → Prop) : Prop where
  go : ∀ i F' G H, Le F F' → Good K B F' G H → C G → i < ds.length → J.go i H
  yl : ∀ i F' G H x H' d, Le F F' → Good K B F' G H → C G → ds[i]? = some d → J.yld i H x H' → ∃ F'', Le F' F'' ∧ Good K B F'' G H' ∧ Is K F'' x d
  st : ∀ i F' G H, Le F F' → Good K B F' G H → C G → ds.length ≤ i → J.stop i H
abbrev DTIM := DSt → Gp → (List Dt → (Gp → Prop) → Gp → Prop) → Prop
def tDIM (K : PySem.W.Frag) (B : Hp) (wi : DTIM) : TI := fun σ H R => ∃ F G δ P, Good K B F G H ∧ Sl K F σ δ ∧ wi δ G P ∧ ∀ ds C G' F' H' J, P ds C G' → Le F F' → Good K B F' G' H' → DlvM K B F' J ds C → R J H'
abbrev DIM (X : Cx) (B : Hp) (tg iter : Expr) (wi : DTIM) : Prop := PI X tg iter (tDIM X.K B wi)
section
variable {X : Cx} {B : Hp} {e a b o : Expr} {pos : Pos} {t : DTS} {tl : DTA} {rest : List Stmt}
def dForM (wi : DTIM) (g : DTG) (tb : DTS) : DTS := fun D δ G => wi δ G fun ds C G1 => ∃ W : Nat → DSt → Gp → Prop, W 0 δ G1 ∧ (∀ i δ' G', W i δ' G' → C G') ∧
  (∀ i d δ' G', ds[i]? = some d → W i δ' G' → g d δ' G' fun δ2 G2 => tb { D with nx := W (i + 1), ct := W (i + 1), bk := D.nx } δ2 G2) ∧ ∀ δ' G', W ds.length δ' G' → D.nx δ' G'
theorem dForM_intro {wi : DTIM} {g : DTG} {tb : DTS} {D : DEnds} {δ : DSt} {G : Gp} (ds : List Dt) (C : Gp → Prop) (G1 : Gp) (W : Nat → DSt → Gp → Prop) (hw : ∀ P : List Dt → (Gp → Prop) → Gp → Prop, P ds C G1 → wi δ G P) (h0 : W 0 δ G1) (hC : ∀ i δ' G', W i δ' G' → C G')
    (turn : ∀ i d δ' G', ds[i]? = some d → W i δ' G' → g d δ' G' fun δ2 G2 => tb { D with nx := W (i + 1), ct := W (i + 1), bk := D.nx } δ2 G2) (fin : ∀ δ' G', W ds.length δ' G' → D.nx δ' G') : dForM wi g tb D δ G := hw _ ⟨W, h0, hC, turn, fin⟩
theorem ds_forM {tg iter : Expr} {body : List Stmt} {wi : DTIM} {g : DTG} (hp : PassesOwn (model X.prog X.w) X.A X.env X.xe) (hc : X.calm = true) (hi : DIM X B tg iter wi) (hg : DG X B tg g) (hb : DSs X B body t)
    (hs : ∀ x, foldedSetIterable iter X.env x = pure x := by intro _; rfl) : DS X B (.For tg iter body [] pos) (dForM wi g t) :=
  PS.imp (ps_for hp hc hi hg hb hs) fun D σ H ⟨F, G, δ, R, gd, s, p, f⟩ => by
    refine ⟨F, G, δ, _, gd, s, p, fun ds C G1 F1 H1 J ⟨W, w0, wC, turn, fin⟩ l1 g1 dl => ?_⟩
    refine ⟨fun i m σ H => m = ds.length - i ∧ i ≤ ds.length ∧ ∃ F' G' δ', Le F1 F' ∧ Good X.K B F' G' H ∧ Sl X.K F' σ δ' ∧ W i δ' G', ⟨_, rfl, Nat.zero_le _, F1, G1, δ, Le.refl F1, g1, s.le l1, w0⟩, ?_⟩
    rintro i m σ H ⟨rfl, hi, F2, G2, δ2, l2, g2, s2, w2⟩
    by_cases hlt : i < ds.length
    · refine .inr ⟨dl.go i F2 G2 H l2 g2 (wC _ _ _ w2) hlt, fun σ' H' => ∃ F' G' δ', Le F1 F' ∧ Good X.K B F' G' H' ∧ Sl X.K F' σ' δ' ∧ W (i + 1) δ' G',
        fun σ' H' h => ⟨ds.length - (i + 1), by omega, rfl, hlt, h⟩, fun x H' y => ?_⟩
      obtain ⟨F3, l3, g3, i3⟩ := dl.yl i F2 G2 H x H' _ l2 g2 (wC _ _ _ w2) (List.getElem?_eq_getElem hlt) y
      refine ⟨F3, G2, δ2, _, _, g3, s2.le l3, i3, turn i _ δ2 G2 (List.getElem?_eq_getElem hlt) w2, fun δ4 G4 σ4 F4 H4 p4 l4 g4 s4 => ?_⟩
      have l14 : Le F1 F4 := (l2.trans l3).trans l4
      exact ⟨F4, G4, δ4, _, g4, s4, p4, ⟨fun δ5 G5 σ5 F5 H5 p5 l5 g5 s5 => ⟨F5, G5, δ5, l14.trans l5, g5, s5, p5⟩, f.rt.le (l1.trans l14), f.nx.le (l1.trans l14), fun δ5 G5 σ5 F5 H5 p5 l5 g5 s5 => ⟨F5, G5, δ5, l14.trans l5, g5, s5, p5⟩⟩⟩
    · have e : i = ds.length := by omega
      subst e
      exact .inl ⟨dl.st _ F2 G2 H l2 g2 (wC _ _ _ w2) (Nat.le_refl _), f.nx δ2 G2 σ F2 H (fin δ2 G2 w2) (l1.trans l2) g2 s2⟩
def diEnumM (t : DTA) : DTIM := fun δ G P => t δ G fun ds G1 => ∃ d xs, ds = [d] ∧ asL G1 d = some xs ∧ P (enumD xs) (fun G' => asL G' d = some xs) G1
theorem di_enumM {elts : List Expr} {kk : Nat} {tpos p : Pos} (hg : Gl X "enumerate") (hm : X.mg "enumerate" = none) (ha : DA X B [e] tl) (hs : starEach [e] X.env = [(false, eval e X.env)] := by rfl) : DIM X B (.Tuple elts kk tpos) (.Call (.Name "enumerate" p) [e] [] pos) (diEnumM tl) :=
  PI.imp (pi_enum hg hm ha hs) fun σ H R ⟨F, G, δ, P, g, s, p, c⟩ => ⟨F, G, δ, _, g, s, p, fun ds G1 vs F1 H1 ⟨d, xs, e1, e2, p1⟩ l1 g1 i1 => by
    subst e1
    cases i1 with
    | cons i1 i2 =>
      cases i2
      obtain ⟨q, ws, rfl, e3, r3⟩ := asL_is g1 i1 e2
      refine ⟨q, ws, rfl, SqL.of e3, c _ _ G1 F1 H1 _ p1 l1 g1 ⟨fun i F' G H l g hC hi => ?_, fun i F' G H x H' d' l g hC hd ⟨T, w, e, hT, e', hx⟩ => ?_, fun i F' G H l g hC hi => ?_⟩⟩
      · obtain ⟨q', ws', eq', h', r'⟩ := asL_is g (i1.le l) hC
        cases eq'
        exact ⟨_, _, SqL.of h', List.getElem?_eq_getElem (by rw [r'.length]; rw [enumD_length] at hi; exact hi)⟩
      · subst e; subst e'
        obtain ⟨q', ws', eq', h', r'⟩ := asL_is g (i1.le l) hC
        cases eq'
        obtain ⟨y, hy, rfl⟩ := enumD_get hd
        have h1 := hx _ (SqL.of h')
        obtain ⟨v, h2, h3⟩ := r'.get hy
        rw [h1] at h2
        cases h2
        obtain ⟨l2, g2⟩ := g.newF hT (.tup [.int (i : Nat), w])
        exact ⟨_, l2, g2, .tup upd_same (.cons (.int _) (.one (h3.le l2)))⟩
      · obtain ⟨q', ws', eq', h', r'⟩ := asL_is g (i1.le l) hC
        cases eq'
        exact ⟨_, SqL.of h', by rw [r'.length]; rw [enumD_length] at hi; exact hi⟩⟩
end
end DL

set_option Elab.async false
set_option linter.all false
set_option maxRecDepth 100000
/-! The villages' data. -/
namespace V
open PySem PySem.Spec L2 DL
def natsD (l : List Nat) : List Dt := l.map fun (i : Nat) => Dt.int (i : Int)
theorem natsD_inj {a b : List Nat} : natsD a = natsD b ↔ a = b := by
  refine ⟨fun h => ?_, fun h => by rw [h]⟩
  induction a generalizing b with
  | nil => cases b with
    | nil => rfl
    | cons y b => cases h
  | cons x a ih => cases b with
    | nil => cases h
    | cons y b =>
      unfold natsD at h ih
      simp only [List.map_cons, List.cons.injEq, Dt.int.injEq] at h
      rw [ih h.2, Int.ofNat_inj.mp h.1]
theorem natsD_length (l : List Nat) : (natsD l).length = l.length := by simp [natsD]
theorem natsD_cons (x : Nat) (l : List Nat) : natsD (x :: l) = .int (x : Int) :: natsD l := rfl
theorem natsD_nil : natsD [] = [] := rfl
theorem natsD_append (a b : List Nat) : natsD (a ++ b) = natsD a ++ natsD b := by simp [natsD]
theorem natsD_get {l : List Nat} {i : Nat} {d : Dt} (h : (natsD l)[i]? = some d) : ∃ x, l[i]? = some x ∧ d = .int (x : Int) := by
  unfold natsD at h
  rw [List.getElem?_map] at h
  cases e : l[i]? with
  | none => rw [e] at h; cases h
  | some x => rw [e] at h; cases h; exact ⟨x, rfl, rfl⟩
theorem natsD_mem {l : List Nat} {d : Dt} (h : d ∈ natsD l) : ∃ x ∈ l, d = .int (x : Int) := by
  obtain ⟨x, hx, rfl⟩ := List.mem_map.mp h
  exact ⟨x, hx, rfl⟩
theorem natsD_int (l : List Nat) : natsD l = (l.map fun (i : Nat) => (i : Int)).map Dt.int := by simp [natsD, List.map_map, Function.comp_def]
theorem atI_nats {l : List Nat} {i : Nat} {x : Nat} (h : l[i]? = some x) : atI (natsD l) (i : Int) = some (.int (x : Int)) := by
  have hi : i < l.length := (List.getElem?_eq_some_iff.mp h).1
  unfold atI ixN
  rw [natsD_length, if_pos (by omega), if_pos (by omega)]
  simp only [Option.bind, Int.toNat_natCast]
  unfold natsD
  rw [List.getElem?_map, h]
  rfl
theorem ixN_nat {n i : Nat} (h : i < n) : ixN n (i : Int) = some i := by
  unfold ixN
  rw [if_pos (by omega), if_pos (by omega)]
  rfl
theorem atI_nat' {α : Type} {l : List α} {i : Nat} {x : α} (h : l[i]? = some x) : atI l (i : Int) = some x := by
  have hi : i < l.length := (List.getElem?_eq_some_iff.mp h).1
  unfold atI
  rw [ixN_nat hi]
  exact h
theorem upto0 (n : Nat) : upto 0 n = natsD (List.range n) := by simp [upto, natsD]
theorem rgD0 (n : Nat) : rgD 0 (n : Int) = natsD (List.range n) := by rw [rgD_upto, Int.toNat_natCast, upto0]
theorem natsD_set (l : List Nat) (i : Nat) (x : Nat) : (natsD l).set i (.int (x : Int)) = natsD (l.set i x) := by simp [natsD, List.map_set]

/-- houses as pairs -/
def npD (p : Nat × Nat) : Dt := pairD ((p.1 : Int), (p.2 : Int))
theorem npD_inj {p q : Nat × Nat} : npD p = npD q ↔ p = q := by
  obtain ⟨a, b⟩ := p
  obtain ⟨c, d⟩ := q
  simp only [npD, pairD, Dt.tup.injEq, List.cons.injEq, Dt.int.injEq, and_true, Prod.mk.injEq, Int.ofNat_inj]
def rdD (l : List (Nat × Nat)) : List Dt := l.map npD
theorem rdD_inj {a b : List (Nat × Nat)} : rdD a = rdD b ↔ a = b := by
  refine ⟨fun h => ?_, fun h => by rw [h]⟩
  induction a generalizing b with
  | nil => cases b with
    | nil => rfl
    | cons y b => cases h
  | cons x a ih => cases b with
    | nil => cases h
    | cons y b =>
      unfold rdD at h ih
      simp only [List.map_cons, List.cons.injEq] at h
      rw [ih h.2, npD_inj.mp h.1]
theorem rdD_length (l : List (Nat × Nat)) : (rdD l).length = l.length := by simp [rdD]
theorem rdD_get {l : List (Nat × Nat)} {i : Nat} {d : Dt} (h : (rdD l)[i]? = some d) : ∃ x, l[i]? = some x ∧ d = npD x := by
  unfold rdD at h
  rw [List.getElem?_map] at h
  cases e : l[i]? with
  | none => rw [e] at h; cases h
  | some x => rw [e] at h; cases h; exact ⟨x, rfl, rfl⟩
theorem rdD_mem {l : List (Nat × Nat)} {d : Dt} (h : d ∈ rdD l) : ∃ x ∈ l, d = npD x := by
  obtain ⟨x, hx, rfl⟩ := List.mem_map.mp h
  exact ⟨x, hx, rfl⟩
/-- lists of lists of numbers -/
def nnD (l : List (List Nat)) : List Dt := l.map fun r => Dt.lst (natsD r)
theorem nnD_inj {a b : List (List Nat)} : nnD a = nnD b ↔ a = b := by
  refine ⟨fun h => ?_, fun h => by rw [h]⟩
  induction a generalizing b with
  | nil => cases b with
    | nil => rfl
    | cons y b => cases h
  | cons x a ih => cases b with
    | nil => cases h
    | cons y b =>
      unfold nnD at h ih
      simp only [List.map_cons, List.cons.injEq, Dt.lst.injEq] at h
      rw [ih h.2, natsD_inj.mp h.1]
theorem nnD_length (l : List (List Nat)) : (nnD l).length = l.length := by simp [nnD]
theorem atI_nn {l : List (List Nat)} {i : Nat} {x : List Nat} (h : l[i]? = some x) : atI (nnD l) (i : Int) = some (.lst (natsD x)) := by
  refine atI_nat' ?_
  unfold nnD
  rw [List.getElem?_map, h]
  rfl

/-- a village: its roads, in order; how far each house is from each -/
structure Vil where
  rows : List (Nat × Nat)
  far : List (List Nat)
def Vil.n (v : Vil) : Nat := v.far.length
/-- how far y is from x -/
def Vil.d (v : Vil) (x y : Nat) : Nat := (v.far.getD x []).getD y 0
/-- the next doors of each house: E's roads from the left -/
def doorsS (l : List (List Nat)) (p : Nat × Nat) : List (List Nat) := (l.modify p.1 (· ++ [p.2])).modify p.2 (· ++ [p.1])
def doorsL (n : Nat) (E : List (Nat × Nat)) : List (List Nat) := E.foldl doorsS (List.replicate n [])
def Vil.doors (v : Vil) : List (List Nat) := (List.range v.n).map fun x => (doorsL (v.rows.length + 1) v.rows).getD x []
theorem Vil.doors_length (v : Vil) : v.doors.length = v.n := by simp [Vil.doors]
/-- all lines are whole -/
structure Vil.Sq (v : Vil) : Prop where
  line : ∀ x, x < v.n → (v.far.getD x []).length = v.n
def vN : List Str := ["_roads", "_doors", "_known"]
theorem vN_roads {a b c : Dt} : dlook vN [a, b, c] "_roads" = some a := by simp only [vN, dlook, if_true]
theorem vN_doors {a b c : Dt} : dlook vN [a, b, c] "_doors" = some b := by
  have h : ("_doors" : Str) ≠ "_roads" := by decide +kernel
  simp only [vN, dlook, if_neg h, if_true]
theorem vN_known {a b c : Dt} : dlook vN [a, b, c] "_known" = some c := by
  have h : ("_known" : Str) ≠ "_roads" := by decide +kernel
  have h' : ("_known" : Str) ≠ "_doors" := by decide +kernel
  simp only [vN, dlook, if_neg h, if_neg h', if_true]
def vilD (C : Addr) (v : Vil) : Dt := .obj C vN [.lst (rdD v.rows), .lst (nnD v.doors), .memo v.far]
theorem vilD_inj {C : Addr} {v v' : Vil} : vilD C v = vilD C v' ↔ v = v' := by
  refine ⟨fun h => ?_, fun h => by rw [h]⟩
  obtain ⟨a, b⟩ := v
  obtain ⟨a', b'⟩ := v'
  simp only [vilD, Dt.obj.injEq, List.cons.injEq, Dt.lst.injEq, rdD_inj, Dt.memo.injEq, true_and, and_true] at h
  rw [h.1, h.2.2]
theorem vil_ins {C : Addr} {v : Vil} {G : Gp} : insOf G (vilD C v) = some (C, vN, [.lst (rdD v.rows), .lst (nnD v.doors), .memo v.far]) := rfl
theorem Vil.get {v : Vil} (s : v.Sq) {x y : Nat} (hx : x < v.n) (hy : y < v.n) : ∃ l, v.far[x]? = some l ∧ l[y]? = some (v.d x y) ∧ l.length = v.n := by
  have hl := s.line x hx
  unfold Vil.d
  refine ⟨v.far.getD x [], ?_, ?_, hl⟩
  · rw [List.getD, List.getElem?_eq_getElem hx]; rfl
  · generalize v.far.getD x [] = l at hl
    have : y < l.length := by omega
    simp [List.getD, List.getElem?_eq_getElem this]
end V

set_option Elab.async false
set_option linter.all false
set_option maxRecDepth 100000
set_option maxHeartbeats 2000000
/-! xs[::-1] of a list. -/
namespace DL
open PySem PySem.Spec L2
section
variable {prog : Program} {w : World} {A : Around} {E : Value → Shared → Prop} {s : Shared}
theorem sum_pair {x : Addr} {a b : Int} {t u : Tok} {Q : Value → Shared → Prop} (calm : A.handled = none) (tup : s.heap.IsTuple x (intItems #[(a, t), (b, u)]))
    (go : ∀ h' tk t', (∀ c o, s.heap.get? c = some o → h'.get? c = some o) → Q (.int (a + b) t') { s with heap := h', toks := tk }) : wpAny (model prog w) A (call (.builtin "sum") [.ref x]) Q E s := by
  have inside : x < s.heap.objs.size := let ⟨_, e, _⟩ := tup; Heap.lt_size e
  have walks := Walks.tuple (prog := prog) (w := w) (A := A.in1) calm s.heap.objs.size x (Nat.ne_of_lt inside) (intItems #[(a, t), (b, u)])
  refine call_sum_walkG (wpAny_pyIter_tuple tup ⟨_, _, _, _, _, _, numAt #[(a, t), (b, u)], rfl, walks, ⟨⟨_, Heap.get?_push_size _ rfl, rfl, rfl⟩, tup.push _⟩, ?small, fun _ _ => intItems_at, ?out⟩)
  case small =>
    intro c hc
    show c < (s.heap.push _).objs.size
    rw [Heap.size_push]
    simp only [List.mem_cons, List.not_mem_nil, or_false] at hc
    rcases hc with e | e <;> subst e
    · exact Nat.lt_succ_self _
    · exact Nat.lt_succ_of_lt inside
  case out =>
    intro h' tk t' stay
    have := go h' tk t' fun c o e => stay c o (fun hm => Nat.ne_of_lt (Heap.lt_size e) (List.mem_singleton.mp hm)) (Heap.get?_push_of_some _ e)
    simpa [preSum, numAt, intItems] using this
end
section
variable {X : Cx} {B : Hp}
theorem call_sumP (hc : X.calm = true) : CallR X (.builtin "sum") (fun vs H Q => ∃ a i j, vs = [V.ref a] ∧ SqT X.K H a [.int i, .int j] ∧ Q (.int (i + j)) H) := by
  rintro pins s σ H vs us Q I r ⟨a, i, j, rfl, hs, q⟩
  rw [Vals.ref1 r]
  obtain ⟨its, rv, ht, hz⟩ := I.tuple hs
  obtain ⟨t, u, rfl⟩ : ∃ t u, its = [.int i t, .int j u] := by
    cases rv with
    | cons r1 r =>
      cases r with
      | cons r2 r =>
        cases r
        obtain ⟨t, rfl⟩ := r1
        obtain ⟨u, rfl⟩ := r2
        exact ⟨t, u, rfl⟩
  exact sum_pair (I.ok.hd hc) (a := i) (b := j) (t := t) (u := u) (show Heap.IsTuple s.heap a (intItems #[(i, t), (j, u)]) from by simpa [intItems] using (show s.heap.IsTuple a #[Value.int i t, Value.int j u] from ht)) fun h' tk t' k => ⟨.int (i + j), H, I.kept k, ⟨_, rfl⟩, q⟩
def rSumP : DR := fun ds G P => ∃ (i j : Int), ds = [.tup [.int i, .int j]] ∧ P (.int (i + j)) G
theorem c_sumP (hc : X.calm = true) : DCall X B (.builtin "sum") rSumP := ⟨_, call_sumP hc, fun F G H vs ds P Q g i ⟨m, n, e, p⟩ c => by
  subst e
  cases i with
  | cons i1 i2 =>
    cases i2
    cases i1 with
    | tup q0 r =>
      cases r with
      | cons ru r =>
        cases r with
        | cons rv r =>
          cases r
          cases ru; cases rv
          exact ⟨_, m, n, rfl, SqT.of (g.fz _ _ q0), c _ G _ F H p (Le.refl F) g (.int _)⟩⟩
end
section
variable {X : Cx} {B : Hp} {e : Expr} {pos p1 p2 p3 : Pos} {kk : Nat} {ta : DTE}
def dRevL (te : DTE) : DTE := fun δ G P => te δ G fun x G1 => ∃ xs, asL G1 x = some xs ∧ P (.lst xs.reverse) G1
theorem d_revL (ha : DE X B e ta) : DE X B (.Subscript e (.Slice none none (some (.UnaryOp .USub (.Constant (.int 1) kk p1) p2)) p3) pos) (dRevL ta) := PE.imp (pe_revL ha) fun σ H Q ⟨F, G, δ, P, g, s, p, c⟩ =>
  ⟨F, G, δ, _, g, s, p, fun x G1 vx F1 H1 ⟨xs, h, q⟩ l1 g1 i1 => by
    obtain ⟨a, ws, rfl, e, r⟩ := asL_is g1 i1 h
    refine ⟨a, ws, rfl, SqL.of e, fun p hp => ?_⟩
    obtain ⟨l2, g2⟩ := g1.newF hp (.lst ws.reverse)
    exact c _ G1 _ _ _ q (l1.trans l2) g2 (.lst upd_same ((isL_reverse r).le l2))⟩
end
/-- a, b, .. = a list -/
def dgLst (n : Nat) (t : DTGs) : DTG := fun d δ G R => ∃ ds, asL G d = some ds ∧ ds.length = n ∧ t ds δ G R
theorem dg_lst {X : Cx} {B : Hp} {es : List Expr} {pos : Pos} {k : Nat} {t : DTGs} {n : Nat} (hc : X.calm = true) (h : DGs X B es t) (hn : (assignEach es X.env).length = n := by rfl) (hst : (assignEach es X.env).findIdx? (·.1) = none := by rfl) : DG X B (.Tuple es k pos) (dgLst n t) :=
  PG.imp (pg_lst hc h hn hst) fun v σ H Q ⟨F, G, δ, d, R, g, s, i, ⟨ds, e, hl, p⟩, c⟩ => by
    obtain ⟨a, ws, rfl, e1, r⟩ := asL_is g i e
    exact ⟨_, _, rfl, SqL.of e1, by rw [r.length]; exact hl, F, G, δ, ds, R, g, s, r, p, c⟩
end DL

set_option Elab.async false
set_option linter.all false
set_option maxRecDepth 100000
/-! Lists compared. -/
namespace V
open PySem PySem.Spec L2 DL
theorem asL_g {G : Gp} {p : Addr} {xs : List Dt} : asL (gupd G p (.lst xs)) (.ref p) = some xs := asL_ref gupd_same
theorem asQ_g {G : Gp} {p : Addr} {xs : List Dt} : asQ (gupd G p (.lst xs)) (.ref p) = some xs := asQ_ref gupd_same
theorem now_g {G : Gp} {p : Addr} {xs : List Dt} : now (gupd G p (.lst xs)) (.ref p) = .lst xs := now_ref gupd_same
theorem natsD_rev (l : List Nat) : (natsD l).reverse = natsD l.reverse := by simp [natsD, List.map_reverse]
theorem natsD_take (l : List Nat) (k : Nat) : (natsD l).take k = natsD (l.take k) := by simp [natsD, List.map_take]
theorem natsD_drop (l : List Nat) (k : Nat) : (natsD l).drop k = natsD (l.drop k) := by simp [natsD, List.map_drop]
theorem pl_nats (l : List Nat) : pl 9 (.lst (natsD l)) = true := by rw [natsD_int]; exact pl_ints _
theorem pl_rows (l : List (Nat × Nat)) : pl 9 (.lst (rdD l)) = true := by
  simp [pl, rdD, npD, pairD]
theorem rEqP_of {neg : Bool} {x y : Dt} {G : Gp} {P : DK} (c : Bool) (h1 : pl 9 (now G x) = true) (h2 : pl 9 (now G y) = true) (hc : c = true ↔ now G x = now G y) (p : P (.bl (neg != c)) G) : rEqP neg x y G P := by
  refine ⟨⟨h1, h2⟩, fun b hb => ?_⟩
  have e : b = c := by
    rw [Bool.eq_iff_iff, hb, hc]
  rw [e]
  cases neg
  · simpa using p
  · simpa using p
theorem rEqP_nats {neg : Bool} {a b : List Nat} {G : Gp} {P : DK} (p : P (.bl (neg != decide (a = b))) G) : rEqP neg (.lst (natsD a)) (.lst (natsD b)) G P :=
  rEqP_of _ (pl_nats a) (pl_nats b) (by rw [now_lst, now_lst, decide_eq_true_eq, Dt.lst.injEq, natsD_inj]) p
theorem rEqP_rows {neg : Bool} {a b : List (Nat × Nat)} {G : Gp} {P : DK} (p : P (.bl (neg != decide (a = b))) G) : rEqP neg (.lst (rdD a)) (.lst (rdD b)) G P :=
  rEqP_of _ (pl_rows a) (pl_rows b) (by rw [now_lst, now_lst, decide_eq_true_eq, Dt.lst.injEq, rdD_inj]) p
theorem rEqP_now {neg : Bool} {x y : Dt} {G : Gp} {P : DK} (h1 : pl 9 (now G x) = true) (h : now G x = now G y) (p : P (.bl (!neg)) G) : rEqP neg x y G P :=
  rEqP_of true h1 (h ▸ h1) (by simp [h]) (by cases neg <;> simpa using p)
/-- a number in a list of numbers -/
theorem rIn_nats {neg : Bool} {x : Nat} {l : List Nat} {G : Gp} {P : DK} (p : P (.bl (neg != decide (x ∈ l))) G) : rInD neg (.int (x : Int)) (.lst (natsD l)) G P := by
  refine ⟨(x : Int), l.map fun (i : Nat) => (i : Int), rfl, .inl (by rw [natsD_int]; rfl), ?_⟩
  have e : decide ((x : Int) ∈ l.map fun (i : Nat) => (i : Int)) = decide (x ∈ l) := by
    rw [Bool.eq_iff_iff, decide_eq_true_eq, decide_eq_true_eq, List.mem_map]
    constructor
    · rintro ⟨y, hy, e⟩
      rw [← Int.ofNat_inj.mp e]; exact hy
    · exact fun h => ⟨x, h, rfl⟩
  rw [e]
  exact p
/-- a test on numbers -/
def natT (p : Nat → Bool) : Dt → Bool
  | .int z => p z.toNat
  | _ => false
theorem natT_filter (p : Nat → Bool) (l : List Nat) : (natsD l).filter (natT p) = natsD (l.filter p) := by
  unfold natsD
  rw [List.filter_map]
  rfl
/-- a function on numbers -/
def natF (f : Nat → Dt) : Dt → Dt
  | .int z => f z.toNat
  | d => d
theorem natF_map (f : Nat → Dt) (l : List Nat) : (natsD l).map (natF f) = l.map f := by
  unfold natsD
  rw [List.map_map]
  rfl
theorem nats_of {n : Nat} {ys : List Dt} (h : ∀ (i : Nat) (y : Dt), ys[i]? = some y → ∃ r : Nat, r < n ∧ y = Dt.int (r : Int)) : ∃ l : List Nat, ys = natsD l ∧ l.length = ys.length ∧ ∀ x ∈ l, x < n := by
  induction ys with
  | nil => exact ⟨[], rfl, rfl, by simp⟩
  | cons y ys ih =>
    obtain ⟨l, h1, h2, h3⟩ := ih fun i z hz => h (i + 1) z (by rw [List.getElem?_cons_succ]; exact hz)
    obtain ⟨r, hr, rfl⟩ := h 0 y rfl
    exact ⟨r :: l, by rw [h1]; rfl, by simp [h2], fun x hx => by
      rcases List.mem_cons.mp hx with rfl | hx
      · exact hr
      · exact h3 x hx⟩
end V

set_option Elab.async false
set_option linter.all false
set_option maxRecDepth 100000
namespace DL
open PySem PySem.Spec L2
section
variable {X : Cx} {B : Hp} {e a b o : Expr} {es : List Expr} {st : Stmt} {rest : List Stmt} {pos : Pos} {ta tb te : DTE} {tl : DTA} {t u : DTS}
variable {elt tg iter : Expr} {ifs : List Expr} {scope : Scope} {own : List (Str × Nat)} {wi : DTI} {g : DTG} {tt : DTT}
theorem ds_setLcF {i : Nat} {y : Str} {py spos : Pos} (hc : X.calm = true) (hN : X.N.Nodup) (hy : X.N[i]? = some y) (hyl : X.env.scope.names.lookup y = some .local)
    (hsw : swapsWith (.ListComp elt [⟨tg, iter, ifs, 0⟩] scope pos) (some (.Name y py)) spos.line X.env = pure true) (hi : DI X B tg iter wi) (ok : BlkOk X.N X.env.scope scope own)
    (hg : ∀ (s : Shared) (H : Hp) (C : Addr) (cl : List (Str × Addr)) (fp : List Addr), PG (X.blk s H scope (compEnvC scope cl C X.env) fp) tg (tDGw X.K B (own.map (·.2)) g)) (ht : ∀ (s : Shared) (H : Hp) (C : Addr) (cl : List (Str × Addr)) (fp : List Addr), PTs (X.blk s H scope (compEnvC scope cl C X.env) fp) ifs (tDT X.K B tt))
    (he : ∀ (s : Shared) (H : Hp) (C : Addr) (cl : List (Str × Addr)) (fp : List Addr), PE (X.blk s H scope (compEnvC scope cl C X.env) fp) elt (tD X.K B te)) (hs : ∀ x, foldedSetIterable iter X.env x = pure x := by intro _; rfl) :
    DS X B (.Assign [.Name y py] (.ListComp elt [⟨tg, iter, ifs, 0⟩] scope pos) spos) (dSt i (dFrz (dLc wi g tt te (own.map (·.2))))) :=
  ds_set0 _ (L2.ps_setLc hc hN hy hyl hsw hi ok hg ht he hs) (fun σ H Q ⟨F, G, δ, P, g, s, p, c⟩ => lc_imp (fun a xs ys H h1 h2 => by rw [h1] at h2; cases h2; rfl) σ H Q ⟨F, G, δ, _, g, s, p, c.cl⟩)
end
theorem CloS.clo {dd d' : Dt} {G G' : Gp} {δ : DSt} (i : Nat) (hi : δ[i]? = some (some dd)) (h : Clo dd G d' G') : CloS δ G (δ.set i (some d')) G' := ⟨fun K B F H σ g s => by
  obtain ⟨v, e1, e2⟩ := s.get i _ hi
  obtain ⟨F', l, g', r⟩ := h.go K B F H v g e2
  refine ⟨F', l, g', (s.le l).setD (fun w hw => ?_) ⟨v, e1⟩⟩
  rw [e1] at hw; cases hw
  exact r⟩
end DL

set_option Elab.async false
set_option linter.all false
set_option maxRecDepth 100000
set_option maxHeartbeats 1000000
namespace DL
open PySem PySem.Spec L2
section
variable {X : Cx} {B : Hp}
theorem dpAll_bls {K : PySem.W.Frag} {H : Hp} : ∀ bs : List Bool, DpAll K H (bs.map V.bl) (bs.map PyData.bool)
  | [] => .nil
  | b :: bs => .cons (.bl b) (dpAll_bls bs)
theorem eqvAll_bls : ∀ bs cs : List Bool, PyData.eqvAll (bs.map PyData.bool) (cs.map PyData.bool) = decide (bs = cs)
  | [], [] => by simp [PyData.eqvAll]
  | [], _ :: _ => by simp [PyData.eqvAll]
  | _ :: _, [] => by simp [PyData.eqvAll]
  | b :: bs, c :: cs => by
    have ih := eqvAll_bls bs cs
    simp only [List.map_cons, PyData.eqvAll, PyData.eqv, ih]
    rw [Bool.eq_iff_iff]
    simp
theorem lay_bls : ∀ bs : List Bool, PyData.canLayAll0 (bs.map PyData.bool) = true ∧ PyData.depthAll (bs.map PyData.bool) ≤ 0
  | [] => by simp [PyData.canLayAll0, PyData.depthAll]
  | b :: bs => by
    obtain ⟨h1, h2⟩ := lay_bls bs
    simp only [List.map_cons, PyData.canLayAll0, PyData.depthAll, PyData.canLay0, PyData.depth, h1]
    simp
    omega
theorem shaped_bls (bs : List Bool) : SeqAt.shaped (.list (bs.map PyData.bool)) = true := by
  obtain ⟨h1, h2⟩ := lay_bls bs
  unfold SeqAt.shaped
  simp only [PyData.canLay0, PyData.depth, h1, Bool.true_and]
  exact decide_eq_true (by omega)
/-- lists of truths -/
def rEqBs (neg : Bool) : DR2 := fun x y G P => ∃ bs cs : List Bool, asL G x = some (bs.map Dt.bl) ∧ asL G y = some (cs.map Dt.bl) ∧ P (.bl (neg != decide (bs = cs))) G
theorem o_eqBs {k : Nat} (hr : Room k X.A) : DOp X B (compareOp .Eq) (rEqBs false) := ⟨_, op_eqD hr.units, fun F G H v w x y P Q g rx ry ⟨bs, cs, h1, h2, p⟩ c => by
  obtain ⟨q, ws, rfl, e, r⟩ := asL_is g rx h1
  obtain ⟨q', ws', rfl, e', r'⟩ := asL_is g ry h2
  cases r.bls_inv
  cases r'.bls_inv
  refine ⟨_, _, .lst (SqL.of e) (dpAll_bls bs), .lst (SqL.of e') (dpAll_bls cs), shaped_bls bs, shaped_bls cs, ?_⟩
  show Q (.bl (PyData.eqv (.list (bs.map PyData.bool)) (.list (cs.map PyData.bool)))) H
  rw [show PyData.eqv (.list (bs.map PyData.bool)) (.list (cs.map PyData.bool)) = PyData.eqvAll (bs.map PyData.bool) (cs.map PyData.bool) from by simp [PyData.eqv], eqvAll_bls]
  exact c _ G _ F H (by simpa using p) (Le.refl F) g (.bl _)⟩
theorem o_neBs {k : Nat} (hr : Room k X.A) : DOp X B (compareOp .NotEq) (rEqBs true) := ⟨_, op_neD hr.units, fun F G H v w x y P Q g rx ry ⟨bs, cs, h1, h2, p⟩ c => by
  obtain ⟨q, ws, rfl, e, r⟩ := asL_is g rx h1
  obtain ⟨q', ws', rfl, e', r'⟩ := asL_is g ry h2
  cases r.bls_inv
  cases r'.bls_inv
  refine ⟨_, _, .lst (SqL.of e) (dpAll_bls bs), .lst (SqL.of e') (dpAll_bls cs), shaped_bls bs, shaped_bls cs, ?_⟩
  show Q (.bl (!PyData.eqv (.list (bs.map PyData.bool)) (.list (cs.map PyData.bool)))) H
  rw [show PyData.eqv (.list (bs.map PyData.bool)) (.list (cs.map PyData.bool)) = PyData.eqvAll (bs.map PyData.bool) (cs.map PyData.bool) from by simp [PyData.eqv], eqvAll_bls]
  exact c _ G _ F H (by simpa using p) (Le.refl F) g (.bl _)⟩
end
section
variable {X : Cx} {B : Hp} {e a b o : Expr} {es : List Expr} {pos p apos : Pos} {to : DTE} {tl : DTA} {k : Nat} {C : Addr} {ps : List Str} {c : DSp} {x m : Str}
theorem d_frzMeth0 {j : Nat} {pl : Sem Bool} (he : DE X B o to) (cl : Cls X.K C) (D : Dmt X.prog X.w X.K X.mg X.base CX0 C m ps c k) (hr : Room j X.A) (hj : k ≤ j := by decide)
    (ht : eval (.Call (.Attribute o m apos) [] [] pos) X.env = (do
      let ov ← eval o X.env
      standAt apos.atName
      let (f, first) ← holding [ov] (getMethod ov m pl)
      callWith pos f first (backTo pos (starEach [] X.env)) (backToKw pos (keywordEach [] X.env))) := by rfl) :
    DE X B (.Call (.Attribute o m apos) [] [] pos) (dFrz (dMeth C m c noX to dNil)) := d_frz (d_methD0 he cl D hr hj ht)
end
end DL

set_option Elab.async false
set_option linter.all false
set_option maxRecDepth 100000
set_option maxHeartbeats 1000000
/-! A pair in a list of pairs. -/
namespace V
open PySem PySem.Spec L2 DL
theorem pl_np (p : Nat × Nat) : pl 8 (npD p) = true := by simp [pl, npD, pairD]
theorem any_rows (p : Nat × Nat) (l : List (Nat × Nat)) : ((rdD l).map (toPy 8)).any (fun z => PyData.eqv z (toPy 8 (npD p))) = decide (p ∈ l) := by
  induction l with
  | nil => simp [rdD]
  | cons q l ih =>
    show (((npD q) :: rdD l).map (toPy 8)).any _ = _
    rw [List.map_cons, List.any_cons, ih, Bool.eq_iff_iff, Bool.or_eq_true, pl_eqv 8 (pl_np q) (pl_np p), npD_inj, decide_eq_true_eq, decide_eq_true_eq, List.mem_cons]
    exact or_congr_left ⟨Eq.symm, Eq.symm⟩
section
variable {X : Cx} {B : Hp}
def rMemP (neg : Bool) : DR2 := fun x y G P => ∃ (p : Nat × Nat) (l : List (Nat × Nat)), x = npD p ∧ asL G y = some (rdD l) ∧ P (.bl (neg != decide (p ∈ l))) G
theorem dpAll_rows {K : PySem.W.Frag} {F H : Hp} (le : ∀ a o, F a = some o → notM o = true → H a = some o) : ∀ {vs : List V} {l : List (Nat × Nat)}, IsL K F vs (rdD l) → DpAll K H vs ((rdD l).map (toPy 8))
  | _, [], h => by cases h; exact .nil
  | _, q :: l, h => by
    cases h with
    | cons a b => exact .cons (pl_is le 8 (pl_np q) a) (dpAll_rows le b)
theorem mem_rows {F : Hp} {G : Gp} {H : Hp} {v w : V} {x y : Dt} {p : Nat × Nat} {l : List (Nat × Nat)} (g : Good X.K B F G H) (rx : Is X.K F v x) (ry : Is X.K F w y) (e : x = npD p) (h : asL G y = some (rdD l)) :
    Dp X.K H v (toPy 8 (npD p)) ∧ Dp X.K H w (.list ((rdD l).map (toPy 8))) ∧ SeqAt.shaped (toPy 8 (npD p)) = true ∧ SeqAt.shaped (.list ((rdD l).map (toPy 8))) = true := by
  subst e
  obtain ⟨q, ws, rfl, e2, r⟩ := asL_is g ry h
  refine ⟨pl_is g.fz0 8 (pl_np p) rx, .lst (SqL.of e2) (dpAll_rows g.fz0 r), pl_shaped (by decide) (pl_np p), ?_⟩
  exact pl_shaped (n := 9) (d := .lst (rdD l)) (by decide) (pl_rows l)
theorem o_inP {k : Nat} (hr : Room k X.A) : DOp X B (compareOp .In) (rMemP false) := ⟨_, op_inD (by have := hr.un; omega), fun F G H v w x y P Q g rx ry ⟨p, l, e, h, q⟩ c => by
  obtain ⟨h1, h2, h3, h4⟩ := mem_rows g rx ry e h
  refine ⟨_, _, h1, h2, h3, h4, ?_⟩
  rw [any_rows]
  exact c _ G _ F H (by simpa using q) (Le.refl F) g (.bl _)⟩
theorem o_ninP {k : Nat} (hr : Room k X.A) : DOp X B (compareOp .NotIn) (rMemP true) := ⟨_, op_notInD (by have := hr.un; omega), fun F G H v w x y P Q g rx ry ⟨p, l, e, h, q⟩ c => by
  obtain ⟨h1, h2, h3, h4⟩ := mem_rows g rx ry e h
  refine ⟨_, _, h1, h2, h3, h4, ?_⟩
  rw [any_rows]
  exact c _ G _ F H (by simpa using q) (Le.refl F) g (.bl _)⟩
end
end V

set_option Elab.async false
set_option linter.all false
set_option maxRecDepth 100000
set_option maxHeartbeats 1000000
/-! min of a list of pairs; isinstance with two classes; reverse. -/
namespace DL
open PySem PySem.Spec L2 PySem.W PySem.SeqAt
def pyP (p : Int × Int) : PyData := .tuple [.int p.1, .int p.2]
theorem dpAll_pairs {K : PySem.W.Frag} {F H : Hp} (le : ∀ a o, F a = some o → notM o = true → H a = some o) : ∀ {vs : List V} {l : List (Int × Int)}, IsL K F vs (l.map pairD) → DpAll K H vs (l.map pyP)
  | _, [], h => by cases h; exact .nil
  | _, q :: l, h => by
    cases h with
    | cons a b => exact .cons (pl_is le 8 (d := pairD q) (by simp [pl, pairD]) a) (dpAll_pairs le b)
theorem minOf_mem (x : Int × Int) (xs : List (Int × Int)) : minOf x xs ∈ x :: xs := by
  unfold minOf
  induction xs generalizing x with
  | nil => simp
  | cons y ys ih =>
    rw [List.foldl_cons]
    split
    · exact List.mem_cons_of_mem _ (ih y)
    · rcases List.mem_cons.mp (ih x) with e | e
      · rw [e]; exact List.mem_cons_self
      · exact List.mem_cons_of_mem _ (List.mem_cons_of_mem _ e)
theorem lt_pair (a b : Int × Int) : DatumOrd.lt a b = true ↔ a.1 < b.1 ∨ (a.1 = b.1 ∧ a.2 < b.2) := by
  show (if a.1 = b.1 then decide (a.2 < b.2) else decide (a.1 < b.1)) = true ↔ _
  by_cases h : a.1 = b.1
  · rw [if_pos h, decide_eq_true_eq]
    constructor
    · exact fun z => .inr ⟨h, z⟩
    · rintro (z | z)
      · omega
      · exact z.2
  · rw [if_neg h, decide_eq_true_eq]
    constructor
    · exact .inl
    · rintro (z | z)
      · exact z
      · exact absurd z.1 h
theorem minOf_le (x : Int × Int) (xs : List (Int × Int)) : ∀ y ∈ x :: xs, leP (minOf x xs) y := by
  have key : ∀ (xs : List (Int × Int)) (x : Int × Int), leP (minOf x xs) x ∧ ∀ y ∈ xs, leP (minOf x xs) y := by
    intro xs
    induction xs with
    | nil => intro x; exact ⟨.inr ⟨rfl, Int.le_refl _⟩, by simp⟩
    | cons z zs ih =>
      intro x
      have e : minOf x (z :: zs) = minOf (if DatumOrd.lt z x = true then z else x) zs := rfl
      rw [e]
      obtain ⟨h1, h2⟩ := ih (if DatumOrd.lt z x = true then z else x)
      generalize hm : minOf (if DatumOrd.lt z x = true then z else x) zs = m at h1 h2 ⊢
      by_cases c : DatumOrd.lt z x = true
      · rw [if_pos c] at h1
        have c' := (lt_pair z x).mp c
        refine ⟨by unfold leP at *; omega, fun y hy => ?_⟩
        rcases List.mem_cons.mp hy with e | e
        · subst e; exact h1
        · exact h2 y e
      · rw [if_neg c] at h1
        have c' : ¬ (z.1 < x.1 ∨ (z.1 = x.1 ∧ z.2 < x.2)) := fun q => c ((lt_pair z x).mpr q)
        refine ⟨h1, fun y hy => ?_⟩
        rcases List.mem_cons.mp hy with e | e
        · subst e; unfold leP at *; omega
        · exact h2 y e
  intro y hy
  obtain ⟨h1, h2⟩ := key xs x
  rcases List.mem_cons.mp hy with e | e
  · subst e; exact h1
  · exact h2 y e
section
variable {X : Cx} {B : Hp}
theorem call_minPs (hc : X.calm = true) (hu : X.A.units + 10 < cLine) : CallR X (.builtin "min") (fun vs H Q => ∃ (a : Addr) (ws : List V) (x : Int × Int) (xs : List (Int × Int)), vs = [V.ref a] ∧ SqL X.K H a ws ∧ DpAll X.K H ws ((x :: xs).map pyP) ∧ ∀ (i : Nat) (w : V), ws[i]? = some w → (x :: xs)[i]? = some (minOf x xs) → Q w H) := by
  rintro pins s σ H vs us Q I r ⟨a, ws, x, xs, rfl, hq, hd, q⟩
  rw [Vals.ref1 r]
  obtain ⟨its, rv, ht, hz⟩ := I.list hq
  obtain ⟨as, rs⟩ := Dp.readsAll I _ _ _ hd rv
  have hx : (x :: xs).map pyP = (x :: xs).map Datum.toD := rfl
  rw [hx] at rs
  refine min_list_datum (α := Int × Int) (I.ok.hd hc) ht.isList (xs := xs) (x := x) ⟨as, by simpa using rs⟩ (by
    have : Datum.depth (Int × Int) ≤ 1 := (by decide +kernel)
    omega) fun i v h' tk hi Hm hk => ?_
  have hil : i < its.length := by
    have := (Array.getElem?_eq_some_iff.mp hi).1
    simpa using this
  have hiv : its[i]? = some v := by simpa using hi
  have hwl : i < ws.length := by rw [rv.length]; exact hil
  obtain ⟨u, h1, h2⟩ := rv.get (i := i) (List.getElem?_eq_getElem hwl)
  rw [hiv] at h1
  cases h1
  have hil2 : i < (x :: xs).length := by
    have := SeqAt.ReadsAll.length _ _ _ rs
    rw [List.length_map] at this
    omega
  have hm : (x :: xs)[i]? = some (minOf x xs) := by
    obtain ⟨as', rs'⟩ := HoldAll.keeps hk (xs := x :: xs) ⟨as, by simpa using rs⟩
    have e1 := readsAll_map_plain _ _ _ (plainAll_map (x :: xs)) rs'
    obtain ⟨bs, hb⟩ := Hm
    have e2 := readOf_plain (Datum.plain (minOf x xs)) hb
    have e3 := congrArg (·[i]?) e1
    simp only [List.getElem?_map, hiv, List.getElem?_eq_getElem hil2, Option.map_some, e2] at e3
    have e4 : Datum.toD (minOf x xs) = Datum.toD (x :: xs)[i] := by simpa using e3
    have e5 : (minOf x xs) = (x :: xs)[i] := by
      have := Datum.eqv (minOf x xs) (x :: xs)[i]
      rw [e4] at this
      have h6 := Datum.eqv (x :: xs)[i] (x :: xs)[i]
      rw [h6] at this
      exact of_decide_eq_true (this.symm.trans (decide_eq_true rfl))
    rw [List.getElem?_eq_getElem hil2, ← e5]
  exact ⟨ws[i], H, I.kept hk, h2, q i _ (List.getElem?_eq_getElem hwl) hm⟩
def rMinPs : DR := fun ds G P => ∃ (d : Dt) (ns : List (Int × Int)), ds = [d] ∧ asL G d = some (ns.map pairD) ∧ 0 < ns.length ∧ ∀ m, m ∈ ns → (∀ y ∈ ns, leP m y) → P (pairD m) G
theorem c_minPs {k : Nat} (hc : X.calm = true) (hr : Room k X.A) : DCall X B (.builtin "min") rMinPs := ⟨_, call_minPs hc (by have := hr.un; omega), fun F G H vs ds P Q g i ⟨d, ns, e, h, hl, p⟩ c => by
  subst e
  cases i with
  | cons i1 i2 =>
    cases i2
    obtain ⟨q, ws, rfl, e2, r⟩ := asL_is g i1 h
    cases ns with
    | nil => simp at hl
    | cons x xs =>
      refine ⟨q, ws, x, xs, rfl, SqL.of e2, dpAll_pairs g.fz0 r, fun i w hw hm => ?_⟩
      obtain ⟨dd, h1, h2⟩ := r.getV hw
      rw [List.getElem?_map, hm] at h1
      cases h1
      exact c _ G _ F H (p _ (minOf_mem x xs) (minOf_le x xs)) (Le.refl F) g h2⟩
end
end DL

set_option Elab.async false
set_option linter.all false
set_option maxRecDepth 100000
set_option maxHeartbeats 1000000
/-! A comprehension over zip(xs, ys), lists that stay; isinstance with classes in a tuple; reverse. -/
namespace DL
open PySem PySem.Spec L2
section
variable {X : Cx} {B : Hp} {e a b o : Expr} {es : List Expr} {st : Stmt} {rest : List Stmt} {pos apos : Pos} {ta tb te to : DTE} {tl : DTA} {t u : DTS}
variable {elt tg iter : Expr} {ifs : List Expr} {scope : Scope} {own : List (Str × Nat)} {wi : DTIM} {g : DTG} {tt : DTT}
/-- as dLcP; what is walked stays as long as all that stands does -/
def dLcPM (wi : DTIM) (g : DTG) (tt : DTT) (te : DTE) (vs : List Nat) : DTE := fun δ G P => wi δ G fun ds C G1 => (∀ G', GLe G1 G' → C G') ∧ ds.length < sizeLine ∧ ∃ (p : Dt → Bool) (f : Dt → Dt),
  (∀ d G', d ∈ ds → GLe G1 G' → g d (dwipe δ vs) G' fun δ2 G2 => G2 = G' ∧ tt δ2 G2 fun b G3 => G3 = G' ∧ b = p d ∧ (b = true → te δ2 G3 fun y G4 => G4 = G' ∧ y = f d)) ∧ P (.lst ((ds.filter p).map f)) G1
theorem lcPM_imp {vs : List Nat} : ∀ σ H Q, tD X.K B (dLcPM wi g tt te vs) σ H Q → tLc (tDIM X.K B wi) (tDGw X.K B vs g) (tDT X.K B tt) (tD X.K B te) vs σ H Q := fun σ H Q ⟨F, G, δ, P, gd, s, p, c⟩ => by
  refine ⟨F, G, δ, _, gd, s, p, fun ds Cc G1 F1 H1 J ⟨hC, hz, pp, ff, turn, fin⟩ l1 g1 dl D hD => ?_⟩
  have gD := g1.gnone hD
  refine ⟨fun i m H => m = ds.length - i ∧ i ≤ ds.length ∧ ∃ F', Le F1 F' ∧ Good X.K B F' (gupd G1 D (.lst (((ds.take i).filter pp).map ff))) H, ⟨_, rfl, Nat.zero_le _, F1, Le.refl F1, g1.newM hD (m := .lst []) .nil⟩, ?_⟩
  rintro i m H ⟨rfl, hi, F2, l2, g2⟩
  by_cases hlt : i < ds.length
  · have hd := List.getElem?_eq_getElem hlt
    refine .inr ⟨dl.go i F2 _ H l2 g2 (hC _ (GLe.gupd gD)) hlt, fun H' => ∃ F', Le F1 F' ∧ Good X.K B F' (gupd G1 D (.lst (((ds.take (i + 1)).filter pp).map ff))) H', fun H' h => ⟨ds.length - (i + 1), by omega, rfl, hlt, h⟩, fun x H' y => ?_⟩
    obtain ⟨F3, l3, g3, i3⟩ := dl.yl i F2 _ H x H' _ l2 g2 (hC _ (GLe.gupd gD)) hd y
    have l13 : Le F F3 := (l1.trans l2).trans l3
    refine ⟨F3, _, _, _, _, g3, (s.le l13).wipe vs, i3, turn _ _ (List.getElem_mem hlt) (GLe.gupd gD), fun δ4 G4 σ4 F4 H4 p4 l4 g4 s4 e4 => ⟨e4.trans (wipe_wipe vs), ?_⟩⟩
    obtain ⟨rfl, p4⟩ := p4
    refine ⟨F4, _, δ4, _, g4, s4, p4, fun b G5 F5 H5 p5 l5 g5 => ?_⟩
    obtain ⟨rfl, hb, p5⟩ := p5
    have lens : (((ds.take i).filter pp).map ff).length < sizeLine := by
      rw [List.length_map]
      refine Nat.lt_of_le_of_lt (Nat.le_trans (List.length_filter_le _ _) ?_) hz
      rw [List.length_take]
      exact Nat.min_le_right _ _
    cases b with
    | true =>
      refine ⟨F5, _, δ4, _, g5, s4.le l5, p5 rfl, fun d G6 v F6 H6 ⟨e6, hy⟩ l6 g6 i6 => ?_⟩
      subst e6
      subst hy
      obtain ⟨vs', e6, r6⟩ := g6.mlst gupd_same
      refine ⟨vs', e6, by rw [r6.length]; exact lens, F6, ((l2.trans l3).trans l4).trans (l5.trans l6), ?_⟩
      have w := g6.write gupd_same (o := .lst (vs' ++ [v])) (m := .lst (((ds.take i).filter pp).map ff ++ [ff ds[i]])) (r6.append (.one i6))
      rw [gupd_gupd] at w
      rw [filter_take_succ hd, if_pos hb.symm, List.map_append]
      exact w
    | false =>
      rw [if_neg Bool.false_ne_true]
      refine ⟨F5, ((l2.trans l3).trans l4).trans l5, ?_⟩
      rw [filter_take_succ hd, if_neg (by rw [← hb]; exact Bool.false_ne_true), List.append_nil]
      exact g5
  · have e : i = ds.length := by omega
    subst e
    rw [List.take_length] at g2
    refine .inl ⟨dl.st _ F2 _ H l2 g2 (hC _ (GLe.gupd gD)) (Nat.le_refl _), ?_⟩
    obtain ⟨F4, l4, g4, i4⟩ := g2.freezeL gupd_same
    rw [gdel_gupd gD] at g4
    exact c _ G1 _ F4 H fin ((l1.trans l2).trans l4) g4 i4
theorem d_lcPM (hc : X.calm = true) (hN : X.N.Nodup) (hi : DIM X B tg iter wi) (ok : BlkOk X.N X.env.scope scope own)
    (hg : ∀ (s : Shared) (H : Hp) (C : Addr) (cl : List (Str × Addr)) (fp : List Addr), PG (X.blk s H scope (compEnvC scope cl C X.env) fp) tg (tDGw X.K B (own.map (·.2)) g)) (ht : ∀ (s : Shared) (H : Hp) (C : Addr) (cl : List (Str × Addr)) (fp : List Addr), PTs (X.blk s H scope (compEnvC scope cl C X.env) fp) ifs (tDT X.K B tt))
    (he : ∀ (s : Shared) (H : Hp) (C : Addr) (cl : List (Str × Addr)) (fp : List Addr), PE (X.blk s H scope (compEnvC scope cl C X.env) fp) elt (tD X.K B te)) (hs : ∀ x, foldedSetIterable iter X.env x = pure x := by intro _; rfl) :
    DE X B (.ListComp elt [⟨tg, iter, ifs, 0⟩] scope pos) (dLcPM wi g tt te (own.map (·.2))) := PE.imp (pe_lc hc hN hi ok hg ht he hs) lcPM_imp
theorem ds_setLcPM {i : Nat} {y : Str} {py spos : Pos} (hc : X.calm = true) (hN : X.N.Nodup) (hy : X.N[i]? = some y) (hyl : X.env.scope.names.lookup y = some .local)
    (hsw : swapsWith (.ListComp elt [⟨tg, iter, ifs, 0⟩] scope pos) (some (.Name y py)) spos.line X.env = pure true) (hi : DIM X B tg iter wi) (ok : BlkOk X.N X.env.scope scope own)
    (hg : ∀ (s : Shared) (H : Hp) (C : Addr) (cl : List (Str × Addr)) (fp : List Addr), PG (X.blk s H scope (compEnvC scope cl C X.env) fp) tg (tDGw X.K B (own.map (·.2)) g)) (ht : ∀ (s : Shared) (H : Hp) (C : Addr) (cl : List (Str × Addr)) (fp : List Addr), PTs (X.blk s H scope (compEnvC scope cl C X.env) fp) ifs (tDT X.K B tt))
    (he : ∀ (s : Shared) (H : Hp) (C : Addr) (cl : List (Str × Addr)) (fp : List Addr), PE (X.blk s H scope (compEnvC scope cl C X.env) fp) elt (tD X.K B te)) (hs : ∀ x, foldedSetIterable iter X.env x = pure x := by intro _; rfl) :
    DS X B (.Assign [.Name y py] (.ListComp elt [⟨tg, iter, ifs, 0⟩] scope pos) spos) (dSt i (dLcPM wi g tt te (own.map (·.2)))) :=
  ds_set0 _ (L2.ps_setLc hc hN hy hyl hsw hi ok hg ht he hs) lcPM_imp
def zipD : List Dt → List Dt → List Dt
  | x :: xs, y :: ys => .tup [x, y] :: zipD xs ys
  | _, _ => []
theorem zipD_length : ∀ {xs ys : List Dt}, (zipD xs ys).length = min xs.length ys.length
  | [], _ => by simp [zipD]
  | _ :: _, [] => by simp [zipD]
  | x :: xs, y :: ys => by
    have := zipD_length (xs := xs) (ys := ys)
    simp only [zipD, List.length_cons, this]
    omega
theorem zipD_get : ∀ {xs ys : List Dt} {i : Nat} {d : Dt}, (zipD xs ys)[i]? = some d → ∃ x y, xs[i]? = some x ∧ ys[i]? = some y ∧ d = .tup [x, y]
  | [], _, _, _, h => by simp [zipD] at h
  | _ :: _, [], _, _, h => by simp [zipD] at h
  | x :: xs, y :: ys, 0, d, h => by
    cases h
    exact ⟨x, y, rfl, rfl, rfl⟩
  | x :: xs, y :: ys, i + 1, d, h => zipD_get (xs := xs) (ys := ys) (i := i) h
def diZipM (t : DTA) : DTIM := fun δ G P => t δ G fun ds G1 => ∃ d d' xs ys, ds = [d, d'] ∧ asL G1 d = some xs ∧ asL G1 d' = some ys ∧ P (zipD xs ys) (fun G' => asL G' d = some xs ∧ asL G' d' = some ys) G1
theorem di_zipM {elts : List Expr} {kk : Nat} {tpos p : Pos} {e2 : Expr} (hg : Gl X "zip") (hm : X.mg "zip" = none) (ha : DA X B [e, e2] tl) (hs : starEach [e, e2] X.env = (false, eval e X.env) :: starEach [e2] X.env := by rfl) (hpl : (backTo pos (starEach [e2] X.env)).any (·.1) = false := by rfl) : DIM X B (.Tuple elts kk tpos) (.Call (.Name "zip" p) [e, e2] [] pos) (diZipM tl) :=
  PI.imp (pi_zip hg hm ha hs hpl) fun σ H R ⟨F, G, δ, P, g, s, p, c⟩ => ⟨F, G, δ, _, g, s, p, fun ds G1 vs F1 H1 ⟨d, d', xs, ys, e1, e2, e3, p1⟩ l1 g1 i1 => by
    subst e1
    cases i1 with
    | cons i1 i2 =>
      cases i2 with
      | cons i2 i3 =>
        cases i3
        obtain ⟨q, ws, rfl, h1, r1⟩ := asL_is g1 i1 e2
        obtain ⟨q2, ws2, rfl, h2, r2⟩ := asL_is g1 i2 e3
        refine ⟨q, q2, ws, ws2, rfl, SqL.of h1, SqL.of h2, c _ _ G1 F1 H1 _ p1 l1 g1 ⟨fun i F' G H l g hC hi => ?_, fun i F' G H x H' d' l g hC hd ⟨T, w, w2, e, hT, e', hx, hy⟩ => ?_, fun i F' G H l g hC hi => ?_⟩⟩
        · obtain ⟨_, ws', eq1, k1, s1⟩ := asL_is g (i1.le l) hC.1
          obtain ⟨_, ws2', eq2, k2, s2⟩ := asL_is g (i2.le l) hC.2
          cases eq1; cases eq2
          rw [zipD_length] at hi
          exact ⟨_, _, _, _, SqL.of k1, SqL.of k2, List.getElem?_eq_getElem (by rw [s1.length]; omega), List.getElem?_eq_getElem (by rw [s2.length]; omega)⟩
        · subst e; subst e'
          obtain ⟨_, ws', eq1, k1, s1⟩ := asL_is g (i1.le l) hC.1
          obtain ⟨_, ws2', eq2, k2, s2⟩ := asL_is g (i2.le l) hC.2
          cases eq1; cases eq2
          obtain ⟨x, y, hx', hy', rfl⟩ := zipD_get hd
          have a1 := hx _ (SqL.of k1)
          have a2 := hy _ (SqL.of k2)
          obtain ⟨v, b1, c1⟩ := s1.get hx'
          obtain ⟨v2, b2, c2⟩ := s2.get hy'
          rw [a1] at b1; cases b1
          rw [a2] at b2; cases b2
          obtain ⟨l2, g2⟩ := g.newF hT (.tup [w, w2])
          exact ⟨_, l2, g2, .tup upd_same (.cons (c1.le l2) (.one (c2.le l2)))⟩
        · obtain ⟨_, ws', eq1, k1, s1⟩ := asL_is g (i1.le l) hC.1
          obtain ⟨_, ws2', eq2, k2, s2⟩ := asL_is g (i2.le l) hC.2
          cases eq1; cases eq2
          rw [zipD_length] at hi
          exact ⟨_, _, SqL.of k1, SqL.of k2, by rw [s1.length, s2.length]; omega⟩⟩
def diLM (te : DTE) : DTIM := fun δ G P => te δ G fun d G1 => ∃ xs, asL G1 d = some xs ∧ P xs (fun G' => asL G' d = some xs) G1
theorem di_listM {tg : Expr} (h : DE X B e te) : DIM X B tg e (diLM te) := PI.imp (pi_list h) fun σ H R ⟨F, G, δ, P, g, s, p, c⟩ =>
  ⟨F, G, δ, _, g, s, p, fun d G1 v F1 H1 ⟨xs, e, p1⟩ l1 g1 i1 => by
    obtain ⟨q, ws, rfl, h1, r1⟩ := asL_is g1 i1 e
    refine ⟨_, rfl, ⟨_, SqL.of h1⟩, c _ _ G1 F1 H1 _ p1 l1 g1 ⟨fun i F' G H l g hC hi => ?_, fun i F' G H x H' d' l g hC hd ⟨e', hx⟩ => ?_, fun i F' G H l g hC hi => ?_⟩⟩
    · obtain ⟨_, ws', eq1, k1, s1⟩ := asL_is g (i1.le l) hC
      cases eq1
      exact ⟨_, _, SqL.of k1, List.getElem?_eq_getElem (by rw [s1.length]; exact hi)⟩
    · subst e'
      obtain ⟨_, ws', eq1, k1, s1⟩ := asL_is g (i1.le l) hC
      cases eq1
      have a1 := hx _ (SqL.of k1)
      obtain ⟨v, b1, c1⟩ := s1.get hd
      rw [a1] at b1; cases b1
      exact ⟨F', Le.refl F', g, c1⟩
    · obtain ⟨_, ws', eq1, k1, s1⟩ := asL_is g (i1.le l) hC
      cases eq1
      exact ⟨_, SqL.of k1, by rw [s1.length]; exact hi⟩⟩
/-! ### isinstance with a tuple of classes -/
def rIsiTD (K : PySem.W.Frag) : DR := fun ds G P => ∃ (d : Dt) (cs : List Dt) (t : Value) (us : List Value) (b : Bool), ds = [d, .tup cs] ∧ tagD G d = some t ∧ cs.map clsD = us.map some ∧ (∀ C, t = .ref C → IsF K C) ∧ PySem.W.kitAny K t us = some b ∧ P (.bl b) G
theorem cls_all {K : PySem.W.Frag} {F : Hp} : ∀ {vs : List V} {cs : List Dt} {us : List Value}, IsL K F vs cs → cs.map clsD = us.map some → Paired ClsV vs us
  | _, [], us, h, e => by
    cases h
    cases us with
    | nil => exact .nil
    | cons _ _ => simp at e
  | _, c :: cs, us, h, e => by
    cases us with
    | nil => simp at e
    | cons u us =>
      cases h with
      | cons a r =>
        rw [List.map_cons, List.map_cons, List.cons.injEq] at e
        refine .cons ?_ (cls_all r e.2)
        have e1 := e.1
        cases a <;> first
          | (cases e1; exact .ty _)
          | (cases e1; exact .own _)
          | cases e1
theorem c_isiT : DCall X B (.builtin "isinstance") (rIsiTD X.K) := ⟨_, call_isiT, fun F G H vs ds P Q g i ⟨d, cs, t, us, b, e, h1, h2, h3, h4, p⟩ k => by
  subst e
  cases i with
  | cons i1 i2 =>
    cases i2 with
    | cons i2 i3 =>
      cases i3
      cases i2 with
      | tup q r => exact ⟨_, _, _, t, us, b, rfl, g.fz _ _ q, cls_all r h2, tag_is g i1 h1 h3, h4, k _ G _ F H p (Le.refl F) g (.bl b)⟩⟩
def rIsiT2D (K : PySem.W.Frag) : DR := fun ds G P => ∃ (d c1 c2 : Dt) (t u1 u2 : Value) (b : Bool), ds = [d, .tup [c1, c2]] ∧ tagD G d = some t ∧ clsD c1 = some u1 ∧ clsD c2 = some u2 ∧ (∀ C, t = .ref C → IsF K C) ∧ PySem.W.kitAny K t [u1, u2] = some b ∧ P (.bl b) G
theorem c_isiT2 : DCall X B (.builtin "isinstance") (rIsiT2D X.K) := by
  obtain ⟨r', h1, h2⟩ := (c_isiT (X := X) (B := B)).ex
  exact ⟨r', h1, fun F G H vs ds P Q g i ⟨d, c1, c2, t, u1, u2, b, e, a1, a2, a3, a4, a5, p⟩ c => h2 F G H vs ds P Q g i ⟨d, [c1, c2], t, [u1, u2], b, e, a1, by simp [a2, a3], a4, a5, p⟩ c⟩
end
end DL

set_option Elab.async false
set_option linter.all false
set_option maxRecDepth 100000
set_option maxHeartbeats 4000000
/-! Data with truths in it compared. -/
namespace DL
open PySem PySem.Spec L2
def plT : Nat → Dt → Bool
  | _, .non => true
  | _, .bl _ => true
  | _, .int _ => true
  | _, .str x => PyData.strOk x
  | n + 1, .lst xs => xs.all (plT n)
  | n + 1, .tup xs => xs.all (plT n)
  | _, _ => false
def toPyT : Nat → Dt → PyData
  | _, .bl b => .bool b
  | _, .int i => .int i
  | _, .str x => .str x
  | n + 1, .lst xs => .list (xs.map (toPyT n))
  | n + 1, .tup xs => .tuple (xs.map (toPyT n))
  | _, _ => .none
theorem plT_is {K : PySem.W.Frag} {F : Hp} {H : Hp} (l : ∀ a o, F a = some o → notM o = true → H a = some o) : ∀ (n : Nat) {v : V} {d : Dt}, plT n d = true → Is K F v d → Dp K H v (toPyT n d) := by
  intro n
  induction n with
  | zero =>
    intro v d h i
    cases i <;> first
      | (simp [plT] at h; done)
      | (simp only [toPyT]; constructor)
  | succ n ih =>
    have all : ∀ {vs : List V} {ds : List Dt}, ds.all (plT n) = true → IsL K F vs ds → DpAll K H vs (ds.map (toPyT n)) := by
      intro vs ds
      induction ds generalizing vs with
      | nil => intro _ r; cases r; exact .nil
      | cons d ds ih2 =>
        intro h r
        rw [List.all_cons, Bool.and_eq_true] at h
        cases r with
        | cons r1 r2 => exact .cons (ih h.1 r1) (ih2 h.2 r2)
    intro v d h i
    cases i with
    | lst q r => simp only [plT] at h; exact .lst (SqL.of (l _ _ q rfl)) (all h r)
    | tup q r => simp only [plT] at h; exact .tup (SqT.of (l _ _ q rfl)) (all h r)
    | non => simp only [toPyT]; exact .non
    | bl b => simp only [toPyT]; exact .bl b
    | int i => simp only [toPyT]; exact .int i
    | str x => simp only [toPyT]; exact .str x
    | _ => simp [plT] at h
theorem plT_lay : ∀ (n : Nat) {d : Dt}, plT n d = true → (toPyT n d).canLay0 = true ∧ (toPyT n d).depth ≤ n := by
  intro n
  induction n with
  | zero =>
    intro d h
    cases d <;> simp [plT] at h <;> simp [toPyT, PyData.canLay0, PyData.depth, h]
  | succ n ih =>
    have all : ∀ {ds : List Dt}, ds.all (plT n) = true → PyData.canLayAll0 (ds.map (toPyT n)) = true ∧ PyData.depthAll (ds.map (toPyT n)) ≤ n := by
      intro ds
      induction ds with
      | nil => intro _; simp [PyData.canLayAll0, PyData.depthAll]
      | cons d ds ih2 =>
        intro h
        rw [List.all_cons, Bool.and_eq_true] at h
        obtain ⟨a1, a2⟩ := ih h.1
        obtain ⟨b1, b2⟩ := ih2 h.2
        simp only [List.map_cons, PyData.canLayAll0, PyData.depthAll, a1, b1, Bool.and_self, true_and]
        omega
    intro d h
    cases d with
    | lst xs =>
      simp only [plT] at h
      obtain ⟨a, b⟩ := all h
      simp only [toPyT, PyData.canLay0, PyData.depth, a, true_and]
      omega
    | tup xs =>
      simp only [plT] at h
      obtain ⟨a, b⟩ := all h
      simp only [toPyT, PyData.canLay0, PyData.depth, a, true_and]
      omega
    | _ => simp [plT] at h <;> simp [toPyT, PyData.canLay0, PyData.depth, h]
theorem plT_shaped {n : Nat} {d : Dt} (hn : n ≤ 64) (h : plT n d = true) : SeqAt.shaped (toPyT n d) = true := by
  obtain ⟨a, b⟩ := plT_lay n h
  unfold SeqAt.shaped
  rw [a, Bool.true_and]
  exact decide_eq_true (Nat.le_trans b hn)
theorem nowT_is {K : PySem.W.Frag} {B F : Hp} {G : Gp} {H : Hp} {v : V} {d : Dt} (g : Good K B F G H) (i : Is K F v d) {n : Nat} (h : plT n (now G d) = true) : Dp K H v (toPyT n (now G d)) := by
  unfold now at h ⊢
  split
  · rename_i xs e
    rw [e] at h
    obtain ⟨q, vs, rfl, e2, r⟩ := asL_is g i e
    cases n with
    | zero => simp [plT] at h
    | succ n =>
      simp only [plT] at h
      have all : ∀ {vs : List V} {ds : List Dt}, ds.all (plT n) = true → IsL K F vs ds → DpAll K H vs (ds.map (toPyT n)) := by
        intro vs ds
        induction ds generalizing vs with
        | nil => intro _ r; cases r; exact .nil
        | cons d ds ih2 =>
          intro h r
          rw [List.all_cons, Bool.and_eq_true] at h
          cases r with
          | cons r1 r2 => exact .cons (plT_is g.fz0 n h.1 r1) (ih2 h.2 r2)
      exact .lst (SqL.of e2) (all h r)
  · rename_i e
    rw [e] at h
    exact plT_is g.fz0 n h i
section
variable {X : Cx} {B : Hp}
def rEqT (neg : Bool) : DR2 := fun x y G P => plT 9 (now G x) = true ∧ plT 9 (now G y) = true ∧ P (.bl (neg != PyData.eqv (toPyT 9 (now G x)) (toPyT 9 (now G y)))) G
theorem o_eqT {k : Nat} (hr : Room k X.A) : DOp X B (compareOp .Eq) (rEqT false) := ⟨_, op_eqD hr.units, fun F G H v w x y P Q g rx ry ⟨h1, h2, p⟩ c =>
  ⟨_, _, nowT_is g rx h1, nowT_is g ry h2, plT_shaped (by decide) h1, plT_shaped (by decide) h2, c _ G _ F H (by simpa using p) (Le.refl F) g (.bl _)⟩⟩
theorem o_neT {k : Nat} (hr : Room k X.A) : DOp X B (compareOp .NotEq) (rEqT true) := ⟨_, op_neD hr.units, fun F G H v w x y P Q g rx ry ⟨h1, h2, p⟩ c =>
  ⟨_, _, nowT_is g rx h1, nowT_is g ry h2, plT_shaped (by decide) h1, plT_shaped (by decide) h2, c _ G _ F H (by simpa using p) (Le.refl F) g (.bl _)⟩⟩
theorem dt_chain {a b c : Expr} {ta tb tc : DTE} {op op' : CmpOp} {r r' : DR2} (ho : DOp X B (compareOp op) r) (ho' : DOp X B (compareOp op') r') (ha : DE X B a ta) (hb : DE X B b tb) (hc : DE X B c tc)
    (hm : lastMarks [op, op'] [b, c] = false := by rfl) : DT X B (.Compare a [op, op'] [b, c] pos) (dB (dChain r r' ta tb tc)) := by
  obtain ⟨q, h1, h2⟩ := ho.ex
  obtain ⟨q', h1', h2'⟩ := ho'.ex
  exact PT.imp (pt_chain h1 h1' ha hb hc hm) fun σ H Q ⟨F, G, δ, P, g, s, p, c⟩ => by
    obtain ⟨F', G', δ', P', g', s', p', c'⟩ := db_imp σ H Q ⟨F, G, δ, P, g, s, p, c⟩
    exact chain_imp h2 h2' σ H _ ⟨F', G', δ', P', g', s', p', c'⟩
end
end DL

set_option Elab.async false
set_option linter.all false
set_option maxRecDepth 100000
set_option maxHeartbeats 1000000
/-! Calls by keywords alone; more of lists: insert, slices, the last one. -/
namespace DL
open PySem PySem.Spec L2
/-- puts the keywords' values in the parameters' order -/
abbrev PF := {α : Type} → List α → List α
section
variable (P : Program) (w : World) (K : PySem.W.Frag) (mg : Str → Option Value) (base : Heap) (CX : CXT)
def DfnK (x : Str) (ps ks : List Str) (pf : PF) (c : DSp) (k : Nat) : Prop := ∃ f fd, FnOk P w K mg base CX k f fd ps (toSp K c) ∧ mg x = some (.ref f) ∧ PySem.W.keepIn K (.ref f) = true ∧ KBn K fd ps 0 ks (fun _ ws => pf ws) (fun _ zs => pf zs)
def DmtK (C : Addr) (m : Str) (ps ks : List Str) (pf : PF) (c : DSp) (k : Nat) : Prop := ∃ f fd, FnOk P w K mg base CX k f fd ps (toSp K c) ∧ Meth K C m f ∧ KBn K fd ps 1 ks (fun us ws => us ++ pf ws) (fun vs zs => vs ++ pf zs)
end
def swap2 : PF := fun l => match l with
  | [a, b] => [b, a]
  | l => l
def same0 : PF := fun l => l
structure PFOk (pf : PF) : Prop where
  is_ : ∀ {K : PySem.W.Frag} {F : Hp} {vs : List V} {ds : List Dt}, IsL K F vs ds → IsL K F (pf vs) (pf ds)
theorem swap2_ok : PFOk swap2 := ⟨fun {K F vs ds} h => by
  cases h with
  | nil => exact .nil
  | cons a r =>
    cases r with
    | nil => exact .cons a .nil
    | cons b r =>
      cases r with
      | nil => exact .cons b (.cons a .nil)
      | cons c r => exact .cons a (.cons b (.cons c r))⟩
theorem swap2_vals {zs : List V} {ws : List Value} (h : Vals zs ws) : Vals (swap2 zs) (swap2 ws) := by
  cases h with
  | nil => exact .nil
  | cons a r =>
    cases r with
    | nil => exact .cons a .nil
    | cons b r =>
      cases r with
      | nil => exact .cons b (.cons a .nil)
      | cons c r => exact .cons a (.cons b (.cons c r))
theorem same0_vals {zs : List V} {ws : List Value} (h : Vals zs ws) : Vals (same0 zs) (same0 ws) := h
theorem same0_ok : PFOk same0 := ⟨fun h => h⟩
def revK : PF := fun l => l.reverse
theorem revK_ok : PFOk revK := ⟨fun h => h.reverse⟩
theorem revK_vals {zs : List V} {ws : List Value} (h : Vals zs ws) : Vals (revK zs) (revK ws) := by
  show Vals zs.reverse ws.reverse
  induction h with
  | nil => exact .nil
  | cons a r ih => rw [List.reverse_cons, List.reverse_cons]; exact ih.append (.cons a .nil)
section
variable {X : Cx} {B : Hp} {e a b o : Expr} {es : List Expr} {pos p apos kpos : Pos} {ta tb te to : DTE} {tl : DTA} {j k : Nat} {x nm : Str} {ps ks : List Str} {c : DSp} {kws : List Keyword} {pf : PF}
structure DPK (X : Cx) (B : Hp) (kws : List Keyword) (t : DTA) : Prop where
  pk : PK X kws (tDA X.K B t)
theorem dpk_nil : DPK X B [] dNil := ⟨⟨fun pos pins s σ H Q I ⟨F, G, δ, P, g, sl, p, c⟩ => pk_nil.run pos pins s σ H Q I (c _ G _ F H p (Le.refl F) g .nil)⟩⟩
theorem PK.imp {kws : List Keyword} {t t' : TA} (h : PK X kws t) (f : ∀ σ H Q, t' σ H Q → t σ H Q) : PK X kws t' := ⟨fun pos pins s σ H Q I q => h.run pos pins s σ H Q I (f _ _ _ q)⟩
theorem dpk_cons {nm : Option Str} (ha : DE X B e te) (hr : DPK X B kws tl) : DPK X B (⟨nm, e, kpos⟩ :: kws) (dCons te tl) := ⟨PK.imp (pk_cons ha hr.pk) fun σ H Q ⟨F, G, δ, P, g, s, p, c⟩ =>
    ⟨F, G, δ, _, g, s, p, fun x G1 v F1 H1 p1 l1 g1 r1 => ⟨F1, G1, δ, _, g1, s.le l1, p1, fun xs G2 vs F2 H2 p2 l2 g2 r2 => c _ G2 _ F2 H2 p2 (l1.trans l2) g2 (.cons (r1.le l2) r2)⟩⟩⟩
def dCallK (c : DSp) (pf : PF) (n : Nat) (t : DTA) : DTE := fun δ G P => t δ G fun ds G1 => ds.length = n ∧ c (pf ds) G1 P noX
/-- f(k = v, ..) -/
theorem pe_callK0 {CX : CXT} {f : Addr} {fd : FuncData} {sp : Sp} {E : XK} {tk : TA} {g : List Value → List Value → List Value} {gV : List V → List V → List V} (F : FnOk X.prog X.w X.K X.mg X.base CX k f fd ps sp) (hr : Room k X.A) (hg : Gl X x) (hm : X.mg x = some (.ref f)) (hk : PySem.W.keepIn X.K (.ref f) = true) (hb : KBn X.K fd ps 0 ks g gV) (hx : Passes CX X E) (hkw : PK X kws tk)
    (hall : (backToKw pos (keywordEach kws X.env)).all (·.1.isSome) = true := by rfl) (hks : (backToKw pos (keywordEach kws X.env)).filterMap (·.1) = ks := by rfl) (hdb : (x == ("__debug__" : Str)) = false := by decide)
    (hpl : ((backTo pos (starEach [] X.env)).any (·.1) || (backToKw pos (keywordEach kws X.env)).any (·.1.isNone)) = false := by rfl) :
    PE X (.Call (.Name x p) [] kws pos) (tCallN 0 ks.length sp gV E tNil tk) := by
  refine ⟨fun pins s σ H Q I h => ?_⟩
  refine wpAny_Call_Name_kw (ld_glob I hg hm ?_ hdb)
  refine PySem.W.callWith_KW0 (h₀ := X.base) I.ok.mod.kin hk hall ?_ hpl
  refine thn (hkw.run pos pins s σ H _ I h) fun ws s2 ⟨zs, H2, I2, rz, l1, l2, q2⟩ => ⟨I2.kIn, ?_⟩
  rw [hks]
  exact run_fnN (us := []) (vs := []) F hr hb hx I2 .nil rz rfl l2 q2
theorem d_callKw (D : DfnK X.prog X.w X.K X.mg X.base CX0 x ps ks pf c k) (hp : PFOk pf) (hr : Room j X.A) (hg : Gl X x) (ha : DPK X B kws tl) (hj : k ≤ j := by decide)
    (hall : (backToKw pos (keywordEach kws X.env)).all (·.1.isSome) = true := by rfl) (hks : (backToKw pos (keywordEach kws X.env)).filterMap (·.1) = ks := by rfl) (hdb : (x == ("__debug__" : Str)) = false := by decide)
    (hpl : ((backTo pos (starEach [] X.env)).any (·.1) || (backToKw pos (keywordEach kws X.env)).any (·.1.isNone)) = false := by rfl) : DE X B (.Call (.Name x p) [] kws pos) (dCallK c pf ks.length tl) := by
  obtain ⟨f, fd, F, m, kp, b⟩ := D
  refine PE.imp (pe_callK0 (E := fun _ _ _ => False) F (hr.mono hj) hg m kp b pass0 ha.pk hall hks hdb hpl) fun σ H Q ⟨F, G, δ, P, g, s, q, k⟩ => ?_
  exact ⟨F, G, δ, _, g, s, q, fun ds G1 vs F1 H1 ⟨hl, p1⟩ l1 g1 i1 => ⟨rfl, i1.length.trans hl, toSp_of g1 (hp.is_ i1) p1 (k.le l1) contX_no⟩⟩
/-! ### insert -/
def rInsD : Dt → List Dt → Gp → DK → Prop := fun x ds G P => ∃ (a : Addr) (xs : List Dt) (i : Nat) (d : Dt), x = .ref a ∧ ds = [.int (i : Int), d] ∧ G a = some (.lst xs) ∧ xs.length < sizeLine ∧ i < 2 ^ 62 ∧ P .non (gupd G a (.lst (xs.take i ++ [d] ++ xs.drop i)))
theorem m_insert : DMt X B "list.insert" rInsD := ⟨_, mt_insert, fun F G H v x vs ds P Q g i1 i2 ⟨a, xs, i, d, e1, e2, h, hz, hi, p⟩ c => by
  subst e1; subst e2
  cases i1
  cases i2 with
  | cons i2 i3 =>
    cases i2
    cases i3 with
    | cons i3 i4 =>
      cases i4
      obtain ⟨ws, e, r⟩ := g.mlst h
      refine ⟨a, ws, (i : Int), _, rfl, rfl, e, by rw [r.length]; exact hz, by omega, by omega, ?_⟩
      rw [Int.toNat_natCast]
      exact c _ _ _ _ _ p (Le.refl F) (g.write h (o := .lst (ws.take i ++ [_] ++ ws.drop i)) (m := .lst (xs.take i ++ [d] ++ xs.drop i)) (((r.take i).append (.one i3)).append (r.drop i))) .non⟩
theorem d_insert (ho : DE X B o to) (ha : DE X B a ta) (hb : DE X B b tb)
    (hs : starEach [a, b] X.env = (false, eval a X.env) :: starEach [b] X.env := by rfl) (hs2 : starEach [b] X.env = (false, eval b X.env) :: starEach [] X.env := by rfl)
    (pe : ∀ {r : V → List V → Hp → VK → Prop} {t : TA} {to : TE}, MtR X "list.insert" r → PE X o to → PA X [a, b] t → PE X (.Call (.Attribute o "insert" apos) [a, b] [] pos) (tBM X.K "list" r to t) := by exact fun h1 h2 h3 => pe_bm PySem.F.plainAttrs_list PySem.F.slot_list_insert PySem.F.type_list_insert h1 h2 h3) :
    DE X B (.Call (.Attribute o "insert" apos) [a, b] [] pos) (dBM rInsD to (dCons ta (dCons tb dNil))) := by
  obtain ⟨r', h1, h2⟩ := (m_insert (X := X) (B := B)).ex
  exact PE.imp (pe h1 ho (da_cons ha (da_cons hb da_nil hs2) hs)) (bm_imp h2)
/-! ### slices of a list -/
theorem isL_drop {K : PySem.W.Frag} {F : Hp} {vs : List V} {ds : List Dt} (k : Nat) (h : IsL K F vs ds) : IsL K F (vs.drop k) (ds.drop k) := h.drop k
def cutD (xs : List Dt) (lo hi : Option Int) : List Dt := (xs.drop (HT.sIx xs.length 0 lo)).take (HT.sIx xs.length xs.length hi - HT.sIx xs.length 0 lo)
theorem cut_is {K : PySem.W.Frag} {F : Hp} {vs : List V} {ds : List Dt} (lo hi : Option Int) (h : IsL K F vs ds) : IsL K F (cutV vs lo hi) (cutD ds lo hi) := by
  unfold cutV cutD
  rw [h.length]
  exact (h.drop _).take _
/-- a part of a slice -/
abbrev DTO := DSt → Gp → (Option Int → Gp → Prop) → Prop
def tDO (K : PySem.W.Frag) (B : Hp) (t : DTO) : TO := fun σ H Q => ∃ F G δ P, Good K B F G H ∧ Sl K F σ δ ∧ t δ G P ∧ ∀ o G' F' H', P o G' → Le F F' → Good K B F' G' H' → Q o H'
structure DO (X : Cx) (B : Hp) (e : Option Expr) (t : DTO) : Prop where
  po : PO X e (tDO X.K B t)
def doNone : DTO := fun _ G P => P none G
def doSome (te : DTE) : DTO := fun δ G P => te δ G fun d G1 => ∃ i : Int, d = .int i ∧ P (some i) G1
theorem PO.imp {e : Option Expr} {t t' : TO} (h : PO X e t) (f : ∀ σ H Q, t' σ H Q → t σ H Q) : PO X e t' := ⟨fun pins s σ H Q I q => h.run pins s σ H Q I (f _ _ _ q)⟩
theorem do_none : DO X B none doNone := ⟨PO.imp po_none fun σ H Q ⟨F, G, δ, P, g, s, p, c⟩ => c _ G F H p (Le.refl F) g⟩
theorem do_some (h : DE X B e te) : DO X B (some e) (doSome te) := ⟨PO.imp (po_some h) fun σ H Q ⟨F, G, δ, P, g, s, p, c⟩ =>
  ⟨F, G, δ, _, g, s, p, fun d G1 v F1 H1 ⟨i, e, p1⟩ l1 g1 i1 => by
    subst e
    cases i1
    exact ⟨i, rfl, c _ G1 F1 H1 p1 l1 g1⟩⟩⟩
def dCut (te : DTE) (lo hi : DTO) : DTE := fun δ G P => te δ G fun x G1 => lo δ G1 fun l G2 => hi δ G2 fun u G3 => ∃ xs, asL G3 x = some xs ∧ P (.lst (cutD xs l u)) G3
theorem d_slice {lo hi : Option Expr} {tl th : DTO} {p2 : Pos} (he : DE X B e te) (hl : DO X B lo tl) (hu : DO X B hi th) : DE X B (.Subscript e (.Slice lo hi none p2) pos) (dCut te tl th) :=
  PE.imp (pe_slice sl_list he hl.po hu.po) fun σ H Q ⟨F, G, δ, P, g, s, p, c⟩ =>
  ⟨F, G, δ, _, g, s, p, fun x G1 vx F1 H1 p1 l1 g1 i1 => ⟨F1, G1, δ, _, g1, s.le l1, p1, fun l G2 F2 H2 p2 l2 g2 => ⟨F2, G2, δ, _, g2, (s.le l1).le l2, p2, fun u G3 F3 H3 ⟨xs, h, p3⟩ l3 g3 => by
    obtain ⟨q0, ws, rfl, e, r⟩ := asL_is g3 ((i1.le l2).le l3) h
    refine ⟨q0, ws, rfl, SqL.of e, fun p hp => ?_⟩
    obtain ⟨l4, g4⟩ := g3.newF hp (.lst (cutV ws l u))
    exact c _ G3 _ _ _ p3 (((l1.trans l2).trans l3).trans l4) g4 (.lst upd_same ((cut_is l u r).le l4))⟩⟩⟩
end
end DL

set_option Elab.async false
set_option linter.all false
set_option maxRecDepth 100000
/-! o.m(k = v, ..); xs.extend(ys). -/
namespace DL
open PySem PySem.Spec L2
section
variable {X : Cx} {B : Hp} {a o : Expr} {pos apos : Pos} {ta to : DTE} {tl : DTA} {j k : Nat} {m : Str} {ps ks : List Str} {c : DSp} {kws : List Keyword} {pf : PF} {C : Addr}
def tMethN (C : Addr) (m : Str) (n : Nat) (sp : Sp) (gV : List V → List V → List V) (E : XK) (ta : TE) (tk : TA) : TE := fun σ H Q => ta σ H fun x H1 => ∃ (p dx : Addr) (fs : List (Str × V)), x = .ref p ∧ H1 p = some (.ins C dx fs) ∧ fs.lookup m = none ∧ tk σ H1 fun zs H2 => zs.length = n ∧ sp (gV [.ref p] zs) H2 Q E
theorem pe_methKw {CX : CXT} {f : Addr} {fd : FuncData} {sp : Sp} {E : XK} {te : TE} {tk : TA} {g : List Value → List Value → List Value} {gV : List V → List V → List V} {pl : Sem Bool} (he : PE X o te) (cl : Cls X.K C) (hm : Meth X.K C m f) (F : FnOk X.prog X.w X.K X.mg X.base CX k f fd ps sp) (hr : Room k X.A) (hb : KBn X.K fd ps 1 ks g gV) (hx : Passes CX X E) (hkw : PK X kws tk)
    (hall : (backToKw pos (keywordEach kws X.env)).all (·.1.isSome) = true) (hks : (backToKw pos (keywordEach kws X.env)).filterMap (·.1) = ks)
    (hpl : ((backTo pos (starEach [] X.env)).any (·.1) || (backToKw pos (keywordEach kws X.env)).any (·.1.isNone)) = false)
    (ht : eval (.Call (.Attribute o m apos) [] kws pos) X.env = (do
      let ov ← eval o X.env
      standAt apos.atName
      let (f, first) ← holding [ov] (getMethod ov m pl)
      callWith pos f first (backTo pos (starEach [] X.env)) (backToKw pos (keywordEach kws X.env)))) :
    PE X (.Call (.Attribute o m apos) [] kws pos) (tMethN C m ks.length sp gV E te tk) := by
  refine ⟨fun pins s σ H Q I h => ?_⟩
  refine PySem.W.methodCall_KW (pl := pl) (thn (he.run pins s σ H _ I h) fun u s1 ⟨x, H1, I1, rx, p, dx, fs, ex, ep, hl, q⟩ => ?_) ht
  subst ex
  obtain rfl : u = Value.ref p := rx
  refine getmeth_ok I1 ep cl hm hl ?_
  refine PySem.W.callWith_KW0 (h₀ := X.base) I1.ok.mod.kin hm.kp hall ?_ hpl
  refine thn (hkw.run pos pins _ σ H1 _ I1 q) fun ws s2 ⟨zs, H2, I2, rz, l2, q2⟩ => ⟨I2.kIn, ?_⟩
  rw [hks]
  exact run_fnN (us := [.ref p]) (vs := [.ref p]) F hr hb hx I2 (.cons rfl .nil) rz rfl l2 q2
def dMethK (C : Addr) (m : Str) (c : DSp) (pf : PF) (n : Nat) (ta : DTE) (t : DTA) : DTE := fun δ G P => ta δ G fun x G1 => (∃ ns xs, insOf G1 x = some (C, ns, xs) ∧ m ∉ ns) ∧ t δ G1 fun ds G2 => ds.length = n ∧ c (x :: pf ds) G2 P noX
theorem d_methKw {pl : Sem Bool} (he : DE X B o to) (cl : Cls X.K C) (D : DmtK X.prog X.w X.K X.mg X.base CX0 C m ps ks pf c k) (hp : PFOk pf) (hr : Room j X.A) (ha : DPK X B kws tl) (hj : k ≤ j := by decide)
    (hall : (backToKw pos (keywordEach kws X.env)).all (·.1.isSome) = true := by rfl) (hks : (backToKw pos (keywordEach kws X.env)).filterMap (·.1) = ks := by rfl)
    (hpl : ((backTo pos (starEach [] X.env)).any (·.1) || (backToKw pos (keywordEach kws X.env)).any (·.1.isNone)) = false := by rfl)
    (ht : eval (.Call (.Attribute o m apos) [] kws pos) X.env = (do
      let ov ← eval o X.env
      standAt apos.atName
      let (f, first) ← holding [ov] (getMethod ov m pl)
      callWith pos f first (backTo pos (starEach [] X.env)) (backToKw pos (keywordEach kws X.env))) := by rfl) :
    DE X B (.Call (.Attribute o m apos) [] kws pos) (dMethK C m c pf ks.length to tl) := by
  obtain ⟨f, fd, F, hm, b⟩ := D
  refine PE.imp (pe_methKw (E := fun _ _ _ => False) he cl hm F (hr.mono hj) b pass0 ha.pk hall hks hpl ht) fun σ H Q ⟨F, G, δ, P, g, s, q, k⟩ => ?_
  refine ⟨F, G, δ, _, g, s, q, fun x G1 v F1 H1 ⟨⟨ns, xs, h1, hm⟩, p1⟩ l1 g1 i1 => ?_⟩
  obtain ⟨p, dx, fs, rfl, e1, n1, r1⟩ := insOf_is g1 i1 h1
  exact ⟨p, dx, fs, rfl, e1, lookup_none (by rw [n1]; exact hm), F1, G1, δ, _, g1, s.le l1, p1, fun ds G2 vs F2 H2 ⟨hl, p2⟩ l2 g2 i2 => ⟨i2.length.trans hl, toSp_of g2 (.cons (i1.le l2) (hp.is_ i2)) p2 (k.le (l1.trans l2)) contX_no⟩⟩
def rExtD : Dt → List Dt → Gp → DK → Prop := fun x ds G P => ∃ (l : Addr) (y : Dt) (xs zs : List Dt), x = .ref l ∧ ds = [y] ∧ G l = some (.lst xs) ∧ asL G y = some zs ∧ xs.length + zs.length ≤ sizeLine ∧ P .non (gupd G l (.lst (xs ++ zs)))
theorem m_extend : DMt X B "list.extend" rExtD := ⟨_, mt_extend, fun F G H v x vs ds P Q g i1 i2 ⟨l, y, xs, zs, e1, e2, h, hy, hz, p⟩ c => by
  subst e1; subst e2
  cases i1
  cases i2 with
  | cons i2 i3 =>
    cases i3
    obtain ⟨ws, e, r⟩ := g.mlst h
    obtain ⟨b, us, rfl, e4, r4⟩ := asL_is g i2 hy
    exact ⟨l, b, ws, us, rfl, rfl, e, e4, by rw [r.length, r4.length]; exact hz, c _ _ _ _ _ p (Le.refl F) (g.write h (o := .lst (ws ++ us)) (m := .lst (xs ++ zs)) (r.append r4)) .non⟩⟩
theorem d_extend (ho : DE X B o to) (ha : DE X B a ta) (hs : starEach [a] X.env = (false, eval a X.env) :: starEach [] X.env := by rfl)
    (pe : ∀ {r : V → List V → Hp → VK → Prop} {t : TA} {to : TE}, MtR X "list.extend" r → PE X o to → PA X [a] t → PE X (.Call (.Attribute o "extend" apos) [a] [] pos) (tBM X.K "list" r to t) := by exact fun h1 h2 h3 => pe_bm PySem.F.plainAttrs_list PySem.F.slot_list_extend PySem.F.type_list_extend h1 h2 h3) :
    DE X B (.Call (.Attribute o "extend" apos) [a] [] pos) (dBM rExtD to (dCons ta dNil)) := by
  obtain ⟨r', h1, h2⟩ := (m_extend (X := X) (B := B)).ex
  exact PE.imp (pe h1 ho (da_cons ha da_nil hs)) (bm_imp h2)
/-- is not None -/
def rIsnND : DR2 := fun x y G P => y = .non ∧ P (.bl (!isNon x)) G
theorem o_isnD : DOp X B (compareOp .IsNot) rIsnND := ⟨_, op_notN, fun F G H v w x y P Q g rx ry ⟨e, p⟩ c => by
  subst e
  cases ry
  refine ⟨rfl, c _ G _ F H p (Le.refl F) g ?_⟩
  have e : decide (v = V.non) = isNon x := by cases rx <;> simp [isNon]
  rw [e]
  exact .bl _⟩
/-- the rest of a block, kept whole -/
def dKeep (t : DTS) : DTS := t
theorem dss_keep {sts : List Stmt} {t : DTS} (h : DSs X B sts t) : DSs X B sts (dKeep t) := h
end
end DL

set_option Elab.async false
set_option linter.all false
set_option maxRecDepth 100000
set_option maxHeartbeats 1000000
/-! A loop, its walked thing evaluated first. -/
namespace DL
open PySem PySem.Spec L2
def dForB (g : DTG) (tb : DTS) (D : DEnds) (δ : DSt) (ds : List Dt) (G1 : Gp) : Prop := ∃ W : Nat → DSt → Gp → Prop, W 0 δ G1 ∧ (∀ i d δ' G', ds[i]? = some d → W i δ' G' → g d δ' G' fun δ2 G2 => tb { D with nx := W (i + 1), ct := W (i + 1), bk := D.nx } δ2 G2) ∧ ∀ δ' G', W ds.length δ' G' → D.nx δ' G'
theorem dFor_eq {wi : DTI} {g : DTG} {tb : DTS} {D : DEnds} {δ : DSt} {G : Gp} : dFor wi g tb D δ G = wi δ G fun ds G1 => dForB g tb D δ ds G1 := rfl
end DL

set_option Elab.async false
set_option linter.all false
set_option maxRecDepth 100000
set_option maxHeartbeats 2000000
/-! Texts: str(n), join, split, isascii, isdigit, startswith, len, int(text). -/
namespace DL
open PySem PySem.Spec L2 PyProof.Rows
def strD (ws : List Str) : List Dt := ws.map Dt.str
theorem strD_length (ws : List Str) : (strD ws).length = ws.length := by simp [strD]
theorem isL_strs {K : PySem.W.Frag} {F : Hp} : ∀ {vs : List V} {ws : List Str}, IsL K F vs (strD ws) → vs = ws.map V.str
  | _, [], h => by cases h; rfl
  | _, x :: ws, h => by
    cases h with
    | cons a r =>
      cases a
      rw [isL_strs r]
      rfl
theorem isL_strsOf {K : PySem.W.Frag} {F : Hp} : ∀ (ws : List Str), IsL K F (ws.map V.str) (strD ws)
  | [] => .nil
  | _ :: ws => .cons (.str _) (isL_strsOf ws)
section
variable {X : Cx} {B : Hp} {o e : Expr} {to te : DTE} {apos pos : Pos}
/-- sep.join(xs) -/
def dJoin (to te : DTE) : DTE := fun δ G P => to δ G fun x G1 => ∃ a, x = .str a ∧ te δ G1 fun y G2 => ∃ ws : List Str, asL G2 y = some (strD ws) ∧ (ws.map (·.length)).sum + ws.length * a.length ≤ 16777216 ∧ P (.str (Txt.join a ws)) G2
theorem d_join (ho : DE X B o to) (he : DE X B e te) (hs : starEach [e] X.env = [(false, eval e X.env)] := by rfl) (hbase : attributeBase o "join" X.env (eval o X.env) = eval o X.env := by rfl) (hline : (apos.endLine == pos.line) = true := by rfl) :
    DE X B (.Call (.Attribute o "join" apos) [e] [] pos) (dJoin to te) := PE.imp (pe_join ho he hs hbase hline) fun σ H Q ⟨F, G, δ, P, g, s, p, c⟩ =>
  ⟨F, G, δ, _, g, s, p, fun x G1 vx F1 H1 ⟨a, ex, p1⟩ l1 g1 i1 => by
    subst ex
    cases i1
    refine ⟨⟨a, rfl⟩, F1, G1, δ, _, g1, s.le l1, p1, fun y G2 vy F2 H2 ⟨ws, h, hz, p2⟩ l2 g2 i2 => ?_⟩
    obtain ⟨q, vs, rfl, e2, r⟩ := asL_is g2 i2 h
    have ev := isL_strs r
    subst ev
    exact ⟨a, q, ws, rfl, rfl, .inl (SqL.of e2), hz, c _ G2 _ F2 H2 p2 (l1.trans l2) g2 (.str _)⟩⟩
/-- text.split(sep), laid -/
def dSplit (to te : DTE) : DTE := fun δ G P => to δ G fun x G1 => ∃ a, x = .str a ∧ te δ G1 fun y G2 => ∃ b : Str, y = .str b ∧ (b.length == 0) = false ∧ a.length + 2 ≤ sizeLine ∧ P (.lst (strD (Txt.split a b))) G2
theorem d_split (ho : DE X B o to) (he : DE X B e te) (hs : starEach [e] X.env = [(false, eval e X.env)] := by rfl) (hbase : attributeBase o "split" X.env (eval o X.env) = eval o X.env := by rfl) (hline : (apos.endLine == pos.line) = true := by rfl) :
    DE X B (.Call (.Attribute o "split" apos) [e] [] pos) (dSplit to te) := PE.imp (pe_split ho he hs hbase hline) fun σ H Q ⟨F, G, δ, P, g, s, p, c⟩ =>
  ⟨F, G, δ, _, g, s, p, fun x G1 vx F1 H1 ⟨a, ex, p1⟩ l1 g1 i1 => by
    subst ex
    cases i1
    refine ⟨⟨a, rfl⟩, F1, G1, δ, _, g1, s.le l1, p1, fun y G2 vy F2 H2 ⟨b, ey, hb, hz, p2⟩ l2 g2 i2 => ?_⟩
    subst ey
    cases i2
    refine ⟨a, b, rfl, rfl, hb, hz, fun q hq => ?_⟩
    obtain ⟨l3, g3⟩ := g2.newF hq (.lst ((Txt.split a b).map V.str))
    exact c _ G2 _ _ _ p2 ((l1.trans l2).trans l3) g3 (.lst upd_same (isL_strsOf _))⟩
def dOfS (f : Str → Bool) (to : DTE) : DTE := fun δ G P => to δ G fun x G1 => ∃ a, x = .str a ∧ P (.bl (f a)) G1
theorem d_isdigit (ho : DE X B o to) (hbase : attributeBase o "isdigit" X.env (eval o X.env) = eval o X.env := by rfl) (hline : (apos.endLine == pos.line) = true := by rfl) :
    DE X B (.Call (.Attribute o "isdigit" apos) [] [] pos) (dOfS Txt.isdigit to) := PE.imp (pe_m0 PySem.F.slot_str_isdigit PySem.F.type_str_isdigit mt_isdigit ho hbase hline) fun σ H Q ⟨F, G, δ, P, g, s, p, c⟩ =>
  ⟨F, G, δ, _, g, s, p, fun x G1 vx F1 H1 ⟨a, ex, p1⟩ l1 g1 i1 => by
    subst ex
    cases i1
    exact ⟨⟨a, rfl⟩, a, rfl, rfl, trivial, c _ G1 _ F1 H1 p1 l1 g1 (.bl _)⟩⟩
theorem d_isascii (ho : DE X B o to) (hbase : attributeBase o "isascii" X.env (eval o X.env) = eval o X.env := by rfl) (hline : (apos.endLine == pos.line) = true := by rfl) :
    DE X B (.Call (.Attribute o "isascii" apos) [] [] pos) (dOfS Txt.isascii to) := PE.imp (pe_m0 PySem.F.slot_str_isascii PySem.F.type_str_isascii mt_isascii ho hbase hline) fun σ H Q ⟨F, G, δ, P, g, s, p, c⟩ =>
  ⟨F, G, δ, _, g, s, p, fun x G1 vx F1 H1 ⟨a, ex, p1⟩ l1 g1 i1 => by
    subst ex
    cases i1
    exact ⟨⟨a, rfl⟩, a, rfl, rfl, trivial, c _ G1 _ F1 H1 p1 l1 g1 (.bl _)⟩⟩
def dStarts (to te : DTE) : DTE := fun δ G P => to δ G fun x G1 => ∃ a, x = .str a ∧ te δ G1 fun y G2 => ∃ b : Str, y = .str b ∧ P (.bl (Txt.startswith a b)) G2
theorem d_startswith (ho : DE X B o to) (he : DE X B e te) (hs : starEach [e] X.env = [(false, eval e X.env)] := by rfl) (hbase : attributeBase o "startswith" X.env (eval o X.env) = eval o X.env := by rfl) (hline : (apos.endLine == pos.line) = true := by rfl) :
    DE X B (.Call (.Attribute o "startswith" apos) [e] [] pos) (dStarts to te) := PE.imp (pe_m1 PySem.F.slot_str_startswith PySem.F.type_str_startswith mt_startswith ho he hs hbase hline) fun σ H Q ⟨F, G, δ, P, g, s, p, c⟩ =>
  ⟨F, G, δ, _, g, s, p, fun x G1 vx F1 H1 ⟨a, ex, p1⟩ l1 g1 i1 => by
    subst ex
    cases i1
    refine ⟨⟨a, rfl⟩, F1, G1, δ, _, g1, s.le l1, p1, fun y G2 vy F2 H2 ⟨b, ey, p2⟩ l2 g2 i2 => ?_⟩
    subst ey
    cases i2
    exact ⟨a, b, rfl, rfl, c _ G2 _ F2 H2 p2 (l1.trans l2) g2 (.bl _)⟩⟩
/-- str(n) -/
def rStrI : DR := fun ds G P => ∃ i : Int, ds = [.int i] ∧ i.natAbs.log2 < 1920 ∧ P (.str (toString i)) G
theorem c_str : DCall X B (.type "str") rStrI := ⟨_, call_str_int, fun F G H vs ds P Q g i ⟨n, e, hz, p⟩ c => by
  subst e
  cases i with
  | cons i1 i2 =>
    cases i2
    cases i1
    exact ⟨n, rfl, hz, c _ G _ F H p (Le.refl F) g (.str _)⟩⟩
/-- int(text) -/
def rIntS : DR := fun ds G P => ∃ (a : Str) (n : Int), ds = [.str a] ∧ PySem.intText? a = some n ∧ a.length ≤ 640 ∧ P (.int n) G
theorem c_intS : DCall X B (.type "int") rIntS := ⟨_, call_int_str, fun F G H vs ds P Q g i ⟨a, n, e, h, hz, p⟩ c => by
  subst e
  cases i with
  | cons i1 i2 =>
    cases i2
    cases i1
    exact ⟨a, n, rfl, h, hz, c _ G _ F H p (Le.refl F) g (.int _)⟩⟩
/-- len(text) -/
def rLenS : DR := fun ds G P => ∃ a : Str, ds = [.str a] ∧ a.length ≤ sizeLine ∧ P (.int (a.length : Nat)) G
theorem c_lenS : DCall X B (.builtin "len") rLenS := ⟨_, call_len_str, fun F G H vs ds P Q g i ⟨a, e, hz, p⟩ c => by
  subst e
  cases i with
  | cons i1 i2 =>
    cases i2
    cases i1
    exact ⟨a, rfl, hz, c _ G _ F H p (Le.refl F) g (.int _)⟩⟩
end
end DL
namespace V
open PySem PySem.Spec L2 DL TL
/-- a number's text -/
def numS (n : Nat) : Str := Str.ofString (toString ((n : Nat) : Int))
theorem tl_numS (n : Nat) : tl (numS n) = numL n := tl_num n
theorem numS_len (n : Nat) : (numS n).length = (numL n).length := by rw [len_tl, tl_numS]
theorem numL_dig {n c : Nat} (h : c ∈ numL n) : 48 ≤ c ∧ c ≤ 57 := numL_digits n c h
theorem uni_digit {c : Nat} (h : 48 ≤ c ∧ c ≤ 57) : Unicode.isDigit c = true := by
  have k : ∀ m : _root_.Fin 10, Unicode.isDigit (48 + m.val) = true := by decide +kernel
  have := k ⟨c - 48, by omega⟩
  simpa [show 48 + (c - 48) = c by omega] using this
theorem num_isdigit (n : Nat) : Txt.isdigit (numS n) = true := by
  unfold Txt.isdigit
  have h1 : (numS n).length > 0 := by
    rw [numS_len]
    exact List.length_pos_iff.mpr (numL_ne n)
  rw [decide_eq_true h1, Bool.true_and, ← Array.all_toList, List.all_eq_true]
  intro c hc
  exact uni_digit (numL_dig (n := n) (by rw [← tl_numS]; exact hc))
theorem num_isascii (n : Nat) : Txt.isascii (numS n) = true := by
  unfold Txt.isascii
  rw [← Array.all_toList, List.all_eq_true]
  intro c hc
  have := numL_dig (n := n) (c := c) (by rw [← tl_numS]; exact hc)
  rw [decide_eq_true_eq]
  omega
theorem numL_head : ∀ {n : Nat}, 0 < n → (numL n).head? ≠ some 48 := by
  intro n
  induction n using Nat.strongRecOn with
  | _ n ih =>
    intro h0
    by_cases h : n < 10
    · rw [numL_lt h]
      intro e
      have := Option.some.inj e
      omega
    · rw [numL_step (by omega), List.head?_append]
      have := ih (n / 10) (by omega) (by omega)
      cases e : (numL (n / 10)).head? with
      | none => exact absurd (List.head?_eq_none_iff.mp e) (numL_ne _)
      | some c =>
        rw [e] at this
        exact this
theorem num_zero : numS 0 = "0" := by decide +kernel
theorem num_start {n : Nat} (h : 0 < n) : Txt.startswith (numS n) "0" = false := by
  unfold Txt.startswith
  rw [Bool.and_eq_false_iff]
  right
  unfold Builtin.Str.subAt
  rw [beq_eq_false_iff_ne]
  intro e
  have e2 := congrArg Array.toList e
  have h3 : (numS n).cps.toList = numL n := tl_numS n
  have h4 : (Str.ofString "0").cps.toList = [48] := by decide +kernel
  have h5 : (Str.ofString "0").length = 1 := by decide +kernel
  rw [Array.toList_extract, h3, h4, h5] at e2
  refine numL_head h ?_
  cases hl : numL n with
  | nil => exact absurd hl (numL_ne n)
  | cons c r =>
    rw [hl] at e2
    simp at e2
    rw [e2]
    rfl
theorem num_ne {n : Nat} (h : 0 < n) : numS n ≠ "0" := fun e => by
  have h3 : tl (numS n) = numL n := tl_numS n
  rw [e] at h3
  have h4 : tl (Str.ofString "0") = [48] := by decide +kernel
  rw [h4] at h3
  exact numL_head h (by rw [← h3]; rfl)
theorem num_int {n : Nat} (h : n < 10 ^ 9) : PySem.intText? (numS n) = some (n : Int) := int_num (Nat.le_trans (numL_len (k := 9) (by decide) h) (by decide))
theorem num_len9 {n : Nat} (h : n < 10 ^ 9) : (numS n).length ≤ 9 := by
  rw [numS_len]
  exact numL_len (by decide) h
/-- numbers' texts joined by a blank, split -/
theorem nums_back {ns : List Nat} (h : ns ≠ []) : Txt.split (Txt.join " " (ns.map numS)) " " = ns.map numS := by
  refine split_join (y := " ") (s := 32) (S := []) (by decide +kernel) (by decide +kernel) (fun e => h (List.map_eq_nil_iff.mp e)) fun p hp => ?_
  obtain ⟨n, _, rfl⟩ := List.mem_map.mp hp
  rw [tl_numS]
  exact numL_free (.inl (by decide))
end V

set_option Elab.async false
set_option linter.all false
set_option maxRecDepth 100000
set_option maxHeartbeats 4000000
/-! {x!r} of tuples of tuples of numbers: some bounded text. -/
namespace RSX
open PySem PySem.Spec PyProof.Rows
/-- x's text is some one, of at most m signs -/
def RSm (prog : Program) (w : World) (h : Heap) (d : Nat) (x : Value) (m : Nat) : Prop :=
  ∀ b : Nat, b + m ≤ sizeLine → ∀ (A : Around) (E : Value → Shared → Prop) (s : Shared) (Q : Str → Shared → Prop), s.heap = h → A.units + d < cLine → (∀ (t : Str) tk, t.length ≤ m → Q t { s with toks := tk }) → wpAny (model prog w) A (pyReprUnder b x) Q E s
section
variable {prog : Program} {w : World} {A : Around} {E : Value → Shared → Prop} {s : Shared} {d m : Nat}
theorem RSm.int {h : Heap} {a : Int} {t : Tok} (ha : a.natAbs.log2 < 1920) : RSm prog w h d (.int a t) 1921 := fun b hb A E s Q _ _ q => by
  have hl : (Str.ofString (toString a)).length ≤ 1921 := PyProof.Rows.int_text_len_1921 ha
  exact ReprIs.int t ha b (by omega) A E s Q fun tk => q _ tk hl
theorem RSm.mono {h : Heap} {x : Value} {m' d' : Nat} (r : RSm prog w h d x m) (hm : m ≤ m') (hd : d ≤ d') : RSm prog w h d' x m' := fun b hb A E s Q hs hu q => r b (by omega) A E s Q hs (by omega) fun t tk ht => q t tk (Nat.le_trans ht hm)
theorem piled_le : ∀ {ts : List Str} {m : Nat}, (∀ t ∈ ts, t.length ≤ m) → piled ts ≤ ts.length * (m + 2)
  | [], _, _ => by simp [piled]
  | t :: ts, m, h => by
    have h1 := h t List.mem_cons_self
    have h2 := piled_le (ts := ts) fun u hu => h u (List.mem_cons_of_mem _ hu)
    rw [piled_cons, List.length_cons, Nat.add_mul]
    omega
theorem fold_sm {h : Heap} (hu : A.units + d < cLine) : ∀ (l : List Value) (acc : Array Str) (n : Nat) (s : Shared) (Q : (Array Str × Nat) → Shared → Prop), (∀ x ∈ l, RSm prog w h d x m) → s.heap = h → n + l.length * (m + 2) ≤ sizeLine →
    (∀ (ts : List Str) n' tk, ts.length = l.length → (∀ t ∈ ts, t.length ≤ m) → Q ⟨acc ++ ts.toArray, n'⟩ { s with toks := tk }) → wpAny (model prog w) A (forIn l (⟨acc, n⟩ : (Array Str × Nat)) tupBody) Q E s := by
  intro l
  induction l with
  | nil =>
    intro acc n s Q hT hs hn q
    have h0 := q [] n s.toks rfl (by simp)
    simp only [List.forIn_nil]
    exact wpAny_pure (by simpa using h0)
  | cons x l ih =>
    intro acc n s Q hT hs hn q
    rw [List.length_cons, Nat.add_mul] at hn
    rw [List.forIn_cons]
    refine wpAny_bind (wpAny_bind (hT x List.mem_cons_self (n + 1) (by omega) _ _ _ _ hs hu fun t tk ht => wpAny_pure ?_))
    refine ih (acc.push t) (n + (t.length + 2)) _ Q (fun y hy => hT y (List.mem_cons_of_mem _ hy)) hs (by omega) fun ts n' tk' hl hts => ?_
    have h1 := q (t :: ts) n' tk' (by rw [List.length_cons, List.length_cons, hl]) (fun u hu => by
      rcases List.mem_cons.mp hu with rfl | hu
      · exact ht
      · exact hts u hu)
    simpa using h1
theorem tupAt_sm {a : Addr} {o : Obj} {items : Array Value} {n base : Nat} {Q : Fin → Shared → Prop} (ha : s.heap.get? a = some o) (hd : o.data = .seq items n) (hT : ∀ x ∈ items.toList, RSm prog w s.heap d x m) (hu : A.units + d < cLine) (hb : base + (items.size * (m + 2) + 5) ≤ sizeLine)
    (q : ∀ (t : Str) (u tk : Tok), t.length ≤ items.size * (m + 2) + 5 → Q (.done (.ret (.str t u))) { s with toks := tk }) : wpAny (model prog w) A (Builtin.tupleReprAt base ⟨[.ref a], []⟩) Q E s := by
  rw [tuple_repr_tree]
  refine wpAny_bind (fmt_underWay fun b => ?_)
  cases b with
  | true =>
    refine PySem.W.KFB.if_so rfl ?_
    refine wpAny_bind (wpAny_rule ?_)
    refine wpAny_bind (wpAny_mkStr (wpAny_pure ?_) (by decide +kernel))
    exact q "(...)" _ _ (Nat.le_trans fmt_way (Nat.le_add_left _ _))
  | false =>
    refine PySem.W.KFB.if_not rfl ?_
    show wpAny _ _ (tupleReprRest base (.ref a)) _ _ s
    unfold tupleReprRest Builtin.Tuple.tupleItemsOf
    refine wpAny_bind (wpAny_bind (wpAny_seqItems ha hd (wpAny_pure ?_)))
    rw [← Array.forIn_toList]
    refine wpAny_bind (fold_sm (m := m) hu _ _ _ _ _ hT rfl (by simp only [Array.length_toList]; omega) fun ts n' tk hl hts => ?_)
    have hl' : ts.length = items.size := by simpa using hl
    have h1 := fmt_text ts
    have h2 := piled_le hts
    rw [hl'] at h2
    have h3 : (tupleText ts).length ≤ items.size * (m + 2) + 5 := by omega
    refine wpAny_bind (wpAny_mkStr (wpAny_pure ?_) (by simpa [tupleText, hl'] using (show (tupleText ts).length ≤ sizeLine by omega)))
    have h4 := q (tupleText ts) tk (tk + 1) h3
    simpa [tupleText, hl'] using h4
/-- an inner tuple -/
theorem RSm.tup {a : Addr} {o : Obj} {items : Array Value} {n : Nat} {h : Heap} (ha : h.get? a = some o) (hc : o.cls = .type "tuple") (hd : o.data = .seq items n) (hT : ∀ x ∈ items.toList, RSm prog w h d x m) : RSm prog w h (d + 1) (.ref a) (items.size * (m + 2) + 5) := by
  intro b hb A E s Q hs hu q
  subst hs
  refine wpAny_pyReprUnder_ref (by omega) (wpAny_pyReprObjUnder_twin (twin := "tuple.__repr__.under") ⟨o, ha, hc⟩ F.slot_tuple_repr rfl (by omega) ?_)
  refine call_twin_own (F.quiet_tuple_repr_under _) F.entry_tuple_repr_under F.check_tuple_repr_under ⟨o, ha, hc⟩ F.slot_tuple_repr (F.args_tuple_repr_1 _) (wpOwn_of_wpAny ?_)
  refine tupAt_sm (d := d) ha hd hT ?_ hb fun t u tk ht => ⟨⟨_, _, rfl⟩, _, _, rfl, q t tk ht⟩
  rw [units_under_tuple_repr_under]
  omega
/-- a tuple, outermost -/
theorem repr_sm {a : Addr} {o : Obj} {items : Array Value} {n : Nat} {Q : Value → Shared → Prop} (ha : s.heap.get? a = some o) (hc : o.cls = .type "tuple") (hd : o.data = .seq items n) (hT : ∀ x ∈ items.toList, RSm prog w s.heap d x m) (hu : A.units + (d + 1) < cLine) (hb : items.size * (m + 2) + 5 ≤ sizeLine)
    (q : ∀ (t : Str) (u tk : Tok), t.length ≤ items.size * (m + 2) + 5 → Q (.str t u) { s with toks := tk }) : wpAny (model prog w) A (pyReprObj (.ref a)) Q E s := by
  refine wpAny_pyReprObj_slot (by omega) ⟨o, ha, hc⟩ F.slot_tuple_repr ?_
  refine wpAny_call (codeAny_call_builtin_own (Code.quiet_builtin _ (by decide +kernel)) F.entry_tuple_repr (F.slot_tuple_repr.check _ _ _ _ _ _ _ _ ⟨o, ha, hc⟩ (F.args_tuple_repr_1 _) (wpOwn_of_wpAny ?_)))
  refine tupAt_sm (d := d) (base := 0) ha hd hT ?_ (by omega) fun t u tk ht => ⟨t, u, rfl, q t u tk ht⟩
  rw [units_under_tuple_repr]
  omega
end
end RSX

set_option Elab.async false
set_option linter.all false
set_option maxRecDepth 100000
set_option maxHeartbeats 4000000
/-! An own exception class over ValueError: its __init__ says super().__init__(f"..{what!r}") and keeps what. -/
namespace DL
open PySem PySem.Spec L2
section
open PySem.W PySem.Calls PyProof.Rows
variable {prog : Program} {w : World} {A : Around} {E : Value → Shared → Prop} {h : Heap} {g : Array GenState} {d : Drawn} {t : Nat} {os : OsState}
variable {nm q : Str} {C N : Addr} {bs bm : List Value} {hdct : Bool} {sn : List Str} {sub : List Value} {ab : Bool} {col : Option Bool} {dd : Option Addr} {k0 k1 k2 k3 k5 : Option Value}
theorem call_mwVE {u e t0 : Addr} {rest : List Value} {Q : Value → Shared → Prop} (hbm : PySem.HandSPX.refsVE bm = true)
    (hC : h.get? C = some (excClassObj nm q C N bs bm hdct sn sub ab col dd k0 k1 k2 k3 k5 "ValueError.__new__")) (he : h.get? e = some (HandSPX.excO C t0)) (hu : h.get? u = some (kxs_mw "ValueError.__init__" e)) (hrest : rest.length ≤ sizeLine)
    (hq : ∀ h' t1, (∀ b o, b ≠ e → h.get? b = some o → h'.get? b = some o) → h'.get? e = some (HandSPX.excO C t1) → Q .none ⟨h', g, d, t, os⟩) :
    wpAny (model prog w) A (call (.ref u) rest) Q E ⟨h, g, d, t, os⟩ := by
  refine wpAny_call (codeAny_of_tree ?_)
  show wpAny _ A.in1 (callAny (.ref u) ⟨rest, []⟩) _ _ _
  simp only [callAny]
  refine wpAny_bind (wpAny_load hu ?_)
  simp only [kxs_mw, show (Value.type "method-wrapper" == Value.type "method" || Value.type "method-wrapper" == Value.type "builtin_function_or_method" || Value.type "method-wrapper" == Value.type "method-wrapper") = true by decide, if_true]
  refine W.KFB.if_so (by decide) ?_
  refine wpAny_bind (check_bound_init F.excBase_ValueError.toExcCallFacts hC he rfl ?_)
  refine wpAny_bind (wpAny_pure (wpAny_pure ?_))
  refine ⟨Code.quiet_builtin _ (by decide +kernel), codeAny_builtin F.excBase_ValueError.initEntry ?_⟩
  rw [Around.under_plainId F.excBase_ValueError.init.plain _]
  wp_walk
  refine hq _ h.objs.size (fun b o hb ho => ?_) ?_
  · rw [Heap.get?_update_other _ _ (Ne.symm hb)]
    exact Heap.get?_push_of_some _ ho
  · rw [Heap.get?_update_self _ (Heap.get?_push_of_some _ he) rfl]
    rfl
end
/-- a number, or a tuple of few numbers, of bounded length -/
def Rp1 (H : Hp) (x : V) : Prop := (∃ i : Int, x = .int i ∧ i.natAbs.log2 < 1920) ∨ ∃ (b : Addr) (ys : List V), x = .ref b ∧ H b = some (.tup ys) ∧ ys.length ≤ 10 ∧ ∀ y ∈ ys, ∃ i : Int, y = .int i ∧ i.natAbs.log2 < 1920
/-- what has a text of bounded length -/
inductive RpV (H : Hp) : V → Prop where
  | int (i : Int) (h : i.natAbs.log2 < 1920) : RpV H (.int i)
  | non : RpV H .non
  | str (y : Str) (h : (reprText y).length ≤ 1000000) : RpV H (.str y)
  | tup {a : Addr} {xs : List V} (e : H a = some (.tup xs)) (hl : xs.length ≤ 10) (hx : ∀ x ∈ xs, Rp1 H x) : RpV H (.ref a)
theorem RpV.mono {H H' : Hp} (h : ∀ b ys, H b = some (.tup ys) → H' b = some (.tup ys)) {v : V} (r : RpV H v) : RpV H' v := by
  cases r with
  | int i h => exact .int i h
  | non => exact .non
  | str y h => exact .str y h
  | tup e hl hx => exact .tup (h _ _ e) hl fun x hxx => (hx x hxx).elim .inl fun ⟨b, ys, e1, e2, r⟩ => .inr ⟨b, ys, e1, h _ _ e2, r⟩
/-- {x!r}: some text -/
def tFmtX (te : TE) : TE := fun σ H Q => te σ H fun x H1 => RpV H1 x ∧ ∀ y : Str, y.length ≤ 1000000 → Q (.str y) H1
theorem sm_ints {prog : Program} {w : World} {h : Heap} {xs : List V} {its : List Value} (r : Vals xs its) (hx : ∀ y ∈ xs, ∃ i : Int, y = .int i ∧ i.natAbs.log2 < 1920) : ∀ x ∈ its, RSX.RSm prog w h 0 x 1921 := by
  intro x hxx
  induction r with
  | nil => cases hxx
  | cons r1 r ih =>
    rcases List.mem_cons.mp hxx with rfl | hxx
    · obtain ⟨i, rfl, hi⟩ := hx _ List.mem_cons_self
      obtain ⟨t, rfl⟩ := r1
      exact .int hi
    · exact ih (fun y hy => hx y (List.mem_cons_of_mem _ hy)) hxx
theorem sm_rp1 {P : Program} {w : World} {H : Hp} {h : Heap} (hok : HOk P w H h) {xs : List V} {its : List Value} (r : Vals xs its) (hx : ∀ y ∈ xs, Rp1 H y) : ∀ x ∈ its, RSX.RSm P w h 1 x 20000 := by
  intro x hxx
  induction r with
  | nil => cases hxx
  | cons r1 r ih =>
    rcases List.mem_cons.mp hxx with rfl | hxx
    · rcases hx _ List.mem_cons_self with ⟨i, rfl, hi⟩ | ⟨b, ys, rfl, e, hl, hy⟩
      · obtain ⟨t, rfl⟩ := r1
        exact (RSX.RSm.int (d := 0) hi).mono (by decide) (by decide)
      · obtain rfl := r1
        obtain ⟨_, its2, rv, o, h1, h2, n, h3⟩ := (show ObjOk P w H h b (.tup ys) from hok b _ e)
        have hz : its2.toArray.size ≤ 10 := by rw [List.size_toArray, ← rv.length]; exact hl
        refine (RSX.RSm.tup (d := 0) (m := 1921) h1 h2 h3 (fun x hx => sm_ints rv hy x (by simpa using hx))).mono ?_ (Nat.le_refl _)
        have := Nat.mul_le_mul_right 1923 hz
        omega
    · exact ih (fun y hy => hx y (List.mem_cons_of_mem _ hy)) hxx
theorem pe_fmtX {X : Cx} {e : Expr} {te : TE} {pos : Pos} (hu : X.A.units + 64 < cLine) (he : PE X e te) : PE X (.FormattedValue e 114 none pos) (tFmtX te) := by
  refine ⟨fun pins s σ H Q I h => ?_⟩
  refine wpAny_FormattedValue_repr (thn (he.run pins s σ H _ I h) fun v s1 hv => ?_)
  obtain ⟨x, H1, I1, r1, rp, q⟩ := hv
  have small : (1000000 : Nat) ≤ sizeLine := by rw [sizeLine_eq]; decide
  cases rp with
  | int i hz =>
    obtain ⟨t, rfl⟩ := (show ∃ t, v = Value.int i t from r1)
    have hl : (Str.ofString (toString i)).length ≤ 1000000 := Nat.le_trans (PyProof.Rows.int_text_len_1921 hz) (by decide)
    exact pyReprObj_int hz (wpAny_formatField_str ⟨.str (toString i), H1, I1.tok _, ⟨_, rfl⟩, q _ hl⟩ ⟨.str (toString i), H1, I1.tok _, ⟨_, rfl⟩, q _ hl⟩ (Nat.le_trans hl small))
  | non =>
    obtain rfl : v = Value.none := r1
    have hl : (("None" : String) : Str).length ≤ 1000000 := by decide
    exact pyReprObj_none (wpAny_formatField_str ⟨.str ("None" : String), H1, I1.tok _, ⟨_, rfl⟩, q _ hl⟩ ⟨.str ("None" : String), H1, I1.tok _, ⟨_, rfl⟩, q _ hl⟩ (Nat.le_trans hl small))
  | str y hz =>
    obtain ⟨t, rfl⟩ := (show ∃ t, v = Value.str y t from r1)
    exact pyReprObj_str (wpAny_formatField_str ⟨.str (reprText y), H1, I1.tok _, ⟨_, rfl⟩, q _ hz⟩ ⟨.str (reprText y), H1, I1.tok _, ⟨_, rfl⟩, q _ hz⟩ (Nat.le_trans hz small)) (Nat.le_trans hz small)
  | @tup a xs e hl hx =>
    obtain rfl : v = Value.ref a := r1
    obtain ⟨_, its, rv, o, h1, h2, n, h3⟩ := (show ObjOk X.prog X.w H1 s1.heap a (.tup xs) from I1.hok a _ e)
    have hz : its.toArray.size ≤ 10 := by rw [List.size_toArray, ← rv.length]; exact hl
    have hz2 := Nat.mul_le_mul_right 20002 hz
    refine RSX.repr_sm (d := 1) (m := 20000) h1 h2 h3 (fun x hx' => sm_rp1 I1.hok rv hx x (by simpa using hx')) (by omega) (by omega) fun t u tk ht => ?_
    have hl : t.length ≤ 1000000 := by omega
    exact wpAny_formatField_str ⟨.str t, H1, I1.tok _, ⟨_, rfl⟩, q _ hl⟩ ⟨.str t, H1, I1.tok _, ⟨_, rfl⟩, q _ hl⟩ (Nat.le_trans hl small)
/-- the promise of such an __init__ -/
def spExc (C : Addr) : Sp := fun vs H Q _ => ∃ (a : Addr) (y : V), vs = [.ref a, y] ∧ H a = some (exo a C none) ∧ RpV H y ∧ ∀ d, H d = none → d ≠ a → Q .non (upd (upd H d (exd d [("what", y)])) a (exo a C (some d)))
abbrev excBody (t : Str) (p0 p1 p2 p3 p4 p5 p6 p7 p8 p9 p10 p11 p12 : Pos) (j : Nat) : List Stmt :=
  [.Expr (.Call (.Attribute (.Call (.Name "super" p0) [] [] p1) "__init__" p2) [.JoinedStr [.Constant (.str t) j p3, .FormattedValue (.Name "what" p4) 114 none p5] p6] [] p7) p8, .Assign [.Attribute (.Name "self" p9) "what" p10] (.Name "what" p11) p12]
/-- what the written part says of such a class and its __init__ -/
structure ExcI (P : Program) (K : PySem.W.Frag) (C f cc cda : Addr) (qual : Str) (st : Stmt) : Prop where
  ox : OexC K C
  fn : ∃ (oc : Value) (od : Option Addr) (dV kV doc pm : Value) (an : Option Addr) (ct : Value) (osl : Array (Option Value)), K.lookup f = some ⟨oc, od, .func (PySem.W.ksFn "__init__" qual (defArgs st) (defBody st) (defScope st) dV kV doc pm an (.ref cda) ct cc), osl⟩
  cd : PySem.W.codeIn K (.ref cda) qual = true
  co : ∃ (ccl : Value) (cdd : Option Addr) (vs : Array Value) (ccs : Array (Option Value)) (file : Str) (tf : Tok), K.lookup cda = some ⟨ccl, cdd, .fields vs, ccs⟩ ∧ vs[2]? = some (.str file tf) ∧ ((P.main.file : Str) == file) = true
  ce : ∃ (cl : Value) (cld : Option Addr) (csl : Array (Option Value)), K.lookup cc = some ⟨cl, cld, .cell (some (.ref C)), csl⟩
  su : PySem.W.ks_superIn K C C "__init__" = some (some (.builtin "ValueError.__init__"))
  ve : PySem.W.subIn K (.ref C) (.type "ValueError") = some true
  me : PySem.W.mroIn K C (.ref C) = some true
  thp : PySem.W.nsIn K PySem.cStatics "thirdparty.any" = some none
  what : PySem.W.findIn K (.ref C) "what" = some none
  top : (P.main.scope.names.lookup ("super" : Str)).isSome = false
/-- the scope of such a def -/
def excScB (sc : Scope) : Bool := NdefX.nscB ["self", "what", "__class__"] ["self", "what"] ["__class__"] sc && decide (sc.names.lookup ("super" : Str) = some .globalImplicit)

theorem lk1 {α : Type} {k y : Str} {v c : α} (e : List.lookup y [(k, v)] = some c) : y = k ∧ c = v := by
  rw [List.lookup_cons] at e
  cases h : (y == k) with
  | true => rw [h] at e; cases e; exact ⟨beq_iff_eq.mp h, rfl⟩
  | false => rw [h] at e; cases e
/-- what was tracked anew may be forgotten -/
theorem inv_forget {X : Cx} {pins : List (Addr × Obj)} {σ : L2.St} {H : Hp} {s : Shared} {u : Addr} {φ : Heap → Prop} (I : Inv X pins σ (upd H u (.ext φ)) s) (hu : H u = none) (h0 : X.H_0 u = none) : Inv X pins σ H s := by
  have ne : ∀ {b : Addr} {o : HO}, H b = some o → b ≠ u := fun {b o} e z => by rw [z, hu] at e; cases e
  have up : ∀ {b : Addr} {o : HO}, H b = some o → upd H u (.ext φ) b = some o := fun {b o} e => by rw [upd_ne (ne e)]; exact e
  have dn : ∀ {b : Addr}, upd H u (.ext φ) b = none → H b = none := fun {b} e => by
    by_cases q : b = u
    · rw [q]; exact hu
    · rw [upd_ne q] at e; exact e
  have back : ∀ {b : Addr} {o : HO}, upd H u (.ext φ) b = some o → (∀ ψ, o ≠ .ext ψ) → H b = some o := fun {b o} e n => by
    by_cases q : b = u
    · rw [q, upd_same] at e; exact absurd (Option.some.inj e).symm (n φ)
    · rw [upd_ne q] at e; exact e
  refine ⟨I.ok, I.os, I.bare, ⟨I.base.keep, I.base.slot, fun b o e n hx => dn (I.base.free b o e n hx), I.base.there, fun b xs e => back (I.base.tups b xs e) (fun _ z => nomatch z), fun b o v e => back (I.base.frzs b o v e) (fun _ z => nomatch z), fun b ps e => ?_⟩,
    I.loc, I.cell, dn I.free, fun x c e => dn (I.freeC x c e), fun p hp => ?_, fun b ob e => ?_, I.len⟩
  · obtain ⟨more, e1⟩ := I.base.tbls b ps e
    exact ⟨more, back e1 (fun _ z => nomatch z)⟩
  · obtain ⟨e, n, r⟩ := I.pin p hp
    exact ⟨e, dn n, r⟩
  · exact (I.hok b ob (up e)).stay (fun c v _ q => q) (fun c q => back q (fun _ z => nomatch z)) fun c xs q => back q (fun _ z => nomatch z)
abbrev xEnv (qual : Str) (st : Stmt) (cc cda f L : Addr) : Env := NdefX.envF ⟨"__init__", qual, defArgs st, defBody st, defScope st, [("__class__", cc)], cda⟩ f L
/-- what is seen of the text alone -/
structure ExcE (qual : Str) (st : Stmt) (t : Str) (p0 p1 p2 p3 p4 p5 p6 p7 p8 p9 p10 p11 p12 : Pos) (j : Nat) : Prop where
  hb : defBody st = excBody t p0 p1 p2 p3 p4 p5 p6 p7 p8 p9 p10 p11 p12 j
  ht : t.length ≤ 1000
  hsc : excScB (defScope st) = true
  hpar : ((defArgs st).posonlyargs ++ (defArgs st).args).head?.map (·.arg) = some ("self" : Str)
  hi : ∀ cc cda f L, interactive (xEnv qual st cc cda f L) = false
  hs : ∀ cc cda f L, swapsWith (.Call (.Attribute (.Call (.Name "super" p0) [] [] p1) "__init__" p2) [.JoinedStr [.Constant (.str t) j p3, .FormattedValue (.Name "what" p4) 114 none p5] p6] [] p7) none p8.line (xEnv qual st cc cda f L) = pure false
  he : ∀ cc cda f L, ∃ pl : Sem Bool, eval (.Call (.Attribute (.Call (.Name "super" p0) [] [] p1) "__init__" p2) [.JoinedStr [.Constant (.str t) j p3, .FormattedValue (.Name "what" p4) 114 none p5] p6] [] p7) (xEnv qual st cc cda f L) = (do
      let ov ← attributeBase (.Call (.Name "super" p0) [] [] p1) "__init__" (xEnv qual st cc cda f L) (eval (.Call (.Name "super" p0) [] [] p1) (xEnv qual st cc cda f L))
      standAt p2.atName
      let (g, first) ← holding [ov] (getMethod ov "__init__" pl)
      callWith p7 g first (backTo p7 (starEach [.JoinedStr [.Constant (.str t) j p3, .FormattedValue (.Name "what" p4) 114 none p5] p6] (xEnv qual st cc cda f L))) [])
  s2 : ∀ cc cda f L, swapsWith (.Name "what" p11) (some (.Attribute (.Name "self" p9) "what" p10)) p12.line (xEnv qual st cc cda f L) = pure false
section
variable {P : Program} {w : World} {K : PySem.W.Frag} {mg : Str → Option Value} {base : Heap} {C f cc cda : Addr} {qual : Str} {st : Stmt}
open PySem.W PySem.Calls PyProof.Rows NdefX in
theorem exc_init {t : Str} {p0 p1 p2 p3 p4 p5 p6 p7 p8 p9 p10 p11 p12 : Pos} {j : Nat} {oc : Value} {od : Option Addr} {dV kV doc pm : Value} {an : Option Addr} {ct : Value} {osl : Array (Option Value)} (T : ExcI P K C f cc cda qual st)
    (hf : K.lookup f = some ⟨oc, od, .func (ksFn "__init__" qual (defArgs st) (defBody st) (defScope st) dV kV doc pm an (.ref cda) ct cc), osl⟩) (hm : mg "super" = none) (X0 : ExcE qual st t p0 p1 p2 p3 p4 p5 p6 p7 p8 p9 p10 p11 p12 j) : FnOk P w K mg base CX0 1 f (ksFn "__init__" qual (defArgs st) (defBody st) (defScope st) dV kV doc pm an (.ref cda) ct cc) ["self", "what"] (spExc C) := by
  refine ⟨fun vs H Q E ⟨a, y, e, _⟩ => by rw [e]; rfl, fun A outer s H args us vs Q E hr e0 hbd r ⟨a, y, ev, ea, rp, hq⟩ => ?_⟩
  subst ev
  have hsc := X0.hsc
  have hpar := X0.hpar
  have hbody := X0.hb
  obtain ⟨hs1, hs2⟩ := Bool.and_eq_true_iff.mp hsc
  have S := nscope_by hs1
  have hks := of_decide_eq_true hs2
  have kb : ∀ b o, K.lookup b = some o → s.heap.get? b = some o := fun b o e => (e0.bs b o (e0.mod.kin b o e)).1
  have kIn : K.In s.heap := kb
  have lim : s.heap.NoLimit := e0.mod.nolimit.keeps fun b o e => (e0.bs b o e).1
  obtain ⟨ccl, cdd, vsC, ccs, file, tf, hco, hvs, hfile⟩ := T.co
  obtain ⟨cl, cld, csl, hce⟩ := T.ce
  obtain ⟨nm, q, N, bs, bm, sn, sub, ab, col, dd, k0, k1, k2, k3, k5, hC, hbm⟩ := T.ox.cls
  obtain ⟨ar, har, hself⟩ : ∃ ar, ((defArgs st).posonlyargs ++ (defArgs st).args).head? = some ar ∧ ar.arg = ("self" : Str) := by
    cases e : ((defArgs st).posonlyargs ++ (defArgs st).args).head? with
    | none => rw [e] at hpar; cases hpar
    | some ar => rw [e] at hpar; exact ⟨ar, rfl, Option.some.inj hpar⟩
  have hHcc : H cc = none := (e0.bs cc _ (e0.mod.kin _ _ hce)).2
  have CA : CellsAt [("__class__", cc)] ["__class__"] [some (V.ref C)] s.heap H := by
    refine ⟨rfl, fun y c e => ?_, fun x y c e1 e2 => ?_, fun i y e => ?_⟩
    · obtain ⟨_, rfl⟩ := lk1 e
      exact ⟨hHcc, _, _, kb _ _ hce, rfl⟩
    · exact (lk1 e1).1.trans (lk1 e2).1.symm
    · cases i with
      | zero =>
        cases e
        exact ⟨cc, rfl, fun v hv => by cases hv; exact ⟨.ref C, rfl, _, kb _ _ hce, rfl⟩⟩
      | succ i => simp at e
  have hus : ∃ uy, us = [.ref a, uy] ∧ RelV y uy := by
    cases r with
    | cons r1 r =>
      cases r with
      | cons r2 r =>
        cases r
        cases r1
        exact ⟨_, rfl, r2⟩
  obtain ⟨uy, rfl, ry⟩ := hus
  refine ks_codeAny_call_defAt (fd := ksFn "__init__" qual (defArgs st) (defBody st) (defScope st) dV kV doc pm an (.ref cda) ct cc) (body := defBody st) (binds := (["self", "what"] : List Str).zip [.ref a, uy]) hr.depth (kb _ _ hf) rfl lim (codeRec_of kIn T.cd) rfl hbd S.nocell (fun x hx => ?_) (fun h₁ hns kp => ?_) S.co S.gen S.kind
  · exact S.par x.1 (List.of_mem_zip hx).1
  have I : Inv (ncx CX0 P w K mg base ["self", "what", "__class__"] ⟨"__init__", qual, defArgs st, defBody st, defScope st, [("__class__", cc)], cda⟩ f A outer s H E) [] (startF ["self", "what", "__class__"] [.ref a, y] [some (V.ref C)]) H { s with heap := h₁, toks := s.toks + ((["self", "what"] : List Str).zip [.ref a, uy]).length } := inv_startN S hr.hd e0 rfl r CA hns kp
  have hks2 : (xEnv qual st cc cda f s.heap.objs.size).kindOf ("super" : Str) = some .globalImplicit := hks
  have hkc : (xEnv qual st cc cda f s.heap.objs.size).kindOf ("__class__" : Str) = some .free := S.frk _ (by simp)
  have hka : (xEnv qual st cc cda f s.heap.objs.size).kindOf ("self" : Str) = some .local := S.par _ (by simp)
  have hkw : (xEnv qual st cc cda f s.heap.objs.size).kindOf ("what" : Str) = some .local := S.par _ (by simp)
  show _root_.PySem.wpAt (model P w) (A.deeper (xEnv qual st cc cda f s.heap.objs.size)) (.func (defBody st) (xEnv qual st cc cda f s.heap.objs.size)) (execs (defBody st) (xEnv qual st cc cda f s.heap.objs.size)) _ _ _
  rw [show execs (defBody st) (xEnv qual st cc cda f s.heap.objs.size) = execs (excBody t p0 p1 p2 p3 p4 p5 p6 p7 p8 p9 p10 p11 p12 j) (xEnv qual st cc cda f s.heap.objs.size) from by rw [hbody]]
  obtain ⟨pl, hcall⟩ := X0.he cc cda f s.heap.objs.size
  refine ks_wpAt_execs_cons (ks_wpAt_Expr_any (ks_wpAt_MethodCall (pl := pl) (ks_wpAt_super_base (f := f) (cc := cda) hks2 hkc rfl rfl (kp _ _ (kb _ _ hf)) rfl har rfl (kp _ _ (kb _ _ hco)) rfl hvs hfile T.top ?_) hcall) (X0.hi _ _ _ _) (X0.hs _ _ _ _))
  -- the names super, __class__, self
  have hcls : PySem.W.clsIn K C = some { name := nm, bases := bs, mro := .ref C :: bm, ns := N, qualname := q, hasDict := true, slotNames := sn, subclasses := sub, abstract := ab, collection := col, hasDel := false } := by unfold PySem.W.clsIn; rw [hC] <;> rfl
  obtain ⟨mb, hb1, hb2⟩ := I.mod.blt
  refine ks_loadName_global S.kind hks2 (loadGlobal_builtin (I.mod.glob.keeps I.bk) hm (hb1.keeps I.bk) ((hb2 "super" (by decide)).trans (by decide +kernel)) ⟨rfl, ?_⟩)
  refine wpAny_loadName_free S.kind hkc rfl ⟨_, kp _ _ (kb _ _ hce), rfl⟩ ?_
  rw [hself]
  refine wpAny_loadName_local S.kind hka hns rfl ?_
  refine ks_wpAny_isType_cls (kp _ _ (kb _ _ hC)) rfl ⟨rfl, ?_⟩
  obtain ⟨t1, he⟩ := exo_at I.hok ea
  refine ks_wpAny_call_super (kp _ _ (kb _ _ hC)) rfl he rfl (fun c z => nomatch z) (looks_mroIn (kIn.keeps kp) T.me) (fun h' e k => ?_)
  have hsu : alongIn K "__init__" (((Value.ref C :: bm).dropWhile (· != .ref C)).drop 1) = some (some (.builtin "ValueError.__init__")) := by
    have z := T.su
    unfold ks_superIn at z
    rw [hcls] at z
    exact z
  have aC : a ≠ C := fun z => by
    have z1 := he
    rw [z, kp _ _ (kb _ _ hC)] at z1
    have z2 := congrArg Obj.data (Option.some.inj z1)
    cases z2
  have hI2 : PySem.W.InstAt h₁ a { cls := .ref C, dict := none, data := .fields #[.ref t1, .none, .none, .none, .bool false, .none] } C none := ⟨he, rfl, rfl, trivial⟩
  have I2 : Inv (ncx CX0 P w K mg base ["self", "what", "__class__"] ⟨"__init__", qual, defArgs st, defBody st, defScope st, [("__class__", cc)], cda⟩ f A outer s H E) [] (startF ["self", "what", "__class__"] [.ref a, y] [some (V.ref C)]) H { s with heap := h', toks := s.toks + ((["self", "what"] : List Str).zip [.ref a, uy]).length } := I.kept k
  have kIn2 : K.In h' := fun b o z => k _ _ (kp _ _ (kb _ _ z))
  have hI3 : PySem.W.InstAt h' a { cls := .ref C, dict := none, data := .fields #[.ref t1, .none, .none, .none, .bool false, .none] } C none := ⟨k _ _ he, rfl, rfl, trivial⟩
  refine kxs_getMethod kxs_ValueError e (looks_opaque kIn2 T.thp) (l₀ := .ref C :: bm) (fun A Q E s k q => wpAny_bind ((looks_clsIn kIn2 hcls) A _ E s k (wpAny_pure q))) rfl kIn2 hsu (hI3.type.andThen (looks_subIn kIn2 T.ve)) aC (by decide) ?_
  obtain ⟨u, hu⟩ : ∃ u, u = h'.objs.size := ⟨_, rfl⟩
  have hnu : H u = none := by rw [hu]; exact I2.hok.fresh (Nat.le_refl _)
  have eu : (h'.push (kxs_mw "ValueError.__init__" a)).get? u = some (kxs_mw "ValueError.__init__" a) := by rw [hu]; exact Heap.get?_push_size _ rfl
  have I3 := I2.laid (a := u) (t' := s.toks + ((["self", "what"] : List Str).zip [.ref a, uy]).length + 1) (h' := h'.push (kxs_mw "ValueError.__init__" a)) (o := .ext fun h => h.get? u = some (kxs_mw "ValueError.__init__" a)) (fun b o z => Heap.get?_push_of_some _ z) (by rw [hu]; exact Nat.le_refl _) ⟨eu, ⟨_, eu⟩, fun h1 h2 z1 z2 => z2 _ z1⟩
  rw [← hu]
  have ha : PA (ncx CX0 P w K mg base ["self", "what", "__class__"] ⟨"__init__", qual, defArgs st, defBody st, defScope st, [("__class__", cc)], cda⟩ f A outer s H E) [.JoinedStr [.Constant (.str t) j p3, .FormattedValue (.Name "what" p4) 114 none p5] p6] (tCons _ tNil) :=
    pa_cons (pe_joined (PJ.cons pe_str (PJ.cons (pe_fmtX (hr.deeper _).units (pe_var (i := 1) rfl (.inl hkw))) .nil))) pa_nil
  show wpAny _ _ (callWith p7 (.ref u) [] (backTo p7 (starEach [.JoinedStr [.Constant (.str t) j p3, .FormattedValue (.Name "what" p4) 114 none p5] p6] (xEnv qual st cc cda f s.heap.objs.size))) []) _ _ _
  refine kxs_callWith (i := "ValueError.__init__") (x := a) rfl (evalArgs_plain ?_)
  have small : (1000000 : Nat) + 1000 ≤ sizeLine := by rw [sizeLine_eq]; decide
  have rp2 : RpV (upd H u (.ext fun h => h.get? u = some (kxs_mw "ValueError.__init__" a))) y := by
    exact rp.mono fun b ys e => by rw [upd_ne (fun z => by rw [z, hnu] at e; cases e)]; exact e
  refine thn (ha.run p7 [] _ (startF ["self", "what", "__class__"] [.ref a, y] [some (V.ref C)]) _ (fun vs H1 => (∃ out, vs = [V.str out]) ∧ H1 = upd H u (.ext fun h => h.get? u = some (kxs_mw "ValueError.__init__" a))) I3 ?_) fun us s1 ⟨vs, H1, I4, rv, ⟨out, e1⟩, e2⟩ => ?_
  · have lt : (Str.empty ++ t).length ≤ 1000 := by rw [strLen_append]; show 0 + _ ≤ _; have := X0.ht; omega
    exact ⟨t, rfl, by omega, y, rfl, rp2, fun z hz => ⟨z, rfl, by rw [strLen_append]; omega, ⟨_, rfl⟩, rfl⟩⟩
  subst e1 e2
  have au : a ≠ u := fun z => by rw [z, hnu] at ea; cases ea
  have ea4 : (upd H u (.ext fun h => h.get? u = some (kxs_mw "ValueError.__init__" a))) a = some (exo a C none) := by rw [upd_ne au]; exact ea
  obtain ⟨t4, he4⟩ := exo_at I4.hok ea4
  have hu4 : s1.heap.get? u = some (kxs_mw "ValueError.__init__" a) := (show ObjOk P w _ s1.heap u (.ext fun h => h.get? u = some (kxs_mw "ValueError.__init__" a)) from I4.hok u _ upd_same).1
  obtain ⟨h4, g4, d4, tk4, os4⟩ := s1
  refine ⟨hu4, ?_⟩
  have hz : us.length ≤ sizeLine := by
    rw [← rv.length]
    show 1 ≤ sizeLine
    omega
  show wpAny _ _ (call (.ref u) us) _ _ _
  refine call_mwVE hbm (I4.kIn _ _ hC) he4 hu4 hz (fun h5 t5 k5 hx => ?_)
  have I5 := I4.write (t' := tk4) (x := a) (e := a) (o := exo a C none) (h' := h5) (by rw [ea4]; exact True.intro) (.inl rfl) k5 ⟨_, hx⟩ (exo_ok hx)
  have eu5 : upd (upd H u (.ext fun h => h.get? u = some (kxs_mw "ValueError.__init__" a))) a (exo a C none) = upd H u (.ext fun h => h.get? u = some (kxs_mw "ValueError.__init__" a)) := by
    funext b
    by_cases hb : b = a
    · rw [hb, upd_same, ea4]
    · rw [upd_ne hb]
  rw [eu5] at I5
  have I6 := inv_forget I5 hnu hnu
  have pss : PSs (ncx CX0 P w K mg base ["self", "what", "__class__"] ⟨"__init__", qual, defArgs st, defBody st, defScope st, [("__class__", cc)], cda⟩ f A outer s H E) [.Assign [.Attribute (.Name "self" p9) "what" p10] (.Name "what" p11) p12] _ :=
    pss_one (ps_ost (pe_var (i := 0) rfl (.inl hka)) (pe_var (i := 1) rfl (.inl hkw)) (X0.s2 _ _ _ _))
  refine wpAt_of_wpAny (wpAny_mono (pss.run [] _ (startF ["self", "what", "__class__"] [.ref a, y] [some (V.ref C)]) _ { nx := fun _ H' => Q .non H', rt := Q } I6 ⟨y, rfl, .ref a, rfl, a, C, rfl, T.ox, T.what, .inl ⟨ea, fun dx n ne => hq dx n ne⟩⟩) (fun fl s' hs => ?_) fun e s' hs => hs)
  have fin : ∀ {σ' : L2.St} {H' : Hp} {v : V} {u : Value}, Inv (ncx CX0 P w K mg base ["self", "what", "__class__"] ⟨"__init__", qual, defArgs st, defBody st, defScope st, [("__class__", cc)], cda⟩ f A outer s H E) [] σ' H' s' → L2.RelV v u → Q v H' → CE outer P w H s Q u s' :=
    fun {σ' H' v u} J rv q => ⟨v, H', J.os, J.bare, J.base, J.hok, rv, q⟩
  cases fl with
  | ret u =>
    obtain ⟨v, σ', H', J, rv, q⟩ := hs
    exact fin J rv q
  | next =>
    obtain ⟨σ', H', J, q⟩ := hs
    exact fin (v := V.non) (u := Value.none) J rfl q
  | brk =>
    obtain ⟨_, _, _, q⟩ := hs
    exact False.elim q
  | cont =>
    obtain ⟨_, _, _, q⟩ := hs
    exact False.elim q
end
end DL

set_option Elab.async false
set_option linter.all false
set_option maxRecDepth 100000
set_option maxHeartbeats 4000000
/-! An own refusal made where nothing is handled: its context is None. -/
namespace DL
open PySem PySem.Spec PyProof PyProof.Rows L2
section
variable {X : Cx} {CX : CXT} {x : Str} {C fI : Addr} {k : Nat} {fd : FuncData} {ps : List Str} {sp : Sp} {ta : TA} {e : Expr} {es : List Expr} {p pos : Pos}
theorem pmk_oexN (T : OexC X.K C) (iC : PySem.W.findIn X.K (.ref C) "__init__" = some (some (.ref fI))) (tI : PySem.W.typeIn X.K (.ref fI) = some (.type "function"))
    (F1 : FnOk X.prog X.w X.K X.mg X.base CX k fI fd ps sp) (hr : Room (k + 1) X.A) (hb : Binds X.K fd ps []) (hx : Passes CX X (fun _ _ _ => False)) (hg : Gl X x) (hm : X.mg x = some (.ref C)) (ha : PA X (e :: es) ta)
    (hdb : (x == ("__debug__" : Str)) = false := by decide) (he : starEach (e :: es) X.env = (false, eval e X.env) :: starEach es X.env := by rfl) (hpl : (backTo pos (starEach es X.env)).any (·.1) = false := by rfl) :
    L2N.PMk X (.Call (.Name x p) (e :: es) [] pos) (tMkO C sp [] ta) := by
  intro pins s0 σ H0 Q I0 h0
  obtain ⟨nm, q, N, bs, bm, sn, sub, ab, col, dd, k0, k1, k2, k3, k5, hC, hbm⟩ := T.cls
  refine wpAny_Call_Name_kw (ld_glob I0 hg hm (PySem.W.callWith_K (h₀ := X.base) I0.ok.mod.kin T.kC (thn (ha.run pos pins s0 σ H0 _ I0 h0) fun us ⟨hp, gs, dr, tk, os⟩ ⟨vs, H1, I1, r1, hz, q1⟩ => ⟨I1.kIn, ?_⟩) he hpl) hdb)
  show wpAny _ X.A (call (.ref C) us) _ _ _
  -- the object's address: behind its tuple
  obtain ⟨n, hn⟩ : ∃ n, n = hp.objs.size + 1 := ⟨_, rfl⟩
  have over : hp.objs.size ≤ n := by omega
  have free : H1 n = none := I1.hok.fresh over
  have want := q1 n free
  rw [List.append_nil] at want
  have kk : ∀ b o, hp.get? b = some o → ((hp.push (PySem.W.kdv_tup us)).push (PySem.HandSPX.excO C hp.objs.size)).get? b = some o := fun b o z => Heap.get?_push_of_some _ (Heap.get?_push_of_some _ z)
  have at_ : ((hp.push (PySem.W.kdv_tup us)).push (PySem.HandSPX.excO C hp.objs.size)).get? n = some (PySem.HandSPX.excO C hp.objs.size) := by
    rw [hn]
    heap_get
  have I2 := I1.laid (t' := tk) (a := n) (o := exo n C none) (h' := (hp.push (PySem.W.kdv_tup us)).push (PySem.HandSPX.excO C hp.objs.size)) kk over (exo_ok at_)
  have rel : Vals (V.ref n :: vs) (Value.ref n :: us) := .cons rfl r1
  have few : us.length ≤ sizeLine := by
    rw [← Paired.length r1, sizeLine_eq]
    omega
  have bound := hb _ (Value.ref n :: us) I2.kIn (by rw [List.append_nil, ← rel.length]; exact F1.len _ _ _ _ want)
  rw [List.append_nil] at bound
  subst hn
  refine wpAny_call (PySem.HandSPX.call_own F.excBase_ValueError (fun Y => PySem.HandSPX.refsVE_contains Y bm hbm) (I1.kIn _ _ hC) (PySem.W.looks_findIn I1.kIn iC) (fun self => PySem.W.bind_fn I1.kIn self tI) few
    (codeAny_mono (F1.run _ X.stack _ _ ⟨Value.ref _ :: us, []⟩ (Value.ref _ :: us) _ _ (fun _ _ _ => False) (hr.make C us []) (I2.env0.make C us []) bound rel want) fun r s2 q2 => ?_))
  match r, q2 with
  | .error er, q2 => exact hx pins σ _ _ er s2 I2 q2
  | .ok (.ret u), q2 =>
    obtain ⟨h2, g2, d2, t2, os2⟩ := s2
    obtain ⟨v, H2, o2, bare2, un2, hok2, rv, ev, d, fs, ea, ed, hd1, fin⟩ := q2
    subst ev
    obtain ⟨t0, G, J, kG, ge, hoe, na⟩ := mk_end0 (d2 := d2) (t2 := t2) I1 over kk un2 hok2 o2 bare2 ea ed hd1
    exact ⟨rv, _, _, _, ⟨G, g2, d2, t2, os2⟩, _, .ref C, some d, rfl, J, kG, ge, hoe, ⟨rfl, rfl, fun vs' z => by cases z; rfl⟩, rfl, rfl, na, rfl, bare2, raises_own T.exC T.tyC, fin⟩
end
end DL

set_option Elab.async false
set_option linter.all false
set_option maxRecDepth 100000
set_option maxHeartbeats 4000000
/-! raise, try .. except, a caught exception as a value. -/
namespace DL
open PySem PySem.Spec L2
/-! ### contracts of defs that may raise -/
theorem FnOk.cx {P : Program} {w : World} {K : PySem.W.Frag} {mg : Str → Option Value} {base : Heap} {CX : CXT} {k : Nat} {f : Addr} {fd : FuncData} {ps : List Str} {sp : Sp} (F : FnOk P w K mg base CX0 k f fd ps sp) : FnOk P w K mg base CX k f fd ps sp :=
  ⟨F.len, fun A outer s H args us vs Q E hr he hb hv hs => codeAny_mono (F.run A outer s H args us vs Q E hr he hb hv hs) fun r s' q => by
    cases r with
    | error e => exact False.elim q
    | ok fl =>
      cases fl with
      | ret u => exact q
      | _ => exact False.elim q⟩
theorem toSp_or {K : PySem.W.Frag} {c1 c2 : DSp} {vs : List V} {H : Hp} {Q : VK} {E : XK} (h : toSp K (fun ds G P R => c1 ds G P R ∨ c2 ds G P R) vs H Q E) : toSp K c1 vs H Q E ∨ toSp K c2 vs H Q E := by
  obtain ⟨F, G, ds, P, R, g, i, h | h, r⟩ := h
  · exact .inl ⟨F, G, ds, P, R, g, i, h, r⟩
  · exact .inr ⟨F, G, ds, P, R, g, i, h, r⟩
def cOr (c1 c2 : DSp) : DSp := fun ds G P R => c1 ds G P R ∨ c2 ds G P R
theorem FnOk.or {P : Program} {w : World} {K : PySem.W.Frag} {mg : Str → Option Value} {base : Heap} {CX : CXT} {k : Nat} {f : Addr} {fd : FuncData} {ps : List Str} {c1 c2 : DSp} (F1 : FnOk P w K mg base CX k f fd ps (toSp K c1)) (F2 : FnOk P w K mg base CX k f fd ps (toSp K c2)) : FnOk P w K mg base CX k f fd ps (toSp K (cOr c1 c2)) :=
  ⟨fun vs H Q E q => (toSp_or q).elim (F1.len vs H Q E) (F2.len vs H Q E), fun A outer s H args us vs Q E hr he hb hv hs => (toSp_or hs).elim (F1.run A outer s H args us vs Q E hr he hb hv) (F2.run A outer s H args us vs Q E hr he hb hv)⟩
/-! ### what is wished of an exception, slots and all -/
def ContW (K : PySem.W.Frag) (B : Hp) (RW : DSt → DXK) (W : WX) : Prop := ∀ (δ : DSt) (σ : L2.St) (C : Addr) (w : Dt) (G : Gp) (d : Addr) (v : V) (F H : Hp), RW δ C w G → Good K B F G H → Sl K F σ δ → F d = some (.xd [("what", v)]) → Is K F v w → W (.ref C) (some d) σ H
theorem ContW.of {K : PySem.W.Frag} {B : Hp} {R : DXK} {E : XK} (c : ContX K B R E) : ContW K B (fun _ => R) (fun cls d _ H => E cls d H) := fun δ σ C w G d v F H r g s e i => c C w G d v F H r g e i
theorem ContW.at {K : PySem.W.Frag} {B F1 : Hp} {RW : DSt → DXK} {W : WX} {σ : L2.St} {δ : DSt} (c : ContW K B RW W) (s : Sl K F1 σ δ) (l : Le B F1) : ContX K F1 (RW δ) (WE W σ) := fun C w G d v F H r g e i => c δ σ C w G d v F H r (g.unbase l) (s.le g.bs) e i
theorem toSp_ofX {K : PySem.W.Frag} {B F : Hp} {G : Gp} {H : Hp} {vs : List V} {ds : List Dt} {P : DK} {Q : VK} {R : DXK} {E : XK} {c : DSp} (g : Good K B F G H) (i : IsL K F vs ds) (h : c ds G P R) (k : Cont K B F P Q) (kx : ContX K F R E) : toSp K c vs H Q E :=
  ⟨F, G, ds, P, R, g.rebase, i, h, k.rebase g.bs, kx⟩
section
variable {X : Cx} {B : Hp} {e a b o : Expr} {es : List Expr} {pos p apos : Pos} {ta tb te to : DTE} {tl : DTA} {k : Nat} {C f : Addr} {ps ks : List Str} {c : DSp} {x m : Str} {W : WX} {RW : DSt → DXK} {fd : FuncData}
/-! ### calls that may raise -/
def dCallS (c : DSp) (RW : DSt → DXK) (t : DTA) : DTE := fun δ G P => t δ G fun ds G1 => c ds G1 P (RW δ)
theorem d_callS {j : Nat} (D : Dfn X.prog X.w X.K X.mg X.base (L2N.CX X.prog X.w) x ps c k) (hr : Room j X.A) (tk : L2N.Takes X W) (cw : ContW X.K B RW W) (hg : Gl X x) (ha : DA X B (e :: es) tl) (hj : k ≤ j := by decide)
    (hdb : (x == ("__debug__" : Str)) = false := by decide) (he : starEach (e :: es) X.env = (false, eval e X.env) :: starEach es X.env := by rfl) (hpl : (backTo pos (starEach es X.env)).any (·.1) = false := by rfl) :
    DE X B (.Call (.Name x p) (e :: es) [] pos) (dCallS c RW tl) := by
  obtain ⟨f, fd, F, m, kp, b⟩ := D
  exact PE.imp (pe_callS (E := WE W) F (hr.mono hj) hg m kp b (L2N.passAt tk) ha hdb he hpl) fun σ H Q ⟨F, G, δ, P, g, s, q, k⟩ => ⟨F, G, δ, _, g, s, q, fun ds G1 vs F1 H1 p1 l1 g1 i1 => toSp_ofX g1 i1 p1 (k.le l1) (cw.at (s.le l1) g1.bs)⟩
def tMethS (C : Addr) (m : Str) (sp : Sp) (E : L2.St → XK) (ta : TE) (t : TA) : TE := fun σ H Q => ta σ H fun x H1 => ∃ a dx fs, x = .ref a ∧ H1 a = some (.ins C dx fs) ∧ fs.lookup m = none ∧ t σ H1 fun vs H2 => sp (x :: vs) H2 Q (E σ)
theorem pe_methS {CX : CXT} {sp : Sp} {E : L2.St → XK} {ta : TE} {t : TA} {pl : Sem Bool} (he : PE X o ta) (cl : Cls X.K C) (hm : Meth X.K C m f) (F : FnOk X.prog X.w X.K X.mg X.base CX k f fd ps sp) (hr : Room k X.A) (hb : Binds X.K fd ps []) (hx : ∀ σ, PassesAt CX X σ (E σ)) (ha : PA X (e :: es) t)
    (hst : starEach (e :: es) X.env = (false, eval e X.env) :: starEach es X.env := by rfl) (hpl : (backTo pos (starEach es X.env)).any (·.1) = false := by rfl)
    (ht : eval (.Call (.Attribute o m apos) (e :: es) [] pos) X.env = (do
      let ov ← eval o X.env
      standAt apos.atName
      let (f, first) ← holding [ov] (getMethod ov m pl)
      callWith pos f first (backTo pos (starEach (e :: es) X.env)) (backToKw pos (keywordEach [] X.env))) := by rfl) :
    PE X (.Call (.Attribute o m apos) (e :: es) [] pos) (tMethS C m sp E ta t) := by
  refine ⟨fun pins s σ H Q I h => ?_⟩
  refine PySem.W.methodCall_KW (pl := pl) (thn (he.run pins s σ H _ I h) fun u s1 ⟨x, H1, I1, rx, a, dx, fs, ex, ea, l, q⟩ => ?_) ht
  subst ex
  obtain rfl : u = Value.ref a := rx
  refine getmeth_ok I1 ea cl hm l ?_
  refine PySem.W.callWith_K (first := [.ref a]) (h₀ := X.base) I1.ok.mod.kin hm.kp (thn (ha.run pos pins _ σ H1 _ I1 q) fun us s2 ⟨vs, H2, I2, r, q2⟩ => ⟨I2.kIn, ?_⟩) hst hpl
  exact run_fnS (us := .ref a :: us) (vs := .ref a :: vs) F hr hb (hx σ) I2 (.cons rfl r) q2
def dMethS (C : Addr) (m : Str) (c : DSp) (RW : DSt → DXK) (ta : DTE) (t : DTA) : DTE := fun δ G P => ta δ G fun x G1 => (∃ ns xs, insOf G1 x = some (C, ns, xs) ∧ m ∉ ns) ∧ t δ G1 fun ds G2 => c (x :: ds) G2 P (RW δ)
theorem d_methS {j : Nat} {pl : Sem Bool} (he : DE X B o to) (cl : Cls X.K C) (D : Dmt X.prog X.w X.K X.mg X.base (L2N.CX X.prog X.w) C m ps c k) (hr : Room j X.A) (tk : L2N.Takes X W) (cw : ContW X.K B RW W) (ha : DA X B (e :: es) tl) (hj : k ≤ j := by decide)
    (hst : starEach (e :: es) X.env = (false, eval e X.env) :: starEach es X.env := by rfl) (hpl : (backTo pos (starEach es X.env)).any (·.1) = false := by rfl)
    (ht : eval (.Call (.Attribute o m apos) (e :: es) [] pos) X.env = (do
      let ov ← eval o X.env
      standAt apos.atName
      let (f, first) ← holding [ov] (getMethod ov m pl)
      callWith pos f first (backTo pos (starEach (e :: es) X.env)) (backToKw pos (keywordEach [] X.env))) := by rfl) :
    DE X B (.Call (.Attribute o m apos) (e :: es) [] pos) (dMethS C m c RW to tl) := by
  obtain ⟨f, fd, F, hm, b⟩ := D
  exact PE.imp (pe_methS (E := WE W) he cl hm F (hr.mono hj) b (L2N.passAt tk) ha hst hpl ht) fun σ H Q ⟨F, G, δ, P, g, s, q, k⟩ =>
  ⟨F, G, δ, _, g, s, q, fun x G1 v F1 H1 ⟨⟨ns, xs, h1, hm⟩, p1⟩ l1 g1 i1 => by
    obtain ⟨a, dx, fs, rfl, e1, n1, r1⟩ := insOf_is g1 i1 h1
    refine ⟨a, dx, fs, rfl, e1, lookup_none (by rw [n1]; exact hm), F1, G1, δ, _, g1, s.le l1, p1, fun ds G2 vs F2 H2 p2 l2 g2 i2 => ?_⟩
    exact toSp_ofX g2 (.cons (i1.le l2) i2) p2 (k.le (l1.trans l2)) (cw.at ((s.le l1).le l2) g2.bs)⟩
theorem run_fnNS {CX : CXT} {sp : Sp} {E : L2.St → XK} {g : List Value → List Value → List Value} {gV : List V → List V → List V} {n : Nat} {pins : List (Addr × Obj)} {σ : L2.St} {H : Hp} {s : Shared} {Q : VK} {us ws : List Value} {vs zs : List V} (F : FnOk X.prog X.w X.K X.mg X.base CX k f fd ps sp) (hr : Room k X.A) (hb : KBn X.K fd ps n ks g gV) (hx : PassesAt CX X σ (E σ))
    (I : Inv X pins σ H s) (r : Vals vs us) (rz : Vals zs ws) (l1 : vs.length = n) (l2 : zs.length = ks.length) (h : sp (gV vs zs) H Q (E σ)) : wpAny (model X.prog X.w) X.A (call (.ref f) us (ks.zip ws)) (EP X pins σ Q) X.xe s := by
  have r2 := hb.rel r rz
  refine wpAny_call (codeAny_mono (F.run X.A X.stack s H ⟨us, ks.zip ws⟩ (g us ws) (gV vs zs) Q (E σ) hr I.env0 (hb.to s us ws I.kIn (r.length.symm.trans l1) (rz.length.symm.trans l2)) r2 h) fun r s' hq => ?_)
  cases r with
  | error e => exact hx pins H s e s' I hq
  | ok fl =>
    cases fl with
    | ret u => exact I.after hq
    | next => exact False.elim hq
    | brk => exact False.elim hq
    | cont => exact False.elim hq
def tMethNS (C : Addr) (m : Str) (n : Nat) (sp : Sp) (gV : List V → List V → List V) (E : L2.St → XK) (ta : TE) (tk : TA) : TE := fun σ H Q => ta σ H fun x H1 => ∃ (p dx : Addr) (fs : List (Str × V)), x = .ref p ∧ H1 p = some (.ins C dx fs) ∧ fs.lookup m = none ∧ tk σ H1 fun zs H2 => zs.length = n ∧ sp (gV [.ref p] zs) H2 Q (E σ)
theorem pe_methKwS {CX : CXT} {sp : Sp} {E : L2.St → XK} {te : TE} {tk : TA} {g : List Value → List Value → List Value} {gV : List V → List V → List V} {pl : Sem Bool} {kws : List Keyword} (he : PE X o te) (cl : Cls X.K C) (hm : Meth X.K C m f) (F : FnOk X.prog X.w X.K X.mg X.base CX k f fd ps sp) (hr : Room k X.A) (hb : KBn X.K fd ps 1 ks g gV) (hx : ∀ σ, PassesAt CX X σ (E σ)) (hkw : PK X kws tk)
    (hall : (backToKw pos (keywordEach kws X.env)).all (·.1.isSome) = true) (hks : (backToKw pos (keywordEach kws X.env)).filterMap (·.1) = ks)
    (hpl : ((backTo pos (starEach [] X.env)).any (·.1) || (backToKw pos (keywordEach kws X.env)).any (·.1.isNone)) = false)
    (ht : eval (.Call (.Attribute o m apos) [] kws pos) X.env = (do
      let ov ← eval o X.env
      standAt apos.atName
      let (f, first) ← holding [ov] (getMethod ov m pl)
      callWith pos f first (backTo pos (starEach [] X.env)) (backToKw pos (keywordEach kws X.env)))) :
    PE X (.Call (.Attribute o m apos) [] kws pos) (tMethNS C m ks.length sp gV E te tk) := by
  refine ⟨fun pins s σ H Q I h => ?_⟩
  refine PySem.W.methodCall_KW (pl := pl) (thn (he.run pins s σ H _ I h) fun u s1 ⟨x, H1, I1, rx, p, dx, fs, ex, ep, hl, q⟩ => ?_) ht
  subst ex
  obtain rfl : u = Value.ref p := rx
  refine getmeth_ok I1 ep cl hm hl ?_
  refine PySem.W.callWith_KW0 (h₀ := X.base) I1.ok.mod.kin hm.kp hall ?_ hpl
  refine thn (hkw.run pos pins _ σ H1 _ I1 q) fun ws s2 ⟨zs, H2, I2, rz, l2, q2⟩ => ⟨I2.kIn, ?_⟩
  rw [hks]
  exact run_fnNS (us := [.ref p]) (vs := [.ref p]) F hr hb (hx σ) I2 (.cons rfl .nil) rz rfl l2 q2
def dMethKS (C : Addr) (m : Str) (c : DSp) (RW : DSt → DXK) (pf : PF) (n : Nat) (ta : DTE) (t : DTA) : DTE := fun δ G P => ta δ G fun x G1 => (∃ ns xs, insOf G1 x = some (C, ns, xs) ∧ m ∉ ns) ∧ t δ G1 fun ds G2 => ds.length = n ∧ c (x :: pf ds) G2 P (RW δ)
theorem d_methKwS {j : Nat} {pl : Sem Bool} {kws : List Keyword} {pf : PF} (he : DE X B o to) (cl : Cls X.K C) (D : DmtK X.prog X.w X.K X.mg X.base (L2N.CX X.prog X.w) C m ps ks pf c k) (hp : PFOk pf) (hr : Room j X.A) (tk : L2N.Takes X W) (cw : ContW X.K B RW W) (ha : DPK X B kws tl) (hj : k ≤ j := by decide)
    (hall : (backToKw pos (keywordEach kws X.env)).all (·.1.isSome) = true := by rfl) (hks : (backToKw pos (keywordEach kws X.env)).filterMap (·.1) = ks := by rfl)
    (hpl : ((backTo pos (starEach [] X.env)).any (·.1) || (backToKw pos (keywordEach kws X.env)).any (·.1.isNone)) = false := by rfl)
    (ht : eval (.Call (.Attribute o m apos) [] kws pos) X.env = (do
      let ov ← eval o X.env
      standAt apos.atName
      let (f, first) ← holding [ov] (getMethod ov m pl)
      callWith pos f first (backTo pos (starEach [] X.env)) (backToKw pos (keywordEach kws X.env))) := by rfl) :
    DE X B (.Call (.Attribute o m apos) [] kws pos) (dMethKS C m c RW pf ks.length to tl) := by
  obtain ⟨f, fd, F, hm, b⟩ := D
  refine PE.imp (pe_methKwS (E := WE W) he cl hm F (hr.mono hj) b (L2N.passAt tk) ha.pk hall hks hpl ht) fun σ H Q ⟨F, G, δ, P, g, s, q, k⟩ => ?_
  refine ⟨F, G, δ, _, g, s, q, fun x G1 v F1 H1 ⟨⟨ns, xs, h1, hm⟩, p1⟩ l1 g1 i1 => ?_⟩
  obtain ⟨p, dx, fs, rfl, e1, n1, r1⟩ := insOf_is g1 i1 h1
  exact ⟨p, dx, fs, rfl, e1, lookup_none (by rw [n1]; exact hm), F1, G1, δ, _, g1, s.le l1, p1, fun ds G2 vs F2 H2 ⟨hl, p2⟩ l2 g2 i2 => ⟨i2.length.trans hl, toSp_ofX g2 (.cons (i1.le l2) (hp.is_ i2)) p2 (k.le (l1.trans l2)) (cw.at ((s.le l1).le l2) g2.bs)⟩⟩
/-- f(k = v, ..) -/
def tCallNS (n : Nat) (sp : Sp) (gV : List V → List V → List V) (E : L2.St → XK) (tk : TA) : TE := fun σ H Q => tk σ H fun zs H2 => zs.length = n ∧ sp (gV [] zs) H2 Q (E σ)
theorem pe_callKS {CX : CXT} {sp : Sp} {E : L2.St → XK} {tk : TA} {g : List Value → List Value → List Value} {gV : List V → List V → List V} {kws : List Keyword} (F : FnOk X.prog X.w X.K X.mg X.base CX k f fd ps sp) (hr : Room k X.A) (hg : Gl X x) (hm : X.mg x = some (.ref f)) (hk : PySem.W.keepIn X.K (.ref f) = true) (hb : KBn X.K fd ps 0 ks g gV) (hx : ∀ σ, PassesAt CX X σ (E σ)) (hkw : PK X kws tk)
    (hall : (backToKw pos (keywordEach kws X.env)).all (·.1.isSome) = true := by rfl) (hks : (backToKw pos (keywordEach kws X.env)).filterMap (·.1) = ks := by rfl) (hdb : (x == ("__debug__" : Str)) = false := by decide)
    (hpl : ((backTo pos (starEach [] X.env)).any (·.1) || (backToKw pos (keywordEach kws X.env)).any (·.1.isNone)) = false := by rfl) :
    PE X (.Call (.Name x p) [] kws pos) (tCallNS ks.length sp gV E tk) := by
  refine ⟨fun pins s σ H Q I h => ?_⟩
  refine wpAny_Call_Name_kw (ld_glob I hg hm ?_ hdb)
  refine PySem.W.callWith_KW0 (first := []) (h₀ := X.base) I.ok.mod.kin hk hall ?_ hpl
  refine thn (hkw.run pos pins _ σ H _ I h) fun ws s2 ⟨zs, H2, I2, rz, l2, q2⟩ => ⟨I2.kIn, ?_⟩
  rw [hks]
  exact run_fnNS (us := []) (vs := []) F hr hb (hx σ) I2 .nil rz rfl l2 q2
def dCallKS (c : DSp) (RW : DSt → DXK) (pf : PF) (n : Nat) (t : DTA) : DTE := fun δ G P => t δ G fun ds G1 => ds.length = n ∧ c (pf ds) G1 P (RW δ)
theorem d_callKwS {j : Nat} {kws : List Keyword} {pf : PF} (D : DfnK X.prog X.w X.K X.mg X.base (L2N.CX X.prog X.w) x ps ks pf c k) (hp : PFOk pf) (hr : Room j X.A) (tk : L2N.Takes X W) (cw : ContW X.K B RW W) (hg : Gl X x) (ha : DPK X B kws tl) (hj : k ≤ j := by decide)
    (hall : (backToKw pos (keywordEach kws X.env)).all (·.1.isSome) = true := by rfl) (hks : (backToKw pos (keywordEach kws X.env)).filterMap (·.1) = ks := by rfl) (hdb : (x == ("__debug__" : Str)) = false := by decide)
    (hpl : ((backTo pos (starEach [] X.env)).any (·.1) || (backToKw pos (keywordEach kws X.env)).any (·.1.isNone)) = false := by rfl) :
    DE X B (.Call (.Name x p) [] kws pos) (dCallKS c RW pf ks.length tl) := by
  obtain ⟨f, fd, F, hm, kp, b⟩ := D
  refine PE.imp (pe_callKS (E := WE W) F (hr.mono hj) hg hm kp b (L2N.passAt tk) ha.pk hall hks hdb hpl) fun σ H Q ⟨F, G, δ, P, g, s, q, k⟩ => ?_
  exact ⟨F, G, δ, _, g, s, q, fun ds G1 vs F1 H1 ⟨hl, p1⟩ l1 g1 i1 => ⟨i1.length.trans hl, toSp_ofX g1 (hp.is_ i1) p1 (k.le l1) (cw.at (s.le l1) g1.bs)⟩⟩
/-! ### raise -/
def Rp1D (d : Dt) : Prop := (∃ i : Int, d = .int i ∧ i.natAbs.log2 < 1920) ∨ ∃ ys : List Dt, d = .tup ys ∧ ys.length ≤ 10 ∧ ∀ y ∈ ys, ∃ i : Int, y = .int i ∧ i.natAbs.log2 < 1920
/-- what may be put into a refusal -/
inductive RpD : Dt → Prop where
  | int (i : Int) (h : i.natAbs.log2 < 1920) : RpD (.int i)
  | non : RpD .non
  | str (y : Str) (h : (reprText y).length ≤ 1000000) : RpD (.str y)
  | tup {ds : List Dt} (hl : ds.length ≤ 10) (hx : ∀ d ∈ ds, Rp1D d) : RpD (.tup ds)
theorem IsL.mem {K : PySem.W.Frag} {F : Hp} : ∀ {vs : List V} {ds : List Dt} {v : V}, IsL K F vs ds → v ∈ vs → ∃ d ∈ ds, Is K F v d
  | _, _, _, .cons r s, h => by
    rcases List.mem_cons.mp h with rfl | h
    · exact ⟨_, List.mem_cons_self, r⟩
    · obtain ⟨d, h1, h2⟩ := IsL.mem s h
      exact ⟨d, List.mem_cons_of_mem _ h1, h2⟩
theorem RpD.v {K : PySem.W.Frag} {B F H : Hp} {G : Gp} {v : V} {d : Dt} (g : Good K B F G H) (r : RpD d) (i : Is K F v d) : RpV H v := by
  cases r with
  | int j h => cases i; exact .int j h
  | non => cases i; exact .non
  | str y h => cases i; exact .str y h
  | tup hl hx =>
    cases i with
    | tup e rr =>
      refine .tup (g.fz _ _ e) (by rw [rr.length]; exact hl) fun x hxx => ?_
      obtain ⟨d, hd, iv⟩ := rr.mem hxx
      rcases hx d hd with ⟨j, rfl, h⟩ | ⟨ys, rfl, h1, h2⟩
      · cases iv; exact .inl ⟨j, rfl, h⟩
      · cases iv with
        | tup e2 r2 =>
          refine .inr ⟨_, _, rfl, g.fz _ _ e2, by rw [r2.length]; exact h1, fun y hy => ?_⟩
          obtain ⟨d2, hd2, iv2⟩ := r2.mem hy
          obtain ⟨j, rfl, h⟩ := h2 d2 hd2
          cases iv2
          exact ⟨j, rfl, h⟩
/-- an own class of refusals -/
def DexC (P : Program) (w : World) (K : PySem.W.Frag) (mg : Str → Option Value) (base : Heap) (x : Str) (C : Addr) : Prop := OexC K C ∧ mg x = some (.ref C) ∧ ∃ f fd, PySem.W.findIn K (.ref C) "__init__" = some (some (.ref f)) ∧ PySem.W.typeIn K (.ref f) = some (.type "function") ∧
  FnOk P w K mg base CX0 1 f fd ["self", "what"] (spExc C) ∧ Binds K fd ["self", "what"] []
def dRaise (RW : DSt → DXK) (C : Addr) (te : DTE) : DTS := fun _ δ G => te δ G fun w G1 => RpD w ∧ RW δ C w G1
theorem ds_raise {j : Nat} {pos' : Pos} (D : DexC X.prog X.w X.K X.mg X.base x C) (hc : X.calm = true) (hr : Room j X.A) (tk : L2N.Takes X W) (cw : ContW X.K B RW W) (hg : Gl X x) (he : DE X B e te) (hj : 2 ≤ j := by decide)
    (hdb : (x == ("__debug__" : Str)) = false := by decide) (hst : starEach [e] X.env = (false, eval e X.env) :: starEach [] X.env := by rfl) (hpl : (backTo pos (starEach [] X.env)).any (·.1) = false := by rfl) :
    DS X B (.Raise (some (.Call (.Name x p) [e] [] pos)) none pos') (dRaise RW C te) := by
  obtain ⟨T, gC, f, fd, iC, tI, F1, hb⟩ := D
  refine PS.imp (L2N.ps_raise hc tk (pmk_oexN T iC tI F1 (hr.mono hj) hb pass0 hg gC (pa_cons he pa_nil hst) hdb hst hpl)) fun D σ H ⟨F, G, δ, R, g, s, q, f⟩ => ?_
  refine ⟨F, G, δ, _, g, s, q, fun w G' v F' H' ⟨rp, rw'⟩ l g' i => ⟨Nat.le_of_lt (Nat.lt_of_lt_of_le (Nat.lt_succ_self _) (by decide : 2 ≤ 1000)), fun a ha => ⟨a, v, rfl, upd_same, (rp.v g' i).mono (fun b ys e => by rw [upd_ne (fun z => by rw [z, ha] at e; cases e)]; exact e), fun d hd ne => ⟨rfl, d, [("what", v)], upd_same, ?_, ?_, ?_⟩⟩⟩⟩
  · rw [upd_ne ne, upd_same]
  · rw [upd_ne ne] at hd; exact hd
  · have hd' : H' d = none := by rw [upd_ne ne] at hd; exact hd
    have eH : upd (del (upd (upd (upd H' a (exo a C none)) d (exd d [("what", v)])) a (exo a C (some d))) a) d (.xd [("what", v)]) = upd H' d (.xd [("what", v)]) := by
      funext b
      by_cases hb : b = d
      · rw [hb, upd_same, upd_same]
      · rw [upd_ne hb, upd_ne hb]
        by_cases ha2 : b = a
        · rw [ha2, del_same, ha]
        · rw [del_ne ha2, upd_ne ha2, upd_ne hb, upd_ne ha2]
    rw [eH]
    obtain ⟨l2, g2⟩ := g'.newF hd' (.xd [("what", v)])
    exact cw δ σ C w G' d v _ _ rw' g2 (s.le (l.trans l2)) upd_same (i.le l2)
end
/-! ### a caught exception as a value -/
structure ExK (K : PySem.W.Frag) (C : Addr) : Prop where
  ic : ExcC K C
  what : PySem.W.findIn K (.ref C) "what" = some none
section
variable {X : Cx} {B : Hp} {e : Expr} {te : DTE} {pos : Pos} {K : PySem.W.Frag}
theorem exg_at {P : Program} {w : World} {H : Hp} {h : Heap} {a C d : Addr} (hok : HOk P w H h) (e : H a = some (exg a C d)) : ∃ (o : Obj) (vs : Array Value), h.get? a = some o ∧ o.cls = .ref C ∧ o.dict = some d ∧ o.data = .fields vs := by
  obtain ⟨o, vs, h1, h2, h3, h4, _⟩ := (show ObjOk P w H h a (.ext fun h => ∃ (o : Obj) (vs : Array Value), h.get? a = some o ∧ o.cls = .ref C ∧ o.dict = some d ∧ o.data = .fields vs ∧ vs[2]? = some .none) from hok a _ e).1
  exact ⟨o, vs, h1, h2, h3, h4⟩
/-- the caught object as the library's rules want it -/
theorem exc_inst {P : Program} {w : World} {H : Hp} {h : Heap} {a C d : Addr} {fs : List (Str × V)} (hok : HOk P w H h) (e : H a = some (exg a C d)) (ed : H d = some (.xd fs)) : ∃ o od, PySem.W.InstAt h a o C (some od) ∧ ∀ f v, fs.lookup f = some v → ∃ u, PySem.W.lookIn f od = some (some u) ∧ RelV v u := by
  obtain ⟨o, vs, h1, h2, h3, h4⟩ := exg_at hok e
  obtain ⟨mA, hns, hr⟩ := (show ObjOk P w H h d (.xd fs) from hok d _ ed)
  obtain ⟨od, ho, hl⟩ := lookIn_ns hns
  refine ⟨o, od, ⟨h1, h2, by unfold PySem.W.notCls; rw [h4] <;> rfl, by rw [h3]; exact ho⟩, fun f v hv => ?_⟩
  obtain ⟨u, hu, ru⟩ := RelO.some_of (v := v) (o := mA f) (by rw [← hv]; exact hr f)
  exact ⟨u, by rw [hl, hu], ru⟩
/-- e.what -/
def dWhat (K : PySem.W.Frag) (te : DTE) : DTE := fun δ G P => te δ G fun x G1 => ∃ C w, x = .exc C w ∧ ExK K C ∧ P w G1
theorem d_what (hK : X.K = K) (he : DE X B e te) (hb : attributeBase e "what" X.env (eval e X.env) = eval e X.env := by rfl) : DE X B (.Attribute e "what" pos) (dWhat K te) := by
  subst hK
  refine ⟨fun pins s σ H Q I ⟨F, G, δ, P, g, sl, q, k⟩ => ?_⟩
  refine attr_of hb (thn (he.run pins s σ H (fun v H1 => ∃ G1 F1 w, Good X.K B F1 G1 H1 ∧ Is X.K F1 v w ∧ Le F F1 ∧ ∃ C w', w = .exc C w' ∧ ExK X.K C ∧ P w' G1) I ⟨F, G, δ, _, g, sl, q, fun d G' v F' H' p' l' g' i' => ⟨G', F', d, g', i', l', p'⟩⟩) fun u s1 hh => ?_)
  obtain ⟨v, H1, I1, rx, G1, F1, w, g1, i1, l1, C, w', ew, ek, p1⟩ := hh
  subst ew
  cases i1 with
  | @exc a _ d vv _ ea ed iw =>
    obtain rfl : u = Value.ref a := rx
    have e1 := g1.fz _ _ ea
    have e2 := g1.fz _ _ ed
    obtain ⟨o, od, J, hl⟩ := exc_inst I1.hok e1 e2
    obtain ⟨u2, hu, ru⟩ := hl "what" vv rfl
    exact HandSPX.exc_get I1.kIn J ek.ic.hg ek.ic.hk ek.ic.hs (PySem.W.findObj_own ek.ic.hd ek.what rfl hu) (handed_of ru) ⟨vv, H1, I1.tok _, ru, k w' G1 vv F1 H1 p1 l1 g1 iw⟩
/-- the class of a value, exceptions too -/
def tagX (K : PySem.W.Frag) (G : Gp) (d : Dt) (t : Value) : Prop := (∃ C w, d = .exc C w ∧ t = .ref C ∧ ExK K C) ∨ (tagD G d = some t ∧ ∀ C, t = .ref C → IsF K C)
theorem kitX_of {pins : List (Addr × Obj)} {σ : L2.St} {F H : Hp} {G : Gp} {s : Shared} {v : V} {u t : Value} {d : Dt} (I : Inv X pins σ H s) (g : Good X.K B F G H) (i : Is X.K F v d) (r : RelV v u) (h : tagX X.K G d t) : ∃ P : Heap → Prop, PySem.W.KitX X.K u t P ∧ P s.heap ∧ u ≠ .builtin "__main__.__loader__#opaque" := by
  rcases h with ⟨C, w, rfl, rfl, ek⟩ | ⟨h, hc⟩
  · cases i with
    | @exc a _ d vv _ ea ed iw =>
      obtain rfl : u = Value.ref a := r
      obtain ⟨o, od, J, _⟩ := exc_inst I.hok (g.fz _ _ ea) (g.fz _ _ ed)
      obtain ⟨cd, hcd, _⟩ := PySem.W.any_some ek.ic.hd
      exact ⟨_, PySem.W.kitx_exc (by rw [hcd]; rfl) ek.ic.hg ek.ic.hk ek.ic.hs ek.ic.ha ek.ic.hn ek.ic.ht ek.ic.hm, J, fun z => nomatch z⟩
  · exact kit_of I r (tag_is g i h hc)
def rIsiX (K : PySem.W.Frag) : DR := fun ds G P => ∃ d c t u b, ds = [d, c] ∧ tagX K G d t ∧ clsD c = some u ∧ PySem.W.kitOne K t u = some b ∧ P (.bl b) G
def rIsiTX (K : PySem.W.Frag) : DR := fun ds G P => ∃ d cs t us b, ds = [d, .tup cs] ∧ tagX K G d t ∧ cs.map clsD = us.map some ∧ PySem.W.kitAny K t us = some b ∧ P (.bl b) G
theorem cls_v {F : Hp} {v : V} {c : Dt} {u : Value} (h : clsD c = some u) (i : Is K F v c) : ClsV v u := by
  cases c <;> first
    | (cases h; cases i; exact .ty _)
    | (cases h; cases i; exact .own _)
    | cases h
theorem cls_vs {F : Hp} : ∀ {vs : List V} {cs : List Dt} {us : List Value}, cs.map clsD = us.map some → IsL K F vs cs → Paired ClsV vs us
  | [], _, us, h, .nil => by
    cases us with
    | nil => exact .nil
    | cons _ _ => cases h
  | _ :: _, _, us, h, .cons i r => by
    cases us with
    | nil => cases h
    | cons u us =>
      rw [List.map_cons, List.map_cons] at h
      injection h with h1 h2
      exact .cons (cls_v h1 i) (cls_vs h2 r)
theorem c_isiX (hK : X.K = K) : DCall X B (.builtin "isinstance") (rIsiX K) := by
  subst hK
  refine ⟨fun vs H Q => ∃ F G ds P, Good X.K B F G H ∧ IsL X.K F vs ds ∧ rIsiX X.K ds G P ∧ Cont X.K B F P Q, ?_, fun F G H vs ds P Q g i h c => ⟨F, G, ds, P, g, i, h, c⟩⟩
  intro pins s σ H xs us Q I r ⟨F, G, ds, P, g, i, ⟨d, c, t, u, b, e, ht, hc, hk, p⟩, k⟩
  subst e
  cases i with
  | cons i1 i =>
    cases i with
    | cons i2 i =>
      cases i
      obtain ⟨u1, u2, rfl, r1, r2⟩ := vals2 r
      have e2 := (cls_v hc i2).eq r2
      subst e2
      obtain ⟨Pz, Z, pz, hx⟩ := kitX_of I g i1 r1 ht
      exact PySem.W.kia_one Z I.kIn pz hk hx fun tk => ⟨.bl b, H, I.tok tk, rfl, k _ G _ F H p (Le.refl F) g (.bl b)⟩
theorem c_isiTX (hK : X.K = K) : DCall X B (.builtin "isinstance") (rIsiTX K) := by
  subst hK
  refine ⟨fun vs H Q => ∃ F G ds P, Good X.K B F G H ∧ IsL X.K F vs ds ∧ rIsiTX X.K ds G P ∧ Cont X.K B F P Q, ?_, fun F G H vs ds P Q g i h c => ⟨F, G, ds, P, g, i, h, c⟩⟩
  intro pins s σ H xs us Q I r ⟨F, G, ds, P, g, i, ⟨d, cs, t, ws, b, e, ht, hc, hk, p⟩, k⟩
  subst e
  cases i with
  | cons i1 i =>
    cases i with
    | cons i2 i =>
      cases i
      cases i2 with
      | @tup tp vs2 _ q rr =>
        obtain ⟨u1, u2, rfl, r1, r2⟩ := vals2 r
        cases (show u2 = Value.ref tp from r2)
        obtain ⟨Pz, Z, pz, hx⟩ := kitX_of I g i1 r1 ht
        obtain ⟨_, its, rv, o, h1, h2, n, h3⟩ := (show ObjOk X.prog X.w H s.heap tp (.tup vs2) from I.hok tp _ (g.fz _ _ q))
        have e3 := ClsV.all (cls_vs hc rr) rv
        subst e3
        obtain ⟨oc, od, dt, sl⟩ := o
        simp only at h2 h3
        subst h2 h3
        exact PySem.W.kia_tup Z I.kIn pz h1 hk hx fun tk => ⟨.bl b, H, I.tok tk, rfl, k _ G _ F H p (Le.refl F) g (.bl b)⟩
end
end DL

set_option Elab.async false
set_option linter.all false
set_option maxRecDepth 100000
set_option maxHeartbeats 4000000
/-! Within an except suite: the end of a list's walk, of a tuple's; tuples taken apart; list comprehensions. -/
namespace HotL
open PySem PySem.Spec PyProof PyProof.Rows L2 L2H HotX
section
variable {prog : Program} {w : World} {A : Around} {E : Value → Shared → Prop} {s : Shared} {x1 : Addr}
/-- all that stands but one address goes on standing -/
def But (a : Addr) (h h' : Heap) : Prop := ∀ b o, b ≠ a → h.get? b = some o → h'.get? b = some o
theorem HotAt.but {h h' : Heap} {a : Addr} (t : HotAt A x1 h) (k : But a h h') (n : x1 ≠ a) : HotAt A x1 h' := by
  obtain ⟨e, o, vs, q, r⟩ := t
  exact ⟨e, o, vs, k _ _ n q, r⟩
theorem HotAt.in1 {h : Heap} (t : HotAt A x1 h) : HotAt A.in1 x1 h := t
/-- a StopIteration is made and raised: all that stood stands -/
theorem stop_raised {α : Type} {Q : α → Shared → Prop} (t : HotAt A x1 s.heap) (q : ∀ a h', (∀ b o, s.heap.get? b = some o → h'.get? b = some o) → ({ s with heap := h' } : Shared).TypeIs (.ref a) "StopIteration" → E (.ref a) { s with heap := h' }) :
    wpAny (model prog w) A (newExc (.type "StopIteration") [] >>= fun e => raiseNew e) Q E s := by
  have up : ∀ {h : Heap} {o1 o2 : Obj} (b : Addr) (o : Obj), h.get? b = some o → ((h.push o1).push o2).get? b = some o := fun b o e => Heap.get?_push_of_some _ (Heap.get?_push_of_some _ e)
  obtain ⟨hh, o1, v1, g1, d1, c1⟩ := t
  unfold newExc newTuple
  refine wpAny_bind (wpAny_bind (wpAny_newObj_type ?_ (by size_fits)))
  refine wpAny_bind (m := firstArgMember _ _) (wpAny_of_eq (a := Value.none) (by first | rfl | (unfold firstArgMember; rfl)) (wpAny_newObj_type ?_ (by size_fits)))
  have old : x1 < (s.heap.push { cls := Value.type "tuple", data := Data.seq #[] }).objs.size := Heap.lt_size (Heap.get?_push_of_some _ g1)
  refine raiseNew_hot ⟨hh, o1, v1, up _ _ g1, d1, c1⟩ (Nat.ne_of_lt old) (Heap.get?_push_size _ rfl) rfl ?_ (q _ _ (fun b o e => ?_) ⟨_, Heap.get?_update_self _ (Heap.get?_push_size _ rfl) rfl, rfl⟩)
  · rw [Array.size_append]
    exact Nat.lt_of_lt_of_le (by decide : 2 < 6) (Nat.le_add_right _ _)
  · have lt : b < (s.heap.push { cls := Value.type "tuple", data := Data.seq #[] }).objs.size := Heap.lt_size (Heap.get?_push_of_some _ e)
    exact (Heap.get?_update_other _ _ (Nat.ne_of_gt lt)).trans (up _ _ e)
/-- what a walk does with the StopIteration -/
theorem stop_taken {a : Addr} {Q : Option Value → Shared → Prop} (h : s.TypeIs (.ref a) "StopIteration") (q : Q none s) :
    wpAny (model prog w) A (isInstance (.ref a) (.type "StopIteration") >>= fun b => if b = true then pure none else throw (.ref a)) Q E s :=
  wpAny_bind (wpAny_isInstance h isSubtype_stop (wpAny_pure q))
theorem list_end {Q : Option Value → Shared → Prop} {it l : Addr} {i : Nat} {its : Array Value} (t : HotAt A x1 s.heap) (n : x1 ≠ it) (hit : s.heap.IsListIter it l i) (hl : s.heap.IsList l its) (hx : its[i]? = none) (q : ∀ h', But it s.heap h' → Q none { s with heap := h' }) :
    wpAny (model prog w) A (pyNext (.ref it)) Q E s := by
  have hs := hit.typeIs
  obtain ⟨o, ho, _, hd⟩ := hit
  obtain ⟨ol, hol, _, _, hdl⟩ := hl
  unfold pyNext
  refine wpAny_bind (wpAny_attempt (wpAny_callSpecial?_slot (name := Str.ofString "__next__") hs slot_listiter_next (wpAny_call_entry slot_listiter_next hs entry_listiter_next ?_ (args_listiter_next _))))
  show wpAny _ A.in1 (field (.ref it) 0 >>= _) _ _ s
  refine wpAny_bind (wpAny_field ho hd (x := .ref l) rfl ?_)
  show wpAny _ A.in1 (if (Value.ref l == Value.none) = true then _ else _) _ _ s
  rw [if_neg (fun z => Bool.noConfusion z)]
  show wpAny _ A.in1 (field (.ref it) 1 >>= _) _ _ s
  refine wpAny_bind (wpAny_field ho hd (x := .int i 0) rfl ?_)
  show wpAny _ A.in1 (seqItems? (.ref l) >>= _) _ _ s
  refine wpAny_bind (wpAny_seqItems hol hdl ?_)
  have none_there : its[((i : Nat) : Int).toNat]? = none := hx
  dsimp only
  rw [none_there]
  refine wpAny_bind (wpAny_rule (wpAny_bind (wpAny_setField ho hd (by simp) ?_)))
  have far : ∀ b o', b ≠ it → s.heap.get? b = some o' → (s.heap.update it (Obj.mapFields (·.setIfInBounds 0 .none))).get? b = some o' := fun b o' z e => (Heap.get?_update_other _ _ (Ne.symm z)).trans e
  exact stop_raised (HotAt.in1 (HotAt.but t far n)) fun a h' k ty => stop_taken ty (q _ fun b o' z e => k _ _ (far b o' z e))
theorem tup_end {Q : Option Value → Shared → Prop} {it l : Addr} {i : Nat} {its : Array Value} (t : HotAt A x1 s.heap) (n : x1 ≠ it) (hit : IsTupIter s.heap it l i) (hl : IsTup s.heap l its) (hx : its[i]? = none) (q : ∀ h', But it s.heap h' → Q none { s with heap := h' }) :
    wpAny (model prog w) A (pyNext (.ref it)) Q E s := by
  have hs := hit.typeIs
  obtain ⟨o, ho, _, hd⟩ := hit
  obtain ⟨ol, hol, _, _, hdl⟩ := hl
  unfold pyNext
  refine wpAny_bind (wpAny_attempt (wpAny_callSpecial?_slot (name := Str.ofString "__next__") hs slot_tupleiter_next (wpAny_call_entry slot_tupleiter_next hs entry_tupleiter_next ?_ (args_tupleiter_next _))))
  show wpAny _ A.in1 (field (.ref it) 0 >>= _) _ _ s
  refine wpAny_bind (wpAny_field ho hd (x := .ref l) rfl ?_)
  show wpAny _ A.in1 (if (Value.ref l == Value.none) = true then _ else _) _ _ s
  rw [if_neg (fun z => Bool.noConfusion z)]
  show wpAny _ A.in1 (field (.ref it) 1 >>= _) _ _ s
  refine wpAny_bind (wpAny_field ho hd (x := .int i 0) rfl ?_)
  show wpAny _ A.in1 (seqItems? (.ref l) >>= _) _ _ s
  refine wpAny_bind (wpAny_seqItems hol hdl ?_)
  have none_there : its[((i : Nat) : Int).toNat]? = none := hx
  dsimp only
  rw [none_there]
  refine wpAny_bind (wpAny_rule (wpAny_bind (wpAny_setField ho hd (by simp) ?_)))
  have far : ∀ b o', b ≠ it → s.heap.get? b = some o' → (s.heap.update it (Obj.mapFields (·.setIfInBounds 0 .none))).get? b = some o' := fun b o' z e => (Heap.get?_update_other _ _ (Ne.symm z)).trans e
  exact stop_raised (HotAt.in1 (HotAt.but t far n)) fun a h' k ty => stop_taken ty (q _ fun b o' z e => k _ _ (far b o' z e))
/-- a tuple taken apart: a walk of its own, to the end -/
theorem apart {Q : List Value → Shared → Prop} {l : Addr} {its : Array Value} (t : HotAt A x1 s.heap) (hl : IsTup s.heap l its) (q : ∀ h', But s.heap.objs.size s.heap h' → Q its.toList { s with heap := h' }) :
    wpAny (model prog w) A (unpackItems (.ref l) its.size none) Q E s := by
  have old : ∀ {b : Addr} {o : Obj}, s.heap.get? b = some o → b ≠ s.heap.objs.size := fun e => Nat.ne_of_lt (Heap.lt_size e)
  have ln : l ≠ s.heap.objs.size := hl.elim fun o h => old h.1
  have xn : x1 ≠ s.heap.objs.size := t.2.elim fun o h => h.elim fun vs k => old k.1
  unfold unpackItems notIterableAtAll
  refine wpAny_bind (wpAny_bind (wpAny_specialOf hl.typeIs slot_tuple_iter.lookup (wpAny_pure ?_)))
  rw [if_neg (by exact fun z => Bool.noConfusion z)]
  refine wpAny_bind (wpAny_holding (iter_tuple hl (wpAny_bind (wpAny_holding (draw_tuple ln its.size 0 _ _ ⟨_, Heap.get?_push_size _ rfl, rfl, rfl⟩ (hl.push _) (by omega) fun h1 hit1 hs1 => ?_)))))
  have whole : List.take its.size (List.drop 0 its.toList) = its.toList := List.take_of_length_le (by simp)
  rw [whole, if_neg (by simp)]
  have k1 : But s.heap.objs.size s.heap h1 := fun b o z e => hs1.extBut b o z (Heap.get?_push_of_some _ e)
  refine wpAny_bind (wpAny_holding (tup_end (HotAt.but t k1 xn) xn hit1 ((hl.push _).extBut hs1.extBut ln) (by simp) fun h2 k2 => ?_))
  exact wpAny_pure (q h2 fun b o z e => k2 b o z (k1 b o z e))
end
section
variable {X : Cx}
/-- where T holds of what is tracked, a handled exception stands, its context None -/
def HotT (X : Cx) (T : Hp → Prop) : Prop := ∀ (pins : List (Addr × Obj)) (σ : L2.St) (H : Hp) (s : Shared), Inv X pins σ H s → T H → ∃ x1, HotAt X.A x1 s.heap ∧ H x1 ≠ none
/-- a target in a block within a suite -/
structure PGH (X : Cx) (T : Hp → Prop) (tg : Expr) (g : TG) : Prop where
  run : ∀ (pins : List (Addr × Obj)) (s : Shared) (σ : L2.St) (H : Hp) (v : V) (u : Value) (Q : L2.St → Hp → Prop), T H → Inv X pins σ H s → RelV v u → g v σ H Q →
    wpAny (model X.prog X.w) X.A (assign tg X.env u) (fun _ s1 => ∃ σ1 H1, Inv X pins σ1 H1 s1 ∧ Q σ1 H1) X.xe s
theorem pgh_tup {T : Hp → Prop} {es : List Expr} {k : Nat} {pos : Pos} {t : TGs} {n : Nat} (hT : HotT X T) (h : PGs X es t) (hn : (assignEach es X.env).length = n) (hst : (assignEach es X.env).findIdx? (·.1) = none) : PGH X T (.Tuple es k pos) (gTup X.K n t) := by
  constructor
  intro pins s σ H v u Q tH I r hw
  obtain ⟨a, xs, rfl, hq, hl, hw⟩ := hw
  cases r
  obtain ⟨its, rv, ht, _⟩ := I.tuple hq
  obtain ⟨x1, hot, _⟩ := hT pins σ H s I tH
  have hsz : (assignEach es X.env).length = its.toArray.size := by rw [hn, ← hl, rv.length, List.size_toArray]
  rw [assign_Tuple]
  refine wpAny_bind (wpAny_standAt ?_)
  unfold unpack
  rw [hsz, hst]
  refine wpAny_bind (wpAny_holding (apart hot ht fun h' hk => ?_))
  have I1 : Inv X pins σ H { s with heap := h' } := I.kept (t' := s.toks) fun b o e => hk b o (Nat.ne_of_lt (Heap.lt_size e)) e
  exact h.run pins _ σ H xs _ Q I1 (by simpa using rv) hw
end
/-! ### [.. for .. in a list if ..] there -/
section
variable {Y : Cx} {tg iter elt : Expr} {ifs : List Expr} {scope : Scope} {pos : Pos} {it a D : Addr} {σ : L2.St} {vs : List Nat} {T : Hp → Prop} {g : TG} {tt : TT} {te : TE} {R : Result → Shared → Prop} {s : Shared}
/-- a turn's state: the walk `it` of the list a stands before its i-th item -/
def Mid (Y : Cx) (it a : Addr) (τ : L2.St) (i : Nat) (H : Hp) (s : Shared) : Prop := Inv Y [] τ H s ∧ s.heap.IsListIter it a i ∧ H it = none
theorem loopH (hT : HotT Y T) (yx : Y.xe = fun _ _ => False) (yp : Y.pn = []) (ye : it ∈ Y.ex) (pg : PGH Y T tg g) (pt : PTs Y ifs tt) (pe : PE Y elt te) (W : Nat → Nat → Hp → Prop) (wT : ∀ i m H, W i m H → T H) (Qf : Hp → Prop)
    (turn : ∀ i m H, W i m H → ((Itl Y.K a).stop i H ∧ Qf H) ∨ ((Itl Y.K a).go i H ∧ ∃ Nx : Hp → Prop, (∀ H', Nx H' → ∃ m', m' < m ∧ W (i + 1) m' H') ∧ ∀ x H', (Itl Y.K a).yld i H x H' → g x (wipe σ vs) H' fun σ2 H2 => wipe σ2 vs = wipe σ vs ∧ tt σ2 H2 fun b H3 =>
      if b = true then te σ2 H3 fun y H4 => ∃ acc, H4 D = some (.lst acc) ∧ acc.length < sizeLine ∧ Nx (upd H4 D (.lst (acc ++ [y]))) else Nx H3))
    (out : ∀ H' s', Inv Y [] (wipe σ vs) H' s' → Qf H' → R (.ok .next) s') {m0 : Nat} {H0 : Hp} (st : Mid Y it a (wipe σ vs) 0 H0 s) (w0 : W 0 m0 H0) :
    codeAny (model Y.prog Y.w) Y.A (.compLoop (.ListComp elt [⟨tg, iter, ifs, 0⟩] scope pos) 0 (.ref it) (.ref D) Y.env) R s := by
  have quiet : ∀ {α : Type} {t : Sem α} {Q Q' : α → Shared → Prop} {E : Value → Shared → Prop} {s : Shared}, wpAny (model Y.prog Y.w) Y.A t Q Y.xe s → (∀ a s, Q a s → Q' a s) → wpAny (model Y.prog Y.w) Y.A t Q' E s := fun h k => by
    rw [yx] at h
    exact thnF h k
  refine compLoop_any (fun n s' => ∃ i H', Mid Y it a (wipe σ vs) i H' s' ∧ W i n H') ?_ m0 ⟨0, H0, st, w0⟩
  rintro n s1 ⟨i, H1, ⟨I1, t1, n1⟩, w1⟩
  have only : ∀ q ∈ Y.pn ++ [], q.1 ≠ it := fun q hq => by
    rw [yp] at hq
    cases hq
  have x1 := I1.ok.exf it ye
  have fp1 : FpOk Y [] H1 it := ⟨n1, x1.1, I1.ok.exfs it ye, .inl ye, fun x c e => x1.2 x c e, only⟩
  rcases turn i n H1 w1 with ⟨⟨xs, hq, hle⟩, qf⟩ | ⟨⟨xs, x, hq, hx⟩, Nx, hNx, step⟩
  · obtain ⟨us, rv, hl, _⟩ := I1.list hq
    obtain ⟨x1', hot, nx⟩ := hT [] _ H1 s1 I1 (wT _ _ _ w1)
    have far : x1' ≠ it := fun z => nx (by rw [z]; exact n1)
    have hlen := rv.length
    refine list_end hot far t1 hl.isList (by simp; omega) fun h2 k2 => ?_
    exact out H1 _ (I1.turned (t' := s1.toks) (fun b o z e => k2 b o z e) n1 x1.1 (.inl ye) x1.2 only) qf
  · obtain ⟨us, rv, hl, _⟩ := I1.list hq
    obtain ⟨u, hu, ru⟩ := rv.get hx
    refine wpAny_pyNext_list_item t1 hl.isList (x := u) (by simpa using hu) fun h2 t2 k2 => ?_
    have I2 : Inv Y [] (wipe σ vs) H1 { s1 with heap := h2 } := I1.turned (t' := s1.toks) (fun b o z e => (k2.2 b z).trans e) n1 x1.1 (.inl ye) x1.2 only
    obtain ⟨o2, e2, c2, d2⟩ := id t2
    refine go_of (s := { s1 with heap := h2 }) e2 c2 d2 (by decide) ?_
    have I3 : Inv Y [(it, o2)] (wipe σ vs) H1 { s1 with heap := h2 } := I2.pins_of fun q hq => by
      rw [List.mem_singleton.mp hq]
      exact ⟨e2, n1, x1.1, I1.ok.exfs it ye, fun v z => by rw [d2] at z; cases z⟩
    refine quiet (pg.run _ _ _ H1 x u _ (wT _ _ _ w1) I3 ru (step x H1 ⟨rfl, fun ys hy => by rw [I1.list_inj hy hq]; exact hx⟩)) fun _ s4 ⟨σ4, H4, I4, w4, q4⟩ => ?_
    refine quiet (pt.run _ s4 σ4 H4 _ I4 q4) fun b s5 ⟨H5, I5, q5⟩ => ?_
    have ends : ∀ {s' : Shared} {H' : Hp}, Inv Y [(it, o2)] σ4 H' s' → Nx H' → ∃ m, m < n ∧ ∃ i H', Mid Y it a (wipe σ vs) i H' s' ∧ W i m H' := fun {s' H'} I' nx => by
      obtain ⟨m, hm, w'⟩ := hNx H' nx
      have pi := I'.pin (it, o2) (List.mem_append_right _ List.mem_cons_self)
      refine ⟨m, hm, i + 1, H', ⟨(I'.pins_of (pins' := []) fun q hq => nomatch hq).weak (by rw [← w4, wipe_length]) fun j v e => ?_, ⟨o2, pi.1, c2, d2⟩, pi.2.1⟩, w'⟩
      rw [← w4] at e
      exact (wipe_some e).1
    cases b with
    | false => exact ends I5 q5
    | true =>
      refine quiet (pe.run _ s5 σ4 H5 _ I5 q5) fun z s6 ⟨y, H6, I6, r6, acc, hD, hz, nx⟩ => ?_
      exact app_ok I6 hD hz r6 fun s7 I7 => ends I7 nx
end
section
variable {X : Cx}
/-- as tLc, where T holds at each turn -/
def tLcT (T : Hp → Prop) (wi : TI) (g : TG) (tt : TT) (te : TE) (vs : List Nat) : TE := fun σ H Q => wi σ H fun J H1 => ∀ D, H1 D = none → ∃ W : Nat → Nat → Hp → Prop, (∀ i m H, W i m H → T H) ∧ (∃ m, W 0 m (upd H1 D (.lst []))) ∧ ∀ i m H, W i m H →
  (J.stop i H ∧ Q (.ref D) H) ∨ (J.go i H ∧ ∃ Nx : Hp → Prop, (∀ H', Nx H' → ∃ m', m' < m ∧ W (i + 1) m' H') ∧ ∀ x H', J.yld i H x H' → g x (wipe σ vs) H' fun σ2 H2 => wipe σ2 vs = wipe σ vs ∧ tt σ2 H2 fun b H3 =>
    if b = true then te σ2 H3 fun y H4 => ∃ acc, H4 D = some (.lst acc) ∧ acc.length < sizeLine ∧ Nx (upd H4 D (.lst (acc ++ [y]))) else Nx H3)
theorem pe_lcH {T : Hp → Prop} {elt tg iter : Expr} {ifs : List Expr} {scope : Scope} {own : List (Str × Nat)} {pos : Pos} {tl : TE} {g : TG} {tt : TT} {te : TE} (hT : ∀ (s : Shared) (H : Hp) (C : Addr) (cl : List (Str × Addr)) (fp : List Addr), HotT (X.blk s H scope (compEnvC scope cl C X.env) fp) T) (hN : X.N.Nodup) (hl : PE X iter tl) (ok : BlkOk X.N X.env.scope scope own)
    (hg : ∀ (s : Shared) (H : Hp) (C : Addr) (cl : List (Str × Addr)) (fp : List Addr), PGH (X.blk s H scope (compEnvC scope cl C X.env) fp) T tg g)
    (ht : ∀ (s : Shared) (H : Hp) (C : Addr) (cl : List (Str × Addr)) (fp : List Addr), PTs (X.blk s H scope (compEnvC scope cl C X.env) fp) ifs tt)
    (he : ∀ (s : Shared) (H : Hp) (C : Addr) (cl : List (Str × Addr)) (fp : List Addr), PE (X.blk s H scope (compEnvC scope cl C X.env) fp) elt te) (hs : ∀ x, foldedSetIterable iter X.env x = pure x := by intro _; rfl) :
    PE X (.ListComp elt [⟨tg, iter, ifs, 0⟩] scope pos) (tLcT T (iList X.K tl) g tt te (own.map (·.2))) := by
  refine ⟨fun pins s σ H Q I h => ?_⟩
  have closes : ∀ y ∈ scope.names, y.2 = .free → ∃ c, X.env.cells.lookup y.1 = some c := fun y hy e => I.ok.has _ ((ok.free y hy e).elim .inl .inr)
  rw [eval_ListComp]
  refine wpAny_comprehension_free rfl hs (closure_ok closes) ok.kind (fun y hy e => by rw [ok.uniq y hy, e]) (thn (hl.run pins s σ H _ I h) fun v s1 ⟨x, H1, I1, r1, a, ea, ⟨xs0, hq⟩, q⟩ => ?_)
  subst ea
  cases r1
  obtain ⟨us, rv, hal, _⟩ := I1.list hq
  refine wpAny_pyIter_list hal.isList (wpAny_newObj_type (newEnv_comp ?_) (by show 0 ≤ sizeLine; decide))
  -- the walk's object
  have gi := Heap.get?_push_size s1.heap (o := { cls := .type "list_iterator", data := .fields #[.ref a, .int 0 0] }) rfl
  have k2 : ∀ b o, s1.heap.get? b = some o → (s1.heap.push { cls := .type "list_iterator", data := .fields #[.ref a, .int 0 0] }).get? b = some o := fun b o e => Heap.get?_push_of_some _ e
  have I2 := I1.kept (t' := s1.toks) k2
  have fi := I1.fpOk (Nat.le_refl _) (I1.hok.fresh (Nat.le_refl _))
  have li := Heap.lt_size gi
  generalize eh2 : s1.heap.push { cls := .type "list_iterator", data := .fields #[.ref a, .int 0 0] } = h2 at gi k2 I2 li ⊢
  generalize ei : s1.heap.objs.size = it at gi fi li ⊢
  -- the new list
  have gD := Heap.get?_push_size h2 (o := { cls := .type "list", data := .seq ([] : List Value).toArray }) rfl
  have k3 : ∀ b o, h2.get? b = some o → (h2.push { cls := .type "list", data := .seq ([] : List Value).toArray }).get? b = some o := fun b o e => Heap.get?_push_of_some _ e
  have nD : H1 h2.objs.size = none := I2.hok.fresh (Nat.le_refl _)
  have I3 := I2.laid (t' := s1.toks) (a := h2.objs.size) (o := .lst []) k3 (Nat.le_refl _) ⟨Nat.zero_le _, [], 0, .nil, gD⟩
  have l3 : it < (h2.push { cls := .type "list", data := .seq ([] : List Value).toArray }).objs.size := by
    rw [Heap.size_push]
    exact Nat.lt_succ_of_lt li
  obtain ⟨W, wT, ⟨m0, w0⟩, turn⟩ := q h2.objs.size nD
  have iD : it ≠ h2.objs.size := Nat.ne_of_lt li
  have f3 : FpOk X pins (upd H1 h2.objs.size (.lst [])) it := ⟨by rw [upd_ne iD]; exact fi.1, fi.2⟩
  generalize eD : h2.objs.size = D at I3 w0 turn iD f3 nD gD ⊢
  generalize eh3 : h2.push { cls := .type "list", data := .seq ([] : List Value).toArray } = h3 at I3 k3 gD l3 ⊢
  generalize eH3 : upd H1 D (.lst []) = H3 at I3 w0 f3 ⊢
  -- the block
  have J3 : Inv X pins σ H3 ({ s1 with heap := h3 } : Shared) := I3
  clear I3 I2
  have I4 := block_start J3 ok hN (fp := [it]) fun b hb => by rw [List.mem_singleton.mp hb]; exact ⟨f3, l3⟩
  have k4 : ∀ b o, h3.get? b = some o → (pushCells (h3.push { cls := .type "dict", data := .dict #[] }) scope.names).get? b = some o := fun b o e => pushCells_keeps _ _ _ _ (Heap.get?_push_of_some _ e)
  have g4 := k4 _ _ (k3 _ _ gi)
  generalize es3 : ({ s1 with heap := h3 } : Shared) = s3 at J3 I4
  have e3 : s3.heap = h3 := by rw [← es3]
  have pg := hg s3 H3 s3.heap.objs.size (cellsFrom (s3.heap.objs.size + 1) scope.names (cloFrom X.env.cells scope.names [])) [it]
  have pt := ht s3 H3 s3.heap.objs.size (cellsFrom (s3.heap.objs.size + 1) scope.names (cloFrom X.env.cells scope.names [])) [it]
  have pe := he s3 H3 s3.heap.objs.size (cellsFrom (s3.heap.objs.size + 1) scope.names (cloFrom X.env.cells scope.names [])) [it]
  have cL : (compEnvC scope (cellsFrom (s3.heap.objs.size + 1) scope.names (cloFrom X.env.cells scope.names [])) s3.heap.objs.size X.env).locals = h3.objs.size := by rw [← e3]; rfl
  have tb := hT s3 H3 s3.heap.objs.size (cellsFrom (s3.heap.objs.size + 1) scope.names (cloFrom X.env.cells scope.names [])) [it]
  have start : Mid _ it a _ 0 H3 _ := ⟨I4, ⟨_, by rw [← es3]; exact g4, rfl, rfl⟩, f3.1⟩
  have loop := loopH (Y := X.blk s3 H3 scope (compEnvC scope (cellsFrom (s3.heap.objs.size + 1) scope.names (cloFrom X.env.cells scope.names [])) s3.heap.objs.size X.env) [it]) (R := compPost (model X.prog X.w) X.A X.xe none (fun v s' => EP X pins σ Q v s') (.ref D) h3.objs.size) (iter := iter) (scope := scope) (pos := pos) (D := D) tb rfl rfl (List.mem_singleton.mpr rfl) pg pt pe W wT (Q (.ref D)) turn (fun H' s' I6 qf => ?_) start w0
  · subst es3
    exact codeAny_compStart_list loop (wpAny_pyIter_listiter ⟨_, g4, rfl, rfl⟩ loop)
  · have I7 : Inv X pins σ H' s' := J3.call' (ch := [it]) I6.os I6.base I6.hok I6.bare fun b hb => by
      rw [List.mem_singleton.mp hb]
      exact ⟨f3.2.2.2.1, f3.2.1, f3.2.2.2.2.1, f3.2.2.2.2.2⟩
    have nC := I6.free
    obtain ⟨m, hn, _⟩ := I6.loc
    have nC' : H' h3.objs.size = none := by rw [← cL]; exact nC
    have fC := J3.fpOk (b := h3.objs.size) (by rw [e3]; exact Nat.le_refl _) nC'
    refine ⟨m, by rw [← cL]; exact hn, fun h'' sb => ⟨.ref D, H', I7.turned (t' := s'.toks) (fun b o z e => (sb.2 b z).trans e) nC' fC.2.1 fC.2.2.2.1 fC.2.2.2.2.1 fC.2.2.2.2.2, rfl, qf⟩⟩
end
end HotL
/-! ### defs called there -/
namespace HotL
open PySem PySem.Spec PyProof PyProof.Rows L2 L2H HotX DL
/-- a def's promise where the handled exception is tracked -/
structure FnT (P : Program) (w : World) (K : PySem.W.Frag) (mg : Str → Option Value) (base : Heap) (CX : CXT) (k : Nat) (f : Addr) (fd : FuncData) (ps : List Str) (sp : Addr → Sp) : Prop where
  len : ∀ a vs H Q E, sp a vs H Q E → vs.length = ps.length
  run : ∀ (A : Around) (outer : List Env) (s : Shared) (H : Hp) (args : Args) (us : List Value) (vs : List V) (Q : VK) (E : XK) (a : Addr), RoomH k A → A.handled = some (.ref a) → Env0 P w K mg base A outer s H → BindsTo s fd args (ps.zip us) → Vals vs us → sp a vs H Q E →
    codeAny (model P w) A (.call (.ref f) args) (CR CX outer P w H s Q E) s
/-- the context of its body -/
def cxT (CX : CXT) (P : Program) (w : World) (K : PySem.W.Frag) (mg : Str → Option Value) (base : Heap) (N : List Str) (qual : Str) (scope : Scope) (f : Addr) (cd : Value) (A : Around) (outer : List Env) (s : Shared) (H : Hp) (E : XK) : Cx :=
  { cxOf CX P w K mg base N qual scope f cd A outer s H E with calm := false }
section
variable {CX : CXT} {P : Program} {w : World} {K : PySem.W.Frag} {mg : Str → Option Value} {base : Heap} {N ps : List Str} {qual : Str} {scope : Scope} {f : Addr} {cd : Value} {A : Around} {outer : List Env} {s s1 : Shared} {H : Hp} {E : XK} {us : List Value} {vs : List V}
theorem inv_startT (S : FnScope N ps scope) (e0 : Env0 P w K mg base A outer s H) (hl : vs.length = ps.length) (r : Vals vs us)
    (x : InCallC s s.heap.objs.size (bindL (envOfC qual scope s.heap.objs.size f cd).kindOf (ps.zip us) fun _ => none) (cellsFrom (s.heap.objs.size + 1) scope.names []) (bindC (envOfC qual scope s.heap.objs.size f cd).kindOf (ps.zip us) fun _ => none) s1) :
    Inv (cxT CX P w K mg base N qual scope f cd A outer s H E) [] (L2.start N vs) H s1 := by
  have e1 : Env0 P w K mg base { A with handled := none } outer s H := ⟨e0.frames, e0.mod, e0.bs, e0.bsz, e0.funs, e0.frf, e0.hok, e0.bare⟩
  have I := inv_start (CX := CX) (E := E) S rfl e1 hl r x
  have o := I.ok
  exact ⟨⟨o.mod, o.kind, o.glob, o.blt, o.above, o.inj, o.has, o.cab, fun z => Bool.noConfusion (show false = true from z), Around.frames_deeper e0.frames, o.stk, o.exf, o.bs, o.bsz, o.noex, o.exfs, o.funs, o.frf⟩, I.os, I.bare, I.base, I.loc, I.cell, I.free, I.freeC, I.pin, I.hok, I.len⟩
end
section
variable {CX : CXT} {P : Program} {w : World} {K : PySem.W.Frag} {mg : Str → Option Value} {base : Heap} {k : Nat} {f : Addr} {fd : FuncData} {x qual : Str} {st : Stmt} {N ps : List Str} {sp : Addr → Sp}
theorem fnT_of (F : Fun K x qual st f fd) (S : FnScope N ps (defScope st)) (len : ∀ a vs H Q E, sp a vs H Q E → vs.length = ps.length)
    (hb : ∀ (cdv : Value) (A : Around) (outer : List Env) (s : Shared) (H : Hp) (vs : List V) (Q : VK) (E : XK) (a : Addr), A.handled = some (.ref a) → RoomH k (A.deeper (envOfC qual (defScope st) s.heap.objs.size f cdv)) → sp a vs H Q E →
      ∃ t, PSs (cxT CX P w K mg base N qual (defScope st) f cdv A outer s H E) (defBody st) t ∧ t { nx := fun _ H' => Q .non H', rt := Q } (L2.start N vs) H) :
    FnT P w K mg base CX (k + 1) f fd ps sp := by
  obtain ⟨oc, od, kV, doc, pm, an, cdv, ct, osl, rfl, lk, hcd⟩ := F.ex
  constructor
  · exact len
  intro A outer s H args us vs Q E a hr hh e0 hbi r hsp
  have hl := len _ _ _ _ _ hsp
  have up : ∀ {b : Addr} {o : Obj}, base.get? b = some o → s.heap.get? b = some o := fun {b o} e => (e0.bs b o e).1
  have KX : K.In s.heap := e0.mod.kin.keeps fun b o e => up e
  have names : ∀ y ∈ ps.zip us, (defScope st).names.lookup y.1 = some .local ∨ ((defScope st).names.lookup y.1 = some .cell ∧ ((cellsFrom (s.heap.objs.size + 1) (defScope st).names []).lookup y.1).isSome = true) := fun y hy =>
    (S.par y.1 (List.of_mem_zip (show (y.1, y.2) ∈ ps.zip us from hy)).1).imp id fun q => ⟨q, PySem.W.cellsFrom_some _ _ _ (.inl q)⟩
  refine codeAny_call_function hr.depth (KX _ _ lk) rfl S.co S.gen rfl (PySem.W.codeRec_of KX hcd) (hbi _ _ _ _ (wpAny_newFunctionEnv_cells S.kind names fun env he s1 x => ?_))
  subst he
  refine ⟨(e0.mod.nolimit.keeps fun b o e => up e).keeps x.toInCall.keep, codeAny_func ?_⟩
  obtain ⟨t, ht, hq⟩ := hb cdv A outer s H vs Q E a hh (hr.deeper _) hsp
  refine wpAny_mono (ht.run [] s1 _ H _ (inv_startT S e0 hl r x) hq) (fun fl s2 q2 => ?_) fun e s2 q2 => q2
  cases fl with
  | ret u =>
    obtain ⟨v, σ2, H2, J, rv, q⟩ := q2
    exact ⟨v, H2, J.os, J.bare, J.base, J.hok, rv, q⟩
  | next =>
    obtain ⟨σ2, H2, J, q⟩ := q2
    exact ⟨.non, H2, J.os, J.bare, J.base, J.hok, rfl, q⟩
  | brk => exact let ⟨_, _, _, z⟩ := q2; (show False from z).elim
  | cont => exact let ⟨_, _, _, z⟩ := q2; (show False from z).elim
end
/-! ### the call -/
section
variable {X : Cx} {CX : CXT} {k : Nat} {f : Addr} {fd : FuncData} {ps : List Str} {sp : Addr → Sp} {E : L2.St → XK} {x : Str} {q pos : Pos} {e : Expr} {es : List Expr} {t : TA} {a : Addr}
theorem pe_callT (F : FnT X.prog X.w X.K X.mg X.base CX k f fd ps sp) (hr : RoomH k X.A) (hh : X.A.handled = some (.ref a)) (hg : Gl X x) (hm : X.mg x = some (.ref f)) (hk : PySem.W.keepIn X.K (.ref f) = true) (hb : Binds X.K fd ps []) (hx : ∀ σ, PassesAt CX X σ (E σ))
    (ha : PA X (e :: es) t) (hdb : (x == ("__debug__" : Str)) = false := by decide) (he : starEach (e :: es) X.env = (false, eval e X.env) :: starEach es X.env := by rfl) (hpl : (backTo pos (starEach es X.env)).any (·.1) = false := by rfl) :
    PE X (.Call (.Name x q) (e :: es) [] pos) (tCallS (sp a) E t) := by
  refine ⟨fun pins s σ H Q I h => wpAny_Call_Name_kw (ld_glob I hg hm ?_ hdb)⟩
  refine PySem.W.callWith_K (h₀ := X.base) I.ok.mod.kin hk (thn (ha.run pos pins s σ H _ I h) fun us s1 ⟨vs, H1, I1, r, q2⟩ => ⟨I1.kIn, ?_⟩) he hpl
  have bi := hb s1 us I1.kIn (by rw [List.append_nil, ← r.length]; exact F.len _ _ _ _ _ q2)
  rw [List.append_nil] at bi
  refine wpAny_call (codeAny_mono (F.run X.A X.stack s1 H1 ⟨us, []⟩ us vs Q (E σ) a hr hh I1.env0 bi r q2) fun rr s2 hq => ?_)
  match rr, hq with
  | .error er, hq => exact hx σ pins H1 s1 er s2 I1 hq
  | .ok (.ret u), hq => exact I1.after hq
end
end HotL
namespace DL
open PySem PySem.Spec L2 L2H HotL
section
variable {X : Cx} {B : Hp} {es ifs : List Expr} {elt iter tg : Expr} {scope : Scope} {own : List (Str × Nat)} {pos : Pos} {te te0 : DTE} {g : DTG} {tt : DTT}
theorem exg_hot {a C d : Addr} (hh : X.A.handled = some (.ref a)) : HotT X (fun H => H a = some (exg a C d)) := fun pins σ H s I e => by
  obtain ⟨o, vs, h1, _, _, h4, h5⟩ := (show ObjOk X.prog X.w H s.heap a (.ext fun h => ∃ (o : Obj) (vs : Array Value), h.get? a = some o ∧ o.cls = .ref C ∧ o.dict = some d ∧ o.data = .fields vs ∧ vs[2]? = some .none) from I.hok a _ e).1
  exact ⟨a, ⟨hh, o, vs, h1, h4, h5⟩, by rw [e]; simp⟩
/-- the handled exception is among what is known -/
def HotB (X : Cx) (B : Hp) : Prop := ∃ a C d, X.A.handled = some (.ref a) ∧ B a = some (exg a C d)
theorem dgh_tup {T : Hp → Prop} {vs : List Nat} {k : Nat} {t : DTGs} {n : Nat} (hT : HotT X T) (h : PGs X es (tDGsw X.K B vs t)) (hn : (assignEach es X.env).length = n := by rfl) (hst : (assignEach es X.env).findIdx? (·.1) = none := by rfl) : PGH X T (.Tuple es k pos) (tDGw X.K B vs (dgTup n t)) := by
  have q := pgh_tup (k := k) (pos := pos) hT h hn hst
  refine ⟨fun pins s σ H v u Q tH I r ⟨F, G, δ, d, R, g, sl, i, ⟨ds, e, hl, p⟩, c⟩ => ?_⟩
  subst e
  cases i with
  | tup e2 r2 => exact q.run pins s σ H _ u Q tH I r ⟨_, _, rfl, SqT.of (g.fz _ _ e2), by rw [r2.length]; exact hl, F, G, δ, ds, R, g, sl, r2, p, c⟩
theorem list_in {K : PySem.W.Frag} {σ : L2.St} {H : Hp} {R : It → Hp → Prop} (h : tDI K B (diL te) σ H R) : iList K (tD K B te) σ H R := by
  obtain ⟨F, G, δ, P, g, s, p, c⟩ := h
  refine ⟨F, G, δ, _, g, s, p, fun d G1 v F1 H1 ⟨ds, e, p1⟩ l1 g1 i1 => ?_⟩
  subst e
  cases i1 with
  | lst q r =>
    have there : ∀ {F' : Hp} {G' : Gp} {H' : Hp}, Le F1 F' → Good K B F' G' H' → SqL K H' _ _ := fun l g' => SqL.of (g'.fz _ _ (l _ _ q))
    refine ⟨_, rfl, ⟨_, SqL.of (g1.fz _ _ q)⟩, c ds G1 F1 H1 _ p1 l1 g1 ⟨fun i F' G' H' l g' hi => ⟨_, _, there l g', List.getElem?_eq_getElem (by rw [r.length]; exact hi)⟩, fun i F' G' H' x H2 d2 l g' hd ⟨e, hx⟩ => ?_, fun i F' G' H' l g' hi => ⟨_, there l g', by rw [r.length]; exact hi⟩⟩⟩
    subst e
    have h1 := hx _ (there l g')
    obtain ⟨v2, h2, h3⟩ := r.get hd
    rw [h1] at h2
    cases h2
    exact ⟨F', Le.refl F', g', h3.le l⟩
theorem lcPT_imp {wi : DTI} {vs : List Nat} {a C dx : Addr} (hB : B a = some (exg a C dx)) : ∀ σ H Q, tD X.K B (dLcP wi g tt te vs) σ H Q → tLcT (fun H => H a = some (exg a C dx)) (tDI X.K B wi) (tDGw X.K B vs g) (tDT X.K B tt) (tD X.K B te) vs σ H Q := fun σ H Q ⟨F, G, δ, P, gd, s, p, c⟩ => by
  refine ⟨F, G, δ, _, gd, s, p, fun ds G1 F1 H1 J ⟨hz, pp, ff, turn, fin⟩ l1 g1 dl D hD => ?_⟩
  have gD := g1.gnone hD
  refine ⟨fun i m H => m = ds.length - i ∧ i ≤ ds.length ∧ ∃ F', Le F1 F' ∧ Good X.K B F' (gupd G1 D (.lst (((ds.take i).filter pp).map ff))) H, fun i m H ⟨_, _, F', _, g'⟩ => g'.fz _ _ (g'.bs _ _ hB), ⟨_, rfl, Nat.zero_le _, F1, Le.refl F1, g1.newM hD (m := .lst []) .nil⟩, ?_⟩
  rintro i m H ⟨rfl, hi, F2, l2, g2⟩
  by_cases hlt : i < ds.length
  · have hd := List.getElem?_eq_getElem hlt
    refine .inr ⟨dl.go i F2 _ H l2 g2 hlt, fun H' => ∃ F', Le F1 F' ∧ Good X.K B F' (gupd G1 D (.lst (((ds.take (i + 1)).filter pp).map ff))) H', fun H' h => ⟨ds.length - (i + 1), by omega, rfl, hlt, h⟩, fun x H' y => ?_⟩
    obtain ⟨F3, l3, g3, i3⟩ := dl.yl i F2 _ H x H' _ l2 g2 hd y
    have l13 : Le F F3 := (l1.trans l2).trans l3
    refine ⟨F3, _, _, _, _, g3, (s.le l13).wipe vs, i3, turn _ _ (List.getElem_mem hlt) (GLe.gupd gD), fun δ4 G4 σ4 F4 H4 p4 l4 g4 s4 e4 => ⟨e4.trans (wipe_wipe vs), ?_⟩⟩
    obtain ⟨rfl, p4⟩ := p4
    refine ⟨F4, _, δ4, _, g4, s4, p4, fun b G5 F5 H5 p5 l5 g5 => ?_⟩
    obtain ⟨rfl, hb, p5⟩ := p5
    have lens : (((ds.take i).filter pp).map ff).length < sizeLine := by
      rw [List.length_map]
      refine Nat.lt_of_le_of_lt (Nat.le_trans (List.length_filter_le _ _) ?_) hz
      rw [List.length_take]
      exact Nat.min_le_right _ _
    cases b with
    | true =>
      refine ⟨F5, _, δ4, _, g5, s4.le l5, p5 rfl, fun d G6 v F6 H6 ⟨e6, hy⟩ l6 g6 i6 => ?_⟩
      subst e6
      subst hy
      obtain ⟨vs', e6, r6⟩ := g6.mlst gupd_same
      refine ⟨vs', e6, by rw [r6.length]; exact lens, F6, ((l2.trans l3).trans l4).trans (l5.trans l6), ?_⟩
      have w := g6.write gupd_same (o := .lst (vs' ++ [v])) (m := .lst (((ds.take i).filter pp).map ff ++ [ff ds[i]])) (r6.append (.one i6))
      rw [gupd_gupd] at w
      rw [filter_take_succ hd, if_pos hb.symm, List.map_append]
      exact w
    | false =>
      rw [if_neg Bool.false_ne_true]
      refine ⟨F5, ((l2.trans l3).trans l4).trans l5, ?_⟩
      rw [filter_take_succ hd, if_neg (by rw [← hb]; exact Bool.false_ne_true), List.append_nil]
      exact g5
  · have e : i = ds.length := by omega
    subst e
    rw [List.take_length] at g2
    refine .inl ⟨dl.st _ F2 _ H l2 g2 (Nat.le_refl _), ?_⟩
    obtain ⟨F4, l4, g4, i4⟩ := g2.freezeL gupd_same
    rw [gdel_gupd gD] at g4
    exact c _ G1 _ F4 H fin ((l1.trans l2).trans l4) g4 i4
theorem d_lcPH (hB : HotB X B) (hN : X.N.Nodup) (hl : DE X B iter te0) (ok : BlkOk X.N X.env.scope scope own)
    (hg : ∀ (T : Hp → Prop) (s : Shared) (H : Hp) (C : Addr) (cl : List (Str × Addr)) (fp : List Addr), HotT (X.blk s H scope (compEnvC scope cl C X.env) fp) T → PGH (X.blk s H scope (compEnvC scope cl C X.env) fp) T tg (tDGw X.K B (own.map (·.2)) g))
    (ht : ∀ (s : Shared) (H : Hp) (C : Addr) (cl : List (Str × Addr)) (fp : List Addr), PTs (X.blk s H scope (compEnvC scope cl C X.env) fp) ifs (tDT X.K B tt))
    (he : ∀ (s : Shared) (H : Hp) (C : Addr) (cl : List (Str × Addr)) (fp : List Addr), PE (X.blk s H scope (compEnvC scope cl C X.env) fp) elt (tD X.K B te)) (hs : ∀ x, foldedSetIterable iter X.env x = pure x := by intro _; rfl) :
    DE X B (.ListComp elt [⟨tg, iter, ifs, 0⟩] scope pos) (dLcP (diL te0) g tt te (own.map (·.2))) := by
  obtain ⟨a, C, d, hh, hb⟩ := hB
  refine PE.imp (pe_lcH (T := fun H => H a = some (exg a C d)) (fun s H C' cl fp => exg_hot hh) hN hl ok (fun s H C' cl fp => hg _ s H C' cl fp (exg_hot hh)) ht he hs) fun σ H Q h => ?_
  exact list_in (lcPT_imp hb σ H Q h)
end
section
variable {P : Program} {w : World} {K : PySem.W.Frag} {mg : Str → Option Value} {base : Heap} {x : Str} {st : Stmt} {N ps : List Str} {k : Nat} {c : DSp}
/-- as toSp, the handled exception among what is known -/
def toSpT (K : PySem.W.Frag) (c : DSp) (a : Addr) : Sp := fun vs H Q E => ∃ F G ds P R, (∃ C d, F a = some (exg a C d)) ∧ Good K F F G H ∧ IsL K F vs ds ∧ c ds G P R ∧ Cont K F F P Q ∧ ContX K F R E
/-- a def that is called within a suite -/
def DfnT (P : Program) (w : World) (K : PySem.W.Frag) (mg : Str → Option Value) (base : Heap) (x : Str) (ps : List Str) (c : DSp) (k : Nat) : Prop := ∃ f fd, FnT P w K mg base CX0 k f fd ps (toSpT K c) ∧ mg x = some (.ref f) ∧ PySem.W.keepIn K (.ref f) = true ∧ Binds K fd ps []
theorem dfnT_of (T : TopFn K mg x st ps) (S : FnScope N ps (defScope st)) (len : ∀ ds G P R, c ds G P R → ds.length = ps.length)
    (hb : ∀ (f : Addr) (cdv : Value) (A : Around) (outer : List Env) (s : Shared) (H : Hp) (E : XK) (B : Hp), RoomH k (A.deeper (PyProof.Rows.envOfC x (defScope st) s.heap.objs.size f cdv)) → HotB (cxT CX0 P w K mg base N x (defScope st) f cdv A outer s H E).nox B →
      ∃ t : DTS, DSs (cxT CX0 P w K mg base N x (defScope st) f cdv A outer s H E).nox B (defBody st) t ∧ ∀ ds G P R, c ds G P R → t (dEnds P) (dstart N ds) G) : DfnT P w K mg base x ps c (k + 1) := by
  obtain ⟨f, fd, F, m, b⟩ := T
  refine ⟨f, fd, fnT_of F S (fun a vs H Q E ⟨F0, G, ds, P', R, _, g, i, h, _⟩ => by rw [i.length]; exact len _ _ _ _ h) fun cdv A outer s H vs Q E a hh hr ⟨F0, G, ds, P', R, ⟨C, d, hx⟩, g, i, h, kc, kx⟩ => ?_, m, F.kp, b⟩
  obtain ⟨t, h1, h2⟩ := hb f cdv A outer s H E F0 hr ⟨a, C, d, hh, hx⟩
  exact ⟨_, h1.nox, F0, G, dstart N ds, dEnds P', g, Sl.start N i, h2 ds G P' R h, ⟨fun δ' G' σ' F' H' p' l' g' s' => kc .non G' .non F' H' p' l' g' .non, kc, ContS.nil, ContS.nil⟩⟩
end
section
variable {X : Cx} {B : Hp} {e : Expr} {es : List Expr} {pos p : Pos} {tl : DTA} {k : Nat} {ps : List Str} {c : DSp} {x : Str}
theorem d_callT {j : Nat} (hB : HotB X B) (D : DfnT X.prog X.w X.K X.mg X.base x ps c k) (hr : RoomH j X.A) (hg : Gl X x) (ha : DA X B (e :: es) tl) (hj : k ≤ j := by decide)
    (hdb : (x == ("__debug__" : Str)) = false := by decide) (he : starEach (e :: es) X.env = (false, eval e X.env) :: starEach es X.env := by rfl) (hpl : (backTo pos (starEach es X.env)).any (·.1) = false := by rfl) :
    DE X B (.Call (.Name x p) (e :: es) [] pos) (dCall c noX tl) := by
  obtain ⟨f, fd, F, m, kp, b⟩ := D
  obtain ⟨a, C, d, hh, hx⟩ := hB
  refine PE.imp (pe_callT (E := fun _ _ _ _ => False) F (hr.mono hj) hh hg m kp b (fun σ pins H s e s' I z => z.elim) ha hdb he hpl) fun σ H Q ⟨F0, G, δ, P, g, s, q, kc⟩ => ?_
  exact ⟨F0, G, δ, _, g, s, q, fun ds G1 vs F1 H1 p1 l1 g1 i1 => ⟨F1, G1, ds, P, noX, ⟨C, d, g1.bs _ _ hx⟩, g1.rebase, i1, p1, (kc.le l1).rebase g1.bs, contX_no⟩⟩
end
end DL

set_option Elab.async false
set_option linter.all false
set_option maxRecDepth 100000
set_option maxHeartbeats 4000000
/-! try: .. except X as e: .., the caught exception a value; try: .. except X: ... -/
namespace DL
open PySem PySem.Spec L2 PyProof.Rows
section
variable {X : Cx} {pins : List (Addr × Obj)} {σ : L2.St} {H : Hp} {s : Shared}
/-- the caught object is known from now on -/
theorem inv_caught {B : Heap} {sI : Shared} {σ' : L2.St} {a C d : Addr} {oe : Obj} {vs : Array Value} (hs : X.stack = X.env :: X.outer) (hex : X.ex = []) (J : Inv X pins σ' H sI) (I : Inv X pins σ' H s) (nb : ∀ b o, sI.heap.get? b = some o → b ∉ frs X.stack → B.get? b = some o) (hB : B.get? a = none)
    (na : H a = none) (nL : a ≠ X.env.locals) (nfr : a ∉ frs (X.env :: X.outer)) (ha : s.heap.get? a = some oe) (hc : oe.cls = .ref C) (hd : oe.dict = some d) (hv : oe.data = .fields vs) (hz : vs[2]? = some .none) : Inv X pins σ' (upd H a (exg a C d)) s := by
  have nI : ∀ {b : Addr} {o : Obj}, sI.heap.get? b = some o → b ≠ a := fun {b o} e z => by
    subst z
    have z1 := nb b o e (by rw [hs]; exact nfr)
    rw [hB] at z1; cases z1
  have n0 : ∀ {b : Addr} {o : Obj}, X.s_0.heap.get? b = some o → b ≠ a := fun {b o} e => by
    obtain ⟨o', e1⟩ := J.base.there b o e (by rw [hex]; simp)
    exact nI e1
  have up : ∀ {b : Addr} {o : HO}, H b = some o → upd H a (exg a C d) b = some o := fun {b o} e => by rw [upd_ne (fun z => by rw [z, na] at e; cases e)]; exact e
  refine ⟨I.ok, I.os, I.bare, ⟨I.base.keep, I.base.slot, fun b o e n hx => by rw [upd_ne (n0 e)]; exact I.base.free b o e n hx, I.base.there, fun b xs e => up (I.base.tups b xs e), fun b o v e => up (I.base.frzs b o v e), fun b ps e => ?_⟩,
    I.loc, I.cell, by rw [upd_ne (Ne.symm nL)]; exact I.free, fun x c e => ?_, fun p hp => ?_, fun b ob e => ?_, I.len⟩
  · obtain ⟨more, e1⟩ := I.base.tbls b ps e
    exact ⟨more, up e1⟩
  · obtain ⟨v, oc, e1, e2⟩ := I.cell x c e
    have : c ≠ a := fun z => by
      rw [z, ha] at e1
      cases e1
      rw [hv] at e2; cases e2
    rw [upd_ne this]; exact I.freeC x c e
  · obtain ⟨e, n, r⟩ := I.pin p hp
    obtain ⟨e', _⟩ := J.pin p hp
    exact ⟨e, by rw [upd_ne (nI e')]; exact n, r⟩
  · by_cases q : b = a
    · subst q
      rw [upd_same] at e
      cases e
      exact ⟨⟨oe, vs, ha, hc, hd, hv, hz⟩, ⟨_, ha⟩, fun h1 h2 ⟨o, w, z1, z⟩ k => ⟨o, w, k _ z1, z⟩⟩
    · rw [upd_ne q] at e
      exact (I.hok b ob e).stay (fun c v _ q => q) (fun c q => up q) fun c xs q => up q
theorem inv_suite {a : Addr} {s : Shared} {H : Hp} (I : Inv X pins σ H s) : Inv (X.suite a (X.pn ++ pins)) [] σ H s :=
  ⟨I.ok.suite _ _, I.os, I.bare, I.base, I.loc, I.cell, I.free, I.freeC, fun p hp => I.pin p (by rw [List.append_nil] at hp; exact hp), I.hok, I.len⟩
theorem inv_unsuite {a : Addr} {pn' : List (Addr × Obj)} {s : Shared} {H : Hp} (I : Inv (X.suite a (X.pn ++ pins)) pn' σ H s) (ok : X.Ok) : Inv X pins σ H s :=
  ⟨ok, I.os, I.bare, I.base, I.loc, I.cell, I.free, I.freeC, fun p hp => I.pin p (List.mem_append_left _ hp), I.hok, I.len⟩
end
abbrev endsGone (D : Ends) (i : Nat) : Ends := { nx := fun σ' H' => D.nx (σ'.set i none) H', rt := D.rt, bk := fun σ' H' => D.bk (σ'.set i none) H', ct := fun σ' H' => D.ct (σ'.set i none) H' }
/-- what the clause 'except x as n' wishes of an exception of the body -/
def wTr (K : PySem.W.Frag) (c : Value) (i : Nat) (ts : Addr → TS) (D : Ends) : WX := fun cls d σ H =>
  PySem.W.exmOne K cls c = some true ∧ ∃ C dd, cls = .ref C ∧ d = some dd ∧ ∀ a, H a = none → ts a (endsGone D i) (σ.set i (some (.ref a))) (upd H a (exg a C dd))
section
variable {X : Cx} {x n : Str} {c : Value} {i : Nat} {body suite : List Stmt} {b₀ : Stmt} {np pos pos' : Pos} {tb : WX → TS} {ts : Addr → TS}
theorem ps_try_tr (hs : X.stack = X.env :: X.outer) (hex : X.ex = []) (hf : X.env.frame = some X.env.locals) (hN : X.N.Nodup) (hi : X.N[i]? = some n) (hln : X.env.kindOf n = some .local) (hc : Names X x c)
    (hb : ∀ (W : WX) (pn : List (Addr × Obj)) (xe : Value → Shared → Prop), L2N.Takes (X.tr pn xe) W → PSs (X.tr pn xe) body (tb W))
    (hsu : ∀ (a : Addr) (pn : List (Addr × Obj)), PSs (X.suite a pn) (b₀ :: suite) (ts a)) :
    PS X (.Try body [.ExceptHandler (some (.Name x np)) (some n) (b₀ :: suite) pos'] [] [] pos) (fun D σ H => tb (wTr X.K c i ts D) D σ H) := by
  refine ⟨fun pins s σ H D I h => ?_⟩
  have ok := I.ok
  have hfr : X.A.frames = some (X.env :: X.outer) := by rw [ok.frames, hs]
  have hloc : Loc X.env.scope n := .inl hln
  refine wpAny_Try_except ?_
  refine wpAny_mono ((hb (wTr X.K c i ts D) (X.pn ++ pins) (fun e s₁ => wpAny (model X.prog X.w) X.A (noteFrame e X.env) (fun _ s₂ => wpAny (model X.prog X.w) X.A (setFlight e none) (fun _ s₃ =>
    wpAny (model X.prog X.w) X.A (handleBy e X.env [.ExceptHandler (some (.Name x np)) (some n) (b₀ :: suite) pos']) (SP X pins D) X.xe s₃) X.xe s₂) X.xe s₁) (fun u s' xx => ?_)).run [] s σ H D (I.toTry _) h) (fun f s1 hsp => ?_) (fun e s1 he => he)
  · -- the catch
    obtain ⟨a, B, sI, pins', σ', H', cls, d, rfl, J', nb, up, sky, na, os, ag, hb1, C, dd, rfl, rfl, hyes⟩ := xx
    have J : Inv X pins σ' H' sI := J'.ofTry ok
    have sky' : Sky B (X.env :: X.outer) a (L2N.Zn (.ref C) (some dd)) X.env.locals s'.heap := by rw [← hs]; exact sky
    show wpAny (model X.prog X.w) X.A (noteFrame (.ref a) X.env) _ _ _
    refine L2N.Sky.land L2N.Zn.steady hfr hf sky' fun h3 fl3 up3 => ?_
    have J3 : Inv X pins σ' H' { s' with heap := h3 } := J.landed nb fl3.1 (up.trans up3) os ag
    obtain ⟨oe3, vs3, he3, hz3, hd3⟩ := fl3.there
    have notFr : ∀ {h : Heap} {o : Obj} {vs : Array Value}, h.FunFrames B (X.env :: X.outer) → h.get? a = some o → o.data = .fields vs → a ∉ frs (X.env :: X.outer) := fun {h o vs} ff e dd hm => by
      obtain ⟨_, o', e', hnf⟩ := ff.mem hm
      rw [e] at e'; cases e'
      exact hnf _ dd
    have nfr := notFr fl3.2.2.1 he3 hd3
    have nL : a ≠ X.env.locals := fun z => nfr (List.mem_filterMap.mpr ⟨X.env, List.mem_cons_self, by rw [hf, z]⟩)
    have nF : a ∉ X.fs := fun hm => by
      obtain ⟨e, he, q⟩ := List.mem_filterMap.mp hm
      exact nfr (List.mem_filterMap.mpr ⟨e, List.mem_cons_of_mem _ he, q⟩)
    have S3 := J3.suite he3 hd3 na nL nF
    refine wpAny_handleBy_cons (codeAny_handlers_test ?_) (by intro q; cases q)
    have LT : PySem.W.Looks (model X.prog X.w) h3 (typeOf (.ref a)) (.ref C) := fun A Q E s k q => wpAny_typeOf_ref (k _ _ he3) (by rw [hz3.1]; exact q)
    have LM := PySem.W.exm_one (M := model X.prog X.w) (J3.kIn) LT hb1
    have test : ∀ {Q : Value → Shared → Prop} {E : Value → Shared → Prop}, Q c { s' with heap := h3 } → wpAny (model X.prog X.w) (X.A.mark (some (.ref a))) (eval (.Name x np) X.env) Q E { s' with heap := h3 } := fun {Q E} q => by
      obtain ⟨hg, hdbg, hm | ⟨hm, hv, hnn⟩⟩ := hc
      · exact ld_glob (X := X.suite a ((a, oe3) :: (X.pn ++ pins))) S3 hg hm q hdbg
      · exact ld_blt (X := X.suite a ((a, oe3) :: (X.pn ++ pins))) S3 hg hm hv q hnn hdbg
    refine test (LM.here ?_)
    refine codeAny_handlers_suite_as ?_
    refine HandSPX.lands_againZ fl3 fun h4 fl4 up4 => ?_
    have J4 : Inv X pins σ' H' { s' with heap := h4 } := J.landed nb fl4.1 ((up.trans up3).trans up4) os ag
    obtain ⟨oe4, vs4, he4, hz4, hd4⟩ := fl4.there
    have J5 := inv_caught hs hex J J4 nb fl4.2.1 na nL nfr he4 hz4.1 hz4.2.1 hd4 (hz4.2.2 _ hd4)
    have S4 := inv_suite (a := a) J5
    refine store_ok (X := X.suite a (X.pn ++ pins)) (v := .ref a) S4 hN hi hloc rfl (fun s5 S5 => ?_) (.inr hln)
    refine wpAny_mono ((hsu a (X.pn ++ pins)).run [] s5 _ _ _ S5 (hyes a na)) (fun f s6 hsp => ?_) (fun _ _ z => False.elim z)
    have end_ : ∀ {σ6 : L2.St} {H6 : Hp} {Q : Shared → Prop}, Inv (X.suite a (X.pn ++ pins)) [] σ6 H6 s6 → (∀ s7, Inv X pins (σ6.set i none) H6 s7 → Q s7) →
        wpAny (model X.prog X.w) X.A (do bindName X.env n .none; unbindBehindTheSuite X.env n pos') (fun _ s7 => Q s7) X.xe s6 := fun {σ6 H6 Q} S6 hq => gone_ok (inv_unsuite S6 ok) hN hi hln hq
    cases f with
    | next =>
      obtain ⟨σ6, H6, S6, q6⟩ := hsp
      exact end_ S6 fun s7 J7 => ⟨_, _, J7, q6⟩
    | brk =>
      obtain ⟨σ6, H6, S6, q6⟩ := hsp
      exact end_ S6 fun s7 J7 => ⟨_, _, J7, q6⟩
    | cont =>
      obtain ⟨σ6, H6, S6, q6⟩ := hsp
      exact end_ S6 fun s7 J7 => ⟨_, _, J7, q6⟩
    | ret u =>
      obtain ⟨v6, σ6, H6, S6, r6, q6⟩ := hsp
      exact end_ S6 fun s7 J7 => ⟨_, _, _, J7, r6, q6⟩
  · cases f with
    | next =>
      obtain ⟨σ', H', J', q⟩ := hsp
      exact wpAny_execs_nil ⟨σ', H', J'.ofTry ok, q⟩
    | brk =>
      obtain ⟨σ', H', J', q⟩ := hsp
      exact ⟨σ', H', J'.ofTry ok, q⟩
    | cont =>
      obtain ⟨σ', H', J', q⟩ := hsp
      exact ⟨σ', H', J'.ofTry ok, q⟩
    | ret u =>
      obtain ⟨v, σ', H', J', r, q⟩ := hsp
      exact ⟨v, σ', H', J'.ofTry ok, r, q⟩
abbrev DEnds.gone (D : DEnds) (i : Nat) : DEnds := { nx := fun δ G => D.nx (δ.set i none) G, rt := D.rt, bk := fun δ G => D.bk (δ.set i none) G, ct := fun δ G => D.ct (δ.set i none) G }
theorem Fits.rebase {K : PySem.W.Frag} {B F : Hp} {R : DEnds} {D : Ends} (f : Fits K B F R D) (l : Le B F) : Fits K F F R D :=
  ⟨fun δ' G' σ' F' H' p l' g s => f.nx δ' G' σ' F' H' p l' (g.unbase l) s, f.rt.rebase l, fun δ' G' σ' F' H' p l' g s => f.bk δ' G' σ' F' H' p l' (g.unbase l) s, fun δ' G' σ' F' H' p l' g s => f.ct δ' G' σ' F' H' p l' (g.unbase l) s⟩
/-- try: body, except c as n (slot i): suite -/
def dTry (K : PySem.W.Frag) (c : Value) (i : Nat) (tb : (DSt → DXK) → DTS) (ts : DTS) : DTS := fun D δ G => tb (fun δ' C w G' => PySem.W.exmOne K (.ref C) c = some true ∧ ts (D.gone i) (δ'.set i (some (.exc C w))) G') D δ G
theorem ds_try {K : PySem.W.Frag} {B : Hp} {tb : (DSt → DXK) → DTS} {ts : DTS} (hK : X.K = K) (hc : Names X x c) (hi : X.N[i]? = some n) (hN : X.N.Nodup) (hln : X.env.kindOf n = some .local)
    (hb : ∀ (W : WX) (RW : DSt → DXK) (B' : Hp) (pn : List (Addr × Obj)) (xe : Value → Shared → Prop), L2N.Takes (X.tr pn xe) W → ContW X.K B' RW W → DSs (X.tr pn xe) B' body (tb RW))
    (hsu : ∀ (a : Addr) (pn : List (Addr × Obj)) (B' : Hp), HotB (X.suite a pn) B' → DSs (X.suite a pn) B' (b₀ :: suite) ts)
    (hs : X.stack = X.env :: X.outer := by rfl) (hex : X.ex = [] := by rfl) (hf : X.env.frame = some X.env.locals := by rfl) :
    DS X B (.Try body [.ExceptHandler (some (.Name x np)) (some n) (b₀ :: suite) pos'] [] [] pos) (dTry K c i tb ts) := by
  subst hK
  refine PS.imp (ps_try_tr (X := X) (tb := fun W D σ H => ∃ RW B', ContW X.K B' RW W ∧ tDS X.K B' (tb RW) D σ H) (ts := fun a D σ H => ∃ B', (∃ C d, B' a = some (exg a C d)) ∧ tDS X.K B' ts D σ H) hs hex hf hN hi hln hc (fun W pn xe tk => ⟨fun pins s σ H D I ⟨RW, B', cw, h⟩ => (hb W RW B' pn xe tk cw).run pins s σ H D I h⟩)
    (fun a pn => ⟨fun pins s σ H D I ⟨B', ⟨C, d, e⟩, h⟩ => (hsu a pn B' ⟨a, C, d, rfl, e⟩).run pins s σ H D I h⟩)) fun D σ H ⟨F, G, δ, R, g, s, p, f⟩ => ?_
  refine ⟨_, F, fun δ' σ' C w G' d v F' H' ⟨hm, q⟩ g' s' e i' => ?_, F, G, δ, R, g.rebase, s, p, f.rebase g.bs⟩
  refine ⟨hm, C, d, rfl, rfl, fun a na => ?_⟩
  obtain ⟨l2, g2⟩ := g'.newF na (exg a C d)
  refine ⟨upd F' a (exg a C d), ⟨C, d, upd_same⟩, _, G', _, _, g2.rebase, (s'.le l2).set i (.exc upd_same (l2 _ _ e) (i'.le l2)), q, ?_⟩
  have l3 : Le F (upd F' a (exg a C d)) := g'.bs.trans l2
  have f2 := f.rebase g.bs
  exact ⟨fun δ2 G2 σ2 F2 H2 p2 l2' g3 s3 => f2.nx _ G2 _ F2 H2 p2 (l3.trans l2') (g3.unbase l3) (s3.none i), fun d2 G2 v2 F2 H2 p2 l2' g3 i3 => f2.rt d2 G2 v2 F2 H2 p2 (l3.trans l2') (g3.unbase l3) i3,
    fun δ2 G2 σ2 F2 H2 p2 l2' g3 s3 => f2.bk _ G2 _ F2 H2 p2 (l3.trans l2') (g3.unbase l3) (s3.none i), fun δ2 G2 σ2 F2 H2 p2 l2' g3 s3 => f2.ct _ G2 _ F2 H2 p2 (l3.trans l2') (g3.unbase l3) (s3.none i)⟩
/-- .. except c: suite -/
def dTryO (K : PySem.W.Frag) (c : Value) (tb : (DSt → DXK) → DTS) (ts : DTS) : DTS := fun D δ G => tb (fun δ' C _ G' => PySem.W.exmOne K (.ref C) c = some true ∧ ts D δ' G') D δ G
theorem sky_imp {B h : Heap} {l : List Env} {a L : Addr} {Z Z' : Obj → Prop} (z : ∀ o, Z o → Z' o) (x : Sky B l a Z L h) : Sky B l a Z' L h := by
  have tr : ∀ {fl : Value}, HandSPX.TracedZ h B a Z fl → HandSPX.TracedZ h B a Z' fl := fun ⟨oe, vs, T, oT, ts, e1, e2, r⟩ => ⟨oe, vs, T, oT, ts, e1, z _ e2, r⟩
  rcases x with ⟨b1, b2, b3, oe, vs, e1, e2, r⟩ | ⟨b1, b2, b3, t⟩ | ⟨b1, b2, b3, t⟩
  · exact .inl ⟨b1, b2, b3, oe, vs, e1, z _ e2, r⟩
  · exact .inr (.inl ⟨b1, b2, b3, tr t⟩)
  · exact .inr (.inr ⟨b1, b2, b3, tr t⟩)
theorem takesN {X : Cx} {W : WX} (t : L2.Takes X W) : L2N.Takes X W := fun u s' ⟨a, B, sI, pins, σ, H, cls, d, e, I, nb, up, sky, na, os, ag, w⟩ =>
  t u s' ⟨a, B, sI, pins, σ, H, cls, d, e, I, nb, up, sky_imp (fun _ => L2N.Zn.zc) sky, na, os, ag, w⟩
theorem ds_tryO {K : PySem.W.Frag} {B : Hp} {tb : (DSt → DXK) → DTS} {ts : DTS} (hK : X.K = K) (hc : Names X x c) (tk : Takes X (fun _ _ _ _ => False))
    (hb : ∀ (W : WX) (RW : DSt → DXK) (B' : Hp) (pn : List (Addr × Obj)) (xe : Value → Shared → Prop), L2N.Takes (X.tr pn xe) W → ContW X.K B' RW W → DSs (X.tr pn xe) B' body (tb RW))
    (hsu : ∀ (a : Addr) (pn : List (Addr × Obj)) (B' : Hp), DSs (X.suite a pn) B' (b₀ :: suite) ts)
    (hs : X.stack = X.env :: X.outer := by rfl) (hf : X.env.frame = some X.env.locals := by rfl) :
    DS X B (.Try body [.ExceptHandler (some (.Name x np)) none (b₀ :: suite) pos'] [] [] pos) (dTryO K c tb ts) := by
  subst hK
  refine PS.imp (ps_try_only (X := X) (tb := fun W D σ H => ∃ RW B', ContW X.K B' RW W ∧ tDS X.K B' (tb RW) D σ H) (ts := fun _ _ _ D σ H => ∃ B', tDS X.K B' ts D σ H) hs hf hc tk (fun W pn xe tk _ => ⟨fun pins s σ H D I ⟨RW, B', cw, h⟩ => (hb W RW B' pn xe (takesN tk) cw).run pins s σ H D I h⟩)
    (fun a oe cls d pn _ _ => ⟨fun pins s σ H D I ⟨B', h⟩ => (hsu a _ B').run pins s σ H D I h⟩)) fun D σ H ⟨F, G, δ, R, g, s, p, f⟩ => ?_
  refine ⟨_, F, fun δ' σ' C w G' d v F' H' ⟨hm, q⟩ g' s' e i' => ?_, F, G, δ, R, g.rebase, s, p, f.rebase g.bs⟩
  exact ⟨true, hm, fun _ a na => ⟨F, F', G', δ', R, g', s', q, (f.rebase g.bs).le g'.bs⟩, fun z => nomatch z⟩
theorem takes_nox : Takes X.nox (fun _ _ _ _ => False) := fun u s' ⟨a, B, sI, pins, σ, H, cls, d, e, I, nb, up, sky, na, os, ag, w⟩ => w
end
section
variable {P : Program} {w : World} {K : PySem.W.Frag} {mg : Str → Option Value} {base : Heap}
theorem d_okR {x qual : Str} {st : Stmt} {f : Addr} {fd : FuncData} {N ps : List Str} {k : Nat} {c : DSp} (F : Fun K x qual st f fd) (S : FnScope N ps (defScope st)) (len : ∀ ds G P R, c ds G P R → ds.length = ps.length)
    (hb : ∀ (cdv : Value) (A : Around) (outer : List Env) (s : Shared) (H : Hp) (E : XK) (B : Hp) (R : DXK), Room k (A.deeper (PyProof.Rows.envOfC qual (defScope st) s.heap.objs.size f cdv)) →
      L2N.Takes (cxOf (L2N.CX P w) P w K mg base N qual (defScope st) f cdv A outer s H E) (fun cls d _ H => E cls d H) → ContW K B (fun _ => R) (fun cls d _ H => E cls d H) →
      PassesOwn (model P w) (cxOf (L2N.CX P w) P w K mg base N qual (defScope st) f cdv A outer s H E).A (cxOf (L2N.CX P w) P w K mg base N qual (defScope st) f cdv A outer s H E).env (cxOf (L2N.CX P w) P w K mg base N qual (defScope st) f cdv A outer s H E).xe →
      ∃ t : DTS, DSs (cxOf (L2N.CX P w) P w K mg base N qual (defScope st) f cdv A outer s H E) B (defBody st) t ∧ ∀ ds G P, c ds G P R → t (dEnds P) (dstart N ds) G) : FnOk P w K mg base (L2N.CX P w) (k + 1) f fd ps (toSp K c) :=
  d_okX F S len fun cdv A outer s H E B R hr kx => hb cdv A outer s H E B R hr (L2N.takes_of rfl rfl rfl rfl) (.of kx) (passes_of rfl)
theorem dfn_ofR {x : Str} {st : Stmt} {N ps : List Str} {k : Nat} {c : DSp} (T : TopFn K mg x st ps) (S : FnScope N ps (defScope st)) (len : ∀ ds G P R, c ds G P R → ds.length = ps.length)
    (hb : ∀ (f : Addr) (cdv : Value) (A : Around) (outer : List Env) (s : Shared) (H : Hp) (E : XK) (B : Hp) (R : DXK), Room k (A.deeper (PyProof.Rows.envOfC x (defScope st) s.heap.objs.size f cdv)) →
      L2N.Takes (cxOf (L2N.CX P w) P w K mg base N x (defScope st) f cdv A outer s H E) (fun cls d _ H => E cls d H) → ContW K B (fun _ => R) (fun cls d _ H => E cls d H) →
      PassesOwn (model P w) (cxOf (L2N.CX P w) P w K mg base N x (defScope st) f cdv A outer s H E).A (cxOf (L2N.CX P w) P w K mg base N x (defScope st) f cdv A outer s H E).env (cxOf (L2N.CX P w) P w K mg base N x (defScope st) f cdv A outer s H E).xe →
      ∃ t : DTS, DSs (cxOf (L2N.CX P w) P w K mg base N x (defScope st) f cdv A outer s H E) B (defBody st) t ∧ ∀ ds G P, c ds G P R → t (dEnds P) (dstart N ds) G) : Dfn P w K mg base (L2N.CX P w) x ps c (k + 1) := by
  obtain ⟨f, fd, F, m, b⟩ := T
  exact ⟨f, fd, d_okR F S len (hb f), m, F.kp, b⟩
theorem dmt_ofR {C : Addr} {m qual : Str} {st : Stmt} {N ps : List Str} {k : Nat} {c : DSp} (T : TopMt K C m qual st ps) (S : FnScope N ps (defScope st)) (len : ∀ ds G P R, c ds G P R → ds.length = ps.length)
    (hb : ∀ (f : Addr) (cdv : Value) (A : Around) (outer : List Env) (s : Shared) (H : Hp) (E : XK) (B : Hp) (R : DXK), Room k (A.deeper (PyProof.Rows.envOfC qual (defScope st) s.heap.objs.size f cdv)) →
      L2N.Takes (cxOf (L2N.CX P w) P w K mg base N qual (defScope st) f cdv A outer s H E) (fun cls d _ H => E cls d H) → ContW K B (fun _ => R) (fun cls d _ H => E cls d H) →
      PassesOwn (model P w) (cxOf (L2N.CX P w) P w K mg base N qual (defScope st) f cdv A outer s H E).A (cxOf (L2N.CX P w) P w K mg base N qual (defScope st) f cdv A outer s H E).env (cxOf (L2N.CX P w) P w K mg base N qual (defScope st) f cdv A outer s H E).xe →
      ∃ t : DTS, DSs (cxOf (L2N.CX P w) P w K mg base N qual (defScope st) f cdv A outer s H E) B (defBody st) t ∧ ∀ ds G P, c ds G P R → t (dEnds P) (dstart N ds) G) : Dmt P w K mg base (L2N.CX P w) C m ps c (k + 1) := by
  obtain ⟨f, fd, F, m, b⟩ := T
  exact ⟨f, fd, d_okR F S len (hb f), m, b⟩
end
/-- what the texts ask of the classes of refusals -/
structure XTab (K : PySem.W.Frag) (mg : Str → Option Value) (CE cRoad cHouse cClash cReport cTale cDays cText : Addr) : Prop where
  mgVillageError : mg "VillageError" = some (.ref CE)
  mgValueError : mg "ValueError" = none
  mgNoRoad : mg "NoRoad" = some (.ref cRoad)
  mgNoHouse : mg "NoHouse" = some (.ref cHouse)
  mgClash : mg "Clash" = some (.ref cClash)
  mgNoReport : mg "NoReport" = some (.ref cReport)
  mgNoTale : mg "NoTale" = some (.ref cTale)
  mgNoDays : mg "NoDays" = some (.ref cDays)
  mgNoText : mg "NoText" = some (.ref cText)
/-- what is asked of a class whose instances are caught -/
structure XCau (K : PySem.W.Frag) (CE : Addr) (others : List Addr) (Z : Addr) : Prop where
  ek : ExK K Z
  ex : PySem.W.exmOne K (.ref Z) (.ref CE) = some true
  ve : PySem.W.kitOne K (.ref Z) (.type "ValueError") = some true
  kit : ∀ D ∈ others, PySem.W.kitOne K (.ref Z) (.ref D) = some false
theorem kit_self {K : PySem.W.Frag} {C : Addr} : PySem.W.kitOne K (.ref C) (.ref C) = some true := by
  unfold PySem.W.kitOne
  rw [if_pos (by simp)]
theorem kitAny_no {K : PySem.W.Frag} {t : Value} : ∀ {l : List Addr}, (∀ D ∈ l, PySem.W.kitOne K t (.ref D) = some false) → PySem.W.kitAny K t (l.map Value.ref) = some false
  | [], _ => rfl
  | D :: l, h => kitAny_cons (h D List.mem_cons_self) (fun _ => kitAny_no fun E hE => h E (List.mem_cons_of_mem _ hE)) (fun z => nomatch z)
theorem kits_nil {K : PySem.W.Frag} {t : Value} : ∀ D ∈ ([] : List Addr), PySem.W.kitOne K t (.ref D) = some false := fun _ h => nomatch h
theorem kits_cons {K : PySem.W.Frag} {t : Value} {d : Addr} {l : List Addr} (h : PySem.W.kitOne K t (.ref d) = some false) (r : ∀ D ∈ l, PySem.W.kitOne K t (.ref D) = some false) : ∀ D ∈ d :: l, PySem.W.kitOne K t (.ref D) = some false := fun D hD => by
  rcases List.mem_cons.mp hD with e | e
  · rw [e]; exact h
  · exact r D e
end DL

set_option Elab.async false
set_option linter.all false
set_option maxRecDepth 100000
set_option maxHeartbeats 2000000
/-! Texts: f"{i}sign{j}", text + text, list.clear. -/
namespace DL
open PySem PySem.Spec L2 PyProof.Rows V
section
variable {X : Cx} {B : Hp} {o a b : Expr} {to ta tb : DTE} {apos pos p1 p2 p3 : Pos} {sg : Str} {kk : Nat}
/-- f"{i}sign{j}" -/
def dF3 (ta : DTE) (sg : Str) (tb : DTE) : DTE := fun δ G P => ta δ G fun x G1 => ∃ i : Nat, x = .int (i : Int) ∧ i < 10 ^ 9 ∧ sg.length ≤ 100 ∧ tb δ G1 fun y G2 => ∃ j : Nat, y = .int (j : Int) ∧ j < 10 ^ 9 ∧ P (.str (numS i ++ sg ++ numS j)) G2
theorem log_sm {n : Nat} (h : n < 10 ^ 9) : ((n : Int).natAbs).log2 < 1920 := by
  rw [Int.natAbs_natCast]
  by_cases h0 : n = 0
  · rw [h0]; decide
  · exact (Nat.log2_lt h0).mpr (Nat.lt_of_lt_of_le h (by decide +kernel))
theorem app_len (x y : Str) : (x ++ y).length = x.length + y.length := by rw [TL.len_tl, TL.tl_append, List.length_append, ← TL.len_tl, ← TL.len_tl]
theorem empty_app (x : Str) : Str.empty ++ x = x := TL.ext_tl (by rw [TL.tl_append]; rfl)
theorem d_f3 (ha : DE X B a ta) (hb : DE X B b tb) : DE X B (.JoinedStr [.FormattedValue a (-1) none p1, .Constant (.str sg) kk p2, .FormattedValue b (-1) none p3] pos) (dF3 ta sg tb) :=
  PE.imp (pe_joined (.cons (pe_fmt ha) (.cons (d_str (B := B)) (.cons (pe_fmt hb) .nil)))) fun σ H Q ⟨F, G, δ, P, g, s, p, c⟩ => by
    have hz : 1000 < sizeLine := by rw [sizeLine_eq]; decide
    refine ⟨F, G, δ, _, g, s, p, fun x G1 vx F1 H1 ⟨i, ex, hi, hsg, q1⟩ l1 g1 i1 => ?_⟩
    subst ex
    cases i1
    have n1 := num_len9 hi
    refine .inr ⟨_, rfl, log_sm hi, numS i, rfl, by rw [empty_app]; omega, F1, G1, δ, (fun d G' => d = .str sg ∧ tb δ G' fun y G2 => ∃ j : Nat, y = .int (j : Int) ∧ j < 10 ^ 9 ∧ P (.str (numS i ++ sg ++ numS j)) G2), g1, s.le l1, ⟨rfl, q1⟩, fun d G2 v2 F2 H2 ⟨e2, q2⟩ l2 g2 i2 => ?_⟩
    subst e2
    cases i2
    refine ⟨sg, rfl, by rw [empty_app, app_len]; omega, F2, G2, δ, _, g2, (s.le l1).le l2, q2, fun y G3 vy F3 H3 ⟨j, ey, hj, p3⟩ l3 g3 i3 => ?_⟩
    subst ey
    cases i3
    have n2 := num_len9 hj
    refine .inr ⟨_, rfl, log_sm hj, numS j, rfl, by rw [empty_app, app_len, app_len]; omega, ?_⟩
    show Q (V.str (Str.empty ++ numS i ++ sg ++ numS j)) H3
    rw [empty_app]
    exact c _ G3 _ F3 H3 p3 ((l1.trans l2).trans l3) g3 (.str _)
/-- text + text -/
def rCatS : DR2 := fun x y G P => ∃ i j : Str, x = .str i ∧ y = .str j ∧ i.length + j.length ≤ sizeLine ∧ P (.str (i ++ j)) G
theorem o_catS : DOp X B (binaryOp .Add) rCatS := ⟨_, op_add_str, fun F G H v w x y P Q g rx ry ⟨i, j, e1, e2, hz, p⟩ c => by
  subst e1; subst e2
  cases rx
  cases ry
  exact ⟨i, j, rfl, rfl, hz, c _ G _ F H p (Le.refl F) g (.str _)⟩⟩
/-- xs.clear() -/
def rClearD : Dt → List Dt → Gp → DK → Prop := fun x ds G P => ∃ (l : Addr) (xs : List Dt), x = .ref l ∧ ds = [] ∧ G l = some (.lst xs) ∧ P .non (gupd G l (.lst []))
theorem m_clear : DMt X B "list.clear" rClearD := ⟨_, mt_clear, fun F G H v x vs ds P Q g i1 i2 ⟨l, xs, e1, e2, h, p⟩ c => by
  subst e1; subst e2
  cases i1
  cases i2
  obtain ⟨ws, e, r⟩ := g.mlst h
  exact ⟨l, ws, rfl, rfl, e, c _ _ _ _ _ p (Le.refl F) (g.write h (o := .lst []) (m := .lst []) .nil) .non⟩⟩
theorem d_clear (ho : DE X B o to)
    (pe : ∀ {r : V → List V → Hp → VK → Prop} {to : TE}, MtR X "list.clear" r → PE X o to → PE X (.Call (.Attribute o "clear" apos) [] [] pos) (tBM0 X.K "list" r to) := by exact fun h1 h2 => pe_bm0 PySem.F.plainAttrs_list PySem.F.slot_list_clear PySem.F.type_list_clear h1 h2) :
    DE X B (.Call (.Attribute o "clear" apos) [] [] pos) (dBM0 rClearD to) := by
  obtain ⟨r', h1, h2⟩ := (m_clear (X := X) (B := B)).ex
  exact PE.imp (pe h1 ho) (bm0_imp h2)
end
end DL

set_option Elab.async false
set_option linter.all false
set_option maxRecDepth 100000
set_option maxHeartbeats 4100000
/-! A list comprehension out of which a refusal comes. -/
namespace LcX
open PySem PySem.Spec PyProof.Rows L2 HandSPX
section
variable {M : Model} {A : Around} {E : Value → Shared → Prop} {s : Shared} {env : Env} {base : Heap} {l : List Env} {outer : List Env} {e : Addr} {Z : Obj → Prop} {L : Addr}
/-- noted by a frame, its mark another one's -/
theorem note_held {mark : Value} {Q : Unit → Shared → Prop} (steady : PXN.Steady1 Z) (top : A.frames = some (env :: outer)) (at_ : env.frame = some L) (other : (mark == rawInt L) = false) (stays : base.StaysIn s.heap) (new : base.get? e = none) (fr : s.heap.FunFrames base (env :: outer))
    (tr : TracedZ s.heap base e Z mark) (q : ∀ h2, HeldZ base (env :: outer) e Z L h2 → s.heap.UpToSlots h2 → Q () { s with heap := h2 }) : wpAny M A (noteFrame (.ref e) env) Q E s := by
  obtain ⟨eo, ef, R, ro, rf, ge, ze, de, e1, nR, ne, gR, dR, r3⟩ := tr
  have far : ∀ c, c ≠ R → (s.heap.update R (Obj.mapFields (·.setIfInBounds 3 Value.none))).get? c = s.heap.get? c := fun c n => Heap.get?_update_other _ _ n.symm
  have solid : ∀ {c ob}, s.heap.get? c = some ob → (∀ fs, ob.data ≠ .fields fs) → c ≠ R := fun {c ob} g n z => by
    subst z
    rw [gR] at g
    cases g
    exact n rf dR
  have lower : base.StaysIn (s.heap.update R (Obj.mapFields (·.setIfInBounds 3 Value.none))) := fun c ob g => by
    refine (far c fun z => ?_).trans (stays c ob g)
    rw [z, nR] at g
    cases g
  have frames2 := Heap.FunFrames.of_keeps (h' := s.heap.update R (Obj.mapFields (·.setIfInBounds 3 Value.none))) (fun c ob g n => ⟨ob, (far c (solid g n)).trans g, rfl⟩) fr
  unfold noteFrame
  simp only [at_]
  refine wpAny_bind (wpAny_field ge de e1 ?_)
  rw [if_pos (by simp : (Value.ref R != Value.none) = true)]
  refine wpAny_bind (wpAny_field gR dR r3 ?_)
  rw [other, if_neg Bool.false_ne_true]
  refine wpAny_bind (wpAny_setField gR dR (Array.getElem?_eq_some_iff.mp r3).1 ?_)
  exact PXN.wpAny_entryZ steady top frames2 at_ ((far e ne.symm).trans ge) lower new de (Array.getElem?_eq_some_iff.mp e1).1 ze fun h2 ⟨n1, n2, n3, n4⟩ =>
    q h2 ⟨n1, new, n2, n3⟩ fun c ob g n => n4 c ob ((far c (solid g n)).trans g) n
/-- noted, whatever its mark -/
theorem note_sky {L' : Addr} {Q : Unit → Shared → Prop} (steady : PXN.Steady1 Z) (top : A.frames = some (env :: outer)) (at_ : env.frame = some L) (x : Sky base (env :: outer) e Z L' s.heap)
    (q : ∀ h2, HeldZ base (env :: outer) e Z L h2 → s.heap.UpToSlots h2 → Q () { s with heap := h2 }) : wpAny M A (noteFrame (.ref e) env) Q E s := by
  rcases x with ⟨b1, b2, b3, eo, ef, g1, g2, g3, g4⟩ | flying | held
  · exact PXN.look_newZ steady top b3 at_ g1 b1 b2 g3 g4 g2 q
  · exact PXN.looks_onZ steady top at_ flying q
  · by_cases same : (rawInt L' == rawInt L) = true
    · have eq : rawInt L' = rawInt L := by simpa using same
      have t : TracedZ s.heap base e Z (rawInt L) := by rw [← eq]; exact held.2.2.2
      exact againZ at_ t (q s.heap ⟨held.1, held.2.1, held.2.2.1, t⟩ (Heap.UpToSlots.refl _))
    · exact note_held steady top at_ (by simpa using same) held.1 held.2.1 held.2.2.1 held.2.2.2 q
/-- passed on by the frame that noted it -/
theorem pass_held {α : Type} {what : String} {Q : α → Shared → Prop} (at_ : env.frame = some L) (held : HeldZ base l e Z L s.heap) (q : ∀ h2, HeldZ base l e Z L h2 → s.heap.UpToSlots h2 → E (.ref e) { s with heap := h2 }) :
    wpAny M A (passOn what (.ref e) env : Sem α) Q E s := by
  obtain ⟨b1, b2, b3, tr⟩ := held
  obtain ⟨eo, ef, R, ro, rf, ge, ze, de, e1, _⟩ := id tr
  have flies : wpAny M A (setFlight (.ref e) env.frame) (fun _ t => wpAny M A (throw (.ref e) : Sem α) Q E t) E s := by
    rw [at_]
    exact setFlight_anyZ b1 b3 tr fun h2 n1 n2 n3 n4 => wpAny_throw (q h2 ⟨n1, b2, n2, n3⟩ n4)
  unfold PySem.passOn
  refine wpAny_bind (wpAny_field ge de e1 ?_)
  rw [show (Value.ref R == Value.none) = false by simp, if_neg Bool.false_ne_true]
  first
    | exact wpAny_bind flies
    | exact wpAny_bind (wpAny_pure (wpAny_bind flies))
/-- at the end of a comprehension's code; a refusal is passed on by its own environment -/
def compPostF (M : Model) (A : Around) (E : Value → Shared → Prop) (use : Option (Value → Sem Unit)) (Q : Value → Shared → Prop) (acc : Value) (cenv : Env) (r : Result) (s' : Shared) : Prop :=
  match r with
  | .ok f => compPost M A E use Q acc cenv.locals (.ok f) s'
  | .error x => ∃ m, s'.heap.Ns cenv.locals m ∧ ∀ h', Heap.SameBut cenv.locals s'.heap h' → wpAny M A (passOn "comprehension.variables-let-go" x cenv : Sem Value) (fun _ _ => False) E { s' with heap := h' }
theorem comp_runs {elt tg iter : Expr} {ifs : List Expr} {scope : Scope} {own pos : Pos} {cl : List (Str × Addr)} {use : Option (Value → Sem Unit)} {Q : Value → Shared → Prop} (fold : ∀ v, foldedSetIterable iter env v = pure v)
    (closed : closureFor scope env = pure cl) (fn : scope.kind = .function) (own_ : ∀ z ∈ scope.names, z.2 = .local → scope.names.lookup z.1 = some .local)
    (start : wpAny M A (eval iter env) (fun v t1 => wpAny M A (pyIter v) (fun i t2 => wpAny M A (newList []) (fun bag t3 => wpAny M A (newFunctionEnv scope env.globals cl [] env.qual none .none (some env)) (fun ce t4 =>
      codeAny M A (.compStart (.ListComp elt [⟨tg, iter, ifs, 0⟩] scope own) 0 i bag { ce with scope := relabel scope env }) (compPostF M A E use Q bag { ce with scope := relabel scope env }) t4) E t3) E t2) E t1) E s) :
    wpAny M A (comprehension (.ListComp elt [⟨tg, iter, ifs, 0⟩] scope own) scope env pos (newList []) false (eval iter env) use) Q E s := by
  unfold comprehension
  rw [closed, show clausesOf (.ListComp elt [⟨tg, iter, ifs, 0⟩] scope own) = [⟨tg, iter, ifs, 0⟩] from rfl]
  refine wpAny_bind (wpAny_mono start (fun v t1 p1 => ?_) fun _ _ z => z)
  refine wpAny_bind (wpAny_standAt (wpAny_bind (wpAny_of_eq (fold v) (wpAny_bind (wpAny_holding ?_)))))
  refine wpAny_mono p1 (fun i t2 p2 => wpAny_standIf (wpAny_bind ?_)) fun _ _ z => z
  refine wpAny_mono p2 (fun bag t3 p3 => wpAny_bind (wpAny_pure (wpAny_bind ?_))) fun _ _ z => z
  refine wpAny_mono p3 (fun ce t4 p4 => ?_) fun _ _ z => z
  dsimp only
  have here : ∀ z ∈ (scope.names.filter fun z => (z.2 == .local || z.2 == .cell) && z.1 != (".0" : Str)).reverse, z.2 = .local → Env.kindOf { ce with scope := relabel scope env } z.1 = some .local :=
    fun z m k => lookup_relabel_local (own_ z (List.mem_filter.mp (List.mem_reverse.mp m)).1 k)
  refine wpAny_holding (wpAny_bind (wpAny_attempt (wpAny_holding (wpAny_run (codeAny_mono p4 fun end_ t5 p5 => ?_)))))
  cases end_ with
  | error x =>
    obtain ⟨m, names, thrown⟩ := p5
    refine wpAny_bind (wpAny_holding (wpAny_comp_letGo (cenv := { ce with scope := relabel scope env }) fn _ t5 m here names fun h2 _ _ but => ?_))
    exact wpAny_mono (thrown h2 but) (fun _ _ z => z.elim) fun _ _ z => z
  | ok fl =>
    cases use with
    | none =>
      obtain ⟨m, names, told⟩ := p5
      refine wpAny_bind (wpAny_holding (wpAny_comp_letGo (cenv := { ce with scope := relabel scope env }) fn _ t5 m here names fun h2 _ _ but => ?_))
      exact wpAny_pure (told h2 but)
    | some u =>
      refine wpAny_bind (wpAny_rule (wpAny_bind (wpAny_holding ?_)))
      refine wpAny_mono p5 (fun _ t6 p6 => ?_) fun _ _ z => z
      obtain ⟨m, names, told⟩ := p6
      refine wpAny_bind (wpAny_comp_letGo (cenv := { ce with scope := relabel scope env }) fn _ t6 m (fun z mz k => ?_) names fun h2 _ _ but => wpAny_pure (told h2 but))
      exact (List.mem_append.mp mz).elim (fun q => here z (List.mem_of_mem_drop q) k) fun q => here z (List.mem_of_mem_take q) k
end
section
variable {X : Cx} {pins : List (Addr × Obj)} {σ : L2.St} {H3 : Hp} {s3 : Shared} {W : Value → Option Addr → Hp → Prop}
/-- the context of a block out of which a refusal comes -/
abbrev blkE (X : Cx) (s : Shared) (H : Hp) (scope : Scope) (cenv : Env) (fp : List Addr) (xe : Value → Shared → Prop) : Cx := (X.blk s H scope cenv fp).tr [] xe
theorem funFrames_less {B B' h : Heap} (k : ∀ b, B.get? b = none → B'.get? b = none) : ∀ {l : List Env}, h.FunFrames B l → h.FunFrames B' l
  | [], _ => trivial
  | _ :: _, ⟨a, ⟨L, o, e1, e2, e3, e4⟩, r⟩ => ⟨a, ⟨L, o, e1, k _ e2, e3, e4⟩, funFrames_less k r⟩
theorem funFrames_but {g h h' B B0 : Heap} {C : Addr} (hC : g.get? C = none) (k : ∀ b, b ≠ C → h'.get? b = h.get? b) : ∀ {l : List Env}, g.FunFrames B0 l → h.FunFrames B l → h'.FunFrames B l
  | [], _, _ => trivial
  | _ :: _, ⟨_, ⟨L1, o1, f1, _, g1, _⟩, r1⟩, ⟨a, ⟨L, o, e1, e2, e3, e4⟩, r⟩ => by
    rw [f1] at e1
    cases e1
    refine ⟨a, ⟨L1, o, f1, e2, (k L1 fun q => ?_).trans e3, e4⟩, funFrames_but hC k r1 r⟩
    rw [q, hC] at g1
    cases g1
theorem takes_blk {scope : Scope} {cl : List (Str × Addr)} {fp : List Addr} {use : Option (Value → Sem Unit)} {Qf : Value → Shared → Prop} {acc : Value} (I3 : Inv X pins σ H3 s3) (hs : X.stack = X.env :: X.outer) (hf : X.env.frame = some X.env.locals)
    (f3 : ∀ b ∈ fp, FpOk X pins H3 b ∧ b < s3.heap.objs.size) (tk : L2N.Takes X fun c d _ H => W c d H) :
    L2N.Takes (blkE X s3 H3 scope (compEnvC scope cl s3.heap.objs.size X.env) fp (notedBy (model X.prog X.w) X.A (compEnvC scope cl s3.heap.objs.size X.env) fun e s' => compPostF (model X.prog X.w) X.A X.xe use Qf acc (compEnvC scope cl s3.heap.objs.size X.env) (.error e) s')) fun c d _ H => W c d H := by
  rintro u s' ⟨a, B, sI, pins', σ', H', cls, d, rfl, I', nb, up, sky, na, os, ag, w⟩
  have hfr : X.A.frames = some (X.env :: X.outer) := by rw [I3.ok.frames, hs]
  have sky' : Sky B (X.env :: X.outer) a (L2N.Zn cls d) s3.heap.objs.size s'.heap := by rw [← hs]; exact sky
  have I7 : Inv X pins σ H' sI := I3.call' (ch := fp) I'.os I'.base I'.hok I'.bare fun b hb => ⟨(f3 b hb).1.2.2.2.1, (f3 b hb).1.2.1, (f3 b hb).1.2.2.2.2.1, (f3 b hb).1.2.2.2.2.2⟩
  have nC : H' s3.heap.objs.size = none := I'.free
  obtain ⟨m, hn, _⟩ := I'.loc
  have hn : sI.heap.Ns s3.heap.objs.size m := hn
  have fC := I3.fpOk (Nat.le_refl _) nC
  show wpAny (model X.prog X.w) X.A (noteFrame (.ref a) X.env) _ _ s'
  refine note_sky L2N.Zn.steady hfr hf sky' fun h1 hh1 up1 => ?_
  have hn1 : h1.Ns s3.heap.objs.size m := Heap.UpToSlots.ns (up.trans up1) hn
  refine ⟨m, hn1, fun h' hsb => ?_⟩
  have hCn : s3.heap.get? s3.heap.objs.size = none := by
    cases q : s3.heap.get? s3.heap.objs.size with
    | none => rfl
    | some o => exact absurd (Heap.lt_size q) (Nat.lt_irrefl _)
  generalize hC : s3.heap.objs.size = C at *
  have ge : ∀ {h : Heap} {b : Addr} {o : Obj}, (PySem.W.hideAll h [C]).get? b = some o → b ≠ C ∧ h.get? b = some o := fun {h b o} e => by
    refine ⟨fun q => ?_, PySem.W.of_hideAll _ e⟩
    rw [q, PySem.W.hideAll_none [C] (List.mem_singleton.mpr rfl)] at e
    cases e
  obtain ⟨k1, k2, k3, oe, vs, T, oT, ts, he, hz, hd, h1', hnT, hTe, hT, hdT, h3⟩ := hh1
  have noC : ∀ {b : Addr} {o : Obj} {fs : Array Value}, h1.get? b = some o → o.data = .fields fs → b ≠ C := fun {b o fs} e1 e2 q => by
    obtain ⟨o', es, ep, ho, hd', _⟩ := hn1
    rw [q, ho] at e1
    cases e1
    rw [hd'] at e2
    cases e2
  have hh2 : HeldZ (PySem.W.hideAll B [C]) (X.env :: X.outer) a (L2N.Zn cls d) X.env.locals h' := by
    refine ⟨fun b o e => ?_, ?_, ?_, oe, vs, T, oT, ts, ?_, hz, hd, h1', ?_, hTe, ?_, hdT, h3⟩
    · obtain ⟨h1, h2⟩ := ge e
      exact (hsb.2 b h1).trans (k1 b o h2)
    · cases q : (PySem.W.hideAll B [C]).get? a with
      | none => rfl
      | some o => rw [(ge q).2] at k2; cases k2
    · refine funFrames_less (fun b e => ?_) (funFrames_but hCn hsb.2 (by rw [← hs]; exact I3.stack) k3)
      cases q : (PySem.W.hideAll B [C]).get? b with
      | none => rfl
      | some o => rw [(ge q).2] at e; cases e
    · exact (hsb.2 a (noC he hd)).trans he
    · cases q : (PySem.W.hideAll B [C]).get? T with
      | none => rfl
      | some o => rw [(ge q).2] at hnT; cases hnT
    · exact (hsb.2 T (noC hT hdT)).trans hT
  refine pass_held hf hh2 fun h2 hh3 up3 => tk _ _ ⟨a, PySem.W.hideAll B [C], { sI with heap := PySem.W.hideAll sI.heap [C] }, pins, σ, H', cls, d, rfl, ?_, fun b o e hb => ?_, ?_, .inr (.inr (by rw [hs]; exact hh3)), na, os, ag, w⟩
  · obtain ⟨f0, f1, f2, f3', f4, f5⟩ := fC
    exact I7.turned (t' := sI.toks) (fun b o hb e => PySem.W.hideAll_get _ e (by simpa using hb)) f0 f1 f3' f4 f5
  · obtain ⟨n1, n2⟩ := ge e
    exact PySem.W.hideAll_get _ (nb b o n2 hb) (by simpa using n1)
  · refine Heap.UpToSlots.trans (fun b o e hn => ?_) up3
    obtain ⟨n1, n2⟩ := ge e
    obtain ⟨sl, q⟩ := (up.trans up1) b o n2 hn
    exact ⟨sl, (hsb.2 b n1).trans q⟩
/-- the comprehension itself, whatever is walked -/
theorem runs {σ : L2.St} {H : Hp} {Q : VK} {elt tg iter : Expr} {ifs : List Expr} {scope : Scope} {own : List (Str × Nat)} {pos spot : Pos} {wi : TI} {g : TG} {tt : TT} {te : TE} {use : Option (Value → Sem Unit)} {Qf : Value → Shared → Prop} {s : Shared}
    (calm : X.calm = true) (nd : X.N.Nodup) (I : Inv X pins σ H s) (walk : PI X tg iter wi) (ok : BlkOk X.N X.env.scope scope own) (hs : X.stack = X.env :: X.outer) (hf : X.env.frame = some X.env.locals) (tk : L2N.Takes X fun c d _ H => W c d H)
    (ptg : ∀ (s : Shared) (H : Hp) (C : Addr) (cl : List (Str × Addr)) (fp : List Addr) (xe : Value → Shared → Prop), PG (blkE X s H scope (compEnvC scope cl C X.env) fp xe) tg g)
    (pts : ∀ (s : Shared) (H : Hp) (C : Addr) (cl : List (Str × Addr)) (fp : List Addr) (xe : Value → Shared → Prop), PTs (blkE X s H scope (compEnvC scope cl C X.env) fp xe) ifs tt)
    (pel : ∀ (s : Shared) (H : Hp) (C : Addr) (cl : List (Str × Addr)) (fp : List Addr) (xe : Value → Shared → Prop), L2N.Takes (blkE X s H scope (compEnvC scope cl C X.env) fp xe) (fun c d _ H => W c d H) → PE (blkE X s H scope (compEnvC scope cl C X.env) fp xe) elt te)
    (fold : ∀ x, foldedSetIterable iter X.env x = pure x) (q0 : tLc wi g tt te (own.map (·.2)) σ H Q)
    (out : ∀ D C s' m H', Inv X pins σ H' s' → Q (.ref D) H' → s'.heap.Ns C m → FpOk X pins H' C → compPost (model X.prog X.w) X.A X.xe use Qf (.ref D) C (.ok .next) s') :
    wpAny (model X.prog X.w) X.A (comprehension (.ListComp elt [⟨tg, iter, ifs, 0⟩] scope pos) scope X.env spot (newList []) false (eval iter X.env) use) Qf X.xe s := by
  have closes : ∀ y ∈ scope.names, y.2 = .free → ∃ c, X.env.cells.lookup y.1 = some c := fun y hy e => I.ok.has _ ((ok.free y hy e).elim .inl .inr)
  refine comp_runs (use := use) fold (closure_ok closes) ok.kind (fun y hy e => by rw [ok.uniq y hy, e]) (thn (walk.run pins s σ H _ I q0) fun v1 s1 w1 => thn w1 fun v2 s2 w2 => ?_)
  obtain ⟨it, fp, tn, J, H2, rfl, I2, T, st2, ff, q⟩ := w2
  refine wpAny_newObj_type (newEnv_comp ?_) (Nat.zero_le _ : 0 ≤ sizeLine)
  have nD : H2 s2.heap.objs.size = none := I2.hok.fresh (Nat.le_refl _)
  obtain ⟨Wt, ⟨m0, w0⟩, turn⟩ := q s2.heap.objs.size nD
  -- the list that is to be
  have gD := Heap.get?_push_size s2.heap (o := { cls := .type "list", data := .seq ([] : List Value).toArray }) rfl
  have up2 : ∀ b o, s2.heap.get? b = some o → (s2.heap.push { cls := .type "list", data := .seq ([] : List Value).toArray }).get? b = some o := fun b o e => Heap.get?_push_of_some _ e
  have I3 := I2.laid (t' := s2.toks) (a := s2.heap.objs.size) (o := .lst []) up2 (Nat.le_refl _) ⟨Nat.zero_le _, [], 0, .nil, gD⟩
  have low : ∀ b ∈ fp, b < s2.heap.objs.size := fun b hb => Heap.lt_size (T.obj _ _ st2 b hb).choose_spec.1
  have size2 : (s2.heap.push { cls := .type "list", data := .seq ([] : List Value).toArray }).objs.size = s2.heap.objs.size + 1 := Heap.size_push ..
  have f3 : ∀ b ∈ fp, FpOk X pins (upd H2 s2.heap.objs.size (.lst [])) b ∧ b < (s2.heap.push { cls := .type "list", data := .seq ([] : List Value).toArray }).objs.size := fun b hb => by
    have h1 := low b hb
    refine ⟨⟨?_, (ff b hb).2⟩, by rw [size2]; exact Nat.lt_succ_of_lt h1⟩
    rw [upd_ne (Nat.ne_of_lt h1)]
    exact (ff b hb).1
  have st3 := T.keep _ _ _ st2 fun b _ o e => up2 b o e
  generalize eD : s2.heap.objs.size = D at I3 w0 turn f3 gD ⊢
  generalize eh3 : s2.heap.push { cls := .type "list", data := .seq ([] : List Value).toArray } = h3 at I3 f3 st3 gD ⊢
  generalize eH3 : upd H2 D (.lst []) = H3 at I3 w0 f3 ⊢
  have J3 : Inv X pins σ H3 ({ s2 with heap := h3 } : Shared) := I3
  clear I3
  generalize es3 : ({ s2 with heap := h3 } : Shared) = s3 at J3
  have e3 : s3.heap = h3 := by rw [← es3]
  have f3' : ∀ b ∈ fp, FpOk X pins H3 b ∧ b < s3.heap.objs.size := fun b hb => by rw [e3]; exact f3 b hb
  have I4 := block_start J3 ok nd f3'
  have tkb := takes_blk (scope := scope) (cl := cellsFrom (s3.heap.objs.size + 1) scope.names (cloFrom X.env.cells scope.names [])) (use := use) (Qf := Qf) (acc := .ref D) J3 hs hf f3' tk
  have xtg := ptg s3 H3 s3.heap.objs.size (cellsFrom (s3.heap.objs.size + 1) scope.names (cloFrom X.env.cells scope.names [])) fp
  have xts := pts s3 H3 s3.heap.objs.size (cellsFrom (s3.heap.objs.size + 1) scope.names (cloFrom X.env.cells scope.names [])) fp
  have xel := pel s3 H3 s3.heap.objs.size (cellsFrom (s3.heap.objs.size + 1) scope.names (cloFrom X.env.cells scope.names [])) fp
  show codeAny _ _ (.compStart (.ListComp elt [⟨tg, iter, ifs, 0⟩] scope pos) 0 (.ref it) (.ref D) (compEnvC scope (cellsFrom (s3.heap.objs.size + 1) scope.names (cloFrom X.env.cells scope.names [])) s3.heap.objs.size X.env)) (compPostF (model X.prog X.w) X.A X.xe use Qf (.ref D) (compEnvC scope (cellsFrom (s3.heap.objs.size + 1) scope.names (cloFrom X.env.cells scope.names [])) s3.heap.objs.size X.env)) _
  have cL : (compEnvC scope (cellsFrom (s3.heap.objs.size + 1) scope.names (cloFrom X.env.cells scope.names [])) s3.heap.objs.size X.env).locals = s3.heap.objs.size := rfl
  generalize ece : compEnvC scope (cellsFrom (s3.heap.objs.size + 1) scope.names (cloFrom X.env.cells scope.names [])) s3.heap.objs.size X.env = ce at I4 tkb xtg xts xel cL ⊢
  generalize exe : (notedBy (model X.prog X.w) X.A ce fun e s' => compPostF (model X.prog X.w) X.A X.xe use Qf (.ref D) ce (.error e) s') = xe at tkb
  have J4 : Inv (blkE X s3 H3 scope ce fp xe) [] (wipe σ (own.map (·.2))) H3 { s3 with heap := pushCells (s3.heap.push { cls := .type "dict", data := .dict #[] }) scope.names } := I4.toTry xe
  clear I4
  generalize es4 : ({ s3 with heap := pushCells (s3.heap.push { cls := .type "dict", data := .dict #[] }) scope.names } : Shared) = s4 at J4 ⊢
  have st4 : tn 0 s4.heap := T.keep _ _ _ st3 fun b _ o e => by
    rw [← es4]
    exact pushCells_keeps _ _ _ _ (Heap.get?_push_of_some _ (by rw [e3]; exact e))
  have idle : ∀ b ∈ fp, H3 b = none := fun b hb => (f3' b hb).1.1
  have still : ∀ {τ : L2.St} {H' : Hp} {s' : Shared}, Inv (blkE X s3 H3 scope ce fp xe) [] τ H' s' → (∀ b ∈ fp, H' b = none) → ∀ b ∈ fp, FpOk (blkE X s3 H3 scope ce fp xe) [] H' b := fun {τ H' s'} J n b hb =>
    ⟨n b hb, (J.ok.exf b hb).1, J.ok.exfs b hb, .inl hb, (J.ok.exf b hb).2, fun p hp => nomatch (show p ∈ ([] : List (Addr × Obj)) from hp)⟩
  have loop : codeAny (model X.prog X.w) X.A (.compLoop (.ListComp elt [⟨tg, iter, ifs, 0⟩] scope pos) 0 (.ref it) (.ref D) ce) (compPostF (model X.prog X.w) X.A X.xe use Qf (.ref D) ce) s4 := by
    refine compLoop_any (fun n s' => ∃ i H', Inv (blkE X s3 H3 scope ce fp xe) [] (wipe σ (own.map (·.2))) H' s' ∧ tn i s'.heap ∧ (∀ b ∈ fp, H' b = none) ∧ Wt i n H') ?_ m0 ⟨0, H3, J4, st4, idle, w0⟩
    rw [exe]
    rintro n s5 ⟨i, H5, J5, t5, n5, w5⟩
    rcases turn i n H5 w5 with ⟨over, q5⟩ | ⟨more, Nx, hNx, step⟩
    · refine thnF (T.done (blkE X s3 H3 scope ce fp xe) rfl rfl rfl calm i [] s5 _ H5 (fun _ _ => False) J5 (still J5 n5) t5 over) fun r s6 h6 => ?_
      obtain ⟨rfl, J6⟩ := h6
      have nC : H5 s3.heap.objs.size = none := cL ▸ J6.free
      obtain ⟨m, hn, _⟩ := J6.loc
      have hn : s6.heap.Ns s3.heap.objs.size m := cL ▸ hn
      have back : Inv X pins σ H5 s6 := J3.call' (ch := fp) J6.os J6.base J6.hok J6.bare fun b hb => ⟨(f3' b hb).1.2.2.2.1, (f3' b hb).1.2.1, (f3' b hb).1.2.2.2.2.1, (f3' b hb).1.2.2.2.2.2⟩
      show compPost _ _ _ use Qf (.ref D) ce.locals (.ok .next) s6
      rw [cL]
      exact out D _ s6 m H5 back q5 hn (J3.fpOk (Nat.le_refl _) nC)
    · refine thnF (T.item (blkE X s3 H3 scope ce fp xe) rfl rfl rfl calm i [] s5 _ H5 (fun _ _ => False) J5 (still J5 n5) t5 more) fun r s6 h6 => ?_
      obtain ⟨u, rfl, h6⟩ := h6
      refine thnF h6 fun _ s7 h7 => ?_
      obtain ⟨x, H7, J7, r7, y7, t7, n7⟩ := h7
      refine thn ((xtg xe).run _ s7 _ H7 x u _ (J7.pinned (still J7 n7) (T.obj _ _ t7)) r7 (step x H7 y7)) fun _ s8 h8 => ?_
      obtain ⟨σ8, H8, J8, same, q8⟩ := h8
      refine thn ((xts xe).run _ s8 σ8 H8 _ J8 q8) fun b s9 h9 => ?_
      obtain ⟨H9, J9, q9⟩ := h9
      have round : ∀ {s' : Shared} {H' : Hp}, Inv (blkE X s3 H3 scope ce fp xe) ([] ++ pinsAt fp s7.heap) σ8 H' s' → Nx H' → ∃ m, m < n ∧ ∃ i H', Inv (blkE X s3 H3 scope ce fp xe) [] (wipe σ (own.map (·.2))) H' s' ∧ tn i s'.heap ∧ (∀ b ∈ fp, H' b = none) ∧ Wt i m H' := fun {s' H'} J nx => by
        obtain ⟨m, hm, w⟩ := hNx H' nx
        have held : ∀ b ∈ fp, ∀ o, s7.heap.get? b = some o → s'.heap.get? b = some o ∧ H' b = none := fun b hb o e =>
          have z := J.pin (b, o) (List.mem_append_right _ (List.mem_append_right _ (mem_pinsAt hb e)))
          ⟨z.1, z.2.1⟩
        refine ⟨m, hm, i + 1, H', (J.unpinned (pins := [])).weak (by rw [← same, wipe_length]) (fun j v e => ?_), T.keep _ _ _ t7 fun b hb o e => (held b hb o e).1, fun b hb => ?_, w⟩
        · rw [← same] at e
          exact And.left (wipe_some e)
        · obtain ⟨o, e, _⟩ := T.obj _ _ t7 b hb
          exact (held b hb o e).2
      cases b with
      | false => exact round J9 q9
      | true =>
        refine thn ((xel xe tkb).run _ s9 σ8 H9 _ J9 q9) fun z s10 h10 => ?_
        obtain ⟨y, H10, J10, r10, acc, gl, hz, nx⟩ := h10
        exact app_ok (X := blkE X s3 H3 scope ce fp xe) J10 gl hz r10 fun s11 J11 => round J11 nx
  exact codeAny_compStart_list loop <| T.self X.A 0 _ _ _ st4 loop
theorem pe_lcX {elt tg iter : Expr} {ifs : List Expr} {scope : Scope} {own : List (Str × Nat)} {pos : Pos} {wi : TI} {g : TG} {tt : TT} {te : TE}
    (calm : X.calm = true) (nd : X.N.Nodup) (walk : PI X tg iter wi) (ok : BlkOk X.N X.env.scope scope own) (hs : X.stack = X.env :: X.outer) (hf : X.env.frame = some X.env.locals) (tk : L2N.Takes X fun c d _ H => W c d H)
    (ptg : ∀ (s : Shared) (H : Hp) (C : Addr) (cl : List (Str × Addr)) (fp : List Addr) (xe : Value → Shared → Prop), PG (blkE X s H scope (compEnvC scope cl C X.env) fp xe) tg g)
    (pts : ∀ (s : Shared) (H : Hp) (C : Addr) (cl : List (Str × Addr)) (fp : List Addr) (xe : Value → Shared → Prop), PTs (blkE X s H scope (compEnvC scope cl C X.env) fp xe) ifs tt)
    (pel : ∀ (s : Shared) (H : Hp) (C : Addr) (cl : List (Str × Addr)) (fp : List Addr) (xe : Value → Shared → Prop), L2N.Takes (blkE X s H scope (compEnvC scope cl C X.env) fp xe) (fun c d _ H => W c d H) → PE (blkE X s H scope (compEnvC scope cl C X.env) fp xe) elt te)
    (fold : ∀ x, foldedSetIterable iter X.env x = pure x := by intro _; rfl) : PE X (.ListComp elt [⟨tg, iter, ifs, 0⟩] scope pos) (tLc wi g tt te (own.map (·.2))) := by
  constructor
  intro pins s σ H Q I q
  rw [eval_ListComp]
  refine runs calm nd I walk ok hs hf tk ptg pts pel fold q fun D C s' m H' J q' hn f => ⟨m, hn, fun h' sb => ?_⟩
  exact ⟨.ref D, H', J.turned (t' := s'.toks) (fun b o hb e => (sb.2 b hb).trans e) f.1 f.2.1 f.2.2.2.1 f.2.2.2.2.1 f.2.2.2.2.2, rfl, q'⟩
end
end LcX
namespace DL
open PySem PySem.Spec L2 LcX
section
variable {X : Cx} {B : Hp} {W : Value → Option Addr → Hp → Prop} {elt tg iter : Expr} {ifs : List Expr} {scope : Scope} {own : List (Str × Nat)} {pos : Pos} {wi : DTI} {g : DTG} {tt : DTT} {te : DTE}
/-- [.. for .. in ..], its parts may refuse -/
theorem d_lcX (hc : X.calm = true) (hN : X.N.Nodup) (hs : X.stack = X.env :: X.outer) (hf : X.env.frame = some X.env.locals) (tk : L2N.Takes X fun c d _ H => W c d H) (hi : DI X B tg iter wi) (ok : BlkOk X.N X.env.scope scope own)
    (hg : ∀ (s : Shared) (H : Hp) (C : Addr) (cl : List (Str × Addr)) (fp : List Addr) (xe : Value → Shared → Prop), PG (blkE X s H scope (compEnvC scope cl C X.env) fp xe) tg (tDGw X.K B (own.map (·.2)) g))
    (ht : ∀ (s : Shared) (H : Hp) (C : Addr) (cl : List (Str × Addr)) (fp : List Addr) (xe : Value → Shared → Prop), PTs (blkE X s H scope (compEnvC scope cl C X.env) fp xe) ifs (tDT X.K B tt))
    (he : ∀ (s : Shared) (H : Hp) (C : Addr) (cl : List (Str × Addr)) (fp : List Addr) (xe : Value → Shared → Prop), L2N.Takes (blkE X s H scope (compEnvC scope cl C X.env) fp xe) (fun c d _ H => W c d H) → PE (blkE X s H scope (compEnvC scope cl C X.env) fp xe) elt (tD X.K B te))
    (fold : ∀ x, foldedSetIterable iter X.env x = pure x := by intro _; rfl) : DE X B (.ListComp elt [⟨tg, iter, ifs, 0⟩] scope pos) (dLc wi g tt te (own.map (·.2))) :=
  PE.imp (pe_lcX hc hN hi ok hs hf tk hg ht he fold) (lc_imp fun a xs ys H h1 h2 => by rw [h1] at h2; cases h2; rfl)
end
end DL

set_option Elab.async false
set_option linter.all false
set_option maxRecDepth 100000
set_option maxHeartbeats 2000000
/-! Texts: a sign, a part, the signs one by one, a sign in a text, so many times; None in a list. -/
namespace DL
open PySem PySem.Spec L2 PyProof.Rows
section
variable {X : Cx} {B : Hp} {a b o e : Expr} {ta tb to te : DTE} {pos apos : Pos}
/-- s[i] -/
def rIxSD : DR2 := fun x y G P => ∃ (z : Str) (i : Int) (c : Nat), x = .str z ∧ y = .int i ∧ z.length ≤ sizeLine ∧ atI z.cps.toList i = some c ∧ P (.str ⟨#[c]⟩) G
theorem d_ixS (ha : DE X B a ta) (hb : DE X B b tb) (hs : PlainIx b) : DE X B (.Subscript a b pos) (dOp rIxSD ta tb) :=
  PE.imp (pe_ix ix_str ha hb hs) (dop_imp fun F G H v w x y P Q g rx ry ⟨z, i, c, e1, e2, hz, ht, p⟩ k => by
    subst e1; subst e2
    cases rx
    cases ry
    exact ⟨z, i, c, rfl, rfl, hz, ht, k _ G _ F H p (Le.refl F) g (.str _)⟩)
/-- s[lo:hi] -/
def dCutS (te : DTE) (lo hi : DTO) : DTE := fun δ G P => te δ G fun x G1 => lo δ G1 fun l G2 => hi δ G2 fun u G3 => ∃ z, x = .str z ∧ z.length ≤ sizeLine ∧ P (.str (cutS z l u)) G3
theorem d_sliceS {lo hi : Option Expr} {tl th : DTO} {p2 : Pos} (he : DE X B e te) (hl : DO X B lo tl) (hu : DO X B hi th) : DE X B (.Subscript e (.Slice lo hi none p2) pos) (dCutS te tl th) :=
  PE.imp (pe_slice sl_str he hl.po hu.po) fun σ H Q ⟨F, G, δ, P, g, s, p, c⟩ =>
  ⟨F, G, δ, _, g, s, p, fun x G1 vx F1 H1 p1 l1 g1 i1 => ⟨F1, G1, δ, _, g1, s.le l1, p1, fun l G2 F2 H2 p2 l2 g2 => ⟨F2, G2, δ, _, g2, (s.le l1).le l2, p2, fun u G3 F3 H3 ⟨z, ez, hz, p3⟩ l3 g3 => by
    subst ez
    cases i1
    exact ⟨z, rfl, hz, c _ G3 _ F3 H3 p3 ((l1.trans l2).trans l3) g3 (.str _)⟩⟩⟩⟩
/-- for sign in s -/
def diStr (te : DTE) : DTI := fun δ G P => te δ G fun d G1 => ∃ z : Str, d = .str z ∧ P (z.cps.toList.map fun c => Dt.str ⟨#[c]⟩) G1
theorem di_str {tg : Expr} (h : DE X B e te) : DI X B tg e (diStr te) := PI.imp (pi_str h) fun σ H R ⟨F, G, δ, P, g, s, p, c⟩ =>
  ⟨F, G, δ, _, g, s, p, fun d G1 v F1 H1 ⟨z, ez, p1⟩ l1 g1 i1 => by
    subst ez
    cases i1
    refine ⟨z, rfl, c _ G1 F1 H1 _ p1 l1 g1 ⟨fun i F' G H l g hi => ?_, fun i F' G H x H' d l g hd ⟨e1, k, hk, hx⟩ => ?_, fun i F' G H l g hi => ?_⟩⟩
    · show i < z.cps.size
      simpa using hi
    · subst e1
      subst hx
      rw [List.getElem?_map] at hd
      obtain ⟨k', hk', rfl⟩ := Option.map_eq_some_iff.mp hd
      rw [Array.getElem?_toList, hk] at hk'
      cases hk'
      exact ⟨F', Le.refl F', g, .str _⟩
    · show z.cps.size ≤ i
      simpa using hi⟩
/-- a sign not in a text -/
def rNinS : DR2 := fun x y G P => ∃ (c : Nat) (z : Str), x = .str ⟨#[c]⟩ ∧ y = .str z ∧ P (.bl (!decide (c ∈ z.cps.toList))) G
theorem o_ninS : DOp X B (compareOp .NotIn) rNinS := ⟨_, op_notIn_sign, fun F G H v w x y P Q g rx ry ⟨c, z, e1, e2, p⟩ k => by
  subst e1; subst e2
  cases rx
  cases ry
  exact ⟨c, z, rfl, rfl, k _ G _ F H p (Le.refl F) g (.bl _)⟩⟩
theorem now_asL {G : Gp} {x : Dt} {l : List Dt} (h : asL G x = some l) : now G x = .lst l := by
  unfold now
  rw [h]
/-- x in a list of things told -/
def rInT : DR2 := fun x y G P => ∃ l : List Dt, asL G y = some l ∧ plT 8 (now G x) = true ∧ l.all (plT 8) = true ∧ P (.bl ((l.map (toPyT 8)).any fun z => PyData.eqv z (toPyT 8 (now G x)))) G
theorem o_inT {k : Nat} (hr : Room k X.A) : DOp X B (compareOp .In) rInT := ⟨_, op_inD (by have := hr.un; omega), fun F G H v w x y P Q g rx ry ⟨l, h, h1, h2, p⟩ c => by
  have en : now G y = .lst l := now_asL h
  have h3 : plT 9 (now G y) = true := by rw [en]; exact h2
  have d2 := nowT_is g ry h3
  have s2 := plT_shaped (by decide) h3
  rw [en] at d2 s2
  exact ⟨_, _, nowT_is g rx h1, d2, plT_shaped (by decide) h1, s2, c _ G _ F H p (Le.refl F) g (.bl _)⟩⟩
/-- a text so many times -/
def timesS (z : Str) (n : Nat) : Str := ⟨(List.replicate n z.cps).foldl (· ++ ·) #[]⟩
theorem fold_size {c : Array Nat} : ∀ (n : Nat) (acc : Array Nat), ((List.replicate n c).foldl (· ++ ·) acc).size = acc.size + n * c.size
  | 0, acc => by simp
  | n + 1, acc => by
    rw [List.replicate_succ, List.foldl_cons, fold_size n (acc ++ c), Array.size_append, Nat.add_mul]
    omega
theorem timesS_len (z : Str) (n : Nat) : (timesS z n).length = z.length * n := by
  show ((List.replicate n z.cps).foldl (· ++ ·) #[]).size = z.cps.size * n
  rw [fold_size, Nat.mul_comm]
  simp
theorem op_mulS : OpR X (binaryOp .Mult) (fun x y H Q => ∃ (z : Str) (n : Nat), x = .str z ∧ y = .int (n : Int) ∧ 1 < n ∧ 0 < z.length ∧ z.length * n ≤ 1000 ∧ Q (.str (timesS z n)) H) := by
  intro pins s σ H x y v u Q I rx ry h
  obtain ⟨z, n, rfl, rfl, hn, hz, hb, q⟩ := h
  obtain ⟨t, rfl⟩ := rx
  obtain ⟨t', rfl⟩ := ry
  have n1000 : n ≤ 1000 := Nat.le_trans (Nat.le_mul_of_pos_left n hz) hb
  refine PySem.P.mul_str ?_ ?_ ?_ ?_
  · simp; omega
  · intro _ _
    have h0 : (z.length : Int) * (n : Int) ≤ 1000 := by exact_mod_cast hb
    exact Int.not_lt.mpr (Int.le_ediv_of_mul_le (by omega) (by omega))
  · intro _ _
    unfold Builtin.Str.tooLong
    rw [Int.toNat_natCast]
    first
      | (simp; omega)
      | (rw [decide_eq_false_iff_not, sizeLine_eq]; omega)
  · rw [if_neg (by omega), if_neg (by simp; omega), Int.toNat_natCast]
    refine ⟨?_, .str (timesS z n), H, I.tok _, ⟨_, rfl⟩, q⟩
    show (timesS z n).length ≤ sizeLine
    rw [timesS_len, sizeLine_eq]
    omega
def rMulS : DR2 := fun x y G P => ∃ (z : Str) (n : Nat), x = .str z ∧ y = .int (n : Int) ∧ 1 < n ∧ 0 < z.length ∧ z.length * n ≤ 1000 ∧ P (.str (timesS z n)) G
theorem o_mulS : DOp X B (binaryOp .Mult) rMulS := ⟨_, op_mulS, fun F G H v w x y P Q g rx ry ⟨z, n, e1, e2, h1, h2, h3, p⟩ k => by
  subst e1; subst e2
  cases rx
  cases ry
  exact ⟨z, n, rfl, rfl, h1, h2, h3, k _ G _ F H p (Le.refl F) g (.str _)⟩⟩
/-- s.split(t) as a new list -/
def dSplitM (to te : DTE) : DTE := fun δ G P => to δ G fun x G1 => ∃ a, x = .str a ∧ te δ G1 fun y G2 => ∃ b : Str, y = .str b ∧ (b.length == 0) = false ∧ a.length + 2 ≤ sizeLine ∧ ∀ q, G2 q = none → P (.ref q) (gupd G2 q (.lst (strD (Txt.split a b))))
theorem d_splitM (ho : DE X B o to) (he : DE X B e te) (hs : starEach [e] X.env = [(false, eval e X.env)] := by rfl) (hbase : attributeBase o "split" X.env (eval o X.env) = eval o X.env := by rfl) (hline : (apos.endLine == pos.line) = true := by rfl) :
    DE X B (.Call (.Attribute o "split" apos) [e] [] pos) (dSplitM to te) := PE.imp (pe_split ho he hs hbase hline) fun σ H Q ⟨F, G, δ, P, g, s, p, c⟩ =>
  ⟨F, G, δ, _, g, s, p, fun x G1 vx F1 H1 ⟨a, ex, p1⟩ l1 g1 i1 => by
    subst ex
    cases i1
    refine ⟨⟨a, rfl⟩, F1, G1, δ, _, g1, s.le l1, p1, fun y G2 vy F2 H2 ⟨b, ey, hb, hz, p2⟩ l2 g2 i2 => ?_⟩
    subst ey
    cases i2
    refine ⟨a, b, rfl, rfl, hb, hz, fun q hq => ?_⟩
    have g3 := g2.newM hq (o := .lst ((Txt.split a b).map V.str)) (m := .lst (strD (Txt.split a b))) (isL_strsOf _)
    exact c _ _ _ _ _ (p2 q (g2.gnone hq)) (l1.trans l2) g3 (.ref _)⟩
end
end DL

set_option Elab.async false
set_option linter.all false
set_option maxRecDepth 100000
set_option maxHeartbeats 2000000
/-! Which texts write numbers. -/
namespace V
open PySem PySem.Spec L2 DL TL
def digB (c : Nat) : Bool := decide (48 ≤ c) && decide (c ≤ 57)
/-- so the signs of a number's text are -/
def canonB (l : List Nat) : Bool := !l.isEmpty && decide (l.length ≤ 9) && l.all digB && (decide (l.head? ≠ some 48) || decide (l = [48]))
theorem digB_iff {c : Nat} : digB c = true ↔ 48 ≤ c ∧ c ≤ 57 := by simp [digB]
theorem numL_big : ∀ (k n : Nat), 10 ^ k ≤ n → k < (numL n).length
  | 0, n, _ => List.length_pos_iff.mpr (numL_ne n)
  | k + 1, n, h => by
    have h10 : 10 ^ (k + 1) = 10 * 10 ^ k := by rw [Nat.pow_succ, Nat.mul_comm]
    have hp : 0 < 10 ^ k := Nat.pow_pos (by decide)
    have := numL_big k (n / 10) (by omega)
    rw [numL_step (by omega), List.length_append]
    show k + 1 < (numL (n / 10)).length + 1
    omega
theorem canon_is : ∀ (m : Nat) (l : List Nat), l.length = m → l ≠ [] → (∀ c ∈ l, 48 ≤ c ∧ c ≤ 57) → (l.head? ≠ some 48 ∨ l = [48]) → ∃ n, numL n = l := by
  intro m
  induction m with
  | zero => intro l h hn; exact absurd (List.length_eq_zero_iff.mp h) hn
  | succ m ih =>
    intro l hl hn hd hh
    rcases List.eq_nil_or_concat l with rfl | ⟨i, c, rfl⟩
    · exact absurd rfl hn
    · rw [List.concat_eq_append] at *
      have hc := hd c (by simp)
      by_cases hi : i = []
      · subst hi
        refine ⟨c - 48, ?_⟩
        rw [numL_lt (by omega), show 48 + (c - 48) = c by omega]
        rfl
      · have hh' : i.head? ≠ some 48 := by
          rcases hh with h | h
          · cases i with
            | nil => exact absurd rfl hi
            | cons a r => exact h
          · have := congrArg List.length h
            rw [List.length_append] at this
            have : i.length = 0 := by simpa using this
            exact absurd (List.length_eq_zero_iff.mp this) hi
        obtain ⟨n, hnl⟩ := ih i (by rw [List.length_append] at hl; simpa using hl) hi (fun z hz => hd z (List.mem_append_left _ hz)) (.inl hh')
        have h0 : n ≠ 0 := fun e => by
          subst e
          rw [numL_lt (by decide)] at hnl
          rw [← hnl] at hh'
          exact hh' rfl
        refine ⟨10 * n + (c - 48), ?_⟩
        rw [numL_step (by omega), show (10 * n + (c - 48)) / 10 = n by omega, show (10 * n + (c - 48)) % 10 = c - 48 by omega, hnl, show 48 + (c - 48) = c by omega]
theorem canon_num {w : Str} (h : canonB w.cps.toList = true) : ∃ n, n < 10 ^ 9 ∧ w = numS n := by
  unfold canonB at h
  simp only [Bool.and_eq_true, Bool.or_eq_true, decide_eq_true_eq, Bool.not_eq_true', List.all_eq_true] at h
  obtain ⟨⟨⟨h1, h2⟩, h3⟩, h4⟩ := h
  obtain ⟨n, hn⟩ := canon_is _ _ rfl (fun e => by rw [e] at h1; cases h1) (fun c hc => digB_iff.mp (h3 c hc)) h4
  refine ⟨n, ?_, ext_tl (by rw [tl_numS]; exact hn.symm)⟩
  refine Nat.lt_of_not_le fun hb => ?_
  have := numL_big 9 n hb
  rw [hn] at this
  omega
theorem num_canon {n : Nat} (h : n < 10 ^ 9) : canonB (numS n).cps.toList = true := by
  have e : (numS n).cps.toList = numL n := tl_numS n
  rw [e]
  unfold canonB
  simp only [Bool.and_eq_true, Bool.or_eq_true, decide_eq_true_eq, Bool.not_eq_true', List.all_eq_true]
  refine ⟨⟨⟨?_, numL_len (by decide) h⟩, fun c hc => digB_iff.mpr (numL_dig hc)⟩, ?_⟩
  · cases q : numL n with
    | nil => exact absurd q (numL_ne n)
    | cons => rfl
  · by_cases h0 : n = 0
    · subst h0
      exact .inr (numL_lt (by decide))
    · exact .inl (numL_head (by omega))
/-- the number that a text writes -/
def numO (w : Str) : Option Nat := if canonB w.cps.toList = true then some (NumText.digitsVal w.cps.toList) else none
theorem numO_num {n : Nat} (h : n < 10 ^ 9) : numO (numS n) = some n := by
  unfold numO
  rw [if_pos (num_canon h)]
  have e : (numS n).cps.toList = numL n := tl_numS n
  rw [e, numL_val]
theorem numO_some {w : Str} {n : Nat} (h : numO w = some n) : n < 10 ^ 9 ∧ w = numS n := by
  unfold numO at h
  by_cases hc : canonB w.cps.toList = true
  · obtain ⟨m, hm, rfl⟩ := canon_num hc
    have := numO_num hm
    unfold numO at this
    rw [h] at this
    cases this
    exact ⟨hm, rfl⟩
  · rw [if_neg hc] at h; cases h
theorem numO_none {w : Str} (h : numO w = none) : canonB w.cps.toList = false := by
  unfold numO at h
  by_cases hc : canonB w.cps.toList = true
  · rw [if_pos hc] at h; cases h
  · simpa using hc
/-! ### as the program looks at them -/
theorem uni_ascii {c : Nat} (h : c < 128) : Unicode.isDigit c = digB c := by
  have k : ∀ m : _root_.Fin 128, Unicode.isDigit m.val = digB m.val := by decide +kernel
  exact k ⟨c, h⟩
theorem zero_cps : (Str.ofString "0").cps.toList = [48] := by decide +kernel
theorem zero_len : (Str.ofString "0").length = 1 := by decide +kernel
theorem eq_zero {w : Str} : w = Str.ofString "0" ↔ w.cps.toList = [48] := ⟨fun e => by rw [e]; exact zero_cps, fun e => ext_tl (e.trans zero_cps.symm)⟩
theorem starts_zero {w : Str} : Txt.startswith w "0" = decide (w.cps.toList.head? = some 48) := by
  unfold Txt.startswith Builtin.Str.subAt
  have h5 : (Str.ofString "0").length = 1 := zero_len
  rw [h5]
  have hl : w.length = w.cps.toList.length := by simp [Str.length]
  rw [Bool.eq_iff_iff, Bool.and_eq_true, decide_eq_true_eq, decide_eq_true_eq, beq_iff_eq]
  have z : (Str.ofString "0").cps = #[48] := by decide +kernel
  rw [z, hl]
  obtain ⟨⟨l⟩⟩ := w
  cases l with
  | nil => simp
  | cons c r =>
    have e : (({ toList := c :: r } : Array Nat).extract 0 (0 + 1) = #[48]) ↔ c = 48 := by
      constructor
      · intro h
        have := congrArg Array.toList h
        rw [Array.toList_extract] at this
        simpa using this
      · intro h
        subst h
        refine Array.ext' ?_
        rw [Array.toList_extract]
        simp
    rw [e]
    simp
theorem isNum_is (w : Str) : (Txt.isascii w && Txt.isdigit w && decide (w.length ≤ 9) && (decide (w = Str.ofString "0") || !Txt.startswith w "0")) = canonB w.cps.toList := by
  rw [starts_zero]
  unfold Txt.isascii Txt.isdigit canonB
  have hl : w.length = w.cps.toList.length := by simp [Str.length]
  have e0 : decide (w = Str.ofString "0") = decide (w.cps.toList = [48]) := decide_eq_decide.mpr eq_zero
  rw [hl, ← Array.all_toList, ← Array.all_toList, e0]
  rw [Bool.eq_iff_iff]
  simp only [Bool.and_eq_true, Bool.or_eq_true, decide_eq_true_eq, List.all_eq_true, Bool.not_eq_true', decide_eq_false_iff_not]
  generalize w.cps.toList = l
  have hu : (∀ c ∈ l, c < 128) → ((∀ c ∈ l, Unicode.isDigit c = true) ↔ ∀ c ∈ l, digB c = true) := fun h => ⟨fun k c hc => by rw [← uni_ascii (h c hc)]; exact k c hc, fun k c hc => by rw [uni_ascii (h c hc)]; exact k c hc⟩
  constructor
  · rintro ⟨⟨⟨h1, h2, h3⟩, h4⟩, h5⟩
    refine ⟨⟨⟨?_, h4⟩, (hu h1).mp h3⟩, ?_⟩
    · cases l with
      | nil => simp at h2
      | cons => rfl
    · rcases h5 with h5 | h5
      · exact .inr h5
      · exact .inl h5
  · rintro ⟨⟨⟨h1, h2⟩, h3⟩, h4⟩
    have lt : ∀ c ∈ l, c < 128 := fun c hc => by have := digB_iff.mp (h3 c hc); omega
    refine ⟨⟨⟨lt, ?_, (hu lt).mpr h3⟩, h2⟩, ?_⟩
    · cases l with
      | nil => cases h1
      | cons => simp
    · rcases h4 with h4 | h4
      · exact .inr h4
      · exact .inl h4
end V

set_option Elab.async false
set_option linter.all false
set_option maxRecDepth 100000
set_option maxHeartbeats 4000000
/-! The tray of draws, where there is no village; movedays.readings and texts of tales. -/
namespace V
open PySem PySem.Spec L2 DL
def top (i : Nat) : Stmt := PySem.Challenge.pw_movedays_k55_texts_of_no_tale.main.body.getD i (.Pass ⟨0, 0, 0, 0⟩)
theorem filt_true {α : Type} (l : List α) : (l.filter fun _ => true) = l := List.filter_eq_self.mpr fun _ _ => rfl
structure Src (own : Addr → Prop) (R : Gp → Nat → Prop) : Prop where
  ge : ∀ {G G' : Gp} {n : Nat}, R G n → (∀ a, own a → G' a = G a) → R G' n
  has : ∀ {G : Gp} {n : Nat} {a : Addr}, R G n → own a → G a ≠ none
  mono : ∀ {G : Gp} {n m : Nat}, R G n → m ≤ n → R G m
/-- all but the source stands -/
def OExt (own : Addr → Prop) (G G' : Gp) : Prop := ∀ a m, ¬ own a → G a = some m → G' a = some m
section
variable {own : Addr → Prop} {R : Gp → Nat → Prop} {G G' G'' : Gp} {n m : Nat} {p : Addr} {x : MO}
theorem OExt.refl (G : Gp) : OExt own G G := fun _ _ _ e => e
theorem OExt.trans (h : OExt own G G') (h' : OExt own G' G'') : OExt own G G'' := fun a m h1 e => h' a m h1 (h a m h1 e)
theorem OExt.of (h : GLe G G') : OExt own G G' := fun a m _ e => h a m e
theorem Src.fresh (S : Src own R) (h : R G n) (hp : G p = none) : ¬ own p := fun o => S.has h o hp
theorem Src.put (S : Src own R) (h : R G n) (hp : ¬ own p) : R (gupd G p x) n := S.ge h fun a o => gupd_ne fun e => hp (e ▸ o)
theorem Src.del (S : Src own R) (h : R G n) (hp : ¬ own p) : R (gdel G p) n := S.ge h fun a o => gdel_ne fun e => hp (e ▸ o)
theorem OExt.put (h : OExt own G G') (hp : G p = none) : OExt own G (gupd G' p x) := fun a m h1 e => by
  rw [gupd_ne (gne e hp)]
  exact h a m h1 e
theorem OExt.del (h : OExt own G G') (hp : G p = none) : OExt own G (gdel G' p) := fun a m h1 e => by
  rw [gdel_ne (gne e hp)]
  exact h a m h1 e
/-- [.. for .. in ..], each element by c draws; frozen -/
theorem draws {wi : DTI} {g : DTG} {te : DTE} {vs : List Nat} {δ : DSt} {P : DK} (S : Src own R) (n c : Nat) (ds : List Dt) (Q : Nat → Dt → Prop) (hT : R G (n + c * ds.length)) (hz : ds.length ≤ 1000) (hw : ∀ P : List Dt → Gp → Prop, P ds G → wi δ G P)
    (turn : ∀ i d G' m (P' : DK), ds[i]? = some d → R G' (m + c) → OExt own G G' → (∀ y G3, Q i y → R G3 m → OExt own G' G3 → P' y G3) → g d (dwipe δ vs) G' fun δ2 G2 => te δ2 G2 P')
    (fin : ∀ ys G', ys.length = ds.length → (∀ i y, ys[i]? = some y → Q i y) → R G' n → OExt own G G' → P (.lst ys) G') : dFrz (dLc wi g dYes te vs) δ G P := by
  refine dLc_intro ds G (fun D i acc G' => i ≤ ds.length ∧ acc.length = i ∧ (∀ j y, acc[j]? = some y → Q j y) ∧ G' D = some (.lst acc) ∧ R G' (n + c * (ds.length - i)) ∧ OExt own G G' ∧ ¬ own D ∧ G D = none)
    hw (fun D hD => ⟨Nat.zero_le _, rfl, by simp, gupd_same, by simpa using S.put hT (S.fresh hT hD), (OExt.refl G).put hD, S.fresh hT hD, hD⟩) (fun D i d acc G' hD hd ⟨hi, hl, hq, hg, hr, hx, ho, _⟩ => ?_) (fun D acc G' hD ⟨hi, hl, hq, hg, hr, hx, ho, _⟩ => ?_)
  · have hlt : i < ds.length := (List.getElem?_eq_some_iff.mp hd).1
    have e : n + c * (ds.length - i) = n + c * (ds.length - (i + 1)) + c := by
      have : ds.length - i = ds.length - (i + 1) + 1 := by omega
      rw [this, Nat.mul_add, Nat.mul_one, Nat.add_assoc]
    rw [e] at hr
    refine turn i d G' _ _ hd hr hx fun y G3 h1 h2 h3 => ?_
    refine ⟨h3 D _ ho hg, by rw [hl]; exact small1000 (by omega), by omega, by rw [List.length_append, hl]; rfl, fun j z hz => ?_, gupd_same, S.put h2 ho, (hx.trans h3).put hD, ho, hD⟩
    by_cases hj : j < acc.length
    · rw [List.getElem?_append_left hj] at hz
      exact hq j z hz
    · rw [List.getElem?_append_right (by omega)] at hz
      have hj0 : j - acc.length = 0 := by
        cases e0 : j - acc.length with
        | zero => rfl
        | succ q => rw [e0] at hz; simp at hz
      rw [hj0] at hz
      cases hz
      have : j = i := by omega
      rw [this]
      exact h1
  · refine ⟨_, _, Clo.frz hg, fin acc _ hl hq (S.del (S.mono hr (by omega)) ho) (hx.del hD)⟩
end
/-- the tray: t, its list of great numbers g; n more draws are in order -/
structure Tray (G : Gp) (t g : Addr) (n : Nat) : Prop where
  ne : t ≠ g
  ex : ∃ (gs : List Int) (cur fold cnt : Int), G t = some (.lst [.ref g, .int cur, .int fold, .int cnt]) ∧ G g = some (.lst (gs.map Dt.int)) ∧ 0 ≤ fold ∧ fold < 2 ^ 61 ∧ 0 ≤ cnt ∧ cnt + n ≤ 2 ^ 60 ∧ gs.length ≤ 1000
/-- all but the tray stands -/
def TExt (t g : Addr) (G G' : Gp) : Prop := ∀ a m, a ≠ t → a ≠ g → G a = some m → G' a = some m
theorem TExt.refl (t g : Addr) (G : Gp) : TExt t g G G := fun _ _ _ _ e => e
theorem TExt.trans {t g : Addr} {G G' G'' : Gp} (h : TExt t g G G') (h' : TExt t g G' G'') : TExt t g G G'' := fun a m h1 h2 e => h' a m h1 h2 (h a m h1 h2 e)
theorem Tray.mono {G : Gp} {t g : Addr} {n m : Nat} (h : Tray G t g n) (l : m ≤ n) : Tray G t g m := by
  obtain ⟨gs, cur, fold, cnt, h1, h2, h3, h4, h5, h6, h7⟩ := h.ex
  exact ⟨h.ne, gs, cur, fold, cnt, h1, h2, h3, h4, h5, by omega, h7⟩
theorem Tray.other {G : Gp} {t g a : Addr} {n : Nat} {m : MO} (h : Tray G t g n) (h1 : t ≠ a) (h2 : g ≠ a) : Tray (gupd G a m) t g n := by
  obtain ⟨gs, cur, fold, cnt, e1, e2, r⟩ := h.ex
  exact ⟨h.ne, gs, cur, fold, cnt, by rw [gupd_ne h1]; exact e1, by rw [gupd_ne h2]; exact e2, r⟩
theorem Tray.fresh {G : Gp} {t g a : Addr} {n : Nat} (h : Tray G t g n) (ha : G a = none) : t ≠ a ∧ g ≠ a := by
  obtain ⟨gs, cur, fold, cnt, e1, e2, r⟩ := h.ex
  exact ⟨gne e1 ha, gne e2 ha⟩
theorem Tray.new {G : Gp} {t g a : Addr} {n : Nat} {m : MO} (h : Tray G t g n) (ha : G a = none) : Tray (gupd G a m) t g n := h.other (h.fresh ha).1 (h.fresh ha).2
section
variable {P : Program} {w : World} {K : PySem.W.Frag} {mg : Str → Option Value} {base : Heap} {C : Addr}
abbrev s_law_draw : Stmt := top 15
abbrev n_law_draw : List Str := ["tray", "many", "found", "mixed"]
abbrev p_law_draw : List Str := ["tray", "many"]
theorem sc_law_draw : FnScope n_law_draw p_law_draw (defScope s_law_draw) := ⟨rfl, rfl, rfl, by decide +kernel, rfl, by decide +kernel, by decide +kernel⟩
def c_draw : DSp := fun ds G P _ => ∃ (t g : Addr) (many n : Nat), ds = [.ref t, .int (many : Int)] ∧ 0 < many ∧ many < 1073741824 ∧ Tray G t g (n + 1) ∧ ∀ (r : Nat) G', r < many → Tray G' t g n → TExt t g G G' → P (.int (r : Int)) G'
theorem ok_draw (T : Bt mg) (TF : TopFn K mg "_law_draw" s_law_draw p_law_draw) : Dfn P w K mg base CX0 "_law_draw" p_law_draw c_draw 1 := by
  refine dfn_of TF sc_law_draw (fun ds G P R ⟨t, g, many, n, e, _⟩ => by rw [e]; rfl) fun f cdv A outer s H E B hr => ?_
  refine ⟨_, (dss_cons (ds_while PassesOwn.never (DW.dt (dw_and (dt_cmp o_lt (d_ix (dv (pv 0)) d_int (fun _ _ => rfl)) d_int (nomark _)) (dw_and1 (dt_cmp (o_ne hr) (d_ix (dv (pv 0)) d_int (fun _ _ => rfl)) (d_lst da_nil) (nomark _))))) (dss_one (ds_asg (d_popAt (d_ix (dv (pv 0)) d_int (fun _ _ => rfl)) d_int) (dg_sub (dv (pv 0)) d_int s_set))))
      (dss_cons (ds_if (dt_cmp o_ge (d_ix (dv (pv 0)) d_int (fun _ _ => rfl)) d_int (nomark _)) (dss_cons (ds_set (i := 2) sc_law_draw.nd rfl (by first | exact Or.inl rfl | exact Or.inr rfl) (d_op o_modN (d_ix (dv (pv 0)) d_int (fun _ _ => rfl)) (dv (pv 1))))
      (dss_cons (ds_asg (d_op o_fdivN (d_ix (dv (pv 0)) d_int (fun _ _ => rfl)) (dv (pv 1))) (dg_sub (dv (pv 0)) d_int s_set))
      (dss_one (ds_ret (dv (pv 2)))))) dss_nil)
      (dss_cons (ds_asg (d_op o_add (d_ix (dv (pv 0)) d_int (fun _ _ => rfl)) d_int) (dg_sub (dv (pv 0)) d_int s_set))
      (dss_cons (ds_set (i := 3) sc_law_draw.nd rfl (by first | exact Or.inl rfl | exact Or.inr rfl) (d_op o_modN (d_op o_add (d_op o_mul (d_op o_add (d_ix (dv (pv 0)) d_int (fun _ _ => rfl)) d_int) (d_op o_pow (d_op o_add (d_ix (dv (pv 0)) d_int (fun _ _ => rfl)) d_int) d_int)) (d_op o_mul d_int (d_ix (dv (pv 0)) d_int (fun _ _ => rfl)))) (d_op o_sub (d_op o_pow d_int d_int) d_int)))
      (dss_one (ds_ret (d_op o_modN (d_op o_fdivN (d_op o_modN (d_op o_pow (dv (pv 3)) d_int) (d_op o_add (d_op o_pow d_int d_int) d_int)) d_int) (dv (pv 1))))))))), ?_⟩
  rintro ds G P R ⟨t, g, many, n, rfl, hm, hm2, hT, p⟩
  obtain ⟨gs, cur, fold, cnt, h1, h2, hf0, hf1, hc0, hc1, hlen⟩ := hT.ex
  have hgt : g ≠ t := Ne.symm hT.ne
  refine dWhile_intro (fun m δ G' => ∃ gs' cur', m = gs'.length ∧ gs'.length ≤ 1000 ∧ δ = [some (.ref t), some (.int (many : Int)), none, none] ∧ G' t = some (.lst [.ref g, .int cur', .int fold, .int cnt]) ∧ G' g = some (.lst (gs'.map Dt.int)) ∧ TExt t g G G') gs.length ⟨gs, cur, rfl, hlen, rfl, h1, h2, TExt.refl t g G⟩ ?_
  rintro m δ G1 ⟨gs', cur', rfl, hl, rfl, e1, e2, hx⟩
  by_cases hc : cur' < 2
  · cases gs' with
    | cons x gs' =>
      have e2' : now G1 (.ref g) = .lst ((x :: gs').map Dt.int) := now_ref e2
      simp [and_assoc, dRet, dRetN, dRetC, dChain, r2I, dC, dVar, dEnds, dstart, dOp, dCB, DL.rLen, dCons, dNil, dFld, asL_lst, asQ_lst, asQ_tup, asQ_scr, ins_obj, dNever, dgN, dgNil, dgCons, dgTup, dIf, dNot, dAnd, dOr, dB, dCall, dMeth, dNext, dSeq, dSt, dLst, dTup, dIfE, rIxQ, dDrop, dYes, diL, diR1, diR2, dNeg, dAsg, dwipe, dBM, dBM0, rAppendD, rMin2, rMax2, atI_0, atI_1, atI_2, atI_3, ix4_0, ix4_1, ix4_3, asQ_ref e1, hc, rEqP, e2', now_lst, pl_ints, pl_nil]
      refine ⟨pl_ints (x :: gs'), ⟨_, asL_ref e2⟩, g, _, 0, 0, .int x, rfl, rfl, e2, by decide, by decide, by rw [seqIndex?]; simp, rfl, ?_⟩
      have e1' : gupd G1 g (.lst ((.int x :: gs'.map Dt.int).eraseIdx 0)) t = some (.lst [.ref g, .int cur', .int fold, .int cnt]) := by rw [gupd_ne hT.ne]; exact e1
      simp [and_assoc, dRet, dRetN, dRetC, dChain, r2I, dC, dVar, dEnds, dstart, dOp, dCB, DL.rLen, dCons, dNil, dFld, asL_lst, asQ_lst, asQ_tup, asQ_scr, ins_obj, dNever, dgN, dgNil, dgCons, dgTup, dIf, dNot, dAnd, dOr, dB, dCall, dMeth, dNext, dSeq, dSt, dLst, dTup, dIfE, rIxQ, dDrop, dYes, diL, diR1, diR2, dNeg, dAsg, dwipe, dBM, dBM0, rAppendD, rMin2, rMax2, atI_0, atI_1, atI_2, atI_3, ix4_0, ix4_1, ix4_3, dgSub, sSet, e1']
      refine ⟨_, e1', 1, rfl, gs'.length, Nat.lt_succ_self _, gs', rfl, Nat.le_of_succ_le hl, ⟨x, ?_⟩, ?_, ?_⟩
      · rw [gupd_same]; rfl
      · rw [gupd_ne hgt, gupd_same]
      · exact fun a m h1 h2 e => by rw [gupd_ne h1, gupd_ne h2]; exact hx a m h1 h2 e
    | nil =>
      have e2' : now G1 (.ref g) = .lst (([] : List Int).map Dt.int) := now_ref e2
      simp [and_assoc, dRet, dRetN, dRetC, dChain, r2I, dC, dVar, dEnds, dstart, dOp, dCB, DL.rLen, dCons, dNil, dFld, asL_lst, asQ_lst, asQ_tup, asQ_scr, ins_obj, dNever, dgN, dgNil, dgCons, dgTup, dIf, dNot, dAnd, dOr, dB, dCall, dMeth, dNext, dSeq, dSt, dLst, dTup, dIfE, rIxQ, dDrop, dYes, diL, diR1, diR2, dNeg, dAsg, dwipe, dBM, dBM0, rAppendD, rMin2, rMax2, atI_0, atI_1, atI_2, atI_3, ix4_0, ix4_1, ix4_3, asQ_ref e1, hc, rEqP, e2', now_lst, pl_ints, pl_nil]
      rw [if_neg (by omega)]
      simp [and_assoc, dRet, dRetN, dRetC, dChain, r2I, dC, dVar, dEnds, dstart, dOp, dCB, DL.rLen, dCons, dNil, dFld, asL_lst, asQ_lst, asQ_tup, asQ_scr, ins_obj, dNever, dgN, dgNil, dgCons, dgTup, dIf, dNot, dAnd, dOr, dB, dCall, dMeth, dNext, dSeq, dSt, dLst, dTup, dIfE, rIxQ, dDrop, dYes, diL, diR1, diR2, dNeg, dAsg, dwipe, dBM, dBM0, rAppendD, rMin2, rMax2, atI_0, atI_1, atI_2, atI_3, ix4_0, ix4_1, ix4_3, dgSub, sSet, e1, gupd_same, asQ_ref gupd_same]
      have m1 : ((fold + 5) * (cnt + 1 + 2) ^ 3 + 1000003 * (cnt + 1)).fmod 2305843009213693951 < 2305843009213693951 := Int.fmod_lt_of_pos _ (by decide)
      have m0 : 0 ≤ ((fold + 5) * (cnt + 1 + 2) ^ 3 + 1000003 * (cnt + 1)).fmod 2305843009213693951 := Int.fmod_nonneg_of_pos _ (by decide)
      generalize ((fold + 5) * (cnt + 1 + 2) ^ 3 + 1000003 * (cnt + 1)).fmod 2305843009213693951 = mixed at m0 m1 ⊢
      refine ⟨⟨by omega, by omega, by omega⟩, .inl ⟨by omega, by omega⟩, .inl ⟨by omega, by omega⟩, ⟨by omega, by omega, by omega⟩, ⟨by omega, by omega, by omega⟩, ⟨by omega, by omega, by omega⟩, ⟨by omega, by omega⟩, by omega, ?_⟩
      generalize ((mixed ^ 5).fmod 1000000000000000009).fdiv 64 = z
      have hr0 : 0 ≤ z.fmod many := Int.fmod_nonneg_of_pos _ (by omega)
      have hr1 : z.fmod many < many := Int.fmod_lt_of_pos _ (by omega)
      have := p (z.fmod many).toNat (gupd G1 t (.lst [.ref g, .int cur', .int fold, .int (cnt + 1)])) (by omega) ⟨hT.ne, [], _, fold, cnt + 1, gupd_same, by rw [gupd_ne hgt]; exact e2, hf0, hf1, by omega, by omega, by decide⟩ (fun a m h1 h2 e => by rw [gupd_ne h1]; exact hx a m h1 h2 e)
      rw [Int.toNat_of_nonneg hr0] at this
      exact this
  · simp [and_assoc, dRet, dRetN, dRetC, dChain, r2I, dC, dVar, dEnds, dstart, dOp, dCB, DL.rLen, dCons, dNil, dFld, asL_lst, asQ_lst, asQ_tup, asQ_scr, ins_obj, dNever, dgN, dgNil, dgCons, dgTup, dIf, dNot, dAnd, dOr, dB, dCall, dMeth, dNext, dSeq, dSt, dLst, dTup, dIfE, rIxQ, dDrop, dYes, diL, diR1, diR2, dNeg, dAsg, dwipe, dBM, dBM0, rAppendD, rMin2, rMax2, atI_0, atI_1, atI_2, atI_3, ix4_0, ix4_1, ix4_3, asQ_ref e1, hc]
    rw [if_pos (by omega)]
    simp [and_assoc, dRet, dRetN, dRetC, dChain, r2I, dC, dVar, dEnds, dstart, dOp, dCB, DL.rLen, dCons, dNil, dFld, asL_lst, asQ_lst, asQ_tup, asQ_scr, ins_obj, dNever, dgN, dgNil, dgCons, dgTup, dIf, dNot, dAnd, dOr, dB, dCall, dMeth, dNext, dSeq, dSt, dLst, dTup, dIfE, rIxQ, dDrop, dYes, diL, diR1, diR2, dNeg, dAsg, dwipe, dBM, dBM0, rAppendD, rMin2, rMax2, atI_0, atI_1, atI_2, atI_3, ix4_0, ix4_1, ix4_3, dgSub, sSet, e1]
    refine ⟨by omega, ⟨by omega, by omega⟩, ?_⟩
    have hr0 : 0 ≤ cur'.fmod many := Int.fmod_nonneg_of_pos _ (by omega)
    have hr1 : cur'.fmod many < many := Int.fmod_lt_of_pos _ (by omega)
    have := p (cur'.fmod many).toNat (gupd G1 t (.lst [.ref g, .int (cur'.fdiv many), .int fold, .int cnt])) (by omega) ⟨hT.ne, gs', _, fold, cnt, gupd_same, by rw [gupd_ne hgt]; exact e2, hf0, hf1, hc0, by omega, hl⟩ (fun a m h1 h2 e => by rw [gupd_ne h1]; exact hx a m h1 h2 e)
    rw [Int.toNat_of_nonneg hr0] at this
    exact this
theorem perm_erase {y : Dt} : ∀ {l : List Dt} {r : Nat}, l[r]? = some y → (y :: l.eraseIdx r).Perm l
  | [], r, h => by simp at h
  | x :: l, 0, h => by
    have e : x = y := Option.some.inj h
    subst e
    exact .refl _
  | x :: l, r + 1, h => by
    have ih := perm_erase (l := l) (r := r) (by simpa using h)
    show (y :: x :: l.eraseIdx r).Perm (x :: l)
    exact (List.Perm.swap x y _).trans (ih.cons x)
end
section
variable {P : Program} {w : World} {K : PySem.W.Frag} {mg : Str → Option Value} {base : Heap} {C : Addr}
abbrev s_law_tray : Stmt := top 14
abbrev n_law_tray : List Str := ["script", "fold", "great", "cell", "much"]
abbrev p_law_tray : List Str := ["script"]
theorem sc_law_tray : FnScope n_law_tray p_law_tray (defScope s_law_tray) := ⟨rfl, rfl, rfl, by decide +kernel, rfl, by decide +kernel, by decide +kernel⟩
def c_tray : DSp := fun ds G P _ => ∃ ns : List Int, ds = [.scr ns] ∧ ns.length ≤ 63 ∧ ∀ t g G', G t = none → G g = none → GLe G G' → Tray G' t g (2 ^ 59) → P (.ref t) G'
theorem ok_tray (T : Bt mg) (TF : TopFn K mg "_law_tray" s_law_tray p_law_tray) : Dfn P w K mg base CX0 "_law_tray" p_law_tray c_tray 1 := by
  refine dfn_of TF sc_law_tray (fun ds G P R ⟨ns, e, _⟩ => by rw [e]; rfl) fun f cdv A outer s H E B hr => ?_
  refine ⟨_, (dss_cons (ds_set (i := 1) sc_law_tray.nd rfl (by first | exact Or.inl rfl | exact Or.inr rfl) d_int)
      (dss_cons (ds_set (i := 2) sc_law_tray.nd rfl (by first | exact Or.inl rfl | exact Or.inr rfl) (d_lstM da_nil))
      (dss_cons (ds_for PassesOwn.never rfl (di_scr (dv (pv 0))) (dg_name (pg_name (i := 3) sc_law_tray.nd rfl (by first | exact Or.inl rfl | exact Or.inr rfl))) (dss_cons (ds_set (i := 1) sc_law_tray.nd rfl (by first | exact Or.inl rfl | exact Or.inr rfl) (d_op o_modN (d_op o_add (d_op o_mul (dv (pv 1)) d_int) (dv (pv 3))) (d_op o_sub (d_op o_pow d_int d_int) d_int)))
      (dss_cons (ds_set (i := 4) sc_law_tray.nd rfl (by first | exact Or.inl rfl | exact Or.inr rfl) (d_callB (c_max2 rfl) (by rfl) T.max (by decide +kernel) (da_cons (dv (pv 3)) (da_cons (d_op o_sub d_int (dv (pv 3))) da_nil))))
      (dss_one (ds_if (dt_cmp o_ge (dv (pv 4)) (d_op o_pow d_int d_int) (nomark _)) (dss_one (ds_expr (d_append (dv (pv 2)) (d_op o_sub (dv (pv 4)) (d_op o_pow d_int d_int))))) dss_nil)))))
      (dss_one (ds_ret (d_lstM (da_cons (dv (pv 2)) (da_cons d_int (da_cons (dv (pv 1)) (da_cons d_int da_nil)))))))))), ?_⟩
  rintro ds G P R ⟨ns, rfl, hl, p⟩
  simp [and_assoc, dRet, dRetN, dRetC, dChain, r2I, dC, dVar, dEnds, dstart, dOp, dCB, DL.rLen, dCons, dNil, dFld, asL_lst, asQ_lst, asQ_tup, asQ_scr, ins_obj, dNever, dgN, dgNil, dgCons, dgTup, dIf, dNot, dAnd, dOr, dB, dCall, dMeth, dNext, dSeq, dSt, dLst, dTup, dIfE, rIxQ, dDrop, dYes, diL, diR1, diR2, dNeg, dAsg, dwipe, dBM, dBM0, rAppendD, rMin2, rMax2, atI_0, atI_1, atI_2, atI_3, ix4_0, ix4_1, ix4_3, n_law_tray, dLstM, diS]
  intro g hg
  refine dFor_intro (ns.map Dt.int) (gupd G g (.lst [])) (fun k δ G' => ∃ (fold : Int) (gs : List Int) (o3 o4 : Option Dt), δ = [some (.scr ns), some (.int fold), some (.ref g), o3, o4] ∧ G' = gupd G g (.lst (gs.map Dt.int)) ∧ gs.length ≤ k ∧ 0 ≤ fold ∧ fold < 2 ^ 61) (fun P p => ?_)
    ⟨314159265358979, [], none, none, rfl, rfl, Nat.le_refl _, by decide, by decide⟩ ?_ ?_
  · simp [and_assoc, dRet, dRetN, dRetC, dChain, r2I, dC, dVar, dEnds, dstart, dOp, dCB, DL.rLen, dCons, dNil, dFld, asL_lst, asQ_lst, asQ_tup, asQ_scr, ins_obj, dNever, dgN, dgNil, dgCons, dgTup, dIf, dNot, dAnd, dOr, dB, dCall, dMeth, dNext, dSeq, dSt, dLst, dTup, dIfE, rIxQ, dDrop, dYes, diL, diR1, diR2, dNeg, dAsg, dwipe, dBM, dBM0, rAppendD, rMin2, rMax2, atI_0, atI_1, atI_2, atI_3, ix4_0, ix4_1, ix4_3, diS]
    exact p
  · rintro k d δ G1 hd ⟨fold, gs, o3, o4, rfl, rfl, hk, hf0, hf1⟩
    obtain ⟨z, rfl⟩ : ∃ z : Int, d = .int z := by
      have hm := List.mem_of_getElem? hd
      obtain ⟨z, _, e⟩ := List.mem_map.mp hm
      exact ⟨z, e.symm⟩
    have hk2 : k < ns.length := by
      have := (List.getElem?_eq_some_iff.mp hd).1
      simpa using this
    simp [and_assoc, dRet, dRetN, dRetC, dChain, r2I, dC, dVar, dEnds, dstart, dOp, dCB, DL.rLen, dCons, dNil, dFld, asL_lst, asQ_lst, asQ_tup, asQ_scr, ins_obj, dNever, dgN, dgNil, dgCons, dgTup, dIf, dNot, dAnd, dOr, dB, dCall, dMeth, dNext, dSeq, dSt, dLst, dTup, dIfE, rIxQ, dDrop, dYes, diL, diR1, diR2, dNeg, dAsg, dwipe, dBM, dBM0, rAppendD, rMin2, rMax2, atI_0, atI_1, atI_2, atI_3, ix4_0, ix4_1, ix4_3]
    have m1 : (fold * 1000003 + z).fmod 2305843009213693951 < 2305843009213693951 := Int.fmod_lt_of_pos _ (by decide)
    have m0 : 0 ≤ (fold * 1000003 + z).fmod 2305843009213693951 := Int.fmod_nonneg_of_pos _ (by decide)
    refine ⟨.inl ⟨by omega, by omega⟩, ⟨by decide, by decide, by decide⟩, ⟨by decide, by decide, by decide⟩, ?_⟩
    split
    · refine ⟨⟨_, asL_ref gupd_same⟩, ⟨by decide, by decide, by decide⟩, _, gupd_same, ?_, gs ++ [max z (-z) - 1000000000000000000], ?_, ?_, m0, by omega⟩
      · rw [List.length_map]; exact small1000 (by omega)
      · rw [gupd_gupd, List.map_append]; rfl
      · rw [List.length_append]; simp; omega
    · exact ⟨gs, rfl, by omega, m0, by omega⟩
  · rintro δ G1 ⟨fold, gs, o3, o4, rfl, rfl, hk, hf0, hf1⟩
    rw [List.length_map] at hk
    simp [and_assoc, dRet, dRetN, dRetC, dChain, r2I, dC, dVar, dEnds, dstart, dOp, dCB, DL.rLen, dCons, dNil, dFld, asL_lst, asQ_lst, asQ_tup, asQ_scr, ins_obj, dNever, dgN, dgNil, dgCons, dgTup, dIf, dNot, dAnd, dOr, dB, dCall, dMeth, dNext, dSeq, dSt, dLst, dTup, dIfE, rIxQ, dDrop, dYes, diL, diR1, diR2, dNeg, dAsg, dwipe, dBM, dBM0, rAppendD, rMin2, rMax2, atI_0, atI_1, atI_2, atI_3, ix4_0, ix4_1, ix4_3, dLstM]
    refine ⟨by rw [sizeLine_eq]; decide, fun t ht => ?_⟩
    have hne : t ≠ g := fun e => by rw [e, gupd_same] at ht; cases ht
    refine p t g _ (by rw [gupd_ne hne] at ht; exact ht) hg ((GLe.gupd hg).trans (GLe.gupd ht)) ⟨hne, gs, 0, fold, 0, gupd_same, by rw [gupd_ne (Ne.symm hne), gupd_same], hf0, hf1, by decide, by decide, by omega⟩
end
theorem traySrc {t g : Addr} : Src (fun a => a = t ∨ a = g) (fun G n => Tray G t g n) where
  ge := fun {G G' n} h e => by
    obtain ⟨gs, cur, fold, cnt, e1, e2, r⟩ := h.ex
    exact ⟨h.ne, gs, cur, fold, cnt, by rw [e t (.inl rfl)]; exact e1, by rw [e g (.inr rfl)]; exact e2, r⟩
  has := fun {G n a} h o => by
    obtain ⟨gs, cur, fold, cnt, e1, e2, r⟩ := h.ex
    rcases o with rfl | rfl
    · rw [e1]; simp
    · rw [e2]; simp
  mono := fun h l => h.mono l
theorem TExt.o {t g : Addr} {G G' : Gp} (h : TExt t g G G') : OExt (fun a => a = t ∨ a = g) G G' := fun a m o e => h a m (fun z => o (.inl z)) (fun z => o (.inr z)) e
theorem OExt.t {t g : Addr} {G G' : Gp} (h : OExt (fun a => a = t ∨ a = g) G G') : TExt t g G G' := fun a m h1 h2 e => h a m (fun o => o.elim h1 h2) e

/-- a comprehension whose parts change nothing; the new list is mutable -/
theorem dLc_new {wi : DTI} {g : DTG} {tt : DTT} {te : DTE} {vs : List Nat} {δ : DSt} {G : Gp} {P : DK} (ds : List Dt) (p : Dt → Bool) (f : Dt → Dt) (hw : ∀ P : List Dt → Gp → Prop, P ds G → wi δ G P) (hz : ds.length < sizeLine)
    (turn : ∀ d G' (Pt : DK) (Pf : Gp → Prop), d ∈ ds → GLe G G' → (p d = true → Pt (f d) G') → (p d = false → Pf G') → g d (dwipe δ vs) G' fun δ2 G2 => tt δ2 G2 fun b G3 => if b = true then te δ2 G3 Pt else Pf G3)
    (fin : ∀ D, G D = none → P (.ref D) (gupd G D (.lst ((ds.filter p).map f)))) : dLc wi g tt te vs δ G P := by
  refine dLc_intro ds G (fun D i acc G' => acc = ((ds.take i).filter p).map f ∧ G' = gupd G D (.lst acc)) hw (fun D hD => ⟨rfl, rfl⟩) (fun D i d acc G' hD hd ⟨h1, h2⟩ => ?_) (fun D acc G' hD ⟨h1, h2⟩ => ?_)
  · subst h1; subst h2
    have lens : (((ds.take i).filter p).map f).length < sizeLine := by
      rw [List.length_map]
      refine Nat.lt_of_le_of_lt (Nat.le_trans (List.length_filter_le _ _) ?_) hz
      rw [List.length_take]
      exact Nat.min_le_right _ _
    refine turn d _ _ _ (List.mem_of_getElem? hd) (GLe.gupd hD) (fun hp => ?_) (fun hp => ?_)
    · refine ⟨gupd_same, lens, ?_, ?_⟩
      · rw [filter_take_succ hd, if_pos hp, List.map_append]; rfl
      · rw [gupd_gupd]
    · refine ⟨?_, rfl⟩
      rw [filter_take_succ hd, if_neg (by rw [hp]; decide), List.append_nil]
  · rw [List.take_length] at h1
    subst h1; subst h2
    exact fin D hD
theorem num_strOk (n : Nat) : PyData.strOk (numS n) = true := by
  unfold PyData.strOk
  rw [← Array.all_toList, List.all_eq_true]
  intro c hc
  have := numL_dig (n := n) (c := c) (by rw [← tl_numS]; exact hc)
  rw [decide_eq_true_eq]
  omega
theorem joinL_len (S : List Nat) : ∀ parts : List (List Nat), (TL.joinL S parts).length ≤ (parts.map (·.length)).sum + parts.length * S.length
  | [] => by simp [TL.joinL]
  | [p] => by simp [TL.joinL]
  | p :: q :: r => by
    have ih := joinL_len S (q :: r)
    show (p ++ (S ++ TL.joinL S (q :: r))).length ≤ _
    rw [List.length_append, List.length_append, List.map_cons, List.sum_cons, List.length_cons, Nat.succ_mul]
    omega
theorem join_len (y : Str) (parts : List Str) : (Txt.join y parts).length ≤ (parts.map (·.length)).sum + parts.length * y.length := by
  rw [TL.len_tl, TL.join_eq, TL.tl_join]
  have := joinL_len (TL.tl y) (parts.map TL.tl)
  rw [List.map_map, List.length_map] at this
  have e : parts.map ((fun x => x.length) ∘ TL.tl) = parts.map (·.length) := List.map_congr_left fun x _ => (TL.len_tl x).symm
  rw [e, ← TL.len_tl] at this
  exact this
theorem sum_len {ns : List Nat} (h : ∀ n ∈ ns, n < 10 ^ 9) : ((ns.map numS).map (·.length)).sum ≤ 9 * ns.length := by
  induction ns with
  | nil => simp
  | cons n ns ih =>
    have h1 := num_len9 (h n List.mem_cons_self)
    have h2 := ih fun m hm => h m (List.mem_cons_of_mem _ hm)
    rw [List.map_cons, List.map_cons, List.sum_cons, List.length_cons]
    omega
theorem blank_len : (Str.ofString " ").length = 1 := by decide +kernel
theorem log_small {n : Nat} (h : n < 10 ^ 9) : ((n : Int).natAbs).log2 < 1920 := by
  rw [Int.natAbs_natCast]
  by_cases h0 : n = 0
  · rw [h0]; decide
  · exact (Nat.log2_lt h0).mpr (Nat.lt_of_lt_of_le h (by decide +kernel))
/-- two things that the law takes for alike: flat and the same, or sequences of one kind, alike at each place -/
def flatB : Dt → Bool
  | .non => true
  | .bl _ => true
  | .int _ => true
  | .str _ => true
  | _ => false
def Same1 (S : Gp → Dt → Dt → Prop) (G : Gp) (x y : Dt) : Prop := (flatB x = true ∧ x = y) ∨
  ∃ (t : Bool) (xs ys : List Dt), tagD G x = some (.type (if t then "list" else "tuple")) ∧ tagD G y = some (.type (if t then "list" else "tuple")) ∧ asQ G x = some xs ∧ asQ G y = some ys ∧ xs.length = ys.length ∧ xs.length ≤ 100000 ∧ ∀ (i : Nat) u v, xs[i]? = some u → ys[i]? = some v → S G u v
def Same : Nat → Gp → Dt → Dt → Prop
  | 0 => fun _ _ _ => False
  | n + 1 => Same1 (Same n)
section
variable {P : Program} {w : World} {K : PySem.W.Frag} {mg : Str → Option Value} {base : Heap}
abbrev s_law_alike : Stmt := top 16
abbrev n_law_alike : List Str := ["found", "due", "k"]
abbrev p_law_alike : List Str := ["found", "due"]
theorem sc_law_alike : FnScope n_law_alike p_law_alike (defScope s_law_alike) := ⟨rfl, rfl, rfl, by decide +kernel, rfl, by decide +kernel, by decide +kernel⟩
theorem dfn_weaken {x : Str} {ps : List Str} {c c' : DSp} {k : Nat} (D : Dfn P w K mg base CX0 x ps c k) (h : ∀ ds G P R, c' ds G P R → c ds G P R) : Dfn P w K mg base CX0 x ps c' k := by
  obtain ⟨f, fd, F, m, kp, b⟩ := D
  exact ⟨f, fd, F.imp fun vs H Q E ⟨F, G, ds, P, R, a, b, q, r⟩ => ⟨F, G, ds, P, R, a, b, h _ _ _ _ q, r⟩, m, kp, b⟩
theorem never_alike (TF : TopFn K mg "_law_alike" s_law_alike p_law_alike) : Dfn P w K mg base CX0 "_law_alike" p_law_alike (fun ds _ _ _ => ds.length = p_law_alike.length ∧ False) 1 := by
  refine dfn_of TF sc_law_alike (fun ds G P R h => h.1) fun f cdv A outer s H E B hr => ?_
  exact ⟨dNever, dss_never, fun ds G P R h => h.2.elim⟩
def c_same (S : Gp → Dt → Dt → Prop) : DSp := fun ds G P _ => ∃ x y, ds = [x, y] ∧ S G x y ∧ P (.bl true) G
theorem step_alike (T : Bt mg) (TF : TopFn K mg "_law_alike" s_law_alike p_law_alike) {S : Gp → Dt → Dt → Prop} {c : DSp} {k : Nat} (D__law_alike : Dfn P w K mg base CX0 "_law_alike" p_law_alike c k) (hc : ∀ x y G P R, S G x y → P (.bl true) G → c [x, y] G P R) : Dfn P w K mg base CX0 "_law_alike" p_law_alike (c_same (Same1 S)) (k + 1) := by
  refine dfn_of TF sc_law_alike (fun ds G P R ⟨x, y, e, _⟩ => by rw [e]; rfl) fun f cdv A outer s H E B hr => ?_
  refine ⟨_, (dss_cons (ds_if (dt_cmp o_isD (dv (pv 1)) d_non (nomark _)) (dss_one (ds_ret (d_cmp o_isD (dv (pv 0)) d_non (nomark _)))) dss_nil)
      (dss_cons (ds_if (dt_val (d_callB c_isi (by rfl) T.isinstance (by decide +kernel) (da_cons (dv (pv 1)) (da_cons (d_ty (n := "bool") (by rfl) T.bool (by decide +kernel)) da_nil)))) (dss_one (ds_ret (d_and (d_callB c_isi (by rfl) T.isinstance (by decide +kernel) (da_cons (dv (pv 0)) (da_cons (d_ty (n := "bool") (by rfl) T.bool (by decide +kernel)) da_nil))) (d_one (d_cmp o_eqS (dv (pv 0)) (dv (pv 1)) (nomark _)))))) dss_nil)
      (dss_cons (ds_if (dt_val (d_callB c_isi (by rfl) T.isinstance (by decide +kernel) (da_cons (dv (pv 1)) (da_cons (d_ty (n := "int") (by rfl) T.int (by decide +kernel)) da_nil)))) (dss_one (ds_ret (d_and (d_callB c_isi (by rfl) T.isinstance (by decide +kernel) (da_cons (dv (pv 0)) (da_cons (d_ty (n := "int") (by rfl) T.int (by decide +kernel)) da_nil))) (d_and (d_not (d_callB c_isi (by rfl) T.isinstance (by decide +kernel) (da_cons (dv (pv 0)) (da_cons (d_ty (n := "bool") (by rfl) T.bool (by decide +kernel)) da_nil)))) (d_one (d_cmp o_eqS (dv (pv 0)) (dv (pv 1)) (nomark _))))))) dss_nil)
      (dss_cons (ds_if (dt_val (d_callB c_isi (by rfl) T.isinstance (by decide +kernel) (da_cons (dv (pv 1)) (da_cons (d_ty (n := "str") (by rfl) T.str (by decide +kernel)) da_nil)))) (dss_one (ds_ret (d_and (d_callB c_isi (by rfl) T.isinstance (by decide +kernel) (da_cons (dv (pv 0)) (da_cons (d_ty (n := "str") (by rfl) T.str (by decide +kernel)) da_nil))) (d_one (d_cmp o_eqS (dv (pv 0)) (dv (pv 1)) (nomark _)))))) dss_nil)
      (dss_cons (ds_if (DW.dt (dw_or (dt_cmp o_neS (d_callB c_isi (by rfl) T.isinstance (by decide +kernel) (da_cons (dv (pv 0)) (da_cons (d_ty (n := "list") (by rfl) T.list (by decide +kernel)) da_nil))) (d_callB c_isi (by rfl) T.isinstance (by decide +kernel) (da_cons (dv (pv 1)) (da_cons (d_ty (n := "list") (by rfl) T.list (by decide +kernel)) da_nil))) (nomark _)) (dw_or1 (dt_cmp o_neS (d_callB c_isi (by rfl) T.isinstance (by decide +kernel) (da_cons (dv (pv 0)) (da_cons (d_ty (n := "tuple") (by rfl) T.tuple (by decide +kernel)) da_nil))) (d_callB c_isi (by rfl) T.isinstance (by decide +kernel) (da_cons (dv (pv 1)) (da_cons (d_ty (n := "tuple") (by rfl) T.tuple (by decide +kernel)) da_nil))) (nomark _))))) (dss_one (ds_ret d_bl)) dss_nil)
      (dss_cons (ds_if (dt_cmp o_neI (d_callB c_len (by rfl) T.len (by decide +kernel) (da_cons (dv (pv 0)) da_nil)) (d_callB c_len (by rfl) T.len (by decide +kernel) (da_cons (dv (pv 1)) da_nil)) (nomark _)) (dss_one (ds_ret d_bl)) dss_nil)
      (dss_cons (ds_for PassesOwn.never rfl (di_range1 (by rfl) T.range (da_cons (d_callB c_len (by rfl) T.len (by decide +kernel) (da_cons (dv (pv 1)) da_nil)) da_nil)) (dg_name (pg_name (i := 2) sc_law_alike.nd rfl (by first | exact Or.inl rfl | exact Or.inr rfl))) (dss_one (ds_if (dt_not (dt_val (d_callD (hj := Nat.le_refl k) D__law_alike hr (by rfl) (da_cons (d_ix (dv (pv 0)) (dv (pv 2)) (fun _ _ => rfl)) (da_cons (d_ix (dv (pv 1)) (dv (pv 2)) (fun _ _ => rfl)) da_nil))))) (dss_one (ds_ret d_bl)) dss_nil)))
      (dss_one (ds_ret d_bl))))))))), ?_⟩
  rintro ds G P R ⟨x, y, rfl, h, p⟩
  rcases h with ⟨hf, rfl⟩ | ⟨t, xs, ys, h1, h2, h3, h4, hl, hb, hS⟩
  · cases x <;> first
      | (cases hf; done)
      | (simp [and_assoc, dRet, dRetN, dRetC, dChain, r2I, dC, dVar, dEnds, dstart, dOp, dCB, DL.rLen, dCons, dNil, dFld, asL_lst, asQ_lst, asQ_tup, asQ_scr, ins_obj, dNever, dgN, dgNil, dgCons, dgTup, dIf, dNot, dAnd, dOr, dB, dCall, dMeth, dNext, dSeq, dSt, dLst, dTup, dIfE, rIxQ, dDrop, dYes, diL, diR1, diR2, dNeg, dAsg, dwipe, dBM, dBM0, rAppendD, rMin2, rMax2, atI_0, atI_1, atI_2, atI_3, ix4_0, ix4_1, ix4_3, n_law_alike, DL.isNon, rIsND, rIsiD, clsD, tagD, kit_bool_bool, kit_int_bool, kit_int_int, kit_str_bool, kit_str_int, kit_str_str, rEqS, dAndV, dNotV]
         first
           | (rename_i b; cases b <;> simp <;> exact p)
           | exact p
           | done)
  · have hx : DL.isNon y = false := by cases y <;> first | rfl | (simp [tagD] at h2; done) | (cases t <;> simp [tagD] at h2)
    have hl2 : ys.length < 2 ^ 62 := by omega
    cases t
    all_goals
      simp at h1 h2
      simp [and_assoc, dRet, dRetN, dRetC, dChain, r2I, dC, dVar, dEnds, dstart, dOp, dCB, DL.rLen, dCons, dNil, dFld, asL_lst, asQ_lst, asQ_tup, asQ_scr, ins_obj, dNever, dgN, dgNil, dgCons, dgTup, dIf, dNot, dAnd, dOr, dB, dCall, dMeth, dNext, dSeq, dSt, dLst, dTup, dIfE, rIxQ, dDrop, dYes, diL, diR1, diR2, dNeg, dAsg, dwipe, dBM, dBM0, rAppendD, rMin2, rMax2, atI_0, atI_1, atI_2, atI_3, ix4_0, ix4_1, ix4_3, n_law_alike, hx, rIsND, rIsiD, clsD, h1, h2, kit_list_bool, kit_list_int, kit_list_str, kit_list_list, kit_list_tuple, kit_tuple_bool, kit_tuple_int, kit_tuple_str, kit_tuple_list, kit_tuple_tuple, rEqS, dAndV, dNotV, h3, h4, hl]
      refine dFor_intro (natsD (List.range ys.length)) G (fun i δ G' => ∃ o : Option Dt, δ = [some x, some y, o] ∧ G' = G) (fun P p => ?_) ⟨none, rfl, rfl⟩ ?_ ?_
      · simp [and_assoc, dRet, dRetN, dRetC, dChain, r2I, dC, dVar, dEnds, dstart, dOp, dCB, DL.rLen, dCons, dNil, dFld, asL_lst, asQ_lst, asQ_tup, asQ_scr, ins_obj, dNever, dgN, dgNil, dgCons, dgTup, dIf, dNot, dAnd, dOr, dB, dCall, dMeth, dNext, dSeq, dSt, dLst, dTup, dIfE, rIxQ, dDrop, dYes, diL, diR1, diR2, dNeg, dAsg, dwipe, dBM, dBM0, rAppendD, rMin2, rMax2, atI_0, atI_1, atI_2, atI_3, ix4_0, ix4_1, ix4_3, h4]
        rw [upto0]
        exact ⟨by omega, p⟩
      · rintro i d δ G1 hd ⟨o, rfl, rfl⟩
        obtain ⟨z, hz, rfl⟩ := natsD_get hd
        have hlt : i < ys.length := by
          have := (List.getElem?_eq_some_iff.mp hz).1
          simpa using this
        have ez : z = i := by simp [hlt] at hz; omega
        subst ez
        have hu : xs[z]? = some xs[z] := List.getElem?_eq_getElem (by omega)
        have hv : ys[z]? = some ys[z] := List.getElem?_eq_getElem (by omega)
        simp [and_assoc, dRet, dRetN, dRetC, dChain, r2I, dC, dVar, dEnds, dstart, dOp, dCB, DL.rLen, dCons, dNil, dFld, asL_lst, asQ_lst, asQ_tup, asQ_scr, ins_obj, dNever, dgN, dgNil, dgCons, dgTup, dIf, dNot, dAnd, dOr, dB, dCall, dMeth, dNext, dSeq, dSt, dLst, dTup, dIfE, rIxQ, dDrop, dYes, diL, diR1, diR2, dNeg, dAsg, dwipe, dBM, dBM0, rAppendD, rMin2, rMax2, atI_0, atI_1, atI_2, atI_3, ix4_0, ix4_1, ix4_3, h3, h4, atI_nat' hu, atI_nat' hv]
        refine hc _ _ _ _ _ (hS z _ _ hu hv) ?_
        simp
      · rintro δ G1 ⟨o, rfl, rfl⟩
        simp [and_assoc, dRet, dRetN, dRetC, dChain, r2I, dC, dVar, dEnds, dstart, dOp, dCB, DL.rLen, dCons, dNil, dFld, asL_lst, asQ_lst, asQ_tup, asQ_scr, ins_obj, dNever, dgN, dgNil, dgCons, dgTup, dIf, dNot, dAnd, dOr, dB, dCall, dMeth, dNext, dSeq, dSt, dLst, dTup, dIfE, rIxQ, dDrop, dYes, diL, diR1, diR2, dNeg, dAsg, dwipe, dBM, dBM0, rAppendD, rMin2, rMax2, atI_0, atI_1, atI_2, atI_3, ix4_0, ix4_1, ix4_3]
        exact p
theorem ok_alike (T : Bt mg) (TF : TopFn K mg "_law_alike" s_law_alike p_law_alike) : ∀ n : Nat, Dfn P w K mg base CX0 "_law_alike" p_law_alike (c_same (Same n)) (n + 1)
  | 0 => by
    have h := never_alike (P := P) (w := w) (base := base) TF
    exact dfn_weaken h fun ds G P R ⟨x, y, e, hf, _⟩ => hf.elim
  | n + 1 => step_alike T TF (ok_alike T TF n) fun x y G P R h p => ⟨x, y, rfl, h, p⟩
def numOf : Dt → Dt
  | .str x => match PySem.intText? x with
    | some n => .int n
    | none => .non
  | d => d
theorem numOf_num {n : Nat} (h : n < 10 ^ 9) : numOf (.str (numS n)) = .int (n : Int) := by
  show (match PySem.intText? (numS n) with | some n => Dt.int n | none => Dt.non) = _
  rw [num_int h]
end
end V

set_option Elab.async false
set_option linter.all false
set_option maxRecDepth 100000
set_option maxHeartbeats 4000000
/-! What was caught, told within the suite. -/
namespace V
open PySem PySem.Spec L2 L2H DL
section
variable {P : Program} {w : World} {K : PySem.W.Frag} {mg : Str → Option Value} {base : Heap} {CE cRoad cHouse cClash cReport cTale cDays cText : Addr}
abbrev s_law_kind : Stmt := top 17
abbrev n_law_kind : List Str := ["e", "menu", "word", "so"]
abbrev p_law_kind : List Str := ["e"]
theorem sc_law_kind : FnScope n_law_kind p_law_kind (defScope s_law_kind) := ⟨rfl, rfl, rfl, by decide +kernel, rfl, by decide +kernel, by decide +kernel⟩
/-- the words of the classes that it is of -/
def kindW (bs : List Bool) : List Dt := (([Dt.str "NoRoad", .str "NoHouse", .str "Clash", .str "NoReport", .str "NoTale", .str "NoDays", .str "NoText"].zip bs).filter (·.2)).map (·.1)
def kT : Dt → Bool
  | .tup [_, .bl b] => b
  | _ => false
def kF : Dt → Dt
  | .tup [x, _] => x
  | d => d
def c_kindT (K : PySem.W.Frag) (cRoad cHouse cClash cReport cTale cDays cText : Addr) : DSp := fun ds G P _ => ∃ (Z : Addr) (v : Dt) (b0 b1 b2 b3 b4 b5 b6 : Bool), ds = [.exc Z v] ∧ ExK K Z ∧ PySem.W.kitOne K (.ref Z) (.type "ValueError") = some true ∧
  PySem.W.kitOne K (.ref Z) (.ref cRoad) = some b0 ∧ PySem.W.kitOne K (.ref Z) (.ref cHouse) = some b1 ∧ PySem.W.kitOne K (.ref Z) (.ref cClash) = some b2 ∧ PySem.W.kitOne K (.ref Z) (.ref cReport) = some b3 ∧ PySem.W.kitOne K (.ref Z) (.ref cTale) = some b4 ∧ PySem.W.kitOne K (.ref Z) (.ref cDays) = some b5 ∧ PySem.W.kitOne K (.ref Z) (.ref cText) = some b6 ∧
  P (.lst (kindW [b0, b1, b2, b3, b4, b5, b6] ++ [v, .bl true])) G
theorem ok_kindT (T : Bt mg) (XT : XTab K mg CE cRoad cHouse cClash cReport cTale cDays cText) (TF : TopFn K mg "_law_kind" s_law_kind p_law_kind) : DfnT P w K mg base "_law_kind" p_law_kind (c_kindT K cRoad cHouse cClash cReport cTale cDays cText) 1 := by
  refine dfnT_of TF sc_law_kind (fun ds G P R ⟨Z, v, b0, b1, b2, b3, b4, b5, b6, e, _⟩ => by rw [e]; rfl) fun f cdv A outer s H E B hr hB => ?_
  refine ⟨_, (dss_cons (ds_set (i := 1) sc_law_kind.nd rfl (by first | exact Or.inl rfl | exact Or.inr rfl) (d_lst (da_cons (d_tup (da_cons d_str (da_cons (d_callB (c_isiX (K := K) rfl) (by rfl) T.isinstance (by decide +kernel) (da_cons (dv (pv 0)) (da_cons (d_cls (by rfl) XT.mgNoRoad) da_nil))) da_nil))) (da_cons (d_tup (da_cons d_str (da_cons (d_callB (c_isiX (K := K) rfl) (by rfl) T.isinstance (by decide +kernel) (da_cons (dv (pv 0)) (da_cons (d_cls (by rfl) XT.mgNoHouse) da_nil))) da_nil))) (da_cons (d_tup (da_cons d_str (da_cons (d_callB (c_isiX (K := K) rfl) (by rfl) T.isinstance (by decide +kernel) (da_cons (dv (pv 0)) (da_cons (d_cls (by rfl) XT.mgClash) da_nil))) da_nil))) da_nil)))))
      (dss_cons (ds_set (i := 1) sc_law_kind.nd rfl (by first | exact Or.inl rfl | exact Or.inr rfl) (d_op o_cat (dv (pv 1)) (d_lst (da_cons (d_tup (da_cons d_str (da_cons (d_callB (c_isiX (K := K) rfl) (by rfl) T.isinstance (by decide +kernel) (da_cons (dv (pv 0)) (da_cons (d_cls (by rfl) XT.mgNoReport) da_nil))) da_nil))) (da_cons (d_tup (da_cons d_str (da_cons (d_callB (c_isiX (K := K) rfl) (by rfl) T.isinstance (by decide +kernel) (da_cons (dv (pv 0)) (da_cons (d_cls (by rfl) XT.mgNoTale) da_nil))) da_nil))) da_nil)))))
      (dss_cons (ds_set (i := 1) sc_law_kind.nd rfl (by first | exact Or.inl rfl | exact Or.inr rfl) (d_op o_cat (dv (pv 1)) (d_lst (da_cons (d_tup (da_cons d_str (da_cons (d_callB (c_isiX (K := K) rfl) (by rfl) T.isinstance (by decide +kernel) (da_cons (dv (pv 0)) (da_cons (d_cls (by rfl) XT.mgNoDays) da_nil))) da_nil))) (da_cons (d_tup (da_cons d_str (da_cons (d_callB (c_isiX (K := K) rfl) (by rfl) T.isinstance (by decide +kernel) (da_cons (dv (pv 0)) (da_cons (d_cls (by rfl) XT.mgNoText) da_nil))) da_nil))) da_nil)))))
      (dss_one (ds_ret (d_op o_cat (d_lcPH (own := [("word", 2), ("so", 3)]) hB sc_law_kind.nd (dv (pv 1)) (blkOk_by (N := n_law_kind) (sc := defScope s_law_kind) (by decide +kernel)) (fun _ _ _ _ _ _ hT => (dgh_tup (n := 2) hT (dgsw_cons (dgw_name (pg_name (i := 2) sc_law_kind.nd rfl (by first | exact Or.inl rfl | exact Or.inr rfl))) (dgsw_cons (dgw_name (pg_name (i := 3) sc_law_kind.nd rfl (by first | exact Or.inl rfl | exact Or.inr rfl))) dgsw_nil)))) (fun _ _ _ _ _ => (dts_one (dt_val (dv (pv 3))))) (fun _ _ _ _ _ => (dv (pv 2)))) (d_lst (da_cons (d_what (K := K) rfl (dv (pv 0))) (da_cons (d_callB (c_isiX (K := K) rfl) (by rfl) T.isinstance (by decide +kernel) (da_cons (dv (pv 0)) (da_cons (d_ty (n := "ValueError") (by rfl) XT.mgValueError (by decide +kernel)) da_nil))) da_nil))))))))), ?_⟩
  rintro ds G P R ⟨Z, v, b0, b1, b2, b3, b4, b5, b6, rfl, ek, ve, h0, h1, h2, h3, h4, h5, h6, p⟩
  have s2 : 2 ≤ sizeLine := by rw [sizeLine_eq]; decide
  have s3 : 3 ≤ sizeLine := by rw [sizeLine_eq]; decide
  have tg : tagX K G (.exc Z v) (.ref Z) := .inl ⟨_, _, rfl, rfl, ek⟩
  have is_ : ∀ {c : Dt} {u : Value} {b : Bool} {Q : DK}, PySem.W.kitOne K (.ref Z) u = some b → clsD c = some u → Q (.bl b) G → rIsiX K [.exc Z v, c] G Q := fun h1 h2 q => ⟨_, _, _, _, _, rfl, tg, h2, h1, q⟩
  simp [and_assoc, dRet, dRetN, dRetC, dChain, r2I, dC, dVar, dEnds, dstart, dOp, dCB, DL.rLen, dCons, dNil, dFld, asL_lst, asQ_lst, asQ_tup, asQ_scr, ins_obj, dNever, dgN, dgNil, dgCons, dgTup, dIf, dNot, dAnd, dOr, dB, dCall, dMeth, dNext, dSeq, dSt, dLst, dTup, dIfE, rIxQ, dDrop, dYes, diL, diR1, diR2, dNeg, dAsg, dwipe, dBM, dBM0, rAppendD, rMin2, rMax2, atI_0, atI_1, atI_2, atI_3, ix4_0, ix4_1, ix4_3, asL_g, asQ_g, now_g, gupd_same, gupd_gupd, Int.ofNat_inj, now_lst, now_int, now_tup, asL_lst, natsD_length, rdD_length, vilD_inj, vil_ins, natsD_inj, rdD_inj, nnD_inj, n_law_kind, s2, s3]
  refine is_ h0 rfl (is_ h1 rfl (is_ h2 rfl (is_ h3 rfl (is_ h4 rfl ⟨_, _, rfl, rfl, ?_, is_ h5 rfl (is_ h6 rfl ⟨_, _, rfl, rfl, ?_, ?_⟩)⟩))))
  · simp
    rw [sizeLine_eq]; decide
  · simp
    rw [sizeLine_eq]; decide
  refine dLcP_intro [.tup [.str "NoRoad", .bl b0], .tup [.str "NoHouse", .bl b1], .tup [.str "Clash", .bl b2], .tup [.str "NoReport", .bl b3], .tup [.str "NoTale", .bl b4], .tup [.str "NoDays", .bl b5], .tup [.str "NoText", .bl b6]]
    kT kF (fun P p => ?_) (by show 7 < sizeLine; rw [sizeLine_eq]; decide) (fun z G' hz hG => ?_) ?_
  · simp [and_assoc, dRet, dRetN, dRetC, dChain, r2I, dC, dVar, dEnds, dstart, dOp, dCB, DL.rLen, dCons, dNil, dFld, asL_lst, asQ_lst, asQ_tup, asQ_scr, ins_obj, dNever, dgN, dgNil, dgCons, dgTup, dIf, dNot, dAnd, dOr, dB, dCall, dMeth, dNext, dSeq, dSt, dLst, dTup, dIfE, rIxQ, dDrop, dYes, diL, diR1, diR2, dNeg, dAsg, dwipe, dBM, dBM0, rAppendD, rMin2, rMax2, atI_0, atI_1, atI_2, atI_3, ix4_0, ix4_1, ix4_3, asL_g, asQ_g, now_g, gupd_same, gupd_gupd, Int.ofNat_inj, now_lst, now_int, now_tup, asL_lst, natsD_length, rdD_length, vilD_inj, vil_ins, natsD_inj, rdD_inj, nnD_inj]
    exact p
  · simp only [List.mem_cons, List.not_mem_nil, or_false] at hz
    rcases hz with rfl | rfl | rfl | rfl | rfl | rfl | rfl <;> simp [and_assoc, dRet, dRetN, dRetC, dChain, r2I, dC, dVar, dEnds, dstart, dOp, dCB, DL.rLen, dCons, dNil, dFld, asL_lst, asQ_lst, asQ_tup, asQ_scr, ins_obj, dNever, dgN, dgNil, dgCons, dgTup, dIf, dNot, dAnd, dOr, dB, dCall, dMeth, dNext, dSeq, dSt, dLst, dTup, dIfE, rIxQ, dDrop, dYes, diL, diR1, diR2, dNeg, dAsg, dwipe, dBM, dBM0, rAppendD, rMin2, rMax2, atI_0, atI_1, atI_2, atI_3, ix4_0, ix4_1, ix4_3, asL_g, asQ_g, now_g, gupd_same, gupd_gupd, Int.ofNat_inj, now_lst, now_int, now_tup, asL_lst, natsD_length, rdD_length, vilD_inj, vil_ins, natsD_inj, rdD_inj, nnD_inj, kT, kF]
  · simp [and_assoc, dRet, dRetN, dRetC, dChain, r2I, dC, dVar, dEnds, dstart, dOp, dCB, DL.rLen, dCons, dNil, dFld, asL_lst, asQ_lst, asQ_tup, asQ_scr, ins_obj, dNever, dgN, dgNil, dgCons, dgTup, dIf, dNot, dAnd, dOr, dB, dCall, dMeth, dNext, dSeq, dSt, dLst, dTup, dIfE, rIxQ, dDrop, dYes, diL, diR1, diR2, dNeg, dAsg, dwipe, dBM, dBM0, rAppendD, rMin2, rMax2, atI_0, atI_1, atI_2, atI_3, ix4_0, ix4_1, ix4_3, asL_g, asQ_g, now_g, gupd_same, gupd_gupd, Int.ofNat_inj, now_lst, now_int, now_tup, asL_lst, natsD_length, rdD_length, vilD_inj, vil_ins, natsD_inj, rdD_inj, nnD_inj, dWhat]
    refine ⟨ek, is_ ve rfl ⟨_, _, rfl, rfl, ?_, ?_⟩⟩
    · have : (List.filter kT [.tup [.str "NoRoad", .bl b0], .tup [.str "NoHouse", .bl b1], .tup [.str "Clash", .bl b2], .tup [.str "NoReport", .bl b3], .tup [.str "NoTale", .bl b4], .tup [.str "NoDays", .bl b5], .tup [.str "NoText", .bl b6]]).length ≤ 7 := List.length_filter_le _ _
      rw [List.length_map]
      have sz : 1000 ≤ sizeLine := by rw [sizeLine_eq]; decide
      simp only [List.length_cons, List.length_nil]
      omega
    · have e : List.map kF (List.filter kT [.tup [.str "NoRoad", .bl b0], .tup [.str "NoHouse", .bl b1], .tup [.str "Clash", .bl b2], .tup [.str "NoReport", .bl b3], .tup [.str "NoTale", .bl b4], .tup [.str "NoDays", .bl b5], .tup [.str "NoText", .bl b6]]) = kindW [b0, b1, b2, b3, b4, b5, b6] := by
        cases b0 <;> cases b1 <;> cases b2 <;> cases b3 <;> cases b4 <;> cases b5 <;> cases b6 <;> rfl
      rw [e]
      exact p
end
end V

set_option Elab.async false
set_option linter.all false
set_option maxRecDepth 100000
set_option maxHeartbeats 4000000
/-! xs.count(b), xs.index(b) of lists of truths. -/
namespace DL
open PySem PySem.Spec L2 PyProof.Rows PySem.SeqAt
section
variable {X : Cx} {B : Hp} {o a : Expr} {to ta : DTE} {pos apos : Pos}
theorem mt_countB (hu : X.A.units + 65 < cLine) : MtR X "list.count" (fun x xs H Q => ∃ (p : Addr) (bs : List Bool) (c : Bool), x = .ref p ∧ xs = [.bl c] ∧ SqL X.K H p (bs.map V.bl) ∧ DpAll X.K H (bs.map V.bl) (bs.map PyData.bool) ∧ Q (.int (bs.count c : Nat)) H) := by
  intro pins s σ H x xs v us Q I rx rxs h
  obtain ⟨p, bs, c, rfl, rfl, hs, hd, q⟩ := h
  cases rx
  obtain ⟨u, rfl, ru⟩ := rxs.one
  cases ru
  obtain ⟨its, rv, ht, hlen⟩ := I.list hs
  obtain ⟨as, h4⟩ := Dp.readsAll I _ _ its hd rv
  have hp : PyData.plainAll (bs.map PyData.bool) = true := by
    clear h4 hd rv hs q hlen
    induction bs with
    | nil => rfl
    | cons b bs ih => rw [List.map_cons, PyData.plainAll, ih]; rfl
  obtain ⟨bs', r1⟩ := Dp.reads I (.bool c) (.bl c) (.bool c) (.bl c) rfl
  have hc : ((bs.map PyData.bool).countP fun y => PyData.eqv y (.bool c)) = bs.count c := by
    rw [List.countP_map, List.count]
    refine List.countP_congr fun b _ => ?_
    cases b <;> cases c <;> simp [PyData.eqv]
  refine PySem.SeqAt.count_list_data (vs := its.toArray) ht.isList (by simpa using h4) r1 hp rfl ?_ ?_
  · have : (PyData.bool c).depth = 0 := rfl
    rw [this, Nat.min_zero]
    omega
  · rw [hc]
    exact ⟨.int (bs.count c : Nat), H, I.tok _, ⟨s.toks, rfl⟩, q⟩
theorem isL_bl : ∀ {K : PySem.W.Frag} {F : Hp} {vs : List V} {bs : List Bool}, IsL K F vs (bs.map Dt.bl) → vs = bs.map V.bl
  | _, _, _, [], h => by cases h; rfl
  | _, _, _, b :: bs, h => by
    cases h with
    | cons a r =>
      cases a
      rw [isL_bl r]
      rfl
theorem dpAll_bl {K : PySem.W.Frag} {H : Hp} : ∀ bs : List Bool, DpAll K H (bs.map V.bl) (bs.map PyData.bool)
  | [] => .nil
  | b :: bs => .cons (.bl b) (dpAll_bl bs)
def rCountB : Dt → List Dt → Gp → DK → Prop := fun x ds G P => ∃ (bs : List Bool) (c : Bool), asL G x = some (bs.map Dt.bl) ∧ ds = [.bl c] ∧ P (.int (bs.count c : Nat)) G
def rIndexB : Dt → List Dt → Gp → DK → Prop := fun x ds G P => ∃ (bs : List Bool) (c : Bool) (j : Nat), asL G x = some (bs.map Dt.bl) ∧ ds = [.bl c] ∧ bs[j]? = some c ∧ (∀ m z, m < j → bs[m]? = some z → z ≠ c) ∧ P (.int (j : Nat)) G
theorem m_countB (hu : X.A.units + 65 < cLine) : DMt X B "list.count" rCountB := ⟨_, mt_countB hu, fun F G H v x vs ds P Q g i1 i2 ⟨bs, c, h, e, p⟩ k => by
  subst e
  cases i2 with
  | cons i2 i3 =>
    cases i2
    cases i3
    obtain ⟨q, ws, rfl, e2, r⟩ := asL_is g i1 h
    have ew := isL_bl r
    subst ew
    exact ⟨q, bs, c, rfl, rfl, SqL.of e2, dpAll_bl bs, k _ G _ F H p (Le.refl F) g (.int _)⟩⟩
theorem m_indexB : DMt X B "list.index" rIndexB := ⟨_, mt_index, fun F G H v x vs ds P Q g i1 i2 ⟨bs, c, j, h, e, hj, hn, p⟩ k => by
  subst e
  cases i2 with
  | cons i2 i3 =>
    cases i2
    cases i3
    obtain ⟨q, ws, rfl, e2, r⟩ := asL_is g i1 h
    have ew := isL_bl r
    subst ew
    refine ⟨q, bs.map V.bl, .bl c, j, .bl c, rfl, rfl, SqL.of e2, rfl, ?_, by rw [List.getElem?_map, hj]; rfl, by simp [eqV], fun m z' hm hz => ?_, k _ G _ F H p (Le.refl F) g (.int _)⟩
    · rw [List.all_map, List.all_eq_true]
      intro b _
      rfl
    · rw [List.getElem?_map] at hz
      cases e : bs[m]? with
      | none => rw [e] at hz; cases hz
      | some z =>
        rw [e] at hz
        cases hz
        have := hn m z hm e
        cases z <;> cases c <;> simp_all [eqV]⟩
theorem d_countB {k : Nat} (hr : Room k X.A) (ho : DE X B o to) (ha : DE X B a ta) (hs : starEach [a] X.env = (false, eval a X.env) :: starEach [] X.env := by rfl)
    (pe : ∀ {r : V → List V → Hp → VK → Prop} {t : TA} {to : TE}, MtR X "list.count" r → PE X o to → PA X [a] t → PE X (.Call (.Attribute o "count" apos) [a] [] pos) (tBM X.K "list" r to t) := by exact fun h1 h2 h3 => pe_bm PySem.F.plainAttrs_list PySem.F.slot_list_count PySem.F.type_list_count h1 h2 h3) :
    DE X B (.Call (.Attribute o "count" apos) [a] [] pos) (dBM rCountB to (dCons ta dNil)) := by
  obtain ⟨r', h1, h2⟩ := (m_countB (X := X) (B := B) (by have := hr.un; omega)).ex
  exact PE.imp (pe h1 ho (da_cons ha da_nil hs)) (bm_imp h2)
theorem d_indexB (ho : DE X B o to) (ha : DE X B a ta) (hs : starEach [a] X.env = (false, eval a X.env) :: starEach [] X.env := by rfl)
    (pe : ∀ {r : V → List V → Hp → VK → Prop} {t : TA} {to : TE}, MtR X "list.index" r → PE X o to → PA X [a] t → PE X (.Call (.Attribute o "index" apos) [a] [] pos) (tBM X.K "list" r to t) := by exact fun h1 h2 h3 => pe_bm PySem.F.plainAttrs_list PySem.F.slot_list_index PySem.F.type_list_index h1 h2 h3) :
    DE X B (.Call (.Attribute o "index" apos) [a] [] pos) (dBM rIndexB to (dCons ta dNil)) := by
  obtain ⟨r', h1, h2⟩ := (m_indexB (X := X) (B := B)).ex
  exact PE.imp (pe h1 ho (da_cons ha da_nil hs)) (bm_imp h2)
end
end DL

set_option Elab.async false
set_option linter.all false
set_option maxRecDepth 100000
set_option maxHeartbeats 4000000
/-! Texts of tales read, or refused. -/
namespace V
open PySem PySem.Spec L2 L2H DL
theorem mem_len : ∀ {ws : List Str} {x : Str}, x ∈ ws → x.length ≤ (ws.map (·.length)).sum
  | y :: ws, x, h => by
    rw [List.map_cons, List.sum_cons]
    rcases List.mem_cons.mp h with rfl | h
    · exact Nat.le_add_right _ _
    · exact Nat.le_trans (mem_len h) (Nat.le_add_left _ _)
theorem some_map : ∀ {a b : List Nat}, a.map some = b.map some → a = b
  | [], [], _ => rfl
  | x :: a, y :: b, h => by
    simp only [List.map_cons, List.cons.injEq, Option.some.injEq] at h
    rw [h.1, some_map h.2]
theorem take_snoc {α : Type} {l : List α} {i : Nat} {x : α} (h : l[i]? = some x) : l.take (i + 1) = l.take i ++ [x] := by
  rw [List.take_add_one, h]
  rfl
section
variable {P : Program} {w : World} {K : PySem.W.Frag} {mg : Str → Option Value} {base : Heap} {CE cRoad cHouse cClash cReport cTale cDays cText : Addr}
abbrev s_is_number : Stmt := top 10
abbrev n_is_number : List Str := ["word"]
abbrev p_is_number : List Str := ["word"]
theorem sc_is_number : FnScope n_is_number p_is_number (defScope s_is_number) := ⟨rfl, rfl, rfl, by decide +kernel, rfl, by decide +kernel, by decide +kernel⟩
def c_isnumA : DSp := fun ds G P _ => ∃ w : Str, ds = [.str w] ∧ w.length ≤ 1000000 ∧ P (.bl (canonB w.cps.toList)) G
theorem ok_isnumA (T : Bt mg) (TF : TopFn K mg "is_number" s_is_number p_is_number) : Dfn P w K mg base CX0 "is_number" p_is_number c_isnumA 1 := by
  refine dfn_of TF sc_is_number (fun ds G P R ⟨n, e, _⟩ => by rw [e]; rfl) fun f cdv A outer s H E B hr => ?_
  refine ⟨_, (dss_cons (ds_if (DW.dt (dw_or (dt_not (dt_val (d_isascii (dv (pv 0))))) (dw_or (dt_not (dt_val (d_isdigit (dv (pv 0))))) (dw_or1 (dt_cmp o_gt (d_callB c_lenS (by rfl) T.len (by decide +kernel) (da_cons (dv (pv 0)) da_nil)) d_int (nomark _)))))) (dss_one (ds_ret d_bl)) dss_nil)
      (dss_one (ds_ret (d_or (d_cmp o_eqS (dv (pv 0)) d_str (nomark _)) (d_one (d_not (d_startswith (dv (pv 0)) d_str))))))), ?_⟩
  rintro ds G P R ⟨wd, rfl, hn, p⟩
  rw [← isNum_is] at p
  simp [and_assoc, dRet, dRetN, dRetC, dChain, r2I, dC, dVar, dEnds, dstart, dOp, dCB, DL.rLen, dCons, dNil, dFld, asL_lst, asQ_lst, asQ_tup, asQ_scr, ins_obj, dNever, dgN, dgNil, dgCons, dgTup, dIf, dNot, dAnd, dOr, dB, dCall, dMeth, dNext, dSeq, dSt, dLst, dTup, dIfE, rIxQ, dDrop, dYes, diL, diR1, diR2, dNeg, dAsg, dwipe, dBM, dBM0, rAppendD, rMin2, rMax2, atI_0, atI_1, atI_2, atI_3, ix4_0, ix4_1, ix4_3, asL_g, asQ_g, now_g, gupd_same, gupd_gupd, Int.ofNat_inj, now_lst, now_int, now_tup, asL_lst, natsD_length, rdD_length, vilD_inj, vil_ins, natsD_inj, rdD_inj, nnD_inj, n_is_number, dOfS]
  cases h1 : Txt.isascii wd with
  | false => simpa [h1] using p
  | true =>
    cases h2 : Txt.isdigit wd with
    | false => simpa [h1, h2] using p
    | true =>
      rw [if_pos rfl, if_pos rfl]
      refine ⟨wd, rfl, by rw [sizeLine_eq]; omega, _, rfl, ?_⟩
      rw [h1, h2] at p
      by_cases h9 : (9 : Int) < (wd.length : Nat)
      · rw [if_pos h9]
        have e : decide (wd.length ≤ 9) = false := decide_eq_false (by omega)
        rw [e] at p
        simpa using p
      · rw [if_neg h9]
        have e : decide (wd.length ≤ 9) = true := decide_eq_true (by omega)
        rw [e] at p
        simp [and_assoc, dRet, dRetN, dRetC, dChain, r2I, dC, dVar, dEnds, dstart, dOp, dCB, DL.rLen, dCons, dNil, dFld, asL_lst, asQ_lst, asQ_tup, asQ_scr, ins_obj, dNever, dgN, dgNil, dgCons, dgTup, dIf, dNot, dAnd, dOr, dB, dCall, dMeth, dNext, dSeq, dSt, dLst, dTup, dIfE, rIxQ, dDrop, dYes, diL, diR1, diR2, dNeg, dAsg, dwipe, dBM, dBM0, rAppendD, rMin2, rMax2, atI_0, atI_1, atI_2, atI_3, ix4_0, ix4_1, ix4_3, asL_g, asQ_g, now_g, gupd_same, gupd_gupd, Int.ofNat_inj, now_lst, now_int, now_tup, asL_lst, natsD_length, rdD_length, vilD_inj, vil_ins, natsD_inj, rdD_inj, nnD_inj, dOrV, dNotV, dStarts]
        refine .inr (.inr ⟨wd, _, rfl, rfl, ?_⟩)
        by_cases h0 : wd = Str.ofString "0"
        · exact .inr ⟨by simp [h0], by simpa [h0] using p⟩
        · exact .inl ⟨by simp [h0], by simpa [h0] using p⟩
abbrev s_number : Stmt := top 11
abbrev n_number : List Str := ["word", "text"]
abbrev p_number : List Str := ["word", "text"]
theorem sc_number : FnScope n_number p_number (defScope s_number) := ⟨rfl, rfl, rfl, by decide +kernel, rfl, by decide +kernel, by decide +kernel⟩
def c_numA (cT : Addr) : DSp := fun ds G P R => ∃ wd t : Str, ds = [.str wd, .str t] ∧ wd.length ≤ 1000000 ∧ (reprText t).length ≤ 1000000 ∧ match numO wd with
  | some n => P (.int (n : Int)) G
  | none => R cT (.str t) G
theorem ok_numA (T : Bt mg) (TF : TopFn K mg "number" s_number p_number) (D_is_number : Dfn P w K mg base CX0 "is_number" p_is_number c_isnumA 1) (DX_NoText : DexC P w K mg base "NoText" cText) : Dfn P w K mg base (L2N.CX P w) "number" p_number (c_numA cText) 3 := by
  refine dfn_ofR TF sc_number (fun ds G P R ⟨wd, t, e, _⟩ => by rw [e]; rfl) fun f cdv A outer s H E B R hr tk cw pa => ?_
  refine ⟨_, (dss_cons (ds_if (dt_not (dt_val (d_callD D_is_number hr (by rfl) (da_cons (dv (pv 0)) da_nil)))) (dss_one (ds_raise DX_NoText rfl hr tk cw (by rfl) (dv (pv 1)))) dss_nil)
      (dss_one (ds_ret (d_callTy c_intS (by rfl) T.int (by decide +kernel) (da_cons (dv (pv 0)) da_nil))))), ?_⟩
  rintro ds G P ⟨wd, t, rfl, hn, ht, h⟩
  simp [and_assoc, dRet, dRetN, dRetC, dChain, r2I, dC, dVar, dEnds, dstart, dOp, dCB, DL.rLen, dCons, dNil, dFld, asL_lst, asQ_lst, asQ_tup, asQ_scr, ins_obj, dNever, dgN, dgNil, dgCons, dgTup, dIf, dNot, dAnd, dOr, dB, dCall, dMeth, dNext, dSeq, dSt, dLst, dTup, dIfE, rIxQ, dDrop, dYes, diL, diR1, diR2, dNeg, dAsg, dwipe, dBM, dBM0, rAppendD, rMin2, rMax2, atI_0, atI_1, atI_2, atI_3, ix4_0, ix4_1, ix4_3, asL_g, asQ_g, now_g, gupd_same, gupd_gupd, Int.ofNat_inj, now_lst, now_int, now_tup, asL_lst, natsD_length, rdD_length, vilD_inj, vil_ins, natsD_inj, rdD_inj, nnD_inj, dRaise, n_number]
  refine ⟨wd, rfl, hn, ?_⟩
  cases hq : numO wd with
  | some n =>
    rw [hq] at h
    obtain ⟨h9, rfl⟩ := numO_some hq
    have hl := num_len9 h9
    exact .inr ⟨by rw [num_canon h9], numS n, (n : Int), rfl, num_int h9, by omega, h⟩
  | none =>
    rw [hq] at h
    exact .inl ⟨by rw [numO_none hq], .str t ht, h⟩
abbrev s_read_tale : Stmt := top 12
abbrev n_read_tale : List Str := ["text", "word"]
abbrev p_read_tale : List Str := ["text"]
theorem sc_read_tale : FnScope n_read_tale p_read_tale (defScope s_read_tale) := ⟨rfl, rfl, rfl, by decide +kernel, rfl, by decide +kernel, by decide +kernel⟩
def c_rtaleA (cT : Addr) : DSp := fun ds G P R => ∃ t : Str, ds = [.str t] ∧ t.length ≤ 100000 ∧ (reprText t).length ≤ 1000000 ∧
  ((∃ ns : List Nat, (Txt.split t " ").map numO = ns.map some ∧ ∀ q, G q = none → P (.ref q) (gupd G q (.lst (natsD ns)))) ∨ (none ∈ (Txt.split t " ").map numO ∧ ∀ G', GLe G G' → R cT (.str t) G'))
theorem ok_rtaleA (T : Bt mg) (TF : TopFn K mg "read_tale" s_read_tale p_read_tale) (DX_number : Dfn P w K mg base (L2N.CX P w) "number" p_number (c_numA cText) 3) : Dfn P w K mg base (L2N.CX P w) "read_tale" p_read_tale (c_rtaleA cText) 4 := by
  refine dfn_ofR TF sc_read_tale (fun ds G P R ⟨t, e, _⟩ => by rw [e]; rfl) fun f cdv A outer s H E B R hr tk cw pa => ?_
  refine ⟨_, (dss_one (ds_ret (d_lcX (own := [("word", 1)]) rfl sc_read_tale.nd rfl rfl tk (di_list (d_split (dv (pv 0)) d_str)) (blkOk_by (N := n_read_tale) (sc := defScope s_read_tale) (by decide +kernel)) (fun _ _ _ _ _ _ => (dgw_name (pg_name (i := 1) sc_read_tale.nd rfl (by first | exact Or.inl rfl | exact Or.inr rfl)))) (fun _ _ _ _ _ _ => dts_nil) (fun _ _ _ _ _ _ tk => (d_callS DX_number hr tk cw (by rfl) (da_cons (dv (pv 1)) (da_cons (dv (pv 0)) da_nil))))))), ?_⟩
  rintro ds G P ⟨t, rfl, hl, ht, h⟩
  simp [and_assoc, dRet, dRetN, dRetC, dChain, r2I, dC, dVar, dEnds, dstart, dOp, dCB, DL.rLen, dCons, dNil, dFld, asL_lst, asQ_lst, asQ_tup, asQ_scr, ins_obj, dNever, dgN, dgNil, dgCons, dgTup, dIf, dNot, dAnd, dOr, dB, dCall, dMeth, dNext, dSeq, dSt, dLst, dTup, dIfE, rIxQ, dDrop, dYes, diL, diR1, diR2, dNeg, dAsg, dwipe, dBM, dBM0, rAppendD, rMin2, rMax2, atI_0, atI_1, atI_2, atI_3, ix4_0, ix4_1, ix4_3, asL_g, asQ_g, now_g, gupd_same, gupd_gupd, Int.ofNat_inj, now_lst, now_int, now_tup, asL_lst, natsD_length, rdD_length, vilD_inj, vil_ins, natsD_inj, rdD_inj, nnD_inj, dCallS, n_read_tale]
  have hw := PyProof.Rows.split_weight t " " (by decide +kernel)
  generalize hws : Txt.split t (Str.ofString " ") = ws at h hw
  refine dLc_intro (strD ws) G (fun D i acc G' => ∃ ns : List Nat, (ws.take i).map numO = ns.map some ∧ acc = natsD ns ∧ G' = gupd G D (.lst acc)) (fun P p => ?_) (fun D hD => ⟨[], rfl, rfl, rfl⟩) (fun D i dd acc G' hD hd ⟨ns, h1, h2, h3⟩ => ?_) (fun D acc G' hD ⟨ns, h1, h2, h3⟩ => ?_)
  · simp [and_assoc, dRet, dRetN, dRetC, dChain, r2I, dC, dVar, dEnds, dstart, dOp, dCB, DL.rLen, dCons, dNil, dFld, asL_lst, asQ_lst, asQ_tup, asQ_scr, ins_obj, dNever, dgN, dgNil, dgCons, dgTup, dIf, dNot, dAnd, dOr, dB, dCall, dMeth, dNext, dSeq, dSt, dLst, dTup, dIfE, rIxQ, dDrop, dYes, diL, diR1, diR2, dNeg, dAsg, dwipe, dBM, dBM0, rAppendD, rMin2, rMax2, atI_0, atI_1, atI_2, atI_3, ix4_0, ix4_1, ix4_3, asL_g, asQ_g, now_g, gupd_same, gupd_gupd, Int.ofNat_inj, now_lst, now_int, now_tup, asL_lst, natsD_length, rdD_length, vilD_inj, vil_ins, natsD_inj, rdD_inj, nnD_inj, dSplit]
    refine ⟨by decide +kernel, by rw [sizeLine_eq]; omega, ?_⟩
    rw [hws]
    exact p
  · subst h2; subst h3
    rw [strD, List.getElem?_map] at hd
    obtain ⟨w1, hw1, rfl⟩ := Option.map_eq_some_iff.mp hd
    have hm := List.mem_of_getElem? hw1
    have hl1 := mem_len hm
    have hi : i < ws.length := (List.getElem?_eq_some_iff.mp hw1).1
    have e1 : ws.take (i + 1) = ws.take i ++ [w1] := take_snoc hw1
    simp [and_assoc, dRet, dRetN, dRetC, dChain, r2I, dC, dVar, dEnds, dstart, dOp, dCB, DL.rLen, dCons, dNil, dFld, asL_lst, asQ_lst, asQ_tup, asQ_scr, ins_obj, dNever, dgN, dgNil, dgCons, dgTup, dIf, dNot, dAnd, dOr, dB, dCall, dMeth, dNext, dSeq, dSt, dLst, dTup, dIfE, rIxQ, dDrop, dYes, diL, diR1, diR2, dNeg, dAsg, dwipe, dBM, dBM0, rAppendD, rMin2, rMax2, atI_0, atI_1, atI_2, atI_3, ix4_0, ix4_1, ix4_3, asL_g, asQ_g, now_g, gupd_same, gupd_gupd, Int.ofNat_inj, now_lst, now_int, now_tup, asL_lst, natsD_length, rdD_length, vilD_inj, vil_ins, natsD_inj, rdD_inj, nnD_inj, dCallS]
    refine ⟨w1, t, rfl, by omega, ht, ?_⟩
    have nl : ns.length ≤ i := by
      have := congrArg List.length h1
      rw [List.length_map, List.length_map, List.length_take] at this
      omega
    cases hq : numO w1 with
    | some n =>
      refine ⟨gupd_same, by rw [sizeLine_eq]; omega, ns ++ [n], ?_, ?_, ?_⟩
      · rw [← List.map_take, e1, List.map_append, h1, List.map_append]
        simp [hq]
      · simp [natsD]
      · rw [gupd_gupd]
    | none =>
      rcases h with ⟨ms, h4, _⟩ | ⟨_, h5⟩
      · have : none ∈ ms.map some := by
          rw [← h4]
          exact hq ▸ List.mem_map_of_mem hm
        simp at this
      · exact h5 _ (GLe.gupd hD)
  · subst h2; subst h3
    rw [strD_length, List.take_length] at h1
    rcases h with ⟨ms, h4, p⟩ | ⟨h5, _⟩
    · have e : ns = ms := by
        rw [h1] at h4
        exact some_map h4
      subst e
      exact p D hD
    · rw [h1] at h5
      simp at h5
end
end V

set_option Elab.async false
set_option linter.all false
set_option maxRecDepth 100000
set_option maxHeartbeats 4000000
/-! Texts spoilt. -/
namespace V
open PySem PySem.Spec L2 L2H DL
/-- signs that there are -/
def okS (w : Str) : Prop := ∀ c ∈ w.cps.toList, c < 1114112
theorem okS_of {w : Str} (h : w.cps.toList.all (fun c => decide (c < 1114112)) = true) : okS w := fun c hc => of_decide_eq_true (List.all_eq_true.mp h c hc)
theorem okS_app {x y : Str} (h : okS x) (h' : okS y) : okS (x ++ y) := fun c hc => by
  have e : (x ++ y).cps.toList = x.cps.toList ++ y.cps.toList := TL.tl_append x y
  rw [e] at hc
  exact (List.mem_append.mp hc).elim (h c) (h' c)
theorem okS_one {c : Nat} (h : c < 1114112) : okS ⟨#[c]⟩ := fun z hz => by
  have : z = c := by simpa using hz
  rw [this]; exact h
theorem okS_cut {z : Str} (l u : Option Int) (h : okS z) : okS (cutS z l u) := fun c hc => by
  unfold cutS at hc
  exact h c (List.mem_of_mem_drop (List.mem_of_mem_take (by simpa using hc)))
theorem mem_joinL {S : List Nat} {c : Nat} : ∀ {parts : List (List Nat)}, c ∈ TL.joinL S parts → c ∈ S ∨ ∃ p ∈ parts, c ∈ p
  | [p], h => .inr ⟨p, by simp, h⟩
  | p :: q :: r, h => by
    rcases List.mem_append.mp h with h | h
    · exact .inr ⟨p, by simp, h⟩
    · rcases List.mem_append.mp h with h | h
      · exact .inl h
      · rcases mem_joinL h with h | ⟨x, hx, h⟩
        · exact .inl h
        · exact .inr ⟨x, List.mem_cons_of_mem _ hx, h⟩
theorem joinL_mem {S : List Nat} {c : Nat} : ∀ {parts : List (List Nat)} {p : List Nat}, p ∈ parts → c ∈ p → c ∈ TL.joinL S parts
  | [q], p, h, hc => by rw [List.mem_singleton.mp h] at hc; exact hc
  | q :: r :: t, p, h, hc => by
    rcases List.mem_cons.mp h with rfl | h
    · exact List.mem_append_left _ hc
    · exact List.mem_append_right _ (List.mem_append_right _ (joinL_mem h hc))
theorem okS_join {y : Str} {ws : List Str} (hy : okS y) (h : ∀ x ∈ ws, okS x) : okS (Txt.join y ws) := fun c hc => by
  have e : (Txt.join y ws).cps.toList = TL.joinL y.cps.toList (ws.map fun x => x.cps.toList) := by rw [TL.join_eq]; exact TL.tl_join y ws
  rw [e] at hc
  rcases mem_joinL hc with hc | ⟨p, hp, hc⟩
  · exact hy c hc
  · obtain ⟨x, hx, rfl⟩ := List.mem_map.mp hp
    exact h x hx c hc
theorem okS_split {x y : Str} (h : okS x) : ∀ p ∈ Txt.split x y, okS p := fun p hp c hc => by
  have e : (Str.join y (Txt.split x y)).cps.toList = TL.joinL y.cps.toList ((Txt.split x y).map fun x => x.cps.toList) := TL.tl_join y _
  rw [StrLaws.join_split] at e
  refine h c ?_
  rw [e]
  exact joinL_mem (List.mem_map_of_mem hp) hc
theorem str_at {z : Str} {r : Nat} (h : r < z.length) : ∃ c, atI z.cps.toList (r : Int) = some c ∧ c ∈ z.cps.toList := by
  have hl : z.cps.toList.length = z.length := by simp [Str.length]
  exact ⟨_, atI_nat' (List.getElem?_eq_getElem (by omega)), List.getElem_mem _⟩
theorem cutS_len (z : Str) (l u : Option Int) : (cutS z l u).length ≤ z.length := by
  have hl : z.cps.toList.length = z.length := by simp [Str.length]
  unfold cutS
  show (List.toArray _).size ≤ _
  rw [List.size_toArray, List.length_take, List.length_drop]
  omega
def lensOf (ws : List Str) : Nat := (ws.map (·.length)).sum
theorem lens_app (a b : List Str) : lensOf (a ++ b) = lensOf a + lensOf b := by simp [lensOf]
theorem lens_take (a : List Str) (k : Nat) : lensOf (a.take k) ≤ lensOf a := by
  have := lens_app (a.take k) (a.drop k)
  rw [List.take_append_drop] at this
  omega
theorem lens_drop (a : List Str) (k : Nat) : lensOf (a.drop k) ≤ lensOf a := by
  have := lens_app (a.take k) (a.drop k)
  rw [List.take_append_drop] at this
  omega
theorem lens_set : ∀ (a : List Str) (i : Nat) (x y : Str), a[i]? = some y → lensOf (a.set i x) + y.length = lensOf a + x.length
  | z :: a, 0, x, y, h => by
    cases h
    simp [lensOf]
    omega
  | z :: a, i + 1, x, y, h => by
    have := lens_set a i x y (by simpa using h)
    simp only [lensOf, List.set_cons_succ, List.map_cons, List.sum_cons] at this ⊢
    omega
theorem str_in {ws : List Str} {i : Nat} {x : Str} (h : ws[i]? = some x) : atI (strD ws) (i : Int) = some (.str x) := atI_nat' (by rw [strD, List.getElem?_map, h]; rfl)
theorem ixN_at {n a : Nat} (h : a < n) : ixN n (a : Int) = some a := by
  unfold ixN
  simp [seqIndex?]
  omega
theorem cutD_strs (ws : List Str) (l u : Option Int) : ∃ vs, cutD (strD ws) l u = strD vs ∧ lensOf vs ≤ lensOf ws ∧ vs.length ≤ ws.length ∧ ∀ v ∈ vs, v ∈ ws := by
  refine ⟨(ws.drop (HT.sIx ws.length 0 l)).take (HT.sIx ws.length ws.length u - HT.sIx ws.length 0 l), ?_, ?_, ?_, fun v hv => List.mem_of_mem_drop (List.mem_of_mem_take hv)⟩
  · unfold cutD
    rw [strD_length]
    simp [strD, List.map_take, List.map_drop]
  · exact Nat.le_trans (lens_take _ _) (lens_drop _ _)
  · rw [List.length_take, List.length_drop]; omega
theorem strD_app (a b : List Str) : strD a ++ strD b = strD (a ++ b) := by simp [strD]
section
variable {P : Program} {w : World} {K : PySem.W.Frag} {mg : Str → Option Value} {base : Heap} {CE cRoad cHouse cClash cReport cTale cDays cText : Addr}
abbrev s_law_sign : Stmt := top 18
abbrev n_law_sign : List Str := ["tray", "some"]
abbrev p_law_sign : List Str := ["tray"]
theorem sc_law_sign : FnScope n_law_sign p_law_sign (defScope s_law_sign) := ⟨rfl, rfl, rfl, by decide +kernel, rfl, by decide +kernel, by decide +kernel⟩
def c_sign : DSp := fun ds G P _ => ∃ (t g : Addr) (n : Nat), ds = [.ref t] ∧ Tray G t g (n + 2) ∧ ∀ (c : Nat) G', c < 1114112 → Tray G' t g n → TExt t g G G' → P (.str ⟨#[c]⟩) G'
theorem ok_sign (T : Bt mg) (TF : TopFn K mg "_law_sign" s_law_sign p_law_sign) (D__law_draw : Dfn P w K mg base CX0 "_law_draw" p_law_draw c_draw 1) : Dfn P w K mg base CX0 "_law_sign" p_law_sign c_sign 2 := by
  refine dfn_of TF sc_law_sign (fun ds G P R ⟨t, g, n, e, _⟩ => by rw [e]; rfl) fun f cdv A outer s H E B hr => ?_
  refine ⟨_, (dss_cons (ds_if (dt_cmp o_eqI (d_callD D__law_draw hr (by rfl) (da_cons (dv (pv 0)) (da_cons d_int da_nil))) d_int (nomark _)) (dss_cons (ds_set (i := 1) sc_law_sign.nd rfl (by first | exact Or.inl rfl | exact Or.inr rfl) d_str)
      (dss_one (ds_ret (d_ixS (dv (pv 1)) (d_callD D__law_draw hr (by rfl) (da_cons (dv (pv 0)) (da_cons (d_callB c_lenS (by rfl) T.len (by decide +kernel) (da_cons (dv (pv 1)) da_nil)) da_nil))) (fun _ _ => rfl))))) dss_nil)
      (dss_cons (ds_set (i := 1) sc_law_sign.nd rfl (by first | exact Or.inl rfl | exact Or.inr rfl) d_str)
      (dss_cons (ds_set (i := 1) sc_law_sign.nd rfl (by first | exact Or.inl rfl | exact Or.inr rfl) (d_op o_catS (dv (pv 1)) d_str))
      (dss_one (ds_ret (d_ixS (dv (pv 1)) (d_callD D__law_draw hr (by rfl) (da_cons (dv (pv 0)) (da_cons (d_callB c_lenS (by rfl) T.len (by decide +kernel) (da_cons (dv (pv 1)) da_nil)) da_nil))) (fun _ _ => rfl))))))), ?_⟩
  rintro ds G P R ⟨t, g, n, rfl, hT, p⟩
  simp [and_assoc, dRet, dRetN, dRetC, dChain, r2I, dC, dVar, dEnds, dstart, dOp, dCB, DL.rLen, dCons, dNil, dFld, asL_lst, asQ_lst, asQ_tup, asQ_scr, ins_obj, dNever, dgN, dgNil, dgCons, dgTup, dIf, dNot, dAnd, dOr, dB, dCall, dMeth, dNext, dSeq, dSt, dLst, dTup, dIfE, rIxQ, dDrop, dYes, diL, diR1, diR2, dNeg, dAsg, dwipe, dBM, dBM0, rAppendD, rMin2, rMax2, atI_0, atI_1, atI_2, atI_3, ix4_0, ix4_1, ix4_3, asL_g, asQ_g, now_g, gupd_same, gupd_gupd, Int.ofNat_inj, now_lst, now_int, now_tup, asL_lst, natsD_length, rdD_length, vilD_inj, vil_ins, natsD_inj, rdD_inj, nnD_inj, n_law_sign]
  have l1 : (Str.ofString "0123456789 ->:,.onenone").length = 23 := by decide +kernel
  have l2 : (Str.ofString " !\"#$&'()*+,-./0123456789:;<=>?@ABCDEFGHIJKLMNOPQRSTUVWXYZ[\\]^_`").length = 64 := by decide +kernel
  have l3 : (Str.ofString "abcdefghijklmnopqrstuvwxyz{|}~").length = 30 := by decide +kernel
  refine ⟨t, g, 2, n + 1, rfl, by decide, by decide, hT, fun r1 G1 hr1 hT1 hx1 => ⟨_, rfl, ?_⟩⟩
  by_cases h0 : (r1 : Int) = 0
  · rw [if_pos h0]
    refine ⟨_, rfl, by rw [l1, sizeLine_eq]; decide, t, g, _, n, rfl, by rw [l1]; decide, by rw [l1]; decide, hT1, fun r2 G2 hr2 hT2 hx2 => ?_⟩
    obtain ⟨c, hc, hm⟩ := str_at hr2
    exact ⟨_, _, c, rfl, rfl, by rw [l1, sizeLine_eq]; decide, hc, p c G2 (okS_of (by decide +kernel) c hm) hT2 (hx1.trans hx2)⟩
  · rw [if_neg h0]
    refine ⟨_, _, rfl, rfl, by rw [l2, l3, sizeLine_eq]; decide, ?_⟩
    have l4 := DL.app_len (Str.ofString " !\"#$&'()*+,-./0123456789:;<=>?@ABCDEFGHIJKLMNOPQRSTUVWXYZ[\\]^_`") (Str.ofString "abcdefghijklmnopqrstuvwxyz{|}~")
    rw [l2, l3] at l4
    refine ⟨_, rfl, by rw [l4, sizeLine_eq]; decide, t, g, _, n, rfl, by rw [l4]; decide, by rw [l4]; decide, hT1, fun r2 G2 hr2 hT2 hx2 => ?_⟩
    obtain ⟨c, hc, hm⟩ := str_at hr2
    exact ⟨_, _, c, rfl, rfl, by rw [l4, sizeLine_eq]; decide, hc, p c G2 (okS_app (okS_of (by decide +kernel)) (okS_of (by decide +kernel)) c hm) hT2 (hx1.trans hx2)⟩
abbrev s_law_parts_spoilt : Stmt := top 19
abbrev n_law_parts_spoilt : List Str := ["tray", "line", "odd", "joint", "parts", "at", "spot", "lot"]
abbrev p_law_parts_spoilt : List Str := ["tray", "line", "odd"]
theorem sc_law_parts_spoilt : FnScope n_law_parts_spoilt p_law_parts_spoilt (defScope s_law_parts_spoilt) := ⟨rfl, rfl, rfl, by decide +kernel, rfl, by decide +kernel, by decide +kernel⟩
def c_parts : DSp := fun ds G P _ => ∃ (t g : Addr) (line : Str) (odd : List Str) (n : Nat), ds = [.ref t, .str line, .lst (strD odd)] ∧ odd ≠ [] ∧ odd.length ≤ 100 ∧ (∀ o ∈ odd, o.length ≤ 100 ∧ okS o) ∧ line.length ≤ 1000000 ∧ okS line ∧ Tray G t g (n + 10) ∧ ∀ (line' : Str) G', line'.length ≤ 6 * line.length + 200 → okS line' → Tray G' t g n → TExt t g G G' → P (.str line') G'
theorem ok_parts (T : Bt mg) (TF : TopFn K mg "_law_parts_spoilt" s_law_parts_spoilt p_law_parts_spoilt) (D__law_draw : Dfn P w K mg base CX0 "_law_draw" p_law_draw c_draw 1) : Dfn P w K mg base CX0 "_law_parts_spoilt" p_law_parts_spoilt c_parts 2 := by
  refine dfn_of TF sc_law_parts_spoilt (fun ds G P R ⟨t, g, line, odd, n, e, _⟩ => by rw [e]; rfl) fun f cdv A outer s H E B hr => ?_
  refine ⟨_, (dss_cons (ds_set (i := 3) sc_law_parts_spoilt.nd rfl (by first | exact Or.inl rfl | exact Or.inr rfl) (d_ix (d_lst (da_cons d_str (da_cons d_str (da_cons d_str (da_cons d_str (da_cons d_str da_nil)))))) (d_callD D__law_draw hr (by rfl) (da_cons (dv (pv 0)) (da_cons d_int da_nil))) (fun _ _ => rfl)))
      (dss_cons (ds_set (i := 4) sc_law_parts_spoilt.nd rfl (by first | exact Or.inl rfl | exact Or.inr rfl) (d_splitM (dv (pv 1)) (dv (pv 3))))
      (dss_cons (ds_set (i := 5) sc_law_parts_spoilt.nd rfl (by first | exact Or.inl rfl | exact Or.inr rfl) (d_callD D__law_draw hr (by rfl) (da_cons (dv (pv 0)) (da_cons (d_callB c_len (by rfl) T.len (by decide +kernel) (da_cons (dv (pv 4)) da_nil)) da_nil))))
      (dss_cons (ds_set (i := 6) sc_law_parts_spoilt.nd rfl (by first | exact Or.inl rfl | exact Or.inr rfl) (d_callD D__law_draw hr (by rfl) (da_cons (dv (pv 0)) (da_cons (d_callB c_len (by rfl) T.len (by decide +kernel) (da_cons (dv (pv 4)) da_nil)) da_nil))))
      (dss_cons (ds_set (i := 7) sc_law_parts_spoilt.nd rfl (by first | exact Or.inl rfl | exact Or.inr rfl) (d_callD D__law_draw hr (by rfl) (da_cons (dv (pv 0)) (da_cons d_int da_nil))))
      (dss_cons (ds_if (dt_cmp o_eqI (dv (pv 7)) d_int (nomark _)) (dss_one (ds_set (i := 4) sc_law_parts_spoilt.nd rfl (by first | exact Or.inl rfl | exact Or.inr rfl) (d_op o_cat (d_slice (dv (pv 4)) do_none (do_some (dv (pv 5)))) (d_slice (dv (pv 4)) (do_some (d_op o_add (dv (pv 5)) d_int)) do_none)))) (dss_one (ds_if (dt_cmp o_eqI (dv (pv 7)) d_int (nomark _)) (dss_one (ds_set (i := 4) sc_law_parts_spoilt.nd rfl (by first | exact Or.inl rfl | exact Or.inr rfl) (d_op o_cat (d_op o_cat (d_slice (dv (pv 4)) do_none (do_some (dv (pv 5)))) (d_slice (dv (pv 4)) (do_some (dv (pv 5))) (do_some (d_op o_add (dv (pv 5)) d_int)))) (d_slice (dv (pv 4)) (do_some (dv (pv 5))) do_none)))) (dss_one (ds_if (dt_cmp o_eqI (dv (pv 7)) d_int (nomark _)) (dss_one (ds_asg (d_tup (da_cons (d_ix (dv (pv 4)) (dv (pv 6)) (fun _ _ => rfl)) (da_cons (d_ix (dv (pv 4)) (dv (pv 5)) (fun _ _ => rfl)) da_nil))) (dg_tup (n := 2) rfl (dgs_cons (dg_sub (dv (pv 4)) (dv (pv 5)) s_set) (dgs_cons (dg_sub (dv (pv 4)) (dv (pv 6)) s_set) dgs_nil))))) (dss_one (ds_asg (d_ix (dv (pv 2)) (d_callD D__law_draw hr (by rfl) (da_cons (dv (pv 0)) (da_cons (d_callB c_len (by rfl) T.len (by decide +kernel) (da_cons (dv (pv 2)) da_nil)) da_nil))) (fun _ _ => rfl)) (dg_sub (dv (pv 4)) (dv (pv 5)) s_set))))))))
      (dss_one (ds_ret (d_join (dv (pv 3)) (dv (pv 4))))))))))), ?_⟩
  rintro ds G P R ⟨t, g, line, odd, n, rfl, ho1, ho2, ho3, hl, hok, hT, p⟩
  simp [and_assoc, dRet, dRetN, dRetC, dChain, r2I, dC, dVar, dEnds, dstart, dOp, dCB, DL.rLen, dCons, dNil, dFld, asL_lst, asQ_lst, asQ_tup, asQ_scr, ins_obj, dNever, dgN, dgNil, dgCons, dgTup, dIf, dNot, dAnd, dOr, dB, dCall, dMeth, dNext, dSeq, dSt, dLst, dTup, dIfE, rIxQ, dDrop, dYes, diL, diR1, diR2, dNeg, dAsg, dwipe, dBM, dBM0, rAppendD, rMin2, rMax2, atI_0, atI_1, atI_2, atI_3, ix4_0, ix4_1, ix4_3, asL_g, asQ_g, now_g, gupd_same, gupd_gupd, Int.ofNat_inj, now_lst, now_int, now_tup, asL_lst, natsD_length, rdD_length, vilD_inj, vil_ins, natsD_inj, rdD_inj, nnD_inj, n_law_parts_spoilt]
  refine ⟨by rw [sizeLine_eq]; decide, t, g, 5, n + 9, rfl, by decide, by decide, hT, fun r1 G1 hr1 hT1 hx1 => ⟨_, _, rfl, rfl, ?_⟩⟩
  obtain ⟨jt, hj, hj1, hj2, hjk⟩ : ∃ jt : Str, atI [Dt.str " ", .str "-", .str ", ", .str ": ", .str ">"] (r1 : Int) = some (.str jt) ∧ 1 ≤ jt.length ∧ jt.length ≤ 2 ∧ okS jt :=
    match r1, hr1 with
    | 0, _ => ⟨_, rfl, by decide +kernel, by decide +kernel, okS_of (by decide +kernel)⟩
    | 1, _ => ⟨_, rfl, by decide +kernel, by decide +kernel, okS_of (by decide +kernel)⟩
    | 2, _ => ⟨_, rfl, by decide +kernel, by decide +kernel, okS_of (by decide +kernel)⟩
    | 3, _ => ⟨_, rfl, by decide +kernel, by decide +kernel, okS_of (by decide +kernel)⟩
    | 4, _ => ⟨_, rfl, by decide +kernel, by decide +kernel, okS_of (by decide +kernel)⟩
  refine ⟨_, hj, ?_⟩
  have hw := PyProof.Rows.split_weight line jt hj1
  have hw0 := PyProof.Rows.split_pos line jt
  simp [and_assoc, dRet, dRetN, dRetC, dChain, r2I, dC, dVar, dEnds, dstart, dOp, dCB, DL.rLen, dCons, dNil, dFld, asL_lst, asQ_lst, asQ_tup, asQ_scr, ins_obj, dNever, dgN, dgNil, dgCons, dgTup, dIf, dNot, dAnd, dOr, dB, dCall, dMeth, dNext, dSeq, dSt, dLst, dTup, dIfE, rIxQ, dDrop, dYes, diL, diR1, diR2, dNeg, dAsg, dwipe, dBM, dBM0, rAppendD, rMin2, rMax2, atI_0, atI_1, atI_2, atI_3, ix4_0, ix4_1, ix4_3, asL_g, asQ_g, now_g, gupd_same, gupd_gupd, Int.ofNat_inj, now_lst, now_int, now_tup, asL_lst, natsD_length, rdD_length, vilD_inj, vil_ins, natsD_inj, rdD_inj, nnD_inj, dSplitM]
  refine ⟨by have : jt.length ≠ 0 := by omega
             simpa using this, by rw [sizeLine_eq]; omega, fun q hq => ?_⟩
  have hwk := okS_split (y := jt) hok
  generalize hws : Txt.split line jt = ws at hw hw0 hwk
  change lensOf ws + ws.length ≤ line.length + 1 at hw
  have hT1q : Tray (gupd G1 q (.lst (strD ws))) t g (n + 9) := hT1.new hq
  obtain ⟨hqt, hqg⟩ := hT1.fresh hq
  refine ⟨t, g, ws.length, n + 8, by rw [strD_length], by omega, by omega, hT1q, fun a G2 ha hT2 hx2 => ?_⟩
  have hq2 : G2 q = some (.lst (strD ws)) := hx2 q _ hqt.symm hqg.symm gupd_same
  refine ⟨_, asQ_ref hq2, t, g, ws.length, n + 7, by rw [strD_length], by omega, by omega, hT2, fun b G3 hb hT3 hx3 => ?_⟩
  have hq3 : G3 q = some (.lst (strD ws)) := hx3 q _ hqt.symm hqg.symm hq2
  refine ⟨t, g, 5, n + 6, rfl, by decide, by decide, hT3, fun r4 G4 hr4 hT4 hx4 => ⟨_, rfl, ?_⟩⟩
  have hq4 : G4 q = some (.lst (strD ws)) := hx4 q _ hqt.symm hqg.symm hq3
  have hx : TExt t g G G4 := fun c m h1 h2 e => hx4 c m h1 h2 (hx3 c m h1 h2 (hx2 c m h1 h2 (by rw [gupd_ne (gne (hx1 c m h1 h2 e) hq)]; exact hx1 c m h1 h2 e)))
  have hqn : G q = none := by
    cases e : G q with
    | none => rfl
    | some m => rw [hx1 q m hqt.symm hqg.symm e] at hq; cases hq
  have size : ∀ ws' : List Str, lensOf ws' + 2 * ws'.length ≤ 6 * line.length + 200 → (ws'.map (·.length)).sum + ws'.length * jt.length ≤ 6 * line.length + 200 := fun ws' h => by
    have : ws'.length * jt.length ≤ ws'.length * 2 := Nat.mul_le_mul_left _ hj2
    unfold lensOf at h
    omega
  have fin : ∀ (ws' : List Str) G', lensOf ws' + 2 * ws'.length ≤ 6 * line.length + 200 → (∀ x ∈ ws', okS x) → Tray G' t g n → TExt t g G G' → P (.str (Txt.join jt ws')) G' := fun ws' G' h hk hT' hx' => p _ G' (Nat.le_trans (join_len jt ws') (size ws' h)) (okS_join hjk hk) hT' hx'
  have cut := cutD_strs ws
  by_cases h0 : (r4 : Int) = 0
  · rw [if_pos h0]
    simp [and_assoc, dRet, dRetN, dRetC, dChain, r2I, dC, dVar, dEnds, dstart, dOp, dCB, DL.rLen, dCons, dNil, dFld, asL_lst, asQ_lst, asQ_tup, asQ_scr, ins_obj, dNever, dgN, dgNil, dgCons, dgTup, dIf, dNot, dAnd, dOr, dB, dCall, dMeth, dNext, dSeq, dSt, dLst, dTup, dIfE, rIxQ, dDrop, dYes, diL, diR1, diR2, dNeg, dAsg, dwipe, dBM, dBM0, rAppendD, rMin2, rMax2, atI_0, atI_1, atI_2, atI_3, ix4_0, ix4_1, ix4_3, asL_g, asQ_g, now_g, gupd_same, gupd_gupd, Int.ofNat_inj, now_lst, now_int, now_tup, asL_lst, natsD_length, rdD_length, vilD_inj, vil_ins, natsD_inj, rdD_inj, nnD_inj, dCut, doSome, doNone, dJoin]
    obtain ⟨v1, e1, s1, c1, m1⟩ := cut none (some (a : Int))
    obtain ⟨v2, e2, s2, c2, m2⟩ := cut (some ((a : Int) + 1)) none
    refine ⟨_, asL_ref hq4, _, asL_ref hq4, ?_⟩
    rw [e1, e2]
    have hb : lensOf (v1 ++ v2) + 2 * (v1 ++ v2).length ≤ 6 * line.length + 200 := by rw [lens_app, List.length_append]; omega
    exact ⟨_, _, rfl, rfl, by rw [strD_length, strD_length, sizeLine_eq]; omega, v1 ++ v2, by rw [strD_app]; rfl, Nat.le_trans (size _ hb) (by omega), fin _ G4 hb (fun x hx' => hwk x ((List.mem_append.mp hx').elim (m1 x) (m2 x))) (hT4.mono (by omega)) hx⟩
  · rw [if_neg h0]
    refine ⟨_, rfl, ?_⟩
    by_cases h1 : (r4 : Int) = 1
    · rw [if_pos h1]
      simp [and_assoc, dRet, dRetN, dRetC, dChain, r2I, dC, dVar, dEnds, dstart, dOp, dCB, DL.rLen, dCons, dNil, dFld, asL_lst, asQ_lst, asQ_tup, asQ_scr, ins_obj, dNever, dgN, dgNil, dgCons, dgTup, dIf, dNot, dAnd, dOr, dB, dCall, dMeth, dNext, dSeq, dSt, dLst, dTup, dIfE, rIxQ, dDrop, dYes, diL, diR1, diR2, dNeg, dAsg, dwipe, dBM, dBM0, rAppendD, rMin2, rMax2, atI_0, atI_1, atI_2, atI_3, ix4_0, ix4_1, ix4_3, asL_g, asQ_g, now_g, gupd_same, gupd_gupd, Int.ofNat_inj, now_lst, now_int, now_tup, asL_lst, natsD_length, rdD_length, vilD_inj, vil_ins, natsD_inj, rdD_inj, nnD_inj, dCut, doSome, doNone, dJoin]
      obtain ⟨v1, e1, s1, c1, m1⟩ := cut none (some (a : Int))
      obtain ⟨v2, e2, s2, c2, m2⟩ := cut (some (a : Int)) (some ((a : Int) + 1))
      obtain ⟨v3, e3, s3, c3, m3⟩ := cut (some (a : Int)) none
      refine ⟨_, asL_ref hq4, _, asL_ref hq4, ?_⟩
      rw [e1, e2]
      refine ⟨_, _, rfl, rfl, by rw [strD_length, strD_length, sizeLine_eq]; omega, _, asL_ref hq4, ?_⟩
      rw [e3, strD_app]
      have hb : lensOf (v1 ++ v2 ++ v3) + 2 * (v1 ++ v2 ++ v3).length ≤ 6 * line.length + 200 := by rw [lens_app, lens_app, List.length_append, List.length_append]; omega
      exact ⟨_, _, rfl, rfl, by rw [strD_length, strD_length, List.length_append, sizeLine_eq]; omega, v1 ++ v2 ++ v3, by rw [strD_app]; rfl, Nat.le_trans (size _ hb) (by omega), fin _ G4 hb (fun x hx' => hwk x ((List.mem_append.mp hx').elim (fun q => (List.mem_append.mp q).elim (m1 x) (m2 x)) (m3 x))) (hT4.mono (by omega)) hx⟩
    · rw [if_neg h1]
      refine ⟨_, rfl, ?_⟩
      by_cases h2 : (r4 : Int) = 2
      · rw [if_pos h2]
        simp [and_assoc, dRet, dRetN, dRetC, dChain, r2I, dC, dVar, dEnds, dstart, dOp, dCB, DL.rLen, dCons, dNil, dFld, asL_lst, asQ_lst, asQ_tup, asQ_scr, ins_obj, dNever, dgN, dgNil, dgCons, dgTup, dIf, dNot, dAnd, dOr, dB, dCall, dMeth, dNext, dSeq, dSt, dLst, dTup, dIfE, rIxQ, dDrop, dYes, diL, diR1, diR2, dNeg, dAsg, dwipe, dBM, dBM0, rAppendD, rMin2, rMax2, atI_0, atI_1, atI_2, atI_3, ix4_0, ix4_1, ix4_3, asL_g, asQ_g, now_g, gupd_same, gupd_gupd, Int.ofNat_inj, now_lst, now_int, now_tup, asL_lst, natsD_length, rdD_length, vilD_inj, vil_ins, natsD_inj, rdD_inj, nnD_inj, dgSub, sSet, dJoin]
        obtain ⟨xa, hxa⟩ : ∃ x, ws[a]? = some x := ⟨_, List.getElem?_eq_getElem ha⟩
        obtain ⟨xb, hxb⟩ : ∃ x, ws[b]? = some x := ⟨_, List.getElem?_eq_getElem hb⟩
        have la := mem_len (List.mem_of_getElem? hxa)
        have lb := mem_len (List.mem_of_getElem? hxb)
        have s1 := lens_set ws a xb xa hxa
        obtain ⟨y, hy⟩ : ∃ y, (ws.set a xb)[b]? = some y := ⟨_, List.getElem?_eq_getElem (by rw [List.length_set]; exact hb)⟩
        have s2 := lens_set (ws.set a xb) b xa y hy
        have el : ((ws.set a xb).set b xa).length = ws.length := by simp
        change xa.length ≤ lensOf ws at la
        change xb.length ≤ lensOf ws at lb
        have hb' : lensOf ((ws.set a xb).set b xa) + 2 * ((ws.set a xb).set b xa).length ≤ 6 * line.length + 200 := by rw [el]; omega
        have es : ((strD ws).set a (.str xb)).set b (.str xa) = strD ((ws.set a xb).set b xa) := by simp [strD, List.map_set]
        refine ⟨_, asQ_ref hq4, _, str_in hxb, _, asQ_ref hq4, _, str_in hxa, by rw [sizeLine_eq]; decide, _, hq4, a, ixN_at (by rw [strD_length]; exact ha), b, ixN_at (by rw [strD_length]; exact hb), (ws.set a xb).set b xa, es, Nat.le_trans (size _ hb') (by omega), ?_⟩
        exact fin _ _ hb' (fun x hx' => by
          rcases List.mem_or_eq_of_mem_set hx' with h | rfl
          · rcases List.mem_or_eq_of_mem_set h with h | rfl
            · exact hwk x h
            · exact hwk _ (List.mem_of_getElem? hxb)
          · exact hwk _ (List.mem_of_getElem? hxa)) ((hT4.mono (by omega)).other hqt hqg) fun c m h1 h2 e => by rw [gupd_ne (gne e hqn)]; exact hx c m h1 h2 e
      · rw [if_neg h2]
        simp [and_assoc, dRet, dRetN, dRetC, dChain, r2I, dC, dVar, dEnds, dstart, dOp, dCB, DL.rLen, dCons, dNil, dFld, asL_lst, asQ_lst, asQ_tup, asQ_scr, ins_obj, dNever, dgN, dgNil, dgCons, dgTup, dIf, dNot, dAnd, dOr, dB, dCall, dMeth, dNext, dSeq, dSt, dLst, dTup, dIfE, rIxQ, dDrop, dYes, diL, diR1, diR2, dNeg, dAsg, dwipe, dBM, dBM0, rAppendD, rMin2, rMax2, atI_0, atI_1, atI_2, atI_3, ix4_0, ix4_1, ix4_3, asL_g, asQ_g, now_g, gupd_same, gupd_gupd, Int.ofNat_inj, now_lst, now_int, now_tup, asL_lst, natsD_length, rdD_length, vilD_inj, vil_ins, natsD_inj, rdD_inj, nnD_inj, dgSub, sSet, dJoin]
        refine ⟨t, g, odd.length, n + 5, by rw [strD_length], by have := List.length_pos_iff.mpr ho1; omega, by omega, hT4.mono (by omega), fun r5 G5 hr5 hT5 hx5 => ?_⟩
        obtain ⟨xo, hxo⟩ : ∃ x, odd[r5]? = some x := ⟨_, List.getElem?_eq_getElem hr5⟩
        have lo := ho3 xo (List.mem_of_getElem? hxo)
        obtain ⟨xa, hxa⟩ : ∃ x, ws[a]? = some x := ⟨_, List.getElem?_eq_getElem ha⟩
        have s1 := lens_set ws a xo xa hxa
        have hq5 : G5 q = some (.lst (strD ws)) := hx5 q _ hqt.symm hqg.symm hq4
        have el : (ws.set a xo).length = ws.length := by simp
        have hb' : lensOf (ws.set a xo) + 2 * (ws.set a xo).length ≤ 6 * line.length + 200 := by rw [el]; omega
        have es : (strD ws).set a (.str xo) = strD (ws.set a xo) := by simp [strD, List.map_set]
        refine ⟨_, _, rfl, rfl, _, str_in hxo, _, hq5, a, ixN_at (by rw [strD_length]; exact ha), ws.set a xo, es, Nat.le_trans (size _ hb') (by omega), ?_⟩
        exact fin _ _ hb' (fun x hx' => by
          rcases List.mem_or_eq_of_mem_set hx' with h | rfl
          · exact hwk x h
          · exact lo.2) ((hT5.mono (by omega)).other hqt hqg) fun c m h1 h2 e => by rw [gupd_ne (gne e hqn)]; exact hx5 c m h1 h2 (hx c m h1 h2 e)
abbrev s_law_spoilt : Stmt := top 20
abbrev n_law_spoilt : List Str := ["tray", "line", "odd", "lot", "at"]
abbrev p_law_spoilt : List Str := ["tray", "line", "odd"]
theorem sc_law_spoilt : FnScope n_law_spoilt p_law_spoilt (defScope s_law_spoilt) := ⟨rfl, rfl, rfl, by decide +kernel, rfl, by decide +kernel, by decide +kernel⟩
def c_spoilt : DSp := fun ds G P _ => ∃ (t g : Addr) (line : Str) (odd : List Str) (n : Nat), ds = [.ref t, .str line, .lst (strD odd)] ∧ odd ≠ [] ∧ odd.length ≤ 100 ∧ (∀ o ∈ odd, o.length ≤ 100 ∧ okS o) ∧ line.length ≤ 1000000 ∧ okS line ∧ Tray G t g (n + 12) ∧ ∀ (line' : Str) G', line'.length ≤ 6 * line.length + 200 → okS line' → Tray G' t g n → TExt t g G G' → P (.str line') G'
theorem ok_spoilt (T : Bt mg) (TF : TopFn K mg "_law_spoilt" s_law_spoilt p_law_spoilt) (D__law_draw : Dfn P w K mg base CX0 "_law_draw" p_law_draw c_draw 1) (D__law_sign : Dfn P w K mg base CX0 "_law_sign" p_law_sign c_sign 2) (D__law_parts_spoilt : Dfn P w K mg base CX0 "_law_parts_spoilt" p_law_parts_spoilt c_parts 2) : Dfn P w K mg base CX0 "_law_spoilt" p_law_spoilt c_spoilt 3 := by
  refine dfn_of TF sc_law_spoilt (fun ds G P R ⟨t, g, line, odd, n, e, _⟩ => by rw [e]; rfl) fun f cdv A outer s H E B hr => ?_
  refine ⟨_, (dss_cons (ds_set (i := 3) sc_law_spoilt.nd rfl (by first | exact Or.inl rfl | exact Or.inr rfl) (d_callD D__law_draw hr (by rfl) (da_cons (dv (pv 0)) (da_cons d_int da_nil))))
      (dss_cons (ds_set (i := 4) sc_law_spoilt.nd rfl (by first | exact Or.inl rfl | exact Or.inr rfl) (d_callD D__law_draw hr (by rfl) (da_cons (dv (pv 0)) (da_cons (d_op o_add (d_callB c_lenS (by rfl) T.len (by decide +kernel) (da_cons (dv (pv 1)) da_nil)) d_int) da_nil))))
      (dss_cons (ds_if (dt_cmp o_eqI (dv (pv 3)) d_int (nomark _)) (dss_one (ds_ret (d_op o_catS (d_op o_catS (d_sliceS (dv (pv 1)) do_none (do_some (dv (pv 4)))) (d_callD D__law_sign hr (by rfl) (da_cons (dv (pv 0)) da_nil))) (d_sliceS (dv (pv 1)) (do_some (dv (pv 4))) do_none)))) dss_nil)
      (dss_cons (ds_if (dt_cmp o_eqI (dv (pv 3)) d_int (nomark _)) (dss_one (ds_ret (d_op o_catS (d_sliceS (dv (pv 1)) do_none (do_some (dv (pv 4)))) (d_sliceS (dv (pv 1)) (do_some (d_op o_add (dv (pv 4)) d_int)) do_none)))) dss_nil)
      (dss_cons (ds_if (dt_cmp o_eqI (dv (pv 3)) d_int (nomark _)) (dss_one (ds_ret (d_op o_catS (d_op o_catS (d_sliceS (dv (pv 1)) do_none (do_some (dv (pv 4)))) (d_callD D__law_sign hr (by rfl) (da_cons (dv (pv 0)) da_nil))) (d_sliceS (dv (pv 1)) (do_some (d_op o_add (dv (pv 4)) d_int)) do_none)))) dss_nil)
      (dss_one (ds_ret (d_callD D__law_parts_spoilt hr (by rfl) (da_cons (dv (pv 0)) (da_cons (dv (pv 1)) (da_cons (dv (pv 2)) da_nil))))))))))), ?_⟩
  rintro ds G P R ⟨t, g, line, odd, n, rfl, ho1, ho2, ho3, hl, hok, hT, p⟩
  simp [and_assoc, dRet, dRetN, dRetC, dChain, r2I, dC, dVar, dEnds, dstart, dOp, dCB, DL.rLen, dCons, dNil, dFld, asL_lst, asQ_lst, asQ_tup, asQ_scr, ins_obj, dNever, dgN, dgNil, dgCons, dgTup, dIf, dNot, dAnd, dOr, dB, dCall, dMeth, dNext, dSeq, dSt, dLst, dTup, dIfE, rIxQ, dDrop, dYes, diL, diR1, diR2, dNeg, dAsg, dwipe, dBM, dBM0, rAppendD, rMin2, rMax2, atI_0, atI_1, atI_2, atI_3, ix4_0, ix4_1, ix4_3, asL_g, asQ_g, now_g, gupd_same, gupd_gupd, Int.ofNat_inj, now_lst, now_int, now_tup, asL_lst, natsD_length, rdD_length, vilD_inj, vil_ins, natsD_inj, rdD_inj, nnD_inj, n_law_spoilt, dCutS, doSome, doNone]
  have sz : 10000000 ≤ sizeLine := by rw [sizeLine_eq]; decide
  refine ⟨t, g, 6, n + 11, rfl, by decide, by decide, hT, fun r1 G1 hr1 hT1 hx1 => ⟨line, rfl, by omega, _, rfl, t, g, line.length + 1, n + 10, by simp, by omega, by omega, hT1, fun r2 G2 hr2 hT2 hx2 => ⟨_, rfl, ?_⟩⟩⟩
  have hx12 := hx1.trans hx2
  have c1 := cutS_len line
  by_cases h0 : (r1 : Int) = 0
  · rw [if_pos h0]
    refine ⟨_, rfl, by omega, t, g, n, rfl, hT2.mono (by omega), fun c G3 hc hT3 hx3 => ⟨_, _, rfl, rfl, ?_, _, rfl, by omega, _, _, rfl, rfl, ?_, p _ G3 ?_ (okS_app (okS_app (okS_cut _ _ hok) (okS_one hc)) (okS_cut _ _ hok)) hT3 (hx12.trans hx3)⟩⟩
    · have := c1 none (some (r2 : Int)); show _ + 1 ≤ _; omega
    · have h1 := c1 none (some (r2 : Int)); have h2 := c1 (some (r2 : Int)) none; rw [DL.app_len]; show _ + 1 + _ ≤ _; omega
    · have h1 := c1 none (some (r2 : Int)); have h2 := c1 (some (r2 : Int)) none; rw [DL.app_len, DL.app_len]; show _ + 1 + _ ≤ _; omega
  · rw [if_neg h0]
    refine ⟨_, rfl, ?_⟩
    by_cases h1 : (r1 : Int) = 1
    · rw [if_pos h1]
      refine ⟨_, rfl, by omega, _, rfl, by omega, _, _, rfl, rfl, ?_, p _ G2 ?_ (okS_app (okS_cut _ _ hok) (okS_cut _ _ hok)) (hT2.mono (by omega)) hx12⟩
      · have h1 := c1 none (some (r2 : Int)); have h2 := c1 (some ((r2 : Int) + 1)) none; omega
      · have h1 := c1 none (some (r2 : Int)); have h2 := c1 (some ((r2 : Int) + 1)) none; rw [DL.app_len]; omega
    · rw [if_neg h1]
      refine ⟨_, rfl, ?_⟩
      by_cases h2 : (r1 : Int) = 2
      · rw [if_pos h2]
        refine ⟨_, rfl, by omega, t, g, n, rfl, hT2.mono (by omega), fun c G3 hc hT3 hx3 => ⟨_, _, rfl, rfl, ?_, _, rfl, by omega, _, _, rfl, rfl, ?_, p _ G3 ?_ (okS_app (okS_app (okS_cut _ _ hok) (okS_one hc)) (okS_cut _ _ hok)) hT3 (hx12.trans hx3)⟩⟩
        · have := c1 none (some (r2 : Int)); show _ + 1 ≤ _; omega
        · have h1 := c1 none (some (r2 : Int)); have h2 := c1 (some ((r2 : Int) + 1)) none; rw [DL.app_len]; show _ + 1 + _ ≤ _; omega
        · have h1 := c1 none (some (r2 : Int)); have h2 := c1 (some ((r2 : Int) + 1)) none; rw [DL.app_len, DL.app_len]; show _ + 1 + _ ≤ _; omega
      · rw [if_neg h2]
        exact ⟨t, g, line, odd, n, rfl, ho1, ho2, ho3, hl, hok, hT2, fun line' G' h hk hT' hx' => p line' G' h hk hT' (hx12.trans hx')⟩
end
end V

set_option Elab.async false
set_option linter.all false
set_option maxRecDepth 100000
set_option maxHeartbeats 4000000
/-! The law's own reader of tales' texts. -/
namespace V
open PySem PySem.Spec L2 L2H DL
theorem asL_asQ {G : Gp} {x : Dt} {xs : List Dt} (h : asL G x = some xs) : asQ G x = some xs := by
  cases x with
  | lst ys => exact h
  | ref a => exact h
  | _ => first | exact h | cases h
theorem dLc_split {wi : DTI} {g : DTG} {tt : DTT} {te : DTE} {vs : List Nat} {δ : DSt} {G : Gp} {P : DK} : dFrz (dLc wi g tt te vs) δ G P = wi δ G fun ds G1 => dFrz (dLc (fun _ G' k => k ds G') g tt te vs) δ G1 P := rfl
abbrev Own (t g : Addr) : Addr → Prop := fun a => a = t ∨ a = g
def signD (c : Nat) : Dt := .str ⟨#[c]⟩
def ninD : Dt → Bool
  | .str w => !decide ((w.cps.toList.head?.getD 0) ∈ (Str.ofString "0123456789").cps.toList)
  | _ => false
theorem tens : (Str.ofString "0123456789").cps.toList = [48, 49, 50, 51, 52, 53, 54, 55, 56, 57] := by decide +kernel
theorem tens_iff {c : Nat} : c ∈ (Str.ofString "0123456789").cps.toList ↔ digB c = true := by
  rw [tens, digB_iff]
  simp
  omega
theorem ninD_sign {c : Nat} : ninD (signD c) = !digB c := by
  unfold ninD signD
  have e : decide (c ∈ (Str.ofString "0123456789").cps.toList) = digB c := by
    rw [Bool.eq_iff_iff, decide_eq_true_eq]
    exact tens_iff
  simpa using e
theorem signs_left (l : List Nat) : ((l.map signD).filter ninD).map id = (l.filter fun c => !digB c).map signD := by
  rw [List.map_id, List.filter_map]
  congr 1
  refine List.filter_congr fun c _ => ?_
  exact ninD_sign
theorem strOk_one {c : Nat} (h : c < 1114112) : PyData.strOk ⟨#[c]⟩ = true := by
  unfold PyData.strOk
  simpa using h
theorem signs_nil {l : List Nat} {G : Gp} {P : DK} (hk : ∀ c ∈ l, c < 1114112) (p : P (.bl (!decide (l = []))) G) : rEqT true (.lst (l.map signD)) (.lst []) G P := by
  have h1 : plT 9 (.lst (l.map signD)) = true := by
    show (l.map signD).all (plT 8) = true
    rw [List.all_map, List.all_eq_true]
    exact fun c hc => strOk_one (hk c hc)
  refine ⟨by rw [now_lst]; exact h1, by rw [now_lst]; rfl, ?_⟩
  rw [now_lst, now_lst]
  cases l with
  | nil => simpa [toPyT, PyData.eqv, PyData.eqvAll] using p
  | cons c r => simpa [toPyT, PyData.eqv, PyData.eqvAll] using p
theorem same_flat {n : Nat} {G : Gp} {d : Dt} (h : flatB d = true) : Same (n + 1) G d d := .inl ⟨h, rfl⟩
theorem asL_tag {G : Gp} {x : Dt} {xs : List Dt} (h : asL G x = some xs) : tagD G x = some (.type "list") := by
  cases x with
  | lst ys => rfl
  | ref a =>
    unfold asL at h
    unfold tagD
    cases e : G a with
    | none => simp [e] at h
    | some m => cases m <;> simp [e] at h ⊢
  | _ => cases h
theorem same_lsts {n : Nat} {G : Gp} {x y : Dt} {xs ys : List Dt} (h1 : asL G x = some xs) (h2 : asL G y = some ys) (hl : xs.length = ys.length) (hz : xs.length ≤ 100000) (h : ∀ (i : Nat) u v, xs[i]? = some u → ys[i]? = some v → Same n G u v) : Same (n + 1) G x y :=
  .inr ⟨true, xs, ys, asL_tag h1, asL_tag h2, asL_asQ h1, asL_asQ h2, hl, hz, h⟩
theorem same_lst {n : Nat} {G : Gp} {x y : Dt} {xs : List Dt} (h1 : asL G x = some xs) (h2 : asL G y = some xs) (hz : xs.length ≤ 100000) (h : ∀ d ∈ xs, Same n G d d) : Same (n + 1) G x y :=
  same_lsts h1 h2 rfl hz fun i u v hu hv => by
    rw [hu] at hv
    cases hv
    exact h u (List.mem_of_getElem? hu)
theorem same_tup {n : Nat} {G : Gp} {xs : List Dt} (hz : xs.length ≤ 100000) (h : ∀ d ∈ xs, Same n G d d) : Same (n + 1) G (.tup xs) (.tup xs) :=
  .inr ⟨false, xs, xs, rfl, rfl, rfl, rfl, rfl, hz, fun i u v hu hv => by
    rw [hu] at hv
    cases hv
    exact h u (List.mem_of_getElem? hu)⟩
theorem same_nats {n : Nat} {G : Gp} {l : List Nat} : ∀ d ∈ natsD l, Same (n + 1) G d d := fun d hd => by
  obtain ⟨x, _, rfl⟩ := natsD_mem hd
  exact same_flat rfl

theorem Tray.ge {G G' : Gp} {t g : Addr} {n : Nat} (h : Tray G t g n) (l : GLe G G') : Tray G' t g n := by
  obtain ⟨gs, cur, fold, cnt, e1, e2, r⟩ := h.ex
  exact ⟨h.ne, gs, cur, fold, cnt, l _ _ e1, l _ _ e2, r⟩

section
variable {P : Program} {w : World} {K : PySem.W.Frag} {mg : Str → Option Value} {base : Heap} {CE cRoad cHouse cClash cReport cTale cDays cText : Addr}
abbrev s_law_numbers : Stmt := top 22
abbrev n_law_numbers : List Str := ["tray", "most", "k"]
abbrev p_law_numbers : List Str := ["tray"]
theorem sc_law_numbers : FnScope n_law_numbers p_law_numbers (defScope s_law_numbers) := ⟨rfl, rfl, rfl, by decide +kernel, rfl, by decide +kernel, by decide +kernel⟩
def c_lnum : DSp := fun ds G P _ => ∃ (t g : Addr) (n : Nat), ds = [.ref t] ∧ Tray G t g (n + 400) ∧ ∀ (ns : List Nat) G', ns ≠ [] → ns.length ≤ 390 → (∀ n ∈ ns, n < 10 ^ 9) → Tray G' t g n → OExt (Own t g) G G' → P (.lst (natsD ns)) G'
theorem ok_lnum (T : Bt mg) (TF : TopFn K mg "_law_numbers" s_law_numbers p_law_numbers) (D__law_draw : Dfn P w K mg base CX0 "_law_draw" p_law_draw c_draw 1) : Dfn P w K mg base CX0 "_law_numbers" p_law_numbers c_lnum 2 := by
  refine dfn_of TF sc_law_numbers (fun ds G P R ⟨t, g, n, e, _⟩ => by rw [e]; rfl) fun f cdv A outer s H E B hr => ?_
  refine ⟨_, (dss_cons (ds_set (i := 1) sc_law_numbers.nd rfl (by first | exact Or.inl rfl | exact Or.inr rfl) (d_ix (d_lst (da_cons d_int (da_cons d_int (da_cons (d_op o_pow d_int d_int) da_nil)))) (d_callD D__law_draw hr (by rfl) (da_cons (dv (pv 0)) (da_cons d_int da_nil))) (fun _ _ => rfl)))
      (dss_one (ds_ret (d_frz (d_lc (own := [("k", 2)]) rfl sc_law_numbers.nd (di_range1 (by rfl) T.range (da_cons (d_op o_add d_int (d_callD D__law_draw hr (by rfl) (da_cons (dv (pv 0)) (da_cons (d_ix (d_lst (da_cons d_int (da_cons d_int (da_cons d_int da_nil)))) (d_op o_fdivN (d_callD D__law_draw hr (by rfl) (da_cons (dv (pv 0)) (da_cons d_int da_nil))) d_int) (fun _ _ => rfl)) da_nil)))) da_nil)) (blkOk_by (N := n_law_numbers) (sc := defScope s_law_numbers) (by decide +kernel)) (fun _ _ _ _ _ => (dgw_name (pg_name (i := 2) sc_law_numbers.nd rfl (by first | exact Or.inl rfl | exact Or.inr rfl)))) (fun _ _ _ _ _ => dts_nil) (fun _ _ _ _ _ => (d_callD D__law_draw hr (by rfl) (da_cons (dv (pv 0)) (da_cons (dv (pv 1)) da_nil))))))))), ?_⟩
  rintro ds G P R ⟨t, g, n, rfl, hT, p⟩
  have s3 : 3 ≤ sizeLine := by rw [sizeLine_eq]; decide
  simp [and_assoc, dRet, dRetN, dRetC, dChain, r2I, dC, dVar, dEnds, dstart, dOp, dCB, DL.rLen, dCons, dNil, dFld, asL_lst, asQ_lst, asQ_tup, asQ_scr, ins_obj, dNever, dgN, dgNil, dgCons, dgTup, dIf, dNot, dAnd, dOr, dB, dCall, dMeth, dNext, dSeq, dSt, dLst, dTup, dIfE, rIxQ, dDrop, dYes, diL, diR1, diR2, dNeg, dAsg, dwipe, dBM, dBM0, rAppendD, rMin2, rMax2, atI_0, atI_1, atI_2, atI_3, ix4_0, ix4_1, ix4_3, asL_g, asQ_g, now_g, gupd_same, gupd_gupd, Int.ofNat_inj, now_lst, now_int, now_tup, asL_lst, natsD_length, rdD_length, vilD_inj, vil_ins, natsD_inj, rdD_inj, nnD_inj, n_law_numbers, s3]
  refine ⟨⟨by decide, by decide, by decide⟩, t, g, 3, n + 399, rfl, by decide, by decide, hT, fun k G1 hk hT1 hx1 => ⟨_, _, rfl, rfl, ?_⟩⟩
  obtain ⟨most, hat, hm0, hm1⟩ : ∃ most : Nat, atI [Dt.int 3, Dt.int 40, Dt.int 1000000000] (k : Int) = some (.int (most : Int)) ∧ 0 < most ∧ most ≤ 10 ^ 9 := by
    match k, hk with
    | 0, _ => exact ⟨3, rfl, by decide, by decide⟩
    | 1, _ => exact ⟨40, rfl, by decide, by decide⟩
    | 2, _ => exact ⟨1000000000, rfl, by decide, by decide⟩
  refine ⟨_, hat, ?_⟩
  rw [dLc_split]
  simp [and_assoc, dRet, dRetN, dRetC, dChain, r2I, dC, dVar, dEnds, dstart, dOp, dCB, DL.rLen, dCons, dNil, dFld, asL_lst, asQ_lst, asQ_tup, asQ_scr, ins_obj, dNever, dgN, dgNil, dgCons, dgTup, dIf, dNot, dAnd, dOr, dB, dCall, dMeth, dNext, dSeq, dSt, dLst, dTup, dIfE, rIxQ, dDrop, dYes, diL, diR1, diR2, dNeg, dAsg, dwipe, dBM, dBM0, rAppendD, rMin2, rMax2, atI_0, atI_1, atI_2, atI_3, ix4_0, ix4_1, ix4_3, asL_g, asQ_g, now_g, gupd_same, gupd_gupd, Int.ofNat_inj, now_lst, now_int, now_tup, asL_lst, natsD_length, rdD_length, vilD_inj, vil_ins, natsD_inj, rdD_inj, nnD_inj, s3]
  refine ⟨t, g, 5, n + 398, rfl, by decide, by decide, hT1, fun k2 G2 hk2 hT2 hx2 => ⟨_, rfl, ⟨by decide, by decide⟩, ?_⟩⟩
  obtain ⟨many, hat2, hn0, hn1⟩ : ∃ many : Nat, atI [Dt.int 3, Dt.int 40, Dt.int 390] (Int.fdiv (k2 : Int) 2) = some (.int (many : Int)) ∧ 0 < many ∧ many ≤ 390 := by
    match k2, hk2 with
    | 0, _ => exact ⟨3, rfl, by decide, by decide⟩
    | 1, _ => exact ⟨3, rfl, by decide, by decide⟩
    | 2, _ => exact ⟨40, rfl, by decide, by decide⟩
    | 3, _ => exact ⟨40, rfl, by decide, by decide⟩
    | 4, _ => exact ⟨390, rfl, by decide, by decide⟩
  refine ⟨_, hat2, t, g, many, n + 397, rfl, hn0, by omega, hT2, fun r G3 hr hT3 hx3 => ⟨_, rfl, by omega, by omega, ?_⟩⟩
  have er : (1 + (r : Int)).toNat = 1 + r := by omega
  rw [er]
  refine draws (own := Own t g) (R := fun G n => Tray G t g n) traySrc n 1 (upto 0 (1 + r)) (fun _ y => ∃ z : Nat, z < most ∧ y = .int (z : Int)) (hT3.mono (by rw [upto_length]; omega)) (by rw [upto_length]; omega) (fun P p => p) (fun i dd G' m P' hd hR hx h => ?_) (fun ys G4 hyl hyq hT4 hx4 => ?_)
  · simp [and_assoc, dRet, dRetN, dRetC, dChain, r2I, dC, dVar, dEnds, dstart, dOp, dCB, DL.rLen, dCons, dNil, dFld, asL_lst, asQ_lst, asQ_tup, asQ_scr, ins_obj, dNever, dgN, dgNil, dgCons, dgTup, dIf, dNot, dAnd, dOr, dB, dCall, dMeth, dNext, dSeq, dSt, dLst, dTup, dIfE, rIxQ, dDrop, dYes, diL, diR1, diR2, dNeg, dAsg, dwipe, dBM, dBM0, rAppendD, rMin2, rMax2, atI_0, atI_1, atI_2, atI_3, ix4_0, ix4_1, ix4_3, asL_g, asQ_g, now_g, gupd_same, gupd_gupd, Int.ofNat_inj, now_lst, now_int, now_tup, asL_lst, natsD_length, rdD_length, vilD_inj, vil_ins, natsD_inj, rdD_inj, nnD_inj]
    exact ⟨t, g, most, m, rfl, hm0, by omega, hR, fun z G5 hz hT5 hx5 => h _ _ ⟨z, hz, rfl⟩ hT5 hx5.o⟩
  · obtain ⟨l, rfl, hl, hlt⟩ := nats_of hyq
    rw [natsD_length, upto_length] at hyl
    refine p l G4 (fun e => by rw [e] at hyl; simp at hyl; omega) (by omega) (fun z hz => Nat.lt_of_lt_of_le (hlt z hz) hm1) hT4 (((hx1.o.trans hx2.o).trans hx3.o).trans hx4)

abbrev s_law_odd : Stmt := top 21
abbrev n_law_odd : List Str := ["some"]
abbrev p_law_odd : List Str := []
theorem sc_law_odd : FnScope n_law_odd p_law_odd (defScope s_law_odd) := ⟨rfl, rfl, rfl, by decide +kernel, rfl, by decide +kernel, by decide +kernel⟩
def c_odd : DSp := fun ds G P _ => ds = [] ∧ ∀ odd : List Str, odd ≠ [] → odd.length ≤ 100 → (∀ o ∈ odd, o.length ≤ 100 ∧ okS o) → P (.lst (strD odd)) G
theorem ok_odd (T : Bt mg) (TF : TopFn K mg "_law_odd" s_law_odd p_law_odd) : Dfn P w K mg base CX0 "_law_odd" p_law_odd c_odd 1 := by
  refine dfn_of TF sc_law_odd (fun ds G P R ⟨e, _⟩ => by rw [e]; rfl) fun f cdv A outer s H E B hr => ?_
  refine ⟨_, (dss_cons (ds_set (i := 0) sc_law_odd.nd rfl (by first | exact Or.inl rfl | exact Or.inr rfl) (d_lst (da_cons d_str (da_cons d_str (da_cons d_str (da_cons d_str (da_cons d_str (da_cons d_str (da_cons d_str (da_cons d_str (da_cons d_str (da_cons d_str (da_cons d_str (da_cons d_str (da_cons d_str (da_cons d_str (da_cons d_str (da_cons d_str (da_cons d_str da_nil)))))))))))))))))))
      (dss_cons (ds_set (i := 0) sc_law_odd.nd rfl (by first | exact Or.inl rfl | exact Or.inr rfl) (d_op o_cat (dv (pv 0)) (d_lst (da_cons (d_op o_mulS d_str d_int) (da_cons (d_op o_mulS d_str d_int) (da_cons d_str (da_cons d_str (da_cons d_str (da_cons d_str (da_cons d_str (da_cons d_str (da_cons d_str da_nil))))))))))))
      (dss_one (ds_ret (d_op o_cat (dv (pv 0)) (d_lst (da_cons d_str (da_cons d_str (da_cons d_str (da_cons d_str (da_cons d_str (da_cons d_str da_nil)))))))))))), ?_⟩
  rintro ds G P R ⟨rfl, p⟩
  simp [and_assoc, dRet, dRetN, dRetC, dChain, r2I, dC, dVar, dEnds, dstart, dOp, dCB, DL.rLen, dCons, dNil, dFld, asL_lst, asQ_lst, asQ_tup, asQ_scr, ins_obj, dNever, dgN, dgNil, dgCons, dgTup, dIf, dNot, dAnd, dOr, dB, dCall, dMeth, dNext, dSeq, dSt, dLst, dTup, dIfE, rIxQ, dDrop, dYes, diL, diR1, diR2, dNeg, dAsg, dwipe, dBM, dBM0, rAppendD, rMin2, rMax2, atI_0, atI_1, atI_2, atI_3, ix4_0, ix4_1, ix4_3, asL_g, asQ_g, now_g, gupd_same, gupd_gupd, Int.ofNat_inj, now_lst, now_int, now_tup, asL_lst, natsD_length, rdD_length, vilD_inj, vil_ins, natsD_inj, rdD_inj, nnD_inj, n_law_odd]
  have sz : 100 ≤ sizeLine := by rw [sizeLine_eq]; decide
  refine ⟨by omega, _, 9, rfl, rfl, by decide, by decide +kernel, by decide +kernel, _, 10, rfl, rfl, by decide, by decide +kernel, by decide +kernel, by omega, _, _, rfl, rfl, by show 17 + 9 ≤ sizeLine; omega, by omega, _, _, rfl, rfl, by show 26 + 6 ≤ sizeLine; omega, ?_⟩
  have key : ([Str.ofString "", Str.ofString "-", Str.ofString ">", Str.ofString "one", Str.ofString "none", Str.ofString "0", Str.ofString "1", Str.ofString "01", Str.ofString "-1", Str.ofString "00", Str.ofString "+1", Str.ofString "0-1", Str.ofString "1-0", Str.ofString "0-0", Str.ofString "0>0", Str.ofString "0>1", Str.ofString "1>0", timesS (Str.ofString "9") 9, timesS (Str.ofString "9") 10, Str.ofString "1_0", Str.ofString "One", Str.ofString "one:", Str.ofString "one: none", Str.ofString "0-1: none", Str.ofString "one: 0>0", Str.ofString "0-1: 0>1, 1>0", Str.ofString " ", Str.ofString "0-1:", Str.ofString "0-1 0-2", Str.ofString "0-1 1-2", Str.ofString "0-2", Str.ofString "x"]).all (fun o => decide (o.length ≤ 100) && o.cps.toList.all (fun c => decide (c < 1114112))) = true := by decide +kernel
  refine p [Str.ofString "", Str.ofString "-", Str.ofString ">", Str.ofString "one", Str.ofString "none", Str.ofString "0", Str.ofString "1", Str.ofString "01", Str.ofString "-1", Str.ofString "00", Str.ofString "+1", Str.ofString "0-1", Str.ofString "1-0", Str.ofString "0-0", Str.ofString "0>0", Str.ofString "0>1", Str.ofString "1>0", timesS (Str.ofString "9") 9, timesS (Str.ofString "9") 10, Str.ofString "1_0", Str.ofString "One", Str.ofString "one:", Str.ofString "one: none", Str.ofString "0-1: none", Str.ofString "one: 0>0", Str.ofString "0-1: 0>1, 1>0", Str.ofString " ", Str.ofString "0-1:", Str.ofString "0-1 0-2", Str.ofString "0-1 1-2", Str.ofString "0-2", Str.ofString "x"] (by simp) (by decide) fun o ho => ?_
  have h := List.all_eq_true.mp key o ho
  rw [Bool.and_eq_true, decide_eq_true_eq] at h
  exact ⟨h.1, okS_of h.2⟩
abbrev s_law_number_of : Stmt := top 23
abbrev n_law_number_of : List Str := ["word", "sign"]
abbrev p_law_number_of : List Str := ["word"]
theorem sc_law_number_of : FnScope n_law_number_of p_law_number_of (defScope s_law_number_of) := ⟨rfl, rfl, rfl, by decide +kernel, rfl, by decide +kernel, by decide +kernel⟩
def optI : Option Nat → Dt
  | some n => .int (n : Int)
  | none => .non
def numD : Dt → Dt
  | .str w => optI (numO w)
  | d => d
theorem opts_ok : ∀ l : List (Option Nat), (l.map optI).all (plT 8) = true
  | [] => rfl
  | some n :: l => by
    rw [List.map_cons, List.all_cons, opts_ok l]
    rfl
  | none :: l => by
    rw [List.map_cons, List.all_cons, opts_ok l]
    rfl
theorem opts_any {G : Gp} : ∀ l : List (Option Nat), (((l.map optI).map (toPyT 8)).any fun z => PyData.eqv z (toPyT 8 (now G .non))) = decide (none ∈ l)
  | [] => by simp
  | some n :: l => by
    rw [List.map_cons, List.map_cons, List.any_cons, opts_any l]
    simp [optI, toPyT, now, asL, PyData.eqv]
  | none :: l => by
    rw [List.map_cons, List.map_cons, List.any_cons, opts_any l]
    simp [optI, toPyT, now, asL, PyData.eqv]
def c_lno : DSp := fun ds G P _ => ∃ wd : Str, ds = [.str wd] ∧ wd.length ≤ 10000 ∧ okS wd ∧ P (optI (numO wd)) G
theorem ok_lno (T : Bt mg) (TF : TopFn K mg "_law_number_of" s_law_number_of p_law_number_of) : Dfn P w K mg base CX0 "_law_number_of" p_law_number_of c_lno 1 := by
  refine dfn_of TF sc_law_number_of (fun ds G P R ⟨wd, e, _⟩ => by rw [e]; rfl) fun f cdv A outer s H E B hr => ?_
  refine ⟨_, (dss_cons (ds_if (DW.dt (dw_or (dt_cmp o_eqS (dv (pv 0)) d_str (nomark _)) (dw_or (dt_cmp o_gt (d_callB c_lenS (by rfl) T.len (by decide +kernel) (da_cons (dv (pv 0)) da_nil)) d_int (nomark _)) (dw_or1 (dt_cmp (o_neT hr) (d_lcP (own := [("sign", 1)]) rfl sc_law_number_of.nd (di_str (dv (pv 0))) (blkOk_by (N := n_law_number_of) (sc := defScope s_law_number_of) (by decide +kernel)) (fun _ _ _ _ _ => (dgw_name (pg_name (i := 1) sc_law_number_of.nd rfl (by first | exact Or.inl rfl | exact Or.inr rfl)))) (fun _ _ _ _ _ => (dts_one (dt_cmp o_ninS (dv (pv 1)) d_str rfl))) (fun _ _ _ _ _ => (dv (pv 1)))) (d_lst da_nil) (nomark _)))))) (dss_one (ds_ret d_non)) dss_nil)
      (dss_one (ds_ret (d_ifExp (DW.dt (dw_or (dt_cmp o_neS (d_ixS (dv (pv 0)) d_int (fun _ _ => rfl)) d_str (nomark _)) (dw_or1 (dt_cmp o_eqS (dv (pv 0)) d_str (nomark _))))) (d_callTy c_intS (by rfl) T.int (by decide +kernel) (da_cons (dv (pv 0)) da_nil)) d_non)))), ?_⟩
  rintro ds G P R ⟨wd, rfl, hl, hk, p⟩
  simp [and_assoc, dRet, dRetN, dRetC, dChain, r2I, dC, dVar, dEnds, dstart, dOp, dCB, DL.rLen, dCons, dNil, dFld, asL_lst, asQ_lst, asQ_tup, asQ_scr, ins_obj, dNever, dgN, dgNil, dgCons, dgTup, dIf, dNot, dAnd, dOr, dB, dCall, dMeth, dNext, dSeq, dSt, dLst, dTup, dIfE, rIxQ, dDrop, dYes, diL, diR1, diR2, dNeg, dAsg, dwipe, dBM, dBM0, rAppendD, rMin2, rMax2, atI_0, atI_1, atI_2, atI_3, ix4_0, ix4_1, ix4_3, asL_g, asQ_g, now_g, gupd_same, gupd_gupd, Int.ofNat_inj, now_lst, now_int, now_tup, asL_lst, natsD_length, rdD_length, vilD_inj, vil_ins, natsD_inj, rdD_inj, nnD_inj, n_law_number_of]
  have sz : 100000 ≤ sizeLine := by rw [sizeLine_eq]; decide
  have hlen : wd.length = wd.cps.toList.length := by simp [Str.length]
  have none_ : canonB wd.cps.toList = false → P .non G := fun h => by
    have e : numO wd = none := by unfold numO; rw [h]; rfl
    rw [e] at p
    exact p
  have some_ : canonB wd.cps.toList = true → rIntS [Dt.str wd] G P := fun h => by
    obtain ⟨n, h9, rfl⟩ := canon_num h
    rw [numO_num h9] at p
    have := num_len9 h9
    exact ⟨numS n, (n : Int), rfl, num_int h9, by omega, p⟩
  refine .inr (.inr ⟨wd, _, rfl, rfl, ?_⟩)
  by_cases h0 : wd = Str.ofString ""
  · refine .inr ⟨by simp [h0], none_ ?_⟩
    rw [h0]
    decide +kernel
  refine .inl ⟨by simp [h0], wd, rfl, by omega, _, rfl, ?_⟩
  by_cases h9 : (9 : Int) < (wd.length : Nat)
  · rw [if_pos h9]
    refine none_ ?_
    unfold canonB
    rw [decide_eq_false (by omega : ¬ wd.cps.toList.length ≤ 9)]
    simp
  rw [if_neg h9]
  refine dLcP_intro (wd.cps.toList.map signD) ninD id (fun P p => ?_) (by rw [List.length_map]; omega) (fun z G' hz hG => ?_) ?_
  · simp [and_assoc, dRet, dRetN, dRetC, dChain, r2I, dC, dVar, dEnds, dstart, dOp, dCB, DL.rLen, dCons, dNil, dFld, asL_lst, asQ_lst, asQ_tup, asQ_scr, ins_obj, dNever, dgN, dgNil, dgCons, dgTup, dIf, dNot, dAnd, dOr, dB, dCall, dMeth, dNext, dSeq, dSt, dLst, dTup, dIfE, rIxQ, dDrop, dYes, diL, diR1, diR2, dNeg, dAsg, dwipe, dBM, dBM0, rAppendD, rMin2, rMax2, atI_0, atI_1, atI_2, atI_3, ix4_0, ix4_1, ix4_3, asL_g, asQ_g, now_g, gupd_same, gupd_gupd, Int.ofNat_inj, now_lst, now_int, now_tup, asL_lst, natsD_length, rdD_length, vilD_inj, vil_ins, natsD_inj, rdD_inj, nnD_inj, diStr]
    exact p
  · obtain ⟨c, hc, rfl⟩ := List.mem_map.mp hz
    simp [and_assoc, dRet, dRetN, dRetC, dChain, r2I, dC, dVar, dEnds, dstart, dOp, dCB, DL.rLen, dCons, dNil, dFld, asL_lst, asQ_lst, asQ_tup, asQ_scr, ins_obj, dNever, dgN, dgNil, dgCons, dgTup, dIf, dNot, dAnd, dOr, dB, dCall, dMeth, dNext, dSeq, dSt, dLst, dTup, dIfE, rIxQ, dDrop, dYes, diL, diR1, diR2, dNeg, dAsg, dwipe, dBM, dBM0, rAppendD, rMin2, rMax2, atI_0, atI_1, atI_2, atI_3, ix4_0, ix4_1, ix4_3, asL_g, asQ_g, now_g, gupd_same, gupd_gupd, Int.ofNat_inj, now_lst, now_int, now_tup, asL_lst, natsD_length, rdD_length, vilD_inj, vil_ins, natsD_inj, rdD_inj, nnD_inj]
    refine ⟨c, _, rfl, rfl, ?_⟩
    have e : (!decide (c ∈ (Str.ofString "0123456789").cps.toList)) = ninD (signD c) := by
      rw [ninD_sign]
      have e2 : decide (c ∈ (Str.ofString "0123456789").cps.toList) = digB c := by
        rw [Bool.eq_iff_iff, decide_eq_true_eq]
        exact tens_iff
      rw [e2]
    rw [e]
    cases h : ninD (signD c) with
    | false => exact .inl ⟨rfl, rfl, rfl⟩
    | true => exact .inr ⟨rfl, rfl, rfl, rfl⟩
  rw [signs_left]
  refine signs_nil (fun c hc => hk c (List.mem_filter.mp hc).1) ?_
  by_cases hd : wd.cps.toList.filter (fun c => !digB c) = []
  · refine .inl ⟨by simp [hd], ?_⟩
    have dig : wd.cps.toList.all digB = true := by
      rw [List.all_eq_true]
      intro c hc
      have := List.filter_eq_nil_iff.mp hd c hc
      simpa using this
    obtain ⟨c0, r0, hcr⟩ : ∃ c0 r0, wd.cps.toList = c0 :: r0 := by
      cases h : wd.cps.toList with
      | nil => exact absurd (TL.ext_tl (h.trans (by decide +kernel : ([] : List Nat) = (Str.ofString "").cps.toList))) h0
      | cons c r => exact ⟨c, r, rfl⟩
    have at0 : atI wd.cps.toList 0 = some c0 := atI_nat' (i := 0) (by rw [hcr]; rfl)
    refine ⟨wd, 0, c0, rfl, rfl, by omega, at0, .inr (.inr ⟨_, _, rfl, rfl, ?_⟩)⟩
    have canon : canonB wd.cps.toList = (decide (c0 ≠ 48) || decide (wd = Str.ofString "0")) := by
      have e1 : decide (wd = Str.ofString "0") = decide (wd.cps.toList = [48]) := decide_eq_decide.mpr eq_zero
      unfold canonB
      rw [dig, e1, decide_eq_true (by omega : wd.cps.toList.length ≤ 9), hcr]
      simp
    have c48 : (⟨#[c0]⟩ : Str) = Str.ofString "0" ↔ c0 = 48 := by
      rw [eq_zero]
      simp
    by_cases h48 : c0 = 48
    · refine .inl ⟨by simp [c48.mpr h48], .inr (.inr ⟨wd, _, rfl, rfl, ?_⟩)⟩
      by_cases hz : wd = Str.ofString "0"
      · exact .inr ⟨by simp [hz], some_ (by rw [canon]; simp [hz])⟩
      · exact .inl ⟨by simp [hz], none_ (by rw [canon]; simp [hz, h48])⟩
    · refine .inr ⟨?_, some_ (by rw [canon]; simp [h48])⟩
      have : ¬ ((⟨#[c0]⟩ : Str) = Str.ofString "0") := fun e => h48 (c48.mp e)
      simp [this]
  · refine .inr ⟨by simp [hd], none_ ?_⟩
    have : wd.cps.toList.all digB = false := by
      rw [Bool.eq_false_iff]
      intro h
      exact hd (List.filter_eq_nil_iff.mpr fun c hc => by simp [List.all_eq_true.mp h c hc])
    unfold canonB
    rw [this]
    simp
abbrev s_law_tale_of : Stmt := top 24
abbrev n_law_tale_of : List Str := ["line", "numbers", "word"]
abbrev p_law_tale_of : List Str := ["line"]
theorem sc_law_tale_of : FnScope n_law_tale_of p_law_tale_of (defScope s_law_tale_of) := ⟨rfl, rfl, rfl, by decide +kernel, rfl, by decide +kernel, by decide +kernel⟩
theorem all_some : ∀ {l : List (Option Nat)}, none ∉ l → ∃ ns : List Nat, l = ns.map some
  | [], _ => ⟨[], rfl⟩
  | none :: l, h => absurd (by simp) h
  | some n :: l, h => by
    obtain ⟨ns, rfl⟩ := all_some (l := l) fun z => h (by simp [z])
    exact ⟨n :: ns, rfl⟩
def c_ltale : DSp := fun ds G P _ => ∃ t : Str, ds = [.str t] ∧ t.length ≤ 9000 ∧ okS t ∧ ((∃ ns : List Nat, (Txt.split t " ").map numO = ns.map some ∧ P (.lst (natsD ns)) G) ∨ (none ∈ (Txt.split t " ").map numO ∧ P .non G))
theorem ok_ltale (T : Bt mg) (TF : TopFn K mg "_law_tale_of" s_law_tale_of p_law_tale_of) (D__law_number_of : Dfn P w K mg base CX0 "_law_number_of" p_law_number_of c_lno 1) : Dfn P w K mg base CX0 "_law_tale_of" p_law_tale_of c_ltale 2 := by
  refine dfn_of TF sc_law_tale_of (fun ds G P R ⟨t, e, _⟩ => by rw [e]; rfl) fun f cdv A outer s H E B hr => ?_
  refine ⟨_, (dss_cons (ds_setLcP (i := 1) (own := [("word", 2)]) rfl sc_law_tale_of.nd rfl rfl (sw_true rfl rfl rfl (by decide +kernel)) (di_list (d_split (dv (pv 0)) d_str)) (blkOk_by (N := n_law_tale_of) (sc := defScope s_law_tale_of) (by decide +kernel)) (fun _ _ _ _ _ => (dgw_name (pg_name (i := 2) sc_law_tale_of.nd rfl (by first | exact Or.inl rfl | exact Or.inr rfl)))) (fun _ _ _ _ _ => dts_nil) (fun _ _ _ _ _ => (d_callD D__law_number_of hr (by rfl) (da_cons (dv (pv 2)) da_nil))))
      (dss_one (ds_ret (d_ifExp (dt_cmp (o_inT hr) d_non (dv (pv 1)) rfl) d_non (dv (pv 1)))))), ?_⟩
  rintro ds G P R ⟨t, rfl, hl, hk, h⟩
  simp [and_assoc, dRet, dRetN, dRetC, dChain, r2I, dC, dVar, dEnds, dstart, dOp, dCB, DL.rLen, dCons, dNil, dFld, asL_lst, asQ_lst, asQ_tup, asQ_scr, ins_obj, dNever, dgN, dgNil, dgCons, dgTup, dIf, dNot, dAnd, dOr, dB, dCall, dMeth, dNext, dSeq, dSt, dLst, dTup, dIfE, rIxQ, dDrop, dYes, diL, diR1, diR2, dNeg, dAsg, dwipe, dBM, dBM0, rAppendD, rMin2, rMax2, atI_0, atI_1, atI_2, atI_3, ix4_0, ix4_1, ix4_3, asL_g, asQ_g, now_g, gupd_same, gupd_gupd, Int.ofNat_inj, now_lst, now_int, now_tup, asL_lst, natsD_length, rdD_length, vilD_inj, vil_ins, natsD_inj, rdD_inj, nnD_inj, n_law_tale_of, dSplit]
  have hw := PyProof.Rows.split_weight t " " (by decide +kernel)
  have hwk := okS_split (y := Str.ofString " ") hk
  generalize hws : Txt.split t (Str.ofString " ") = ws at h hw hwk
  refine dLcP_intro (strD ws) (fun _ => true) numD (fun P p => ?_) (by rw [strD_length, sizeLine_eq]; omega) (fun z G' hz hG => ?_) ?_
  · simp [and_assoc, dRet, dRetN, dRetC, dChain, r2I, dC, dVar, dEnds, dstart, dOp, dCB, DL.rLen, dCons, dNil, dFld, asL_lst, asQ_lst, asQ_tup, asQ_scr, ins_obj, dNever, dgN, dgNil, dgCons, dgTup, dIf, dNot, dAnd, dOr, dB, dCall, dMeth, dNext, dSeq, dSt, dLst, dTup, dIfE, rIxQ, dDrop, dYes, diL, diR1, diR2, dNeg, dAsg, dwipe, dBM, dBM0, rAppendD, rMin2, rMax2, atI_0, atI_1, atI_2, atI_3, ix4_0, ix4_1, ix4_3, asL_g, asQ_g, now_g, gupd_same, gupd_gupd, Int.ofNat_inj, now_lst, now_int, now_tup, asL_lst, natsD_length, rdD_length, vilD_inj, vil_ins, natsD_inj, rdD_inj, nnD_inj, dSplit]
    refine ⟨by decide +kernel, by rw [sizeLine_eq]; omega, ?_⟩
    rw [hws]
    exact p
  · obtain ⟨x, hx, rfl⟩ := List.mem_map.mp hz
    have := mem_len hx
    simp [and_assoc, dRet, dRetN, dRetC, dChain, r2I, dC, dVar, dEnds, dstart, dOp, dCB, DL.rLen, dCons, dNil, dFld, asL_lst, asQ_lst, asQ_tup, asQ_scr, ins_obj, dNever, dgN, dgNil, dgCons, dgTup, dIf, dNot, dAnd, dOr, dB, dCall, dMeth, dNext, dSeq, dSt, dLst, dTup, dIfE, rIxQ, dDrop, dYes, diL, diR1, diR2, dNeg, dAsg, dwipe, dBM, dBM0, rAppendD, rMin2, rMax2, atI_0, atI_1, atI_2, atI_3, ix4_0, ix4_1, ix4_3, asL_g, asQ_g, now_g, gupd_same, gupd_gupd, Int.ofNat_inj, now_lst, now_int, now_tup, asL_lst, natsD_length, rdD_length, vilD_inj, vil_ins, natsD_inj, rdD_inj, nnD_inj]
    exact ⟨x, rfl, by omega, hwk x hx, rfl, rfl⟩
  have e : ((strD ws).filter fun _ => true).map numD = (ws.map numO).map optI := by
    rw [filt_true, strD, List.map_map, List.map_map]
    rfl
  rw [e]
  refine ⟨_, rfl, by rfl, opts_ok _, ?_⟩
  rw [opts_any]
  rcases h with ⟨ns, h1, p⟩ | ⟨h1, p⟩
  · refine .inl ⟨by rw [h1]; simp, ?_⟩
    have e2 : (ws.map numO).map optI = natsD ns := by
      rw [h1, List.map_map]
      rfl
    rw [e2]
    exact p
  · exact .inr ⟨by rw [decide_eq_true h1], p⟩
abbrev s_law_right : Stmt := top 25
abbrev n_law_right : List Str := ["line", "due", "found", "caught", "e"]
abbrev p_law_right : List Str := ["line"]
theorem sc_law_right : FnScope n_law_right p_law_right (defScope s_law_right) := ⟨rfl, rfl, rfl, by decide +kernel, rfl, by decide +kernel, by decide +kernel⟩
def c_tright : DSp := fun ds G P _ => ∃ t : Str, ds = [.str t] ∧ t.length ≤ 4000 ∧ okS t ∧ ∀ G', GLe G G' → P (.bl true) G'
theorem ok_tright (T : Bt mg) (XT : XTab K mg CE cRoad cHouse cClash cReport cTale cDays cText) (XH : XCau K CE [cRoad, cHouse, cClash, cReport, cTale, cDays] cText) (TF : TopFn K mg "_law_right" s_law_right p_law_right) (D__law_tale_of : Dfn P w K mg base CX0 "_law_tale_of" p_law_tale_of c_ltale 2) (DX_read_tale : Dfn P w K mg base (L2N.CX P w) "read_tale" p_read_tale (c_rtaleA cText) 4)
    (D__law_alike : Dfn P w K mg base CX0 "_law_alike" p_law_alike (c_same (Same 2)) 3) (D__law_kind : DfnT P w K mg base "_law_kind" p_law_kind (c_kindT K cRoad cHouse cClash cReport cTale cDays cText) 1) : Dfn P w K mg base CX0 "_law_right" p_law_right c_tright 5 := by
  refine dfn_of TF sc_law_right (fun ds G P R ⟨t, e, _⟩ => by rw [e]; rfl) fun f cdv A outer s H E B hr => ?_
  refine ⟨_, (dss_cons (ds_set (i := 1) sc_law_right.nd rfl (by first | exact Or.inl rfl | exact Or.inr rfl) (d_callD D__law_tale_of hr (by rfl) (da_cons (dv (pv 0)) da_nil)))
      (dss_cons (ds_set (i := 2) sc_law_right.nd rfl (by first | exact Or.inl rfl | exact Or.inr rfl) d_non)
      (dss_cons (ds_set (i := 3) sc_law_right.nd rfl (by first | exact Or.inl rfl | exact Or.inr rfl) (d_lst da_nil))
      (dss_cons (ds_try (K := K) (i := 4) rfl ⟨by rfl, by decide +kernel, .inl XT.mgVillageError⟩ rfl sc_law_right.nd rfl (fun W RW B2 pn xe tk cw => (dss_one (ds_set (i := 2) sc_law_right.nd rfl (by first | exact Or.inl rfl | exact Or.inr rfl) (d_callS DX_read_tale hr tk cw (by rfl) (da_cons (dv (pv 0)) da_nil))))) (fun ax pnx B2 hB => (dss_one (ds_set (i := 3) sc_law_right.nd rfl (by first | exact Or.inl rfl | exact Or.inr rfl) (d_callT (j := 4) hB D__law_kind ⟨hr.dp, hr.un⟩ (by rfl) (da_cons (dv (pv 4)) da_nil))))))
      (dss_cons (ds_if (dt_cmp o_isD (dv (pv 1)) d_non (nomark _)) (dss_one (ds_ret (d_callD D__law_alike hr (by rfl) (da_cons (dv (pv 3)) (da_cons (d_lst (da_cons d_str (da_cons (dv (pv 0)) (da_cons d_bl da_nil)))) da_nil))))) dss_nil)
      (dss_one (ds_ret (d_and (d_cmp (o_eqT hr) (dv (pv 3)) (d_lst da_nil) (nomark _)) (d_one (d_callD D__law_alike hr (by rfl) (da_cons (dv (pv 2)) (da_cons (dv (pv 1)) da_nil)))))))))))), ?_⟩
  rintro ds G P R ⟨t, rfl, hl, hk, p⟩
  simp [and_assoc, dRet, dRetN, dRetC, dChain, r2I, dC, dVar, dEnds, dstart, dOp, dCB, DL.rLen, dCons, dNil, dFld, asL_lst, asQ_lst, asQ_tup, asQ_scr, ins_obj, dNever, dgN, dgNil, dgCons, dgTup, dIf, dNot, dAnd, dOr, dB, dCall, dMeth, dNext, dSeq, dSt, dLst, dTup, dIfE, rIxQ, dDrop, dYes, diL, diR1, diR2, dNeg, dAsg, dwipe, dBM, dBM0, rAppendD, rMin2, rMax2, atI_0, atI_1, atI_2, atI_3, ix4_0, ix4_1, ix4_3, asL_g, asQ_g, now_g, gupd_same, gupd_gupd, Int.ofNat_inj, now_lst, now_int, now_tup, asL_lst, natsD_length, rdD_length, vilD_inj, vil_ins, natsD_inj, rdD_inj, nnD_inj, n_law_right, dTry, dCallS]
  have s3 : 3 ≤ sizeLine := by rw [sizeLine_eq]; decide
  have hrep : (reprText t).length ≤ 1000000 := by
    have := StrLaws.reprText_len t fun c hc => Nat.lt_trans (hk c hc) (by decide)
    omega
  by_cases hn : none ∈ (Txt.split t " ").map numO
  · refine ⟨t, rfl, by omega, hk, .inr ⟨hn, t, rfl, by omega, hrep, .inr ⟨hn, fun G' g' => ⟨XH.ex, ?_⟩⟩⟩⟩
    have kit : ∀ {D : Addr}, D ∈ [cRoad, cHouse, cClash, cReport, cTale, cDays] → PySem.W.kitOne K (.ref cText) (.ref D) = some false := fun h => XH.kit _ h
    refine ⟨cText, .str t, false, false, false, false, false, false, true, rfl, XH.ek, XH.ve, kit (by simp), kit (by simp), kit (by simp), kit (by simp), kit (by simp), kit (by simp), kit_self, ⟨rfl, .inr ⟨rfl, s3, _, _, rfl, ?_, p G' g'⟩⟩⟩
    refine same_lst (n := 1) rfl rfl (by show 3 ≤ 100000; decide) fun u hu => ?_
    replace hu : u ∈ [Dt.str "NoText", .str t, .bl true] := hu
    simp only [List.mem_cons, List.not_mem_nil, or_false] at hu
    rcases hu with rfl | rfl | rfl <;> exact same_flat rfl
  · obtain ⟨ns, hns⟩ := all_some hn
    have hlen : ns.length ≤ 5000 := by
      have hw := PyProof.Rows.split_weight t " " (by decide +kernel)
      have := congrArg List.length hns
      rw [List.length_map, List.length_map] at this
      omega
    refine ⟨t, rfl, by omega, hk, .inl ⟨ns, hns, t, rfl, by omega, hrep, .inl ⟨ns, hns, fun q hq => ⟨rfl, .inl ⟨rfl, ?_⟩⟩⟩⟩⟩
    simp [and_assoc, dRet, dRetN, dRetC, dChain, r2I, dC, dVar, dEnds, dstart, dOp, dCB, DL.rLen, dCons, dNil, dFld, asL_lst, asQ_lst, asQ_tup, asQ_scr, ins_obj, dNever, dgN, dgNil, dgCons, dgTup, dIf, dNot, dAnd, dOr, dB, dCall, dMeth, dNext, dSeq, dSt, dLst, dTup, dIfE, rIxQ, dDrop, dYes, diL, diR1, diR2, dNeg, dAsg, dwipe, dBM, dBM0, rAppendD, rMin2, rMax2, atI_0, atI_1, atI_2, atI_3, ix4_0, ix4_1, ix4_3, asL_g, asQ_g, now_g, gupd_same, gupd_gupd, Int.ofNat_inj, now_lst, now_int, now_tup, asL_lst, natsD_length, rdD_length, vilD_inj, vil_ins, natsD_inj, rdD_inj, nnD_inj, dAndV]
    refine ⟨by rw [now_lst]; rfl, by rw [now_lst]; rfl, .inr ⟨by rw [now_lst]; rfl, _, _, rfl, same_lst (n := 1) (asL_ref gupd_same) rfl (by rw [natsD_length]; omega) same_nats, p _ (GLe.gupd hq)⟩⟩
end
end V

set_option Elab.async false
set_option linter.all false
set_option maxRecDepth 100000
set_option maxHeartbeats 4000000
/-! Texts of no tale: the law. -/
namespace V
open PySem PySem.Spec L2 L2H DL
theorem d_callD0 {X : Cx} {B : Hp} {x : Str} {ps : List Str} {c : DSp} {k j : Nat} {p pos : Pos} (D : Dfn X.prog X.w X.K X.mg X.base CX0 x ps c k) (hr : Room j X.A) (hg : Gl X x) (hj : k ≤ j := by decide) (hdb : (x == ("__debug__" : Str)) = false := by decide) : DE X B (.Call (.Name x p) [] [] pos) (dCall c noX dNil) := by
  obtain ⟨f, fd, F, m, kp, b⟩ := D
  exact PE.imp (pe_call0 (E := fun _ _ _ => False) F (hr.mono hj) hg m kp b .nil pass0 hdb) fun σ H Q ⟨F, G, δ, P, g, s, q, k⟩ => toSp_of g .nil q k contX_no
theorem dLcP_eq {wi : DTI} {g : DTG} {tt : DTT} {te : DTE} {vs : List Nat} {δ : DSt} {G : Gp} {P : DK} : dLcP wi g tt te vs δ G P = wi δ G fun ds G1 => dLcP (fun _ G' k => k ds G') g tt te vs δ G1 P := rfl
def grow : Nat → Nat
  | 0 => 4000
  | 1 => 24200
  | 2 => 145400
  | _ => 1000000
theorem grow_le {j : Nat} (h : j < 3) : grow j ≤ 1000000 ∧ 6 * grow j + 200 ≤ grow (j + 1) := by
  match j, h with
  | 0, _ => decide
  | 1, _ => decide
  | 2, _ => decide
theorem grow_top : ∀ m : Nat, m ≤ 3 → grow m ≤ 1000000
  | 0, _ => by show 4000 ≤ 1000000; omega
  | 1, _ => by show 24200 ≤ 1000000; omega
  | 2, _ => by show 145400 ≤ 1000000; omega
  | 3, _ => Nat.le_refl _
theorem cutS_top (z : Str) : (cutS z none (some 4000)).length ≤ 4000 := by
  unfold cutS
  show (List.toArray _).size ≤ _
  rw [List.size_toArray, List.length_take]
  have e : HT.sIx z.length z.length (some (4000 : Int)) = min 4000 z.length := HT.sIx_nat z.length z.length 4000
  rw [e]
  omega
theorem okS_num (n : Nat) : okS (numS n) := fun c hc => by
  have := numL_dig (n := n) (c := c) (by rw [← tl_numS]; exact hc)
  omega
section
variable {P : Program} {w : World} {K : PySem.W.Frag} {mg : Str → Option Value} {base : Heap}
abbrev s_law : Stmt := top 26
abbrev n_law : List Str := ["script", "tray", "odd", "k", "line", "turn", "house"]
abbrev p_law : List Str := ["script"]
theorem sc_law : FnScope n_law p_law (defScope s_law) := ⟨rfl, rfl, rfl, by decide +kernel, rfl, by decide +kernel, by decide +kernel⟩
def c_law : DSp := fun ds G P _ => ∃ ns : List Int, ds = [.scr ns] ∧ ns.length ≤ 63 ∧ ∀ G', P (.bl true) G'
theorem ok_law {fa : Addr} {fd : FuncData} (T : Bt mg) (TF : Fun K "law" "law" s_law fa fd) (D__law_tray : Dfn P w K mg base CX0 "_law_tray" p_law_tray c_tray 1) (D__law_odd : Dfn P w K mg base CX0 "_law_odd" p_law_odd c_odd 1) (D__law_numbers : Dfn P w K mg base CX0 "_law_numbers" p_law_numbers c_lnum 2) (D__law_draw : Dfn P w K mg base CX0 "_law_draw" p_law_draw c_draw 1)
    (D__law_spoilt : Dfn P w K mg base CX0 "_law_spoilt" p_law_spoilt c_spoilt 3) (D__law_right : Dfn P w K mg base CX0 "_law_right" p_law_right c_tright 5) : FnOk P w K mg base CX0 6 fa fd p_law (toSp K c_law) := by
  refine d_ok TF sc_law (fun ds G P R ⟨ns, e, _⟩ => by rw [e]; rfl) fun cdv A outer s H E B hr => ?_
  refine ⟨_, (dss_cons (ds_set (i := 1) sc_law.nd rfl (by first | exact Or.inl rfl | exact Or.inr rfl) (d_callD D__law_tray hr (by rfl) (da_cons (dv (pv 0)) da_nil)))
      (dss_cons (ds_set (i := 2) sc_law.nd rfl (by first | exact Or.inl rfl | exact Or.inr rfl) (d_callD0 D__law_odd hr (by rfl)))
      (dss_cons (ds_for PassesOwn.never rfl (di_range1 (by rfl) T.range (da_cons (d_op o_add d_int (d_op o_mul d_int (d_callB c_len (by rfl) T.len (by decide +kernel) (da_cons (d_take (dv (pv 0)) d_int) da_nil)))) da_nil)) (dg_name (pg_name (i := 3) sc_law.nd rfl (by first | exact Or.inl rfl | exact Or.inr rfl))) (dss_cons (ds_set (i := 4) sc_law.nd rfl (by first | exact Or.inl rfl | exact Or.inr rfl) (d_join d_str (d_lcP (own := [("house", 6)]) rfl sc_law.nd (di_list (d_callD D__law_numbers hr (by rfl) (da_cons (dv (pv 1)) da_nil))) (blkOk_by (N := n_law) (sc := defScope s_law) (by decide +kernel)) (fun _ _ _ _ _ => (dgw_name (pg_name (i := 6) sc_law.nd rfl (by first | exact Or.inl rfl | exact Or.inr rfl)))) (fun _ _ _ _ _ => dts_nil) (fun _ _ _ _ _ => (d_callTy c_str (by rfl) T.str (by decide +kernel) (da_cons (dv (pv 6)) da_nil))))))
      (dss_cons (ds_if (dt_cmp o_eqI (d_callD D__law_draw hr (by rfl) (da_cons (dv (pv 1)) (da_cons d_int da_nil))) d_int (nomark _)) (dss_one (ds_set (i := 4) sc_law.nd rfl (by first | exact Or.inl rfl | exact Or.inr rfl) (d_ix (dv (pv 2)) (d_callD D__law_draw hr (by rfl) (da_cons (dv (pv 1)) (da_cons (d_callB c_len (by rfl) T.len (by decide +kernel) (da_cons (dv (pv 2)) da_nil)) da_nil))) (fun _ _ => rfl)))) dss_nil)
      (dss_keep (dss_cons (ds_for PassesOwn.never rfl (di_range1 (by rfl) T.range (da_cons (d_ix (d_lst (da_cons d_int (da_cons d_int (da_cons d_int (da_cons d_int (da_cons d_int da_nil)))))) (d_callD D__law_draw hr (by rfl) (da_cons (dv (pv 1)) (da_cons d_int da_nil))) (fun _ _ => rfl)) da_nil)) (dg_name (pg_name (i := 5) sc_law.nd rfl (by first | exact Or.inl rfl | exact Or.inr rfl))) (dss_one (ds_set (i := 4) sc_law.nd rfl (by first | exact Or.inl rfl | exact Or.inr rfl) (d_callD D__law_spoilt hr (by rfl) (da_cons (dv (pv 1)) (da_cons (dv (pv 4)) (da_cons (dv (pv 2)) da_nil)))))))
      (dss_one (ds_if (dt_not (dt_val (d_callD D__law_right hr (by rfl) (da_cons (d_sliceS (dv (pv 4)) do_none (do_some d_int)) da_nil)))) (dss_one (ds_ret d_bl)) dss_nil)))))))
      (dss_one (ds_ret d_bl))))), ?_⟩
  rintro ds G P R ⟨ns, rfl, hns, p⟩
  have s5 : 5 ≤ sizeLine := by rw [sizeLine_eq]; decide
  have sz : 10000000 ≤ sizeLine := by rw [sizeLine_eq]; decide
  simp [and_assoc, dRet, dRetN, dRetC, dChain, r2I, dC, dVar, dEnds, dstart, dOp, dCB, DL.rLen, dCons, dNil, dFld, asL_lst, asQ_lst, asQ_tup, asQ_scr, ins_obj, dNever, dgN, dgNil, dgCons, dgTup, dIf, dNot, dAnd, dOr, dB, dCall, dMeth, dNext, dSeq, dSt, dLst, dTup, dIfE, rIxQ, dDrop, dYes, diL, diR1, diR2, dNeg, dAsg, dwipe, dBM, dBM0, rAppendD, rMin2, rMax2, atI_0, atI_1, atI_2, atI_3, ix4_0, ix4_1, ix4_3, asL_g, asQ_g, now_g, gupd_same, gupd_gupd, Int.ofNat_inj, now_lst, now_int, now_tup, asL_lst, natsD_length, rdD_length, vilD_inj, vil_ins, natsD_inj, rdD_inj, nnD_inj, n_law, s5]
  refine ⟨ns, rfl, hns, fun t g G0 ht hg hG0 hT0 => ⟨rfl, fun odd ho1 ho2 ho3 => ?_⟩⟩
  obtain ⟨W, hW⟩ : ∃ W : Nat → DSt → Gp → Prop, ∀ i δ G', W i δ G' ↔ ∃ o3 o4 o5 : Option Dt, δ = [some (.scr ns), some (.ref t), some (.lst (strD odd)), o3, o4, o5, none] ∧ Tray G' t g (2 ^ 59 - 1000 * i) := ⟨_, fun _ _ _ => Iff.rfl⟩
  refine dFor_intro (upto 0 (8 + 3 * min 12 ns.length)) G0 W (fun P p => ?_) ((hW _ _ _).mpr ⟨none, none, none, rfl, hT0.mono (by decide)⟩) ?_ ?_
  · simp [and_assoc, dRet, dRetN, dRetC, dChain, r2I, dC, dVar, dEnds, dstart, dOp, dCB, DL.rLen, dCons, dNil, dFld, asL_lst, asQ_lst, asQ_tup, asQ_scr, ins_obj, dNever, dgN, dgNil, dgCons, dgTup, dIf, dNot, dAnd, dOr, dB, dCall, dMeth, dNext, dSeq, dSt, dLst, dTup, dIfE, rIxQ, dDrop, dYes, diL, diR1, diR2, dNeg, dAsg, dwipe, dBM, dBM0, rAppendD, rMin2, rMax2, atI_0, atI_1, atI_2, atI_3, ix4_0, ix4_1, ix4_3, asL_g, asQ_g, now_g, gupd_same, gupd_gupd, Int.ofNat_inj, now_lst, now_int, now_tup, asL_lst, natsD_length, rdD_length, vilD_inj, vil_ins, natsD_inj, rdD_inj, nnD_inj, dTake]
    refine ⟨_, 12, rfl, .inr rfl, .inl ⟨by decide, by decide⟩, by omega, by rw [List.length_map]; omega, ?_⟩
    have e : (8 + 3 * ((min 12 (ns.map Dt.int).length : Nat) : Int)).toNat = 8 + 3 * min 12 ns.length := by
      rw [List.length_map]; omega
    rw [e]
    exact p
  · intro i d δ G1 hd hw
    obtain ⟨o3, o4, o5, rfl, hT1⟩ := (hW _ _ _).mp hw
    obtain ⟨hi, rfl⟩ := upto_get hd
    have hi44 : i < 44 := by omega
    simp [and_assoc, dRet, dRetN, dRetC, dChain, r2I, dC, dVar, dEnds, dstart, dOp, dCB, DL.rLen, dCons, dNil, dFld, asL_lst, asQ_lst, asQ_tup, asQ_scr, ins_obj, dNever, dgN, dgNil, dgCons, dgTup, dIf, dNot, dAnd, dOr, dB, dCall, dMeth, dNext, dSeq, dSt, dLst, dTup, dIfE, rIxQ, dDrop, dYes, diL, diR1, diR2, dNeg, dAsg, dwipe, dBM, dBM0, rAppendD, rMin2, rMax2, atI_0, atI_1, atI_2, atI_3, ix4_0, ix4_1, ix4_3, asL_g, asQ_g, now_g, gupd_same, gupd_gupd, Int.ofNat_inj, now_lst, now_int, now_tup, asL_lst, natsD_length, rdD_length, vilD_inj, vil_ins, natsD_inj, rdD_inj, nnD_inj, s5, dJoin]
    rw [dLcP_eq]
    simp [and_assoc, dRet, dRetN, dRetC, dChain, r2I, dC, dVar, dEnds, dstart, dOp, dCB, DL.rLen, dCons, dNil, dFld, asL_lst, asQ_lst, asQ_tup, asQ_scr, ins_obj, dNever, dgN, dgNil, dgCons, dgTup, dIf, dNot, dAnd, dOr, dB, dCall, dMeth, dNext, dSeq, dSt, dLst, dTup, dIfE, rIxQ, dDrop, dYes, diL, diR1, diR2, dNeg, dAsg, dwipe, dBM, dBM0, rAppendD, rMin2, rMax2, atI_0, atI_1, atI_2, atI_3, ix4_0, ix4_1, ix4_3, asL_g, asQ_g, now_g, gupd_same, gupd_gupd, Int.ofNat_inj, now_lst, now_int, now_tup, asL_lst, natsD_length, rdD_length, vilD_inj, vil_ins, natsD_inj, rdD_inj, nnD_inj, s5, dJoin]
    refine ⟨t, g, 2 ^ 59 - 1000 * i - 400, rfl, hT1.mono (by omega), fun l G2 hne hl hlt hT2 hx2 => ⟨_, rfl, ?_⟩⟩
    generalize hU : (dKeep _ : DTS) = U
    have rest : ∀ (R : DEnds) (line : Str) (o : Option Dt) (G3 : Gp), R.nx = W (i + 1) → line.length ≤ 4000 → okS line → Tray G3 t g (2 ^ 59 - 1000 * i - 500) → U R [some (.scr ns), some (.ref t), some (.lst (strD odd)), some (.int (i : Int)), some (.str line), o, none] G3 := by
      intro R line o G3 hR hll hlk hT3
      rw [← hU]
      simp [and_assoc, dRet, dRetN, dRetC, dChain, r2I, dC, dVar, dEnds, dstart, dOp, dCB, DL.rLen, dCons, dNil, dFld, asL_lst, asQ_lst, asQ_tup, asQ_scr, ins_obj, dNever, dgN, dgNil, dgCons, dgTup, dIf, dNot, dAnd, dOr, dB, dCall, dMeth, dNext, dSeq, dSt, dLst, dTup, dIfE, rIxQ, dDrop, dYes, diL, diR1, diR2, dNeg, dAsg, dwipe, dBM, dBM0, rAppendD, rMin2, rMax2, atI_0, atI_1, atI_2, atI_3, ix4_0, ix4_1, ix4_3, asL_g, asQ_g, now_g, gupd_same, gupd_gupd, Int.ofNat_inj, now_lst, now_int, now_tup, asL_lst, natsD_length, rdD_length, vilD_inj, vil_ins, natsD_inj, rdD_inj, nnD_inj, s5, dKeep]
      rw [dFor_eq]
      simp [and_assoc, dRet, dRetN, dRetC, dChain, r2I, dC, dVar, dEnds, dstart, dOp, dCB, DL.rLen, dCons, dNil, dFld, asL_lst, asQ_lst, asQ_tup, asQ_scr, ins_obj, dNever, dgN, dgNil, dgCons, dgTup, dIf, dNot, dAnd, dOr, dB, dCall, dMeth, dNext, dSeq, dSt, dLst, dTup, dIfE, rIxQ, dDrop, dYes, diL, diR1, diR2, dNeg, dAsg, dwipe, dBM, dBM0, rAppendD, rMin2, rMax2, atI_0, atI_1, atI_2, atI_3, ix4_0, ix4_1, ix4_3, asL_g, asQ_g, now_g, gupd_same, gupd_gupd, Int.ofNat_inj, now_lst, now_int, now_tup, asL_lst, natsD_length, rdD_length, vilD_inj, vil_ins, natsD_inj, rdD_inj, nnD_inj, s5]
      refine ⟨t, g, 5, 2 ^ 59 - 1000 * i - 501, rfl, by decide, by decide, hT3.mono (by omega), fun r2 G4 hr2 hT4 hx4 => ⟨_, _, rfl, rfl, ?_⟩⟩
      obtain ⟨m, hm, hm3⟩ : ∃ m : Nat, atI [Dt.int 0, .int 1, .int 1, .int 2, .int 3] (r2 : Int) = some (.int (m : Int)) ∧ m ≤ 3 :=
        match r2, hr2 with
        | 0, _ => ⟨0, rfl, by decide⟩
        | 1, _ => ⟨1, rfl, by decide⟩
        | 2, _ => ⟨1, rfl, by decide⟩
        | 3, _ => ⟨2, rfl, by decide⟩
        | 4, _ => ⟨3, rfl, by decide⟩
      refine ⟨_, hm, _, rfl, by omega, by omega, ?_⟩
      rw [Int.toNat_natCast]
      obtain ⟨W2, hW2⟩ : ∃ W2 : Nat → DSt → Gp → Prop, ∀ j δ G', W2 j δ G' ↔ ∃ (line : Str) (o : Option Dt), δ = [some (.scr ns), some (.ref t), some (.lst (strD odd)), some (.int (i : Int)), some (.str line), o, none] ∧ line.length ≤ grow j ∧ okS line ∧ Tray G' t g (2 ^ 59 - 1000 * i - 501 - 12 * j) := ⟨_, fun _ _ _ => Iff.rfl⟩
      refine ⟨W2, (hW2 _ _ _).mpr ⟨line, _, rfl, hll, hlk, hT4⟩, fun j dj δ G5 hdj hw2 => ?_, fun δ G5 hw2 => ?_⟩
      · obtain ⟨ln, o', rfl, h1, h2, hT5⟩ := (hW2 _ _ _).mp hw2
        obtain ⟨hj, rfl⟩ := upto_get hdj
        have gj := grow_le (j := j) (by omega)
        simp [and_assoc, dRet, dRetN, dRetC, dChain, r2I, dC, dVar, dEnds, dstart, dOp, dCB, DL.rLen, dCons, dNil, dFld, asL_lst, asQ_lst, asQ_tup, asQ_scr, ins_obj, dNever, dgN, dgNil, dgCons, dgTup, dIf, dNot, dAnd, dOr, dB, dCall, dMeth, dNext, dSeq, dSt, dLst, dTup, dIfE, rIxQ, dDrop, dYes, diL, diR1, diR2, dNeg, dAsg, dwipe, dBM, dBM0, rAppendD, rMin2, rMax2, atI_0, atI_1, atI_2, atI_3, ix4_0, ix4_1, ix4_3, asL_g, asQ_g, now_g, gupd_same, gupd_gupd, Int.ofNat_inj, now_lst, now_int, now_tup, asL_lst, natsD_length, rdD_length, vilD_inj, vil_ins, natsD_inj, rdD_inj, nnD_inj]
        exact ⟨t, g, ln, odd, 2 ^ 59 - 1000 * i - 501 - 12 * (j + 1), rfl, ho1, ho2, ho3, by omega, h2, hT5.mono (by omega), fun line' G' h h' hT' hx' => (hW2 _ _ _).mpr ⟨line', _, rfl, by omega, h', hT'⟩⟩
      · obtain ⟨ln, o', rfl, h1, h2, hT5⟩ := (hW2 _ _ _).mp hw2
        rw [upto_length] at h1 hT5
        have gm := grow_top m hm3
        simp [and_assoc, dRet, dRetN, dRetC, dChain, r2I, dC, dVar, dEnds, dstart, dOp, dCB, DL.rLen, dCons, dNil, dFld, asL_lst, asQ_lst, asQ_tup, asQ_scr, ins_obj, dNever, dgN, dgNil, dgCons, dgTup, dIf, dNot, dAnd, dOr, dB, dCall, dMeth, dNext, dSeq, dSt, dLst, dTup, dIfE, rIxQ, dDrop, dYes, diL, diR1, diR2, dNeg, dAsg, dwipe, dBM, dBM0, rAppendD, rMin2, rMax2, atI_0, atI_1, atI_2, atI_3, ix4_0, ix4_1, ix4_3, asL_g, asQ_g, now_g, gupd_same, gupd_gupd, Int.ofNat_inj, now_lst, now_int, now_tup, asL_lst, natsD_length, rdD_length, vilD_inj, vil_ins, natsD_inj, rdD_inj, nnD_inj, dCutS, doSome, doNone]
        refine ⟨by omega, _, rfl, cutS_top ln, okS_cut _ _ h2, fun G' g' => ?_⟩
        refine .inr ⟨rfl, ?_⟩
        rw [hR]
        exact (hW _ _ _).mpr ⟨_, _, _, rfl, (hT5.ge g').mono (by omega)⟩
    refine dLcP_intro (natsD l) (fun _ => true) (natF fun n => .str (numS n)) (fun P p => p) (by rw [natsD_length]; exact small1000 (by omega)) (fun z G' hz hG => ?_) ?_
    · obtain ⟨n, hn2, rfl⟩ := natsD_mem hz
      simp [and_assoc, dRet, dRetN, dRetC, dChain, r2I, dC, dVar, dEnds, dstart, dOp, dCB, DL.rLen, dCons, dNil, dFld, asL_lst, asQ_lst, asQ_tup, asQ_scr, ins_obj, dNever, dgN, dgNil, dgCons, dgTup, dIf, dNot, dAnd, dOr, dB, dCall, dMeth, dNext, dSeq, dSt, dLst, dTup, dIfE, rIxQ, dDrop, dYes, diL, diR1, diR2, dNeg, dAsg, dwipe, dBM, dBM0, rAppendD, rMin2, rMax2, atI_0, atI_1, atI_2, atI_3, ix4_0, ix4_1, ix4_3, asL_g, asQ_g, now_g, gupd_same, gupd_gupd, Int.ofNat_inj, now_lst, now_int, now_tup, asL_lst, natsD_length, rdD_length, vilD_inj, vil_ins, natsD_inj, rdD_inj, nnD_inj, natF]
      exact ⟨n, rfl, log_small (hlt n hn2), rfl, rfl⟩
    rw [filt_true, natF_map]
    have h4 := sum_len hlt
    have h5 := blank_len
    have h6 := join_len (Str.ofString " ") (l.map numS)
    rw [List.length_map, h5] at h6
    refine ⟨l.map numS, by rw [asL_lst]; unfold strD; rw [List.map_map]; rfl, by rw [List.length_map, h5]; omega, ?_⟩
    refine ⟨t, g, 10, 2 ^ 59 - 1000 * i - 401, rfl, by decide, by decide, hT2.mono (by omega), fun r1 G3 hr1 hT3 hx3 => ⟨_, rfl, ?_⟩⟩
    by_cases h0 : (r1 : Int) = 0
    · rw [if_pos h0]
      refine ⟨t, g, odd.length, 2 ^ 59 - 1000 * i - 402, by rw [strD_length], by have := List.length_pos_iff.mpr ho1; omega, by omega, hT3.mono (by omega), fun r2 G4 hr2 hT4 hx4 => ?_⟩
      obtain ⟨x, hx⟩ : ∃ x, odd[r2]? = some x := ⟨_, List.getElem?_eq_getElem hr2⟩
      have hxo := ho3 x (List.mem_of_getElem? hx)
      exact ⟨_, _, rfl, rfl, _, str_in hx, rest _ _ _ _ rfl (by omega) hxo.2 (hT4.mono (by omega))⟩
    · rw [if_neg h0]
      refine rest _ _ _ _ rfl (by omega) (okS_join (okS_of (by decide +kernel)) fun x hx => ?_) (hT3.mono (by omega))
      obtain ⟨n, _, rfl⟩ := List.mem_map.mp hx
      exact okS_num n
  · intro δ G1 hw
    obtain ⟨o3, o4, o5, rfl, hT1⟩ := (hW _ _ _).mp hw
    simp [and_assoc, dRet, dRetN, dRetC, dChain, r2I, dC, dVar, dEnds, dstart, dOp, dCB, DL.rLen, dCons, dNil, dFld, asL_lst, asQ_lst, asQ_tup, asQ_scr, ins_obj, dNever, dgN, dgNil, dgCons, dgTup, dIf, dNot, dAnd, dOr, dB, dCall, dMeth, dNext, dSeq, dSt, dLst, dTup, dIfE, rIxQ, dDrop, dYes, diL, diR1, diR2, dNeg, dAsg, dwipe, dBM, dBM0, rAppendD, rMin2, rMax2, atI_0, atI_1, atI_2, atI_3, ix4_0, ix4_1, ix4_3, asL_g, asQ_g, now_g, gupd_same, gupd_gupd, Int.ofNat_inj, now_lst, now_int, now_tup, asL_lst, natsD_length, rdD_length, vilD_inj, vil_ins, natsD_inj, rdD_inj, nnD_inj]
    exact p G1
end
end V

set_option Elab.async false
set_option linter.all false
set_option maxRecDepth 100000
set_option maxHeartbeats 4000000
/-! The top's builtins, where there is no class. -/
namespace V
open PySem PySem.Spec L2 DL
theorem bt_mk {K : PySem.W.Frag} {h : Heap} {mg : Str → Option Value} (X : K.In h) (G : h.Ns mainGlobals mg)
    (b_len : PySem.W.nsIn K mainGlobals "len" = some none) (b_range : PySem.W.nsIn K mainGlobals "range" = some none) (b_list : PySem.W.nsIn K mainGlobals "list" = some none) (b_tuple : PySem.W.nsIn K mainGlobals "tuple" = some none) (b_min : PySem.W.nsIn K mainGlobals "min" = some none) (b_max : PySem.W.nsIn K mainGlobals "max" = some none) (b_sum : PySem.W.nsIn K mainGlobals "sum" = some none) (b_sorted : PySem.W.nsIn K mainGlobals "sorted" = some none) (b_all : PySem.W.nsIn K mainGlobals "all" = some none) (b_any : PySem.W.nsIn K mainGlobals "any" = some none) (b_abs : PySem.W.nsIn K mainGlobals "abs" = some none) (b_isinstance : PySem.W.nsIn K mainGlobals "isinstance" = some none) (b_enumerate : PySem.W.nsIn K mainGlobals "enumerate" = some none) (b_zip : PySem.W.nsIn K mainGlobals "zip" = some none) (b_set : PySem.W.nsIn K mainGlobals "set" = some none) (b_dict : PySem.W.nsIn K mainGlobals "dict" = some none) (b_int : PySem.W.nsIn K mainGlobals "int" = some none) (b_bool : PySem.W.nsIn K mainGlobals "bool" = some none) (b_str : PySem.W.nsIn K mainGlobals "str" = some none) : Bt mg :=
  { len := PySem.W.mg_none_of X G b_len, range := PySem.W.mg_none_of X G b_range, list := PySem.W.mg_none_of X G b_list, tuple := PySem.W.mg_none_of X G b_tuple, min := PySem.W.mg_none_of X G b_min, max := PySem.W.mg_none_of X G b_max, sum := PySem.W.mg_none_of X G b_sum, sorted := PySem.W.mg_none_of X G b_sorted, all := PySem.W.mg_none_of X G b_all, any := PySem.W.mg_none_of X G b_any, abs := PySem.W.mg_none_of X G b_abs, isinstance := PySem.W.mg_none_of X G b_isinstance, enumerate := PySem.W.mg_none_of X G b_enumerate, zip := PySem.W.mg_none_of X G b_zip, set := PySem.W.mg_none_of X G b_set, dict := PySem.W.mg_none_of X G b_dict, int := PySem.W.mg_none_of X G b_int, bool := PySem.W.mg_none_of X G b_bool, str := PySem.W.mg_none_of X G b_str }
end V

set_option Elab.async false
set_option linter.all false
set_option maxRecDepth 100000
set_option maxHeartbeats 4000000
/-! What the top has of the classes of refusals. -/
namespace V
open PySem PySem.Spec L2 DL
section
variable {P : Program} {w : World} {K : PySem.W.Frag} {h : Heap} {mg : Str → Option Value} {base : Heap} {f C D CE cc cda : Addr} {x qual nm q : Str} {st : Stmt} {N : Addr} {bs bm sub : List Value} {sn : List Str} {ab : Bool} {col : Option Bool} {dd : Option Addr} {k0 k1 k2 k3 k5 : Option Value}
theorem kit_noR (ne : (C == D) = false) (i : PySem.W.isClsIn K D = true) (t : PySem.W.typeIn K (.ref D) = some (.type "type")) (s : PySem.W.subIn K (.ref C) (.ref D) = some false) : PySem.W.kitOne K (.ref C) (.ref D) = some false := by
  unfold PySem.W.kitOne PySem.W.kitCls
  rw [if_neg (by simpa using ne)]
  dsimp only
  rw [if_pos, s]
  unfold PySem.W.isClsIn at i
  rw [i, t]
  simp
theorem kit_ve (s : PySem.W.subIn K (.ref C) (.type "ValueError") = some true) : PySem.W.kitOne K (.ref C) (.type "ValueError") = some true := by
  unfold PySem.W.kitOne PySem.W.kitCls
  rw [if_neg (by simp)]
  dsimp only
  rw [if_pos (by decide +kernel), s]
theorem exk_mk (g1 : PySem.W.findIn K (.ref C) "__getattribute__" = some (some (.builtin "BaseException.__getattribute__"))) (g2 : PySem.W.findIn K (.ref C) "__getattr__" = some none) (g3 : PySem.W.subIn K (.ref C) (.type "BaseException") = some true) (g4 : PySem.W.hasDictIn K C = true)
    (g5 : PySem.W.findIn K (.ref C) "__class__" = some (some (.builtin "object.__class__"))) (g6 : PySem.W.specialIn K (.builtin "object.__class__") "__get__" = some (some (.builtin "getset_descriptor.__get__"))) (g7 : PySem.W.takesIn K (.builtin "object.__class__") = some true) (g8 : PySem.W.mroIn K C (.type "object") = some true)
    (g9 : PySem.W.findIn K (.ref C) "what" = some none) : ExK K C := ⟨⟨g1, g2, g3, g4, g5, g6, g7, g8⟩, g9⟩
theorem dexc_mk {oc : Value} {od : Option Addr} {dV kV doc pm ct : Value} {an : Option Addr} {osl : Array (Option Value)} {ccl : Value} {cdd : Option Addr} {vs : Array Value} {ccs : Array (Option Value)} {file : Str} {tf : Tok} {cl : Value} {cld : Option Addr} {csl : Array (Option Value)}
    (X0 : ∃ (t : Str) (p0 p1 p2 p3 p4 p5 p6 p7 p8 p9 p10 p11 p12 : Pos) (j : Nat), ExcE qual st t p0 p1 p2 p3 p4 p5 p6 p7 p8 p9 p10 p11 p12 j) (X : K.In h) (G : h.Ns mainGlobals mg) (a : PySem.W.nsIn K mainGlobals x = some (some (.ref C)))
    (c1 : K.lookup C = some (excClassObj nm q C N bs bm true sn sub ab col dd k0 k1 k2 k3 k5 "ValueError.__new__")) (c2 : PySem.HandSPX.refsVE bm = true) (c3 : PySem.W.findIn K (.ref C) "__setattr__" = some (some (.builtin "object.__setattr__"))) (c4 : PySem.W.subIn K (.ref C) (.type "BaseException") = some true) (c5 : PySem.W.typeIn K (.ref C) = some (.type "type")) (c6 : PySem.W.keepIn K (.ref C) = true)
    (i1 : PySem.W.findIn K (.ref C) "__init__" = some (some (.ref f))) (i2 : PySem.W.typeIn K (.ref f) = some (.type "function"))
    (i3 : K.lookup f = some ⟨oc, od, .func (PySem.W.ksFn "__init__" qual (defArgs st) (defBody st) (defScope st) dV kV doc pm an (.ref cda) ct cc), osl⟩) (i4 : PySem.W.codeIn K (.ref cda) qual = true) (i5 : K.lookup cda = some ⟨ccl, cdd, .fields vs, ccs⟩) (i6 : vs[2]? = some (.str file tf)) (i7 : ((P.main.file : Str) == file) = true)
    (i8 : K.lookup cc = some ⟨cl, cld, .cell (some (.ref C)), csl⟩) (s1 : PySem.W.ks_superIn K C C "__init__" = some (some (.builtin "ValueError.__init__"))) (s2 : PySem.W.subIn K (.ref C) (.type "ValueError") = some true) (s3 : PySem.W.mroIn K C (.ref C) = some true) (s4 : PySem.W.nsIn K PySem.cStatics "thirdparty.any" = some none) (s5 : PySem.W.findIn K (.ref C) "what" = some none)
    (s6 : (P.main.scope.names.lookup ("super" : Str)).isSome = false) (s7 : PySem.W.nsIn K mainGlobals "super" = some none)
    (hb : ∀ us : List Value, us.length = 2 → bindArgs (PySem.W.ksFn "__init__" qual (defArgs st) (defBody st) (defScope st) dV kV doc pm an (.ref cda) ct cc) ⟨us, []⟩ = pure ((["self", "what"] : List Str).zip us)) :
    (∀ (w : World) (base : Heap), DexC P w K mg base x C) ∧ mg x = some (.ref C) :=
  have T : ExcI P K C f cc cda qual st := ⟨⟨⟨nm, q, N, bs, bm, sn, sub, ab, col, dd, k0, k1, k2, k3, k5, c1, c2⟩, c3, c4, c5, c6⟩, ⟨_, _, _, _, _, _, _, _, _, i3⟩, i4, ⟨_, _, _, _, _, _, i5, i6, i7⟩, ⟨_, _, _, i8⟩, s1, s2, s3, s4, s5, s6⟩
  let ⟨_, _, _, _, _, _, _, _, _, _, _, _, _, _, _, X0⟩ := X0
  ⟨fun w base => ⟨T.ox, PySem.W.mg_of X G a, f, _, i1, i2, exc_init T i3 (PySem.W.mg_none_of X G s7) X0, .all hb⟩, PySem.W.mg_of X G a⟩
theorem xtab_mk {cRoad cHouse cClash cReport cTale cDays cText : Addr} (X : K.In h) (G : h.Ns mainGlobals mg) (aE : PySem.W.nsIn K mainGlobals "VillageError" = some (some (.ref CE))) (bV : PySem.W.nsIn K mainGlobals "ValueError" = some none) (a1 : PySem.W.nsIn K mainGlobals "NoRoad" = some (some (.ref cRoad))) (a2 : PySem.W.nsIn K mainGlobals "NoHouse" = some (some (.ref cHouse))) (a3 : PySem.W.nsIn K mainGlobals "Clash" = some (some (.ref cClash)))
    (a4 : PySem.W.nsIn K mainGlobals "NoReport" = some (some (.ref cReport))) (a5 : PySem.W.nsIn K mainGlobals "NoTale" = some (some (.ref cTale))) (a6 : PySem.W.nsIn K mainGlobals "NoDays" = some (some (.ref cDays))) (a7 : PySem.W.nsIn K mainGlobals "NoText" = some (some (.ref cText))) : XTab K mg CE cRoad cHouse cClash cReport cTale cDays cText :=
  ⟨PySem.W.mg_of X G aE, PySem.W.mg_none_of X G bV, PySem.W.mg_of X G a1, PySem.W.mg_of X G a2, PySem.W.mg_of X G a3, PySem.W.mg_of X G a4, PySem.W.mg_of X G a5, PySem.W.mg_of X G a6, PySem.W.mg_of X G a7⟩
theorem xcau_mk {others : List Addr} (g1 : PySem.W.findIn K (.ref C) "__getattribute__" = some (some (.builtin "BaseException.__getattribute__"))) (g2 : PySem.W.findIn K (.ref C) "__getattr__" = some none) (g3 : PySem.W.subIn K (.ref C) (.type "BaseException") = some true) (g4 : PySem.W.hasDictIn K C = true)
    (g5 : PySem.W.findIn K (.ref C) "__class__" = some (some (.builtin "object.__class__"))) (g6 : PySem.W.specialIn K (.builtin "object.__class__") "__get__" = some (some (.builtin "getset_descriptor.__get__"))) (g7 : PySem.W.takesIn K (.builtin "object.__class__") = some true) (g8 : PySem.W.mroIn K C (.type "object") = some true)
    (g9 : PySem.W.findIn K (.ref C) "what" = some none) (h1 : PySem.W.subIn K (.ref CE) (.type "BaseException") = some true) (h2 : PySem.W.hasDictIn K CE = true) (h3 : PySem.W.typeIn K (.ref CE) = some (.type "type")) (h4 : PySem.W.subIn K (.ref C) (.ref CE) = some true) (h5 : PySem.W.subIn K (.ref C) (.type "ValueError") = some true)
    (hk : ∀ D ∈ others, PySem.W.kitOne K (.ref C) (.ref D) = some false) : XCau K CE others C := ⟨⟨⟨g1, g2, g3, g4, g5, g6, g7, g8⟩, g9⟩, PySem.W.exm_ref h1 h2 h3 h4, kit_ve h5, hk⟩
end
end V

set_option Elab.async false
set_option linter.all false
set_option maxRecDepth 100000
set_option maxHeartbeats 4000000
namespace V
open PySem PySem.Spec L2 DL
section
variable {K : PySem.W.Frag} {h : Heap} {mg : Str → Option Value} {f C : Addr} {od an : Option Addr} {sl : Array (Option Value)} {oc kV dc pm cd ct : Value}
theorem tf_is_number (X : K.In h) (G : h.Ns mainGlobals mg) (a : PySem.W.nsIn K mainGlobals "is_number" = some (some (.ref f))) (l : K.lookup f = some ⟨oc, od, .func (PySem.W.fnOf "is_number" "is_number" (defArgs s_is_number) (defBody s_is_number) (defScope s_is_number) .none kV dc pm an cd ct), sl⟩) (c : PySem.W.codeIn K cd "is_number" = true) (k : PySem.W.keepIn K (.ref f) = true) : TopFn K mg "is_number" s_is_number p_is_number :=
  ⟨f, _, fun_mk l c k, PySem.W.mg_of X G a, (fun_mk (st := s_is_number) l c k).binds (ps := p_is_number) fun _ _ _ _ _ _ us hl => match us, hl with | [_], _ => rfl⟩
theorem tf_number (X : K.In h) (G : h.Ns mainGlobals mg) (a : PySem.W.nsIn K mainGlobals "number" = some (some (.ref f))) (l : K.lookup f = some ⟨oc, od, .func (PySem.W.fnOf "number" "number" (defArgs s_number) (defBody s_number) (defScope s_number) .none kV dc pm an cd ct), sl⟩) (c : PySem.W.codeIn K cd "number" = true) (k : PySem.W.keepIn K (.ref f) = true) : TopFn K mg "number" s_number p_number :=
  ⟨f, _, fun_mk l c k, PySem.W.mg_of X G a, (fun_mk (st := s_number) l c k).binds (ps := p_number) fun _ _ _ _ _ _ us hl => match us, hl with | [_, _], _ => rfl⟩
theorem tf_read_tale (X : K.In h) (G : h.Ns mainGlobals mg) (a : PySem.W.nsIn K mainGlobals "read_tale" = some (some (.ref f))) (l : K.lookup f = some ⟨oc, od, .func (PySem.W.fnOf "read_tale" "read_tale" (defArgs s_read_tale) (defBody s_read_tale) (defScope s_read_tale) .none kV dc pm an cd ct), sl⟩) (c : PySem.W.codeIn K cd "read_tale" = true) (k : PySem.W.keepIn K (.ref f) = true) : TopFn K mg "read_tale" s_read_tale p_read_tale :=
  ⟨f, _, fun_mk l c k, PySem.W.mg_of X G a, (fun_mk (st := s_read_tale) l c k).binds (ps := p_read_tale) fun _ _ _ _ _ _ us hl => match us, hl with | [_], _ => rfl⟩
theorem tf_law_tray (X : K.In h) (G : h.Ns mainGlobals mg) (a : PySem.W.nsIn K mainGlobals "_law_tray" = some (some (.ref f))) (l : K.lookup f = some ⟨oc, od, .func (PySem.W.fnOf "_law_tray" "_law_tray" (defArgs s_law_tray) (defBody s_law_tray) (defScope s_law_tray) .none kV dc pm an cd ct), sl⟩) (c : PySem.W.codeIn K cd "_law_tray" = true) (k : PySem.W.keepIn K (.ref f) = true) : TopFn K mg "_law_tray" s_law_tray p_law_tray :=
  ⟨f, _, fun_mk l c k, PySem.W.mg_of X G a, (fun_mk (st := s_law_tray) l c k).binds (ps := p_law_tray) fun _ _ _ _ _ _ us hl => match us, hl with | [_], _ => rfl⟩
theorem tf_law_draw (X : K.In h) (G : h.Ns mainGlobals mg) (a : PySem.W.nsIn K mainGlobals "_law_draw" = some (some (.ref f))) (l : K.lookup f = some ⟨oc, od, .func (PySem.W.fnOf "_law_draw" "_law_draw" (defArgs s_law_draw) (defBody s_law_draw) (defScope s_law_draw) .none kV dc pm an cd ct), sl⟩) (c : PySem.W.codeIn K cd "_law_draw" = true) (k : PySem.W.keepIn K (.ref f) = true) : TopFn K mg "_law_draw" s_law_draw p_law_draw :=
  ⟨f, _, fun_mk l c k, PySem.W.mg_of X G a, (fun_mk (st := s_law_draw) l c k).binds (ps := p_law_draw) fun _ _ _ _ _ _ us hl => match us, hl with | [_, _], _ => rfl⟩
theorem tf_law_alike (X : K.In h) (G : h.Ns mainGlobals mg) (a : PySem.W.nsIn K mainGlobals "_law_alike" = some (some (.ref f))) (l : K.lookup f = some ⟨oc, od, .func (PySem.W.fnOf "_law_alike" "_law_alike" (defArgs s_law_alike) (defBody s_law_alike) (defScope s_law_alike) .none kV dc pm an cd ct), sl⟩) (c : PySem.W.codeIn K cd "_law_alike" = true) (k : PySem.W.keepIn K (.ref f) = true) : TopFn K mg "_law_alike" s_law_alike p_law_alike :=
  ⟨f, _, fun_mk l c k, PySem.W.mg_of X G a, (fun_mk (st := s_law_alike) l c k).binds (ps := p_law_alike) fun _ _ _ _ _ _ us hl => match us, hl with | [_, _], _ => rfl⟩
theorem tf_law_kind (X : K.In h) (G : h.Ns mainGlobals mg) (a : PySem.W.nsIn K mainGlobals "_law_kind" = some (some (.ref f))) (l : K.lookup f = some ⟨oc, od, .func (PySem.W.fnOf "_law_kind" "_law_kind" (defArgs s_law_kind) (defBody s_law_kind) (defScope s_law_kind) .none kV dc pm an cd ct), sl⟩) (c : PySem.W.codeIn K cd "_law_kind" = true) (k : PySem.W.keepIn K (.ref f) = true) : TopFn K mg "_law_kind" s_law_kind p_law_kind :=
  ⟨f, _, fun_mk l c k, PySem.W.mg_of X G a, (fun_mk (st := s_law_kind) l c k).binds (ps := p_law_kind) fun _ _ _ _ _ _ us hl => match us, hl with | [_], _ => rfl⟩
theorem tf_law_sign (X : K.In h) (G : h.Ns mainGlobals mg) (a : PySem.W.nsIn K mainGlobals "_law_sign" = some (some (.ref f))) (l : K.lookup f = some ⟨oc, od, .func (PySem.W.fnOf "_law_sign" "_law_sign" (defArgs s_law_sign) (defBody s_law_sign) (defScope s_law_sign) .none kV dc pm an cd ct), sl⟩) (c : PySem.W.codeIn K cd "_law_sign" = true) (k : PySem.W.keepIn K (.ref f) = true) : TopFn K mg "_law_sign" s_law_sign p_law_sign :=
  ⟨f, _, fun_mk l c k, PySem.W.mg_of X G a, (fun_mk (st := s_law_sign) l c k).binds (ps := p_law_sign) fun _ _ _ _ _ _ us hl => match us, hl with | [_], _ => rfl⟩
theorem tf_law_parts_spoilt (X : K.In h) (G : h.Ns mainGlobals mg) (a : PySem.W.nsIn K mainGlobals "_law_parts_spoilt" = some (some (.ref f))) (l : K.lookup f = some ⟨oc, od, .func (PySem.W.fnOf "_law_parts_spoilt" "_law_parts_spoilt" (defArgs s_law_parts_spoilt) (defBody s_law_parts_spoilt) (defScope s_law_parts_spoilt) .none kV dc pm an cd ct), sl⟩) (c : PySem.W.codeIn K cd "_law_parts_spoilt" = true) (k : PySem.W.keepIn K (.ref f) = true) : TopFn K mg "_law_parts_spoilt" s_law_parts_spoilt p_law_parts_spoilt :=
  ⟨f, _, fun_mk l c k, PySem.W.mg_of X G a, (fun_mk (st := s_law_parts_spoilt) l c k).binds (ps := p_law_parts_spoilt) fun _ _ _ _ _ _ us hl => match us, hl with | [_, _, _], _ => rfl⟩
theorem tf_law_spoilt (X : K.In h) (G : h.Ns mainGlobals mg) (a : PySem.W.nsIn K mainGlobals "_law_spoilt" = some (some (.ref f))) (l : K.lookup f = some ⟨oc, od, .func (PySem.W.fnOf "_law_spoilt" "_law_spoilt" (defArgs s_law_spoilt) (defBody s_law_spoilt) (defScope s_law_spoilt) .none kV dc pm an cd ct), sl⟩) (c : PySem.W.codeIn K cd "_law_spoilt" = true) (k : PySem.W.keepIn K (.ref f) = true) : TopFn K mg "_law_spoilt" s_law_spoilt p_law_spoilt :=
  ⟨f, _, fun_mk l c k, PySem.W.mg_of X G a, (fun_mk (st := s_law_spoilt) l c k).binds (ps := p_law_spoilt) fun _ _ _ _ _ _ us hl => match us, hl with | [_, _, _], _ => rfl⟩
theorem tf_law_odd (X : K.In h) (G : h.Ns mainGlobals mg) (a : PySem.W.nsIn K mainGlobals "_law_odd" = some (some (.ref f))) (l : K.lookup f = some ⟨oc, od, .func (PySem.W.fnOf "_law_odd" "_law_odd" (defArgs s_law_odd) (defBody s_law_odd) (defScope s_law_odd) .none kV dc pm an cd ct), sl⟩) (c : PySem.W.codeIn K cd "_law_odd" = true) (k : PySem.W.keepIn K (.ref f) = true) : TopFn K mg "_law_odd" s_law_odd p_law_odd :=
  ⟨f, _, fun_mk l c k, PySem.W.mg_of X G a, (fun_mk (st := s_law_odd) l c k).binds (ps := p_law_odd) fun _ _ _ _ _ _ us hl => match us, hl with | [], _ => rfl⟩
theorem tf_law_numbers (X : K.In h) (G : h.Ns mainGlobals mg) (a : PySem.W.nsIn K mainGlobals "_law_numbers" = some (some (.ref f))) (l : K.lookup f = some ⟨oc, od, .func (PySem.W.fnOf "_law_numbers" "_law_numbers" (defArgs s_law_numbers) (defBody s_law_numbers) (defScope s_law_numbers) .none kV dc pm an cd ct), sl⟩) (c : PySem.W.codeIn K cd "_law_numbers" = true) (k : PySem.W.keepIn K (.ref f) = true) : TopFn K mg "_law_numbers" s_law_numbers p_law_numbers :=
  ⟨f, _, fun_mk l c k, PySem.W.mg_of X G a, (fun_mk (st := s_law_numbers) l c k).binds (ps := p_law_numbers) fun _ _ _ _ _ _ us hl => match us, hl with | [_], _ => rfl⟩
theorem tf_law_number_of (X : K.In h) (G : h.Ns mainGlobals mg) (a : PySem.W.nsIn K mainGlobals "_law_number_of" = some (some (.ref f))) (l : K.lookup f = some ⟨oc, od, .func (PySem.W.fnOf "_law_number_of" "_law_number_of" (defArgs s_law_number_of) (defBody s_law_number_of) (defScope s_law_number_of) .none kV dc pm an cd ct), sl⟩) (c : PySem.W.codeIn K cd "_law_number_of" = true) (k : PySem.W.keepIn K (.ref f) = true) : TopFn K mg "_law_number_of" s_law_number_of p_law_number_of :=
  ⟨f, _, fun_mk l c k, PySem.W.mg_of X G a, (fun_mk (st := s_law_number_of) l c k).binds (ps := p_law_number_of) fun _ _ _ _ _ _ us hl => match us, hl with | [_], _ => rfl⟩
theorem tf_law_tale_of (X : K.In h) (G : h.Ns mainGlobals mg) (a : PySem.W.nsIn K mainGlobals "_law_tale_of" = some (some (.ref f))) (l : K.lookup f = some ⟨oc, od, .func (PySem.W.fnOf "_law_tale_of" "_law_tale_of" (defArgs s_law_tale_of) (defBody s_law_tale_of) (defScope s_law_tale_of) .none kV dc pm an cd ct), sl⟩) (c : PySem.W.codeIn K cd "_law_tale_of" = true) (k : PySem.W.keepIn K (.ref f) = true) : TopFn K mg "_law_tale_of" s_law_tale_of p_law_tale_of :=
  ⟨f, _, fun_mk l c k, PySem.W.mg_of X G a, (fun_mk (st := s_law_tale_of) l c k).binds (ps := p_law_tale_of) fun _ _ _ _ _ _ us hl => match us, hl with | [_], _ => rfl⟩
theorem tf_law_right (X : K.In h) (G : h.Ns mainGlobals mg) (a : PySem.W.nsIn K mainGlobals "_law_right" = some (some (.ref f))) (l : K.lookup f = some ⟨oc, od, .func (PySem.W.fnOf "_law_right" "_law_right" (defArgs s_law_right) (defBody s_law_right) (defScope s_law_right) .none kV dc pm an cd ct), sl⟩) (c : PySem.W.codeIn K cd "_law_right" = true) (k : PySem.W.keepIn K (.ref f) = true) : TopFn K mg "_law_right" s_law_right p_law_right :=
  ⟨f, _, fun_mk l c k, PySem.W.mg_of X G a, (fun_mk (st := s_law_right) l c k).binds (ps := p_law_right) fun _ _ _ _ _ _ us hl => match us, hl with | [_], _ => rfl⟩
abbrev s_NoText_init : Stmt := inClass (top 8) 0
theorem xe_NoText : ∃ (t : Str) (p0 p1 p2 p3 p4 p5 p6 p7 p8 p9 p10 p11 p12 : Pos) (j : Nat), ExcE "NoText.__init__" s_NoText_init t p0 p1 p2 p3 p4 p5 p6 p7 p8 p9 p10 p11 p12 j :=
  ⟨_, _, _, _, _, _, _, _, _, _, _, _, _, _, _, ⟨rfl, by decide +kernel, by decide +kernel, rfl, fun _ _ _ _ => rfl, fun _ _ _ _ => rfl, fun _ _ _ _ => ⟨_, rfl⟩, fun _ _ _ _ => rfl⟩⟩
end
theorem all_mk {l : PySem.W.OpenLaw} {w : World} {K : PySem.W.Frag} {h : Heap} {mg : Str → Option Value} {fa  CE cNoRoad cNoHouse cClash cNoReport cNoTale cNoDays cNoText f4 : Addr} {od4 an4 : Option Addr} {sl4 : Array (Option Value)} {oc4 kV4 dc4 pm4 cd4 ct4 : Value} (X : K.In h) (G : h.Ns mainGlobals mg) (hfa : mg "law" = some (.ref fa))
    (B : Bt mg)
    (F_is_number : TopFn K mg "is_number" s_is_number p_is_number)
    (F_number : TopFn K mg "number" s_number p_number)
    (F_read_tale : TopFn K mg "read_tale" s_read_tale p_read_tale)
    (F_law_tray : TopFn K mg "_law_tray" s_law_tray p_law_tray)
    (F_law_draw : TopFn K mg "_law_draw" s_law_draw p_law_draw)
    (F_law_alike : TopFn K mg "_law_alike" s_law_alike p_law_alike)
    (F_law_kind : TopFn K mg "_law_kind" s_law_kind p_law_kind)
    (F_law_sign : TopFn K mg "_law_sign" s_law_sign p_law_sign)
    (F_law_parts_spoilt : TopFn K mg "_law_parts_spoilt" s_law_parts_spoilt p_law_parts_spoilt)
    (F_law_spoilt : TopFn K mg "_law_spoilt" s_law_spoilt p_law_spoilt)
    (F_law_odd : TopFn K mg "_law_odd" s_law_odd p_law_odd)
    (F_law_numbers : TopFn K mg "_law_numbers" s_law_numbers p_law_numbers)
    (F_law_number_of : TopFn K mg "_law_number_of" s_law_number_of p_law_number_of)
    (F_law_tale_of : TopFn K mg "_law_tale_of" s_law_tale_of p_law_tale_of)
    (F_law_right : TopFn K mg "_law_right" s_law_right p_law_right)
    (XT : XTab K mg CE cNoRoad cNoHouse cClash cNoReport cNoTale cNoDays cNoText)
    (DX_NoText : (∀ (w : World) (base : Heap), DexC l.prog w K mg base "NoText" cNoText) ∧ mg "NoText" = some (.ref cNoText))
    (XC_NoText : XCau K CE [cNoRoad, cNoHouse, cClash, cNoReport, cNoTale, cNoDays] cNoText)
    (a4 : PySem.W.nsIn K mainGlobals "law" = some (some (.ref f4))) (l4 : K.lookup f4 = some ⟨oc4, od4, .func (PySem.W.fnOf "law" "law" (defArgs s_law) (defBody s_law) (defScope s_law) .none kV4 dc4 pm4 an4 cd4 ct4), sl4⟩) (c4 : PySem.W.codeIn K cd4 "law" = true) (k4 : PySem.W.keepIn K (.ref f4) = true) :
    ∃ fd : FuncData, (∀ (s : Shared) (v : Value), BindsTo s fd ⟨[v], []⟩ [("script", v)]) ∧ ∀ base : Heap, K.In base → base.Ns mainGlobals mg → FnOk l.prog w K mg base CX0 6 fa fd ["script"] (toSp K c_law) := by
  have e := hfa.symm.trans (PySem.W.mg_of X G a4)
  cases e
  refine ⟨PySem.W.fnOf "law" "law" (defArgs s_law) (defBody s_law) (defScope s_law) .none kV4 dc4 pm4 an4 cd4 ct4, fun s v => .of_eq rfl, fun base _ _ => ?_⟩
  have x1 := ok_isnumA (P := l.prog) (w := w) (base := base) B F_is_number
  have x2 := ok_numA (P := l.prog) (w := w) (base := base) B F_number x1 (DX_NoText.1 w base)
  have x3 := ok_rtaleA (P := l.prog) (w := w) (base := base) B F_read_tale x2
  have a1 := ok_draw (P := l.prog) (w := w) (base := base) B F_law_draw
  have a2 := ok_tray (P := l.prog) (w := w) (base := base) B F_law_tray
  have a3 := ok_alike (P := l.prog) (w := w) (base := base) B F_law_alike 2
  have a4 := ok_kindT (P := l.prog) (w := w) (base := base) B XT F_law_kind
  have a5 := ok_sign (P := l.prog) (w := w) (base := base) B F_law_sign a1
  have a6 := ok_parts (P := l.prog) (w := w) (base := base) B F_law_parts_spoilt a1
  have a7 := ok_spoilt (P := l.prog) (w := w) (base := base) B F_law_spoilt a1 a5 a6
  have a8 := ok_odd (P := l.prog) (w := w) (base := base) B F_law_odd
  have a9 := ok_lnum (P := l.prog) (w := w) (base := base) B F_law_numbers a1
  have b1 := ok_lno (P := l.prog) (w := w) (base := base) B F_law_number_of
  have b2 := ok_ltale (P := l.prog) (w := w) (base := base) B F_law_tale_of b1
  have b3 := ok_tright (P := l.prog) (w := w) (base := base) B XT XC_NoText F_law_right b2 x3 a3 a4
  exact ok_law B (fun_mk l4 c4 k4) a2 a8 a9 a1 a7 b3
theorem law_start {K : PySem.W.Frag} {H : Hp} {a : Addr} {ns : List Int} (hl : ns.length ≤ 63) (hS : SqL K H a (ns.map V.int)) : toSp K c_law [.ref a] H (fun v _ => v = .bl true) fun _ _ _ => False :=
  ⟨noT H, fun _ => none, [.scr ns], fun d _ => d = .bl true, noX, Good.start, .one (.scr (SqL.noT hS)), ⟨ns, rfl, hl, fun _ => rfl⟩, fun d G' v F' H' e l g i => by
    subst e
    cases i
    rfl, contX_no⟩
theorem walk {l : PySem.W.OpenLaw} {q : Program} {loose : List Str} {XP : (Str → Option Value) → Heap → Prop} {YP : World → Heap → Prop} {d : DefRec} {K : Params → PySem.W.Frag} (hn : l.most = some 63) (hdf : d.params.defaults = [])
    (hY : ∀ (w : World) (h : Heap), YP w h → (K w.params).In h)
    (F : ∀ (w : World) (mg : Str → Option Value) (fa : Addr) (h : Heap), (K w.params).In h → h.Ns mainGlobals mg → mg d.name = some (.ref fa) →
      ∃ fd : FuncData, (∀ (s : Shared) (u : Value), BindsTo s fd ⟨[u], []⟩ [("script", u)]) ∧ ∀ base : Heap, (K w.params).In base → base.Ns mainGlobals mg → FnOk l.prog w (K w.params) mg base CX0 6 fa fd ["script"] (toSp (K w.params) c_law)) :
    PySem.W.WalkO q loose XP YP l.row.toRowW d [] (fun f vs => PySem.call f vs) :=
  L2.walk_of (n := 63) (k := 6) (x := "script") (CX := fun _ => CX0) (sp := fun w => toSp (K w.params) c_law) hn (by decide) hdf ⟨rfl, by decide, by decide⟩ hY F (fun _ _ a ns hl _ hS => law_start hl hS) fun _ _ _ _ _ z => z
end V

set_option Elab.async false
set_option linter.all false
open PySem PySem.W PyProof.Rows
set_option maxRecDepth 100000 in
set_option maxHeartbeats 0 in
theorem PySem.Challenge.cw_movedays_k55_texts_of_no_tale_holds : PySem.Challenge.rw_movedays_k55_texts_of_no_tale.Holds := by
  w_on; o_law; k_head; (case hw => w_witness2)
  k_fill
  refine V.walk (l := PySem.Challenge.rw_movedays_k55_texts_of_no_tale) rfl rfl (fun w h Y => PySem.W.kIn_of Y) ?F
  case F =>
    intro w mg fa h KX G hmg
    refine' V.all_mk KX G hmg (V.bt_mk KX G ?b_len ?b_range ?b_list ?b_tuple ?b_min ?b_max ?b_sum ?b_sorted ?b_all ?b_any ?b_abs ?b_isinstance ?b_enumerate ?b_zip ?b_set ?b_dict ?b_int ?b_bool ?b_str)
      (V.tf_is_number KX G ?af0 ?lf0 ?cf0 ?kf0)
      (V.tf_number KX G ?af1 ?lf1 ?cf1 ?kf1)
      (V.tf_read_tale KX G ?af2 ?lf2 ?cf2 ?kf2)
      (V.tf_law_tray KX G ?af3 ?lf3 ?cf3 ?kf3)
      (V.tf_law_draw KX G ?af4 ?lf4 ?cf4 ?kf4)
      (V.tf_law_alike KX G ?af5 ?lf5 ?cf5 ?kf5)
      (V.tf_law_kind KX G ?af6 ?lf6 ?cf6 ?kf6)
      (V.tf_law_sign KX G ?af7 ?lf7 ?cf7 ?kf7)
      (V.tf_law_parts_spoilt KX G ?af8 ?lf8 ?cf8 ?kf8)
      (V.tf_law_spoilt KX G ?af9 ?lf9 ?cf9 ?kf9)
      (V.tf_law_odd KX G ?af10 ?lf10 ?cf10 ?kf10)
      (V.tf_law_numbers KX G ?af11 ?lf11 ?cf11 ?kf11)
      (V.tf_law_number_of KX G ?af12 ?lf12 ?cf12 ?kf12)
      (V.tf_law_tale_of KX G ?af13 ?lf13 ?cf13 ?kf13)
      (V.tf_law_right KX G ?af14 ?lf14 ?cf14 ?kf14)
      (V.xtab_mk KX G ?xE ?xV ?x1 ?x2 ?x3 ?x4 ?x5 ?x6 ?x7)
      (V.dexc_mk V.xe_NoText KX G ?aNoText ?c1_NoText ?c2_NoText ?c3_NoText ?c4_NoText ?c5_NoText ?c6_NoText ?i1_NoText ?i2_NoText ?i3_NoText ?i4_NoText ?i5_NoText ?i6_NoText ?i7_NoText ?i8_NoText ?s1_NoText ?s2_NoText ?s3_NoText ?s4_NoText ?s5_NoText ?s6_NoText ?s7_NoText ?hbNoText)
      (V.xcau_mk ?g1NoText ?g2NoText ?g3NoText ?g4NoText ?g5NoText ?g6NoText ?g7NoText ?g8NoText ?g9NoText ?h1NoText ?h2NoText ?h3NoText ?h4NoText ?h5NoText (DL.kits_cons (V.kit_noR ?neNoTextNoRoad ?iyNoTextNoRoad ?tyNoTextNoRoad ?syNoTextNoRoad) (DL.kits_cons (V.kit_noR ?neNoTextNoHouse ?iyNoTextNoHouse ?tyNoTextNoHouse ?syNoTextNoHouse) (DL.kits_cons (V.kit_noR ?neNoTextClash ?iyNoTextClash ?tyNoTextClash ?syNoTextClash) (DL.kits_cons (V.kit_noR ?neNoTextNoReport ?iyNoTextNoReport ?tyNoTextNoReport ?syNoTextNoReport) (DL.kits_cons (V.kit_noR ?neNoTextNoTale ?iyNoTextNoTale ?tyNoTextNoTale ?syNoTextNoTale) (DL.kits_cons (V.kit_noR ?neNoTextNoDays ?iyNoTextNoDays ?tyNoTextNoDays ?syNoTextNoDays) DL.kits_nil)))))))
      ?a4
      ?l4
      ?c4
      ?k4
    (case b_len => first | k_is | rfl | decide +kernel)
    (case b_range => first | k_is | rfl | decide +kernel)
    (case b_list => first | k_is | rfl | decide +kernel)
    (case b_tuple => first | k_is | rfl | decide +kernel)
    (case b_min => first | k_is | rfl | decide +kernel)
    (case b_max => first | k_is | rfl | decide +kernel)
    (case b_sum => first | k_is | rfl | decide +kernel)
    (case b_sorted => first | k_is | rfl | decide +kernel)
    (case b_all => first | k_is | rfl | decide +kernel)
    (case b_any => first | k_is | rfl | decide +kernel)
    (case b_abs => first | k_is | rfl | decide +kernel)
    (case b_isinstance => first | k_is | rfl | decide +kernel)
    (case b_enumerate => first | k_is | rfl | decide +kernel)
    (case b_zip => first | k_is | rfl | decide +kernel)
    (case b_set => first | k_is | rfl | decide +kernel)
    (case b_dict => first | k_is | rfl | decide +kernel)
    (case b_int => first | k_is | rfl | decide +kernel)
    (case b_bool => first | k_is | rfl | decide +kernel)
    (case b_str => first | k_is | rfl | decide +kernel)
    (case af0 => first | k_is | rfl | decide +kernel)
    (case lf0 => first | k_is | rfl | decide +kernel)
    (case cf0 => first | k_is | rfl | decide +kernel)
    (case kf0 => first | k_is | rfl | decide +kernel)
    (case af1 => first | k_is | rfl | decide +kernel)
    (case lf1 => first | k_is | rfl | decide +kernel)
    (case cf1 => first | k_is | rfl | decide +kernel)
    (case kf1 => first | k_is | rfl | decide +kernel)
    (case af2 => first | k_is | rfl | decide +kernel)
    (case lf2 => first | k_is | rfl | decide +kernel)
    (case cf2 => first | k_is | rfl | decide +kernel)
    (case kf2 => first | k_is | rfl | decide +kernel)
    (case af3 => first | k_is | rfl | decide +kernel)
    (case lf3 => first | k_is | rfl | decide +kernel)
    (case cf3 => first | k_is | rfl | decide +kernel)
    (case kf3 => first | k_is | rfl | decide +kernel)
    (case af4 => first | k_is | rfl | decide +kernel)
    (case lf4 => first | k_is | rfl | decide +kernel)
    (case cf4 => first | k_is | rfl | decide +kernel)
    (case kf4 => first | k_is | rfl | decide +kernel)
    (case af5 => first | k_is | rfl | decide +kernel)
    (case lf5 => first | k_is | rfl | decide +kernel)
    (case cf5 => first | k_is | rfl | decide +kernel)
    (case kf5 => first | k_is | rfl | decide +kernel)
    (case af6 => first | k_is | rfl | decide +kernel)
    (case lf6 => first | k_is | rfl | decide +kernel)
    (case cf6 => first | k_is | rfl | decide +kernel)
    (case kf6 => first | k_is | rfl | decide +kernel)
    (case af7 => first | k_is | rfl | decide +kernel)
    (case lf7 => first | k_is | rfl | decide +kernel)
    (case cf7 => first | k_is | rfl | decide +kernel)
    (case kf7 => first | k_is | rfl | decide +kernel)
    (case af8 => first | k_is | rfl | decide +kernel)
    (case lf8 => first | k_is | rfl | decide +kernel)
    (case cf8 => first | k_is | rfl | decide +kernel)
    (case kf8 => first | k_is | rfl | decide +kernel)
    (case af9 => first | k_is | rfl | decide +kernel)
    (case lf9 => first | k_is | rfl | decide +kernel)
    (case cf9 => first | k_is | rfl | decide +kernel)
    (case kf9 => first | k_is | rfl | decide +kernel)
    (case af10 => first | k_is | rfl | decide +kernel)
    (case lf10 => first | k_is | rfl | decide +kernel)
    (case cf10 => first | k_is | rfl | decide +kernel)
    (case kf10 => first | k_is | rfl | decide +kernel)
    (case af11 => first | k_is | rfl | decide +kernel)
    (case lf11 => first | k_is | rfl | decide +kernel)
    (case cf11 => first | k_is | rfl | decide +kernel)
    (case kf11 => first | k_is | rfl | decide +kernel)
    (case af12 => first | k_is | rfl | decide +kernel)
    (case lf12 => first | k_is | rfl | decide +kernel)
    (case cf12 => first | k_is | rfl | decide +kernel)
    (case kf12 => first | k_is | rfl | decide +kernel)
    (case af13 => first | k_is | rfl | decide +kernel)
    (case lf13 => first | k_is | rfl | decide +kernel)
    (case cf13 => first | k_is | rfl | decide +kernel)
    (case kf13 => first | k_is | rfl | decide +kernel)
    (case af14 => first | k_is | rfl | decide +kernel)
    (case lf14 => first | k_is | rfl | decide +kernel)
    (case cf14 => first | k_is | rfl | decide +kernel)
    (case kf14 => first | k_is | rfl | decide +kernel)
    (case xE => first | k_is | rfl | decide +kernel)
    (case xV => first | k_is | rfl | decide +kernel)
    (case x1 => first | k_is | rfl | decide +kernel)
    (case x2 => first | k_is | rfl | decide +kernel)
    (case x3 => first | k_is | rfl | decide +kernel)
    (case x4 => first | k_is | rfl | decide +kernel)
    (case x5 => first | k_is | rfl | decide +kernel)
    (case x6 => first | k_is | rfl | decide +kernel)
    (case x7 => first | k_is | rfl | decide +kernel)
    (case aNoText => first | k_is | rfl | decide +kernel)
    (case c1_NoText => first | k_is | rfl | decide +kernel)
    (case c2_NoText => first | k_is | rfl | decide +kernel)
    (case c3_NoText => first | k_is | rfl | decide +kernel)
    (case c4_NoText => first | k_is | rfl | decide +kernel)
    (case c5_NoText => first | k_is | rfl | decide +kernel)
    (case c6_NoText => first | k_is | rfl | decide +kernel)
    (case i1_NoText => first | k_is | rfl | decide +kernel)
    (case i2_NoText => first | k_is | rfl | decide +kernel)
    (case i3_NoText => first | k_is | rfl | decide +kernel)
    (case i4_NoText => first | k_is | rfl | decide +kernel)
    (case i5_NoText => first | k_is | rfl | decide +kernel)
    (case i6_NoText => first | k_is | rfl | decide +kernel)
    (case i7_NoText => first | k_is | rfl | decide +kernel)
    (case i8_NoText => first | k_is | rfl | decide +kernel)
    (case s1_NoText => first | k_is | rfl | decide +kernel)
    (case s2_NoText => first | k_is | rfl | decide +kernel)
    (case s3_NoText => first | k_is | rfl | decide +kernel)
    (case s4_NoText => first | k_is | rfl | decide +kernel)
    (case s5_NoText => first | k_is | rfl | decide +kernel)
    (case s6_NoText => first | k_is | rfl | decide +kernel)
    (case s7_NoText => first | k_is | rfl | decide +kernel)
    (case hbNoText => intro us hl; match us, hl with | [_, _], _ => rfl)
    (case neNoTextNoDays => first | k_is | rfl | decide +kernel)
    (case iyNoTextNoDays => first | k_is | rfl | decide +kernel)
    (case tyNoTextNoDays => first | k_is | rfl | decide +kernel)
    (case syNoTextNoDays => first | k_is | rfl | decide +kernel)
    (case neNoTextNoTale => first | k_is | rfl | decide +kernel)
    (case iyNoTextNoTale => first | k_is | rfl | decide +kernel)
    (case tyNoTextNoTale => first | k_is | rfl | decide +kernel)
    (case syNoTextNoTale => first | k_is | rfl | decide +kernel)
    (case neNoTextNoReport => first | k_is | rfl | decide +kernel)
    (case iyNoTextNoReport => first | k_is | rfl | decide +kernel)
    (case tyNoTextNoReport => first | k_is | rfl | decide +kernel)
    (case syNoTextNoReport => first | k_is | rfl | decide +kernel)
    (case neNoTextClash => first | k_is | rfl | decide +kernel)
    (case iyNoTextClash => first | k_is | rfl | decide +kernel)
    (case tyNoTextClash => first | k_is | rfl | decide +kernel)
    (case syNoTextClash => first | k_is | rfl | decide +kernel)
    (case neNoTextNoHouse => first | k_is | rfl | decide +kernel)
    (case iyNoTextNoHouse => first | k_is | rfl | decide +kernel)
    (case tyNoTextNoHouse => first | k_is | rfl | decide +kernel)
    (case syNoTextNoHouse => first | k_is | rfl | decide +kernel)
    (case neNoTextNoRoad => first | k_is | rfl | decide +kernel)
    (case iyNoTextNoRoad => first | k_is | rfl | decide +kernel)
    (case tyNoTextNoRoad => first | k_is | rfl | decide +kernel)
    (case syNoTextNoRoad => first | k_is | rfl | decide +kernel)
    (case g1NoText => first | k_is | rfl | decide +kernel)
    (case g2NoText => first | k_is | rfl | decide +kernel)
    (case g3NoText => first | k_is | rfl | decide +kernel)
    (case g4NoText => first | k_is | rfl | decide +kernel)
    (case g5NoText => first | k_is | rfl | decide +kernel)
    (case g6NoText => first | k_is | rfl | decide +kernel)
    (case g7NoText => first | k_is | rfl | decide +kernel)
    (case g8NoText => first | k_is | rfl | decide +kernel)
    (case g9NoText => first | k_is | rfl | decide +kernel)
    (case h1NoText => first | k_is | rfl | decide +kernel)
    (case h2NoText => first | k_is | rfl | decide +kernel)
    (case h3NoText => first | k_is | rfl | decide +kernel)
    (case h4NoText => first | k_is | rfl | decide +kernel)
    (case h5NoText => first | k_is | rfl | decide +kernel)
    (case a4 => first | k_is | rfl | decide +kernel)
    (case l4 => first | k_is | rfl | decide +kernel)
    (case c4 => first | k_is | rfl | decide +kernel)
    (case k4 => first | k_is | rfl | decide +kernel)
#print axioms PySem.Challenge.cw_movedays_k55_texts_of_no_tale_holds

