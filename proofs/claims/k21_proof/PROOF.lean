import PyProof.Rows.All
import Wide.All
import OpenK.AllK
import Wide.FinOn
import HandS.ForExc
import HandS.ForMost
import HandS.More
import HandS.Conv
import HandS.SortInts
import HandS.SortRule
import HandS.IsInst
import HandS.ExcCtx
import HandS.SetFor
import HandS.MakeKwOnly
import HandS.Dict
import PySem.Challenge.RW_movedays_k21_moves_refused
import HandS.Style
import HandS.TryOnly
import HandS.Wide
import HandS.Defaults
import HandS.Deep
import KE.DatumOrd
import HandS.Iter
import HandS.FStr
import HandS.FStrTup
import PyProof.ReprNest
import PyProof.ReprUnder
import HandS.Nested
import HandS.ExcInit
import KE.KExcSuper
import KE.KSuper
import HandS.ExcField
import HandS.ExcIs
import KE.KExcIs
import HandS.Hot
import HandS.HotCalls
import HandS.Comp
import KE.DataFind
set_option Elab.async false
set_option linter.all false
set_option maxRecDepth 100000
/-! A layer over the hand layer: values as data (Dt), frozen objects hidden (F), mutable ones by address (G). -/
namespace DL
open PySem PySem.Spec L2

/-- data: what a value is, with all that is frozen below it -/
inductive Dt where
  | non | bl (b : Bool) | int (i : Int) | str (s : Str)
  | lst (xs : List Dt) | tup (xs : List Dt)
  | obj (C : Addr) (ns : List Str) (xs : List Dt)
  | ref (a : Addr)
  /-- the law's own script -/
  | scr (ns : List Int)
  /-- a built-in class -/
  | ty (n : String)
  /-- a table that is filled when asked: row i is rows[i] -/
  | memo (rows : List (List Nat))
  /-- a dict of numbers by numbers that stays as it is -/
  | dk (l : List (Nat × Nat))
  /-- a caught exception: its class, its field what -/
  | exc (C : Addr) (w : Dt)

/-- at a: an exception of the class at C, its dict at d -/
def exg (a C d : Addr) : HO := .ext fun h => ∃ (o : Obj) (vs : Array Value), h.get? a = some o ∧ o.cls = .ref C ∧ o.dict = some d ∧ o.data = .fields vs ∧ vs[2]? = some .none
def kvV (l : List (Nat × Nat)) : List (Key × V) := l.map fun p => (.inl (p.1 : Int), .int (p.2 : Int))
/-- what stands for a table in the frozen heap; no list, tuple or instance -/
def memoR (rows : List (List Nat)) : List (List Key × V) := rows.map fun row => (row.map fun (n : Nat) => (.inl (n : Int) : Key), V.non)
def notM : HO → Bool
  | .dT _ => false
  | _ => true

mutual
/-- the value v is the data d, over the frozen heap F -/
inductive Is (K : PySem.W.Frag) (F : Hp) : V → Dt → Prop
  | non : Is K F .non .non
  | bl (b : Bool) : Is K F (.bl b) (.bl b)
  | int (i : Int) : Is K F (.int i) (.int i)
  | str (x : Str) : Is K F (.str x) (.str x)
  | ref (a : Addr) : Is K F (.ref a) (.ref a)
  | ty (n : String) : Is K F (.ty n) (.ty n)
  | scr {a : Addr} {ns : List Int} : SqL K F a (ns.map V.int) → Is K F (.ref a) (.scr ns)
  | lst {a : Addr} {vs : List V} {ds : List Dt} : F a = some (.lst vs) → IsL K F vs ds → Is K F (.ref a) (.lst ds)
  | tup {a : Addr} {vs : List V} {ds : List Dt} : F a = some (.tup vs) → IsL K F vs ds → Is K F (.ref a) (.tup ds)
  | memo {a : Addr} {rows : List (List Nat)} : F a = some (.dT (memoR rows)) → Is K F (.ref a) (.memo rows)
  | dk {a : Addr} {l : List (Nat × Nat)} : F a = some (.dK (kvV l)) → Is K F (.ref a) (.dk l)
  | exc {a C d : Addr} {v : V} {w : Dt} : F a = some (exg a C d) → F d = some (.xd [("what", v)]) → Is K F v w → Is K F (.ref a) (.exc C w)
  | obj {a C dx : Addr} {fs : List (Str × V)} {ns : List Str} {ds : List Dt} : F a = some (.ins C dx fs) → fs.map (·.1) = ns → IsL K F (fs.map (·.2)) ds → Is K F (.ref a) (.obj C ns ds)
inductive IsL (K : PySem.W.Frag) (F : Hp) : List V → List Dt → Prop
  | nil : IsL K F [] []
  | cons {v : V} {vs : List V} {d : Dt} {ds : List Dt} : Is K F v d → IsL K F vs ds → IsL K F (v :: vs) (d :: ds)
end

def Le (F F' : Hp) : Prop := ∀ a o, F a = some o → F' a = some o
theorem Le.refl (F : Hp) : Le F F := fun _ _ e => e
theorem Le.trans {F F' F'' : Hp} (h : Le F F') (h' : Le F' F'') : Le F F'' := fun a o e => h' a o (h a o e)
theorem Le.upd {F : Hp} {p : Addr} {o : HO} (h : F p = none) : Le F (upd F p o) := fun a u e => by
  rw [upd_ne (ne_of_none e h)]; exact e

section
variable {K : PySem.W.Frag} {F F' : Hp}
theorem Rd.le (h : Le F F') {a : Addr} {u : HO} (r : Rd F a u) : Rd F' a u := r.elim (fun e => .inl (h _ _ e)) fun ⟨o, e⟩ => .inr ⟨o, h _ _ e⟩
theorem SqL.le (h : Le F F') {a : Addr} {xs : List V} (r : SqL K F a xs) : SqL K F' a xs := r.elim (fun e => .inl (Rd.le h e)) .inr
theorem SqT.le (h : Le F F') {a : Addr} {xs : List V} (r : SqT K F a xs) : SqT K F' a xs := r.elim (fun e => .inl (Rd.le h e)) .inr
mutual
theorem Is.le (h : Le F F') : ∀ {v : V} {d : Dt}, Is K F v d → Is K F' v d
  | _, _, .non => .non
  | _, _, .bl b => .bl b
  | _, _, .int i => .int i
  | _, _, .str x => .str x
  | _, _, .ref a => .ref a
  | _, _, .ty n => .ty n
  | _, _, .scr s => .scr (SqL.le h s)
  | _, _, .lst s r => .lst (h _ _ s) (IsL.le h r)
  | _, _, .tup s r => .tup (h _ _ s) (IsL.le h r)
  | _, _, .memo e => .memo (h _ _ e)
  | _, _, .dk e => .dk (h _ _ e)
  | _, _, .exc e1 e2 r => .exc (h _ _ e1) (h _ _ e2) (Is.le h r)
  | _, _, .obj e n r => .obj (h _ _ e) n (IsL.le h r)
theorem IsL.le (h : Le F F') : ∀ {vs : List V} {ds : List Dt}, IsL K F vs ds → IsL K F' vs ds
  | _, _, .nil => .nil
  | _, _, .cons r s => .cons (Is.le h r) (IsL.le h s)
end
theorem IsL.length : ∀ {vs : List V} {ds : List Dt}, IsL K F vs ds → vs.length = ds.length
  | _, _, .nil => rfl
  | _, _, .cons _ s => by simp [IsL.length s]
theorem IsL.get : ∀ {vs : List V} {ds : List Dt} {i : Nat} {d : Dt}, IsL K F vs ds → ds[i]? = some d → ∃ v, vs[i]? = some v ∧ Is K F v d
  | _, _, _, _, .nil, e => by simp at e
  | _, _, 0, _, .cons r _, e => by simp at e; subst e; exact ⟨_, rfl, r⟩
  | _, _, i + 1, _, .cons _ s, e => by
    obtain ⟨v, h1, h2⟩ := IsL.get s (i := i) (by simpa using e)
    exact ⟨v, by simpa using h1, h2⟩
theorem IsL.getV : ∀ {vs : List V} {ds : List Dt} {i : Nat} {v : V}, IsL K F vs ds → vs[i]? = some v → ∃ d, ds[i]? = some d ∧ Is K F v d
  | _, _, _, _, .nil, e => by simp at e
  | _, _, 0, _, .cons r _, e => by simp at e; subst e; exact ⟨_, rfl, r⟩
  | _, _, i + 1, _, .cons _ s, e => by
    obtain ⟨v, h1, h2⟩ := IsL.getV s (i := i) (by simpa using e)
    exact ⟨v, by simpa using h1, h2⟩
theorem IsL.append : ∀ {vs ws : List V} {ds es : List Dt}, IsL K F vs ds → IsL K F ws es → IsL K F (vs ++ ws) (ds ++ es)
  | _, _, _, _, .nil, s => s
  | _, _, _, _, .cons r t, s => .cons r (IsL.append t s)
theorem IsL.one {v : V} {d : Dt} (h : Is K F v d) : IsL K F [v] [d] := .cons h .nil
theorem IsL.set {v : V} {d : Dt} (h : Is K F v d) : ∀ {vs : List V} {ds : List Dt} (i : Nat), IsL K F vs ds → IsL K F (vs.set i v) (ds.set i d)
  | _, _, _, .nil => .nil
  | _, _, 0, .cons _ t => .cons h t
  | _, _, i + 1, .cons r t => .cons r (IsL.set h i t)
theorem IsL.take : ∀ {vs : List V} {ds : List Dt} (n : Nat), IsL K F vs ds → IsL K F (vs.take n) (ds.take n)
  | _, _, 0, _ => .nil
  | _, _, _ + 1, .nil => .nil
  | _, _, n + 1, .cons r t => .cons r (IsL.take n t)
theorem IsL.drop : ∀ {vs : List V} {ds : List Dt} (n : Nat), IsL K F vs ds → IsL K F (vs.drop n) (ds.drop n)
  | _, _, 0, r => r
  | _, _, _ + 1, .nil => .nil
  | _, _, n + 1, .cons _ t => IsL.drop n t
theorem IsL.eraseIdx : ∀ {vs : List V} {ds : List Dt} (n : Nat), IsL K F vs ds → IsL K F (vs.eraseIdx n) (ds.eraseIdx n)
  | _, _, _, .nil => .nil
  | _, _, 0, .cons _ t => t
  | _, _, n + 1, .cons r t => .cons r (IsL.eraseIdx n t)
theorem IsL.reverse : ∀ {vs : List V} {ds : List Dt}, IsL K F vs ds → IsL K F vs.reverse ds.reverse
  | _, _, .nil => .nil
  | _, _, .cons r t => by rw [List.reverse_cons, List.reverse_cons]; exact IsL.append (IsL.reverse t) (.one r)
theorem IsL.dropLast : ∀ {vs : List V} {ds : List Dt}, IsL K F vs ds → IsL K F vs.dropLast ds.dropLast := fun {vs ds} h => by
  rw [List.dropLast_eq_take, List.dropLast_eq_take, h.length]; exact h.take _
theorem IsL.replicate {v : V} {d : Dt} (h : Is K F v d) : ∀ n : Nat, IsL K F (List.replicate n v) (List.replicate n d)
  | 0 => .nil
  | n + 1 => .cons h (IsL.replicate h n)
theorem IsL.ints : ∀ ns : List Int, IsL K F (ns.map V.int) (ns.map Dt.int)
  | [] => .nil
  | n :: ns => .cons (.int n) (IsL.ints ns)
theorem IsL.bls : ∀ ns : List Bool, IsL K F (ns.map V.bl) (ns.map Dt.bl)
  | [] => .nil
  | n :: ns => .cons (.bl n) (IsL.bls ns)
theorem IsL.ints_inv : ∀ {vs : List V} {ns : List Int}, IsL K F vs (ns.map Dt.int) → vs = ns.map V.int
  | [], [], _ => rfl
  | _, n :: ns, h => by
    cases h with
    | cons r t => cases r; rw [IsL.ints_inv t]; rfl
theorem IsL.bls_inv : ∀ {vs : List V} {ns : List Bool}, IsL K F vs (ns.map Dt.bl) → vs = ns.map V.bl
  | [], [], _ => rfl
  | _, n :: ns, h => by
    cases h with
    | cons r t => cases r; rw [IsL.bls_inv t]; rfl
end

/-- a mutable object -/
inductive MO where
  | lst (xs : List Dt)
  | ins (C : Addr) (ns : List Str) (xs : List Dt)
  | dK (kvs : List (Key × Dt))
  /-- just this -/
  | raw (o : HO)
abbrev Gp := Addr → Option MO
def gupd (G : Gp) (a : Addr) (m : MO) : Gp := fun b => if b = a then some m else G b
def gdel (G : Gp) (a : Addr) : Gp := fun b => if b = a then none else G b
theorem gupd_same {G : Gp} {a : Addr} {m : MO} : gupd G a m a = some m := by unfold gupd; rw [if_pos rfl]
theorem gupd_ne {G : Gp} {a b : Addr} {m : MO} (h : b ≠ a) : gupd G a m b = G b := by unfold gupd; rw [if_neg h]
theorem gupd_gupd {G : Gp} {a : Addr} {m n : MO} : gupd (gupd G a m) a n = gupd G a n := by funext b; unfold gupd; split <;> rfl
theorem gdel_ne {G : Gp} {a b : Addr} (h : b ≠ a) : gdel G a b = G b := by unfold gdel; rw [if_neg h]
theorem gdel_same {G : Gp} {a : Addr} : gdel G a a = none := by unfold gdel; rw [if_pos rfl]
theorem gdel_gupd {G : Gp} {a : Addr} {m : MO} (h : G a = none) : gdel (gupd G a m) a = G := by
  funext b; unfold gdel gupd
  by_cases e : b = a
  · rw [if_pos e, e, h]
  · rw [if_neg e, if_neg e]
theorem gne {G : Gp} {a b : Addr} {m : MO} (h : G a = some m) (h' : G b = none) : a ≠ b := by
  intro e; subst e; rw [h] at h'; cases h'

inductive IsK (K : PySem.W.Frag) (F : Hp) : List (Key × V) → List (Key × Dt) → Prop
  | nil : IsK K F [] []
  | cons {k : Key} {v : V} {d : Dt} {r : List (Key × V)} {s : List (Key × Dt)} : Is K F v d → IsK K F r s → IsK K F ((k, v) :: r) ((k, d) :: s)
theorem IsK.le {K : PySem.W.Frag} {F F' : Hp} (h : Le F F') : ∀ {r : List (Key × V)} {s : List (Key × Dt)}, IsK K F r s → IsK K F' r s
  | _, _, .nil => .nil
  | _, _, .cons a b => .cons (Is.le h a) (IsK.le h b)

def MRep (K : PySem.W.Frag) (F : Hp) : HO → MO → Prop
  | .lst vs, .lst ds => IsL K F vs ds
  | .ins C _ fs, .ins C' ns xs => C = C' ∧ fs.map (·.1) = ns ∧ IsL K F (fs.map (·.2)) xs
  | .dK r, .dK s => IsK K F r s
  | o, .raw u => o = u
  | _, _ => False
theorem MRep.le {K : PySem.W.Frag} {F F' : Hp} (h : Le F F') : ∀ {o : HO} {m : MO}, MRep K F o m → MRep K F' o m := fun {o m} r => by
  cases o <;> cases m <;> first
    | exact r.elim
    | exact IsL.le h r
    | exact ⟨r.1, r.2.1, IsL.le h r.2.2⟩
    | exact IsK.le h r
    | exact r

/-- the dict s holds some of the table's rows -/
def MemoOk (F : Hp) (r : List (List Key × V)) (s : List (Key × V)) : Prop := (s.map (·.1)).Nodup ∧ ∀ k v, (k, v) ∈ s → ∃ (i : Nat) (row : List Key × V) (b : Addr), k = .inl (i : Int) ∧ r[i]? = some row ∧ v = .ref b ∧ F b = some (.lst (row.1.map kV))
theorem MemoOk.le {F F' : Hp} {r : List (List Key × V)} {s : List (Key × V)} (h : MemoOk F r s) (l : Le F F') : MemoOk F' r s :=
  ⟨h.1, fun k v m => let ⟨i, row, b, e1, e2, e3, e4⟩ := h.2 k v m; ⟨i, row, b, e1, e2, e3, l _ _ e4⟩⟩
theorem MemoOk.nil {F : Hp} {r : List (List Key × V)} : MemoOk F r [] := ⟨List.nodup_nil, fun _ _ m => (nomatch m)⟩
/-- no table -/
def notMO : MO → Bool
  | .raw o => notM o
  | _ => true
theorem MRep.notM {K : PySem.W.Frag} {F : Hp} {o : HO} {m : MO} (r : MRep K F o m) (hm : notMO m = true) : notM o = true := by
  cases o <;> first
    | rfl
    | (cases m <;> first
        | exact r.elim
        | (cases r; exact hm))
structure Good (K : PySem.W.Frag) (B F : Hp) (G : Gp) (H : Hp) : Prop where
  bs : Le B F
  fz0 : ∀ a o, F a = some o → notM o = true → H a = some o
  mm : ∀ a r, F a = some (.dT r) → ∃ s, H a = some (.dK s) ∧ MemoOk F r s
  mu : ∀ a m, G a = some m → F a = none ∧ ∃ o, H a = some o ∧ MRep K F o m

section
variable {K : PySem.W.Frag} {B F F' : Hp} {G : Gp} {H : Hp} {p : Addr}
theorem Good.fz (g : Good K B F G H) (a : Addr) (o : HO) (e : F a = some o) (h : notM o = true := by rfl) : H a = some o := g.fz0 a o e h
theorem Good.fnone (g : Good K B F G H) (h : H p = none) : F p = none := by
  cases e : F p with
  | none => rfl
  | some o =>
    cases q : notM o with
    | true => rw [g.fz0 _ _ e q] at h; cases h
    | false =>
      cases o with
      | dT r => obtain ⟨s, e', _⟩ := g.mm _ _ e; rw [h] at e'; cases e'
      | _ => cases q
theorem Good.gnone (g : Good K B F G H) (h : H p = none) : G p = none := by
  cases e : G p with
  | none => rfl
  | some m =>
    obtain ⟨_, o, e', _⟩ := g.mu _ _ e
    rw [h] at e'; cases e'
theorem Good.gnoneF {o : HO} (g : Good K B F G H) (h : F p = some o) : G p = none := by
  cases e : G p with
  | none => rfl
  | some m =>
    obtain ⟨e', _⟩ := g.mu _ _ e
    rw [h] at e'; cases e'
theorem Good.sql (g : Good K B F G H) {xs : List V} (h : SqL K F p xs) : SqL K H p xs := h.elim (fun e => .inl (e.elim (fun e => .inl (g.fz _ _ e)) fun ⟨o, e⟩ => .inr ⟨o, g.fz _ _ e⟩)) .inr
/-- a new frozen object -/
theorem Good.newF (g : Good K B F G H) (h : H p = none) (o : HO) (ho : notM o = true := by rfl) : Le F (upd F p o) ∧ Good K B (upd F p o) G (upd H p o) := by
  have l : Le F (upd F p o) := Le.upd (g.fnone h)
  refine ⟨l, g.bs.trans l, fun a u e z => ?_, fun a r e => ?_, fun a m e => ?_⟩
  · by_cases q : a = p
    · subst q; rw [upd_same] at e ⊢; exact e
    · rw [upd_ne q] at e ⊢; exact g.fz0 _ _ e z
  · have q : a ≠ p := fun q => by
      subst q; rw [upd_same] at e; cases e; cases ho
    rw [upd_ne q] at e ⊢
    obtain ⟨s, e1, e2⟩ := g.mm _ _ e
    exact ⟨s, e1, e2.le l⟩
  · have q : a ≠ p := gne e (g.gnone h)
    obtain ⟨e1, o1, e2, r⟩ := g.mu _ _ e
    exact ⟨by rw [upd_ne q]; exact e1, o1, by rw [upd_ne q]; exact e2, r.le l⟩
/-- a new dict, taken for a table that is empty as yet -/
theorem Good.newT (g : Good K B F G H) (h : H p = none) (r : List (List Key × V)) : Le F (upd F p (.dT r)) ∧ Good K B (upd F p (.dT r)) G (upd H p (.dK [])) := by
  have l : Le F (upd F p (.dT r)) := Le.upd (g.fnone h)
  refine ⟨l, g.bs.trans l, fun a u e z => ?_, fun a r' e => ?_, fun a m e => ?_⟩
  · by_cases q : a = p
    · subst q; rw [upd_same] at e; cases e; cases z
    · rw [upd_ne q] at e ⊢; exact g.fz0 _ _ e z
  · by_cases q : a = p
    · subst q; exact ⟨[], upd_same, .nil⟩
    · rw [upd_ne q] at e ⊢
      obtain ⟨s, e1, e2⟩ := g.mm _ _ e
      exact ⟨s, e1, e2.le l⟩
  · have q : a ≠ p := gne e (g.gnone h)
    obtain ⟨e1, o1, e2, r⟩ := g.mu _ _ e
    exact ⟨by rw [upd_ne q]; exact e1, o1, by rw [upd_ne q]; exact e2, r.le l⟩
/-- a table gets a row -/
theorem Good.fillT (g : Good K B F G H) {r : List (List Key × V)} (h : F p = some (.dT r)) {s : List (Key × V)} (hs : MemoOk F r s) : Good K B F G (upd H p (.dK s)) := by
  refine ⟨g.bs, fun a u e z => ?_, fun a r' e => ?_, fun a m e => ?_⟩
  · have q : a ≠ p := fun q => by subst q; rw [h] at e; cases e; cases z
    rw [upd_ne q]; exact g.fz0 _ _ e z
  · by_cases q : a = p
    · subst q; rw [h] at e; cases e; exact ⟨s, upd_same, hs⟩
    · rw [upd_ne q]; exact g.mm _ _ e
  · have q : a ≠ p := gne e (g.gnoneF h)
    obtain ⟨e1, o1, e2, r⟩ := g.mu _ _ e
    exact ⟨e1, o1, by rw [upd_ne q]; exact e2, r⟩
/-- a write where F knows nothing -/
theorem Good.mmN (g : Good K B F G H) (h : F p = none) (o : HO) : ∀ a r, F a = some (.dT r) → ∃ s, upd H p o a = some (.dK s) ∧ MemoOk F r s := fun a r e => by
  have q : a ≠ p := fun q => by subst q; rw [h] at e; cases e
  rw [upd_ne q]; exact g.mm _ _ e
/-- a new object that neither F nor G knows -/
theorem Good.newN (g : Good K B F G H) (h : H p = none) (o : HO) : Good K B F G (upd H p o) := by
  refine ⟨g.bs, fun a u e z => ?_, g.mmN (g.fnone h) o, fun a m e => ?_⟩
  · rw [upd_ne (ne_of_none e (g.fnone h))]; exact g.fz0 _ _ e z
  · have q : a ≠ p := gne e (g.gnone h)
    obtain ⟨e1, o1, e2, r⟩ := g.mu _ _ e
    exact ⟨e1, o1, by rw [upd_ne q]; exact e2, r⟩
/-- a new mutable object -/
theorem Good.newM (g : Good K B F G H) (h : H p = none) {o : HO} {m : MO} (r : MRep K F o m) : Good K B F (gupd G p m) (upd H p o) := by
  refine ⟨g.bs, fun a u e z => ?_, g.mmN (g.fnone h) o, fun a n e => ?_⟩
  · rw [upd_ne (ne_of_none e (g.fnone h))]; exact g.fz0 _ _ e z
  · by_cases q : a = p
    · subst q
      rw [gupd_same] at e; cases e
      exact ⟨g.fnone h, o, upd_same, r⟩
    · rw [gupd_ne q] at e
      obtain ⟨e1, o1, e2, r⟩ := g.mu _ _ e
      exact ⟨e1, o1, by rw [upd_ne q]; exact e2, r⟩
/-- a mutable object is written -/
theorem Good.write (g : Good K B F G H) {m0 : MO} (h : G p = some m0) {o : HO} {m : MO} (r : MRep K F o m) : Good K B F (gupd G p m) (upd H p o) := by
  obtain ⟨f0, o0, h0, _⟩ := g.mu _ _ h
  refine ⟨g.bs, fun a u e z => ?_, g.mmN f0 o, fun a n e => ?_⟩
  · rw [upd_ne (ne_of_none e f0)]; exact g.fz0 _ _ e z
  · by_cases q : a = p
    · subst q
      rw [gupd_same] at e; cases e
      exact ⟨f0, o, upd_same, r⟩
    · rw [gupd_ne q] at e
      obtain ⟨e1, o1, e2, r⟩ := g.mu _ _ e
      exact ⟨e1, o1, by rw [upd_ne q]; exact e2, r⟩
/-- a mutable object is frozen -/
theorem Good.freeze (g : Good K B F G H) {m : MO} (h : G p = some m) (hm : notMO m = true := by rfl) : ∃ o, H p = some o ∧ Le F (upd F p o) ∧ Good K B (upd F p o) (gdel G p) H ∧ MRep K (upd F p o) o m := by
  obtain ⟨f0, o0, h0, r0⟩ := g.mu _ _ h
  have l : Le F (upd F p o0) := Le.upd f0
  refine ⟨o0, h0, l, ⟨g.bs.trans l, fun a u e z => ?_, fun a r e => ?_, fun a n e => ?_⟩, r0.le l⟩
  · by_cases q : a = p
    · subst q; rw [upd_same] at e; cases e; exact h0
    · rw [upd_ne q] at e; exact g.fz0 _ _ e z
  · have q : a ≠ p := fun q => by
      subst q; rw [upd_same] at e; cases e; cases r0.notM hm
    rw [upd_ne q] at e
    obtain ⟨s, e1, e2⟩ := g.mm _ _ e
    exact ⟨s, e1, e2.le l⟩
  · have q : a ≠ p := fun z => by rw [z, gdel_same] at e; cases e
    rw [gdel_ne q] at e
    obtain ⟨e1, o1, e2, r⟩ := g.mu _ _ e
    exact ⟨by rw [upd_ne q]; exact e1, o1, e2, r.le l⟩
theorem Good.freezeL (g : Good K B F G H) {ds : List Dt} (h : G p = some (.lst ds)) : ∃ F', Le F F' ∧ Good K B F' (gdel G p) H ∧ Is K F' (.ref p) (.lst ds) := by
  obtain ⟨o, _, l, g', r⟩ := g.freeze h
  cases o <;> first
    | exact r.elim
    | exact ⟨_, l, g', .lst upd_same r⟩
theorem Good.freezeO (g : Good K B F G H) {C : Addr} {ns : List Str} {ds : List Dt} (h : G p = some (.ins C ns ds)) : ∃ F', Le F F' ∧ Good K B F' (gdel G p) H ∧ Is K F' (.ref p) (.obj C ns ds) := by
  obtain ⟨o, _, l, g', r⟩ := g.freeze h
  cases o <;> first
    | exact r.elim
    | (obtain ⟨rfl, e, r⟩ := r; exact ⟨_, l, g', .obj upd_same e r⟩)
/-- mutable objects may be forgotten -/
theorem Good.sub (g : Good K B F G H) {G' : Gp} (h : ∀ a m, G' a = some m → G a = some m) : Good K B F G' H := ⟨g.bs, g.fz0, g.mm, fun a m e => g.mu a m (h a m e)⟩
theorem Good.mlst (g : Good K B F G H) {ds : List Dt} (h : G p = some (.lst ds)) : ∃ vs, H p = some (.lst vs) ∧ IsL K F vs ds := by
  obtain ⟨_, o, e, r⟩ := g.mu _ _ h
  cases o <;> first
    | exact r.elim
    | exact ⟨_, e, r⟩
theorem Good.mins (g : Good K B F G H) {C : Addr} {ns : List Str} {ds : List Dt} (h : G p = some (.ins C ns ds)) : ∃ dx fs, H p = some (.ins C dx fs) ∧ fs.map (·.1) = ns ∧ IsL K F (fs.map (·.2)) ds := by
  obtain ⟨_, o, e, r⟩ := g.mu _ _ h
  cases o <;> first
    | exact r.elim
    | (obtain ⟨rfl, e', r⟩ := r; exact ⟨_, _, e, e', r⟩)
theorem Good.mdK (g : Good K B F G H) {s : List (Key × Dt)} (h : G p = some (.dK s)) : ∃ r, H p = some (.dK r) ∧ IsK K F r s := by
  obtain ⟨_, o, e, r⟩ := g.mu _ _ h
  cases o <;> first
    | exact r.elim
    | exact ⟨_, e, r⟩
theorem Good.rebase (g : Good K B F G H) : Good K F F G H := ⟨Le.refl F, g.fz0, g.mm, g.mu⟩
theorem Good.unbase (g : Good K F F' G H) (l : Le B F) : Good K B F' G H := ⟨l.trans g.bs, g.fz0, g.mm, g.mu⟩
/-- what the layer knows at the start: all but dicts with keys of tuples -/
def noT (H : Hp) : Hp := fun a => match H a with
  | some o => if notM o = true then some o else none
  | none => none
theorem noT_of {o : HO} (h : H p = some o) (ho : notM o = true) : noT H p = some o := by
  unfold noT; rw [h]; dsimp only; rw [if_pos ho]
theorem of_noT {o : HO} (h : noT H p = some o) : H p = some o ∧ notM o = true := by
  unfold noT at h
  cases e : H p with
  | none => rw [e] at h; cases h
  | some u =>
    rw [e] at h; dsimp only at h
    split at h
    · rename_i q; cases h; exact ⟨rfl, q⟩
    · cases h
theorem Good.start : Good K (noT H) (noT H) (fun _ => none) H := ⟨Le.refl _, fun a o e _ => (of_noT e).1, fun a r e => (nomatch (of_noT e).2), fun _ _ e => (nomatch e)⟩
theorem SqL.noT {xs : List V} (h : SqL K H p xs) : SqL K (DL.noT H) p xs := h.elim (fun e => .inl (e.elim (fun e => .inl (noT_of e rfl)) fun ⟨o, e⟩ => .inr ⟨o, noT_of e rfl⟩)) .inr
end

/-! ### slots -/
abbrev DSt := List (Option Dt)
structure Sl (K : PySem.W.Frag) (F : Hp) (σ : St) (δ : DSt) : Prop where
  len : σ.length = δ.length
  get : ∀ (i : Nat) (d : Dt), δ[i]? = some (some d) → ∃ v, σ[i]? = some (some v) ∧ Is K F v d
section
variable {K : PySem.W.Frag} {F F' : Hp} {σ : St} {δ : DSt}
theorem Sl.le (h : Le F F') (s : Sl K F σ δ) : Sl K F' σ δ := ⟨s.len, fun i d e => let ⟨v, a, b⟩ := s.get i d e; ⟨v, a, b.le h⟩⟩
theorem Sl.set {v : V} {d : Dt} (s : Sl K F σ δ) (i : Nat) (h : Is K F v d) : Sl K F (σ.set i (some v)) (δ.set i (some d)) := by
  refine ⟨by simp [s.len], fun j e q => ?_⟩
  by_cases hj : i = j
  · subst hj
    by_cases hl : i < δ.length
    · rw [List.getElem?_set_self hl] at q
      cases q
      exact ⟨v, List.getElem?_set_self (by rw [s.len]; exact hl), h⟩
    · rw [List.getElem?_eq_none (by simpa using hl)] at q; cases q
  · rw [List.getElem?_set_ne hj] at q ⊢
    exact s.get j e q
theorem Sl.none (s : Sl K F σ δ) (i : Nat) : Sl K F (σ.set i none) (δ.set i none) := by
  refine ⟨by simp [s.len], fun j e q => ?_⟩
  by_cases hj : i = j
  · subst hj
    by_cases hl : i < δ.length
    · rw [List.getElem?_set_self hl] at q; cases q
    · rw [List.getElem?_eq_none (by simpa using hl)] at q; cases q
  · rw [List.getElem?_set_ne hj] at q ⊢
    exact s.get j e q
def dwipe (δ : DSt) : List Nat → DSt
  | [] => δ
  | v :: vs => (dwipe δ vs).set v none
theorem Sl.wipe (s : Sl K F σ δ) : ∀ vs : List Nat, Sl K F (wipe σ vs) (dwipe δ vs)
  | [] => s
  | _ :: vs => (Sl.wipe s vs).none _
/-- what is known of a slot may be forgotten, or changed for another reading of the same value -/
theorem Sl.setD {d : Dt} {i : Nat} (s : Sl K F σ δ) (h : ∀ v, σ[i]? = some (some v) → Is K F v d) (hi : ∃ v, σ[i]? = some (some v)) : Sl K F σ (δ.set i (some d)) := by
  refine ⟨by simp [s.len], fun j e q => ?_⟩
  by_cases hj : i = j
  · subst hj
    by_cases hl : i < δ.length
    · rw [List.getElem?_set_self hl] at q
      cases q
      obtain ⟨v, hv⟩ := hi
      exact ⟨v, hv, h v hv⟩
    · rw [List.getElem?_eq_none (by simpa using hl)] at q; cases q
  · rw [List.getElem?_set_ne hj] at q
    exact s.get j e q
end

/-! ### readings by data -/
abbrev DK := Dt → Gp → Prop
abbrev DTE := DSt → Gp → DK → Prop
abbrev DTT := DSt → Gp → (Bool → Gp → Prop) → Prop
abbrev DTA := DSt → Gp → (List Dt → Gp → Prop) → Prop
structure DEnds where
  nx : DSt → Gp → Prop
  rt : DK
  bk : DSt → Gp → Prop := fun _ _ => False
  ct : DSt → Gp → Prop := fun _ _ => False
abbrev DTS := DEnds → DSt → Gp → Prop

/-- what stands behind an end P: the value's end Q -/
def Cont (K : PySem.W.Frag) (B F : Hp) (P : DK) (Q : VK) : Prop := ∀ d G' v F' H', P d G' → Le F F' → Good K B F' G' H' → Is K F' v d → Q v H'
def ContB (K : PySem.W.Frag) (B F : Hp) (P : Bool → Gp → Prop) (Q : Bool → Hp → Prop) : Prop := ∀ b G' F' H', P b G' → Le F F' → Good K B F' G' H' → Q b H'
def ContA (K : PySem.W.Frag) (B F : Hp) (P : List Dt → Gp → Prop) (Q : List V → Hp → Prop) : Prop := ∀ ds G' vs F' H', P ds G' → Le F F' → Good K B F' G' H' → IsL K F' vs ds → Q vs H'
def ContS (K : PySem.W.Frag) (B F : Hp) (P : DSt → Gp → Prop) (Q : St → Hp → Prop) : Prop := ∀ δ' G' σ' F' H', P δ' G' → Le F F' → Good K B F' G' H' → Sl K F' σ' δ' → Q σ' H'
structure Fits (K : PySem.W.Frag) (B F : Hp) (R : DEnds) (D : Ends) : Prop where
  nx : ContS K B F R.nx D.nx
  rt : Cont K B F R.rt D.rt
  bk : ContS K B F R.bk D.bk
  ct : ContS K B F R.ct D.ct
section
variable {K : PySem.W.Frag} {B F F' : Hp}
theorem Cont.le {P : DK} {Q : VK} (c : Cont K B F P Q) (h : Le F F') : Cont K B F' P Q := fun d G' v F'' H' p l g i => c d G' v F'' H' p (h.trans l) g i
theorem ContB.le {P : Bool → Gp → Prop} {Q : Bool → Hp → Prop} (c : ContB K B F P Q) (h : Le F F') : ContB K B F' P Q := fun d G' F'' H' p l g => c d G' F'' H' p (h.trans l) g
theorem ContA.le {P : List Dt → Gp → Prop} {Q : List V → Hp → Prop} (c : ContA K B F P Q) (h : Le F F') : ContA K B F' P Q := fun d G' v F'' H' p l g i => c d G' v F'' H' p (h.trans l) g i
theorem ContS.le {P : DSt → Gp → Prop} {Q : St → Hp → Prop} (c : ContS K B F P Q) (h : Le F F') : ContS K B F' P Q := fun d G' v F'' H' p l g i => c d G' v F'' H' p (h.trans l) g i
theorem Fits.le {R : DEnds} {D : Ends} (c : Fits K B F R D) (h : Le F F') : Fits K B F' R D := ⟨c.nx.le h, c.rt.le h, c.bk.le h, c.ct.le h⟩
end
def tD (K : PySem.W.Frag) (B : Hp) (t : DTE) : TE := fun σ H Q => ∃ F G δ P, Good K B F G H ∧ Sl K F σ δ ∧ t δ G P ∧ Cont K B F P Q
def tDT (K : PySem.W.Frag) (B : Hp) (t : DTT) : TT := fun σ H Q => ∃ F G δ P, Good K B F G H ∧ Sl K F σ δ ∧ t δ G P ∧ ContB K B F P Q
def tDA (K : PySem.W.Frag) (B : Hp) (t : DTA) : TA := fun σ H Q => ∃ F G δ P, Good K B F G H ∧ Sl K F σ δ ∧ t δ G P ∧ ContA K B F P Q
def tDS (K : PySem.W.Frag) (B : Hp) (t : DTS) : TS := fun D σ H => ∃ F G δ R, Good K B F G H ∧ Sl K F σ δ ∧ t R δ G ∧ Fits K B F R D
abbrev DE (X : Cx) (B : Hp) (e : Expr) (t : DTE) : Prop := PE X e (tD X.K B t)
abbrev DT (X : Cx) (B : Hp) (e : Expr) (t : DTT) : Prop := PT X e (tDT X.K B t)
abbrev DA (X : Cx) (B : Hp) (es : List Expr) (t : DTA) : Prop := PA X es (tDA X.K B t)
abbrev DS (X : Cx) (B : Hp) (st : Stmt) (t : DTS) : Prop := PS X st (tDS X.K B t)
abbrev DSs (X : Cx) (B : Hp) (sts : List Stmt) (t : DTS) : Prop := PSs X sts (tDS X.K B t)

theorem PE.imp {X : Cx} {e : Expr} {t t' : TE} (h : PE X e t) (f : ∀ σ H Q, t' σ H Q → t σ H Q) : PE X e t' := ⟨fun pins s σ H Q I q => h.run pins s σ H Q I (f _ _ _ q)⟩
theorem PT.imp {X : Cx} {e : Expr} {t t' : TT} (h : PT X e t) (f : ∀ σ H Q, t' σ H Q → t σ H Q) : PT X e t' := ⟨fun pins s σ H Q I q => h.run pins s σ H Q I (f _ _ _ q)⟩
theorem PW.imp {X : Cx} {e : Expr} {t t' : TT} (h : PW X e t) (f : ∀ σ H Q, t' σ H Q → t σ H Q) : PW X e t' := ⟨fun wh pins s σ H Q I q => h.run wh pins s σ H Q I (f _ _ _ q)⟩
theorem PA.imp {X : Cx} {es : List Expr} {t t' : TA} (h : PA X es t) (f : ∀ σ H Q, t' σ H Q → t σ H Q) : PA X es t' := ⟨fun pos pins s σ H Q I q => h.run pos pins s σ H Q I (f _ _ _ q)⟩
theorem PS.imp {X : Cx} {e : Stmt} {t t' : TS} (h : PS X e t) (f : ∀ D σ H, t' D σ H → t D σ H) : PS X e t' := ⟨fun pins s σ H D I q => h.run pins s σ H D I (f _ _ _ q)⟩
theorem PSs.imp {X : Cx} {e : List Stmt} {t t' : TS} (h : PSs X e t) (f : ∀ D σ H, t' D σ H → t D σ H) : PSs X e t' := ⟨fun pins s σ H D I q => h.run pins s σ H D I (f _ _ _ q)⟩

/-! ### names, constants -/
section
variable {X : Cx} {B : Hp} {e a b : Expr} {es : List Expr} {pos : Pos} {ta tb te : DTE} {t : DTA}
def dVar (i : Nat) : DTE := fun δ G P => ∃ d, δ[i]? = some (some d) ∧ P d G
def dC (d : Dt) : DTE := fun _ G P => P d G
theorem dv {i : Nat} (h : PE X e (tVar i)) : DE X B e (dVar i) := PE.imp h fun σ H Q ⟨F, G, δ, P, g, s, ⟨d, e, p⟩, c⟩ => by
  obtain ⟨v, e1, r⟩ := s.get i d e
  exact ⟨v, e1, c d G v F H p (Le.refl F) g r⟩
theorem d_int {i j} : DE X B (.Constant (.int i) j pos) (dC (.int i)) := PE.imp pe_int fun σ H Q ⟨F, G, δ, P, g, s, p, c⟩ => c _ G _ F H p (Le.refl F) g (.int i)
theorem d_bl {b j} : DE X B (.Constant (.bool b) j pos) (dC (.bl b)) := PE.imp pe_bl fun σ H Q ⟨F, G, δ, P, g, s, p, c⟩ => c _ G _ F H p (Le.refl F) g (.bl b)
theorem d_non {j} : DE X B (.Constant .none j pos) (dC .non) := PE.imp pe_non fun σ H Q ⟨F, G, δ, P, g, s, p, c⟩ => c _ G _ F H p (Le.refl F) g .non
theorem d_str {x j} : DE X B (.Constant (.str x) j pos) (dC (.str x)) := PE.imp pe_str fun σ H Q ⟨F, G, δ, P, g, s, p, c⟩ => c _ G _ F H p (Le.refl F) g (.str x)

/-! ### argument lists, displays -/
def dNil : DTA := fun _ G P => P [] G
def dCons (te : DTE) (t : DTA) : DTA := fun δ G P => te δ G fun x G1 => t δ G1 fun xs G2 => P (x :: xs) G2
theorem da_nil : DA X B [] dNil := PA.imp pa_nil fun σ H Q ⟨F, G, δ, P, g, s, p, c⟩ => c _ G _ F H p (Le.refl F) g .nil
theorem da_cons (ha : DE X B e te) (hr : DA X B es t) (hs : starEach (e :: es) X.env = (false, eval e X.env) :: starEach es X.env := by rfl) : DA X B (e :: es) (dCons te t) :=
  PA.imp (pa_cons ha hr hs) fun σ H Q ⟨F, G, δ, P, g, s, p, c⟩ =>
    ⟨F, G, δ, _, g, s, p, fun x G1 v F1 H1 p1 l1 g1 r1 => ⟨F1, G1, δ, _, g1, s.le l1, p1, fun xs G2 vs F2 H2 p2 l2 g2 r2 => c _ G2 _ F2 H2 p2 (l1.trans l2) g2 (.cons (r1.le l2) r2)⟩⟩
/-- a new frozen list, a new frozen tuple -/
def dLst (t : DTA) : DTE := fun δ G P => t δ G fun xs G1 => xs.length ≤ sizeLine ∧ P (.lst xs) G1
def dTup (t : DTA) : DTE := fun δ G P => t δ G fun xs G1 => xs.length ≤ sizeLine ∧ P (.tup xs) G1
/-- a new mutable list -/
def dLstM (t : DTA) : DTE := fun δ G P => t δ G fun xs G1 => xs.length ≤ sizeLine ∧ ∀ p, G1 p = none → P (.ref p) (gupd G1 p (.lst xs))
theorem d_lst (h : DA X B es t) : DE X B (.List es pos) (dLst t) := PE.imp (pe_lst h) fun σ H Q ⟨F, G, δ, P, g, s, p, c⟩ =>
  ⟨F, G, δ, _, g, s, p, fun xs G1 vs F1 H1 ⟨z, p1⟩ l1 g1 r1 => ⟨by rw [r1.length]; exact z, fun q hq => by
    obtain ⟨l2, g2⟩ := g1.newF hq (.lst vs)
    exact c _ _ _ _ _ p1 (l1.trans l2) g2 (.lst upd_same (r1.le l2))⟩⟩
theorem d_tup {k} (h : DA X B es t) : DE X B (.Tuple es k pos) (dTup t) := PE.imp (pe_tup h) fun σ H Q ⟨F, G, δ, P, g, s, p, c⟩ =>
  ⟨F, G, δ, _, g, s, p, fun xs G1 vs F1 H1 ⟨z, p1⟩ l1 g1 r1 => ⟨by rw [r1.length]; exact z, fun q hq => by
    obtain ⟨l2, g2⟩ := g1.newF hq (.tup vs)
    exact c _ _ _ _ _ p1 (l1.trans l2) g2 (.tup upd_same (r1.le l2))⟩⟩
theorem d_lstM (h : DA X B es t) : DE X B (.List es pos) (dLstM t) := PE.imp (pe_lst h) fun σ H Q ⟨F, G, δ, P, g, s, p, c⟩ =>
  ⟨F, G, δ, _, g, s, p, fun xs G1 vs F1 H1 ⟨z, p1⟩ l1 g1 r1 => ⟨by rw [r1.length]; exact z, fun q hq =>
    c _ _ _ _ _ (p1 q (g1.gnone hq)) l1 (g1.newM hq (m := .lst xs) r1) (.ref q)⟩⟩

/-! ### operators by data -/
abbrev DR2 := Dt → Dt → Gp → DK → Prop
/-- a rule r' of the hand layer serves the data rule r -/
def Serves (K : PySem.W.Frag) (B : Hp) (r' : R2) (r : DR2) : Prop := ∀ F G H v w x y P Q, Good K B F G H → Is K F v x → Is K F w y → r x y G P → Cont K B F P Q → r' v w H Q
def dOp (r : DR2) (ta tb : DTE) : DTE := fun δ G P => ta δ G fun x G1 => tb δ G1 fun y G2 => r x y G2 P
theorem dop_imp {r' : R2} {r : DR2} (hs : Serves X.K B r' r) : ∀ σ H Q, tD X.K B (dOp r ta tb) σ H Q → tOp r' (tD X.K B ta) (tD X.K B tb) σ H Q := fun σ H Q ⟨F, G, δ, P, g, s, p, c⟩ =>
  ⟨F, G, δ, _, g, s, p, fun x G1 v F1 H1 p1 l1 g1 r1 => ⟨F1, G1, δ, _, g1, s.le l1, p1, fun y G2 w F2 H2 p2 l2 g2 r2 => hs F2 G2 H2 v w x y P Q g2 (r1.le l2) r2 p2 (c.le (l1.trans l2))⟩⟩
structure DOp (X : Cx) (B : Hp) (f : Value → Value → Sem Value) (r : DR2) : Prop where
  ex : ∃ r', OpR X f r' ∧ Serves X.K B r' r
theorem d_op {op : Operator} {r : DR2} (ho : DOp X B (binaryOp op) r) (ha : DE X B a ta) (hb : DE X B b tb) : DE X B (.BinOp a op b pos) (dOp r ta tb) := by
  obtain ⟨r', h1, h2⟩ := ho.ex
  exact PE.imp (pe_op h1 ha hb) (dop_imp h2)
theorem d_cmp {op : CmpOp} {r : DR2} (ho : DOp X B (compareOp op) r) (ha : DE X B a ta) (hb : DE X B b tb) (hm : behindInMarks op b = false) : DE X B (.Compare a [op] [b] pos) (dOp r ta tb) := by
  obtain ⟨r', h1, h2⟩ := ho.ex
  exact PE.imp (pe_cmpR h1 ha hb hm) (dop_imp h2)
/-- an expression whose value is a truth, as a test -/
def dB (t : DTE) : DTT := fun δ G P => t δ G fun x G1 => ∃ c, x = .bl c ∧ P c G1
theorem db_imp {t : DTE} : ∀ σ H Q, tDT X.K B (dB t) σ H Q → tTest (tD X.K B t) σ H Q := fun σ H Q ⟨F, G, δ, P, g, s, p, c⟩ =>
  ⟨F, G, δ, _, g, s, p, fun x G1 v F1 H1 ⟨k, e, p1⟩ l1 g1 r1 => by
    subst e
    cases r1
    exact ⟨k, rfl, c k G1 F1 H1 p1 l1 g1⟩⟩
theorem dt_val {t : DTE} (h : DE X B e t) (he : ∀ whole, isTrue e X.env whole = (do let v ← whole; standAt e.pos; holding [v] (truthy v)) := by intro _; rfl) : DT X B e (dB t) := PT.imp (pt_val h he) db_imp
theorem dt_cmp {op : CmpOp} {r : DR2} (ho : DOp X B (compareOp op) r) (ha : DE X B a ta) (hb : DE X B b tb) (hm : behindInMarks op b = false) : DT X B (.Compare a [op] [b] pos) (dB (dOp r ta tb)) := by
  obtain ⟨r', h1, h2⟩ := ho.ex
  exact PT.imp (pt_cmpR h1 ha hb hm) fun σ H Q ⟨F, G, δ, P, g, s, p, c⟩ => by
    obtain ⟨F', G', δ', P', g', s', p', c'⟩ := db_imp σ H Q ⟨F, G, δ, P, g, s, p, c⟩
    exact dop_imp h2 σ H _ ⟨F', G', δ', P', g', s', p', c'⟩

/-- two ints -/
def r2I (C : Int → Int → Prop) (f : Int → Int → Dt) : DR2 := fun x y G P => ∃ i j, x = .int i ∧ y = .int j ∧ C i j ∧ P (f i j) G
theorem serves_rI {C C' : Int → Int → Prop} {f : Int → Int → Dt} {h : Int → Int → V} {K : PySem.W.Frag} {B : Hp} (hc : ∀ i j, C i j → C' i j) (hv : ∀ i j F, Is K F (h i j) (f i j)) : Serves K B (rI C' h) (r2I C f) := by
  rintro F G H v w x y P Q g rx ry ⟨i, j, rfl, rfl, c, p⟩ k
  cases rx
  cases ry
  exact ⟨i, j, rfl, rfl, hc i j c, k _ G _ F H p (Le.refl F) g (hv i j F)⟩
theorem serves_rI0 {f : Int → Int → Dt} {h : Int → Int → V} {K : PySem.W.Frag} {B : Hp} (hv : ∀ i j F, Is K F (h i j) (f i j)) : Serves K B (rI0 h) (r2I (fun _ _ => True) f) := by
  rintro F G H v w x y P Q g rx ry ⟨i, j, rfl, rfl, c, p⟩ k
  cases rx
  cases ry
  exact ⟨i, j, rfl, rfl, k _ G _ F H p (Le.refl F) g (hv i j F)⟩
def rTrue : Int → Int → Prop := fun _ _ => True
theorem o_add : DOp X B (binaryOp .Add) (r2I (fun _ _ => True) fun i j => .int (i + j)) := ⟨_, op_add, serves_rI0 fun _ _ _ => .int _⟩
theorem o_sub : DOp X B (binaryOp .Sub) (r2I (fun _ _ => True) fun i j => .int (i - j)) := ⟨_, op_sub, serves_rI0 fun _ _ _ => .int _⟩
theorem o_lt : DOp X B (compareOp .Lt) (r2I (fun _ _ => True) fun i j => .bl (decide (i < j))) := ⟨_, op_lt, serves_rI0 fun _ _ _ => .bl _⟩
theorem o_le : DOp X B (compareOp .LtE) (r2I (fun _ _ => True) fun i j => .bl (decide (i ≤ j))) := ⟨_, op_le, serves_rI0 fun _ _ _ => .bl _⟩
theorem o_gt : DOp X B (compareOp .Gt) (r2I (fun _ _ => True) fun i j => .bl (decide (j < i))) := ⟨_, op_gt, serves_rI0 fun _ _ _ => .bl _⟩
theorem o_ge : DOp X B (compareOp .GtE) (r2I (fun _ _ => True) fun i j => .bl (decide (j ≤ i))) := ⟨_, op_ge, serves_rI0 fun _ _ _ => .bl _⟩
theorem o_mul : DOp X B (binaryOp .Mult) (r2I CMul fun i j => .int (i * j)) := ⟨_, op_mul, serves_rI (fun _ _ h => h) fun _ _ _ => .int _⟩
theorem o_fdivN : DOp X B (binaryOp .FloorDiv) (r2I CDivN fun i j => .int (i.fdiv j)) := ⟨_, op_fdivN, serves_rI (fun _ _ h => h) fun _ _ _ => .int _⟩
theorem o_modN : DOp X B (binaryOp .Mod) (r2I (fun _ j => j ≠ 0) fun i j => .int (i.fmod j)) := ⟨_, op_modN, serves_rI (fun _ _ h => h) fun _ _ _ => .int _⟩
theorem o_pow : DOp X B (binaryOp .Pow) (r2I CPow fun i j => .int (i ^ j.toNat)) := ⟨_, op_pow, serves_rI (fun _ _ h => h) fun _ _ _ => .int _⟩
/-- one of two rules -/
theorem OpR.or {f : Value → Value → Sem Value} {r1 r2 : R2} (h1 : OpR X f r1) (h2 : OpR X f r2) : OpR X f (fun x y H Q => r1 x y H Q ∨ r2 x y H Q) := by
  intro pins s σ H x y v u Q I rx ry h
  rcases h with h | h
  · exact h1 pins s σ H x y v u Q I rx ry h
  · exact h2 pins s σ H x y v u Q I rx ry h
theorem DOp.or {f : Value → Value → Sem Value} {r1 r2 : DR2} (h1 : DOp X B f r1) (h2 : DOp X B f r2) : DOp X B f (fun x y G P => r1 x y G P ∨ r2 x y G P) := by
  obtain ⟨q1, a1, b1⟩ := h1.ex
  obtain ⟨q2, a2, b2⟩ := h2.ex
  refine ⟨_, a1.or a2, ?_⟩
  intro F G H v w x y P Q g rx ry h k
  rcases h with h | h
  · exact .inl (b1 F G H v w x y P Q g rx ry h k)
  · exact .inr (b2 F G H v w x y P Q g rx ry h k)
end
end DL

set_option Elab.async false
set_option linter.all false
set_option maxRecDepth 100000
namespace DL
open PySem PySem.Spec L2
section
variable {X : Cx} {B : Hp} {e a b o : Expr} {es : List Expr} {st : Stmt} {rest : List Stmt} {pos : Pos} {ta tb te : DTE} {tl : DTA} {t u : DTS}

/-! ### ghost steps: the same values read otherwise -/
structure Clo (d : Dt) (G : Gp) (d' : Dt) (G' : Gp) : Prop where
  go : ∀ (K : PySem.W.Frag) (B F H : Hp) (v : V), Good K B F G H → Is K F v d → ∃ F', Le F F' ∧ Good K B F' G' H ∧ Is K F' v d'
structure CloS (δ : DSt) (G : Gp) (δ' : DSt) (G' : Gp) : Prop where
  go : ∀ (K : PySem.W.Frag) (B F H : Hp) (σ : L2.St), Good K B F G H → Sl K F σ δ → ∃ F', Le F F' ∧ Good K B F' G' H ∧ Sl K F' σ δ'
theorem Clo.refl {d : Dt} {G : Gp} : Clo d G d G := ⟨fun K B F H v g i => ⟨F, Le.refl F, g, i⟩⟩
theorem Clo.trans {d d1 d2 : Dt} {G G1 G2 : Gp} (a : Clo d G d1 G1) (b : Clo d1 G1 d2 G2) : Clo d G d2 G2 := ⟨fun K B F H v g i => by
  obtain ⟨F1, l1, g1, i1⟩ := a.go K B F H v g i
  obtain ⟨F2, l2, g2, i2⟩ := b.go K B F1 H v g1 i1
  exact ⟨F2, l1.trans l2, g2, i2⟩⟩
theorem Clo.sub {d : Dt} {G G' : Gp} (h : ∀ a m, G' a = some m → G a = some m) : Clo d G d G' := ⟨fun K B F H v g i => ⟨F, Le.refl F, g.sub h, i⟩⟩
theorem Clo.frz {p : Addr} {G : Gp} {ds : List Dt} (h : G p = some (.lst ds)) : Clo (.ref p) G (.lst ds) (gdel G p) := ⟨fun K B F H v g i => by
  cases i
  exact g.freezeL h⟩
theorem Clo.frzO {p C : Addr} {G : Gp} {ns : List Str} {ds : List Dt} (h : G p = some (.ins C ns ds)) : Clo (.ref p) G (.obj C ns ds) (gdel G p) := ⟨fun K B F H v g i => by
  cases i
  exact g.freezeO h⟩
theorem CloS.refl {δ : DSt} {G : Gp} : CloS δ G δ G := ⟨fun K B F H v g i => ⟨F, Le.refl F, g, i⟩⟩
theorem CloS.trans {d d1 d2 : DSt} {G G1 G2 : Gp} (a : CloS d G d1 G1) (b : CloS d1 G1 d2 G2) : CloS d G d2 G2 := ⟨fun K B F H v g i => by
  obtain ⟨F1, l1, g1, i1⟩ := a.go K B F H v g i
  obtain ⟨F2, l2, g2, i2⟩ := b.go K B F1 H v g1 i1
  exact ⟨F2, l1.trans l2, g2, i2⟩⟩
theorem CloS.sub {δ : DSt} {G G' : Gp} (h : ∀ a m, G' a = some m → G a = some m) : CloS δ G δ G' := ⟨fun K B F H v g i => ⟨F, Le.refl F, g.sub h, i⟩⟩
theorem CloS.frz {p : Addr} {G : Gp} {ds : List Dt} {δ : DSt} (i : Nat) (hi : δ[i]? = some (some (.ref p))) (h : G p = some (.lst ds)) : CloS δ G (δ.set i (some (.lst ds))) (gdel G p) := ⟨fun K B F H σ g s => by
  obtain ⟨F', l, g', r⟩ := g.freezeL h
  refine ⟨F', l, g', (s.le l).setD (fun v hv => ?_) ?_⟩
  · obtain ⟨w, e1, e2⟩ := s.get i _ hi
    rw [hv] at e1; cases e1; cases e2
    exact r
  · obtain ⟨w, e1, e2⟩ := s.get i _ hi
    exact ⟨w, e1⟩⟩

/-! ### blocks -/
def dNext : DTS := fun D δ G => D.nx δ G
def dSeq (t u : DTS) : DTS := fun D δ G => t { D with nx := u D } δ G
theorem dss_nil : DSs X B [] dNext := PSs.imp pss_nil fun D σ H ⟨F, G, δ, R, g, s, p, f⟩ => f.nx δ G σ F H p (Le.refl F) g s
theorem Fits.nx' {K : PySem.W.Frag} {B F : Hp} {R : DEnds} {D : Ends} (f : Fits K B F R D) {P : DSt → Gp → Prop} {Q : L2.St → Hp → Prop} (h : ContS K B F P Q) : Fits K B F { R with nx := P } { D with nx := Q } := ⟨h, f.rt, f.bk, f.ct⟩
theorem dss_cons (h1 : DS X B st t) (h2 : DSs X B rest u) : DSs X B (st :: rest) (dSeq t u) := PSs.imp (pss_cons h1 h2) fun D σ H ⟨F, G, δ, R, g, s, p, f⟩ =>
  ⟨F, G, δ, { R with nx := u R }, g, s, p, f.nx' fun δ' G' σ' F' H' p' l' g' s' => ⟨F', G', δ', R, g', s', p', f.le l'⟩⟩
theorem dss_one (h1 : DS X B st t) : DSs X B [st] t := PSs.imp (pss_one h1) fun _ _ _ q => q
/-- a ghost step ahead of a block -/
def dClo (t : DTS) : DTS := fun D δ G => ∃ δ' G', CloS δ G δ' G' ∧ t D δ' G'
theorem dss_clo {sts : List Stmt} (h : DSs X B sts t) : DSs X B sts (dClo t) := PSs.imp h fun D σ H ⟨F, G, δ, R, g, s, ⟨δ', G', c, p⟩, f⟩ => by
  obtain ⟨F', l, g', s'⟩ := c.go _ B F H σ g s
  exact ⟨F', G', δ', R, g', s', p, f.le l⟩
def dDrop (te : DTE) : DTS := fun D δ G => te δ G fun _ G' => D.nx δ G'
theorem ds_expr (he : DE X B e te) (hs : swapsWith e none pos.line X.env = pure false := by rfl) : DS X B (.Expr e pos) (dDrop te) := PS.imp (ps_expr he hs) fun D σ H ⟨F, G, δ, R, g, s, p, f⟩ =>
  ⟨F, G, δ, _, g, s, p, fun d G' v F' H' p' l g' i => f.nx δ G' σ F' H' p' l g' (s.le l)⟩
def dRet (te : DTE) : DTS := fun D δ G => te δ G D.rt
theorem ds_ret (he : DE X B e te) : DS X B (.Return (some e) pos) (dRet te) := PS.imp (ps_ret he) fun D σ H ⟨F, G, δ, R, g, s, p, f⟩ => ⟨F, G, δ, _, g, s, p, f.rt⟩
/-- .. with a ghost step -/
def dCl (P : DK) : DK := fun d G => ∃ d' G', Clo d G d' G' ∧ P d' G'
theorem Cont.cl {K : PySem.W.Frag} {B F : Hp} {P : DK} {Q : VK} (c : Cont K B F P Q) : Cont K B F (dCl P) Q := fun d G v F' H' ⟨d', G', k, p⟩ l g i => by
  obtain ⟨F2, l2, g2, i2⟩ := k.go K B F' H' v g i
  exact c d' G' v F2 H' p (l.trans l2) g2 i2
def dRetC (te : DTE) : DTS := fun D δ G => te δ G (dCl D.rt)
theorem ds_retC (he : DE X B e te) : DS X B (.Return (some e) pos) (dRetC te) := PS.imp (ps_ret he) fun D σ H ⟨F, G, δ, R, g, s, p, f⟩ => ⟨F, G, δ, _, g, s, p, f.rt.cl⟩
def dRetN : DTS := fun D _ G => D.rt .non G
theorem ds_retN : DS X B (.Return none pos) dRetN := PS.imp ps_retN fun D σ H ⟨F, G, δ, R, g, s, p, f⟩ => f.rt _ G _ F H p (Le.refl F) g .non
def dIf (c : DTT) (t u : DTS) : DTS := fun D δ G => c δ G fun b G1 => if b = true then t D δ G1 else u D δ G1
theorem ds_if {c : Expr} {xs ys : List Stmt} {tc : DTT} (hc : DT X B c tc) (ha : DSs X B xs t) (hb : DSs X B ys u) : DS X B (.If c xs ys pos) (dIf tc t u) := PS.imp (ps_if hc ha hb) fun D σ H ⟨F, G, δ, R, g, s, p, f⟩ =>
  ⟨F, G, δ, _, g, s, p, fun b G' F' H' p' l g' => by
    cases b with
    | true => exact ⟨F', G', δ, R, g', s.le l, p', f.le l⟩
    | false => exact ⟨F', G', δ, R, g', s.le l, p', f.le l⟩⟩
def dNever : DTS := fun _ _ _ => False
theorem ds_never : DS X B st dNever := PS.imp ps_never fun D σ H ⟨F, G, δ, R, g, s, p, f⟩ => p.elim
def dBreak : DTS := fun D δ G => D.bk δ G
def dCont : DTS := fun D δ G => D.ct δ G
theorem ds_break : DS X B (.Break pos) dBreak := PS.imp ps_break fun D σ H ⟨F, G, δ, R, g, s, p, f⟩ => f.bk δ G σ F H p (Le.refl F) g s
theorem ds_continue : DS X B (.Continue pos) dCont := PS.imp ps_continue fun D σ H ⟨F, G, δ, R, g, s, p, f⟩ => f.ct δ G σ F H p (Le.refl F) g s
theorem ds_pass : DS X B (.Pass pos) dNext := PS.imp ps_pass fun D σ H ⟨F, G, δ, R, g, s, p, f⟩ => f.nx δ G σ F H p (Le.refl F) g s

/-! ### targets -/
abbrev DTG := Dt → DSt → Gp → (DSt → Gp → Prop) → Prop
abbrev DTGs := List Dt → DSt → Gp → (DSt → Gp → Prop) → Prop
def tDG (K : PySem.W.Frag) (B : Hp) (g : DTG) : TG := fun v σ H Q => ∃ F G δ d R, Good K B F G H ∧ Sl K F σ δ ∧ Is K F v d ∧ g d δ G R ∧ ContS K B F R Q
def tDGs (K : PySem.W.Frag) (B : Hp) (g : DTGs) : TGs := fun vs σ H Q => ∃ F G δ ds R, Good K B F G H ∧ Sl K F σ δ ∧ IsL K F vs ds ∧ g ds δ G R ∧ ContS K B F R Q
abbrev DG (X : Cx) (B : Hp) (tg : Expr) (g : DTG) : Prop := PG X tg (tDG X.K B g)
abbrev DGs (X : Cx) (B : Hp) (tgs : List Expr) (g : DTGs) : Prop := PGs X tgs (tDGs X.K B g)
theorem PG.imp {tg : Expr} {g g' : TG} (h : PG X tg g) (f : ∀ v σ H Q, g' v σ H Q → g v σ H Q) : PG X tg g' := ⟨fun pins s σ H v u Q I r q => h.run pins s σ H v u Q I r (f _ _ _ _ q)⟩
theorem PGs.imp {tg : List Expr} {g g' : TGs} (h : PGs X tg g) (f : ∀ v σ H Q, g' v σ H Q → g v σ H Q) : PGs X tg g' := ⟨fun pins s σ H v u Q I r q => h.run pins s σ H v u Q I r (f _ _ _ _ q)⟩
def dgN (i : Nat) : DTG := fun d δ G R => R (δ.set i (some d)) G
theorem dg_name {i : Nat} {tg : Expr} (h : PG X tg (gName i)) : DG X B tg (dgN i) := PG.imp h fun v σ H Q ⟨F, G, δ, d, R, g, s, i, p, c⟩ => c _ G _ F H p (Le.refl F) g (s.set _ i)
def dgNil : DTGs := fun ds δ G R => ds = [] ∧ R δ G
def dgCons (t : DTG) (u : DTGs) : DTGs := fun ds δ G R => ∃ d r, ds = d :: r ∧ t d δ G fun δ' G' => u r δ' G' R
theorem dgs_nil : DGs X B [] dgNil := PGs.imp pgs_nil fun v σ H Q ⟨F, G, δ, ds, R, g, s, i, ⟨e, p⟩, c⟩ => by
  subst e
  cases i
  exact ⟨rfl, c δ G σ F H p (Le.refl F) g s⟩
theorem dgs_cons {t : DTG} {u : DTGs} (h1 : DG X B e t) (h2 : DGs X B es u) (hs : (assignEach (e :: es) X.env).map (·.2) = assign e X.env :: (assignEach es X.env).map (·.2) := by rfl) : DGs X B (e :: es) (dgCons t u) :=
  PGs.imp (pgs_cons h1 h2 hs) fun v σ H Q ⟨F, G, δ, ds, R, g, s, i, ⟨d, r, e, p⟩, c⟩ => by
    subst e
    cases i with
    | cons i1 i2 => exact ⟨_, _, rfl, F, G, δ, d, _, g, s, i1, p, fun δ' G' σ' F' H' p' l' g' s' => ⟨F', G', δ', r, R, g', s', i2.le l', p', c.le l'⟩⟩
def dgTup (n : Nat) (t : DTGs) : DTG := fun d δ G R => ∃ ds, d = .tup ds ∧ ds.length = n ∧ t ds δ G R
theorem dg_tup {k : Nat} {t : DTGs} {n : Nat} (hc : X.calm = true) (h : DGs X B es t) (hn : (assignEach es X.env).length = n := by rfl) (hst : (assignEach es X.env).findIdx? (·.1) = none := by rfl) : DG X B (.Tuple es k pos) (dgTup n t) :=
  PG.imp (pg_tup hc h hn hst) fun v σ H Q ⟨F, G, δ, d, R, g, s, i, ⟨ds, e, hl, p⟩, c⟩ => by
    subst e
    cases i with
    | tup q r => exact ⟨_, _, rfl, SqT.of (g.fz _ _ q), by rw [r.length]; exact hl, F, G, δ, ds, R, g, s, r, p, c⟩
/-- o[i] = v, by data -/
abbrev DTSet := Dt → Dt → Dt → Gp → (Gp → Prop) → Prop
structure DSet (X : Cx) (B : Hp) (r : DTSet) : Prop where
  ex : ∃ r', PSet X r' ∧ ∀ F G H vo vi v o i d P Q, Good X.K B F G H → Is X.K F vo o → Is X.K F vi i → Is X.K F v d → r o i d G P → (∀ G' F' H', P G' → Le F F' → Good X.K B F' G' H' → Q H') → r' vo vi v H Q
def dgSub (to ti : DTE) (r : DTSet) : DTG := fun d δ G R => to δ G fun o G1 => ti δ G1 fun i G2 => r o i d G2 fun G3 => R δ G3
theorem dg_sub {o i : Expr} {to ti : DTE} {r : DTSet} (ho : DE X B o to) (hi : DE X B i ti) (hs : DSet X B r)
    (ha : ∀ v, assign (.Subscript o i pos) X.env v = (do
      let ov ← holding [v] (eval o X.env)
      let iv ← holding [v, ov] (eval i X.env)
      standAt pos
      holding [v, ov, iv] (setItem ov iv v)
      release [v, ov, iv] []) := by intro _; rfl) : DG X B (.Subscript o i pos) (dgSub to ti r) := by
  obtain ⟨r', h1, h2⟩ := hs.ex
  exact PG.imp (pg_sub ho hi h1 ha) fun v σ H Q ⟨F, G, δ, d, R, g, s, iv, p, c⟩ =>
    ⟨F, G, δ, _, g, s, p, fun x G1 vx F1 H1 p1 l1 g1 r1 => ⟨F1, G1, δ, _, g1, s.le l1, p1, fun y G2 vy F2 H2 p2 l2 g2 r2 =>
      h2 F2 G2 H2 vx vy v x y d _ _ g2 (r1.le l2) r2 (iv.le (l1.trans l2)) p2 fun G3 F3 H3 p3 l3 g3 => c δ G3 σ F3 H3 p3 ((l1.trans l2).trans l3) g3 (s.le ((l1.trans l2).trans l3))⟩⟩
def dAsg (te : DTE) (g : DTG) : DTS := fun D δ G => te δ G fun d G' => g d δ G' D.nx
theorem ds_asg {tg : Expr} {g : DTG} (he : DE X B e te) (hg : DG X B tg g) (hs : swapsWithSole [tg] e pos.line X.env = pure false := by rfl) (hw : swappedStores [tg] e X.env = pure none := by rfl)
    (h1 : (assignEach [tg] X.env).map (·.2) = [assign tg X.env] := by rfl) : DS X B (.Assign [tg] e pos) (dAsg te g) := PS.imp (ps_asg he hg hs hw h1) fun D σ H ⟨F, G, δ, R, gd, s, p, f⟩ =>
  ⟨F, G, δ, _, gd, s, p, fun d G' v F' H' p' l g' i => ⟨F', G', δ, d, _, g', s.le l, i, p', f.nx.le l⟩⟩
def dSt (i : Nat) (te : DTE) : DTS := fun D δ G => te δ G fun d G' => D.nx (δ.set i (some d)) G'
theorem ds_set0 {i : Nat} (te' : TE) (h : PS X st (tAsg te' (gName i))) (hi : ∀ σ H Q, tD X.K B te σ H Q → te' σ H Q) : DS X B st (dSt i te) := PS.imp h fun D σ H ⟨F, G, δ, R, gd, s, p, f⟩ =>
  hi σ H _ ⟨F, G, δ, _, gd, s, p, fun d G' v F' H' p' l g' i => f.nx _ G' _ F' H' p' l g' ((s.le l).set _ i)⟩
theorem ds_set {i : Nat} {x : Str} {pos' : Pos} (hN : X.N.Nodup) (hi : X.N[i]? = some x) (hx : Loc X.env.scope x) (he : DE X B e te) (hs : swapsWith e (some (.Name x pos')) pos.line X.env = pure false := by rfl) (hf : X.fn x = true ∨ X.env.scope.names.lookup x = some .local := by first | exact .inl rfl | exact .inr rfl | assumption) :
    DS X B (.Assign [.Name x pos'] e pos) (dSt i te) := ds_set0 _ (ps_set hN hi hx he hs hf) fun _ _ _ q => q
/-- a, b = x, y -/
def dPar (i j : Nat) (t : DTA) : DTS := fun D δ G => t δ G fun ds G' => ∃ d e, ds = [d, e] ∧ D.nx ((δ.set i (some d)).set j (some e)) G'
theorem ds_par {i j : Nat} (ta' : TA) (h : PS X st (tPar i j ta')) (hi : ∀ σ H Q, tDA X.K B tl σ H Q → ta' σ H Q) : DS X B st (dPar i j tl) := PS.imp h fun D σ H ⟨F, G, δ, R, gd, s, p, f⟩ =>
  hi σ H _ ⟨F, G, δ, _, gd, s, p, fun ds G' vs F' H' ⟨d, e, hd, p'⟩ l g' r => by
    subst hd
    cases r with
    | cons r1 r =>
      cases r with
      | cons r2 r =>
        cases r
        exact ⟨_, _, rfl, f.nx _ G' _ F' H' p' l g' (((s.le l).set _ r1).set _ r2)⟩⟩

/-! ### while -/
def dWhile (c : DTT) (tb : DTS) : DTS := fun D δ G => ∃ W : Nat → DSt → Gp → Prop, (∃ m, W m δ G) ∧ ∀ m δ G, W m δ G →
  c δ G fun b G1 => if b = true then tb { D with nx := fun δ' G' => ∃ m', m' < m ∧ W m' δ' G', ct := fun δ' G' => ∃ m', m' < m ∧ W m' δ' G', bk := D.nx } δ G1 else D.nx δ G1
theorem ds_while {c : Expr} {body : List Stmt} {tc : DTT} (hp : PassesOwn (model X.prog X.w) X.A X.env X.xe) (hc : DT X B c tc) (hb : DSs X B body t) : DS X B (.While c body [] pos) (dWhile tc t) :=
  PS.imp (ps_while hp hc hb) fun D σ H ⟨F, G, δ, R, g, s, ⟨W, ⟨m, w⟩, turn⟩, f⟩ => by
    refine ⟨fun m σ H => ∃ F' G' δ', Le F F' ∧ Good X.K B F' G' H ∧ Sl X.K F' σ δ' ∧ W m δ' G', ⟨m, F, G, δ, Le.refl F, g, s, w⟩, ?_⟩
    rintro m σ H ⟨F1, G1, δ1, l1, g1, s1, w1⟩
    refine ⟨F1, G1, δ1, _, g1, s1, turn m δ1 G1 w1, fun b G2 F2 H2 p2 l2 g2 => ?_⟩
    cases b with
    | true =>
      refine ⟨fun σ' H' => ∃ F' G' δ', Le F F' ∧ Good X.K B F' G' H' ∧ Sl X.K F' σ' δ' ∧ ∃ m', m' < m ∧ W m' δ' G', fun σ' H' ⟨F', G', δ', l, g', s', m', hm, w'⟩ => ⟨m', hm, F', G', δ', l, g', s', w'⟩, ?_⟩
      have l3 := l1.trans l2
      refine ⟨F2, G2, δ1, _, g2, s1.le l2, p2, ⟨fun δ' G' σ' F' H' p' l' g' s' => ?_, f.rt.le l3, f.nx.le l3, fun δ' G' σ' F' H' p' l' g' s' => ?_⟩⟩
      · obtain ⟨m', hm, w'⟩ := p'
        exact ⟨F', G', δ', l3.trans l', g', s', m', hm, w'⟩
      · obtain ⟨m', hm, w'⟩ := p'
        exact ⟨F', G', δ', l3.trans l', g', s', m', hm, w'⟩
    | false => exact f.nx δ1 G2 σ F2 H2 p2 (l1.trans l2) g2 (s1.le l2)

/-! ### what a loop walks -/
structure Dlv (K : PySem.W.Frag) (B F : Hp) (J : It) (ds : List Dt) : Prop where
  go : ∀ i F' G H, Le F F' → Good K B F' G H → i < ds.length → J.go i H
  yl : ∀ i F' G H x H' d, Le F F' → Good K B F' G H → ds[i]? = some d → J.yld i H x H' → ∃ F'', Le F' F'' ∧ Good K B F'' G H' ∧ Is K F'' x d
  st : ∀ i F' G H, Le F F' → Good K B F' G H → ds.length ≤ i → J.stop i H
abbrev DTI := DSt → Gp → (List Dt → Gp → Prop) → Prop
def tDI (K : PySem.W.Frag) (B : Hp) (wi : DTI) : TI := fun σ H R => ∃ F G δ P, Good K B F G H ∧ Sl K F σ δ ∧ wi δ G P ∧ ∀ ds G' F' H' J, P ds G' → Le F F' → Good K B F' G' H' → Dlv K B F' J ds → R J H'
abbrev DI (X : Cx) (B : Hp) (tg iter : Expr) (wi : DTI) : Prop := PI X tg iter (tDI X.K B wi)
theorem PI.imp {tg iter : Expr} {t t' : TI} (h : PI X tg iter t) (f : ∀ σ H Q, t' σ H Q → t σ H Q) : PI X tg iter t' := ⟨fun pins s σ H Q I q => h.run pins s σ H Q I (f _ _ _ q)⟩
def diL (te : DTE) : DTI := fun δ G P => te δ G fun d G1 => ∃ ds, d = .lst ds ∧ P ds G1
theorem di_list {tg : Expr} (h : DE X B e te) : DI X B tg e (diL te) := PI.imp (pi_list h) fun σ H R ⟨F, G, δ, P, g, s, p, c⟩ =>
  ⟨F, G, δ, _, g, s, p, fun d G1 v F1 H1 ⟨ds, e, p1⟩ l1 g1 i1 => by
    subst e
    cases i1 with
    | lst q r => exact ⟨_, rfl, ⟨_, SqL.of (g1.fz _ _ q)⟩, c ds G1 F1 H1 _ p1 l1 g1 ⟨fun i F' G H l g hi => ⟨_, _, SqL.of (g.fz _ _ (l _ _ q)), List.getElem?_eq_getElem (by rw [r.length]; exact hi)⟩,
        fun i F' G H x H' d l g hd ⟨e, hx⟩ => by
          subst e
          have h1 := hx _ (SqL.of (g.fz _ _ (l _ _ q)))
          obtain ⟨v, h2, h3⟩ := r.get hd
          rw [h1] at h2
          cases h2
          exact ⟨F', Le.refl F', g, h3.le l⟩,
        fun i F' G H l g hi => ⟨_, SqL.of (g.fz _ _ (l _ _ q)), by rw [r.length]; exact hi⟩⟩⟩⟩
def diT (te : DTE) : DTI := fun δ G P => te δ G fun d G1 => ∃ ds, d = .tup ds ∧ P ds G1
theorem di_tup {tg : Expr} (h : DE X B e te) : DI X B tg e (diT te) := PI.imp (pi_tup h) fun σ H R ⟨F, G, δ, P, g, s, p, c⟩ =>
  ⟨F, G, δ, _, g, s, p, fun d G1 v F1 H1 ⟨ds, e, p1⟩ l1 g1 i1 => by
    subst e
    cases i1 with
    | tup q r => exact ⟨_, rfl, ⟨_, SqT.of (g1.fz _ _ q)⟩, c ds G1 F1 H1 _ p1 l1 g1 ⟨fun i F' G H l g hi => ⟨_, _, SqT.of (g.fz _ _ (l _ _ q)), List.getElem?_eq_getElem (by rw [r.length]; exact hi)⟩,
        fun i F' G H x H' d l g hd ⟨e, hx⟩ => by
          subst e
          have h1 := hx _ (SqT.of (g.fz _ _ (l _ _ q)))
          obtain ⟨v, h2, h3⟩ := r.get hd
          rw [h1] at h2
          cases h2
          exact ⟨F', Le.refl F', g, h3.le l⟩,
        fun i F' G H l g hi => ⟨_, SqT.of (g.fz _ _ (l _ _ q)), by rw [r.length]; exact hi⟩⟩⟩⟩
/-- the script -/
def diS (te : DTE) : DTI := fun δ G P => te δ G fun d G1 => ∃ ns : List Int, d = .scr ns ∧ P (ns.map Dt.int) G1
theorem di_scr {tg : Expr} (h : DE X B e te) : DI X B tg e (diS te) := PI.imp (pi_list h) fun σ H R ⟨F, G, δ, P, g, s, p, c⟩ =>
  ⟨F, G, δ, _, g, s, p, fun d G1 v F1 H1 ⟨ns, e, p1⟩ l1 g1 i1 => by
    subst e
    cases i1 with
    | scr q => exact ⟨_, rfl, ⟨_, g1.sql q⟩, c _ G1 F1 H1 _ p1 l1 g1 ⟨fun i F' G H l g hi => ⟨_, _, g.sql (SqL.le l q), List.getElem?_eq_getElem (by simpa using hi)⟩,
        fun i F' G H x H' d l g hd ⟨e, hx⟩ => by
          subst e
          have h1 := hx _ (g.sql (SqL.le l q))
          obtain ⟨v, h2, h3⟩ := (IsL.ints (K := X.K) (F := F') ns).get hd
          rw [h1] at h2
          cases h2
          exact ⟨F', Le.refl F', g, h3⟩,
        fun i F' G H l g hi => ⟨_, g.sql (SqL.le l q), by simpa using hi⟩⟩⟩⟩
/-- lo, lo + 1, .. -/
def upto (lo : Int) (n : Nat) : List Dt := (List.range n).map fun (k : Nat) => Dt.int (lo + (k : Int))
theorem upto_length (lo : Int) (n : Nat) : (upto lo n).length = n := by simp [upto]
theorem upto_get {lo : Int} {n i : Nat} {d : Dt} (h : (upto lo n)[i]? = some d) : i < n ∧ d = .int (lo + (i : Int)) := by
  unfold upto at h
  rw [List.getElem?_map] at h
  by_cases hi : i < n
  · rw [List.getElem?_range hi] at h
    cases h
    exact ⟨hi, rfl⟩
  · rw [List.getElem?_eq_none (by simpa using hi)] at h
    cases h
theorem Dlv.rng (K : PySem.W.Frag) (B F : Hp) (lo : Int) (n : Nat) : Dlv K B F (Itr lo n) (upto lo n) where
  go := fun i F' G H l g hi => by rw [upto_length] at hi; exact hi
  yl := fun i F' G H x H' d l g hd ⟨e, hx⟩ => by
    subst e
    obtain ⟨_, rfl⟩ := upto_get hd
    subst hx
    exact ⟨F', Le.refl F', g, .int _⟩
  st := fun i F' G H l g hi => by rw [upto_length] at hi; exact hi
def diR1 (t : DTA) : DTI := fun δ G P => t δ G fun ds G1 => ∃ j, ds = [.int j] ∧ -(2 ^ 62) ≤ j ∧ j < 2 ^ 62 ∧ P (upto 0 j.toNat) G1
theorem di_range1 {tg : Expr} {p : Pos} (hg : Gl X "range") (hm : X.mg "range" = none) (ha : DA X B [a] tl) (hs : starEach [a] X.env = [(false, eval a X.env)] := by rfl) : DI X B tg (.Call (.Name "range" p) [a] [] pos) (diR1 tl) :=
  PI.imp (pi_range1 hg hm ha hs) fun σ H R ⟨F, G, δ, P, g, s, p, c⟩ => ⟨F, G, δ, _, g, s, p, fun ds G1 vs F1 H1 ⟨j, e, h1, h2, p1⟩ l1 g1 i1 => by
    subst e
    cases i1 with
    | cons i1 i2 =>
      cases i1
      cases i2
      exact ⟨j, rfl, h1, h2, c _ G1 F1 H1 _ p1 l1 g1 (Dlv.rng _ _ _ _ _)⟩⟩
def diR2 (t : DTA) : DTI := fun δ G P => t δ G fun ds G1 => ∃ i j, ds = [.int i, .int j] ∧ (-(2 ^ 62) ≤ i ∧ i < 2 ^ 62 ∧ -(2 ^ 62) ≤ j ∧ j < 2 ^ 62) ∧ P (upto i (j - i).toNat) G1
theorem di_range2 {tg : Expr} {p : Pos} (hg : Gl X "range") (hm : X.mg "range" = none) (ha : DA X B [a, b] tl) (hs : starEach [a, b] X.env = [(false, eval a X.env), (false, eval b X.env)] := by rfl) (hs2 : starEach [b] X.env = [(false, eval b X.env)] := by rfl) : DI X B tg (.Call (.Name "range" p) [a, b] [] pos) (diR2 tl) :=
  PI.imp (pi_range2 hg hm ha hs hs2) fun σ H R ⟨F, G, δ, P, g, s, p, c⟩ => ⟨F, G, δ, _, g, s, p, fun ds G1 vs F1 H1 ⟨i, j, e, h1, p1⟩ l1 g1 i1 => by
    subst e
    cases i1 with
    | cons i1 i2 =>
      cases i1
      cases i2 with
      | cons i2 i3 =>
        cases i2
        cases i3
        exact ⟨i, j, rfl, h1, c _ G1 F1 H1 _ p1 l1 g1 (Dlv.rng _ _ _ _ _)⟩⟩

/-! ### for -/
def dFor (wi : DTI) (g : DTG) (tb : DTS) : DTS := fun D δ G => wi δ G fun ds G1 => ∃ W : Nat → DSt → Gp → Prop, W 0 δ G1 ∧
  (∀ i d δ' G', ds[i]? = some d → W i δ' G' → g d δ' G' fun δ2 G2 => tb { D with nx := W (i + 1), ct := W (i + 1), bk := D.nx } δ2 G2) ∧ ∀ δ' G', W ds.length δ' G' → D.nx δ' G'
theorem ds_for {tg iter : Expr} {body : List Stmt} {wi : DTI} {g : DTG} (hp : PassesOwn (model X.prog X.w) X.A X.env X.xe) (hc : X.calm = true) (hi : DI X B tg iter wi) (hg : DG X B tg g) (hb : DSs X B body t)
    (hs : ∀ x, foldedSetIterable iter X.env x = pure x := by intro _; rfl) : DS X B (.For tg iter body [] pos) (dFor wi g t) :=
  PS.imp (ps_for hp hc hi hg hb hs) fun D σ H ⟨F, G, δ, R, gd, s, p, f⟩ => by
    refine ⟨F, G, δ, _, gd, s, p, fun ds G1 F1 H1 J ⟨W, w0, turn, fin⟩ l1 g1 dl => ?_⟩
    refine ⟨fun i m σ H => m = ds.length - i ∧ i ≤ ds.length ∧ ∃ F' G' δ', Le F1 F' ∧ Good X.K B F' G' H ∧ Sl X.K F' σ δ' ∧ W i δ' G', ⟨_, rfl, Nat.zero_le _, F1, G1, δ, Le.refl F1, g1, s.le l1, w0⟩, ?_⟩
    rintro i m σ H ⟨rfl, hi, F2, G2, δ2, l2, g2, s2, w2⟩
    by_cases hlt : i < ds.length
    · refine .inr ⟨dl.go i F2 G2 H l2 g2 hlt, fun σ' H' => ∃ F' G' δ', Le F1 F' ∧ Good X.K B F' G' H' ∧ Sl X.K F' σ' δ' ∧ W (i + 1) δ' G',
        fun σ' H' h => ⟨ds.length - (i + 1), by omega, rfl, hlt, h⟩, fun x H' y => ?_⟩
      obtain ⟨F3, l3, g3, i3⟩ := dl.yl i F2 G2 H x H' _ l2 g2 (List.getElem?_eq_getElem hlt) y
      refine ⟨F3, G2, δ2, _, _, g3, s2.le l3, i3, turn i _ δ2 G2 (List.getElem?_eq_getElem hlt) w2, fun δ4 G4 σ4 F4 H4 p4 l4 g4 s4 => ?_⟩
      have l14 : Le F1 F4 := (l2.trans l3).trans l4
      exact ⟨F4, G4, δ4, _, g4, s4, p4, ⟨fun δ5 G5 σ5 F5 H5 p5 l5 g5 s5 => ⟨F5, G5, δ5, l14.trans l5, g5, s5, p5⟩, f.rt.le (l1.trans l14), f.nx.le (l1.trans l14), fun δ5 G5 σ5 F5 H5 p5 l5 g5 s5 => ⟨F5, G5, δ5, l14.trans l5, g5, s5, p5⟩⟩⟩
    · have e : i = ds.length := by omega
      subst e
      exact .inl ⟨dl.st _ F2 G2 H l2 g2 (Nat.le_refl _), f.nx δ2 G2 σ F2 H (fin δ2 G2 w2) (l1.trans l2) g2 s2⟩

/-- a value read otherwise -/
def dFrz (te : DTE) : DTE := fun δ G P => te δ G (dCl P)
theorem d_frz (h : DE X B e te) : DE X B e (dFrz te) := PE.imp h fun σ H Q ⟨F, G, δ, P, g, s, p, c⟩ => ⟨F, G, δ, _, g, s, p, c.cl⟩

/-! ### comprehensions -/
def dYes : DTT := fun _ G P => P true G
theorem wipe_set {σ : L2.St} {v : Option V} {i : Nat} : ∀ {vs : List Nat}, i ∈ vs → wipe (σ.set i v) vs = wipe σ vs
  | w :: vs, h => by
    show (wipe (σ.set i v) vs).set w none = (wipe σ vs).set w none
    by_cases hv : i ∈ vs
    · rw [wipe_set hv]
    · have hw : i = w := by
        rcases List.mem_cons.mp h with z | z
        · exact z
        · exact absurd z hv
      subst hw
      have : ∀ (vs : List Nat), wipe (σ.set i v) vs = (wipe (σ.set i v) vs) := fun _ => rfl
      clear this h
      have key : ∀ (l : List Nat), i ∉ l → wipe (σ.set i v) l = (wipe σ l).set i v := by
        intro l
        induction l with
        | nil => intro _; rfl
        | cons w l ih =>
          intro hl
          show (wipe (σ.set i v) l).set w none = ((wipe σ l).set w none).set i v
          rw [ih (fun z => hl (List.mem_cons_of_mem _ z)), List.set_comm]
          rintro rfl
          exact hl List.mem_cons_self
      rw [key vs hv, List.set_set]
theorem wipe_wipe {σ : L2.St} (vs : List Nat) : wipe (wipe σ vs) vs = wipe σ vs := by
  have h : ∀ (l : List Nat), (∀ w ∈ l, w ∈ vs) → wipe (wipe σ l) vs = wipe σ vs := by
    intro l
    induction l with
    | nil => intro _; rfl
    | cons w l ih =>
      intro hl
      show wipe ((wipe σ l).set w none) vs = wipe σ vs
      rw [wipe_set (hl w List.mem_cons_self), ih fun z hz => hl z (List.mem_cons_of_mem _ hz)]
  exact h vs fun _ z => z
/-- a target that stores into the block's own slots alone -/
def tDGw (K : PySem.W.Frag) (B : Hp) (vs : List Nat) (g : DTG) : TG := fun v σ H Q => ∃ F G δ d R, Good K B F G H ∧ Sl K F σ δ ∧ Is K F v d ∧ g d δ G R ∧ ∀ δ' G' σ' F' H', R δ' G' → Le F F' → Good K B F' G' H' → Sl K F' σ' δ' → wipe σ' vs = wipe σ vs → Q σ' H'
def tDGsw (K : PySem.W.Frag) (B : Hp) (vs : List Nat) (g : DTGs) : TGs := fun us σ H Q => ∃ F G δ ds R, Good K B F G H ∧ Sl K F σ δ ∧ IsL K F us ds ∧ g ds δ G R ∧ ∀ δ' G' σ' F' H', R δ' G' → Le F F' → Good K B F' G' H' → Sl K F' σ' δ' → wipe σ' vs = wipe σ vs → Q σ' H'
theorem dgw_name {vs : List Nat} {i : Nat} {tg : Expr} (h : PG X tg (gName i)) (hi : i ∈ vs := by decide) : PG X tg (tDGw X.K B vs (dgN i)) := PG.imp h fun v σ H Q ⟨F, G, δ, d, R, g, s, i, p, c⟩ => c _ G _ F H p (Le.refl F) g (s.set _ i) (wipe_set hi)
theorem dgsw_nil {vs : List Nat} : PGs X [] (tDGsw X.K B vs dgNil) := PGs.imp pgs_nil fun v σ H Q ⟨F, G, δ, ds, R, g, s, i, ⟨e, p⟩, c⟩ => by
  subst e
  cases i
  exact ⟨rfl, c δ G σ F H p (Le.refl F) g s rfl⟩
theorem dgsw_cons {vs : List Nat} {t : DTG} {u : DTGs} (h1 : PG X e (tDGw X.K B vs t)) (h2 : PGs X es (tDGsw X.K B vs u)) (hs : (assignEach (e :: es) X.env).map (·.2) = assign e X.env :: (assignEach es X.env).map (·.2) := by rfl) : PGs X (e :: es) (tDGsw X.K B vs (dgCons t u)) :=
  PGs.imp (pgs_cons h1 h2 hs) fun v σ H Q ⟨F, G, δ, ds, R, g, s, i, ⟨d, r, e, p⟩, c⟩ => by
    subst e
    cases i with
    | cons i1 i2 => exact ⟨_, _, rfl, F, G, δ, d, _, g, s, i1, p, fun δ' G' σ' F' H' p' l' g' s' e' => ⟨F', G', δ', r, R, g', s', i2.le l', p', fun δ2 G2 σ2 F2 H2 p2 l2 g2 s2 e2 => c δ2 G2 σ2 F2 H2 p2 (l'.trans l2) g2 s2 (e2.trans e')⟩⟩
theorem dgw_tup {vs : List Nat} {k : Nat} {t : DTGs} {n : Nat} (hc : X.calm = true) (h : PGs X es (tDGsw X.K B vs t)) (hn : (assignEach es X.env).length = n := by rfl) (hst : (assignEach es X.env).findIdx? (·.1) = none := by rfl) : PG X (.Tuple es k pos) (tDGw X.K B vs (dgTup n t)) :=
  PG.imp (pg_tup hc h hn hst) fun v σ H Q ⟨F, G, δ, d, R, g, s, i, ⟨ds, e, hl, p⟩, c⟩ => by
    subst e
    cases i with
    | tup q r => exact ⟨_, _, rfl, SqT.of (g.fz _ _ q), by rw [r.length]; exact hl, F, G, δ, ds, R, g, s, r, p, c⟩
abbrev DTs (X : Cx) (B : Hp) (ifs : List Expr) (t : DTT) : Prop := PTs X ifs (tDT X.K B t)
theorem dts_nil : DTs X B [] dYes := ⟨fun pins s σ H Q I ⟨F, G, δ, P, g, sl, p, c⟩ => pts_nil.run pins s σ H Q I (c true G F H p (Le.refl F) g)⟩
theorem dts_one {c : Expr} {t : DTT} (h : DT X B c t) : DTs X B [c] t := pts_one h
def GLe (G G' : Gp) : Prop := ∀ a m, G a = some m → G' a = some m
theorem GLe.refl (G : Gp) : GLe G G := fun _ _ e => e
theorem GLe.trans {G G' G'' : Gp} (h : GLe G G') (h' : GLe G' G'') : GLe G G'' := fun a m e => h' a m (h a m e)
theorem GLe.gupd {G : Gp} {p : Addr} {m : MO} (h : G p = none) : GLe G (gupd G p m) := fun a n e => by rw [gupd_ne (gne e h)]; exact e
/-- [elt for tg in iter if ..]: D the new list, mutable -/
def dLc (wi : DTI) (g : DTG) (tt : DTT) (te : DTE) (vs : List Nat) : DTE := fun δ G P => wi δ G fun ds G1 => ∀ D, G1 D = none → ∃ W : Nat → List Dt → Gp → Prop, W 0 [] (gupd G1 D (.lst [])) ∧
  (∀ i d acc G', ds[i]? = some d → W i acc G' → g d (dwipe δ vs) G' fun δ2 G2 => tt δ2 G2 fun b G3 => if b = true then te δ2 G3 fun y G4 => G4 D = some (.lst acc) ∧ acc.length < sizeLine ∧ W (i + 1) (acc ++ [y]) (gupd G4 D (.lst (acc ++ [y]))) else W (i + 1) acc G3) ∧
  ∀ acc G', W ds.length acc G' → P (.ref D) G'
/-- .. its element and test change nothing; frozen -/
def dLcP (wi : DTI) (g : DTG) (tt : DTT) (te : DTE) (vs : List Nat) : DTE := fun δ G P => wi δ G fun ds G1 => ds.length < sizeLine ∧ ∃ (p : Dt → Bool) (f : Dt → Dt),
  (∀ d G', d ∈ ds → GLe G1 G' → g d (dwipe δ vs) G' fun δ2 G2 => G2 = G' ∧ tt δ2 G2 fun b G3 => G3 = G' ∧ b = p d ∧ (b = true → te δ2 G3 fun y G4 => G4 = G' ∧ y = f d)) ∧ P (.lst ((ds.filter p).map f)) G1
variable {elt tg iter : Expr} {ifs : List Expr} {scope : Scope} {own : List (Str × Nat)} {wi : DTI} {g : DTG} {tt : DTT}
theorem lc_imp {vs : List Nat} (hinj : ∀ a xs ys (H : Hp), H a = some (HO.lst xs) → H a = some (HO.lst ys) → xs = ys) : ∀ σ H Q, tD X.K B (dLc wi g tt te vs) σ H Q → tLc (tDI X.K B wi) (tDGw X.K B vs g) (tDT X.K B tt) (tD X.K B te) vs σ H Q := fun σ H Q ⟨F, G, δ, P, gd, s, p, c⟩ => by
  refine ⟨F, G, δ, _, gd, s, p, fun ds G1 F1 H1 J h1 l1 g1 dl D hD => ?_⟩
  obtain ⟨W, w0, turn, fin⟩ := h1 D (g1.gnone hD)
  refine ⟨fun i m H => m = ds.length - i ∧ i ≤ ds.length ∧ ∃ F' G' acc, Le F1 F' ∧ Good X.K B F' G' H ∧ W i acc G', ⟨_, rfl, Nat.zero_le _, F1, _, [], Le.refl F1, g1.newM hD (m := .lst []) .nil, w0⟩, ?_⟩
  rintro i m H ⟨rfl, hi, F2, G2, acc, l2, g2, w2⟩
  by_cases hlt : i < ds.length
  · refine .inr ⟨dl.go i F2 G2 H l2 g2 hlt, fun H' => ∃ F' G' acc, Le F1 F' ∧ Good X.K B F' G' H' ∧ W (i + 1) acc G', fun H' h => ⟨ds.length - (i + 1), by omega, rfl, hlt, h⟩, fun x H' y => ?_⟩
    obtain ⟨F3, l3, g3, i3⟩ := dl.yl i F2 G2 H x H' _ l2 g2 (List.getElem?_eq_getElem hlt) y
    have l13 : Le F F3 := (l1.trans l2).trans l3
    refine ⟨F3, G2, _, _, _, g3, (s.le l13).wipe vs, i3, turn i _ acc G2 (List.getElem?_eq_getElem hlt) w2, fun δ4 G4 σ4 F4 H4 p4 l4 g4 s4 e4 => ⟨e4.trans (wipe_wipe vs), ?_⟩⟩
    refine ⟨F4, G4, δ4, _, g4, s4, p4, fun b G5 F5 H5 p5 l5 g5 => ?_⟩
    cases b with
    | true =>
      refine ⟨F5, G5, δ4, _, g5, s4.le l5, p5, fun d G6 v F6 H6 ⟨h6, hz, w6⟩ l6 g6 i6 => ?_⟩
      obtain ⟨vs', e6, r6⟩ := g6.mlst h6
      refine ⟨vs', e6, by rw [r6.length]; exact hz, F6, _, _, ((l2.trans l3).trans l4).trans (l5.trans l6), g6.write h6 (o := .lst (vs' ++ [v])) (m := .lst (acc ++ [d])) (r6.append (.one i6)), w6⟩
    | false => exact ⟨F5, G5, acc, ((l2.trans l3).trans l4).trans l5, g5, p5⟩
  · have e : i = ds.length := by omega
    subst e
    exact .inl ⟨dl.st _ F2 G2 H l2 g2 (Nat.le_refl _), c _ G2 _ F2 H (fin acc G2 w2) (l1.trans l2) g2 (.ref D)⟩
theorem filter_take_succ {α : Type} {p : α → Bool} : ∀ {l : List α} {i : Nat} {x : α}, l[i]? = some x → (l.take (i + 1)).filter p = (l.take i).filter p ++ (if p x = true then [x] else [])
  | [], i, x, h => by simp at h
  | a :: l, 0, x, h => by
    have e : a = x := Option.some.inj h
    subst e
    simp [List.filter_cons]
  | a :: l, i + 1, x, h => by
    have ih := filter_take_succ (p := p) (l := l) (i := i) (x := x) h
    show (a :: l.take (i + 1)).filter p = (a :: l.take i).filter p ++ _
    rw [List.filter_cons, List.filter_cons, ih]
    split <;> rfl
theorem lcP_imp {vs : List Nat} : ∀ σ H Q, tD X.K B (dLcP wi g tt te vs) σ H Q → tLc (tDI X.K B wi) (tDGw X.K B vs g) (tDT X.K B tt) (tD X.K B te) vs σ H Q := fun σ H Q ⟨F, G, δ, P, gd, s, p, c⟩ => by
  refine ⟨F, G, δ, _, gd, s, p, fun ds G1 F1 H1 J ⟨hz, pp, ff, turn, fin⟩ l1 g1 dl D hD => ?_⟩
  have gD := g1.gnone hD
  refine ⟨fun i m H => m = ds.length - i ∧ i ≤ ds.length ∧ ∃ F', Le F1 F' ∧ Good X.K B F' (gupd G1 D (.lst (((ds.take i).filter pp).map ff))) H, ⟨_, rfl, Nat.zero_le _, F1, Le.refl F1, g1.newM hD (m := .lst []) .nil⟩, ?_⟩
  rintro i m H ⟨rfl, hi, F2, l2, g2⟩
  by_cases hlt : i < ds.length
  · have hd := List.getElem?_eq_getElem hlt
    refine .inr ⟨dl.go i F2 _ H l2 g2 hlt, fun H' => ∃ F', Le F1 F' ∧ Good X.K B F' (gupd G1 D (.lst (((ds.take (i + 1)).filter pp).map ff))) H', fun H' h => ⟨ds.length - (i + 1), by omega, rfl, hlt, h⟩, fun x H' y => ?_⟩
    obtain ⟨F3, l3, g3, i3⟩ := dl.yl i F2 _ H x H' _ l2 g2 hd y
    have l13 : Le F F3 := (l1.trans l2).trans l3
    refine ⟨F3, _, _, _, _, g3, (s.le l13).wipe vs, i3, turn _ _ (List.getElem_mem hlt) (GLe.gupd gD), fun δ4 G4 σ4 F4 H4 p4 l4 g4 s4 e4 => ⟨e4.trans (wipe_wipe vs), ?_⟩⟩
    obtain ⟨rfl, p4⟩ := p4
    refine ⟨F4, _, δ4, _, g4, s4, p4, fun b G5 F5 H5 p5 l5 g5 => ?_⟩
    obtain ⟨rfl, hb, p5⟩ := p5
    have lens : (((ds.take i).filter pp).map ff).length < sizeLine := by
      rw [List.length_map]
      refine Nat.lt_of_le_of_lt (Nat.le_trans (List.length_filter_le _ _) ?_) hz
      rw [List.length_take]
      exact Nat.min_le_right _ _
    cases b with
    | true =>
      refine ⟨F5, _, δ4, _, g5, s4.le l5, p5 rfl, fun d G6 v F6 H6 ⟨e6, hy⟩ l6 g6 i6 => ?_⟩
      subst e6
      subst hy
      obtain ⟨vs', e6, r6⟩ := g6.mlst gupd_same
      refine ⟨vs', e6, by rw [r6.length]; exact lens, F6, ((l2.trans l3).trans l4).trans (l5.trans l6), ?_⟩
      have w := g6.write gupd_same (o := .lst (vs' ++ [v])) (m := .lst (((ds.take i).filter pp).map ff ++ [ff ds[i]])) (r6.append (.one i6))
      rw [gupd_gupd] at w
      rw [filter_take_succ hd, if_pos hb.symm, List.map_append]
      exact w
    | false =>
      rw [if_neg Bool.false_ne_true]
      refine ⟨F5, ((l2.trans l3).trans l4).trans l5, ?_⟩
      rw [filter_take_succ hd, if_neg (by rw [← hb]; exact Bool.false_ne_true), List.append_nil]
      exact g5
  · have e : i = ds.length := by omega
    subst e
    rw [List.take_length] at g2
    refine .inl ⟨dl.st _ F2 _ H l2 g2 (Nat.le_refl _), ?_⟩
    obtain ⟨F4, l4, g4, i4⟩ := g2.freezeL gupd_same
    rw [gdel_gupd gD] at g4
    exact c _ G1 _ F4 H fin ((l1.trans l2).trans l4) g4 i4
theorem d_lc (hc : X.calm = true) (hN : X.N.Nodup) (hi : DI X B tg iter wi) (ok : BlkOk X.N X.env.scope scope own)
    (hg : ∀ (s : Shared) (H : Hp) (C : Addr) (cl : List (Str × Addr)) (fp : List Addr), PG (X.blk s H scope (compEnvC scope cl C X.env) fp) tg (tDGw X.K B (own.map (·.2)) g)) (ht : ∀ (s : Shared) (H : Hp) (C : Addr) (cl : List (Str × Addr)) (fp : List Addr), PTs (X.blk s H scope (compEnvC scope cl C X.env) fp) ifs (tDT X.K B tt))
    (he : ∀ (s : Shared) (H : Hp) (C : Addr) (cl : List (Str × Addr)) (fp : List Addr), PE (X.blk s H scope (compEnvC scope cl C X.env) fp) elt (tD X.K B te)) (hs : ∀ x, foldedSetIterable iter X.env x = pure x := by intro _; rfl) :
    DE X B (.ListComp elt [⟨tg, iter, ifs, 0⟩] scope pos) (dLc wi g tt te (own.map (·.2))) := PE.imp (pe_lc hc hN hi ok hg ht he hs) (lc_imp fun a xs ys H h1 h2 => by rw [h1] at h2; cases h2; rfl)
theorem d_lcP (hc : X.calm = true) (hN : X.N.Nodup) (hi : DI X B tg iter wi) (ok : BlkOk X.N X.env.scope scope own)
    (hg : ∀ (s : Shared) (H : Hp) (C : Addr) (cl : List (Str × Addr)) (fp : List Addr), PG (X.blk s H scope (compEnvC scope cl C X.env) fp) tg (tDGw X.K B (own.map (·.2)) g)) (ht : ∀ (s : Shared) (H : Hp) (C : Addr) (cl : List (Str × Addr)) (fp : List Addr), PTs (X.blk s H scope (compEnvC scope cl C X.env) fp) ifs (tDT X.K B tt))
    (he : ∀ (s : Shared) (H : Hp) (C : Addr) (cl : List (Str × Addr)) (fp : List Addr), PE (X.blk s H scope (compEnvC scope cl C X.env) fp) elt (tD X.K B te)) (hs : ∀ x, foldedSetIterable iter X.env x = pure x := by intro _; rfl) :
    DE X B (.ListComp elt [⟨tg, iter, ifs, 0⟩] scope pos) (dLcP wi g tt te (own.map (·.2))) := PE.imp (pe_lc hc hN hi ok hg ht he hs) lcP_imp
/-- name = [..] -/
theorem ds_setLc {i : Nat} {y : Str} {py spos : Pos} (hc : X.calm = true) (hN : X.N.Nodup) (hy : X.N[i]? = some y) (hyl : X.env.scope.names.lookup y = some .local)
    (hsw : swapsWith (.ListComp elt [⟨tg, iter, ifs, 0⟩] scope pos) (some (.Name y py)) spos.line X.env = pure true) (hi : DI X B tg iter wi) (ok : BlkOk X.N X.env.scope scope own)
    (hg : ∀ (s : Shared) (H : Hp) (C : Addr) (cl : List (Str × Addr)) (fp : List Addr), PG (X.blk s H scope (compEnvC scope cl C X.env) fp) tg (tDGw X.K B (own.map (·.2)) g)) (ht : ∀ (s : Shared) (H : Hp) (C : Addr) (cl : List (Str × Addr)) (fp : List Addr), PTs (X.blk s H scope (compEnvC scope cl C X.env) fp) ifs (tDT X.K B tt))
    (he : ∀ (s : Shared) (H : Hp) (C : Addr) (cl : List (Str × Addr)) (fp : List Addr), PE (X.blk s H scope (compEnvC scope cl C X.env) fp) elt (tD X.K B te)) (hs : ∀ x, foldedSetIterable iter X.env x = pure x := by intro _; rfl) :
    DS X B (.Assign [.Name y py] (.ListComp elt [⟨tg, iter, ifs, 0⟩] scope pos) spos) (dSt i (dLc wi g tt te (own.map (·.2)))) :=
  ds_set0 _ (L2.ps_setLc hc hN hy hyl hsw hi ok hg ht he hs) (lc_imp fun a xs ys H h1 h2 => by rw [h1] at h2; cases h2; rfl)
theorem ds_setLcP {i : Nat} {y : Str} {py spos : Pos} (hc : X.calm = true) (hN : X.N.Nodup) (hy : X.N[i]? = some y) (hyl : X.env.scope.names.lookup y = some .local)
    (hsw : swapsWith (.ListComp elt [⟨tg, iter, ifs, 0⟩] scope pos) (some (.Name y py)) spos.line X.env = pure true) (hi : DI X B tg iter wi) (ok : BlkOk X.N X.env.scope scope own)
    (hg : ∀ (s : Shared) (H : Hp) (C : Addr) (cl : List (Str × Addr)) (fp : List Addr), PG (X.blk s H scope (compEnvC scope cl C X.env) fp) tg (tDGw X.K B (own.map (·.2)) g)) (ht : ∀ (s : Shared) (H : Hp) (C : Addr) (cl : List (Str × Addr)) (fp : List Addr), PTs (X.blk s H scope (compEnvC scope cl C X.env) fp) ifs (tDT X.K B tt))
    (he : ∀ (s : Shared) (H : Hp) (C : Addr) (cl : List (Str × Addr)) (fp : List Addr), PE (X.blk s H scope (compEnvC scope cl C X.env) fp) elt (tD X.K B te)) (hs : ∀ x, foldedSetIterable iter X.env x = pure x := by intro _; rfl) :
    DS X B (.Assign [.Name y py] (.ListComp elt [⟨tg, iter, ifs, 0⟩] scope pos) spos) (dSt i (dLcP wi g tt te (own.map (·.2)))) :=
  ds_set0 _ (L2.ps_setLc hc hN hy hyl hsw hi ok hg ht he hs) lcP_imp
end
end DL

set_option Elab.async false
set_option linter.all false
set_option maxRecDepth 100000
namespace DL
open PySem PySem.Spec L2
section
variable {X : Cx} {B : Hp} {e a b o : Expr} {es : List Expr} {st : Stmt} {rest : List Stmt} {pos : Pos} {ta tb te to : DTE} {tl : DTA} {t u : DTS}

/-! ### truth: and, or, not, if-else, chains -/
structure DW (X : Cx) (B : Hp) (e : Expr) (t : DTT) : Prop where
  w : PW X e (tDT X.K B t)
theorem DW.dt {t : DTT} (h : DW X B e t) : DT X B e t := h.w.pt
def dAnd (t u : DTT) : DTT := fun δ G P => t δ G fun c G1 => if c = true then u δ G1 P else P false G1
def dOr (t u : DTT) : DTT := fun δ G P => t δ G fun c G1 => if c = true then P true G1 else u δ G1 P
def dNot (t : DTT) : DTT := fun δ G P => t δ G fun c G1 => P (!c) G1
variable {tA tB : DTT}
theorem dw_and1 (ha : DT X B a tA) : DW X B (.BoolOp .And [a] pos) tA := ⟨pw_and1 ha⟩
theorem dw_or1 (ha : DT X B a tA) : DW X B (.BoolOp .Or [a] pos) tA := ⟨pw_or1 ha⟩
theorem dw_and (ha : DT X B a tA) (hb : DW X B (.BoolOp .And (b :: es) pos) tB) : DW X B (.BoolOp .And (a :: b :: es) pos) (dAnd tA tB) := ⟨PW.imp (pw_and ha hb.w) fun σ H Q ⟨F, G, δ, P, g, s, p, c⟩ =>
  ⟨F, G, δ, _, g, s, p, fun k G' F' H' p' l g' => by
    cases k with
    | true => exact ⟨F', G', δ, P, g', s.le l, p', c.le l⟩
    | false => exact c false G' F' H' p' l g'⟩⟩
theorem dw_or (ha : DT X B a tA) (hb : DW X B (.BoolOp .Or (b :: es) pos) tB) : DW X B (.BoolOp .Or (a :: b :: es) pos) (dOr tA tB) := ⟨PW.imp (pw_or ha hb.w) fun σ H Q ⟨F, G, δ, P, g, s, p, c⟩ =>
  ⟨F, G, δ, _, g, s, p, fun k G' F' H' p' l g' => by
    cases k with
    | true => exact c true G' F' H' p' l g'
    | false => exact ⟨F', G', δ, P, g', s.le l, p', c.le l⟩⟩⟩
theorem dt_not (ha : DT X B a tA) : DT X B (.UnaryOp .Not a pos) (dNot tA) := PT.imp (pt_not ha) fun σ H Q ⟨F, G, δ, P, g, s, p, c⟩ =>
  ⟨F, G, δ, _, g, s, p, fun k G' F' H' p' l g' => c _ G' F' H' p' l g'⟩
def dAndV (ta tb : DTE) : DTE := fun δ G P => ta δ G fun x G1 => ∃ c, x = .bl c ∧ if c = true then tb δ G1 P else P (.bl false) G1
def dOrV (ta tb : DTE) : DTE := fun δ G P => ta δ G fun x G1 => ∃ c, x = .bl c ∧ if c = true then P (.bl true) G1 else tb δ G1 P
def dNotV (ta : DTE) : DTE := fun δ G P => ta δ G fun x G1 => ∃ c, x = .bl c ∧ P (.bl (!c)) G1
theorem d_one {op} (h : DE X B a te) : DE X B (.BoolOp op [a] pos) te := pe_one h
theorem d_and (ha : DE X B a ta) (hb : DE X B (.BoolOp .And (b :: es) pos) tb) : DE X B (.BoolOp .And (a :: b :: es) pos) (dAndV ta tb) := PE.imp (pe_and ha hb) fun σ H Q ⟨F, G, δ, P, g, s, p, c⟩ =>
  ⟨F, G, δ, _, g, s, p, fun d G' v F' H' ⟨k, e, p'⟩ l g' i => by
    subst e
    cases i
    refine ⟨k, rfl, ?_⟩
    cases k with
    | true => exact ⟨F', G', δ, P, g', s.le l, p', c.le l⟩
    | false => exact c _ G' _ F' H' p' l g' (.bl _)⟩
theorem d_or (ha : DE X B a ta) (hb : DE X B (.BoolOp .Or (b :: es) pos) tb) : DE X B (.BoolOp .Or (a :: b :: es) pos) (dOrV ta tb) := PE.imp (pe_or ha hb) fun σ H Q ⟨F, G, δ, P, g, s, p, c⟩ =>
  ⟨F, G, δ, _, g, s, p, fun d G' v F' H' ⟨k, e, p'⟩ l g' i => by
    subst e
    cases i
    refine ⟨k, rfl, ?_⟩
    cases k with
    | true => exact c _ G' _ F' H' p' l g' (.bl _)
    | false => exact ⟨F', G', δ, P, g', s.le l, p', c.le l⟩⟩
theorem d_not (ha : DE X B a ta) : DE X B (.UnaryOp .Not a pos) (dNotV ta) := PE.imp (pe_not ha) fun σ H Q ⟨F, G, δ, P, g, s, p, c⟩ =>
  ⟨F, G, δ, _, g, s, p, fun d G' v F' H' ⟨k, e, p'⟩ l g' i => by
    subst e
    cases i
    exact ⟨k, rfl, c _ G' _ F' H' p' l g' (.bl _)⟩⟩
def dIfE (t : DTT) (ta tb : DTE) : DTE := fun δ G P => t δ G fun c G1 => if c = true then ta δ G1 P else tb δ G1 P
theorem d_ifExp {c : Expr} (hc : DT X B c tA) (ha : DE X B a ta) (hb : DE X B b tb) : DE X B (.IfExp c a b pos) (dIfE tA ta tb) := PE.imp (pe_ifExp hc ha hb) fun σ H Q ⟨F, G, δ, P, g, s, p, c⟩ =>
  ⟨F, G, δ, _, g, s, p, fun k G' F' H' p' l g' => by
    cases k with
    | true => exact ⟨F', G', δ, P, g', s.le l, p', c.le l⟩
    | false => exact ⟨F', G', δ, P, g', s.le l, p', c.le l⟩⟩
/-- a op b op' c -/
def dChain (r r' : DR2) (ta tb tc : DTE) : DTE := fun δ G P => ta δ G fun x G1 => tb δ G1 fun y G2 => r x y G2 fun z G3 => ∃ k, z = .bl k ∧ if k = true then tc δ G3 fun w G4 => r' y w G4 P else P (.bl false) G3
theorem chain_imp {tc : DTE} {r r' : DR2} {q q' : R2} (hs : Serves X.K B q r) (hs' : Serves X.K B q' r') : ∀ σ H Q, tD X.K B (dChain r r' ta tb tc) σ H Q → tChain q q' (tD X.K B ta) (tD X.K B tb) (tD X.K B tc) σ H Q := fun σ H Q ⟨F, G, δ, P, g, s, p, c⟩ =>
  ⟨F, G, δ, _, g, s, p, fun x G1 vx F1 H1 p1 l1 g1 i1 => ⟨F1, G1, δ, _, g1, s.le l1, p1, fun y G2 vy F2 H2 p2 l2 g2 i2 =>
    hs F2 G2 H2 vx vy x y _ _ g2 (i1.le l2) i2 p2 fun z G3 vz F3 H3 ⟨k, ek, p3⟩ l3 g3 i3 => by
      subst ek
      cases i3
      refine ⟨k, rfl, ?_⟩
      have l13 := (l1.trans l2).trans l3
      cases k with
      | true =>
        exact ⟨F3, G3, δ, _, g3, s.le l13, p3, fun w G4 vw F4 H4 p4 l4 g4 i4 => hs' F4 G4 H4 vy vw y w P Q g4 (i2.le (l3.trans l4)) i4 p4 (c.le (l13.trans l4))⟩
      | false => exact c _ G3 _ F3 H3 p3 l13 g3 (.bl _)⟩⟩
theorem d_chain {c : Expr} {tc : DTE} {op op' : CmpOp} {r r' : DR2} (ho : DOp X B (compareOp op) r) (ho' : DOp X B (compareOp op') r') (ha : DE X B a ta) (hb : DE X B b tb) (hc : DE X B c tc)
    (hm : lastMarks [op, op'] [b, c] = false := by rfl) : DE X B (.Compare a [op, op'] [b, c] pos) (dChain r r' ta tb tc) := by
  obtain ⟨q, h1, h2⟩ := ho.ex
  obtain ⟨q', h1', h2'⟩ := ho'.ex
  exact PE.imp (pe_chain h1 h1' ha hb hc hm) (chain_imp h2 h2')

/-! ### lists, tuples: what may be read -/
def asL (G : Gp) : Dt → Option (List Dt)
  | .lst xs => some xs
  | .ref a => match G a with
    | some (.lst xs) => some xs
    | _ => none
  | _ => none
def asQ (G : Gp) : Dt → Option (List Dt)
  | .tup xs => some xs
  | .scr ns => some (ns.map Dt.int)
  | d => asL G d
section
variable {K : PySem.W.Frag} {B F : Hp} {G : Gp} {H : Hp} {v : V} {d : Dt} {ds : List Dt}
theorem asL_is (g : Good K B F G H) (i : Is K F v d) (h : asL G d = some ds) : ∃ p vs, v = .ref p ∧ H p = some (.lst vs) ∧ IsL K F vs ds := by
  cases i with
  | lst e r =>
    cases h
    exact ⟨_, _, rfl, g.fz _ _ e, r⟩
  | ref a =>
    unfold asL at h
    dsimp only at h
    split at h
    · rename_i xs e
      cases h
      obtain ⟨vs, e1, r⟩ := g.mlst e
      exact ⟨_, vs, rfl, e1, r⟩
    · cases h
  | _ => cases h
theorem asQ_is (g : Good K B F G H) (i : Is K F v d) (h : asQ G d = some ds) : ∃ p vs, v = .ref p ∧ (SqL K H p vs ∨ SqT K H p vs) ∧ IsL K F vs ds := by
  cases i with
  | tup e r =>
    cases h
    exact ⟨_, _, rfl, .inr (SqT.of (g.fz _ _ e)), r⟩
  | scr q =>
    cases h
    exact ⟨_, _, rfl, .inl (g.sql q), .ints _⟩
  | lst e r =>
    obtain ⟨p, vs, e1, e2, r'⟩ := asL_is g (.lst e r) h
    exact ⟨p, vs, e1, .inl (SqL.of e2), r'⟩
  | ref a =>
    obtain ⟨p, vs, e1, e2, r'⟩ := asL_is g (.ref a) h
    exact ⟨p, vs, e1, .inl (SqL.of e2), r'⟩
  | _ => cases h
end

/-! ### built-ins, by data -/
abbrev DR := List Dt → Gp → DK → Prop
structure DCall (X : Cx) (B : Hp) (f : Value) (r : DR) : Prop where
  ex : ∃ r', CallR X f r' ∧ ∀ F G H vs ds P Q, Good X.K B F G H → IsL X.K F vs ds → r ds G P → Cont X.K B F P Q → r' vs H Q
def dCB (r : DR) (t : DTA) : DTE := fun δ G P => t δ G fun ds G1 => r ds G1 P
theorem d_callB {x : Str} {p : Pos} {id : String} {r : DR} (hc : DCall X B (.builtin id) r) (hg : Gl X x) (hm : X.mg x = none) (hv : bootBuiltins x = some (.builtin id)) (ha : DA X B (e :: es) tl) (hn : x ≠ "__name__" := by decide) (hdb : (x == ("__debug__" : Str)) = false := by decide)
    (he : starEach (e :: es) X.env = (false, eval e X.env) :: starEach es X.env := by rfl) (hpl : (backTo pos (starEach es X.env)).any (·.1) = false := by rfl) : DE X B (.Call (.Name x p) (e :: es) [] pos) (dCB r tl) := by
  obtain ⟨r', h1, h2⟩ := hc.ex
  exact PE.imp (pe_callB h1 hg hm hv ha hn hdb he hpl) fun σ H Q ⟨F, G, δ, P, g, s, q, c⟩ => ⟨F, G, δ, _, g, s, q, fun ds G1 vs F1 H1 p1 l1 g1 i1 => h2 F1 G1 H1 vs ds P Q g1 i1 p1 (c.le l1)⟩
theorem d_callTy {x : Str} {p : Pos} {T : String} {r : DR} (hc : DCall X B (.type T) r) (hg : Gl X x) (hm : X.mg x = none) (hv : bootBuiltins x = some (.type T)) (ha : DA X B (e :: es) tl) (hn : x ≠ "__name__" := by decide) (hdb : (x == ("__debug__" : Str)) = false := by decide)
    (he : starEach (e :: es) X.env = (false, eval e X.env) :: starEach es X.env := by rfl) (hpl : (backTo pos (starEach es X.env)).any (·.1) = false := by rfl) : DE X B (.Call (.Name x p) (e :: es) [] pos) (dCB r tl) := by
  obtain ⟨r', h1, h2⟩ := hc.ex
  exact PE.imp (pe_callTy h1 hg hm hv ha hn hdb he hpl) fun σ H Q ⟨F, G, δ, P, g, s, q, c⟩ => ⟨F, G, δ, _, g, s, q, fun ds G1 vs F1 H1 p1 l1 g1 i1 => h2 F1 G1 H1 vs ds P Q g1 i1 p1 (c.le l1)⟩
/-- len -/
def rLen : DR := fun ds G P => ∃ d xs, ds = [d] ∧ asQ G d = some xs ∧ P (.int xs.length) G
theorem c_len : DCall X B (.builtin "len") rLen := ⟨_, call_len_seq, fun F G H vs ds P Q g i ⟨d, xs, e, h, p⟩ c => by
  subst e
  cases i with
  | cons i1 i2 =>
    cases i2
    obtain ⟨q, ws, rfl, e2, r⟩ := asQ_is g i1 h
    exact ⟨q, ws, rfl, e2, by rw [r.length]; exact c _ G _ F H p (Le.refl F) g (.int _)⟩⟩
/-- list(xs), frozen; mutable -/
def rList : DR := fun ds G P => ∃ d xs, ds = [d] ∧ asQ G d = some xs ∧ P (.lst xs) G
def rListM : DR := fun ds G P => ∃ d xs, ds = [d] ∧ asQ G d = some xs ∧ ∀ p, G p = none → P (.ref p) (gupd G p (.lst xs))
theorem c_list : DCall X B (.type "list") rList := ⟨_, call_list_of, fun F G H vs ds P Q g i ⟨d, xs, e, h, p⟩ c => by
  subst e
  cases i with
  | cons i1 i2 =>
    cases i2
    obtain ⟨q, ws, rfl, e2, r⟩ := asQ_is g i1 h
    refine ⟨q, ws, rfl, e2, fun l hl => ?_⟩
    obtain ⟨l2, g2⟩ := g.newF hl (.lst ws)
    exact c _ _ _ _ _ p l2 g2 (.lst upd_same (r.le l2))⟩
theorem c_listM : DCall X B (.type "list") rListM := ⟨_, call_list_of, fun F G H vs ds P Q g i ⟨d, xs, e, h, p⟩ c => by
  subst e
  cases i with
  | cons i1 i2 =>
    cases i2
    obtain ⟨q, ws, rfl, e2, r⟩ := asQ_is g i1 h
    refine ⟨q, ws, rfl, e2, fun l hl => ?_⟩
    exact c _ _ _ _ _ (p l (g.gnone hl)) (Le.refl F) (g.newM hl (m := .lst xs) r) (.ref l)⟩
/-- tuple(xs), xs a list -/
def rTuple : DR := fun ds G P => ∃ d xs, ds = [d] ∧ asL G d = some xs ∧ P (.tup xs) G
theorem c_tuple : DCall X B (.type "tuple") rTuple := ⟨_, call_tuple_of, fun F G H vs ds P Q g i ⟨d, xs, e, h, p⟩ c => by
  subst e
  cases i with
  | cons i1 i2 =>
    cases i2
    obtain ⟨q, ws, rfl, e2, r⟩ := asL_is g i1 h
    refine ⟨q, ws, rfl, .inl ⟨SqL.of e2, fun l hl => ?_⟩⟩
    obtain ⟨l2, g2⟩ := g.newF hl (.tup ws)
    exact c _ _ _ _ _ p l2 g2 (.tup upd_same (r.le l2))⟩
/-- min, max of two ints -/
def rMin2 : DR := fun ds G P => ∃ i j, ds = [.int i, .int j] ∧ P (.int (min i j)) G
def rMax2 : DR := fun ds G P => ∃ i j, ds = [.int i, .int j] ∧ P (.int (max i j)) G
theorem c_min2 (hc : X.calm = true) : DCall X B (.builtin "min") rMin2 := ⟨_, call_min2 hc, fun F G H vs ds P Q g i ⟨x, y, e, p⟩ c => by
  subst e
  cases i with
  | cons i1 i2 =>
    cases i2 with
    | cons i2 i3 =>
      cases i1; cases i2; cases i3
      refine ⟨x, y, rfl, c _ G _ F H p (Le.refl F) g ?_⟩
      have e : (if y < x then y else x) = min x y := by
        rw [Int.min_def]
        by_cases h : y < x
        · rw [if_pos h, if_neg (by omega)]
        · rw [if_neg h, if_pos (by omega)]
      rw [e]
      exact .int _⟩
theorem c_max2 (hc : X.calm = true) : DCall X B (.builtin "max") rMax2 := ⟨_, call_max2 hc, fun F G H vs ds P Q g i ⟨x, y, e, p⟩ c => by
  subst e
  cases i with
  | cons i1 i2 =>
    cases i2 with
    | cons i2 i3 =>
      cases i1; cases i2; cases i3
      refine ⟨x, y, rfl, c _ G _ F H p (Le.refl F) g ?_⟩
      have e : (if y > x then y else x) = max x y := by
        rw [Int.max_def]
        by_cases h : y > x
        · rw [if_pos h, if_pos (by omega)]
        · rw [if_neg h]
          by_cases h2 : x ≤ y
          · rw [if_pos h2]; omega
          · rw [if_neg h2]
      rw [e]
      exact .int _⟩
/-- min, max of a list of ints -/
def rMinL : DR := fun ds G P => ∃ (d : Dt) (ns : List Int), ds = [d] ∧ asL G d = some (ns.map Dt.int) ∧ 0 < ns.length ∧ ∀ m, m ∈ ns → (∀ y ∈ ns, m ≤ y) → P (.int m) G
def rMaxL : DR := fun ds G P => ∃ (d : Dt) (ns : List Int), ds = [d] ∧ asL G d = some (ns.map Dt.int) ∧ 0 < ns.length ∧ ∀ m, m ∈ ns → (∀ y ∈ ns, y ≤ m) → P (.int m) G
theorem c_minL (hc : X.calm = true) : DCall X B (.builtin "min") rMinL := ⟨_, cr_min hc, fun F G H vs ds P Q g i ⟨d, ns, e, h, hl, p⟩ c => by
  subst e
  cases i with
  | cons i1 i2 =>
    cases i2
    obtain ⟨q, ws, rfl, e2, r⟩ := asL_is g i1 h
    cases r.ints_inv
    exact ⟨q, ns, rfl, SqL.of e2, hl, fun m hm hle => c _ G _ F H (p m hm hle) (Le.refl F) g (.int m)⟩⟩
theorem c_maxL (hc : X.calm = true) : DCall X B (.builtin "max") rMaxL := ⟨_, cr_max hc, fun F G H vs ds P Q g i ⟨d, ns, e, h, hl, p⟩ c => by
  subst e
  cases i with
  | cons i1 i2 =>
    cases i2
    obtain ⟨q, ws, rfl, e2, r⟩ := asL_is g i1 h
    cases r.ints_inv
    exact ⟨q, ns, rfl, SqL.of e2, hl, fun m hm hle => c _ G _ F H (p m hm hle) (Le.refl F) g (.int m)⟩⟩
/-- sum of a list of ints -/
def rSumL : DR := fun ds G P => ∃ (d : Dt) (ns : List Int), ds = [d] ∧ asL G d = some (ns.map Dt.int) ∧ P (.int ns.sum) G
theorem c_sum (hc : X.calm = true) : DCall X B (.builtin "sum") rSumL := ⟨_, cr_sum hc, fun F G H vs ds P Q g i ⟨d, ns, e, h, p⟩ c => by
  subst e
  cases i with
  | cons i1 i2 =>
    cases i2
    obtain ⟨q, ws, rfl, e2, r⟩ := asL_is g i1 h
    cases r.ints_inv
    exact ⟨q, ns, rfl, SqL.of e2, c _ G _ F H p (Le.refl F) g (.int _)⟩⟩
/-- all, any of a list of truths -/
def rAllL : DR := fun ds G P => ∃ (d : Dt) (bs : List Bool), ds = [d] ∧ asL G d = some (bs.map Dt.bl) ∧ P (.bl (bs.all id)) G
def rAnyL : DR := fun ds G P => ∃ (d : Dt) (bs : List Bool), ds = [d] ∧ asL G d = some (bs.map Dt.bl) ∧ P (.bl (bs.any id)) G
theorem c_all (hc : X.calm = true) : DCall X B (.builtin "all") rAllL := ⟨_, cr_all hc, fun F G H vs ds P Q g i ⟨d, ns, e, h, p⟩ c => by
  subst e
  cases i with
  | cons i1 i2 =>
    cases i2
    obtain ⟨q, ws, rfl, e2, r⟩ := asL_is g i1 h
    cases r.bls_inv
    exact ⟨q, ns, rfl, SqL.of e2, c _ G _ F H p (Le.refl F) g (.bl _)⟩⟩
theorem c_any (hc : X.calm = true) : DCall X B (.builtin "any") rAnyL := ⟨_, cr_any hc, fun F G H vs ds P Q g i ⟨d, ns, e, h, p⟩ c => by
  subst e
  cases i with
  | cons i1 i2 =>
    cases i2
    obtain ⟨q, ws, rfl, e2, r⟩ := asL_is g i1 h
    cases r.bls_inv
    exact ⟨q, ns, rfl, SqL.of e2, c _ G _ F H p (Le.refl F) g (.bl _)⟩⟩
/-- sorted of ints; of pairs of ints -/
def rSortI : DR := fun ds G P => ∃ (d : Dt) (ns : List Int), ds = [d] ∧ asL G d = some (ns.map Dt.int) ∧ ∀ ns' : List Int, ns'.Perm ns → ns'.Pairwise (· ≤ ·) → P (.lst (ns'.map Dt.int)) G
theorem c_sortI : DCall X B (.builtin "sorted") rSortI := ⟨_, cr_sortedI, fun F G H vs ds P Q g i ⟨d, ns, e, h, p⟩ c => by
  subst e
  cases i with
  | cons i1 i2 =>
    cases i2
    obtain ⟨q, ws, rfl, e2, r⟩ := asL_is g i1 h
    cases r.ints_inv
    refine ⟨q, ns, rfl, SqL.of e2, fun ns' l hp hs hl => ?_⟩
    obtain ⟨l2, g2⟩ := g.newF hl (.lst (ns'.map V.int))
    exact c _ _ _ _ _ (p ns' hp hs) l2 g2 (.lst upd_same (.ints ns'))⟩
def pairD (p : Int × Int) : Dt := .tup [.int p.1, .int p.2]
def leP (p q : Int × Int) : Prop := p.1 < q.1 ∨ (p.1 = q.1 ∧ p.2 ≤ q.2)
def rSortP : DR := fun ds G P => ∃ (d : Dt) (ns : List (Int × Int)), ds = [d] ∧ asL G d = some (ns.map pairD) ∧ ∀ ns' : List (Int × Int), ns'.Perm ns → ns'.Pairwise leP → P (.lst (ns'.map pairD)) G
/-- abs -/
def rAbs : DR := fun ds G P => ∃ i : Int, ds = [.int i] ∧ P (.int (if i < 0 then -i else i)) G
theorem c_abs : DCall X B (.builtin "abs") rAbs := ⟨_, call_abs, fun F G H vs ds P Q g i ⟨x, e, p⟩ c => by
  subst e
  cases i with
  | cons i1 i2 =>
    cases i1; cases i2
    exact ⟨x, rfl, c _ G _ F H p (Le.refl F) g (.int _)⟩⟩
theorem CallR.or {f : Value} {r1 r2 : List V → Hp → VK → Prop} (h1 : CallR X f r1) (h2 : CallR X f r2) : CallR X f (fun xs H Q => r1 xs H Q ∨ r2 xs H Q) := by
  intro pins s σ H xs us Q I r h
  rcases h with h | h
  · exact h1 pins s σ H xs us Q I r h
  · exact h2 pins s σ H xs us Q I r h
theorem DCall.or {f : Value} {r1 r2 : DR} (h1 : DCall X B f r1) (h2 : DCall X B f r2) : DCall X B f (fun xs G P => r1 xs G P ∨ r2 xs G P) := by
  obtain ⟨q1, a1, b1⟩ := h1.ex
  obtain ⟨q2, a2, b2⟩ := h2.ex
  refine ⟨_, CallR.or a1 a2, fun F G H vs ds P Q g i h c => ?_⟩
  rcases h with h | h
  · exact .inl (b1 F G H vs ds P Q g i h c)
  · exact .inr (b2 F G H vs ds P Q g i h c)

/-! ### places -/
def rIxQ : DR2 := fun x y G P => ∃ xs i d, y = .int i ∧ asQ G x = some xs ∧ atI xs i = some d ∧ P d G
theorem o_ix : ∃ r', IxR X r' ∧ Serves X.K B r' rIxQ := ⟨_, ix_seq, fun F G H v w x y P Q g rx ry ⟨xs, i, d, e, h, ha, p⟩ c => by
  subst e
  cases ry
  obtain ⟨q, vs, rfl, e2, r⟩ := asQ_is g rx h
  have ha' : ∃ z, atI vs i = some z ∧ Is X.K F z d := by
    unfold atI at ha ⊢
    rw [r.length]
    cases e3 : ixN xs.length i with
    | none => rw [e3] at ha; cases ha
    | some j =>
      rw [e3] at ha
      exact r.get ha
  obtain ⟨z, hz, iz⟩ := ha'
  have fin := c _ G z F H p (Le.refl F) g iz
  rcases e2 with e2 | e2
  · exact .inl ⟨q, vs, i, z, rfl, rfl, e2, hz, fin⟩
  · exact .inr (.inl ⟨q, vs, i, z, rfl, rfl, e2, hz, fin⟩)⟩
theorem d_ix (ha : DE X B a ta) (hb : DE X B b tb) (hs : PlainIx b) : DE X B (.Subscript a b pos) (dOp rIxQ ta tb) := by
  obtain ⟨r', h1, h2⟩ := o_ix (X := X) (B := B)
  exact PE.imp (pe_ix h1 ha hb hs) (dop_imp h2)
def sSet : DTSet := fun o i d G Q => ∃ a xs k j, o = .ref a ∧ i = .int k ∧ G a = some (.lst xs) ∧ ixN xs.length k = some j ∧ Q (gupd G a (.lst (xs.set j d)))
theorem s_set : DSet X B sSet := ⟨_, set_list, fun F G H vo vi v o i d P Q g ro ri rd ⟨a, xs, k, j, e1, e2, h, hj, p⟩ c => by
  subst e1; subst e2
  cases ro; cases ri
  obtain ⟨vs, e, r⟩ := g.mlst h
  exact ⟨a, vs, k, j, rfl, rfl, e, by rw [r.length]; exact hj, c _ F _ p (Le.refl F) (g.write h (m := .lst (xs.set j d)) (r.set rd j))⟩⟩

/-! ### methods of lists -/
structure DMt (X : Cx) (B : Hp) (id : String) (r : Dt → List Dt → Gp → DK → Prop) : Prop where
  ex : ∃ r', MtR X id r' ∧ ∀ F G H v x vs ds P Q, Good X.K B F G H → Is X.K F v x → IsL X.K F vs ds → r x ds G P → Cont X.K B F P Q → r' v vs H Q
def dBM (r : Dt → List Dt → Gp → DK → Prop) (to : DTE) (t : DTA) : DTE := fun δ G P => to δ G fun x G1 => (∃ xs, asL G1 x = some xs) ∧ t δ G1 fun ds G2 => r x ds G2 P
def dBM0 (r : Dt → List Dt → Gp → DK → Prop) (to : DTE) : DTE := fun δ G P => to δ G fun x G1 => (∃ xs, asL G1 x = some xs) ∧ r x [] G1 P
theorem bm_imp {r : Dt → List Dt → Gp → DK → Prop} {r' : V → List V → Hp → VK → Prop} (h2 : ∀ F G H v x vs ds P Q, Good X.K B F G H → Is X.K F v x → IsL X.K F vs ds → r x ds G P → Cont X.K B F P Q → r' v vs H Q) : ∀ σ H Q, tD X.K B (dBM r to tl) σ H Q → tBM X.K "list" r' (tD X.K B to) (tDA X.K B tl) σ H Q := fun σ H Q ⟨F, G, δ, P, g, s, p, c⟩ =>
  ⟨F, G, δ, _, g, s, p, fun x G1 v F1 H1 ⟨⟨xs, hx⟩, p1⟩ l1 g1 i1 => by
    obtain ⟨q, ws, rfl, e2, _⟩ := asL_is g1 i1 hx
    refine ⟨.inl ⟨rfl, _, SqL.of e2⟩, F1, G1, δ, _, g1, s.le l1, p1, fun ds G2 vs F2 H2 p2 l2 g2 i2 => h2 F2 G2 H2 _ x vs ds P Q g2 (i1.le l2) i2 p2 (c.le (l1.trans l2))⟩⟩
theorem bm0_imp {r : Dt → List Dt → Gp → DK → Prop} {r' : V → List V → Hp → VK → Prop} (h2 : ∀ F G H v x vs ds P Q, Good X.K B F G H → Is X.K F v x → IsL X.K F vs ds → r x ds G P → Cont X.K B F P Q → r' v vs H Q) : ∀ σ H Q, tD X.K B (dBM0 r to) σ H Q → tBM0 X.K "list" r' (tD X.K B to) σ H Q := fun σ H Q ⟨F, G, δ, P, g, s, p, c⟩ =>
  ⟨F, G, δ, _, g, s, p, fun x G1 v F1 H1 ⟨⟨xs, hx⟩, p1⟩ l1 g1 i1 => by
    obtain ⟨q, ws, rfl, e2, _⟩ := asL_is g1 i1 hx
    exact ⟨.inl ⟨rfl, _, SqL.of e2⟩, h2 F1 G1 H1 _ x [] [] P Q g1 i1 .nil p1 (c.le l1)⟩⟩
def rAppendD : Dt → List Dt → Gp → DK → Prop := fun x ds G P => ∃ a xs d, x = .ref a ∧ ds = [d] ∧ G a = some (.lst xs) ∧ xs.length < sizeLine ∧ P .non (gupd G a (.lst (xs ++ [d])))
theorem m_append : DMt X B "list.append" rAppendD := ⟨_, mt_append, fun F G H v x vs ds P Q g i1 i2 ⟨a, xs, d, e1, e2, h, hz, p⟩ c => by
  subst e1; subst e2
  cases i1
  cases i2 with
  | cons i2 i3 =>
    cases i3
    obtain ⟨ws, e, r⟩ := g.mlst h
    exact ⟨a, ws, _, rfl, rfl, e, by rw [r.length]; exact hz, c _ _ _ _ _ p (Le.refl F) (g.write h (o := .lst (ws ++ [_])) (m := .lst (xs ++ [d])) (r.append (.one i2))) .non⟩⟩
end
end DL

set_option Elab.async false
set_option linter.all false
set_option maxRecDepth 100000
namespace DL
open PySem PySem.Spec L2
/-! ### what an exception of a def leaves: its class, the value of its field what -/
abbrev DXK := Addr → Dt → Gp → Prop
def noX : DXK := fun _ _ _ => False
def ContX (K : PySem.W.Frag) (B : Hp) (R : DXK) (E : XK) : Prop := ∀ C w G d v F H, R C w G → Good K B F G H → F d = some (.xd [("what", v)]) → Is K F v w → E (.ref C) (some d) H
theorem contX_no {K : PySem.W.Frag} {B : Hp} {E : XK} : ContX K B noX E := fun _ _ _ _ _ _ _ h => h.elim
theorem ContX.le {K : PySem.W.Frag} {B F : Hp} {R : DXK} {E : XK} (c : ContX K B R E) (l : Le B F) : ContX K F R E := fun C w G d v F' H h g e i => c C w G d v F' H h (g.unbase l) e i
/-- a def's promise by data -/
abbrev DSp := List Dt → Gp → DK → DXK → Prop
def toSp (K : PySem.W.Frag) (c : DSp) : Sp := fun vs H Q E => ∃ F G ds P R, Good K F F G H ∧ IsL K F vs ds ∧ c ds G P R ∧ Cont K F F P Q ∧ ContX K F R E
theorem Cont.rebase {K : PySem.W.Frag} {B F : Hp} {P : DK} {Q : VK} (c : Cont K B F P Q) (l : Le B F) : Cont K F F P Q := fun d G' v F' H' p l' g i => c d G' v F' H' p l' (g.unbase l) i
theorem ContS.nil {K : PySem.W.Frag} {B F : Hp} {P : L2.St → Hp → Prop} : ContS K B F (fun _ _ => False) P := fun _ _ _ _ _ h => h.elim

def dstart (N : List Str) (ds : List Dt) : DSt := ds.map some ++ List.replicate (N.length - ds.length) none
theorem Sl.start {K : PySem.W.Frag} {F : Hp} {vs : List V} {ds : List Dt} (N : List Str) (r : IsL K F vs ds) : Sl K F (L2.start N vs) (dstart N ds) := by
  unfold L2.start dstart
  refine ⟨by simp [r.length], fun i d h => ?_⟩
  by_cases hi : i < ds.length
  · rw [List.getElem?_append_left (by simpa using hi), List.getElem?_map] at h
    cases e : ds[i]? with
    | none => rw [e] at h; cases h
    | some d' =>
      rw [e] at h
      cases h
      obtain ⟨v, h1, h2⟩ := r.get e
      refine ⟨v, ?_, h2⟩
      rw [List.getElem?_append_left (by simpa [r.length] using hi), List.getElem?_map, h1]
      rfl
  · rw [List.getElem?_append_right (by simpa using hi), List.getElem?_replicate] at h
    split at h <;> cases h
section
variable {X : Cx} {B : Hp} {e a b o : Expr} {es : List Expr} {st : Stmt} {pos : Pos} {ta tb te to : DTE} {tl : DTA} {t u : DTS}
variable {CX : CXT} {k : Nat} {f C : Addr} {fd : FuncData} {ps : List Str} {E : XK} {R : DXK} {c : DSp} {x m : Str} {p apos : Pos}

/-! ### calls of the text's own defs -/
def dCall (c : DSp) (R : DXK) (t : DTA) : DTE := fun δ G P => t δ G fun ds G1 => c ds G1 P R
theorem toSp_of {K : PySem.W.Frag} {F : Hp} {G : Gp} {H : Hp} {vs : List V} {ds : List Dt} {P : DK} {Q : VK} (g : Good K B F G H) (i : IsL K F vs ds) (h : c ds G P R) (k : Cont K B F P Q) (kx : ContX K B R E) : toSp K c vs H Q E :=
  ⟨F, G, ds, P, R, g.rebase, i, h, k.rebase g.bs, kx.le g.bs⟩
theorem d_callX (F : FnOk X.prog X.w X.K X.mg X.base CX k f fd ps (toSp X.K c)) (hr : Room k X.A) (hg : Gl X x) (hm : X.mg x = some (.ref f)) (hk : PySem.W.keepIn X.K (.ref f) = true) (hb : Binds X.K fd ps []) (hx : Passes CX X E) (kx : ContX X.K B R E)
    (ha : DA X B (e :: es) tl) (hdb : (x == ("__debug__" : Str)) = false := by decide) (he : starEach (e :: es) X.env = (false, eval e X.env) :: starEach es X.env := by rfl) (hpl : (backTo pos (starEach es X.env)).any (·.1) = false := by rfl) :
    DE X B (.Call (.Name x p) (e :: es) [] pos) (dCall c R tl) := PE.imp (pe_call F hr hg hm hk hb .nil hx ha hdb he hpl) fun σ H Q ⟨F, G, δ, P, g, s, q, k⟩ =>
  ⟨F, G, δ, _, g, s, q, fun ds G1 vs F1 H1 p1 l1 g1 i1 => by
    show toSp X.K c (vs ++ []) H1 Q E
    rw [List.append_nil]
    exact toSp_of g1 i1 p1 (k.le l1) kx⟩
theorem d_call (F : FnOk X.prog X.w X.K X.mg X.base CX0 k f fd ps (toSp X.K c)) (hr : Room k X.A) (hg : Gl X x) (hm : X.mg x = some (.ref f)) (hk : PySem.W.keepIn X.K (.ref f) = true) (hb : Binds X.K fd ps [])
    (ha : DA X B (e :: es) tl) (hdb : (x == ("__debug__" : Str)) = false := by decide) (he : starEach (e :: es) X.env = (false, eval e X.env) :: starEach es X.env := by rfl) (hpl : (backTo pos (starEach es X.env)).any (·.1) = false := by rfl) :
    DE X B (.Call (.Name x p) (e :: es) [] pos) (dCall c noX tl) := d_callX (E := fun _ _ _ => False) F hr hg hm hk hb pass0 contX_no ha hdb he hpl
/-! ### instances -/
def insOf (G : Gp) : Dt → Option (Addr × List Str × List Dt)
  | .obj C ns xs => some (C, ns, xs)
  | .ref a => match G a with
    | some (.ins C ns xs) => some (C, ns, xs)
    | _ => none
  | _ => none
def dlook : List Str → List Dt → Str → Option Dt
  | n :: ns, x :: xs, f => if f = n then some x else dlook ns xs f
  | _, _, _ => none
def dput (f : Str) (d : Dt) : List Str → List Dt → List Str × List Dt
  | n :: ns, x :: xs => if n = f then (n :: ns, d :: xs) else ((n :: (dput f d ns xs).1), (x :: (dput f d ns xs).2))
  | _, _ => ([f], [d])
section
variable {K : PySem.W.Frag} {F : Hp} {G : Gp} {H : Hp} {v : V} {d : Dt}
theorem insOf_is {ns : List Str} {xs : List Dt} (g : Good K B F G H) (i : Is K F v d) (h : insOf G d = some (C, ns, xs)) : ∃ p dx fs, v = .ref p ∧ H p = some (.ins C dx fs) ∧ fs.map (·.1) = ns ∧ IsL K F (fs.map (·.2)) xs := by
  cases i with
  | obj e n r =>
    cases h
    exact ⟨_, _, _, rfl, g.fz _ _ e, n, r⟩
  | ref a =>
    unfold insOf at h
    dsimp only at h
    split at h
    · rename_i e
      cases h
      obtain ⟨dx, fs, e1, n, r⟩ := g.mins e
      exact ⟨_, dx, fs, rfl, e1, n, r⟩
    · cases h
  | _ => cases h
theorem dlook_is {f : Str} : ∀ {fs : List (Str × V)} {ns : List Str} {xs : List Dt} {d : Dt}, fs.map (·.1) = ns → IsL K F (fs.map (·.2)) xs → dlook ns xs f = some d → ∃ v, fs.lookup f = some v ∧ Is K F v d
  | [], _, _, _, rfl, r, h => by
    cases r
    unfold dlook at h
    cases h
  | (n, v) :: fs, _, _, d, rfl, r, h => by
    cases r with
    | @cons _ _ d1 ds1 r1 r2 =>
      have h' : (if f = n then some d1 else dlook (fs.map (·.1)) ds1 f) = some d := h
      by_cases q : f = n
      · rw [if_pos q] at h'
        cases h'
        refine ⟨v, ?_, r1⟩
        have qb : (f == n) = true := by rw [q]; exact beq_self_eq_true n
        rw [List.lookup_cons, qb]
      · rw [if_neg q] at h'
        obtain ⟨w, h1, h2⟩ := dlook_is rfl r2 h'
        refine ⟨w, ?_, h2⟩
        have qb : (f == n) = false := beq_eq_false_iff_ne.mpr q
        rw [List.lookup_cons, qb]
        exact h1
theorem lookup_none {f : Str} : ∀ {fs : List (Str × V)}, f ∉ fs.map (·.1) → fs.lookup f = none
  | [], _ => rfl
  | (n, v) :: fs, h => by
    have qb : (f == n) = false := beq_eq_false_iff_ne.mpr fun q => h (by rw [q]; exact List.mem_cons_self)
    rw [List.lookup_cons, qb]
    exact lookup_none fun z => h (List.mem_cons_of_mem _ z)
theorem dput_is {f : Str} {v : V} {d : Dt} (i : Is K F v d) : ∀ {fs : List (Str × V)} {ns : List Str} {xs : List Dt}, fs.map (·.1) = ns → IsL K F (fs.map (·.2)) xs → (putF f v fs).map (·.1) = (dput f d ns xs).1 ∧ IsL K F ((putF f v fs).map (·.2)) (dput f d ns xs).2
  | [], _, _, rfl, r => by
    cases r
    exact ⟨rfl, .one i⟩
  | (n, w) :: fs, _, _, rfl, r => by
    cases r with
    | @cons _ _ d1 ds1 r1 r2 =>
      obtain ⟨h1, h2⟩ := dput_is i (fs := fs) rfl r2
      show ((if n = f then (n, v) :: fs else (n, w) :: putF f v fs).map (·.1)) = (if n = f then (n :: fs.map (·.1), d :: ds1) else _).1 ∧ IsL K F ((if n = f then (n, v) :: fs else (n, w) :: putF f v fs).map (·.2)) (if n = f then (n :: fs.map (·.1), d :: ds1) else _).2
      by_cases q : n = f
      · rw [if_pos q, if_pos q]
        exact ⟨rfl, .cons i r2⟩
      · rw [if_neg q, if_neg q]
        exact ⟨by rw [List.map_cons, h1], .cons r1 h2⟩
end
def dFld (C : Addr) (f : Str) (ta : DTE) : DTE := fun δ G P => ta δ G fun x G1 => ∃ ns xs d, insOf G1 x = some (C, ns, xs) ∧ dlook ns xs f = some d ∧ P d G1
theorem d_fld {n : Str} (cl : Cls X.K C) (na : NoAttr X.K C n) (he : DE X B e ta) (hb : attributeBase e n X.env (eval e X.env) = eval e X.env := by rfl) : DE X B (.Attribute e n pos) (dFld C n ta) := PE.imp (pe_fld he hb) fun σ H Q ⟨F, G, δ, P, g, s, q, k⟩ =>
  ⟨F, G, δ, _, g, s, q, fun x G1 v F1 H1 ⟨ns, xs, d, h1, h2, p1⟩ l1 g1 i1 => by
    obtain ⟨a, dx, fs, rfl, e1, n1, r1⟩ := insOf_is g1 i1 h1
    obtain ⟨w, h3, i3⟩ := dlook_is n1 r1 h2
    exact ⟨a, C, dx, fs, w, rfl, e1, cl, na, h3, k d G1 w F1 H1 p1 l1 g1 i3⟩⟩
def dFldSet (C : Addr) (f : Str) (ta tv : DTE) : DTS := fun D δ G => tv δ G fun y G1 => ta δ G1 fun x G2 => ∃ a ns xs, x = .ref a ∧ G2 a = some (.ins C ns xs) ∧ ns.length < 1000 ∧ D.nx δ (gupd G2 a (.ins C (dput f y ns xs).1 (dput f y ns xs).2))
theorem ds_fld {n : Str} {value : Expr} {tv : DTE} {pos' : Pos} (cl : Cls X.K C) (na : NoAttr X.K C n) (ha : DE X B o ta) (hv : DE X B value tv) (hs : swapsWith value (some (.Attribute o n pos')) pos.line X.env = pure false := by rfl) : DS X B (.Assign [.Attribute o n pos'] value pos) (dFldSet C n ta tv) :=
  PS.imp (ps_fld ha hv hs) fun D σ H ⟨F, G, δ, R, g, s, q, f⟩ =>
  ⟨F, G, δ, _, g, s, q, fun y G1 v F1 H1 p1 l1 g1 i1 => ⟨F1, G1, δ, _, g1, s.le l1, p1, fun x G2 w F2 H2 ⟨a, ns, xs, ex, h2, hz, p2⟩ l2 g2 i2 => by
    subst ex
    cases i2
    obtain ⟨dx, fs, e1, n1, r1⟩ := g2.mins h2
    obtain ⟨h3, h4⟩ := dput_is (i1.le l2) (f := n) n1 r1
    refine ⟨a, C, dx, fs, rfl, e1, cl, na, by rw [← n1, List.length_map] at hz; exact hz, ?_⟩
    exact f.nx _ _ _ F2 _ p2 (l1.trans l2) (g2.write h2 (o := .ins C dx (putF n v fs)) (m := .ins C _ _) ⟨rfl, h3, h4⟩) (s.le (l1.trans l2))⟩⟩
def dMeth (C : Addr) (m : Str) (c : DSp) (R : DXK) (ta : DTE) (t : DTA) : DTE := fun δ G P => ta δ G fun x G1 => (∃ ns xs, insOf G1 x = some (C, ns, xs) ∧ m ∉ ns) ∧ t δ G1 fun ds G2 => c (x :: ds) G2 P R
theorem meth_imp {K : PySem.W.Frag} (kx : ContX K B R E) : ∀ σ H Q, tD K B (dMeth C m c R ta tl) σ H Q → tMeth C m (toSp K c) [] E (tD K B ta) (tDA K B tl) σ H Q := fun σ H Q ⟨F, G, δ, P, g, s, q, k⟩ =>
  ⟨F, G, δ, _, g, s, q, fun x G1 v F1 H1 ⟨⟨ns, xs, h1, hm⟩, p1⟩ l1 g1 i1 => by
    obtain ⟨a, dx, fs, rfl, e1, n1, r1⟩ := insOf_is g1 i1 h1
    refine ⟨a, dx, fs, rfl, e1, lookup_none (by rw [n1]; exact hm), F1, G1, δ, _, g1, s.le l1, p1, fun ds G2 vs F2 H2 p2 l2 g2 i2 => ?_⟩
    show toSp K c (V.ref a :: (vs ++ [])) H2 Q E
    rw [List.append_nil]
    exact toSp_of g2 (.cons (i1.le l2) i2) p2 (k.le (l1.trans l2)) kx⟩
theorem d_methX {pl : Sem Bool} (he : DE X B o ta) (cl : Cls X.K C) (hm : Meth X.K C m f) (F : FnOk X.prog X.w X.K X.mg X.base CX k f fd ps (toSp X.K c)) (hr : Room k X.A) (hb : Binds X.K fd ps []) (hx : Passes CX X E) (kx : ContX X.K B R E) (ha : DA X B (e :: es) tl)
    (hst : starEach (e :: es) X.env = (false, eval e X.env) :: starEach es X.env := by rfl) (hpl : (backTo pos (starEach es X.env)).any (·.1) = false := by rfl)
    (ht : eval (.Call (.Attribute o m apos) (e :: es) [] pos) X.env = (do
      let ov ← eval o X.env
      standAt apos.atName
      let (f, first) ← holding [ov] (getMethod ov m pl)
      callWith pos f first (backTo pos (starEach (e :: es) X.env)) (backToKw pos (keywordEach [] X.env))) := by rfl) :
    DE X B (.Call (.Attribute o m apos) (e :: es) [] pos) (dMeth C m c R ta tl) := PE.imp (pe_meth he cl hm F hr hb .nil hx ha hst hpl ht) (meth_imp kx)
theorem d_meth {pl : Sem Bool} (he : DE X B o ta) (cl : Cls X.K C) (hm : Meth X.K C m f) (F : FnOk X.prog X.w X.K X.mg X.base CX0 k f fd ps (toSp X.K c)) (hr : Room k X.A) (hb : Binds X.K fd ps []) (ha : DA X B (e :: es) tl)
    (hst : starEach (e :: es) X.env = (false, eval e X.env) :: starEach es X.env := by rfl) (hpl : (backTo pos (starEach es X.env)).any (·.1) = false := by rfl)
    (ht : eval (.Call (.Attribute o m apos) (e :: es) [] pos) X.env = (do
      let ov ← eval o X.env
      standAt apos.atName
      let (f, first) ← holding [ov] (getMethod ov m pl)
      callWith pos f first (backTo pos (starEach (e :: es) X.env)) (backToKw pos (keywordEach [] X.env))) := by rfl) :
    DE X B (.Call (.Attribute o m apos) (e :: es) [] pos) (dMeth C m c noX ta tl) := d_methX (E := fun _ _ _ => False) he cl hm F hr hb pass0 contX_no ha hst hpl ht
theorem d_meth0 {pl : Sem Bool} (he : DE X B o ta) (cl : Cls X.K C) (hm : Meth X.K C m f) (F : FnOk X.prog X.w X.K X.mg X.base CX0 k f fd ps (toSp X.K c)) (hr : Room k X.A) (hb : Binds X.K fd ps [])
    (ht : eval (.Call (.Attribute o m apos) [] [] pos) X.env = (do
      let ov ← eval o X.env
      standAt apos.atName
      let (f, first) ← holding [ov] (getMethod ov m pl)
      callWith pos f first (backTo pos (starEach [] X.env)) (backToKw pos (keywordEach [] X.env))) := by rfl) :
    DE X B (.Call (.Attribute o m apos) [] [] pos) (dMeth C m c noX ta dNil) := PE.imp (pe_meth0 (E := fun _ _ _ => False) he cl hm F hr hb .nil pass0 ht) fun σ H Q ⟨F, G, δ, P, g, s, q, k⟩ =>
  ⟨F, G, δ, _, g, s, q, fun x G1 v F1 H1 ⟨⟨ns, xs, h1, hm⟩, p1⟩ l1 g1 i1 => by
    obtain ⟨a, dx, fs, rfl, e1, n1, r1⟩ := insOf_is g1 i1 h1
    exact ⟨a, dx, fs, rfl, e1, lookup_none (by rw [n1]; exact hm), toSp_of g1 (.cons i1 .nil) p1 (k.le l1) contX_no⟩⟩
/-- C(..): a new instance, mutable -/
def dMake (C : Addr) (c : DSp) (R : DXK) (t : DTA) : DTE := fun δ G P => t δ G fun ds G1 => ∀ p, G1 p = none → c (.ref p :: ds) (gupd G1 p (.ins C [] [])) (fun d G2 => d = .non ∧ P (.ref p) G2) R
theorem d_makeX (M : Mk X.K C f) (F : FnOk X.prog X.w X.K X.mg X.base CX k f fd ps (toSp X.K c)) (hr : Room (k + 1) X.A) (hg : Gl X x) (hm : X.mg x = some (.ref C)) (hb : Binds X.K fd ps []) (hx : Passes CX X E) (kx : ContX X.K B R E)
    (ha : DA X B (e :: es) tl) (hdb : (x == ("__debug__" : Str)) = false := by decide) (he : starEach (e :: es) X.env = (false, eval e X.env) :: starEach es X.env := by rfl) (hpl : (backTo pos (starEach es X.env)).any (·.1) = false := by rfl) :
    DE X B (.Call (.Name x p) (e :: es) [] pos) (dMake C c R tl) := PE.imp (pe_make M F hr hg hm hb .nil hx ha hdb he hpl) fun σ H Q ⟨F, G, δ, P, g, s, q, k⟩ =>
  ⟨F, G, δ, _, g, s, q, fun ds G1 vs F1 H1 p1 l1 g1 i1 => fun q dx hq hdx hne => by
    rw [List.append_nil]
    have g2 : Good X.K B F1 G1 (upd H1 dx (.own q)) := g1.newN hdx _
    have hq2 : upd H1 dx (.own q) q = none := by rw [upd_ne (Ne.symm hne)]; exact hq
    have g3 := g2.newM hq2 (o := .ins C dx []) (m := .ins C [] []) ⟨rfl, rfl, .nil⟩
    exact toSp_of g3 (.cons (.ref q) i1) (p1 q (g1.gnone hq)) (fun d G' v F' H' ⟨ed, p'⟩ l' g' i' => by
      subst ed
      cases i'
      exact ⟨rfl, k _ G' _ F' H' p' (l1.trans l') g' (.ref q)⟩) kx⟩
theorem d_make (M : Mk X.K C f) (F : FnOk X.prog X.w X.K X.mg X.base CX0 k f fd ps (toSp X.K c)) (hr : Room (k + 1) X.A) (hg : Gl X x) (hm : X.mg x = some (.ref C)) (hb : Binds X.K fd ps [])
    (ha : DA X B (e :: es) tl) (hdb : (x == ("__debug__" : Str)) = false := by decide) (he : starEach (e :: es) X.env = (false, eval e X.env) :: starEach es X.env := by rfl) (hpl : (backTo pos (starEach es X.env)).any (·.1) = false := by rfl) :
    DE X B (.Call (.Name x p) (e :: es) [] pos) (dMake C c noX tl) := d_makeX (E := fun _ _ _ => False) M F hr hg hm hb pass0 contX_no ha hdb he hpl
end

/-! ### a def keeps its promise -/
section
variable {P : Program} {w : World} {K : PySem.W.Frag} {mg : Str → Option Value} {base : Heap}
def dEnds (P : DK) : DEnds := { nx := fun _ G => P .non G, rt := P }
theorem d_ok {x qual : Str} {st : Stmt} {f : Addr} {fd : FuncData} {N ps : List Str} {k : Nat} {c : DSp} (F : Fun K x qual st f fd) (S : FnScope N ps (defScope st)) (len : ∀ ds G P R, c ds G P R → ds.length = ps.length)
    (hb : ∀ (cdv : Value) (A : Around) (outer : List Env) (s : Shared) (H : Hp) (E : XK) (B : Hp), Room k (A.deeper (PyProof.Rows.envOfC qual (defScope st) s.heap.objs.size f cdv)) →
      ∃ t : DTS, DSs (cxOf CX0 P w K mg base N qual (defScope st) f cdv A outer s H E).nox B (defBody st) t ∧ ∀ ds G P R, c ds G P R → t (dEnds P) (dstart N ds) G) : FnOk P w K mg base CX0 (k + 1) f fd ps (toSp K c) := by
  refine F.ok S (fun vs H Q E ⟨F0, G, ds, P', R, g, i, h, _⟩ => by rw [i.length]; exact len _ _ _ _ h) fun cdv A outer s H vs Q E hr ⟨F0, G, ds, P', R, g, i, h, kc, kx⟩ => ?_
  obtain ⟨t, h1, h2⟩ := hb cdv A outer s H E F0 hr
  refine ⟨_, h1, F0, G, dstart N ds, dEnds P', g, Sl.start N i, h2 ds G P' R h, ⟨fun δ' G' σ' F' H' p' l' g' s' => kc .non G' .non F' H' p' l' g' .non, kc, ContS.nil, ContS.nil⟩⟩
theorem okN {x qual : Str} {st : Stmt} {f : Addr} {fd : FuncData} {N ps : List Str} {k : Nat} {sp : Sp} (F : Fun K x qual st f fd) (S : FnScope N ps (defScope st)) (len : ∀ vs H Q E, sp vs H Q E → vs.length = ps.length)
    (hb : ∀ (cdv : Value) (A : Around) (outer : List Env) (s : Shared) (H : Hp) (vs : List V) (Q : VK) (E : XK), Room k (A.deeper (PyProof.Rows.envOfC qual (defScope st) s.heap.objs.size f cdv)) → sp vs H Q E →
      ∃ t, PSs (cxOf (L2N.CX P w) P w K mg base N qual (defScope st) f cdv A outer s H E) (defBody st) t ∧ t { nx := fun _ H' => Q .non H', rt := Q } (L2.start N vs) H) : FnOk P w K mg base (L2N.CX P w) (k + 1) f fd ps sp := by
  obtain ⟨oc, od, kV, doc, pm, an, cdv, ct, osl, e, lk, hcd⟩ := F.ex
  subst e
  exact fn_of lk hcd S len (hb cdv)
/-- .. that may raise -/
theorem d_okX {x qual : Str} {st : Stmt} {f : Addr} {fd : FuncData} {N ps : List Str} {k : Nat} {c : DSp} (F : Fun K x qual st f fd) (S : FnScope N ps (defScope st)) (len : ∀ ds G P R, c ds G P R → ds.length = ps.length)
    (hb : ∀ (cdv : Value) (A : Around) (outer : List Env) (s : Shared) (H : Hp) (E : XK) (B : Hp) (R : DXK), Room k (A.deeper (PyProof.Rows.envOfC qual (defScope st) s.heap.objs.size f cdv)) → ContX K B R E →
      ∃ t : DTS, DSs (cxOf (L2N.CX P w) P w K mg base N qual (defScope st) f cdv A outer s H E) B (defBody st) t ∧ ∀ ds G P, c ds G P R → t (dEnds P) (dstart N ds) G) : FnOk P w K mg base (L2N.CX P w) (k + 1) f fd ps (toSp K c) := by
  refine okN F S (fun vs H Q E ⟨F0, G, ds, P', R, g, i, h, _⟩ => by rw [i.length]; exact len _ _ _ _ h) fun cdv A outer s H vs Q E hr ⟨F0, G, ds, P', R, g, i, h, kc, kx⟩ => ?_
  obtain ⟨t, h1, h2⟩ := hb cdv A outer s H E F0 R hr kx
  refine ⟨_, h1, F0, G, dstart N ds, dEnds P', g, Sl.start N i, h2 ds G P' h, ⟨fun δ' G' σ' F' H' p' l' g' s' => kc .non G' .non F' H' p' l' g' .non, kc, ContS.nil, ContS.nil⟩⟩
end
end DL

set_option Elab.async false
set_option linter.all false
set_option maxRecDepth 100000
namespace DL
open PySem PySem.Spec L2
/-- the built-ins' names that the text leaves alone -/
structure Bt (mg : Str → Option Value) : Prop where
  len : mg "len" = none
  range : mg "range" = none
  list : mg "list" = none
  tuple : mg "tuple" = none
  min : mg "min" = none
  max : mg "max" = none
  sum : mg "sum" = none
  sorted : mg "sorted" = none
  all : mg "all" = none
  any : mg "any" = none
  abs : mg "abs" = none
  isinstance : mg "isinstance" = none
  enumerate : mg "enumerate" = none
  zip : mg "zip" = none
  set : mg "set" = none
  dict : mg "dict" = none
  int : mg "int" = none
  bool : mg "bool" = none
  str : mg "str" = none
/-- a def of the text's top, as it stands -/
def TopFn (K : PySem.W.Frag) (mg : Str → Option Value) (x : Str) (st : Stmt) (ps : List Str) : Prop := ∃ f fd, Fun K x x st f fd ∧ mg x = some (.ref f) ∧ Binds K fd ps []
/-- a method, as it stands -/
def TopMt (K : PySem.W.Frag) (C : Addr) (m qual : Str) (st : Stmt) (ps : List Str) : Prop := ∃ f fd, Fun K m qual st f fd ∧ Meth K C m f ∧ Binds K fd ps []
structure ClsT (K : PySem.W.Frag) (mg : Str → Option Value) (x : Str) (C : Addr) : Prop where
  cl : Cls K C
  mg : mg x = some (.ref C)
/-- a class's __init__, as it stands -/
def TopMk (K : PySem.W.Frag) (C : Addr) (qual : Str) (st : Stmt) (ps : List Str) : Prop := ∃ f fd, Fun K "__init__" qual st f fd ∧ Mk K C f ∧ Binds K fd ps []
section
variable (P : Program) (w : World) (K : PySem.W.Frag) (mg : Str → Option Value) (base : Heap) (CX : CXT)
def Dfn (x : Str) (ps : List Str) (c : DSp) (k : Nat) : Prop := ∃ f fd, FnOk P w K mg base CX k f fd ps (toSp K c) ∧ mg x = some (.ref f) ∧ PySem.W.keepIn K (.ref f) = true ∧ Binds K fd ps []
def Dmt (C : Addr) (m : Str) (ps : List Str) (c : DSp) (k : Nat) : Prop := ∃ f fd, FnOk P w K mg base CX k f fd ps (toSp K c) ∧ Meth K C m f ∧ Binds K fd ps []
def Dmk (C : Addr) (ps : List Str) (c : DSp) (k : Nat) : Prop := ∃ f fd, FnOk P w K mg base CX k f fd ps (toSp K c) ∧ Mk K C f ∧ Binds K fd ps []
end
section
variable {X : Cx} {B : Hp} {e a b o : Expr} {es : List Expr} {pos p apos : Pos} {to : DTE} {tl : DTA} {k : Nat} {C : Addr} {ps : List Str} {c : DSp} {x m : Str}
theorem d_callD {j : Nat} (D : Dfn X.prog X.w X.K X.mg X.base CX0 x ps c k) (hr : Room j X.A) (hg : Gl X x) (ha : DA X B (e :: es) tl) (hj : k ≤ j := by decide)
    (hdb : (x == ("__debug__" : Str)) = false := by decide) (he : starEach (e :: es) X.env = (false, eval e X.env) :: starEach es X.env := by rfl) (hpl : (backTo pos (starEach es X.env)).any (·.1) = false := by rfl) :
    DE X B (.Call (.Name x p) (e :: es) [] pos) (dCall c noX tl) := by
  obtain ⟨f, fd, F, m, kp, b⟩ := D
  exact d_call F (hr.mono hj) hg m kp b ha hdb he hpl
theorem d_methD {j : Nat} {pl : Sem Bool} (he : DE X B o to) (cl : Cls X.K C) (D : Dmt X.prog X.w X.K X.mg X.base CX0 C m ps c k) (hr : Room j X.A) (ha : DA X B (e :: es) tl) (hj : k ≤ j := by decide)
    (hst : starEach (e :: es) X.env = (false, eval e X.env) :: starEach es X.env := by rfl) (hpl : (backTo pos (starEach es X.env)).any (·.1) = false := by rfl)
    (ht : eval (.Call (.Attribute o m apos) (e :: es) [] pos) X.env = (do
      let ov ← eval o X.env
      standAt apos.atName
      let (f, first) ← holding [ov] (getMethod ov m pl)
      callWith pos f first (backTo pos (starEach (e :: es) X.env)) (backToKw pos (keywordEach [] X.env))) := by rfl) :
    DE X B (.Call (.Attribute o m apos) (e :: es) [] pos) (dMeth C m c noX to tl) := by
  obtain ⟨f, fd, F, m, b⟩ := D
  exact d_meth he cl m F (hr.mono hj) b ha hst hpl ht
theorem d_methD0 {j : Nat} {pl : Sem Bool} (he : DE X B o to) (cl : Cls X.K C) (D : Dmt X.prog X.w X.K X.mg X.base CX0 C m ps c k) (hr : Room j X.A) (hj : k ≤ j := by decide)
    (ht : eval (.Call (.Attribute o m apos) [] [] pos) X.env = (do
      let ov ← eval o X.env
      standAt apos.atName
      let (f, first) ← holding [ov] (getMethod ov m pl)
      callWith pos f first (backTo pos (starEach [] X.env)) (backToKw pos (keywordEach [] X.env))) := by rfl) :
    DE X B (.Call (.Attribute o m apos) [] [] pos) (dMeth C m c noX to dNil) := by
  obtain ⟨f, fd, F, m, b⟩ := D
  exact d_meth0 he cl m F (hr.mono hj) b ht
theorem d_makeD {j : Nat} (D : Dmk X.prog X.w X.K X.mg X.base CX0 C ps c k) (hr : Room j X.A) (hg : Gl X x) (hm : X.mg x = some (.ref C)) (ha : DA X B (e :: es) tl) (hj : k + 1 ≤ j := by decide)
    (hdb : (x == ("__debug__" : Str)) = false := by decide) (he : starEach (e :: es) X.env = (false, eval e X.env) :: starEach es X.env := by rfl) (hpl : (backTo pos (starEach es X.env)).any (·.1) = false := by rfl) :
    DE X B (.Call (.Name x p) (e :: es) [] pos) (dMake C c noX tl) := by
  obtain ⟨f, fd, F, M, b⟩ := D
  exact d_make M F (hr.mono hj) hg hm b ha hdb he hpl
end
section
variable {P : Program} {w : World} {K : PySem.W.Frag} {mg : Str → Option Value} {base : Heap}
theorem dfn_of {x : Str} {st : Stmt} {N ps : List Str} {k : Nat} {c : DSp} (T : TopFn K mg x st ps) (S : FnScope N ps (defScope st)) (len : ∀ ds G P R, c ds G P R → ds.length = ps.length)
    (hb : ∀ (f : Addr) (cdv : Value) (A : Around) (outer : List Env) (s : Shared) (H : Hp) (E : XK) (B : Hp), Room k (A.deeper (PyProof.Rows.envOfC x (defScope st) s.heap.objs.size f cdv)) →
      ∃ t : DTS, DSs (cxOf CX0 P w K mg base N x (defScope st) f cdv A outer s H E).nox B (defBody st) t ∧ ∀ ds G P R, c ds G P R → t (dEnds P) (dstart N ds) G) : Dfn P w K mg base CX0 x ps c (k + 1) := by
  obtain ⟨f, fd, F, m, b⟩ := T
  exact ⟨f, fd, d_ok F S len (hb f), m, F.kp, b⟩
theorem dmt_of {C : Addr} {m qual : Str} {st : Stmt} {N ps : List Str} {k : Nat} {c : DSp} (T : TopMt K C m qual st ps) (S : FnScope N ps (defScope st)) (len : ∀ ds G P R, c ds G P R → ds.length = ps.length)
    (hb : ∀ (f : Addr) (cdv : Value) (A : Around) (outer : List Env) (s : Shared) (H : Hp) (E : XK) (B : Hp), Room k (A.deeper (PyProof.Rows.envOfC qual (defScope st) s.heap.objs.size f cdv)) →
      ∃ t : DTS, DSs (cxOf CX0 P w K mg base N qual (defScope st) f cdv A outer s H E).nox B (defBody st) t ∧ ∀ ds G P R, c ds G P R → t (dEnds P) (dstart N ds) G) : Dmt P w K mg base CX0 C m ps c (k + 1) := by
  obtain ⟨f, fd, F, m, b⟩ := T
  exact ⟨f, fd, d_ok F S len (hb f), m, b⟩
theorem dmk_of {C : Addr} {qual : Str} {st : Stmt} {N ps : List Str} {k : Nat} {c : DSp} (T : TopMk K C qual st ps) (S : FnScope N ps (defScope st)) (len : ∀ ds G P R, c ds G P R → ds.length = ps.length)
    (hb : ∀ (f : Addr) (cdv : Value) (A : Around) (outer : List Env) (s : Shared) (H : Hp) (E : XK) (B : Hp), Room k (A.deeper (PyProof.Rows.envOfC qual (defScope st) s.heap.objs.size f cdv)) →
      ∃ t : DTS, DSs (cxOf CX0 P w K mg base N qual (defScope st) f cdv A outer s H E).nox B (defBody st) t ∧ ∀ ds G P R, c ds G P R → t (dEnds P) (dstart N ds) G) : Dmk P w K mg base CX0 C ps c (k + 1) := by
  obtain ⟨f, fd, F, m, b⟩ := T
  exact ⟨f, fd, d_ok F S len (hb f), m, b⟩
end
end DL

set_option Elab.async false
set_option linter.all false
set_option maxRecDepth 100000
namespace DL
open PySem PySem.Spec L2
section
variable {X : Cx} {B : Hp} {e a b o : Expr} {es : List Expr} {st : Stmt} {rest : List Stmt} {pos : Pos} {ta tb te to : DTE} {tl : DTA} {t u : DTS}
/-- -a -/
def dNeg (ta : DTE) : DTE := fun δ G P => ta δ G fun x G1 => ∃ i : Int, x = .int i ∧ P (.int (-i)) G1
theorem d_neg (ha : DE X B a ta) : DE X B (.UnaryOp .USub a pos) (dNeg ta) := PE.imp (pe_un un_neg ha) fun σ H Q ⟨F, G, δ, P, g, s, p, c⟩ =>
  ⟨F, G, δ, _, g, s, p, fun d G' v F' H' ⟨i, e, p'⟩ l g' iv => by
    subst e
    cases iv
    exact ⟨i, rfl, c _ G' _ F' H' p' l g' (.int _)⟩⟩
/-- list(range(..)) -/
structure DRg (X : Cx) (B : Hp) (e : Expr) (t : DSt → Gp → (Int → Int → Gp → Prop) → Prop) : Prop where
  ex : ∃ t', PRg X e t' ∧ ∀ F G H σ δ P Q, Good X.K B F G H → Sl X.K F σ δ → t δ G P → (∀ i j G' F' H', P i j G' → Le F F' → Good X.K B F' G' H' → Q i j H') → t' σ H Q
def dRg1 (ta : DTE) : DSt → Gp → (Int → Int → Gp → Prop) → Prop := fun δ G P => ta δ G fun x G1 => ∃ n, x = .int n ∧ P 0 n G1
theorem d_rg1 {p : Pos} (hg : Gl X "range") (hm : X.mg "range" = none) (ha : DE X B a ta) (na : starEach [a] X.env = (false, eval a X.env) :: starEach [] X.env := by rfl) : DRg X B (.Call (.Name "range" p) [a] [] pos) (dRg1 ta) :=
  ⟨_, prg_1 hg hm ha na, fun F G H σ δ P Q g s p c => ⟨F, G, δ, _, g, s, p, fun d G' v F' H' ⟨n, e, p'⟩ l g' iv => by
    subst e
    cases iv
    exact ⟨n, rfl, c 0 n G' F' H' p' l g'⟩⟩⟩
def rgD (a b : Int) : List Dt := (List.range (b - a).toNat).map fun (i : Nat) => Dt.int (a + (i : Int))
theorem IsL.rg {K : PySem.W.Frag} {F : Hp} (a b : Int) : IsL K F (rgV a b) (rgD a b) := by
  unfold rgV rgD
  generalize (b - a).toNat = n
  have key : ∀ l : List Nat, IsL K F (l.map fun (i : Nat) => V.int (a + (i : Int))) (l.map fun (i : Nat) => Dt.int (a + (i : Int))) := by
    intro l
    induction l with
    | nil => exact .nil
    | cons x l ih => exact .cons (.int _) ih
  exact key _
theorem rgD_upto (n : Int) : rgD 0 n = upto 0 n.toNat := by unfold rgD upto; rw [Int.sub_zero]
def dListRg (t : DSt → Gp → (Int → Int → Gp → Prop) → Prop) : DTE := fun δ G P => t δ G fun i j G1 => RgOk i j ∧ P (.lst (rgD i j)) G1
def dListRgM (t : DSt → Gp → (Int → Int → Gp → Prop) → Prop) : DTE := fun δ G P => t δ G fun i j G1 => RgOk i j ∧ ∀ q, G1 q = none → P (.ref q) (gupd G1 q (.lst (rgD i j)))
theorem d_listRg {p : Pos} {t : DSt → Gp → (Int → Int → Gp → Prop) → Prop} (hc : X.calm = true) (hg : Gl X "list") (hm : X.mg "list" = none) (he : DRg X B e t) (na : starEach [e] X.env = (false, eval e X.env) :: starEach [] X.env := by rfl) : DE X B (.Call (.Name "list" p) [e] [] pos) (dListRg t) := by
  obtain ⟨t', h1, h2⟩ := he.ex
  exact PE.imp (pe_listRg hc hg hm h1 na) fun σ H Q ⟨F, G, δ, P, g, s, p, c⟩ => h2 F G H σ δ _ _ g s p fun i j G' F' H' ⟨ok, p'⟩ l g' => ⟨ok, fun q hq => by
    obtain ⟨l2, g2⟩ := g'.newF hq (.lst (rgV i j))
    exact c _ _ _ _ _ p' (l.trans l2) g2 (.lst upd_same (.rg i j))⟩
theorem d_listRgM {p : Pos} {t : DSt → Gp → (Int → Int → Gp → Prop) → Prop} (hc : X.calm = true) (hg : Gl X "list") (hm : X.mg "list" = none) (he : DRg X B e t) (na : starEach [e] X.env = (false, eval e X.env) :: starEach [] X.env := by rfl) : DE X B (.Call (.Name "list" p) [e] [] pos) (dListRgM t) := by
  obtain ⟨t', h1, h2⟩ := he.ex
  exact PE.imp (pe_listRg hc hg hm h1 na) fun σ H Q ⟨F, G, δ, P, g, s, p, c⟩ => h2 F G H σ δ _ _ g s p fun i j G' F' H' ⟨ok, p'⟩ l g' => ⟨ok, fun q hq =>
    c _ _ _ _ _ (p' q (g'.gnone hq)) l (g'.newM hq (m := .lst (rgD i j)) (.rg i j)) (.ref q)⟩
/-! ### methods of lists -/
variable {apos : Pos}
theorem d_append (ho : DE X B o to) (ha : DE X B a ta)
    (hs : starEach [a] X.env = (false, eval a X.env) :: starEach [] X.env := by rfl)
    (pe : ∀ {r : V → List V → Hp → VK → Prop} {t : TA} {to : TE}, MtR X "list.append" r → PE X o to → PA X [a] t → PE X (.Call (.Attribute o "append" apos) [a] [] pos) (tBM X.K "list" r to t) := by exact fun h1 h2 h3 => pe_bm PySem.F.plainAttrs_list PySem.F.slot_list_append PySem.F.type_list_append h1 h2 h3) :
    DE X B (.Call (.Attribute o "append" apos) [a] [] pos) (dBM rAppendD to (dCons ta dNil)) := by
  obtain ⟨r', h1, h2⟩ := (m_append (X := X) (B := B)).ex
  exact PE.imp (pe h1 ho (da_cons ha da_nil hs)) (bm_imp h2)
def rPopD : Dt → List Dt → Gp → DK → Prop := fun x ds G P => ∃ a xs d, x = .ref a ∧ ds = [] ∧ G a = some (.lst xs) ∧ xs[xs.length - 1]? = some d ∧ P d (gupd G a (.lst xs.dropLast))
theorem m_pop : DMt X B "list.pop" rPopD := ⟨_, mt_pop, fun F G H v x vs ds P Q g i1 i2 ⟨a, xs, d, e1, e2, h, hd, p⟩ c => by
  subst e1; subst e2
  cases i1
  cases i2
  obtain ⟨ws, e, r⟩ := g.mlst h
  obtain ⟨z, hz, iz⟩ := r.get hd
  exact ⟨a, ws, z, rfl, rfl, e, by rw [r.length]; exact hz, c _ _ _ _ _ p (Le.refl F) (g.write h (o := .lst ws.dropLast) (m := .lst xs.dropLast) r.dropLast) iz⟩⟩
theorem d_pop (ho : DE X B o to)
    (pe : ∀ {r : V → List V → Hp → VK → Prop} {to : TE}, MtR X "list.pop" r → PE X o to → PE X (.Call (.Attribute o "pop" apos) [] [] pos) (tBM0 X.K "list" r to) := by exact fun h1 h2 => pe_bm0 PySem.F.plainAttrs_list PySem.F.slot_list_pop PySem.F.type_list_pop h1 h2) :
    DE X B (.Call (.Attribute o "pop" apos) [] [] pos) (dBM0 rPopD to) := by
  obtain ⟨r', h1, h2⟩ := (m_pop (X := X) (B := B)).ex
  exact PE.imp (pe h1 ho) (bm0_imp h2)
def rPopAtD : Dt → List Dt → Gp → DK → Prop := fun x ds G P => ∃ a xs i k d, x = .ref a ∧ ds = [.int i] ∧ G a = some (.lst xs) ∧ -(2 ^ 63) ≤ i ∧ i < 2 ^ 63 ∧ seqIndex? i xs.length = some k ∧ xs[k]? = some d ∧ P d (gupd G a (.lst (xs.eraseIdx k)))
theorem m_popAt : DMt X B "list.pop" rPopAtD := ⟨_, mt_popAt, fun F G H v x vs ds P Q g i1 i2 ⟨a, xs, i, k, d, e1, e2, h, b1, b2, hk, hd, p⟩ c => by
  subst e1; subst e2
  cases i1
  cases i2 with
  | cons i2 i3 =>
    cases i2; cases i3
    obtain ⟨ws, e, r⟩ := g.mlst h
    obtain ⟨z, hz, iz⟩ := r.get hd
    exact ⟨a, ws, i, k, z, rfl, rfl, e, b1, b2, by rw [r.length]; exact hk, hz, c _ _ _ _ _ p (Le.refl F) (g.write h (o := .lst (ws.eraseIdx k)) (m := .lst (xs.eraseIdx k)) (r.eraseIdx k)) iz⟩⟩
theorem d_popAt (ho : DE X B o to) (ha : DE X B a ta)
    (hs : starEach [a] X.env = (false, eval a X.env) :: starEach [] X.env := by rfl)
    (pe : ∀ {r : V → List V → Hp → VK → Prop} {t : TA} {to : TE}, MtR X "list.pop" r → PE X o to → PA X [a] t → PE X (.Call (.Attribute o "pop" apos) [a] [] pos) (tBM X.K "list" r to t) := by exact fun h1 h2 h3 => pe_bm PySem.F.plainAttrs_list PySem.F.slot_list_pop PySem.F.type_list_pop h1 h2 h3) :
    DE X B (.Call (.Attribute o "pop" apos) [a] [] pos) (dBM rPopAtD to (dCons ta dNil)) := by
  obtain ⟨r', h1, h2⟩ := (m_popAt (X := X) (B := B)).ex
  exact PE.imp (pe h1 ho (da_cons ha da_nil hs)) (bm_imp h2)
/-! ### enumerate -/
def enumD (ds : List Dt) : List Dt := (List.range ds.length).map fun (i : Nat) => Dt.tup [.int (i : Int), ds.getD i .non]
theorem enumD_length (ds : List Dt) : (enumD ds).length = ds.length := by simp [enumD]
theorem enumD_get {ds : List Dt} {i : Nat} {d : Dt} (h : (enumD ds)[i]? = some d) : ∃ x, ds[i]? = some x ∧ d = .tup [.int (i : Int), x] := by
  unfold enumD at h
  rw [List.getElem?_map] at h
  by_cases hi : i < ds.length
  · rw [List.getElem?_range hi] at h
    cases h
    refine ⟨ds[i], List.getElem?_eq_getElem hi, ?_⟩
    simp [List.getD, List.getElem?_eq_getElem hi]
  · rw [List.getElem?_eq_none (by simpa using hi)] at h
    cases h
def diEnum (t : DTA) : DTI := fun δ G P => t δ G fun ds G1 => ∃ d xs, ds = [d] ∧ d = .lst xs ∧ P (enumD xs) G1
theorem di_enumerate {elts : List Expr} {kk : Nat} {tpos p : Pos} (hg : Gl X "enumerate") (hm : X.mg "enumerate" = none) (ha : DA X B [e] tl) (hs : starEach [e] X.env = [(false, eval e X.env)] := by rfl) : DI X B (.Tuple elts kk tpos) (.Call (.Name "enumerate" p) [e] [] pos) (diEnum tl) :=
  PI.imp (pi_enum hg hm ha hs) fun σ H R ⟨F, G, δ, P, g, s, p, c⟩ => ⟨F, G, δ, _, g, s, p, fun ds G1 vs F1 H1 ⟨d, xs, e1, e2, p1⟩ l1 g1 i1 => by
    subst e1; subst e2
    cases i1 with
    | cons i1 i2 =>
      cases i2
      cases i1 with
      | lst q r =>
        refine ⟨_, _, rfl, SqL.of (g1.fz _ _ q), c _ G1 F1 H1 _ p1 l1 g1 ⟨fun i F' G H l g hi => ⟨_, _, SqL.of (g.fz _ _ (l _ _ q)), List.getElem?_eq_getElem (by rw [r.length]; rw [enumD_length] at hi; exact hi)⟩,
          fun i F' G H x H' d l g hd ⟨T, w, e, hT, e', hx⟩ => ?_,
          fun i F' G H l g hi => ⟨_, SqL.of (g.fz _ _ (l _ _ q)), by rw [r.length]; rw [enumD_length] at hi; exact hi⟩⟩⟩
        subst e; subst e'
        obtain ⟨y, hy, rfl⟩ := enumD_get hd
        have h1 := hx _ (SqL.of (g.fz _ _ (l _ _ q)))
        obtain ⟨v, h2, h3⟩ := r.get hy
        rw [h1] at h2
        cases h2
        obtain ⟨l2, g2⟩ := g.newF hT (.tup [.int (i : Nat), w])
        exact ⟨_, l2, g2, .tup upd_same (.cons (.int _) (.one (h3.le (l.trans l2))))⟩⟩
/-! ### truth of any value -/
def truD (G : Gp) (d : Dt) (k : Bool) : Prop := match d with
  | .non => k = false
  | .bl b => k = b
  | .int i => k = (i != 0)
  | d => ∃ xs, asQ G d = some xs ∧ k = !xs.isEmpty
def dTru (te : DTE) : DTT := fun δ G P => te δ G fun x G1 => ∃ k, truD G1 x k ∧ P k G1
theorem IsL.isEmpty {K : PySem.W.Frag} {F : Hp} {vs : List V} {ds : List Dt} (r : IsL K F vs ds) : vs.isEmpty = ds.isEmpty := by cases r <;> rfl
theorem dt_truth (ha : DE X B a ta) (he : ∀ whole, isTrue a X.env whole = (do let v ← whole; standAt a.pos; holding [v] (truthy v)) := by intro _; rfl) : DT X B a (dTru ta) :=
  PT.imp (pt_truth ha he) fun σ H Q ⟨F, G, δ, P, g, s, p, c⟩ => ⟨F, G, δ, _, g, s, p, fun d G' v F' H' ⟨k, hk, p'⟩ l g' iv => by
    refine ⟨k, ?_, c k G' F' H' p' l g'⟩
    have seq : (∃ xs, asQ G' d = some xs ∧ k = !xs.isEmpty) → TruV X.K v H' k := by
      rintro ⟨xs, h1, h2⟩
      obtain ⟨q, vs, rfl, e2, r⟩ := asQ_is g' iv h1
      rw [← r.isEmpty] at h2
      rcases e2 with e2 | e2
      · exact .inl ⟨vs, e2, h2⟩
      · exact .inr (.inl ⟨vs, e2, h2⟩)
    cases iv with
    | non => exact hk
    | bl b => exact hk
    | int i => exact hk
    | str x => exact (by obtain ⟨xs, h1, _⟩ := hk; cases h1)
    | ref a => exact seq hk
    | scr q => exact seq hk
    | lst q r => exact seq hk
    | tup q r => exact seq hk
    | obj q n r => exact (by obtain ⟨xs, h1, _⟩ := hk; cases h1)
    | memo q => exact (by obtain ⟨xs, h1, _⟩ := hk; cases h1)
    | dk q => exact (by obtain ⟨xs, h1, _⟩ := hk; cases h1)
    | exc q q2 r => exact (by obtain ⟨xs, h1, _⟩ := hk; cases h1)
    | ty n => exact (by obtain ⟨xs, h1, _⟩ := hk; cases h1)⟩
/-! ### sorted of pairs -/
theorem IsL.of_all {K : PySem.W.Frag} {F : Hp} {g : V → Dt} : ∀ {vs : List V}, (∀ v ∈ vs, Is K F v (g v)) → IsL K F vs (vs.map g)
  | [], _ => .nil
  | v :: vs, h => .cons (h v List.mem_cons_self) (IsL.of_all fun w hw => h w (List.mem_cons_of_mem _ hw))
theorem IsL.all_of {K : PySem.W.Frag} {F : Hp} : ∀ {vs : List V} {ds : List Dt}, IsL K F vs ds → ∀ v ∈ vs, ∃ d ∈ ds, Is K F v d
  | _, _, .nil, v, h => absurd h (by simp)
  | _, _, .cons r s, v, h => by
    rcases List.mem_cons.mp h with e | h
    · subst e; exact ⟨_, List.mem_cons_self, r⟩
    · obtain ⟨d, h1, h2⟩ := IsL.all_of s v h
      exact ⟨d, List.mem_cons_of_mem _ h1, h2⟩
def keyP (H : Hp) : V → Int × Int
  | .ref t => match H t with
    | some (.tup [.int i, .int j]) => (i, j)
    | _ => (0, 0)
  | _ => (0, 0)
theorem keyP_is {K : PySem.W.Frag} {F : Hp} {G : Gp} {H : Hp} {v : V} {p : Int × Int} (g : Good K B F G H) (i : Is K F v (pairD p)) : keyP H v = p ∧ ∃ t, v = .ref t ∧ H t = some (.tup [.int p.1, .int p.2]) := by
  cases i with
  | @tup t _ _ q r =>
    cases r with
    | cons r1 r =>
      cases r with
      | cons r2 r =>
        cases r; cases r1; cases r2
        have e := g.fz _ _ q
        refine ⟨?_, t, rfl, e⟩
        simp only [keyP, e]
theorem c_sortP : DCall X B (.builtin "sorted") rSortP := ⟨_, cr_sortedPO, fun F G H vs ds P Q g i ⟨d, ns, e, h, p⟩ c => by
  subst e
  cases i with
  | cons i1 i2 =>
    cases i2
    obtain ⟨q, ws, rfl, e2, r⟩ := asL_is g i1 h
    have all : ∀ v ∈ ws, Is X.K F v (pairD (keyP H v)) ∧ ∃ t, v = .ref t ∧ H t = some (.tup [.int (keyP H v).1, .int (keyP H v).2]) := fun v hv => by
      obtain ⟨d', hd', iv⟩ := r.all_of v hv
      obtain ⟨pr, _, rfl⟩ := List.mem_map.mp hd'
      obtain ⟨k1, k2⟩ := keyP_is g iv
      rw [k1]
      exact ⟨iv, k2⟩
    have ens : ws.map (keyP H) = ns := by
      have key : ∀ {ws : List V} {ns : List (Int × Int)}, IsL X.K F ws (ns.map pairD) → ws.map (keyP H) = ns := by
        intro ws ns r
        induction ns generalizing ws with
        | nil => cases r; rfl
        | cons n ns ih =>
          cases r with
          | cons r1 r2 => rw [List.map_cons, (keyP_is g r1).1, ih r2]
      exact key r
    refine ⟨q, ws, keyP H, rfl, SqL.of e2, fun v hv => ?_, fun ys l hs hb hl => ?_⟩
    · obtain ⟨_, t, e1, e3⟩ := all v hv
      exact ⟨t, e1, e3⟩
    · obtain ⟨l2, g2⟩ := g.newF hl (.lst ys)
      have pm : (ys.map (keyP H)).Perm ns := by rw [← ens]; exact hb.perm.map _
      refine c _ _ _ _ _ (p (ys.map (keyP H)) pm ?_) l2 g2 (.lst upd_same ?_)
      · refine List.pairwise_map.mpr (hs.imp fun {x y} hxy => ?_)
        have := SrtO.lexB_no.mp hxy
        unfold leP
        omega
      · rw [List.map_map]
        exact IsL.of_all fun v hv => (all v (hb.perm.mem_iff.mp hv)).1.le l2⟩
/-! ### [x] * n -/
def rRepD : DR2 := fun x y G P => ∃ (xs : List Dt) (k : Int), asL G x = some xs ∧ y = .int k ∧ -(2 ^ 63) ≤ k ∧ k < 2 ^ 63 ∧ xs.length * k.toNat ≤ sizeLine ∧ P (.lst (List.replicate k.toNat xs).flatten) G
def rRepM : DR2 := fun x y G P => ∃ (xs : List Dt) (k : Int), asL G x = some xs ∧ y = .int k ∧ -(2 ^ 63) ≤ k ∧ k < 2 ^ 63 ∧ xs.length * k.toNat ≤ sizeLine ∧ ∀ p, G p = none → P (.ref p) (gupd G p (.lst (List.replicate k.toNat xs).flatten))
theorem IsL.rep {K : PySem.W.Frag} {F : Hp} {vs : List V} {ds : List Dt} (r : IsL K F vs ds) : ∀ n : Nat, IsL K F (List.replicate n vs).flatten (List.replicate n ds).flatten
  | 0 => .nil
  | n + 1 => by
    rw [List.replicate_succ, List.replicate_succ, List.flatten_cons, List.flatten_cons]
    exact r.append (IsL.rep r n)
theorem o_rep : DOp X B (binaryOp .Mult) rRepD := ⟨_, op_rep, fun F G H v w x y P Q g rx ry ⟨xs, k, h, e, b1, b2, hz, p⟩ c => by
  subst e
  cases ry
  obtain ⟨q, vs, rfl, e2, r⟩ := asL_is g rx h
  refine ⟨q, k, vs, rfl, rfl, e2, b1, b2, by rw [r.length]; exact hz, fun l hl => ?_⟩
  obtain ⟨l2, g2⟩ := g.newF hl (.lst (List.replicate k.toNat vs).flatten)
  exact c _ _ _ _ _ p l2 g2 (.lst upd_same ((r.rep _).le l2))⟩
theorem o_repM : DOp X B (binaryOp .Mult) rRepM := ⟨_, op_rep, fun F G H v w x y P Q g rx ry ⟨xs, k, h, e, b1, b2, hz, p⟩ c => by
  subst e
  cases ry
  obtain ⟨q, vs, rfl, e2, r⟩ := asL_is g rx h
  refine ⟨q, k, vs, rfl, rfl, e2, b1, b2, by rw [r.length]; exact hz, fun l hl => ?_⟩
  exact c _ _ _ _ _ (p l (g.gnone hl)) (Le.refl F) (g.newM hl (m := .lst (List.replicate k.toNat xs).flatten) (r.rep _)) (.ref l)⟩
/-! ### lists joined -/
def rCatD : DR2 := fun x y G P => ∃ xs ys, asL G x = some xs ∧ asL G y = some ys ∧ xs.length + ys.length ≤ sizeLine ∧ P (.lst (xs ++ ys)) G
theorem o_cat : DOp X B (binaryOp .Add) rCatD := ⟨_, op_cat, fun F G H v w x y P Q g rx ry ⟨xs, ys, h1, h2, hz, p⟩ c => by
  obtain ⟨q, vs, rfl, e2, r⟩ := asL_is g rx h1
  obtain ⟨q', vs', rfl, e2', r'⟩ := asL_is g ry h2
  refine ⟨q, q', vs, vs', rfl, rfl, e2, e2', by rw [r.length, r'.length]; exact hz, fun l hl => ?_⟩
  obtain ⟨l2, g2⟩ := g.newF hl (.lst (vs ++ vs'))
  exact c _ _ _ _ _ p l2 g2 (.lst upd_same ((r.append r').le l2))⟩
end

/-! ### data compared -/
def pl : Nat → Dt → Bool
  | _, .non => true
  | _, .int _ => true
  | _, .str x => PyData.strOk x
  | n + 1, .lst xs => xs.all (pl n)
  | n + 1, .tup xs => xs.all (pl n)
  | _, _ => false
def toPy : Nat → Dt → PyData
  | _, .int i => .int i
  | _, .str x => .str x
  | n + 1, .lst xs => .list (xs.map (toPy n))
  | n + 1, .tup xs => .tuple (xs.map (toPy n))
  | _, _ => .none
theorem pl_is {K : PySem.W.Frag} {F : Hp} {H : Hp} (l : ∀ a o, F a = some o → notM o = true → H a = some o) : ∀ (n : Nat) {v : V} {d : Dt}, pl n d = true → Is K F v d → Dp K H v (toPy n d) := by
  intro n
  induction n with
  | zero =>
    intro v d h i
    cases i <;> first
      | (simp [pl] at h; done)
      | (simp only [toPy]; constructor)
  | succ n ih =>
    have all : ∀ {vs : List V} {ds : List Dt}, ds.all (pl n) = true → IsL K F vs ds → DpAll K H vs (ds.map (toPy n)) := by
      intro vs ds
      induction ds generalizing vs with
      | nil => intro _ r; cases r; exact .nil
      | cons d ds ih2 =>
        intro h r
        rw [List.all_cons, Bool.and_eq_true] at h
        cases r with
        | cons r1 r2 => exact .cons (ih h.1 r1) (ih2 h.2 r2)
    intro v d h i
    cases i with
    | lst q r => simp only [pl] at h; exact .lst (SqL.of (l _ _ q rfl)) (all h r)
    | tup q r => simp only [pl] at h; exact .tup (SqT.of (l _ _ q rfl)) (all h r)
    | non => simp only [toPy]; exact .non
    | int i => simp only [toPy]; exact .int i
    | str x => simp only [toPy]; exact .str x
    | _ => simp [pl] at h
theorem pl_lay : ∀ (n : Nat) {d : Dt}, pl n d = true → (toPy n d).canLay0 = true ∧ (toPy n d).depth ≤ n := by
  intro n
  induction n with
  | zero =>
    intro d h
    cases d <;> simp [pl] at h <;> simp [toPy, PyData.canLay0, PyData.depth, h]
  | succ n ih =>
    have all : ∀ {ds : List Dt}, ds.all (pl n) = true → PyData.canLayAll0 (ds.map (toPy n)) = true ∧ PyData.depthAll (ds.map (toPy n)) ≤ n := by
      intro ds
      induction ds with
      | nil => intro _; simp [PyData.canLayAll0, PyData.depthAll]
      | cons d ds ih2 =>
        intro h
        rw [List.all_cons, Bool.and_eq_true] at h
        obtain ⟨a1, a2⟩ := ih h.1
        obtain ⟨b1, b2⟩ := ih2 h.2
        simp only [List.map_cons, PyData.canLayAll0, PyData.depthAll, a1, b1, Bool.and_self, true_and]
        omega
    intro d h
    cases d with
    | lst xs =>
      simp only [pl] at h
      obtain ⟨a, b⟩ := all h
      simp only [toPy, PyData.canLay0, PyData.depth, a, true_and]
      omega
    | tup xs =>
      simp only [pl] at h
      obtain ⟨a, b⟩ := all h
      simp only [toPy, PyData.canLay0, PyData.depth, a, true_and]
      omega
    | _ => simp [pl] at h <;> simp [toPy, PyData.canLay0, PyData.depth, h]
theorem pl_shaped {n : Nat} {d : Dt} (hn : n ≤ 64) (h : pl n d = true) : SeqAt.shaped (toPy n d) = true := by
  obtain ⟨a, b⟩ := pl_lay n h
  unfold SeqAt.shaped
  rw [a, Bool.true_and]
  exact decide_eq_true (Nat.le_trans b hn)
theorem pl_eqv : ∀ (n : Nat) {d e : Dt}, pl n d = true → pl n e = true → (PyData.eqv (toPy n d) (toPy n e) = true ↔ d = e) := by
  intro n
  induction n with
  | zero =>
    intro d e h h'
    cases d <;> simp [pl] at h <;> cases e <;> simp [pl] at h' <;> simp [toPy, PyData.eqv]
  | succ n ih =>
    have all : ∀ {ds es : List Dt}, ds.all (pl n) = true → es.all (pl n) = true → (PyData.eqvAll (ds.map (toPy n)) (es.map (toPy n)) = true ↔ ds = es) := by
      intro ds
      induction ds with
      | nil =>
        intro es _ _
        cases es <;> simp [PyData.eqvAll]
      | cons d ds ih2 =>
        intro es h h'
        cases es with
        | nil => simp [PyData.eqvAll]
        | cons e es =>
          rw [List.all_cons, Bool.and_eq_true] at h h'
          simp only [List.map_cons, PyData.eqvAll, Bool.and_eq_true, ih h.1 h'.1, ih2 h.2 h'.2, List.cons.injEq]
    intro d e h h'
    cases d <;> simp [pl] at h <;> cases e <;> simp [pl] at h' <;> simp [toPy, PyData.eqv]
    · exact all (by simpa using h) (by simpa using h')
    · exact all (by simpa using h) (by simpa using h')
section
variable {X : Cx} {B : Hp}
/-- what a value is, a mutable list read as it stands -/
def now (G : Gp) (d : Dt) : Dt := match asL G d with
  | some xs => .lst xs
  | none => d
theorem now_is {K : PySem.W.Frag} {F : Hp} {G : Gp} {H : Hp} {v : V} {d : Dt} (g : Good K B F G H) (i : Is K F v d) {n : Nat} (h : pl n (now G d) = true) : Dp K H v (toPy n (now G d)) := by
  unfold now at h ⊢
  split
  · rename_i xs e
    rw [e] at h
    obtain ⟨q, vs, rfl, e2, r⟩ := asL_is g i e
    cases n with
    | zero => simp [pl] at h
    | succ n =>
      simp only [pl] at h
      have := pl_is (K := K) (F := upd F q (.lst vs)) (H := H) (fun a o e z => by
        by_cases ha : a = q
        · subst ha; rw [upd_same] at e; cases e; exact e2
        · rw [upd_ne ha] at e; exact g.fz0 _ _ e z) (n + 1) (v := .ref q) (d := .lst xs) (by simp only [pl]; exact h)
      refine this (.lst upd_same ?_)
      have hle : ∀ a o, F a = some o → a ≠ q → (upd F q (.lst vs)) a = some o := fun a o e ha => by rw [upd_ne ha]; exact e
      cases hq : F q with
      | none => exact r.le (Le.upd hq)
      | some o =>
        have hn : notM o = true := by
          cases o with
          | dT r => obtain ⟨s, e', _⟩ := g.mm _ _ hq; rw [e2] at e'; cases e'
          | _ => rfl
        have e3 := g.fz0 _ _ hq hn
        rw [e2] at e3
        cases e3
        have : upd F q (.lst vs) = F := by
          funext a
          unfold upd
          split
          · rename_i ha; rw [ha, hq]
          · rfl
        rw [this]; exact r
  · rename_i e
    rw [e] at h
    exact pl_is g.fz0 n h i
def rEqP (neg : Bool) : DR2 := fun x y G P => (pl 9 (now G x) = true ∧ pl 9 (now G y) = true) ∧ ∀ b : Bool, (b = true ↔ now G x = now G y) → P (.bl (if neg then !b else b)) G
theorem o_eq {k : Nat} (hr : Room k X.A) : DOp X B (compareOp .Eq) (rEqP false) := ⟨_, op_eqD hr.units, fun F G H v w x y P Q g rx ry ⟨⟨h1, h2⟩, p⟩ c =>
  ⟨_, _, now_is g rx h1, now_is g ry h2, pl_shaped (by decide) h1, pl_shaped (by decide) h2, c _ G _ F H (p _ (pl_eqv 9 h1 h2)) (Le.refl F) g (.bl _)⟩⟩
theorem o_ne {k : Nat} (hr : Room k X.A) : DOp X B (compareOp .NotEq) (rEqP true) := ⟨_, op_neD hr.units, fun F G H v w x y P Q g rx ry ⟨⟨h1, h2⟩, p⟩ c =>
  ⟨_, _, now_is g rx h1, now_is g ry h2, pl_shaped (by decide) h1, pl_shaped (by decide) h2, c _ G _ F H (p _ (pl_eqv 9 h1 h2)) (Le.refl F) g (.bl _)⟩⟩
/-- two ints, two texts, two truths -/
def flatD : Dt → Bool
  | .int _ => true
  | _ => false
theorem o_eqI : DOp X B (compareOp .Eq) (r2I (fun _ _ => True) fun i j => .bl (decide (i = j))) := ⟨_, op_eq, fun F G H v w x y P Q g rx ry ⟨i, j, e1, e2, _, p⟩ c => by
  subst e1; subst e2
  cases rx; cases ry
  refine ⟨rfl, c _ G _ F H p (Le.refl F) g ?_⟩
  have e : decide (V.int i = V.int j) = decide (i = j) := by simp
  rw [e]; exact .bl _⟩
theorem o_neI : DOp X B (compareOp .NotEq) (r2I (fun _ _ => True) fun i j => .bl (!decide (i = j))) := ⟨_, op_ne, fun F G H v w x y P Q g rx ry ⟨i, j, e1, e2, _, p⟩ c => by
  subst e1; subst e2
  cases rx; cases ry
  refine ⟨rfl, c _ G _ F H p (Le.refl F) g ?_⟩
  have e : decide (V.int i = V.int j) = decide (i = j) := by simp
  rw [e]; exact .bl _⟩
end

/-! ### for simp -/
section
variable {G : Gp} {a : Addr} {xs : List Dt} {ns : List Int} {C : Addr} {fs : List Str}
theorem asL_lst : asL G (.lst xs) = some xs := rfl
theorem asQ_lst : asQ G (.lst xs) = some xs := rfl
theorem asQ_tup : asQ G (.tup xs) = some xs := rfl
theorem asQ_scr : asQ G (.scr ns) = some (ns.map Dt.int) := rfl
theorem asL_ref (h : G a = some (.lst xs)) : asL G (.ref a) = some xs := by simp only [asL, h]
theorem asQ_ref (h : G a = some (.lst xs)) : asQ G (.ref a) = some xs := by simp only [asQ, asL, h]
theorem ins_obj : insOf G (.obj C fs xs) = some (C, fs, xs) := rfl
theorem ins_ref (h : G a = some (.ins C fs xs)) : insOf G (.ref a) = some (C, fs, xs) := by simp only [insOf, h]
def mapI (g : Int → Int) : Dt → Dt
  | .int z => .int (g z)
  | d => d
end
theorem dFor_intro {wi : DTI} {g : DTG} {tb : DTS} {D : DEnds} {δ : DSt} {G : Gp} (ds : List Dt) (G1 : Gp) (W : Nat → DSt → Gp → Prop) (hw : ∀ P : List Dt → Gp → Prop, P ds G1 → wi δ G P) (h0 : W 0 δ G1)
    (turn : ∀ i d δ' G', ds[i]? = some d → W i δ' G' → g d δ' G' fun δ2 G2 => tb { D with nx := W (i + 1), ct := W (i + 1), bk := D.nx } δ2 G2) (fin : ∀ δ' G', W ds.length δ' G' → D.nx δ' G') : dFor wi g tb D δ G := hw _ ⟨W, h0, turn, fin⟩
theorem dLcP_intro {wi : DTI} {g : DTG} {tt : DTT} {te : DTE} {vs : List Nat} {δ : DSt} {G : Gp} {P : DK} (ds : List Dt) (p : Dt → Bool) (f : Dt → Dt) (hw : ∀ P : List Dt → Gp → Prop, P ds G → wi δ G P) (hz : ds.length < sizeLine)
    (turn : ∀ d G', d ∈ ds → GLe G G' → g d (dwipe δ vs) G' fun δ2 G2 => G2 = G' ∧ tt δ2 G2 fun b G3 => G3 = G' ∧ b = p d ∧ (b = true → te δ2 G3 fun y G4 => G4 = G' ∧ y = f d)) (fin : P (.lst ((ds.filter p).map f)) G) : dLcP wi g tt te vs δ G P :=
  hw _ ⟨hz, p, f, turn, fin⟩
theorem dWhile_intro {c : DTT} {tb : DTS} {D : DEnds} {δ : DSt} {G : Gp} (W : Nat → DSt → Gp → Prop) (m : Nat) (h0 : W m δ G)
    (turn : ∀ m δ G, W m δ G → c δ G fun b G1 => if b = true then tb { D with nx := fun δ' G' => ∃ m', m' < m ∧ W m' δ' G', ct := fun δ' G' => ∃ m', m' < m ∧ W m' δ' G', bk := D.nx } δ G1 else D.nx δ G1) : dWhile c tb D δ G := ⟨W, ⟨m, h0⟩, turn⟩
theorem dLc_intro {wi : DTI} {g : DTG} {tt : DTT} {te : DTE} {vs : List Nat} {δ : DSt} {G : Gp} {P : DK} (ds : List Dt) (G1 : Gp) (W : Addr → Nat → List Dt → Gp → Prop) (hw : ∀ P : List Dt → Gp → Prop, P ds G1 → wi δ G P) (h0 : ∀ D, G1 D = none → W D 0 [] (gupd G1 D (.lst [])))
    (turn : ∀ D i d acc G', G1 D = none → ds[i]? = some d → W D i acc G' → g d (dwipe δ vs) G' fun δ2 G2 => tt δ2 G2 fun b G3 => if b = true then te δ2 G3 fun y G4 => G4 D = some (.lst acc) ∧ acc.length < sizeLine ∧ W D (i + 1) (acc ++ [y]) (gupd G4 D (.lst (acc ++ [y]))) else W D (i + 1) acc G3)
    (fin : ∀ D acc G', G1 D = none → W D ds.length acc G' → P (.ref D) G') : dLc wi g tt te vs δ G P :=
  hw _ fun D hD => ⟨W D, h0 D hD, fun i d acc G' => turn D i d acc G' hD, fun acc G' => fin D acc G' hD⟩
/-! ### small places -/
section
variable {x y z u : Dt} {l : List Dt} {G : Gp} {a : Addr} {xs : List Dt}
theorem atI_0 : atI (x :: l) 0 = some x := by unfold atI ixN; simp
theorem atI_1 : atI (x :: y :: l) 1 = some y := by
  unfold atI ixN
  rw [if_pos (by decide), if_pos (by simp only [List.length_cons]; omega)]
  rfl
theorem atI_2 : atI (x :: y :: z :: l) 2 = some z := by
  unfold atI ixN
  rw [if_pos (by decide), if_pos (by simp only [List.length_cons]; omega)]
  rfl
theorem atI_3 : atI (x :: y :: z :: u :: l) 3 = some u := by
  unfold atI ixN
  rw [if_pos (by decide), if_pos (by simp only [List.length_cons]; omega)]
  rfl
theorem ix4_1 : ixN 4 1 = some 1 := by decide
theorem ix4_3 : ixN 4 3 = some 3 := by decide
theorem ix4_0 : ixN 4 0 = some 0 := by decide
theorem now_ref (h : G a = some (.lst xs)) : now G (.ref a) = .lst xs := by simp only [now, asL, h]
theorem now_lst : now G (.lst xs) = .lst xs := rfl
theorem now_int {i : Int} : now G (.int i) = .int i := rfl
theorem now_tup : now G (.tup xs) = .tup xs := rfl
theorem pl_ints (ns : List Int) : pl 9 (.lst (ns.map Dt.int)) = true := by simp [pl]
theorem pl_nil : pl 9 (.lst []) = true := rfl
end
end DL

set_option Elab.async false
set_option linter.all false
set_option maxRecDepth 100000
set_option maxHeartbeats 2000000
namespace DL
open PySem PySem.Spec L2
/-- what is asked of a class whose instances are looked at by isinstance -/
structure IsF (K : PySem.W.Frag) (C : Addr) : Prop where
  cl : Cls K C
  ha : PySem.W.findIn K (.ref C) "__class__" = some (some (.builtin "object.__class__"))
  hn : PySem.W.specialIn K (.builtin "object.__class__") "__get__" = some (some (.builtin "getset_descriptor.__get__"))
  htk : PySem.W.takesIn K (.builtin "object.__class__") = some true
  hm : PySem.W.mroIn K C (.type "object") = some true
def tagD (G : Gp) : Dt → Option Value
  | .non => some (.type "NoneType")
  | .bl _ => some (.type "bool")
  | .int _ => some (.type "int")
  | .str _ => some (.type "str")
  | .lst _ => some (.type "list")
  | .tup _ => some (.type "tuple")
  | .obj C _ _ => some (.ref C)
  | .ref a => match G a with
    | some (.lst _) => some (.type "list")
    | some (.ins C _ _) => some (.ref C)
    | some (.dK _) => some (.type "dict")
    | some (.raw _) => none
    | none => none
  | _ => none
theorem tag_is {K : PySem.W.Frag} {B F : Hp} {G : Gp} {H : Hp} {v : V} {d : Dt} {t : Value} (g : Good K B F G H) (i : Is K F v d) (h : tagD G d = some t) (hc : ∀ C, t = .ref C → IsF K C) : TyX K H v t := by
  cases i with
  | non => cases h; exact .base .non
  | bl b => cases h; exact .base (.bl b)
  | int n => cases h; exact .base (.int n)
  | str x => cases h; exact .base (.str x)
  | lst q r => cases h; exact .base (.lst (g.fz _ _ q))
  | tup q r => cases h; exact .base (.tup (g.fz _ _ q))
  | obj q n r =>
    cases h
    obtain ⟨h1, h2, h3, h4, h5⟩ := hc _ rfl
    exact .base (.ins (g.fz _ _ q) h1 h2 h3 h4 h5)
  | ref a =>
    unfold tagD at h
    dsimp only at h
    split at h
    · rename_i xs e
      cases h
      obtain ⟨vs, e1, _⟩ := g.mlst e
      exact .base (.lst e1)
    · rename_i C ns xs e
      cases h
      obtain ⟨dx, fs, e1, _, _⟩ := g.mins e
      obtain ⟨h1, h2, h3, h4, h5⟩ := hc _ rfl
      exact .base (.ins e1 h1 h2 h3 h4 h5)
    · rename_i kvs e
      cases h
      obtain ⟨r, e1, _⟩ := g.mdK e
      exact .base (.dK e1)
    · cases h
    · cases h
  | ty n => cases h
  | scr q => cases h
  | memo q => cases h
  | dk q => cases h
  | exc q q2 r => cases h
def clsD : Dt → Option Value
  | .ty n => some (.type n)
  | .ref C => some (.ref C)
  | _ => none
section
variable {X : Cx} {B : Hp} {pos : Pos} {e a b : Expr} {ta tb : DTE}
def rIsiD (K : PySem.W.Frag) : DR := fun ds G P => ∃ d c t u b, ds = [d, c] ∧ tagD G d = some t ∧ clsD c = some u ∧ (∀ C, t = .ref C → IsF K C) ∧ PySem.W.kitOne K t u = some b ∧ P (.bl b) G
theorem c_isi : DCall X B (.builtin "isinstance") (rIsiD X.K) := ⟨_, call_isi, fun F G H vs ds P Q g i ⟨d, c, t, u, b, e, h1, h2, h3, h4, p⟩ k => by
  subst e
  cases i with
  | cons i1 i2 =>
    cases i2 with
    | cons i2 i3 =>
      cases i3
      have hc : ∃ w, ClsV w u ∧ ∀ w', Is X.K F w' c → w' = w := by
        cases c <;> first
          | (cases h2; exact ⟨_, .ty _, fun w' h => by cases h; rfl⟩)
          | (cases h2; exact ⟨_, .own _, fun w' h => by cases h; rfl⟩)
          | cases h2
      obtain ⟨w, hw, hw'⟩ := hc
      have := hw' _ i2
      subst this
      exact ⟨_, _, t, u, b, rfl, hw, tag_is g i1 h1 h3, h4, k _ G _ F H p (Le.refl F) g (.bl b)⟩⟩
/-- a built-in class, an own class, as a value -/
theorem d_ty {x : Str} {n : String} (hg : Gl X x) (hm : X.mg x = none) (hv : bootBuiltins x = some (.type n)) (hn : x ≠ "__name__" := by decide) (hd : (x == ("__debug__" : Str)) = false := by decide) : DE X B (.Name x pos) (dC (.ty n)) :=
  PE.imp (pe_bltn hg hm hv (v := .ty n) rfl hn hd) fun σ H Q ⟨F, G, δ, P, g, s, p, c⟩ => c _ G _ F H p (Le.refl F) g (.ty n)
theorem d_cls {x : Str} {C : Addr} (hg : Gl X x) (hm : X.mg x = some (.ref C)) (hd : (x == ("__debug__" : Str)) = false := by decide) : DE X B (.Name x pos) (dC (.ref C)) :=
  PE.imp (pe_glob hg hm (v := .ref C) rfl hd) fun σ H Q ⟨F, G, δ, P, g, s, p, c⟩ => c _ G _ F H p (Le.refl F) g (.ref C)
/-! ### own == and != -/
/-- the class at C has its own def at f for the comparison -/
structure OwnCmp (K : PySem.W.Frag) (C f : Addr) (m : Str) : Prop where
  at_ : PySem.W.findIn K (.ref C) m = some (some (.ref f))
  fn : PySem.W.isFn K (.ref f) = true
def rOwn (K : PySem.W.Frag) (C : Addr) (c : DSp) : DR2 := fun x y G P => (∃ ns xs, insOf G x = some (C, ns, xs)) ∧ (∃ t, tagD G y = some t ∧ (∀ D, t = .ref D → IsF K D) ∧ PySem.W.notFirst K C t = true) ∧ c [x, y] G P noX
theorem notImp_ne {v : V} {u : Value} (r : RelV v u) : u ≠ .notImplemented := by
  intro e
  subst e
  have := r.abs
  cases this
theorem cmpBack_of {Q : Value → Shared → Prop} {u : Value} {s : Shared} (h : u ≠ .notImplemented) (q : Q u s) : PySem.W.CmpBack Q u s := by
  unfold PySem.W.CmpBack
  split
  · exact h rfl
  · exact q
theorem own_op {op : CmpOp} {C f : Addr} {fd : FuncData} {ps : List Str} {k j : Nat} {c : DSp} (hop : ∀ u v : Value, compareOp op u v = richCompare op u v) (F : FnOk X.prog X.w X.K X.mg X.base CX0 k f fd ps (toSp X.K c)) (hb : Binds X.K fd ps []) (ho : OwnCmp X.K C f (PySem.cmpInfo op).2.1) (hr : Room j X.A) (hj : k ≤ j) :
    DOp X B (compareOp op) (rOwn X.K C c) := by
  refine ⟨fun x y H Q => ∃ a dx fs t, x = .ref a ∧ H a = some (.ins C dx fs) ∧ TyX X.K H y t ∧ PySem.W.notFirst X.K C t = true ∧ toSp X.K c [x, y] H Q (fun _ _ _ => False), ?_, ?_⟩
  · rintro pins s σ H x y v u Q I rx ry ⟨a, dx, fs, t, rfl, ha, ty, hn, hsp⟩
    cases (show v = Value.ref a from rx)
    rw [hop]
    obtain ⟨mA, J, _⟩ := ins_get I.hok ha
    obtain ⟨od, J, _⟩ := J.look
    obtain ⟨m, hF⟩ := I.fr
    obtain ⟨P, Z, p, hx⟩ := kit_of I ry ty
    refine PySem.W.cmp_K (f := f) hr.units0 hF I.ok.mod.kin J (Z.ty _ _ I.kIn p) hn ho.at_ ho.fn ?_
    have := run_fn (E := fun _ _ _ => False) (us := [.ref a, u]) (vs := [.ref a, y]) (F.mono hj) hr hb .nil (fun _ _ _ _ _ _ _ h => h.elim) I (.cons rfl (.cons ry .nil)) (by simpa using hsp)
    refine wpAny_mono this (fun w s' ⟨z, H', I', rz, q⟩ => ?_) fun _ _ z => z
    exact cmpBack_of (notImp_ne rz) ⟨z, H', I', rz, q⟩
  · rintro F G H v w x y P Q g rx ry ⟨⟨ns, xs, h1⟩, ⟨t, h2, h3, h4⟩, p⟩ k
    obtain ⟨a, dx, fs, rfl, e1, _, _⟩ := insOf_is g rx h1
    exact ⟨a, dx, fs, t, rfl, e1, tag_is g ry h2 h3, h4, toSp_of g (.cons rx (.cons ry .nil)) p k contX_no⟩
end
section
variable {K : PySem.W.Frag}
theorem kit_bool_bool : PySem.W.kitOne K (.type "bool") (.type "bool") = some true := kit_ty (by decide +kernel)
theorem kit_int_bool : PySem.W.kitOne K (.type "int") (.type "bool") = some false := kit_ty (by decide +kernel)
theorem kit_int_int : PySem.W.kitOne K (.type "int") (.type "int") = some true := kit_ty (by decide +kernel)
theorem kit_bool_int : PySem.W.kitOne K (.type "bool") (.type "int") = some true := kit_ty (by decide +kernel)
theorem kit_str_bool : PySem.W.kitOne K (.type "str") (.type "bool") = some false := kit_ty (by decide +kernel)
theorem kit_str_int : PySem.W.kitOne K (.type "str") (.type "int") = some false := kit_ty (by decide +kernel)
theorem kit_str_str : PySem.W.kitOne K (.type "str") (.type "str") = some true := kit_ty (by decide +kernel)
theorem kit_list_bool : PySem.W.kitOne K (.type "list") (.type "bool") = some false := kit_ty (by decide +kernel)
theorem kit_list_int : PySem.W.kitOne K (.type "list") (.type "int") = some false := kit_ty (by decide +kernel)
theorem kit_list_str : PySem.W.kitOne K (.type "list") (.type "str") = some false := kit_ty (by decide +kernel)
theorem kit_list_list : PySem.W.kitOne K (.type "list") (.type "list") = some true := kit_ty (by decide +kernel)
theorem kit_list_tuple : PySem.W.kitOne K (.type "list") (.type "tuple") = some false := kit_ty (by decide +kernel)
theorem kit_tuple_bool : PySem.W.kitOne K (.type "tuple") (.type "bool") = some false := kit_ty (by decide +kernel)
theorem kit_tuple_int : PySem.W.kitOne K (.type "tuple") (.type "int") = some false := kit_ty (by decide +kernel)
theorem kit_tuple_str : PySem.W.kitOne K (.type "tuple") (.type "str") = some false := kit_ty (by decide +kernel)
theorem kit_tuple_list : PySem.W.kitOne K (.type "tuple") (.type "list") = some false := kit_ty (by decide +kernel)
theorem kit_tuple_tuple : PySem.W.kitOne K (.type "tuple") (.type "tuple") = some true := kit_ty (by decide +kernel)
end
end DL

set_option Elab.async false
set_option linter.all false
set_option maxRecDepth 100000
set_option maxHeartbeats 2000000
namespace HT
open PySem PyProof.Rows
section
variable {prog : Program} {w : World} {A : Around} {E : Value → Shared → Prop} {s : Shared}
theorem sliceApplied_step {sl : Addr} {k : Int} {tk : Tok} {n : Nat} {a b : Int} {c : Nat} {Q : Int × Int × Nat → Shared → Prop} (hs : s.heap.IsSliceOf sl .none .none (.int k tk)) (h0 : (k == 0) = false)
    (e : Builtin.Slice.sliceAdjust none none k (n : Int) = (a, b)) (e2 : Builtin.Slice.slicePlaces a b k = c) (h : Q (a, k, c) s) : wpAny (model prog w) A (Builtin.Slice.sliceApplied (.ref sl) (pure (n : Int))) Q E s := by
  obtain ⟨os, hos, hcs, hds⟩ := id hs
  unfold Builtin.Slice.sliceApplied Builtin.Slice.sliceFields
  refine wpAny_bind (wpAny_bind (wpAny_field hos hds (x := .none) rfl (wpAny_bind (wpAny_field hos hds (x := .none) rfl (wpAny_bind (wpAny_field hos hds (x := .int k tk) rfl (wpAny_pure ?_)))))))
  refine wpAny_bind (slicePart_int ?_)
  show wpAny _ _ (if (k == 0) = true then _ else _) _ _ s
  rw [if_neg (by rw [h0]; exact Bool.false_ne_true)]
  refine wpAny_bind (slicePart_none (wpAny_bind (slicePart_none (wpAny_bind (wpAny_pure ?_)))))
  show wpAny _ _ (match Builtin.Slice.sliceAdjust none none k (n : Int) with | (lo, hi) => pure (lo, k, Builtin.Slice.slicePlaces lo hi k)) _ _ s
  rw [e]
  show wpAny _ _ (pure (a, k, Builtin.Slice.slicePlaces a b k)) _ _ s
  rw [e2]
  exact wpAny_pure h
theorem getItem_pair_back {t sl : Addr} {u v : Value} {tk : Tok} {Q : Value → Shared → Prop} (ht : IsTup s.heap t #[u, v]) (hs : s.heap.IsSliceOf sl .none .none (.int (-1) tk))
    (h : Q (.ref s.heap.objs.size) { s with heap := s.heap.push { cls := .type "tuple", data := .seq #[v, u] } }) : wpAny (model prog w) A (getItem (.ref t) (.ref sl)) Q E s := by
  have htake : sizeOk (.seq #[v, u]) := by
    show 2 ≤ sizeLine
    rw [sizeLine_eq]; decide
  obtain ⟨os, hos, hcs, hds⟩ := id hs
  have hTs : s.TypeIs (.ref sl) "slice" := ⟨os, hos, hcs⟩
  unfold getItem
  try with_reducible refine wpAny_holding ?_
  first | refine wpAny_bind (wpAny_pure ?_) | skip
  refine wpAny_bind (wpAny_sequenceKey ht.typeIs (by decide) ?_)
  refine wpAny_bind (wpAny_callSpecial?_slot (name := Str.ofString "__getitem__") ht.typeIs PyProof.Rows.slot_tuple_getitem
    (wpAny_call_entry PyProof.Rows.slot_tuple_getitem ht.typeIs entry_tuple_getitem ?_ (args_tuple_getitem _ _)))
  show wpAny _ _ (Builtin.Tuple.tupleItemsOf (.ref t) >>= _) _ _ s
  refine wpAny_bind (tupleItemsOf_ ht ?_)
  refine wpAny_bind (wpAny_typeOf hTs ?_)
  rw [if_pos (by decide)]
  refine wpAny_bind (sliceApplied_step (n := 2) (a := 1) (b := -1) (c := 2) hs (by decide) (by decide) (by decide) ?_)
  show wpAny _ _ (if ((1 : Int) == 0 && (-1 : Int) == 1 && 2 == 2) = true then _ else _) _ _ s
  rw [if_neg (by decide)]
  first
    | exact wpAny_bind (m := Builtin.Tuple.tupleExact _) (wpAny_newObj_type (wpAny_pure ⟨_, rfl, wpAny_pure h⟩) htake)
    | exact wpAny_bind (m := Builtin.Tuple.tupleExact _) (wpAny_newObj_type (wpAny_bind (wpAny_pure (wpAny_pure ⟨_, rfl, wpAny_pure h⟩))) htake)
    | exact wpAny_bind (wpAny_bind (m := Builtin.Tuple.tupleExact _) (wpAny_newObj_type (wpAny_pure (wpAny_pure ⟨_, rfl, wpAny_pure h⟩)) htake))
    | exact wpAny_bind (wpAny_bind (m := Builtin.Tuple.tupleExact _) (wpAny_newObj_type (wpAny_pure ⟨_, rfl, wpAny_pure h⟩) htake))
theorem getItem_pair_whole {t sl : Addr} {u v : Value} {tk : Tok} {Q : Value → Shared → Prop} (ht : IsTup s.heap t #[u, v]) (hs : s.heap.IsSliceOf sl .none .none (.int 1 tk))
    (h : Q (.ref t) s) : wpAny (model prog w) A (getItem (.ref t) (.ref sl)) Q E s := by
  obtain ⟨os, hos, hcs, hds⟩ := id hs
  have hTs : s.TypeIs (.ref sl) "slice" := ⟨os, hos, hcs⟩
  unfold getItem
  try with_reducible refine wpAny_holding ?_
  first | refine wpAny_bind (wpAny_pure ?_) | skip
  refine wpAny_bind (wpAny_sequenceKey ht.typeIs (by decide) ?_)
  refine wpAny_bind (wpAny_callSpecial?_slot (name := Str.ofString "__getitem__") ht.typeIs PyProof.Rows.slot_tuple_getitem
    (wpAny_call_entry PyProof.Rows.slot_tuple_getitem ht.typeIs entry_tuple_getitem ?_ (args_tuple_getitem _ _)))
  show wpAny _ _ (Builtin.Tuple.tupleItemsOf (.ref t) >>= _) _ _ s
  refine wpAny_bind (tupleItemsOf_ ht ?_)
  refine wpAny_bind (wpAny_typeOf hTs ?_)
  rw [if_pos (by decide)]
  refine wpAny_bind (sliceApplied_step (n := 2) (a := 0) (b := 2) (c := 2) hs (by decide) (by decide) (by decide) ?_)
  show wpAny _ _ (if ((0 : Int) == 0 && (1 : Int) == 1 && 2 == 2) = true then _ else _) _ _ s
  rw [if_pos (by decide)]
  unfold Builtin.Tuple.tupleIsExact
  refine wpAny_bind (wpAny_bind (wpAny_typeOf ht.typeIs (wpAny_pure ?_)))
  rw [if_pos (by decide)]
  exact wpAny_bind (wpAny_rule (wpAny_pure ⟨_, rfl, wpAny_pure h⟩))
end
end HT
namespace DL
open PySem PySem.Spec L2
section
variable {X : Cx} {B : Hp} {e b : Expr} {te tb : TE} {ta td : DTE} {pos p3 : Pos}
/-- t[::k], t a pair, k 1 or -1 -/
def tStep (K : PySem.W.Frag) (te ts : TE) : TE := fun σ H Q => te σ H fun x H1 => ts σ H1 fun y H2 => ∃ a u v k, x = .ref a ∧ SqT K H2 a [u, v] ∧ y = .int k ∧ ((k = 1 ∧ Q (.ref a) H2) ∨ (k = -1 ∧ ∀ p, H2 p = none → Q (.ref p) (upd H2 p (.tup [v, u]))))
open PyProof.Rows in
theorem pe_step (he : PE X e te) (hb : PE X b tb) : PE X (.Subscript e (.Slice none none (some b) p3) pos) (tStep X.K te tb) := by
  refine ⟨fun pins s σ H Q I h => ?_⟩
  refine PyProof.Rows.Subscript_ (thn (he.run pins s σ H _ I h) fun v s1 ⟨x, H1, I1, r1, q1⟩ => ?_)
  refine wpAny_Slice (thn (po_none.run pins s1 σ H1 (fun o H2 => o = none ∧ H2 = H1) I1 ⟨rfl, rfl⟩) fun vl s2 ⟨l, H2, I2, pl, el, e2⟩ => ?_)
  subst el e2
  refine thn (po_none.run pins s2 σ H2 (fun o H3 => o = none ∧ H3 = H2) I2 ⟨rfl, rfl⟩) fun vu s3 ⟨u, H3, I3, pu, eu, e3⟩ => ?_
  subst eu e3
  rw [evalPart_some]
  refine thn (hb.run pins s3 σ H3 _ I3 q1) fun vs s4 ⟨y, H4, I4, ry, a, u, v', k, ex, hx, ey, q⟩ => ?_
  subst ex; subst ey
  cases r1
  obtain ⟨tk, rfl⟩ := (show ∃ t, vs = Value.int k t from ry)
  cases pl
  cases pu
  have I5 : Inv X pins σ H4 { s4 with heap := s4.heap.push { cls := .type "slice", data := .fields #[.none, .none, .int k tk] } } := I4.kept (t' := s4.toks) fun b ob q => Heap.get?_push_of_some _ q
  obtain ⟨its, r, ht, hz⟩ := I5.tuple hx
  obtain ⟨u1, v1, rfl, ru, rv⟩ : ∃ u1 v1, its = [u1, v1] ∧ RelV u u1 ∧ RelV v' v1 := by
    cases r with
    | cons r1 r =>
      cases r with
      | cons r2 r =>
        cases r
        exact ⟨_, _, rfl, r1, r2⟩
  show wpAny (model X.prog X.w) X.A (subscriptTail e (.Slice none none (some b) p3) (.ref a) (.ref s4.heap.objs.size)) (EP X pins σ Q) X.xe { s4 with heap := s4.heap.push { cls := .type "slice", data := .fields #[.none, .none, .int k tk] } }
  refine tail_any (ops := [.ref a, .ref s4.heap.objs.size]) ht.typeIs (PyProof.Rows.slot_tuple_getitem.lookup) ?_ (by with_unfolding_all rfl)
  rcases q with ⟨rfl, q⟩ | ⟨rfl, q⟩
  · exact HT.getItem_pair_whole ht (Heap.IsSliceOf.new ..) ⟨.ref a, H4, I5, rfl, q⟩
  · refine HT.getItem_pair_back ht (Heap.IsSliceOf.new ..) ?_
    refine ⟨.ref _, _, I5.laid (t' := s4.toks) (o := .tup [v', u]) (fun b ob q => Heap.get?_push_of_some _ q) (Nat.le_refl _) ?_, rfl, q _ (I5.hok.fresh (Nat.le_refl _))⟩
    exact ⟨by rw [sizeLine_eq]; show 2 ≤ 16777216; decide, [v1, u1], .cons rv (.cons ru .nil), IsTup.new _ _⟩
def dStep (te ts : DTE) : DTE := fun δ G P => te δ G fun x G1 => ts δ G1 fun y G2 => ∃ u v k, x = .tup [u, v] ∧ y = .int k ∧ ((k = 1 ∧ P (.tup [u, v]) G2) ∨ (k = -1 ∧ P (.tup [v, u]) G2))
theorem d_step (ha : DE X B e ta) (hb : DE X B b td) : DE X B (.Subscript e (.Slice none none (some b) p3) pos) (dStep ta td) := PE.imp (pe_step ha hb) fun σ H Q ⟨F, G, δ, P, g, s, p, c⟩ =>
  ⟨F, G, δ, _, g, s, p, fun x G1 vx F1 H1 p1 l1 g1 i1 => ⟨F1, G1, δ, _, g1, s.le l1, p1, fun y G2 vy F2 H2 ⟨u, v, k, ex, ey, q⟩ l2 g2 i2 => by
    subst ex; subst ey
    cases i2
    have i3 := i1.le l2
    cases i3 with
    | tup q0 r =>
      cases r with
      | cons ru r =>
        cases r with
        | cons rv r =>
          cases r
          refine ⟨_, _, _, k, rfl, SqT.of (g2.fz _ _ q0), rfl, ?_⟩
          rcases q with ⟨e, q⟩ | ⟨e, q⟩
          · exact .inl ⟨e, c _ G2 _ F2 H2 q (l1.trans l2) g2 (.tup q0 (.cons ru (.one rv)))⟩
          · refine .inr ⟨e, fun p hp => ?_⟩
            obtain ⟨l3, g3⟩ := g2.newF hp (.tup [_, _])
            exact c _ G2 _ _ _ q ((l1.trans l2).trans l3) g3 (.tup upd_same (.cons (rv.le l3) (.one (ru.le l3))))⟩⟩
end
end DL

set_option Elab.async false
set_option linter.all false
set_option maxRecDepth 100000
set_option maxHeartbeats 2000000
/-! min and max of a pair; is None; == and != of two flat values. -/
namespace DL
open PySem PySem.Spec L2
section
variable {prog : Program} {w : World} {A : Around} {E : Value → Shared → Prop} {s : Shared}
theorem min_pair {x : Addr} {a b : Int} {t u : Tok} {Q : Value → Shared → Prop} (calm : A.handled = none) (tup : s.heap.IsTuple x (intItems #[(a, t), (b, u)]))
    (go : ∀ h' tk, (∀ c o, s.heap.get? c = some o → h'.get? c = some o) → Q (if b < a then .int b u else .int a t) { s with heap := h', toks := tk }) :
    wpAny (model prog w) A (call (.builtin "min") [.ref x]) Q E s := by
  have inside : x < s.heap.objs.size := let ⟨_, e, _⟩ := tup; Heap.lt_size e
  have walks := Walks.tuple (prog := prog) (w := w) (A := A.in1) calm s.heap.objs.size x (Nat.ne_of_lt inside) (intItems #[(a, t), (b, u)])
  refine call_min_walk (wpAny_pyIter_tuple tup ⟨_, _, _, _, _, _, _, rfl, walks, ⟨⟨_, Heap.get?_push_size _ rfl, rfl, rfl⟩, tup.push _⟩, ?small, by simp [intItems], CmpOf.ints_lt (numAt #[(a, t), (b, u)]) fun _ _ => intItems_at, ?best⟩)
  case small =>
    intro c hc
    show c < (s.heap.push _).objs.size
    rw [Heap.size_push]
    simp only [List.mem_cons, List.not_mem_nil, or_false] at hc
    rcases hc with e | e <;> subst e
    · exact Nat.lt_succ_self _
    · exact Nat.lt_succ_of_lt inside
  case best =>
    intro v h' tk hv stay
    have old := go h' tk fun c o e => stay c o (fun hm => Nat.ne_of_lt (Heap.lt_size e) (List.mem_singleton.mp hm)) (Heap.get?_push_of_some _ e)
    rw [show (intItems #[(a, t), (b, u)]).size - 1 = 1 by simp [intItems]] at hv
    by_cases less : b < a
    · rw [if_pos less] at old
      simp [argBest, numAt, intItems, less] at hv
      rw [← hv]; exact old
    · rw [if_neg less] at old
      simp [argBest, numAt, intItems, less] at hv
      rw [← hv]; exact old
theorem max_pair {x : Addr} {a b : Int} {t u : Tok} {Q : Value → Shared → Prop} (calm : A.handled = none) (tup : s.heap.IsTuple x (intItems #[(a, t), (b, u)]))
    (go : ∀ h' tk, (∀ c o, s.heap.get? c = some o → h'.get? c = some o) → Q (if b > a then .int b u else .int a t) { s with heap := h', toks := tk }) :
    wpAny (model prog w) A (call (.builtin "max") [.ref x]) Q E s := by
  have inside : x < s.heap.objs.size := let ⟨_, e, _⟩ := tup; Heap.lt_size e
  have walks := Walks.tuple (prog := prog) (w := w) (A := A.in1) calm s.heap.objs.size x (Nat.ne_of_lt inside) (intItems #[(a, t), (b, u)])
  refine call_max_walk (wpAny_pyIter_tuple tup ⟨_, _, _, _, _, _, _, rfl, walks, ⟨⟨_, Heap.get?_push_size _ rfl, rfl, rfl⟩, tup.push _⟩, ?small, by simp [intItems], CmpOf.ints_gt (numAt #[(a, t), (b, u)]) fun _ _ => intItems_at, ?best⟩)
  case small =>
    intro c hc
    show c < (s.heap.push _).objs.size
    rw [Heap.size_push]
    simp only [List.mem_cons, List.not_mem_nil, or_false] at hc
    rcases hc with e | e <;> subst e
    · exact Nat.lt_succ_self _
    · exact Nat.lt_succ_of_lt inside
  case best =>
    intro v h' tk hv stay
    have old := go h' tk fun c o e => stay c o (fun hm => Nat.ne_of_lt (Heap.lt_size e) (List.mem_singleton.mp hm)) (Heap.get?_push_of_some _ e)
    rw [show (intItems #[(a, t), (b, u)]).size - 1 = 1 by simp [intItems]] at hv
    by_cases less : b > a
    · rw [if_pos less] at old
      simp [argBest, numAt, intItems, less] at hv
      rw [← hv]; exact old
    · rw [if_neg less] at old
      simp [argBest, numAt, intItems, less] at hv
      rw [← hv]; exact old
end
section
variable {X : Cx} {B : Hp}
theorem call_minP (hc : X.calm = true) : CallR X (.builtin "min") (fun vs H Q => ∃ a i j, vs = [V.ref a] ∧ SqT X.K H a [.int i, .int j] ∧ Q (.int (if j < i then j else i)) H) := by
  intro pins s σ H vs us Q I r h
  obtain ⟨a, i, j, rfl, hs, q⟩ := h
  rw [Vals.ref1 r]
  obtain ⟨its, rv, ht, hz⟩ := I.tuple hs
  obtain ⟨t, u, rfl⟩ : ∃ t u, its = [.int i t, .int j u] := by
    cases rv with
    | cons r1 r =>
      cases r with
      | cons r2 r =>
        cases r
        obtain ⟨t, rfl⟩ := r1
        obtain ⟨u, rfl⟩ := r2
        exact ⟨t, u, rfl⟩
  refine min_pair (I.ok.hd hc) (a := i) (b := j) (t := t) (u := u) (show Heap.IsTuple s.heap a (intItems #[(i, t), (j, u)]) from by simpa [intItems] using (show s.heap.IsTuple a #[Value.int i t, Value.int j u] from ht)) fun h' tk k => ⟨_, H, I.kept k, ?_, q⟩
  by_cases hj : j < i
  · rw [if_pos hj, if_pos hj]; exact ⟨_, rfl⟩
  · rw [if_neg hj, if_neg hj]; exact ⟨_, rfl⟩
def rminP : DR := fun ds G P => ∃ (i j : Int), ds = [.tup [.int i, .int j]] ∧ P (.int (min i j)) G
theorem c_minP (hc : X.calm = true) : DCall X B (.builtin "min") rminP := ⟨_, call_minP hc, fun F G H vs ds P Q g i ⟨m, n, e, p⟩ c => by
  subst e
  cases i with
  | cons i1 i2 =>
    cases i2
    cases i1 with
    | tup q0 r =>
      cases r with
      | cons ru r =>
        cases r with
        | cons rv r =>
          cases r
          cases ru; cases rv
          refine ⟨_, m, n, rfl, SqT.of (g.fz _ _ q0), ?_⟩
          have e : (if n < m then n else m) = min m n := by
            split <;> omega
          rw [e]
          exact c _ G _ F H p (Le.refl F) g (.int _)⟩
theorem call_maxP (hc : X.calm = true) : CallR X (.builtin "max") (fun vs H Q => ∃ a i j, vs = [V.ref a] ∧ SqT X.K H a [.int i, .int j] ∧ Q (.int (if j > i then j else i)) H) := by
  intro pins s σ H vs us Q I r h
  obtain ⟨a, i, j, rfl, hs, q⟩ := h
  rw [Vals.ref1 r]
  obtain ⟨its, rv, ht, hz⟩ := I.tuple hs
  obtain ⟨t, u, rfl⟩ : ∃ t u, its = [.int i t, .int j u] := by
    cases rv with
    | cons r1 r =>
      cases r with
      | cons r2 r =>
        cases r
        obtain ⟨t, rfl⟩ := r1
        obtain ⟨u, rfl⟩ := r2
        exact ⟨t, u, rfl⟩
  refine max_pair (I.ok.hd hc) (a := i) (b := j) (t := t) (u := u) (show Heap.IsTuple s.heap a (intItems #[(i, t), (j, u)]) from by simpa [intItems] using (show s.heap.IsTuple a #[Value.int i t, Value.int j u] from ht)) fun h' tk k => ⟨_, H, I.kept k, ?_, q⟩
  by_cases hj : j > i
  · rw [if_pos hj, if_pos hj]; exact ⟨_, rfl⟩
  · rw [if_neg hj, if_neg hj]; exact ⟨_, rfl⟩
def rmaxP : DR := fun ds G P => ∃ (i j : Int), ds = [.tup [.int i, .int j]] ∧ P (.int (max i j)) G
theorem c_maxP (hc : X.calm = true) : DCall X B (.builtin "max") rmaxP := ⟨_, call_maxP hc, fun F G H vs ds P Q g i ⟨m, n, e, p⟩ c => by
  subst e
  cases i with
  | cons i1 i2 =>
    cases i2
    cases i1 with
    | tup q0 r =>
      cases r with
      | cons ru r =>
        cases r with
        | cons rv r =>
          cases r
          cases ru; cases rv
          refine ⟨_, m, n, rfl, SqT.of (g.fz _ _ q0), ?_⟩
          have e : (if n > m then n else m) = max m n := by
            split <;> omega
          rw [e]
          exact c _ G _ F H p (Le.refl F) g (.int _)⟩
def isNon : Dt → Bool
  | .non => true
  | _ => false
/-- is None -/
def rIsND : DR2 := fun x y G P => y = .non ∧ P (.bl (isNon x)) G
theorem o_isD : DOp X B (compareOp .Is) rIsND := ⟨_, op_isN, fun F G H v w x y P Q g rx ry ⟨e, p⟩ c => by
  subst e
  cases ry
  refine ⟨rfl, c _ G _ F H p (Le.refl F) g ?_⟩
  have e : decide (v = V.non) = isNon x := by cases rx <;> simp [isNon]
  rw [e]
  exact .bl _⟩
/-- two flat values of one kind -/
def rEqS (neg : Bool) : DR2 := fun x y G P => (∃ b c : Bool, x = .bl b ∧ y = .bl c ∧ P (.bl (neg != decide (b = c))) G) ∨ (∃ i j : Int, x = .int i ∧ y = .int j ∧ P (.bl (neg != decide (i = j))) G) ∨ (∃ s t : Str, x = .str s ∧ y = .str t ∧ P (.bl (neg != decide (s = t))) G)
theorem o_eqS : DOp X B (compareOp .Eq) (rEqS false) := ⟨_, op_eq, fun F G H v w x y P Q g rx ry h c => by
  rcases h with ⟨i, j, rfl, rfl, p⟩ | ⟨i, j, rfl, rfl, p⟩ | ⟨i, j, rfl, rfl, p⟩ <;> cases rx <;> cases ry <;> refine ⟨rfl, c _ G _ F H p (Le.refl F) g ?_⟩
  · have e : decide (V.bl i = V.bl j) = (false != decide (i = j)) := by simp
    rw [e]; exact .bl _
  · have e : decide (V.int i = V.int j) = (false != decide (i = j)) := by simp
    rw [e]; exact .bl _
  · have e : decide (V.str i = V.str j) = (false != decide (i = j)) := by simp
    rw [e]; exact .bl _⟩
theorem o_neS : DOp X B (compareOp .NotEq) (rEqS true) := ⟨_, op_ne, fun F G H v w x y P Q g rx ry h c => by
  rcases h with ⟨i, j, rfl, rfl, p⟩ | ⟨i, j, rfl, rfl, p⟩ | ⟨i, j, rfl, rfl, p⟩ <;> cases rx <;> cases ry <;> refine ⟨rfl, c _ G _ F H p (Le.refl F) g ?_⟩
  · have e : (!decide (V.bl i = V.bl j)) = (true != decide (i = j)) := by simp
    rw [e]; exact .bl _
  · have e : (!decide (V.int i = V.int j)) = (true != decide (i = j)) := by simp
    rw [e]; exact .bl _
  · have e : (!decide (V.str i = V.str j)) = (true != decide (i = j)) := by simp
    rw [e]; exact .bl _⟩
/-- a body whose contract asks the impossible -/
theorem dss_never {st : Stmt} {rest : List Stmt} : DSs X B (st :: rest) dNever := by
  induction rest generalizing st with
  | nil => exact dss_one ds_never
  | cons r rs ih => exact dss_cons ds_never ih
end
end DL

set_option Elab.async false
set_option linter.all false
set_option maxRecDepth 100000
set_option maxHeartbeats 2000000
/-! list.reverse, list.count, in, int(bool), slices of lists and of the script, {}, a keyword. -/
namespace DL
open PySem PySem.Spec L2
section
variable {X : Cx} {B : Hp} {e a b o : Expr} {pos apos p2 : Pos} {ta tb te to : DTE} {tl : DTA}
def rRevD : Dt → List Dt → Gp → DK → Prop := fun x ds G P => ∃ a xs, x = .ref a ∧ ds = [] ∧ G a = some (.lst xs) ∧ P .non (gupd G a (.lst xs.reverse))
theorem isL_reverse {K : PySem.W.Frag} {F : Hp} : ∀ {vs : List V} {ds : List Dt}, IsL K F vs ds → IsL K F vs.reverse ds.reverse
  | _, _, .nil => .nil
  | _, _, .cons h r => by
    rw [List.reverse_cons, List.reverse_cons]
    exact (isL_reverse r).append (.one h)
theorem m_reverse : DMt X B "list.reverse" rRevD := ⟨_, mt_reverse, fun F G H v x vs ds P Q g i1 i2 ⟨a, xs, e1, e2, h, p⟩ c => by
  subst e1; subst e2
  cases i1
  cases i2
  obtain ⟨ws, e, r⟩ := g.mlst h
  exact ⟨a, ws, rfl, rfl, e, c _ _ _ _ _ p (Le.refl F) (g.write h (o := .lst ws.reverse) (m := .lst xs.reverse) (isL_reverse r)) .non⟩⟩
theorem d_reverse (ho : DE X B o to)
    (pe : ∀ {r : V → List V → Hp → VK → Prop} {to : TE}, MtR X "list.reverse" r → PE X o to → PE X (.Call (.Attribute o "reverse" apos) [] [] pos) (tBM0 X.K "list" r to) := by exact fun h1 h2 => pe_bm0 PySem.F.plainAttrs_list PySem.F.slot_list_reverse PySem.F.type_list_reverse h1 h2) :
    DE X B (.Call (.Attribute o "reverse" apos) [] [] pos) (dBM0 rRevD to) := by
  obtain ⟨r', h1, h2⟩ := (m_reverse (X := X) (B := B)).ex
  exact PE.imp (pe h1 ho) (bm0_imp h2)
def rCountD : Dt → List Dt → Gp → DK → Prop := fun x ds G P => ∃ (ns : List Int) (k : Int), asL G x = some (ns.map Dt.int) ∧ ds = [.int k] ∧ P (.int (ns.count k : Nat)) G
theorem m_count : DMt X B "list.count" rCountD := ⟨_, mt_lcount, fun F G H v x vs ds P Q g i1 i2 ⟨ns, k, h, e2, p⟩ c => by
  subst e2
  cases i2 with
  | cons i2 i3 =>
    cases i2; cases i3
    obtain ⟨q, ws, rfl, e, r⟩ := asL_is g i1 h
    cases r.ints_inv
    exact ⟨q, ns, k, rfl, rfl, SqL.of e, c _ G _ F H p (Le.refl F) g (.int _)⟩⟩
theorem d_count (ho : DE X B o to) (ha : DE X B a ta)
    (hs : starEach [a] X.env = (false, eval a X.env) :: starEach [] X.env := by rfl)
    (pe : ∀ {r : V → List V → Hp → VK → Prop} {t : TA} {to : TE}, MtR X "list.count" r → PE X o to → PA X [a] t → PE X (.Call (.Attribute o "count" apos) [a] [] pos) (tBM X.K "list" r to t) := by exact fun h1 h2 h3 => pe_bm PySem.F.plainAttrs_list PySem.F.slot_list_count PySem.F.type_list_count h1 h2 h3) :
    DE X B (.Call (.Attribute o "count" apos) [a] [] pos) (dBM rCountD to (dCons ta dNil)) := by
  obtain ⟨r', h1, h2⟩ := (m_count (X := X) (B := B)).ex
  exact PE.imp (pe h1 ho (da_cons ha da_nil hs)) (bm_imp h2)
/-! ### in -/
theorem inV_ints (k : Int) : ∀ (ns : List Int), inV (.int k) (ns.map V.int) = decide (k ∈ ns) ∧ (ns.map V.int).all flatV = true
  | [] => by simp [inV]
  | n :: ns => by
    obtain ⟨h1, h2⟩ := inV_ints k ns
    refine ⟨?_, by rw [List.map_cons, List.all_cons, h2]; rfl⟩
    have e : inV (.int k) ((n :: ns).map V.int) = (eqV (.int n) (.int k) || inV (.int k) (ns.map V.int)) := rfl
    rw [e, h1]
    have e2 : eqV (.int n) (.int k) = decide (k = n) := by
      show (n == k) = decide (k = n)
      rw [Bool.eq_iff_iff, beq_iff_eq, decide_eq_true_eq]
      exact eq_comm
    rw [e2, Bool.eq_iff_iff]
    simp
/-- an int in a list or a tuple of ints -/
def rInD (neg : Bool) : DR2 := fun x y G P => ∃ (k : Int) (ns : List Int), x = .int k ∧ (asL G y = some (ns.map Dt.int) ∨ y = .tup (ns.map Dt.int)) ∧ P (.bl (neg != decide (k ∈ ns))) G
theorem in_imp {neg : Bool} : ∀ F G H v w x y P Q, Good X.K B F G H → Is X.K F v x → Is X.K F w y → rInD neg x y G P → Cont X.K B F P Q → L2.rIn X.K neg v w H Q := by
  rintro F G H v w x y P Q g rx ry ⟨k, ns, rfl, h, p⟩ c
  cases rx
  obtain ⟨h1, h2⟩ := inV_ints k ns
  have fin : Q (.bl (if neg then !inV (.int k) (ns.map V.int) else inV (.int k) (ns.map V.int))) H := by
    have e : (if neg then !inV (.int k) (ns.map V.int) else inV (.int k) (ns.map V.int)) = (neg != decide (k ∈ ns)) := by
      rw [h1]; cases neg <;> simp
    rw [e]
    exact c _ G _ F H p (Le.refl F) g (.bl _)
  rcases h with h | rfl
  · obtain ⟨q, ws, rfl, e, r⟩ := asL_is g ry h
    cases r.ints_inv
    exact ⟨q, _, rfl, .inl (SqL.of e), rfl, h2, fin⟩
  · cases ry with
    | tup q0 r =>
      cases r.ints_inv
      exact ⟨_, _, rfl, .inr (SqT.of (g.fz _ _ q0)), rfl, h2, fin⟩
theorem o_in : DOp X B (compareOp .In) (rInD false) := ⟨_, op_in_seq, in_imp⟩
theorem o_nin : DOp X B (compareOp .NotIn) (rInD true) := ⟨_, op_notIn_seq, in_imp⟩
/-! ### int(truth) -/
def rIntB : DR := fun ds G P => ∃ b : Bool, ds = [.bl b] ∧ P (.int (if b then 1 else 0)) G
theorem c_intB : DCall X B (.type "int") rIntB := ⟨_, call_int1, fun F G H vs ds P Q g i ⟨b, e, p⟩ c => by
  subst e
  cases i with
  | cons i1 i2 =>
    cases i2; cases i1
    exact .inr ⟨b, rfl, c _ G _ F H p (Le.refl F) g (.int _)⟩⟩
/-! ### {} -/
def dDict : DTE := fun _ G P => ∀ p, G p = none → P (.ref p) (gupd G p (.dK []))
theorem d_dict : DE X B (.Dict [] [] pos) dDict := PE.imp pe_dnewK fun σ H Q ⟨F, G, δ, P, g, s, p, c⟩ => fun q hq =>
  c _ _ _ _ _ (p q (g.gnone hq)) (Le.refl F) (g.newM hq (o := .dK []) (m := .dK []) .nil) (.ref q)
/-! ### xs[:k] -/
def dTake (te tk : DTE) : DTE := fun δ G P => te δ G fun x G1 => tk δ G1 fun y G2 => ∃ xs k, y = .int (k : Nat) ∧ (asL G2 x = some xs ∨ (∃ ns : List Int, x = .scr ns ∧ xs = ns.map Dt.int)) ∧ P (.lst (xs.take k)) G2
theorem cutV_take (xs : List V) (k : Nat) : cutV xs none (some (k : Int)) = xs.take k := by
  unfold cutV
  simp only [HT.sIx]
  rw [List.drop_zero, Nat.sub_zero]
  rw [if_neg (by omega)]
  by_cases h : k ≤ xs.length
  · congr 1; omega
  · rw [List.take_of_length_le (by omega), List.take_of_length_le (by omega)]
theorem isL_ints {K : PySem.W.Frag} {F : Hp} : ∀ (ns : List Int), IsL K F (ns.map V.int) (ns.map Dt.int)
  | [] => .nil
  | n :: ns => .cons (.int n) (isL_ints ns)
theorem isL_take {K : PySem.W.Frag} {F : Hp} : ∀ {vs : List V} {ds : List Dt} (k : Nat), IsL K F vs ds → IsL K F (vs.take k) (ds.take k)
  | _, _, 0, _ => .nil
  | _, _, _ + 1, .nil => .nil
  | _, _, k + 1, .cons h r => .cons h (isL_take k r)
theorem d_take (ha : DE X B a ta) (hb : DE X B b tb) : DE X B (.Subscript a (.Slice none (some b) none p2) pos) (dTake ta tb) := PE.imp (pe_slice sl_list ha po_none (po_some hb)) fun σ H Q ⟨F, G, δ, P, g, s, p, c⟩ =>
  ⟨F, G, δ, _, g, s, p, fun x G1 vx F1 H1 p1 l1 g1 i1 => ⟨F1, G1, δ, _, g1, s.le l1, p1, fun y G2 vy F2 H2 ⟨xs, k, ey, h, q⟩ l2 g2 i2 => by
    subst ey
    cases i2
    refine ⟨_, rfl, ?_⟩
    have i3 := i1.le l2
    have fin : ∀ {a : Addr} {ws : List V}, SqL X.K H2 a ws → IsL X.K F2 ws xs → L2.rSlL X.K (.ref a) none (some (k : Int)) H2 Q := fun {a ws} hs r => ⟨a, ws, rfl, hs, fun p hp => by
      rw [cutV_take]
      obtain ⟨l3, g3⟩ := g2.newF hp (.lst (ws.take k))
      exact c _ G2 _ _ _ q ((l1.trans l2).trans l3) g3 (.lst upd_same ((isL_take k r).le l3))⟩
    rcases h with h | ⟨ns, rfl, rfl⟩
    · obtain ⟨q0, ws, rfl, e, r⟩ := asL_is g2 i3 h
      exact fin (SqL.of e) r
    · cases i3 with
      | scr q0 => exact fin (g2.sql q0) (isL_ints ns)⟩⟩
end
/-! ### C(name = v) -/
section
variable {P : Program} {w : World} {K : PySem.W.Frag} {mg : Str → Option Value} {base : Heap}
def DmkK (P : Program) (w : World) (K : PySem.W.Frag) (mg : Str → Option Value) (base : Heap) (C : Addr) (ps ks : List Str) (c : DSp) (k : Nat) : Prop :=
  ∃ f fd g, FnOk P w K mg base CX0 k f fd ps (toSp K c) ∧ Mk K C f ∧ KBn K fd ps 1 ks g (fun vs zs => vs ++ zs)
end
section
variable {X : Cx} {B : Hp} {e : Expr} {p pos kpos : Pos} {x nm : Str} {C : Addr} {ps : List Str} {c : DSp} {k j : Nat} {ta : DTE}
theorem d_makeKw (D : DmkK X.prog X.w X.K X.mg X.base C ps [nm] c k) (hr : Room j X.A) (hg : Gl X x) (hm : X.mg x = some (.ref C)) (ha : DE X B e ta) (hj : k + 1 ≤ j := by decide)
    (hall : (backToKw pos (keywordEach [⟨some nm, e, kpos⟩] X.env)).all (·.1.isSome) = true := by rfl) (hks : (backToKw pos (keywordEach [⟨some nm, e, kpos⟩] X.env)).filterMap (·.1) = [nm] := by rfl) (hdb : (x == ("__debug__" : Str)) = false := by decide)
    (hpl : ((backTo pos (starEach [] X.env)).any (·.1) || (backToKw pos (keywordEach [⟨some nm, e, kpos⟩] X.env)).any (·.1.isNone)) = false := by rfl) :
    DE X B (.Call (.Name x p) [] [⟨some nm, e, kpos⟩] pos) (dMake C c noX (dCons ta dNil)) := by
  obtain ⟨f, fd, g, F, M, b⟩ := D
  refine PE.imp (pe_makeK0 (E := fun _ _ _ => False) M F (hr.mono hj) hg hm b pass0 (pk_cons ha pk_nil) hall hks hdb hpl) fun σ H Q ⟨F, G, δ, P, g, s, q, k⟩ => ?_
  exact ⟨F, G, δ, _, g, s, q, fun d G1 v F1 H1 p1 l1 g1 i1 => ⟨rfl, rfl, fun q dx hq hdx hne => by
    have g2 : Good X.K B F1 G1 (upd H1 dx (.own q)) := g1.newN hdx _
    have hq2 : upd H1 dx (.own q) q = none := by rw [upd_ne (Ne.symm hne)]; exact hq
    have g3 := g2.newM hq2 (o := .ins C dx []) (m := .ins C [] []) ⟨rfl, rfl, .nil⟩
    exact toSp_of g3 (.cons (.ref q) (.one i1)) (p1 q (g1.gnone hq)) (fun d G' v F' H' ⟨ed, p'⟩ l' g' i' => by
      subst ed
      cases i'
      exact ⟨rfl, k _ G' _ F' H' p' (l1.trans l') g' (.ref q)⟩) contX_no⟩⟩
end
end DL

set_option Elab.async false
set_option linter.all false
set_option maxRecDepth 100000
set_option maxHeartbeats 2000000
/-! for over enumerate(xs), xs mutable, as long as xs stays as it is. -/
namespace DL
open PySem PySem.Spec L2
structure DlvM (K : PySem.W.Frag) (B F : Hp) (J : It) (ds : List Dt) (C : Gp → Prop) : Prop where
  go : ∀ i F' G H, Le F F' → Good K B F' G H → C G → i < ds.length → J.go i H
  yl : ∀ i F' G H x H' d, Le F F' → Good K B F' G H → C G → ds[i]? = some d → J.yld i H x H' → ∃ F'', Le F' F'' ∧ Good K B F'' G H' ∧ Is K F'' x d
  st : ∀ i F' G H, Le F F' → Good K B F' G H → C G → ds.length ≤ i → J.stop i H
abbrev DTIM := DSt → Gp → (List Dt → (Gp → Prop) → Gp → Prop) → Prop
def tDIM (K : PySem.W.Frag) (B : Hp) (wi : DTIM) : TI := fun σ H R => ∃ F G δ P, Good K B F G H ∧ Sl K F σ δ ∧ wi δ G P ∧ ∀ ds C G' F' H' J, P ds C G' → Le F F' → Good K B F' G' H' → DlvM K B F' J ds C → R J H'
abbrev DIM (X : Cx) (B : Hp) (tg iter : Expr) (wi : DTIM) : Prop := PI X tg iter (tDIM X.K B wi)
section
variable {X : Cx} {B : Hp} {e a b o : Expr} {pos : Pos} {t : DTS} {tl : DTA} {rest : List Stmt}
def dForM (wi : DTIM) (g : DTG) (tb : DTS) : DTS := fun D δ G => wi δ G fun ds C G1 => ∃ W : Nat → DSt → Gp → Prop, W 0 δ G1 ∧ (∀ i δ' G', W i δ' G' → C G') ∧
  (∀ i d δ' G', ds[i]? = some d → W i δ' G' → g d δ' G' fun δ2 G2 => tb { D with nx := W (i + 1), ct := W (i + 1), bk := D.nx } δ2 G2) ∧ ∀ δ' G', W ds.length δ' G' → D.nx δ' G'
theorem dForM_intro {wi : DTIM} {g : DTG} {tb : DTS} {D : DEnds} {δ : DSt} {G : Gp} (ds : List Dt) (C : Gp → Prop) (G1 : Gp) (W : Nat → DSt → Gp → Prop) (hw : ∀ P : List Dt → (Gp → Prop) → Gp → Prop, P ds C G1 → wi δ G P) (h0 : W 0 δ G1) (hC : ∀ i δ' G', W i δ' G' → C G')
    (turn : ∀ i d δ' G', ds[i]? = some d → W i δ' G' → g d δ' G' fun δ2 G2 => tb { D with nx := W (i + 1), ct := W (i + 1), bk := D.nx } δ2 G2) (fin : ∀ δ' G', W ds.length δ' G' → D.nx δ' G') : dForM wi g tb D δ G := hw _ ⟨W, h0, hC, turn, fin⟩
theorem ds_forM {tg iter : Expr} {body : List Stmt} {wi : DTIM} {g : DTG} (hp : PassesOwn (model X.prog X.w) X.A X.env X.xe) (hc : X.calm = true) (hi : DIM X B tg iter wi) (hg : DG X B tg g) (hb : DSs X B body t)
    (hs : ∀ x, foldedSetIterable iter X.env x = pure x := by intro _; rfl) : DS X B (.For tg iter body [] pos) (dForM wi g t) :=
  PS.imp (ps_for hp hc hi hg hb hs) fun D σ H ⟨F, G, δ, R, gd, s, p, f⟩ => by
    refine ⟨F, G, δ, _, gd, s, p, fun ds C G1 F1 H1 J ⟨W, w0, wC, turn, fin⟩ l1 g1 dl => ?_⟩
    refine ⟨fun i m σ H => m = ds.length - i ∧ i ≤ ds.length ∧ ∃ F' G' δ', Le F1 F' ∧ Good X.K B F' G' H ∧ Sl X.K F' σ δ' ∧ W i δ' G', ⟨_, rfl, Nat.zero_le _, F1, G1, δ, Le.refl F1, g1, s.le l1, w0⟩, ?_⟩
    rintro i m σ H ⟨rfl, hi, F2, G2, δ2, l2, g2, s2, w2⟩
    by_cases hlt : i < ds.length
    · refine .inr ⟨dl.go i F2 G2 H l2 g2 (wC _ _ _ w2) hlt, fun σ' H' => ∃ F' G' δ', Le F1 F' ∧ Good X.K B F' G' H' ∧ Sl X.K F' σ' δ' ∧ W (i + 1) δ' G',
        fun σ' H' h => ⟨ds.length - (i + 1), by omega, rfl, hlt, h⟩, fun x H' y => ?_⟩
      obtain ⟨F3, l3, g3, i3⟩ := dl.yl i F2 G2 H x H' _ l2 g2 (wC _ _ _ w2) (List.getElem?_eq_getElem hlt) y
      refine ⟨F3, G2, δ2, _, _, g3, s2.le l3, i3, turn i _ δ2 G2 (List.getElem?_eq_getElem hlt) w2, fun δ4 G4 σ4 F4 H4 p4 l4 g4 s4 => ?_⟩
      have l14 : Le F1 F4 := (l2.trans l3).trans l4
      exact ⟨F4, G4, δ4, _, g4, s4, p4, ⟨fun δ5 G5 σ5 F5 H5 p5 l5 g5 s5 => ⟨F5, G5, δ5, l14.trans l5, g5, s5, p5⟩, f.rt.le (l1.trans l14), f.nx.le (l1.trans l14), fun δ5 G5 σ5 F5 H5 p5 l5 g5 s5 => ⟨F5, G5, δ5, l14.trans l5, g5, s5, p5⟩⟩⟩
    · have e : i = ds.length := by omega
      subst e
      exact .inl ⟨dl.st _ F2 G2 H l2 g2 (wC _ _ _ w2) (Nat.le_refl _), f.nx δ2 G2 σ F2 H (fin δ2 G2 w2) (l1.trans l2) g2 s2⟩
def diEnumM (t : DTA) : DTIM := fun δ G P => t δ G fun ds G1 => ∃ d xs, ds = [d] ∧ asL G1 d = some xs ∧ P (enumD xs) (fun G' => asL G' d = some xs) G1
theorem di_enumM {elts : List Expr} {kk : Nat} {tpos p : Pos} (hg : Gl X "enumerate") (hm : X.mg "enumerate" = none) (ha : DA X B [e] tl) (hs : starEach [e] X.env = [(false, eval e X.env)] := by rfl) : DIM X B (.Tuple elts kk tpos) (.Call (.Name "enumerate" p) [e] [] pos) (diEnumM tl) :=
  PI.imp (pi_enum hg hm ha hs) fun σ H R ⟨F, G, δ, P, g, s, p, c⟩ => ⟨F, G, δ, _, g, s, p, fun ds G1 vs F1 H1 ⟨d, xs, e1, e2, p1⟩ l1 g1 i1 => by
    subst e1
    cases i1 with
    | cons i1 i2 =>
      cases i2
      obtain ⟨q, ws, rfl, e3, r3⟩ := asL_is g1 i1 e2
      refine ⟨q, ws, rfl, SqL.of e3, c _ _ G1 F1 H1 _ p1 l1 g1 ⟨fun i F' G H l g hC hi => ?_, fun i F' G H x H' d' l g hC hd ⟨T, w, e, hT, e', hx⟩ => ?_, fun i F' G H l g hC hi => ?_⟩⟩
      · obtain ⟨q', ws', eq', h', r'⟩ := asL_is g (i1.le l) hC
        cases eq'
        exact ⟨_, _, SqL.of h', List.getElem?_eq_getElem (by rw [r'.length]; rw [enumD_length] at hi; exact hi)⟩
      · subst e; subst e'
        obtain ⟨q', ws', eq', h', r'⟩ := asL_is g (i1.le l) hC
        cases eq'
        obtain ⟨y, hy, rfl⟩ := enumD_get hd
        have h1 := hx _ (SqL.of h')
        obtain ⟨v, h2, h3⟩ := r'.get hy
        rw [h1] at h2
        cases h2
        obtain ⟨l2, g2⟩ := g.newF hT (.tup [.int (i : Nat), w])
        exact ⟨_, l2, g2, .tup upd_same (.cons (.int _) (.one (h3.le l2)))⟩
      · obtain ⟨q', ws', eq', h', r'⟩ := asL_is g (i1.le l) hC
        cases eq'
        exact ⟨_, SqL.of h', by rw [r'.length]; rw [enumD_length] at hi; exact hi⟩⟩
end
end DL

set_option Elab.async false
set_option linter.all false
set_option maxRecDepth 100000
/-! The villages' data. -/
namespace V
open PySem PySem.Spec L2 DL
def natsD (l : List Nat) : List Dt := l.map fun (i : Nat) => Dt.int (i : Int)
theorem natsD_inj {a b : List Nat} : natsD a = natsD b ↔ a = b := by
  refine ⟨fun h => ?_, fun h => by rw [h]⟩
  induction a generalizing b with
  | nil => cases b with
    | nil => rfl
    | cons y b => cases h
  | cons x a ih => cases b with
    | nil => cases h
    | cons y b =>
      unfold natsD at h ih
      simp only [List.map_cons, List.cons.injEq, Dt.int.injEq] at h
      rw [ih h.2, Int.ofNat_inj.mp h.1]
theorem natsD_length (l : List Nat) : (natsD l).length = l.length := by simp [natsD]
theorem natsD_cons (x : Nat) (l : List Nat) : natsD (x :: l) = .int (x : Int) :: natsD l := rfl
theorem natsD_nil : natsD [] = [] := rfl
theorem natsD_append (a b : List Nat) : natsD (a ++ b) = natsD a ++ natsD b := by simp [natsD]
theorem natsD_get {l : List Nat} {i : Nat} {d : Dt} (h : (natsD l)[i]? = some d) : ∃ x, l[i]? = some x ∧ d = .int (x : Int) := by
  unfold natsD at h
  rw [List.getElem?_map] at h
  cases e : l[i]? with
  | none => rw [e] at h; cases h
  | some x => rw [e] at h; cases h; exact ⟨x, rfl, rfl⟩
theorem natsD_mem {l : List Nat} {d : Dt} (h : d ∈ natsD l) : ∃ x ∈ l, d = .int (x : Int) := by
  obtain ⟨x, hx, rfl⟩ := List.mem_map.mp h
  exact ⟨x, hx, rfl⟩
theorem natsD_int (l : List Nat) : natsD l = (l.map fun (i : Nat) => (i : Int)).map Dt.int := by simp [natsD, List.map_map, Function.comp_def]
theorem atI_nats {l : List Nat} {i : Nat} {x : Nat} (h : l[i]? = some x) : atI (natsD l) (i : Int) = some (.int (x : Int)) := by
  have hi : i < l.length := (List.getElem?_eq_some_iff.mp h).1
  unfold atI ixN
  rw [natsD_length, if_pos (by omega), if_pos (by omega)]
  simp only [Option.bind, Int.toNat_natCast]
  unfold natsD
  rw [List.getElem?_map, h]
  rfl
theorem ixN_nat {n i : Nat} (h : i < n) : ixN n (i : Int) = some i := by
  unfold ixN
  rw [if_pos (by omega), if_pos (by omega)]
  rfl
theorem atI_nat' {α : Type} {l : List α} {i : Nat} {x : α} (h : l[i]? = some x) : atI l (i : Int) = some x := by
  have hi : i < l.length := (List.getElem?_eq_some_iff.mp h).1
  unfold atI
  rw [ixN_nat hi]
  exact h
theorem upto0 (n : Nat) : upto 0 n = natsD (List.range n) := by simp [upto, natsD]
theorem rgD0 (n : Nat) : rgD 0 (n : Int) = natsD (List.range n) := by rw [rgD_upto, Int.toNat_natCast, upto0]
theorem natsD_set (l : List Nat) (i : Nat) (x : Nat) : (natsD l).set i (.int (x : Int)) = natsD (l.set i x) := by simp [natsD, List.map_set]

/-- houses as pairs -/
def npD (p : Nat × Nat) : Dt := pairD ((p.1 : Int), (p.2 : Int))
theorem npD_inj {p q : Nat × Nat} : npD p = npD q ↔ p = q := by
  obtain ⟨a, b⟩ := p
  obtain ⟨c, d⟩ := q
  simp only [npD, pairD, Dt.tup.injEq, List.cons.injEq, Dt.int.injEq, and_true, Prod.mk.injEq, Int.ofNat_inj]
def rdD (l : List (Nat × Nat)) : List Dt := l.map npD
theorem rdD_inj {a b : List (Nat × Nat)} : rdD a = rdD b ↔ a = b := by
  refine ⟨fun h => ?_, fun h => by rw [h]⟩
  induction a generalizing b with
  | nil => cases b with
    | nil => rfl
    | cons y b => cases h
  | cons x a ih => cases b with
    | nil => cases h
    | cons y b =>
      unfold rdD at h ih
      simp only [List.map_cons, List.cons.injEq] at h
      rw [ih h.2, npD_inj.mp h.1]
theorem rdD_length (l : List (Nat × Nat)) : (rdD l).length = l.length := by simp [rdD]
theorem rdD_get {l : List (Nat × Nat)} {i : Nat} {d : Dt} (h : (rdD l)[i]? = some d) : ∃ x, l[i]? = some x ∧ d = npD x := by
  unfold rdD at h
  rw [List.getElem?_map] at h
  cases e : l[i]? with
  | none => rw [e] at h; cases h
  | some x => rw [e] at h; cases h; exact ⟨x, rfl, rfl⟩
theorem rdD_mem {l : List (Nat × Nat)} {d : Dt} (h : d ∈ rdD l) : ∃ x ∈ l, d = npD x := by
  obtain ⟨x, hx, rfl⟩ := List.mem_map.mp h
  exact ⟨x, hx, rfl⟩
/-- lists of lists of numbers -/
def nnD (l : List (List Nat)) : List Dt := l.map fun r => Dt.lst (natsD r)
theorem nnD_inj {a b : List (List Nat)} : nnD a = nnD b ↔ a = b := by
  refine ⟨fun h => ?_, fun h => by rw [h]⟩
  induction a generalizing b with
  | nil => cases b with
    | nil => rfl
    | cons y b => cases h
  | cons x a ih => cases b with
    | nil => cases h
    | cons y b =>
      unfold nnD at h ih
      simp only [List.map_cons, List.cons.injEq, Dt.lst.injEq] at h
      rw [ih h.2, natsD_inj.mp h.1]
theorem nnD_length (l : List (List Nat)) : (nnD l).length = l.length := by simp [nnD]
theorem atI_nn {l : List (List Nat)} {i : Nat} {x : List Nat} (h : l[i]? = some x) : atI (nnD l) (i : Int) = some (.lst (natsD x)) := by
  refine atI_nat' ?_
  unfold nnD
  rw [List.getElem?_map, h]
  rfl

/-- a village: its roads, in order; how far each house is from each -/
structure Vil where
  rows : List (Nat × Nat)
  far : List (List Nat)
def Vil.n (v : Vil) : Nat := v.far.length
/-- how far y is from x -/
def Vil.d (v : Vil) (x y : Nat) : Nat := (v.far.getD x []).getD y 0
/-- the next doors of each house: E's roads from the left -/
def doorsS (l : List (List Nat)) (p : Nat × Nat) : List (List Nat) := (l.modify p.1 (· ++ [p.2])).modify p.2 (· ++ [p.1])
def doorsL (n : Nat) (E : List (Nat × Nat)) : List (List Nat) := E.foldl doorsS (List.replicate n [])
def Vil.doors (v : Vil) : List (List Nat) := (List.range v.n).map fun x => (doorsL (v.rows.length + 1) v.rows).getD x []
theorem Vil.doors_length (v : Vil) : v.doors.length = v.n := by simp [Vil.doors]
/-- all lines are whole -/
structure Vil.Sq (v : Vil) : Prop where
  line : ∀ x, x < v.n → (v.far.getD x []).length = v.n
def vN : List Str := ["_roads", "_doors", "_known"]
theorem vN_roads {a b c : Dt} : dlook vN [a, b, c] "_roads" = some a := by simp only [vN, dlook, if_true]
theorem vN_doors {a b c : Dt} : dlook vN [a, b, c] "_doors" = some b := by
  have h : ("_doors" : Str) ≠ "_roads" := by decide +kernel
  simp only [vN, dlook, if_neg h, if_true]
theorem vN_known {a b c : Dt} : dlook vN [a, b, c] "_known" = some c := by
  have h : ("_known" : Str) ≠ "_roads" := by decide +kernel
  have h' : ("_known" : Str) ≠ "_doors" := by decide +kernel
  simp only [vN, dlook, if_neg h, if_neg h', if_true]
def vilD (C : Addr) (v : Vil) : Dt := .obj C vN [.lst (rdD v.rows), .lst (nnD v.doors), .memo v.far]
theorem vilD_inj {C : Addr} {v v' : Vil} : vilD C v = vilD C v' ↔ v = v' := by
  refine ⟨fun h => ?_, fun h => by rw [h]⟩
  obtain ⟨a, b⟩ := v
  obtain ⟨a', b'⟩ := v'
  simp only [vilD, Dt.obj.injEq, List.cons.injEq, Dt.lst.injEq, rdD_inj, Dt.memo.injEq, true_and, and_true] at h
  rw [h.1, h.2.2]
theorem vil_ins {C : Addr} {v : Vil} {G : Gp} : insOf G (vilD C v) = some (C, vN, [.lst (rdD v.rows), .lst (nnD v.doors), .memo v.far]) := rfl
theorem Vil.get {v : Vil} (s : v.Sq) {x y : Nat} (hx : x < v.n) (hy : y < v.n) : ∃ l, v.far[x]? = some l ∧ l[y]? = some (v.d x y) ∧ l.length = v.n := by
  have hl := s.line x hx
  unfold Vil.d
  refine ⟨v.far.getD x [], ?_, ?_, hl⟩
  · rw [List.getD, List.getElem?_eq_getElem hx]; rfl
  · generalize v.far.getD x [] = l at hl
    have : y < l.length := by omega
    simp [List.getD, List.getElem?_eq_getElem this]
end V

set_option Elab.async false
set_option linter.all false
/-! Roads in order; labels of the parts. -/
namespace V
open DL
def leN (p q : Nat × Nat) : Prop := p.1 < q.1 ∨ (p.1 = q.1 ∧ p.2 ≤ q.2)
def leNB (p q : Nat × Nat) : Bool := decide (p.1 < q.1) || (decide (p.1 = q.1) && decide (p.2 ≤ q.2))
theorem leNB_iff {p q : Nat × Nat} : leNB p q = true ↔ leN p q := by simp [leNB, leN]
theorem leN_anti {p q : Nat × Nat} (h : leN p q) (h' : leN q p) : p = q := by
  obtain ⟨a, b⟩ := p
  obtain ⟨c, d⟩ := q
  simp only [leN] at h h'
  have e1 : a = c := by omega
  have e2 : b = d := by omega
  rw [e1, e2]
def norm (p : Nat × Nat) : Nat × Nat := (min p.1 p.2, max p.1 p.2)
/-- the roads, each with the lesser house ahead, in the order of tuples -/
def inOrd (E : List (Nat × Nat)) : List (Nat × Nat) := (E.map norm).mergeSort leNB
theorem inOrd_perm (E : List (Nat × Nat)) : (inOrd E).Perm (E.map norm) := List.mergeSort_perm _ _
theorem inOrd_sorted (E : List (Nat × Nat)) : (inOrd E).Pairwise leN := by
  have h := List.pairwise_mergeSort (le := leNB) (fun a b c h1 h2 => by
    rw [leNB_iff] at h1 h2 ⊢
    simp only [leN] at h1 h2 ⊢
    omega) (fun a b => by
    rw [Bool.or_eq_true, leNB_iff, leNB_iff]
    simp only [leN]
    omega) (E.map norm)
  exact h.imp fun h => leNB_iff.mp h
theorem inOrd_uniq {E R : List (Nat × Nat)} (hp : R.Perm (E.map norm)) (hs : R.Pairwise leN) : R = inOrd E :=
  List.Perm.eq_of_pairwise (fun _ _ _ _ h h' => leN_anti h h') hs (inOrd_sorted E) (hp.trans (inOrd_perm E).symm)
theorem inOrd_length (E : List (Nat × Nat)) : (inOrd E).length = E.length := by rw [(inOrd_perm E).length_eq, List.length_map]
theorem inOrd_congr {E E' : List (Nat × Nat)} (h : (E.map norm).Perm (E'.map norm)) : inOrd E = inOrd E' := inOrd_uniq ((inOrd_perm E).trans h) (inOrd_sorted E)

/-- the part of each house, told by house, behind the roads E -/
def labS (l : List Nat) (p : Nat × Nat) : List Nat := l.map fun z => if z = l.getD p.1 0 then l.getD p.2 0 else z
def labL (n : Nat) (E : List (Nat × Nat)) : List Nat := E.foldl labS (List.range n)
theorem labL_length (n : Nat) (E : List (Nat × Nat)) : (labL n E).length = n := by
  unfold labL
  have : ∀ (l : List Nat), (E.foldl labS l).length = l.length := by
    induction E with
    | nil => intro l; rfl
    | cons p E ih => intro l; rw [List.foldl_cons, ih]; simp [labS]
  rw [this, List.length_range]
theorem take_one_more {α : Type} {l : List α} {i : Nat} {x : α} (h : l[i]? = some x) : l.take (i + 1) = l.take i ++ [x] := by
  obtain ⟨hi, e⟩ := List.getElem?_eq_some_iff.mp h
  rw [← List.take_append_getElem hi, e]
theorem labL_step {n : Nat} {E : List (Nat × Nat)} {i : Nat} {p : Nat × Nat} (h : E[i]? = some p) : labL n (E.take (i + 1)) = labS (labL n (E.take i)) p := by
  rw [take_one_more h]
  unfold labL
  rw [List.foldl_append]
  rfl
theorem getD_of {l : List Nat} {i : Nat} (h : i < l.length) : l[i]? = some (l.getD i 0) := by simp [List.getD, h]
/-- all roads can be made, one behind the other -/
structure Sound (E : List (Nat × Nat)) : Prop where
  lt : ∀ p ∈ E, p.1 < E.length + 1 ∧ p.2 < E.length + 1
  apart : ∀ i p, E[i]? = some p → (labL (E.length + 1) (E.take i)).getD p.1 0 ≠ (labL (E.length + 1) (E.take i)).getD p.2 0
theorem Sound.parts {E : List (Nat × Nat)} (s : Sound E) {i x y : Nat} (h : E[i]? = some (x, y)) : ∃ u v, (labL (E.length + 1) (E.take i))[x]? = some u ∧ (labL (E.length + 1) (E.take i))[y]? = some v ∧ u ≠ v ∧ x < E.length + 1 ∧ y < E.length + 1 ∧
    labL (E.length + 1) (E.take (i + 1)) = (labL (E.length + 1) (E.take i)).map fun z => if z = u then v else z := by
  obtain ⟨h1, h2⟩ := s.lt _ (List.mem_of_getElem? h)
  refine ⟨_, _, getD_of (by rw [labL_length]; exact h1), getD_of (by rw [labL_length]; exact h2), s.apart _ _ h, h1, h2, ?_⟩
  rw [labL_step h]
  rfl
/-- heads: each house's part is told by the labels; from each house one comes to the one head of its part -/
structure UFr (n : Nat) (h L : List Nat) (ρ : Nat → Nat) (M : Nat) : Prop where
  len : h.length = n
  lenL : L.length = n
  lt : ∀ {x y : Nat}, h[x]? = some y → y < n
  up : ∀ {x y : Nat}, h[x]? = some y → y ≠ x → ρ x < ρ y
  top : ∀ x, ρ x ≤ M
  lab : ∀ {x y : Nat}, h[x]? = some y → L[y]? = L[x]?
  root : ∀ {x y : Nat}, h[x]? = some x → h[y]? = some y → L[x]? = L[y]? → x = y
def UF (n : Nat) (h L : List Nat) : Prop := ∃ ρ M, UFr n h L ρ M
theorem UF.start (n : Nat) : UF n (List.range n) (List.range n) := by
  have key : ∀ {x y : Nat}, (List.range n)[x]? = some y → y = x ∧ x < n := fun {x y} h => by
    obtain ⟨h1, h2⟩ := List.getElem?_eq_some_iff.mp h
    rw [List.length_range] at h1
    rw [List.getElem_range] at h2
    exact ⟨h2.symm, h1⟩
  refine ⟨fun _ => 0, 0, by simp, by simp, fun h => ?_, fun h ne => absurd (key h).1 ne, fun _ => Nat.le_refl 0, fun h => by rw [(key h).1], fun h h' e => ?_⟩
  · have := key h; omega
  · rw [h, h'] at e
    exact Option.some.inj e
section
variable {n : Nat} {h L : List Nat} {ρ : Nat → Nat} {M : Nat}
theorem UFr.there (u : UFr n h L ρ M) {x : Nat} (hx : x < n) : ∃ y, h[x]? = some y ∧ y < n := by
  have : h[x]? = some (h[x]'(by rw [u.len]; exact hx)) := List.getElem?_eq_getElem _
  exact ⟨_, this, u.lt this⟩
theorem UFr.le (u : UFr n h L ρ M) {x y : Nat} (e : h[x]? = some y) : ρ x ≤ ρ y := by
  by_cases q : y = x
  · rw [q]; exact Nat.le_refl _
  · exact Nat.le_of_lt (u.up e q)
theorem UFr.halve (u : UFr n h L ρ M) {x y z : Nat} (h1 : h[x]? = some y) (h2 : h[y]? = some z) : UFr n (h.set x z) L ρ M := by
  have hx : x < h.length := (List.getElem?_eq_some_iff.mp h1).1
  have at_ : ∀ {a b : Nat}, (h.set x z)[a]? = some b → (a = x ∧ b = z) ∨ (a ≠ x ∧ h[a]? = some b) := fun {a b} e => by
    by_cases q : a = x
    · subst q
      rw [List.getElem?_set_self hx] at e
      exact .inl ⟨rfl, (Option.some.inj e).symm⟩
    · rw [List.getElem?_set_ne (Ne.symm q)] at e
      exact .inr ⟨q, e⟩
  have up : z ≠ x → ρ x < ρ z := fun ne => by
    by_cases q : y = x
    · subst q; rw [h1] at h2; exact absurd (Option.some.inj h2).symm ne
    · exact Nat.lt_of_lt_of_le (u.up h1 q) (u.le h2)
  have self : ∀ {a : Nat}, (h.set x z)[a]? = some a → h[a]? = some a := fun {a} e => by
    rcases at_ e with ⟨e1, e2⟩ | ⟨_, e⟩
    · subst e1
      by_cases q : y = a
      · rw [q] at h1; exact h1
      · have := Nat.lt_of_lt_of_le (u.up h1 q) (u.le h2)
        rw [← e2] at this
        exact absurd this (Nat.lt_irrefl _)
    · exact e
  refine ⟨by rw [List.length_set]; exact u.len, u.lenL, fun e => ?_, fun e ne => ?_, u.top, fun e => ?_, fun e e' el => u.root (self e) (self e') el⟩
  · rcases at_ e with ⟨_, e2⟩ | ⟨_, e⟩
    · rw [e2]; exact u.lt h2
    · exact u.lt e
  · rcases at_ e with ⟨e1, e2⟩ | ⟨_, e⟩
    · subst e1; subst e2; exact up ne
    · exact u.up e ne
  · rcases at_ e with ⟨e1, e2⟩ | ⟨_, e⟩
    · subst e1; subst e2
      rw [u.lab h2, u.lab h1]
    · exact u.lab e
theorem halve_root {x y z a : Nat} (h1 : h[x]? = some y) (h2 : h[y]? = some z) (e : h[a]? = some a) : (h.set x z)[a]? = some a := by
  by_cases q : a = x
  · subst q
    rw [e] at h1; cases h1
    rw [e] at h2; cases h2
    exact List.getElem?_set_self (List.getElem?_eq_some_iff.mp e).1
  · rw [List.getElem?_set_ne (Ne.symm q)]; exact e
theorem UFr.join (u : UFr n h L ρ M) {x y a b : Nat} (hx : h[x]? = some x) (hy : h[y]? = some y) (ha : L[x]? = some a) (hb : L[y]? = some b) (hab : a ≠ b) : UF n (h.set x y) (L.map fun z => if z = a then b else z) := by
  have hxl : x < h.length := (List.getElem?_eq_some_iff.mp hx).1
  have hxy : y ≠ x := fun e => hab (by rw [e, ha] at hb; exact Option.some.inj hb)
  have at_ : ∀ {c d : Nat}, (h.set x y)[c]? = some d → (c = x ∧ d = y) ∨ (c ≠ x ∧ h[c]? = some d) := fun {c d} e => by
    by_cases q : c = x
    · subst q
      rw [List.getElem?_set_self hxl] at e
      exact .inl ⟨rfl, (Option.some.inj e).symm⟩
    · rw [List.getElem?_set_ne (Ne.symm q)] at e
      exact .inr ⟨q, e⟩
  refine ⟨fun c => if L[c]? = some b then ρ c + M + 1 else ρ c, 2 * M + 1, by rw [List.length_set]; exact u.len, by rw [List.length_map]; exact u.lenL, fun e => ?_, fun e ne => ?_, fun c => ?_, fun e => ?_, fun {c d} e e' el => ?_⟩
  · rcases at_ e with ⟨_, e2⟩ | ⟨_, e⟩
    · rw [e2]; exact u.lt hy
    · exact u.lt e
  · rcases at_ e with ⟨e1, e2⟩ | ⟨_, e⟩
    · rw [e1, e2, ha, hb, if_pos rfl, if_neg (fun z => hab (Option.some.inj z))]
      have := u.top x
      omega
    · rw [u.lab e]
      have := u.up e ne
      split <;> omega
  · have := u.top c
    split <;> omega
  · rcases at_ e with ⟨e1, e2⟩ | ⟨_, e⟩
    · subst e1; subst e2
      rw [List.getElem?_map, List.getElem?_map, ha, hb]
      simp
    · rw [List.getElem?_map, List.getElem?_map, u.lab e]
  · rcases at_ e with ⟨e1, e2⟩ | ⟨nc, e⟩
    · subst e1; exact absurd e2.symm hxy
    rcases at_ e' with ⟨e1, e2⟩ | ⟨nd, e'⟩
    · subst e1; exact absurd e2.symm hxy
    refine u.root e e' ?_
    rw [List.getElem?_map, List.getElem?_map] at el
    have nn : ∀ {c : Nat}, h[c]? = some c → c ≠ x → L[c]? ≠ some a := fun {c} e ne z => ne (u.root e hx (z.trans ha.symm))
    have n1 := nn e nc
    have n2 := nn e' nd
    cases q1 : L[c]? with
    | none =>
      cases q2 : L[d]? with
      | none => rfl
      | some s => rw [q1, q2] at el; cases el
    | some r =>
      cases q2 : L[d]? with
      | none => rw [q1, q2] at el; cases el
      | some s =>
        rw [q1, q2] at el
        have m1 : r ≠ a := fun z => n1 (by rw [q1, z])
        have m2 : s ≠ a := fun z => n2 (by rw [q2, z])
        simpa [m1, m2] using el
end
end V

set_option Elab.async false
set_option linter.all false
set_option maxRecDepth 100000
/-! A list of lists that grow. -/
namespace V
open PySem PySem.Spec L2 DL
structure RowsAt (G0 G : Gp) (D : Addr) (as : List Addr) (ls : List (List Nat)) : Prop where
  top : G D = some (.lst (as.map Dt.ref))
  len : as.length = ls.length
  row : ∀ (i : Nat) (a : Addr) (l : List Nat), as[i]? = some a → ls[i]? = some l → G a = some (.lst (natsD l))
  nd : as.Nodup
  nD : D ∉ as
  le : GLe G0 G
  fD : G0 D = none
  fr : ∀ a ∈ as, G0 a = none
section
variable {G0 G : Gp} {D : Addr} {as : List Addr} {ls : List (List Nat)}
theorem RowsAt.at (r : RowsAt G0 G D as ls) {i : Nat} {l : List Nat} (h : ls[i]? = some l) : ∃ a, as[i]? = some a ∧ G a = some (.lst (natsD l)) := by
  have hi := (List.getElem?_eq_some_iff.mp h).1
  have hi' : i < as.length := by rw [r.len]; exact hi
  exact ⟨as[i], List.getElem?_eq_getElem hi', r.row i _ l (List.getElem?_eq_getElem hi') h⟩
theorem nodup_at {as : List Addr} (nd : as.Nodup) {i j : Nat} {a : Addr} (h : as[i]? = some a) (h' : as[j]? = some a) : i = j := by
  obtain ⟨h1, e1⟩ := List.getElem?_eq_some_iff.mp h
  obtain ⟨h2, e2⟩ := List.getElem?_eq_some_iff.mp h'
  exact (List.getElem_inj nd).mp (e1.trans e2.symm)
theorem RowsAt.put (r : RowsAt G0 G D as ls) {i : Nat} {a : Addr} {l l' : List Nat} (ha : as[i]? = some a) (hl : ls[i]? = some l) : RowsAt G0 (gupd G a (.lst (natsD l'))) D as (ls.set i l') := by
  have hm : a ∈ as := List.mem_of_getElem? ha
  have hD : D ≠ a := fun e => r.nD (by rw [e]; exact hm)
  refine ⟨by rw [gupd_ne hD]; exact r.top, by rw [List.length_set]; exact r.len, fun j b m hb hm' => ?_, r.nd, r.nD, fun b m e => ?_, r.fD, r.fr⟩
  · by_cases hj : j = i
    · subst hj
      rw [ha] at hb; cases hb
      rw [List.getElem?_set_self (List.getElem?_eq_some_iff.mp hl).1] at hm'
      cases hm'
      exact gupd_same
    · rw [List.getElem?_set_ne (Ne.symm hj)] at hm'
      have hab : b ≠ a := fun e => hj (nodup_at r.nd (e ▸ hb) ha)
      rw [gupd_ne hab]
      exact r.row j b m hb hm'
  · have hb : b ≠ a := fun z => by rw [z, r.fr a hm] at e; cases e
    rw [gupd_ne hb]
    exact r.le b m e
/-- other objects may change -/
theorem RowsAt.other (r : RowsAt G0 G D as ls) {b : Addr} {m : MO} (hD : b ≠ D) (ha : b ∉ as) (h0 : G0 b = none) : RowsAt G0 (gupd G b m) D as ls :=
  ⟨by rw [gupd_ne (Ne.symm hD)]; exact r.top, r.len, fun j c l hc hl => by
    have : c ≠ b := fun e => ha (e ▸ List.mem_of_getElem? hc)
    rw [gupd_ne this]; exact r.row j c l hc hl, r.nd, r.nD, fun c m' e => by rw [gupd_ne (gne e h0)]; exact r.le c m' e, r.fD, r.fr⟩
def dels (G : Gp) : List Addr → Gp
  | [] => G
  | a :: as => dels (gdel G a) as
theorem dels_ne {b : Addr} : ∀ {as : List Addr} {G : Gp}, b ∉ as → dels G as b = G b
  | [], _, _ => rfl
  | a :: as, G, h => by
    show dels (gdel G a) as b = G b
    rw [dels_ne fun z => h (List.mem_cons_of_mem _ z), gdel_ne fun z => h (by rw [z]; exact List.mem_cons_self)]
theorem freeze_rows {K : PySem.W.Frag} {B H : Hp} : ∀ {as : List Addr} {ls : List (List Nat)} {G : Gp} {F : Hp}, Good K B F G H → as.Nodup → as.length = ls.length → (∀ (i : Nat) (a : Addr) (l : List Nat), as[i]? = some a → ls[i]? = some l → G a = some (.lst (natsD l))) →
    ∃ F', Le F F' ∧ Good K B F' (dels G as) H ∧ IsL K F' (as.map V.ref) (nnD ls)
  | [], [], G, F, g, _, _, _ => ⟨F, Le.refl F, g, .nil⟩
  | [], _ :: _, _, _, _, _, h, _ => by simp at h
  | _ :: _, [], _, _, _, _, h, _ => by simp at h
  | a :: as, l :: ls, G, F, g, nd, hl, h => by
    obtain ⟨F1, l1, g1, i1⟩ := g.freezeL (h 0 a l rfl rfl)
    rw [List.nodup_cons] at nd
    obtain ⟨F2, l2, g2, i2⟩ := freeze_rows (as := as) (ls := ls) g1 nd.2 (by simpa using hl) fun i b m hb hm => by
      have : b ≠ a := fun e => nd.1 (e ▸ List.mem_of_getElem? hb)
      rw [gdel_ne this]
      exact h (i + 1) b m hb hm
    exact ⟨F2, l1.trans l2, g2, .cons (i1.le l2) i2⟩
theorem IsL.refs {K : PySem.W.Frag} {F : Hp} : ∀ {vs : List V} {as : List Addr}, IsL K F vs (as.map Dt.ref) → vs = as.map V.ref
  | _, [], h => by cases h; rfl
  | _, a :: as, h => by
    cases h with
    | cons r t => cases r; rw [IsL.refs t]; rfl
theorem RowsAt.clo (r : RowsAt G0 G D as ls) : Clo (.ref D) G (.lst (nnD ls)) G0 := ⟨fun K B F H v g i => by
  cases i
  obtain ⟨F1, l1, g1, i1⟩ := freeze_rows g r.nd r.len r.row
  have hD : dels G as D = some (.lst (as.map Dt.ref)) := by rw [dels_ne r.nD]; exact r.top
  obtain ⟨o, ho, l2, g2, m2⟩ := g1.freeze hD
  cases o <;> first
    | exact m2.elim
    | (have e := IsL.refs m2
       refine ⟨_, l1.trans l2, g2.sub fun a m e' => ?_, .lst upd_same (by rw [e]; rw [e] at l2; exact i1.le l2)⟩
       have h1 : a ≠ D := fun z => by rw [z, r.fD] at e'; cases e'
       have h2 : a ∉ as := fun z => by rw [r.fr a z] at e'; cases e'
       rw [gdel_ne h1, dels_ne h2]
       exact r.le a m e')⟩
end
/-- [[] for _ in ..] -/
theorem rows_build {wi : DTI} {s : Nat} {vs : List Nat} {δ : DSt} {G : Gp} {P : DK} (ds : List Dt) (hw : ∀ P : List Dt → Gp → Prop, P ds G → wi δ G P) (hz : ds.length < sizeLine)
    (fin : ∀ D as G', RowsAt G G' D as (List.replicate ds.length []) → P (.ref D) G') : dLc wi (dgN s) dYes (dLstM dNil) vs δ G P := by
  refine hw _ fun D hD => ⟨fun i acc G' => i ≤ ds.length ∧ ∃ as, acc = as.map Dt.ref ∧ RowsAt G G' D as (List.replicate i []), ⟨Nat.zero_le _, [], rfl, gupd_same, rfl, fun i a l h => by simp at h, List.nodup_nil, by simp, GLe.gupd hD, hD, by simp⟩, ?_, ?_⟩
  · rintro i d acc G' hd ⟨hi, as, rfl, r⟩
    have hlt : i < ds.length := (List.getElem?_eq_some_iff.mp hd).1
    have e : as.length = i := by rw [r.len, List.length_replicate]
    simp only [dgN, dYes, dLstM, dNil, if_true]
    refine ⟨Nat.zero_le _, fun p hp => ?_⟩
    have hpD : D ≠ p := gne r.top hp
    have hpa : p ∉ as := fun z => by
      obtain ⟨j, hj, ej⟩ := List.getElem_of_mem z
      have := r.row j p [] (by rw [List.getElem?_eq_getElem hj, ej]) (by rw [List.getElem?_replicate, if_pos (by omega)])
      rw [hp] at this; cases this
    have hp0 : G p = none := by
      cases q : G p with
      | none => rfl
      | some m => rw [r.le p m q] at hp; cases hp
    refine ⟨by rw [gupd_ne hpD]; exact r.top, by rw [List.length_map, e]; omega, hlt, as ++ [p], by simp, ?_⟩
    refine ⟨by rw [gupd_same]; simp, by simp [e], fun j a l ha hl => ?_, ?_, ?_, fun a m h => ?_, hD, fun a ha => ?_⟩
    · have hl' : l = [] := by
        rw [List.getElem?_replicate] at hl
        split at hl
        · exact (Option.some.inj hl).symm
        · cases hl
      subst hl'
      by_cases hj : j < as.length
      · rw [List.getElem?_append_left hj] at ha
        have haD : a ≠ D := fun z => r.nD (by rw [← z]; exact List.mem_of_getElem? ha)
        have hap : a ≠ p := fun z => hpa (by rw [← z]; exact List.mem_of_getElem? ha)
        rw [gupd_ne haD, gupd_ne hap]
        exact r.row j a [] ha (by rw [List.getElem?_replicate, if_pos (by omega)])
      · rw [List.getElem?_append_right (by omega)] at ha
        have : a = p := by
          cases h0 : j - as.length with
          | zero => rw [h0] at ha; exact (Option.some.inj ha).symm
          | succ k => rw [h0] at ha; simp at ha
        subst this
        rw [gupd_ne (Ne.symm hpD), gupd_same]
        rfl
    · rw [List.nodup_append]
      exact ⟨r.nd, by simp, fun a ha b hb => by
        rw [List.mem_singleton] at hb
        subst hb
        exact fun z => hpa (z ▸ ha)⟩
    · rw [List.mem_append, List.mem_singleton]
      rintro (z | z)
      · exact r.nD z
      · exact hpD z
    · have h1 : a ≠ D := fun z => by rw [z, hD] at h; cases h
      have h2 : a ≠ p := fun z => by rw [z, hp0] at h; cases h
      rw [gupd_ne h1, gupd_ne h2]
      exact r.le a m h
    · rcases List.mem_append.mp ha with z | z
      · exact r.fr a z
      · rw [List.mem_singleton] at z; rw [z]; exact hp0
  · rintro acc G' ⟨_, as, rfl, r⟩
    exact fin D as G' r

/-- what breadth-first search needs of the distance from the start -/
structure Dist (n : Nat) (nb : List (List Nat)) (s : Nat) (d : Nat → Nat) : Prop where
  len : nb.length = n
  lt : ∀ (x y : Nat) l, nb[x]? = some l → y ∈ l → y < n
  s0 : s < n ∧ d s = 0
  zero : ∀ y, y < n → d y = 0 → y = s
  step : ∀ (x y : Nat) l, nb[x]? = some l → y ∈ l → d y ≤ d x + 1
  pre : ∀ y k, y < n → d y = k + 1 → ∃ x l, nb[x]? = some l ∧ y ∈ l ∧ d x = k
  top : ∀ y, y < n → d y ≤ n
def fI (n : Nat) (f : Nat → Int) : List Dt := (List.range n).map fun y => Dt.int (f y)
theorem fI_length (n : Nat) (f : Nat → Int) : (fI n f).length = n := by simp [fI]
theorem fI_at {n : Nat} {f : Nat → Int} {y : Nat} (h : y < n) : atI (fI n f) (y : Int) = some (.int (f y)) := atI_nat' (by simp [fI, h])
theorem fI_set {n : Nat} {f : Nat → Int} {y : Nat} {v : Int} (h : y < n) : (fI n f).set y (.int v) = fI n fun z => if z = y then v else f z := by
  refine List.ext_getElem? fun j => ?_
  rw [List.getElem?_set]
  simp only [fI, List.length_map, List.length_range, List.getElem?_map]
  by_cases hj : y = j
  · subst hj; simp [h]
  · have hj' : ¬ j = y := fun e => hj e.symm
    rw [if_neg hj]
    by_cases hl : j < n
    · simp [hl, hj']
    · simp [hl]
theorem fI_rep (n : Nat) : List.replicate n (Dt.int (-1)) = fI n fun _ => -1 := by
  refine List.ext_getElem? fun j => ?_
  simp only [fI, List.getElem?_map, List.getElem?_replicate]
  by_cases hl : j < n
  · simp [hl]
  · simp [hl]
theorem fI_congr {n : Nat} {f g : Nat → Int} (h : ∀ y, y < n → f y = g y) : fI n f = fI n g := List.map_congr_left fun y hy => by rw [h y (List.mem_range.mp hy)]
theorem fI_nat (n : Nat) (d : Nat → Nat) : (fI n fun y => (d y : Int)) = natsD ((List.range n).map d) := by simp [fI, natsD, List.map_map, Function.comp_def]
theorem nodup_lt : ∀ {n : Nat} {l : List Nat}, l.Nodup → (∀ x ∈ l, x < n) → l.length ≤ n
  | 0, [], _, _ => Nat.le_refl 0
  | 0, x :: l, _, h => absurd (h x List.mem_cons_self) (Nat.not_lt_zero x)
  | n + 1, l, nd, h => by
    by_cases hn : n ∈ l
    · have h1 := nodup_lt (n := n) (nd.erase n) fun x hx => by
        have := (nd.mem_erase_iff).mp hx
        have h2 := h x this.2
        have h3 := this.1
        omega
      rw [List.length_erase_of_mem hn] at h1
      omega
    · have := nodup_lt (n := n) nd fun x hx => by
        have h2 := h x hx
        have : x ≠ n := fun e => hn (e ▸ hx)
        omega
      omega
/-- within a turn: B are the new ones found so far -/
structure Turn1 (n k : Nat) (d : Nat → Nat) (f : Nat → Int) (B : List Nat) : Prop where
  old : ∀ y, y < n → d y ≤ k → f y = d y
  new : ∀ y, y < n → d y = k + 1 → (f y = (k : Int) + 1 ∧ y ∈ B) ∨ (f y = -1 ∧ y ∉ B)
  far : ∀ y, y < n → k + 1 < d y → f y = -1
  mem : ∀ y ∈ B, y < n ∧ d y = k + 1
  nd : B.Nodup
theorem Turn1.find {n k : Nat} {d : Nat → Nat} {f : Nat → Int} {B : List Nat} {y : Nat} (t : Turn1 n k d f B) (hy : y < n) (hd : d y ≤ k + 1) (hf : f y < 0) : Turn1 n k d (fun z => if z = y then (k : Int) + 1 else f z) (B ++ [y]) := by
  have e : d y = k + 1 := by
    by_cases h : d y ≤ k
    · have := t.old y hy h; omega
    · omega
  have hB : y ∉ B := by
    rcases t.new y hy e with h | h
    · omega
    · exact h.2
  refine ⟨fun z hz h => ?_, fun z hz h => ?_, fun z hz h => ?_, fun z hz => ?_, ?_⟩
  · have : z ≠ y := fun q => by rw [q] at h; omega
    rw [if_neg this]; exact t.old z hz h
  · by_cases q : z = y
    · rw [if_pos q]; exact .inl ⟨rfl, by rw [q]; simp⟩
    · rw [if_neg q]
      rcases t.new z hz h with r | r
      · exact .inl ⟨r.1, List.mem_append_left _ r.2⟩
      · exact .inr ⟨r.1, by simp [r.2, q]⟩
  · have : z ≠ y := fun q => by rw [q] at h; omega
    rw [if_neg this]; exact t.far z hz h
  · rcases List.mem_append.mp hz with h | h
    · exact t.mem z h
    · rw [List.mem_singleton] at h; subst h; exact ⟨hy, e⟩
  · rw [List.nodup_append]
    exact ⟨t.nd, by simp, fun a ha b hb => by rw [List.mem_singleton] at hb; subst hb; exact fun q => hB (q ▸ ha)⟩
theorem Dist.empty {n : Nat} {nb : List (List Nat)} {s : Nat} {d : Nat → Nat} (D : Dist n nb s d) {k : Nat} (h : ∀ y, y < n → d y ≠ k) : ∀ y, y < n → d y < k := by
  have key : ∀ j y, y < n → d y ≠ k + j := by
    intro j
    induction j with
    | zero => exact h
    | succ j ih =>
      intro y hy e
      obtain ⟨x, l, hx, _, e2⟩ := D.pre y (k + j) hy e
      exact ih x (by rw [← D.len]; exact (List.getElem?_eq_some_iff.mp hx).1) e2
  intro y hy
  have h1 : ¬ k ≤ d y := fun q => key (d y - k) y hy (by omega)
  omega
end V

set_option Elab.async false
set_option linter.all false
set_option maxRecDepth 100000
set_option maxHeartbeats 1000000
/-! A table that is filled when asked: a dict in a field of a frozen instance. -/
namespace DL
open PySem PySem.Spec L2
/-- {}, taken for a table -/
def dMemoNew : DTE := fun _ G P => ∃ rows, P (.memo rows) G
theorem d_memo {X : Cx} {B : Hp} {pos : Pos} : DE X B (.Dict [] [] pos) dMemoNew := PE.imp pe_dnewK fun σ H Q ⟨F, G, δ, P, g, s, ⟨rows, p⟩, c⟩ => fun q hq => by
  obtain ⟨l, g'⟩ := g.newT hq (memoR rows)
  exact c _ _ _ _ _ p l g' (.memo upd_same)
theorem memoR_get {rows : List (List Nat)} {i : Nat} {row : List Key × V} (h : (memoR rows)[i]? = some row) : ∃ r, rows[i]? = some r ∧ row.1.map kV = r.map fun (n : Nat) => V.int (n : Int) := by
  unfold memoR at h
  rw [List.getElem?_map] at h
  cases e : rows[i]? with
  | none => rw [e] at h; cases h
  | some r =>
    rw [e] at h; cases h
    exact ⟨r, rfl, by rw [List.map_map]; rfl⟩
theorem memoR_at {rows : List (List Nat)} {i : Nat} {r : List Nat} (h : rows[i]? = some r) : (memoR rows)[i]? = some (r.map fun (n : Nat) => (.inl (n : Int) : Key), V.non) := by
  unfold memoR
  rw [List.getElem?_map, h]; rfl
theorem memoR_length (rows : List (List Nat)) : (memoR rows).length = rows.length := by simp [memoR]
theorem valV_mem {k : Key} : ∀ {s : List (Key × V)} {v : V}, valV s k = some v → (k, v) ∈ s
  | [], v, h => by cases h
  | p :: r, v, h => by
    by_cases e : p.1 = k
    · rw [valV_pos e] at h; cases h
      rw [← e]; exact List.mem_cons_self
    · rw [valV_neg e] at h
      exact List.mem_cons_of_mem _ (valV_mem h)
theorem MemoOk.len {F : Hp} {r : List (List Key × V)} {s : List (Key × V)} (h : MemoOk F r s) : s.length ≤ r.length := by
  have h1 : ((s.map (·.1)).map fun k => match k with | .inl i => i.toNat | .inr _ => 0).Nodup := by
    refine List.Pairwise.map _ (fun a b hab e => ?_) (List.pairwise_iff_getElem.mpr fun i j hi hj hij => ?_) (R := fun a b => a ≠ b ∧ (∃ i : Nat, a = .inl (i : Int)) ∧ ∃ i : Nat, b = .inl (i : Int))
    · obtain ⟨h1, ⟨i, rfl⟩, j, rfl⟩ := hab
      simp only [Int.toNat_natCast] at e
      exact h1 (by rw [e])
    · have hm : ∀ k ∈ s.map (·.1), ∃ i : Nat, k = .inl (i : Int) := fun k hk => by
        obtain ⟨⟨k', v⟩, hm, rfl⟩ := List.mem_map.mp hk
        obtain ⟨i, _, _, e, _⟩ := h.2 _ _ hm
        exact ⟨i, e⟩
      exact ⟨List.pairwise_iff_getElem.mp h.1 i j hi hj hij, hm _ (List.getElem_mem hi), hm _ (List.getElem_mem hj)⟩
  have h2 := V.nodup_lt (n := r.length) h1 fun x hx => by
    obtain ⟨k, hk, rfl⟩ := List.mem_map.mp hx
    obtain ⟨⟨k', v⟩, hm, rfl⟩ := List.mem_map.mp hk
    obtain ⟨i, row, _, rfl, e, _⟩ := h.2 _ _ hm
    simp only [Int.toNat_natCast]
    exact (List.getElem?_eq_some_iff.mp e).1
  simpa using h2
theorem MemoOk.put {F : Hp} {r : List (List Key × V)} {s : List (Key × V)} (h : MemoOk F r s) {i : Nat} {row : List Key × V} {b : Addr} (hi : r[i]? = some row) (hb : F b = some (.lst (row.1.map kV))) : MemoOk F r (putK s (.inl (i : Int)) (.ref b)) := by
  unfold putK
  split
  · refine ⟨?_, fun k v hm => ?_⟩
    · rw [List.map_map]
      have e : (s.map ((·.1) ∘ fun kv : Key × V => if kv.1 = (.inl (i : Int) : Key) then (kv.1, V.ref b) else kv)) = s.map (·.1) := List.map_congr_left fun kv _ => by
        simp only [Function.comp]; split <;> rfl
      rw [e]; exact h.1
    · obtain ⟨kv, hkv, e⟩ := List.mem_map.mp hm
      split at e
      · rename_i ek
        cases e
        exact ⟨i, row, b, ek, hi, rfl, hb⟩
      · subst e
        exact h.2 _ _ hkv
  · rename_i hn
    have hn' : valV s (.inl (i : Int) : Key) = none := by
      rw [valV_any] at hn
      cases q : valV s (.inl (i : Int) : Key) with
      | none => rfl
      | some x => rw [q] at hn; exact (hn rfl).elim
    refine ⟨?_, fun k v hm => ?_⟩
    · rw [List.map_append, List.nodup_append]
      refine ⟨h.1, by simp, fun a ha c hc e => ?_⟩
      simp only [List.map_cons, List.map_nil, List.mem_singleton] at hc
      subst e; subst hc
      refine hn ?_
      rw [List.any_eq_true]
      obtain ⟨kv, hkv, e⟩ := List.mem_map.mp ha
      exact ⟨kv, hkv, decide_eq_true e⟩
    · rcases List.mem_append.mp hm with hm | hm
      · exact h.2 _ _ hm
      · cases List.mem_singleton.mp hm
        exact ⟨i, row, b, rfl, hi, rfl, hb⟩
theorem isL_rowD {K : PySem.W.Frag} {F : Hp} : ∀ (m : List Nat), IsL K F (m.map fun (k : Nat) => V.int (k : Int)) (m.map fun (n : Nat) => Dt.int (n : Int))
  | [] => .nil
  | k :: m => .cons (.int _) (isL_rowD m)
section
variable {X : Cx} {B : Hp} {o1 o2 o3 x1 x2 x3 value : Expr} {p1 p2 p3 p4 p5 p6 : Pos} {tv : DTE} {C : Addr} {f : Str} {is ix j : Nat}
abbrev rowD (r : List Nat) : List Dt := r.map fun (n : Nat) => Dt.int (n : Int)
/-- if x not in self.f: self.f[x] = value; return self.f[x] -/
def dMemo (C : Addr) (f : Str) (is ix : Nat) (tv : DTE) : DTS := fun D δ G => ∃ (ns : List Str) (xs : List Dt) (rows : List (List Nat)) (i : Nat) (row : List Nat), δ[is]? = some (some (.obj C ns xs)) ∧ dlook ns xs f = some (.memo rows) ∧ δ[ix]? = some (some (.int (i : Int))) ∧ rows[i]? = some row ∧ rows.length ≤ 1000 ∧
  (tv δ G fun d G' => G' = G ∧ d = .lst (rowD row)) ∧ D.rt (.lst (rowD row)) G
theorem dss_memo (cl : Cls X.K C) (na : NoAttr X.K C f) (hr : Room j X.A) (hx1 : PE X x1 (tVar ix)) (ho1 : PE X o1 (tFld X.K (tVar is) f)) (ho2 : PE X o2 (tFld X.K (tVar is) f)) (hx2 : PE X x2 (tVar ix)) (hv : DE X B value tv)
    (ho3 : PE X o3 (tFld X.K (tVar is) f)) (hx3 : PE X x3 (tVar ix)) (hn : NoSl x3 := by exact fun _ _ => rfl) (hs : swapsWith value (some (.Subscript o2 x2 p2)) p3.line X.env = pure false := by rfl)
    (hm : behindInMarks .NotIn o1 = false := by first | exact nobehind _ (by decide) (by decide) | rfl) :
    DSs X B [.If (.Compare x1 [.NotIn] [o1] p1) [.Assign [.Subscript o2 x2 p2] value p3] [] p4, .Return (some (.Subscript o3 x3 p5)) p6] (dMemo C f is ix tv) := by
  have hu := hr.units
  refine PSs.imp (pss_cons (ps_if (pt_cmp (pc_dnotin (by omega) hx1 ho1) hm) (pss_one (ps_dput (by omega) ho2 hx2 hv hs)) pss_nil) (pss_one (ps_ret (pe_dget (by omega) ho3 hx3 hn)))) fun D σ H ⟨F, G, δ, R, g, s, ⟨ns, xs, rows, i, row, e0, em, ex, er, hl, hv', hR⟩, ff⟩ => ?_
  obtain ⟨v0, s0, i0⟩ := s.get _ _ e0
  obtain ⟨vx, sx, ix'⟩ := s.get _ _ ex
  cases ix'
  cases i0 with
  | @obj p _ dx fs _ _ hp en ifs =>
  obtain ⟨vm, hlm, im⟩ := dlook_is en ifs em
  cases im with
  | @memo q _ hq =>
  obtain ⟨sd, hd, mk⟩ := g.mm _ _ hq
  have fin : ∀ F' H' s' v, Le F F' → Good X.K B F' G H' → H' q = some (.dK s') → valV s' (.inl (i : Int)) = some v → Is X.K F' v (.lst (rowD row)) → tRet (tDGet (tFld X.K (tVar is) f) (tVar ix)) D σ H' := fun F' H' s' v l g' hq' hval iv =>
    ⟨.ref p, s0, p, C, dx, fs, .ref q, rfl, g'.fz _ _ (l _ _ hp), cl, na, hlm, .int (i : Int), sx, q, v, rfl, .inl ⟨s', .inl (i : Int), .inl hq', rfl, hval.symm⟩, ff.rt _ G v F' H' hR l g' iv⟩
  refine ⟨.int (i : Int), sx, .ref p, s0, p, C, dx, fs, .ref q, rfl, g.fz _ _ hp, cl, na, hlm, q, valV sd (.inl (i : Int)), rfl, .inl ⟨sd, .inl (i : Int), .inl hd, rfl, rfl⟩, _, rfl, ?_⟩
  cases hval : valV sd (.inl (i : Int) : Key) with
  | some v =>
    obtain ⟨i', row', b, ek, er', ev, eF⟩ := mk.2 _ _ (valV_mem hval)
    cases (Int.ofNat_inj.mp (Sum.inl.inj ek) : i = i')
    obtain ⟨r, er2, hrow⟩ := memoR_get er'
    rw [er] at er2; cases er2
    subst ev
    refine fin F H sd _ (Le.refl F) g hd hval (.lst eF ?_)
    rw [hrow]
    exact isL_rowD row
  | none =>
    refine ⟨F, G, δ, _, g, s, hv', fun d G' v F' H' ⟨eG, ed⟩ l g' iv => ?_⟩
    subst eG; subst ed
    cases iv with
    | @lst b vs _ eb r =>
    obtain ⟨sd', hd', mk'⟩ := g'.mm _ _ (l _ _ hq)
    have hvs : vs = (row.map fun (n : Nat) => (.inl (n : Int) : Key)).map kV := by
      have e : rowD row = (row.map fun (n : Nat) => (n : Int)).map Dt.int := by rw [List.map_map]; rfl
      rw [e] at r
      rw [IsL.ints_inv r, List.map_map, List.map_map]; rfl
    have hlen := mk'.len
    rw [memoR_length] at hlen
    refine ⟨.ref p, s0, p, C, dx, fs, .ref q, rfl, g'.fz _ _ (l _ _ hp), cl, na, hlm, .int (i : Int), sx, q, _, rfl, .inl ⟨sd', .inl (i : Int), hd', rfl, by rw [sizeLine_eq]; omega, rfl⟩, ?_⟩
    exact fin F' _ _ (.ref b) l (g'.fillT (l _ _ hq) (mk'.put (memoR_at er) (by rw [eb, hvs]))) upd_same (by rw [valV_put, if_pos rfl]) (.lst eb r)
end
end DL

set_option Elab.async false
set_option linter.all false
set_option maxRecDepth 100000
set_option maxHeartbeats 4000000
namespace V
open PySem PySem.Spec L2 DL
def top (i : Nat) : Stmt := PySem.Challenge.pw_movedays_k21_moves_refused.main.body.getD i (.Pass ⟨0, 0, 0, 0⟩)
structure TV (K : PySem.W.Frag) (mg : Str → Option Value) (C : Addr) : Prop extends Bt mg where
  cl : Cls K C
  n_roads : NoAttr K C "_roads"
  n_doors : NoAttr K C "_doors"
  n_known : NoAttr K C "_known"
  mgVillage : mg "Village" = some (.ref C)
  isf : IsF K C
  own : PySem.W.kitOne K (.ref C) (.ref C) = some true
  noNone : PySem.W.kitOne K (.type "NoneType") (.ref C) = some false ∧ PySem.W.notFirst K C (.type "NoneType") = true
  noInt : PySem.W.kitOne K (.type "int") (.ref C) = some false ∧ PySem.W.notFirst K C (.type "int") = true
  noList : PySem.W.kitOne K (.type "list") (.ref C) = some false ∧ PySem.W.notFirst K C (.type "list") = true
  noDict : PySem.W.kitOne K (.type "dict") (.ref C) = some false ∧ PySem.W.notFirst K C (.type "dict") = true
section
variable {P : Program} {w : World} {K : PySem.W.Frag} {mg : Str → Option Value} {base : Heap} {C : Addr}
abbrev s_is_house : Stmt := top 16
abbrev n_is_house : List Str := ["many", "house"]
abbrev p_is_house : List Str := ["many", "house"]
theorem sc_is_house : FnScope n_is_house p_is_house (defScope s_is_house) := ⟨rfl, rfl, rfl, by decide +kernel, rfl, by decide +kernel, by decide +kernel⟩
def c_is_house : DSp := fun ds G P _ => ∃ n h : Int, ds = [.int n, .int h] ∧ P (.bl (decide (0 ≤ h ∧ h < n))) G
theorem ok_is_house (T : TopFn K mg "is_house" s_is_house p_is_house) : Dfn P w K mg base CX0 "is_house" p_is_house c_is_house 1 := by
  refine dfn_of T sc_is_house (fun ds G P R ⟨n, h, e, _⟩ => by rw [e]; rfl) fun f cdv A outer s H E B hr => ?_
  refine ⟨_, (dss_one (ds_ret (d_chain o_le o_lt d_int (dv (pv 1)) (dv (pv 0))))), ?_⟩
  rintro ds G P R ⟨n, h, rfl, p⟩
  simp [and_assoc, dRet, dRetN, dRetC, dChain, r2I, dC, dVar, dEnds, dstart, dOp, dCB, DL.rLen, dCons, dNil, dFld, asL_lst, asQ_lst, asQ_tup, asQ_scr, ins_obj, dNever, dgN, dgNil, dgCons, dgTup, dIf, dNot, dAnd, dOr, dB, dCall, dMeth, dNext, dSeq, dSt, dLst, dTup, dIfE, rIxQ, dDrop, dYes, diL, diR1, diR2, dNeg, dAsg, dwipe, dBM, dBM0, rAppendD, rMin2, rMax2, atI_0, atI_1, atI_2, atI_3, ix4_0, ix4_1, ix4_3, n_is_house]
  by_cases h0 : 0 ≤ h
  · rw [if_pos h0]; simpa [h0] using p
  · rw [if_neg h0]; simpa [h0] using p
abbrev s_V_houses : Stmt := inClass (top 22) 3
abbrev n_V_houses : List Str := ["self"]
abbrev p_V_houses : List Str := ["self"]
theorem sc_V_houses : FnScope n_V_houses p_V_houses (defScope s_V_houses) := ⟨rfl, rfl, rfl, by decide +kernel, rfl, by decide +kernel, by decide +kernel⟩
def c_houses (C : Addr) : DSp := fun ds G P _ => ∃ v : Vil, ds = [vilD C v] ∧ P (.int (v.n : Int)) G
theorem ok_houses (T : TV K mg C) (TM : TopMt K C "houses" "Village.houses" s_V_houses p_V_houses) : Dmt P w K mg base CX0 C "houses" p_V_houses (c_houses C) 1 := by
  refine dmt_of TM sc_V_houses (fun ds G P R ⟨v, e, _⟩ => by rw [e]; rfl) fun f cdv A outer s H E B hr => ?_
  refine ⟨_, (dss_one (ds_ret (d_callB c_len (by rfl) T.len (by decide +kernel) (da_cons (d_fld T.cl T.n_doors (dv (pv 0))) da_nil)))), ?_⟩
  rintro ds G P R ⟨v, rfl, p⟩
  simpa [and_assoc, dRet, dRetN, dRetC, dChain, r2I, dC, dVar, dEnds, dstart, dOp, dCB, DL.rLen, dCons, dNil, dFld, asL_lst, asQ_lst, asQ_tup, asQ_scr, ins_obj, dNever, dgN, dgNil, dgCons, dgTup, dIf, dNot, dAnd, dOr, dB, dCall, dMeth, dNext, dSeq, dSt, dLst, dTup, dIfE, rIxQ, dDrop, dYes, diL, diR1, diR2, dNeg, dAsg, dwipe, dBM, dBM0, rAppendD, rMin2, rMax2, atI_0, atI_1, atI_2, atI_3, ix4_0, ix4_1, ix4_3, n_V_houses, vil_ins, vN_doors, nnD_length, Vil.doors_length] using p
theorem mh (m : Str) (h : m ∉ vN := by decide +kernel) : m ∉ vN := h
abbrev s_need_houses : Stmt := top 17
abbrev n_need_houses : List Str := ["village", "some", "house"]
abbrev p_need_houses : List Str := ["village", "some"]
theorem sc_need_houses : FnScope n_need_houses p_need_houses (defScope s_need_houses) := ⟨rfl, rfl, rfl, by decide +kernel, rfl, by decide +kernel, by decide +kernel⟩
def c_need (C : Addr) : DSp := fun ds G P _ => ∃ (v : Vil) (hs : List Int), ds = [vilD C v, .lst (hs.map Dt.int)] ∧ (∀ h ∈ hs, 0 ≤ h ∧ h < (v.n : Int)) ∧ P .non G
theorem ok_need (T : TV K mg C) (TF : TopFn K mg "need_houses" s_need_houses p_need_houses) (D_is_house : Dfn P w K mg base CX0 "is_house" p_is_house c_is_house 1) (M_houses : Dmt P w K mg base CX0 C "houses" p_V_houses (c_houses C) 1) :
    Dfn P w K mg base CX0 "need_houses" p_need_houses (c_need C) 2 := by
  refine dfn_of TF sc_need_houses (fun ds G P R ⟨v, hs, e, _⟩ => by rw [e]; rfl) fun f cdv A outer s H E B hr => ?_
  refine ⟨_, (dss_one (ds_for PassesOwn.never rfl (di_list (dv (pv 1))) (dg_name (pg_name (i := 2) sc_need_houses.nd rfl (by first | exact Or.inl rfl | exact Or.inr rfl))) (dss_one (ds_if (dt_not (dt_val (d_callD D_is_house hr (by rfl) (da_cons (d_methD0 (dv (pv 0)) T.cl M_houses hr) (da_cons (dv (pv 2)) da_nil))))) (dss_one ds_never) dss_nil)))), ?_⟩
  rintro ds G P R ⟨v, hs, rfl, hh, p⟩
  refine ⟨.lst (hs.map Dt.int), rfl, _, rfl, fun i δ G' => G' = G ∧ ∃ o, δ = [some (vilD C v), some (.lst (hs.map Dt.int)), o], ⟨rfl, _, rfl⟩, ?_, ?_⟩
  · rintro i x δ G' hx ⟨rfl, o, rfl⟩
    obtain ⟨h, hm, rfl⟩ := List.mem_map.mp (List.mem_of_getElem? hx)
    have hb := hh h hm
    simp [and_assoc, dRet, dRetN, dRetC, dChain, r2I, dC, dVar, dEnds, dstart, dOp, dCB, DL.rLen, dCons, dNil, dFld, asL_lst, asQ_lst, asQ_tup, asQ_scr, ins_obj, dNever, dgN, dgNil, dgCons, dgTup, dIf, dNot, dAnd, dOr, dB, dCall, dMeth, dNext, dSeq, dSt, dLst, dTup, dIfE, rIxQ, dDrop, dYes, diL, diR1, diR2, dNeg, dAsg, dwipe, dBM, dBM0, rAppendD, rMin2, rMax2, atI_0, atI_1, atI_2, atI_3, ix4_0, ix4_1, ix4_3, c_is_house, c_houses, vil_ins, vilD_inj, mh "houses", hb]
  · rintro δ G' ⟨rfl, _⟩
    exact p
theorem filt_true {α : Type} (l : List α) : (l.filter fun _ => true) = l := List.filter_eq_self.mpr fun _ _ => rfl
theorem gupd_id {G : Gp} {a : Addr} {m : MO} (h : G a = some m) : gupd G a m = G := by
  funext b
  by_cases e : b = a
  · subst e; rw [gupd_same, h]
  · rw [gupd_ne e]
theorem gupd_comm {G : Gp} {a b : Addr} {m n : MO} (h : b ≠ a) : gupd (gupd G a m) b n = gupd (gupd G b n) a m := by
  funext c
  by_cases e : c = b
  · subst e; rw [gupd_same, gupd_ne h, gupd_same]
  · rw [gupd_ne e]
    by_cases q : c = a
    · subst q; rw [gupd_same, gupd_same]
    · rw [gupd_ne q, gupd_ne q, gupd_ne e]
abbrev s_head_of : Stmt := top 18
abbrev n_head_of : List Str := ["heads", "x"]
abbrev p_head_of : List Str := ["heads", "x"]
theorem sc_head_of : FnScope n_head_of p_head_of (defScope s_head_of) := ⟨rfl, rfl, rfl, by decide +kernel, rfl, by decide +kernel, by decide +kernel⟩
def c_head : DSp := fun ds G P _ => ∃ (a : Addr) (x n : Nat) (h L : List Nat), ds = [.ref a, .int (x : Int)] ∧ G a = some (.lst (natsD h)) ∧ UF n h L ∧ x < n ∧
  ∀ (r : Nat) (h' : List Nat), UF n h' L → (∀ z : Nat, h[z]? = some z → h'[z]? = some z) → h'[r]? = some r → L[r]? = L[x]? → P (.int (r : Int)) (gupd G a (.lst (natsD h')))
theorem ok_head (T : Bt mg) (TF : TopFn K mg "head_of" s_head_of p_head_of) : Dfn P w K mg base CX0 "head_of" p_head_of c_head 1 := by
  refine dfn_of TF sc_head_of (fun ds G P R ⟨a, x, n, h, L, e, _⟩ => by rw [e]; rfl) fun f cdv A outer s H E B hr => ?_
  refine ⟨_, (dss_cons (ds_while PassesOwn.never (dt_cmp o_neI (d_ix (dv (pv 0)) (dv (pv 1)) (fun _ _ => rfl)) (dv (pv 1)) (nomark _)) (dss_cons (ds_asg (d_ix (dv (pv 0)) (d_ix (dv (pv 0)) (dv (pv 1)) (fun _ _ => rfl)) (fun _ _ => rfl)) (dg_sub (dv (pv 0)) (dv (pv 1)) s_set))
      (dss_one (ds_set (i := 1) sc_head_of.nd rfl (by first | exact Or.inl rfl | exact Or.inr rfl) (d_ix (dv (pv 0)) (dv (pv 1)) (fun _ _ => rfl))))))
      (dss_one (ds_ret (dv (pv 1))))), ?_⟩
  rintro ds G P R ⟨a, x, n, h, L, rfl, hG, ⟨ρ, M, u⟩, hx, p⟩
  simp [and_assoc, dRet, dRetN, dRetC, dChain, r2I, dC, dVar, dEnds, dstart, dOp, dCB, DL.rLen, dCons, dNil, dFld, asL_lst, asQ_lst, asQ_tup, asQ_scr, ins_obj, dNever, dgN, dgNil, dgCons, dgTup, dIf, dNot, dAnd, dOr, dB, dCall, dMeth, dNext, dSeq, dSt, dLst, dTup, dIfE, rIxQ, dDrop, dYes, diL, diR1, diR2, dNeg, dAsg, dwipe, dBM, dBM0, rAppendD, rMin2, rMax2, atI_0, atI_1, atI_2, atI_3, ix4_0, ix4_1, ix4_3, n_head_of]
  refine dWhile_intro (fun m δ G' => ∃ h' x' : _, m = M - ρ x' ∧ δ = [some (.ref a), some (.int (x' : Int))] ∧ G' = gupd G a (.lst (natsD h')) ∧ UFr n h' L ρ M ∧ (∀ z : Nat, h[z]? = some z → h'[z]? = some z) ∧ x' < n ∧ L[x']? = L[x]?) (M - ρ x) ⟨h, x, rfl, rfl, (gupd_id hG).symm, u, fun _ e => e, hx, rfl⟩ ?_
  rintro m δ G1 ⟨h', x', rfl, rfl, rfl, u', hst, hx', hL⟩
  obtain ⟨y, hy, hyn⟩ := u'.there hx'
  obtain ⟨z, hz, hzn⟩ := u'.there hyn
  simp [and_assoc, dRet, dRetN, dRetC, dChain, r2I, dC, dVar, dEnds, dstart, dOp, dCB, DL.rLen, dCons, dNil, dFld, asL_lst, asQ_lst, asQ_tup, asQ_scr, ins_obj, dNever, dgN, dgNil, dgCons, dgTup, dIf, dNot, dAnd, dOr, dB, dCall, dMeth, dNext, dSeq, dSt, dLst, dTup, dIfE, rIxQ, dDrop, dYes, diL, diR1, diR2, dNeg, dAsg, dwipe, dBM, dBM0, rAppendD, rMin2, rMax2, atI_0, atI_1, atI_2, atI_3, ix4_0, ix4_1, ix4_3, asL_ref gupd_same, asQ_ref gupd_same, gupd_same, gupd_gupd, sSet, dgSub, atI_nats hy, atI_nats hz]
  by_cases e : y = x'
  · exact .inl ⟨by rw [e], p x' h' ⟨ρ, M, u'⟩ hst (by rw [hy, e]) hL⟩
  · have h1 := u'.up hy e
    have h2 := u'.le hz
    have h3 := u'.top z
    refine .inr ⟨fun q => e (Int.ofNat_inj.mp q), x', by rw [natsD_length, u'.len]; exact ixN_nat hx', .int (z : Int), ?_, M - ρ z, by omega, h'.set x' z, z, rfl, rfl, by rw [natsD_set], u'.halve hy hz, fun w e => halve_root hy hz (hst w e), hzn, (u'.lab hz).trans ((u'.lab hy).trans hL)⟩
    rw [natsD_set]
    exact atI_nats (List.getElem?_set_self (by rw [u'.len]; exact hx'))
abbrev s_roads_in_order : Stmt := top 19
abbrev n_roads_in_order : List Str := ["roads", "many", "heads", "rows", "number", "x", "y", "head", "other"]
abbrev p_roads_in_order : List Str := ["roads"]
theorem sc_roads_in_order : FnScope n_roads_in_order p_roads_in_order (defScope s_roads_in_order) := ⟨rfl, rfl, rfl, by decide +kernel, rfl, by decide +kernel, by decide +kernel⟩
theorem Int.natCast_min' (a b : Nat) : ((min a b : Nat) : Int) = min (a : Int) (b : Int) := by omega
theorem Int.natCast_max' (a b : Nat) : ((max a b : Nat) : Int) = max (a : Int) (b : Int) := by omega
theorem asL_new {G : Gp} {d : Dt} {xs : List Dt} {a : Addr} {m : MO} (h : asL G d = some xs) (ha : G a = none) : asL (gupd G a m) d = some xs := by
  cases d with
  | ref b =>
    have hb : b ≠ a := fun e => by rw [e] at h; simp [asL, ha] at h
    simp only [asL, gupd_ne hb] at h ⊢
    exact h
  | _ => exact h
theorem asL_asQ {G : Gp} {d : Dt} {xs : List Dt} (h : asL G d = some xs) : asQ G d = some xs := by
  cases d <;> first | exact h | cases h
def c_rio : DSp := fun ds G P _ => ∃ (r : Dt) (E : List (Nat × Nat)), ds = [r] ∧ asL G r = some (rdD E) ∧ E.length ≤ 400 ∧ Sound E ∧ P (.lst (rdD (inOrd E))) G
theorem sort_pairs {E : List (Nat × Nat)} {ns : List (Int × Int)} (hp : ns.Perm (E.map fun p => (((norm p).1 : Int), ((norm p).2 : Int)))) (hs : ns.Pairwise leP) : ns.map pairD = rdD (inOrd E) := by
  have e1 : ns = (ns.map fun p => (p.1.toNat, p.2.toNat)).map fun (p : Nat × Nat) => ((p.1 : Int), (p.2 : Int)) := by
    rw [List.map_map]
    have : ns.map (fun p => p) = ns := List.map_id' ns
    refine this.symm.trans (List.map_congr_left fun p hp' => ?_)
    obtain ⟨q, _, rfl⟩ := List.mem_map.mp (hp.mem_iff.mp hp')
    simp
  have e2 : (ns.map fun p => (p.1.toNat, p.2.toNat)).Perm (E.map norm) := by
    have := hp.map fun p => (p.1.toNat, p.2.toNat)
    rw [List.map_map] at this
    refine this.trans (.of_eq (List.map_congr_left fun p _ => ?_))
    simp
  have e3 : (ns.map fun p => (p.1.toNat, p.2.toNat)) = inOrd E := by
    refine inOrd_uniq e2 ?_
    rw [e1] at hs
    refine (List.pairwise_map.mp hs).imp fun {a b} h => ?_
    simp only [leP, leN] at h ⊢
    omega
  rw [e1, e3]
  simp [rdD, npD, List.map_map, Function.comp_def]
theorem ok_rio (T : Bt mg) (TF : TopFn K mg "roads_in_order" s_roads_in_order p_roads_in_order) (D_is_house : Dfn P w K mg base CX0 "is_house" p_is_house c_is_house 1) (D_head_of : Dfn P w K mg base CX0 "head_of" p_head_of c_head 1) :
    Dfn P w K mg base CX0 "roads_in_order" p_roads_in_order c_rio 2 := by
  refine dfn_of TF sc_roads_in_order (fun ds G P R ⟨r, E, e, _⟩ => by rw [e]; rfl) fun f cdv A outer s H E B hr => ?_
  refine ⟨_, (dss_cons (ds_set (i := 1) sc_roads_in_order.nd rfl (by first | exact Or.inl rfl | exact Or.inr rfl) (d_op o_add (d_callB c_len (by rfl) T.len (by decide +kernel) (da_cons (dv (pv 0)) da_nil)) d_int))
      (dss_cons (ds_set (i := 2) sc_roads_in_order.nd rfl (by first | exact Or.inl rfl | exact Or.inr rfl) (d_listRgM rfl (by rfl) T.list (d_rg1 (by rfl) T.range (dv (pv 1)))))
      (dss_cons (ds_set (i := 3) sc_roads_in_order.nd rfl (by first | exact Or.inl rfl | exact Or.inr rfl) (d_lstM da_nil))
      (dss_cons (ds_forM PassesOwn.never rfl (di_enumM (by rfl) T.enumerate (da_cons (dv (pv 0)) da_nil)) (dg_tup (n := 2) rfl (dgs_cons (dg_name (pg_name (i := 4) sc_roads_in_order.nd rfl (by first | exact Or.inl rfl | exact Or.inr rfl))) (dgs_cons (dg_tup (n := 2) rfl (dgs_cons (dg_name (pg_name (i := 5) sc_roads_in_order.nd rfl (by first | exact Or.inl rfl | exact Or.inr rfl))) (dgs_cons (dg_name (pg_name (i := 6) sc_roads_in_order.nd rfl (by first | exact Or.inl rfl | exact Or.inr rfl))) dgs_nil))) dgs_nil))) (dss_cons (ds_if (DW.dt (dw_or (dt_not (dt_val (d_callD D_is_house hr (by rfl) (da_cons (dv (pv 1)) (da_cons (dv (pv 5)) da_nil))))) (dw_or1 (dt_not (dt_val (d_callD D_is_house hr (by rfl) (da_cons (dv (pv 1)) (da_cons (dv (pv 6)) da_nil)))))))) (dss_one ds_never) dss_nil)
      (dss_cons (ds_set (i := 7) sc_roads_in_order.nd rfl (by first | exact Or.inl rfl | exact Or.inr rfl) (d_callD D_head_of hr (by rfl) (da_cons (dv (pv 2)) (da_cons (dv (pv 5)) da_nil))))
      (dss_cons (ds_set (i := 8) sc_roads_in_order.nd rfl (by first | exact Or.inl rfl | exact Or.inr rfl) (d_callD D_head_of hr (by rfl) (da_cons (dv (pv 2)) (da_cons (dv (pv 6)) da_nil))))
      (dss_cons (ds_if (dt_cmp o_eqI (dv (pv 7)) (dv (pv 8)) (nomark _)) (dss_one ds_never) dss_nil)
      (dss_cons (ds_asg (dv (pv 8)) (dg_sub (dv (pv 2)) (dv (pv 7)) s_set))
      (dss_one (ds_expr (d_append (dv (pv 3)) (d_tup (da_cons (d_callB (c_min2 rfl) (by rfl) T.min (by decide +kernel) (da_cons (dv (pv 5)) (da_cons (dv (pv 6)) da_nil))) (da_cons (d_callB (c_max2 rfl) (by rfl) T.max (by decide +kernel) (da_cons (dv (pv 5)) (da_cons (dv (pv 6)) da_nil))) da_nil))))))))))))
      (dss_one (ds_retC (d_callB c_sortP (by rfl) T.sorted (by decide +kernel) (da_cons (dv (pv 3)) da_nil)))))))), ?_⟩
  rintro ds G P R ⟨r, L, rfl, hLr, hn, hL, p⟩
  simp [and_assoc, dRet, dRetN, dRetC, dChain, r2I, dC, dVar, dEnds, dstart, dOp, dCB, DL.rLen, dCons, dNil, dFld, asL_lst, asQ_lst, asQ_tup, asQ_scr, ins_obj, dNever, dgN, dgNil, dgCons, dgTup, dIf, dNot, dAnd, dOr, dB, dCall, dMeth, dNext, dSeq, dSt, dLst, dTup, dIfE, rIxQ, dDrop, dYes, diL, diR1, diR2, dNeg, dAsg, dwipe, dBM, dBM0, rAppendD, rMin2, rMax2, atI_0, atI_1, atI_2, atI_3, ix4_0, ix4_1, ix4_3, n_roads_in_order, asL_asQ hLr, rdD_length, dListRgM, dRg1, dLstM]
  refine ⟨by unfold RgOk; omega, fun ah hah a ha => ?_⟩
  have e0 : rgD 0 ((L.length : Int) + 1) = natsD (List.range (L.length + 1)) := by
    have := rgD0 (L.length + 1)
    simpa using this
  rw [e0] at ha ⊢
  have hne : a ≠ ah := fun e => by rw [e, gupd_same] at ha; cases ha
  have haG : G a = none := by rw [gupd_ne hne] at ha; exact ha
  refine dForM_intro (enumD (rdD L)) (fun G' => asL G' r = some (rdD L)) _ (fun i δ G' => ∃ o4 o5 o6 o7 o8 h, δ = [some r, some (.int ((L.length : Int) + 1)), some (.ref ah), some (.ref a), o4, o5, o6, o7, o8] ∧ UF (L.length + 1) h (labL (L.length + 1) (L.take i)) ∧ G' = gupd (gupd G ah (.lst (natsD h))) a (.lst (rdD ((L.take i).map norm))))
    (fun P p => by
      simp [and_assoc, dRet, dRetN, dRetC, dChain, r2I, dC, dVar, dEnds, dstart, dOp, dCB, DL.rLen, dCons, dNil, dFld, asL_lst, asQ_lst, asQ_tup, asQ_scr, ins_obj, dNever, dgN, dgNil, dgCons, dgTup, dIf, dNot, dAnd, dOr, dB, dCall, dMeth, dNext, dSeq, dSt, dLst, dTup, dIfE, rIxQ, dDrop, dYes, diL, diR1, diR2, dNeg, dAsg, dwipe, dBM, dBM0, rAppendD, rMin2, rMax2, atI_0, atI_1, atI_2, atI_3, ix4_0, ix4_1, ix4_3, diEnumM]
      exact ⟨_, asL_new (asL_new hLr hah) ha, p⟩) ⟨none, none, none, none, none, List.range (L.length + 1), rfl, UF.start _, rfl⟩ (fun i δ' G' ⟨_, _, _, _, _, h, _, _, e⟩ => by rw [e]; exact asL_new (asL_new hLr hah) (by rw [gupd_ne hne]; exact haG)) ?_ ?_
  · rintro i d δ G' hd ⟨o4, o5, o6, o7, o8, h, rfl, uf, rfl⟩
    obtain ⟨y, hy, rfl⟩ := enumD_get hd
    obtain ⟨⟨x, y⟩, hxy, rfl⟩ := rdD_get hy
    obtain ⟨u, v, hu, hv, huv, hx, hy', hst⟩ := hL.parts hxy
    simp [and_assoc, dRet, dRetN, dRetC, dChain, r2I, dC, dVar, dEnds, dstart, dOp, dCB, DL.rLen, dCons, dNil, dFld, asL_lst, asQ_lst, asQ_tup, asQ_scr, ins_obj, dNever, dgN, dgNil, dgCons, dgTup, dIf, dNot, dAnd, dOr, dB, dCall, dMeth, dNext, dSeq, dSt, dLst, dTup, dIfE, rIxQ, dDrop, dYes, diL, diR1, diR2, dNeg, dAsg, dwipe, dBM, dBM0, rAppendD, rMin2, rMax2, atI_0, atI_1, atI_2, atI_3, ix4_0, ix4_1, ix4_3, npD, pairD, c_is_house, c_head]
    refine ⟨by omega, by omega, x, rfl, _, h, by rw [gupd_ne (Ne.symm hne)]; exact gupd_same, _, uf, hx, fun r1 h1 uf1 st1 e1 l1 => ⟨y, rfl, _, h1, gupd_same, _, uf1, hy', fun r2 h2 uf2 st2 e2 l2 => ?_⟩⟩
    have e3 := st2 _ e1
    have hu1 := l1.trans hu
    have hv2 := l2.trans hv
    have n12 : r1 ≠ r2 := fun e => huv (by rw [e, hv2] at hu1; exact (Option.some.inj hu1).symm)
    obtain ⟨ρ, M, uf2'⟩ := uf2
    have uf3 := uf2'.join e3 e2 hu1 hv2 huv
    rw [← hst] at uf3
    have hl := uf2'.len
    have hr1 := (List.getElem?_eq_some_iff.mp e3).1
    rw [gupd_gupd, gupd_comm hne, gupd_gupd]
    have hah2 : gupd (gupd G ah (.lst (natsD h2))) a (.lst (rdD (List.take i (List.map norm L)))) ah = some (.lst (natsD h2)) := by rw [gupd_ne (Ne.symm hne)]; exact gupd_same
    simp [and_assoc, dRet, dRetN, dRetC, dChain, r2I, dC, dVar, dEnds, dstart, dOp, dCB, DL.rLen, dCons, dNil, dFld, asL_lst, asQ_lst, asQ_tup, asQ_scr, ins_obj, dNever, dgN, dgNil, dgCons, dgTup, dIf, dNot, dAnd, dOr, dB, dCall, dMeth, dNext, dSeq, dSt, dLst, dTup, dIfE, rIxQ, dDrop, dYes, diL, diR1, diR2, dNeg, dAsg, dwipe, dBM, dBM0, rAppendD, rMin2, rMax2, atI_0, atI_1, atI_2, atI_3, ix4_0, ix4_1, ix4_3, sSet, dgSub, hah2, natsD_length, ixN_nat hr1]
    have hG2 : gupd (gupd G a (.lst (rdD (List.take i (List.map norm L))))) ah (.lst (natsD (h2.set r1 r2))) a = some (.lst (rdD (List.take i (List.map norm L)))) := by rw [gupd_ne hne]; exact gupd_same
    refine ⟨fun e => n12 (Int.ofNat_inj.mp e), _, gupd_same, r1, by rw [natsD_length]; exact ixN_nat hr1, ?_⟩
    rw [gupd_gupd, natsD_set]
    refine ⟨⟨_, asL_ref hG2⟩, by decide, _, hG2, ?_, h2.set r1 r2, uf3, ?_⟩
    · rw [rdD_length, List.length_take, List.length_map]
      exact small1000 (by omega)
    · rw [gupd_comm hne, gupd_gupd, gupd_comm hne, take_one_more (l := L.map norm) (x := norm (x, y)) (by rw [List.getElem?_map, hxy]; rfl)]
      simp only [rdD, List.map_append, List.map_cons, List.map_nil, npD, pairD, norm]
      simp only [Int.natCast_min', Int.natCast_max']
  · rintro δ G' ⟨o4, o5, o6, o7, o8, h, rfl, uf, rfl⟩
    rw [enumD_length, rdD_length, List.take_length]
    simp [and_assoc, dRet, dRetN, dRetC, dChain, r2I, dC, dVar, dEnds, dstart, dOp, dCB, DL.rLen, dCons, dNil, dFld, asL_lst, asQ_lst, asQ_tup, asQ_scr, ins_obj, dNever, dgN, dgNil, dgCons, dgTup, dIf, dNot, dAnd, dOr, dB, dCall, dMeth, dNext, dSeq, dSt, dLst, dTup, dIfE, rIxQ, dDrop, dYes, diL, diR1, diR2, dNeg, dAsg, dwipe, dBM, dBM0, rAppendD, rMin2, rMax2, atI_0, atI_1, atI_2, atI_3, ix4_0, ix4_1, ix4_3, rSortP, asL_ref gupd_same]
    refine ⟨L.map fun p => (((norm p).1 : Int), ((norm p).2 : Int)), by simp [rdD, npD, List.map_map, Function.comp_def], fun ns hp hs => ⟨_, G, Clo.sub fun b m hb => ?_, ?_⟩⟩
    · rw [gupd_ne (gne hb haG), gupd_ne (gne hb hah)]; exact hb
    rw [sort_pairs hp hs]
    exact p
theorem doorsL_length (n : Nat) (E : List (Nat × Nat)) : (doorsL n E).length = n := by
  unfold doorsL
  have : ∀ (l : List (List Nat)), (E.foldl doorsS l).length = l.length := by
    induction E with
    | nil => intro l; rfl
    | cons p E ih => intro l; rw [List.foldl_cons, ih]; simp [doorsS]
  rw [this, List.length_replicate]
theorem doorsL_step {n : Nat} {E : List (Nat × Nat)} {i x y : Nat} {lx ly : List Nat} (h : E[i]? = some (x, y)) (hne : x ≠ y) (hx : (doorsL n (E.take i))[x]? = some lx) (hy : (doorsL n (E.take i))[y]? = some ly) :
    doorsL n (E.take (i + 1)) = ((doorsL n (E.take i)).set x (lx ++ [y])).set y (ly ++ [x]) := by
  rw [take_one_more h]
  unfold doorsL at *
  rw [List.foldl_append]
  show doorsS _ (x, y) = _
  have md : ∀ (l : List (List Nat)) (i : Nat) (a : List Nat) (f : List Nat → List Nat), l[i]? = some a → l.modify i f = l.set i (f a) := by
    intro l i a f h
    refine List.ext_getElem? fun j => ?_
    rw [List.getElem?_modify, List.getElem?_set]
    by_cases hj : i = j
    · subst hj
      obtain ⟨h1, h2⟩ := List.getElem?_eq_some_iff.mp h
      simp [h1, h2]
    · simp [hj]
  generalize List.foldl doorsS (List.replicate n []) (List.take i E) = M at hx hy ⊢
  show (M.modify x (· ++ [y])).modify y (· ++ [x]) = _
  rw [md M x lx _ hx, md _ y ly _ (by rw [List.getElem?_set_ne hne]; exact hy)]
theorem doorsL_small {n : Nat} {E : List (Nat × Nat)} {l : List Nat} (h : l ∈ doorsL n E) : l.length ≤ 2 * E.length := by
  have : ∀ (E : List (Nat × Nat)) (M : List (List Nat)) (k : Nat), (∀ l ∈ M, l.length ≤ k) → ∀ l ∈ E.foldl doorsS M, l.length ≤ k + 2 * E.length := by
    intro E
    induction E with
    | nil => intro M k h l hl; have := h l hl; simpa using this
    | cons p E ih =>
      intro M k h l hl
      have md : ∀ (M : List (List Nat)) (i a k : Nat), (∀ l ∈ M, l.length ≤ k) → ∀ l ∈ M.modify i (· ++ [a]), l.length ≤ k + 1 := by
        intro M i a k h l hl
        obtain ⟨j, hj⟩ := List.mem_iff_getElem?.mp hl
        rw [List.getElem?_modify] at hj
        cases e : M[j]? with
        | none => rw [e] at hj; cases hj
        | some m =>
          rw [e] at hj
          have hm := h m (List.mem_of_getElem? e)
          have : l = if i = j then m ++ [a] else m := (Option.some.inj hj).symm
          rw [this]
          split
          · rw [List.length_append]; simp; omega
          · omega
      have := ih (doorsS M p) (k + 2) (md _ _ _ _ (md _ _ _ _ h)) l hl
      rw [List.length_cons]
      omega
  have := this E (List.replicate n []) 0 (fun l hl => by rw [(List.mem_replicate.mp hl).2]; exact Nat.le_refl 0) l h
  omega
abbrev s_next_doors : Stmt := top 20
abbrev n_next_doors : List Str := ["roads", "doors", "x", "y", "_"]
abbrev p_next_doors : List Str := ["roads"]
theorem sc_next_doors : FnScope n_next_doors p_next_doors (defScope s_next_doors) := ⟨rfl, rfl, rfl, by decide +kernel, rfl, by decide +kernel, by decide +kernel⟩
def c_doors : DSp := fun ds G P _ => ∃ E : List (Nat × Nat), ds = [.lst (rdD E)] ∧ E.length ≤ 400 ∧ (∀ p ∈ E, p.1 < E.length + 1 ∧ p.2 < E.length + 1 ∧ p.1 ≠ p.2) ∧ P (.lst (nnD (doorsL (E.length + 1) E))) G
theorem ok_doors (T : Bt mg) (TF : TopFn K mg "next_doors" s_next_doors p_next_doors) :
    Dfn P w K mg base CX0 "next_doors" p_next_doors c_doors 1 := by
  refine dfn_of TF sc_next_doors (fun ds G P R ⟨E, e, _⟩ => by rw [e]; rfl) fun f cdv A outer s H E B hr => ?_
  refine ⟨_, (dss_cons (ds_setLc (i := 1) (own := [("_", 4)]) rfl sc_next_doors.nd rfl rfl (sw_true rfl rfl rfl (by decide +kernel)) (di_range1 (by rfl) T.range (da_cons (d_op o_add (d_callB c_len (by rfl) T.len (by decide +kernel) (da_cons (dv (pv 0)) da_nil)) d_int) da_nil)) (blkOk_by (N := n_next_doors) (sc := defScope s_next_doors) (by decide +kernel)) (fun _ _ _ _ _ => (dgw_name (pg_name (i := 4) sc_next_doors.nd rfl (by first | exact Or.inl rfl | exact Or.inr rfl)))) (fun _ _ _ _ _ => dts_nil) (fun _ _ _ _ _ => (d_lstM da_nil)))
      (dss_cons (ds_for PassesOwn.never rfl (di_list (dv (pv 0))) (dg_tup (n := 2) rfl (dgs_cons (dg_name (pg_name (i := 2) sc_next_doors.nd rfl (by first | exact Or.inl rfl | exact Or.inr rfl))) (dgs_cons (dg_name (pg_name (i := 3) sc_next_doors.nd rfl (by first | exact Or.inl rfl | exact Or.inr rfl))) dgs_nil))) (dss_cons (ds_expr (d_append (d_ix (dv (pv 1)) (dv (pv 2)) (fun _ _ => rfl)) (dv (pv 3))))
      (dss_one (ds_expr (d_append (d_ix (dv (pv 1)) (dv (pv 3)) (fun _ _ => rfl)) (dv (pv 2)))))))
      (dss_one (ds_retC (dv (pv 1)))))), ?_⟩
  rintro ds G P R ⟨L, rfl, hn, hL, p⟩
  simp [and_assoc, dRet, dRetN, dRetC, dChain, r2I, dC, dVar, dEnds, dstart, dOp, dCB, DL.rLen, dCons, dNil, dFld, asL_lst, asQ_lst, asQ_tup, asQ_scr, ins_obj, dNever, dgN, dgNil, dgCons, dgTup, dIf, dNot, dAnd, dOr, dB, dCall, dMeth, dNext, dSeq, dSt, dLst, dTup, dIfE, rIxQ, dDrop, dYes, diL, diR1, diR2, dNeg, dAsg, dwipe, dBM, dBM0, rAppendD, rMin2, rMax2, atI_0, atI_1, atI_2, atI_3, ix4_0, ix4_1, ix4_3, n_next_doors]
  refine rows_build (natsD (List.range (L.length + 1))) (fun P p => ?_) (by rw [natsD_length, List.length_range]; exact small1000 (by omega)) fun D as G1 r => ?_
  · simp [and_assoc, dRet, dRetN, dRetC, dChain, r2I, dC, dVar, dEnds, dstart, dOp, dCB, DL.rLen, dCons, dNil, dFld, asL_lst, asQ_lst, asQ_tup, asQ_scr, ins_obj, dNever, dgN, dgNil, dgCons, dgTup, dIf, dNot, dAnd, dOr, dB, dCall, dMeth, dNext, dSeq, dSt, dLst, dTup, dIfE, rIxQ, dDrop, dYes, diL, diR1, diR2, dNeg, dAsg, dwipe, dBM, dBM0, rAppendD, rMin2, rMax2, atI_0, atI_1, atI_2, atI_3, ix4_0, ix4_1, ix4_3, rdD_length]
    refine ⟨by omega, by omega, ?_⟩
    rw [upto0]
    exact p
  · refine dFor_intro (rdD L) G1 (fun i δ G' => ∃ o2 o3, δ = [some (.lst (rdD L)), some (.ref D), o2, o3, none] ∧ RowsAt G G' D as (doorsL (L.length + 1) (L.take i))) (fun P p => by simpa [and_assoc, dRet, dRetN, dRetC, dChain, r2I, dC, dVar, dEnds, dstart, dOp, dCB, DL.rLen, dCons, dNil, dFld, asL_lst, asQ_lst, asQ_tup, asQ_scr, ins_obj, dNever, dgN, dgNil, dgCons, dgTup, dIf, dNot, dAnd, dOr, dB, dCall, dMeth, dNext, dSeq, dSt, dLst, dTup, dIfE, rIxQ, dDrop, dYes, diL, diR1, diR2, dNeg, dAsg, dwipe, dBM, dBM0, rAppendD, rMin2, rMax2, atI_0, atI_1, atI_2, atI_3, ix4_0, ix4_1, ix4_3] using p) ⟨none, none, rfl, by simpa [doorsL, natsD_length] using r⟩ ?_ ?_
    · rintro i d δ G' hd ⟨o2, o3, rfl, r⟩
      obtain ⟨⟨x, y⟩, hxy, rfl⟩ := rdD_get hd
      have hb := hL _ (List.mem_of_getElem? hxy)
      simp only at hb
      have hlen := doorsL_length (L.length + 1) (L.take i)
      obtain ⟨lx, hlx⟩ : ∃ l, (doorsL (L.length + 1) (L.take i))[x]? = some l := ⟨_, List.getElem?_eq_getElem (by rw [hlen]; exact hb.1)⟩
      obtain ⟨ly, hly⟩ : ∃ l, (doorsL (L.length + 1) (L.take i))[y]? = some l := ⟨_, List.getElem?_eq_getElem (by rw [hlen]; exact hb.2.1)⟩
      obtain ⟨ax, hax, hgx⟩ := r.at hlx
      obtain ⟨ay, hay, hgy⟩ := r.at hly
      have hne : ay ≠ ax := fun e => hb.2.2 (nodup_at r.nd (e ▸ hax) hay)
      have e1 : atI (as.map Dt.ref) (x : Int) = some (.ref ax) := atI_nat' (by rw [List.getElem?_map, hax]; rfl)
      have e2 : atI (as.map Dt.ref) (y : Int) = some (.ref ay) := atI_nat' (by rw [List.getElem?_map, hay]; rfl)
      have hDx : D ≠ ax := fun e => r.nD (e ▸ List.mem_of_getElem? hax)
      have r1 := r.put hax hlx (l' := lx ++ [y])
      have r2 := r1.put hay (by rw [List.getElem?_set_ne hb.2.2]; exact hly) (l' := ly ++ [x])
      have sx := doorsL_small (List.mem_of_getElem? hlx)
      have sy := doorsL_small (List.mem_of_getElem? hly)
      rw [List.length_take] at sx sy
      simp [and_assoc, dRet, dRetN, dRetC, dChain, r2I, dC, dVar, dEnds, dstart, dOp, dCB, DL.rLen, dCons, dNil, dFld, asL_lst, asQ_lst, asQ_tup, asQ_scr, ins_obj, dNever, dgN, dgNil, dgCons, dgTup, dIf, dNot, dAnd, dOr, dB, dCall, dMeth, dNext, dSeq, dSt, dLst, dTup, dIfE, rIxQ, dDrop, dYes, diL, diR1, diR2, dNeg, dAsg, dwipe, dBM, dBM0, rAppendD, rMin2, rMax2, atI_0, atI_1, atI_2, atI_3, ix4_0, ix4_1, ix4_3, npD, pairD, asL_ref r.top, asQ_ref r.top, e1, e2, asL_ref hgx, hgx]
      have f1 : natsD lx ++ [Dt.int (y : Int)] = natsD (lx ++ [y]) := by rw [natsD_append]; rfl
      have f2 : natsD ly ++ [Dt.int (x : Int)] = natsD (ly ++ [x]) := by rw [natsD_append]; rfl
      have hgy' : gupd G' ax (.lst (natsD (lx ++ [y]))) ay = some (.lst (natsD ly)) := by rw [gupd_ne hne]; exact hgy
      rw [f1]
      refine ⟨by rw [natsD_length]; exact small1000 (by omega), _, asQ_ref r1.top, _, e2, ⟨_, asL_ref hgy'⟩, ay, rfl, _, hgy', by rw [natsD_length]; exact small1000 (by omega), ?_⟩
      rw [f2, doorsL_step hxy hb.2.2 hlx hly]
      exact r2
    · rintro δ G' ⟨o2, o3, rfl, r⟩
      rw [rdD_length, List.take_length] at r
      simp [and_assoc, dRet, dRetN, dRetC, dChain, r2I, dC, dVar, dEnds, dstart, dOp, dCB, DL.rLen, dCons, dNil, dFld, asL_lst, asQ_lst, asQ_tup, asQ_scr, ins_obj, dNever, dgN, dgNil, dgCons, dgTup, dIf, dNot, dAnd, dOr, dB, dCall, dMeth, dNext, dSeq, dSt, dLst, dTup, dIfE, rIxQ, dDrop, dYes, diL, diR1, diR2, dNeg, dAsg, dwipe, dBM, dBM0, rAppendD, rMin2, rMax2, atI_0, atI_1, atI_2, atI_3, ix4_0, ix4_1, ix4_3]
      exact ⟨_, G, r.clo, p⟩
abbrev s_far_from : Stmt := top 21
abbrev n_far_from : List Str := ["doors", "start", "far", "rim", "beyond", "x", "y"]
abbrev p_far_from : List Str := ["doors", "start"]
theorem sc_far_from : FnScope n_far_from p_far_from (defScope s_far_from) := ⟨rfl, rfl, rfl, by decide +kernel, rfl, by decide +kernel, by decide +kernel⟩
def c_far : DSp := fun ds G P _ => ∃ (nb : List (List Nat)) (s : Nat) (d : Nat → Nat), ds = [.lst (nnD nb), .int (s : Int)] ∧ nb.length ≤ 400 ∧ Dist nb.length nb s d ∧ P (.lst (natsD ((List.range nb.length).map d))) G
theorem ok_far (T : Bt mg) (TF : TopFn K mg "far_from" s_far_from p_far_from) :
    Dfn P w K mg base CX0 "far_from" p_far_from c_far 1 := by
  refine dfn_of TF sc_far_from (fun ds G P R ⟨nb, s, d, e, _⟩ => by rw [e]; rfl) fun f cdv A outer s H E B hr => ?_
  refine ⟨_, (dss_cons (ds_set (i := 2) sc_far_from.nd rfl (by first | exact Or.inl rfl | exact Or.inr rfl) (d_op o_repM (d_lst (da_cons (d_neg d_int) da_nil)) (d_callB c_len (by rfl) T.len (by decide +kernel) (da_cons (dv (pv 0)) da_nil))))
      (dss_cons (ds_asg d_int (dg_sub (dv (pv 2)) (dv (pv 1)) s_set))
      (dss_cons (ds_set (i := 3) sc_far_from.nd rfl (by first | exact Or.inl rfl | exact Or.inr rfl) (d_lst (da_cons (dv (pv 1)) da_nil)))
      (dss_cons (ds_while PassesOwn.never (dt_truth (dv (pv 3))) (dss_cons (ds_set (i := 4) sc_far_from.nd rfl (by first | exact Or.inl rfl | exact Or.inr rfl) (d_lstM da_nil))
      (dss_cons (ds_for PassesOwn.never rfl (di_list (dv (pv 3))) (dg_name (pg_name (i := 5) sc_far_from.nd rfl (by first | exact Or.inl rfl | exact Or.inr rfl))) (dss_one (ds_for PassesOwn.never rfl (di_list (d_ix (dv (pv 0)) (dv (pv 5)) (fun _ _ => rfl))) (dg_name (pg_name (i := 6) sc_far_from.nd rfl (by first | exact Or.inl rfl | exact Or.inr rfl))) (dss_one (ds_if (dt_cmp o_lt (d_ix (dv (pv 2)) (dv (pv 6)) (fun _ _ => rfl)) d_int (nomark _)) (dss_cons (ds_asg (d_op o_add (d_ix (dv (pv 2)) (dv (pv 5)) (fun _ _ => rfl)) d_int) (dg_sub (dv (pv 2)) (dv (pv 6)) s_set))
      (dss_one (ds_expr (d_append (dv (pv 4)) (dv (pv 6)))))) dss_nil)))))
      (dss_clo (dss_one (ds_set (i := 3) sc_far_from.nd rfl (by first | exact Or.inl rfl | exact Or.inr rfl) (dv (pv 4))))))))
      (dss_one (ds_retC (dv (pv 2)))))))), ?_⟩
  rintro ds G P R ⟨nb, s, d, rfl, hn, hd, p⟩
  obtain ⟨hs, hs0⟩ := hd.s0
  simp [and_assoc, dRet, dRetN, dRetC, dChain, r2I, dC, dVar, dEnds, dstart, dOp, dCB, DL.rLen, dCons, dNil, dFld, asL_lst, asQ_lst, asQ_tup, asQ_scr, ins_obj, dNever, dgN, dgNil, dgCons, dgTup, dIf, dNot, dAnd, dOr, dB, dCall, dMeth, dNext, dSeq, dSt, dLst, dTup, dIfE, rIxQ, dDrop, dYes, diL, diR1, diR2, dNeg, dAsg, dwipe, dBM, dBM0, rAppendD, rMin2, rMax2, atI_0, atI_1, atI_2, atI_3, ix4_0, ix4_1, ix4_3, n_far_from, rRepM, sSet, dgSub, nnD_length]
  refine ⟨by decide, by omega, by rw [sizeLine_eq]; omega, fun p0 hp0 => ⟨_, gupd_same, s, by rw [List.length_replicate]; exact ixN_nat hs, by decide, ?_⟩⟩
  rw [gupd_gupd, fI_rep, fI_set hs]
  refine dWhile_intro (fun m δ G' => ∃ k rim o4 o5 o6, m = nb.length + 1 - k ∧ δ = [some (.lst (nnD nb)), some (.int (s : Int)), some (.ref p0), some (.lst (natsD rim)), o4, o5, o6] ∧ G' p0 = some (.lst (fI nb.length fun y => if d y ≤ k then (d y : Int) else -1)) ∧ GLe G G' ∧ (∀ y, y ∈ rim ↔ y < nb.length ∧ d y = k))
    (nb.length + 1) ⟨0, [s], none, none, none, rfl, rfl, ?_, GLe.gupd hp0, fun y => ?_⟩ ?_
  · rw [gupd_same, fI_congr fun y hy => ?_]
    by_cases h : y = s
    · subst h; simp [hs0]
    · have : d y ≠ 0 := fun e => h (hd.zero y hy e)
      rw [if_neg h, if_neg (by omega)]
  · rw [List.mem_singleton]
    exact ⟨fun e => by rw [e]; exact ⟨hs, hs0⟩, fun e => hd.zero y e.1 e.2⟩
  · rintro m δ G1 ⟨k, rim, o4, o5, o6, rfl, rfl, hG, hle, hrim⟩
    refine ⟨_, rfl, !rim.isEmpty, ⟨natsD rim, rfl, by cases rim <;> rfl⟩, ?_⟩
    cases hem : rim.isEmpty with
    | true =>
      rw [if_neg (by simp)]
      have hno : ∀ y, y < nb.length → d y ≠ k := fun y hy e => by
        have := (hrim y).mpr ⟨hy, e⟩
        rw [List.isEmpty_iff.mp hem] at this
        cases this
      have hall := hd.empty hno
      refine ⟨_, rfl, .lst (natsD ((List.range nb.length).map d)), G, ?_, p⟩
      have e : (fI nb.length fun y => if d y ≤ k then (d y : Int) else -1) = natsD ((List.range nb.length).map d) := by
        rw [← fI_nat]
        exact fI_congr fun y hy => by rw [if_pos (Nat.le_of_lt (hall y hy))]
      rw [e] at hG
      refine (Clo.frz hG).trans (Clo.sub fun a m h => ?_)
      have : a ≠ p0 := fun z => by rw [z, hp0] at h; cases h
      rw [gdel_ne this]
      exact hle a m h
    | false =>
      rw [if_pos (by simp)]
      have hk : k ≤ nb.length := by
        cases rim with
        | nil => cases hem
        | cons y r =>
          have := (hrim y).mp List.mem_cons_self
          have h2 := hd.top y this.1
          omega
      refine ⟨Nat.zero_le _, fun q hq => ?_⟩
      have hqp : p0 ≠ q := gne hG hq
      have hqG : G q = none := by
        cases e : G q with
        | none => rfl
        | some m => rw [hle q m e] at hq; cases hq
      dsimp only [dSeq, List.set]
      refine dFor_intro (natsD rim) _ (fun i δ G2 => ∃ f Bn o5 o6, δ = [some (.lst (nnD nb)), some (.int (s : Int)), some (.ref p0), some (.lst (natsD rim)), some (.ref q), o5, o6] ∧ G2 p0 = some (.lst (fI nb.length f)) ∧ G2 q = some (.lst (natsD Bn)) ∧ GLe G G2 ∧ Turn1 nb.length k d f Bn ∧
        ∀ (j x y : Nat) l, j < i → rim[j]? = some x → nb[x]? = some l → y ∈ l → 0 ≤ f y) (fun P p => by simpa [and_assoc, dRet, dRetN, dRetC, dChain, r2I, dC, dVar, dEnds, dstart, dOp, dCB, DL.rLen, dCons, dNil, dFld, asL_lst, asQ_lst, asQ_tup, asQ_scr, ins_obj, dNever, dgN, dgNil, dgCons, dgTup, dIf, dNot, dAnd, dOr, dB, dCall, dMeth, dNext, dSeq, dSt, dLst, dTup, dIfE, rIxQ, dDrop, dYes, diL, diR1, diR2, dNeg, dAsg, dwipe, dBM, dBM0, rAppendD, rMin2, rMax2, atI_0, atI_1, atI_2, atI_3, ix4_0, ix4_1, ix4_3, natsD_nil] using p) ⟨_, [], o5, o6, rfl, by rw [gupd_ne hqp]; exact hG, gupd_same, fun a m h => by rw [gupd_ne (gne h hqG)]; exact hle a m h, ⟨fun y _ h => if_pos h, fun y _ h => .inr ⟨if_neg (by omega), by simp⟩, fun y _ h => if_neg (by omega), by simp, List.nodup_nil⟩, fun j _ _ _ h => absurd h (Nat.not_lt_zero j)⟩ ?_ ?_
      · rintro i x0 δ G2 hx ⟨f, Bn, o5, o6, rfl, hf, hB, hle2, ht, hdone⟩
        obtain ⟨x, hxr, rfl⟩ := natsD_get hx
        have hxk := (hrim x).mp (List.mem_of_getElem? hxr)
        obtain ⟨l, hl⟩ : ∃ l, nb[x]? = some l := ⟨_, List.getElem?_eq_getElem hxk.1⟩
        refine dFor_intro (natsD l) _ (fun j δ G3 => ∃ f Bn o6, δ = [some (.lst (nnD nb)), some (.int (s : Int)), some (.ref p0), some (.lst (natsD rim)), some (.ref q), some (.int (x : Int)), o6] ∧ G3 p0 = some (.lst (fI nb.length f)) ∧ G3 q = some (.lst (natsD Bn)) ∧ GLe G G3 ∧ Turn1 nb.length k d f Bn ∧
          (∀ (j x y : Nat) l, j < i → rim[j]? = some x → nb[x]? = some l → y ∈ l → 0 ≤ f y) ∧ ∀ (j' y : Nat), j' < j → l[j']? = some y → 0 ≤ f y) (fun P p => by simpa [and_assoc, dRet, dRetN, dRetC, dChain, r2I, dC, dVar, dEnds, dstart, dOp, dCB, DL.rLen, dCons, dNil, dFld, asL_lst, asQ_lst, asQ_tup, asQ_scr, ins_obj, dNever, dgN, dgNil, dgCons, dgTup, dIf, dNot, dAnd, dOr, dB, dCall, dMeth, dNext, dSeq, dSt, dLst, dTup, dIfE, rIxQ, dDrop, dYes, diL, diR1, diR2, dNeg, dAsg, dwipe, dBM, dBM0, rAppendD, rMin2, rMax2, atI_0, atI_1, atI_2, atI_3, ix4_0, ix4_1, ix4_3, atI_nn hl] using p) ⟨f, Bn, o6, rfl, hf, hB, hle2, ht, hdone, fun j' _ h => absurd h (Nat.not_lt_zero j')⟩ ?_ ?_
        · rintro j y0 δ G3 hy ⟨f, Bn, o6, rfl, hf, hB, hle3, ht, hdone, hj⟩
          obtain ⟨y, hyl, rfl⟩ := natsD_get hy
          have hym := List.mem_of_getElem? hyl
          have hyn := hd.lt x y l hl hym
          have hyd := hd.step x y l hl hym
          rw [hxk.2] at hyd
          have hfx := ht.old x hxk.1 (by omega)
          simp [and_assoc, dRet, dRetN, dRetC, dChain, r2I, dC, dVar, dEnds, dstart, dOp, dCB, DL.rLen, dCons, dNil, dFld, asL_lst, asQ_lst, asQ_tup, asQ_scr, ins_obj, dNever, dgN, dgNil, dgCons, dgTup, dIf, dNot, dAnd, dOr, dB, dCall, dMeth, dNext, dSeq, dSt, dLst, dTup, dIfE, rIxQ, dDrop, dYes, diL, diR1, diR2, dNeg, dAsg, dwipe, dBM, dBM0, rAppendD, rMin2, rMax2, atI_0, atI_1, atI_2, atI_3, ix4_0, ix4_1, ix4_3, asQ_ref hf, fI_at hyn, fI_at hxk.1, sSet, dgSub, hf, fI_length, ixN_nat hyn]
          by_cases hneg : f y < 0
          · rw [if_pos hneg]
            have ht2 := ht.find hyn hyd hneg
            have hlenB := nodup_lt ht.nd fun z hz => (ht.mem z hz).1
            have hB2 : gupd G3 p0 (.lst ((fI nb.length f).set y (.int (f x + 1)))) q = some (.lst (natsD Bn)) := by rw [gupd_ne (Ne.symm hqp)]; exact hB
            have mono : ∀ z, 0 ≤ f z → 0 ≤ (if z = y then (k : Int) + 1 else f z) := fun z hz => by
              split
              · omega
              · exact hz
            refine ⟨⟨_, asL_ref hB2⟩, _, hB2, by rw [natsD_length]; exact small1000 (by omega), fun z => if z = y then (k : Int) + 1 else f z, ?_, Bn ++ [y], ?_, ?_, ht2, ?_, ?_⟩
            · rw [gupd_ne hqp, gupd_same, fI_set hyn, hfx, hxk.2]
            · rw [gupd_same, natsD_append]; rfl
            · exact fun a m h => by rw [gupd_ne (gne h hqG), gupd_ne (gne h hp0)]; exact hle3 a m h
            · exact fun j' x' y' l' h1 h2 h3 h4 => mono y' (hdone j' x' y' l' h1 h2 h3 h4)
            · intro j' y' h1 h2
              by_cases e : j' = j
              · subst e
                rw [hyl] at h2; cases h2
                show 0 ≤ (if y = y then (k : Int) + 1 else f y)
                rw [if_pos rfl]; omega
              · exact mono y' (hj j' y' (by omega) h2)
          · rw [if_neg hneg]
            refine ⟨f, rfl, Bn, hB, hle3, ht, hdone, fun j' y' h1 h2 => ?_⟩
            by_cases e : j' = j
            · subst e
              rw [hyl] at h2; cases h2
              omega
            · exact hj j' y' (by omega) h2
        · rintro δ G3 ⟨f, Bn, o6, rfl, hf, hB, hle3, ht, hdone, hj⟩
          rw [natsD_length] at hj
          refine ⟨f, Bn, _, o6, rfl, hf, hB, hle3, ht, fun j x' y l' h1 h2 h3 h4 => ?_⟩
          by_cases e : j = i
          · subst e
            rw [hxr] at h2; cases h2
            rw [hl] at h3; cases h3
            obtain ⟨j', hj', ej⟩ := List.getElem_of_mem h4
            exact hj j' y hj' (by rw [List.getElem?_eq_getElem hj', ej])
          · exact hdone j x' y l' (by omega) h2 h3 h4
      · rintro δ G2 ⟨f, Bn, o5, o6, rfl, hf, hB, hle2, ht, hdone⟩
        rw [natsD_length] at hdone
        have hle4 : ∀ a m, G a = some m → gdel G2 q a = some m := fun a m h => by rw [gdel_ne (gne h hqG)]; exact hle2 a m h
        have all : ∀ y, y < nb.length → d y = k + 1 → f y = (k : Int) + 1 ∧ y ∈ Bn := fun y hy e => by
          rcases ht.new y hy e with h | h
          · exact h
          · obtain ⟨x, l, h1, h2, h3⟩ := hd.pre y k hy e
            have hxr : x ∈ rim := (hrim x).mpr ⟨(List.getElem?_eq_some_iff.mp h1).1, h3⟩
            obtain ⟨j, hj, ej⟩ := List.getElem_of_mem hxr
            have := hdone j x y l hj (by rw [List.getElem?_eq_getElem hj, ej]) h1 h2
            omega
        refine ⟨_, _, CloS.frz 4 rfl hB, _, rfl, nb.length + 1 - (k + 1), by omega, k + 1, Bn, _, o5, o6, rfl, rfl, ?_, hle4, fun y => ⟨fun h => ht.mem y h, fun h => (all y h.1 h.2).2⟩⟩
        rw [gdel_ne hqp, hf, fI_congr fun y hy => ?_]
        by_cases h1 : d y ≤ k
        · rw [ht.old y hy h1, if_pos (by omega)]
        · by_cases h2 : d y = k + 1
          · rw [(all y hy h2).1, if_pos (by omega), h2]
            rfl
          · rw [ht.far y hy (by omega), if_neg (by omega)]
end
end V

set_option Elab.async false
set_option linter.all false
set_option maxRecDepth 100000
set_option maxHeartbeats 4000000
namespace V
open PySem PySem.Spec L2 DL
section
variable {P : Program} {w : World} {K : PySem.W.Frag} {mg : Str → Option Value} {base : Heap} {C : Addr}
/-- the village of the roads E, how far given -/
def vilOf (E : List (Nat × Nat)) (d : Nat → Nat → Nat) : Vil := ⟨inOrd E, (List.range (E.length + 1)).map fun x => (List.range (E.length + 1)).map (d x)⟩
theorem vilOf_n (E : List (Nat × Nat)) (d : Nat → Nat → Nat) : (vilOf E d).n = E.length + 1 := by simp [vilOf, Vil.n]
structure Dists (E : List (Nat × Nat)) (d : Nat → Nat → Nat) : Prop where
  at_ : ∀ x, x < E.length + 1 → Dist (E.length + 1) (doorsL (E.length + 1) (inOrd E)) x (d x)
theorem Sound.ne {E : List (Nat × Nat)} (s : Sound E) {p : Nat × Nat} (h : p ∈ E) : p.1 ≠ p.2 := fun e => by
  obtain ⟨i, hi, ei⟩ := List.getElem_of_mem h
  exact s.apart i p (by rw [List.getElem?_eq_getElem hi, ei]) (by rw [e])
theorem Sound.ord {E : List (Nat × Nat)} (s : Sound E) : ∀ p ∈ inOrd E, p.1 < E.length + 1 ∧ p.2 < E.length + 1 ∧ p.1 ≠ p.2 := fun p hp => by
  obtain ⟨q, hq, rfl⟩ := List.mem_map.mp ((inOrd_perm E).mem_iff.mp hp)
  have h1 := s.lt q hq
  have h2 := s.ne hq
  simp only [norm]
  omega
theorem vN_put1 {d : Dt} : dput "_roads" d [] [] = ([("_roads" : Str)], [d]) := rfl
theorem vN_put2 {d e : Dt} : dput "_doors" e [("_roads" : Str)] [d] = ([("_roads" : Str), "_doors"], [d, e]) := by
  have h : ("_roads" : Str) ≠ "_doors" := by decide +kernel
  simp only [dput, if_neg h]
theorem vN_put3 {d e c : Dt} : dput "_known" c [("_roads" : Str), "_doors"] [d, e] = (vN, [d, e, c]) := by
  have h : ("_roads" : Str) ≠ "_known" := by decide +kernel
  have h' : ("_doors" : Str) ≠ "_known" := by decide +kernel
  simp only [dput, if_neg h, if_neg h', vN]
theorem vilOf_doors (E : List (Nat × Nat)) (d : Nat → Nat → Nat) : (vilOf E d).doors = doorsL (E.length + 1) (inOrd E) := by
  unfold Vil.doors
  rw [vilOf_n]
  show (List.range (E.length + 1)).map (fun x => (doorsL ((inOrd E).length + 1) (inOrd E)).getD x []) = _
  rw [inOrd_length]
  have hl := doorsL_length (E.length + 1) (inOrd E)
  generalize doorsL (E.length + 1) (inOrd E) = M at hl ⊢
  rw [← hl]
  refine List.ext_getElem (by simp) fun i h1 h2 => ?_
  simp [List.getD, h2]
theorem asI_same {G : Gp} {p : Addr} {ns : List Str} {xs : List Dt} (h : G p = some (.ins C ns xs)) : insOf G (.ref p) = some (C, ns, xs) := by
  unfold insOf; dsimp only; rw [h]
abbrev s_V_init : Stmt := inClass (top 22) 0
abbrev n_V_init : List Str := ["self", "roads"]
abbrev p_V_init : List Str := ["self", "roads"]
theorem sc_V_init : FnScope n_V_init p_V_init (defScope s_V_init) := ⟨rfl, rfl, rfl, by decide +kernel, rfl, by decide +kernel, by decide +kernel⟩
def c_vinit (C : Addr) : DSp := fun ds G P _ => ∃ (p : Addr) (r : Dt) (E : List (Nat × Nat)) (d : Nat → Nat → Nat), ds = [.ref p, r] ∧ asL G r = some (rdD E) ∧ G p = some (.ins C [] []) ∧ E.length ≤ 399 ∧ Sound E ∧ Dists E d ∧
  P .non (gupd G p (.ins C vN [.lst (rdD (vilOf E d).rows), .lst (nnD (vilOf E d).doors), .memo (vilOf E d).far]))
theorem vinit_at {f0 : Addr} {fd0 : FuncData} (T : TV K mg C) (TM : Fun K "__init__" "Village.__init__" s_V_init f0 fd0) (D_roads_in_order : Dfn P w K mg base CX0 "roads_in_order" p_roads_in_order c_rio 2)
    (D_next_doors : Dfn P w K mg base CX0 "next_doors" p_next_doors c_doors 1) : FnOk P w K mg base CX0 3 f0 fd0 p_V_init (toSp K (c_vinit C)) := by
  refine d_ok TM sc_V_init (fun ds G P R ⟨p, r, E, d, e, _⟩ => by rw [e]; rfl) fun cdv A outer s H E B hr => ?_
  refine ⟨_, (dss_cons (ds_fld T.cl T.n_roads (dv (pv 0)) (d_callD D_roads_in_order hr (by rfl) (da_cons (dv (pv 1)) da_nil)))
      (dss_cons (ds_fld T.cl T.n_doors (dv (pv 0)) (d_callD D_next_doors hr (by rfl) (da_cons (d_fld T.cl T.n_roads (dv (pv 0))) da_nil)))
      (dss_one (ds_fld T.cl T.n_known (dv (pv 0)) d_memo)))), ?_⟩
  rintro ds G P R ⟨p0, r, L, d, rfl, hLr, hp, hn, hL, hd, p⟩
  simp [and_assoc, dRet, dRetN, dRetC, dChain, r2I, dC, dVar, dEnds, dstart, dOp, dCB, DL.rLen, dCons, dNil, dFld, asL_lst, asQ_lst, asQ_tup, asQ_scr, ins_obj, dNever, dgN, dgNil, dgCons, dgTup, dIf, dNot, dAnd, dOr, dB, dCall, dMeth, dNext, dSeq, dSt, dLst, dTup, dIfE, rIxQ, dDrop, dYes, diL, diR1, diR2, dNeg, dAsg, dwipe, dBM, dBM0, rAppendD, rMin2, rMax2, atI_0, atI_1, atI_2, atI_3, ix4_0, ix4_1, ix4_3, n_V_init, dFldSet, c_rio, c_doors, rdD_inj, dMemoNew]
  refine ⟨L, hLr, by omega, hL, _, _, hp, by decide, _, _, asI_same gupd_same, _, ?_, inOrd L, rfl, by rw [inOrd_length]; omega, by rw [inOrd_length]; exact fun a b h => hL.ord (a, b) h, _, _, gupd_same, ?_, (vilOf L d).far, _, _, gupd_same, ?_, ?_⟩
  · rw [vN_put1]; simp only [dlook, if_true]
  · rw [vN_put1]; show 1 < 1000; decide
  · rw [vN_put1, vN_put2]; show 2 < 1000; decide
  · rw [vN_put1, vN_put2, vN_put3, gupd_gupd, gupd_gupd, inOrd_length, ← vilOf_doors L d]
    exact p
/-- a village that is asked -/
structure Vok (v : Vil) : Prop where
  sq : v.Sq
  big : v.n ≤ 400
  dist : ∀ x, x < v.n → Dist v.n v.doors x (v.d x)
theorem Vok.row {v : Vil} (h : Vok v) {x : Nat} (hx : x < v.n) : v.far[x]? = some ((List.range v.n).map (v.d x)) := by
  obtain ⟨l, h1, _, h3⟩ := v.get h.sq hx hx
  rw [h1]
  congr 1
  refine List.ext_getElem (by simp [h3]) fun i h4 h5 => ?_
  have hi : i < v.n := by rw [← h3]; exact h4
  obtain ⟨l', g1, g2, _⟩ := v.get h.sq hx hi
  rw [h1] at g1; cases g1
  rw [List.getElem?_eq_getElem h4] at g2
  rw [Option.some.inj g2]
  simp
theorem vilOf_d {E : List (Nat × Nat)} {d : Nat → Nat → Nat} {x y : Nat} (hx : x < E.length + 1) (hy : y < E.length + 1) : (vilOf E d).d x y = d x y := by simp [Vil.d, vilOf, List.getD, hx, hy]
theorem Dist.congr {n s : Nat} {nb : List (List Nat)} {d d' : Nat → Nat} (h : Dist n nb s d) (e : ∀ y, y < n → d' y = d y) : Dist n nb s d' := by
  have hx : ∀ {x l}, nb[x]? = some l → x < n := fun {x l} q => by rw [← h.len]; exact (List.getElem?_eq_some_iff.mp q).1
  refine ⟨h.len, h.lt, ⟨h.s0.1, by rw [e _ h.s0.1]; exact h.s0.2⟩, fun y hy q => h.zero y hy (by rw [← e y hy]; exact q), fun x y l q m => ?_, fun y k hy q => ?_, fun y hy => by rw [e y hy]; exact h.top y hy⟩
  · rw [e y (h.lt x y l q m), e x (hx q)]; exact h.step x y l q m
  · rw [e y hy] at q
    obtain ⟨x, l, h1, h2, h3⟩ := h.pre y k hy q
    exact ⟨x, l, h1, h2, by rw [e x (hx h1)]; exact h3⟩
theorem vilOf_ok {E : List (Nat × Nat)} {d : Nat → Nat → Nat} (h : E.length ≤ 399) (hd : Dists E d) : Vok (vilOf E d) where
  dist := fun x hx => by
    rw [vilOf_n] at hx ⊢
    rw [vilOf_doors]
    exact (hd.at_ x hx).congr fun y hy => vilOf_d hx hy
  sq := ⟨fun x hx => by
    rw [vilOf_n] at hx ⊢
    simp [vilOf, List.getD, hx]⟩
  big := by rw [vilOf_n]; omega
abbrev s_V_farOf : Stmt := inClass (top 22) 11
abbrev n_V_farOf : List Str := ["self", "x"]
abbrev p_V_farOf : List Str := ["self", "x"]
theorem sc_V_farOf : FnScope n_V_farOf p_V_farOf (defScope s_V_farOf) := ⟨rfl, rfl, rfl, by decide +kernel, rfl, by decide +kernel, by decide +kernel⟩
def c_vf (C : Addr) : DSp := fun ds G P _ => ∃ (v : Vil) (x : Nat), ds = [vilD C v, .int (x : Int)] ∧ Vok v ∧ x < v.n ∧ P (.lst (natsD ((List.range v.n).map (v.d x)))) G
theorem ok_vf (T : TV K mg C) (TM : TopMt K C "_far" "Village._far" s_V_farOf p_V_farOf) (D_far_from : Dfn P w K mg base CX0 "far_from" p_far_from c_far 1) : Dmt P w K mg base CX0 C "_far" p_V_farOf (c_vf C) 2 := by
  refine dmt_of TM sc_V_farOf (fun ds G P R ⟨v, x, e, _⟩ => by rw [e]; rfl) fun f cdv A outer s H E B hr => ?_
  refine ⟨_, dss_memo T.cl T.n_known hr (pv 1) (pe_fld (pv 0) rfl) (pe_fld (pv 0) rfl) (pv 1) (d_callD D_far_from hr (by rfl) (da_cons (d_fld T.cl T.n_doors (dv (pv 0))) (da_cons (dv (pv 1)) da_nil))) (pe_fld (pv 0) rfl) (pv 1), ?_⟩
  rintro ds G P R ⟨v, x, rfl, hv, hx, p⟩
  refine ⟨vN, _, v.far, x, _, rfl, vN_known, rfl, hv.row hx, Nat.le_trans hv.big (by decide), ?_, p⟩
  simp [and_assoc, dRet, dRetN, dRetC, dChain, r2I, dC, dVar, dEnds, dstart, dOp, dCB, DL.rLen, dCons, dNil, dFld, asL_lst, asQ_lst, asQ_tup, asQ_scr, ins_obj, dNever, dgN, dgNil, dgCons, dgTup, dIf, dNot, dAnd, dOr, dB, dCall, dMeth, dNext, dSeq, dSt, dLst, dTup, dIfE, rIxQ, dDrop, dYes, diL, diR1, diR2, dNeg, dAsg, dwipe, dBM, dBM0, rAppendD, rMin2, rMax2, atI_0, atI_1, atI_2, atI_3, ix4_0, ix4_1, ix4_3, n_V_farOf, c_far, vil_ins, vN_doors, nnD_inj, v.doors_length]
  exact ⟨x, rfl, hv.big, v.d x, hv.dist x hx, by simp [natsD, List.map_map, Function.comp_def]⟩
theorem natsD_two (x y : Nat) : [Dt.int (x : Int), Dt.int (y : Int)] = ([(x : Int), (y : Int)] : List Int).map Dt.int := rfl
abbrev s_V_roads : Stmt := inClass (top 22) 4
abbrev n_V_roads : List Str := ["self"]
abbrev p_V_roads : List Str := ["self"]
theorem sc_V_roads : FnScope n_V_roads p_V_roads (defScope s_V_roads) := ⟨rfl, rfl, rfl, by decide +kernel, rfl, by decide +kernel, by decide +kernel⟩
def c_roads (C : Addr) : DSp := fun ds G P _ => ∃ v : Vil, ds = [vilD C v] ∧ ∀ p, G p = none → P (.ref p) (gupd G p (.lst (rdD v.rows)))
theorem ok_roads (T : TV K mg C) (TM : TopMt K C "roads" "Village.roads" s_V_roads p_V_roads) : Dmt P w K mg base CX0 C "roads" p_V_roads (c_roads C) 1 := by
  refine dmt_of TM sc_V_roads (fun ds G P R ⟨v, e, _⟩ => by rw [e]; rfl) fun f cdv A outer s H E B hr => ?_
  refine ⟨_, (dss_one (ds_ret (d_callTy c_listM (by rfl) T.list (by decide +kernel) (da_cons (d_fld T.cl T.n_roads (dv (pv 0))) da_nil)))), ?_⟩
  rintro ds G P R ⟨v, rfl, p⟩
  simpa [and_assoc, dRet, dRetN, dRetC, dChain, r2I, dC, dVar, dEnds, dstart, dOp, dCB, DL.rLen, dCons, dNil, dFld, asL_lst, asQ_lst, asQ_tup, asQ_scr, ins_obj, dNever, dgN, dgNil, dgCons, dgTup, dIf, dNot, dAnd, dOr, dB, dCall, dMeth, dNext, dSeq, dSt, dLst, dTup, dIfE, rIxQ, dDrop, dYes, diL, diR1, diR2, dNeg, dAsg, dwipe, dBM, dBM0, rAppendD, rMin2, rMax2, atI_0, atI_1, atI_2, atI_3, ix4_0, ix4_1, ix4_3, n_V_roads, rListM, vil_ins, vN_roads] using p
theorem far_at {n : Nat} {f : Nat → Nat} {y : Nat} (h : y < n) : atI (natsD ((List.range n).map f)) (y : Int) = some (.int (f y : Int)) := atI_nats (by simp [h])
abbrev s_V_apart : Stmt := inClass (top 22) 6
abbrev n_V_apart : List Str := ["self", "x", "y"]
abbrev p_V_apart : List Str := ["self", "x", "y"]
theorem sc_V_apart : FnScope n_V_apart p_V_apart (defScope s_V_apart) := ⟨rfl, rfl, rfl, by decide +kernel, rfl, by decide +kernel, by decide +kernel⟩
def c_apart (C : Addr) : DSp := fun ds G P _ => ∃ (v : Vil) (x y : Nat), ds = [vilD C v, .int (x : Int), .int (y : Int)] ∧ Vok v ∧ x < v.n ∧ y < v.n ∧ P (.int (v.d x y : Int)) G
theorem ok_apart (T : TV K mg C) (TM : TopMt K C "apart" "Village.apart" s_V_apart p_V_apart) (D_need_houses : Dfn P w K mg base CX0 "need_houses" p_need_houses (c_need C) 2)
    (M__far : Dmt P w K mg base CX0 C "_far" p_V_farOf (c_vf C) 2) : Dmt P w K mg base CX0 C "apart" p_V_apart (c_apart C) 3 := by
  refine dmt_of TM sc_V_apart (fun ds G P R ⟨v, x, y, e, _⟩ => by rw [e]; rfl) fun f cdv A outer s H E B hr => ?_
  refine ⟨_, (dss_cons (ds_expr (d_callD D_need_houses hr (by rfl) (da_cons (dv (pv 0)) (da_cons (d_lst (da_cons (dv (pv 1)) (da_cons (dv (pv 2)) da_nil))) da_nil))))
      (dss_one (ds_ret (d_ix (d_methD (dv (pv 0)) T.cl M__far hr (da_cons (dv (pv 1)) da_nil)) (dv (pv 2)) (fun _ _ => rfl))))), ?_⟩
  rintro ds G P R ⟨v, x, y, rfl, hv, hx, hy, p⟩
  simp [and_assoc, dRet, dRetN, dRetC, dChain, r2I, dC, dVar, dEnds, dstart, dOp, dCB, DL.rLen, dCons, dNil, dFld, asL_lst, asQ_lst, asQ_tup, asQ_scr, ins_obj, dNever, dgN, dgNil, dgCons, dgTup, dIf, dNot, dAnd, dOr, dB, dCall, dMeth, dNext, dSeq, dSt, dLst, dTup, dIfE, rIxQ, dDrop, dYes, diL, diR1, diR2, dNeg, dAsg, dwipe, dBM, dBM0, rAppendD, rMin2, rMax2, atI_0, atI_1, atI_2, atI_3, ix4_0, ix4_1, ix4_3, n_V_apart, c_need, c_vf, vilD_inj, vil_ins, mh "_far"]
  exact ⟨by decide, [(x : Int), (y : Int)], rfl, by simp; omega, x, rfl, hv, hx, _, far_at hy, p⟩
/-- the houses on the way: rising by how far they are from x -/
structure WayOf (v : Vil) (x y : Nat) (ws : List Nat) : Prop where
  perm : ws.Perm ((List.range v.n).filter fun z => decide (v.d x z + v.d y z = v.d x y))
  up : ws.Pairwise fun a b => leN (v.d x a, a) (v.d x b, b)
abbrev s_V_way : Stmt := inClass (top 22) 5
abbrev n_V_way : List Str := ["self", "x", "y", "many", "far_x", "far_y", "steps", "at", "step"]
abbrev p_V_way : List Str := ["self", "x", "y"]
theorem sc_V_way : FnScope n_V_way p_V_way (defScope s_V_way) := ⟨rfl, rfl, rfl, by decide +kernel, rfl, by decide +kernel, by decide +kernel⟩
def c_way (C : Addr) : DSp := fun ds G P _ => ∃ (v : Vil) (x y : Nat), ds = [vilD C v, .int (x : Int), .int (y : Int)] ∧ Vok v ∧ x < v.n ∧ y < v.n ∧ ∀ ws, WayOf v x y ws → P (.lst (natsD ws)) G
theorem ok_way (T : TV K mg C) (TM : TopMt K C "way" "Village.way" s_V_way p_V_way) (M_houses : Dmt P w K mg base CX0 C "houses" p_V_houses (c_houses C) 1) (M_apart : Dmt P w K mg base CX0 C "apart" p_V_apart (c_apart C) 3)
    (M__far : Dmt P w K mg base CX0 C "_far" p_V_farOf (c_vf C) 2) : Dmt P w K mg base CX0 C "way" p_V_way (c_way C) 4 := by
  refine dmt_of TM sc_V_way (fun ds G P R ⟨v, x, y, e, _⟩ => by rw [e]; rfl) fun f cdv A outer s H E B hr => ?_
  refine ⟨_, (dss_cons (ds_set (i := 3) sc_V_way.nd rfl (by first | exact Or.inl rfl | exact Or.inr rfl) (d_methD (dv (pv 0)) T.cl M_apart hr (da_cons (dv (pv 1)) (da_cons (dv (pv 2)) da_nil))))
      (dss_cons (ds_set (i := 4) sc_V_way.nd rfl (by first | exact Or.inl rfl | exact Or.inr rfl) (d_methD (dv (pv 0)) T.cl M__far hr (da_cons (dv (pv 1)) da_nil)))
      (dss_cons (ds_set (i := 5) sc_V_way.nd rfl (by first | exact Or.inl rfl | exact Or.inr rfl) (d_methD (dv (pv 0)) T.cl M__far hr (da_cons (dv (pv 2)) da_nil)))
      (dss_cons (ds_setLcP (i := 6) (own := [("at", 7)]) rfl sc_V_way.nd rfl rfl (sw_true rfl rfl rfl (by decide +kernel)) (di_range1 (by rfl) T.range (da_cons (d_methD0 (dv (pv 0)) T.cl M_houses hr) da_nil)) (blkOk_by (N := n_V_way) (sc := defScope s_V_way) (by decide +kernel)) (fun _ _ _ _ _ => (dgw_name (pg_name (i := 7) sc_V_way.nd rfl (by first | exact Or.inl rfl | exact Or.inr rfl)))) (fun _ _ _ _ _ => (dts_one (dt_cmp o_eqI (d_op o_add (d_ix (dv (pv 4)) (dv (pv 7)) (fun _ _ => rfl)) (d_ix (dv (pv 5)) (dv (pv 7)) (fun _ _ => rfl))) (dv (pv 3)) (nomark _)))) (fun _ _ _ _ _ => (d_tup (da_cons (d_ix (dv (pv 4)) (dv (pv 7)) (fun _ _ => rfl)) (da_cons (dv (pv 7)) da_nil)))))
      (dss_one (ds_ret (d_lcP (own := [("step", 8)]) rfl sc_V_way.nd (di_list (d_callB c_sortP (by rfl) T.sorted (by decide +kernel) (da_cons (dv (pv 6)) da_nil))) (blkOk_by (N := n_V_way) (sc := defScope s_V_way) (by decide +kernel)) (fun _ _ _ _ _ => (dgw_name (pg_name (i := 8) sc_V_way.nd rfl (by first | exact Or.inl rfl | exact Or.inr rfl)))) (fun _ _ _ _ _ => dts_nil) (fun _ _ _ _ _ => (d_ix (dv (pv 8)) d_int (fun _ _ => rfl)))))))))), ?_⟩
  rintro ds G P R ⟨v, x, y, rfl, hv, hx, hy, p⟩
  have hbig := hv.big
  simp [and_assoc, dRet, dRetN, dRetC, dChain, r2I, dC, dVar, dEnds, dstart, dOp, dCB, DL.rLen, dCons, dNil, dFld, asL_lst, asQ_lst, asQ_tup, asQ_scr, ins_obj, dNever, dgN, dgNil, dgCons, dgTup, dIf, dNot, dAnd, dOr, dB, dCall, dMeth, dNext, dSeq, dSt, dLst, dTup, dIfE, rIxQ, dDrop, dYes, diL, diR1, diR2, dNeg, dAsg, dwipe, dBM, dBM0, rAppendD, rMin2, rMax2, atI_0, atI_1, atI_2, atI_3, ix4_0, ix4_1, ix4_3, n_V_way, c_apart, c_vf, vilD_inj, vil_ins, mh "apart", mh "_far"]
  refine ⟨x, rfl, y, rfl, hv, hx, hy, x, rfl, hv, hx, y, rfl, hv, hy, ?_⟩
  refine dLcP_intro (natsD (List.range v.n)) (fun z => match z with | .int z => decide (v.d x z.toNat + v.d y z.toNat = v.d x y) | _ => false) (fun z => match z with | .int z => pairD ((v.d x z.toNat : Int), z) | z => z) (fun P p => ?_) (by rw [natsD_length, List.length_range]; exact small1000 (by omega)) (fun z G' hz hG => ?_) ?_
  · simp [and_assoc, dRet, dRetN, dRetC, dChain, r2I, dC, dVar, dEnds, dstart, dOp, dCB, DL.rLen, dCons, dNil, dFld, asL_lst, asQ_lst, asQ_tup, asQ_scr, ins_obj, dNever, dgN, dgNil, dgCons, dgTup, dIf, dNot, dAnd, dOr, dB, dCall, dMeth, dNext, dSeq, dSt, dLst, dTup, dIfE, rIxQ, dDrop, dYes, diL, diR1, diR2, dNeg, dAsg, dwipe, dBM, dBM0, rAppendD, rMin2, rMax2, atI_0, atI_1, atI_2, atI_3, ix4_0, ix4_1, ix4_3, c_houses, vil_ins, vilD_inj, mh "houses"]
    rw [upto0]
    exact ⟨by omega, p⟩
  · obtain ⟨z, hz', rfl⟩ := natsD_mem hz
    simp [and_assoc, dRet, dRetN, dRetC, dChain, r2I, dC, dVar, dEnds, dstart, dOp, dCB, DL.rLen, dCons, dNil, dFld, asL_lst, asQ_lst, asQ_tup, asQ_scr, ins_obj, dNever, dgN, dgNil, dgCons, dgTup, dIf, dNot, dAnd, dOr, dB, dCall, dMeth, dNext, dSeq, dSt, dLst, dTup, dIfE, rIxQ, dDrop, dYes, diL, diR1, diR2, dNeg, dAsg, dwipe, dBM, dBM0, rAppendD, rMin2, rMax2, atI_0, atI_1, atI_2, atI_3, ix4_0, ix4_1, ix4_3, far_at (f := v.d x) (List.mem_range.mp hz'), far_at (f := v.d y) (List.mem_range.mp hz'), pairD]
    exact ⟨by omega, fun _ => by decide⟩
  · have e0 : (((natsD (List.range v.n)).filter fun z => match z with | .int z => decide (v.d x z.toNat + v.d y z.toNat = v.d x y) | _ => false).map fun z => match z with | .int z => pairD ((v.d x z.toNat : Int), z) | z => z) =
        (((List.range v.n).filter fun z => decide (v.d x z + v.d y z = v.d x y)).map fun z => ((v.d x z : Int), (z : Int))).map pairD := by
      simp only [natsD, List.filter_map, List.map_map]
      rfl
    rw [e0]
    simp [and_assoc, dRet, dRetN, dRetC, dChain, r2I, dC, dVar, dEnds, dstart, dOp, dCB, DL.rLen, dCons, dNil, dFld, asL_lst, asQ_lst, asQ_tup, asQ_scr, ins_obj, dNever, dgN, dgNil, dgCons, dgTup, dIf, dNot, dAnd, dOr, dB, dCall, dMeth, dNext, dSeq, dSt, dLst, dTup, dIfE, rIxQ, dDrop, dYes, diL, diR1, diR2, dNeg, dAsg, dwipe, dBM, dBM0, rAppendD, rMin2, rMax2, atI_0, atI_1, atI_2, atI_3, ix4_0, ix4_1, ix4_3, rSortP, dLcP, -List.map_map]
    refine ⟨_, rfl, fun ns hp hs => ?_⟩
    have hws : WayOf v x y (ns.map fun q => q.2.toNat) ∧ ns = (ns.map fun q => q.2.toNat).map fun z => ((v.d x z : Int), (z : Int)) := by
      have e1 : ns = (ns.map fun q => q.2.toNat).map fun z => ((v.d x z : Int), (z : Int)) := by
        rw [List.map_map]
        refine (List.map_id' ns).symm.trans (List.map_congr_left fun q hq => ?_)
        obtain ⟨z, _, rfl⟩ := List.mem_map.mp (hp.mem_iff.mp hq)
        simp
      refine ⟨⟨?_, ?_⟩, e1⟩
      · have := hp.map fun q => q.2.toNat
        rw [List.map_map] at this
        refine this.trans (.of_eq ?_)
        refine (List.map_congr_left fun z _ => ?_).trans (List.map_id' _)
        simp
      · rw [e1] at hs
        refine (List.pairwise_map.mp hs).imp fun {a b} h => ?_
        simp only [leP, leN] at h ⊢
        omega
    obtain ⟨hw, e1⟩ := hws
    have hlen : ns.length ≤ v.n := by
      rw [hp.length_eq, List.length_map]
      refine Nat.le_trans (List.length_filter_le _ _) ?_
      rw [List.length_range]
      exact Nat.le_refl _
    refine ⟨small1000 (by omega), fun _ => true, fun z => match z with | .tup [_, z] => z | z => z, ?_, ?_⟩
    · rintro a G' i j hij rfl hG
      exact ⟨rfl, _, rfl, rfl⟩
    · have e2 : ((ns.map pairD).filter fun _ => true).map (fun z => match z with | .tup [_, z] => z | z => z) = natsD (ns.map fun q => q.2.toNat) := by
        rw [filt_true]
        conv => lhs; rw [e1]
        simp [natsD, List.map_map, Function.comp_def, pairD]
      rw [e2]
      exact p _ hw
end
end V

set_option Elab.async false
set_option linter.all false
set_option maxRecDepth 100000
set_option maxHeartbeats 4000000
namespace V
open PySem PySem.Spec L2 DL
/-- == with own rules -/
def DmtO (P : Program) (w : World) (K : PySem.W.Frag) (mg : Str → Option Value) (base : Heap) (C : Addr) (m : Str) (ps : List Str) (c : DSp) (k : Nat) : Prop := ∃ f fd, FnOk P w K mg base CX0 k f fd ps (toSp K c) ∧ OwnCmp K C f m ∧ Binds K fd ps []
theorem DmtO.of {P : Program} {w : World} {K : PySem.W.Frag} {mg : Str → Option Value} {base : Heap} {C : Addr} {m : Str} {ps : List Str} {c : DSp} {k : Nat} (D : Dmt P w K mg base CX0 C m ps c k) : DmtO P w K mg base C m ps c k := by
  obtain ⟨f, fd, F, M, b⟩ := D
  exact ⟨f, fd, F, ⟨M.at_, M.fn⟩, b⟩
section
variable {X : Cx} {B : Hp} {C : Addr} {ps : List Str} {c : DSp} {k j : Nat}
theorem o_ownEq (D : DmtO X.prog X.w X.K X.mg X.base C "__eq__" ps c k) (hr : Room j X.A) (hj : k ≤ j := by decide) : DOp X B (compareOp .Eq) (rOwn X.K C c) := by
  obtain ⟨f, fd, F, o, b⟩ := D
  exact own_op (fun _ _ => rfl) F b o hr hj
theorem o_ownNe (D : DmtO X.prog X.w X.K X.mg X.base C "__ne__" ps c k) (hr : Room j X.A) (hj : k ≤ j := by decide) : DOp X B (compareOp .NotEq) (rOwn X.K C c) := by
  obtain ⟨f, fd, F, o, b⟩ := D
  exact own_op (fun _ _ => rfl) F b o hr hj
end
section
variable {P : Program} {w : World} {K : PySem.W.Frag} {mg : Str → Option Value} {base : Heap} {C : Addr}
theorem rdD_pl (l : List (Nat × Nat)) : pl 9 (.lst (rdD l)) = true := by
  simp only [pl, rdD, List.all_map, List.all_eq_true]
  intro p _
  simp [npD, pairD, pl]
/-- a thing that is no village -/
def NoVil (K : PySem.W.Frag) (C : Addr) (G : Gp) (d : Dt) : Prop := ∃ n, tagD G d = some (.type n) ∧ PySem.W.kitOne K (.type n) (.ref C) = some false ∧ PySem.W.notFirst K C (.type n) = true
abbrev s_V_eq : Stmt := inClass (top 22) 1
abbrev n_V_eq : List Str := ["self", "other"]
abbrev p_V_eq : List Str := ["self", "other"]
theorem sc_V_eq : FnScope n_V_eq p_V_eq (defScope s_V_eq) := ⟨rfl, rfl, rfl, by decide +kernel, rfl, by decide +kernel, by decide +kernel⟩
def c_veq (K : PySem.W.Frag) (C : Addr) (neg : Bool) : DSp := fun ds G P _ => ∃ (v : Vil) (d : Dt), ds = [vilD C v, d] ∧ ((∃ v', d = vilD C v' ∧ P (.bl (neg != decide (v.rows = v'.rows))) G) ∨ (NoVil K C G d ∧ P (.bl neg) G))
theorem ok_veq (T : TV K mg C) (TM : TopMt K C "__eq__" "Village.__eq__" s_V_eq p_V_eq) : Dmt P w K mg base CX0 C "__eq__" p_V_eq (c_veq K C false) 1 := by
  refine dmt_of TM sc_V_eq (fun ds G P R ⟨v, d, e, _⟩ => by rw [e]; rfl) fun f cdv A outer s H E B hr => ?_
  refine ⟨_, (dss_one (ds_ret (d_and (d_callB c_isi (by rfl) T.isinstance (by decide +kernel) (da_cons (dv (pv 1)) (da_cons (d_cls (by rfl) T.mgVillage) da_nil))) (d_one (d_cmp (o_eq hr) (d_fld T.cl T.n_roads (dv (pv 0))) (d_fld T.cl T.n_roads (dv (pv 1))) (nomark _)))))), ?_⟩
  rintro ds G P R ⟨v, d, rfl, h⟩
  simp [and_assoc, dRet, dRetN, dRetC, dChain, r2I, dC, dVar, dEnds, dstart, dOp, dCB, DL.rLen, dCons, dNil, dFld, asL_lst, asQ_lst, asQ_tup, asQ_scr, ins_obj, dNever, dgN, dgNil, dgCons, dgTup, dIf, dNot, dAnd, dOr, dB, dCall, dMeth, dNext, dSeq, dSt, dLst, dTup, dIfE, rIxQ, dDrop, dYes, diL, diR1, diR2, dNeg, dAsg, dwipe, dBM, dBM0, rAppendD, rMin2, rMax2, atI_0, atI_1, atI_2, atI_3, ix4_0, ix4_1, ix4_3, n_V_eq, dAndV, rIsiD, clsD, vil_ins, vN_roads]
  rcases h with ⟨v', rfl, p⟩ | ⟨⟨n, h1, h2, h3⟩, p⟩
  · refine ⟨.ref C, rfl, fun D e => by cases e; exact T.isf, .inr ⟨T.own, ?_⟩⟩
    simp [and_assoc, dRet, dRetN, dRetC, dChain, r2I, dC, dVar, dEnds, dstart, dOp, dCB, DL.rLen, dCons, dNil, dFld, asL_lst, asQ_lst, asQ_tup, asQ_scr, ins_obj, dNever, dgN, dgNil, dgCons, dgTup, dIf, dNot, dAnd, dOr, dB, dCall, dMeth, dNext, dSeq, dSt, dLst, dTup, dIfE, rIxQ, dDrop, dYes, diL, diR1, diR2, dNeg, dAsg, dwipe, dBM, dBM0, rAppendD, rMin2, rMax2, atI_0, atI_1, atI_2, atI_3, ix4_0, ix4_1, ix4_3, vil_ins, vN_roads, rEqP, now, rdD_pl]
    rw [rdD_inj]
    refine ⟨fun h => ?_, fun h => ?_⟩ <;> simpa [h] using p
  · exact ⟨_, h1, fun D e => (by cases e), .inl ⟨h2, p⟩⟩
abbrev s_V_ne : Stmt := inClass (top 22) 2
abbrev n_V_ne : List Str := ["self", "other"]
abbrev p_V_ne : List Str := ["self", "other"]
theorem sc_V_ne : FnScope n_V_ne p_V_ne (defScope s_V_ne) := ⟨rfl, rfl, rfl, by decide +kernel, rfl, by decide +kernel, by decide +kernel⟩
theorem ok_vne (T : TV K mg C) (TM : TopMt K C "__ne__" "Village.__ne__" s_V_ne p_V_ne) (O_eq : DmtO P w K mg base C "__eq__" p_V_eq (c_veq K C false) 1) : Dmt P w K mg base CX0 C "__ne__" p_V_ne (c_veq K C true) 2 := by
  refine dmt_of TM sc_V_ne (fun ds G P R ⟨v, d, e, _⟩ => by rw [e]; rfl) fun f cdv A outer s H E B hr => ?_
  refine ⟨_, (dss_one (ds_ret (d_not (d_cmp (o_ownEq O_eq hr) (dv (pv 0)) (dv (pv 1)) (nomark _))))), ?_⟩
  rintro ds G P R ⟨v, d, rfl, h⟩
  simp [and_assoc, dRet, dRetN, dRetC, dChain, r2I, dC, dVar, dEnds, dstart, dOp, dCB, DL.rLen, dCons, dNil, dFld, asL_lst, asQ_lst, asQ_tup, asQ_scr, ins_obj, dNever, dgN, dgNil, dgCons, dgTup, dIf, dNot, dAnd, dOr, dB, dCall, dMeth, dNext, dSeq, dSt, dLst, dTup, dIfE, rIxQ, dDrop, dYes, diL, diR1, diR2, dNeg, dAsg, dwipe, dBM, dBM0, rAppendD, rMin2, rMax2, atI_0, atI_1, atI_2, atI_3, ix4_0, ix4_1, ix4_3, n_V_ne, dNotV, rOwn, c_veq, vilD_inj, vil_ins]
  rcases h with ⟨v', rfl, p⟩ | ⟨⟨n, h1, h2, h3⟩, p⟩
  · refine ⟨⟨Value.ref C, rfl, fun D e => by cases e; exact T.isf, by simp [PySem.W.notFirst]⟩, .inl ⟨v', rfl, ?_⟩⟩
    simpa using p
  · exact ⟨⟨_, h1, fun D e => (by cases e), h3⟩, .inr ⟨⟨n, h1, h2, h3⟩, p⟩⟩
end
end V

set_option Elab.async false
set_option linter.all false
/-! Trees: houses that hang together. -/
namespace V
open DL
inductive Con (E : List (Nat × Nat)) : Nat → Nat → Prop
  | refl (x : Nat) : Con E x x
  | step {x y z : Nat} : Con E x y → ((y, z) ∈ E ∨ (z, y) ∈ E) → Con E x z
theorem Con.trans {E : List (Nat × Nat)} {x y z : Nat} (h : Con E x y) (h' : Con E y z) : Con E x z := by
  induction h' with
  | refl => exact h
  | step _ hs ih => exact .step ih hs
theorem Con.edge {E : List (Nat × Nat)} {x y : Nat} (h : (x, y) ∈ E ∨ (y, x) ∈ E) : Con E x y := .step (.refl x) h
theorem Con.symm {E : List (Nat × Nat)} {x y : Nat} (h : Con E x y) : Con E y x := by
  induction h with
  | refl => exact .refl _
  | step _ hs ih => exact (Con.edge hs.symm).trans ih
theorem Con.mono {E F : List (Nat × Nat)} (h : ∀ p ∈ E, p ∈ F ∨ (p.2, p.1) ∈ F) {x y : Nat} (c : Con E x y) : Con F x y := by
  induction c with
  | refl => exact .refl _
  | step _ hs ih =>
    refine .step ih ?_
    rcases hs with hs | hs
    · exact h _ hs
    · exact (h _ hs).symm
structure Tree (E : List (Nat × Nat)) : Prop where
  lt : ∀ p ∈ E, p.1 < E.length + 1 ∧ p.2 < E.length + 1
  con : ∀ x, x < E.length + 1 → Con E 0 x
theorem Tree.perm {E F : List (Nat × Nat)} (h : Tree E) (p : F.Perm E) : Tree F := by
  refine ⟨fun q hq => ?_, fun x hx => ?_⟩
  · rw [p.length_eq]; exact h.lt q (p.mem_iff.mp hq)
  · rw [p.length_eq] at hx
    exact (h.con x hx).mono fun q hq => .inl (p.mem_iff.mpr hq)
/-- built house by house, by names -/
theorem Tree.grown {names : List Nat} {m : Nat} (hp : names.Perm (List.range (m + 1))) {E : List (Nat × Nat)} (hl : E.length = m)
    (h : ∀ k, k < m → ∃ a x y, a < k + 1 ∧ names[k + 1]? = some x ∧ names[a]? = some y ∧ (E[k]? = some (x, y) ∨ E[k]? = some (y, x))) : Tree E := by
  have hn : names.length = m + 1 := by rw [hp.length_eq, List.length_range]
  have mem : ∀ i z, names[i]? = some z → z < m + 1 := fun i z e => List.mem_range.mp (hp.mem_iff.mp (List.mem_of_getElem? e))
  obtain ⟨z0, h0⟩ : ∃ z, names[0]? = some z := ⟨_, List.getElem?_eq_getElem (by omega)⟩
  have key : ∀ k, k ≤ m → ∀ j, j ≤ k → ∀ z, names[j]? = some z → Con E z0 z := by
    intro k
    induction k with
    | zero =>
      intro _ j hj z hz
      have : j = 0 := by omega
      subst this
      rw [h0] at hz; cases hz
      exact .refl _
    | succ k ih =>
      intro hk j hj z hz
      by_cases e : j ≤ k
      · exact ih (by omega) j e z hz
      · have : j = k + 1 := by omega
        subst this
        obtain ⟨a, x, y, ha, hx, hy, hE⟩ := h k (by omega)
        rw [hx] at hz; cases hz
        refine .step (ih (by omega) a (by omega) y hy) ?_
        rcases hE with e | e
        · exact .inr (List.mem_of_getElem? e)
        · exact .inl (List.mem_of_getElem? e)
  have all : ∀ x, x < m + 1 → Con E z0 x := fun x hx => by
    obtain ⟨j, hj⟩ := List.mem_iff_getElem?.mp (hp.mem_iff.mpr (List.mem_range.mpr hx))
    exact key m (Nat.le_refl m) j (by have := (List.getElem?_eq_some_iff.mp hj).1; omega) x hj
  refine ⟨fun p hp' => ?_, fun x hx => ?_⟩
  · rw [hl]
    obtain ⟨k, hk⟩ := List.mem_iff_getElem?.mp hp'
    have hkm := (List.getElem?_eq_some_iff.mp hk).1
    obtain ⟨a, x, y, ha, hx, hy, hE⟩ := h k (by omega)
    have h1 := mem _ _ hx
    have h2 := mem _ _ hy
    rcases hE with e | e <;> (rw [hk] at e; cases e)
    · exact ⟨h1, h2⟩
    · exact ⟨h2, h1⟩
  · rw [hl] at hx
    exact (all 0 (by omega)).symm.trans (all x hx)
end V

set_option Elab.async false
set_option linter.all false
/-! A tree's roads can be made one behind the other, and it has distances. -/
namespace V
open DL
theorem countP_drop {p q : Nat → Bool} {u : Nat} : ∀ {L : List Nat}, L.Nodup → (∀ z ∈ L, p z = true → z ≠ u → q z = true) → L.countP p ≤ L.countP q + 1
  | [], _, _ => by simp
  | a :: L, hn, h => by
    rw [List.nodup_cons] at hn
    rw [List.countP_cons, List.countP_cons]
    by_cases ha : a = u
    · have : L.countP p ≤ L.countP q := List.countP_mono_left fun z hz hp => h z (List.mem_cons_of_mem _ hz) hp fun e => hn.1 (by rw [ha, ← e]; exact hz)
      split <;> split <;> omega
    · have ih := countP_drop hn.2 fun z hz hp hne => h z (List.mem_cons_of_mem _ hz) hp hne
      have h1 : p a = true → q a = true := fun hp => h a List.mem_cons_self hp ha
      split
      · rename_i hp
        rw [if_pos (h1 hp)]
        omega
      · split <;> omega
theorem countP_more {p q : Nat → Bool} {z : Nat} : ∀ {L : List Nat}, (∀ x ∈ L, p x = true → q x = true) → z ∈ L → q z = true → p z = false → L.countP p + 1 ≤ L.countP q
  | [], _, hz, _, _ => by cases hz
  | a :: L, h, hz, h1, h2 => by
    rw [List.countP_cons, List.countP_cons]
    have hm : L.countP p ≤ L.countP q := List.countP_mono_left fun x hx hp => h x (List.mem_cons_of_mem _ hx) hp
    rcases List.mem_cons.mp hz with rfl | hz
    · rw [h1, h2]; simp; omega
    · have ih := countP_more (fun x hx hp => h x (List.mem_cons_of_mem _ hx) hp) hz h1 h2
      have := h a List.mem_cons_self
      split
      · rename_i hp
        rw [if_pos (this hp)]; omega
      · split <;> omega
def cntL (n : Nat) (l : List Nat) : Nat := (List.range n).countP fun v => decide (v ∈ l)
theorem cnt_step (n : Nat) (l : List Nat) (p : Nat × Nat) : cntL n l ≤ cntL n (labS l p) + 1 := by
  refine countP_drop (u := l.getD p.1 0) List.nodup_range fun z _ hz hne => ?_
  simp only [decide_eq_true_eq] at hz ⊢
  exact List.mem_map.mpr ⟨z, hz, by rw [if_neg hne]⟩
theorem lab_null {l : List Nat} {p : Nat × Nat} (h : l.getD p.1 0 = l.getD p.2 0) : labS l p = l := by
  unfold labS
  rw [h]
  have : ∀ z ∈ l, (if z = l.getD p.2 0 then l.getD p.2 0 else z) = id z := fun z _ => by
    split
    · rename_i e; exact e.symm
    · rfl
  rw [List.map_congr_left this, List.map_id]
theorem labS_getD {l : List Nat} {q : Nat × Nat} {x : Nat} (h : x < l.length) : (labS l q).getD x 0 = if l.getD x 0 = l.getD q.1 0 then l.getD q.2 0 else l.getD x 0 := by
  unfold labS
  rw [List.getD_eq_getElem?_getD, List.getElem?_map, getD_of h]
  rfl
theorem cnt_start (n : Nat) : cntL n (labL n []) = n := by
  unfold cntL labL
  have : (List.range n).countP (fun v => decide (v ∈ List.range n)) = (List.range n).length := List.countP_eq_length.mpr fun z hz => by simpa using hz
  simpa using this
theorem Tree.sound {E : List (Nat × Nat)} (h : Tree E) : Sound E := by
  refine ⟨h.lt, fun i0 p0 hp0 hnull => ?_⟩
  have hi0 := (List.getElem?_eq_some_iff.mp hp0).1
  have c1 : ∀ i, i ≤ E.length → E.length + 1 ≤ cntL (E.length + 1) (labL (E.length + 1) (E.take i)) + i := by
    intro i
    induction i with
    | zero => intro _; rw [List.take_zero, cnt_start]; omega
    | succ i ih =>
      intro hi
      have := ih (by omega)
      have hq : E[i]? = some E[i] := List.getElem?_eq_getElem (by omega)
      rw [labL_step hq]
      have := cnt_step (E.length + 1) (labL (E.length + 1) (E.take i)) E[i]
      omega
  have c2 : ∀ j, i0 + 1 + j ≤ E.length → E.length + 2 ≤ cntL (E.length + 1) (labL (E.length + 1) (E.take (i0 + 1 + j))) + (i0 + 1 + j) := by
    intro j
    induction j with
    | zero =>
      intro _
      have := c1 i0 (by omega)
      rw [Nat.add_zero, labL_step hp0, lab_null hnull]
      omega
    | succ j ih =>
      intro hj
      have := ih (by omega)
      have hq : E[i0 + 1 + j]? = some E[i0 + 1 + j] := List.getElem?_eq_getElem (by omega)
      rw [show i0 + 1 + (j + 1) = i0 + 1 + j + 1 by omega, labL_step hq]
      have := cnt_step (E.length + 1) (labL (E.length + 1) (E.take (i0 + 1 + j))) E[i0 + 1 + j]
      omega
  have c3 := c2 (E.length - (i0 + 1)) (by omega)
  rw [show i0 + 1 + (E.length - (i0 + 1)) = E.length by omega, List.take_length] at c3
  have same : ∀ i, i ≤ E.length → ∀ j p, j < i → E[j]? = some p → (labL (E.length + 1) (E.take i)).getD p.1 0 = (labL (E.length + 1) (E.take i)).getD p.2 0 := by
    intro i
    induction i with
    | zero => intro _ j p hj _; omega
    | succ i ih =>
      intro hi j p hj hp
      have hq : E[i]? = some E[i] := List.getElem?_eq_getElem (by omega)
      obtain ⟨h1, h2⟩ := h.lt p (List.mem_of_getElem? hp)
      rw [labL_step hq, labS_getD (by rw [labL_length]; exact h1), labS_getD (by rw [labL_length]; exact h2)]
      by_cases e : j < i
      · rw [ih (by omega) j p e hp]
      · have : j = i := by omega
        subst this
        rw [hq] at hp
        cases hp
        rw [if_pos rfl]
        split <;> rfl
  have one : ∀ x y, Con E x y → (labL (E.length + 1) E).getD x 0 = (labL (E.length + 1) E).getD y 0 := by
    intro x y c
    induction c with
    | refl => rfl
    | step _ hs ih =>
      rw [ih]
      rcases hs with hs | hs
      · obtain ⟨j, hj⟩ := List.mem_iff_getElem?.mp hs
        have := same E.length (Nat.le_refl _) j _ (List.getElem?_eq_some_iff.mp hj).1 hj
        rw [List.take_length] at this
        exact this
      · obtain ⟨j, hj⟩ := List.mem_iff_getElem?.mp hs
        have := same E.length (Nat.le_refl _) j _ (List.getElem?_eq_some_iff.mp hj).1 hj
        rw [List.take_length] at this
        exact this.symm
  have c4 : cntL (E.length + 1) (labL (E.length + 1) E) ≤ 1 := by
    have : cntL (E.length + 1) (labL (E.length + 1) E) ≤ (List.range (E.length + 1)).countP (fun _ => false) + 1 := by
      refine countP_drop (u := (labL (E.length + 1) E).getD 0 0) List.nodup_range fun z _ hz hne => ?_
      exfalso
      simp only [decide_eq_true_eq] at hz
      obtain ⟨j, hj⟩ := List.mem_iff_getElem?.mp hz
      have hjl := (List.getElem?_eq_some_iff.mp hj).1
      rw [labL_length] at hjl
      have := one 0 j (h.con j hjl)
      rw [getD_of (by rw [labL_length]; exact hjl)] at hj
      exact hne ((Option.some.inj hj).symm.trans this.symm)
    simpa using this
  omega
/-! ### distances -/
theorem mem_doorsS (M : List (List Nat)) (p : Nat × Nat) {x : Nat} {l : List Nat} (h : (doorsS M p)[x]? = some l) : ∃ l0, M[x]? = some l0 ∧ ∀ y, y ∈ l ↔ y ∈ l0 ∨ (x, y) = p ∨ (y, x) = p := by
  unfold doorsS at h
  rw [List.getElem?_modify, List.getElem?_modify] at h
  cases e : M[x]? with
  | none => rw [e] at h; cases h
  | some l0 =>
    rw [e] at h
    refine ⟨l0, rfl, fun y => ?_⟩
    obtain ⟨a, b⟩ := p
    have h' := Option.some.inj h
    subst h'
    by_cases h1 : a = x <;> by_cases h2 : b = x <;> simp [h1, h2, eq_comm] <;> grind
theorem mem_doors {n : Nat} {E : List (Nat × Nat)} {x : Nat} {l : List Nat} (h : (doorsL n E)[x]? = some l) (y : Nat) : y ∈ l ↔ (x, y) ∈ E ∨ (y, x) ∈ E := by
  have : ∀ (E : List (Nat × Nat)) (M : List (List Nat)) (l : List Nat), (E.foldl doorsS M)[x]? = some l → ∃ l0, M[x]? = some l0 ∧ (y ∈ l ↔ y ∈ l0 ∨ (x, y) ∈ E ∨ (y, x) ∈ E) := by
    intro E
    induction E with
    | nil => intro M l h; exact ⟨l, h, by simp⟩
    | cons p E ih =>
      intro M l h
      obtain ⟨l1, h1, h2⟩ := ih _ l h
      obtain ⟨l0, h3, h4⟩ := mem_doorsS M p h1
      refine ⟨l0, h3, ?_⟩
      rw [h2, h4 y, List.mem_cons, List.mem_cons]
      grind
  obtain ⟨l0, h1, h2⟩ := this E _ l h
  have : l0 = [] := (List.mem_replicate.mp (List.mem_of_getElem? h1)).2
  rw [h2, this]
  simp
def Rk (nb : List (List Nat)) (s : Nat) : Nat → Nat → Prop
  | 0, y => y = s
  | k + 1, y => Rk nb s k y ∨ ∃ x l, Rk nb s k x ∧ nb[x]? = some l ∧ y ∈ l
theorem Rk.mono {nb : List (List Nat)} {s j k y : Nat} (h : Rk nb s j y) (l : j ≤ k) : Rk nb s k y := by
  induction l with
  | refl => exact h
  | step _ ih => exact .inl ih
theorem least_of {P : Nat → Prop} (h : ∃ k, P k) : ∃ k, P k ∧ ∀ j, j < k → ¬ P j := by
  obtain ⟨k, hk⟩ := h
  induction k using Nat.strongRecOn with
  | ind k ih =>
    by_cases e : ∃ j, j < k ∧ P j
    · obtain ⟨j, hj, hp⟩ := e
      exact ih j hj hp
    · exact ⟨k, hk, fun j hj hp => e ⟨j, hj, hp⟩⟩
theorem dist_ex {n : Nat} {nb : List (List Nat)} {s : Nat} (hs : s < n) (len : nb.length = n) (lt : ∀ (x y : Nat) l, nb[x]? = some l → y ∈ l → y < n) (con : ∀ y, y < n → ∃ k, Rk nb s k y) : ∃ d, Dist n nb s d := by
  have h0 : ∀ y, ∃ k, y < n → Rk nb s k y ∧ ∀ j, j < k → ¬ Rk nb s j y := fun y => by
    by_cases hy : y < n
    · obtain ⟨k, h⟩ := least_of (con y hy)
      exact ⟨k, fun _ => h⟩
    · exact ⟨0, fun h => absurd h hy⟩
  obtain ⟨d, hd⟩ := Classical.axiomOfChoice h0
  have lx : ∀ x l, nb[x]? = some l → x < n := fun x l h => by rw [← len]; exact (List.getElem?_eq_some_iff.mp h).1
  have le : ∀ y k, y < n → Rk nb s k y → d y ≤ k := fun y k hy h => Nat.le_of_not_lt fun hlt => (hd y hy).2 k hlt h
  have pre : ∀ y k, y < n → d y = k + 1 → ∃ x l, nb[x]? = some l ∧ y ∈ l ∧ d x = k := by
    intro y k hy e
    obtain ⟨h1, h2⟩ := hd y hy
    rw [e] at h1 h2
    rcases h1 with h1 | ⟨x, l, hx, hl, hm⟩
    · exact absurd h1 (h2 k (by omega))
    · refine ⟨x, l, hl, hm, ?_⟩
      have hxn := lx x l hl
      have := le x k hxn hx
      by_cases hk : d x = k
      · exact hk
      · exfalso
        exact h2 (d x + 1) (by omega) (.inr ⟨x, l, (hd x hxn).1, hl, hm⟩)
  have all : ∀ m y, y < n → d y = m → ∀ j, j ≤ m → ∃ z, z < n ∧ d z = j := by
    intro m
    induction m with
    | zero => intro y hy e j hj; exact ⟨y, hy, by omega⟩
    | succ m ih =>
      intro y hy e j hj
      by_cases hjm : j = m + 1
      · exact ⟨y, hy, by omega⟩
      · obtain ⟨x, l, h1, h2, h3⟩ := pre y m hy e
        exact ih x (lx x l h1) h3 j (by omega)
  have d0 : d s = 0 := Nat.le_zero.mp (le s 0 hs rfl)
  have many : ∀ y, y < n → ∀ j, j ≤ d y → j + 1 ≤ (List.range n).countP fun z => decide (d z ≤ j) := by
    intro y hy j
    induction j with
    | zero =>
      intro _
      exact List.countP_pos_iff.mpr ⟨s, List.mem_range.mpr hs, by simp [d0]⟩
    | succ j ih =>
      intro hj
      obtain ⟨z, hz, e⟩ := all (d y) y hy rfl (j + 1) hj
      have := countP_more (p := fun z => decide (d z ≤ j)) (q := fun z => decide (d z ≤ j + 1)) (z := z) (L := List.range n) (fun x _ hx => by simp at hx ⊢; omega) (List.mem_range.mpr hz) (by simp; omega) (by simp; omega)
      have := ih (by omega)
      omega
  refine ⟨d, len, lt, ⟨hs, d0⟩, fun y hy e => ?_, fun x y l h1 h2 => ?_, pre, fun y hy => ?_⟩
  · have := (hd y hy).1
    rw [e] at this
    exact this
  · exact le y _ (lt x y l h1 h2) (.inr ⟨x, l, (hd x (lx x l h1)).1, h1, h2⟩)
  · have h1 := many y hy (d y) (Nat.le_refl _)
    have h2 : (List.range n).countP (fun z => decide (d z ≤ d y)) ≤ n := by
      have := List.countP_le_length (p := fun z => decide (d z ≤ d y)) (l := List.range n)
      simpa using this
    omega
theorem norm_mem {E : List (Nat × Nat)} {x y : Nat} (h : (x, y) ∈ E) : (x, y) ∈ inOrd E ∨ (y, x) ∈ inOrd E := by
  have : norm (x, y) ∈ inOrd E := (inOrd_perm E).mem_iff.mpr (List.mem_map.mpr ⟨_, h, rfl⟩)
  simp only [norm] at this
  by_cases hxy : x ≤ y
  · rw [Nat.min_eq_left hxy, Nat.max_eq_right hxy] at this; exact .inl this
  · rw [Nat.min_eq_right (by omega), Nat.max_eq_left (by omega)] at this; exact .inr this
theorem Tree.dists {E : List (Nat × Nat)} (h : Tree E) : ∃ d, Dists E d := by
  have hs := h.sound
  have lt : ∀ (x y : Nat) l, (doorsL (E.length + 1) (inOrd E))[x]? = some l → y ∈ l → y < E.length + 1 := fun x y l h1 h2 => by
    rcases (mem_doors h1 y).mp h2 with h3 | h3
    · exact (hs.ord _ h3).2.1
    · exact (hs.ord _ h3).1
  have step : ∀ s k y z, z < E.length + 1 → y < E.length + 1 → Rk (doorsL (E.length + 1) (inOrd E)) s k y → ((y, z) ∈ E ∨ (z, y) ∈ E) → Rk (doorsL (E.length + 1) (inOrd E)) s (k + 1) z := by
    intro s k y z hz hy hr he
    have hl : (doorsL (E.length + 1) (inOrd E))[y]? = some _ := List.getElem?_eq_getElem (by rw [doorsL_length]; exact hy)
    refine .inr ⟨y, _, hr, hl, (mem_doors hl z).mpr ?_⟩
    rcases he with he | he
    · exact norm_mem he
    · exact (norm_mem he).symm
  have con : ∀ x y, x < E.length + 1 → Con E x y → y < E.length + 1 ∧ ∃ k, Rk (doorsL (E.length + 1) (inOrd E)) x k y := by
    intro x y hx c
    induction c with
    | refl => exact ⟨hx, 0, rfl⟩
    | @step y z _ he ih =>
      obtain ⟨hy, k, hr⟩ := ih
      have hz : z < E.length + 1 := by
        rcases he with he | he
        · exact (h.lt _ he).2
        · exact (h.lt _ he).1
      exact ⟨hz, k + 1, step _ _ _ _ hz hy hr he⟩
  have ex : ∀ x, ∃ d, x < E.length + 1 → Dist (E.length + 1) (doorsL (E.length + 1) (inOrd E)) x d := fun x => by
    by_cases hx : x < E.length + 1
    · obtain ⟨d, hd⟩ := dist_ex hx (doorsL_length _ _) lt fun y hy => (con x y hx ((h.con x hx).symm.trans (h.con y hy))).2
      exact ⟨d, fun _ => hd⟩
    · exact ⟨fun _ => 0, fun hh => absurd hh hx⟩
  obtain ⟨d, hd⟩ := Classical.axiomOfChoice ex
  exact ⟨d, ⟨hd⟩⟩
end V

set_option Elab.async false
set_option linter.all false
/-! A tree with a house more; a tree with a last house elsewhere. -/
namespace V
open DL
theorem Tree.more {E : List (Nat × Nat)} (h : Tree E) {r : Nat} (hr : r < E.length + 1) : Tree (E ++ [(E.length + 1, r)]) ∧ inOrd (E ++ [(E.length + 1, r)]) ≠ inOrd E := by
  have hl : (E ++ [(E.length + 1, r)]).length = E.length + 1 := by simp
  refine ⟨⟨fun p hp => ?_, fun x hx => ?_⟩, fun e => ?_⟩
  · rw [hl]
    rcases List.mem_append.mp hp with hp | hp
    · have := h.lt p hp; omega
    · rw [List.mem_singleton.mp hp]; constructor <;> omega
  · rw [hl] at hx
    have mono : ∀ {x y}, Con E x y → Con (E ++ [(E.length + 1, r)]) x y := fun c => c.mono fun p hp => .inl (List.mem_append_left _ hp)
    by_cases e : x < E.length + 1
    · exact mono (h.con x e)
    · have : x = E.length + 1 := by omega
      subst this
      exact .step (mono (h.con r hr)) (.inr (List.mem_append_right _ List.mem_cons_self))
  · have := congrArg List.length e
    rw [inOrd_length, inOrd_length, hl] at this
    omega
theorem one_of {α : Type} {p : α → Bool} {l : List α} (h : l.countP p ≤ 1) {x y : α} (hx : x ∈ l) (hy : y ∈ l) (px : p x = true) (py : p y = true) : x = y := by
  rw [List.countP_eq_length_filter] at h
  have h1 : x ∈ l.filter p := List.mem_filter.mpr ⟨hx, px⟩
  have h2 : y ∈ l.filter p := List.mem_filter.mpr ⟨hy, py⟩
  match e : l.filter p, h with
  | [], _ => rw [e] at h1; cases h1
  | [z], _ =>
    rw [e] at h1 h2
    rw [List.mem_singleton.mp h1, List.mem_singleton.mp h2]
theorem Tree.moved {E : List (Nat × Nat)} (h : Tree E) {k z : Nat} {q : Nat × Nat} (hc : (E.map Prod.fst ++ E.map Prod.snd).count k = 1) (hq : q ∈ E) (hkq : k = q.1 ∨ k = q.2) (hz : z < E.length + 1) (h1 : z ≠ q.1) (h2 : z ≠ q.2) :
    (E.filter (fun p => decide (p ≠ q)) ++ [(k, z)]).length = E.length ∧ Tree (E.filter (fun p => decide (p ≠ q)) ++ [(k, z)]) ∧ inOrd (E.filter (fun p => decide (p ≠ q)) ++ [(k, z)]) ≠ inOrd E := by
  have hne := h.sound.ne hq
  have hk1 : E.countP (fun p => decide (p.1 = k ∨ p.2 = k)) ≤ 1 := by
    have e : ∀ L : List (Nat × Nat), L.countP (fun p => decide (p.1 = k ∨ p.2 = k)) ≤ (L.map Prod.fst).count k + (L.map Prod.snd).count k := by
      intro L
      induction L with
      | nil => simp
      | cons p L ih =>
        rw [List.countP_cons, List.map_cons, List.map_cons, List.count_cons, List.count_cons]
        simp only [decide_eq_true_eq, beq_iff_eq]
        split <;> split <;> split <;> omega
    have := e E
    rw [List.count_append] at hc
    omega
  have uniq : ∀ p ∈ E, (p.1 = k ∨ p.2 = k) → p = q := fun p hp hpk => one_of hk1 hp hq (by simpa using hpk) (by simp; omega)
  have len : (E.filter (fun p => decide (p ≠ q))).length + 1 = E.length := by
    have e1 := List.length_eq_countP_add_countP (fun p => decide (p = q)) (l := E)
    have e2 : E.countP (fun p => decide (p = q)) ≤ E.countP (fun p => decide (p.1 = k ∨ p.2 = k)) := List.countP_mono_left fun p _ hp => by
      simp only [decide_eq_true_eq] at hp ⊢
      rw [hp]; omega
    have e3 : 0 < E.countP (fun p => decide (p = q)) := List.countP_pos_iff.mpr ⟨q, hq, by simp⟩
    have e4 : E.countP (fun p => decide ¬(decide (p = q)) = true) = (E.filter (fun p => decide (p ≠ q))).length := by
      rw [List.countP_eq_length_filter]
      congr 1
      refine List.filter_congr fun p _ => ?_
      simp
    omega
  have hl : (E.filter (fun p => decide (p ≠ q)) ++ [(k, z)]).length = E.length := by rw [List.length_append]; exact len
  have hkl : k < E.length + 1 := by have := h.lt q hq; omega
  generalize hE' : E.filter (fun p => decide (p ≠ q)) ++ [(k, z)] = E' at hl ⊢
  have inE : ∀ p ∈ E, p ≠ q → p ∈ E' := fun p hp hpq => by
    rw [← hE']
    exact List.mem_append_left _ (List.mem_filter.mpr ⟨hp, by simpa using hpq⟩)
  have kz : (k, z) ∈ E' := by rw [← hE']; exact List.mem_append_right _ List.mem_cons_self
  obtain ⟨a, hab, hak⟩ : ∃ a, (q = (k, a) ∨ q = (a, k)) ∧ a ≠ k := by
    obtain ⟨x, y⟩ := q
    rcases hkq with e | e
    · exact ⟨y, .inl (by simp_all), by simp_all; omega⟩
    · exact ⟨x, .inr (by simp_all), by simp_all⟩
  have hal : a < E.length + 1 := by have := h.lt q hq; rcases hab with e | e <;> rw [e] at this <;> exact (by omega)
  have edge : ∀ y w, ((y, w) ∈ E ∨ (w, y) ∈ E) → Con E' (if y = k then a else y) (if w = k then a else w) := by
    intro y w he
    by_cases hyk : y = k
    · subst hyk
      have : (y, w) = q ∨ (w, y) = q := by
        rcases he with he | he
        · exact .inl (uniq _ he (.inl rfl))
        · exact .inr (uniq _ he (.inr rfl))
      have hwa : w = a := by
        rcases this with e | e <;> rcases hab with e' | e' <;> rw [e'] at e <;> simp at e <;> omega
      rw [if_pos rfl, hwa, if_neg hak]
      exact .refl _
    · by_cases hwk : w = k
      · subst hwk
        have : (y, w) = q ∨ (w, y) = q := by
          rcases he with he | he
          · exact .inl (uniq _ he (.inr rfl))
          · exact .inr (uniq _ he (.inl rfl))
        have hya : y = a := by
          rcases this with e | e <;> rcases hab with e' | e' <;> rw [e'] at e <;> simp at e <;> omega
        rw [if_pos rfl, if_neg hyk, hya]
        exact .refl _
      · rw [if_neg hyk, if_neg hwk]
        refine Con.edge ?_
        rcases he with he | he
        · exact .inl (inE _ he fun e => by rcases hab with e' | e' <;> rw [e'] at e <;> simp at e <;> omega)
        · exact .inr (inE _ he fun e => by rcases hab with e' | e' <;> rw [e'] at e <;> simp at e <;> omega)
  have ret : ∀ x y, Con E x y → Con E' (if x = k then a else x) (if y = k then a else y) := by
    intro x y c
    induction c with
    | refl => exact .refl _
    | step _ he ih => exact ih.trans (edge _ _ he)
  have zk : z ≠ k := by omega
  have far : ∀ x, x < E.length + 1 → x ≠ k → Con E' a x := fun x hx hxk => by
    have := ret k x ((h.con k hkl).symm.trans (h.con x hx))
    rw [if_pos rfl, if_neg hxk] at this
    exact this
  have all : ∀ x, x < E.length + 1 → Con E' a x := fun x hx => by
    by_cases hxk : x = k
    · subst hxk
      exact .step (far z hz zk) (.inr kz)
    · exact far x hx hxk
  refine ⟨hl, ⟨fun p hp => ?_, fun x hx => ?_⟩, fun e => ?_⟩
  · rw [hl]
    rw [← hE'] at hp
    rcases List.mem_append.mp hp with hp | hp
    · exact h.lt p (List.mem_filter.mp hp).1
    · rw [List.mem_singleton.mp hp]; exact ⟨hkl, hz⟩
  · rw [hl] at hx
    exact (all 0 (by omega)).symm.trans (all x hx)
  · have m1 : norm (k, z) ∈ inOrd E' := (inOrd_perm E').mem_iff.mpr (List.mem_map.mpr ⟨_, kz, rfl⟩)
    rw [e] at m1
    obtain ⟨p, hp, ep⟩ := List.mem_map.mp ((inOrd_perm E).mem_iff.mp m1)
    simp only [norm, Prod.mk.injEq] at ep
    have hpk : p.1 = k ∨ p.2 = k := by omega
    have := uniq p hp hpk
    subst this
    omega
end V

set_option Elab.async false
set_option linter.all false
/-! How far houses of a tree are apart: each house but 0 has a parent; of two houses the deeper one's way to the other goes by its parent. -/
namespace V
open DL
def Adj (E : List (Nat × Nat)) (x y : Nat) : Prop := (x, y) ∈ E ∨ (y, x) ∈ E
theorem Adj.symm {E : List (Nat × Nat)} {x y : Nat} (h : Adj E x y) : Adj E y x := Or.symm h
theorem inOrd_adj {E : List (Nat × Nat)} {x y : Nat} : ((x, y) ∈ inOrd E ∨ (y, x) ∈ inOrd E) ↔ Adj E x y := by
  have key : ∀ {x y}, (x, y) ∈ inOrd E → Adj E x y := fun {x y} h => by
    obtain ⟨⟨a, b⟩, hq, e⟩ := List.mem_map.mp ((inOrd_perm E).mem_iff.mp h)
    simp only [norm, Prod.mk.injEq] at e
    by_cases hab : a ≤ b
    · have e1 : a = x := by omega
      have e2 : b = y := by omega
      subst e1; subst e2; exact .inl hq
    · have e1 : b = x := by omega
      have e2 : a = y := by omega
      subst e1; subst e2; exact .inr hq
  constructor
  · rintro (h | h)
    · exact key h
    · exact (key h).symm
  · rintro (h | h)
    · exact norm_mem h
    · exact (norm_mem h).symm
inductive Wk (E : List (Nat × Nat)) : Nat → Nat → Nat → Prop
  | refl (x : Nat) : Wk E 0 x x
  | step {k x y z : Nat} : Wk E k x y → Adj E y z → Wk E (k + 1) x z
theorem Wk.front {E : List (Nat × Nat)} {k x y z : Nat} (h : Adj E x y) (w : Wk E k y z) : Wk E (k + 1) x z := by
  induction w with
  | refl => exact .step (.refl x) h
  | step _ a ih => exact .step (ih h) a
theorem Wk.symm {E : List (Nat × Nat)} {k x y : Nat} (w : Wk E k x y) : Wk E k y x := by
  induction w with
  | refl => exact .refl _
  | step _ a ih => exact ih.front a.symm
section
variable {E : List (Nat × Nat)} {d : Nat → Nat → Nat}
theorem adj_lt (h : Tree E) {x y : Nat} (a : Adj E x y) : x < E.length + 1 ∧ y < E.length + 1 := by
  rcases a with a | a
  · exact h.lt _ a
  · exact (h.lt _ a).symm
theorem doors_adj {x y : Nat} {l : List Nat} (h : (doorsL (E.length + 1) (inOrd E))[x]? = some l) : y ∈ l ↔ Adj E x y := (mem_doors h y).trans inOrd_adj
theorem doors_at {x : Nat} (hx : x < E.length + 1) : ∃ l, (doorsL (E.length + 1) (inOrd E))[x]? = some l := ⟨_, List.getElem?_eq_getElem (by rw [doorsL_length]; exact hx)⟩
theorem d_step_le (h : Tree E) (hd : Dists E d) {s x y : Nat} (hs : s < E.length + 1) (a : Adj E x y) : d s y ≤ d s x + 1 := by
  obtain ⟨l, hl⟩ := doors_at (E := E) (adj_lt h a).1
  exact (hd.at_ s hs).step x y l hl ((doors_adj hl).mpr a)
theorem d_pre (h : Tree E) (hd : Dists E d) {s y k : Nat} (hs : s < E.length + 1) (hy : y < E.length + 1) (e : d s y = k + 1) : ∃ x, x < E.length + 1 ∧ Adj E x y ∧ d s x = k := by
  obtain ⟨x, l, h1, h2, h3⟩ := (hd.at_ s hs).pre y k hy e
  exact ⟨x, (adj_lt h ((doors_adj h1).mp h2)).1, (doors_adj h1).mp h2, h3⟩
theorem d_self (hd : Dists E d) {x : Nat} (hx : x < E.length + 1) : d x x = 0 := (hd.at_ x hx).s0.2
theorem d_zero (hd : Dists E d) {x y : Nat} (hx : x < E.length + 1) (hy : y < E.length + 1) (e : d x y = 0) : y = x := (hd.at_ x hx).zero y hy e
theorem d_walk (h : Tree E) (hd : Dists E d) {s : Nat} (hs : s < E.length + 1) : ∀ k y, y < E.length + 1 → d s y = k → Wk E k s y := by
  intro k
  induction k with
  | zero =>
    intro y hy e
    rw [d_zero hd hs hy e]
    exact .refl _
  | succ k ih =>
    intro y hy e
    obtain ⟨x, hx, a, e2⟩ := d_pre h hd hs hy e
    exact .step (ih x hx e2) a
theorem walk_d (h : Tree E) (hd : Dists E d) {k s y : Nat} (hs : s < E.length + 1) (w : Wk E k s y) : d s y ≤ k := by
  induction w with
  | refl => rw [d_self hd hs]; exact Nat.le_refl 0
  | step _ a ih => exact Nat.le_trans (d_step_le h hd hs a) (Nat.succ_le_succ (ih hs))
theorem d_symm (h : Tree E) (hd : Dists E d) {x y : Nat} (hx : x < E.length + 1) (hy : y < E.length + 1) : d x y = d y x :=
  Nat.le_antisymm (walk_d h hd hx (d_walk h hd hy _ x hx rfl).symm) (walk_d h hd hy (d_walk h hd hx _ y hy rfl).symm)
theorem sub_len {α : Type} [DecidableEq α] : ∀ {L M : List α}, L.Nodup → (∀ x ∈ L, x ∈ M) → L.length ≤ M.length
  | [], _, _, _ => Nat.zero_le _
  | x :: L, M, hn, hs => by
    rw [List.nodup_cons] at hn
    have hx := hs x List.mem_cons_self
    have ih := sub_len (L := L) (M := M.erase x) hn.2 fun y hy => (List.mem_erase_of_ne fun e => by subst e; exact hn.1 hy).mpr (hs y (List.mem_cons_of_mem _ hy))
    rw [List.length_erase_of_mem hx] at ih
    have : 0 < M.length := List.length_pos_of_mem hx
    rw [List.length_cons]
    omega
/-- the parent of each house -/
theorem parents (h : Tree E) (hd : Dists E d) : ∃ p : Nat → Nat, (∀ x, x < E.length + 1 → x ≠ 0 → p x < E.length + 1 ∧ Adj E (p x) x ∧ d 0 (p x) + 1 = d 0 x) ∧ ∀ x y, Adj E x y → (y ≠ 0 ∧ p y = x) ∨ (x ≠ 0 ∧ p x = y) := by
  have h0 : 0 < E.length + 1 := Nat.succ_pos _
  have ex : ∀ x, ∃ q, x < E.length + 1 → x ≠ 0 → q < E.length + 1 ∧ Adj E q x ∧ d 0 q + 1 = d 0 x := fun x => by
    by_cases hx : x < E.length + 1 ∧ x ≠ 0
    · have hpos : d 0 x ≠ 0 := fun e => hx.2 (d_zero hd h0 hx.1 e)
      obtain ⟨k, hk⟩ := Nat.exists_eq_succ_of_ne_zero hpos
      obtain ⟨q, h1, h2, h3⟩ := d_pre h hd h0 hx.1 hk
      exact ⟨q, fun _ _ => ⟨h1, h2, by omega⟩⟩
    · exact ⟨0, fun a b => absurd ⟨a, b⟩ hx⟩
  obtain ⟨p, hp⟩ := Classical.axiomOfChoice ex
  refine ⟨p, hp, ?_⟩
  -- the edge of x, as it stands in E
  have edge : ∀ x, ∃ q : Nat × Nat, x < E.length + 1 → x ≠ 0 → q ∈ E ∧ (q = (p x, x) ∨ q = (x, p x)) := fun x => by
    by_cases hx : x < E.length + 1 ∧ x ≠ 0
    · rcases (hp x hx.1 hx.2).2.1 with a | a
      · exact ⟨_, fun _ _ => ⟨a, .inl rfl⟩⟩
      · exact ⟨_, fun _ _ => ⟨a, .inr rfl⟩⟩
    · exact ⟨(0, 0), fun a b => absurd ⟨a, b⟩ hx⟩
  obtain ⟨g, hg⟩ := Classical.axiomOfChoice edge
  have inj : ∀ x y, x < E.length + 1 → x ≠ 0 → y < E.length + 1 → y ≠ 0 → g x = g y → x = y := fun x y hx hx0 hy hy0 e => by
    have h1 := (hg x hx hx0).2
    have h2 := (hg y hy hy0).2
    have h3 := (hp x hx hx0).2.2
    have h4 := (hp y hy hy0).2.2
    rw [e] at h1
    rcases h1 with h1 | h1 <;> rcases h2 with h2 | h2 <;> rw [h1] at h2 <;> simp only [Prod.mk.injEq] at h2 <;> obtain ⟨e1, e2⟩ := h2
    · exact e2
    · rw [e1] at h3; rw [← e2] at h4; omega
    · rw [e2] at h3; rw [← e1] at h4; omega
    · exact e1
  intro x y a
  have surj : ∀ q ∈ E, ∃ z, z < E.length + 1 ∧ z ≠ 0 ∧ g z = q := fun q hq => by
    refine Classical.byContradiction fun hno => ?_
    have hn : ((List.range E.length).map fun i => g (i + 1)).Nodup := by
      refine List.pairwise_map.mpr (List.Pairwise.imp_of_mem (fun {i j} hi hj hne e => ?_) (List.nodup_range (n := E.length)))
      have := inj (i + 1) (j + 1) (by have := List.mem_range.mp hi; omega) (by omega) (by have := List.mem_range.mp hj; omega) (by omega) e
      omega
    have hnot : q ∉ (List.range E.length).map fun i => g (i + 1) := fun hm => by
      obtain ⟨i, hi, e⟩ := List.mem_map.mp hm
      exact hno ⟨i + 1, by have := List.mem_range.mp hi; omega, by omega, e⟩
    have := sub_len (L := q :: (List.range E.length).map fun i => g (i + 1)) (M := E) (List.nodup_cons.mpr ⟨hnot, hn⟩) fun z hz => by
      rcases List.mem_cons.mp hz with rfl | hz
      · exact hq
      · obtain ⟨i, hi, e⟩ := List.mem_map.mp hz
        rw [← e]
        exact (hg (i + 1) (by have := List.mem_range.mp hi; omega) (by omega)).1
    rw [List.length_cons, List.length_map, List.length_range] at this
    omega
  have fin : ∀ {x y : Nat} (q : Nat × Nat), q = (x, y) → q ∈ E → (y ≠ 0 ∧ p y = x) ∨ (x ≠ 0 ∧ p x = y) := fun {x y} q e hq => by
    obtain ⟨z, hz, hz0, ez⟩ := surj q hq
    have h1 := (hg z hz hz0).2
    rw [ez, e] at h1
    rcases h1 with h1 | h1 <;> simp only [Prod.mk.injEq] at h1 <;> obtain ⟨e1, e2⟩ := h1
    · subst e2; exact .inl ⟨hz0, e1.symm⟩
    · subst e1; exact .inr ⟨hz0, e2.symm⟩
  rcases a with a | a
  · exact fin (x, y) rfl a
  · exact (fin (y, x) rfl a).symm
/-- the deeper of two houses is one farther from the other than its parent is -/
theorem deeper {p : Nat → Nat} (h : Tree E) (hd : Dists E d) (hp : ∀ x, x < E.length + 1 → x ≠ 0 → p x < E.length + 1 ∧ Adj E (p x) x ∧ d 0 (p x) + 1 = d 0 x) (ha : ∀ x y, Adj E x y → (y ≠ 0 ∧ p y = x) ∨ (x ≠ 0 ∧ p x = y))
    {x y : Nat} (hx : x < E.length + 1) (hy : y < E.length + 1) (hne : x ≠ y) (hf : d 0 y ≤ d 0 x) : x ≠ 0 ∧ d y x = d y (p x) + 1 := by
  have down : ∀ m x x', x < E.length + 1 → x' < E.length + 1 → x' ≠ 0 → p x' = x → d y x = m + 1 → d y x' = m → d 0 y = d 0 x + m + 1 := by
    intro m
    induction m with
    | zero =>
      intro x x' hx hx' h0 e1 e2 e3
      have := d_zero hd hy hx' e3
      subst this
      have := (hp x' hx' h0).2.2
      rw [e1] at this
      omega
    | succ m ih =>
      intro x x' hx hx' h0 e1 e2 e3
      obtain ⟨z, hz, a, e4⟩ := d_pre h hd hy hx' e3
      rcases ha z x' a with ⟨_, b⟩ | ⟨b0, b⟩
      · rw [e1] at b
        subst b
        omega
      · have := ih x' z hx' hz b0 b e3 e4
        have h5 := (hp x' hx' h0).2.2
        rw [e1] at h5
        omega
  have hpos : d y x ≠ 0 := fun e => hne (d_zero hd hy hx e)
  obtain ⟨k, hk⟩ := Nat.exists_eq_succ_of_ne_zero hpos
  obtain ⟨z, hz, a, e4⟩ := d_pre h hd hy hx hk
  rcases ha z x a with ⟨hx0, b⟩ | ⟨b0, b⟩
  · refine ⟨hx0, ?_⟩
    rw [b, e4, hk]
  · have := down k x z hx hz b0 b hk e4
    omega
end
end V

set_option Elab.async false
set_option linter.all false
/-! Four houses of a tree: of the three sums of two ways the two greatest are the same; three ways together are even. -/
namespace V
open DL
section
variable {E : List (Nat × Nat)} {d : Nat → Nat → Nat}
theorem Wk.trans {j k x y z : Nat} (a : Wk E j x y) (b : Wk E k y z) : Wk E (j + k) x z := by
  induction b with
  | refl => exact a
  | step _ e ih => exact .step (ih a) e
theorem d_tri (h : Tree E) (hd : Dists E d) {x y z : Nat} (hx : x < E.length + 1) (hy : y < E.length + 1) (hz : z < E.length + 1) : d x z ≤ d x y + d y z :=
  walk_d h hd hx ((d_walk h hd hx _ y hy rfl).trans (d_walk h hd hy _ z hz rfl))
def Four (d : Nat → Nat → Nat) (w x y z : Nat) : Prop := d w x + d y z ≤ max (d w y + d x z) (d w z + d x y) ∧ d w y + d x z ≤ max (d w x + d y z) (d w z + d x y) ∧ d w z + d x y ≤ max (d w x + d y z) (d w y + d x z)
theorem four (h : Tree E) (hd : Dists E d) : ∀ w x y z, w < E.length + 1 → x < E.length + 1 → y < E.length + 1 → z < E.length + 1 → Four d w x y z := by
  obtain ⟨p, hp, ha⟩ := parents h hd
  have key : ∀ N w x y z, d 0 w + d 0 x + d 0 y + d 0 z = N → w < E.length + 1 → x < E.length + 1 → y < E.length + 1 → z < E.length + 1 → Four d w x y z := by
    intro N
    induction N using Nat.strongRecOn with
    | ind N ih =>
      have core : ∀ w x y z, d 0 w + d 0 x + d 0 y + d 0 z = N → w < E.length + 1 → x < E.length + 1 → y < E.length + 1 → z < E.length + 1 → d 0 x ≤ d 0 w → d 0 y ≤ d 0 w → d 0 z ≤ d 0 w → Four d w x y z := by
        intro w x y z hN hw hx hy hz f1 f2 f3
        have t1 := d_tri h hd hy hw hz
        have t2 := d_tri h hd hx hw hz
        have t3 := d_tri h hd hx hw hy
        have s1 := d_symm h hd hw hx
        have s2 := d_symm h hd hw hy
        have s3 := d_symm h hd hw hz
        have s0 := d_self hd hw
        unfold Four
        by_cases e1 : w = x
        · subst e1; omega
        · by_cases e2 : w = y
          · subst e2; omega
          · by_cases e3 : w = z
            · subst e3; omega
            · obtain ⟨h0, g1⟩ := deeper h hd hp ha hw hx e1 f1
              obtain ⟨_, g2⟩ := deeper h hd hp ha hw hy e2 f2
              obtain ⟨_, g3⟩ := deeper h hd hp ha hw hz e3 f3
              obtain ⟨q1, _, q3⟩ := hp w hw h0
              have := ih (N - 1) (by omega) (p w) x y z (by omega) q1 hx hy hz
              unfold Four at this
              have r1 := d_symm h hd q1 hx
              have r2 := d_symm h hd q1 hy
              have r3 := d_symm h hd q1 hz
              omega
      intro w x y z hN hw hx hy hz
      have s1 := d_symm h hd hw hx
      have s2 := d_symm h hd hw hy
      have s3 := d_symm h hd hw hz
      have s4 := d_symm h hd hx hy
      have s5 := d_symm h hd hx hz
      have s6 := d_symm h hd hy hz
      by_cases m1 : d 0 x ≤ d 0 w ∧ d 0 y ≤ d 0 w ∧ d 0 z ≤ d 0 w
      · exact core w x y z hN hw hx hy hz m1.1 m1.2.1 m1.2.2
      · by_cases m2 : d 0 w ≤ d 0 x ∧ d 0 y ≤ d 0 x ∧ d 0 z ≤ d 0 x
        · have := core x w z y (by omega) hx hw hz hy m2.1 m2.2.2 m2.2.1
          unfold Four at this ⊢
          omega
        · by_cases m3 : d 0 w ≤ d 0 y ∧ d 0 x ≤ d 0 y ∧ d 0 z ≤ d 0 y
          · have := core y z w x (by omega) hy hz hw hx m3.2.2 m3.1 m3.2.1
            unfold Four at this ⊢
            omega
          · have := core z y x w (by omega) hz hy hx hw (by omega) (by omega) (by omega)
            unfold Four at this ⊢
            omega
  exact fun w x y z hw hx hy hz => key _ w x y z rfl hw hx hy hz
theorem three_even (h : Tree E) (hd : Dists E d) : ∀ x y z, x < E.length + 1 → y < E.length + 1 → z < E.length + 1 → (d x y + d y z + d x z) % 2 = 0 := by
  obtain ⟨p, hp, ha⟩ := parents h hd
  have key : ∀ N x y z, d 0 x + d 0 y + d 0 z = N → x < E.length + 1 → y < E.length + 1 → z < E.length + 1 → (d x y + d y z + d x z) % 2 = 0 := by
    intro N
    induction N using Nat.strongRecOn with
    | ind N ih =>
      have core : ∀ x y z, d 0 x + d 0 y + d 0 z = N → x < E.length + 1 → y < E.length + 1 → z < E.length + 1 → d 0 y ≤ d 0 x → d 0 z ≤ d 0 x → (d x y + d y z + d x z) % 2 = 0 := by
        intro x y z hN hx hy hz f1 f2
        have s1 := d_symm h hd hx hy
        have s2 := d_symm h hd hx hz
        have s3 := d_symm h hd hy hz
        have s0 := d_self hd hx
        by_cases e1 : x = y
        · subst e1; omega
        · by_cases e2 : x = z
          · subst e2; omega
          · obtain ⟨h0, g1⟩ := deeper h hd hp ha hx hy e1 f1
            obtain ⟨_, g2⟩ := deeper h hd hp ha hx hz e2 f2
            obtain ⟨q1, _, q3⟩ := hp x hx h0
            have := ih (N - 1) (by omega) (p x) y z (by omega) q1 hy hz
            have r1 := d_symm h hd q1 hy
            have r2 := d_symm h hd q1 hz
            omega
      intro x y z hN hx hy hz
      have s1 := d_symm h hd hx hy
      have s2 := d_symm h hd hx hz
      have s3 := d_symm h hd hy hz
      by_cases m1 : d 0 y ≤ d 0 x ∧ d 0 z ≤ d 0 x
      · exact core x y z hN hx hy hz m1.1 m1.2
      · by_cases m2 : d 0 x ≤ d 0 y ∧ d 0 z ≤ d 0 y
        · have := core y x z (by omega) hy hx hz m2.1 m2.2
          omega
        · have := core z x y (by omega) hz hx hy (by omega) (by omega)
          omega
  exact fun x y z hx hy hz => key _ x y z rfl hx hy hz
end
end V

set_option Elab.async false
set_option linter.all false
/-! The houses of a way; of three houses the one on all three ways; balls that meet two by two. -/
namespace V
open DL
section
variable {E : List (Nat × Nat)} {d : Nat → Nat → Nat}
/-- k steps from x on the way to y -/
theorem on_way (h : Tree E) (hd : Dists E d) {x : Nat} (hx : x < E.length + 1) : ∀ j y, y < E.length + 1 → ∀ k, k + j = d x y → ∃ m, m < E.length + 1 ∧ d x m = k ∧ d m y = j := by
  intro j
  induction j with
  | zero =>
    intro y hy k e
    exact ⟨y, hy, by omega, d_self hd hy⟩
  | succ j ih =>
    intro y hy k e
    obtain ⟨z, hz, a, e2⟩ := d_pre h hd hx hy (k := k + j) (by omega)
    obtain ⟨m, hm, e3, e4⟩ := ih z hz k (by omega)
    refine ⟨m, hm, e3, ?_⟩
    have t1 := d_step_le h hd hm a
    have t2 := d_tri h hd hx hm hy
    omega
/-- two houses of one way, equally far from its beginning, are one -/
theorem way_one (h : Tree E) (hd : Dists E d) {x y m m' : Nat} (hx : x < E.length + 1) (hy : y < E.length + 1) (hm : m < E.length + 1) (hm' : m' < E.length + 1) (e1 : d x m + d m y = d x y) (e2 : d x m' + d m' y = d x y) (e : d x m = d x m') : m = m' := by
  have f := (four h hd m m' x y hm hm' hx hy).1
  have s1 := d_symm h hd hm hx
  have s2 := d_symm h hd hm' hx
  have : d m m' = 0 := by omega
  exact (d_zero hd hm hm' this).symm
theorem median (h : Tree E) (hd : Dists E d) {x y z : Nat} (hx : x < E.length + 1) (hy : y < E.length + 1) (hz : z < E.length + 1) : ∃ m, m < E.length + 1 ∧ 2 * d x m + d y z = d x y + d x z ∧ d x m + d m y = d x y ∧ d x m + d m z = d x z ∧ d y m + d m z = d y z := by
  have ev := three_even h hd x y z hx hy hz
  have t1 := d_tri h hd hy hx hz
  have t2 := d_tri h hd hx hz hy
  have t3 := d_tri h hd hx hy hz
  have s1 := d_symm h hd hx hy
  have s2 := d_symm h hd hx hz
  have s3 := d_symm h hd hy hz
  obtain ⟨k, hk⟩ : ∃ k, 2 * k + d y z = d x y + d x z := ⟨(d x y + d x z - d y z) / 2, by omega⟩
  obtain ⟨m, hm, e1, e2⟩ := on_way h hd hx (d x y - k) y hy k (by omega)
  have f := (four h hd x y z m hx hy hz hm).1
  have t4 := d_tri h hd hx hm hz
  have s4 := d_symm h hd hz hm
  have s5 := d_symm h hd hy hm
  exact ⟨m, hm, by omega, by omega, by omega, by omega⟩
/-- two balls have a house in common just where their middles are no farther apart than their reaches together -/
theorem balls_two (h : Tree E) (hd : Dists E d) {x y r s : Nat} (hx : x < E.length + 1) (hy : y < E.length + 1) : (∃ m, m < E.length + 1 ∧ d x m ≤ r ∧ d y m ≤ s) ↔ d x y ≤ r + s := by
  constructor
  · rintro ⟨m, hm, h1, h2⟩
    have := d_tri h hd hx hm hy
    have := d_symm h hd hm hy
    omega
  · intro hl
    obtain ⟨m, hm, e1, e2⟩ := on_way h hd hx (d x y - min r (d x y)) y hy (min r (d x y)) (by omega)
    have := d_symm h hd hm hy
    exact ⟨m, hm, by omega, by omega⟩
/-- a house m of a ball, and the way's house toward x: farther on is nearer -/
theorem balls_meet (h : Tree E) (hd : Dists E d) : ∀ L : List (Nat × Nat), L ≠ [] → (∀ b ∈ L, b.1 < E.length + 1) → (∀ b ∈ L, ∀ c ∈ L, d b.1 c.1 ≤ b.2 + c.2) → ∃ m, m < E.length + 1 ∧ ∀ b ∈ L, d b.1 m ≤ b.2 := by
  -- root at 0: the ball whose highest house is deepest; that house is in all
  intro L hne hin hmeet
  have h0 : 0 < E.length + 1 := Nat.succ_pos _
  -- the highest house of ball b: r steps toward 0, or 0 itself; its depth is d 0 b - r
  obtain ⟨b, hb, hmax⟩ : ∃ b ∈ L, ∀ c ∈ L, d 0 c.1 - c.2 ≤ d 0 b.1 - b.2 := by
    have : ∀ L : List (Nat × Nat), L ≠ [] → ∃ b ∈ L, ∀ c ∈ L, d 0 c.1 - c.2 ≤ d 0 b.1 - b.2 := by
      intro L
      induction L with
      | nil => intro hh; exact absurd rfl hh
      | cons a L ih =>
        intro _
        by_cases e : L = []
        · subst e
          exact ⟨a, List.mem_cons_self, fun c hc => by rw [List.mem_singleton.mp hc]; exact Nat.le_refl _⟩
        · obtain ⟨b, hb, hm⟩ := ih e
          by_cases hab : d 0 a.1 - a.2 ≤ d 0 b.1 - b.2
          · exact ⟨b, List.mem_cons_of_mem _ hb, fun c hc => by
              rcases List.mem_cons.mp hc with rfl | hc
              · exact hab
              · exact hm c hc⟩
          · exact ⟨a, List.mem_cons_self, fun c hc => by
              rcases List.mem_cons.mp hc with rfl | hc
              · exact Nat.le_refl _
              · have := hm c hc; omega⟩
    exact this L hne
  obtain ⟨m, hm, e1, e2⟩ := on_way h hd h0 (min b.2 (d 0 b.1)) b.1 (hin b hb) (d 0 b.1 - b.2) (by omega)
  refine ⟨m, hm, fun c hc => ?_⟩
  have hcin := hin c hc
  have hbin := hin b hb
  have f := (four h hd 0 b.1 c.1 m h0 hbin hcin hm)
  have s1 := d_symm h hd hm hbin
  have s2 := d_symm h hd hcin hm
  have s3 := d_symm h hd hbin hcin
  have := hmeet b hb c hc
  have := hmax c hc
  have t1 := d_tri h hd h0 hcin hm
  have t2 := d_tri h hd h0 hm hcin
  have t3 := d_tri h hd hcin hbin hm
  have s4 := d_symm h hd h0 hcin
  have s5 := d_symm h hd h0 hm
  have t4 := d_tri h hd hcin h0 hm
  unfold Four at f
  omega
end
end V

set_option Elab.async false
set_option linter.all false
/-! The ways as lists. -/
namespace V
open DL
section
variable {E : List (Nat × Nat)} {d : Nat → Nat → Nat}
/-- the way from x to y, told by places -/
structure WayAt (E : List (Nat × Nat)) (d : Nat → Nat → Nat) (x y : Nat) (ws : List Nat) : Prop where
  len : ws.length = d x y + 1
  at_ : ∀ k z : Nat, ws[k]? = some z → z < E.length + 1 ∧ d x z = k ∧ d x z + d z y = d x y
theorem WayOf.at (h : Tree E) (hd : Dists E d) {x y : Nat} (hx : x < E.length + 1) (hy : y < E.length + 1) {ws : List Nat} (w : WayOf (vilOf E d) x y ws) : WayAt E d x y ws := by
  have ch : ∀ k, ∃ m, k ≤ d x y → m < E.length + 1 ∧ d x m = k ∧ d m y = d x y - k := by
    intro k
    by_cases hk : k ≤ d x y
    · obtain ⟨m, h1, h2, h3⟩ := on_way h hd hx (d x y - k) y hy k (by omega)
      exact ⟨m, fun _ => ⟨h1, h2, h3⟩⟩
    · exact ⟨0, fun z => absurd z hk⟩
  let c : Nat → Nat := fun k => (ch k).choose
  have hc : ∀ k, k ≤ d x y → c k < E.length + 1 ∧ d x (c k) = k ∧ d (c k) y = d x y - k := fun k => (ch k).choose_spec
  have prl : (List.range (d x y + 1)).Pairwise fun a b => a < b ∧ b < d x y + 1 := by
    have p1 := List.pairwise_lt_range (n := d x y + 1)
    refine (List.pairwise_iff_forall_sublist.mpr fun {a b} hs => ?_)
    have := List.pairwise_iff_forall_sublist.mp p1 hs
    have hb : b ∈ List.range (d x y + 1) := hs.subset (by simp)
    exact ⟨this, List.mem_range.mp hb⟩
  have key : ws = (List.range (d x y + 1)).map c := by
    refine List.Perm.eq_of_pairwise (fun p q _ _ h1 h2 => by simp only [leN] at h1 h2; omega) w.up ?_ (w.perm.trans ?_)
    · refine List.pairwise_map.mpr ?_
      refine prl.imp fun {a b} hab => ?_
      obtain ⟨a1, a2, _⟩ := hc a (by omega)
      obtain ⟨b1, b2, _⟩ := hc b (by omega)
      left
      show (vilOf E d).d x (c a) < (vilOf E d).d x (c b)
      rw [vilOf_d hx a1, vilOf_d hx b1, a2, b2]
      exact hab.1
    · have nd1 : ((List.range (vilOf E d).n).filter fun z => decide ((vilOf E d).d x z + (vilOf E d).d y z = (vilOf E d).d x y)).Nodup := List.nodup_range.filter _
      have nd2 : ((List.range (d x y + 1)).map c).Nodup := by
        refine List.pairwise_map.mpr (prl.imp fun {a b} hab e => ?_)
        have h1 := (hc a (by omega)).2.1
        have h2 := (hc b (by omega)).2.1
        rw [e, h2] at h1
        omega
      refine (List.perm_ext_iff_of_nodup nd1 nd2).mpr fun z => ?_
      rw [List.mem_filter, List.mem_range, vilOf_n, decide_eq_true_eq, List.mem_map]
      constructor
      · rintro ⟨hz, e⟩
        rw [vilOf_d hx hz, vilOf_d hy hz, vilOf_d hx hy] at e
        have s := d_symm h hd hy hz
        refine ⟨d x z, List.mem_range.mpr (by omega), ?_⟩
        obtain ⟨a1, a2, a3⟩ := hc (d x z) (by omega)
        exact way_one h hd hx hy a1 hz (by omega) (by omega) (by omega)
      · rintro ⟨k, hk, rfl⟩
        obtain ⟨a1, a2, a3⟩ := hc k (by have := List.mem_range.mp hk; omega)
        have s := d_symm h hd hy a1
        have := List.mem_range.mp hk
        refine ⟨a1, ?_⟩
        rw [vilOf_d hx a1, vilOf_d hy a1, vilOf_d hx hy]
        omega
  refine ⟨by rw [key]; simp, fun k z e => ?_⟩
  rw [key, List.getElem?_map] at e
  by_cases hk : k < d x y + 1
  · rw [List.getElem?_range hk] at e
    cases e
    obtain ⟨a1, a2, a3⟩ := hc k (by omega)
    exact ⟨a1, a2, by omega⟩
  · rw [List.getElem?_eq_none (by simpa using hk)] at e
    cases e
theorem WayAt.mem (h : Tree E) (hd : Dists E d) {x y z : Nat} (hx : x < E.length + 1) (hy : y < E.length + 1) {ws : List Nat} (w : WayAt E d x y ws) : z ∈ ws ↔ z < E.length + 1 ∧ d x z + d z y = d x y := by
  constructor
  · intro hz
    obtain ⟨k, hk⟩ := List.getElem?_of_mem hz
    obtain ⟨a, b, c⟩ := w.at_ k z hk
    exact ⟨a, c⟩
  · rintro ⟨hz, e⟩
    have hk : d x z < ws.length := by rw [w.len]; omega
    have e1 : ws[d x z]? = some ws[d x z] := List.getElem?_eq_getElem hk
    obtain ⟨a, b, c⟩ := w.at_ _ _ e1
    have : ws[d x z] = z := way_one h hd hx hy a hz c e b
    rw [← this]
    exact List.getElem_mem hk
theorem WayAt.uniq (h : Tree E) (hd : Dists E d) {x y : Nat} (hx : x < E.length + 1) (hy : y < E.length + 1) {ws vs : List Nat} (w : WayAt E d x y ws) (v : WayAt E d x y vs) : ws = vs := by
  refine List.ext_getElem? fun k => ?_
  by_cases hk : k < d x y + 1
  · have h1 : k < ws.length := by rw [w.len]; exact hk
    have h2 : k < vs.length := by rw [v.len]; exact hk
    have e1 : ws[k]? = some ws[k] := List.getElem?_eq_getElem h1
    have e2 : vs[k]? = some vs[k] := List.getElem?_eq_getElem h2
    obtain ⟨a, b, c⟩ := w.at_ _ _ e1
    obtain ⟨a', b', c'⟩ := v.at_ _ _ e2
    rw [e1, e2, way_one h hd hx hy a a' c c' (by omega)]
  · rw [List.getElem?_eq_none (by rw [w.len]; omega), List.getElem?_eq_none (by rw [v.len]; omega)]
/-- the way back -/
theorem WayAt.back (h : Tree E) (hd : Dists E d) {x y : Nat} (hx : x < E.length + 1) (hy : y < E.length + 1) {ws : List Nat} (w : WayAt E d x y ws) : WayAt E d y x ws.reverse := by
  refine ⟨by rw [List.length_reverse, w.len, d_symm h hd hx hy], fun k z e => ?_⟩
  have hk : k < ws.length := by
    have := (List.getElem?_eq_some_iff.mp e).1
    simpa using this
  rw [List.getElem?_reverse hk] at e
  obtain ⟨a, b, c⟩ := w.at_ _ _ e
  have s1 := d_symm h hd hx a
  have s2 := d_symm h hd hy a
  have s3 := d_symm h hd hx hy
  have := w.len
  exact ⟨a, by omega, by omega⟩
/-- the beginnings of a way are ways -/
theorem WayAt.beg (h : Tree E) (hd : Dists E d) {x y z k : Nat} (hx : x < E.length + 1) (hy : y < E.length + 1) {ws : List Nat} (w : WayAt E d x y ws) (e : ws[k]? = some z) : WayAt E d x z (ws.take (k + 1)) := by
  obtain ⟨a, b, c⟩ := w.at_ _ _ e
  have hk : k < ws.length := (List.getElem?_eq_some_iff.mp e).1
  refine ⟨by rw [List.length_take]; omega, fun j u ej => ?_⟩
  rw [List.getElem?_take] at ej
  split at ej
  · obtain ⟨a', b', c'⟩ := w.at_ _ _ ej
    refine ⟨a', b', ?_⟩
    obtain ⟨m, hm, m1, m2⟩ := on_way h hd hx (k - j) z a j (by omega)
    have t := d_tri h hd hm a hy
    have t2 := d_tri h hd hx hm hy
    have : m = u := way_one h hd hx hy hm a' (by omega) c' (by omega)
    subst this
    omega
  · cases ej
theorem filter_one {α : Type} {p : α → Bool} {m : α} : ∀ {l : List α}, l.Nodup → m ∈ l → (∀ z ∈ l, p z = true ↔ z = m) → l.filter p = [m]
  | a :: l, nd, hm, hp => by
    have nd' := List.nodup_cons.mp nd
    rw [List.filter_cons]
    by_cases e : a = m
    · subst e
      rw [if_pos ((hp a List.mem_cons_self).mpr rfl)]
      congr 1
      refine List.filter_eq_nil_iff.mpr fun z hz hpz => ?_
      have := (hp z (List.mem_cons_of_mem _ hz)).mp hpz
      exact nd'.1 (this ▸ hz)
    · rw [if_neg (fun q => e ((hp a List.mem_cons_self).mp q))]
      refine filter_one nd'.2 ?_ fun z hz => hp z (List.mem_cons_of_mem _ hz)
      rcases List.mem_cons.mp hm with q | q
      · exact absurd q.symm e
      · exact q
theorem WayAt.nodup {x y : Nat} {ws : List Nat} (w : WayAt E d x y ws) : ws.Nodup := by
  refine List.pairwise_iff_getElem.mpr fun i j hi hj hij e => ?_
  have e1 : ws[i]? = some ws[i] := List.getElem?_eq_getElem hi
  have e2 : ws[j]? = some ws[j] := List.getElem?_eq_getElem hj
  rw [e] at e1
  have := (w.at_ _ _ e1).2.1
  have := (w.at_ _ _ e2).2.1
  omega
/-- of three houses just one stands on all three ways -/
theorem WayAt.three (h : Tree E) (hd : Dists E d) {x y z : Nat} (hx : x < E.length + 1) (hy : y < E.length + 1) (hz : z < E.length + 1) {a b c : List Nat} (wa : WayAt E d x y a) (wb : WayAt E d y z b) (wc : WayAt E d x z c) :
    ∃ m, (a.filter fun u => decide (u ∈ b) && decide (u ∈ c)) = [m] ∧ m < E.length + 1 ∧ 2 * d x m + d y z = d x y + d x z := by
  obtain ⟨m, hm, e1, e2, e3, e4⟩ := median h hd hx hy hz
  refine ⟨m, filter_one wa.nodup ((wa.mem h hd hx hy).mpr ⟨hm, e2⟩) fun u hu => ?_, hm, e1⟩
  obtain ⟨hu1, hu2⟩ := (wa.mem h hd hx hy).mp hu
  rw [Bool.and_eq_true, decide_eq_true_eq, decide_eq_true_eq, wb.mem h hd hy hz, wc.mem h hd hx hz]
  constructor
  · rintro ⟨⟨_, f1⟩, _, f2⟩
    have s := d_symm h hd hy hu1
    exact way_one h hd hx hy hu1 hm hu2 e2 (by omega)
  · rintro rfl
    exact ⟨⟨hm, e4⟩, hm, e3⟩
end
end V

set_option Elab.async false
set_option linter.all false
set_option maxRecDepth 100000
set_option maxHeartbeats 2000000
/-! xs[::-1] of a list. -/
namespace DL
open PySem PySem.Spec L2
section
variable {prog : Program} {w : World} {A : Around} {E : Value → Shared → Prop} {s : Shared}
theorem sum_pair {x : Addr} {a b : Int} {t u : Tok} {Q : Value → Shared → Prop} (calm : A.handled = none) (tup : s.heap.IsTuple x (intItems #[(a, t), (b, u)]))
    (go : ∀ h' tk t', (∀ c o, s.heap.get? c = some o → h'.get? c = some o) → Q (.int (a + b) t') { s with heap := h', toks := tk }) : wpAny (model prog w) A (call (.builtin "sum") [.ref x]) Q E s := by
  have inside : x < s.heap.objs.size := let ⟨_, e, _⟩ := tup; Heap.lt_size e
  have walks := Walks.tuple (prog := prog) (w := w) (A := A.in1) calm s.heap.objs.size x (Nat.ne_of_lt inside) (intItems #[(a, t), (b, u)])
  refine call_sum_walkG (wpAny_pyIter_tuple tup ⟨_, _, _, _, _, _, numAt #[(a, t), (b, u)], rfl, walks, ⟨⟨_, Heap.get?_push_size _ rfl, rfl, rfl⟩, tup.push _⟩, ?small, fun _ _ => intItems_at, ?out⟩)
  case small =>
    intro c hc
    show c < (s.heap.push _).objs.size
    rw [Heap.size_push]
    simp only [List.mem_cons, List.not_mem_nil, or_false] at hc
    rcases hc with e | e <;> subst e
    · exact Nat.lt_succ_self _
    · exact Nat.lt_succ_of_lt inside
  case out =>
    intro h' tk t' stay
    have := go h' tk t' fun c o e => stay c o (fun hm => Nat.ne_of_lt (Heap.lt_size e) (List.mem_singleton.mp hm)) (Heap.get?_push_of_some _ e)
    simpa [preSum, numAt, intItems] using this
end
section
variable {X : Cx} {B : Hp}
theorem call_sumP (hc : X.calm = true) : CallR X (.builtin "sum") (fun vs H Q => ∃ a i j, vs = [V.ref a] ∧ SqT X.K H a [.int i, .int j] ∧ Q (.int (i + j)) H) := by
  rintro pins s σ H vs us Q I r ⟨a, i, j, rfl, hs, q⟩
  rw [Vals.ref1 r]
  obtain ⟨its, rv, ht, hz⟩ := I.tuple hs
  obtain ⟨t, u, rfl⟩ : ∃ t u, its = [.int i t, .int j u] := by
    cases rv with
    | cons r1 r =>
      cases r with
      | cons r2 r =>
        cases r
        obtain ⟨t, rfl⟩ := r1
        obtain ⟨u, rfl⟩ := r2
        exact ⟨t, u, rfl⟩
  exact sum_pair (I.ok.hd hc) (a := i) (b := j) (t := t) (u := u) (show Heap.IsTuple s.heap a (intItems #[(i, t), (j, u)]) from by simpa [intItems] using (show s.heap.IsTuple a #[Value.int i t, Value.int j u] from ht)) fun h' tk t' k => ⟨.int (i + j), H, I.kept k, ⟨_, rfl⟩, q⟩
def rSumP : DR := fun ds G P => ∃ (i j : Int), ds = [.tup [.int i, .int j]] ∧ P (.int (i + j)) G
theorem c_sumP (hc : X.calm = true) : DCall X B (.builtin "sum") rSumP := ⟨_, call_sumP hc, fun F G H vs ds P Q g i ⟨m, n, e, p⟩ c => by
  subst e
  cases i with
  | cons i1 i2 =>
    cases i2
    cases i1 with
    | tup q0 r =>
      cases r with
      | cons ru r =>
        cases r with
        | cons rv r =>
          cases r
          cases ru; cases rv
          exact ⟨_, m, n, rfl, SqT.of (g.fz _ _ q0), c _ G _ F H p (Le.refl F) g (.int _)⟩⟩
end
section
variable {X : Cx} {B : Hp} {e : Expr} {pos p1 p2 p3 : Pos} {kk : Nat} {ta : DTE}
def dRevL (te : DTE) : DTE := fun δ G P => te δ G fun x G1 => ∃ xs, asL G1 x = some xs ∧ P (.lst xs.reverse) G1
theorem d_revL (ha : DE X B e ta) : DE X B (.Subscript e (.Slice none none (some (.UnaryOp .USub (.Constant (.int 1) kk p1) p2)) p3) pos) (dRevL ta) := PE.imp (pe_revL ha) fun σ H Q ⟨F, G, δ, P, g, s, p, c⟩ =>
  ⟨F, G, δ, _, g, s, p, fun x G1 vx F1 H1 ⟨xs, h, q⟩ l1 g1 i1 => by
    obtain ⟨a, ws, rfl, e, r⟩ := asL_is g1 i1 h
    refine ⟨a, ws, rfl, SqL.of e, fun p hp => ?_⟩
    obtain ⟨l2, g2⟩ := g1.newF hp (.lst ws.reverse)
    exact c _ G1 _ _ _ q (l1.trans l2) g2 (.lst upd_same ((isL_reverse r).le l2))⟩
end
/-- a, b, .. = a list -/
def dgLst (n : Nat) (t : DTGs) : DTG := fun d δ G R => ∃ ds, asL G d = some ds ∧ ds.length = n ∧ t ds δ G R
theorem dg_lst {X : Cx} {B : Hp} {es : List Expr} {pos : Pos} {k : Nat} {t : DTGs} {n : Nat} (hc : X.calm = true) (h : DGs X B es t) (hn : (assignEach es X.env).length = n := by rfl) (hst : (assignEach es X.env).findIdx? (·.1) = none := by rfl) : DG X B (.Tuple es k pos) (dgLst n t) :=
  PG.imp (pg_lst hc h hn hst) fun v σ H Q ⟨F, G, δ, d, R, g, s, i, ⟨ds, e, hl, p⟩, c⟩ => by
    obtain ⟨a, ws, rfl, e1, r⟩ := asL_is g i e
    exact ⟨_, _, rfl, SqL.of e1, by rw [r.length]; exact hl, F, G, δ, ds, R, g, s, r, p, c⟩
end DL

set_option Elab.async false
set_option linter.all false
set_option maxRecDepth 100000
/-! Lists compared. -/
namespace V
open PySem PySem.Spec L2 DL
theorem asL_g {G : Gp} {p : Addr} {xs : List Dt} : asL (gupd G p (.lst xs)) (.ref p) = some xs := asL_ref gupd_same
theorem asQ_g {G : Gp} {p : Addr} {xs : List Dt} : asQ (gupd G p (.lst xs)) (.ref p) = some xs := asQ_ref gupd_same
theorem now_g {G : Gp} {p : Addr} {xs : List Dt} : now (gupd G p (.lst xs)) (.ref p) = .lst xs := now_ref gupd_same
theorem natsD_rev (l : List Nat) : (natsD l).reverse = natsD l.reverse := by simp [natsD, List.map_reverse]
theorem natsD_take (l : List Nat) (k : Nat) : (natsD l).take k = natsD (l.take k) := by simp [natsD, List.map_take]
theorem natsD_drop (l : List Nat) (k : Nat) : (natsD l).drop k = natsD (l.drop k) := by simp [natsD, List.map_drop]
theorem pl_nats (l : List Nat) : pl 9 (.lst (natsD l)) = true := by rw [natsD_int]; exact pl_ints _
theorem pl_rows (l : List (Nat × Nat)) : pl 9 (.lst (rdD l)) = true := by
  simp [pl, rdD, npD, pairD]
theorem rEqP_of {neg : Bool} {x y : Dt} {G : Gp} {P : DK} (c : Bool) (h1 : pl 9 (now G x) = true) (h2 : pl 9 (now G y) = true) (hc : c = true ↔ now G x = now G y) (p : P (.bl (neg != c)) G) : rEqP neg x y G P := by
  refine ⟨⟨h1, h2⟩, fun b hb => ?_⟩
  have e : b = c := by
    rw [Bool.eq_iff_iff, hb, hc]
  rw [e]
  cases neg
  · simpa using p
  · simpa using p
theorem rEqP_nats {neg : Bool} {a b : List Nat} {G : Gp} {P : DK} (p : P (.bl (neg != decide (a = b))) G) : rEqP neg (.lst (natsD a)) (.lst (natsD b)) G P :=
  rEqP_of _ (pl_nats a) (pl_nats b) (by rw [now_lst, now_lst, decide_eq_true_eq, Dt.lst.injEq, natsD_inj]) p
theorem rEqP_rows {neg : Bool} {a b : List (Nat × Nat)} {G : Gp} {P : DK} (p : P (.bl (neg != decide (a = b))) G) : rEqP neg (.lst (rdD a)) (.lst (rdD b)) G P :=
  rEqP_of _ (pl_rows a) (pl_rows b) (by rw [now_lst, now_lst, decide_eq_true_eq, Dt.lst.injEq, rdD_inj]) p
theorem rEqP_now {neg : Bool} {x y : Dt} {G : Gp} {P : DK} (h1 : pl 9 (now G x) = true) (h : now G x = now G y) (p : P (.bl (!neg)) G) : rEqP neg x y G P :=
  rEqP_of true h1 (h ▸ h1) (by simp [h]) (by cases neg <;> simpa using p)
/-- a number in a list of numbers -/
theorem rIn_nats {neg : Bool} {x : Nat} {l : List Nat} {G : Gp} {P : DK} (p : P (.bl (neg != decide (x ∈ l))) G) : rInD neg (.int (x : Int)) (.lst (natsD l)) G P := by
  refine ⟨(x : Int), l.map fun (i : Nat) => (i : Int), rfl, .inl (by rw [natsD_int]; rfl), ?_⟩
  have e : decide ((x : Int) ∈ l.map fun (i : Nat) => (i : Int)) = decide (x ∈ l) := by
    rw [Bool.eq_iff_iff, decide_eq_true_eq, decide_eq_true_eq, List.mem_map]
    constructor
    · rintro ⟨y, hy, e⟩
      rw [← Int.ofNat_inj.mp e]; exact hy
    · exact fun h => ⟨x, h, rfl⟩
  rw [e]
  exact p
/-- a test on numbers -/
def natT (p : Nat → Bool) : Dt → Bool
  | .int z => p z.toNat
  | _ => false
theorem natT_filter (p : Nat → Bool) (l : List Nat) : (natsD l).filter (natT p) = natsD (l.filter p) := by
  unfold natsD
  rw [List.filter_map]
  rfl
/-- a function on numbers -/
def natF (f : Nat → Dt) : Dt → Dt
  | .int z => f z.toNat
  | d => d
theorem natF_map (f : Nat → Dt) (l : List Nat) : (natsD l).map (natF f) = l.map f := by
  unfold natsD
  rw [List.map_map]
  rfl
theorem nats_of {n : Nat} {ys : List Dt} (h : ∀ (i : Nat) (y : Dt), ys[i]? = some y → ∃ r : Nat, r < n ∧ y = Dt.int (r : Int)) : ∃ l : List Nat, ys = natsD l ∧ l.length = ys.length ∧ ∀ x ∈ l, x < n := by
  induction ys with
  | nil => exact ⟨[], rfl, rfl, by simp⟩
  | cons y ys ih =>
    obtain ⟨l, h1, h2, h3⟩ := ih fun i z hz => h (i + 1) z (by rw [List.getElem?_cons_succ]; exact hz)
    obtain ⟨r, hr, rfl⟩ := h 0 y rfl
    exact ⟨r :: l, by rw [h1]; rfl, by simp [h2], fun x hx => by
      rcases List.mem_cons.mp hx with rfl | hx
      · exact hr
      · exact h3 x hx⟩
end V

set_option Elab.async false
set_option linter.all false
/-! No road stands twice; the next doors of a house. -/
namespace V
open DL
theorem nodup_of_cover {α : Type} [DecidableEq α] : ∀ {M L : List α}, L.Nodup → (∀ x ∈ L, x ∈ M) → M.length ≤ L.length → M.Nodup
  | [], _, _, _, _ => List.nodup_nil
  | a :: M, L, hn, hs, hl => by
    rw [List.nodup_cons]
    have ha : a ∉ M := fun h => by
      have := sub_len (M := M) hn fun x hx => by
        rcases List.mem_cons.mp (hs x hx) with rfl | q
        · exact h
        · exact q
      rw [List.length_cons] at hl
      omega
    refine ⟨ha, nodup_of_cover (L := L.erase a) (hn.erase a) (fun x hx => ?_) ?_⟩
    · have h1 := (hn.mem_erase_iff.mp hx)
      rcases List.mem_cons.mp (hs x h1.2) with q | q
      · exact absurd q h1.1
      · exact q
    · rw [List.length_cons] at hl
      have := List.length_erase_le (a := a) (l := L)
      by_cases h : a ∈ L
      · rw [List.length_erase_of_mem h]; omega
      · rw [List.erase_of_not_mem h]; omega
section
variable {E : List (Nat × Nat)} {d : Nat → Nat → Nat}
theorem Tree.norm_nodup (h : Tree E) : (E.map norm).Nodup := by
  obtain ⟨d, hd⟩ := h.dists
  obtain ⟨p, hp, ha⟩ := parents h hd
  -- each road by its lower end
  let c : Nat × Nat → Nat := fun e => if e.2 ≠ 0 ∧ p e.2 = e.1 then e.2 else e.1
  have cov : ∀ x ∈ (List.range E.length).map (· + 1), x ∈ (E.map norm).map c := fun x hx => by
    obtain ⟨i, hi, rfl⟩ := List.mem_map.mp hx
    have hi' := List.mem_range.mp hi
    obtain ⟨q1, q2, q3⟩ := hp (i + 1) (by omega) (by omega)
    have key : ∀ e : Nat × Nat, e ∈ E → (norm e = (i + 1, p (i + 1)) ∨ norm e = (p (i + 1), i + 1)) → i + 1 ∈ (E.map norm).map c := fun e he hn => by
      refine List.mem_map.mpr ⟨norm e, List.mem_map_of_mem he, ?_⟩
      rcases hn with hn | hn
      · rw [hn]
        show (if p (i + 1) ≠ 0 ∧ p (p (i + 1)) = i + 1 then p (i + 1) else i + 1) = i + 1
        rw [if_neg]
        rintro ⟨h1, h2⟩
        have := (hp (p (i + 1)) q1 h1).2.2
        rw [h2] at this
        omega
      · rw [hn]
        show (if i + 1 ≠ 0 ∧ p (i + 1) = p (i + 1) then i + 1 else p (i + 1)) = i + 1
        rw [if_pos ⟨by omega, rfl⟩]
    rcases q2 with q2 | q2
    · refine key _ q2 ?_
      simp only [norm, Prod.mk.injEq]
      omega
    · refine key _ q2 ?_
      simp only [norm, Prod.mk.injEq]
      omega
  have nd : ((List.range E.length).map (· + 1)).Nodup := by
    refine List.pairwise_map.mpr ((List.nodup_range (n := E.length)).imp fun {a b} hab e => hab (by omega))
  have := nodup_of_cover nd cov (by simp)
  exact (List.pairwise_map.mp this).imp fun {a b} hab e => hab (by rw [e])
theorem Tree.ne (h : Tree E) {x : Nat} : ¬ Adj E x x := fun a => by
  rcases a with a | a <;> exact h.sound.ne a rfl
theorem adj_one (h : Tree E) (hd : Dists E d) {x y : Nat} (hx : x < E.length + 1) (hy : y < E.length + 1) : d x y = 1 ↔ Adj E x y := by
  constructor
  · intro e
    obtain ⟨z, hz, a, e0⟩ := d_pre h hd hx hy (k := 0) e
    have := d_zero hd hx hz e0
    subst this
    exact a
  · intro a
    have h1 := d_step_le h hd hx a
    rw [d_self hd hx] at h1
    have h2 : d x y ≠ 0 := fun e => by
      have := d_zero hd hx hy e
      subst this
      exact h.ne a
    omega
/-- the other ends of the roads that have a house -/
def endsOf (E : List (Nat × Nat)) (x : Nat) : List Nat := (E.filter fun p => decide (p.1 = x ∨ p.2 = x)).map fun p => p.1 + p.2 - x
theorem ends_mem (h : Tree E) {x z : Nat} : z ∈ endsOf E x ↔ Adj E x z := by
  unfold endsOf
  rw [List.mem_map]
  constructor
  · rintro ⟨⟨a, b⟩, hq, rfl⟩
    obtain ⟨h1, h2⟩ := List.mem_filter.mp hq
    rw [decide_eq_true_eq] at h2
    rcases h2 with h2 | h2
    · have h2 : a = x := h2
      subst h2
      rw [show a + b - a = b from by omega]
      exact .inl h1
    · have h2 : b = x := h2
      subst h2
      rw [show a + b - b = a from by omega]
      exact .inr h1
  · rintro (a | a)
    · exact ⟨(x, z), List.mem_filter.mpr ⟨a, by simp⟩, by show x + z - x = z; omega⟩
    · exact ⟨(z, x), List.mem_filter.mpr ⟨a, by simp⟩, by show z + x - x = z; omega⟩
theorem ends_nodup (h : Tree E) {x : Nat} : (endsOf E x).Nodup := by
  have h1 := List.pairwise_map.mp h.norm_nodup
  have h2 : (E.filter fun p => decide (p.1 = x ∨ p.2 = x)).Pairwise fun a b => norm a ≠ norm b := h1.filter _
  refine List.pairwise_map.mpr (List.Pairwise.imp_of_mem (fun {a b} ha hb hab e => hab ?_) h2)
  have ha' := (List.mem_filter.mp ha).2
  have hb' := (List.mem_filter.mp hb).2
  rw [decide_eq_true_eq] at ha' hb'
  simp only [norm, Prod.mk.injEq]
  omega
theorem near_ends (h : Tree E) (hd : Dists E d) {x : Nat} (hx : x < E.length + 1) : ((List.range (E.length + 1)).filter fun y => decide (d x y = 1)).Perm (endsOf E x) := by
  refine (List.perm_ext_iff_of_nodup (List.nodup_range.filter _) (ends_nodup h)).mpr fun z => ?_
  rw [List.mem_filter, List.mem_range, decide_eq_true_eq, ends_mem h]
  constructor
  · rintro ⟨h1, h2⟩
    exact (adj_one h hd hx h1).mp h2
  · intro a
    have h1 := (adj_lt h a).2
    exact ⟨h1, (adj_one h hd hx h1).mpr a⟩
theorem WayAt.self (h : Tree E) (hd : Dists E d) {x : Nat} (hx : x < E.length + 1) : WayAt E d x x [x] := by
  refine ⟨by rw [d_self hd hx]; rfl, fun k z e => ?_⟩
  cases k with
  | zero => cases e; exact ⟨hx, d_self hd hx, by rw [d_self hd hx]⟩
  | succ k => simp at e
end
/-- the same ints, both rising -/
theorem rising_eq {a b : List Int} (p : a.Perm b) (ha : a.Pairwise (· ≤ ·)) (hb : b.Pairwise (· ≤ ·)) : a = b :=
  List.Perm.eq_of_pairwise (fun x y _ _ h1 h2 => by omega) ha hb p
theorem rising_nats {n : Nat} {p : Nat → Bool} : (((List.range n).filter p).map fun (i : Nat) => (i : Int)).Pairwise (· ≤ ·) := by
  refine List.pairwise_map.mpr ?_
  exact ((List.pairwise_lt_range (n := n)).filter p).imp fun {a b} h => by omega
/-- sorted of numbers that are those of a rising list -/
theorem sort_nats {l : List Nat} {n : Nat} {p : Nat → Bool} {ns : List Int} (h : l.Perm ((List.range n).filter p)) (h1 : ns.Perm (l.map fun (i : Nat) => (i : Int))) (h2 : ns.Pairwise (· ≤ ·)) : ns.map Dt.int = natsD ((List.range n).filter p) := by
  rw [natsD_int, rising_eq (h1.trans (h.map _)) h2 rising_nats]
end V

set_option Elab.async false
set_option linter.all false
set_option maxRecDepth 100000
namespace DL
open PySem PySem.Spec L2
section
variable {X : Cx} {B : Hp} {e a b o : Expr} {es : List Expr} {st : Stmt} {rest : List Stmt} {pos : Pos} {ta tb te : DTE} {tl : DTA} {t u : DTS}
variable {elt tg iter : Expr} {ifs : List Expr} {scope : Scope} {own : List (Str × Nat)} {wi : DTI} {g : DTG} {tt : DTT}
theorem ds_setLcF {i : Nat} {y : Str} {py spos : Pos} (hc : X.calm = true) (hN : X.N.Nodup) (hy : X.N[i]? = some y) (hyl : X.env.scope.names.lookup y = some .local)
    (hsw : swapsWith (.ListComp elt [⟨tg, iter, ifs, 0⟩] scope pos) (some (.Name y py)) spos.line X.env = pure true) (hi : DI X B tg iter wi) (ok : BlkOk X.N X.env.scope scope own)
    (hg : ∀ (s : Shared) (H : Hp) (C : Addr) (cl : List (Str × Addr)) (fp : List Addr), PG (X.blk s H scope (compEnvC scope cl C X.env) fp) tg (tDGw X.K B (own.map (·.2)) g)) (ht : ∀ (s : Shared) (H : Hp) (C : Addr) (cl : List (Str × Addr)) (fp : List Addr), PTs (X.blk s H scope (compEnvC scope cl C X.env) fp) ifs (tDT X.K B tt))
    (he : ∀ (s : Shared) (H : Hp) (C : Addr) (cl : List (Str × Addr)) (fp : List Addr), PE (X.blk s H scope (compEnvC scope cl C X.env) fp) elt (tD X.K B te)) (hs : ∀ x, foldedSetIterable iter X.env x = pure x := by intro _; rfl) :
    DS X B (.Assign [.Name y py] (.ListComp elt [⟨tg, iter, ifs, 0⟩] scope pos) spos) (dSt i (dFrz (dLc wi g tt te (own.map (·.2))))) :=
  ds_set0 _ (L2.ps_setLc hc hN hy hyl hsw hi ok hg ht he hs) (fun σ H Q ⟨F, G, δ, P, g, s, p, c⟩ => lc_imp (fun a xs ys H h1 h2 => by rw [h1] at h2; cases h2; rfl) σ H Q ⟨F, G, δ, _, g, s, p, c.cl⟩)
end
theorem CloS.clo {dd d' : Dt} {G G' : Gp} {δ : DSt} (i : Nat) (hi : δ[i]? = some (some dd)) (h : Clo dd G d' G') : CloS δ G (δ.set i (some d')) G' := ⟨fun K B F H σ g s => by
  obtain ⟨v, e1, e2⟩ := s.get i _ hi
  obtain ⟨F', l, g', r⟩ := h.go K B F H v g e2
  refine ⟨F', l, g', (s.le l).setD (fun w hw => ?_) ⟨v, e1⟩⟩
  rw [e1] at hw; cases hw
  exact r⟩
end DL

set_option Elab.async false
set_option linter.all false
set_option maxRecDepth 100000
set_option maxHeartbeats 1000000
/-! Dicts of numbers by numbers; powers of great numbers. -/
namespace DL
open PySem PySem.Spec L2
/-! ### powers -/
def CPowB (i j : Int) : Prop := 0 ≤ j ∧ j ≤ 100000 ∧ i.natAbs < 2 ^ 256
theorem op_powB {X : Cx} : OpR X (binaryOp .Pow) (rI CPowB fun i j => .int (i ^ j.toNat)) := opI fun i j _ _ _ _ _ hc q => PyProof.Rows.pow_int hc.1 (by
  have hb := PyProof.Rows.intBits_le hc.2.2
  have h0 := hc.1
  have h1 := hc.2.1
  have h2 : (Builtin.Int.intBits i : Int) * j ≤ 256 * j := Int.mul_le_mul_of_nonneg_right (by omega) h0
  omega) q
theorem o_powB {X : Cx} {B : Hp} : DOp X B (binaryOp .Pow) (r2I CPowB fun i j => .int (i ^ j.toNat)) := ⟨_, op_powB, serves_rI (fun _ _ h => h) fun _ _ _ => .int _⟩
/-- // by a great number -/
theorem o_fdivW {X : Cx} {B : Hp} : DOp X B (binaryOp .FloorDiv) (r2I CDivW fun i j => .int (i / j)) := ⟨_, op_fdivW, serves_rI (fun _ _ h => h) fun _ _ _ => .int _⟩
/-! ### the data -/
def kvN (l : List (Nat × Nat)) : List (Key × Dt) := l.map fun p => (.inl (p.1 : Int), .int (p.2 : Int))
def lookN (l : List (Nat × Nat)) (k : Nat) : Option Nat := (l.find? fun p => decide (p.1 = k)).map (·.2)
theorem isK_kvN {K : PySem.W.Frag} {F : Hp} : ∀ {l : List (Nat × Nat)} {r : List (Key × V)}, IsK K F r (kvN l) → r = kvV l
  | [], _, h => by cases h; rfl
  | p :: l, _, h => by
    cases h with
    | cons a b =>
      cases a
      rw [isK_kvN b]
      rfl
theorem isK_of {K : PySem.W.Frag} {F : Hp} : ∀ l : List (Nat × Nat), IsK K F (kvV l) (kvN l)
  | [] => .nil
  | p :: l => .cons (.int _) (isK_of l)
theorem lookN_nil {k : Nat} : lookN [] k = none := rfl
theorem lookN_cons {p : Nat × Nat} {l : List (Nat × Nat)} {k : Nat} : lookN (p :: l) k = if p.1 = k then some p.2 else lookN l k := by
  unfold lookN
  rw [List.find?_cons]
  by_cases h : p.1 = k
  · simp [h]
  · simp [h]
theorem lookN_snoc {l : List (Nat × Nat)} {k v j : Nat} (h : lookN l k = none) : lookN (l ++ [(k, v)]) j = if k = j then some v else lookN l j := by
  induction l with
  | nil => rw [List.nil_append, lookN_cons]
  | cons p l ih =>
    rw [lookN_cons] at h
    rw [List.cons_append, lookN_cons, lookN_cons]
    by_cases hp : p.1 = k
    · rw [if_pos hp] at h; cases h
    · rw [if_neg hp] at h
      rw [ih h]
      by_cases e : p.1 = j
      · rw [if_pos e, if_pos e, if_neg (fun z => hp (e.trans z.symm))]
      · rw [if_neg e, if_neg e]
theorem lookN_mem {l : List (Nat × Nat)} {k : Nat} : (lookN l k).isSome = true ↔ k ∈ l.map Prod.fst := by
  induction l with
  | nil => simp [lookN]
  | cons p l ih =>
    rw [lookN_cons, List.map_cons, List.mem_cons]
    by_cases h : p.1 = k
    · simp [h]
    · rw [if_neg h, ih]
      constructor
      · exact .inr
      · rintro (e | e)
        · exact absurd e.symm h
        · exact e
theorem lookN_none {l : List (Nat × Nat)} {k : Nat} : lookN l k = none ↔ k ∉ l.map Prod.fst := by
  rw [← lookN_mem]
  cases lookN l k <;> simp
theorem valV_kvV {l : List (Nat × Nat)} {k : Nat} : valV (kvV l) (.inl (k : Int)) = (lookN l k).map fun v => V.int (v : Int) := by
  induction l with
  | nil => rfl
  | cons p l ih =>
    rw [lookN_cons]
    by_cases h : p.1 = k
    · rw [if_pos h]
      exact valV_pos (p := ((Sum.inl (p.1 : Int) : Key), V.int (p.2 : Int))) (by rw [h])
    · rw [if_neg h, ← ih]
      exact valV_neg (p := ((Sum.inl (p.1 : Int) : Key), V.int (p.2 : Int))) (fun z => h (Int.ofNat_inj.mp (Sum.inl.inj z)))
theorem putK_kvV {l : List (Nat × Nat)} {k v : Nat} (h : lookN l k = none) : putK (kvV l) (.inl (k : Int)) (V.int (v : Int)) = kvV (l ++ [(k, v)]) := by
  unfold putK
  rw [valV_any, valV_kvV, h]
  simp [kvV]
section
variable {X : Cx} {B : Hp} {e a b o : Expr} {es : List Expr} {pos pos' : Pos} {ta tb te to : DTE} {tl : DTA} {j : Nat}
def asD (G : Gp) : Dt → Option (List (Nat × Nat)) → Prop
  | .ref a, some l => G a = some (.dK (kvN l))
  | .dk m, some l => m = l
  | _, _ => False
theorem asD_is {K : PySem.W.Frag} {F : Hp} {G : Gp} {H : Hp} {v : V} {d : Dt} {l : List (Nat × Nat)} (g : Good K B F G H) (i : Is K F v d) (h : asD G d (some l)) : ∃ p, v = .ref p ∧ H p = some (.dK (kvV l)) := by
  cases i with
  | ref p =>
    obtain ⟨r, e, i⟩ := g.mdK h
    exact ⟨p, rfl, by rw [← isK_kvN i]; exact e⟩
  | dk q =>
    cases h
    exact ⟨_, rfl, g.fz _ _ q⟩
  | _ => cases h
theorem asD_dk {G : Gp} {l m : List (Nat × Nat)} : asD G (.dk m) (some l) ↔ m = l := Iff.rfl
theorem asD_g {G : Gp} {p : Addr} {l : List (Nat × Nat)} : asD (gupd G p (.dK (kvN l))) (.ref p) (some l) := gupd_same
/-- d[k] -/
def dDGet (td tk : DTE) : DTE := fun δ G P => td δ G fun x G1 => tk δ G1 fun y G2 => ∃ (l : List (Nat × Nat)) (k v : Nat), asD G2 x (some l) ∧ y = .int (k : Int) ∧ lookN l k = some v ∧ P (.int (v : Int)) G2
theorem d_dget {td tk : DTE} (hr : Room j X.A) (ho : DE X B o td) (hi : DE X B e tk) (hs : NoSl e) : DE X B (.Subscript o e pos) (dDGet td tk) := PE.imp (pe_dget (by have := hr.units; omega) ho hi hs) fun σ H Q ⟨F, G, δ, P, g, s, p, c⟩ =>
  ⟨F, G, δ, _, g, s, p, fun x G1 vx F1 H1 p1 l1 g1 i1 => ⟨F1, G1, δ, _, g1, s.le l1, p1, fun y G2 vy F2 H2 ⟨l, k, v, h1, h2, h3, p2⟩ l2 g2 i2 => by
    subst h2
    cases i2
    obtain ⟨q, rfl, h5⟩ := asD_is g2 (i1.le l2) h1
    refine ⟨q, .int (v : Int), rfl, .inl ⟨_, .inl (k : Int), .inl h5, rfl, ?_⟩, c _ G2 _ F2 H2 p2 (l1.trans l2) g2 (.int _)⟩
    rw [valV_kvV, h3]; rfl⟩⟩
/-- k in d, k not in d -/
def dDIn (neg : Bool) (tk td : DTE) : DTE := fun δ G P => tk δ G fun y G1 => td δ G1 fun x G2 => ∃ (l : List (Nat × Nat)) (k : Nat), asD G2 x (some l) ∧ y = .int (k : Int) ∧ P (.bl (neg != (lookN l k).isSome)) G2
theorem dIn_imp {neg : Bool} {td tk : DTE} {f : Bool → Bool} (hf : ∀ b, f b = (neg != b)) {t : TE} (ht : ∀ σ H Q, (tD X.K B tk σ H fun y H1 => tD X.K B td σ H1 fun x H2 => ∃ a o, x = .ref a ∧ DGet H2 a y o ∧ Q (.bl (f o.isSome)) H2) → t σ H Q) : ∀ σ H Q, tD X.K B (dDIn neg tk td) σ H Q → t σ H Q := fun σ H Q ⟨F, G, δ, P, g, s, p, c⟩ => ht _ _ _
  ⟨F, G, δ, _, g, s, p, fun y G1 vy F1 H1 p1 l1 g1 i1 => ⟨F1, G1, δ, _, g1, s.le l1, p1, fun x G2 vx F2 H2 ⟨l, k, h1, h2, p2⟩ l2 g2 i2 => by
    subst h2
    cases i1
    obtain ⟨q, rfl, h5⟩ := asD_is g2 i2 h1
    refine ⟨q, _, rfl, .inl ⟨_, .inl (k : Int), .inl h5, rfl, rfl⟩, ?_⟩
    have e : ((lookN l k).map fun v => V.int (v : Int)).isSome = (lookN l k).isSome := by cases lookN l k <;> rfl
    rw [valV_kvV, hf, e]
    exact c _ G2 _ F2 H2 p2 (l1.trans l2) g2 (.bl _)⟩⟩
theorem dt_din {td tk : DTE} (hr : Room j X.A) (hi : DE X B e tk) (ho : DE X B o td) (h1 : behindInMarks .In o = false := by first | exact nobehind _ (by decide) (by decide) | rfl) : DT X B (.Compare e [.In] [o] pos) (dB (dDIn false tk td)) :=
  PT.imp (pt_cmp (pc_din (by have := hr.units; omega) hi ho) h1) fun σ H Q ⟨F, G, δ, P, g, s, p, c⟩ => by
    obtain ⟨F', G', δ', P', g', s', p', c'⟩ := db_imp σ H Q ⟨F, G, δ, P, g, s, p, c⟩
    exact dIn_imp (f := id) (fun b => by cases b <;> rfl) (fun σ H Q h => h) σ H _ ⟨F', G', δ', P', g', s', p', c'⟩
theorem dt_dnin {td tk : DTE} (hr : Room j X.A) (hi : DE X B e tk) (ho : DE X B o td) (h1 : behindInMarks .NotIn o = false := by first | exact nobehind _ (by decide) (by decide) | rfl) : DT X B (.Compare e [.NotIn] [o] pos) (dB (dDIn true tk td)) :=
  PT.imp (pt_cmp (pc_dnotin (by have := hr.units; omega) hi ho) h1) fun σ H Q ⟨F, G, δ, P, g, s, p, c⟩ => by
    obtain ⟨F', G', δ', P', g', s', p', c'⟩ := db_imp σ H Q ⟨F, G, δ, P, g, s, p, c⟩
    exact dIn_imp (f := not) (fun b => by cases b <;> rfl) (fun σ H Q h => h) σ H _ ⟨F', G', δ', P', g', s', p', c'⟩
/-- d[k] = v, k new -/
def dDPut (td tk tv : DTE) : DTS := fun D δ G => tv δ G fun z G1 => td δ G1 fun x G2 => tk δ G2 fun y G3 => ∃ (p : Addr) (l : List (Nat × Nat)) (k v : Nat), x = .ref p ∧ G3 p = some (.dK (kvN l)) ∧ y = .int (k : Int) ∧ z = .int (v : Int) ∧ lookN l k = none ∧ l.length < sizeLine ∧ D.nx δ (gupd G3 p (.dK (kvN (l ++ [(k, v)]))))
theorem ds_dput {value : Expr} {td tk tv : DTE} (hr : Room j X.A) (ho : DE X B o td) (hi : DE X B e tk) (hv : DE X B value tv) (hs : swapsWith value (some (.Subscript o e pos')) pos.line X.env = pure false := by rfl) : DS X B (.Assign [.Subscript o e pos'] value pos) (dDPut td tk tv) :=
  PS.imp (ps_dput (by have := hr.units; omega) ho hi hv hs) fun D σ H ⟨F, G, δ, R, g, s, p, f⟩ =>
  ⟨F, G, δ, _, g, s, p, fun z G1 vz F1 H1 p1 l1 g1 i1 => ⟨F1, G1, δ, _, g1, s.le l1, p1, fun x G2 vx F2 H2 p2 l2 g2 i2 => ⟨F2, G2, δ, _, g2, (s.le l1).le l2, p2, fun y G3 vy F3 H3 ⟨q, l, k, v, e1, h1, e2, e3, h2, hz, p3⟩ l3 g3 i3 => by
    subst e1; subst e2; subst e3
    cases i1; cases i3
    cases i2
    obtain ⟨r, er, ir⟩ := g3.mdK h1
    have er' := isK_kvN ir
    subst er'
    refine ⟨q, _, rfl, .inl ⟨_, .inl (k : Int), er, rfl, by simpa [kvV] using hz, rfl⟩, ?_⟩
    rw [putK_kvV h2]
    exact f.nx _ _ _ F3 _ p3 ((l1.trans l2).trans l3) (g3.write h1 (o := .dK (kvV (l ++ [(k, v)]))) (m := .dK (kvN (l ++ [(k, v)]))) (isK_of _)) (((s.le l1).le l2).le l3)⟩⟩⟩
/-- {k: v} -/
def dDisp1 (tk tv : DTE) : DTE := fun δ G P => ∀ p, G p = none → tk δ (gupd G p (.dK [])) fun y G1 => tv δ G1 fun z G2 => G2 p = some (.dK []) ∧ ∃ k v : Nat, y = .int (k : Int) ∧ z = .int (v : Int) ∧ P (.ref p) (gupd G2 p (.dK (kvN [(k, v)])))
theorem d_disp1 {tk tv : DTE} (hk : DE X B a tk) (hv : DE X B b tv) : DE X B (.Dict [some a] [b] pos) (dDisp1 tk tv) := PE.imp (pe_disp (pps_cons hk hv pps_nil) rfl rfl (by simp) (by simp)) fun σ H Q ⟨F, G, δ, P, g, s, p, c⟩ => fun q hq => by
  have gq := g.gnone hq
  refine ⟨F, _, δ, _, g.newM hq (o := .dK []) (m := .dK []) .nil, s, p q gq, fun y G1 vy F1 H1 p1 l1 g1 i1 => ⟨F1, G1, δ, _, g1, s.le l1, p1, fun z G2 vz F2 H2 ⟨h1, k, v, e1, e2, p2⟩ l2 g2 i2 => ?_⟩⟩
  subst e1; subst e2
  cases i1; cases i2
  obtain ⟨r, er, ir⟩ := g2.mdK h1
  cases ir
  refine ⟨er, kvV [(k, v)], rfl, by simp [kvV], ?_⟩
  have e : mergeK ([] : List (Key × V)) (kvV [(k, v)]) = kvV [(k, v)] := by
    have := putK_kvV (l := []) (k := k) (v := v) rfl
    simpa [mergeK, kvV] using this
  rw [e]
  exact c _ _ _ F2 _ p2 (l1.trans l2) (g2.write h1 (o := .dK (kvV [(k, v)])) (m := .dK (kvN [(k, v)])) (isK_of _)) (.ref q)
theorem isL_nats {K : PySem.W.Frag} {F : Hp} : ∀ (m : List Nat), IsL K F (m.map fun (k : Nat) => V.int (k : Int)) (V.natsD m)
  | [] => .nil
  | k :: m => .cons (.int _) (isL_nats m)
/-- list(d): its keys -/
def rListK : DR := fun ds G P => ∃ (x : Dt) (l : List (Nat × Nat)), ds = [x] ∧ asD G x (some l) ∧ P (.lst (V.natsD (l.map Prod.fst))) G
theorem c_listK (hc : X.calm = true) : DCall X B (.type "list") rListK := ⟨_, call_list_dK hc, fun F G H vs ds P Q g i ⟨x, l, e, h, p⟩ c => by
  subst e
  cases i with
  | cons i1 i2 =>
    cases i2
    obtain ⟨q, rfl, h5⟩ := asD_is g i1 h
    refine ⟨q, _, rfl, h5, fun r hr => ?_⟩
    have e : (kvV l).map (fun kv => kV kv.1) = (l.map Prod.fst).map fun (k : Nat) => V.int (k : Int) := by simp [kvV, kV, List.map_map, Function.comp_def]
    rw [e]
    obtain ⟨l2, g2⟩ := g.newF hr (.lst ((l.map Prod.fst).map fun (k : Nat) => V.int (k : Int)))
    exact c _ _ _ _ _ p l2 g2 (.lst upd_same (isL_nats _))⟩
end
end DL

set_option Elab.async false
set_option linter.all false
set_option maxRecDepth 100000
set_option maxHeartbeats 1000000
/-! Calls by keywords alone; more of lists: insert, slices, the last one. -/
namespace DL
open PySem PySem.Spec L2
/-- puts the keywords' values in the parameters' order -/
abbrev PF := {α : Type} → List α → List α
section
variable (P : Program) (w : World) (K : PySem.W.Frag) (mg : Str → Option Value) (base : Heap) (CX : CXT)
def DfnK (x : Str) (ps ks : List Str) (pf : PF) (c : DSp) (k : Nat) : Prop := ∃ f fd, FnOk P w K mg base CX k f fd ps (toSp K c) ∧ mg x = some (.ref f) ∧ PySem.W.keepIn K (.ref f) = true ∧ KBn K fd ps 0 ks (fun _ ws => pf ws) (fun _ zs => pf zs)
def DmtK (C : Addr) (m : Str) (ps ks : List Str) (pf : PF) (c : DSp) (k : Nat) : Prop := ∃ f fd, FnOk P w K mg base CX k f fd ps (toSp K c) ∧ Meth K C m f ∧ KBn K fd ps 1 ks (fun us ws => us ++ pf ws) (fun vs zs => vs ++ pf zs)
end
def swap2 : PF := fun l => match l with
  | [a, b] => [b, a]
  | l => l
def same0 : PF := fun l => l
structure PFOk (pf : PF) : Prop where
  is_ : ∀ {K : PySem.W.Frag} {F : Hp} {vs : List V} {ds : List Dt}, IsL K F vs ds → IsL K F (pf vs) (pf ds)
theorem swap2_ok : PFOk swap2 := ⟨fun {K F vs ds} h => by
  cases h with
  | nil => exact .nil
  | cons a r =>
    cases r with
    | nil => exact .cons a .nil
    | cons b r =>
      cases r with
      | nil => exact .cons b (.cons a .nil)
      | cons c r => exact .cons a (.cons b (.cons c r))⟩
theorem swap2_vals {zs : List V} {ws : List Value} (h : Vals zs ws) : Vals (swap2 zs) (swap2 ws) := by
  cases h with
  | nil => exact .nil
  | cons a r =>
    cases r with
    | nil => exact .cons a .nil
    | cons b r =>
      cases r with
      | nil => exact .cons b (.cons a .nil)
      | cons c r => exact .cons a (.cons b (.cons c r))
theorem same0_vals {zs : List V} {ws : List Value} (h : Vals zs ws) : Vals (same0 zs) (same0 ws) := h
theorem same0_ok : PFOk same0 := ⟨fun h => h⟩
def revK : PF := fun l => l.reverse
theorem revK_ok : PFOk revK := ⟨fun h => h.reverse⟩
theorem revK_vals {zs : List V} {ws : List Value} (h : Vals zs ws) : Vals (revK zs) (revK ws) := by
  show Vals zs.reverse ws.reverse
  induction h with
  | nil => exact .nil
  | cons a r ih => rw [List.reverse_cons, List.reverse_cons]; exact ih.append (.cons a .nil)
section
variable {X : Cx} {B : Hp} {e a b o : Expr} {es : List Expr} {pos p apos kpos : Pos} {ta tb te to : DTE} {tl : DTA} {j k : Nat} {x nm : Str} {ps ks : List Str} {c : DSp} {kws : List Keyword} {pf : PF}
structure DPK (X : Cx) (B : Hp) (kws : List Keyword) (t : DTA) : Prop where
  pk : PK X kws (tDA X.K B t)
theorem dpk_nil : DPK X B [] dNil := ⟨⟨fun pos pins s σ H Q I ⟨F, G, δ, P, g, sl, p, c⟩ => pk_nil.run pos pins s σ H Q I (c _ G _ F H p (Le.refl F) g .nil)⟩⟩
theorem PK.imp {kws : List Keyword} {t t' : TA} (h : PK X kws t) (f : ∀ σ H Q, t' σ H Q → t σ H Q) : PK X kws t' := ⟨fun pos pins s σ H Q I q => h.run pos pins s σ H Q I (f _ _ _ q)⟩
theorem dpk_cons {nm : Option Str} (ha : DE X B e te) (hr : DPK X B kws tl) : DPK X B (⟨nm, e, kpos⟩ :: kws) (dCons te tl) := ⟨PK.imp (pk_cons ha hr.pk) fun σ H Q ⟨F, G, δ, P, g, s, p, c⟩ =>
    ⟨F, G, δ, _, g, s, p, fun x G1 v F1 H1 p1 l1 g1 r1 => ⟨F1, G1, δ, _, g1, s.le l1, p1, fun xs G2 vs F2 H2 p2 l2 g2 r2 => c _ G2 _ F2 H2 p2 (l1.trans l2) g2 (.cons (r1.le l2) r2)⟩⟩⟩
def dCallK (c : DSp) (pf : PF) (n : Nat) (t : DTA) : DTE := fun δ G P => t δ G fun ds G1 => ds.length = n ∧ c (pf ds) G1 P noX
/-- f(k = v, ..) -/
theorem pe_callK0 {CX : CXT} {f : Addr} {fd : FuncData} {sp : Sp} {E : XK} {tk : TA} {g : List Value → List Value → List Value} {gV : List V → List V → List V} (F : FnOk X.prog X.w X.K X.mg X.base CX k f fd ps sp) (hr : Room k X.A) (hg : Gl X x) (hm : X.mg x = some (.ref f)) (hk : PySem.W.keepIn X.K (.ref f) = true) (hb : KBn X.K fd ps 0 ks g gV) (hx : Passes CX X E) (hkw : PK X kws tk)
    (hall : (backToKw pos (keywordEach kws X.env)).all (·.1.isSome) = true := by rfl) (hks : (backToKw pos (keywordEach kws X.env)).filterMap (·.1) = ks := by rfl) (hdb : (x == ("__debug__" : Str)) = false := by decide)
    (hpl : ((backTo pos (starEach [] X.env)).any (·.1) || (backToKw pos (keywordEach kws X.env)).any (·.1.isNone)) = false := by rfl) :
    PE X (.Call (.Name x p) [] kws pos) (tCallN 0 ks.length sp gV E tNil tk) := by
  refine ⟨fun pins s σ H Q I h => ?_⟩
  refine wpAny_Call_Name_kw (ld_glob I hg hm ?_ hdb)
  refine PySem.W.callWith_KW0 (h₀ := X.base) I.ok.mod.kin hk hall ?_ hpl
  refine thn (hkw.run pos pins s σ H _ I h) fun ws s2 ⟨zs, H2, I2, rz, l1, l2, q2⟩ => ⟨I2.kIn, ?_⟩
  rw [hks]
  exact run_fnN (us := []) (vs := []) F hr hb hx I2 .nil rz rfl l2 q2
theorem d_callKw (D : DfnK X.prog X.w X.K X.mg X.base CX0 x ps ks pf c k) (hp : PFOk pf) (hr : Room j X.A) (hg : Gl X x) (ha : DPK X B kws tl) (hj : k ≤ j := by decide)
    (hall : (backToKw pos (keywordEach kws X.env)).all (·.1.isSome) = true := by rfl) (hks : (backToKw pos (keywordEach kws X.env)).filterMap (·.1) = ks := by rfl) (hdb : (x == ("__debug__" : Str)) = false := by decide)
    (hpl : ((backTo pos (starEach [] X.env)).any (·.1) || (backToKw pos (keywordEach kws X.env)).any (·.1.isNone)) = false := by rfl) : DE X B (.Call (.Name x p) [] kws pos) (dCallK c pf ks.length tl) := by
  obtain ⟨f, fd, F, m, kp, b⟩ := D
  refine PE.imp (pe_callK0 (E := fun _ _ _ => False) F (hr.mono hj) hg m kp b pass0 ha.pk hall hks hdb hpl) fun σ H Q ⟨F, G, δ, P, g, s, q, k⟩ => ?_
  exact ⟨F, G, δ, _, g, s, q, fun ds G1 vs F1 H1 ⟨hl, p1⟩ l1 g1 i1 => ⟨rfl, i1.length.trans hl, toSp_of g1 (hp.is_ i1) p1 (k.le l1) contX_no⟩⟩
/-! ### insert -/
def rInsD : Dt → List Dt → Gp → DK → Prop := fun x ds G P => ∃ (a : Addr) (xs : List Dt) (i : Nat) (d : Dt), x = .ref a ∧ ds = [.int (i : Int), d] ∧ G a = some (.lst xs) ∧ xs.length < sizeLine ∧ i < 2 ^ 62 ∧ P .non (gupd G a (.lst (xs.take i ++ [d] ++ xs.drop i)))
theorem m_insert : DMt X B "list.insert" rInsD := ⟨_, mt_insert, fun F G H v x vs ds P Q g i1 i2 ⟨a, xs, i, d, e1, e2, h, hz, hi, p⟩ c => by
  subst e1; subst e2
  cases i1
  cases i2 with
  | cons i2 i3 =>
    cases i2
    cases i3 with
    | cons i3 i4 =>
      cases i4
      obtain ⟨ws, e, r⟩ := g.mlst h
      refine ⟨a, ws, (i : Int), _, rfl, rfl, e, by rw [r.length]; exact hz, by omega, by omega, ?_⟩
      rw [Int.toNat_natCast]
      exact c _ _ _ _ _ p (Le.refl F) (g.write h (o := .lst (ws.take i ++ [_] ++ ws.drop i)) (m := .lst (xs.take i ++ [d] ++ xs.drop i)) (((r.take i).append (.one i3)).append (r.drop i))) .non⟩
theorem d_insert (ho : DE X B o to) (ha : DE X B a ta) (hb : DE X B b tb)
    (hs : starEach [a, b] X.env = (false, eval a X.env) :: starEach [b] X.env := by rfl) (hs2 : starEach [b] X.env = (false, eval b X.env) :: starEach [] X.env := by rfl)
    (pe : ∀ {r : V → List V → Hp → VK → Prop} {t : TA} {to : TE}, MtR X "list.insert" r → PE X o to → PA X [a, b] t → PE X (.Call (.Attribute o "insert" apos) [a, b] [] pos) (tBM X.K "list" r to t) := by exact fun h1 h2 h3 => pe_bm PySem.F.plainAttrs_list PySem.F.slot_list_insert PySem.F.type_list_insert h1 h2 h3) :
    DE X B (.Call (.Attribute o "insert" apos) [a, b] [] pos) (dBM rInsD to (dCons ta (dCons tb dNil))) := by
  obtain ⟨r', h1, h2⟩ := (m_insert (X := X) (B := B)).ex
  exact PE.imp (pe h1 ho (da_cons ha (da_cons hb da_nil hs2) hs)) (bm_imp h2)
/-! ### slices of a list -/
theorem isL_drop {K : PySem.W.Frag} {F : Hp} {vs : List V} {ds : List Dt} (k : Nat) (h : IsL K F vs ds) : IsL K F (vs.drop k) (ds.drop k) := h.drop k
def cutD (xs : List Dt) (lo hi : Option Int) : List Dt := (xs.drop (HT.sIx xs.length 0 lo)).take (HT.sIx xs.length xs.length hi - HT.sIx xs.length 0 lo)
theorem cut_is {K : PySem.W.Frag} {F : Hp} {vs : List V} {ds : List Dt} (lo hi : Option Int) (h : IsL K F vs ds) : IsL K F (cutV vs lo hi) (cutD ds lo hi) := by
  unfold cutV cutD
  rw [h.length]
  exact (h.drop _).take _
/-- a part of a slice -/
abbrev DTO := DSt → Gp → (Option Int → Gp → Prop) → Prop
def tDO (K : PySem.W.Frag) (B : Hp) (t : DTO) : TO := fun σ H Q => ∃ F G δ P, Good K B F G H ∧ Sl K F σ δ ∧ t δ G P ∧ ∀ o G' F' H', P o G' → Le F F' → Good K B F' G' H' → Q o H'
structure DO (X : Cx) (B : Hp) (e : Option Expr) (t : DTO) : Prop where
  po : PO X e (tDO X.K B t)
def doNone : DTO := fun _ G P => P none G
def doSome (te : DTE) : DTO := fun δ G P => te δ G fun d G1 => ∃ i : Int, d = .int i ∧ P (some i) G1
theorem PO.imp {e : Option Expr} {t t' : TO} (h : PO X e t) (f : ∀ σ H Q, t' σ H Q → t σ H Q) : PO X e t' := ⟨fun pins s σ H Q I q => h.run pins s σ H Q I (f _ _ _ q)⟩
theorem do_none : DO X B none doNone := ⟨PO.imp po_none fun σ H Q ⟨F, G, δ, P, g, s, p, c⟩ => c _ G F H p (Le.refl F) g⟩
theorem do_some (h : DE X B e te) : DO X B (some e) (doSome te) := ⟨PO.imp (po_some h) fun σ H Q ⟨F, G, δ, P, g, s, p, c⟩ =>
  ⟨F, G, δ, _, g, s, p, fun d G1 v F1 H1 ⟨i, e, p1⟩ l1 g1 i1 => by
    subst e
    cases i1
    exact ⟨i, rfl, c _ G1 F1 H1 p1 l1 g1⟩⟩⟩
def dCut (te : DTE) (lo hi : DTO) : DTE := fun δ G P => te δ G fun x G1 => lo δ G1 fun l G2 => hi δ G2 fun u G3 => ∃ xs, asL G3 x = some xs ∧ P (.lst (cutD xs l u)) G3
theorem d_slice {lo hi : Option Expr} {tl th : DTO} {p2 : Pos} (he : DE X B e te) (hl : DO X B lo tl) (hu : DO X B hi th) : DE X B (.Subscript e (.Slice lo hi none p2) pos) (dCut te tl th) :=
  PE.imp (pe_slice sl_list he hl.po hu.po) fun σ H Q ⟨F, G, δ, P, g, s, p, c⟩ =>
  ⟨F, G, δ, _, g, s, p, fun x G1 vx F1 H1 p1 l1 g1 i1 => ⟨F1, G1, δ, _, g1, s.le l1, p1, fun l G2 F2 H2 p2 l2 g2 => ⟨F2, G2, δ, _, g2, (s.le l1).le l2, p2, fun u G3 F3 H3 ⟨xs, h, p3⟩ l3 g3 => by
    obtain ⟨q0, ws, rfl, e, r⟩ := asL_is g3 ((i1.le l2).le l3) h
    refine ⟨q0, ws, rfl, SqL.of e, fun p hp => ?_⟩
    obtain ⟨l4, g4⟩ := g3.newF hp (.lst (cutV ws l u))
    exact c _ G3 _ _ _ p3 (((l1.trans l2).trans l3).trans l4) g4 (.lst upd_same ((cut_is l u r).le l4))⟩⟩⟩
end
end DL

set_option Elab.async false
set_option linter.all false
set_option maxRecDepth 100000
set_option maxHeartbeats 1000000
/-! A source of draws: cells of its own, so many draws more in order. -/
namespace V
open PySem PySem.Spec L2 DL
structure Src (own : Addr → Prop) (R : Gp → Nat → Prop) : Prop where
  ge : ∀ {G G' : Gp} {n : Nat}, R G n → (∀ a, own a → G' a = G a) → R G' n
  has : ∀ {G : Gp} {n : Nat} {a : Addr}, R G n → own a → G a ≠ none
  mono : ∀ {G : Gp} {n m : Nat}, R G n → m ≤ n → R G m
/-- all but the source stands -/
def OExt (own : Addr → Prop) (G G' : Gp) : Prop := ∀ a m, ¬ own a → G a = some m → G' a = some m
section
variable {own : Addr → Prop} {R : Gp → Nat → Prop} {G G' G'' : Gp} {n m : Nat} {p : Addr} {x : MO}
theorem OExt.refl (G : Gp) : OExt own G G := fun _ _ _ e => e
theorem OExt.trans (h : OExt own G G') (h' : OExt own G' G'') : OExt own G G'' := fun a m h1 e => h' a m h1 (h a m h1 e)
theorem OExt.of (h : GLe G G') : OExt own G G' := fun a m _ e => h a m e
theorem Src.fresh (S : Src own R) (h : R G n) (hp : G p = none) : ¬ own p := fun o => S.has h o hp
theorem Src.put (S : Src own R) (h : R G n) (hp : ¬ own p) : R (gupd G p x) n := S.ge h fun a o => gupd_ne fun e => hp (e ▸ o)
theorem Src.del (S : Src own R) (h : R G n) (hp : ¬ own p) : R (gdel G p) n := S.ge h fun a o => gdel_ne fun e => hp (e ▸ o)
theorem OExt.put (h : OExt own G G') (hp : G p = none) : OExt own G (gupd G' p x) := fun a m h1 e => by
  rw [gupd_ne (gne e hp)]
  exact h a m h1 e
theorem OExt.del (h : OExt own G G') (hp : G p = none) : OExt own G (gdel G' p) := fun a m h1 e => by
  rw [gdel_ne (gne e hp)]
  exact h a m h1 e
/-- [.. for .. in ..], each element by c draws; frozen -/
theorem draws {wi : DTI} {g : DTG} {te : DTE} {vs : List Nat} {δ : DSt} {P : DK} (S : Src own R) (n c : Nat) (ds : List Dt) (Q : Nat → Dt → Prop) (hT : R G (n + c * ds.length)) (hz : ds.length ≤ 1000) (hw : ∀ P : List Dt → Gp → Prop, P ds G → wi δ G P)
    (turn : ∀ i d G' m (P' : DK), ds[i]? = some d → R G' (m + c) → OExt own G G' → (∀ y G3, Q i y → R G3 m → OExt own G' G3 → P' y G3) → g d (dwipe δ vs) G' fun δ2 G2 => te δ2 G2 P')
    (fin : ∀ ys G', ys.length = ds.length → (∀ i y, ys[i]? = some y → Q i y) → R G' n → OExt own G G' → P (.lst ys) G') : dFrz (dLc wi g dYes te vs) δ G P := by
  refine dLc_intro ds G (fun D i acc G' => i ≤ ds.length ∧ acc.length = i ∧ (∀ j y, acc[j]? = some y → Q j y) ∧ G' D = some (.lst acc) ∧ R G' (n + c * (ds.length - i)) ∧ OExt own G G' ∧ ¬ own D ∧ G D = none)
    hw (fun D hD => ⟨Nat.zero_le _, rfl, by simp, gupd_same, by simpa using S.put hT (S.fresh hT hD), (OExt.refl G).put hD, S.fresh hT hD, hD⟩) (fun D i d acc G' hD hd ⟨hi, hl, hq, hg, hr, hx, ho, _⟩ => ?_) (fun D acc G' hD ⟨hi, hl, hq, hg, hr, hx, ho, _⟩ => ?_)
  · have hlt : i < ds.length := (List.getElem?_eq_some_iff.mp hd).1
    have e : n + c * (ds.length - i) = n + c * (ds.length - (i + 1)) + c := by
      have : ds.length - i = ds.length - (i + 1) + 1 := by omega
      rw [this, Nat.mul_add, Nat.mul_one, Nat.add_assoc]
    rw [e] at hr
    refine turn i d G' _ _ hd hr hx fun y G3 h1 h2 h3 => ?_
    refine ⟨h3 D _ ho hg, by rw [hl]; exact small1000 (by omega), by omega, by rw [List.length_append, hl]; rfl, fun j z hz => ?_, gupd_same, S.put h2 ho, (hx.trans h3).put hD, ho, hD⟩
    by_cases hj : j < acc.length
    · rw [List.getElem?_append_left hj] at hz
      exact hq j z hz
    · rw [List.getElem?_append_right (by omega)] at hz
      have hj0 : j - acc.length = 0 := by
        cases e0 : j - acc.length with
        | zero => rfl
        | succ q => rw [e0] at hz; simp at hz
      rw [hj0] at hz
      cases hz
      have : j = i := by omega
      rw [this]
      exact h1
  · refine ⟨_, _, Clo.frz hg, fin acc _ hl hq (S.del (S.mono hr (by omega)) ho) (hx.del hD)⟩
theorem perm_erase0 {y : Dt} : ∀ {l : List Dt} {r : Nat}, l[r]? = some y → (y :: l.eraseIdx r).Perm l
  | [], r, h => by simp at h
  | x :: l, 0, h => by
    have e : x = y := Option.some.inj h
    subst e
    exact .refl _
  | x :: l, r + 1, h => by
    have ih := perm_erase0 (l := l) (r := r) (by simpa using h)
    show (y :: x :: l.eraseIdx r).Perm (x :: l)
    exact (List.Perm.swap x y _).trans (ih.cons x)
/-- all but the source and one cell stands -/
def OExtL (own : Addr → Prop) (l : Addr) (G G' : Gp) : Prop := ∀ a m, ¬ own a → a ≠ l → G a = some m → G' a = some m
theorem OExtL.trans {l : Addr} (h : OExtL own l G G') (h' : OExtL own l G' G'') : OExtL own l G G'' := fun a m h1 h2 e => h' a m h1 h2 (h a m h1 h2 e)
theorem OExt.l {l : Addr} (h : OExt own G G') : OExtL own l G G' := fun a m h1 _ e => h a m h1 e
/-- [l.pop(a draw) for ..]: some of a list's things, in a drawn order -/
theorem pops {wi : DTI} {g : DTG} {te : DTE} {vs : List Nat} {δ : DSt} {P : DK} (S : Src own R) (n : Nat) (l : Addr) (xs ds : List Dt) (hT : R G (n + ds.length)) (hz : xs.length ≤ 1000) (hl : ds.length ≤ xs.length) (hG : G l = some (.lst xs)) (ho : ¬ own l) (hw : ∀ P : List Dt → Gp → Prop, P ds G → wi δ G P)
    (turn : ∀ (i : Nat) (d : Dt) (G' : Gp) (m : Nat) (rest : List Dt) (P' : DK), ds[i]? = some d → G' l = some (.lst rest) → 0 < rest.length → rest.length ≤ 1000 → R G' (m + 1) → (∀ (r : Nat) y G3, rest[r]? = some y → R G3 m → OExt own G' G3 → P' y (gupd G3 l (.lst (rest.eraseIdx r)))) → g d (dwipe δ vs) G' fun δ2 G2 => te δ2 G2 P')
    (fin : ∀ (ys rest : List Dt) (G' : Gp), (ys ++ rest).Perm xs → ys.length = ds.length → R G' n → OExtL own l G G' → G' l = some (.lst rest) → P (.lst ys) G') : dFrz (dLc wi g dYes te vs) δ G P := by
  refine dLc_intro ds G (fun D i acc G' => i ≤ ds.length ∧ acc.length = i ∧ (∃ rest, (acc ++ rest).Perm xs ∧ G' l = some (.lst rest)) ∧ G' D = some (.lst acc) ∧ R G' (n + (ds.length - i)) ∧ OExtL own l G G' ∧ ¬ own D ∧ G D = none)
    hw (fun D hD => ⟨Nat.zero_le _, rfl, ⟨xs, .refl _, by rw [gupd_ne (gne hG hD)]; exact hG⟩, gupd_same, by simpa using S.put hT (S.fresh hT hD), ((OExt.refl G).put hD).l, S.fresh hT hD, hD⟩) (fun D i d acc G' hD hd ⟨hi, hl', ⟨rest, hp, hr⟩, hg, hR, hx, hoD, _⟩ => ?_) (fun D acc G' hD ⟨hi, hl', ⟨rest, hp, hr⟩, hg, hR, hx, hoD, _⟩ => ?_)
  · have hlt : i < ds.length := (List.getElem?_eq_some_iff.mp hd).1
    have hpl := hp.length_eq
    rw [List.length_append] at hpl
    have e : n + (ds.length - i) = n + (ds.length - (i + 1)) + 1 := by omega
    rw [e] at hR
    have hDl : D ≠ l := (gne hG hD).symm
    refine turn i d G' _ rest _ hd hr (by omega) (by omega) hR fun r y G3 hy h2 h3 => ?_
    refine ⟨by rw [gupd_ne hDl]; exact h3 D _ hoD hg, by rw [hl']; exact small1000 (by omega), by omega, by rw [List.length_append, hl']; rfl, ⟨rest.eraseIdx r, ?_, by rw [gupd_ne hDl.symm, gupd_same]⟩, gupd_same, S.put (S.put h2 ho) hoD, ?_, hoD, hD⟩
    · exact ((List.Perm.append_left acc (perm_erase0 hy)).symm.trans (by simp)).symm.trans hp
    · refine fun a m h1 h2 e => ?_
      rw [gupd_ne (gne e hD), gupd_ne h2]
      exact h3 a m h1 (hx a m h1 h2 e)
  · have hDl : l ≠ D := gne hG hD
    refine ⟨_, _, Clo.frz hg, fin acc rest _ hp (by omega) (S.del (S.mono hR (by omega)) hoD) (fun a m h1 h2 e => ?_) (by rw [gdel_ne hDl]; exact hr)⟩
    rw [gdel_ne (gne e hD)]
    exact hx a m h1 h2 e
end
end V

set_option Elab.async false
set_option linter.all false
set_option maxRecDepth 100000
set_option maxHeartbeats 8000000
namespace DL
open PySem PySem.Spec L2
section
variable {X : Cx} {B : Hp} {e : Expr} {es : List Expr} {p pos kpos : Pos} {x nm : Str} {C : Addr} {ps : List Str} {c : DSp} {k j : Nat} {ta : DTE} {tl : DTA}
theorem d_frzMake (D : Dmk X.prog X.w X.K X.mg X.base CX0 C ps c k) (hr : Room j X.A) (hg : Gl X x) (hm : X.mg x = some (.ref C)) (ha : DA X B (e :: es) tl) (hj : k + 1 ≤ j := by decide)
    (hdb : (x == ("__debug__" : Str)) = false := by decide) (he : starEach (e :: es) X.env = (false, eval e X.env) :: starEach es X.env := by rfl) (hpl : (backTo pos (starEach es X.env)).any (·.1) = false := by rfl) :
    DE X B (.Call (.Name x p) (e :: es) [] pos) (dFrz (dMake C c noX tl)) := d_frz (d_makeD D hr hg hm ha hj hdb he hpl)
theorem d_frzMakeKw (D : DmkK X.prog X.w X.K X.mg X.base C ps [nm] c k) (hr : Room j X.A) (hg : Gl X x) (hm : X.mg x = some (.ref C)) (ha : DE X B e ta) (hj : k + 1 ≤ j := by decide)
    (hall : (backToKw pos (keywordEach [⟨some nm, e, kpos⟩] X.env)).all (·.1.isSome) = true := by rfl) (hks : (backToKw pos (keywordEach [⟨some nm, e, kpos⟩] X.env)).filterMap (·.1) = [nm] := by rfl) (hdb : (x == ("__debug__" : Str)) = false := by decide)
    (hpl : ((backTo pos (starEach [] X.env)).any (·.1) || (backToKw pos (keywordEach [⟨some nm, e, kpos⟩] X.env)).any (·.1.isNone)) = false := by rfl) :
    DE X B (.Call (.Name x p) [] [⟨some nm, e, kpos⟩] pos) (dFrz (dMake C c noX (dCons ta dNil))) := d_frz (d_makeKw D hr hg hm ha hj hall hks hdb hpl)
end
end DL
namespace V
open PySem PySem.Spec L2 DL
theorem gdel_gupd {G : Gp} {p : Addr} {m : MO} (h : G p = none) : gdel (gupd G p m) p = G := by
  funext a
  by_cases e : a = p
  · rw [e, h]; simp [gdel]
  · rw [gdel_ne e, gupd_ne e]
theorem made {C : Addr} {r : Dt} {E : List (Nat × Nat)} {d : Nat → Nat → Nat} {G : Gp} {P : DK} {R : DXK} (hr : asL G r = some (rdD E)) (hE : Tree E) (hl : E.length ≤ 399) (hd : Dists E d) (hP : P (vilD C (vilOf E d)) G) :
    ∀ p, G p = none → c_vinit C [.ref p, r] (gupd G p (.ins C [] [])) (fun d G2 => d = .non ∧ dCl P (.ref p) G2) R := fun p hp => by
  refine ⟨p, r, E, d, rfl, asL_new hr hp, gupd_same, hl, hE.sound, hd, rfl, vilD C (vilOf E d), G, ?_, hP⟩
  rw [gupd_gupd]
  have := Clo.frzO (G := gupd G p (.ins C vN [.lst (rdD (vilOf E d).rows), .lst (nnD (vilOf E d).doors), .memo (vilOf E d).far])) gupd_same
  rw [gdel_gupd hp] at this
  exact this
section
variable {X : Cx} {B : Hp} {C : Addr} {ps : List Str} {c : DSp} {k j : Nat}
theorem o_ownEqK {K : PySem.W.Frag} (D : DmtO X.prog X.w K X.mg X.base C "__eq__" ps c k) (hr : Room j X.A) (hK : X.K = K) (hj : k ≤ j) : DOp X B (compareOp .Eq) (rOwn K C c) := by
  subst hK
  exact o_ownEq D hr hj
theorem o_ownNeK {K : PySem.W.Frag} (D : DmtO X.prog X.w K X.mg X.base C "__ne__" ps c k) (hr : Room j X.A) (hK : X.K = K) (hj : k ≤ j) : DOp X B (compareOp .NotEq) (rOwn K C c) := by
  subst hK
  exact o_ownNe D hr hj
end
theorem Tree.swap {E : List (Nat × Nat)} (h : Tree E) : Tree (E.map Prod.swap) := by
  refine ⟨fun p hp => ?_, fun x hx => ?_⟩
  · obtain ⟨q, hq, rfl⟩ := List.mem_map.mp hp
    rw [List.length_map]
    exact (h.lt q hq).symm
  · rw [List.length_map] at hx
    refine (h.con x hx).mono fun p hp => .inr (List.mem_map.mpr ⟨p, hp, rfl⟩)
theorem swapped {E F : List (Nat × Nat)} (h : Tree E) (p : F.Perm E) : Tree (F.map Prod.swap) ∧ (F.map Prod.swap).length = E.length ∧ inOrd (F.map Prod.swap) = inOrd E := by
  refine ⟨(h.perm p).swap, by rw [List.length_map, p.length_eq], inOrd_congr ?_⟩
  rw [List.map_map]
  have e : F.map (norm ∘ Prod.swap) = F.map norm := List.map_congr_left fun q _ => by
    simp only [Function.comp, norm, Prod.swap, Nat.min_comm, Nat.max_comm]
  rw [e]
  exact p.map norm
section
variable {K : PySem.W.Frag} {mg : Str → Option Value} {C : Addr}
theorem own_vil (T : TV K mg C) {neg : Bool} {v v' : Vil} {G : Gp} {P : DK} (h : P (.bl (neg != decide (v.rows = v'.rows))) G) : rOwn K C (c_veq K C neg) (vilD C v) (vilD C v') G P :=
  ⟨⟨vN, _, vil_ins⟩, ⟨.ref C, rfl, fun D e => by cases e; exact T.isf, by simp [PySem.W.notFirst]⟩, v, _, rfl, .inl ⟨v', rfl, h⟩⟩
theorem own_no {neg : Bool} {v : Vil} {d : Dt} {G : Gp} {P : DK} (n : NoVil K C G d) (h : P (.bl neg) G) : rOwn K C (c_veq K C neg) (vilD C v) d G P := by
  obtain ⟨m, h1, h2, h3⟩ := n
  exact ⟨⟨vN, _, vil_ins⟩, ⟨.type m, h1, fun D e => (nomatch e), h3⟩, v, _, rfl, .inr ⟨⟨m, h1, h2, h3⟩, h⟩⟩
end
end V

set_option Elab.async false
set_option linter.all false
set_option maxRecDepth 100000
namespace V
open PySem PySem.Spec L2 DL
theorem natsD_perm {ys : List Dt} {l : List Nat} (h : ys.Perm (natsD l)) : ∃ m : List Nat, ys = natsD m ∧ m.Perm l := by
  have key : ∀ {ys : List Dt}, (∀ d ∈ ys, ∃ x : Nat, d = .int (x : Int)) → ys = natsD (ys.map fun d => match d with | .int z => z.toNat | _ => 0) := by
    intro ys
    induction ys with
    | nil => intro _; rfl
    | cons d ys ih =>
      intro hall
      obtain ⟨x, rfl⟩ := hall d List.mem_cons_self
      have := ih fun e he => hall e (List.mem_cons_of_mem _ he)
      rw [List.map_cons, natsD_cons, ← this]
      rfl
  have h1 : ∀ d ∈ ys, ∃ x : Nat, d = .int (x : Int) := fun d hd => by
    obtain ⟨x, _, e⟩ := natsD_mem (h.mem_iff.mp hd)
    exact ⟨x, e⟩
  refine ⟨_, key h1, ?_⟩
  have := h.map fun d => match d with | Dt.int z => z.toNat | _ => 0
  refine this.trans (.of_eq ?_)
  simp [natsD, List.map_map, Function.comp_def]
theorem rdD_perm {ys : List Dt} {l : List (Nat × Nat)} (h : ys.Perm (rdD l)) : ∃ m : List (Nat × Nat), ys = rdD m ∧ m.Perm l := by
  have key : ∀ {ys : List Dt}, (∀ d ∈ ys, ∃ x : Nat × Nat, d = npD x) → ys = rdD (ys.map fun d => match d with | .tup [.int z, .int u] => (z.toNat, u.toNat) | _ => (0, 0)) := by
    intro ys
    induction ys with
    | nil => intro _; rfl
    | cons d ys ih =>
      intro hall
      obtain ⟨x, rfl⟩ := hall d List.mem_cons_self
      have := ih fun e he => hall e (List.mem_cons_of_mem _ he)
      rw [List.map_cons]
      show npD x :: ys = npD _ :: rdD _
      rw [← this]
      rfl
  have h1 : ∀ d ∈ ys, ∃ x : Nat × Nat, d = npD x := fun d hd => by
    obtain ⟨x, _, e⟩ := rdD_mem (h.mem_iff.mp hd)
    exact ⟨x, e⟩
  refine ⟨_, key h1, ?_⟩
  have := h.map fun d => match d with | Dt.tup [.int z, .int u] => (z.toNat, u.toNat) | _ => (0, 0)
  refine this.trans (.of_eq ?_)
  simp [rdD, npD, pairD, List.map_map, Function.comp_def]
end V

set_option Elab.async false
set_option linter.all false
set_option maxRecDepth 100000
set_option maxHeartbeats 4000000
namespace V
open PySem PySem.Spec L2 DL
/-- the pot p: n more draws are in order -/
def Pot (p : Addr) (G : Gp) (n : Nat) : Prop := ∃ a b c : Int, G p = some (.lst [.int a, .int b, .int c]) ∧ 0 ≤ b ∧ b < 2 ^ 62 ∧ 0 ≤ c ∧ c + n ≤ 2 ^ 60
abbrev Pown (p : Addr) : Addr → Prop := fun a => a = p
theorem potSrc {p : Addr} : Src (Pown p) (Pot p) where
  ge := fun {G G' n} ⟨a, b, c, h, r⟩ e => ⟨a, b, c, by rw [e p rfl]; exact h, r⟩
  has := fun {G n a} ⟨_, b, c, h, r⟩ o => by
    cases o
    rw [h]; simp
  mono := fun {G n m} ⟨a, b, c, h, h1, h2, h3, h4⟩ l => ⟨a, b, c, h, h1, h2, h3, by omega⟩
theorem Pot.mono {p : Addr} {G : Gp} {n m : Nat} (h : Pot p G n) (l : m ≤ n) : Pot p G m := potSrc.mono h l
section
variable {P : Program} {w : World} {K : PySem.W.Frag} {mg : Str → Option Value} {base : Heap} {C : Addr}
abbrev s_law_pot : Stmt := top 27
abbrev n_law_pot : List Str := ["script", "k", "cell"]
abbrev p_law_pot : List Str := ["script", "k"]
theorem sc_law_pot : FnScope n_law_pot p_law_pot (defScope s_law_pot) := ⟨rfl, rfl, rfl, by decide +kernel, rfl, by decide +kernel, by decide +kernel⟩
def c_pot : DSp := fun ds G P _ => ∃ (ns : List Int) (k : Nat), ds = [.scr ns, .int (k : Int)] ∧ ns.length ≤ 63 ∧ k ≤ 100 ∧ ∀ p G', G p = none → GLe G G' → Pot p G' (2 ^ 59) → P (.ref p) G'
theorem ok_pot (T : Bt mg) (TF : TopFn K mg "_law_pot" s_law_pot p_law_pot) : Dfn P w K mg base CX0 "_law_pot" p_law_pot c_pot 1 := by
  refine dfn_of TF sc_law_pot (fun ds G P R ⟨ns, k, e, _⟩ => by rw [e]; rfl) fun f cdv A outer s H E B hr => ?_
  refine ⟨_, (dss_cons (ds_set (i := 2) sc_law_pot.nd rfl (by first | exact Or.inl rfl | exact Or.inr rfl) d_int)
      (dss_cons (ds_if (dt_cmp o_lt (dv (pv 1)) (d_callB c_len (by rfl) T.len (by decide +kernel) (da_cons (dv (pv 0)) da_nil)) (nomark _)) (dss_one (ds_set (i := 2) sc_law_pot.nd rfl (by first | exact Or.inl rfl | exact Or.inr rfl) (d_ix (dv (pv 0)) (dv (pv 1)) (fun _ _ => rfl)))) dss_nil)
      (dss_one (ds_ret (d_lstM (da_cons (d_callB (c_max2 rfl) (by rfl) T.max (by decide +kernel) (da_cons d_int (da_cons (d_op o_sub (d_callB c_abs (by rfl) T.abs (by decide +kernel) (da_cons (dv (pv 2)) da_nil)) (d_op o_pow d_int d_int)) da_nil))) (da_cons (d_op o_add (d_op o_modN (dv (pv 2)) d_int) (d_op o_mul d_int (d_op o_add (dv (pv 1)) d_int))) (da_cons d_int da_nil)))))))), ?_⟩
  rintro ds G P R ⟨ns, k, rfl, hl, hk, p⟩
  have fin : ∀ z : Int, (dRet (dLstM (dCons (dCB rMax2 (dCons (dC (.int 0)) (dCons (dOp (r2I (fun _ _ => True) fun i j => .int (i - j)) (dCB rAbs (dCons (dVar 2) dNil)) (dOp (r2I CPow fun i j => .int (i ^ j.toNat)) (dC (.int 10)) (dC (.int 18)))) dNil))) (dCons (dOp (r2I (fun _ _ => True) fun i j => .int (i + j)) (dOp (r2I (fun _ j => j ≠ 0) fun i j => .int (i.fmod j)) (dVar 2) (dC (.int 2305843009213693951))) (dOp (r2I CMul fun i j => .int (i * j)) (dC (.int 6469693)) (dOp (r2I (fun _ _ => True) fun i j => .int (i + j)) (dVar 1) (dC (.int 1))))) (dCons (dC (.int 0)) dNil))))) (dEnds P) [some (.scr ns), some (.int (k : Int)), some (.int z)] G := by
    intro z
    simp [and_assoc, dRet, dRetN, dRetC, dChain, r2I, dC, dVar, dEnds, dstart, dOp, dCB, DL.rLen, dCons, dNil, dFld, asL_lst, asQ_lst, asQ_tup, asQ_scr, ins_obj, dNever, dgN, dgNil, dgCons, dgTup, dIf, dNot, dAnd, dOr, dB, dCall, dMeth, dNext, dSeq, dSt, dLst, dTup, dIfE, rIxQ, dDrop, dYes, diL, diR1, diR2, dNeg, dAsg, dwipe, dBM, dBM0, rAppendD, rMin2, rMax2, atI_0, atI_1, atI_2, atI_3, ix4_0, ix4_1, ix4_3, dLstM, rAbs]
    have m1 : z.fmod 2305843009213693951 < 2305843009213693951 := Int.fmod_lt_of_pos _ (by decide)
    have m0 : 0 ≤ z.fmod 2305843009213693951 := Int.fmod_nonneg_of_pos _ (by decide)
    refine ⟨⟨by decide, by decide, by decide⟩, .inl ⟨by decide, by decide⟩, by rw [sizeLine_eq]; decide, fun q hq => ?_⟩
    exact p q _ hq (GLe.gupd hq) ⟨_, _, 0, gupd_same, by omega, by omega, by decide, by decide⟩
  by_cases h : k < ns.length
  · have hat : atI (ns.map Dt.int) (k : Int) = some (.int ns[k]) := atI_nat' (by rw [List.getElem?_map, List.getElem?_eq_getElem h]; rfl)
    simp [and_assoc, dRet, dRetN, dRetC, dChain, r2I, dC, dVar, dEnds, dstart, dOp, dCB, DL.rLen, dCons, dNil, dFld, asL_lst, asQ_lst, asQ_tup, asQ_scr, ins_obj, dNever, dgN, dgNil, dgCons, dgTup, dIf, dNot, dAnd, dOr, dB, dCall, dMeth, dNext, dSeq, dSt, dLst, dTup, dIfE, rIxQ, dDrop, dYes, diL, diR1, diR2, dNeg, dAsg, dwipe, dBM, dBM0, rAppendD, rMin2, rMax2, atI_0, atI_1, atI_2, atI_3, ix4_0, ix4_1, ix4_3, n_law_pot, h, hat]
    exact fin _
  · simp [and_assoc, dRet, dRetN, dRetC, dChain, r2I, dC, dVar, dEnds, dstart, dOp, dCB, DL.rLen, dCons, dNil, dFld, asL_lst, asQ_lst, asQ_tup, asQ_scr, ins_obj, dNever, dgN, dgNil, dgCons, dgTup, dIf, dNot, dAnd, dOr, dB, dCall, dMeth, dNext, dSeq, dSt, dLst, dTup, dIfE, rIxQ, dDrop, dYes, diL, diR1, diR2, dNeg, dAsg, dwipe, dBM, dBM0, rAppendD, rMin2, rMax2, atI_0, atI_1, atI_2, atI_3, ix4_0, ix4_1, ix4_3, n_law_pot, h]
    exact fin _
abbrev s_law_draw : Stmt := top 28
abbrev n_law_draw : List Str := ["pot", "many", "drawn", "mixed"]
abbrev p_law_draw : List Str := ["pot", "many"]
theorem sc_law_draw : FnScope n_law_draw p_law_draw (defScope s_law_draw) := ⟨rfl, rfl, rfl, by decide +kernel, rfl, by decide +kernel, by decide +kernel⟩
def c_pdraw : DSp := fun ds G P _ => ∃ (p : Addr) (many n : Nat), ds = [.ref p, .int (many : Int)] ∧ 0 < many ∧ many < 10000000000000000000000000000000000000000000000000000000000000000000000 ∧ Pot p G (n + 1) ∧ ∀ (r : Nat) G', r < many → Pot p G' n → OExt (Pown p) G G' → P (.int (r : Int)) G'
theorem ok_pdraw (T : Bt mg) (TF : TopFn K mg "_law_draw" s_law_draw p_law_draw) : Dfn P w K mg base CX0 "_law_draw" p_law_draw c_pdraw 1 := by
  refine dfn_of TF sc_law_draw (fun ds G P R ⟨p, many, n, e, _⟩ => by rw [e]; rfl) fun f cdv A outer s H E B hr => ?_
  refine ⟨_, (dss_cons (ds_if (dt_cmp o_gt (d_ix (dv (pv 0)) d_int (fun _ _ => rfl)) d_int (nomark _)) (dss_cons (ds_set (i := 2) sc_law_draw.nd rfl (by first | exact Or.inl rfl | exact Or.inr rfl) (d_op o_modN (d_ix (dv (pv 0)) d_int (fun _ _ => rfl)) (dv (pv 1))))
      (dss_cons (ds_asg (d_op o_fdivW (d_ix (dv (pv 0)) d_int (fun _ _ => rfl)) (dv (pv 1))) (dg_sub (dv (pv 0)) d_int s_set))
      (dss_one (ds_ret (dv (pv 2)))))) dss_nil)
      (dss_cons (ds_asg (d_op o_add (d_ix (dv (pv 0)) d_int (fun _ _ => rfl)) d_int) (dg_sub (dv (pv 0)) d_int s_set))
      (dss_cons (ds_set (i := 3) sc_law_draw.nd rfl (by first | exact Or.inl rfl | exact Or.inr rfl) (d_op o_modN (d_op o_powB (d_op o_add (d_ix (dv (pv 0)) d_int (fun _ _ => rfl)) (d_op o_mul d_int (d_ix (dv (pv 0)) d_int (fun _ _ => rfl)))) d_int) d_int))
      (dss_cons (ds_set (i := 3) sc_law_draw.nd rfl (by first | exact Or.inl rfl | exact Or.inr rfl) (d_op o_modN (d_op o_powB (d_op o_add (dv (pv 3)) (d_op o_mul d_int (d_ix (dv (pv 0)) d_int (fun _ _ => rfl)))) d_int) d_int))
      (dss_one (ds_ret (d_op o_modN (d_op o_fdivN (dv (pv 3)) d_int) (dv (pv 1))))))))), ?_⟩
  rintro ds G P R ⟨q, many, n, rfl, hm, hm2, ⟨a, b, c, h1, hb0, hb1, hc0, hc1⟩, p⟩
  have put : ∀ m, OExt (Pown q) G (gupd G q m) := fun m a' m' h1 e => by rw [gupd_ne h1]; exact e
  by_cases ha : 0 < a
  · simp [and_assoc, dRet, dRetN, dRetC, dChain, r2I, dC, dVar, dEnds, dstart, dOp, dCB, DL.rLen, dCons, dNil, dFld, asL_lst, asQ_lst, asQ_tup, asQ_scr, ins_obj, dNever, dgN, dgNil, dgCons, dgTup, dIf, dNot, dAnd, dOr, dB, dCall, dMeth, dNext, dSeq, dSt, dLst, dTup, dIfE, rIxQ, dDrop, dYes, diL, diR1, diR2, dNeg, dAsg, dwipe, dBM, dBM0, rAppendD, rMin2, rMax2, atI_0, atI_1, atI_2, atI_3, ix4_0, ix4_1, ix4_3, n_law_draw, asQ_ref h1, ha, dgSub, sSet, h1]
    have hlog : (many : Int).natAbs.log2 < 9000 := by
      rw [Int.natAbs_natCast]
      exact (Nat.log2_lt (by omega)).mpr (Nat.lt_of_lt_of_le hm2 (by decide +kernel))
    refine ⟨by omega, ⟨by omega, hlog⟩, ?_⟩
    have hr0 : 0 ≤ a.fmod many := Int.fmod_nonneg_of_pos _ (by omega)
    have hr1 : a.fmod many < many := Int.fmod_lt_of_pos _ (by omega)
    have ix : ixN 3 0 = some 0 := by decide
    refine ⟨0, ix, ?_⟩
    have := p (a.fmod many).toNat (gupd G q (.lst [.int (a.fdiv many), .int b, .int c])) (by omega) ⟨_, b, c, gupd_same, hb0, hb1, hc0, by omega⟩ (put _)
    rw [Int.toNat_of_nonneg hr0] at this
    rw [Int.fdiv_eq_ediv_of_nonneg _ (by omega)] at this
    exact this
  · have ix2 : ixN 3 2 = some 2 := by decide
    simp [and_assoc, dRet, dRetN, dRetC, dChain, r2I, dC, dVar, dEnds, dstart, dOp, dCB, DL.rLen, dCons, dNil, dFld, asL_lst, asQ_lst, asQ_tup, asQ_scr, ins_obj, dNever, dgN, dgNil, dgCons, dgTup, dIf, dNot, dAnd, dOr, dB, dCall, dMeth, dNext, dSeq, dSt, dLst, dTup, dIfE, rIxQ, dDrop, dYes, diL, diR1, diR2, dNeg, dAsg, dwipe, dBM, dBM0, rAppendD, rMin2, rMax2, atI_0, atI_1, atI_2, atI_3, ix4_0, ix4_1, ix4_3, n_law_draw, asQ_ref h1, ha, dgSub, sSet, h1, ix2, asQ_ref gupd_same]
    have m1 : ((b + 15485863 * (c + 1)) ^ 3).fmod 162259276829213363391578010288127 < 162259276829213363391578010288127 := Int.fmod_lt_of_pos _ (by decide)
    have m0 : 0 ≤ ((b + 15485863 * (c + 1)) ^ 3).fmod 162259276829213363391578010288127 := Int.fmod_nonneg_of_pos _ (by decide)
    generalize ((b + 15485863 * (c + 1)) ^ 3).fmod 162259276829213363391578010288127 = mixed at m0 m1 ⊢
    refine ⟨.inl ⟨by decide, by decide⟩, ⟨by decide, by decide, by omega⟩, .inl ⟨by decide, by decide⟩, ⟨by decide, by decide, by omega⟩, ⟨by decide, by decide⟩, by omega, ?_⟩
    generalize (((mixed + 32452843 * (c + 1)) ^ 5).fmod 170141183460469231731687303715884105727).fdiv 1048576 = z
    have hr0 : 0 ≤ z.fmod many := Int.fmod_nonneg_of_pos _ (by omega)
    have hr1 : z.fmod many < many := Int.fmod_lt_of_pos _ (by omega)
    have := p (z.fmod many).toNat (gupd G q (.lst [.int a, .int b, .int (c + 1)])) (by omega) ⟨a, b, c + 1, gupd_same, hb0, hb1, by omega, by omega⟩ (put _)
    rw [Int.toNat_of_nonneg hr0] at this
    exact this
end
end V

set_option Elab.async false
set_option linter.all false
set_option maxRecDepth 100000
set_option maxHeartbeats 4000000
namespace V
open PySem PySem.Spec L2 DL
theorem perm_ins {α : Type} (l : List α) (i : Nat) (x : α) : (l.take i ++ [x] ++ l.drop i).Perm (l ++ [x]) := by
  rw [List.append_assoc]
  refine (List.Perm.append_left _ List.perm_append_comm).trans ?_
  rw [← List.append_assoc, List.take_append_drop]
section
variable {P : Program} {w : World} {K : PySem.W.Frag} {mg : Str → Option Value} {base : Heap} {C : Addr}
abbrev s_law_drawn : Stmt := top 29
abbrev n_law_drawn : List Str := ["pot", "most", "many", "kind", "names", "found", "k", "some", "ends", "pair"]
abbrev p_law_drawn : List Str := ["pot", "most"]
theorem sc_law_drawn : FnScope n_law_drawn p_law_drawn (defScope s_law_drawn) := ⟨rfl, rfl, rfl, by decide +kernel, rfl, by decide +kernel, by decide +kernel⟩
def c_drawn : DSp := fun ds G P _ => ∃ (p : Addr) (most n : Nat), ds = [.ref p, .int (most : Int)] ∧ 0 < most ∧ most ≤ 40 ∧ Pot p G (n + 300) ∧ ∀ E G', Tree E → E.length + 1 ≤ most → Pot p G' n → OExt (Pown p) G G' → P (.lst (rdD E)) G'
theorem ok_drawn (T : Bt mg) (TF : TopFn K mg "_law_drawn" s_law_drawn p_law_drawn) (D__law_draw : Dfn P w K mg base CX0 "_law_draw" p_law_draw c_pdraw 1) : Dfn P w K mg base CX0 "_law_drawn" p_law_drawn c_drawn 2 := by
  refine dfn_of TF sc_law_drawn (fun ds G P R ⟨t, most, n, e, _⟩ => by rw [e]; rfl) fun f cdv A outer s H E B hr => ?_
  refine ⟨_, (dss_cons (ds_set (i := 2) sc_law_drawn.nd rfl (by first | exact Or.inl rfl | exact Or.inr rfl) (d_op o_add d_int (d_callD D__law_draw hr (by rfl) (da_cons (dv (pv 0)) (da_cons (dv (pv 1)) da_nil)))))
      (dss_cons (ds_set (i := 3) sc_law_drawn.nd rfl (by first | exact Or.inl rfl | exact Or.inr rfl) (d_callD D__law_draw hr (by rfl) (da_cons (dv (pv 0)) (da_cons d_int da_nil))))
      (dss_cons (ds_set (i := 4) sc_law_drawn.nd rfl (by first | exact Or.inl rfl | exact Or.inr rfl) (d_listRgM rfl (by rfl) T.list (d_rg1 (by rfl) T.range (dv (pv 2)))))
      (dss_cons (ds_set (i := 4) sc_law_drawn.nd rfl (by first | exact Or.inl rfl | exact Or.inr rfl) (d_frz (d_lc (own := [("k", 6)]) rfl sc_law_drawn.nd (di_range1 (by rfl) T.range (da_cons (dv (pv 2)) da_nil)) (blkOk_by (N := n_law_drawn) (sc := defScope s_law_drawn) (by decide +kernel)) (fun _ _ _ _ _ => (dgw_name (pg_name (i := 6) sc_law_drawn.nd rfl (by first | exact Or.inl rfl | exact Or.inr rfl)))) (fun _ _ _ _ _ => dts_nil) (fun _ _ _ _ _ => (d_popAt (dv (pv 4)) (d_callD D__law_draw hr (by rfl) (da_cons (dv (pv 0)) (da_cons (d_callB c_len (by rfl) T.len (by decide +kernel) (da_cons (dv (pv 4)) da_nil)) da_nil))))))))
      (dss_cons (ds_set (i := 5) sc_law_drawn.nd rfl (by first | exact Or.inl rfl | exact Or.inr rfl) (d_lstM da_nil))
      (dss_cons (ds_for PassesOwn.never rfl (di_range2 (by rfl) T.range (da_cons d_int (da_cons (dv (pv 2)) da_nil))) (dg_name (pg_name (i := 6) sc_law_drawn.nd rfl (by first | exact Or.inl rfl | exact Or.inr rfl))) (dss_cons (ds_set (i := 7) sc_law_drawn.nd rfl (by first | exact Or.inl rfl | exact Or.inr rfl) (d_lst (da_cons (d_op o_sub (dv (pv 6)) d_int) (da_cons d_int (da_cons (d_callD D__law_draw hr (by rfl) (da_cons (dv (pv 0)) (da_cons (dv (pv 6)) da_nil))) (da_cons (d_callB (c_max2 rfl) (by rfl) T.max (by decide +kernel) (da_cons d_int (da_cons (d_op o_sub (d_op o_sub (dv (pv 6)) d_int) (d_callD D__law_draw hr (by rfl) (da_cons (dv (pv 0)) (da_cons d_int da_nil)))) da_nil))) da_nil))))))
      (dss_cons (ds_set (i := 8) sc_law_drawn.nd rfl (by first | exact Or.inl rfl | exact Or.inr rfl) (d_lst (da_cons (d_ix (dv (pv 4)) (d_ix (dv (pv 7)) (dv (pv 3)) (fun _ _ => rfl)) (fun _ _ => rfl)) (da_cons (d_ix (dv (pv 4)) (dv (pv 6)) (fun _ _ => rfl)) da_nil))))
      (dss_cons (ds_set (i := 9) sc_law_drawn.nd rfl (by first | exact Or.inl rfl | exact Or.inr rfl) (d_ifExp (dt_cmp o_eqI (d_callD D__law_draw hr (by rfl) (da_cons (dv (pv 0)) (da_cons d_int da_nil))) d_int (nomark _)) (d_tup (da_cons (d_ix (dv (pv 8)) d_int (fun _ _ => rfl)) (da_cons (d_ix (dv (pv 8)) d_int (fun _ _ => rfl)) da_nil))) (d_tup (da_cons (d_ix (dv (pv 8)) d_int (fun _ _ => rfl)) (da_cons (d_ix (dv (pv 8)) d_int (fun _ _ => rfl)) da_nil)))))
      (dss_one (ds_expr (d_insert (dv (pv 5)) (d_callD D__law_draw hr (by rfl) (da_cons (dv (pv 0)) (da_cons (d_op o_add (d_callB c_len (by rfl) T.len (by decide +kernel) (da_cons (dv (pv 5)) da_nil)) d_int) da_nil))) (dv (pv 9)))))))))
      (dss_one (ds_retC (dv (pv 5)))))))))), ?_⟩
  rintro ds G P R ⟨q, most, n, rfl, hm0, hm1, hT, p⟩
  simp [and_assoc, dRet, dRetN, dRetC, dChain, r2I, dC, dVar, dEnds, dstart, dOp, dCB, DL.rLen, dCons, dNil, dFld, asL_lst, asQ_lst, asQ_tup, asQ_scr, ins_obj, dNever, dgN, dgNil, dgCons, dgTup, dIf, dNot, dAnd, dOr, dB, dCall, dMeth, dNext, dSeq, dSt, dLst, dTup, dIfE, rIxQ, dDrop, dYes, diL, diR1, diR2, dNeg, dAsg, dwipe, dBM, dBM0, rAppendD, rMin2, rMax2, atI_0, atI_1, atI_2, atI_3, ix4_0, ix4_1, ix4_3, asL_g, asQ_g, now_g, gupd_same, gupd_gupd, Int.ofNat_inj, now_lst, now_int, now_tup, asL_lst, natsD_length, rdD_length, vilD_inj, vil_ins, natsD_inj, rdD_inj, nnD_inj, n_law_drawn, dListRgM, dRg1]
  refine ⟨q, most, n + 299, rfl, hm0, by omega, hT, fun r1 G1 hr1 hT1 hx1 => ?_⟩
  refine ⟨_, rfl, q, 4, n + 298, rfl, by decide, by decide, hT1, fun kind G2 hk hT2 hx2 => ?_⟩
  simp [and_assoc, dRet, dRetN, dRetC, dChain, r2I, dC, dVar, dEnds, dstart, dOp, dCB, DL.rLen, dCons, dNil, dFld, asL_lst, asQ_lst, asQ_tup, asQ_scr, ins_obj, dNever, dgN, dgNil, dgCons, dgTup, dIf, dNot, dAnd, dOr, dB, dCall, dMeth, dNext, dSeq, dSt, dLst, dTup, dIfE, rIxQ, dDrop, dYes, diL, diR1, diR2, dNeg, dAsg, dwipe, dBM, dBM0, rAppendD, rMin2, rMax2, atI_0, atI_1, atI_2, atI_3, ix4_0, ix4_1, ix4_3, asL_g, asQ_g, now_g, gupd_same, gupd_gupd, Int.ofNat_inj, now_lst, now_int, now_tup, asL_lst, natsD_length, rdD_length, vilD_inj, vil_ins, natsD_inj, rdD_inj, nnD_inj, dListRgM, dRg1]
  refine ⟨by unfold RgOk; omega, fun la hla => ?_⟩
  have e0 : rgD 0 (1 + (r1 : Int)) = natsD (List.range (r1 + 1)) := by rw [← rgD0]; congr 1; omega
  rw [e0]
  have hlo : ¬ Pown q la := potSrc.fresh hT2 hla
  refine pops (own := Pown q) (R := Pot q) potSrc (n + 250) la (natsD (List.range (r1 + 1))) (natsD (List.range (r1 + 1))) (potSrc.put (hT2.mono (by rw [natsD_length, List.length_range]; omega)) hlo) (by rw [natsD_length, List.length_range]; omega) (Nat.le_refl _) gupd_same hlo (fun P p => ?_) (fun i d G' m rest P' hd hl hpos hle hR p' => ?_) (fun ys rest G4 hp hys hR hx4 hrest => ?_)
  · simp [and_assoc, dRet, dRetN, dRetC, dChain, r2I, dC, dVar, dEnds, dstart, dOp, dCB, DL.rLen, dCons, dNil, dFld, asL_lst, asQ_lst, asQ_tup, asQ_scr, ins_obj, dNever, dgN, dgNil, dgCons, dgTup, dIf, dNot, dAnd, dOr, dB, dCall, dMeth, dNext, dSeq, dSt, dLst, dTup, dIfE, rIxQ, dDrop, dYes, diL, diR1, diR2, dNeg, dAsg, dwipe, dBM, dBM0, rAppendD, rMin2, rMax2, atI_0, atI_1, atI_2, atI_3, ix4_0, ix4_1, ix4_3]
    rw [show (1 + (r1 : Int)).toNat = r1 + 1 from by omega, upto0]
    exact ⟨by omega, by omega, p⟩
  · simp [and_assoc, dRet, dRetN, dRetC, dChain, r2I, dC, dVar, dEnds, dstart, dOp, dCB, DL.rLen, dCons, dNil, dFld, asL_lst, asQ_lst, asQ_tup, asQ_scr, ins_obj, dNever, dgN, dgNil, dgCons, dgTup, dIf, dNot, dAnd, dOr, dB, dCall, dMeth, dNext, dSeq, dSt, dLst, dTup, dIfE, rIxQ, dDrop, dYes, diL, diR1, diR2, dNeg, dAsg, dwipe, dBM, dBM0, rAppendD, rMin2, rMax2, atI_0, atI_1, atI_2, atI_3, ix4_0, ix4_1, ix4_3, asL_g, asQ_g, now_g, gupd_same, gupd_gupd, Int.ofNat_inj, now_lst, now_int, now_tup, asL_lst, natsD_length, rdD_length, vilD_inj, vil_ins, natsD_inj, rdD_inj, nnD_inj, asL_ref hl, asQ_ref hl]
    refine ⟨q, rest.length, m, rfl, hpos, by omega, hR, fun r G3 hr3 hT3 hx3 => ?_⟩
    obtain ⟨y, hy⟩ : ∃ y, rest[r]? = some y := ⟨_, List.getElem?_eq_getElem hr3⟩
    exact ⟨la, rest, (r : Int), r, y, rfl, rfl, hx3 la _ hlo hl, by omega, by omega, by rw [seqIndex?]; simp; omega, hy, p' r y G3 hy hT3 hx3⟩
  have hrn : rest = [] := by
    have := hp.length_eq
    rw [List.length_append, hys] at this
    exact List.length_eq_zero_iff.mp (by omega)
  subst hrn
  rw [List.append_nil] at hp
  obtain ⟨names, rfl, hnames⟩ : ∃ names : List Nat, ys = natsD names ∧ names.Perm (List.range (r1 + 1)) := natsD_perm hp
  simp [and_assoc, dRet, dRetN, dRetC, dChain, r2I, dC, dVar, dEnds, dstart, dOp, dCB, DL.rLen, dCons, dNil, dFld, asL_lst, asQ_lst, asQ_tup, asQ_scr, ins_obj, dNever, dgN, dgNil, dgCons, dgTup, dIf, dNot, dAnd, dOr, dB, dCall, dMeth, dNext, dSeq, dSt, dLst, dTup, dIfE, rIxQ, dDrop, dYes, diL, diR1, diR2, dNeg, dAsg, dwipe, dBM, dBM0, rAppendD, rMin2, rMax2, atI_0, atI_1, atI_2, atI_3, ix4_0, ix4_1, ix4_3, asL_g, asQ_g, now_g, gupd_same, gupd_gupd, Int.ofNat_inj, now_lst, now_int, now_tup, asL_lst, natsD_length, rdD_length, vilD_inj, vil_ins, natsD_inj, rdD_inj, nnD_inj, dLstM]
  intro fa hfa
  have hfo : ¬ Pown q fa := potSrc.fresh hR hfa
  have hG2 : OExt (Pown q) G G2 := hx1.trans hx2
  have hG4 : OExt (Pown q) G G4 := fun a m h1 e => by
    have e2 := hG2 a m h1 e
    refine hx4 a m h1 (fun z => by rw [z, hla] at e2; cases e2) ?_
    rw [gupd_ne (gne e2 hla)]
    exact e2
  have hfa0 : G fa = none := by
    cases e : G fa with
    | none => rfl
    | some m => rw [hG4 fa m hfo e] at hfa; cases hfa
  refine dFor_intro (upto 1 r1) (gupd G4 fa (.lst [])) (fun k δ G' => ∃ o6 o7 o8 o9 E F, δ = [some (.ref q), some (.int (most : Int)), some (.int (1 + (r1 : Int))), some (.int (kind : Int)), some (.lst (natsD names)), some (.ref fa), o6, o7, o8, o9] ∧ E.length = k ∧ F.Perm E ∧ G' fa = some (.lst (rdD F)) ∧ Pot q G' (n + 250 - 5 * k) ∧ OExt (Pown q) G G' ∧
      ∀ j, j < k → ∃ a x y, a < j + 1 ∧ names[j + 1]? = some x ∧ names[a]? = some y ∧ (E[j]? = some (x, y) ∨ E[j]? = some (y, x))) (fun P p => ?_) ⟨_, _, _, _, [], [], rfl, rfl, .refl _, gupd_same, potSrc.put (hR.mono (by omega)) hfo, hG4.put hfa0, fun j hj => absurd hj (Nat.not_lt_zero j)⟩ ?_ ?_
  · simp [and_assoc, dRet, dRetN, dRetC, dChain, r2I, dC, dVar, dEnds, dstart, dOp, dCB, DL.rLen, dCons, dNil, dFld, asL_lst, asQ_lst, asQ_tup, asQ_scr, ins_obj, dNever, dgN, dgNil, dgCons, dgTup, dIf, dNot, dAnd, dOr, dB, dCall, dMeth, dNext, dSeq, dSt, dLst, dTup, dIfE, rIxQ, dDrop, dYes, diL, diR1, diR2, dNeg, dAsg, dwipe, dBM, dBM0, rAppendD, rMin2, rMax2, atI_0, atI_1, atI_2, atI_3, ix4_0, ix4_1, ix4_3]
    refine ⟨by omega, by omega, ?_⟩
    rw [show (1 + (r1 : Int)).toNat - 1 = r1 from by omega]
    exact p
  · rintro k d δ G5 hd ⟨o6, o7, o8, o9, E, F, rfl, hE, hF, hfE, hT5, hx5, hinv⟩
    obtain ⟨hk', rfl⟩ := upto_get hd
    simp [and_assoc, dRet, dRetN, dRetC, dChain, r2I, dC, dVar, dEnds, dstart, dOp, dCB, DL.rLen, dCons, dNil, dFld, asL_lst, asQ_lst, asQ_tup, asQ_scr, ins_obj, dNever, dgN, dgNil, dgCons, dgTup, dIf, dNot, dAnd, dOr, dB, dCall, dMeth, dNext, dSeq, dSt, dLst, dTup, dIfE, rIxQ, dDrop, dYes, diL, diR1, diR2, dNeg, dAsg, dwipe, dBM, dBM0, rAppendD, rMin2, rMax2, atI_0, atI_1, atI_2, atI_3, ix4_0, ix4_1, ix4_3, asL_g, asQ_g, now_g, gupd_same, gupd_gupd, Int.ofNat_inj, now_lst, now_int, now_tup, asL_lst, natsD_length, rdD_length, vilD_inj, vil_ins, natsD_inj, rdD_inj, nnD_inj]
    have e4 : (1 : Int) + (k : Int) = ((k + 1 : Nat) : Int) := by omega
    rw [e4]
    refine ⟨q, k + 1, n + 250 - 5 * k - 1, rfl, by omega, by omega, hT5.mono (by omega), fun q1 G6 hq1 hT6 hx6 => ?_⟩
    refine ⟨q, 3, n + 250 - 5 * k - 2, rfl, by decide, by decide, hT6.mono (by omega), fun q2 G7 hq2 hT7 hx7 => ?_⟩
    obtain ⟨a, ha, hat⟩ : ∃ a : Nat, a < k + 1 ∧ atI [Dt.int (((k + 1 : Nat) : Int) - 1), Dt.int 0, Dt.int (q1 : Int), Dt.int (max 0 (((k + 1 : Nat) : Int) - 1 - (q2 : Int)))] (kind : Int) = some (.int (a : Int)) := by
      match kind, hk with
      | 0, _ => exact ⟨k, by omega, by rw [show ((0 : Nat) : Int) = 0 from rfl, atI_0]; congr 2; omega⟩
      | 1, _ => exact ⟨0, by omega, by rw [show ((1 : Nat) : Int) = 1 from rfl, atI_1]; rfl⟩
      | 2, _ => exact ⟨q1, by omega, by rw [show ((2 : Nat) : Int) = 2 from rfl, atI_2]⟩
      | 3, _ => exact ⟨k - q2, by omega, by rw [show ((3 : Nat) : Int) = 3 from rfl, atI_3]; congr 2; omega⟩
    have hnl : names.length = r1 + 1 := by rw [hnames.length_eq, List.length_range]
    obtain ⟨x0, hx0⟩ : ∃ z, names[k + 1]? = some z := ⟨_, List.getElem?_eq_getElem (by omega)⟩
    obtain ⟨y0, hy0⟩ : ∃ z, names[a]? = some z := ⟨_, List.getElem?_eq_getElem (by omega)⟩
    have hfE7 : G7 fa = some (.lst (rdD F)) := hx7 fa _ hfo (hx6 fa _ hfo hfE)
    have s2 : 2 ≤ sizeLine := by rw [sizeLine_eq]; decide
    have s4 : 4 ≤ sizeLine := by rw [sizeLine_eq]; decide
    have key : ∀ (pr : Nat × Nat) (G8 : Gp), (pr = (x0, y0) ∨ pr = (y0, x0)) → Pot q G8 (n + 250 - 5 * k - 3) → OExt (Pown q) G7 G8 →
        c_pdraw [Dt.ref q, Dt.int (((rdD F).length : Int) + 1)] G8 (fun z G1 => rInsD (.ref fa) [z, npD pr] G1 fun _ G' => ∃ E' : List (Nat × Nat), E'.length = k + 1 ∧ ∃ F' : List (Nat × Nat), F'.Perm E' ∧ G' fa = some (.lst (rdD F')) ∧ Pot q G' (n + 250 - 5 * (k + 1)) ∧ OExt (Pown q) G G' ∧
          ∀ j, j < k + 1 → ∃ a, a < j + 1 ∧ ∃ x, names[j + 1]? = some x ∧ ∃ y, names[a]? = some y ∧ (E'[j]? = some (x, y) ∨ E'[j]? = some (y, x))) noX := by
      intro pr G8 hpr hT8 hx8
      have hfE8 : G8 fa = some (.lst (rdD F)) := hx8 fa _ hfo hfE7
      have hFl : F.length = k := by rw [hF.length_eq, hE]
      refine ⟨q, F.length + 1, n + 250 - 5 * k - 4, by rw [rdD_length]; rfl, by omega, by omega, hT8.mono (by omega), fun r G9 hr9 hT9 hx9 => ?_⟩
      refine ⟨fa, rdD F, r, npD pr, rfl, rfl, hx9 fa _ hfo hfE8, by rw [rdD_length]; exact small1000 (by omega), by omega, E ++ [pr], by rw [List.length_append, hE]; rfl, F.take r ++ [pr] ++ F.drop r, (perm_ins F r pr).trans (hF.append_right _), ?_, potSrc.put (hT9.mono (by omega)) hfo, ?_, fun j hj => ?_⟩
      · rw [gupd_same]
        simp [rdD, List.map_take, List.map_drop]
      · exact ((((hx5.trans hx6).trans hx7).trans hx8).trans hx9).put hfa0
      · by_cases e : j < k
        · obtain ⟨a', x', y', h1, h2, h3, h4⟩ := hinv j e
          refine ⟨a', h1, x', h2, y', h3, ?_⟩
          rw [List.getElem?_append_left (by omega)]
          exact h4
        · have : j = k := by omega
          subst this
          refine ⟨a, ha, x0, hx0, y0, hy0, ?_⟩
          rw [List.getElem?_append_right (by omega), hE, Nat.sub_self]
          rcases hpr with rfl | rfl
          · exact .inl rfl
          · exact .inr rfl
    refine ⟨_, rfl, s4, _, hat, _, _, rfl, rfl, _, atI_nats hy0, _, atI_nats hx0, s2, ?_⟩
    refine ⟨q, 2, n + 250 - 5 * k - 3, rfl, by decide, by decide, hT7.mono (by omega), fun q3 G8 hq3 hT8 hx8 => ⟨_, rfl, ?_⟩⟩
    have hfE8 : G8 fa = some (.lst (rdD F)) := hx8 fa _ hfo hfE7
    split
    · exact ⟨s2, ⟨_, asL_ref hfE8⟩, _, asQ_ref hfE8, key (y0, x0) G8 (.inr rfl) hT8 hx8⟩
    · exact ⟨s2, ⟨_, asL_ref hfE8⟩, _, asQ_ref hfE8, key (x0, y0) G8 (.inl rfl) hT8 hx8⟩
  · rintro δ G5 ⟨o6, o7, o8, o9, E, F, rfl, hE, hF, hfE, hT5, hx5, hinv⟩
    rw [upto_length] at hE hT5 hinv
    simp [and_assoc, dRet, dRetN, dRetC, dChain, r2I, dC, dVar, dEnds, dstart, dOp, dCB, DL.rLen, dCons, dNil, dFld, asL_lst, asQ_lst, asQ_tup, asQ_scr, ins_obj, dNever, dgN, dgNil, dgCons, dgTup, dIf, dNot, dAnd, dOr, dB, dCall, dMeth, dNext, dSeq, dSt, dLst, dTup, dIfE, rIxQ, dDrop, dYes, diL, diR1, diR2, dNeg, dAsg, dwipe, dBM, dBM0, rAppendD, rMin2, rMax2, atI_0, atI_1, atI_2, atI_3, ix4_0, ix4_1, ix4_3, asL_g, asQ_g, now_g, gupd_same, gupd_gupd, Int.ofNat_inj, now_lst, now_int, now_tup, asL_lst, natsD_length, rdD_length, vilD_inj, vil_ins, natsD_inj, rdD_inj, nnD_inj]
    refine ⟨_, _, Clo.frz hfE, p F _ ((Tree.grown hnames hE hinv).perm hF) (by rw [hF.length_eq]; omega) (potSrc.del (hT5.mono (by omega)) hfo) (hx5.del hfa0)⟩
end
end V

set_option Elab.async false
set_option linter.all false
/-! Breadth-first search by a table in order. -/
namespace V
open DL
theorem lookN_in {l : List (Nat × Nat)} {k v : Nat} (h : lookN l k = some v) : (k, v) ∈ l := by
  unfold lookN at h
  obtain ⟨p, h1, h2⟩ := Option.map_eq_some_iff.mp h
  have h3 := List.find?_some h1
  have h4 := List.mem_of_find?_eq_some h1
  rw [decide_eq_true_eq] at h3
  rw [← h3, ← h2]
  exact h4
section
variable {E : List (Nat × Nat)} {d : Nat → Nat → Nat} {s : Nat}
structure Bfs (E : List (Nat × Nat)) (d : Nat → Nat → Nat) (s i : Nat) (l : List (Nat × Nat)) : Prop where
  nd : (l.map Prod.fst).Nodup
  lt : ∀ p ∈ l, p.1 < E.length + 1 ∧ p.2 = d s p.1
  srt : l.Pairwise fun a b => a.2 ≤ b.2
  s0 : s ∈ l.map Prod.fst
  done : ∀ (j : Nat) p, j < i → l[j]? = some p → ∀ y, Adj E p.1 y → y ∈ l.map Prod.fst
  near : ∀ q, l[i]? = some q → ∀ p ∈ l, p.2 ≤ q.2 + 1
theorem Bfs.start (hd : Dists E d) (hs : s < E.length + 1) : Bfs E d s 0 [(s, 0)] where
  nd := by simp
  lt := fun p hp => by
    rw [List.mem_singleton.mp hp]
    exact ⟨hs, (d_self hd hs).symm⟩
  srt := by simp
  s0 := by simp
  done := fun j p hj => absurd hj (Nat.not_lt_zero j)
  near := fun q hq p hp => by
    rw [List.mem_singleton.mp hp]
    exact Nat.zero_le _
theorem Bfs.whole {i : Nat} {l : List (Nat × Nat)} (b : Bfs E d s i l) (h : Tree E) (hd : Dists E d) (hs : s < E.length + 1) (hl : l.length ≤ i) : ∀ y, y < E.length + 1 → y ∈ l.map Prod.fst := by
  have key : ∀ k x y, Wk E k x y → x ∈ l.map Prod.fst → y ∈ l.map Prod.fst := by
    intro k x y w
    induction w with
    | refl => exact id
    | step _ a ih =>
      intro hx
      obtain ⟨p, hp, e⟩ := List.mem_map.mp (ih hx)
      obtain ⟨j, hj⟩ := List.getElem?_of_mem hp
      have hjl := (List.getElem?_eq_some_iff.mp hj).1
      exact b.done j p (by omega) hj _ (by rw [e]; exact a)
  exact fun y hy => key _ s y (d_walk h hd hs _ y hy rfl) b.s0
theorem Bfs.there {i : Nat} {l : List (Nat × Nat)} (b : Bfs E d s i l) (h : Tree E) (hd : Dists E d) (hs : s < E.length + 1) (hi : i < E.length + 1) : i < l.length := by
  refine Classical.byContradiction fun hn => ?_
  have h1 := b.whole h hd hs (by omega)
  have := sub_len (L := List.range (E.length + 1)) (M := l.map Prod.fst) List.nodup_range fun y hy => h1 y (List.mem_range.mp hy)
  rw [List.length_range, List.length_map] at this
  omega
theorem Bfs.len {i : Nat} {l : List (Nat × Nat)} (b : Bfs E d s i l) : l.length ≤ E.length + 1 := by
  have := nodup_lt b.nd fun x hx => by
    obtain ⟨p, hp, rfl⟩ := List.mem_map.mp hx
    exact (b.lt p hp).1
  rwa [List.length_map] at this
theorem Bfs.look {i : Nat} {l : List (Nat × Nat)} (b : Bfs E d s i l) (h : Tree E) (hd : Dists E d) (hs : s < E.length + 1) (hi : E.length + 1 ≤ i) {y : Nat} (hy : y < E.length + 1) : lookN l y = some (d s y) := by
  have h1 := b.whole h hd hs (Nat.le_trans b.len hi) y hy
  rw [← lookN_mem] at h1
  obtain ⟨v, hv⟩ := Option.isSome_iff_exists.mp h1
  have h2 : v = d s y := (b.lt _ (lookN_in hv)).2
  rw [hv, h2]
/-- all houses that are no farther than the one in turn are there -/
theorem Bfs.upto {i : Nat} {l : List (Nat × Nat)} (b : Bfs E d s i l) (h : Tree E) (hd : Dists E d) (hs : s < E.length + 1) {q : Nat × Nat} (hq : l[i]? = some q) : ∀ m y, y < E.length + 1 → d s y = m → m ≤ q.2 → y ∈ l.map Prod.fst := by
  intro m
  induction m with
  | zero =>
    intro y hy e _
    rw [d_zero hd hs hy e]
    exact b.s0
  | succ m ih =>
    intro y hy e hm
    obtain ⟨x, hx, a, e2⟩ := d_pre h hd hs hy e
    obtain ⟨p, hp, ex⟩ := List.mem_map.mp (ih x hx e2 (by omega))
    obtain ⟨j, hj⟩ := List.getElem?_of_mem hp
    have hv := (b.lt p hp).2
    have hji : j < i := by
      refine Classical.byContradiction fun hn => ?_
      have hle : q.2 ≤ p.2 := by
        by_cases e3 : j = i
        · subst e3
          rw [hq] at hj; cases hj; exact Nat.le_refl _
        · obtain ⟨h1, e1⟩ := List.getElem?_eq_some_iff.mp hq
          obtain ⟨h2, e2'⟩ := List.getElem?_eq_some_iff.mp hj
          have := List.pairwise_iff_getElem.mp b.srt i j h1 h2 (by omega)
          rw [e1, e2'] at this
          exact this
      rw [hv, ex, e2] at hle
      omega
    exact b.done j p hji hj y (by rw [ex]; exact a)
/-- the one in turn, some of its next doors looked at -/
structure BfsIn (E : List (Nat × Nat)) (d : Nat → Nat → Nat) (s i : Nat) (q : Nat × Nat) (A : List Nat) (l : List (Nat × Nat)) : Prop where
  b : Bfs E d s i l
  at_ : l[i]? = some q
  seen : ∀ y ∈ A, y ∈ l.map Prod.fst
theorem BfsIn.old {i : Nat} {q : Nat × Nat} {A : List Nat} {l : List (Nat × Nat)} (b : BfsIn E d s i q A l) {y : Nat} (h : y ∈ l.map Prod.fst) : BfsIn E d s i q (A ++ [y]) l :=
  ⟨b.b, b.at_, fun z hz => by
    rcases List.mem_append.mp hz with hz | hz
    · exact b.seen z hz
    · rw [List.mem_singleton.mp hz]; exact h⟩
theorem BfsIn.new {i : Nat} {q : Nat × Nat} {A : List Nat} {l : List (Nat × Nat)} (b : BfsIn E d s i q A l) (h : Tree E) (hd : Dists E d) (hs : s < E.length + 1) {y : Nat} (a : Adj E q.1 y) (hy : y ∉ l.map Prod.fst) : BfsIn E d s i q (A ++ [y]) (l ++ [(y, q.2 + 1)]) := by
  have hqm := List.mem_of_getElem? b.at_
  have hq2 := (b.b.lt q hqm).2
  have hyl := (adj_lt h a).2
  have hi := (List.getElem?_eq_some_iff.mp b.at_).1
  have hdy : d s y = q.2 + 1 := by
    have h1 := d_step_le h hd hs a
    have h2 : ¬ d s y ≤ q.2 := fun z => hy (b.b.upto h hd hs b.at_ _ y hyl rfl z)
    omega
  have mono : ∀ {z : Nat}, z ∈ l.map Prod.fst → z ∈ (l ++ [(y, q.2 + 1)]).map Prod.fst := fun {z} hz => by
    rw [List.map_append]; exact List.mem_append_left _ hz
  refine ⟨⟨?_, fun p hp => ?_, ?_, mono b.b.s0, fun j p hj hp => ?_, fun q' hq' p hp => ?_⟩, by rw [List.getElem?_append_left hi]; exact b.at_, fun z hz => ?_⟩
  · rw [List.map_append, List.nodup_append]
    refine ⟨b.b.nd, by simp, fun x hx z hz => ?_⟩
    rintro rfl
    rw [List.map_cons, List.map_nil, List.mem_singleton] at hz
    exact hy (show y ∈ l.map Prod.fst from (show x = y from hz) ▸ hx)
  · rcases List.mem_append.mp hp with hp | hp
    · exact b.b.lt p hp
    · rw [List.mem_singleton.mp hp]; exact ⟨hyl, hdy.symm⟩
  · rw [List.pairwise_append]
    refine ⟨b.b.srt, by simp, fun p hp z hz => ?_⟩
    rw [List.mem_singleton.mp hz]
    exact b.b.near q b.at_ p hp
  · rw [List.getElem?_append_left (by omega)] at hp
    exact fun y hy => mono (b.b.done j p hj hp y hy)
  · rw [List.getElem?_append_left hi, b.at_] at hq'
    cases hq'
    rcases List.mem_append.mp hp with hp | hp
    · exact b.b.near q b.at_ p hp
    · rw [List.mem_singleton.mp hp]; exact Nat.le_refl _
  · rcases List.mem_append.mp hz with hz | hz
    · exact mono (b.seen z hz)
    · rw [List.mem_singleton.mp hz, List.map_append]
      exact List.mem_append_right _ (by simp)
theorem BfsIn.next {i : Nat} {q : Nat × Nat} {A : List Nat} {l : List (Nat × Nat)} (b : BfsIn E d s i q A l) (hA : ∀ y, Adj E q.1 y → y ∈ A) : Bfs E d s (i + 1) l where
  nd := b.b.nd
  lt := b.b.lt
  srt := b.b.srt
  s0 := b.b.s0
  done := fun j p hj hp y hy => by
    by_cases e : j = i
    · subst e
      rw [b.at_] at hp; cases hp
      exact b.seen y (hA y hy)
    · exact b.b.done j p (by omega) hp y hy
  near := fun q' hq' p hp => by
    have h1 := b.b.near q b.at_ p hp
    obtain ⟨h2, e2⟩ := List.getElem?_eq_some_iff.mp b.at_
    obtain ⟨h3, e3⟩ := List.getElem?_eq_some_iff.mp hq'
    have := List.pairwise_iff_getElem.mp b.b.srt i (i + 1) h2 h3 (by omega)
    rw [e2, e3] at this
    omega
end
end V

set_option Elab.async false
set_option linter.all false
set_option maxRecDepth 100000
set_option maxHeartbeats 4000000
namespace V
open PySem PySem.Spec L2 DL
theorem Tree.rows_ok {E : List (Nat × Nat)} (h : Tree E) : ∀ p ∈ E, p.1 < E.length + 1 ∧ p.2 < E.length + 1 ∧ p.1 ≠ p.2 := fun p hp => ⟨(h.lt p hp).1, (h.lt p hp).2, h.sound.ne hp⟩
theorem farrow {E : List (Nat × Nat)} {d : Nat → Nat → Nat} {x : Nat} (hx : x < E.length + 1) : (vilOf E d).far[x]? = some ((List.range (E.length + 1)).map (d x)) := by simp [vilOf, hx]
section
variable {P : Program} {w : World} {K : PySem.W.Frag} {mg : Str → Option Value} {base : Heap} {C : Addr}
abbrev s_law_steps : Stmt := top 30
abbrev n_law_steps : List Str := ["lines", "many", "beside", "head", "tail", "found", "begin", "reach", "turn", "here", "there", "k"]
abbrev p_law_steps : List Str := ["lines"]
theorem sc_law_steps : FnScope n_law_steps p_law_steps (defScope s_law_steps) := ⟨rfl, rfl, rfl, by decide +kernel, rfl, by decide +kernel, by decide +kernel⟩
def c_steps : DSp := fun ds G P _ => ∃ (E : List (Nat × Nat)) (d : Nat → Nat → Nat), ds = [.lst (rdD E)] ∧ Tree E ∧ Dists E d ∧ E.length ≤ 399 ∧ P (.lst (nnD (vilOf E d).far)) G
theorem ok_steps (T : Bt mg) (TF : TopFn K mg "_law_steps" s_law_steps p_law_steps) : Dfn P w K mg base CX0 "_law_steps" p_law_steps c_steps 1 := by
  refine dfn_of TF sc_law_steps (fun ds G P R ⟨E, d, e, _⟩ => by rw [e]; rfl) fun f cdv A outer s H E B hr => ?_
  refine ⟨_, (dss_cons (ds_set (i := 1) sc_law_steps.nd rfl (by first | exact Or.inl rfl | exact Or.inr rfl) (d_op o_add (d_callB c_len (by rfl) T.len (by decide +kernel) (da_cons (dv (pv 0)) da_nil)) d_int))
      (dss_cons (ds_setLc (i := 2) (own := [("k", 11)]) rfl sc_law_steps.nd rfl rfl (sw_true rfl rfl rfl (by decide +kernel)) (di_range1 (by rfl) T.range (da_cons (dv (pv 1)) da_nil)) (blkOk_by (N := n_law_steps) (sc := defScope s_law_steps) (by decide +kernel)) (fun _ _ _ _ _ => (dgw_name (pg_name (i := 11) sc_law_steps.nd rfl (by first | exact Or.inl rfl | exact Or.inr rfl)))) (fun _ _ _ _ _ => dts_nil) (fun _ _ _ _ _ => (d_lstM da_nil)))
      (dss_cons (ds_for PassesOwn.never rfl (di_list (dv (pv 0))) (dg_tup (n := 2) rfl (dgs_cons (dg_name (pg_name (i := 3) sc_law_steps.nd rfl (by first | exact Or.inl rfl | exact Or.inr rfl))) (dgs_cons (dg_name (pg_name (i := 4) sc_law_steps.nd rfl (by first | exact Or.inl rfl | exact Or.inr rfl))) dgs_nil))) (dss_cons (ds_expr (d_append (d_ix (dv (pv 2)) (dv (pv 3)) (fun _ _ => rfl)) (dv (pv 4))))
      (dss_one (ds_expr (d_append (d_ix (dv (pv 2)) (dv (pv 4)) (fun _ _ => rfl)) (dv (pv 3)))))))
      (dss_clo (dss_cons (ds_set (i := 5) sc_law_steps.nd rfl (by first | exact Or.inl rfl | exact Or.inr rfl) (d_lstM da_nil))
      (dss_cons (ds_for PassesOwn.never rfl (di_range1 (by rfl) T.range (da_cons (dv (pv 1)) da_nil)) (dg_name (pg_name (i := 6) sc_law_steps.nd rfl (by first | exact Or.inl rfl | exact Or.inr rfl))) (dss_cons (ds_set (i := 7) sc_law_steps.nd rfl (by first | exact Or.inl rfl | exact Or.inr rfl) (d_disp1 (dv (pv 6)) d_int))
      (dss_cons (ds_for PassesOwn.never rfl (di_range1 (by rfl) T.range (da_cons (dv (pv 1)) da_nil)) (dg_name (pg_name (i := 8) sc_law_steps.nd rfl (by first | exact Or.inl rfl | exact Or.inr rfl))) (dss_cons (ds_set (i := 9) sc_law_steps.nd rfl (by first | exact Or.inl rfl | exact Or.inr rfl) (d_ix (d_callTy (c_listK rfl) (by rfl) T.list (by decide +kernel) (da_cons (dv (pv 7)) da_nil)) (dv (pv 8)) (fun _ _ => rfl)))
      (dss_one (ds_for PassesOwn.never rfl (di_list (d_ix (dv (pv 2)) (dv (pv 9)) (fun _ _ => rfl))) (dg_name (pg_name (i := 10) sc_law_steps.nd rfl (by first | exact Or.inl rfl | exact Or.inr rfl))) (dss_one (ds_if (dt_dnin hr (dv (pv 10)) (dv (pv 7))) (dss_one (ds_dput hr (dv (pv 7)) (dv (pv 10)) (d_op o_add (d_dget hr (dv (pv 7)) (dv (pv 9)) (fun _ _ => rfl)) d_int))) dss_nil))))))
      (dss_one (ds_expr (d_append (dv (pv 5)) (d_lcP (own := [("k", 11)]) rfl sc_law_steps.nd (di_range1 (by rfl) T.range (da_cons (dv (pv 1)) da_nil)) (blkOk_by (N := n_law_steps) (sc := defScope s_law_steps) (by decide +kernel)) (fun _ _ _ _ _ => (dgw_name (pg_name (i := 11) sc_law_steps.nd rfl (by first | exact Or.inl rfl | exact Or.inr rfl)))) (fun _ _ _ _ _ => dts_nil) (fun _ _ _ _ _ => (d_dget hr (dv (pv 7)) (dv (pv 11)) (fun _ _ => rfl))))))))))
      (dss_one (ds_retC (dv (pv 5)))))))))), ?_⟩
  rintro ds G P R ⟨L, d, rfl, hL, hd, hn, p⟩
  have hLr := hL.rows_ok
  simp [and_assoc, dRet, dRetN, dRetC, dChain, r2I, dC, dVar, dEnds, dstart, dOp, dCB, DL.rLen, dCons, dNil, dFld, asL_lst, asQ_lst, asQ_tup, asQ_scr, ins_obj, dNever, dgN, dgNil, dgCons, dgTup, dIf, dNot, dAnd, dOr, dB, dCall, dMeth, dNext, dSeq, dSt, dLst, dTup, dIfE, rIxQ, dDrop, dYes, diL, diR1, diR2, dNeg, dAsg, dwipe, dBM, dBM0, rAppendD, rMin2, rMax2, atI_0, atI_1, atI_2, atI_3, ix4_0, ix4_1, ix4_3, asL_g, asQ_g, now_g, gupd_same, gupd_gupd, Int.ofNat_inj, now_lst, now_int, now_tup, asL_lst, natsD_length, rdD_length, vilD_inj, vil_ins, natsD_inj, rdD_inj, nnD_inj, n_law_steps]
  refine rows_build (natsD (List.range (L.length + 1))) (fun P p => ?_) (by rw [natsD_length, List.length_range]; exact small1000 (by omega)) fun D as G1 r => ?_
  · simp [and_assoc, dRet, dRetN, dRetC, dChain, r2I, dC, dVar, dEnds, dstart, dOp, dCB, DL.rLen, dCons, dNil, dFld, asL_lst, asQ_lst, asQ_tup, asQ_scr, ins_obj, dNever, dgN, dgNil, dgCons, dgTup, dIf, dNot, dAnd, dOr, dB, dCall, dMeth, dNext, dSeq, dSt, dLst, dTup, dIfE, rIxQ, dDrop, dYes, diL, diR1, diR2, dNeg, dAsg, dwipe, dBM, dBM0, rAppendD, rMin2, rMax2, atI_0, atI_1, atI_2, atI_3, ix4_0, ix4_1, ix4_3]
    refine ⟨by omega, by omega, ?_⟩
    rw [upto0]
    exact p
  · refine dFor_intro (rdD L) G1 (fun i δ G' => ∃ o3 o4, δ = [some (.lst (rdD L)), some (.int ((L.length : Int) + 1)), some (.ref D), o3, o4, none, none, none, none, none, none, none] ∧ RowsAt G G' D as (doorsL (L.length + 1) (L.take i))) (fun P p => by simpa [and_assoc, dRet, dRetN, dRetC, dChain, r2I, dC, dVar, dEnds, dstart, dOp, dCB, DL.rLen, dCons, dNil, dFld, asL_lst, asQ_lst, asQ_tup, asQ_scr, ins_obj, dNever, dgN, dgNil, dgCons, dgTup, dIf, dNot, dAnd, dOr, dB, dCall, dMeth, dNext, dSeq, dSt, dLst, dTup, dIfE, rIxQ, dDrop, dYes, diL, diR1, diR2, dNeg, dAsg, dwipe, dBM, dBM0, rAppendD, rMin2, rMax2, atI_0, atI_1, atI_2, atI_3, ix4_0, ix4_1, ix4_3] using p) ⟨none, none, rfl, by simpa [doorsL, natsD_length] using r⟩ ?_ ?_
    · rintro i d δ G' hd ⟨o2, o3, rfl, r⟩
      obtain ⟨⟨x, y⟩, hxy, rfl⟩ := rdD_get hd
      have hb := hLr _ (List.mem_of_getElem? hxy)
      simp only at hb
      have hlen := doorsL_length (L.length + 1) (L.take i)
      obtain ⟨lx, hlx⟩ : ∃ l, (doorsL (L.length + 1) (L.take i))[x]? = some l := ⟨_, List.getElem?_eq_getElem (by rw [hlen]; exact hb.1)⟩
      obtain ⟨ly, hly⟩ : ∃ l, (doorsL (L.length + 1) (L.take i))[y]? = some l := ⟨_, List.getElem?_eq_getElem (by rw [hlen]; exact hb.2.1)⟩
      obtain ⟨ax, hax, hgx⟩ := r.at hlx
      obtain ⟨ay, hay, hgy⟩ := r.at hly
      have hne : ay ≠ ax := fun e => hb.2.2 (nodup_at r.nd (e ▸ hax) hay)
      have e1 : atI (as.map Dt.ref) (x : Int) = some (.ref ax) := atI_nat' (by rw [List.getElem?_map, hax]; rfl)
      have e2 : atI (as.map Dt.ref) (y : Int) = some (.ref ay) := atI_nat' (by rw [List.getElem?_map, hay]; rfl)
      have hDx : D ≠ ax := fun e => r.nD (e ▸ List.mem_of_getElem? hax)
      have r1 := r.put hax hlx (l' := lx ++ [y])
      have r2 := r1.put hay (by rw [List.getElem?_set_ne hb.2.2]; exact hly) (l' := ly ++ [x])
      have sx := doorsL_small (List.mem_of_getElem? hlx)
      have sy := doorsL_small (List.mem_of_getElem? hly)
      rw [List.length_take] at sx sy
      simp [and_assoc, dRet, dRetN, dRetC, dChain, r2I, dC, dVar, dEnds, dstart, dOp, dCB, DL.rLen, dCons, dNil, dFld, asL_lst, asQ_lst, asQ_tup, asQ_scr, ins_obj, dNever, dgN, dgNil, dgCons, dgTup, dIf, dNot, dAnd, dOr, dB, dCall, dMeth, dNext, dSeq, dSt, dLst, dTup, dIfE, rIxQ, dDrop, dYes, diL, diR1, diR2, dNeg, dAsg, dwipe, dBM, dBM0, rAppendD, rMin2, rMax2, atI_0, atI_1, atI_2, atI_3, ix4_0, ix4_1, ix4_3, npD, pairD, asL_ref r.top, asQ_ref r.top, e1, e2, asL_ref hgx, hgx]
      have f1 : natsD lx ++ [Dt.int (y : Int)] = natsD (lx ++ [y]) := by rw [natsD_append]; rfl
      have f2 : natsD ly ++ [Dt.int (x : Int)] = natsD (ly ++ [x]) := by rw [natsD_append]; rfl
      have hgy' : gupd G' ax (.lst (natsD (lx ++ [y]))) ay = some (.lst (natsD ly)) := by rw [gupd_ne hne]; exact hgy
      rw [f1]
      refine ⟨by rw [natsD_length]; exact small1000 (by omega), _, asQ_ref r1.top, _, e2, ⟨_, asL_ref hgy'⟩, ay, rfl, _, hgy', by rw [natsD_length]; exact small1000 (by omega), ?_⟩
      rw [f2, doorsL_step hxy hb.2.2 hlx hly]
      exact r2
    · rintro δ G' ⟨o3, o4, rfl, r⟩
      rw [rdD_length, List.take_length] at r
      refine ⟨_, G, CloS.clo 2 rfl r.clo, ?_⟩
      simp [and_assoc, dRet, dRetN, dRetC, dChain, r2I, dC, dVar, dEnds, dstart, dOp, dCB, DL.rLen, dCons, dNil, dFld, asL_lst, asQ_lst, asQ_tup, asQ_scr, ins_obj, dNever, dgN, dgNil, dgCons, dgTup, dIf, dNot, dAnd, dOr, dB, dCall, dMeth, dNext, dSeq, dSt, dLst, dTup, dIfE, rIxQ, dDrop, dYes, diL, diR1, diR2, dNeg, dAsg, dwipe, dBM, dBM0, rAppendD, rMin2, rMax2, atI_0, atI_1, atI_2, atI_3, ix4_0, ix4_1, ix4_3, dLstM]
      intro fa hfa
      generalize hnb : doorsL (L.length + 1) L = nb
      have hnbl : nb.length = L.length + 1 := by rw [← hnb]; exact doorsL_length _ _
      refine dFor_intro (natsD (List.range (L.length + 1))) (gupd G fa (.lst [])) (fun i δ G' => i ≤ L.length + 1 ∧ ∃ o6 o7 o8 o9 o10 o11, δ = [some (.lst (rdD L)), some (.int ((L.length : Int) + 1)), some (.lst (nnD nb)), o3, o4, some (.ref fa), o6, o7, o8, o9, o10, o11] ∧ GLe G G' ∧ G' fa = some (.lst (nnD ((vilOf L d).far.take i)))) (fun P p => ?_) ⟨Nat.zero_le _, _, _, _, _, _, _, rfl, GLe.gupd hfa, by rw [gupd_same]; rfl⟩ ?_ ?_
      · simp [and_assoc, dRet, dRetN, dRetC, dChain, r2I, dC, dVar, dEnds, dstart, dOp, dCB, DL.rLen, dCons, dNil, dFld, asL_lst, asQ_lst, asQ_tup, asQ_scr, ins_obj, dNever, dgN, dgNil, dgCons, dgTup, dIf, dNot, dAnd, dOr, dB, dCall, dMeth, dNext, dSeq, dSt, dLst, dTup, dIfE, rIxQ, dDrop, dYes, diL, diR1, diR2, dNeg, dAsg, dwipe, dBM, dBM0, rAppendD, rMin2, rMax2, atI_0, atI_1, atI_2, atI_3, ix4_0, ix4_1, ix4_3]
        refine ⟨by omega, by omega, ?_⟩
        rw [upto0]
        exact p
      · rintro i dd δ G2 hdd ⟨hi, o6, o7, o8, o9, o10, o11, rfl, hle, hf2⟩
        obtain ⟨s, hs, rfl⟩ := natsD_get hdd
        have hs1 := List.mem_range.mp (List.mem_of_getElem? hs)
        simp [and_assoc, dRet, dRetN, dRetC, dChain, r2I, dC, dVar, dEnds, dstart, dOp, dCB, DL.rLen, dCons, dNil, dFld, asL_lst, asQ_lst, asQ_tup, asQ_scr, ins_obj, dNever, dgN, dgNil, dgCons, dgTup, dIf, dNot, dAnd, dOr, dB, dCall, dMeth, dNext, dSeq, dSt, dLst, dTup, dIfE, rIxQ, dDrop, dYes, diL, diR1, diR2, dNeg, dAsg, dwipe, dBM, dBM0, rAppendD, rMin2, rMax2, atI_0, atI_1, atI_2, atI_3, ix4_0, ix4_1, ix4_3, asL_g, asQ_g, now_g, gupd_same, gupd_gupd, Int.ofNat_inj, now_lst, now_int, now_tup, asL_lst, natsD_length, rdD_length, vilD_inj, vil_ins, natsD_inj, rdD_inj, nnD_inj, dDisp1]
        refine fun q hq => ⟨0, rfl, ?_⟩
        have hqf : fa ≠ q := gne hf2 hq
        refine dFor_intro (natsD (List.range (L.length + 1))) (gupd G2 q (.dK (kvN [(s, 0)]))) (fun t δ G' => t ≤ L.length + 1 ∧ ∃ l o8 o9 o10 o11, δ = [some (.lst (rdD L)), some (.int ((L.length : Int) + 1)), some (.lst (nnD nb)), o3, o4, some (.ref fa), some (.int (s : Int)), some (.ref q), o8, o9, o10, o11] ∧ G' = gupd G2 q (.dK (kvN l)) ∧ Bfs L d s t l) (fun P p => ?_) ⟨Nat.zero_le _, _, _, _, _, _, rfl, rfl, Bfs.start hd hs1⟩ ?_ ?_
        · simp [and_assoc, dRet, dRetN, dRetC, dChain, r2I, dC, dVar, dEnds, dstart, dOp, dCB, DL.rLen, dCons, dNil, dFld, asL_lst, asQ_lst, asQ_tup, asQ_scr, ins_obj, dNever, dgN, dgNil, dgCons, dgTup, dIf, dNot, dAnd, dOr, dB, dCall, dMeth, dNext, dSeq, dSt, dLst, dTup, dIfE, rIxQ, dDrop, dYes, diL, diR1, diR2, dNeg, dAsg, dwipe, dBM, dBM0, rAppendD, rMin2, rMax2, atI_0, atI_1, atI_2, atI_3, ix4_0, ix4_1, ix4_3]
          refine ⟨by omega, by omega, ?_⟩
          rw [upto0]
          exact p
        · rintro t dt δ G3 hdt ⟨ht, l, o8, o9, o10, o11, rfl, rfl, hb⟩
          obtain ⟨t', ht', rfl⟩ := natsD_get hdt
          have ht1 : t < L.length + 1 := by
            have := (List.getElem?_eq_some_iff.mp ht').1
            simpa using this
          have et : t' = t := by
            rw [List.getElem?_range ht1] at ht'; cases ht'; rfl
          subst et
          have hlt := hb.there hL hd hs1 ht1
          have hat : l[t']? = some l[t'] := List.getElem?_eq_getElem hlt
          have hkat : (l.map Prod.fst)[t']? = some l[t'].1 := by rw [List.getElem?_map, hat]; rfl
          have hx := (hb.lt _ (List.getElem_mem hlt)).1
          have hxn : l[t'].1 < nb.length := by omega
          obtain ⟨row, hrow⟩ : ∃ row, nb[l[t'].1]? = some row := ⟨nb[l[t'].1], List.getElem?_eq_getElem hxn⟩
          have hadj : ∀ y, y ∈ row ↔ Adj L l[t'].1 y := fun y => by
            rw [← hnb] at hrow
            exact mem_doors hrow y
          have hrl : row.length ≤ 1000 := by
            have := doorsL_small (n := L.length + 1) (E := L) (l := row) (by rw [hnb]; exact List.mem_of_getElem? hrow)
            omega
          simp [and_assoc, dRet, dRetN, dRetC, dChain, r2I, dC, dVar, dEnds, dstart, dOp, dCB, DL.rLen, dCons, dNil, dFld, asL_lst, asQ_lst, asQ_tup, asQ_scr, ins_obj, dNever, dgN, dgNil, dgCons, dgTup, dIf, dNot, dAnd, dOr, dB, dCall, dMeth, dNext, dSeq, dSt, dLst, dTup, dIfE, rIxQ, dDrop, dYes, diL, diR1, diR2, dNeg, dAsg, dwipe, dBM, dBM0, rAppendD, rMin2, rMax2, atI_0, atI_1, atI_2, atI_3, ix4_0, ix4_1, ix4_3, asL_g, asQ_g, now_g, gupd_same, gupd_gupd, Int.ofNat_inj, now_lst, now_int, now_tup, asL_lst, natsD_length, rdD_length, vilD_inj, vil_ins, natsD_inj, rdD_inj, nnD_inj, rListK]
          refine ⟨l, asD_g, _, atI_nats hkat, ?_⟩
          refine dFor_intro (natsD row) (gupd G2 q (.dK (kvN l))) (fun m δ G' => ∃ l2 o10, δ = [some (.lst (rdD L)), some (.int ((L.length : Int) + 1)), some (.lst (nnD nb)), o3, o4, some (.ref fa), some (.int (s : Int)), some (.ref q), some (.int (t' : Int)), some (.int (l[t'].1 : Int)), o10, o11] ∧ G' = gupd G2 q (.dK (kvN l2)) ∧ BfsIn L d s t' l[t'] (row.take m) l2) (fun P p => ?_) ⟨l, _, rfl, rfl, ⟨hb, hat, by simp⟩⟩ ?_ ?_
          · simp [and_assoc, dRet, dRetN, dRetC, dChain, r2I, dC, dVar, dEnds, dstart, dOp, dCB, DL.rLen, dCons, dNil, dFld, asL_lst, asQ_lst, asQ_tup, asQ_scr, ins_obj, dNever, dgN, dgNil, dgCons, dgTup, dIf, dNot, dAnd, dOr, dB, dCall, dMeth, dNext, dSeq, dSt, dLst, dTup, dIfE, rIxQ, dDrop, dYes, diL, diR1, diR2, dNeg, dAsg, dwipe, dBM, dBM0, rAppendD, rMin2, rMax2, atI_0, atI_1, atI_2, atI_3, ix4_0, ix4_1, ix4_3, asL_g, asQ_g, now_g, gupd_same, gupd_gupd, Int.ofNat_inj, now_lst, now_int, now_tup, asL_lst, natsD_length, rdD_length, vilD_inj, vil_ins, natsD_inj, rdD_inj, nnD_inj, atI_nn hrow]
            exact p
          · rintro m dm δ G4 hdm ⟨l2, o10, rfl, rfl, hin⟩
            obtain ⟨y, hy, rfl⟩ := natsD_get hdm
            have hya := (hadj y).mp (List.mem_of_getElem? hy)
            have htk : row.take (m + 1) = row.take m ++ [y] := take_one_more hy
            simp [and_assoc, dRet, dRetN, dRetC, dChain, r2I, dC, dVar, dEnds, dstart, dOp, dCB, DL.rLen, dCons, dNil, dFld, asL_lst, asQ_lst, asQ_tup, asQ_scr, ins_obj, dNever, dgN, dgNil, dgCons, dgTup, dIf, dNot, dAnd, dOr, dB, dCall, dMeth, dNext, dSeq, dSt, dLst, dTup, dIfE, rIxQ, dDrop, dYes, diL, diR1, diR2, dNeg, dAsg, dwipe, dBM, dBM0, rAppendD, rMin2, rMax2, atI_0, atI_1, atI_2, atI_3, ix4_0, ix4_1, ix4_3, asL_g, asQ_g, now_g, gupd_same, gupd_gupd, Int.ofNat_inj, now_lst, now_int, now_tup, asL_lst, natsD_length, rdD_length, vilD_inj, vil_ins, natsD_inj, rdD_inj, nnD_inj, dDIn, dDPut, dDGet]
            refine ⟨l2, asD_g, ?_⟩
            have hself : lookN l2 l[t'].1 = some l[t'].2 := by
              have hm := List.mem_of_getElem? hin.at_
              have h1 : l[t'].1 ∈ l2.map Prod.fst := List.mem_map_of_mem hm
              rw [← lookN_mem] at h1
              obtain ⟨v, hv⟩ := Option.isSome_iff_exists.mp h1
              have e1 := (hin.b.lt _ (lookN_in hv)).2
              have e2 := (hin.b.lt _ hm).2
              simp only at e1
              rw [hv, e1, e2]
            cases hlk : lookN l2 y with
            | some v =>
              have hk : y ∈ l2.map Prod.fst := lookN_mem.mp (by rw [hlk]; rfl)
              simp
              exact ⟨l2, rfl, by rw [htk]; exact hin.old hk⟩
            | none =>
              have hk := lookN_none.mp hlk
              simp
              exact ⟨l2, asD_g, _, hself, l2, rfl, l[t'].2 + 1, rfl, hlk, by have := hin.b.len; exact small1000 (by omega), _, rfl, by rw [htk]; exact hin.new hL hd hs1 hya hk⟩
          · rintro δ G4 ⟨l2, o10, rfl, rfl, hin⟩
            rw [natsD_length, List.take_length] at hin
            exact ⟨by omega, ⟨_, _, _, _, rfl⟩, l2, rfl, hin.next fun y hy => (hadj y).mpr hy⟩
        · rintro δ G3 ⟨ht, l, o8, o9, o10, o11, rfl, rfl, hb⟩
          rw [natsD_length, List.length_range] at hb
          have hfq : gupd G2 q (MO.dK (kvN l)) fa = some (.lst (nnD ((vilOf L d).far.take i))) := by rw [gupd_ne hqf]; exact hf2
          simp [and_assoc, dRet, dRetN, dRetC, dChain, r2I, dC, dVar, dEnds, dstart, dOp, dCB, DL.rLen, dCons, dNil, dFld, asL_lst, asQ_lst, asQ_tup, asQ_scr, ins_obj, dNever, dgN, dgNil, dgCons, dgTup, dIf, dNot, dAnd, dOr, dB, dCall, dMeth, dNext, dSeq, dSt, dLst, dTup, dIfE, rIxQ, dDrop, dYes, diL, diR1, diR2, dNeg, dAsg, dwipe, dBM, dBM0, rAppendD, rMin2, rMax2, atI_0, atI_1, atI_2, atI_3, ix4_0, ix4_1, ix4_3, asL_g, asQ_g, now_g, gupd_same, gupd_gupd, Int.ofNat_inj, now_lst, now_int, now_tup, asL_lst, natsD_length, rdD_length, vilD_inj, vil_ins, natsD_inj, rdD_inj, nnD_inj]
          refine ⟨⟨_, asL_ref hfq⟩, ?_⟩
          refine dLcP_intro (natsD (List.range (L.length + 1))) (fun _ => true) (natF fun k => .int (d s k : Int)) (fun P p => ?_) (by rw [natsD_length, List.length_range]; exact small1000 (by omega)) (fun z G' hz hG => ?_) ?_
          · simp [and_assoc, dRet, dRetN, dRetC, dChain, r2I, dC, dVar, dEnds, dstart, dOp, dCB, DL.rLen, dCons, dNil, dFld, asL_lst, asQ_lst, asQ_tup, asQ_scr, ins_obj, dNever, dgN, dgNil, dgCons, dgTup, dIf, dNot, dAnd, dOr, dB, dCall, dMeth, dNext, dSeq, dSt, dLst, dTup, dIfE, rIxQ, dDrop, dYes, diL, diR1, diR2, dNeg, dAsg, dwipe, dBM, dBM0, rAppendD, rMin2, rMax2, atI_0, atI_1, atI_2, atI_3, ix4_0, ix4_1, ix4_3]
            refine ⟨by omega, by omega, ?_⟩
            rw [upto0]
            exact p
          · obtain ⟨y, hy, rfl⟩ := natsD_mem hz
            have hlk := hb.look hL hd hs1 (Nat.le_refl _) (List.mem_range.mp hy)
            simp [and_assoc, dRet, dRetN, dRetC, dChain, r2I, dC, dVar, dEnds, dstart, dOp, dCB, DL.rLen, dCons, dNil, dFld, asL_lst, asQ_lst, asQ_tup, asQ_scr, ins_obj, dNever, dgN, dgNil, dgCons, dgTup, dIf, dNot, dAnd, dOr, dB, dCall, dMeth, dNext, dSeq, dSt, dLst, dTup, dIfE, rIxQ, dDrop, dYes, diL, diR1, diR2, dNeg, dAsg, dwipe, dBM, dBM0, rAppendD, rMin2, rMax2, atI_0, atI_1, atI_2, atI_3, ix4_0, ix4_1, ix4_3, asL_g, asQ_g, now_g, gupd_same, gupd_gupd, Int.ofNat_inj, now_lst, now_int, now_tup, asL_lst, natsD_length, rdD_length, vilD_inj, vil_ins, natsD_inj, rdD_inj, nnD_inj, dDGet, natF]
            exact ⟨l, hG _ _ gupd_same, hlk⟩
          · have hi2 : i < L.length + 1 := by simpa using (List.getElem?_eq_some_iff.mp hs).1
            have hsi : s = i := by
              rw [List.getElem?_range hi2] at hs; cases hs; rfl
            subst hsi
            refine ⟨_, hfq, ?_, by omega, fun a m e => ?_, ?_⟩
            · rw [nnD_length, List.length_take]
              have := vilOf_n L d
              unfold Vil.n at this
              exact small1000 (by omega)
            · rw [gupd_ne (gne e hfa), gupd_ne (gne (hle a m e) hq)]
              exact hle a m e
            · rw [filt_true, natF_map, take_one_more (farrow hs1)]
              simp [nnD, natsD, List.map_map, Function.comp_def]
      · rintro δ G2 ⟨hi, o6, o7, o8, o9, o10, o11, rfl, hle, hf2⟩
        rw [natsD_length, List.length_range, List.take_of_length_le (by simp [vilOf])] at hf2
        simp [and_assoc, dRet, dRetN, dRetC, dChain, r2I, dC, dVar, dEnds, dstart, dOp, dCB, DL.rLen, dCons, dNil, dFld, asL_lst, asQ_lst, asQ_tup, asQ_scr, ins_obj, dNever, dgN, dgNil, dgCons, dgTup, dIf, dNot, dAnd, dOr, dB, dCall, dMeth, dNext, dSeq, dSt, dLst, dTup, dIfE, rIxQ, dDrop, dYes, diL, diR1, diR2, dNeg, dAsg, dwipe, dBM, dBM0, rAppendD, rMin2, rMax2, atI_0, atI_1, atI_2, atI_3, ix4_0, ix4_1, ix4_3, asL_g, asQ_g, now_g, gupd_same, gupd_gupd, Int.ofNat_inj, now_lst, now_int, now_tup, asL_lst, natsD_length, rdD_length, vilD_inj, vil_ins, natsD_inj, rdD_inj, nnD_inj]
        exact ⟨_, _, (Clo.frz hf2).trans (.sub fun a m e => by
          rw [gdel_ne (gne e hfa)]
          exact hle a m e), p⟩
end
end V

set_option Elab.async false
set_option linter.all false
/-! Tales; a tale made house by house, from a root on. -/
namespace V
open DL
/-- the houses ahead: nearer to the root, next door -/
def aheadOf (E : List (Nat × Nat)) (d : Nat → Nat → Nat) (root h : Nat) : List Nat := (List.range (E.length + 1)).filter fun k => decide (d k h = 1) && decide (d root k < d root h)
/-- the houses in their order from the root -/
structure Ord (E : List (Nat × Nat)) (d : Nat → Nat → Nat) (root : Nat) (os : List Nat) : Prop where
  perm : os.Perm (List.range (E.length + 1))
  up : os.Pairwise fun a b => leN (d root a, a) (d root b, b)
structure Tale (E : List (Nat × Nat)) (d : Nat → Nat → Nat) (st : List Nat) : Prop where
  len : st.length = E.length + 1
  lt : ∀ x ∈ st, x < E.length + 1
  adj : ∀ x y, Adj E x y → d (st.getD x 0) (st.getD y 0) ≤ 1
section
variable {E : List (Nat × Nat)} {d : Nat → Nat → Nat} {root : Nat} {os st : List Nat}
theorem Tale.at (t : Tale E d st) {x : Nat} (hx : x < E.length + 1) : st[x]? = some (st.getD x 0) ∧ st.getD x 0 < E.length + 1 := by
  have h : x < st.length := by rw [t.len]; exact hx
  have e : st.getD x 0 = st[x] := by simp [List.getD, h]
  rw [e]
  exact ⟨List.getElem?_eq_getElem h, t.lt _ (List.getElem_mem h)⟩
/-- of any two houses those of a tale are not farther from one another -/
theorem lip_of (h : Tree E) (hd : Dists E d) {f : Nat → Nat} (hf : ∀ x, x < E.length + 1 → f x < E.length + 1) (ha : ∀ x y, Adj E x y → d (f x) (f y) ≤ 1) : ∀ x y, x < E.length + 1 → y < E.length + 1 → d (f x) (f y) ≤ d x y := by
  have key : ∀ k x y, Wk E k x y → x < E.length + 1 → d (f x) (f y) ≤ k := by
    intro k x y w
    induction w with
    | refl x => exact fun hx => by rw [d_self hd (hf x hx)]; exact Nat.le_refl _
    | @step k x y z w a ih =>
      intro hx
      have ih := ih hx
      have hy := (adj_lt h a).1
      have hz := (adj_lt h a).2
      have := d_tri h hd (hf x hx) (hf y hy) (hf z hz)
      have := ha y z a
      omega
  exact fun x y hx hy => key _ x y (d_walk h hd hx _ y hy rfl) hx
theorem Tale.lip (t : Tale E d st) (h : Tree E) (hd : Dists E d) {x y : Nat} (hx : x < E.length + 1) (hy : y < E.length + 1) : d (st.getD x 0) (st.getD y 0) ≤ d x y :=
  lip_of h hd (fun x hx => (t.at hx).2) t.adj x y hx hy
/-- next doors: one is nearer to the root by one -/
theorem adj_root (h : Tree E) (hd : Dists E d) (hr : root < E.length + 1) {x y : Nat} (a : Adj E x y) : d root y = d root x + 1 ∨ d root x = d root y + 1 := by
  have hx := (adj_lt h a).1
  have hy := (adj_lt h a).2
  have h1 := d_step_le h hd hr a
  have h2 := d_step_le h hd hr a.symm
  have h3 := three_even h hd root x y hr hx hy
  have h4 := (adj_one h hd hx hy).mpr a
  omega
theorem ahead_one (h : Tree E) (hd : Dists E d) (hr : root < E.length + 1) {x y : Nat} (a : Adj E x y) (e : d root y = d root x + 1) : (aheadOf E d root y)[0]? = some x := by
  have hx := (adj_lt h a).1
  have hy := (adj_lt h a).2
  have hm : x ∈ aheadOf E d root y := by
    refine List.mem_filter.mpr ⟨List.mem_range.mpr hx, ?_⟩
    rw [Bool.and_eq_true, decide_eq_true_eq, decide_eq_true_eq]
    exact ⟨(adj_one h hd hx hy).mpr a, by omega⟩
  have hu : ∀ z ∈ aheadOf E d root y, z = x := fun z hz => by
    obtain ⟨h1, h2⟩ := List.mem_filter.mp hz
    rw [Bool.and_eq_true, decide_eq_true_eq, decide_eq_true_eq] at h2
    have hz := List.mem_range.mp h1
    have az := (adj_one h hd hz hy).mp h2.1
    have hxy := (adj_one h hd hx hy).mpr a
    rcases adj_root h hd hr az with q | q
    · exact way_one h hd hr hy hz hx (by omega) (by omega) (by omega)
    · omega
  cases hl : aheadOf E d root y with
  | nil => rw [hl] at hm; cases hm
  | cons z l =>
    have := hu z (by rw [hl]; exact List.mem_cons_self)
    rw [this]; rfl
structure Hid (E : List (Nat × Nat)) (d : Nat → Nat → Nat) (root : Nat) (os : List Nat) (i : Nat) (l : List (Nat × Nat)) : Prop where
  keys : l.map Prod.fst = os.take i
  lt : ∀ p ∈ l, p.2 < E.length + 1
  near : ∀ (j : Nat) h p, j < i → os[j]? = some h → (aheadOf E d root h)[0]? = some p → ∃ u v, lookN l h = some u ∧ lookN l p = some v ∧ d u v ≤ 1
theorem Ord.nodup (o : Ord E d root os) : os.Nodup := (o.perm.nodup_iff).mpr List.nodup_range
theorem Ord.len (o : Ord E d root os) : os.length = E.length + 1 := by rw [o.perm.length_eq, List.length_range]
theorem Ord.lt (o : Ord E d root os) {x : Nat} (hx : x ∈ os) : x < E.length + 1 := List.mem_range.mp (o.perm.mem_iff.mp hx)
/-- who is ahead stands ahead -/
theorem Hid.ahead {i : Nat} {l : List (Nat × Nat)} (H : Hid E d root os i l) (o : Ord E d root os) {h p : Nat} (hi : os[i]? = some h) (hp : (aheadOf E d root h)[0]? = some p) : ∃ v, lookN l p = some v ∧ v < E.length + 1 := by
  have hm := List.mem_of_getElem? hp
  obtain ⟨h1, h2⟩ := List.mem_filter.mp hm
  rw [Bool.and_eq_true, decide_eq_true_eq, decide_eq_true_eq] at h2
  have hpo : p ∈ os := o.perm.mem_iff.mpr h1
  obtain ⟨j, hj⟩ := List.getElem?_of_mem hpo
  have hji : j < i := by
    refine Classical.byContradiction fun hn => ?_
    obtain ⟨a1, b1⟩ := List.getElem?_eq_some_iff.mp hi
    obtain ⟨a2, b2⟩ := List.getElem?_eq_some_iff.mp hj
    by_cases e : j = i
    · subst e
      rw [hi] at hj; cases hj
      omega
    · have := List.pairwise_iff_getElem.mp o.up i j a1 a2 (by omega)
      rw [b1, b2] at this
      simp only [leN] at this
      omega
  have hk : p ∈ l.map Prod.fst := by
    rw [H.keys]
    exact List.mem_of_getElem? (by rw [List.getElem?_take, if_pos hji]; exact hj)
  rw [← lookN_mem] at hk
  obtain ⟨v, hv⟩ := Option.isSome_iff_exists.mp hk
  exact ⟨v, hv, H.lt _ (lookN_in hv)⟩
theorem Hid.fresh {i : Nat} {l : List (Nat × Nat)} (H : Hid E d root os i l) (o : Ord E d root os) {h : Nat} (hi : os[i]? = some h) : lookN l h = none := by
  refine lookN_none.mpr fun hm => ?_
  rw [H.keys] at hm
  obtain ⟨j, hj⟩ := List.getElem?_of_mem hm
  rw [List.getElem?_take] at hj
  split at hj
  · obtain ⟨a1, b1⟩ := List.getElem?_eq_some_iff.mp hi
    obtain ⟨a2, b2⟩ := List.getElem?_eq_some_iff.mp hj
    have := (List.getElem_inj o.nodup (i := j) (j := i)).mp (b2.trans b1.symm)
    omega
  · cases hj
theorem Hid.add {i : Nat} {l : List (Nat × Nat)} (H : Hid E d root os i l) (o : Ord E d root os) {h v : Nat} (hi : os[i]? = some h) (hv : v < E.length + 1) (hn : ∀ p u, (aheadOf E d root h)[0]? = some p → lookN l p = some u → d v u ≤ 1) : Hid E d root os (i + 1) (l ++ [(h, v)]) := by
  have hf := H.fresh o hi
  refine ⟨?_, fun p hp => ?_, fun j h' p hj hh hp => ?_⟩
  · rw [List.map_append, H.keys, take_one_more hi]; rfl
  · rcases List.mem_append.mp hp with hp | hp
    · exact H.lt p hp
    · rw [List.mem_singleton.mp hp]; exact hv
  · have look : ∀ {k u : Nat}, lookN l k = some u → lookN (l ++ [(h, v)]) k = some u := fun {k u} e => by
      rw [lookN_snoc hf]
      by_cases q : h = k
      · subst q; rw [hf] at e; cases e
      · rw [if_neg q]; exact e
    by_cases e : j = i
    · subst e
      rw [hi] at hh; cases hh
      obtain ⟨u, hu, _⟩ := H.ahead o hi hp
      exact ⟨v, u, by rw [lookN_snoc hf, if_pos rfl], look hu, hn p u hp hu⟩
    · obtain ⟨u, w, h1, h2, h3⟩ := H.near j h' p (by omega) hh hp
      exact ⟨u, w, look h1, look h2, h3⟩
theorem Hid.look {l : List (Nat × Nat)} (H : Hid E d root os (E.length + 1) l) (o : Ord E d root os) {x : Nat} (hx : x < E.length + 1) : ∃ v, lookN l x = some v ∧ v < E.length + 1 := by
  have hk : x ∈ l.map Prod.fst := by
    rw [H.keys, List.take_of_length_le (by rw [o.len]; exact Nat.le_refl _)]
    exact o.perm.mem_iff.mpr (List.mem_range.mpr hx)
  rw [← lookN_mem] at hk
  obtain ⟨v, hv⟩ := Option.isSome_iff_exists.mp hk
  exact ⟨v, hv, H.lt _ (lookN_in hv)⟩
def storyOf (n : Nat) (l : List (Nat × Nat)) : List Nat := (List.range n).map fun k => (lookN l k).getD 0
theorem Hid.tale {l : List (Nat × Nat)} (H : Hid E d root os (E.length + 1) l) (o : Ord E d root os) (h : Tree E) (hd : Dists E d) (hr : root < E.length + 1) : Tale E d (storyOf (E.length + 1) l) := by
  have at_ : ∀ {x v : Nat}, x < E.length + 1 → lookN l x = some v → (storyOf (E.length + 1) l).getD x 0 = v := fun {x v} hx e => by
    simp [storyOf, List.getD, hx, e]
  have key : ∀ {x y : Nat}, Adj E x y → d root y = d root x + 1 → d ((storyOf (E.length + 1) l).getD y 0) ((storyOf (E.length + 1) l).getD x 0) ≤ 1 := fun {x y} a e => by
    have hx := (adj_lt h a).1
    have hy := (adj_lt h a).2
    obtain ⟨j, hj⟩ := List.getElem?_of_mem (o.perm.mem_iff.mpr (List.mem_range.mpr hy))
    have hj1 := (List.getElem?_eq_some_iff.mp hj).1
    rw [o.len] at hj1
    obtain ⟨u, v, h1, h2, h3⟩ := H.near j y x hj1 hj (ahead_one h hd hr a e)
    rw [at_ hy h1, at_ hx h2]
    exact h3
  refine ⟨by simp [storyOf], fun x hx => ?_, fun x y a => ?_⟩
  · obtain ⟨k, hk, rfl⟩ := List.mem_map.mp hx
    obtain ⟨v, hv, hv2⟩ := H.look o (List.mem_range.mp hk)
    rw [hv]; exact hv2
  · rcases adj_root h hd hr a with e | e
    · have hx := (adj_lt h a).1
      have hy := (adj_lt h a).2
      obtain ⟨u, hu, hu2⟩ := H.look o hx
      obtain ⟨v, hv, hv2⟩ := H.look o hy
      have := key a e
      rw [at_ hx hu, at_ hy hv] at this ⊢
      rw [d_symm h hd hu2 hv2]
      exact this
    · exact key a.symm e
end
end V

set_option Elab.async false
set_option linter.all false
set_option maxRecDepth 100000
set_option maxHeartbeats 4000000
namespace V
open PySem PySem.Spec L2 DL
theorem atI_far {E : List (Nat × Nat)} {d : Nat → Nat → Nat} {x : Nat} (hx : x < E.length + 1) : atI (nnD (vilOf E d).far) (x : Int) = some (.lst (natsD ((List.range (E.length + 1)).map (d x)))) := atI_nn (farrow hx)
theorem atI_row {n : Nat} {f : Nat → Nat} {y : Nat} (hy : y < n) : atI (natsD ((List.range n).map f)) (y : Int) = some (.int (f y : Int)) := atI_nats (by rw [List.getElem?_map, List.getElem?_range hy]; rfl)
theorem far_len {E : List (Nat × Nat)} {d : Nat → Nat → Nat} : (nnD (vilOf E d).far).length = E.length + 1 := by rw [nnD_length]; exact vilOf_n E d
theorem gdel_gupd0 {G : Gp} {p : Addr} {m : MO} (h : G p = none) : gdel (gupd G p m) p = G := by
  funext a
  by_cases e : a = p
  · rw [e, h]; simp [gdel]
  · rw [gdel_ne e, gupd_ne e]
def ordD (E : List (Nat × Nat)) (d : Nat → Nat → Nat) (root : Nat) (os : List Nat) : List Dt := os.map fun (h : Nat) => Dt.tup [.int (h : Int), .lst (natsD (aheadOf E d root h))]
/-- sorted pairs of numbers, by what they are of -/
theorem sort_by {l : List Nat} {f : Nat → Nat} {ns : List (Int × Int)} (h1 : ns.Perm (l.map fun k => ((f k : Int), (k : Int)))) (h2 : ns.Pairwise leP) : ∃ os : List Nat, os.Perm l ∧ os.Pairwise (fun a b => leN (f a, a) (f b, b)) ∧ ns.map pairD = os.map fun k => pairD ((f k : Int), (k : Int)) := by
  have e1 : ns = (ns.map fun q => q.2.toNat).map fun z => ((f z : Int), (z : Int)) := by
    rw [List.map_map]
    refine (List.map_id' ns).symm.trans (List.map_congr_left fun q hq => ?_)
    obtain ⟨z, _, rfl⟩ := List.mem_map.mp (h1.mem_iff.mp hq)
    simp
  refine ⟨ns.map fun q => q.2.toNat, ?_, ?_, ?_⟩
  · have := h1.map fun q => q.2.toNat
    rw [List.map_map] at this
    refine this.trans (.of_eq ?_)
    refine (List.map_congr_left fun z _ => ?_).trans (List.map_id' _)
    simp
  · rw [e1] at h2
    refine (List.pairwise_map.mp h2).imp fun {a b} h => ?_
    simp only [leP, leN] at h ⊢
    omega
  · conv => lhs; rw [e1]
    rw [List.map_map]
    rfl
section
variable {P : Program} {w : World} {K : PySem.W.Frag} {mg : Str → Option Value} {base : Heap} {C : Addr}
abbrev s_law_order : Stmt := top 31
abbrev n_law_order : List Str := ["pot", "far", "root", "found", "apart", "house", "k"]
abbrev p_law_order : List Str := ["pot", "far"]
theorem sc_law_order : FnScope n_law_order p_law_order (defScope s_law_order) := ⟨rfl, rfl, rfl, by decide +kernel, rfl, by decide +kernel, by decide +kernel⟩
def c_order : DSp := fun ds G P _ => ∃ (p : Addr) (E : List (Nat × Nat)) (d : Nat → Nat → Nat) (n : Nat), ds = [.ref p, .lst (nnD (vilOf E d).far)] ∧ E.length ≤ 399 ∧ Pot p G (n + 1) ∧ ∀ root os G', root < E.length + 1 → Ord E d root os → Pot p G' n → OExt (Pown p) G G' → P (.lst (ordD E d root os)) G'
theorem ok_order (T : Bt mg) (TF : TopFn K mg "_law_order" s_law_order p_law_order) (D__law_draw : Dfn P w K mg base CX0 "_law_draw" p_law_draw c_pdraw 1) : Dfn P w K mg base CX0 "_law_order" p_law_order c_order 2 := by
  refine dfn_of TF sc_law_order (fun ds G P R ⟨t, E, d, n, e, _⟩ => by rw [e]; rfl) fun f cdv A outer s H E B hr => ?_
  refine ⟨_, (dss_cons (ds_set (i := 2) sc_law_order.nd rfl (by first | exact Or.inl rfl | exact Or.inr rfl) (d_callD D__law_draw hr (by rfl) (da_cons (dv (pv 0)) (da_cons (d_callB c_len (by rfl) T.len (by decide +kernel) (da_cons (dv (pv 1)) da_nil)) da_nil))))
      (dss_cons (ds_set (i := 3) sc_law_order.nd rfl (by first | exact Or.inl rfl | exact Or.inr rfl) (d_lstM da_nil))
      (dss_cons (ds_for PassesOwn.never rfl (di_list (d_callB c_sortP (by rfl) T.sorted (by decide +kernel) (da_cons (d_lcP (own := [("k", 6)]) rfl sc_law_order.nd (di_range1 (by rfl) T.range (da_cons (d_callB c_len (by rfl) T.len (by decide +kernel) (da_cons (dv (pv 1)) da_nil)) da_nil)) (blkOk_by (N := n_law_order) (sc := defScope s_law_order) (by decide +kernel)) (fun _ _ _ _ _ => (dgw_name (pg_name (i := 6) sc_law_order.nd rfl (by first | exact Or.inl rfl | exact Or.inr rfl)))) (fun _ _ _ _ _ => dts_nil) (fun _ _ _ _ _ => (d_tup (da_cons (d_ix (d_ix (dv (pv 1)) (dv (pv 2)) (fun _ _ => rfl)) (dv (pv 6)) (fun _ _ => rfl)) (da_cons (dv (pv 6)) da_nil))))) da_nil))) (dg_tup (n := 2) rfl (dgs_cons (dg_name (pg_name (i := 4) sc_law_order.nd rfl (by first | exact Or.inl rfl | exact Or.inr rfl))) (dgs_cons (dg_name (pg_name (i := 5) sc_law_order.nd rfl (by first | exact Or.inl rfl | exact Or.inr rfl))) dgs_nil))) (dss_one (ds_expr (d_append (dv (pv 3)) (d_tup (da_cons (dv (pv 5)) (da_cons (d_lcP (own := [("k", 6)]) rfl sc_law_order.nd (di_range1 (by rfl) T.range (da_cons (d_callB c_len (by rfl) T.len (by decide +kernel) (da_cons (dv (pv 1)) da_nil)) da_nil)) (blkOk_by (N := n_law_order) (sc := defScope s_law_order) (by decide +kernel)) (fun _ _ _ _ _ => (dgw_name (pg_name (i := 6) sc_law_order.nd rfl (by first | exact Or.inl rfl | exact Or.inr rfl)))) (fun _ _ _ _ _ => (dts_one (DW.dt (dw_and (dt_cmp o_eqI (d_ix (d_ix (dv (pv 1)) (dv (pv 6)) (fun _ _ => rfl)) (dv (pv 5)) (fun _ _ => rfl)) d_int (nomark _)) (dw_and1 (dt_cmp o_lt (d_ix (d_ix (dv (pv 1)) (dv (pv 2)) (fun _ _ => rfl)) (dv (pv 6)) (fun _ _ => rfl)) (dv (pv 4)) (nomark _))))))) (fun _ _ _ _ _ => (dv (pv 6)))) da_nil)))))))
      (dss_one (ds_retC (dv (pv 3))))))), ?_⟩
  rintro ds G P R ⟨q, E, d, n, rfl, hl, hT, p⟩
  have s2 : 2 ≤ sizeLine := by rw [sizeLine_eq]; decide
  simp [and_assoc, dRet, dRetN, dRetC, dChain, r2I, dC, dVar, dEnds, dstart, dOp, dCB, DL.rLen, dCons, dNil, dFld, asL_lst, asQ_lst, asQ_tup, asQ_scr, ins_obj, dNever, dgN, dgNil, dgCons, dgTup, dIf, dNot, dAnd, dOr, dB, dCall, dMeth, dNext, dSeq, dSt, dLst, dTup, dIfE, rIxQ, dDrop, dYes, diL, diR1, diR2, dNeg, dAsg, dwipe, dBM, dBM0, rAppendD, rMin2, rMax2, atI_0, atI_1, atI_2, atI_3, ix4_0, ix4_1, ix4_3, asL_g, asQ_g, now_g, gupd_same, gupd_gupd, Int.ofNat_inj, now_lst, now_int, now_tup, asL_lst, natsD_length, rdD_length, vilD_inj, vil_ins, natsD_inj, rdD_inj, nnD_inj, n_law_order, far_len]
  refine ⟨q, E.length + 1, n, rfl, by omega, by omega, hT, fun root G1 hroot hT1 hx1 => ?_⟩
  simp [and_assoc, dRet, dRetN, dRetC, dChain, r2I, dC, dVar, dEnds, dstart, dOp, dCB, DL.rLen, dCons, dNil, dFld, asL_lst, asQ_lst, asQ_tup, asQ_scr, ins_obj, dNever, dgN, dgNil, dgCons, dgTup, dIf, dNot, dAnd, dOr, dB, dCall, dMeth, dNext, dSeq, dSt, dLst, dTup, dIfE, rIxQ, dDrop, dYes, diL, diR1, diR2, dNeg, dAsg, dwipe, dBM, dBM0, rAppendD, rMin2, rMax2, atI_0, atI_1, atI_2, atI_3, ix4_0, ix4_1, ix4_3, asL_g, asQ_g, now_g, gupd_same, gupd_gupd, Int.ofNat_inj, now_lst, now_int, now_tup, asL_lst, natsD_length, rdD_length, vilD_inj, vil_ins, natsD_inj, rdD_inj, nnD_inj, dLstM]
  intro fa hfa
  have hfo : ¬ Pown q fa := potSrc.fresh hT1 hfa
  have hfa0 : G fa = none := by
    cases e : G fa with
    | none => rfl
    | some m => rw [hx1 fa m hfo e] at hfa; cases hfa
  simp [and_assoc, dRet, dRetN, dRetC, dChain, r2I, dC, dVar, dEnds, dstart, dOp, dCB, DL.rLen, dCons, dNil, dFld, asL_lst, asQ_lst, asQ_tup, asQ_scr, ins_obj, dNever, dgN, dgNil, dgCons, dgTup, dIf, dNot, dAnd, dOr, dB, dCall, dMeth, dNext, dSeq, dSt, dLst, dTup, dIfE, rIxQ, dDrop, dYes, diL, diR1, diR2, dNeg, dAsg, dwipe, dBM, dBM0, rAppendD, rMin2, rMax2, atI_0, atI_1, atI_2, atI_3, ix4_0, ix4_1, ix4_3, dFor]
  refine dLcP_intro (natsD (List.range (E.length + 1))) (fun _ => true) (natF fun k => pairD ((d root k : Int), (k : Int))) (fun P p => ?_) (by rw [natsD_length, List.length_range]; exact small1000 (by omega)) (fun z G' hz hG => ?_) ?_
  · simp [and_assoc, dRet, dRetN, dRetC, dChain, r2I, dC, dVar, dEnds, dstart, dOp, dCB, DL.rLen, dCons, dNil, dFld, asL_lst, asQ_lst, asQ_tup, asQ_scr, ins_obj, dNever, dgN, dgNil, dgCons, dgTup, dIf, dNot, dAnd, dOr, dB, dCall, dMeth, dNext, dSeq, dSt, dLst, dTup, dIfE, rIxQ, dDrop, dYes, diL, diR1, diR2, dNeg, dAsg, dwipe, dBM, dBM0, rAppendD, rMin2, rMax2, atI_0, atI_1, atI_2, atI_3, ix4_0, ix4_1, ix4_3, asL_g, asQ_g, now_g, gupd_same, gupd_gupd, Int.ofNat_inj, now_lst, now_int, now_tup, asL_lst, natsD_length, rdD_length, vilD_inj, vil_ins, natsD_inj, rdD_inj, nnD_inj, far_len]
    rw [upto0]
    exact ⟨by omega, p⟩
  · obtain ⟨y, hy, rfl⟩ := natsD_mem hz
    simp [and_assoc, dRet, dRetN, dRetC, dChain, r2I, dC, dVar, dEnds, dstart, dOp, dCB, DL.rLen, dCons, dNil, dFld, asL_lst, asQ_lst, asQ_tup, asQ_scr, ins_obj, dNever, dgN, dgNil, dgCons, dgTup, dIf, dNot, dAnd, dOr, dB, dCall, dMeth, dNext, dSeq, dSt, dLst, dTup, dIfE, rIxQ, dDrop, dYes, diL, diR1, diR2, dNeg, dAsg, dwipe, dBM, dBM0, rAppendD, rMin2, rMax2, atI_0, atI_1, atI_2, atI_3, ix4_0, ix4_1, ix4_3, asL_g, asQ_g, now_g, gupd_same, gupd_gupd, Int.ofNat_inj, now_lst, now_int, now_tup, asL_lst, natsD_length, rdD_length, vilD_inj, vil_ins, natsD_inj, rdD_inj, nnD_inj, atI_far hroot, atI_row (List.mem_range.mp hy), natF, pairD, s2]
  rw [filt_true, natF_map]
  have e1 : ((List.range (E.length + 1)).map fun k => pairD ((d root k : Int), (k : Int))) = ((List.range (E.length + 1)).map fun k => ((d root k : Int), (k : Int))).map pairD := by rw [List.map_map]; rfl
  rw [e1]
  refine ⟨_, _, rfl, asL_lst, fun ns h1 h2 => ?_⟩
  obtain ⟨os, ho1, ho2, ho3⟩ := sort_by h1 h2
  rw [ho3]
  refine ⟨_, rfl, fun i δ G' => ∃ o4 o5 o6, δ = [some (.ref q), some (.lst (nnD (vilOf E d).far)), some (.int (root : Int)), some (.ref fa), o4, o5, o6] ∧ G' = gupd G1 fa (.lst (ordD E d root (os.take i))), ⟨_, _, _, rfl, rfl⟩, ?_, ?_⟩
  · rintro i dd δ G2 hdd ⟨o4, o5, o6, rfl, rfl⟩
    rw [List.getElem?_map] at hdd
    obtain ⟨h, hh, rfl⟩ := Option.map_eq_some_iff.mp hdd
    have hm := ho1.mem_iff.mp (List.mem_of_getElem? hh)
    have hhn := List.mem_range.mp hm
    refine ⟨_, rfl, rfl, _, _, rfl, _, _, rfl, rfl, _, rfl, ⟨_, asL_g⟩, _, rfl, ?_⟩
    refine dLcP_intro (natsD (List.range (E.length + 1))) (natT fun k => decide (d k h = 1) && decide (d root k < d root h)) id (fun P p => ?_) (by rw [natsD_length, List.length_range]; exact small1000 (by omega)) (fun z G' hz hG => ?_) ?_
    · simp [and_assoc, dRet, dRetN, dRetC, dChain, r2I, dC, dVar, dEnds, dstart, dOp, dCB, DL.rLen, dCons, dNil, dFld, asL_lst, asQ_lst, asQ_tup, asQ_scr, ins_obj, dNever, dgN, dgNil, dgCons, dgTup, dIf, dNot, dAnd, dOr, dB, dCall, dMeth, dNext, dSeq, dSt, dLst, dTup, dIfE, rIxQ, dDrop, dYes, diL, diR1, diR2, dNeg, dAsg, dwipe, dBM, dBM0, rAppendD, rMin2, rMax2, atI_0, atI_1, atI_2, atI_3, ix4_0, ix4_1, ix4_3, asL_g, asQ_g, now_g, gupd_same, gupd_gupd, Int.ofNat_inj, now_lst, now_int, now_tup, asL_lst, natsD_length, rdD_length, vilD_inj, vil_ins, natsD_inj, rdD_inj, nnD_inj, far_len]
      rw [upto0]
      exact ⟨by omega, p⟩
    · obtain ⟨y, hy, rfl⟩ := natsD_mem hz
      have hy1 := List.mem_range.mp hy
      by_cases e1 : d y h = 1 <;> by_cases e2 : d root y < d root h <;> simp [and_assoc, dRet, dRetN, dRetC, dChain, r2I, dC, dVar, dEnds, dstart, dOp, dCB, DL.rLen, dCons, dNil, dFld, asL_lst, asQ_lst, asQ_tup, asQ_scr, ins_obj, dNever, dgN, dgNil, dgCons, dgTup, dIf, dNot, dAnd, dOr, dB, dCall, dMeth, dNext, dSeq, dSt, dLst, dTup, dIfE, rIxQ, dDrop, dYes, diL, diR1, diR2, dNeg, dAsg, dwipe, dBM, dBM0, rAppendD, rMin2, rMax2, atI_0, atI_1, atI_2, atI_3, ix4_0, ix4_1, ix4_3, asL_g, asQ_g, now_g, gupd_same, gupd_gupd, Int.ofNat_inj, now_lst, now_int, now_tup, asL_lst, natsD_length, rdD_length, vilD_inj, vil_ins, natsD_inj, rdD_inj, nnD_inj, atI_far hy1, atI_row hhn, atI_far hroot, atI_row hy1, natT, e1, e2] <;> omega
    · rw [List.map_id, natT_filter]
      refine ⟨s2, fa, rfl, _, gupd_same, ?_, _, _, _, rfl, ?_⟩
      · have : (ordD E d root (os.take i)).length ≤ os.length := by
          unfold ordD
          rw [List.length_map, List.length_take]
          omega
        have hol : os.length = E.length + 1 := by rw [ho1.length_eq, List.length_range]
        exact small1000 (by omega)
      · rw [gupd_gupd, take_one_more hh]
        simp [ordD, aheadOf]
  · rintro δ G2 ⟨o4, o5, o6, rfl, rfl⟩
    rw [List.length_map, List.take_length]
    refine ⟨_, rfl, _, _, Clo.frz gupd_same, ?_⟩
    rw [gdel_gupd0 hfa]
    exact p root os _ hroot ⟨ho1, ho2⟩ hT1 hx1
abbrev s_law_hidden : Stmt := top 32
abbrev n_law_hidden : List Str := ["pot", "far", "lot", "found", "house", "ahead", "some", "spots", "k", "length"]
abbrev p_law_hidden : List Str := ["pot", "far"]
theorem sc_law_hidden : FnScope n_law_hidden p_law_hidden (defScope s_law_hidden) := ⟨rfl, rfl, rfl, by decide +kernel, rfl, by decide +kernel, by decide +kernel⟩
def c_hidden : DSp := fun ds G P _ => ∃ (p : Addr) (E : List (Nat × Nat)) (d : Nat → Nat → Nat) (n : Nat), ds = [.ref p, .lst (nnD (vilOf E d).far)] ∧ Tree E ∧ Dists E d ∧ E.length ≤ 39 ∧ Pot p G (n + 200) ∧ ∀ st G', Tale E d st → Pot p G' n → OExt (Pown p) G G' → P (.lst (natsD st)) G'
theorem ok_hidden (T : Bt mg) (TF : TopFn K mg "_law_hidden" s_law_hidden p_law_hidden) (D__law_draw : Dfn P w K mg base CX0 "_law_draw" p_law_draw c_pdraw 1) (D__law_order : Dfn P w K mg base CX0 "_law_order" p_law_order c_order 2) : Dfn P w K mg base CX0 "_law_hidden" p_law_hidden c_hidden 3 := by
  refine dfn_of TF sc_law_hidden (fun ds G P R ⟨t, E, d, n, e, _⟩ => by rw [e]; rfl) fun f cdv A outer s H E B hr => ?_
  refine ⟨_, (dss_cons (ds_set (i := 2) sc_law_hidden.nd rfl (by first | exact Or.inl rfl | exact Or.inr rfl) (d_callD D__law_draw hr (by rfl) (da_cons (dv (pv 0)) (da_cons d_int da_nil))))
      (dss_cons (ds_set (i := 3) sc_law_hidden.nd rfl (by first | exact Or.inl rfl | exact Or.inr rfl) d_dict)
      (dss_cons (ds_for PassesOwn.never rfl (di_list (d_callD D__law_order hr (by rfl) (da_cons (dv (pv 0)) (da_cons (dv (pv 1)) da_nil)))) (dg_tup (n := 2) rfl (dgs_cons (dg_name (pg_name (i := 4) sc_law_hidden.nd rfl (by first | exact Or.inl rfl | exact Or.inr rfl))) (dgs_cons (dg_name (pg_name (i := 5) sc_law_hidden.nd rfl (by first | exact Or.inl rfl | exact Or.inr rfl))) dgs_nil))) (dss_cons (ds_setLcP (i := 6) (own := [("k", 8)]) rfl sc_law_hidden.nd rfl rfl (sw_true rfl rfl rfl (by decide +kernel)) (di_range1 (by rfl) T.range (da_cons (d_callB c_len (by rfl) T.len (by decide +kernel) (da_cons (dv (pv 1)) da_nil)) da_nil)) (blkOk_by (N := n_law_hidden) (sc := defScope s_law_hidden) (by decide +kernel)) (fun _ _ _ _ _ => (dgw_name (pg_name (i := 8) sc_law_hidden.nd rfl (by first | exact Or.inl rfl | exact Or.inr rfl)))) (fun _ _ _ _ _ => (dts_one (DW.dt (dw_or (dt_cmp (o_eq hr) (dv (pv 5)) (d_lst da_nil) (nomark _)) (dw_or1 (dt_cmp o_lt (d_ix (d_ix (dv (pv 1)) (dv (pv 8)) (fun _ _ => rfl)) (d_dget hr (dv (pv 3)) (d_ix (dv (pv 5)) d_int (fun _ _ => rfl)) (fun _ _ => rfl)) (fun _ _ => rfl)) d_int (nomark _))))))) (fun _ _ _ _ _ => (dv (pv 8))))
      (dss_cons (ds_setLcP (i := 6) (own := [("length", 9), ("k", 8)]) rfl sc_law_hidden.nd rfl rfl (sw_true rfl rfl rfl (by decide +kernel)) (di_list (d_callB c_sortP (by rfl) T.sorted (by decide +kernel) (da_cons (d_lcP (own := [("k", 8)]) rfl sc_law_hidden.nd (di_list (dv (pv 6))) (blkOk_by (N := n_law_hidden) (sc := defScope s_law_hidden) (by decide +kernel)) (fun _ _ _ _ _ => (dgw_name (pg_name (i := 8) sc_law_hidden.nd rfl (by first | exact Or.inl rfl | exact Or.inr rfl)))) (fun _ _ _ _ _ => dts_nil) (fun _ _ _ _ _ => (d_tup (da_cons (d_ix (d_ix (dv (pv 1)) (dv (pv 4)) (fun _ _ => rfl)) (dv (pv 8)) (fun _ _ => rfl)) (da_cons (dv (pv 8)) da_nil))))) da_nil))) (blkOk_by (N := n_law_hidden) (sc := defScope s_law_hidden) (by decide +kernel)) (fun _ _ _ _ _ => (dgw_tup (n := 2) rfl (dgsw_cons (dgw_name (pg_name (i := 9) sc_law_hidden.nd rfl (by first | exact Or.inl rfl | exact Or.inr rfl))) (dgsw_cons (dgw_name (pg_name (i := 8) sc_law_hidden.nd rfl (by first | exact Or.inl rfl | exact Or.inr rfl))) dgsw_nil)))) (fun _ _ _ _ _ => dts_nil) (fun _ _ _ _ _ => (dv (pv 8))))
      (dss_cons (ds_set (i := 7) sc_law_hidden.nd rfl (by first | exact Or.inl rfl | exact Or.inr rfl) (d_lst (da_cons (d_callD D__law_draw hr (by rfl) (da_cons (dv (pv 0)) (da_cons (d_callB c_len (by rfl) T.len (by decide +kernel) (da_cons (dv (pv 6)) da_nil)) da_nil))) (da_cons d_int (da_cons (d_op o_sub (d_callB c_len (by rfl) T.len (by decide +kernel) (da_cons (dv (pv 6)) da_nil)) d_int) (da_cons (d_callD D__law_draw hr (by rfl) (da_cons (dv (pv 0)) (da_cons (d_callB c_len (by rfl) T.len (by decide +kernel) (da_cons (dv (pv 6)) da_nil)) da_nil))) da_nil))))))
      (dss_one (ds_dput hr (dv (pv 3)) (dv (pv 4)) (d_ix (dv (pv 6)) (d_ix (dv (pv 7)) (d_ifExp (dt_cmp o_gt (d_callD D__law_draw hr (by rfl) (da_cons (dv (pv 0)) (da_cons d_int da_nil))) d_int (nomark _)) (dv (pv 2)) d_int) (fun _ _ => rfl)) (fun _ _ => rfl))))))))
      (dss_one (ds_ret (d_lcP (own := [("k", 8)]) rfl sc_law_hidden.nd (di_range1 (by rfl) T.range (da_cons (d_callB c_len (by rfl) T.len (by decide +kernel) (da_cons (dv (pv 1)) da_nil)) da_nil)) (blkOk_by (N := n_law_hidden) (sc := defScope s_law_hidden) (by decide +kernel)) (fun _ _ _ _ _ => (dgw_name (pg_name (i := 8) sc_law_hidden.nd rfl (by first | exact Or.inl rfl | exact Or.inr rfl)))) (fun _ _ _ _ _ => dts_nil) (fun _ _ _ _ _ => (d_dget hr (dv (pv 3)) (dv (pv 8)) (fun _ _ => rfl))))))))), ?_⟩
  rintro ds G P R ⟨q, E, d, n, rfl, hE, hd, hl, hT, p⟩
  have s2 : 2 ≤ sizeLine := by rw [sizeLine_eq]; decide
  have s4 : 4 ≤ sizeLine := by rw [sizeLine_eq]; decide
  simp [and_assoc, dRet, dRetN, dRetC, dChain, r2I, dC, dVar, dEnds, dstart, dOp, dCB, DL.rLen, dCons, dNil, dFld, asL_lst, asQ_lst, asQ_tup, asQ_scr, ins_obj, dNever, dgN, dgNil, dgCons, dgTup, dIf, dNot, dAnd, dOr, dB, dCall, dMeth, dNext, dSeq, dSt, dLst, dTup, dIfE, rIxQ, dDrop, dYes, diL, diR1, diR2, dNeg, dAsg, dwipe, dBM, dBM0, rAppendD, rMin2, rMax2, atI_0, atI_1, atI_2, atI_3, ix4_0, ix4_1, ix4_3, asL_g, asQ_g, now_g, gupd_same, gupd_gupd, Int.ofNat_inj, now_lst, now_int, now_tup, asL_lst, natsD_length, rdD_length, vilD_inj, vil_ins, natsD_inj, rdD_inj, nnD_inj, n_law_hidden, dDict]
  refine ⟨q, 4, n + 199, rfl, by decide, by decide, hT, fun lot G1 hlot hT1 hx1 => ?_⟩
  simp [and_assoc, dRet, dRetN, dRetC, dChain, r2I, dC, dVar, dEnds, dstart, dOp, dCB, DL.rLen, dCons, dNil, dFld, asL_lst, asQ_lst, asQ_tup, asQ_scr, ins_obj, dNever, dgN, dgNil, dgCons, dgTup, dIf, dNot, dAnd, dOr, dB, dCall, dMeth, dNext, dSeq, dSt, dLst, dTup, dIfE, rIxQ, dDrop, dYes, diL, diR1, diR2, dNeg, dAsg, dwipe, dBM, dBM0, rAppendD, rMin2, rMax2, atI_0, atI_1, atI_2, atI_3, ix4_0, ix4_1, ix4_3, asL_g, asQ_g, now_g, gupd_same, gupd_gupd, Int.ofNat_inj, now_lst, now_int, now_tup, asL_lst, natsD_length, rdD_length, vilD_inj, vil_ins, natsD_inj, rdD_inj, nnD_inj, dDict]
  intro fa hfa
  simp [and_assoc, dRet, dRetN, dRetC, dChain, r2I, dC, dVar, dEnds, dstart, dOp, dCB, DL.rLen, dCons, dNil, dFld, asL_lst, asQ_lst, asQ_tup, asQ_scr, ins_obj, dNever, dgN, dgNil, dgCons, dgTup, dIf, dNot, dAnd, dOr, dB, dCall, dMeth, dNext, dSeq, dSt, dLst, dTup, dIfE, rIxQ, dDrop, dYes, diL, diR1, diR2, dNeg, dAsg, dwipe, dBM, dBM0, rAppendD, rMin2, rMax2, atI_0, atI_1, atI_2, atI_3, ix4_0, ix4_1, ix4_3, dFor]
  have hfo : ¬ Pown q fa := potSrc.fresh hT1 hfa
  have hfa0 : G fa = none := by
    cases e : G fa with
    | none => rfl
    | some m => rw [hx1 fa m hfo e] at hfa; cases hfa
  refine ⟨q, E, d, n + 198, rfl, by omega, potSrc.put hT1 hfo, fun root os G2 hroot ho hT2 hx2 => ?_⟩
  have hf2 : G2 fa = some (.dK (kvN [])) := hx2 fa _ hfo gupd_same
  have hx02 : OExt (Pown q) G G2 := (hx1.put hfa0).trans hx2
  refine ⟨_, rfl, fun i δ G' => ∃ l o4 o5 o6 o7 o8 o9, δ = [some (.ref q), some (.lst (nnD (vilOf E d).far)), some (.int (lot : Int)), some (.ref fa), o4, o5, o6, o7, o8, o9] ∧ G' fa = some (.dK (kvN l)) ∧ Pot q G' (n + 198 - 3 * i) ∧ OExt (Pown q) G G' ∧ Hid E d root os i l, ⟨[], _, _, _, _, _, _, rfl, hf2, hT2, hx02, ⟨by simp, by simp, fun j h p hj => absurd hj (Nat.not_lt_zero j)⟩⟩, ?_, ?_⟩
  · rintro i dd δ G3 hdd ⟨l, o4, o5, o6, o7, o8, o9, rfl, hf3, hT3, hx3, hH⟩
    unfold ordD at hdd
    rw [List.getElem?_map] at hdd
    obtain ⟨h, hh, rfl⟩ := Option.map_eq_some_iff.mp hdd
    have hhn := ho.lt (List.mem_of_getElem? hh)
    have hi40 : i < 40 := by
      have := (List.getElem?_eq_some_iff.mp hh).1
      rw [ho.len] at this; omega
    generalize hA : aheadOf E d root h = A
    obtain ⟨F, hF, hFn⟩ : ∃ F : Nat, (∀ a, A[0]? = some a → lookN l a = some F) ∧ F < E.length + 1 := by
      cases e : A[0]? with
      | none => exact ⟨0, And.intro (fun a h => absurd h (by simp)) (Nat.succ_pos _)⟩
      | some a =>
        rw [← hA] at e
        obtain ⟨v, h1, h2⟩ := hH.ahead ho hh e
        exact ⟨v, fun b hb => by cases hb; exact h1, h2⟩
    refine ⟨_, rfl, rfl, _, _, rfl, _, _, rfl, rfl, ?_⟩
    refine dLcP_intro (natsD (List.range (E.length + 1))) (natT fun k => decide (A = []) || decide (d k F < 2)) id (fun P p => ?_) (by rw [natsD_length, List.length_range]; exact small1000 (by omega)) (fun z G' hz hG => ?_) ?_
    · simp [and_assoc, dRet, dRetN, dRetC, dChain, r2I, dC, dVar, dEnds, dstart, dOp, dCB, DL.rLen, dCons, dNil, dFld, asL_lst, asQ_lst, asQ_tup, asQ_scr, ins_obj, dNever, dgN, dgNil, dgCons, dgTup, dIf, dNot, dAnd, dOr, dB, dCall, dMeth, dNext, dSeq, dSt, dLst, dTup, dIfE, rIxQ, dDrop, dYes, diL, diR1, diR2, dNeg, dAsg, dwipe, dBM, dBM0, rAppendD, rMin2, rMax2, atI_0, atI_1, atI_2, atI_3, ix4_0, ix4_1, ix4_3, asL_g, asQ_g, now_g, gupd_same, gupd_gupd, Int.ofNat_inj, now_lst, now_int, now_tup, asL_lst, natsD_length, rdD_length, vilD_inj, vil_ins, natsD_inj, rdD_inj, nnD_inj, far_len]
      rw [upto0]
      exact ⟨by omega, p⟩
    · obtain ⟨y, hy, rfl⟩ := natsD_mem hz
      have hy1 := List.mem_range.mp hy
      simp [and_assoc, dRet, dRetN, dRetC, dChain, r2I, dC, dVar, dEnds, dstart, dOp, dCB, DL.rLen, dCons, dNil, dFld, asL_lst, asQ_lst, asQ_tup, asQ_scr, ins_obj, dNever, dgN, dgNil, dgCons, dgTup, dIf, dNot, dAnd, dOr, dB, dCall, dMeth, dNext, dSeq, dSt, dLst, dTup, dIfE, rIxQ, dDrop, dYes, diL, diR1, diR2, dNeg, dAsg, dwipe, dBM, dBM0, rAppendD, rMin2, rMax2, atI_0, atI_1, atI_2, atI_3, ix4_0, ix4_1, ix4_3, asL_g, asQ_g, now_g, gupd_same, gupd_gupd, Int.ofNat_inj, now_lst, now_int, now_tup, asL_lst, natsD_length, rdD_length, vilD_inj, vil_ins, natsD_inj, rdD_inj, nnD_inj, natT]
      refine rEqP_nats (b := []) ?_
      by_cases e1 : A = []
      · subst e1
        simp
      · obtain ⟨a, ha⟩ : ∃ a, A[0]? = some a := by
          cases A with
          | nil => exact absurd rfl e1
          | cons a A => exact ⟨a, rfl⟩
        have hat : atI (natsD A) 0 = some (.int (a : Int)) := atI_nats (i := 0) ha
        simp [and_assoc, dRet, dRetN, dRetC, dChain, r2I, dC, dVar, dEnds, dstart, dOp, dCB, DL.rLen, dCons, dNil, dFld, asL_lst, asQ_lst, asQ_tup, asQ_scr, ins_obj, dNever, dgN, dgNil, dgCons, dgTup, dIf, dNot, dAnd, dOr, dB, dCall, dMeth, dNext, dSeq, dSt, dLst, dTup, dIfE, rIxQ, dDrop, dYes, diL, diR1, diR2, dNeg, dAsg, dwipe, dBM, dBM0, rAppendD, rMin2, rMax2, atI_0, atI_1, atI_2, atI_3, ix4_0, ix4_1, ix4_3, asL_g, asQ_g, now_g, gupd_same, gupd_gupd, Int.ofNat_inj, now_lst, now_int, now_tup, asL_lst, natsD_length, rdD_length, vilD_inj, vil_ins, natsD_inj, rdD_inj, nnD_inj, e1, atI_far hy1, hat, dDGet]
        refine ⟨l, hG _ _ hf3, F, hF a ha, _, atI_row hFn, ?_⟩
        simp
        omega
    rw [List.map_id, natT_filter]
    generalize hS : ((List.range (E.length + 1)).filter fun k => decide (A = []) || decide (d k F < 2)) = S
    have hSl : S.length ≤ E.length + 1 := by
      rw [← hS]
      refine Nat.le_trans (List.length_filter_le _ _) ?_
      rw [List.length_range]; exact Nat.le_refl _
    have hSm : ∀ k ∈ S, k < E.length + 1 ∧ (A ≠ [] → d k F ≤ 1) := fun k hk => by
      rw [← hS] at hk
      obtain ⟨h1, h2⟩ := List.mem_filter.mp hk
      rw [Bool.or_eq_true, decide_eq_true_eq, decide_eq_true_eq] at h2
      exact ⟨List.mem_range.mp h1, fun z => by rcases h2 with h2 | h2; exact absurd h2 z; omega⟩
    have hSp : 0 < S.length := by
      refine List.length_pos_of_mem (a := F) ?_
      rw [← hS]
      refine List.mem_filter.mpr ⟨List.mem_range.mpr hFn, ?_⟩
      rw [d_self hd hFn]
      simp
    simp [and_assoc, dRet, dRetN, dRetC, dChain, r2I, dC, dVar, dEnds, dstart, dOp, dCB, DL.rLen, dCons, dNil, dFld, asL_lst, asQ_lst, asQ_tup, asQ_scr, ins_obj, dNever, dgN, dgNil, dgCons, dgTup, dIf, dNot, dAnd, dOr, dB, dCall, dMeth, dNext, dSeq, dSt, dLst, dTup, dIfE, rIxQ, dDrop, dYes, diL, diR1, diR2, dNeg, dAsg, dwipe, dBM, dBM0, rAppendD, rMin2, rMax2, atI_0, atI_1, atI_2, atI_3, ix4_0, ix4_1, ix4_3, dLcP]
    refine ⟨by rw [natsD_length]; exact small1000 (by omega), fun _ => true, natF fun k => pairD ((d h k : Int), (k : Int)), fun z G' hz hG => ?_, ?_⟩
    · obtain ⟨y, hy, rfl⟩ := natsD_mem hz
      exact ⟨rfl, _, atI_far hhn, _, _, rfl, rfl, _, atI_row (hSm y hy).1, s2, rfl⟩
    rw [filt_true, natF_map]
    have e1 : (S.map fun k => pairD ((d h k : Int), (k : Int))) = (S.map fun k => ((d h k : Int), (k : Int))).map pairD := by rw [List.map_map]; rfl
    rw [e1]
    refine ⟨_, _, rfl, asL_lst, fun ns h1 h2 => ?_⟩
    obtain ⟨S2, ho1, ho2, ho3⟩ := sort_by h1 h2
    rw [ho3]
    have hS2l := ho1.length_eq
    refine ⟨_, rfl, by rw [List.length_map]; exact small1000 (by omega), fun _ => true, (fun z => match z with | .tup [_, z] => z | z => z), fun z G' hz hG => ?_, ?_⟩
    · obtain ⟨y, hy, rfl⟩ := List.mem_map.mp hz
      exact ⟨_, rfl, rfl, _, _, rfl, _, _, rfl, rfl, rfl, rfl⟩
    have e2 : ((S2.map fun k => pairD ((d h k : Int), (k : Int))).filter fun _ => true).map (fun z => match z with | .tup [_, z] => z | z => z) = natsD S2 := by
      rw [filt_true]
      simp [natsD, pairD]
    have e3 : ((S2.map fun k => pairD ((d h k : Int), (k : Int))).filter fun _ => true).length = S2.length := by rw [filt_true, List.length_map]
    rw [e2, e3]
    refine ⟨q, S2.length, n + 198 - 3 * i - 1, rfl, by omega, by omega, hT3.mono (by omega), fun r1 G4 hr1 hT4 hx4 => ?_⟩
    refine ⟨q, S2.length, n + 198 - 3 * i - 2, rfl, by omega, by omega, hT4.mono (by omega), fun r2 G5 hr2 hT5 hx5 => ?_⟩
    refine ⟨s4, ?_⟩
    simp [and_assoc, dRet, dRetN, dRetC, dChain, r2I, dC, dVar, dEnds, dstart, dOp, dCB, DL.rLen, dCons, dNil, dFld, asL_lst, asQ_lst, asQ_tup, asQ_scr, ins_obj, dNever, dgN, dgNil, dgCons, dgTup, dIf, dNot, dAnd, dOr, dB, dCall, dMeth, dNext, dSeq, dSt, dLst, dTup, dIfE, rIxQ, dDrop, dYes, diL, diR1, diR2, dNeg, dAsg, dwipe, dBM, dBM0, rAppendD, rMin2, rMax2, atI_0, atI_1, atI_2, atI_3, ix4_0, ix4_1, ix4_3, dDPut]
    refine ⟨q, 5, n + 198 - 3 * (i + 1), rfl, by decide, by decide, hT5.mono (by omega), fun r3 G6 hr3 hT6 hx6 => ?_⟩
    have hf6 : G6 fa = some (.dK (kvN l)) := hx6 fa _ hfo (hx5 fa _ hfo (hx4 fa _ hfo hf3))
    have spots : ∀ w : Nat, w < 4 → ∃ r : Nat, r < S2.length ∧ atI [Dt.int (r1 : Int), .int 0, .int ((S2.length : Int) - 1), .int (r2 : Int)] (w : Int) = some (.int (r : Int)) := by
      intro w hw
      match w, hw with
      | 0, _ => exact ⟨r1, hr1, by rw [show ((0 : Nat) : Int) = 0 from rfl, atI_0]⟩
      | 1, _ => exact ⟨0, by omega, by rw [show ((1 : Nat) : Int) = 1 from rfl, atI_1]; rfl⟩
      | 2, _ => exact ⟨S2.length - 1, by omega, by rw [show ((2 : Nat) : Int) = 2 from rfl, atI_2]; congr 2; omega⟩
      | 3, _ => exact ⟨r2, hr2, by rw [show ((3 : Nat) : Int) = 3 from rfl, atI_3]⟩
    have fin : ∀ r : Nat, r < S2.length → ∃ v : Nat, atI (natsD S2) (r : Int) = some (.int (v : Int)) ∧ Hid E d root os (i + 1) (l ++ [(h, v)]) := fun r hr => by
      have e := List.getElem?_eq_getElem hr
      have hv := hSm _ (ho1.mem_iff.mp (List.getElem_mem hr))
      refine ⟨S2[r], atI_nats e, hH.add ho hh hv.1 fun p u hp hu => ?_⟩
      rw [hA] at hp
      rw [hF p hp] at hu
      cases hu
      exact hv.2 fun z => by rw [z] at hp; cases hp
    have lsm : l.length < sizeLine := by
      have h3 : l.length = (os.take i).length := by rw [← hH.keys, List.length_map]
      rw [List.length_take] at h3
      exact small1000 (by omega)
    have hx6' : OExt (Pown q) G G6 := ((hx3.trans hx4).trans hx5).trans hx6
    have hT6' : ∀ m, Pot q (gupd G6 fa m) (n + 198 - 3 * (i + 1)) := fun m => potSrc.put hT6 hfo
    refine ⟨_, rfl, ?_⟩
    split
    · obtain ⟨r, hr1, hr2⟩ := spots lot hlot
      obtain ⟨v, hv1, hv2⟩ := fin r hr1
      exact ⟨_, hr2, _, _, rfl, rfl, _, hv1, l, hf6, h, rfl, v, rfl, hH.fresh ho hh, lsm, _, gupd_same, hT6' _, hx6'.put hfa0, hv2⟩
    · obtain ⟨v, hv1, hv2⟩ := fin r1 hr1
      exact ⟨_, hv1, l, hf6, h, rfl, v, rfl, hH.fresh ho hh, lsm, _, gupd_same, hT6' _, hx6'.put hfa0, hv2⟩
  · rintro δ G3 ⟨l, o4, o5, o6, o7, o8, o9, rfl, hf3, hT3, hx3, hH⟩
    have hol : (ordD E d root os).length = E.length + 1 := by unfold ordD; rw [List.length_map, ho.len]
    rw [hol] at hH hT3
    refine dLcP_intro (natsD (List.range (E.length + 1))) (fun _ => true) (natF fun k => .int (((lookN l k).getD 0 : Nat) : Int)) (fun P p => ?_) (by rw [natsD_length, List.length_range]; exact small1000 (by omega)) (fun z G' hz hG => ?_) ?_
    · simp [and_assoc, dRet, dRetN, dRetC, dChain, r2I, dC, dVar, dEnds, dstart, dOp, dCB, DL.rLen, dCons, dNil, dFld, asL_lst, asQ_lst, asQ_tup, asQ_scr, ins_obj, dNever, dgN, dgNil, dgCons, dgTup, dIf, dNot, dAnd, dOr, dB, dCall, dMeth, dNext, dSeq, dSt, dLst, dTup, dIfE, rIxQ, dDrop, dYes, diL, diR1, diR2, dNeg, dAsg, dwipe, dBM, dBM0, rAppendD, rMin2, rMax2, atI_0, atI_1, atI_2, atI_3, ix4_0, ix4_1, ix4_3, asL_g, asQ_g, now_g, gupd_same, gupd_gupd, Int.ofNat_inj, now_lst, now_int, now_tup, asL_lst, natsD_length, rdD_length, vilD_inj, vil_ins, natsD_inj, rdD_inj, nnD_inj, far_len]
      rw [upto0]
      exact ⟨by omega, p⟩
    · obtain ⟨y, hy, rfl⟩ := natsD_mem hz
      obtain ⟨v, hv, _⟩ := hH.look ho (List.mem_range.mp hy)
      simp [and_assoc, dRet, dRetN, dRetC, dChain, r2I, dC, dVar, dEnds, dstart, dOp, dCB, DL.rLen, dCons, dNil, dFld, asL_lst, asQ_lst, asQ_tup, asQ_scr, ins_obj, dNever, dgN, dgNil, dgCons, dgTup, dIf, dNot, dAnd, dOr, dB, dCall, dMeth, dNext, dSeq, dSt, dLst, dTup, dIfE, rIxQ, dDrop, dYes, diL, diR1, diR2, dNeg, dAsg, dwipe, dBM, dBM0, rAppendD, rMin2, rMax2, atI_0, atI_1, atI_2, atI_3, ix4_0, ix4_1, ix4_3, asL_g, asQ_g, now_g, gupd_same, gupd_gupd, Int.ofNat_inj, now_lst, now_int, now_tup, asL_lst, natsD_length, rdD_length, vilD_inj, vil_ins, natsD_inj, rdD_inj, nnD_inj, dDGet, natF, hv]
      exact ⟨l, hG _ _ hf3, hv⟩
    · rw [filt_true, natF_map]
      have := p (storyOf (E.length + 1) l) G3 (hH.tale ho hE hd hroot) (hT3.mono (by omega)) hx3
      unfold natsD storyOf at this
      rw [List.map_map] at this
      exact this
end
end V

set_option Elab.async false
set_option linter.all false
set_option maxRecDepth 100000
set_option maxHeartbeats 1000000
namespace DL
open PySem PySem.Spec L2
section
variable {X : Cx} {B : Hp}
theorem dpAll_bls {K : PySem.W.Frag} {H : Hp} : ∀ bs : List Bool, DpAll K H (bs.map V.bl) (bs.map PyData.bool)
  | [] => .nil
  | b :: bs => .cons (.bl b) (dpAll_bls bs)
theorem eqvAll_bls : ∀ bs cs : List Bool, PyData.eqvAll (bs.map PyData.bool) (cs.map PyData.bool) = decide (bs = cs)
  | [], [] => by simp [PyData.eqvAll]
  | [], _ :: _ => by simp [PyData.eqvAll]
  | _ :: _, [] => by simp [PyData.eqvAll]
  | b :: bs, c :: cs => by
    have ih := eqvAll_bls bs cs
    simp only [List.map_cons, PyData.eqvAll, PyData.eqv, ih]
    rw [Bool.eq_iff_iff]
    simp
theorem lay_bls : ∀ bs : List Bool, PyData.canLayAll0 (bs.map PyData.bool) = true ∧ PyData.depthAll (bs.map PyData.bool) ≤ 0
  | [] => by simp [PyData.canLayAll0, PyData.depthAll]
  | b :: bs => by
    obtain ⟨h1, h2⟩ := lay_bls bs
    simp only [List.map_cons, PyData.canLayAll0, PyData.depthAll, PyData.canLay0, PyData.depth, h1]
    simp
    omega
theorem shaped_bls (bs : List Bool) : SeqAt.shaped (.list (bs.map PyData.bool)) = true := by
  obtain ⟨h1, h2⟩ := lay_bls bs
  unfold SeqAt.shaped
  simp only [PyData.canLay0, PyData.depth, h1, Bool.true_and]
  exact decide_eq_true (by omega)
/-- lists of truths -/
def rEqBs (neg : Bool) : DR2 := fun x y G P => ∃ bs cs : List Bool, asL G x = some (bs.map Dt.bl) ∧ asL G y = some (cs.map Dt.bl) ∧ P (.bl (neg != decide (bs = cs))) G
theorem o_eqBs {k : Nat} (hr : Room k X.A) : DOp X B (compareOp .Eq) (rEqBs false) := ⟨_, op_eqD hr.units, fun F G H v w x y P Q g rx ry ⟨bs, cs, h1, h2, p⟩ c => by
  obtain ⟨q, ws, rfl, e, r⟩ := asL_is g rx h1
  obtain ⟨q', ws', rfl, e', r'⟩ := asL_is g ry h2
  cases r.bls_inv
  cases r'.bls_inv
  refine ⟨_, _, .lst (SqL.of e) (dpAll_bls bs), .lst (SqL.of e') (dpAll_bls cs), shaped_bls bs, shaped_bls cs, ?_⟩
  show Q (.bl (PyData.eqv (.list (bs.map PyData.bool)) (.list (cs.map PyData.bool)))) H
  rw [show PyData.eqv (.list (bs.map PyData.bool)) (.list (cs.map PyData.bool)) = PyData.eqvAll (bs.map PyData.bool) (cs.map PyData.bool) from by simp [PyData.eqv], eqvAll_bls]
  exact c _ G _ F H (by simpa using p) (Le.refl F) g (.bl _)⟩
theorem o_neBs {k : Nat} (hr : Room k X.A) : DOp X B (compareOp .NotEq) (rEqBs true) := ⟨_, op_neD hr.units, fun F G H v w x y P Q g rx ry ⟨bs, cs, h1, h2, p⟩ c => by
  obtain ⟨q, ws, rfl, e, r⟩ := asL_is g rx h1
  obtain ⟨q', ws', rfl, e', r'⟩ := asL_is g ry h2
  cases r.bls_inv
  cases r'.bls_inv
  refine ⟨_, _, .lst (SqL.of e) (dpAll_bls bs), .lst (SqL.of e') (dpAll_bls cs), shaped_bls bs, shaped_bls cs, ?_⟩
  show Q (.bl (!PyData.eqv (.list (bs.map PyData.bool)) (.list (cs.map PyData.bool)))) H
  rw [show PyData.eqv (.list (bs.map PyData.bool)) (.list (cs.map PyData.bool)) = PyData.eqvAll (bs.map PyData.bool) (cs.map PyData.bool) from by simp [PyData.eqv], eqvAll_bls]
  exact c _ G _ F H (by simpa using p) (Le.refl F) g (.bl _)⟩
end
section
variable {X : Cx} {B : Hp} {e a b o : Expr} {es : List Expr} {pos p apos : Pos} {to : DTE} {tl : DTA} {k : Nat} {C : Addr} {ps : List Str} {c : DSp} {x m : Str}
theorem d_frzMeth0 {j : Nat} {pl : Sem Bool} (he : DE X B o to) (cl : Cls X.K C) (D : Dmt X.prog X.w X.K X.mg X.base CX0 C m ps c k) (hr : Room j X.A) (hj : k ≤ j := by decide)
    (ht : eval (.Call (.Attribute o m apos) [] [] pos) X.env = (do
      let ov ← eval o X.env
      standAt apos.atName
      let (f, first) ← holding [ov] (getMethod ov m pl)
      callWith pos f first (backTo pos (starEach [] X.env)) (backToKw pos (keywordEach [] X.env))) := by rfl) :
    DE X B (.Call (.Attribute o m apos) [] [] pos) (dFrz (dMeth C m c noX to dNil)) := d_frz (d_methD0 he cl D hr hj ht)
end
end DL

set_option Elab.async false
set_option linter.all false
set_option maxRecDepth 100000
set_option maxHeartbeats 4000000
/-! movedays.tales: is_tale. -/
namespace V
open PySem PySem.Spec L2 DL
/-- a village that is a tree -/
structure TV0 (E : List (Nat × Nat)) (d : Nat → Nat → Nat) : Prop where
  t : Tree E
  d : Dists E d
  l : E.length ≤ 399
theorem TV0.ok {E : List (Nat × Nat)} {d : Nat → Nat → Nat} (h : TV0 E d) : Vok (vilOf E d) := vilOf_ok h.l h.d
theorem gdel_gupd1 {G : Gp} {p : Addr} {m : MO} (h : G p = none) : gdel (gupd G p m) p = G := by
  funext a
  by_cases e : a = p
  · rw [e, h]; simp [gdel]
  · rw [gdel_ne e, gupd_ne e]
/-- next doors of a village's told roads -/
theorem inOrd_lt {E : List (Nat × Nat)} (h : Tree E) {p : Nat × Nat} (hp : p ∈ inOrd E) : p.1 < E.length + 1 ∧ p.2 < E.length + 1 := by
  have : Adj E p.1 p.2 := inOrd_adj.mp (.inl hp)
  exact adj_lt h this
theorem tale_roads {E : List (Nat × Nat)} {d : Nat → Nat → Nat} (h : Tree E) (hd : Dists E d) {st : List Nat} (hl : st.length = E.length + 1) (hlt : ∀ x ∈ st, x < E.length + 1) : ((inOrd E).all fun p => decide (d (st.getD p.1 0) (st.getD p.2 0) ≤ 1)) = true ↔ Tale E d st := by
  rw [List.all_eq_true]
  have at_ : ∀ {x : Nat}, x < E.length + 1 → st.getD x 0 < E.length + 1 := fun {x} hx => by
    have h : x < st.length := by omega
    have e : st.getD x 0 = st[x] := by simp [List.getD, h]
    rw [e]; exact hlt _ (List.getElem_mem h)
  constructor
  · intro hall
    refine ⟨hl, hlt, fun x y a => ?_⟩
    rcases inOrd_adj.mpr a with q | q
    · exact of_decide_eq_true (hall _ q)
    · have := of_decide_eq_true (hall _ q)
      rw [d_symm h hd (at_ (adj_lt h a).1) (at_ (adj_lt h a).2)]
      exact this
  · intro t p hp
    exact decide_eq_true (t.adj p.1 p.2 (inOrd_adj.mp (.inl hp)))
/-- a test, a function on pairs of numbers -/
def npT (p : Nat × Nat → Bool) : Dt → Bool
  | .tup [.int x, .int y] => p (x.toNat, y.toNat)
  | _ => false
def npF (f : Nat × Nat → Dt) : Dt → Dt
  | .tup [.int x, .int y] => f (x.toNat, y.toNat)
  | d => d
theorem npF_np (f : Nat × Nat → Dt) (p : Nat × Nat) : npF f (npD p) = f p := rfl
theorem npF_map (f : Nat × Nat → Dt) (l : List (Nat × Nat)) : (rdD l).map (npF f) = l.map f := by
  unfold rdD
  rw [List.map_map]
  rfl
theorem npT_filter (p : Nat × Nat → Bool) (l : List (Nat × Nat)) : (rdD l).filter (npT p) = rdD (l.filter p) := by
  unfold rdD
  rw [List.filter_map]
  rfl
section
variable {P : Program} {w : World} {K : PySem.W.Frag} {mg : Str → Option Value} {base : Heap} {C : Addr}
end
end V

set_option Elab.async false
set_option linter.all false
set_option maxRecDepth 100000
set_option maxHeartbeats 1000000
/-! A pair in a list of pairs. -/
namespace V
open PySem PySem.Spec L2 DL
theorem pl_np (p : Nat × Nat) : pl 8 (npD p) = true := by simp [pl, npD, pairD]
theorem any_rows (p : Nat × Nat) (l : List (Nat × Nat)) : ((rdD l).map (toPy 8)).any (fun z => PyData.eqv z (toPy 8 (npD p))) = decide (p ∈ l) := by
  induction l with
  | nil => simp [rdD]
  | cons q l ih =>
    show (((npD q) :: rdD l).map (toPy 8)).any _ = _
    rw [List.map_cons, List.any_cons, ih, Bool.eq_iff_iff, Bool.or_eq_true, pl_eqv 8 (pl_np q) (pl_np p), npD_inj, decide_eq_true_eq, decide_eq_true_eq, List.mem_cons]
    exact or_congr_left ⟨Eq.symm, Eq.symm⟩
section
variable {X : Cx} {B : Hp}
def rMemP (neg : Bool) : DR2 := fun x y G P => ∃ (p : Nat × Nat) (l : List (Nat × Nat)), x = npD p ∧ asL G y = some (rdD l) ∧ P (.bl (neg != decide (p ∈ l))) G
theorem dpAll_rows {K : PySem.W.Frag} {F H : Hp} (le : ∀ a o, F a = some o → notM o = true → H a = some o) : ∀ {vs : List V} {l : List (Nat × Nat)}, IsL K F vs (rdD l) → DpAll K H vs ((rdD l).map (toPy 8))
  | _, [], h => by cases h; exact .nil
  | _, q :: l, h => by
    cases h with
    | cons a b => exact .cons (pl_is le 8 (pl_np q) a) (dpAll_rows le b)
theorem mem_rows {F : Hp} {G : Gp} {H : Hp} {v w : V} {x y : Dt} {p : Nat × Nat} {l : List (Nat × Nat)} (g : Good X.K B F G H) (rx : Is X.K F v x) (ry : Is X.K F w y) (e : x = npD p) (h : asL G y = some (rdD l)) :
    Dp X.K H v (toPy 8 (npD p)) ∧ Dp X.K H w (.list ((rdD l).map (toPy 8))) ∧ SeqAt.shaped (toPy 8 (npD p)) = true ∧ SeqAt.shaped (.list ((rdD l).map (toPy 8))) = true := by
  subst e
  obtain ⟨q, ws, rfl, e2, r⟩ := asL_is g ry h
  refine ⟨pl_is g.fz0 8 (pl_np p) rx, .lst (SqL.of e2) (dpAll_rows g.fz0 r), pl_shaped (by decide) (pl_np p), ?_⟩
  exact pl_shaped (n := 9) (d := .lst (rdD l)) (by decide) (pl_rows l)
theorem o_inP {k : Nat} (hr : Room k X.A) : DOp X B (compareOp .In) (rMemP false) := ⟨_, op_inD (by have := hr.un; omega), fun F G H v w x y P Q g rx ry ⟨p, l, e, h, q⟩ c => by
  obtain ⟨h1, h2, h3, h4⟩ := mem_rows g rx ry e h
  refine ⟨_, _, h1, h2, h3, h4, ?_⟩
  rw [any_rows]
  exact c _ G _ F H (by simpa using q) (Le.refl F) g (.bl _)⟩
theorem o_ninP {k : Nat} (hr : Room k X.A) : DOp X B (compareOp .NotIn) (rMemP true) := ⟨_, op_notInD (by have := hr.un; omega), fun F G H v w x y P Q g rx ry ⟨p, l, e, h, q⟩ c => by
  obtain ⟨h1, h2, h3, h4⟩ := mem_rows g rx ry e h
  refine ⟨_, _, h1, h2, h3, h4, ?_⟩
  rw [any_rows]
  exact c _ G _ F H (by simpa using q) (Le.refl F) g (.bl _)⟩
end
end V

set_option Elab.async false
set_option linter.all false
set_option maxRecDepth 100000
set_option maxHeartbeats 4000000
/-! movedays.reports: the class Reports. -/
namespace V
open PySem PySem.Spec L2 DL
def rN : List Str := ["_village", "_heard"]
/-- what the texts ask of the class Reports at D -/
structure TR (K : PySem.W.Frag) (mg : Str → Option Value) (C D : Addr) : Prop extends TV K mg C where
  clR : Cls K D
  n_village : NoAttr K D "_village"
  n_heard : NoAttr K D "_heard"
  mgReports : mg "Reports" = some (.ref D)
theorem rN_v {a b : Dt} : dlook rN [a, b] "_village" = some a := by simp only [rN, dlook, if_true]
theorem rN_h {a b : Dt} : dlook rN [a, b] "_heard" = some b := by
  have h : ("_heard" : Str) ≠ "_village" := by decide +kernel
  simp only [rN, dlook, if_neg h, if_true]
theorem rN_put1 {d : Dt} : dput "_village" d [] [] = ([("_village" : Str)], [d]) := rfl
theorem rN_put2 {d e : Dt} : dput "_heard" e [("_village" : Str)] [d] = (rN, [d, e]) := by
  have h : ("_village" : Str) ≠ "_heard" := by decide +kernel
  simp only [dput, if_neg h, rN]
theorem rN_put3 {d e f : Dt} : dput "_heard" f rN [d, e] = (rN, [d, f]) := by
  have h : ("_village" : Str) ≠ "_heard" := by decide +kernel
  simp only [rN, dput, if_neg h, if_true]
theorem rm (m : Str) (h : m ∉ rN := by decide +kernel) : m ∉ rN := h
/-- the reports at p: of the village of E, heard H -/
def Rep (D C : Addr) (E : List (Nat × Nat)) (d : Nat → Nat → Nat) (H : List (Nat × Nat)) (G : Gp) (p : Addr) : Prop := G p = some (.ins D rN [vilD C (vilOf E d), .lst (rdD H)])
theorem rep_ins {D C : Addr} {E : List (Nat × Nat)} {d : Nat → Nat → Nat} {H : List (Nat × Nat)} {G : Gp} {p : Addr} (h : Rep D C E d H G p) : insOf G (.ref p) = some (D, rN, [vilD C (vilOf E d), .lst (rdD H)]) := ins_ref h
def repM (D C : Addr) (E : List (Nat × Nat)) (d : Nat → Nat → Nat) (H : List (Nat × Nat)) : MO := .ins D rN [vilD C (vilOf E d), .lst (rdD H)]
/-- in the order of tuples -/
def sortP (l : List (Nat × Nat)) : List (Nat × Nat) := l.mergeSort leNB
theorem sortP_perm (l : List (Nat × Nat)) : (sortP l).Perm l := List.mergeSort_perm _ _
theorem sortP_up (l : List (Nat × Nat)) : (sortP l).Pairwise leN := by
  have := List.pairwise_mergeSort (le := leNB) (fun a b c h1 h2 => by
    rw [leNB_iff] at *
    simp only [leN] at *
    omega) (fun a b => by
    rw [Bool.or_eq_true, leNB_iff, leNB_iff]
    simp only [leN]
    omega) l
  exact this.imp fun {a b} h => leNB_iff.mp h
theorem sortP_uniq {l r : List (Nat × Nat)} (hp : r.Perm l) (hs : r.Pairwise leN) : r = sortP l :=
  List.Perm.eq_of_pairwise (fun p q _ _ h1 h2 => leN_anti h1 h2) hs (sortP_up l) (hp.trans (sortP_perm l).symm)
theorem sortP_congr {l r : List (Nat × Nat)} (hp : l.Perm r) : sortP l = sortP r := sortP_uniq ((sortP_perm l).trans hp) (sortP_up l)
theorem sort_rows {l : List (Nat × Nat)} {ns : List (Int × Int)} (h1 : ns.Perm (l.map fun p => ((p.1 : Int), (p.2 : Int)))) (h2 : ns.Pairwise leP) : ns.map pairD = rdD (sortP l) := by
  have e1 : ns = (ns.map fun q => (q.1.toNat, q.2.toNat)).map fun p => ((p.1 : Int), (p.2 : Int)) := by
    rw [List.map_map]
    refine (List.map_id' ns).symm.trans (List.map_congr_left fun q hq => ?_)
    obtain ⟨z, _, rfl⟩ := List.mem_map.mp (h1.mem_iff.mp hq)
    simp
  have e2 : (ns.map fun q => (q.1.toNat, q.2.toNat)) = sortP l := by
    refine sortP_uniq ?_ ?_
    · have := h1.map fun q => (q.1.toNat, q.2.toNat)
      rw [List.map_map] at this
      refine this.trans (.of_eq ?_)
      refine (List.map_congr_left fun z _ => ?_).trans (List.map_id' _)
      simp
    · rw [e1] at h2
      refine (List.pairwise_map.mp h2).imp fun {a b} h => ?_
      simp only [leP, leN] at h ⊢
      omega
  rw [e1, e2]
  simp [rdD, npD, Function.comp_def]
theorem rEqP_np {neg : Bool} {a b : Nat × Nat} {G : Gp} {P : DK} (p : P (.bl (neg != decide (a = b))) G) : rEqP neg (npD a) (npD b) G P :=
  rEqP_of _ (by simp [npD, pairD, now, asL, pl]) (by simp [npD, pairD, now, asL, pl]) (by
    have h : ∀ c : Nat × Nat, now G (npD c) = npD c := fun c => rfl
    rw [h, h, decide_eq_true_eq, npD_inj]) p
/-- a report more -/
def tellH (H : List (Nat × Nat)) (r : Nat × Nat) : List (Nat × Nat) := if r ∈ H then H else sortP (H ++ [r])
theorem gupd_self {G : Gp} {p : Addr} {m : MO} (h : G p = some m) : gupd G p m = G := by
  funext a
  by_cases e : a = p
  · rw [e, h]; exact gupd_same
  · exact gupd_ne e
theorem inOrd_tree {E : List (Nat × Nat)} (h : Tree E) : Tree (inOrd E) ∧ inOrd (inOrd E) = inOrd E := by
  have key : ∀ p ∈ E.map norm, p.1 ≤ p.2 := fun p hp => by
    obtain ⟨q, _, rfl⟩ := List.mem_map.mp hp
    simp only [norm]; omega
  have h1 : (inOrd E).map norm = inOrd E := by
    refine (List.map_congr_left fun p hp => ?_).trans (List.map_id' _)
    have := key p ((inOrd_perm E).mem_iff.mp hp)
    simp only [norm, Nat.min_eq_left this, Nat.max_eq_right this]
  refine ⟨?_, (inOrd_uniq (E := inOrd E) (R := inOrd E) (by rw [h1]) (inOrd_sorted E)).symm⟩
  refine ⟨fun p hp => ?_, fun x hx => ?_⟩
  · rw [inOrd_length]
    exact inOrd_lt h hp
  · rw [inOrd_length] at hx
    exact (h.con x hx).mono fun p hp => norm_mem hp
theorem TV0.ord {E : List (Nat × Nat)} {d : Nat → Nat → Nat} (h : TV0 E d) : TV0 (inOrd E) d ∧ vilOf (inOrd E) d = vilOf E d := by
  obtain ⟨h1, h2⟩ := inOrd_tree h.t
  refine ⟨⟨h1, ⟨fun x hx => ?_⟩, by rw [inOrd_length]; exact h.l⟩, ?_⟩
  · rw [inOrd_length] at hx ⊢
    rw [h2]
    exact h.d.at_ x hx
  · unfold vilOf
    rw [h2, inOrd_length]
theorem atI_far0 {E : List (Nat × Nat)} {d : Nat → Nat → Nat} {x : Nat} (hx : x < E.length + 1) : atI (nnD (vilOf E d).far) (x : Int) = some (.lst (natsD ((List.range (E.length + 1)).map (d x)))) := atI_nn (by simp [vilOf, hx])
section
variable {P : Program} {w : World} {K : PySem.W.Frag} {mg : Str → Option Value} {base : Heap} {C D : Addr}
abbrev s_V_far : Stmt := inClass (top 22) 7
abbrev n_V_far : List Str := ["self", "x"]
abbrev p_V_far : List Str := ["self", "x"]
theorem sc_V_far : FnScope n_V_far p_V_far (defScope s_V_far) := ⟨rfl, rfl, rfl, by decide +kernel, rfl, by decide +kernel, by decide +kernel⟩
def c_vfar (C : Addr) : DSp := fun ds G P _ => ∃ (E : List (Nat × Nat)) (d : Nat → Nat → Nat) (x : Nat), ds = [vilD C (vilOf E d), .int (x : Int)] ∧ TV0 E d ∧ x < E.length + 1 ∧ P (.lst (natsD ((List.range (E.length + 1)).map (d x)))) G
theorem ok_vfar (T : TV K mg C) (TM : TopMt K C "far" "Village.far" s_V_far p_V_far) (D_need_houses : Dfn P w K mg base CX0 "need_houses" p_need_houses (c_need C) 2) (M__far : Dmt P w K mg base CX0 C "_far" p_V_farOf (c_vf C) 2) : Dmt P w K mg base CX0 C "far" p_V_far (c_vfar C) 3 := by
  refine dmt_of TM sc_V_far (fun ds G P R ⟨E, d, x, e, _⟩ => by rw [e]; rfl) fun f cdv A outer s H E B hr => ?_
  refine ⟨_, (dss_cons (ds_expr (d_callD D_need_houses hr (by rfl) (da_cons (dv (pv 0)) (da_cons (d_lst (da_cons (dv (pv 1)) da_nil)) da_nil))))
      (dss_one (ds_ret (d_callTy c_list (by rfl) T.list (by decide +kernel) (da_cons (d_methD (dv (pv 0)) T.cl M__far hr (da_cons (dv (pv 1)) da_nil)) da_nil))))), ?_⟩
  rintro ds G P R ⟨E, d, x, rfl, hE, hx, p⟩
  have hn : (vilOf E d).n = E.length + 1 := vilOf_n E d
  simp [and_assoc, dRet, dRetN, dRetC, dChain, r2I, dC, dVar, dEnds, dstart, dOp, dCB, DL.rLen, dCons, dNil, dFld, asL_lst, asQ_lst, asQ_tup, asQ_scr, ins_obj, dNever, dgN, dgNil, dgCons, dgTup, dIf, dNot, dAnd, dOr, dB, dCall, dMeth, dNext, dSeq, dSt, dLst, dTup, dIfE, rIxQ, dDrop, dYes, diL, diR1, diR2, dNeg, dAsg, dwipe, dBM, dBM0, rAppendD, rMin2, rMax2, atI_0, atI_1, atI_2, atI_3, ix4_0, ix4_1, ix4_3, asL_g, asQ_g, now_g, gupd_same, gupd_gupd, Int.ofNat_inj, now_lst, now_int, now_tup, asL_lst, natsD_length, rdD_length, vilD_inj, vil_ins, natsD_inj, rdD_inj, nnD_inj, n_V_far, c_need, c_vf, rList, mh "_far", hn]
  have e : (List.range (E.length + 1)).map ((vilOf E d).d x) = (List.range (E.length + 1)).map (d x) := List.map_congr_left fun y hy => vilOf_d hx (List.mem_range.mp hy)
  refine ⟨by decide, [(x : Int)], rfl, by simp; omega, hE.ok, hx, ?_⟩
  rw [e]; exact p
abbrev s_R_init : Stmt := inClass (top 25) 0
abbrev n_R_init : List Str := ["self", "village"]
abbrev p_R_init : List Str := ["self", "village"]
theorem sc_R_init : FnScope n_R_init p_R_init (defScope s_R_init) := ⟨rfl, rfl, rfl, by decide +kernel, rfl, by decide +kernel, by decide +kernel⟩
def c_rinit (C D : Addr) : DSp := fun ds G P _ => ∃ (p : Addr) (E : List (Nat × Nat)) (d : Nat → Nat → Nat), ds = [.ref p, vilD C (vilOf E d)] ∧ TV0 E d ∧ G p = some (.ins D [] []) ∧ P .non (gupd G p (repM D C E d []))
theorem rinit_at {f0 : Addr} {fd0 : FuncData} (T : TR K mg C D) (TM : Fun K "__init__" "Reports.__init__" s_R_init f0 fd0) (D_Village : Dmk P w K mg base CX0 C p_V_init (c_vinit C) 3) (M_roads : Dmt P w K mg base CX0 C "roads" p_V_roads (c_roads C) 1) : FnOk P w K mg base CX0 5 f0 fd0 p_R_init (toSp K (c_rinit C D)) := by
  refine d_ok TM sc_R_init (fun ds G P R ⟨p, E, d, e, _⟩ => by rw [e]; rfl) fun cdv A outer s H E B hr => ?_
  refine ⟨_, (dss_cons (ds_fld T.clR T.n_village (dv (pv 0)) (d_frzMake D_Village hr (by rfl) T.mgVillage (da_cons (d_frzMeth0 (dv (pv 1)) T.cl M_roads hr) da_nil)))
      (dss_one (ds_fld T.clR T.n_heard (dv (pv 0)) (d_lst da_nil)))), ?_⟩
  rintro ds G P R ⟨p0, E, d, rfl, hE, hp, p⟩
  obtain ⟨ho, ev⟩ := hE.ord
  simp [and_assoc, dRet, dRetN, dRetC, dChain, r2I, dC, dVar, dEnds, dstart, dOp, dCB, DL.rLen, dCons, dNil, dFld, asL_lst, asQ_lst, asQ_tup, asQ_scr, ins_obj, dNever, dgN, dgNil, dgCons, dgTup, dIf, dNot, dAnd, dOr, dB, dCall, dMeth, dNext, dSeq, dSt, dLst, dTup, dIfE, rIxQ, dDrop, dYes, diL, diR1, diR2, dNeg, dAsg, dwipe, dBM, dBM0, rAppendD, rMin2, rMax2, atI_0, atI_1, atI_2, atI_3, ix4_0, ix4_1, ix4_3, asL_g, asQ_g, now_g, gupd_same, gupd_gupd, Int.ofNat_inj, now_lst, now_int, now_tup, asL_lst, natsD_length, rdD_length, vilD_inj, vil_ins, natsD_inj, rdD_inj, nnD_inj, n_R_init, dFldSet, dFrz, dMake, c_roads, mh "roads"]
  refine fun q hq => ⟨_, _, Clo.frz gupd_same, ?_⟩
  rw [gdel_gupd1 hq]
  refine made (E := inOrd E) (d := d) rfl ho.t (by have := hE.l; rw [inOrd_length]; omega) ho.d ?_
  rw [ev]
  refine ⟨_, _, hp, by decide, by rw [rN_put1]; show 1 < 1000; decide, ?_⟩
  rw [rN_put1, rN_put2]
  exact p
abbrev s_too_far : Stmt := top 24
abbrev n_too_far : List Str := ["village", "one", "rows", "x", "p", "far_then", "far_now", "z", "q"]
abbrev p_too_far : List Str := ["village", "one", "rows"]
theorem sc_too_far : FnScope n_too_far p_too_far (defScope s_too_far) := ⟨rfl, rfl, rfl, by decide +kernel, rfl, by decide +kernel, by decide +kernel⟩
/-- those of H from which the pair a is farther now -/
def farH (d : Nat → Nat → Nat) (a : Nat × Nat) (H : List (Nat × Nat)) : List (Nat × Nat) := H.filter fun h => decide (d a.1 h.1 < d a.2 h.2)
def c_toofar (C : Addr) : DSp := fun ds G P _ => ∃ (E : List (Nat × Nat)) (d : Nat → Nat → Nat) (a : Nat × Nat) (H : List (Nat × Nat)), ds = [vilD C (vilOf E d), npD a, .lst (rdD H)] ∧ TV0 E d ∧ a.1 < E.length + 1 ∧ a.2 < E.length + 1 ∧ H.length ≤ 1000 ∧ (∀ h ∈ H, h.1 < E.length + 1 ∧ h.2 < E.length + 1) ∧ P (.lst (rdD (farH d a H))) G
theorem ok_toofar (T : TV K mg C) (TF : TopFn K mg "too_far" s_too_far p_too_far) (M_far : Dmt P w K mg base CX0 C "far" p_V_far (c_vfar C) 3) : Dfn P w K mg base CX0 "too_far" p_too_far (c_toofar C) 4 := by
  refine dfn_of TF sc_too_far (fun ds G P R ⟨E, d, a, H, e, _⟩ => by rw [e]; rfl) fun f cdv A outer s H E B hr => ?_
  refine ⟨_, (dss_cons (ds_asg (dv (pv 1)) (dg_tup (n := 2) rfl (dgs_cons (dg_name (pg_name (i := 3) sc_too_far.nd rfl (by first | exact Or.inl rfl | exact Or.inr rfl))) (dgs_cons (dg_name (pg_name (i := 4) sc_too_far.nd rfl (by first | exact Or.inl rfl | exact Or.inr rfl))) dgs_nil))))
      (dss_cons (ds_set (i := 5) sc_too_far.nd rfl (by first | exact Or.inl rfl | exact Or.inr rfl) (d_methD (dv (pv 0)) T.cl M_far hr (da_cons (dv (pv 3)) da_nil)))
      (dss_cons (ds_set (i := 6) sc_too_far.nd rfl (by first | exact Or.inl rfl | exact Or.inr rfl) (d_methD (dv (pv 0)) T.cl M_far hr (da_cons (dv (pv 4)) da_nil)))
      (dss_one (ds_ret (d_lcP (own := [("z", 7), ("q", 8)]) rfl sc_too_far.nd (di_list (dv (pv 2))) (blkOk_by (N := n_too_far) (sc := defScope s_too_far) (by decide +kernel)) (fun _ _ _ _ _ => (dgw_tup (n := 2) rfl (dgsw_cons (dgw_name (pg_name (i := 7) sc_too_far.nd rfl (by first | exact Or.inl rfl | exact Or.inr rfl))) (dgsw_cons (dgw_name (pg_name (i := 8) sc_too_far.nd rfl (by first | exact Or.inl rfl | exact Or.inr rfl))) dgsw_nil)))) (fun _ _ _ _ _ => (dts_one (dt_cmp o_gt (d_ix (dv (pv 6)) (dv (pv 8)) (fun _ _ => rfl)) (d_ix (dv (pv 5)) (dv (pv 7)) (fun _ _ => rfl)) (nomark _)))) (fun _ _ _ _ _ => (d_tup (da_cons (dv (pv 7)) (da_cons (dv (pv 8)) da_nil)))))))))), ?_⟩
  rintro ds G P R ⟨E, d, a, H, rfl, hE, h1, h2, hl, hin, p⟩
  simp [and_assoc, dRet, dRetN, dRetC, dChain, r2I, dC, dVar, dEnds, dstart, dOp, dCB, DL.rLen, dCons, dNil, dFld, asL_lst, asQ_lst, asQ_tup, asQ_scr, ins_obj, dNever, dgN, dgNil, dgCons, dgTup, dIf, dNot, dAnd, dOr, dB, dCall, dMeth, dNext, dSeq, dSt, dLst, dTup, dIfE, rIxQ, dDrop, dYes, diL, diR1, diR2, dNeg, dAsg, dwipe, dBM, dBM0, rAppendD, rMin2, rMax2, atI_0, atI_1, atI_2, atI_3, ix4_0, ix4_1, ix4_3, asL_g, asQ_g, now_g, gupd_same, gupd_gupd, Int.ofNat_inj, now_lst, now_int, now_tup, asL_lst, natsD_length, rdD_length, vilD_inj, vil_ins, natsD_inj, rdD_inj, nnD_inj, n_too_far, npD, pairD, c_vfar, mh "far"]
  refine ⟨E, d, rfl, hE, h1, E, d, rfl, hE, h2, ?_⟩
  refine dLcP_intro (rdD H) (npT fun h => decide (d a.1 h.1 < d a.2 h.2)) id (fun P p => by simpa [and_assoc, dRet, dRetN, dRetC, dChain, r2I, dC, dVar, dEnds, dstart, dOp, dCB, DL.rLen, dCons, dNil, dFld, asL_lst, asQ_lst, asQ_tup, asQ_scr, ins_obj, dNever, dgN, dgNil, dgCons, dgTup, dIf, dNot, dAnd, dOr, dB, dCall, dMeth, dNext, dSeq, dSt, dLst, dTup, dIfE, rIxQ, dDrop, dYes, diL, diR1, diR2, dNeg, dAsg, dwipe, dBM, dBM0, rAppendD, rMin2, rMax2, atI_0, atI_1, atI_2, atI_3, ix4_0, ix4_1, ix4_3, asL_g, asQ_g, now_g, gupd_same, gupd_gupd, Int.ofNat_inj, now_lst, now_int, now_tup, asL_lst, natsD_length, rdD_length, vilD_inj, vil_ins, natsD_inj, rdD_inj, nnD_inj] using p) (by rw [rdD_length]; exact small1000 hl) (fun z G' hz hG => ?_) ?_
  · obtain ⟨h, hh, rfl⟩ := rdD_mem hz
    have hb := hin h hh
    simp [and_assoc, dRet, dRetN, dRetC, dChain, r2I, dC, dVar, dEnds, dstart, dOp, dCB, DL.rLen, dCons, dNil, dFld, asL_lst, asQ_lst, asQ_tup, asQ_scr, ins_obj, dNever, dgN, dgNil, dgCons, dgTup, dIf, dNot, dAnd, dOr, dB, dCall, dMeth, dNext, dSeq, dSt, dLst, dTup, dIfE, rIxQ, dDrop, dYes, diL, diR1, diR2, dNeg, dAsg, dwipe, dBM, dBM0, rAppendD, rMin2, rMax2, atI_0, atI_1, atI_2, atI_3, ix4_0, ix4_1, ix4_3, asL_g, asQ_g, now_g, gupd_same, gupd_gupd, Int.ofNat_inj, now_lst, now_int, now_tup, asL_lst, natsD_length, rdD_length, vilD_inj, vil_ins, natsD_inj, rdD_inj, nnD_inj, npD, pairD, far_at (f := d a.1) hb.1, far_at (f := d a.2) hb.2]
    exact ⟨rfl, fun _ => by rw [sizeLine_eq]; decide⟩
  · rw [List.map_id, npT_filter]
    exact p
abbrev s_R_village : Stmt := inClass (top 25) 3
abbrev n_R_village : List Str := ["self"]
abbrev p_R_village : List Str := ["self"]
theorem sc_R_village : FnScope n_R_village p_R_village (defScope s_R_village) := ⟨rfl, rfl, rfl, by decide +kernel, rfl, by decide +kernel, by decide +kernel⟩
def c_rvil (C D : Addr) : DSp := fun ds G P _ => ∃ (p : Addr) (E : List (Nat × Nat)) (d : Nat → Nat → Nat) (L : List (Nat × Nat)), ds = [.ref p] ∧ Rep D C E d L G p ∧ P (vilD C (vilOf E d)) G
theorem ok_rvil (T : TR K mg C D) (TM : TopMt K D "village" "Reports.village" s_R_village p_R_village) : Dmt P w K mg base CX0 D "village" p_R_village (c_rvil C D) 1 := by
  refine dmt_of TM sc_R_village (fun ds G P R ⟨q, E, d, L, e, _⟩ => by rw [e]; rfl) fun f cdv A outer s H E B hr => ?_
  refine ⟨_, (dss_one (ds_ret (d_fld T.clR T.n_village (dv (pv 0))))), ?_⟩
  rintro ds G P R ⟨q, E, d, L, rfl, hr', p⟩
  simp [and_assoc, dRet, dRetN, dRetC, dChain, r2I, dC, dVar, dEnds, dstart, dOp, dCB, DL.rLen, dCons, dNil, dFld, asL_lst, asQ_lst, asQ_tup, asQ_scr, ins_obj, dNever, dgN, dgNil, dgCons, dgTup, dIf, dNot, dAnd, dOr, dB, dCall, dMeth, dNext, dSeq, dSt, dLst, dTup, dIfE, rIxQ, dDrop, dYes, diL, diR1, diR2, dNeg, dAsg, dwipe, dBM, dBM0, rAppendD, rMin2, rMax2, atI_0, atI_1, atI_2, atI_3, ix4_0, ix4_1, ix4_3, asL_g, asQ_g, now_g, gupd_same, gupd_gupd, Int.ofNat_inj, now_lst, now_int, now_tup, asL_lst, natsD_length, rdD_length, vilD_inj, vil_ins, natsD_inj, rdD_inj, nnD_inj, n_R_village, rep_ins hr', rN_v]
  exact p
abbrev s_R_reports : Stmt := inClass (top 25) 6
abbrev n_R_reports : List Str := ["self"]
abbrev p_R_reports : List Str := ["self"]
theorem sc_R_reports : FnScope n_R_reports p_R_reports (defScope s_R_reports) := ⟨rfl, rfl, rfl, by decide +kernel, rfl, by decide +kernel, by decide +kernel⟩
def c_rreps (C D : Addr) : DSp := fun ds G P _ => ∃ (p : Addr) (E : List (Nat × Nat)) (d : Nat → Nat → Nat) (L : List (Nat × Nat)), ds = [.ref p] ∧ Rep D C E d L G p ∧ ∀ q, G q = none → P (.ref q) (gupd G q (.lst (rdD L)))
theorem ok_rreps (T : TR K mg C D) (TM : TopMt K D "reports" "Reports.reports" s_R_reports p_R_reports) : Dmt P w K mg base CX0 D "reports" p_R_reports (c_rreps C D) 1 := by
  refine dmt_of TM sc_R_reports (fun ds G P R ⟨q, E, d, L, e, _⟩ => by rw [e]; rfl) fun f cdv A outer s H E B hr => ?_
  refine ⟨_, (dss_one (ds_ret (d_callTy c_listM (by rfl) T.list (by decide +kernel) (da_cons (d_fld T.clR T.n_heard (dv (pv 0))) da_nil)))), ?_⟩
  rintro ds G P R ⟨q, E, d, L, rfl, hr', p⟩
  simp [and_assoc, dRet, dRetN, dRetC, dChain, r2I, dC, dVar, dEnds, dstart, dOp, dCB, DL.rLen, dCons, dNil, dFld, asL_lst, asQ_lst, asQ_tup, asQ_scr, ins_obj, dNever, dgN, dgNil, dgCons, dgTup, dIf, dNot, dAnd, dOr, dB, dCall, dMeth, dNext, dSeq, dSt, dLst, dTup, dIfE, rIxQ, dDrop, dYes, diL, diR1, diR2, dNeg, dAsg, dwipe, dBM, dBM0, rAppendD, rMin2, rMax2, atI_0, atI_1, atI_2, atI_3, ix4_0, ix4_1, ix4_3, asL_g, asQ_g, now_g, gupd_same, gupd_gupd, Int.ofNat_inj, now_lst, now_int, now_tup, asL_lst, natsD_length, rdD_length, vilD_inj, vil_ins, natsD_inj, rdD_inj, nnD_inj, n_R_reports, rListM, rep_ins hr', rN_h]
  exact p
/-- a report that fits all that were heard -/
def Fits1 (d : Nat → Nat → Nat) (H : List (Nat × Nat)) (r : Nat × Nat) : Prop := ∀ h ∈ H, d r.2 h.2 ≤ d r.1 h.1
def InV (E : List (Nat × Nat)) (H : List (Nat × Nat)) : Prop := ∀ h ∈ H, h.1 < E.length + 1 ∧ h.2 < E.length + 1
abbrev s_R_tell : Stmt := inClass (top 25) 4
abbrev n_R_tell : List Str := ["self", "x", "y", "report", "clashing"]
abbrev p_R_tell : List Str := ["self", "x", "y"]
theorem sc_R_tell : FnScope n_R_tell p_R_tell (defScope s_R_tell) := ⟨rfl, rfl, rfl, by decide +kernel, rfl, by decide +kernel, by decide +kernel⟩
def c_rtell (C D : Addr) : DSp := fun ds G P _ => ∃ (p : Addr) (E : List (Nat × Nat)) (d : Nat → Nat → Nat) (L : List (Nat × Nat)) (x y : Nat), ds = [.ref p, .int (x : Int), .int (y : Int)] ∧ TV0 E d ∧ Rep D C E d L G p ∧ L.length ≤ 400 ∧ InV E L ∧ x < E.length + 1 ∧ y < E.length + 1 ∧ Fits1 d L (x, y) ∧ P .non (gupd G p (repM D C E d (tellH L (x, y))))
theorem at_rtell (T : TR K mg C D) (D_need_houses : Dfn P w K mg base CX0 "need_houses" p_need_houses (c_need C) 2) (D_too_far : Dfn P w K mg base CX0 "too_far" p_too_far (c_toofar C) 4) : ∀ f0 fd0, Fun K "tell" "Reports.tell" s_R_tell f0 fd0 → FnOk P w K mg base CX0 5 f0 fd0 p_R_tell (toSp K (c_rtell C D)) := by
  intro f0 fd0 TM
  refine d_ok TM sc_R_tell (fun ds G P R ⟨q, E, d, L, x, y, e, _⟩ => by rw [e]; rfl) fun cdv A outer s H E B hr => ?_
  refine ⟨_, (dss_cons (ds_expr (d_callD D_need_houses hr (by rfl) (da_cons (d_fld T.clR T.n_village (dv (pv 0))) (da_cons (d_lst (da_cons (dv (pv 1)) (da_cons (dv (pv 2)) da_nil))) da_nil))))
      (dss_cons (ds_set (i := 3) sc_R_tell.nd rfl (by first | exact Or.inl rfl | exact Or.inr rfl) (d_tup (da_cons (dv (pv 1)) (da_cons (dv (pv 2)) da_nil))))
      (dss_cons (ds_set (i := 4) sc_R_tell.nd rfl (by first | exact Or.inl rfl | exact Or.inr rfl) (d_callD D_too_far hr (by rfl) (da_cons (d_fld T.clR T.n_village (dv (pv 0))) (da_cons (dv (pv 3)) (da_cons (d_fld T.clR T.n_heard (dv (pv 0))) da_nil)))))
      (dss_cons (ds_if (dt_truth (dv (pv 4))) (dss_one ds_never) dss_nil)
      (dss_one (ds_if (dt_cmp (o_ninP hr) (dv (pv 3)) (d_fld T.clR T.n_heard (dv (pv 0))) rfl) (dss_one (ds_fld T.clR T.n_heard (dv (pv 0)) (d_callB c_sortP (by rfl) T.sorted (by decide +kernel) (da_cons (d_op o_cat (d_fld T.clR T.n_heard (dv (pv 0))) (d_lst (da_cons (dv (pv 3)) da_nil))) da_nil)))) dss_nil)))))), ?_⟩
  rintro ds G P R ⟨q, E, d, L, x, y, rfl, hE, hr', hL, hin, hx, hy, hfit, p⟩
  have hn : (vilOf E d).n = E.length + 1 := vilOf_n E d
  have s2 : 2 ≤ sizeLine := by rw [sizeLine_eq]; decide
  have sz : 1000 ≤ sizeLine := by rw [sizeLine_eq]; decide
  have hnone : farH d (x, y) L = [] := by
    refine List.filter_eq_nil_iff.mpr fun h hh => ?_
    have := hfit h hh
    simp only [decide_eq_true_eq]
    simp only at this
    omega
  simp [and_assoc, dRet, dRetN, dRetC, dChain, r2I, dC, dVar, dEnds, dstart, dOp, dCB, DL.rLen, dCons, dNil, dFld, asL_lst, asQ_lst, asQ_tup, asQ_scr, ins_obj, dNever, dgN, dgNil, dgCons, dgTup, dIf, dNot, dAnd, dOr, dB, dCall, dMeth, dNext, dSeq, dSt, dLst, dTup, dIfE, rIxQ, dDrop, dYes, diL, diR1, diR2, dNeg, dAsg, dwipe, dBM, dBM0, rAppendD, rMin2, rMax2, atI_0, atI_1, atI_2, atI_3, ix4_0, ix4_1, ix4_3, asL_g, asQ_g, now_g, gupd_same, gupd_gupd, Int.ofNat_inj, now_lst, now_int, now_tup, asL_lst, natsD_length, rdD_length, vilD_inj, vil_ins, natsD_inj, rdD_inj, nnD_inj, n_R_tell, rep_ins hr', rN_v, rN_h, c_need, hn, s2, c_toofar, dTru, truD]
  refine ⟨[(x : Int), (y : Int)], rfl, by simp; omega, E, d, rfl, x, y, rfl, hE, hx, hy, by omega, fun a b h => hin (a, b) h, by rw [hnone]; rfl, ?_⟩
  simp [and_assoc, dRet, dRetN, dRetC, dChain, r2I, dC, dVar, dEnds, dstart, dOp, dCB, DL.rLen, dCons, dNil, dFld, asL_lst, asQ_lst, asQ_tup, asQ_scr, ins_obj, dNever, dgN, dgNil, dgCons, dgTup, dIf, dNot, dAnd, dOr, dB, dCall, dMeth, dNext, dSeq, dSt, dLst, dTup, dIfE, rIxQ, dDrop, dYes, diL, diR1, diR2, dNeg, dAsg, dwipe, dBM, dBM0, rAppendD, rMin2, rMax2, atI_0, atI_1, atI_2, atI_3, ix4_0, ix4_1, ix4_3, asL_g, asQ_g, now_g, gupd_same, gupd_gupd, Int.ofNat_inj, now_lst, now_int, now_tup, asL_lst, natsD_length, rdD_length, vilD_inj, vil_ins, natsD_inj, rdD_inj, nnD_inj, rMemP]
  refine ⟨x, y, rfl, ?_⟩
  by_cases hm : (x, y) ∈ L
  · refine .inl ⟨hm, ?_⟩
    unfold tellH at p
    rw [if_pos hm] at p
    rw [gupd_self (show G q = some (repM D C E d L) from hr')] at p
    exact p
  · refine .inr ⟨hm, ?_⟩
    unfold tellH at p
    rw [if_neg hm] at p
    simp [and_assoc, dRet, dRetN, dRetC, dChain, r2I, dC, dVar, dEnds, dstart, dOp, dCB, DL.rLen, dCons, dNil, dFld, asL_lst, asQ_lst, asQ_tup, asQ_scr, ins_obj, dNever, dgN, dgNil, dgCons, dgTup, dIf, dNot, dAnd, dOr, dB, dCall, dMeth, dNext, dSeq, dSt, dLst, dTup, dIfE, rIxQ, dDrop, dYes, diL, diR1, diR2, dNeg, dAsg, dwipe, dBM, dBM0, rAppendD, rMin2, rMax2, atI_0, atI_1, atI_2, atI_3, ix4_0, ix4_1, ix4_3, asL_g, asQ_g, now_g, gupd_same, gupd_gupd, Int.ofNat_inj, now_lst, now_int, now_tup, asL_lst, natsD_length, rdD_length, vilD_inj, vil_ins, natsD_inj, rdD_inj, nnD_inj, dFldSet, rCatD, rep_ins hr', rN_h]
    refine ⟨by omega, by omega, _, (L ++ [(x, y)]).map fun p => ((p.1 : Int), (p.2 : Int)), rfl, ?_, fun ns h1 h2 => ?_⟩
    · rw [asL_lst]
      simp [rdD, npD]
      rfl
    · rw [sort_rows h1 h2]
      refine ⟨_, _, hr', by show 2 < 1000; decide, ?_⟩
      rw [rN_put3]
      exact p
theorem ok_rtell (T : TR K mg C D) (TM : TopMt K D "tell" "Reports.tell" s_R_tell p_R_tell) (D_need_houses : Dfn P w K mg base CX0 "need_houses" p_need_houses (c_need C) 2) (D_too_far : Dfn P w K mg base CX0 "too_far" p_too_far (c_toofar C) 4) : Dmt P w K mg base CX0 D "tell" p_R_tell (c_rtell C D) 5 := by
  obtain ⟨f, fd, F, m, b⟩ := TM
  exact ⟨f, fd, at_rtell T D_need_houses D_too_far f fd F, m, b⟩
end
end V

set_option Elab.async false
set_option linter.all false
set_option maxRecDepth 100000
set_option maxHeartbeats 4000000
/-! movedays.moves. -/
namespace V
open PySem PySem.Spec L2 DL
/-- how far from t the reports keep who lived in x, and by which -/
def keptS (d : Nat → Nat → Nat) (x t : Nat) (s : Nat × Option (Nat × Nat)) (r : Nat × Nat) : Nat × Option (Nat × Nat) := if d x r.1 + s.1 < d t r.2 then (d t r.2 - d x r.1, some r) else s
def kept (d : Nat → Nat → Nat) (x t : Nat) (H : List (Nat × Nat)) : Nat × Option (Nat × Nat) := H.foldl (keptS d x t) (0, none)
def optD : Option (Nat × Nat) → Dt
  | none => .non
  | some p => npD p
theorem kept_snoc {d : Nat → Nat → Nat} {x t : Nat} {H : List (Nat × Nat)} {r : Nat × Nat} : kept d x t (H ++ [r]) = keptS d x t (kept d x t H) r := by simp [kept]
theorem rev_ind {α : Type} {M : List α → Prop} (h0 : M []) (h1 : ∀ l x, M l → M (l ++ [x])) : ∀ l, M l := by
  have key : ∀ (n : Nat) (l : List α), l.length = n → M l := by
    intro n
    induction n with
    | zero =>
      intro l e
      rw [List.length_eq_zero_iff.mp e]; exact h0
    | succ n ih =>
      intro l e
      rcases List.eq_nil_or_concat l with q | ⟨L, b, q⟩
      · rw [q] at e; cases e
      · rw [List.concat_eq_append] at q
        subst q
        refine h1 L b (ih L ?_)
        simpa using e
  exact fun l => key _ l rfl
/-- no report keeps farther away; some report keeps so far, or none any -/
theorem kept_max {d : Nat → Nat → Nat} {x t : Nat} {H : List (Nat × Nat)} : (∀ r ∈ H, d t r.2 ≤ d x r.1 + (kept d x t H).1) ∧ ((kept d x t H).1 = 0 ∨ ∃ r ∈ H, d t r.2 = d x r.1 + (kept d x t H).1) := by
  refine rev_ind (M := fun H => (∀ r ∈ H, d t r.2 ≤ d x r.1 + (kept d x t H).1) ∧ ((kept d x t H).1 = 0 ∨ ∃ r ∈ H, d t r.2 = d x r.1 + (kept d x t H).1)) ⟨by simp, .inl rfl⟩ (fun H r ih => ?_) H
  · rw [kept_snoc]
    unfold keptS
    obtain ⟨h1, h2⟩ := ih
    split
    · rename_i hlt
      refine ⟨fun q hq => ?_, .inr ⟨r, by simp, by show _ = _ + (_ - _); omega⟩⟩
      rcases List.mem_append.mp hq with hq | hq
      · have := h1 q hq
        show _ ≤ _ + (_ - _)
        omega
      · rw [List.mem_singleton.mp hq]
        show _ ≤ _ + (_ - _)
        omega
    · rename_i hlt
      refine ⟨fun q hq => ?_, ?_⟩
      · rcases List.mem_append.mp hq with hq | hq
        · exact h1 q hq
        · rw [List.mem_singleton.mp hq]; omega
      · rcases h2 with h2 | ⟨q, hq, e⟩
        · exact .inl h2
        · exact .inr ⟨q, by simp [hq], e⟩
theorem atI_rowI {n : Nat} {f : Nat → Nat} {y : Nat} (hy : y < n) : atI (natsD ((List.range n).map f)) (y : Int) = some (.int (f y : Int)) := atI_nats (by rw [List.getElem?_map, List.getElem?_range hy]; rfl)
section
variable {P : Program} {w : World} {K : PySem.W.Frag} {mg : Str → Option Value} {base : Heap} {C D : Addr}
abbrev s_kept_away : Stmt := top 2
abbrev n_kept_away : List Str := ["reports", "x", "t", "village", "far_x", "far_t", "most", "least", "report", "then", "now"]
abbrev p_kept_away : List Str := ["reports", "x", "t"]
theorem sc_kept_away : FnScope n_kept_away p_kept_away (defScope s_kept_away) := ⟨rfl, rfl, rfl, by decide +kernel, rfl, by decide +kernel, by decide +kernel⟩
def c_kept (C D : Addr) : DSp := fun ds G P _ => ∃ (p : Addr) (E : List (Nat × Nat)) (d : Nat → Nat → Nat) (L : List (Nat × Nat)) (x t : Nat), ds = [.ref p, .int (x : Int), .int (t : Int)] ∧ TV0 E d ∧ Rep D C E d L G p ∧ L.length ≤ 400 ∧ InV E L ∧ x < E.length + 1 ∧ t < E.length + 1 ∧ P (.tup [.int ((kept d x t L).1 : Int), optD (kept d x t L).2]) G
theorem ok_kept (T : TR K mg C D) (TF : TopFn K mg "kept_away" s_kept_away p_kept_away) (M_village : Dmt P w K mg base CX0 D "village" p_R_village (c_rvil C D) 1) (M_reports : Dmt P w K mg base CX0 D "reports" p_R_reports (c_rreps C D) 1) (M_far : Dmt P w K mg base CX0 C "far" p_V_far (c_vfar C) 3) : Dfn P w K mg base CX0 "kept_away" p_kept_away (c_kept C D) 4 := by
  refine dfn_of TF sc_kept_away (fun ds G P R ⟨q, E, d, L, x, t, e, _⟩ => by rw [e]; rfl) fun f cdv A outer s H E B hr => ?_
  refine ⟨_, (dss_cons (ds_set (i := 3) sc_kept_away.nd rfl (by first | exact Or.inl rfl | exact Or.inr rfl) (d_methD0 (dv (pv 0)) T.clR M_village hr))
      (dss_cons (ds_set (i := 4) sc_kept_away.nd rfl (by first | exact Or.inl rfl | exact Or.inr rfl) (d_methD (dv (pv 3)) T.cl M_far hr (da_cons (dv (pv 1)) da_nil)))
      (dss_cons (ds_set (i := 5) sc_kept_away.nd rfl (by first | exact Or.inl rfl | exact Or.inr rfl) (d_methD (dv (pv 3)) T.cl M_far hr (da_cons (dv (pv 2)) da_nil)))
      (dss_cons (ds_set (i := 6) sc_kept_away.nd rfl (by first | exact Or.inl rfl | exact Or.inr rfl) d_int)
      (dss_cons (ds_set (i := 7) sc_kept_away.nd rfl (by first | exact Or.inl rfl | exact Or.inr rfl) d_non)
      (dss_cons (ds_for PassesOwn.never rfl (di_list (d_frzMeth0 (dv (pv 0)) T.clR M_reports hr)) (dg_name (pg_name (i := 8) sc_kept_away.nd rfl (by first | exact Or.inl rfl | exact Or.inr rfl))) (dss_cons (ds_asg (dv (pv 8)) (dg_tup (n := 2) rfl (dgs_cons (dg_name (pg_name (i := 9) sc_kept_away.nd rfl (by first | exact Or.inl rfl | exact Or.inr rfl))) (dgs_cons (dg_name (pg_name (i := 10) sc_kept_away.nd rfl (by first | exact Or.inl rfl | exact Or.inr rfl))) dgs_nil))))
      (dss_one (ds_if (dt_cmp o_gt (d_op o_sub (d_ix (dv (pv 5)) (dv (pv 10)) (fun _ _ => rfl)) (d_ix (dv (pv 4)) (dv (pv 9)) (fun _ _ => rfl))) (dv (pv 6)) (nomark _)) (dss_cons (ds_set (i := 6) sc_kept_away.nd rfl (by first | exact Or.inl rfl | exact Or.inr rfl) (d_op o_sub (d_ix (dv (pv 5)) (dv (pv 10)) (fun _ _ => rfl)) (d_ix (dv (pv 4)) (dv (pv 9)) (fun _ _ => rfl))))
      (dss_one (ds_set (i := 7) sc_kept_away.nd rfl (by first | exact Or.inl rfl | exact Or.inr rfl) (dv (pv 8))))) dss_nil))))
      (dss_one (ds_ret (d_tup (da_cons (dv (pv 6)) (da_cons (dv (pv 7)) da_nil))))))))))), ?_⟩
  rintro ds G P R ⟨q, E, d, L, x, t, rfl, hE, hr', hL, hin, hx, ht, p⟩
  have s2 : 2 ≤ sizeLine := by rw [sizeLine_eq]; decide
  simp [and_assoc, dRet, dRetN, dRetC, dChain, r2I, dC, dVar, dEnds, dstart, dOp, dCB, DL.rLen, dCons, dNil, dFld, asL_lst, asQ_lst, asQ_tup, asQ_scr, ins_obj, dNever, dgN, dgNil, dgCons, dgTup, dIf, dNot, dAnd, dOr, dB, dCall, dMeth, dNext, dSeq, dSt, dLst, dTup, dIfE, rIxQ, dDrop, dYes, diL, diR1, diR2, dNeg, dAsg, dwipe, dBM, dBM0, rAppendD, rMin2, rMax2, atI_0, atI_1, atI_2, atI_3, ix4_0, ix4_1, ix4_3, asL_g, asQ_g, now_g, gupd_same, gupd_gupd, Int.ofNat_inj, now_lst, now_int, now_tup, asL_lst, natsD_length, rdD_length, vilD_inj, vil_ins, natsD_inj, rdD_inj, nnD_inj, n_kept_away, rep_ins hr', rm "village"]
  refine ⟨q, E, d, L, rfl, hr', ?_⟩
  simp [and_assoc, dRet, dRetN, dRetC, dChain, r2I, dC, dVar, dEnds, dstart, dOp, dCB, DL.rLen, dCons, dNil, dFld, asL_lst, asQ_lst, asQ_tup, asQ_scr, ins_obj, dNever, dgN, dgNil, dgCons, dgTup, dIf, dNot, dAnd, dOr, dB, dCall, dMeth, dNext, dSeq, dSt, dLst, dTup, dIfE, rIxQ, dDrop, dYes, diL, diR1, diR2, dNeg, dAsg, dwipe, dBM, dBM0, rAppendD, rMin2, rMax2, atI_0, atI_1, atI_2, atI_3, ix4_0, ix4_1, ix4_3, asL_g, asQ_g, now_g, gupd_same, gupd_gupd, Int.ofNat_inj, now_lst, now_int, now_tup, asL_lst, natsD_length, rdD_length, vilD_inj, vil_ins, natsD_inj, rdD_inj, nnD_inj, mh "far"]
  refine ⟨E, d, x, rfl, hE, hx, E, d, t, rfl, hE, ht, ?_⟩
  refine dFor_intro (rdD L) G (fun i δ G' => ∃ o7 o8 o9, δ = [some (.ref q), some (.int (x : Int)), some (.int (t : Int)), some (vilD C (vilOf E d)), some (.lst (natsD ((List.range (E.length + 1)).map (d x)))), some (.lst (natsD ((List.range (E.length + 1)).map (d t)))), some (.int ((kept d x t (L.take i)).1 : Int)), some (optD (kept d x t (L.take i)).2), o7, o8, o9] ∧ G' = G) (fun P p => ?_) ⟨_, _, _, rfl, rfl⟩ ?_ ?_
  · simp [and_assoc, dRet, dRetN, dRetC, dChain, r2I, dC, dVar, dEnds, dstart, dOp, dCB, DL.rLen, dCons, dNil, dFld, asL_lst, asQ_lst, asQ_tup, asQ_scr, ins_obj, dNever, dgN, dgNil, dgCons, dgTup, dIf, dNot, dAnd, dOr, dB, dCall, dMeth, dNext, dSeq, dSt, dLst, dTup, dIfE, rIxQ, dDrop, dYes, diL, diR1, diR2, dNeg, dAsg, dwipe, dBM, dBM0, rAppendD, rMin2, rMax2, atI_0, atI_1, atI_2, atI_3, ix4_0, ix4_1, ix4_3, asL_g, asQ_g, now_g, gupd_same, gupd_gupd, Int.ofNat_inj, now_lst, now_int, now_tup, asL_lst, natsD_length, rdD_length, vilD_inj, vil_ins, natsD_inj, rdD_inj, nnD_inj, dFrz, rep_ins hr', rm "reports"]
    exact ⟨q, E, d, L, rfl, hr', fun q' hq' => ⟨_, _, Clo.frz gupd_same, _, rfl, by rw [gdel_gupd1 hq']; exact p⟩⟩
  · rintro i dd δ G1 hd ⟨o7, o8, o9, rfl, rfl⟩
    obtain ⟨h, hh, rfl⟩ := rdD_get hd
    have hm := hin h (List.mem_of_getElem? hh)
    rw [take_one_more hh, kept_snoc]
    simp [and_assoc, dRet, dRetN, dRetC, dChain, r2I, dC, dVar, dEnds, dstart, dOp, dCB, DL.rLen, dCons, dNil, dFld, asL_lst, asQ_lst, asQ_tup, asQ_scr, ins_obj, dNever, dgN, dgNil, dgCons, dgTup, dIf, dNot, dAnd, dOr, dB, dCall, dMeth, dNext, dSeq, dSt, dLst, dTup, dIfE, rIxQ, dDrop, dYes, diL, diR1, diR2, dNeg, dAsg, dwipe, dBM, dBM0, rAppendD, rMin2, rMax2, atI_0, atI_1, atI_2, atI_3, ix4_0, ix4_1, ix4_3, asL_g, asQ_g, now_g, gupd_same, gupd_gupd, Int.ofNat_inj, now_lst, now_int, now_tup, asL_lst, natsD_length, rdD_length, vilD_inj, vil_ins, natsD_inj, rdD_inj, nnD_inj, npD, pairD, atI_rowI hm.1, atI_rowI hm.2]
    generalize kept d x t (L.take i) = m
    unfold keptS
    by_cases c : d x h.1 + m.1 < d t h.2
    · rw [if_pos c, if_pos (by omega)]
      exact ⟨by simp only; omega, rfl⟩
    · rw [if_neg c, if_neg (by omega)]
      exact ⟨rfl, rfl⟩
  · rintro δ G1 ⟨o7, o8, o9, rfl, rfl⟩
    rw [rdD_length, List.take_length]
    simp [and_assoc, dRet, dRetN, dRetC, dChain, r2I, dC, dVar, dEnds, dstart, dOp, dCB, DL.rLen, dCons, dNil, dFld, asL_lst, asQ_lst, asQ_tup, asQ_scr, ins_obj, dNever, dgN, dgNil, dgCons, dgTup, dIf, dNot, dAnd, dOr, dB, dCall, dMeth, dNext, dSeq, dSt, dLst, dTup, dIfE, rIxQ, dDrop, dYes, diL, diR1, diR2, dNeg, dAsg, dwipe, dBM, dBM0, rAppendD, rMin2, rMax2, atI_0, atI_1, atI_2, atI_3, ix4_0, ix4_1, ix4_3, asL_g, asQ_g, now_g, gupd_same, gupd_gupd, Int.ofNat_inj, now_lst, now_int, now_tup, asL_lst, natsD_length, rdD_length, vilD_inj, vil_ins, natsD_inj, rdD_inj, nnD_inj, s2]
    exact p
abbrev s_least_move : Stmt := top 4
abbrev n_least_move : List Str := ["reports", "x"]
abbrev p_least_move : List Str := ["reports", "x"]
theorem sc_least_move : FnScope n_least_move p_least_move (defScope s_least_move) := ⟨rfl, rfl, rfl, by decide +kernel, rfl, by decide +kernel, by decide +kernel⟩
def c_least (C D : Addr) : DSp := fun ds G P _ => ∃ (p : Addr) (E : List (Nat × Nat)) (d : Nat → Nat → Nat) (L : List (Nat × Nat)) (x : Nat), ds = [.ref p, .int (x : Int)] ∧ TV0 E d ∧ Rep D C E d L G p ∧ L.length ≤ 400 ∧ InV E L ∧ x < E.length + 1 ∧ P (.int ((kept d x x L).1 : Int)) G
theorem fn_least {f : Addr} {fd : FuncData} (T : TR K mg C D) (TF : Fun K "least_move" "least_move" s_least_move f fd) (D_kept_away : Dfn P w K mg base CX0 "kept_away" p_kept_away (c_kept C D) 4) : FnOk P w K mg base CX0 5 f fd p_least_move (toSp K (c_least C D)) := by
  refine d_ok TF sc_least_move (fun ds G P R ⟨q, E, d, L, x, e, _⟩ => by rw [e]; rfl) fun cdv A outer s H E B hr => ?_
  refine ⟨_, (dss_one (ds_ret (d_ix (d_callD D_kept_away hr (by rfl) (da_cons (dv (pv 0)) (da_cons (dv (pv 1)) (da_cons (dv (pv 1)) da_nil)))) d_int (fun _ _ => rfl)))), ?_⟩
  rintro ds G P R ⟨q, E, d, L, x, rfl, hE, hr', hL, hin, hx, p⟩
  simp [and_assoc, dRet, dRetN, dRetC, dChain, r2I, dC, dVar, dEnds, dstart, dOp, dCB, DL.rLen, dCons, dNil, dFld, asL_lst, asQ_lst, asQ_tup, asQ_scr, ins_obj, dNever, dgN, dgNil, dgCons, dgTup, dIf, dNot, dAnd, dOr, dB, dCall, dMeth, dNext, dSeq, dSt, dLst, dTup, dIfE, rIxQ, dDrop, dYes, diL, diR1, diR2, dNeg, dAsg, dwipe, dBM, dBM0, rAppendD, rMin2, rMax2, atI_0, atI_1, atI_2, atI_3, ix4_0, ix4_1, ix4_3, asL_g, asQ_g, now_g, gupd_same, gupd_gupd, Int.ofNat_inj, now_lst, now_int, now_tup, asL_lst, natsD_length, rdD_length, vilD_inj, vil_ins, natsD_inj, rdD_inj, nnD_inj, n_least_move]
  refine ⟨q, E, d, L, x, x, rfl, hE, hr', hL, hin, hx, hx, ?_⟩
  simp [and_assoc, dRet, dRetN, dRetC, dChain, r2I, dC, dVar, dEnds, dstart, dOp, dCB, DL.rLen, dCons, dNil, dFld, asL_lst, asQ_lst, asQ_tup, asQ_scr, ins_obj, dNever, dgN, dgNil, dgCons, dgTup, dIf, dNot, dAnd, dOr, dB, dCall, dMeth, dNext, dSeq, dSt, dLst, dTup, dIfE, rIxQ, dDrop, dYes, diL, diR1, diR2, dNeg, dAsg, dwipe, dBM, dBM0, rAppendD, rMin2, rMax2, atI_0, atI_1, atI_2, atI_3, ix4_0, ix4_1, ix4_3, asL_g, asQ_g, now_g, gupd_same, gupd_gupd, Int.ofNat_inj, now_lst, now_int, now_tup, asL_lst, natsD_length, rdD_length, vilD_inj, vil_ins, natsD_inj, rdD_inj, nnD_inj]
  exact p
end
end V

set_option Elab.async false
set_option linter.all false
set_option maxRecDepth 100000
set_option maxHeartbeats 4000000
namespace V
open PySem PySem.Spec L2 DL
/-- reports of some houses of a tale -/
def ofTale (st : List Nat) (hs : List Nat) : List (Nat × Nat) := hs.map fun h => (h, st.getD h 0)
structure Heard (E : List (Nat × Nat)) (hs : List Nat) : Prop where
  nd : hs.Nodup
  lt : ∀ h ∈ hs, h < E.length + 1
theorem Heard.len {E : List (Nat × Nat)} {hs : List Nat} (h : Heard E hs) : hs.length ≤ E.length + 1 := nodup_lt h.nd h.lt
theorem Heard.inv {E : List (Nat × Nat)} {d : Nat → Nat → Nat} {st hs : List Nat} (h : Heard E hs) (t : Tale E d st) : InV E (ofTale st hs) := fun r hr => by
  obtain ⟨x, hx, rfl⟩ := List.mem_map.mp hr
  exact ⟨h.lt x hx, (t.at (h.lt x hx)).2⟩
theorem Heard.fits {E : List (Nat × Nat)} {d : Nat → Nat → Nat} {st hs : List Nat} (h : Heard E hs) (t : Tale E d st) (hE : Tree E) (hd : Dists E d) {x : Nat} (hx : x < E.length + 1) : Fits1 d (ofTale st hs) (x, st.getD x 0) := fun r hr => by
  obtain ⟨y, hy, rfl⟩ := List.mem_map.mp hr
  exact t.lip hE hd hx (h.lt y hy)
theorem ofTale_length {st hs : List Nat} : (ofTale st hs).length = hs.length := by simp [ofTale]
theorem ofTale_nodup {st hs : List Nat} (h : hs.Nodup) : (ofTale st hs).Nodup := List.pairwise_map.mpr (h.imp fun {a b} hab e => hab (by simpa using (Prod.mk.inj e).1))
theorem ofTale_mem {st hs : List Nat} {x y : Nat} : (x, y) ∈ ofTale st hs ↔ x ∈ hs ∧ y = st.getD x 0 := by
  unfold ofTale
  rw [List.mem_map]
  constructor
  · rintro ⟨h, hh, e⟩
    cases e
    exact ⟨hh, rfl⟩
  · rintro ⟨h, rfl⟩
    exact ⟨x, h, rfl⟩
section
variable {P : Program} {w : World} {K : PySem.W.Frag} {mg : Str → Option Value} {base : Heap} {C D : Addr}
abbrev s_law_heard : Stmt := top 33
abbrev n_law_heard : List Str := ["pot", "story", "most", "left", "many", "house", "k"]
abbrev p_law_heard : List Str := ["pot", "story", "most"]
theorem sc_law_heard : FnScope n_law_heard p_law_heard (defScope s_law_heard) := ⟨rfl, rfl, rfl, by decide +kernel, rfl, by decide +kernel, by decide +kernel⟩
def c_heard : DSp := fun ds G P _ => ∃ (p : Addr) (E : List (Nat × Nat)) (d : Nat → Nat → Nat) (st : List Nat) (most n : Nat), ds = [.ref p, .lst (natsD st), .int (most : Int)] ∧ Tale E d st ∧ E.length ≤ 39 ∧ most ≤ 1000 ∧ Pot p G (n + 41) ∧ ∀ hs G', Heard E hs → Pot p G' n → OExt (Pown p) G G' → P (.lst (rdD (ofTale st hs))) G'
theorem ok_heard (T : Bt mg) (TF : TopFn K mg "_law_heard" s_law_heard p_law_heard) (D__law_draw : Dfn P w K mg base CX0 "_law_draw" p_law_draw c_pdraw 1) : Dfn P w K mg base CX0 "_law_heard" p_law_heard c_heard 2 := by
  refine dfn_of TF sc_law_heard (fun ds G P R ⟨q, E, d, st, most, n, e, _⟩ => by rw [e]; rfl) fun f cdv A outer s H E B hr => ?_
  refine ⟨_, (dss_cons (ds_set (i := 3) sc_law_heard.nd rfl (by first | exact Or.inl rfl | exact Or.inr rfl) (d_listRgM rfl (by rfl) T.list (d_rg1 (by rfl) T.range (d_callB c_len (by rfl) T.len (by decide +kernel) (da_cons (dv (pv 1)) da_nil)))))
      (dss_cons (ds_set (i := 4) sc_law_heard.nd rfl (by first | exact Or.inl rfl | exact Or.inr rfl) (d_callD D__law_draw hr (by rfl) (da_cons (dv (pv 0)) (da_cons (d_op o_add (d_callB (c_min2 rfl) (by rfl) T.min (by decide +kernel) (da_cons (dv (pv 2)) (da_cons (d_callB c_len (by rfl) T.len (by decide +kernel) (da_cons (dv (pv 3)) da_nil)) da_nil))) d_int) da_nil))))
      (dss_one (ds_ret (d_lcP (own := [("house", 5)]) rfl sc_law_heard.nd (di_list (d_frz (d_lc (own := [("k", 6)]) rfl sc_law_heard.nd (di_range1 (by rfl) T.range (da_cons (dv (pv 4)) da_nil)) (blkOk_by (N := n_law_heard) (sc := defScope s_law_heard) (by decide +kernel)) (fun _ _ _ _ _ => (dgw_name (pg_name (i := 6) sc_law_heard.nd rfl (by first | exact Or.inl rfl | exact Or.inr rfl)))) (fun _ _ _ _ _ => dts_nil) (fun _ _ _ _ _ => (d_popAt (dv (pv 3)) (d_callD D__law_draw hr (by rfl) (da_cons (dv (pv 0)) (da_cons (d_callB c_len (by rfl) T.len (by decide +kernel) (da_cons (dv (pv 3)) da_nil)) da_nil)))))))) (blkOk_by (N := n_law_heard) (sc := defScope s_law_heard) (by decide +kernel)) (fun _ _ _ _ _ => (dgw_name (pg_name (i := 5) sc_law_heard.nd rfl (by first | exact Or.inl rfl | exact Or.inr rfl)))) (fun _ _ _ _ _ => dts_nil) (fun _ _ _ _ _ => (d_tup (da_cons (dv (pv 5)) (da_cons (d_ix (dv (pv 1)) (dv (pv 5)) (fun _ _ => rfl)) da_nil))))))))), ?_⟩
  rintro ds G P R ⟨q, E, d, st, most, n, rfl, hst, hl, hm, hT, p⟩
  have stl := hst.len
  have s2 : 2 ≤ sizeLine := by rw [sizeLine_eq]; decide
  simp [and_assoc, dRet, dRetN, dRetC, dChain, r2I, dC, dVar, dEnds, dstart, dOp, dCB, DL.rLen, dCons, dNil, dFld, asL_lst, asQ_lst, asQ_tup, asQ_scr, ins_obj, dNever, dgN, dgNil, dgCons, dgTup, dIf, dNot, dAnd, dOr, dB, dCall, dMeth, dNext, dSeq, dSt, dLst, dTup, dIfE, rIxQ, dDrop, dYes, diL, diR1, diR2, dNeg, dAsg, dwipe, dBM, dBM0, rAppendD, rMin2, rMax2, atI_0, atI_1, atI_2, atI_3, ix4_0, ix4_1, ix4_3, asL_g, asQ_g, now_g, gupd_same, gupd_gupd, Int.ofNat_inj, now_lst, now_int, now_tup, asL_lst, natsD_length, rdD_length, vilD_inj, vil_ins, natsD_inj, rdD_inj, nnD_inj, n_law_heard, dListRgM, dRg1, stl]
  refine ⟨by unfold RgOk; omega, fun la hla => ?_⟩
  have e0 : rgD 0 ((E.length : Int) + 1) = natsD (List.range (E.length + 1)) := rgD0 (E.length + 1)
  rw [e0]
  have hlo : ¬ Pown q la := potSrc.fresh hT hla
  simp [and_assoc, dRet, dRetN, dRetC, dChain, r2I, dC, dVar, dEnds, dstart, dOp, dCB, DL.rLen, dCons, dNil, dFld, asL_lst, asQ_lst, asQ_tup, asQ_scr, ins_obj, dNever, dgN, dgNil, dgCons, dgTup, dIf, dNot, dAnd, dOr, dB, dCall, dMeth, dNext, dSeq, dSt, dLst, dTup, dIfE, rIxQ, dDrop, dYes, diL, diR1, diR2, dNeg, dAsg, dwipe, dBM, dBM0, rAppendD, rMin2, rMax2, atI_0, atI_1, atI_2, atI_3, ix4_0, ix4_1, ix4_3, asL_g, asQ_g, now_g, gupd_same, gupd_gupd, Int.ofNat_inj, now_lst, now_int, now_tup, asL_lst, natsD_length, rdD_length, vilD_inj, vil_ins, natsD_inj, rdD_inj, nnD_inj]
  have e1 : min (most : Int) ((E.length : Int) + 1) + 1 = ((min most (E.length + 1) + 1 : Nat) : Int) := by omega
  rw [e1]
  refine ⟨q, min most (E.length + 1) + 1, n + 40, rfl, by omega, by omega, potSrc.put hT hlo, fun many G1 hmany hT1 hx1 => ?_⟩
  have hl1 : G1 la = some (.lst (natsD (List.range (E.length + 1)))) := hx1 la _ hlo gupd_same
  have hx01 : OExt (Pown q) G G1 := fun a m h1 e => hx1 a m h1 (by rw [gupd_ne (gne e hla)]; exact e)
  simp [and_assoc, dRet, dRetN, dRetC, dChain, r2I, dC, dVar, dEnds, dstart, dOp, dCB, DL.rLen, dCons, dNil, dFld, asL_lst, asQ_lst, asQ_tup, asQ_scr, ins_obj, dNever, dgN, dgNil, dgCons, dgTup, dIf, dNot, dAnd, dOr, dB, dCall, dMeth, dNext, dSeq, dSt, dLst, dTup, dIfE, rIxQ, dDrop, dYes, diL, diR1, diR2, dNeg, dAsg, dwipe, dBM, dBM0, rAppendD, rMin2, rMax2, atI_0, atI_1, atI_2, atI_3, ix4_0, ix4_1, ix4_3, dLcP]
  refine pops (own := Pown q) (R := Pot q) potSrc n la (natsD (List.range (E.length + 1))) (natsD (List.range many)) (hT1.mono (by rw [natsD_length, List.length_range]; omega)) (by rw [natsD_length, List.length_range]; omega) (by rw [natsD_length, natsD_length, List.length_range, List.length_range]; omega) hl1 hlo (fun P p => ?_) (fun i d G' m rest P' hd hl hpos hle hR p' => ?_) (fun ys rest G4 hp hys hR hx4 hrest => ?_)
  · simp [and_assoc, dRet, dRetN, dRetC, dChain, r2I, dC, dVar, dEnds, dstart, dOp, dCB, DL.rLen, dCons, dNil, dFld, asL_lst, asQ_lst, asQ_tup, asQ_scr, ins_obj, dNever, dgN, dgNil, dgCons, dgTup, dIf, dNot, dAnd, dOr, dB, dCall, dMeth, dNext, dSeq, dSt, dLst, dTup, dIfE, rIxQ, dDrop, dYes, diL, diR1, diR2, dNeg, dAsg, dwipe, dBM, dBM0, rAppendD, rMin2, rMax2, atI_0, atI_1, atI_2, atI_3, ix4_0, ix4_1, ix4_3]
    rw [upto0]
    exact ⟨by omega, p⟩
  · simp [and_assoc, dRet, dRetN, dRetC, dChain, r2I, dC, dVar, dEnds, dstart, dOp, dCB, DL.rLen, dCons, dNil, dFld, asL_lst, asQ_lst, asQ_tup, asQ_scr, ins_obj, dNever, dgN, dgNil, dgCons, dgTup, dIf, dNot, dAnd, dOr, dB, dCall, dMeth, dNext, dSeq, dSt, dLst, dTup, dIfE, rIxQ, dDrop, dYes, diL, diR1, diR2, dNeg, dAsg, dwipe, dBM, dBM0, rAppendD, rMin2, rMax2, atI_0, atI_1, atI_2, atI_3, ix4_0, ix4_1, ix4_3, asL_g, asQ_g, now_g, gupd_same, gupd_gupd, Int.ofNat_inj, now_lst, now_int, now_tup, asL_lst, natsD_length, rdD_length, vilD_inj, vil_ins, natsD_inj, rdD_inj, nnD_inj, asL_ref hl, asQ_ref hl]
    refine ⟨q, rest.length, m, rfl, hpos, by omega, hR, fun r G3 hr3 hT3 hx3 => ?_⟩
    obtain ⟨y, hy⟩ : ∃ y, rest[r]? = some y := ⟨_, List.getElem?_eq_getElem hr3⟩
    exact ⟨la, rest, (r : Int), r, y, rfl, rfl, hx3 la _ hlo hl, by omega, by omega, by rw [seqIndex?]; simp; omega, hy, p' r y G3 hy hT3 hx3⟩
  obtain ⟨ml, eml, hml⟩ := natsD_perm hp
  obtain ⟨hs, hs2, rfl, e3⟩ : ∃ a b : List Nat, ys = natsD a ∧ ml = a ++ b := by
    refine ⟨ml.take ys.length, ml.drop ys.length, ?_, (List.take_append_drop _ _).symm⟩
    have := congrArg (List.take ys.length) eml
    rw [List.take_left, natsD_take] at this
    exact this
  have hh : Heard E hs := by
    have nd : ml.Nodup := hml.nodup_iff.mpr List.nodup_range
    rw [e3] at nd hml
    exact ⟨(List.nodup_append.mp nd).1, fun h hm => List.mem_range.mp (hml.mem_iff.mp (List.mem_append_left _ hm))⟩
  have hll := hh.len
  refine ⟨_, rfl, by rw [natsD_length]; exact small1000 (by omega), fun _ => true, natF fun h => npD (h, st.getD h 0), fun z G' hz hG => ?_, ?_⟩
  · obtain ⟨y, hy, rfl⟩ := natsD_mem hz
    obtain ⟨f, hf⟩ : ∃ f : Nat → Nat, ∀ x, f x = st.getD x 0 := ⟨_, fun _ => rfl⟩
    have hat := atI_nats (hst.at (hh.lt y hy)).1
    rw [← hf] at hat
    have e4 : natF (fun h => npD (h, st.getD h 0)) (Dt.int (y : Int)) = .tup [.int (y : Int), .int (f y : Int)] := by rw [hf]; rfl
    rw [e4]
    exact ⟨rfl, _, _, rfl, rfl, _, hat, s2, rfl⟩
  · rw [filt_true, natF_map]
    have := p hs G4 hh hR (fun a m h1 e => hx4 a m h1 (fun z => by rw [z, hla] at e; cases e) (hx01 a m h1 e))
    unfold ofTale rdD at this
    rw [List.map_map] at this
    exact this
abbrev s_law_folk : Stmt := top 34
abbrev n_law_folk : List Str := ["lines", "heard", "made", "here", "there"]
abbrev p_law_folk : List Str := ["lines", "heard"]
theorem sc_law_folk : FnScope n_law_folk p_law_folk (defScope s_law_folk) := ⟨rfl, rfl, rfl, by decide +kernel, rfl, by decide +kernel, by decide +kernel⟩
def c_folk (C D : Addr) : DSp := fun ds G P _ => ∃ (E : List (Nat × Nat)) (d : Nat → Nat → Nat) (st hs : List Nat), ds = [.lst (rdD E), .lst (rdD (ofTale st hs))] ∧ TV0 E d ∧ Tale E d st ∧ Heard E hs ∧ ∀ p, G p = none → P (.ref p) (gupd G p (repM D C E d (sortP (ofTale st hs))))
theorem ok_folk (T : TR K mg C D) (TF : TopFn K mg "_law_folk" s_law_folk p_law_folk) (D_Village : Dmk P w K mg base CX0 C p_V_init (c_vinit C) 3) (D_Reports : Dmk P w K mg base CX0 D p_R_init (c_rinit C D) 5) (M_tell : Dmt P w K mg base CX0 D "tell" p_R_tell (c_rtell C D) 5) : Dfn P w K mg base CX0 "_law_folk" p_law_folk (c_folk C D) 7 := by
  refine dfn_of TF sc_law_folk (fun ds G P R ⟨E, d, st, hs, e, _⟩ => by rw [e]; rfl) fun f cdv A outer s H E B hr => ?_
  refine ⟨_, (dss_cons (ds_set (i := 2) sc_law_folk.nd rfl (by first | exact Or.inl rfl | exact Or.inr rfl) (d_makeD D_Reports hr (by rfl) T.mgReports (da_cons (d_frzMake D_Village hr (by rfl) T.mgVillage (da_cons (dv (pv 0)) da_nil)) da_nil)))
      (dss_cons (ds_for PassesOwn.never rfl (di_list (dv (pv 1))) (dg_tup (n := 2) rfl (dgs_cons (dg_name (pg_name (i := 3) sc_law_folk.nd rfl (by first | exact Or.inl rfl | exact Or.inr rfl))) (dgs_cons (dg_name (pg_name (i := 4) sc_law_folk.nd rfl (by first | exact Or.inl rfl | exact Or.inr rfl))) dgs_nil))) (dss_one (ds_expr (d_methD (dv (pv 2)) T.clR M_tell hr (da_cons (dv (pv 3)) (da_cons (dv (pv 4)) da_nil))))))
      (dss_one (ds_ret (dv (pv 2)))))), ?_⟩
  rintro ds G P R ⟨E, d, st, hs, rfl, hE, hst, hh, p⟩
  have hll := hh.len
  have hEl := hE.l
  simp [and_assoc, dRet, dRetN, dRetC, dChain, r2I, dC, dVar, dEnds, dstart, dOp, dCB, DL.rLen, dCons, dNil, dFld, asL_lst, asQ_lst, asQ_tup, asQ_scr, ins_obj, dNever, dgN, dgNil, dgCons, dgTup, dIf, dNot, dAnd, dOr, dB, dCall, dMeth, dNext, dSeq, dSt, dLst, dTup, dIfE, rIxQ, dDrop, dYes, diL, diR1, diR2, dNeg, dAsg, dwipe, dBM, dBM0, rAppendD, rMin2, rMax2, atI_0, atI_1, atI_2, atI_3, ix4_0, ix4_1, ix4_3, asL_g, asQ_g, now_g, gupd_same, gupd_gupd, Int.ofNat_inj, now_lst, now_int, now_tup, asL_lst, natsD_length, rdD_length, vilD_inj, vil_ins, natsD_inj, rdD_inj, nnD_inj, n_law_folk, dFrz, dMake]
  refine made rfl hE.t hE.l hE.d ?_
  intro q hq
  refine ⟨q, E, d, rfl, hE, gupd_same, rfl, ?_⟩
  rw [gupd_gupd]
  refine dFor_intro (rdD (ofTale st hs)) (gupd G q (repM D C E d [])) (fun i δ G' => ∃ o3 o4, δ = [some (.lst (rdD E)), some (.lst (rdD (ofTale st hs))), some (.ref q), o3, o4] ∧ G' = gupd G q (repM D C E d (sortP ((ofTale st hs).take i)))) (fun P p => by simp [and_assoc, dRet, dRetN, dRetC, dChain, r2I, dC, dVar, dEnds, dstart, dOp, dCB, DL.rLen, dCons, dNil, dFld, asL_lst, asQ_lst, asQ_tup, asQ_scr, ins_obj, dNever, dgN, dgNil, dgCons, dgTup, dIf, dNot, dAnd, dOr, dB, dCall, dMeth, dNext, dSeq, dSt, dLst, dTup, dIfE, rIxQ, dDrop, dYes, diL, diR1, diR2, dNeg, dAsg, dwipe, dBM, dBM0, rAppendD, rMin2, rMax2, atI_0, atI_1, atI_2, atI_3, ix4_0, ix4_1, ix4_3, asL_g, asQ_g, now_g, gupd_same, gupd_gupd, Int.ofNat_inj, now_lst, now_int, now_tup, asL_lst, natsD_length, rdD_length, vilD_inj, vil_ins, natsD_inj, rdD_inj, nnD_inj]; exact p) ⟨_, _, rfl, by simp [sortP]⟩ ?_ ?_
  · rintro i dd δ G1 hd ⟨o3, o4, rfl, rfl⟩
    obtain ⟨r, hrr, rfl⟩ := rdD_get hd
    have hm := List.mem_of_getElem? hrr
    have hinv := hh.inv hst
    have hsp := sortP_perm ((ofTale st hs).take i)
    have sub : ∀ a ∈ sortP ((ofTale st hs).take i), a ∈ ofTale st hs := fun a ha => List.mem_of_mem_take (hsp.mem_iff.mp ha)
    obtain ⟨x, y⟩ := r
    obtain ⟨hx, hy⟩ := ofTale_mem.mp hm
    have hrep : Rep D C E d (sortP ((ofTale st hs).take i)) (gupd G q (repM D C E d (sortP ((ofTale st hs).take i)))) q := gupd_same
    simp [and_assoc, dRet, dRetN, dRetC, dChain, r2I, dC, dVar, dEnds, dstart, dOp, dCB, DL.rLen, dCons, dNil, dFld, asL_lst, asQ_lst, asQ_tup, asQ_scr, ins_obj, dNever, dgN, dgNil, dgCons, dgTup, dIf, dNot, dAnd, dOr, dB, dCall, dMeth, dNext, dSeq, dSt, dLst, dTup, dIfE, rIxQ, dDrop, dYes, diL, diR1, diR2, dNeg, dAsg, dwipe, dBM, dBM0, rAppendD, rMin2, rMax2, atI_0, atI_1, atI_2, atI_3, ix4_0, ix4_1, ix4_3, asL_g, asQ_g, now_g, gupd_same, gupd_gupd, Int.ofNat_inj, now_lst, now_int, now_tup, asL_lst, natsD_length, rdD_length, vilD_inj, vil_ins, natsD_inj, rdD_inj, nnD_inj, npD, pairD, rep_ins hrep, rm "tell"]
    refine ⟨q, E, d, _, x, y, rfl, hE, hrep, ?_, fun a ha => hinv a (sub a ha), (hinv _ hm).1, (hinv _ hm).2, fun a ha => ?_, ?_⟩
    · have := hsp.length_eq
      rw [List.length_take, ofTale_length] at this
      omega
    · rw [hy]
      exact hh.fits hst hE.t hE.d (hh.lt x hx) a (sub a ha)
    · rw [gupd_gupd, take_one_more hrr]
      simp
      have hnew : (x, y) ∉ sortP ((ofTale st hs).take i) := fun ha => by
        have h1 := hsp.mem_iff.mp ha
        obtain ⟨j, hj⟩ := List.getElem?_of_mem h1
        rw [List.getElem?_take] at hj
        split at hj
        · obtain ⟨a1, b1⟩ := List.getElem?_eq_some_iff.mp hrr
          obtain ⟨a2, b2⟩ := List.getElem?_eq_some_iff.mp hj
          have := (List.getElem_inj (ofTale_nodup (st := st) hh.nd) (i := j) (j := i)).mp (b2.trans b1.symm)
          omega
        · cases hj
      unfold tellH
      rw [if_neg hnew, sortP_congr (hsp.append_right [(x, y)])]
  · rintro δ G1 ⟨o3, o4, rfl, rfl⟩
    rw [rdD_length, List.take_length]
    simp [and_assoc, dRet, dRetN, dRetC, dChain, r2I, dC, dVar, dEnds, dstart, dOp, dCB, DL.rLen, dCons, dNil, dFld, asL_lst, asQ_lst, asQ_tup, asQ_scr, ins_obj, dNever, dgN, dgNil, dgCons, dgTup, dIf, dNot, dAnd, dOr, dB, dCall, dMeth, dNext, dSeq, dSt, dLst, dTup, dIfE, rIxQ, dDrop, dYes, diL, diR1, diR2, dNeg, dAsg, dwipe, dBM, dBM0, rAppendD, rMin2, rMax2, atI_0, atI_1, atI_2, atI_3, ix4_0, ix4_1, ix4_3, asL_g, asQ_g, now_g, gupd_same, gupd_gupd, Int.ofNat_inj, now_lst, now_int, now_tup, asL_lst, natsD_length, rdD_length, vilD_inj, vil_ins, natsD_inj, rdD_inj, nnD_inj]
    exact p q hq
end
end V

set_option Elab.async false
set_option linter.all false
set_option maxRecDepth 100000
set_option maxHeartbeats 1000000
/-! min of a list of pairs; isinstance with two classes; reverse. -/
namespace DL
open PySem PySem.Spec L2 PySem.W PySem.SeqAt
def pyP (p : Int × Int) : PyData := .tuple [.int p.1, .int p.2]
theorem dpAll_pairs {K : PySem.W.Frag} {F H : Hp} (le : ∀ a o, F a = some o → notM o = true → H a = some o) : ∀ {vs : List V} {l : List (Int × Int)}, IsL K F vs (l.map pairD) → DpAll K H vs (l.map pyP)
  | _, [], h => by cases h; exact .nil
  | _, q :: l, h => by
    cases h with
    | cons a b => exact .cons (pl_is le 8 (d := pairD q) (by simp [pl, pairD]) a) (dpAll_pairs le b)
theorem minOf_mem (x : Int × Int) (xs : List (Int × Int)) : minOf x xs ∈ x :: xs := by
  unfold minOf
  induction xs generalizing x with
  | nil => simp
  | cons y ys ih =>
    rw [List.foldl_cons]
    split
    · exact List.mem_cons_of_mem _ (ih y)
    · rcases List.mem_cons.mp (ih x) with e | e
      · rw [e]; exact List.mem_cons_self
      · exact List.mem_cons_of_mem _ (List.mem_cons_of_mem _ e)
theorem lt_pair (a b : Int × Int) : DatumOrd.lt a b = true ↔ a.1 < b.1 ∨ (a.1 = b.1 ∧ a.2 < b.2) := by
  show (if a.1 = b.1 then decide (a.2 < b.2) else decide (a.1 < b.1)) = true ↔ _
  by_cases h : a.1 = b.1
  · rw [if_pos h, decide_eq_true_eq]
    constructor
    · exact fun z => .inr ⟨h, z⟩
    · rintro (z | z)
      · omega
      · exact z.2
  · rw [if_neg h, decide_eq_true_eq]
    constructor
    · exact .inl
    · rintro (z | z)
      · exact z
      · exact absurd z.1 h
theorem minOf_le (x : Int × Int) (xs : List (Int × Int)) : ∀ y ∈ x :: xs, leP (minOf x xs) y := by
  have key : ∀ (xs : List (Int × Int)) (x : Int × Int), leP (minOf x xs) x ∧ ∀ y ∈ xs, leP (minOf x xs) y := by
    intro xs
    induction xs with
    | nil => intro x; exact ⟨.inr ⟨rfl, Int.le_refl _⟩, by simp⟩
    | cons z zs ih =>
      intro x
      have e : minOf x (z :: zs) = minOf (if DatumOrd.lt z x = true then z else x) zs := rfl
      rw [e]
      obtain ⟨h1, h2⟩ := ih (if DatumOrd.lt z x = true then z else x)
      generalize hm : minOf (if DatumOrd.lt z x = true then z else x) zs = m at h1 h2 ⊢
      by_cases c : DatumOrd.lt z x = true
      · rw [if_pos c] at h1
        have c' := (lt_pair z x).mp c
        refine ⟨by unfold leP at *; omega, fun y hy => ?_⟩
        rcases List.mem_cons.mp hy with e | e
        · subst e; exact h1
        · exact h2 y e
      · rw [if_neg c] at h1
        have c' : ¬ (z.1 < x.1 ∨ (z.1 = x.1 ∧ z.2 < x.2)) := fun q => c ((lt_pair z x).mpr q)
        refine ⟨h1, fun y hy => ?_⟩
        rcases List.mem_cons.mp hy with e | e
        · subst e; unfold leP at *; omega
        · exact h2 y e
  intro y hy
  obtain ⟨h1, h2⟩ := key xs x
  rcases List.mem_cons.mp hy with e | e
  · subst e; exact h1
  · exact h2 y e
section
variable {X : Cx} {B : Hp}
theorem call_minPs (hc : X.calm = true) (hu : X.A.units + 10 < cLine) : CallR X (.builtin "min") (fun vs H Q => ∃ (a : Addr) (ws : List V) (x : Int × Int) (xs : List (Int × Int)), vs = [V.ref a] ∧ SqL X.K H a ws ∧ DpAll X.K H ws ((x :: xs).map pyP) ∧ ∀ (i : Nat) (w : V), ws[i]? = some w → (x :: xs)[i]? = some (minOf x xs) → Q w H) := by
  rintro pins s σ H vs us Q I r ⟨a, ws, x, xs, rfl, hq, hd, q⟩
  rw [Vals.ref1 r]
  obtain ⟨its, rv, ht, hz⟩ := I.list hq
  obtain ⟨as, rs⟩ := Dp.readsAll I _ _ _ hd rv
  have hx : (x :: xs).map pyP = (x :: xs).map Datum.toD := rfl
  rw [hx] at rs
  refine min_list_datum (α := Int × Int) (I.ok.hd hc) ht.isList (xs := xs) (x := x) ⟨as, by simpa using rs⟩ (by
    have : Datum.depth (Int × Int) ≤ 1 := (by decide +kernel)
    omega) fun i v h' tk hi Hm hk => ?_
  have hil : i < its.length := by
    have := (Array.getElem?_eq_some_iff.mp hi).1
    simpa using this
  have hiv : its[i]? = some v := by simpa using hi
  have hwl : i < ws.length := by rw [rv.length]; exact hil
  obtain ⟨u, h1, h2⟩ := rv.get (i := i) (List.getElem?_eq_getElem hwl)
  rw [hiv] at h1
  cases h1
  have hil2 : i < (x :: xs).length := by
    have := SeqAt.ReadsAll.length _ _ _ rs
    rw [List.length_map] at this
    omega
  have hm : (x :: xs)[i]? = some (minOf x xs) := by
    obtain ⟨as', rs'⟩ := HoldAll.keeps hk (xs := x :: xs) ⟨as, by simpa using rs⟩
    have e1 := readsAll_map_plain _ _ _ (plainAll_map (x :: xs)) rs'
    obtain ⟨bs, hb⟩ := Hm
    have e2 := readOf_plain (Datum.plain (minOf x xs)) hb
    have e3 := congrArg (·[i]?) e1
    simp only [List.getElem?_map, hiv, List.getElem?_eq_getElem hil2, Option.map_some, e2] at e3
    have e4 : Datum.toD (minOf x xs) = Datum.toD (x :: xs)[i] := by simpa using e3
    have e5 : (minOf x xs) = (x :: xs)[i] := by
      have := Datum.eqv (minOf x xs) (x :: xs)[i]
      rw [e4] at this
      have h6 := Datum.eqv (x :: xs)[i] (x :: xs)[i]
      rw [h6] at this
      exact of_decide_eq_true (this.symm.trans (decide_eq_true rfl))
    rw [List.getElem?_eq_getElem hil2, ← e5]
  exact ⟨ws[i], H, I.kept hk, h2, q i _ (List.getElem?_eq_getElem hwl) hm⟩
def rMinPs : DR := fun ds G P => ∃ (d : Dt) (ns : List (Int × Int)), ds = [d] ∧ asL G d = some (ns.map pairD) ∧ 0 < ns.length ∧ ∀ m, m ∈ ns → (∀ y ∈ ns, leP m y) → P (pairD m) G
theorem c_minPs {k : Nat} (hc : X.calm = true) (hr : Room k X.A) : DCall X B (.builtin "min") rMinPs := ⟨_, call_minPs hc (by have := hr.un; omega), fun F G H vs ds P Q g i ⟨d, ns, e, h, hl, p⟩ c => by
  subst e
  cases i with
  | cons i1 i2 =>
    cases i2
    obtain ⟨q, ws, rfl, e2, r⟩ := asL_is g i1 h
    cases ns with
    | nil => simp at hl
    | cons x xs =>
      refine ⟨q, ws, x, xs, rfl, SqL.of e2, dpAll_pairs g.fz0 r, fun i w hw hm => ?_⟩
      obtain ⟨dd, h1, h2⟩ := r.getV hw
      rw [List.getElem?_map, hm] at h1
      cases h1
      exact c _ G _ F H (p _ (minOf_mem x xs) (minOf_le x xs)) (Le.refl F) g h2⟩
end
end DL

set_option Elab.async false
set_option linter.all false
set_option maxRecDepth 100000
set_option maxHeartbeats 1000000
/-! A comprehension over zip(xs, ys), lists that stay; isinstance with classes in a tuple; reverse. -/
namespace DL
open PySem PySem.Spec L2
section
variable {X : Cx} {B : Hp} {e a b o : Expr} {es : List Expr} {st : Stmt} {rest : List Stmt} {pos apos : Pos} {ta tb te to : DTE} {tl : DTA} {t u : DTS}
variable {elt tg iter : Expr} {ifs : List Expr} {scope : Scope} {own : List (Str × Nat)} {wi : DTIM} {g : DTG} {tt : DTT}
/-- as dLcP; what is walked stays as long as all that stands does -/
def dLcPM (wi : DTIM) (g : DTG) (tt : DTT) (te : DTE) (vs : List Nat) : DTE := fun δ G P => wi δ G fun ds C G1 => (∀ G', GLe G1 G' → C G') ∧ ds.length < sizeLine ∧ ∃ (p : Dt → Bool) (f : Dt → Dt),
  (∀ d G', d ∈ ds → GLe G1 G' → g d (dwipe δ vs) G' fun δ2 G2 => G2 = G' ∧ tt δ2 G2 fun b G3 => G3 = G' ∧ b = p d ∧ (b = true → te δ2 G3 fun y G4 => G4 = G' ∧ y = f d)) ∧ P (.lst ((ds.filter p).map f)) G1
theorem lcPM_imp {vs : List Nat} : ∀ σ H Q, tD X.K B (dLcPM wi g tt te vs) σ H Q → tLc (tDIM X.K B wi) (tDGw X.K B vs g) (tDT X.K B tt) (tD X.K B te) vs σ H Q := fun σ H Q ⟨F, G, δ, P, gd, s, p, c⟩ => by
  refine ⟨F, G, δ, _, gd, s, p, fun ds Cc G1 F1 H1 J ⟨hC, hz, pp, ff, turn, fin⟩ l1 g1 dl D hD => ?_⟩
  have gD := g1.gnone hD
  refine ⟨fun i m H => m = ds.length - i ∧ i ≤ ds.length ∧ ∃ F', Le F1 F' ∧ Good X.K B F' (gupd G1 D (.lst (((ds.take i).filter pp).map ff))) H, ⟨_, rfl, Nat.zero_le _, F1, Le.refl F1, g1.newM hD (m := .lst []) .nil⟩, ?_⟩
  rintro i m H ⟨rfl, hi, F2, l2, g2⟩
  by_cases hlt : i < ds.length
  · have hd := List.getElem?_eq_getElem hlt
    refine .inr ⟨dl.go i F2 _ H l2 g2 (hC _ (GLe.gupd gD)) hlt, fun H' => ∃ F', Le F1 F' ∧ Good X.K B F' (gupd G1 D (.lst (((ds.take (i + 1)).filter pp).map ff))) H', fun H' h => ⟨ds.length - (i + 1), by omega, rfl, hlt, h⟩, fun x H' y => ?_⟩
    obtain ⟨F3, l3, g3, i3⟩ := dl.yl i F2 _ H x H' _ l2 g2 (hC _ (GLe.gupd gD)) hd y
    have l13 : Le F F3 := (l1.trans l2).trans l3
    refine ⟨F3, _, _, _, _, g3, (s.le l13).wipe vs, i3, turn _ _ (List.getElem_mem hlt) (GLe.gupd gD), fun δ4 G4 σ4 F4 H4 p4 l4 g4 s4 e4 => ⟨e4.trans (wipe_wipe vs), ?_⟩⟩
    obtain ⟨rfl, p4⟩ := p4
    refine ⟨F4, _, δ4, _, g4, s4, p4, fun b G5 F5 H5 p5 l5 g5 => ?_⟩
    obtain ⟨rfl, hb, p5⟩ := p5
    have lens : (((ds.take i).filter pp).map ff).length < sizeLine := by
      rw [List.length_map]
      refine Nat.lt_of_le_of_lt (Nat.le_trans (List.length_filter_le _ _) ?_) hz
      rw [List.length_take]
      exact Nat.min_le_right _ _
    cases b with
    | true =>
      refine ⟨F5, _, δ4, _, g5, s4.le l5, p5 rfl, fun d G6 v F6 H6 ⟨e6, hy⟩ l6 g6 i6 => ?_⟩
      subst e6
      subst hy
      obtain ⟨vs', e6, r6⟩ := g6.mlst gupd_same
      refine ⟨vs', e6, by rw [r6.length]; exact lens, F6, ((l2.trans l3).trans l4).trans (l5.trans l6), ?_⟩
      have w := g6.write gupd_same (o := .lst (vs' ++ [v])) (m := .lst (((ds.take i).filter pp).map ff ++ [ff ds[i]])) (r6.append (.one i6))
      rw [gupd_gupd] at w
      rw [filter_take_succ hd, if_pos hb.symm, List.map_append]
      exact w
    | false =>
      rw [if_neg Bool.false_ne_true]
      refine ⟨F5, ((l2.trans l3).trans l4).trans l5, ?_⟩
      rw [filter_take_succ hd, if_neg (by rw [← hb]; exact Bool.false_ne_true), List.append_nil]
      exact g5
  · have e : i = ds.length := by omega
    subst e
    rw [List.take_length] at g2
    refine .inl ⟨dl.st _ F2 _ H l2 g2 (hC _ (GLe.gupd gD)) (Nat.le_refl _), ?_⟩
    obtain ⟨F4, l4, g4, i4⟩ := g2.freezeL gupd_same
    rw [gdel_gupd gD] at g4
    exact c _ G1 _ F4 H fin ((l1.trans l2).trans l4) g4 i4
theorem d_lcPM (hc : X.calm = true) (hN : X.N.Nodup) (hi : DIM X B tg iter wi) (ok : BlkOk X.N X.env.scope scope own)
    (hg : ∀ (s : Shared) (H : Hp) (C : Addr) (cl : List (Str × Addr)) (fp : List Addr), PG (X.blk s H scope (compEnvC scope cl C X.env) fp) tg (tDGw X.K B (own.map (·.2)) g)) (ht : ∀ (s : Shared) (H : Hp) (C : Addr) (cl : List (Str × Addr)) (fp : List Addr), PTs (X.blk s H scope (compEnvC scope cl C X.env) fp) ifs (tDT X.K B tt))
    (he : ∀ (s : Shared) (H : Hp) (C : Addr) (cl : List (Str × Addr)) (fp : List Addr), PE (X.blk s H scope (compEnvC scope cl C X.env) fp) elt (tD X.K B te)) (hs : ∀ x, foldedSetIterable iter X.env x = pure x := by intro _; rfl) :
    DE X B (.ListComp elt [⟨tg, iter, ifs, 0⟩] scope pos) (dLcPM wi g tt te (own.map (·.2))) := PE.imp (pe_lc hc hN hi ok hg ht he hs) lcPM_imp
theorem ds_setLcPM {i : Nat} {y : Str} {py spos : Pos} (hc : X.calm = true) (hN : X.N.Nodup) (hy : X.N[i]? = some y) (hyl : X.env.scope.names.lookup y = some .local)
    (hsw : swapsWith (.ListComp elt [⟨tg, iter, ifs, 0⟩] scope pos) (some (.Name y py)) spos.line X.env = pure true) (hi : DIM X B tg iter wi) (ok : BlkOk X.N X.env.scope scope own)
    (hg : ∀ (s : Shared) (H : Hp) (C : Addr) (cl : List (Str × Addr)) (fp : List Addr), PG (X.blk s H scope (compEnvC scope cl C X.env) fp) tg (tDGw X.K B (own.map (·.2)) g)) (ht : ∀ (s : Shared) (H : Hp) (C : Addr) (cl : List (Str × Addr)) (fp : List Addr), PTs (X.blk s H scope (compEnvC scope cl C X.env) fp) ifs (tDT X.K B tt))
    (he : ∀ (s : Shared) (H : Hp) (C : Addr) (cl : List (Str × Addr)) (fp : List Addr), PE (X.blk s H scope (compEnvC scope cl C X.env) fp) elt (tD X.K B te)) (hs : ∀ x, foldedSetIterable iter X.env x = pure x := by intro _; rfl) :
    DS X B (.Assign [.Name y py] (.ListComp elt [⟨tg, iter, ifs, 0⟩] scope pos) spos) (dSt i (dLcPM wi g tt te (own.map (·.2)))) :=
  ds_set0 _ (L2.ps_setLc hc hN hy hyl hsw hi ok hg ht he hs) lcPM_imp
def zipD : List Dt → List Dt → List Dt
  | x :: xs, y :: ys => .tup [x, y] :: zipD xs ys
  | _, _ => []
theorem zipD_length : ∀ {xs ys : List Dt}, (zipD xs ys).length = min xs.length ys.length
  | [], _ => by simp [zipD]
  | _ :: _, [] => by simp [zipD]
  | x :: xs, y :: ys => by
    have := zipD_length (xs := xs) (ys := ys)
    simp only [zipD, List.length_cons, this]
    omega
theorem zipD_get : ∀ {xs ys : List Dt} {i : Nat} {d : Dt}, (zipD xs ys)[i]? = some d → ∃ x y, xs[i]? = some x ∧ ys[i]? = some y ∧ d = .tup [x, y]
  | [], _, _, _, h => by simp [zipD] at h
  | _ :: _, [], _, _, h => by simp [zipD] at h
  | x :: xs, y :: ys, 0, d, h => by
    cases h
    exact ⟨x, y, rfl, rfl, rfl⟩
  | x :: xs, y :: ys, i + 1, d, h => zipD_get (xs := xs) (ys := ys) (i := i) h
def diZipM (t : DTA) : DTIM := fun δ G P => t δ G fun ds G1 => ∃ d d' xs ys, ds = [d, d'] ∧ asL G1 d = some xs ∧ asL G1 d' = some ys ∧ P (zipD xs ys) (fun G' => asL G' d = some xs ∧ asL G' d' = some ys) G1
theorem di_zipM {elts : List Expr} {kk : Nat} {tpos p : Pos} {e2 : Expr} (hg : Gl X "zip") (hm : X.mg "zip" = none) (ha : DA X B [e, e2] tl) (hs : starEach [e, e2] X.env = (false, eval e X.env) :: starEach [e2] X.env := by rfl) (hpl : (backTo pos (starEach [e2] X.env)).any (·.1) = false := by rfl) : DIM X B (.Tuple elts kk tpos) (.Call (.Name "zip" p) [e, e2] [] pos) (diZipM tl) :=
  PI.imp (pi_zip hg hm ha hs hpl) fun σ H R ⟨F, G, δ, P, g, s, p, c⟩ => ⟨F, G, δ, _, g, s, p, fun ds G1 vs F1 H1 ⟨d, d', xs, ys, e1, e2, e3, p1⟩ l1 g1 i1 => by
    subst e1
    cases i1 with
    | cons i1 i2 =>
      cases i2 with
      | cons i2 i3 =>
        cases i3
        obtain ⟨q, ws, rfl, h1, r1⟩ := asL_is g1 i1 e2
        obtain ⟨q2, ws2, rfl, h2, r2⟩ := asL_is g1 i2 e3
        refine ⟨q, q2, ws, ws2, rfl, SqL.of h1, SqL.of h2, c _ _ G1 F1 H1 _ p1 l1 g1 ⟨fun i F' G H l g hC hi => ?_, fun i F' G H x H' d' l g hC hd ⟨T, w, w2, e, hT, e', hx, hy⟩ => ?_, fun i F' G H l g hC hi => ?_⟩⟩
        · obtain ⟨_, ws', eq1, k1, s1⟩ := asL_is g (i1.le l) hC.1
          obtain ⟨_, ws2', eq2, k2, s2⟩ := asL_is g (i2.le l) hC.2
          cases eq1; cases eq2
          rw [zipD_length] at hi
          exact ⟨_, _, _, _, SqL.of k1, SqL.of k2, List.getElem?_eq_getElem (by rw [s1.length]; omega), List.getElem?_eq_getElem (by rw [s2.length]; omega)⟩
        · subst e; subst e'
          obtain ⟨_, ws', eq1, k1, s1⟩ := asL_is g (i1.le l) hC.1
          obtain ⟨_, ws2', eq2, k2, s2⟩ := asL_is g (i2.le l) hC.2
          cases eq1; cases eq2
          obtain ⟨x, y, hx', hy', rfl⟩ := zipD_get hd
          have a1 := hx _ (SqL.of k1)
          have a2 := hy _ (SqL.of k2)
          obtain ⟨v, b1, c1⟩ := s1.get hx'
          obtain ⟨v2, b2, c2⟩ := s2.get hy'
          rw [a1] at b1; cases b1
          rw [a2] at b2; cases b2
          obtain ⟨l2, g2⟩ := g.newF hT (.tup [w, w2])
          exact ⟨_, l2, g2, .tup upd_same (.cons (c1.le l2) (.one (c2.le l2)))⟩
        · obtain ⟨_, ws', eq1, k1, s1⟩ := asL_is g (i1.le l) hC.1
          obtain ⟨_, ws2', eq2, k2, s2⟩ := asL_is g (i2.le l) hC.2
          cases eq1; cases eq2
          rw [zipD_length] at hi
          exact ⟨_, _, SqL.of k1, SqL.of k2, by rw [s1.length, s2.length]; omega⟩⟩
def diLM (te : DTE) : DTIM := fun δ G P => te δ G fun d G1 => ∃ xs, asL G1 d = some xs ∧ P xs (fun G' => asL G' d = some xs) G1
theorem di_listM {tg : Expr} (h : DE X B e te) : DIM X B tg e (diLM te) := PI.imp (pi_list h) fun σ H R ⟨F, G, δ, P, g, s, p, c⟩ =>
  ⟨F, G, δ, _, g, s, p, fun d G1 v F1 H1 ⟨xs, e, p1⟩ l1 g1 i1 => by
    obtain ⟨q, ws, rfl, h1, r1⟩ := asL_is g1 i1 e
    refine ⟨_, rfl, ⟨_, SqL.of h1⟩, c _ _ G1 F1 H1 _ p1 l1 g1 ⟨fun i F' G H l g hC hi => ?_, fun i F' G H x H' d' l g hC hd ⟨e', hx⟩ => ?_, fun i F' G H l g hC hi => ?_⟩⟩
    · obtain ⟨_, ws', eq1, k1, s1⟩ := asL_is g (i1.le l) hC
      cases eq1
      exact ⟨_, _, SqL.of k1, List.getElem?_eq_getElem (by rw [s1.length]; exact hi)⟩
    · subst e'
      obtain ⟨_, ws', eq1, k1, s1⟩ := asL_is g (i1.le l) hC
      cases eq1
      have a1 := hx _ (SqL.of k1)
      obtain ⟨v, b1, c1⟩ := s1.get hd
      rw [a1] at b1; cases b1
      exact ⟨F', Le.refl F', g, c1⟩
    · obtain ⟨_, ws', eq1, k1, s1⟩ := asL_is g (i1.le l) hC
      cases eq1
      exact ⟨_, SqL.of k1, by rw [s1.length]; exact hi⟩⟩
/-! ### isinstance with a tuple of classes -/
def rIsiTD (K : PySem.W.Frag) : DR := fun ds G P => ∃ (d : Dt) (cs : List Dt) (t : Value) (us : List Value) (b : Bool), ds = [d, .tup cs] ∧ tagD G d = some t ∧ cs.map clsD = us.map some ∧ (∀ C, t = .ref C → IsF K C) ∧ PySem.W.kitAny K t us = some b ∧ P (.bl b) G
theorem cls_all {K : PySem.W.Frag} {F : Hp} : ∀ {vs : List V} {cs : List Dt} {us : List Value}, IsL K F vs cs → cs.map clsD = us.map some → Paired ClsV vs us
  | _, [], us, h, e => by
    cases h
    cases us with
    | nil => exact .nil
    | cons _ _ => simp at e
  | _, c :: cs, us, h, e => by
    cases us with
    | nil => simp at e
    | cons u us =>
      cases h with
      | cons a r =>
        rw [List.map_cons, List.map_cons, List.cons.injEq] at e
        refine .cons ?_ (cls_all r e.2)
        have e1 := e.1
        cases a <;> first
          | (cases e1; exact .ty _)
          | (cases e1; exact .own _)
          | cases e1
theorem c_isiT : DCall X B (.builtin "isinstance") (rIsiTD X.K) := ⟨_, call_isiT, fun F G H vs ds P Q g i ⟨d, cs, t, us, b, e, h1, h2, h3, h4, p⟩ k => by
  subst e
  cases i with
  | cons i1 i2 =>
    cases i2 with
    | cons i2 i3 =>
      cases i3
      cases i2 with
      | tup q r => exact ⟨_, _, _, t, us, b, rfl, g.fz _ _ q, cls_all r h2, tag_is g i1 h1 h3, h4, k _ G _ F H p (Le.refl F) g (.bl b)⟩⟩
def rIsiT2D (K : PySem.W.Frag) : DR := fun ds G P => ∃ (d c1 c2 : Dt) (t u1 u2 : Value) (b : Bool), ds = [d, .tup [c1, c2]] ∧ tagD G d = some t ∧ clsD c1 = some u1 ∧ clsD c2 = some u2 ∧ (∀ C, t = .ref C → IsF K C) ∧ PySem.W.kitAny K t [u1, u2] = some b ∧ P (.bl b) G
theorem c_isiT2 : DCall X B (.builtin "isinstance") (rIsiT2D X.K) := by
  obtain ⟨r', h1, h2⟩ := (c_isiT (X := X) (B := B)).ex
  exact ⟨r', h1, fun F G H vs ds P Q g i ⟨d, c1, c2, t, u1, u2, b, e, a1, a2, a3, a4, a5, p⟩ c => h2 F G H vs ds P Q g i ⟨d, [c1, c2], t, [u1, u2], b, e, a1, by simp [a2, a3], a4, a5, p⟩ c⟩
end
end DL

set_option Elab.async false
set_option linter.all false
set_option maxRecDepth 100000
set_option maxHeartbeats 4000000
/-! movedays.moves: who lives nearest. -/
namespace V
open PySem PySem.Spec L2 DL
/-- each two reports fit -/
def Pair (d : Nat → Nat → Nat) (H : List (Nat × Nat)) : Prop := ∀ a ∈ H, ∀ b ∈ H, d a.2 b.2 ≤ d a.1 b.1
theorem kept_arg {d : Nat → Nat → Nat} {x t : Nat} (H : List (Nat × Nat)) : ((kept d x t H).2 = none → (kept d x t H).1 = 0) ∧ ∀ r, (kept d x t H).2 = some r → r ∈ H ∧ d t r.2 = d x r.1 + (kept d x t H).1 := by
  refine rev_ind (M := fun H => ((kept d x t H).2 = none → (kept d x t H).1 = 0) ∧ ∀ r, (kept d x t H).2 = some r → r ∈ H ∧ d t r.2 = d x r.1 + (kept d x t H).1) ⟨fun _ => rfl, fun r h => absurd h (by simp [kept])⟩ (fun H r ih => ?_) H
  rw [kept_snoc]
  unfold keptS
  obtain ⟨h1, h2⟩ := ih
  split
  · refine ⟨fun h => absurd h (by simp), fun q hq => ?_⟩
    cases hq
    refine ⟨by simp, ?_⟩
    show _ = _ + (_ - _)
    omega
  · refine ⟨h1, fun q hq => ?_⟩
    obtain ⟨a, b⟩ := h2 q hq
    exact ⟨by simp [a], b⟩
/-- the house nearest to t of those where who lived in x may live -/
structure NearAt (E : List (Nat × Nat)) (d : Nat → Nat → Nat) (H : List (Nat × Nat)) (x t m : Nat) : Prop where
  lt : m < E.length + 1
  in_ : ∀ q ∈ H, d m q.2 ≤ d x q.1
  at_ : d t m = (kept d x t H).1
  z : ∀ z, z < E.length + 1 → d m z + (kept d x t H).1 ≤ d t z ∨ ∃ r ∈ H, d m z + d x r.1 ≤ d r.2 z
section
variable {E : List (Nat × Nat)} {d : Nat → Nat → Nat} {H : List (Nat × Nat)} {x t : Nat}
theorem near_none (hE : TV0 E d) (ht : t < E.length + 1) (hn : (kept d x t H).2 = none) : NearAt E d H x t t := by
  obtain ⟨h1, _⟩ := kept_max (d := d) (x := x) (t := t) (H := H)
  have h0 := (kept_arg (d := d) (x := x) (t := t) H).1 hn
  rw [h0] at h1
  refine ⟨ht, fun q hq => by have := h1 q hq; omega, by rw [h0, d_self hE.d ht], fun z hz => .inl (by rw [h0]; omega)⟩
theorem near_some (hE : TV0 E d) (hin : InV E H) (pf : Pair d H) (hx : x < E.length + 1) (ht : t < E.length + 1) {r : Nat × Nat} (hr : (kept d x t H).2 = some r) {m : Nat} (hm : m < E.length + 1) (h1 : d t m = (kept d x t H).1) (h2 : d t m + d m r.2 = d t r.2) : NearAt E d H x t m := by
  obtain ⟨k1, _⟩ := kept_max (d := d) (x := x) (t := t) (H := H)
  obtain ⟨hrm, e⟩ := (kept_arg (d := d) (x := x) (t := t) H).2 r hr
  obtain ⟨M, hM⟩ : ∃ M, (kept d x t H).1 = M := ⟨_, rfl⟩
  rw [hM] at h1 k1 e
  have hr2 := (hin r hrm).2
  have hr1 := (hin r hrm).1
  have s1 := d_symm hE.t hE.d hm hr2
  refine ⟨hm, fun q hq => ?_, by rw [hM]; exact h1, fun z hz => ?_⟩
  · have hq1 := (hin q hq).1
    have hq2 := (hin q hq).2
    have f := (four hE.t hE.d t r.2 q.2 m ht hr2 hq2 hm).1
    have k2 := k1 q hq
    have p1 := pf r hrm q hq
    have t1 := d_tri hE.t hE.d hr1 hx hq1
    have s2 := d_symm hE.t hE.d hr1 hx
    have s3 := d_symm hE.t hE.d hq2 hm
    omega
  · have f := (four hE.t hE.d t r.2 z m ht hr2 hz hm).1
    have s3 := d_symm hE.t hE.d hz hm
    rw [hM]
    by_cases c : d m z + M ≤ d t z
    · exact .inl c
    · refine .inr ⟨r, hrm, ?_⟩
      omega
theorem NearAt.le {m : Nat} (n : NearAt E d H x t m) (hE : TV0 E d) (hin : InV E H) (hx : x < E.length + 1) (ht : t < E.length + 1) {p : Nat} (hp : p < E.length + 1) (ha : ∀ q ∈ H, d p q.2 ≤ d x q.1) : d t m ≤ d t p ∧ (d t p = d t m → p = m) := by
  rw [n.at_]
  obtain ⟨_, k2⟩ := kept_max (d := d) (x := x) (t := t) (H := H)
  constructor
  · rcases k2 with e | ⟨r, hr, e⟩
    · omega
    · have := d_tri hE.t hE.d ht hp (hin r hr).2
      have := ha r hr
      omega
  · intro e
    have h0 : d m p = 0 := by
      rcases n.z p hp with h | ⟨r, hr, h⟩
      · omega
      · have := ha r hr
        have := d_symm hE.t hE.d (hin r hr).2 hp
        omega
    exact d_zero hE.d n.lt hp h0
/-- who lived next doors live in one house or next doors -/
theorem NearAt.adj {y u m n : Nat} (a : NearAt E d H x t m) (b : NearAt E d H y u n) (hE : TV0 E d) (hin : InV E H) (hx : x < E.length + 1) (hy : y < E.length + 1) (ht : t < E.length + 1) (hu : u < E.length + 1) (hxy : d x y ≤ 1) (htu : t = u ∨ (t = x ∧ u = y)) : d m n ≤ 1 := by
  have s0 := d_symm hE.t hE.d a.lt b.lt
  have s1 := d_symm hE.t hE.d hx hy
  have k1 : d m n + d t m ≤ d t n ∨ d m n ≤ 1 := by
    rcases a.z n b.lt with h | ⟨r, hr, h⟩
    · rw [← a.at_] at h; exact .inl h
    · have h1 := b.in_ r hr
      have h2 := d_symm hE.t hE.d (hin r hr).2 b.lt
      have h3 := d_tri hE.t hE.d hy hx (hin r hr).1
      exact .inr (by omega)
  have k2 : d n m + d u n ≤ d u m ∨ d n m ≤ 1 := by
    rcases b.z m a.lt with h | ⟨r, hr, h⟩
    · rw [← b.at_] at h; exact .inl h
    · have h1 := a.in_ r hr
      have h2 := d_symm hE.t hE.d (hin r hr).2 a.lt
      have h3 := d_tri hE.t hE.d hx hy (hin r hr).1
      exact .inr (by omega)
  rcases htu with e | ⟨e1, e2⟩
  · subst e; omega
  · subst e1; subst e2
    have t1 := d_tri hE.t hE.d hx hy b.lt
    have t2 := d_tri hE.t hE.d hy hx a.lt
    omega
/-- of a report of x: there -/
theorem NearAt.heard {m : Nat} (n : NearAt E d H x t m) (hE : TV0 E d) (hin : InV E H) {y : Nat} (h : (x, y) ∈ H) : m = y := by
  have h1 := n.in_ _ h
  have hh := hin _ h
  have h0 := d_self hE.d hh.1
  simp only at h1 hh h0
  have : d m y = 0 := by omega
  exact (d_zero hE.d n.lt hh.2 this).symm
end
section
variable {P : Program} {w : World} {K : PySem.W.Frag} {mg : Str → Option Value} {base : Heap} {C D : Addr}
abbrev s_home_nearest : Stmt := top 3
abbrev n_home_nearest : List Str := ["reports", "x", "t", "most", "report"]
abbrev p_home_nearest : List Str := ["reports", "x", "t"]
theorem sc_home_nearest : FnScope n_home_nearest p_home_nearest (defScope s_home_nearest) := ⟨rfl, rfl, rfl, by decide +kernel, rfl, by decide +kernel, by decide +kernel⟩
def c_homen (C D : Addr) : DSp := fun ds G P _ => ∃ (p : Addr) (E : List (Nat × Nat)) (d : Nat → Nat → Nat) (L : List (Nat × Nat)) (x t : Nat), ds = [.ref p, .int (x : Int), .int (t : Int)] ∧ TV0 E d ∧ Rep D C E d L G p ∧ L.length ≤ 400 ∧ InV E L ∧ Pair d L ∧ x < E.length + 1 ∧ t < E.length + 1 ∧ ∀ m, NearAt E d L x t m → P (.int (m : Int)) G
theorem ok_homen (T : TR K mg C D) (TF : TopFn K mg "home_nearest" s_home_nearest p_home_nearest) (D_kept_away : Dfn P w K mg base CX0 "kept_away" p_kept_away (c_kept C D) 4) (M_village : Dmt P w K mg base CX0 D "village" p_R_village (c_rvil C D) 1) (M_way : Dmt P w K mg base CX0 C "way" p_V_way (c_way C) 4) : Dfn P w K mg base CX0 "home_nearest" p_home_nearest (c_homen C D) 5 := by
  refine dfn_of TF sc_home_nearest (fun ds G P R ⟨q, E, d, L, x, t, e, _⟩ => by rw [e]; rfl) fun f cdv A outer s H E B hr => ?_
  refine ⟨_, (dss_cons (ds_asg (d_callD D_kept_away hr (by rfl) (da_cons (dv (pv 0)) (da_cons (dv (pv 1)) (da_cons (dv (pv 2)) da_nil)))) (dg_tup (n := 2) rfl (dgs_cons (dg_name (pg_name (i := 3) sc_home_nearest.nd rfl (by first | exact Or.inl rfl | exact Or.inr rfl))) (dgs_cons (dg_name (pg_name (i := 4) sc_home_nearest.nd rfl (by first | exact Or.inl rfl | exact Or.inr rfl))) dgs_nil))))
      (dss_cons (ds_if (dt_cmp o_isD (dv (pv 4)) d_non (nomark _)) (dss_one (ds_ret (dv (pv 2)))) dss_nil)
      (dss_one (ds_ret (d_ix (d_methD (d_methD0 (dv (pv 0)) T.clR M_village hr) T.cl M_way hr (da_cons (dv (pv 2)) (da_cons (d_ix (dv (pv 4)) d_int (fun _ _ => rfl)) da_nil))) (dv (pv 3)) (fun _ _ => rfl)))))), ?_⟩
  rintro ds G P R ⟨q, E, d, L, x, t, rfl, hE, hr', hL, hin, hpf, hx, ht, p⟩
  have hv := hE.ok
  have hn : (vilOf E d).n = E.length + 1 := vilOf_n E d
  simp [and_assoc, dRet, dRetN, dRetC, dChain, r2I, dC, dVar, dEnds, dstart, dOp, dCB, DL.rLen, dCons, dNil, dFld, asL_lst, asQ_lst, asQ_tup, asQ_scr, ins_obj, dNever, dgN, dgNil, dgCons, dgTup, dIf, dNot, dAnd, dOr, dB, dCall, dMeth, dNext, dSeq, dSt, dLst, dTup, dIfE, rIxQ, dDrop, dYes, diL, diR1, diR2, dNeg, dAsg, dwipe, dBM, dBM0, rAppendD, rMin2, rMax2, atI_0, atI_1, atI_2, atI_3, ix4_0, ix4_1, ix4_3, asL_g, asQ_g, now_g, gupd_same, gupd_gupd, Int.ofNat_inj, now_lst, now_int, now_tup, asL_lst, natsD_length, rdD_length, vilD_inj, vil_ins, natsD_inj, rdD_inj, nnD_inj, n_home_nearest]
  refine ⟨q, E, d, L, x, t, rfl, hE, hr', hL, hin, hx, ht, ?_⟩
  obtain ⟨mm, hmm⟩ : ∃ mm, kept d x t L = mm := ⟨_, rfl⟩
  obtain ⟨M, o⟩ := mm
  rw [hmm]
  cases o with
  | none =>
    simp [and_assoc, dRet, dRetN, dRetC, dChain, r2I, dC, dVar, dEnds, dstart, dOp, dCB, DL.rLen, dCons, dNil, dFld, asL_lst, asQ_lst, asQ_tup, asQ_scr, ins_obj, dNever, dgN, dgNil, dgCons, dgTup, dIf, dNot, dAnd, dOr, dB, dCall, dMeth, dNext, dSeq, dSt, dLst, dTup, dIfE, rIxQ, dDrop, dYes, diL, diR1, diR2, dNeg, dAsg, dwipe, dBM, dBM0, rAppendD, rMin2, rMax2, atI_0, atI_1, atI_2, atI_3, ix4_0, ix4_1, ix4_3, asL_g, asQ_g, now_g, gupd_same, gupd_gupd, Int.ofNat_inj, now_lst, now_int, now_tup, asL_lst, natsD_length, rdD_length, vilD_inj, vil_ins, natsD_inj, rdD_inj, nnD_inj, optD, rIsND, DL.isNon]
    exact p t (near_none hE ht (by rw [hmm]))
  | some r =>
    obtain ⟨hrm, e⟩ := (kept_arg (d := d) (x := x) (t := t) L).2 r (by rw [hmm])
    rw [hmm] at e
    simp only at e
    have hr2 := (hin r hrm).2
    simp [and_assoc, dRet, dRetN, dRetC, dChain, r2I, dC, dVar, dEnds, dstart, dOp, dCB, DL.rLen, dCons, dNil, dFld, asL_lst, asQ_lst, asQ_tup, asQ_scr, ins_obj, dNever, dgN, dgNil, dgCons, dgTup, dIf, dNot, dAnd, dOr, dB, dCall, dMeth, dNext, dSeq, dSt, dLst, dTup, dIfE, rIxQ, dDrop, dYes, diL, diR1, diR2, dNeg, dAsg, dwipe, dBM, dBM0, rAppendD, rMin2, rMax2, atI_0, atI_1, atI_2, atI_3, ix4_0, ix4_1, ix4_3, asL_g, asQ_g, now_g, gupd_same, gupd_gupd, Int.ofNat_inj, now_lst, now_int, now_tup, asL_lst, natsD_length, rdD_length, vilD_inj, vil_ins, natsD_inj, rdD_inj, nnD_inj, optD, npD, pairD, rIsND, DL.isNon, rep_ins hr', rm "village"]
    refine ⟨q, E, d, L, rfl, hr', ?_⟩
    simp [and_assoc, dRet, dRetN, dRetC, dChain, r2I, dC, dVar, dEnds, dstart, dOp, dCB, DL.rLen, dCons, dNil, dFld, asL_lst, asQ_lst, asQ_tup, asQ_scr, ins_obj, dNever, dgN, dgNil, dgCons, dgTup, dIf, dNot, dAnd, dOr, dB, dCall, dMeth, dNext, dSeq, dSt, dLst, dTup, dIfE, rIxQ, dDrop, dYes, diL, diR1, diR2, dNeg, dAsg, dwipe, dBM, dBM0, rAppendD, rMin2, rMax2, atI_0, atI_1, atI_2, atI_3, ix4_0, ix4_1, ix4_3, asL_g, asQ_g, now_g, gupd_same, gupd_gupd, Int.ofNat_inj, now_lst, now_int, now_tup, asL_lst, natsD_length, rdD_length, vilD_inj, vil_ins, natsD_inj, rdD_inj, nnD_inj, c_way, mh "way"]
    refine ⟨hv, by omega, by omega, fun ws hws => ?_⟩
    have wa := hws.at hE.t hE.d ht hr2
    have hMl : M < ws.length := by rw [wa.len]; omega
    have hat := List.getElem?_eq_getElem hMl
    obtain ⟨a1, a2, a3⟩ := wa.at_ _ _ hat
    refine ⟨_, atI_nats hat, p _ (near_some hE hin hpf hx ht (by rw [hmm]) a1 (by rw [hmm]; exact a2) a3)⟩
/-- a list of who lives nearest -/
def NearL (E : List (Nat × Nat)) (d : Nat → Nat → Nat) (H : List (Nat × Nat)) (t : Nat → Nat) (l : List Nat) : Prop := l.length = E.length + 1 ∧ ∀ (x m : Nat), l[x]? = some m → NearAt E d H x (t x) m
/-- [home_nearest(..) for x in ..]: a new list -/
theorem near_list {wi : DTI} {g : DTG} {te : DTE} {vs : List Nat} {δ : DSt} {G : Gp} {P : DK} {E : List (Nat × Nat)} {d : Nat → Nat → Nat} {L : List (Nat × Nat)} {t : Nat → Nat} (hl : E.length ≤ 399) (hw : ∀ P : List Dt → Gp → Prop, P (natsD (List.range (E.length + 1))) G → wi δ G P)
    (turn : ∀ (x : Nat) G' (P' : DK), x < E.length + 1 → GLe G G' → (∀ m, NearAt E d L x (t x) m → P' (.int (m : Int)) G') → g (.int (x : Int)) (dwipe δ vs) G' fun δ2 G2 => te δ2 G2 P')
    (fin : ∀ l q, NearL E d L t l → G q = none → P (.ref q) (gupd G q (.lst (natsD l)))) : dLc wi g dYes te vs δ G P := by
  refine dLc_intro (natsD (List.range (E.length + 1))) G (fun D i acc G' => ∃ l : List Nat, acc = natsD l ∧ l.length = i ∧ G' = gupd G D (.lst acc) ∧ ∀ (x m : Nat), l[x]? = some m → NearAt E d L x (t x) m) hw (fun D hD => ⟨[], rfl, rfl, rfl, by simp⟩) (fun D i dd acc G' hD hd ⟨l, hacc, hll, hG, hq⟩ => ?_) (fun D acc G' hD ⟨l, hacc, hll, hG, hq⟩ => ?_)
  · subst hacc; subst hG
    obtain ⟨x, hx, rfl⟩ := natsD_get hd
    have hi : i < E.length + 1 := by simpa using (List.getElem?_eq_some_iff.mp hx).1
    have ex : x = i := by rw [List.getElem?_range hi] at hx; cases hx; rfl
    subst ex
    refine turn x _ _ hi (GLe.gupd hD) fun m hm => ?_
    refine ⟨gupd_same, by rw [natsD_length]; exact small1000 (by omega), l ++ [m], by rw [natsD_append]; rfl, by rw [List.length_append, hll]; rfl, by rw [gupd_gupd], fun y n e => ?_⟩
    by_cases hy : y < l.length
    · rw [List.getElem?_append_left hy] at e
      exact hq y n e
    · rw [List.getElem?_append_right (by omega)] at e
      have h0 : y - l.length = 0 := by
        cases e0 : y - l.length with
        | zero => rfl
        | succ q => rw [e0] at e; simp at e
      rw [h0] at e
      cases e
      have : y = x := by omega
      rw [this]; exact hm
  · subst hacc; subst hG
    rw [natsD_length, List.length_range] at hll
    exact fin l D ⟨hll, hq⟩ hD
abbrev s_nearest : Stmt := top 5
abbrev n_nearest : List Str := ["reports", "t", "x"]
abbrev p_nearest : List Str := ["reports", "t"]
theorem sc_nearest : FnScope n_nearest p_nearest (defScope s_nearest) := ⟨rfl, rfl, rfl, by decide +kernel, rfl, by decide +kernel, by decide +kernel⟩
def c_near (C D : Addr) : DSp := fun ds G P _ => ∃ (p : Addr) (E : List (Nat × Nat)) (d : Nat → Nat → Nat) (L : List (Nat × Nat)) (t : Nat), ds = [.ref p, .int (t : Int)] ∧ TV0 E d ∧ Rep D C E d L G p ∧ L.length ≤ 400 ∧ InV E L ∧ Pair d L ∧ t < E.length + 1 ∧ ∀ l q, NearL E d L (fun _ => t) l → G q = none → P (.ref q) (gupd G q (.lst (natsD l)))
theorem fn_near {f : Addr} {fd : FuncData} (T : TR K mg C D) (TF : Fun K "nearest" "nearest" s_nearest f fd) (D_home_nearest : Dfn P w K mg base CX0 "home_nearest" p_home_nearest (c_homen C D) 5) (M_village : Dmt P w K mg base CX0 D "village" p_R_village (c_rvil C D) 1) (M_houses : Dmt P w K mg base CX0 C "houses" p_V_houses (c_houses C) 1) : FnOk P w K mg base CX0 6 f fd p_nearest (toSp K (c_near C D)) := by
  refine d_ok TF sc_nearest (fun ds G P R ⟨q, E, d, L, t, e, _⟩ => by rw [e]; rfl) fun cdv A outer s H E B hr => ?_
  refine ⟨_, (dss_one (ds_ret (d_lc (own := [("x", 2)]) rfl sc_nearest.nd (di_range1 (by rfl) T.range (da_cons (d_methD0 (d_methD0 (dv (pv 0)) T.clR M_village hr) T.cl M_houses hr) da_nil)) (blkOk_by (N := n_nearest) (sc := defScope s_nearest) (by decide +kernel)) (fun _ _ _ _ _ => (dgw_name (pg_name (i := 2) sc_nearest.nd rfl (by first | exact Or.inl rfl | exact Or.inr rfl)))) (fun _ _ _ _ _ => dts_nil) (fun _ _ _ _ _ => (d_callD D_home_nearest hr (by rfl) (da_cons (dv (pv 0)) (da_cons (dv (pv 2)) (da_cons (dv (pv 1)) da_nil)))))))), ?_⟩
  rintro ds G P R ⟨q, E, d, L, t, rfl, hE, hr', hL, hin, hpf, ht, p⟩
  have hEl := hE.l
  have hn : (vilOf E d).n = E.length + 1 := vilOf_n E d
  simp [and_assoc, dRet, dRetN, dRetC, dChain, r2I, dC, dVar, dEnds, dstart, dOp, dCB, DL.rLen, dCons, dNil, dFld, asL_lst, asQ_lst, asQ_tup, asQ_scr, ins_obj, dNever, dgN, dgNil, dgCons, dgTup, dIf, dNot, dAnd, dOr, dB, dCall, dMeth, dNext, dSeq, dSt, dLst, dTup, dIfE, rIxQ, dDrop, dYes, diL, diR1, diR2, dNeg, dAsg, dwipe, dBM, dBM0, rAppendD, rMin2, rMax2, atI_0, atI_1, atI_2, atI_3, ix4_0, ix4_1, ix4_3, asL_g, asQ_g, now_g, gupd_same, gupd_gupd, Int.ofNat_inj, now_lst, now_int, now_tup, asL_lst, natsD_length, rdD_length, vilD_inj, vil_ins, natsD_inj, rdD_inj, nnD_inj, n_nearest]
  refine near_list (E := E) (d := d) (L := L) (t := fun _ => t) hEl (fun P p => ?_) (fun x G' P' hx hG p' => ?_) p
  · simp [and_assoc, dRet, dRetN, dRetC, dChain, r2I, dC, dVar, dEnds, dstart, dOp, dCB, DL.rLen, dCons, dNil, dFld, asL_lst, asQ_lst, asQ_tup, asQ_scr, ins_obj, dNever, dgN, dgNil, dgCons, dgTup, dIf, dNot, dAnd, dOr, dB, dCall, dMeth, dNext, dSeq, dSt, dLst, dTup, dIfE, rIxQ, dDrop, dYes, diL, diR1, diR2, dNeg, dAsg, dwipe, dBM, dBM0, rAppendD, rMin2, rMax2, atI_0, atI_1, atI_2, atI_3, ix4_0, ix4_1, ix4_3, asL_g, asQ_g, now_g, gupd_same, gupd_gupd, Int.ofNat_inj, now_lst, now_int, now_tup, asL_lst, natsD_length, rdD_length, vilD_inj, vil_ins, natsD_inj, rdD_inj, nnD_inj, rep_ins hr', rm "village"]
    refine ⟨q, E, d, L, rfl, hr', ?_⟩
    simp [and_assoc, dRet, dRetN, dRetC, dChain, r2I, dC, dVar, dEnds, dstart, dOp, dCB, DL.rLen, dCons, dNil, dFld, asL_lst, asQ_lst, asQ_tup, asQ_scr, ins_obj, dNever, dgN, dgNil, dgCons, dgTup, dIf, dNot, dAnd, dOr, dB, dCall, dMeth, dNext, dSeq, dSt, dLst, dTup, dIfE, rIxQ, dDrop, dYes, diL, diR1, diR2, dNeg, dAsg, dwipe, dBM, dBM0, rAppendD, rMin2, rMax2, atI_0, atI_1, atI_2, atI_3, ix4_0, ix4_1, ix4_3, asL_g, asQ_g, now_g, gupd_same, gupd_gupd, Int.ofNat_inj, now_lst, now_int, now_tup, asL_lst, natsD_length, rdD_length, vilD_inj, vil_ins, natsD_inj, rdD_inj, nnD_inj, c_houses, mh "houses", hn]
    rw [upto0]
    first | exact p | exact ⟨by omega, p⟩ | exact ⟨by omega, by omega, p⟩
  · simp [and_assoc, dRet, dRetN, dRetC, dChain, r2I, dC, dVar, dEnds, dstart, dOp, dCB, DL.rLen, dCons, dNil, dFld, asL_lst, asQ_lst, asQ_tup, asQ_scr, ins_obj, dNever, dgN, dgNil, dgCons, dgTup, dIf, dNot, dAnd, dOr, dB, dCall, dMeth, dNext, dSeq, dSt, dLst, dTup, dIfE, rIxQ, dDrop, dYes, diL, diR1, diR2, dNeg, dAsg, dwipe, dBM, dBM0, rAppendD, rMin2, rMax2, atI_0, atI_1, atI_2, atI_3, ix4_0, ix4_1, ix4_3, asL_g, asQ_g, now_g, gupd_same, gupd_gupd, Int.ofNat_inj, now_lst, now_int, now_tup, asL_lst, natsD_length, rdD_length, vilD_inj, vil_ins, natsD_inj, rdD_inj, nnD_inj]
    exact ⟨q, E, d, L, x, t, rfl, hE, hG _ _ hr', hL, hin, hpf, hx, ht, p'⟩
end
end V

set_option Elab.async false
set_option linter.all false
set_option maxRecDepth 100000
/-! o.m(k = v, ..); xs.extend(ys). -/
namespace DL
open PySem PySem.Spec L2
section
variable {X : Cx} {B : Hp} {a o : Expr} {pos apos : Pos} {ta to : DTE} {tl : DTA} {j k : Nat} {m : Str} {ps ks : List Str} {c : DSp} {kws : List Keyword} {pf : PF} {C : Addr}
def tMethN (C : Addr) (m : Str) (n : Nat) (sp : Sp) (gV : List V → List V → List V) (E : XK) (ta : TE) (tk : TA) : TE := fun σ H Q => ta σ H fun x H1 => ∃ (p dx : Addr) (fs : List (Str × V)), x = .ref p ∧ H1 p = some (.ins C dx fs) ∧ fs.lookup m = none ∧ tk σ H1 fun zs H2 => zs.length = n ∧ sp (gV [.ref p] zs) H2 Q E
theorem pe_methKw {CX : CXT} {f : Addr} {fd : FuncData} {sp : Sp} {E : XK} {te : TE} {tk : TA} {g : List Value → List Value → List Value} {gV : List V → List V → List V} {pl : Sem Bool} (he : PE X o te) (cl : Cls X.K C) (hm : Meth X.K C m f) (F : FnOk X.prog X.w X.K X.mg X.base CX k f fd ps sp) (hr : Room k X.A) (hb : KBn X.K fd ps 1 ks g gV) (hx : Passes CX X E) (hkw : PK X kws tk)
    (hall : (backToKw pos (keywordEach kws X.env)).all (·.1.isSome) = true) (hks : (backToKw pos (keywordEach kws X.env)).filterMap (·.1) = ks)
    (hpl : ((backTo pos (starEach [] X.env)).any (·.1) || (backToKw pos (keywordEach kws X.env)).any (·.1.isNone)) = false)
    (ht : eval (.Call (.Attribute o m apos) [] kws pos) X.env = (do
      let ov ← eval o X.env
      standAt apos.atName
      let (f, first) ← holding [ov] (getMethod ov m pl)
      callWith pos f first (backTo pos (starEach [] X.env)) (backToKw pos (keywordEach kws X.env)))) :
    PE X (.Call (.Attribute o m apos) [] kws pos) (tMethN C m ks.length sp gV E te tk) := by
  refine ⟨fun pins s σ H Q I h => ?_⟩
  refine PySem.W.methodCall_KW (pl := pl) (thn (he.run pins s σ H _ I h) fun u s1 ⟨x, H1, I1, rx, p, dx, fs, ex, ep, hl, q⟩ => ?_) ht
  subst ex
  obtain rfl : u = Value.ref p := rx
  refine getmeth_ok I1 ep cl hm hl ?_
  refine PySem.W.callWith_KW0 (h₀ := X.base) I1.ok.mod.kin hm.kp hall ?_ hpl
  refine thn (hkw.run pos pins _ σ H1 _ I1 q) fun ws s2 ⟨zs, H2, I2, rz, l2, q2⟩ => ⟨I2.kIn, ?_⟩
  rw [hks]
  exact run_fnN (us := [.ref p]) (vs := [.ref p]) F hr hb hx I2 (.cons rfl .nil) rz rfl l2 q2
def dMethK (C : Addr) (m : Str) (c : DSp) (pf : PF) (n : Nat) (ta : DTE) (t : DTA) : DTE := fun δ G P => ta δ G fun x G1 => (∃ ns xs, insOf G1 x = some (C, ns, xs) ∧ m ∉ ns) ∧ t δ G1 fun ds G2 => ds.length = n ∧ c (x :: pf ds) G2 P noX
theorem d_methKw {pl : Sem Bool} (he : DE X B o to) (cl : Cls X.K C) (D : DmtK X.prog X.w X.K X.mg X.base CX0 C m ps ks pf c k) (hp : PFOk pf) (hr : Room j X.A) (ha : DPK X B kws tl) (hj : k ≤ j := by decide)
    (hall : (backToKw pos (keywordEach kws X.env)).all (·.1.isSome) = true := by rfl) (hks : (backToKw pos (keywordEach kws X.env)).filterMap (·.1) = ks := by rfl)
    (hpl : ((backTo pos (starEach [] X.env)).any (·.1) || (backToKw pos (keywordEach kws X.env)).any (·.1.isNone)) = false := by rfl)
    (ht : eval (.Call (.Attribute o m apos) [] kws pos) X.env = (do
      let ov ← eval o X.env
      standAt apos.atName
      let (f, first) ← holding [ov] (getMethod ov m pl)
      callWith pos f first (backTo pos (starEach [] X.env)) (backToKw pos (keywordEach kws X.env))) := by rfl) :
    DE X B (.Call (.Attribute o m apos) [] kws pos) (dMethK C m c pf ks.length to tl) := by
  obtain ⟨f, fd, F, hm, b⟩ := D
  refine PE.imp (pe_methKw (E := fun _ _ _ => False) he cl hm F (hr.mono hj) b pass0 ha.pk hall hks hpl ht) fun σ H Q ⟨F, G, δ, P, g, s, q, k⟩ => ?_
  refine ⟨F, G, δ, _, g, s, q, fun x G1 v F1 H1 ⟨⟨ns, xs, h1, hm⟩, p1⟩ l1 g1 i1 => ?_⟩
  obtain ⟨p, dx, fs, rfl, e1, n1, r1⟩ := insOf_is g1 i1 h1
  exact ⟨p, dx, fs, rfl, e1, lookup_none (by rw [n1]; exact hm), F1, G1, δ, _, g1, s.le l1, p1, fun ds G2 vs F2 H2 ⟨hl, p2⟩ l2 g2 i2 => ⟨i2.length.trans hl, toSp_of g2 (.cons (i1.le l2) (hp.is_ i2)) p2 (k.le (l1.trans l2)) contX_no⟩⟩
def rExtD : Dt → List Dt → Gp → DK → Prop := fun x ds G P => ∃ (l : Addr) (y : Dt) (xs zs : List Dt), x = .ref l ∧ ds = [y] ∧ G l = some (.lst xs) ∧ asL G y = some zs ∧ xs.length + zs.length ≤ sizeLine ∧ P .non (gupd G l (.lst (xs ++ zs)))
theorem m_extend : DMt X B "list.extend" rExtD := ⟨_, mt_extend, fun F G H v x vs ds P Q g i1 i2 ⟨l, y, xs, zs, e1, e2, h, hy, hz, p⟩ c => by
  subst e1; subst e2
  cases i1
  cases i2 with
  | cons i2 i3 =>
    cases i3
    obtain ⟨ws, e, r⟩ := g.mlst h
    obtain ⟨b, us, rfl, e4, r4⟩ := asL_is g i2 hy
    exact ⟨l, b, ws, us, rfl, rfl, e, e4, by rw [r.length, r4.length]; exact hz, c _ _ _ _ _ p (Le.refl F) (g.write h (o := .lst (ws ++ us)) (m := .lst (xs ++ zs)) (r.append r4)) .non⟩⟩
theorem d_extend (ho : DE X B o to) (ha : DE X B a ta) (hs : starEach [a] X.env = (false, eval a X.env) :: starEach [] X.env := by rfl)
    (pe : ∀ {r : V → List V → Hp → VK → Prop} {t : TA} {to : TE}, MtR X "list.extend" r → PE X o to → PA X [a] t → PE X (.Call (.Attribute o "extend" apos) [a] [] pos) (tBM X.K "list" r to t) := by exact fun h1 h2 h3 => pe_bm PySem.F.plainAttrs_list PySem.F.slot_list_extend PySem.F.type_list_extend h1 h2 h3) :
    DE X B (.Call (.Attribute o "extend" apos) [a] [] pos) (dBM rExtD to (dCons ta dNil)) := by
  obtain ⟨r', h1, h2⟩ := (m_extend (X := X) (B := B)).ex
  exact PE.imp (pe h1 ho (da_cons ha da_nil hs)) (bm_imp h2)
/-- is not None -/
def rIsnND : DR2 := fun x y G P => y = .non ∧ P (.bl (!isNon x)) G
theorem o_isnD : DOp X B (compareOp .IsNot) rIsnND := ⟨_, op_notN, fun F G H v w x y P Q g rx ry ⟨e, p⟩ c => by
  subst e
  cases ry
  refine ⟨rfl, c _ G _ F H p (Le.refl F) g ?_⟩
  have e : decide (v = V.non) = isNon x := by cases rx <;> simp [isNon]
  rw [e]
  exact .bl _⟩
/-- the rest of a block, kept whole -/
def dKeep (t : DTS) : DTS := t
theorem dss_keep {sts : List Stmt} {t : DTS} (h : DSs X B sts t) : DSs X B sts (dKeep t) := h
end
end DL

set_option Elab.async false
set_option linter.all false
set_option maxRecDepth 100000
set_option maxHeartbeats 1000000
/-! A loop, its walked thing evaluated first. -/
namespace DL
open PySem PySem.Spec L2
def dForB (g : DTG) (tb : DTS) (D : DEnds) (δ : DSt) (ds : List Dt) (G1 : Gp) : Prop := ∃ W : Nat → DSt → Gp → Prop, W 0 δ G1 ∧ (∀ i d δ' G', ds[i]? = some d → W i δ' G' → g d δ' G' fun δ2 G2 => tb { D with nx := W (i + 1), ct := W (i + 1), bk := D.nx } δ2 G2) ∧ ∀ δ' G', W ds.length δ' G' → D.nx δ' G'
theorem dFor_eq {wi : DTI} {g : DTG} {tb : DTS} {D : DEnds} {δ : DSt} {G : Gp} : dFor wi g tb D δ G = wi δ G fun ds G1 => dForB g tb D δ ds G1 := rfl
end DL

set_option Elab.async false
set_option linter.all false
set_option maxRecDepth 100000
set_option maxHeartbeats 4000000
/-! {x!r} of tuples of tuples of numbers: some bounded text. -/
namespace RSX
open PySem PySem.Spec PyProof.Rows
/-- x's text is some one, of at most m signs -/
def RSm (prog : Program) (w : World) (h : Heap) (d : Nat) (x : Value) (m : Nat) : Prop :=
  ∀ b : Nat, b + m ≤ sizeLine → ∀ (A : Around) (E : Value → Shared → Prop) (s : Shared) (Q : Str → Shared → Prop), s.heap = h → A.units + d < cLine → (∀ (t : Str) tk, t.length ≤ m → Q t { s with toks := tk }) → wpAny (model prog w) A (pyReprUnder b x) Q E s
section
variable {prog : Program} {w : World} {A : Around} {E : Value → Shared → Prop} {s : Shared} {d m : Nat}
theorem RSm.int {h : Heap} {a : Int} {t : Tok} (ha : a.natAbs.log2 < 1920) : RSm prog w h d (.int a t) 1921 := fun b hb A E s Q _ _ q => by
  have hl : (Str.ofString (toString a)).length ≤ 1921 := PyProof.Rows.int_text_len_1921 ha
  exact ReprIs.int t ha b (by omega) A E s Q fun tk => q _ tk hl
theorem RSm.mono {h : Heap} {x : Value} {m' d' : Nat} (r : RSm prog w h d x m) (hm : m ≤ m') (hd : d ≤ d') : RSm prog w h d' x m' := fun b hb A E s Q hs hu q => r b (by omega) A E s Q hs (by omega) fun t tk ht => q t tk (Nat.le_trans ht hm)
theorem piled_le : ∀ {ts : List Str} {m : Nat}, (∀ t ∈ ts, t.length ≤ m) → piled ts ≤ ts.length * (m + 2)
  | [], _, _ => by simp [piled]
  | t :: ts, m, h => by
    have h1 := h t List.mem_cons_self
    have h2 := piled_le (ts := ts) fun u hu => h u (List.mem_cons_of_mem _ hu)
    rw [piled_cons, List.length_cons, Nat.add_mul]
    omega
theorem fold_sm {h : Heap} (hu : A.units + d < cLine) : ∀ (l : List Value) (acc : Array Str) (n : Nat) (s : Shared) (Q : (Array Str × Nat) → Shared → Prop), (∀ x ∈ l, RSm prog w h d x m) → s.heap = h → n + l.length * (m + 2) ≤ sizeLine →
    (∀ (ts : List Str) n' tk, ts.length = l.length → (∀ t ∈ ts, t.length ≤ m) → Q ⟨acc ++ ts.toArray, n'⟩ { s with toks := tk }) → wpAny (model prog w) A (forIn l (⟨acc, n⟩ : (Array Str × Nat)) tupBody) Q E s := by
  intro l
  induction l with
  | nil =>
    intro acc n s Q hT hs hn q
    have h0 := q [] n s.toks rfl (by simp)
    simp only [List.forIn_nil]
    exact wpAny_pure (by simpa using h0)
  | cons x l ih =>
    intro acc n s Q hT hs hn q
    rw [List.length_cons, Nat.add_mul] at hn
    rw [List.forIn_cons]
    refine wpAny_bind (wpAny_bind (hT x List.mem_cons_self (n + 1) (by omega) _ _ _ _ hs hu fun t tk ht => wpAny_pure ?_))
    refine ih (acc.push t) (n + (t.length + 2)) _ Q (fun y hy => hT y (List.mem_cons_of_mem _ hy)) hs (by omega) fun ts n' tk' hl hts => ?_
    have h1 := q (t :: ts) n' tk' (by rw [List.length_cons, List.length_cons, hl]) (fun u hu => by
      rcases List.mem_cons.mp hu with rfl | hu
      · exact ht
      · exact hts u hu)
    simpa using h1
theorem tupAt_sm {a : Addr} {o : Obj} {items : Array Value} {n base : Nat} {Q : Fin → Shared → Prop} (ha : s.heap.get? a = some o) (hd : o.data = .seq items n) (hT : ∀ x ∈ items.toList, RSm prog w s.heap d x m) (hu : A.units + d < cLine) (hb : base + (items.size * (m + 2) + 5) ≤ sizeLine)
    (q : ∀ (t : Str) (u tk : Tok), t.length ≤ items.size * (m + 2) + 5 → Q (.done (.ret (.str t u))) { s with toks := tk }) : wpAny (model prog w) A (Builtin.tupleReprAt base ⟨[.ref a], []⟩) Q E s := by
  rw [tuple_repr_tree]
  refine wpAny_bind (fmt_underWay fun b => ?_)
  cases b with
  | true =>
    refine PySem.W.KFB.if_so rfl ?_
    refine wpAny_bind (wpAny_rule ?_)
    refine wpAny_bind (wpAny_mkStr (wpAny_pure ?_) (by decide +kernel))
    exact q "(...)" _ _ (Nat.le_trans fmt_way (Nat.le_add_left _ _))
  | false =>
    refine PySem.W.KFB.if_not rfl ?_
    show wpAny _ _ (tupleReprRest base (.ref a)) _ _ s
    unfold tupleReprRest Builtin.Tuple.tupleItemsOf
    refine wpAny_bind (wpAny_bind (wpAny_seqItems ha hd (wpAny_pure ?_)))
    rw [← Array.forIn_toList]
    refine wpAny_bind (fold_sm (m := m) hu _ _ _ _ _ hT rfl (by simp only [Array.length_toList]; omega) fun ts n' tk hl hts => ?_)
    have hl' : ts.length = items.size := by simpa using hl
    have h1 := fmt_text ts
    have h2 := piled_le hts
    rw [hl'] at h2
    have h3 : (tupleText ts).length ≤ items.size * (m + 2) + 5 := by omega
    refine wpAny_bind (wpAny_mkStr (wpAny_pure ?_) (by simpa [tupleText, hl'] using (show (tupleText ts).length ≤ sizeLine by omega)))
    have h4 := q (tupleText ts) tk (tk + 1) h3
    simpa [tupleText, hl'] using h4
/-- an inner tuple -/
theorem RSm.tup {a : Addr} {o : Obj} {items : Array Value} {n : Nat} {h : Heap} (ha : h.get? a = some o) (hc : o.cls = .type "tuple") (hd : o.data = .seq items n) (hT : ∀ x ∈ items.toList, RSm prog w h d x m) : RSm prog w h (d + 1) (.ref a) (items.size * (m + 2) + 5) := by
  intro b hb A E s Q hs hu q
  subst hs
  refine wpAny_pyReprUnder_ref (by omega) (wpAny_pyReprObjUnder_twin (twin := "tuple.__repr__.under") ⟨o, ha, hc⟩ F.slot_tuple_repr rfl (by omega) ?_)
  refine call_twin_own (F.quiet_tuple_repr_under _) F.entry_tuple_repr_under F.check_tuple_repr_under ⟨o, ha, hc⟩ F.slot_tuple_repr (F.args_tuple_repr_1 _) (wpOwn_of_wpAny ?_)
  refine tupAt_sm (d := d) ha hd hT ?_ hb fun t u tk ht => ⟨⟨_, _, rfl⟩, _, _, rfl, q t tk ht⟩
  rw [units_under_tuple_repr_under]
  omega
/-- a tuple, outermost -/
theorem repr_sm {a : Addr} {o : Obj} {items : Array Value} {n : Nat} {Q : Value → Shared → Prop} (ha : s.heap.get? a = some o) (hc : o.cls = .type "tuple") (hd : o.data = .seq items n) (hT : ∀ x ∈ items.toList, RSm prog w s.heap d x m) (hu : A.units + (d + 1) < cLine) (hb : items.size * (m + 2) + 5 ≤ sizeLine)
    (q : ∀ (t : Str) (u tk : Tok), t.length ≤ items.size * (m + 2) + 5 → Q (.str t u) { s with toks := tk }) : wpAny (model prog w) A (pyReprObj (.ref a)) Q E s := by
  refine wpAny_pyReprObj_slot (by omega) ⟨o, ha, hc⟩ F.slot_tuple_repr ?_
  refine wpAny_call (codeAny_call_builtin_own (Code.quiet_builtin _ (by decide +kernel)) F.entry_tuple_repr (F.slot_tuple_repr.check _ _ _ _ _ _ _ _ ⟨o, ha, hc⟩ (F.args_tuple_repr_1 _) (wpOwn_of_wpAny ?_)))
  refine tupAt_sm (d := d) (base := 0) ha hd hT ?_ (by omega) fun t u tk ht => ⟨t, u, rfl, q t u tk ht⟩
  rw [units_under_tuple_repr]
  omega
end
end RSX

set_option Elab.async false
set_option linter.all false
set_option maxRecDepth 100000
set_option maxHeartbeats 4000000
/-! An own exception class over ValueError: its __init__ says super().__init__(f"..{what!r}") and keeps what. -/
namespace DL
open PySem PySem.Spec L2
section
open PySem.W PySem.Calls PyProof.Rows
variable {prog : Program} {w : World} {A : Around} {E : Value → Shared → Prop} {h : Heap} {g : Array GenState} {d : Drawn} {t : Nat} {os : OsState}
variable {nm q : Str} {C N : Addr} {bs bm : List Value} {hdct : Bool} {sn : List Str} {sub : List Value} {ab : Bool} {col : Option Bool} {dd : Option Addr} {k0 k1 k2 k3 k5 : Option Value}
theorem call_mwVE {u e t0 : Addr} {rest : List Value} {Q : Value → Shared → Prop} (hbm : PySem.HandSPX.refsVE bm = true)
    (hC : h.get? C = some (excClassObj nm q C N bs bm hdct sn sub ab col dd k0 k1 k2 k3 k5 "ValueError.__new__")) (he : h.get? e = some (HandSPX.excO C t0)) (hu : h.get? u = some (kxs_mw "ValueError.__init__" e)) (hrest : rest.length ≤ sizeLine)
    (hq : ∀ h' t1, (∀ b o, b ≠ e → h.get? b = some o → h'.get? b = some o) → h'.get? e = some (HandSPX.excO C t1) → Q .none ⟨h', g, d, t, os⟩) :
    wpAny (model prog w) A (call (.ref u) rest) Q E ⟨h, g, d, t, os⟩ := by
  refine wpAny_call (codeAny_of_tree ?_)
  show wpAny _ A.in1 (callAny (.ref u) ⟨rest, []⟩) _ _ _
  simp only [callAny]
  refine wpAny_bind (wpAny_load hu ?_)
  simp only [kxs_mw, show (Value.type "method-wrapper" == Value.type "method" || Value.type "method-wrapper" == Value.type "builtin_function_or_method" || Value.type "method-wrapper" == Value.type "method-wrapper") = true by decide, if_true]
  refine W.KFB.if_so (by decide) ?_
  refine wpAny_bind (check_bound_init F.excBase_ValueError.toExcCallFacts hC he rfl ?_)
  refine wpAny_bind (wpAny_pure (wpAny_pure ?_))
  refine ⟨Code.quiet_builtin _ (by decide +kernel), codeAny_builtin F.excBase_ValueError.initEntry ?_⟩
  rw [Around.under_plainId F.excBase_ValueError.init.plain _]
  wp_walk
  refine hq _ h.objs.size (fun b o hb ho => ?_) ?_
  · rw [Heap.get?_update_other _ _ (Ne.symm hb)]
    exact Heap.get?_push_of_some _ ho
  · rw [Heap.get?_update_self _ (Heap.get?_push_of_some _ he) rfl]
    rfl
end
/-- a number, or a tuple of few numbers, of bounded length -/
def Rp1 (H : Hp) (x : V) : Prop := (∃ i : Int, x = .int i ∧ i.natAbs.log2 < 1920) ∨ ∃ (b : Addr) (ys : List V), x = .ref b ∧ H b = some (.tup ys) ∧ ys.length ≤ 10 ∧ ∀ y ∈ ys, ∃ i : Int, y = .int i ∧ i.natAbs.log2 < 1920
/-- what has a text of bounded length -/
inductive RpV (H : Hp) : V → Prop where
  | int (i : Int) (h : i.natAbs.log2 < 1920) : RpV H (.int i)
  | non : RpV H .non
  | str (y : Str) (h : (reprText y).length ≤ 1000000) : RpV H (.str y)
  | tup {a : Addr} {xs : List V} (e : H a = some (.tup xs)) (hl : xs.length ≤ 10) (hx : ∀ x ∈ xs, Rp1 H x) : RpV H (.ref a)
theorem RpV.mono {H H' : Hp} (h : ∀ b ys, H b = some (.tup ys) → H' b = some (.tup ys)) {v : V} (r : RpV H v) : RpV H' v := by
  cases r with
  | int i h => exact .int i h
  | non => exact .non
  | str y h => exact .str y h
  | tup e hl hx => exact .tup (h _ _ e) hl fun x hxx => (hx x hxx).elim .inl fun ⟨b, ys, e1, e2, r⟩ => .inr ⟨b, ys, e1, h _ _ e2, r⟩
/-- {x!r}: some text -/
def tFmtX (te : TE) : TE := fun σ H Q => te σ H fun x H1 => RpV H1 x ∧ ∀ y : Str, y.length ≤ 1000000 → Q (.str y) H1
theorem sm_ints {prog : Program} {w : World} {h : Heap} {xs : List V} {its : List Value} (r : Vals xs its) (hx : ∀ y ∈ xs, ∃ i : Int, y = .int i ∧ i.natAbs.log2 < 1920) : ∀ x ∈ its, RSX.RSm prog w h 0 x 1921 := by
  intro x hxx
  induction r with
  | nil => cases hxx
  | cons r1 r ih =>
    rcases List.mem_cons.mp hxx with rfl | hxx
    · obtain ⟨i, rfl, hi⟩ := hx _ List.mem_cons_self
      obtain ⟨t, rfl⟩ := r1
      exact .int hi
    · exact ih (fun y hy => hx y (List.mem_cons_of_mem _ hy)) hxx
theorem sm_rp1 {P : Program} {w : World} {H : Hp} {h : Heap} (hok : HOk P w H h) {xs : List V} {its : List Value} (r : Vals xs its) (hx : ∀ y ∈ xs, Rp1 H y) : ∀ x ∈ its, RSX.RSm P w h 1 x 20000 := by
  intro x hxx
  induction r with
  | nil => cases hxx
  | cons r1 r ih =>
    rcases List.mem_cons.mp hxx with rfl | hxx
    · rcases hx _ List.mem_cons_self with ⟨i, rfl, hi⟩ | ⟨b, ys, rfl, e, hl, hy⟩
      · obtain ⟨t, rfl⟩ := r1
        exact (RSX.RSm.int (d := 0) hi).mono (by decide) (by decide)
      · obtain rfl := r1
        obtain ⟨_, its2, rv, o, h1, h2, n, h3⟩ := (show ObjOk P w H h b (.tup ys) from hok b _ e)
        have hz : its2.toArray.size ≤ 10 := by rw [List.size_toArray, ← rv.length]; exact hl
        refine (RSX.RSm.tup (d := 0) (m := 1921) h1 h2 h3 (fun x hx => sm_ints rv hy x (by simpa using hx))).mono ?_ (Nat.le_refl _)
        have := Nat.mul_le_mul_right 1923 hz
        omega
    · exact ih (fun y hy => hx y (List.mem_cons_of_mem _ hy)) hxx
theorem pe_fmtX {X : Cx} {e : Expr} {te : TE} {pos : Pos} (hu : X.A.units + 64 < cLine) (he : PE X e te) : PE X (.FormattedValue e 114 none pos) (tFmtX te) := by
  refine ⟨fun pins s σ H Q I h => ?_⟩
  refine wpAny_FormattedValue_repr (thn (he.run pins s σ H _ I h) fun v s1 hv => ?_)
  obtain ⟨x, H1, I1, r1, rp, q⟩ := hv
  have small : (1000000 : Nat) ≤ sizeLine := by rw [sizeLine_eq]; decide
  cases rp with
  | int i hz =>
    obtain ⟨t, rfl⟩ := (show ∃ t, v = Value.int i t from r1)
    have hl : (Str.ofString (toString i)).length ≤ 1000000 := Nat.le_trans (PyProof.Rows.int_text_len_1921 hz) (by decide)
    exact pyReprObj_int hz (wpAny_formatField_str ⟨.str (toString i), H1, I1.tok _, ⟨_, rfl⟩, q _ hl⟩ ⟨.str (toString i), H1, I1.tok _, ⟨_, rfl⟩, q _ hl⟩ (Nat.le_trans hl small))
  | non =>
    obtain rfl : v = Value.none := r1
    have hl : (("None" : String) : Str).length ≤ 1000000 := by decide
    exact pyReprObj_none (wpAny_formatField_str ⟨.str ("None" : String), H1, I1.tok _, ⟨_, rfl⟩, q _ hl⟩ ⟨.str ("None" : String), H1, I1.tok _, ⟨_, rfl⟩, q _ hl⟩ (Nat.le_trans hl small))
  | str y hz =>
    obtain ⟨t, rfl⟩ := (show ∃ t, v = Value.str y t from r1)
    exact pyReprObj_str (wpAny_formatField_str ⟨.str (reprText y), H1, I1.tok _, ⟨_, rfl⟩, q _ hz⟩ ⟨.str (reprText y), H1, I1.tok _, ⟨_, rfl⟩, q _ hz⟩ (Nat.le_trans hz small)) (Nat.le_trans hz small)
  | @tup a xs e hl hx =>
    obtain rfl : v = Value.ref a := r1
    obtain ⟨_, its, rv, o, h1, h2, n, h3⟩ := (show ObjOk X.prog X.w H1 s1.heap a (.tup xs) from I1.hok a _ e)
    have hz : its.toArray.size ≤ 10 := by rw [List.size_toArray, ← rv.length]; exact hl
    have hz2 := Nat.mul_le_mul_right 20002 hz
    refine RSX.repr_sm (d := 1) (m := 20000) h1 h2 h3 (fun x hx' => sm_rp1 I1.hok rv hx x (by simpa using hx')) (by omega) (by omega) fun t u tk ht => ?_
    have hl : t.length ≤ 1000000 := by omega
    exact wpAny_formatField_str ⟨.str t, H1, I1.tok _, ⟨_, rfl⟩, q _ hl⟩ ⟨.str t, H1, I1.tok _, ⟨_, rfl⟩, q _ hl⟩ (Nat.le_trans hl small)
/-- the promise of such an __init__ -/
def spExc (C : Addr) : Sp := fun vs H Q _ => ∃ (a : Addr) (y : V), vs = [.ref a, y] ∧ H a = some (exo a C none) ∧ RpV H y ∧ ∀ d, H d = none → d ≠ a → Q .non (upd (upd H d (exd d [("what", y)])) a (exo a C (some d)))
abbrev excBody (t : Str) (p0 p1 p2 p3 p4 p5 p6 p7 p8 p9 p10 p11 p12 : Pos) (j : Nat) : List Stmt :=
  [.Expr (.Call (.Attribute (.Call (.Name "super" p0) [] [] p1) "__init__" p2) [.JoinedStr [.Constant (.str t) j p3, .FormattedValue (.Name "what" p4) 114 none p5] p6] [] p7) p8, .Assign [.Attribute (.Name "self" p9) "what" p10] (.Name "what" p11) p12]
/-- what the written part says of such a class and its __init__ -/
structure ExcI (P : Program) (K : PySem.W.Frag) (C f cc cda : Addr) (qual : Str) (st : Stmt) : Prop where
  ox : OexC K C
  fn : ∃ (oc : Value) (od : Option Addr) (dV kV doc pm : Value) (an : Option Addr) (ct : Value) (osl : Array (Option Value)), K.lookup f = some ⟨oc, od, .func (PySem.W.ksFn "__init__" qual (defArgs st) (defBody st) (defScope st) dV kV doc pm an (.ref cda) ct cc), osl⟩
  cd : PySem.W.codeIn K (.ref cda) qual = true
  co : ∃ (ccl : Value) (cdd : Option Addr) (vs : Array Value) (ccs : Array (Option Value)) (file : Str) (tf : Tok), K.lookup cda = some ⟨ccl, cdd, .fields vs, ccs⟩ ∧ vs[2]? = some (.str file tf) ∧ ((P.main.file : Str) == file) = true
  ce : ∃ (cl : Value) (cld : Option Addr) (csl : Array (Option Value)), K.lookup cc = some ⟨cl, cld, .cell (some (.ref C)), csl⟩
  su : PySem.W.ks_superIn K C C "__init__" = some (some (.builtin "ValueError.__init__"))
  ve : PySem.W.subIn K (.ref C) (.type "ValueError") = some true
  me : PySem.W.mroIn K C (.ref C) = some true
  thp : PySem.W.nsIn K PySem.cStatics "thirdparty.any" = some none
  what : PySem.W.findIn K (.ref C) "what" = some none
  top : (P.main.scope.names.lookup ("super" : Str)).isSome = false
/-- the scope of such a def -/
def excScB (sc : Scope) : Bool := NdefX.nscB ["self", "what", "__class__"] ["self", "what"] ["__class__"] sc && decide (sc.names.lookup ("super" : Str) = some .globalImplicit)

theorem lk1 {α : Type} {k y : Str} {v c : α} (e : List.lookup y [(k, v)] = some c) : y = k ∧ c = v := by
  rw [List.lookup_cons] at e
  cases h : (y == k) with
  | true => rw [h] at e; cases e; exact ⟨beq_iff_eq.mp h, rfl⟩
  | false => rw [h] at e; cases e
/-- what was tracked anew may be forgotten -/
theorem inv_forget {X : Cx} {pins : List (Addr × Obj)} {σ : L2.St} {H : Hp} {s : Shared} {u : Addr} {φ : Heap → Prop} (I : Inv X pins σ (upd H u (.ext φ)) s) (hu : H u = none) (h0 : X.H_0 u = none) : Inv X pins σ H s := by
  have ne : ∀ {b : Addr} {o : HO}, H b = some o → b ≠ u := fun {b o} e z => by rw [z, hu] at e; cases e
  have up : ∀ {b : Addr} {o : HO}, H b = some o → upd H u (.ext φ) b = some o := fun {b o} e => by rw [upd_ne (ne e)]; exact e
  have dn : ∀ {b : Addr}, upd H u (.ext φ) b = none → H b = none := fun {b} e => by
    by_cases q : b = u
    · rw [q]; exact hu
    · rw [upd_ne q] at e; exact e
  have back : ∀ {b : Addr} {o : HO}, upd H u (.ext φ) b = some o → (∀ ψ, o ≠ .ext ψ) → H b = some o := fun {b o} e n => by
    by_cases q : b = u
    · rw [q, upd_same] at e; exact absurd (Option.some.inj e).symm (n φ)
    · rw [upd_ne q] at e; exact e
  refine ⟨I.ok, I.os, I.bare, ⟨I.base.keep, I.base.slot, fun b o e n hx => dn (I.base.free b o e n hx), I.base.there, fun b xs e => back (I.base.tups b xs e) (fun _ z => nomatch z), fun b o v e => back (I.base.frzs b o v e) (fun _ z => nomatch z), fun b ps e => ?_⟩,
    I.loc, I.cell, dn I.free, fun x c e => dn (I.freeC x c e), fun p hp => ?_, fun b ob e => ?_, I.len⟩
  · obtain ⟨more, e1⟩ := I.base.tbls b ps e
    exact ⟨more, back e1 (fun _ z => nomatch z)⟩
  · obtain ⟨e, n, r⟩ := I.pin p hp
    exact ⟨e, dn n, r⟩
  · exact (I.hok b ob (up e)).stay (fun c v _ q => q) (fun c q => back q (fun _ z => nomatch z)) fun c xs q => back q (fun _ z => nomatch z)
abbrev xEnv (qual : Str) (st : Stmt) (cc cda f L : Addr) : Env := NdefX.envF ⟨"__init__", qual, defArgs st, defBody st, defScope st, [("__class__", cc)], cda⟩ f L
/-- what is seen of the text alone -/
structure ExcE (qual : Str) (st : Stmt) (t : Str) (p0 p1 p2 p3 p4 p5 p6 p7 p8 p9 p10 p11 p12 : Pos) (j : Nat) : Prop where
  hb : defBody st = excBody t p0 p1 p2 p3 p4 p5 p6 p7 p8 p9 p10 p11 p12 j
  ht : t.length ≤ 1000
  hsc : excScB (defScope st) = true
  hpar : ((defArgs st).posonlyargs ++ (defArgs st).args).head?.map (·.arg) = some ("self" : Str)
  hi : ∀ cc cda f L, interactive (xEnv qual st cc cda f L) = false
  hs : ∀ cc cda f L, swapsWith (.Call (.Attribute (.Call (.Name "super" p0) [] [] p1) "__init__" p2) [.JoinedStr [.Constant (.str t) j p3, .FormattedValue (.Name "what" p4) 114 none p5] p6] [] p7) none p8.line (xEnv qual st cc cda f L) = pure false
  he : ∀ cc cda f L, ∃ pl : Sem Bool, eval (.Call (.Attribute (.Call (.Name "super" p0) [] [] p1) "__init__" p2) [.JoinedStr [.Constant (.str t) j p3, .FormattedValue (.Name "what" p4) 114 none p5] p6] [] p7) (xEnv qual st cc cda f L) = (do
      let ov ← attributeBase (.Call (.Name "super" p0) [] [] p1) "__init__" (xEnv qual st cc cda f L) (eval (.Call (.Name "super" p0) [] [] p1) (xEnv qual st cc cda f L))
      standAt p2.atName
      let (g, first) ← holding [ov] (getMethod ov "__init__" pl)
      callWith p7 g first (backTo p7 (starEach [.JoinedStr [.Constant (.str t) j p3, .FormattedValue (.Name "what" p4) 114 none p5] p6] (xEnv qual st cc cda f L))) [])
  s2 : ∀ cc cda f L, swapsWith (.Name "what" p11) (some (.Attribute (.Name "self" p9) "what" p10)) p12.line (xEnv qual st cc cda f L) = pure false
section
variable {P : Program} {w : World} {K : PySem.W.Frag} {mg : Str → Option Value} {base : Heap} {C f cc cda : Addr} {qual : Str} {st : Stmt}
open PySem.W PySem.Calls PyProof.Rows NdefX in
theorem exc_init {t : Str} {p0 p1 p2 p3 p4 p5 p6 p7 p8 p9 p10 p11 p12 : Pos} {j : Nat} {oc : Value} {od : Option Addr} {dV kV doc pm : Value} {an : Option Addr} {ct : Value} {osl : Array (Option Value)} (T : ExcI P K C f cc cda qual st)
    (hf : K.lookup f = some ⟨oc, od, .func (ksFn "__init__" qual (defArgs st) (defBody st) (defScope st) dV kV doc pm an (.ref cda) ct cc), osl⟩) (hm : mg "super" = none) (X0 : ExcE qual st t p0 p1 p2 p3 p4 p5 p6 p7 p8 p9 p10 p11 p12 j) : FnOk P w K mg base CX0 1 f (ksFn "__init__" qual (defArgs st) (defBody st) (defScope st) dV kV doc pm an (.ref cda) ct cc) ["self", "what"] (spExc C) := by
  refine ⟨fun vs H Q E ⟨a, y, e, _⟩ => by rw [e]; rfl, fun A outer s H args us vs Q E hr e0 hbd r ⟨a, y, ev, ea, rp, hq⟩ => ?_⟩
  subst ev
  have hsc := X0.hsc
  have hpar := X0.hpar
  have hbody := X0.hb
  obtain ⟨hs1, hs2⟩ := Bool.and_eq_true_iff.mp hsc
  have S := nscope_by hs1
  have hks := of_decide_eq_true hs2
  have kb : ∀ b o, K.lookup b = some o → s.heap.get? b = some o := fun b o e => (e0.bs b o (e0.mod.kin b o e)).1
  have kIn : K.In s.heap := kb
  have lim : s.heap.NoLimit := e0.mod.nolimit.keeps fun b o e => (e0.bs b o e).1
  obtain ⟨ccl, cdd, vsC, ccs, file, tf, hco, hvs, hfile⟩ := T.co
  obtain ⟨cl, cld, csl, hce⟩ := T.ce
  obtain ⟨nm, q, N, bs, bm, sn, sub, ab, col, dd, k0, k1, k2, k3, k5, hC, hbm⟩ := T.ox.cls
  obtain ⟨ar, har, hself⟩ : ∃ ar, ((defArgs st).posonlyargs ++ (defArgs st).args).head? = some ar ∧ ar.arg = ("self" : Str) := by
    cases e : ((defArgs st).posonlyargs ++ (defArgs st).args).head? with
    | none => rw [e] at hpar; cases hpar
    | some ar => rw [e] at hpar; exact ⟨ar, rfl, Option.some.inj hpar⟩
  have hHcc : H cc = none := (e0.bs cc _ (e0.mod.kin _ _ hce)).2
  have CA : CellsAt [("__class__", cc)] ["__class__"] [some (V.ref C)] s.heap H := by
    refine ⟨rfl, fun y c e => ?_, fun x y c e1 e2 => ?_, fun i y e => ?_⟩
    · obtain ⟨_, rfl⟩ := lk1 e
      exact ⟨hHcc, _, _, kb _ _ hce, rfl⟩
    · exact (lk1 e1).1.trans (lk1 e2).1.symm
    · cases i with
      | zero =>
        cases e
        exact ⟨cc, rfl, fun v hv => by cases hv; exact ⟨.ref C, rfl, _, kb _ _ hce, rfl⟩⟩
      | succ i => simp at e
  have hus : ∃ uy, us = [.ref a, uy] ∧ RelV y uy := by
    cases r with
    | cons r1 r =>
      cases r with
      | cons r2 r =>
        cases r
        cases r1
        exact ⟨_, rfl, r2⟩
  obtain ⟨uy, rfl, ry⟩ := hus
  refine ks_codeAny_call_defAt (fd := ksFn "__init__" qual (defArgs st) (defBody st) (defScope st) dV kV doc pm an (.ref cda) ct cc) (body := defBody st) (binds := (["self", "what"] : List Str).zip [.ref a, uy]) hr.depth (kb _ _ hf) rfl lim (codeRec_of kIn T.cd) rfl hbd S.nocell (fun x hx => ?_) (fun h₁ hns kp => ?_) S.co S.gen S.kind
  · exact S.par x.1 (List.of_mem_zip hx).1
  have I : Inv (ncx CX0 P w K mg base ["self", "what", "__class__"] ⟨"__init__", qual, defArgs st, defBody st, defScope st, [("__class__", cc)], cda⟩ f A outer s H E) [] (startF ["self", "what", "__class__"] [.ref a, y] [some (V.ref C)]) H { s with heap := h₁, toks := s.toks + ((["self", "what"] : List Str).zip [.ref a, uy]).length } := inv_startN S hr.hd e0 rfl r CA hns kp
  have hks2 : (xEnv qual st cc cda f s.heap.objs.size).kindOf ("super" : Str) = some .globalImplicit := hks
  have hkc : (xEnv qual st cc cda f s.heap.objs.size).kindOf ("__class__" : Str) = some .free := S.frk _ (by simp)
  have hka : (xEnv qual st cc cda f s.heap.objs.size).kindOf ("self" : Str) = some .local := S.par _ (by simp)
  have hkw : (xEnv qual st cc cda f s.heap.objs.size).kindOf ("what" : Str) = some .local := S.par _ (by simp)
  show _root_.PySem.wpAt (model P w) (A.deeper (xEnv qual st cc cda f s.heap.objs.size)) (.func (defBody st) (xEnv qual st cc cda f s.heap.objs.size)) (execs (defBody st) (xEnv qual st cc cda f s.heap.objs.size)) _ _ _
  rw [show execs (defBody st) (xEnv qual st cc cda f s.heap.objs.size) = execs (excBody t p0 p1 p2 p3 p4 p5 p6 p7 p8 p9 p10 p11 p12 j) (xEnv qual st cc cda f s.heap.objs.size) from by rw [hbody]]
  obtain ⟨pl, hcall⟩ := X0.he cc cda f s.heap.objs.size
  refine ks_wpAt_execs_cons (ks_wpAt_Expr_any (ks_wpAt_MethodCall (pl := pl) (ks_wpAt_super_base (f := f) (cc := cda) hks2 hkc rfl rfl (kp _ _ (kb _ _ hf)) rfl har rfl (kp _ _ (kb _ _ hco)) rfl hvs hfile T.top ?_) hcall) (X0.hi _ _ _ _) (X0.hs _ _ _ _))
  -- the names super, __class__, self
  have hcls : PySem.W.clsIn K C = some { name := nm, bases := bs, mro := .ref C :: bm, ns := N, qualname := q, hasDict := true, slotNames := sn, subclasses := sub, abstract := ab, collection := col, hasDel := false } := by unfold PySem.W.clsIn; rw [hC] <;> rfl
  obtain ⟨mb, hb1, hb2⟩ := I.mod.blt
  refine ks_loadName_global S.kind hks2 (loadGlobal_builtin (I.mod.glob.keeps I.bk) hm (hb1.keeps I.bk) ((hb2 "super" (by decide)).trans (by decide +kernel)) ⟨rfl, ?_⟩)
  refine wpAny_loadName_free S.kind hkc rfl ⟨_, kp _ _ (kb _ _ hce), rfl⟩ ?_
  rw [hself]
  refine wpAny_loadName_local S.kind hka hns rfl ?_
  refine ks_wpAny_isType_cls (kp _ _ (kb _ _ hC)) rfl ⟨rfl, ?_⟩
  obtain ⟨t1, he⟩ := exo_at I.hok ea
  refine ks_wpAny_call_super (kp _ _ (kb _ _ hC)) rfl he rfl (fun c z => nomatch z) (looks_mroIn (kIn.keeps kp) T.me) (fun h' e k => ?_)
  have hsu : alongIn K "__init__" (((Value.ref C :: bm).dropWhile (· != .ref C)).drop 1) = some (some (.builtin "ValueError.__init__")) := by
    have z := T.su
    unfold ks_superIn at z
    rw [hcls] at z
    exact z
  have aC : a ≠ C := fun z => by
    have z1 := he
    rw [z, kp _ _ (kb _ _ hC)] at z1
    have z2 := congrArg Obj.data (Option.some.inj z1)
    cases z2
  have hI2 : PySem.W.InstAt h₁ a { cls := .ref C, dict := none, data := .fields #[.ref t1, .none, .none, .none, .bool false, .none] } C none := ⟨he, rfl, rfl, trivial⟩
  have I2 : Inv (ncx CX0 P w K mg base ["self", "what", "__class__"] ⟨"__init__", qual, defArgs st, defBody st, defScope st, [("__class__", cc)], cda⟩ f A outer s H E) [] (startF ["self", "what", "__class__"] [.ref a, y] [some (V.ref C)]) H { s with heap := h', toks := s.toks + ((["self", "what"] : List Str).zip [.ref a, uy]).length } := I.kept k
  have kIn2 : K.In h' := fun b o z => k _ _ (kp _ _ (kb _ _ z))
  have hI3 : PySem.W.InstAt h' a { cls := .ref C, dict := none, data := .fields #[.ref t1, .none, .none, .none, .bool false, .none] } C none := ⟨k _ _ he, rfl, rfl, trivial⟩
  refine kxs_getMethod kxs_ValueError e (looks_opaque kIn2 T.thp) (l₀ := .ref C :: bm) (fun A Q E s k q => wpAny_bind ((looks_clsIn kIn2 hcls) A _ E s k (wpAny_pure q))) rfl kIn2 hsu (hI3.type.andThen (looks_subIn kIn2 T.ve)) aC (by decide) ?_
  obtain ⟨u, hu⟩ : ∃ u, u = h'.objs.size := ⟨_, rfl⟩
  have hnu : H u = none := by rw [hu]; exact I2.hok.fresh (Nat.le_refl _)
  have eu : (h'.push (kxs_mw "ValueError.__init__" a)).get? u = some (kxs_mw "ValueError.__init__" a) := by rw [hu]; exact Heap.get?_push_size _ rfl
  have I3 := I2.laid (a := u) (t' := s.toks + ((["self", "what"] : List Str).zip [.ref a, uy]).length + 1) (h' := h'.push (kxs_mw "ValueError.__init__" a)) (o := .ext fun h => h.get? u = some (kxs_mw "ValueError.__init__" a)) (fun b o z => Heap.get?_push_of_some _ z) (by rw [hu]; exact Nat.le_refl _) ⟨eu, ⟨_, eu⟩, fun h1 h2 z1 z2 => z2 _ z1⟩
  rw [← hu]
  have ha : PA (ncx CX0 P w K mg base ["self", "what", "__class__"] ⟨"__init__", qual, defArgs st, defBody st, defScope st, [("__class__", cc)], cda⟩ f A outer s H E) [.JoinedStr [.Constant (.str t) j p3, .FormattedValue (.Name "what" p4) 114 none p5] p6] (tCons _ tNil) :=
    pa_cons (pe_joined (PJ.cons pe_str (PJ.cons (pe_fmtX (hr.deeper _).units (pe_var (i := 1) rfl (.inl hkw))) .nil))) pa_nil
  show wpAny _ _ (callWith p7 (.ref u) [] (backTo p7 (starEach [.JoinedStr [.Constant (.str t) j p3, .FormattedValue (.Name "what" p4) 114 none p5] p6] (xEnv qual st cc cda f s.heap.objs.size))) []) _ _ _
  refine kxs_callWith (i := "ValueError.__init__") (x := a) rfl (evalArgs_plain ?_)
  have small : (1000000 : Nat) + 1000 ≤ sizeLine := by rw [sizeLine_eq]; decide
  have rp2 : RpV (upd H u (.ext fun h => h.get? u = some (kxs_mw "ValueError.__init__" a))) y := by
    exact rp.mono fun b ys e => by rw [upd_ne (fun z => by rw [z, hnu] at e; cases e)]; exact e
  refine thn (ha.run p7 [] _ (startF ["self", "what", "__class__"] [.ref a, y] [some (V.ref C)]) _ (fun vs H1 => (∃ out, vs = [V.str out]) ∧ H1 = upd H u (.ext fun h => h.get? u = some (kxs_mw "ValueError.__init__" a))) I3 ?_) fun us s1 ⟨vs, H1, I4, rv, ⟨out, e1⟩, e2⟩ => ?_
  · have lt : (Str.empty ++ t).length ≤ 1000 := by rw [strLen_append]; show 0 + _ ≤ _; have := X0.ht; omega
    exact ⟨t, rfl, by omega, y, rfl, rp2, fun z hz => ⟨z, rfl, by rw [strLen_append]; omega, ⟨_, rfl⟩, rfl⟩⟩
  subst e1 e2
  have au : a ≠ u := fun z => by rw [z, hnu] at ea; cases ea
  have ea4 : (upd H u (.ext fun h => h.get? u = some (kxs_mw "ValueError.__init__" a))) a = some (exo a C none) := by rw [upd_ne au]; exact ea
  obtain ⟨t4, he4⟩ := exo_at I4.hok ea4
  have hu4 : s1.heap.get? u = some (kxs_mw "ValueError.__init__" a) := (show ObjOk P w _ s1.heap u (.ext fun h => h.get? u = some (kxs_mw "ValueError.__init__" a)) from I4.hok u _ upd_same).1
  obtain ⟨h4, g4, d4, tk4, os4⟩ := s1
  refine ⟨hu4, ?_⟩
  have hz : us.length ≤ sizeLine := by
    rw [← rv.length]
    show 1 ≤ sizeLine
    omega
  show wpAny _ _ (call (.ref u) us) _ _ _
  refine call_mwVE hbm (I4.kIn _ _ hC) he4 hu4 hz (fun h5 t5 k5 hx => ?_)
  have I5 := I4.write (t' := tk4) (x := a) (e := a) (o := exo a C none) (h' := h5) (by rw [ea4]; exact True.intro) (.inl rfl) k5 ⟨_, hx⟩ (exo_ok hx)
  have eu5 : upd (upd H u (.ext fun h => h.get? u = some (kxs_mw "ValueError.__init__" a))) a (exo a C none) = upd H u (.ext fun h => h.get? u = some (kxs_mw "ValueError.__init__" a)) := by
    funext b
    by_cases hb : b = a
    · rw [hb, upd_same, ea4]
    · rw [upd_ne hb]
  rw [eu5] at I5
  have I6 := inv_forget I5 hnu hnu
  have pss : PSs (ncx CX0 P w K mg base ["self", "what", "__class__"] ⟨"__init__", qual, defArgs st, defBody st, defScope st, [("__class__", cc)], cda⟩ f A outer s H E) [.Assign [.Attribute (.Name "self" p9) "what" p10] (.Name "what" p11) p12] _ :=
    pss_one (ps_ost (pe_var (i := 0) rfl (.inl hka)) (pe_var (i := 1) rfl (.inl hkw)) (X0.s2 _ _ _ _))
  refine wpAt_of_wpAny (wpAny_mono (pss.run [] _ (startF ["self", "what", "__class__"] [.ref a, y] [some (V.ref C)]) _ { nx := fun _ H' => Q .non H', rt := Q } I6 ⟨y, rfl, .ref a, rfl, a, C, rfl, T.ox, T.what, .inl ⟨ea, fun dx n ne => hq dx n ne⟩⟩) (fun fl s' hs => ?_) fun e s' hs => hs)
  have fin : ∀ {σ' : L2.St} {H' : Hp} {v : V} {u : Value}, Inv (ncx CX0 P w K mg base ["self", "what", "__class__"] ⟨"__init__", qual, defArgs st, defBody st, defScope st, [("__class__", cc)], cda⟩ f A outer s H E) [] σ' H' s' → L2.RelV v u → Q v H' → CE outer P w H s Q u s' :=
    fun {σ' H' v u} J rv q => ⟨v, H', J.os, J.bare, J.base, J.hok, rv, q⟩
  cases fl with
  | ret u =>
    obtain ⟨v, σ', H', J, rv, q⟩ := hs
    exact fin J rv q
  | next =>
    obtain ⟨σ', H', J, q⟩ := hs
    exact fin (v := V.non) (u := Value.none) J rfl q
  | brk =>
    obtain ⟨_, _, _, q⟩ := hs
    exact False.elim q
  | cont =>
    obtain ⟨_, _, _, q⟩ := hs
    exact False.elim q
end
end DL

set_option Elab.async false
set_option linter.all false
set_option maxRecDepth 100000
set_option maxHeartbeats 4000000
/-! An own refusal made where nothing is handled: its context is None. -/
namespace DL
open PySem PySem.Spec PyProof PyProof.Rows L2
section
variable {X : Cx} {CX : CXT} {x : Str} {C fI : Addr} {k : Nat} {fd : FuncData} {ps : List Str} {sp : Sp} {ta : TA} {e : Expr} {es : List Expr} {p pos : Pos}
theorem pmk_oexN (T : OexC X.K C) (iC : PySem.W.findIn X.K (.ref C) "__init__" = some (some (.ref fI))) (tI : PySem.W.typeIn X.K (.ref fI) = some (.type "function"))
    (F1 : FnOk X.prog X.w X.K X.mg X.base CX k fI fd ps sp) (hr : Room (k + 1) X.A) (hb : Binds X.K fd ps []) (hx : Passes CX X (fun _ _ _ => False)) (hg : Gl X x) (hm : X.mg x = some (.ref C)) (ha : PA X (e :: es) ta)
    (hdb : (x == ("__debug__" : Str)) = false := by decide) (he : starEach (e :: es) X.env = (false, eval e X.env) :: starEach es X.env := by rfl) (hpl : (backTo pos (starEach es X.env)).any (·.1) = false := by rfl) :
    L2N.PMk X (.Call (.Name x p) (e :: es) [] pos) (tMkO C sp [] ta) := by
  intro pins s0 σ H0 Q I0 h0
  obtain ⟨nm, q, N, bs, bm, sn, sub, ab, col, dd, k0, k1, k2, k3, k5, hC, hbm⟩ := T.cls
  refine wpAny_Call_Name_kw (ld_glob I0 hg hm (PySem.W.callWith_K (h₀ := X.base) I0.ok.mod.kin T.kC (thn (ha.run pos pins s0 σ H0 _ I0 h0) fun us ⟨hp, gs, dr, tk, os⟩ ⟨vs, H1, I1, r1, hz, q1⟩ => ⟨I1.kIn, ?_⟩) he hpl) hdb)
  show wpAny _ X.A (call (.ref C) us) _ _ _
  -- the object's address: behind its tuple
  obtain ⟨n, hn⟩ : ∃ n, n = hp.objs.size + 1 := ⟨_, rfl⟩
  have over : hp.objs.size ≤ n := by omega
  have free : H1 n = none := I1.hok.fresh over
  have want := q1 n free
  rw [List.append_nil] at want
  have kk : ∀ b o, hp.get? b = some o → ((hp.push (PySem.W.kdv_tup us)).push (PySem.HandSPX.excO C hp.objs.size)).get? b = some o := fun b o z => Heap.get?_push_of_some _ (Heap.get?_push_of_some _ z)
  have at_ : ((hp.push (PySem.W.kdv_tup us)).push (PySem.HandSPX.excO C hp.objs.size)).get? n = some (PySem.HandSPX.excO C hp.objs.size) := by
    rw [hn]
    heap_get
  have I2 := I1.laid (t' := tk) (a := n) (o := exo n C none) (h' := (hp.push (PySem.W.kdv_tup us)).push (PySem.HandSPX.excO C hp.objs.size)) kk over (exo_ok at_)
  have rel : Vals (V.ref n :: vs) (Value.ref n :: us) := .cons rfl r1
  have few : us.length ≤ sizeLine := by
    rw [← Paired.length r1, sizeLine_eq]
    omega
  have bound := hb _ (Value.ref n :: us) I2.kIn (by rw [List.append_nil, ← rel.length]; exact F1.len _ _ _ _ want)
  rw [List.append_nil] at bound
  subst hn
  refine wpAny_call (PySem.HandSPX.call_own F.excBase_ValueError (fun Y => PySem.HandSPX.refsVE_contains Y bm hbm) (I1.kIn _ _ hC) (PySem.W.looks_findIn I1.kIn iC) (fun self => PySem.W.bind_fn I1.kIn self tI) few
    (codeAny_mono (F1.run _ X.stack _ _ ⟨Value.ref _ :: us, []⟩ (Value.ref _ :: us) _ _ (fun _ _ _ => False) (hr.make C us []) (I2.env0.make C us []) bound rel want) fun r s2 q2 => ?_))
  match r, q2 with
  | .error er, q2 => exact hx pins σ _ _ er s2 I2 q2
  | .ok (.ret u), q2 =>
    obtain ⟨h2, g2, d2, t2, os2⟩ := s2
    obtain ⟨v, H2, o2, bare2, un2, hok2, rv, ev, d, fs, ea, ed, hd1, fin⟩ := q2
    subst ev
    obtain ⟨t0, G, J, kG, ge, hoe, na⟩ := mk_end0 (d2 := d2) (t2 := t2) I1 over kk un2 hok2 o2 bare2 ea ed hd1
    exact ⟨rv, _, _, _, ⟨G, g2, d2, t2, os2⟩, _, .ref C, some d, rfl, J, kG, ge, hoe, ⟨rfl, rfl, fun vs' z => by cases z; rfl⟩, rfl, rfl, na, rfl, bare2, raises_own T.exC T.tyC, fin⟩
end
end DL

set_option Elab.async false
set_option linter.all false
set_option maxRecDepth 100000
set_option maxHeartbeats 4000000
/-! raise, try .. except, a caught exception as a value. -/
namespace DL
open PySem PySem.Spec L2
/-! ### contracts of defs that may raise -/
theorem FnOk.cx {P : Program} {w : World} {K : PySem.W.Frag} {mg : Str → Option Value} {base : Heap} {CX : CXT} {k : Nat} {f : Addr} {fd : FuncData} {ps : List Str} {sp : Sp} (F : FnOk P w K mg base CX0 k f fd ps sp) : FnOk P w K mg base CX k f fd ps sp :=
  ⟨F.len, fun A outer s H args us vs Q E hr he hb hv hs => codeAny_mono (F.run A outer s H args us vs Q E hr he hb hv hs) fun r s' q => by
    cases r with
    | error e => exact False.elim q
    | ok fl =>
      cases fl with
      | ret u => exact q
      | _ => exact False.elim q⟩
theorem toSp_or {K : PySem.W.Frag} {c1 c2 : DSp} {vs : List V} {H : Hp} {Q : VK} {E : XK} (h : toSp K (fun ds G P R => c1 ds G P R ∨ c2 ds G P R) vs H Q E) : toSp K c1 vs H Q E ∨ toSp K c2 vs H Q E := by
  obtain ⟨F, G, ds, P, R, g, i, h | h, r⟩ := h
  · exact .inl ⟨F, G, ds, P, R, g, i, h, r⟩
  · exact .inr ⟨F, G, ds, P, R, g, i, h, r⟩
def cOr (c1 c2 : DSp) : DSp := fun ds G P R => c1 ds G P R ∨ c2 ds G P R
theorem FnOk.or {P : Program} {w : World} {K : PySem.W.Frag} {mg : Str → Option Value} {base : Heap} {CX : CXT} {k : Nat} {f : Addr} {fd : FuncData} {ps : List Str} {c1 c2 : DSp} (F1 : FnOk P w K mg base CX k f fd ps (toSp K c1)) (F2 : FnOk P w K mg base CX k f fd ps (toSp K c2)) : FnOk P w K mg base CX k f fd ps (toSp K (cOr c1 c2)) :=
  ⟨fun vs H Q E q => (toSp_or q).elim (F1.len vs H Q E) (F2.len vs H Q E), fun A outer s H args us vs Q E hr he hb hv hs => (toSp_or hs).elim (F1.run A outer s H args us vs Q E hr he hb hv) (F2.run A outer s H args us vs Q E hr he hb hv)⟩
/-! ### what is wished of an exception, slots and all -/
def ContW (K : PySem.W.Frag) (B : Hp) (RW : DSt → DXK) (W : WX) : Prop := ∀ (δ : DSt) (σ : L2.St) (C : Addr) (w : Dt) (G : Gp) (d : Addr) (v : V) (F H : Hp), RW δ C w G → Good K B F G H → Sl K F σ δ → F d = some (.xd [("what", v)]) → Is K F v w → W (.ref C) (some d) σ H
theorem ContW.of {K : PySem.W.Frag} {B : Hp} {R : DXK} {E : XK} (c : ContX K B R E) : ContW K B (fun _ => R) (fun cls d _ H => E cls d H) := fun δ σ C w G d v F H r g s e i => c C w G d v F H r g e i
theorem ContW.at {K : PySem.W.Frag} {B F1 : Hp} {RW : DSt → DXK} {W : WX} {σ : L2.St} {δ : DSt} (c : ContW K B RW W) (s : Sl K F1 σ δ) (l : Le B F1) : ContX K F1 (RW δ) (WE W σ) := fun C w G d v F H r g e i => c δ σ C w G d v F H r (g.unbase l) (s.le g.bs) e i
theorem toSp_ofX {K : PySem.W.Frag} {B F : Hp} {G : Gp} {H : Hp} {vs : List V} {ds : List Dt} {P : DK} {Q : VK} {R : DXK} {E : XK} {c : DSp} (g : Good K B F G H) (i : IsL K F vs ds) (h : c ds G P R) (k : Cont K B F P Q) (kx : ContX K F R E) : toSp K c vs H Q E :=
  ⟨F, G, ds, P, R, g.rebase, i, h, k.rebase g.bs, kx⟩
section
variable {X : Cx} {B : Hp} {e a b o : Expr} {es : List Expr} {pos p apos : Pos} {ta tb te to : DTE} {tl : DTA} {k : Nat} {C f : Addr} {ps ks : List Str} {c : DSp} {x m : Str} {W : WX} {RW : DSt → DXK} {fd : FuncData}
/-! ### calls that may raise -/
def dCallS (c : DSp) (RW : DSt → DXK) (t : DTA) : DTE := fun δ G P => t δ G fun ds G1 => c ds G1 P (RW δ)
theorem d_callS {j : Nat} (D : Dfn X.prog X.w X.K X.mg X.base (L2N.CX X.prog X.w) x ps c k) (hr : Room j X.A) (tk : L2N.Takes X W) (cw : ContW X.K B RW W) (hg : Gl X x) (ha : DA X B (e :: es) tl) (hj : k ≤ j := by decide)
    (hdb : (x == ("__debug__" : Str)) = false := by decide) (he : starEach (e :: es) X.env = (false, eval e X.env) :: starEach es X.env := by rfl) (hpl : (backTo pos (starEach es X.env)).any (·.1) = false := by rfl) :
    DE X B (.Call (.Name x p) (e :: es) [] pos) (dCallS c RW tl) := by
  obtain ⟨f, fd, F, m, kp, b⟩ := D
  exact PE.imp (pe_callS (E := WE W) F (hr.mono hj) hg m kp b (L2N.passAt tk) ha hdb he hpl) fun σ H Q ⟨F, G, δ, P, g, s, q, k⟩ => ⟨F, G, δ, _, g, s, q, fun ds G1 vs F1 H1 p1 l1 g1 i1 => toSp_ofX g1 i1 p1 (k.le l1) (cw.at (s.le l1) g1.bs)⟩
def tMethS (C : Addr) (m : Str) (sp : Sp) (E : L2.St → XK) (ta : TE) (t : TA) : TE := fun σ H Q => ta σ H fun x H1 => ∃ a dx fs, x = .ref a ∧ H1 a = some (.ins C dx fs) ∧ fs.lookup m = none ∧ t σ H1 fun vs H2 => sp (x :: vs) H2 Q (E σ)
theorem pe_methS {CX : CXT} {sp : Sp} {E : L2.St → XK} {ta : TE} {t : TA} {pl : Sem Bool} (he : PE X o ta) (cl : Cls X.K C) (hm : Meth X.K C m f) (F : FnOk X.prog X.w X.K X.mg X.base CX k f fd ps sp) (hr : Room k X.A) (hb : Binds X.K fd ps []) (hx : ∀ σ, PassesAt CX X σ (E σ)) (ha : PA X (e :: es) t)
    (hst : starEach (e :: es) X.env = (false, eval e X.env) :: starEach es X.env := by rfl) (hpl : (backTo pos (starEach es X.env)).any (·.1) = false := by rfl)
    (ht : eval (.Call (.Attribute o m apos) (e :: es) [] pos) X.env = (do
      let ov ← eval o X.env
      standAt apos.atName
      let (f, first) ← holding [ov] (getMethod ov m pl)
      callWith pos f first (backTo pos (starEach (e :: es) X.env)) (backToKw pos (keywordEach [] X.env))) := by rfl) :
    PE X (.Call (.Attribute o m apos) (e :: es) [] pos) (tMethS C m sp E ta t) := by
  refine ⟨fun pins s σ H Q I h => ?_⟩
  refine PySem.W.methodCall_KW (pl := pl) (thn (he.run pins s σ H _ I h) fun u s1 ⟨x, H1, I1, rx, a, dx, fs, ex, ea, l, q⟩ => ?_) ht
  subst ex
  obtain rfl : u = Value.ref a := rx
  refine getmeth_ok I1 ea cl hm l ?_
  refine PySem.W.callWith_K (first := [.ref a]) (h₀ := X.base) I1.ok.mod.kin hm.kp (thn (ha.run pos pins _ σ H1 _ I1 q) fun us s2 ⟨vs, H2, I2, r, q2⟩ => ⟨I2.kIn, ?_⟩) hst hpl
  exact run_fnS (us := .ref a :: us) (vs := .ref a :: vs) F hr hb (hx σ) I2 (.cons rfl r) q2
def dMethS (C : Addr) (m : Str) (c : DSp) (RW : DSt → DXK) (ta : DTE) (t : DTA) : DTE := fun δ G P => ta δ G fun x G1 => (∃ ns xs, insOf G1 x = some (C, ns, xs) ∧ m ∉ ns) ∧ t δ G1 fun ds G2 => c (x :: ds) G2 P (RW δ)
theorem d_methS {j : Nat} {pl : Sem Bool} (he : DE X B o to) (cl : Cls X.K C) (D : Dmt X.prog X.w X.K X.mg X.base (L2N.CX X.prog X.w) C m ps c k) (hr : Room j X.A) (tk : L2N.Takes X W) (cw : ContW X.K B RW W) (ha : DA X B (e :: es) tl) (hj : k ≤ j := by decide)
    (hst : starEach (e :: es) X.env = (false, eval e X.env) :: starEach es X.env := by rfl) (hpl : (backTo pos (starEach es X.env)).any (·.1) = false := by rfl)
    (ht : eval (.Call (.Attribute o m apos) (e :: es) [] pos) X.env = (do
      let ov ← eval o X.env
      standAt apos.atName
      let (f, first) ← holding [ov] (getMethod ov m pl)
      callWith pos f first (backTo pos (starEach (e :: es) X.env)) (backToKw pos (keywordEach [] X.env))) := by rfl) :
    DE X B (.Call (.Attribute o m apos) (e :: es) [] pos) (dMethS C m c RW to tl) := by
  obtain ⟨f, fd, F, hm, b⟩ := D
  exact PE.imp (pe_methS (E := WE W) he cl hm F (hr.mono hj) b (L2N.passAt tk) ha hst hpl ht) fun σ H Q ⟨F, G, δ, P, g, s, q, k⟩ =>
  ⟨F, G, δ, _, g, s, q, fun x G1 v F1 H1 ⟨⟨ns, xs, h1, hm⟩, p1⟩ l1 g1 i1 => by
    obtain ⟨a, dx, fs, rfl, e1, n1, r1⟩ := insOf_is g1 i1 h1
    refine ⟨a, dx, fs, rfl, e1, lookup_none (by rw [n1]; exact hm), F1, G1, δ, _, g1, s.le l1, p1, fun ds G2 vs F2 H2 p2 l2 g2 i2 => ?_⟩
    exact toSp_ofX g2 (.cons (i1.le l2) i2) p2 (k.le (l1.trans l2)) (cw.at ((s.le l1).le l2) g2.bs)⟩
theorem run_fnNS {CX : CXT} {sp : Sp} {E : L2.St → XK} {g : List Value → List Value → List Value} {gV : List V → List V → List V} {n : Nat} {pins : List (Addr × Obj)} {σ : L2.St} {H : Hp} {s : Shared} {Q : VK} {us ws : List Value} {vs zs : List V} (F : FnOk X.prog X.w X.K X.mg X.base CX k f fd ps sp) (hr : Room k X.A) (hb : KBn X.K fd ps n ks g gV) (hx : PassesAt CX X σ (E σ))
    (I : Inv X pins σ H s) (r : Vals vs us) (rz : Vals zs ws) (l1 : vs.length = n) (l2 : zs.length = ks.length) (h : sp (gV vs zs) H Q (E σ)) : wpAny (model X.prog X.w) X.A (call (.ref f) us (ks.zip ws)) (EP X pins σ Q) X.xe s := by
  have r2 := hb.rel r rz
  refine wpAny_call (codeAny_mono (F.run X.A X.stack s H ⟨us, ks.zip ws⟩ (g us ws) (gV vs zs) Q (E σ) hr I.env0 (hb.to s us ws I.kIn (r.length.symm.trans l1) (rz.length.symm.trans l2)) r2 h) fun r s' hq => ?_)
  cases r with
  | error e => exact hx pins H s e s' I hq
  | ok fl =>
    cases fl with
    | ret u => exact I.after hq
    | next => exact False.elim hq
    | brk => exact False.elim hq
    | cont => exact False.elim hq
def tMethNS (C : Addr) (m : Str) (n : Nat) (sp : Sp) (gV : List V → List V → List V) (E : L2.St → XK) (ta : TE) (tk : TA) : TE := fun σ H Q => ta σ H fun x H1 => ∃ (p dx : Addr) (fs : List (Str × V)), x = .ref p ∧ H1 p = some (.ins C dx fs) ∧ fs.lookup m = none ∧ tk σ H1 fun zs H2 => zs.length = n ∧ sp (gV [.ref p] zs) H2 Q (E σ)
theorem pe_methKwS {CX : CXT} {sp : Sp} {E : L2.St → XK} {te : TE} {tk : TA} {g : List Value → List Value → List Value} {gV : List V → List V → List V} {pl : Sem Bool} {kws : List Keyword} (he : PE X o te) (cl : Cls X.K C) (hm : Meth X.K C m f) (F : FnOk X.prog X.w X.K X.mg X.base CX k f fd ps sp) (hr : Room k X.A) (hb : KBn X.K fd ps 1 ks g gV) (hx : ∀ σ, PassesAt CX X σ (E σ)) (hkw : PK X kws tk)
    (hall : (backToKw pos (keywordEach kws X.env)).all (·.1.isSome) = true) (hks : (backToKw pos (keywordEach kws X.env)).filterMap (·.1) = ks)
    (hpl : ((backTo pos (starEach [] X.env)).any (·.1) || (backToKw pos (keywordEach kws X.env)).any (·.1.isNone)) = false)
    (ht : eval (.Call (.Attribute o m apos) [] kws pos) X.env = (do
      let ov ← eval o X.env
      standAt apos.atName
      let (f, first) ← holding [ov] (getMethod ov m pl)
      callWith pos f first (backTo pos (starEach [] X.env)) (backToKw pos (keywordEach kws X.env)))) :
    PE X (.Call (.Attribute o m apos) [] kws pos) (tMethNS C m ks.length sp gV E te tk) := by
  refine ⟨fun pins s σ H Q I h => ?_⟩
  refine PySem.W.methodCall_KW (pl := pl) (thn (he.run pins s σ H _ I h) fun u s1 ⟨x, H1, I1, rx, p, dx, fs, ex, ep, hl, q⟩ => ?_) ht
  subst ex
  obtain rfl : u = Value.ref p := rx
  refine getmeth_ok I1 ep cl hm hl ?_
  refine PySem.W.callWith_KW0 (h₀ := X.base) I1.ok.mod.kin hm.kp hall ?_ hpl
  refine thn (hkw.run pos pins _ σ H1 _ I1 q) fun ws s2 ⟨zs, H2, I2, rz, l2, q2⟩ => ⟨I2.kIn, ?_⟩
  rw [hks]
  exact run_fnNS (us := [.ref p]) (vs := [.ref p]) F hr hb (hx σ) I2 (.cons rfl .nil) rz rfl l2 q2
def dMethKS (C : Addr) (m : Str) (c : DSp) (RW : DSt → DXK) (pf : PF) (n : Nat) (ta : DTE) (t : DTA) : DTE := fun δ G P => ta δ G fun x G1 => (∃ ns xs, insOf G1 x = some (C, ns, xs) ∧ m ∉ ns) ∧ t δ G1 fun ds G2 => ds.length = n ∧ c (x :: pf ds) G2 P (RW δ)
theorem d_methKwS {j : Nat} {pl : Sem Bool} {kws : List Keyword} {pf : PF} (he : DE X B o to) (cl : Cls X.K C) (D : DmtK X.prog X.w X.K X.mg X.base (L2N.CX X.prog X.w) C m ps ks pf c k) (hp : PFOk pf) (hr : Room j X.A) (tk : L2N.Takes X W) (cw : ContW X.K B RW W) (ha : DPK X B kws tl) (hj : k ≤ j := by decide)
    (hall : (backToKw pos (keywordEach kws X.env)).all (·.1.isSome) = true := by rfl) (hks : (backToKw pos (keywordEach kws X.env)).filterMap (·.1) = ks := by rfl)
    (hpl : ((backTo pos (starEach [] X.env)).any (·.1) || (backToKw pos (keywordEach kws X.env)).any (·.1.isNone)) = false := by rfl)
    (ht : eval (.Call (.Attribute o m apos) [] kws pos) X.env = (do
      let ov ← eval o X.env
      standAt apos.atName
      let (f, first) ← holding [ov] (getMethod ov m pl)
      callWith pos f first (backTo pos (starEach [] X.env)) (backToKw pos (keywordEach kws X.env))) := by rfl) :
    DE X B (.Call (.Attribute o m apos) [] kws pos) (dMethKS C m c RW pf ks.length to tl) := by
  obtain ⟨f, fd, F, hm, b⟩ := D
  refine PE.imp (pe_methKwS (E := WE W) he cl hm F (hr.mono hj) b (L2N.passAt tk) ha.pk hall hks hpl ht) fun σ H Q ⟨F, G, δ, P, g, s, q, k⟩ => ?_
  refine ⟨F, G, δ, _, g, s, q, fun x G1 v F1 H1 ⟨⟨ns, xs, h1, hm⟩, p1⟩ l1 g1 i1 => ?_⟩
  obtain ⟨p, dx, fs, rfl, e1, n1, r1⟩ := insOf_is g1 i1 h1
  exact ⟨p, dx, fs, rfl, e1, lookup_none (by rw [n1]; exact hm), F1, G1, δ, _, g1, s.le l1, p1, fun ds G2 vs F2 H2 ⟨hl, p2⟩ l2 g2 i2 => ⟨i2.length.trans hl, toSp_ofX g2 (.cons (i1.le l2) (hp.is_ i2)) p2 (k.le (l1.trans l2)) (cw.at ((s.le l1).le l2) g2.bs)⟩⟩
/-- f(k = v, ..) -/
def tCallNS (n : Nat) (sp : Sp) (gV : List V → List V → List V) (E : L2.St → XK) (tk : TA) : TE := fun σ H Q => tk σ H fun zs H2 => zs.length = n ∧ sp (gV [] zs) H2 Q (E σ)
theorem pe_callKS {CX : CXT} {sp : Sp} {E : L2.St → XK} {tk : TA} {g : List Value → List Value → List Value} {gV : List V → List V → List V} {kws : List Keyword} (F : FnOk X.prog X.w X.K X.mg X.base CX k f fd ps sp) (hr : Room k X.A) (hg : Gl X x) (hm : X.mg x = some (.ref f)) (hk : PySem.W.keepIn X.K (.ref f) = true) (hb : KBn X.K fd ps 0 ks g gV) (hx : ∀ σ, PassesAt CX X σ (E σ)) (hkw : PK X kws tk)
    (hall : (backToKw pos (keywordEach kws X.env)).all (·.1.isSome) = true := by rfl) (hks : (backToKw pos (keywordEach kws X.env)).filterMap (·.1) = ks := by rfl) (hdb : (x == ("__debug__" : Str)) = false := by decide)
    (hpl : ((backTo pos (starEach [] X.env)).any (·.1) || (backToKw pos (keywordEach kws X.env)).any (·.1.isNone)) = false := by rfl) :
    PE X (.Call (.Name x p) [] kws pos) (tCallNS ks.length sp gV E tk) := by
  refine ⟨fun pins s σ H Q I h => ?_⟩
  refine wpAny_Call_Name_kw (ld_glob I hg hm ?_ hdb)
  refine PySem.W.callWith_KW0 (first := []) (h₀ := X.base) I.ok.mod.kin hk hall ?_ hpl
  refine thn (hkw.run pos pins _ σ H _ I h) fun ws s2 ⟨zs, H2, I2, rz, l2, q2⟩ => ⟨I2.kIn, ?_⟩
  rw [hks]
  exact run_fnNS (us := []) (vs := []) F hr hb (hx σ) I2 .nil rz rfl l2 q2
def dCallKS (c : DSp) (RW : DSt → DXK) (pf : PF) (n : Nat) (t : DTA) : DTE := fun δ G P => t δ G fun ds G1 => ds.length = n ∧ c (pf ds) G1 P (RW δ)
theorem d_callKwS {j : Nat} {kws : List Keyword} {pf : PF} (D : DfnK X.prog X.w X.K X.mg X.base (L2N.CX X.prog X.w) x ps ks pf c k) (hp : PFOk pf) (hr : Room j X.A) (tk : L2N.Takes X W) (cw : ContW X.K B RW W) (hg : Gl X x) (ha : DPK X B kws tl) (hj : k ≤ j := by decide)
    (hall : (backToKw pos (keywordEach kws X.env)).all (·.1.isSome) = true := by rfl) (hks : (backToKw pos (keywordEach kws X.env)).filterMap (·.1) = ks := by rfl) (hdb : (x == ("__debug__" : Str)) = false := by decide)
    (hpl : ((backTo pos (starEach [] X.env)).any (·.1) || (backToKw pos (keywordEach kws X.env)).any (·.1.isNone)) = false := by rfl) :
    DE X B (.Call (.Name x p) [] kws pos) (dCallKS c RW pf ks.length tl) := by
  obtain ⟨f, fd, F, hm, kp, b⟩ := D
  refine PE.imp (pe_callKS (E := WE W) F (hr.mono hj) hg hm kp b (L2N.passAt tk) ha.pk hall hks hdb hpl) fun σ H Q ⟨F, G, δ, P, g, s, q, k⟩ => ?_
  exact ⟨F, G, δ, _, g, s, q, fun ds G1 vs F1 H1 ⟨hl, p1⟩ l1 g1 i1 => ⟨i1.length.trans hl, toSp_ofX g1 (hp.is_ i1) p1 (k.le l1) (cw.at (s.le l1) g1.bs)⟩⟩
/-! ### raise -/
def Rp1D (d : Dt) : Prop := (∃ i : Int, d = .int i ∧ i.natAbs.log2 < 1920) ∨ ∃ ys : List Dt, d = .tup ys ∧ ys.length ≤ 10 ∧ ∀ y ∈ ys, ∃ i : Int, y = .int i ∧ i.natAbs.log2 < 1920
/-- what may be put into a refusal -/
inductive RpD : Dt → Prop where
  | int (i : Int) (h : i.natAbs.log2 < 1920) : RpD (.int i)
  | non : RpD .non
  | str (y : Str) (h : (reprText y).length ≤ 1000000) : RpD (.str y)
  | tup {ds : List Dt} (hl : ds.length ≤ 10) (hx : ∀ d ∈ ds, Rp1D d) : RpD (.tup ds)
theorem IsL.mem {K : PySem.W.Frag} {F : Hp} : ∀ {vs : List V} {ds : List Dt} {v : V}, IsL K F vs ds → v ∈ vs → ∃ d ∈ ds, Is K F v d
  | _, _, _, .cons r s, h => by
    rcases List.mem_cons.mp h with rfl | h
    · exact ⟨_, List.mem_cons_self, r⟩
    · obtain ⟨d, h1, h2⟩ := IsL.mem s h
      exact ⟨d, List.mem_cons_of_mem _ h1, h2⟩
theorem RpD.v {K : PySem.W.Frag} {B F H : Hp} {G : Gp} {v : V} {d : Dt} (g : Good K B F G H) (r : RpD d) (i : Is K F v d) : RpV H v := by
  cases r with
  | int j h => cases i; exact .int j h
  | non => cases i; exact .non
  | str y h => cases i; exact .str y h
  | tup hl hx =>
    cases i with
    | tup e rr =>
      refine .tup (g.fz _ _ e) (by rw [rr.length]; exact hl) fun x hxx => ?_
      obtain ⟨d, hd, iv⟩ := rr.mem hxx
      rcases hx d hd with ⟨j, rfl, h⟩ | ⟨ys, rfl, h1, h2⟩
      · cases iv; exact .inl ⟨j, rfl, h⟩
      · cases iv with
        | tup e2 r2 =>
          refine .inr ⟨_, _, rfl, g.fz _ _ e2, by rw [r2.length]; exact h1, fun y hy => ?_⟩
          obtain ⟨d2, hd2, iv2⟩ := r2.mem hy
          obtain ⟨j, rfl, h⟩ := h2 d2 hd2
          cases iv2
          exact ⟨j, rfl, h⟩
/-- an own class of refusals -/
def DexC (P : Program) (w : World) (K : PySem.W.Frag) (mg : Str → Option Value) (base : Heap) (x : Str) (C : Addr) : Prop := OexC K C ∧ mg x = some (.ref C) ∧ ∃ f fd, PySem.W.findIn K (.ref C) "__init__" = some (some (.ref f)) ∧ PySem.W.typeIn K (.ref f) = some (.type "function") ∧
  FnOk P w K mg base CX0 1 f fd ["self", "what"] (spExc C) ∧ Binds K fd ["self", "what"] []
def dRaise (RW : DSt → DXK) (C : Addr) (te : DTE) : DTS := fun _ δ G => te δ G fun w G1 => RpD w ∧ RW δ C w G1
theorem ds_raise {j : Nat} {pos' : Pos} (D : DexC X.prog X.w X.K X.mg X.base x C) (hc : X.calm = true) (hr : Room j X.A) (tk : L2N.Takes X W) (cw : ContW X.K B RW W) (hg : Gl X x) (he : DE X B e te) (hj : 2 ≤ j := by decide)
    (hdb : (x == ("__debug__" : Str)) = false := by decide) (hst : starEach [e] X.env = (false, eval e X.env) :: starEach [] X.env := by rfl) (hpl : (backTo pos (starEach [] X.env)).any (·.1) = false := by rfl) :
    DS X B (.Raise (some (.Call (.Name x p) [e] [] pos)) none pos') (dRaise RW C te) := by
  obtain ⟨T, gC, f, fd, iC, tI, F1, hb⟩ := D
  refine PS.imp (L2N.ps_raise hc tk (pmk_oexN T iC tI F1 (hr.mono hj) hb pass0 hg gC (pa_cons he pa_nil hst) hdb hst hpl)) fun D σ H ⟨F, G, δ, R, g, s, q, f⟩ => ?_
  refine ⟨F, G, δ, _, g, s, q, fun w G' v F' H' ⟨rp, rw'⟩ l g' i => ⟨Nat.le_of_lt (Nat.lt_of_lt_of_le (Nat.lt_succ_self _) (by decide : 2 ≤ 1000)), fun a ha => ⟨a, v, rfl, upd_same, (rp.v g' i).mono (fun b ys e => by rw [upd_ne (fun z => by rw [z, ha] at e; cases e)]; exact e), fun d hd ne => ⟨rfl, d, [("what", v)], upd_same, ?_, ?_, ?_⟩⟩⟩⟩
  · rw [upd_ne ne, upd_same]
  · rw [upd_ne ne] at hd; exact hd
  · have hd' : H' d = none := by rw [upd_ne ne] at hd; exact hd
    have eH : upd (del (upd (upd (upd H' a (exo a C none)) d (exd d [("what", v)])) a (exo a C (some d))) a) d (.xd [("what", v)]) = upd H' d (.xd [("what", v)]) := by
      funext b
      by_cases hb : b = d
      · rw [hb, upd_same, upd_same]
      · rw [upd_ne hb, upd_ne hb]
        by_cases ha2 : b = a
        · rw [ha2, del_same, ha]
        · rw [del_ne ha2, upd_ne ha2, upd_ne hb, upd_ne ha2]
    rw [eH]
    obtain ⟨l2, g2⟩ := g'.newF hd' (.xd [("what", v)])
    exact cw δ σ C w G' d v _ _ rw' g2 (s.le (l.trans l2)) upd_same (i.le l2)
end
/-! ### a caught exception as a value -/
structure ExK (K : PySem.W.Frag) (C : Addr) : Prop where
  ic : ExcC K C
  what : PySem.W.findIn K (.ref C) "what" = some none
section
variable {X : Cx} {B : Hp} {e : Expr} {te : DTE} {pos : Pos} {K : PySem.W.Frag}
theorem exg_at {P : Program} {w : World} {H : Hp} {h : Heap} {a C d : Addr} (hok : HOk P w H h) (e : H a = some (exg a C d)) : ∃ (o : Obj) (vs : Array Value), h.get? a = some o ∧ o.cls = .ref C ∧ o.dict = some d ∧ o.data = .fields vs := by
  obtain ⟨o, vs, h1, h2, h3, h4, _⟩ := (show ObjOk P w H h a (.ext fun h => ∃ (o : Obj) (vs : Array Value), h.get? a = some o ∧ o.cls = .ref C ∧ o.dict = some d ∧ o.data = .fields vs ∧ vs[2]? = some .none) from hok a _ e).1
  exact ⟨o, vs, h1, h2, h3, h4⟩
/-- the caught object as the library's rules want it -/
theorem exc_inst {P : Program} {w : World} {H : Hp} {h : Heap} {a C d : Addr} {fs : List (Str × V)} (hok : HOk P w H h) (e : H a = some (exg a C d)) (ed : H d = some (.xd fs)) : ∃ o od, PySem.W.InstAt h a o C (some od) ∧ ∀ f v, fs.lookup f = some v → ∃ u, PySem.W.lookIn f od = some (some u) ∧ RelV v u := by
  obtain ⟨o, vs, h1, h2, h3, h4⟩ := exg_at hok e
  obtain ⟨mA, hns, hr⟩ := (show ObjOk P w H h d (.xd fs) from hok d _ ed)
  obtain ⟨od, ho, hl⟩ := lookIn_ns hns
  refine ⟨o, od, ⟨h1, h2, by unfold PySem.W.notCls; rw [h4] <;> rfl, by rw [h3]; exact ho⟩, fun f v hv => ?_⟩
  obtain ⟨u, hu, ru⟩ := RelO.some_of (v := v) (o := mA f) (by rw [← hv]; exact hr f)
  exact ⟨u, by rw [hl, hu], ru⟩
/-- e.what -/
def dWhat (K : PySem.W.Frag) (te : DTE) : DTE := fun δ G P => te δ G fun x G1 => ∃ C w, x = .exc C w ∧ ExK K C ∧ P w G1
theorem d_what (hK : X.K = K) (he : DE X B e te) (hb : attributeBase e "what" X.env (eval e X.env) = eval e X.env := by rfl) : DE X B (.Attribute e "what" pos) (dWhat K te) := by
  subst hK
  refine ⟨fun pins s σ H Q I ⟨F, G, δ, P, g, sl, q, k⟩ => ?_⟩
  refine attr_of hb (thn (he.run pins s σ H (fun v H1 => ∃ G1 F1 w, Good X.K B F1 G1 H1 ∧ Is X.K F1 v w ∧ Le F F1 ∧ ∃ C w', w = .exc C w' ∧ ExK X.K C ∧ P w' G1) I ⟨F, G, δ, _, g, sl, q, fun d G' v F' H' p' l' g' i' => ⟨G', F', d, g', i', l', p'⟩⟩) fun u s1 hh => ?_)
  obtain ⟨v, H1, I1, rx, G1, F1, w, g1, i1, l1, C, w', ew, ek, p1⟩ := hh
  subst ew
  cases i1 with
  | @exc a _ d vv _ ea ed iw =>
    obtain rfl : u = Value.ref a := rx
    have e1 := g1.fz _ _ ea
    have e2 := g1.fz _ _ ed
    obtain ⟨o, od, J, hl⟩ := exc_inst I1.hok e1 e2
    obtain ⟨u2, hu, ru⟩ := hl "what" vv rfl
    exact HandSPX.exc_get I1.kIn J ek.ic.hg ek.ic.hk ek.ic.hs (PySem.W.findObj_own ek.ic.hd ek.what rfl hu) (handed_of ru) ⟨vv, H1, I1.tok _, ru, k w' G1 vv F1 H1 p1 l1 g1 iw⟩
/-- the class of a value, exceptions too -/
def tagX (K : PySem.W.Frag) (G : Gp) (d : Dt) (t : Value) : Prop := (∃ C w, d = .exc C w ∧ t = .ref C ∧ ExK K C) ∨ (tagD G d = some t ∧ ∀ C, t = .ref C → IsF K C)
theorem kitX_of {pins : List (Addr × Obj)} {σ : L2.St} {F H : Hp} {G : Gp} {s : Shared} {v : V} {u t : Value} {d : Dt} (I : Inv X pins σ H s) (g : Good X.K B F G H) (i : Is X.K F v d) (r : RelV v u) (h : tagX X.K G d t) : ∃ P : Heap → Prop, PySem.W.KitX X.K u t P ∧ P s.heap ∧ u ≠ .builtin "__main__.__loader__#opaque" := by
  rcases h with ⟨C, w, rfl, rfl, ek⟩ | ⟨h, hc⟩
  · cases i with
    | @exc a _ d vv _ ea ed iw =>
      obtain rfl : u = Value.ref a := r
      obtain ⟨o, od, J, _⟩ := exc_inst I.hok (g.fz _ _ ea) (g.fz _ _ ed)
      obtain ⟨cd, hcd, _⟩ := PySem.W.any_some ek.ic.hd
      exact ⟨_, PySem.W.kitx_exc (by rw [hcd]; rfl) ek.ic.hg ek.ic.hk ek.ic.hs ek.ic.ha ek.ic.hn ek.ic.ht ek.ic.hm, J, fun z => nomatch z⟩
  · exact kit_of I r (tag_is g i h hc)
def rIsiX (K : PySem.W.Frag) : DR := fun ds G P => ∃ d c t u b, ds = [d, c] ∧ tagX K G d t ∧ clsD c = some u ∧ PySem.W.kitOne K t u = some b ∧ P (.bl b) G
def rIsiTX (K : PySem.W.Frag) : DR := fun ds G P => ∃ d cs t us b, ds = [d, .tup cs] ∧ tagX K G d t ∧ cs.map clsD = us.map some ∧ PySem.W.kitAny K t us = some b ∧ P (.bl b) G
theorem cls_v {F : Hp} {v : V} {c : Dt} {u : Value} (h : clsD c = some u) (i : Is K F v c) : ClsV v u := by
  cases c <;> first
    | (cases h; cases i; exact .ty _)
    | (cases h; cases i; exact .own _)
    | cases h
theorem cls_vs {F : Hp} : ∀ {vs : List V} {cs : List Dt} {us : List Value}, cs.map clsD = us.map some → IsL K F vs cs → Paired ClsV vs us
  | [], _, us, h, .nil => by
    cases us with
    | nil => exact .nil
    | cons _ _ => cases h
  | _ :: _, _, us, h, .cons i r => by
    cases us with
    | nil => cases h
    | cons u us =>
      rw [List.map_cons, List.map_cons] at h
      injection h with h1 h2
      exact .cons (cls_v h1 i) (cls_vs h2 r)
theorem c_isiX (hK : X.K = K) : DCall X B (.builtin "isinstance") (rIsiX K) := by
  subst hK
  refine ⟨fun vs H Q => ∃ F G ds P, Good X.K B F G H ∧ IsL X.K F vs ds ∧ rIsiX X.K ds G P ∧ Cont X.K B F P Q, ?_, fun F G H vs ds P Q g i h c => ⟨F, G, ds, P, g, i, h, c⟩⟩
  intro pins s σ H xs us Q I r ⟨F, G, ds, P, g, i, ⟨d, c, t, u, b, e, ht, hc, hk, p⟩, k⟩
  subst e
  cases i with
  | cons i1 i =>
    cases i with
    | cons i2 i =>
      cases i
      obtain ⟨u1, u2, rfl, r1, r2⟩ := vals2 r
      have e2 := (cls_v hc i2).eq r2
      subst e2
      obtain ⟨Pz, Z, pz, hx⟩ := kitX_of I g i1 r1 ht
      exact PySem.W.kia_one Z I.kIn pz hk hx fun tk => ⟨.bl b, H, I.tok tk, rfl, k _ G _ F H p (Le.refl F) g (.bl b)⟩
theorem c_isiTX (hK : X.K = K) : DCall X B (.builtin "isinstance") (rIsiTX K) := by
  subst hK
  refine ⟨fun vs H Q => ∃ F G ds P, Good X.K B F G H ∧ IsL X.K F vs ds ∧ rIsiTX X.K ds G P ∧ Cont X.K B F P Q, ?_, fun F G H vs ds P Q g i h c => ⟨F, G, ds, P, g, i, h, c⟩⟩
  intro pins s σ H xs us Q I r ⟨F, G, ds, P, g, i, ⟨d, cs, t, ws, b, e, ht, hc, hk, p⟩, k⟩
  subst e
  cases i with
  | cons i1 i =>
    cases i with
    | cons i2 i =>
      cases i
      cases i2 with
      | @tup tp vs2 _ q rr =>
        obtain ⟨u1, u2, rfl, r1, r2⟩ := vals2 r
        cases (show u2 = Value.ref tp from r2)
        obtain ⟨Pz, Z, pz, hx⟩ := kitX_of I g i1 r1 ht
        obtain ⟨_, its, rv, o, h1, h2, n, h3⟩ := (show ObjOk X.prog X.w H s.heap tp (.tup vs2) from I.hok tp _ (g.fz _ _ q))
        have e3 := ClsV.all (cls_vs hc rr) rv
        subst e3
        obtain ⟨oc, od, dt, sl⟩ := o
        simp only at h2 h3
        subst h2 h3
        exact PySem.W.kia_tup Z I.kIn pz h1 hk hx fun tk => ⟨.bl b, H, I.tok tk, rfl, k _ G _ F H p (Le.refl F) g (.bl b)⟩
end
end DL

set_option Elab.async false
set_option linter.all false
set_option maxRecDepth 100000
set_option maxHeartbeats 4000000
/-! Data with truths in it compared. -/
namespace DL
open PySem PySem.Spec L2
def plT : Nat → Dt → Bool
  | _, .non => true
  | _, .bl _ => true
  | _, .int _ => true
  | _, .str x => PyData.strOk x
  | n + 1, .lst xs => xs.all (plT n)
  | n + 1, .tup xs => xs.all (plT n)
  | _, _ => false
def toPyT : Nat → Dt → PyData
  | _, .bl b => .bool b
  | _, .int i => .int i
  | _, .str x => .str x
  | n + 1, .lst xs => .list (xs.map (toPyT n))
  | n + 1, .tup xs => .tuple (xs.map (toPyT n))
  | _, _ => .none
theorem plT_is {K : PySem.W.Frag} {F : Hp} {H : Hp} (l : ∀ a o, F a = some o → notM o = true → H a = some o) : ∀ (n : Nat) {v : V} {d : Dt}, plT n d = true → Is K F v d → Dp K H v (toPyT n d) := by
  intro n
  induction n with
  | zero =>
    intro v d h i
    cases i <;> first
      | (simp [plT] at h; done)
      | (simp only [toPyT]; constructor)
  | succ n ih =>
    have all : ∀ {vs : List V} {ds : List Dt}, ds.all (plT n) = true → IsL K F vs ds → DpAll K H vs (ds.map (toPyT n)) := by
      intro vs ds
      induction ds generalizing vs with
      | nil => intro _ r; cases r; exact .nil
      | cons d ds ih2 =>
        intro h r
        rw [List.all_cons, Bool.and_eq_true] at h
        cases r with
        | cons r1 r2 => exact .cons (ih h.1 r1) (ih2 h.2 r2)
    intro v d h i
    cases i with
    | lst q r => simp only [plT] at h; exact .lst (SqL.of (l _ _ q rfl)) (all h r)
    | tup q r => simp only [plT] at h; exact .tup (SqT.of (l _ _ q rfl)) (all h r)
    | non => simp only [toPyT]; exact .non
    | bl b => simp only [toPyT]; exact .bl b
    | int i => simp only [toPyT]; exact .int i
    | str x => simp only [toPyT]; exact .str x
    | _ => simp [plT] at h
theorem plT_lay : ∀ (n : Nat) {d : Dt}, plT n d = true → (toPyT n d).canLay0 = true ∧ (toPyT n d).depth ≤ n := by
  intro n
  induction n with
  | zero =>
    intro d h
    cases d <;> simp [plT] at h <;> simp [toPyT, PyData.canLay0, PyData.depth, h]
  | succ n ih =>
    have all : ∀ {ds : List Dt}, ds.all (plT n) = true → PyData.canLayAll0 (ds.map (toPyT n)) = true ∧ PyData.depthAll (ds.map (toPyT n)) ≤ n := by
      intro ds
      induction ds with
      | nil => intro _; simp [PyData.canLayAll0, PyData.depthAll]
      | cons d ds ih2 =>
        intro h
        rw [List.all_cons, Bool.and_eq_true] at h
        obtain ⟨a1, a2⟩ := ih h.1
        obtain ⟨b1, b2⟩ := ih2 h.2
        simp only [List.map_cons, PyData.canLayAll0, PyData.depthAll, a1, b1, Bool.and_self, true_and]
        omega
    intro d h
    cases d with
    | lst xs =>
      simp only [plT] at h
      obtain ⟨a, b⟩ := all h
      simp only [toPyT, PyData.canLay0, PyData.depth, a, true_and]
      omega
    | tup xs =>
      simp only [plT] at h
      obtain ⟨a, b⟩ := all h
      simp only [toPyT, PyData.canLay0, PyData.depth, a, true_and]
      omega
    | _ => simp [plT] at h <;> simp [toPyT, PyData.canLay0, PyData.depth, h]
theorem plT_shaped {n : Nat} {d : Dt} (hn : n ≤ 64) (h : plT n d = true) : SeqAt.shaped (toPyT n d) = true := by
  obtain ⟨a, b⟩ := plT_lay n h
  unfold SeqAt.shaped
  rw [a, Bool.true_and]
  exact decide_eq_true (Nat.le_trans b hn)
theorem nowT_is {K : PySem.W.Frag} {B F : Hp} {G : Gp} {H : Hp} {v : V} {d : Dt} (g : Good K B F G H) (i : Is K F v d) {n : Nat} (h : plT n (now G d) = true) : Dp K H v (toPyT n (now G d)) := by
  unfold now at h ⊢
  split
  · rename_i xs e
    rw [e] at h
    obtain ⟨q, vs, rfl, e2, r⟩ := asL_is g i e
    cases n with
    | zero => simp [plT] at h
    | succ n =>
      simp only [plT] at h
      have all : ∀ {vs : List V} {ds : List Dt}, ds.all (plT n) = true → IsL K F vs ds → DpAll K H vs (ds.map (toPyT n)) := by
        intro vs ds
        induction ds generalizing vs with
        | nil => intro _ r; cases r; exact .nil
        | cons d ds ih2 =>
          intro h r
          rw [List.all_cons, Bool.and_eq_true] at h
          cases r with
          | cons r1 r2 => exact .cons (plT_is g.fz0 n h.1 r1) (ih2 h.2 r2)
      exact .lst (SqL.of e2) (all h r)
  · rename_i e
    rw [e] at h
    exact plT_is g.fz0 n h i
section
variable {X : Cx} {B : Hp}
def rEqT (neg : Bool) : DR2 := fun x y G P => plT 9 (now G x) = true ∧ plT 9 (now G y) = true ∧ P (.bl (neg != PyData.eqv (toPyT 9 (now G x)) (toPyT 9 (now G y)))) G
theorem o_eqT {k : Nat} (hr : Room k X.A) : DOp X B (compareOp .Eq) (rEqT false) := ⟨_, op_eqD hr.units, fun F G H v w x y P Q g rx ry ⟨h1, h2, p⟩ c =>
  ⟨_, _, nowT_is g rx h1, nowT_is g ry h2, plT_shaped (by decide) h1, plT_shaped (by decide) h2, c _ G _ F H (by simpa using p) (Le.refl F) g (.bl _)⟩⟩
theorem o_neT {k : Nat} (hr : Room k X.A) : DOp X B (compareOp .NotEq) (rEqT true) := ⟨_, op_neD hr.units, fun F G H v w x y P Q g rx ry ⟨h1, h2, p⟩ c =>
  ⟨_, _, nowT_is g rx h1, nowT_is g ry h2, plT_shaped (by decide) h1, plT_shaped (by decide) h2, c _ G _ F H (by simpa using p) (Le.refl F) g (.bl _)⟩⟩
theorem dt_chain {a b c : Expr} {ta tb tc : DTE} {op op' : CmpOp} {r r' : DR2} (ho : DOp X B (compareOp op) r) (ho' : DOp X B (compareOp op') r') (ha : DE X B a ta) (hb : DE X B b tb) (hc : DE X B c tc)
    (hm : lastMarks [op, op'] [b, c] = false := by rfl) : DT X B (.Compare a [op, op'] [b, c] pos) (dB (dChain r r' ta tb tc)) := by
  obtain ⟨q, h1, h2⟩ := ho.ex
  obtain ⟨q', h1', h2'⟩ := ho'.ex
  exact PT.imp (pt_chain h1 h1' ha hb hc hm) fun σ H Q ⟨F, G, δ, P, g, s, p, c⟩ => by
    obtain ⟨F', G', δ', P', g', s', p', c'⟩ := db_imp σ H Q ⟨F, G, δ, P, g, s, p, c⟩
    exact chain_imp h2 h2' σ H _ ⟨F', G', δ', P', g', s', p', c'⟩
end
end DL

set_option Elab.async false
set_option linter.all false
set_option maxRecDepth 100000
set_option maxHeartbeats 4000000
/-! Within an except suite: the end of a list's walk, of a tuple's; tuples taken apart; list comprehensions. -/
namespace HotL
open PySem PySem.Spec PyProof PyProof.Rows L2 L2H HotX
section
variable {prog : Program} {w : World} {A : Around} {E : Value → Shared → Prop} {s : Shared} {x1 : Addr}
/-- all that stands but one address goes on standing -/
def But (a : Addr) (h h' : Heap) : Prop := ∀ b o, b ≠ a → h.get? b = some o → h'.get? b = some o
theorem HotAt.but {h h' : Heap} {a : Addr} (t : HotAt A x1 h) (k : But a h h') (n : x1 ≠ a) : HotAt A x1 h' := by
  obtain ⟨e, o, vs, q, r⟩ := t
  exact ⟨e, o, vs, k _ _ n q, r⟩
theorem HotAt.in1 {h : Heap} (t : HotAt A x1 h) : HotAt A.in1 x1 h := t
/-- a StopIteration is made and raised: all that stood stands -/
theorem stop_raised {α : Type} {Q : α → Shared → Prop} (t : HotAt A x1 s.heap) (q : ∀ a h', (∀ b o, s.heap.get? b = some o → h'.get? b = some o) → ({ s with heap := h' } : Shared).TypeIs (.ref a) "StopIteration" → E (.ref a) { s with heap := h' }) :
    wpAny (model prog w) A (newExc (.type "StopIteration") [] >>= fun e => raiseNew e) Q E s := by
  have up : ∀ {h : Heap} {o1 o2 : Obj} (b : Addr) (o : Obj), h.get? b = some o → ((h.push o1).push o2).get? b = some o := fun b o e => Heap.get?_push_of_some _ (Heap.get?_push_of_some _ e)
  obtain ⟨hh, o1, v1, g1, d1, c1⟩ := t
  unfold newExc newTuple
  refine wpAny_bind (wpAny_bind (wpAny_newObj_type ?_ (by size_fits)))
  refine wpAny_bind (m := firstArgMember _ _) (wpAny_of_eq (a := Value.none) (by first | rfl | (unfold firstArgMember; rfl)) (wpAny_newObj_type ?_ (by size_fits)))
  have old : x1 < (s.heap.push { cls := Value.type "tuple", data := Data.seq #[] }).objs.size := Heap.lt_size (Heap.get?_push_of_some _ g1)
  refine raiseNew_hot ⟨hh, o1, v1, up _ _ g1, d1, c1⟩ (Nat.ne_of_lt old) (Heap.get?_push_size _ rfl) rfl ?_ (q _ _ (fun b o e => ?_) ⟨_, Heap.get?_update_self _ (Heap.get?_push_size _ rfl) rfl, rfl⟩)
  · rw [Array.size_append]
    exact Nat.lt_of_lt_of_le (by decide : 2 < 6) (Nat.le_add_right _ _)
  · have lt : b < (s.heap.push { cls := Value.type "tuple", data := Data.seq #[] }).objs.size := Heap.lt_size (Heap.get?_push_of_some _ e)
    exact (Heap.get?_update_other _ _ (Nat.ne_of_gt lt)).trans (up _ _ e)
/-- what a walk does with the StopIteration -/
theorem stop_taken {a : Addr} {Q : Option Value → Shared → Prop} (h : s.TypeIs (.ref a) "StopIteration") (q : Q none s) :
    wpAny (model prog w) A (isInstance (.ref a) (.type "StopIteration") >>= fun b => if b = true then pure none else throw (.ref a)) Q E s :=
  wpAny_bind (wpAny_isInstance h isSubtype_stop (wpAny_pure q))
theorem list_end {Q : Option Value → Shared → Prop} {it l : Addr} {i : Nat} {its : Array Value} (t : HotAt A x1 s.heap) (n : x1 ≠ it) (hit : s.heap.IsListIter it l i) (hl : s.heap.IsList l its) (hx : its[i]? = none) (q : ∀ h', But it s.heap h' → Q none { s with heap := h' }) :
    wpAny (model prog w) A (pyNext (.ref it)) Q E s := by
  have hs := hit.typeIs
  obtain ⟨o, ho, _, hd⟩ := hit
  obtain ⟨ol, hol, _, _, hdl⟩ := hl
  unfold pyNext
  refine wpAny_bind (wpAny_attempt (wpAny_callSpecial?_slot (name := Str.ofString "__next__") hs slot_listiter_next (wpAny_call_entry slot_listiter_next hs entry_listiter_next ?_ (args_listiter_next _))))
  show wpAny _ A.in1 (field (.ref it) 0 >>= _) _ _ s
  refine wpAny_bind (wpAny_field ho hd (x := .ref l) rfl ?_)
  show wpAny _ A.in1 (if (Value.ref l == Value.none) = true then _ else _) _ _ s
  rw [if_neg (fun z => Bool.noConfusion z)]
  show wpAny _ A.in1 (field (.ref it) 1 >>= _) _ _ s
  refine wpAny_bind (wpAny_field ho hd (x := .int i 0) rfl ?_)
  show wpAny _ A.in1 (seqItems? (.ref l) >>= _) _ _ s
  refine wpAny_bind (wpAny_seqItems hol hdl ?_)
  have none_there : its[((i : Nat) : Int).toNat]? = none := hx
  dsimp only
  rw [none_there]
  refine wpAny_bind (wpAny_rule (wpAny_bind (wpAny_setField ho hd (by simp) ?_)))
  have far : ∀ b o', b ≠ it → s.heap.get? b = some o' → (s.heap.update it (Obj.mapFields (·.setIfInBounds 0 .none))).get? b = some o' := fun b o' z e => (Heap.get?_update_other _ _ (Ne.symm z)).trans e
  exact stop_raised (HotAt.in1 (HotAt.but t far n)) fun a h' k ty => stop_taken ty (q _ fun b o' z e => k _ _ (far b o' z e))
theorem tup_end {Q : Option Value → Shared → Prop} {it l : Addr} {i : Nat} {its : Array Value} (t : HotAt A x1 s.heap) (n : x1 ≠ it) (hit : IsTupIter s.heap it l i) (hl : IsTup s.heap l its) (hx : its[i]? = none) (q : ∀ h', But it s.heap h' → Q none { s with heap := h' }) :
    wpAny (model prog w) A (pyNext (.ref it)) Q E s := by
  have hs := hit.typeIs
  obtain ⟨o, ho, _, hd⟩ := hit
  obtain ⟨ol, hol, _, _, hdl⟩ := hl
  unfold pyNext
  refine wpAny_bind (wpAny_attempt (wpAny_callSpecial?_slot (name := Str.ofString "__next__") hs slot_tupleiter_next (wpAny_call_entry slot_tupleiter_next hs entry_tupleiter_next ?_ (args_tupleiter_next _))))
  show wpAny _ A.in1 (field (.ref it) 0 >>= _) _ _ s
  refine wpAny_bind (wpAny_field ho hd (x := .ref l) rfl ?_)
  show wpAny _ A.in1 (if (Value.ref l == Value.none) = true then _ else _) _ _ s
  rw [if_neg (fun z => Bool.noConfusion z)]
  show wpAny _ A.in1 (field (.ref it) 1 >>= _) _ _ s
  refine wpAny_bind (wpAny_field ho hd (x := .int i 0) rfl ?_)
  show wpAny _ A.in1 (seqItems? (.ref l) >>= _) _ _ s
  refine wpAny_bind (wpAny_seqItems hol hdl ?_)
  have none_there : its[((i : Nat) : Int).toNat]? = none := hx
  dsimp only
  rw [none_there]
  refine wpAny_bind (wpAny_rule (wpAny_bind (wpAny_setField ho hd (by simp) ?_)))
  have far : ∀ b o', b ≠ it → s.heap.get? b = some o' → (s.heap.update it (Obj.mapFields (·.setIfInBounds 0 .none))).get? b = some o' := fun b o' z e => (Heap.get?_update_other _ _ (Ne.symm z)).trans e
  exact stop_raised (HotAt.in1 (HotAt.but t far n)) fun a h' k ty => stop_taken ty (q _ fun b o' z e => k _ _ (far b o' z e))
/-- a tuple taken apart: a walk of its own, to the end -/
theorem apart {Q : List Value → Shared → Prop} {l : Addr} {its : Array Value} (t : HotAt A x1 s.heap) (hl : IsTup s.heap l its) (q : ∀ h', But s.heap.objs.size s.heap h' → Q its.toList { s with heap := h' }) :
    wpAny (model prog w) A (unpackItems (.ref l) its.size none) Q E s := by
  have old : ∀ {b : Addr} {o : Obj}, s.heap.get? b = some o → b ≠ s.heap.objs.size := fun e => Nat.ne_of_lt (Heap.lt_size e)
  have ln : l ≠ s.heap.objs.size := hl.elim fun o h => old h.1
  have xn : x1 ≠ s.heap.objs.size := t.2.elim fun o h => h.elim fun vs k => old k.1
  unfold unpackItems notIterableAtAll
  refine wpAny_bind (wpAny_bind (wpAny_specialOf hl.typeIs slot_tuple_iter.lookup (wpAny_pure ?_)))
  rw [if_neg (by exact fun z => Bool.noConfusion z)]
  refine wpAny_bind (wpAny_holding (iter_tuple hl (wpAny_bind (wpAny_holding (draw_tuple ln its.size 0 _ _ ⟨_, Heap.get?_push_size _ rfl, rfl, rfl⟩ (hl.push _) (by omega) fun h1 hit1 hs1 => ?_)))))
  have whole : List.take its.size (List.drop 0 its.toList) = its.toList := List.take_of_length_le (by simp)
  rw [whole, if_neg (by simp)]
  have k1 : But s.heap.objs.size s.heap h1 := fun b o z e => hs1.extBut b o z (Heap.get?_push_of_some _ e)
  refine wpAny_bind (wpAny_holding (tup_end (HotAt.but t k1 xn) xn hit1 ((hl.push _).extBut hs1.extBut ln) (by simp) fun h2 k2 => ?_))
  exact wpAny_pure (q h2 fun b o z e => k2 b o z (k1 b o z e))
end
section
variable {X : Cx}
/-- where T holds of what is tracked, a handled exception stands, its context None -/
def HotT (X : Cx) (T : Hp → Prop) : Prop := ∀ (pins : List (Addr × Obj)) (σ : L2.St) (H : Hp) (s : Shared), Inv X pins σ H s → T H → ∃ x1, HotAt X.A x1 s.heap ∧ H x1 ≠ none
/-- a target in a block within a suite -/
structure PGH (X : Cx) (T : Hp → Prop) (tg : Expr) (g : TG) : Prop where
  run : ∀ (pins : List (Addr × Obj)) (s : Shared) (σ : L2.St) (H : Hp) (v : V) (u : Value) (Q : L2.St → Hp → Prop), T H → Inv X pins σ H s → RelV v u → g v σ H Q →
    wpAny (model X.prog X.w) X.A (assign tg X.env u) (fun _ s1 => ∃ σ1 H1, Inv X pins σ1 H1 s1 ∧ Q σ1 H1) X.xe s
theorem pgh_tup {T : Hp → Prop} {es : List Expr} {k : Nat} {pos : Pos} {t : TGs} {n : Nat} (hT : HotT X T) (h : PGs X es t) (hn : (assignEach es X.env).length = n) (hst : (assignEach es X.env).findIdx? (·.1) = none) : PGH X T (.Tuple es k pos) (gTup X.K n t) := by
  constructor
  intro pins s σ H v u Q tH I r hw
  obtain ⟨a, xs, rfl, hq, hl, hw⟩ := hw
  cases r
  obtain ⟨its, rv, ht, _⟩ := I.tuple hq
  obtain ⟨x1, hot, _⟩ := hT pins σ H s I tH
  have hsz : (assignEach es X.env).length = its.toArray.size := by rw [hn, ← hl, rv.length, List.size_toArray]
  rw [assign_Tuple]
  refine wpAny_bind (wpAny_standAt ?_)
  unfold unpack
  rw [hsz, hst]
  refine wpAny_bind (wpAny_holding (apart hot ht fun h' hk => ?_))
  have I1 : Inv X pins σ H { s with heap := h' } := I.kept (t' := s.toks) fun b o e => hk b o (Nat.ne_of_lt (Heap.lt_size e)) e
  exact h.run pins _ σ H xs _ Q I1 (by simpa using rv) hw
end
/-! ### [.. for .. in a list if ..] there -/
section
variable {Y : Cx} {tg iter elt : Expr} {ifs : List Expr} {scope : Scope} {pos : Pos} {it a D : Addr} {σ : L2.St} {vs : List Nat} {T : Hp → Prop} {g : TG} {tt : TT} {te : TE} {R : Result → Shared → Prop} {s : Shared}
/-- a turn's state: the walk `it` of the list a stands before its i-th item -/
def Mid (Y : Cx) (it a : Addr) (τ : L2.St) (i : Nat) (H : Hp) (s : Shared) : Prop := Inv Y [] τ H s ∧ s.heap.IsListIter it a i ∧ H it = none
theorem loopH (hT : HotT Y T) (yx : Y.xe = fun _ _ => False) (yp : Y.pn = []) (ye : it ∈ Y.ex) (pg : PGH Y T tg g) (pt : PTs Y ifs tt) (pe : PE Y elt te) (W : Nat → Nat → Hp → Prop) (wT : ∀ i m H, W i m H → T H) (Qf : Hp → Prop)
    (turn : ∀ i m H, W i m H → ((Itl Y.K a).stop i H ∧ Qf H) ∨ ((Itl Y.K a).go i H ∧ ∃ Nx : Hp → Prop, (∀ H', Nx H' → ∃ m', m' < m ∧ W (i + 1) m' H') ∧ ∀ x H', (Itl Y.K a).yld i H x H' → g x (wipe σ vs) H' fun σ2 H2 => wipe σ2 vs = wipe σ vs ∧ tt σ2 H2 fun b H3 =>
      if b = true then te σ2 H3 fun y H4 => ∃ acc, H4 D = some (.lst acc) ∧ acc.length < sizeLine ∧ Nx (upd H4 D (.lst (acc ++ [y]))) else Nx H3))
    (out : ∀ H' s', Inv Y [] (wipe σ vs) H' s' → Qf H' → R (.ok .next) s') {m0 : Nat} {H0 : Hp} (st : Mid Y it a (wipe σ vs) 0 H0 s) (w0 : W 0 m0 H0) :
    codeAny (model Y.prog Y.w) Y.A (.compLoop (.ListComp elt [⟨tg, iter, ifs, 0⟩] scope pos) 0 (.ref it) (.ref D) Y.env) R s := by
  have quiet : ∀ {α : Type} {t : Sem α} {Q Q' : α → Shared → Prop} {E : Value → Shared → Prop} {s : Shared}, wpAny (model Y.prog Y.w) Y.A t Q Y.xe s → (∀ a s, Q a s → Q' a s) → wpAny (model Y.prog Y.w) Y.A t Q' E s := fun h k => by
    rw [yx] at h
    exact thnF h k
  refine compLoop_any (fun n s' => ∃ i H', Mid Y it a (wipe σ vs) i H' s' ∧ W i n H') ?_ m0 ⟨0, H0, st, w0⟩
  rintro n s1 ⟨i, H1, ⟨I1, t1, n1⟩, w1⟩
  have only : ∀ q ∈ Y.pn ++ [], q.1 ≠ it := fun q hq => by
    rw [yp] at hq
    cases hq
  have x1 := I1.ok.exf it ye
  have fp1 : FpOk Y [] H1 it := ⟨n1, x1.1, I1.ok.exfs it ye, .inl ye, fun x c e => x1.2 x c e, only⟩
  rcases turn i n H1 w1 with ⟨⟨xs, hq, hle⟩, qf⟩ | ⟨⟨xs, x, hq, hx⟩, Nx, hNx, step⟩
  · obtain ⟨us, rv, hl, _⟩ := I1.list hq
    obtain ⟨x1', hot, nx⟩ := hT [] _ H1 s1 I1 (wT _ _ _ w1)
    have far : x1' ≠ it := fun z => nx (by rw [z]; exact n1)
    have hlen := rv.length
    refine list_end hot far t1 hl.isList (by simp; omega) fun h2 k2 => ?_
    exact out H1 _ (I1.turned (t' := s1.toks) (fun b o z e => k2 b o z e) n1 x1.1 (.inl ye) x1.2 only) qf
  · obtain ⟨us, rv, hl, _⟩ := I1.list hq
    obtain ⟨u, hu, ru⟩ := rv.get hx
    refine wpAny_pyNext_list_item t1 hl.isList (x := u) (by simpa using hu) fun h2 t2 k2 => ?_
    have I2 : Inv Y [] (wipe σ vs) H1 { s1 with heap := h2 } := I1.turned (t' := s1.toks) (fun b o z e => (k2.2 b z).trans e) n1 x1.1 (.inl ye) x1.2 only
    obtain ⟨o2, e2, c2, d2⟩ := id t2
    refine go_of (s := { s1 with heap := h2 }) e2 c2 d2 (by decide) ?_
    have I3 : Inv Y [(it, o2)] (wipe σ vs) H1 { s1 with heap := h2 } := I2.pins_of fun q hq => by
      rw [List.mem_singleton.mp hq]
      exact ⟨e2, n1, x1.1, I1.ok.exfs it ye, fun v z => by rw [d2] at z; cases z⟩
    refine quiet (pg.run _ _ _ H1 x u _ (wT _ _ _ w1) I3 ru (step x H1 ⟨rfl, fun ys hy => by rw [I1.list_inj hy hq]; exact hx⟩)) fun _ s4 ⟨σ4, H4, I4, w4, q4⟩ => ?_
    refine quiet (pt.run _ s4 σ4 H4 _ I4 q4) fun b s5 ⟨H5, I5, q5⟩ => ?_
    have ends : ∀ {s' : Shared} {H' : Hp}, Inv Y [(it, o2)] σ4 H' s' → Nx H' → ∃ m, m < n ∧ ∃ i H', Mid Y it a (wipe σ vs) i H' s' ∧ W i m H' := fun {s' H'} I' nx => by
      obtain ⟨m, hm, w'⟩ := hNx H' nx
      have pi := I'.pin (it, o2) (List.mem_append_right _ List.mem_cons_self)
      refine ⟨m, hm, i + 1, H', ⟨(I'.pins_of (pins' := []) fun q hq => nomatch hq).weak (by rw [← w4, wipe_length]) fun j v e => ?_, ⟨o2, pi.1, c2, d2⟩, pi.2.1⟩, w'⟩
      rw [← w4] at e
      exact (wipe_some e).1
    cases b with
    | false => exact ends I5 q5
    | true =>
      refine quiet (pe.run _ s5 σ4 H5 _ I5 q5) fun z s6 ⟨y, H6, I6, r6, acc, hD, hz, nx⟩ => ?_
      exact app_ok I6 hD hz r6 fun s7 I7 => ends I7 nx
end
section
variable {X : Cx}
/-- as tLc, where T holds at each turn -/
def tLcT (T : Hp → Prop) (wi : TI) (g : TG) (tt : TT) (te : TE) (vs : List Nat) : TE := fun σ H Q => wi σ H fun J H1 => ∀ D, H1 D = none → ∃ W : Nat → Nat → Hp → Prop, (∀ i m H, W i m H → T H) ∧ (∃ m, W 0 m (upd H1 D (.lst []))) ∧ ∀ i m H, W i m H →
  (J.stop i H ∧ Q (.ref D) H) ∨ (J.go i H ∧ ∃ Nx : Hp → Prop, (∀ H', Nx H' → ∃ m', m' < m ∧ W (i + 1) m' H') ∧ ∀ x H', J.yld i H x H' → g x (wipe σ vs) H' fun σ2 H2 => wipe σ2 vs = wipe σ vs ∧ tt σ2 H2 fun b H3 =>
    if b = true then te σ2 H3 fun y H4 => ∃ acc, H4 D = some (.lst acc) ∧ acc.length < sizeLine ∧ Nx (upd H4 D (.lst (acc ++ [y]))) else Nx H3)
theorem pe_lcH {T : Hp → Prop} {elt tg iter : Expr} {ifs : List Expr} {scope : Scope} {own : List (Str × Nat)} {pos : Pos} {tl : TE} {g : TG} {tt : TT} {te : TE} (hT : ∀ (s : Shared) (H : Hp) (C : Addr) (cl : List (Str × Addr)) (fp : List Addr), HotT (X.blk s H scope (compEnvC scope cl C X.env) fp) T) (hN : X.N.Nodup) (hl : PE X iter tl) (ok : BlkOk X.N X.env.scope scope own)
    (hg : ∀ (s : Shared) (H : Hp) (C : Addr) (cl : List (Str × Addr)) (fp : List Addr), PGH (X.blk s H scope (compEnvC scope cl C X.env) fp) T tg g)
    (ht : ∀ (s : Shared) (H : Hp) (C : Addr) (cl : List (Str × Addr)) (fp : List Addr), PTs (X.blk s H scope (compEnvC scope cl C X.env) fp) ifs tt)
    (he : ∀ (s : Shared) (H : Hp) (C : Addr) (cl : List (Str × Addr)) (fp : List Addr), PE (X.blk s H scope (compEnvC scope cl C X.env) fp) elt te) (hs : ∀ x, foldedSetIterable iter X.env x = pure x := by intro _; rfl) :
    PE X (.ListComp elt [⟨tg, iter, ifs, 0⟩] scope pos) (tLcT T (iList X.K tl) g tt te (own.map (·.2))) := by
  refine ⟨fun pins s σ H Q I h => ?_⟩
  have closes : ∀ y ∈ scope.names, y.2 = .free → ∃ c, X.env.cells.lookup y.1 = some c := fun y hy e => I.ok.has _ ((ok.free y hy e).elim .inl .inr)
  rw [eval_ListComp]
  refine wpAny_comprehension_free rfl hs (closure_ok closes) ok.kind (fun y hy e => by rw [ok.uniq y hy, e]) (thn (hl.run pins s σ H _ I h) fun v s1 ⟨x, H1, I1, r1, a, ea, ⟨xs0, hq⟩, q⟩ => ?_)
  subst ea
  cases r1
  obtain ⟨us, rv, hal, _⟩ := I1.list hq
  refine wpAny_pyIter_list hal.isList (wpAny_newObj_type (newEnv_comp ?_) (by show 0 ≤ sizeLine; decide))
  -- the walk's object
  have gi := Heap.get?_push_size s1.heap (o := { cls := .type "list_iterator", data := .fields #[.ref a, .int 0 0] }) rfl
  have k2 : ∀ b o, s1.heap.get? b = some o → (s1.heap.push { cls := .type "list_iterator", data := .fields #[.ref a, .int 0 0] }).get? b = some o := fun b o e => Heap.get?_push_of_some _ e
  have I2 := I1.kept (t' := s1.toks) k2
  have fi := I1.fpOk (Nat.le_refl _) (I1.hok.fresh (Nat.le_refl _))
  have li := Heap.lt_size gi
  generalize eh2 : s1.heap.push { cls := .type "list_iterator", data := .fields #[.ref a, .int 0 0] } = h2 at gi k2 I2 li ⊢
  generalize ei : s1.heap.objs.size = it at gi fi li ⊢
  -- the new list
  have gD := Heap.get?_push_size h2 (o := { cls := .type "list", data := .seq ([] : List Value).toArray }) rfl
  have k3 : ∀ b o, h2.get? b = some o → (h2.push { cls := .type "list", data := .seq ([] : List Value).toArray }).get? b = some o := fun b o e => Heap.get?_push_of_some _ e
  have nD : H1 h2.objs.size = none := I2.hok.fresh (Nat.le_refl _)
  have I3 := I2.laid (t' := s1.toks) (a := h2.objs.size) (o := .lst []) k3 (Nat.le_refl _) ⟨Nat.zero_le _, [], 0, .nil, gD⟩
  have l3 : it < (h2.push { cls := .type "list", data := .seq ([] : List Value).toArray }).objs.size := by
    rw [Heap.size_push]
    exact Nat.lt_succ_of_lt li
  obtain ⟨W, wT, ⟨m0, w0⟩, turn⟩ := q h2.objs.size nD
  have iD : it ≠ h2.objs.size := Nat.ne_of_lt li
  have f3 : FpOk X pins (upd H1 h2.objs.size (.lst [])) it := ⟨by rw [upd_ne iD]; exact fi.1, fi.2⟩
  generalize eD : h2.objs.size = D at I3 w0 turn iD f3 nD gD ⊢
  generalize eh3 : h2.push { cls := .type "list", data := .seq ([] : List Value).toArray } = h3 at I3 k3 gD l3 ⊢
  generalize eH3 : upd H1 D (.lst []) = H3 at I3 w0 f3 ⊢
  -- the block
  have J3 : Inv X pins σ H3 ({ s1 with heap := h3 } : Shared) := I3
  clear I3 I2
  have I4 := block_start J3 ok hN (fp := [it]) fun b hb => by rw [List.mem_singleton.mp hb]; exact ⟨f3, l3⟩
  have k4 : ∀ b o, h3.get? b = some o → (pushCells (h3.push { cls := .type "dict", data := .dict #[] }) scope.names).get? b = some o := fun b o e => pushCells_keeps _ _ _ _ (Heap.get?_push_of_some _ e)
  have g4 := k4 _ _ (k3 _ _ gi)
  generalize es3 : ({ s1 with heap := h3 } : Shared) = s3 at J3 I4
  have e3 : s3.heap = h3 := by rw [← es3]
  have pg := hg s3 H3 s3.heap.objs.size (cellsFrom (s3.heap.objs.size + 1) scope.names (cloFrom X.env.cells scope.names [])) [it]
  have pt := ht s3 H3 s3.heap.objs.size (cellsFrom (s3.heap.objs.size + 1) scope.names (cloFrom X.env.cells scope.names [])) [it]
  have pe := he s3 H3 s3.heap.objs.size (cellsFrom (s3.heap.objs.size + 1) scope.names (cloFrom X.env.cells scope.names [])) [it]
  have cL : (compEnvC scope (cellsFrom (s3.heap.objs.size + 1) scope.names (cloFrom X.env.cells scope.names [])) s3.heap.objs.size X.env).locals = h3.objs.size := by rw [← e3]; rfl
  have tb := hT s3 H3 s3.heap.objs.size (cellsFrom (s3.heap.objs.size + 1) scope.names (cloFrom X.env.cells scope.names [])) [it]
  have start : Mid _ it a _ 0 H3 _ := ⟨I4, ⟨_, by rw [← es3]; exact g4, rfl, rfl⟩, f3.1⟩
  have loop := loopH (Y := X.blk s3 H3 scope (compEnvC scope (cellsFrom (s3.heap.objs.size + 1) scope.names (cloFrom X.env.cells scope.names [])) s3.heap.objs.size X.env) [it]) (R := compPost (model X.prog X.w) X.A X.xe none (fun v s' => EP X pins σ Q v s') (.ref D) h3.objs.size) (iter := iter) (scope := scope) (pos := pos) (D := D) tb rfl rfl (List.mem_singleton.mpr rfl) pg pt pe W wT (Q (.ref D)) turn (fun H' s' I6 qf => ?_) start w0
  · subst es3
    exact codeAny_compStart_list loop (wpAny_pyIter_listiter ⟨_, g4, rfl, rfl⟩ loop)
  · have I7 : Inv X pins σ H' s' := J3.call' (ch := [it]) I6.os I6.base I6.hok I6.bare fun b hb => by
      rw [List.mem_singleton.mp hb]
      exact ⟨f3.2.2.2.1, f3.2.1, f3.2.2.2.2.1, f3.2.2.2.2.2⟩
    have nC := I6.free
    obtain ⟨m, hn, _⟩ := I6.loc
    have nC' : H' h3.objs.size = none := by rw [← cL]; exact nC
    have fC := J3.fpOk (b := h3.objs.size) (by rw [e3]; exact Nat.le_refl _) nC'
    refine ⟨m, by rw [← cL]; exact hn, fun h'' sb => ⟨.ref D, H', I7.turned (t' := s'.toks) (fun b o z e => (sb.2 b z).trans e) nC' fC.2.1 fC.2.2.2.1 fC.2.2.2.2.1 fC.2.2.2.2.2, rfl, qf⟩⟩
end
end HotL
/-! ### defs called there -/
namespace HotL
open PySem PySem.Spec PyProof PyProof.Rows L2 L2H HotX DL
/-- a def's promise where the handled exception is tracked -/
structure FnT (P : Program) (w : World) (K : PySem.W.Frag) (mg : Str → Option Value) (base : Heap) (CX : CXT) (k : Nat) (f : Addr) (fd : FuncData) (ps : List Str) (sp : Addr → Sp) : Prop where
  len : ∀ a vs H Q E, sp a vs H Q E → vs.length = ps.length
  run : ∀ (A : Around) (outer : List Env) (s : Shared) (H : Hp) (args : Args) (us : List Value) (vs : List V) (Q : VK) (E : XK) (a : Addr), RoomH k A → A.handled = some (.ref a) → Env0 P w K mg base A outer s H → BindsTo s fd args (ps.zip us) → Vals vs us → sp a vs H Q E →
    codeAny (model P w) A (.call (.ref f) args) (CR CX outer P w H s Q E) s
/-- the context of its body -/
def cxT (CX : CXT) (P : Program) (w : World) (K : PySem.W.Frag) (mg : Str → Option Value) (base : Heap) (N : List Str) (qual : Str) (scope : Scope) (f : Addr) (cd : Value) (A : Around) (outer : List Env) (s : Shared) (H : Hp) (E : XK) : Cx :=
  { cxOf CX P w K mg base N qual scope f cd A outer s H E with calm := false }
section
variable {CX : CXT} {P : Program} {w : World} {K : PySem.W.Frag} {mg : Str → Option Value} {base : Heap} {N ps : List Str} {qual : Str} {scope : Scope} {f : Addr} {cd : Value} {A : Around} {outer : List Env} {s s1 : Shared} {H : Hp} {E : XK} {us : List Value} {vs : List V}
theorem inv_startT (S : FnScope N ps scope) (e0 : Env0 P w K mg base A outer s H) (hl : vs.length = ps.length) (r : Vals vs us)
    (x : InCallC s s.heap.objs.size (bindL (envOfC qual scope s.heap.objs.size f cd).kindOf (ps.zip us) fun _ => none) (cellsFrom (s.heap.objs.size + 1) scope.names []) (bindC (envOfC qual scope s.heap.objs.size f cd).kindOf (ps.zip us) fun _ => none) s1) :
    Inv (cxT CX P w K mg base N qual scope f cd A outer s H E) [] (L2.start N vs) H s1 := by
  have e1 : Env0 P w K mg base { A with handled := none } outer s H := ⟨e0.frames, e0.mod, e0.bs, e0.bsz, e0.funs, e0.frf, e0.hok, e0.bare⟩
  have I := inv_start (CX := CX) (E := E) S rfl e1 hl r x
  have o := I.ok
  exact ⟨⟨o.mod, o.kind, o.glob, o.blt, o.above, o.inj, o.has, o.cab, fun z => Bool.noConfusion (show false = true from z), Around.frames_deeper e0.frames, o.stk, o.exf, o.bs, o.bsz, o.noex, o.exfs, o.funs, o.frf⟩, I.os, I.bare, I.base, I.loc, I.cell, I.free, I.freeC, I.pin, I.hok, I.len⟩
end
section
variable {CX : CXT} {P : Program} {w : World} {K : PySem.W.Frag} {mg : Str → Option Value} {base : Heap} {k : Nat} {f : Addr} {fd : FuncData} {x qual : Str} {st : Stmt} {N ps : List Str} {sp : Addr → Sp}
theorem fnT_of (F : Fun K x qual st f fd) (S : FnScope N ps (defScope st)) (len : ∀ a vs H Q E, sp a vs H Q E → vs.length = ps.length)
    (hb : ∀ (cdv : Value) (A : Around) (outer : List Env) (s : Shared) (H : Hp) (vs : List V) (Q : VK) (E : XK) (a : Addr), A.handled = some (.ref a) → RoomH k (A.deeper (envOfC qual (defScope st) s.heap.objs.size f cdv)) → sp a vs H Q E →
      ∃ t, PSs (cxT CX P w K mg base N qual (defScope st) f cdv A outer s H E) (defBody st) t ∧ t { nx := fun _ H' => Q .non H', rt := Q } (L2.start N vs) H) :
    FnT P w K mg base CX (k + 1) f fd ps sp := by
  obtain ⟨oc, od, kV, doc, pm, an, cdv, ct, osl, rfl, lk, hcd⟩ := F.ex
  constructor
  · exact len
  intro A outer s H args us vs Q E a hr hh e0 hbi r hsp
  have hl := len _ _ _ _ _ hsp
  have up : ∀ {b : Addr} {o : Obj}, base.get? b = some o → s.heap.get? b = some o := fun {b o} e => (e0.bs b o e).1
  have KX : K.In s.heap := e0.mod.kin.keeps fun b o e => up e
  have names : ∀ y ∈ ps.zip us, (defScope st).names.lookup y.1 = some .local ∨ ((defScope st).names.lookup y.1 = some .cell ∧ ((cellsFrom (s.heap.objs.size + 1) (defScope st).names []).lookup y.1).isSome = true) := fun y hy =>
    (S.par y.1 (List.of_mem_zip (show (y.1, y.2) ∈ ps.zip us from hy)).1).imp id fun q => ⟨q, PySem.W.cellsFrom_some _ _ _ (.inl q)⟩
  refine codeAny_call_function hr.depth (KX _ _ lk) rfl S.co S.gen rfl (PySem.W.codeRec_of KX hcd) (hbi _ _ _ _ (wpAny_newFunctionEnv_cells S.kind names fun env he s1 x => ?_))
  subst he
  refine ⟨(e0.mod.nolimit.keeps fun b o e => up e).keeps x.toInCall.keep, codeAny_func ?_⟩
  obtain ⟨t, ht, hq⟩ := hb cdv A outer s H vs Q E a hh (hr.deeper _) hsp
  refine wpAny_mono (ht.run [] s1 _ H _ (inv_startT S e0 hl r x) hq) (fun fl s2 q2 => ?_) fun e s2 q2 => q2
  cases fl with
  | ret u =>
    obtain ⟨v, σ2, H2, J, rv, q⟩ := q2
    exact ⟨v, H2, J.os, J.bare, J.base, J.hok, rv, q⟩
  | next =>
    obtain ⟨σ2, H2, J, q⟩ := q2
    exact ⟨.non, H2, J.os, J.bare, J.base, J.hok, rfl, q⟩
  | brk => exact let ⟨_, _, _, z⟩ := q2; (show False from z).elim
  | cont => exact let ⟨_, _, _, z⟩ := q2; (show False from z).elim
end
/-! ### the call -/
section
variable {X : Cx} {CX : CXT} {k : Nat} {f : Addr} {fd : FuncData} {ps : List Str} {sp : Addr → Sp} {E : L2.St → XK} {x : Str} {q pos : Pos} {e : Expr} {es : List Expr} {t : TA} {a : Addr}
theorem pe_callT (F : FnT X.prog X.w X.K X.mg X.base CX k f fd ps sp) (hr : RoomH k X.A) (hh : X.A.handled = some (.ref a)) (hg : Gl X x) (hm : X.mg x = some (.ref f)) (hk : PySem.W.keepIn X.K (.ref f) = true) (hb : Binds X.K fd ps []) (hx : ∀ σ, PassesAt CX X σ (E σ))
    (ha : PA X (e :: es) t) (hdb : (x == ("__debug__" : Str)) = false := by decide) (he : starEach (e :: es) X.env = (false, eval e X.env) :: starEach es X.env := by rfl) (hpl : (backTo pos (starEach es X.env)).any (·.1) = false := by rfl) :
    PE X (.Call (.Name x q) (e :: es) [] pos) (tCallS (sp a) E t) := by
  refine ⟨fun pins s σ H Q I h => wpAny_Call_Name_kw (ld_glob I hg hm ?_ hdb)⟩
  refine PySem.W.callWith_K (h₀ := X.base) I.ok.mod.kin hk (thn (ha.run pos pins s σ H _ I h) fun us s1 ⟨vs, H1, I1, r, q2⟩ => ⟨I1.kIn, ?_⟩) he hpl
  have bi := hb s1 us I1.kIn (by rw [List.append_nil, ← r.length]; exact F.len _ _ _ _ _ q2)
  rw [List.append_nil] at bi
  refine wpAny_call (codeAny_mono (F.run X.A X.stack s1 H1 ⟨us, []⟩ us vs Q (E σ) a hr hh I1.env0 bi r q2) fun rr s2 hq => ?_)
  match rr, hq with
  | .error er, hq => exact hx σ pins H1 s1 er s2 I1 hq
  | .ok (.ret u), hq => exact I1.after hq
end
end HotL
namespace DL
open PySem PySem.Spec L2 L2H HotL
section
variable {X : Cx} {B : Hp} {es ifs : List Expr} {elt iter tg : Expr} {scope : Scope} {own : List (Str × Nat)} {pos : Pos} {te te0 : DTE} {g : DTG} {tt : DTT}
theorem exg_hot {a C d : Addr} (hh : X.A.handled = some (.ref a)) : HotT X (fun H => H a = some (exg a C d)) := fun pins σ H s I e => by
  obtain ⟨o, vs, h1, _, _, h4, h5⟩ := (show ObjOk X.prog X.w H s.heap a (.ext fun h => ∃ (o : Obj) (vs : Array Value), h.get? a = some o ∧ o.cls = .ref C ∧ o.dict = some d ∧ o.data = .fields vs ∧ vs[2]? = some .none) from I.hok a _ e).1
  exact ⟨a, ⟨hh, o, vs, h1, h4, h5⟩, by rw [e]; simp⟩
/-- the handled exception is among what is known -/
def HotB (X : Cx) (B : Hp) : Prop := ∃ a C d, X.A.handled = some (.ref a) ∧ B a = some (exg a C d)
theorem dgh_tup {T : Hp → Prop} {vs : List Nat} {k : Nat} {t : DTGs} {n : Nat} (hT : HotT X T) (h : PGs X es (tDGsw X.K B vs t)) (hn : (assignEach es X.env).length = n := by rfl) (hst : (assignEach es X.env).findIdx? (·.1) = none := by rfl) : PGH X T (.Tuple es k pos) (tDGw X.K B vs (dgTup n t)) := by
  have q := pgh_tup (k := k) (pos := pos) hT h hn hst
  refine ⟨fun pins s σ H v u Q tH I r ⟨F, G, δ, d, R, g, sl, i, ⟨ds, e, hl, p⟩, c⟩ => ?_⟩
  subst e
  cases i with
  | tup e2 r2 => exact q.run pins s σ H _ u Q tH I r ⟨_, _, rfl, SqT.of (g.fz _ _ e2), by rw [r2.length]; exact hl, F, G, δ, ds, R, g, sl, r2, p, c⟩
theorem list_in {K : PySem.W.Frag} {σ : L2.St} {H : Hp} {R : It → Hp → Prop} (h : tDI K B (diL te) σ H R) : iList K (tD K B te) σ H R := by
  obtain ⟨F, G, δ, P, g, s, p, c⟩ := h
  refine ⟨F, G, δ, _, g, s, p, fun d G1 v F1 H1 ⟨ds, e, p1⟩ l1 g1 i1 => ?_⟩
  subst e
  cases i1 with
  | lst q r =>
    have there : ∀ {F' : Hp} {G' : Gp} {H' : Hp}, Le F1 F' → Good K B F' G' H' → SqL K H' _ _ := fun l g' => SqL.of (g'.fz _ _ (l _ _ q))
    refine ⟨_, rfl, ⟨_, SqL.of (g1.fz _ _ q)⟩, c ds G1 F1 H1 _ p1 l1 g1 ⟨fun i F' G' H' l g' hi => ⟨_, _, there l g', List.getElem?_eq_getElem (by rw [r.length]; exact hi)⟩, fun i F' G' H' x H2 d2 l g' hd ⟨e, hx⟩ => ?_, fun i F' G' H' l g' hi => ⟨_, there l g', by rw [r.length]; exact hi⟩⟩⟩
    subst e
    have h1 := hx _ (there l g')
    obtain ⟨v2, h2, h3⟩ := r.get hd
    rw [h1] at h2
    cases h2
    exact ⟨F', Le.refl F', g', h3.le l⟩
theorem lcPT_imp {wi : DTI} {vs : List Nat} {a C dx : Addr} (hB : B a = some (exg a C dx)) : ∀ σ H Q, tD X.K B (dLcP wi g tt te vs) σ H Q → tLcT (fun H => H a = some (exg a C dx)) (tDI X.K B wi) (tDGw X.K B vs g) (tDT X.K B tt) (tD X.K B te) vs σ H Q := fun σ H Q ⟨F, G, δ, P, gd, s, p, c⟩ => by
  refine ⟨F, G, δ, _, gd, s, p, fun ds G1 F1 H1 J ⟨hz, pp, ff, turn, fin⟩ l1 g1 dl D hD => ?_⟩
  have gD := g1.gnone hD
  refine ⟨fun i m H => m = ds.length - i ∧ i ≤ ds.length ∧ ∃ F', Le F1 F' ∧ Good X.K B F' (gupd G1 D (.lst (((ds.take i).filter pp).map ff))) H, fun i m H ⟨_, _, F', _, g'⟩ => g'.fz _ _ (g'.bs _ _ hB), ⟨_, rfl, Nat.zero_le _, F1, Le.refl F1, g1.newM hD (m := .lst []) .nil⟩, ?_⟩
  rintro i m H ⟨rfl, hi, F2, l2, g2⟩
  by_cases hlt : i < ds.length
  · have hd := List.getElem?_eq_getElem hlt
    refine .inr ⟨dl.go i F2 _ H l2 g2 hlt, fun H' => ∃ F', Le F1 F' ∧ Good X.K B F' (gupd G1 D (.lst (((ds.take (i + 1)).filter pp).map ff))) H', fun H' h => ⟨ds.length - (i + 1), by omega, rfl, hlt, h⟩, fun x H' y => ?_⟩
    obtain ⟨F3, l3, g3, i3⟩ := dl.yl i F2 _ H x H' _ l2 g2 hd y
    have l13 : Le F F3 := (l1.trans l2).trans l3
    refine ⟨F3, _, _, _, _, g3, (s.le l13).wipe vs, i3, turn _ _ (List.getElem_mem hlt) (GLe.gupd gD), fun δ4 G4 σ4 F4 H4 p4 l4 g4 s4 e4 => ⟨e4.trans (wipe_wipe vs), ?_⟩⟩
    obtain ⟨rfl, p4⟩ := p4
    refine ⟨F4, _, δ4, _, g4, s4, p4, fun b G5 F5 H5 p5 l5 g5 => ?_⟩
    obtain ⟨rfl, hb, p5⟩ := p5
    have lens : (((ds.take i).filter pp).map ff).length < sizeLine := by
      rw [List.length_map]
      refine Nat.lt_of_le_of_lt (Nat.le_trans (List.length_filter_le _ _) ?_) hz
      rw [List.length_take]
      exact Nat.min_le_right _ _
    cases b with
    | true =>
      refine ⟨F5, _, δ4, _, g5, s4.le l5, p5 rfl, fun d G6 v F6 H6 ⟨e6, hy⟩ l6 g6 i6 => ?_⟩
      subst e6
      subst hy
      obtain ⟨vs', e6, r6⟩ := g6.mlst gupd_same
      refine ⟨vs', e6, by rw [r6.length]; exact lens, F6, ((l2.trans l3).trans l4).trans (l5.trans l6), ?_⟩
      have w := g6.write gupd_same (o := .lst (vs' ++ [v])) (m := .lst (((ds.take i).filter pp).map ff ++ [ff ds[i]])) (r6.append (.one i6))
      rw [gupd_gupd] at w
      rw [filter_take_succ hd, if_pos hb.symm, List.map_append]
      exact w
    | false =>
      rw [if_neg Bool.false_ne_true]
      refine ⟨F5, ((l2.trans l3).trans l4).trans l5, ?_⟩
      rw [filter_take_succ hd, if_neg (by rw [← hb]; exact Bool.false_ne_true), List.append_nil]
      exact g5
  · have e : i = ds.length := by omega
    subst e
    rw [List.take_length] at g2
    refine .inl ⟨dl.st _ F2 _ H l2 g2 (Nat.le_refl _), ?_⟩
    obtain ⟨F4, l4, g4, i4⟩ := g2.freezeL gupd_same
    rw [gdel_gupd gD] at g4
    exact c _ G1 _ F4 H fin ((l1.trans l2).trans l4) g4 i4
theorem d_lcPH (hB : HotB X B) (hN : X.N.Nodup) (hl : DE X B iter te0) (ok : BlkOk X.N X.env.scope scope own)
    (hg : ∀ (T : Hp → Prop) (s : Shared) (H : Hp) (C : Addr) (cl : List (Str × Addr)) (fp : List Addr), HotT (X.blk s H scope (compEnvC scope cl C X.env) fp) T → PGH (X.blk s H scope (compEnvC scope cl C X.env) fp) T tg (tDGw X.K B (own.map (·.2)) g))
    (ht : ∀ (s : Shared) (H : Hp) (C : Addr) (cl : List (Str × Addr)) (fp : List Addr), PTs (X.blk s H scope (compEnvC scope cl C X.env) fp) ifs (tDT X.K B tt))
    (he : ∀ (s : Shared) (H : Hp) (C : Addr) (cl : List (Str × Addr)) (fp : List Addr), PE (X.blk s H scope (compEnvC scope cl C X.env) fp) elt (tD X.K B te)) (hs : ∀ x, foldedSetIterable iter X.env x = pure x := by intro _; rfl) :
    DE X B (.ListComp elt [⟨tg, iter, ifs, 0⟩] scope pos) (dLcP (diL te0) g tt te (own.map (·.2))) := by
  obtain ⟨a, C, d, hh, hb⟩ := hB
  refine PE.imp (pe_lcH (T := fun H => H a = some (exg a C d)) (fun s H C' cl fp => exg_hot hh) hN hl ok (fun s H C' cl fp => hg _ s H C' cl fp (exg_hot hh)) ht he hs) fun σ H Q h => ?_
  exact list_in (lcPT_imp hb σ H Q h)
end
section
variable {P : Program} {w : World} {K : PySem.W.Frag} {mg : Str → Option Value} {base : Heap} {x : Str} {st : Stmt} {N ps : List Str} {k : Nat} {c : DSp}
/-- as toSp, the handled exception among what is known -/
def toSpT (K : PySem.W.Frag) (c : DSp) (a : Addr) : Sp := fun vs H Q E => ∃ F G ds P R, (∃ C d, F a = some (exg a C d)) ∧ Good K F F G H ∧ IsL K F vs ds ∧ c ds G P R ∧ Cont K F F P Q ∧ ContX K F R E
/-- a def that is called within a suite -/
def DfnT (P : Program) (w : World) (K : PySem.W.Frag) (mg : Str → Option Value) (base : Heap) (x : Str) (ps : List Str) (c : DSp) (k : Nat) : Prop := ∃ f fd, FnT P w K mg base CX0 k f fd ps (toSpT K c) ∧ mg x = some (.ref f) ∧ PySem.W.keepIn K (.ref f) = true ∧ Binds K fd ps []
theorem dfnT_of (T : TopFn K mg x st ps) (S : FnScope N ps (defScope st)) (len : ∀ ds G P R, c ds G P R → ds.length = ps.length)
    (hb : ∀ (f : Addr) (cdv : Value) (A : Around) (outer : List Env) (s : Shared) (H : Hp) (E : XK) (B : Hp), RoomH k (A.deeper (PyProof.Rows.envOfC x (defScope st) s.heap.objs.size f cdv)) → HotB (cxT CX0 P w K mg base N x (defScope st) f cdv A outer s H E).nox B →
      ∃ t : DTS, DSs (cxT CX0 P w K mg base N x (defScope st) f cdv A outer s H E).nox B (defBody st) t ∧ ∀ ds G P R, c ds G P R → t (dEnds P) (dstart N ds) G) : DfnT P w K mg base x ps c (k + 1) := by
  obtain ⟨f, fd, F, m, b⟩ := T
  refine ⟨f, fd, fnT_of F S (fun a vs H Q E ⟨F0, G, ds, P', R, _, g, i, h, _⟩ => by rw [i.length]; exact len _ _ _ _ h) fun cdv A outer s H vs Q E a hh hr ⟨F0, G, ds, P', R, ⟨C, d, hx⟩, g, i, h, kc, kx⟩ => ?_, m, F.kp, b⟩
  obtain ⟨t, h1, h2⟩ := hb f cdv A outer s H E F0 hr ⟨a, C, d, hh, hx⟩
  exact ⟨_, h1.nox, F0, G, dstart N ds, dEnds P', g, Sl.start N i, h2 ds G P' R h, ⟨fun δ' G' σ' F' H' p' l' g' s' => kc .non G' .non F' H' p' l' g' .non, kc, ContS.nil, ContS.nil⟩⟩
end
section
variable {X : Cx} {B : Hp} {e : Expr} {es : List Expr} {pos p : Pos} {tl : DTA} {k : Nat} {ps : List Str} {c : DSp} {x : Str}
theorem d_callT {j : Nat} (hB : HotB X B) (D : DfnT X.prog X.w X.K X.mg X.base x ps c k) (hr : RoomH j X.A) (hg : Gl X x) (ha : DA X B (e :: es) tl) (hj : k ≤ j := by decide)
    (hdb : (x == ("__debug__" : Str)) = false := by decide) (he : starEach (e :: es) X.env = (false, eval e X.env) :: starEach es X.env := by rfl) (hpl : (backTo pos (starEach es X.env)).any (·.1) = false := by rfl) :
    DE X B (.Call (.Name x p) (e :: es) [] pos) (dCall c noX tl) := by
  obtain ⟨f, fd, F, m, kp, b⟩ := D
  obtain ⟨a, C, d, hh, hx⟩ := hB
  refine PE.imp (pe_callT (E := fun _ _ _ _ => False) F (hr.mono hj) hh hg m kp b (fun σ pins H s e s' I z => z.elim) ha hdb he hpl) fun σ H Q ⟨F0, G, δ, P, g, s, q, kc⟩ => ?_
  exact ⟨F0, G, δ, _, g, s, q, fun ds G1 vs F1 H1 p1 l1 g1 i1 => ⟨F1, G1, ds, P, noX, ⟨C, d, g1.bs _ _ hx⟩, g1.rebase, i1, p1, (kc.le l1).rebase g1.bs, contX_no⟩⟩
end
end DL

set_option Elab.async false
set_option linter.all false
set_option maxRecDepth 100000
set_option maxHeartbeats 4000000
/-! try: .. except X as e: .., the caught exception a value; try: .. except X: ... -/
namespace DL
open PySem PySem.Spec L2 PyProof.Rows
section
variable {X : Cx} {pins : List (Addr × Obj)} {σ : L2.St} {H : Hp} {s : Shared}
/-- the caught object is known from now on -/
theorem inv_caught {B : Heap} {sI : Shared} {σ' : L2.St} {a C d : Addr} {oe : Obj} {vs : Array Value} (hs : X.stack = X.env :: X.outer) (hex : X.ex = []) (J : Inv X pins σ' H sI) (I : Inv X pins σ' H s) (nb : ∀ b o, sI.heap.get? b = some o → b ∉ frs X.stack → B.get? b = some o) (hB : B.get? a = none)
    (na : H a = none) (nL : a ≠ X.env.locals) (nfr : a ∉ frs (X.env :: X.outer)) (ha : s.heap.get? a = some oe) (hc : oe.cls = .ref C) (hd : oe.dict = some d) (hv : oe.data = .fields vs) (hz : vs[2]? = some .none) : Inv X pins σ' (upd H a (exg a C d)) s := by
  have nI : ∀ {b : Addr} {o : Obj}, sI.heap.get? b = some o → b ≠ a := fun {b o} e z => by
    subst z
    have z1 := nb b o e (by rw [hs]; exact nfr)
    rw [hB] at z1; cases z1
  have n0 : ∀ {b : Addr} {o : Obj}, X.s_0.heap.get? b = some o → b ≠ a := fun {b o} e => by
    obtain ⟨o', e1⟩ := J.base.there b o e (by rw [hex]; simp)
    exact nI e1
  have up : ∀ {b : Addr} {o : HO}, H b = some o → upd H a (exg a C d) b = some o := fun {b o} e => by rw [upd_ne (fun z => by rw [z, na] at e; cases e)]; exact e
  refine ⟨I.ok, I.os, I.bare, ⟨I.base.keep, I.base.slot, fun b o e n hx => by rw [upd_ne (n0 e)]; exact I.base.free b o e n hx, I.base.there, fun b xs e => up (I.base.tups b xs e), fun b o v e => up (I.base.frzs b o v e), fun b ps e => ?_⟩,
    I.loc, I.cell, by rw [upd_ne (Ne.symm nL)]; exact I.free, fun x c e => ?_, fun p hp => ?_, fun b ob e => ?_, I.len⟩
  · obtain ⟨more, e1⟩ := I.base.tbls b ps e
    exact ⟨more, up e1⟩
  · obtain ⟨v, oc, e1, e2⟩ := I.cell x c e
    have : c ≠ a := fun z => by
      rw [z, ha] at e1
      cases e1
      rw [hv] at e2; cases e2
    rw [upd_ne this]; exact I.freeC x c e
  · obtain ⟨e, n, r⟩ := I.pin p hp
    obtain ⟨e', _⟩ := J.pin p hp
    exact ⟨e, by rw [upd_ne (nI e')]; exact n, r⟩
  · by_cases q : b = a
    · subst q
      rw [upd_same] at e
      cases e
      exact ⟨⟨oe, vs, ha, hc, hd, hv, hz⟩, ⟨_, ha⟩, fun h1 h2 ⟨o, w, z1, z⟩ k => ⟨o, w, k _ z1, z⟩⟩
    · rw [upd_ne q] at e
      exact (I.hok b ob e).stay (fun c v _ q => q) (fun c q => up q) fun c xs q => up q
theorem inv_suite {a : Addr} {s : Shared} {H : Hp} (I : Inv X pins σ H s) : Inv (X.suite a (X.pn ++ pins)) [] σ H s :=
  ⟨I.ok.suite _ _, I.os, I.bare, I.base, I.loc, I.cell, I.free, I.freeC, fun p hp => I.pin p (by rw [List.append_nil] at hp; exact hp), I.hok, I.len⟩
theorem inv_unsuite {a : Addr} {pn' : List (Addr × Obj)} {s : Shared} {H : Hp} (I : Inv (X.suite a (X.pn ++ pins)) pn' σ H s) (ok : X.Ok) : Inv X pins σ H s :=
  ⟨ok, I.os, I.bare, I.base, I.loc, I.cell, I.free, I.freeC, fun p hp => I.pin p (List.mem_append_left _ hp), I.hok, I.len⟩
end
abbrev endsGone (D : Ends) (i : Nat) : Ends := { nx := fun σ' H' => D.nx (σ'.set i none) H', rt := D.rt, bk := fun σ' H' => D.bk (σ'.set i none) H', ct := fun σ' H' => D.ct (σ'.set i none) H' }
/-- what the clause 'except x as n' wishes of an exception of the body -/
def wTr (K : PySem.W.Frag) (c : Value) (i : Nat) (ts : Addr → TS) (D : Ends) : WX := fun cls d σ H =>
  PySem.W.exmOne K cls c = some true ∧ ∃ C dd, cls = .ref C ∧ d = some dd ∧ ∀ a, H a = none → ts a (endsGone D i) (σ.set i (some (.ref a))) (upd H a (exg a C dd))
section
variable {X : Cx} {x n : Str} {c : Value} {i : Nat} {body suite : List Stmt} {b₀ : Stmt} {np pos pos' : Pos} {tb : WX → TS} {ts : Addr → TS}
theorem ps_try_tr (hs : X.stack = X.env :: X.outer) (hex : X.ex = []) (hf : X.env.frame = some X.env.locals) (hN : X.N.Nodup) (hi : X.N[i]? = some n) (hln : X.env.kindOf n = some .local) (hc : Names X x c)
    (hb : ∀ (W : WX) (pn : List (Addr × Obj)) (xe : Value → Shared → Prop), L2N.Takes (X.tr pn xe) W → PSs (X.tr pn xe) body (tb W))
    (hsu : ∀ (a : Addr) (pn : List (Addr × Obj)), PSs (X.suite a pn) (b₀ :: suite) (ts a)) :
    PS X (.Try body [.ExceptHandler (some (.Name x np)) (some n) (b₀ :: suite) pos'] [] [] pos) (fun D σ H => tb (wTr X.K c i ts D) D σ H) := by
  refine ⟨fun pins s σ H D I h => ?_⟩
  have ok := I.ok
  have hfr : X.A.frames = some (X.env :: X.outer) := by rw [ok.frames, hs]
  have hloc : Loc X.env.scope n := .inl hln
  refine wpAny_Try_except ?_
  refine wpAny_mono ((hb (wTr X.K c i ts D) (X.pn ++ pins) (fun e s₁ => wpAny (model X.prog X.w) X.A (noteFrame e X.env) (fun _ s₂ => wpAny (model X.prog X.w) X.A (setFlight e none) (fun _ s₃ =>
    wpAny (model X.prog X.w) X.A (handleBy e X.env [.ExceptHandler (some (.Name x np)) (some n) (b₀ :: suite) pos']) (SP X pins D) X.xe s₃) X.xe s₂) X.xe s₁) (fun u s' xx => ?_)).run [] s σ H D (I.toTry _) h) (fun f s1 hsp => ?_) (fun e s1 he => he)
  · -- the catch
    obtain ⟨a, B, sI, pins', σ', H', cls, d, rfl, J', nb, up, sky, na, os, ag, hb1, C, dd, rfl, rfl, hyes⟩ := xx
    have J : Inv X pins σ' H' sI := J'.ofTry ok
    have sky' : Sky B (X.env :: X.outer) a (L2N.Zn (.ref C) (some dd)) X.env.locals s'.heap := by rw [← hs]; exact sky
    show wpAny (model X.prog X.w) X.A (noteFrame (.ref a) X.env) _ _ _
    refine L2N.Sky.land L2N.Zn.steady hfr hf sky' fun h3 fl3 up3 => ?_
    have J3 : Inv X pins σ' H' { s' with heap := h3 } := J.landed nb fl3.1 (up.trans up3) os ag
    obtain ⟨oe3, vs3, he3, hz3, hd3⟩ := fl3.there
    have notFr : ∀ {h : Heap} {o : Obj} {vs : Array Value}, h.FunFrames B (X.env :: X.outer) → h.get? a = some o → o.data = .fields vs → a ∉ frs (X.env :: X.outer) := fun {h o vs} ff e dd hm => by
      obtain ⟨_, o', e', hnf⟩ := ff.mem hm
      rw [e] at e'; cases e'
      exact hnf _ dd
    have nfr := notFr fl3.2.2.1 he3 hd3
    have nL : a ≠ X.env.locals := fun z => nfr (List.mem_filterMap.mpr ⟨X.env, List.mem_cons_self, by rw [hf, z]⟩)
    have nF : a ∉ X.fs := fun hm => by
      obtain ⟨e, he, q⟩ := List.mem_filterMap.mp hm
      exact nfr (List.mem_filterMap.mpr ⟨e, List.mem_cons_of_mem _ he, q⟩)
    have S3 := J3.suite he3 hd3 na nL nF
    refine wpAny_handleBy_cons (codeAny_handlers_test ?_) (by intro q; cases q)
    have LT : PySem.W.Looks (model X.prog X.w) h3 (typeOf (.ref a)) (.ref C) := fun A Q E s k q => wpAny_typeOf_ref (k _ _ he3) (by rw [hz3.1]; exact q)
    have LM := PySem.W.exm_one (M := model X.prog X.w) (J3.kIn) LT hb1
    have test : ∀ {Q : Value → Shared → Prop} {E : Value → Shared → Prop}, Q c { s' with heap := h3 } → wpAny (model X.prog X.w) (X.A.mark (some (.ref a))) (eval (.Name x np) X.env) Q E { s' with heap := h3 } := fun {Q E} q => by
      obtain ⟨hg, hdbg, hm | ⟨hm, hv, hnn⟩⟩ := hc
      · exact ld_glob (X := X.suite a ((a, oe3) :: (X.pn ++ pins))) S3 hg hm q hdbg
      · exact ld_blt (X := X.suite a ((a, oe3) :: (X.pn ++ pins))) S3 hg hm hv q hnn hdbg
    refine test (LM.here ?_)
    refine codeAny_handlers_suite_as ?_
    refine HandSPX.lands_againZ fl3 fun h4 fl4 up4 => ?_
    have J4 : Inv X pins σ' H' { s' with heap := h4 } := J.landed nb fl4.1 ((up.trans up3).trans up4) os ag
    obtain ⟨oe4, vs4, he4, hz4, hd4⟩ := fl4.there
    have J5 := inv_caught hs hex J J4 nb fl4.2.1 na nL nfr he4 hz4.1 hz4.2.1 hd4 (hz4.2.2 _ hd4)
    have S4 := inv_suite (a := a) J5
    refine store_ok (X := X.suite a (X.pn ++ pins)) (v := .ref a) S4 hN hi hloc rfl (fun s5 S5 => ?_) (.inr hln)
    refine wpAny_mono ((hsu a (X.pn ++ pins)).run [] s5 _ _ _ S5 (hyes a na)) (fun f s6 hsp => ?_) (fun _ _ z => False.elim z)
    have end_ : ∀ {σ6 : L2.St} {H6 : Hp} {Q : Shared → Prop}, Inv (X.suite a (X.pn ++ pins)) [] σ6 H6 s6 → (∀ s7, Inv X pins (σ6.set i none) H6 s7 → Q s7) →
        wpAny (model X.prog X.w) X.A (do bindName X.env n .none; unbindBehindTheSuite X.env n pos') (fun _ s7 => Q s7) X.xe s6 := fun {σ6 H6 Q} S6 hq => gone_ok (inv_unsuite S6 ok) hN hi hln hq
    cases f with
    | next =>
      obtain ⟨σ6, H6, S6, q6⟩ := hsp
      exact end_ S6 fun s7 J7 => ⟨_, _, J7, q6⟩
    | brk =>
      obtain ⟨σ6, H6, S6, q6⟩ := hsp
      exact end_ S6 fun s7 J7 => ⟨_, _, J7, q6⟩
    | cont =>
      obtain ⟨σ6, H6, S6, q6⟩ := hsp
      exact end_ S6 fun s7 J7 => ⟨_, _, J7, q6⟩
    | ret u =>
      obtain ⟨v6, σ6, H6, S6, r6, q6⟩ := hsp
      exact end_ S6 fun s7 J7 => ⟨_, _, _, J7, r6, q6⟩
  · cases f with
    | next =>
      obtain ⟨σ', H', J', q⟩ := hsp
      exact wpAny_execs_nil ⟨σ', H', J'.ofTry ok, q⟩
    | brk =>
      obtain ⟨σ', H', J', q⟩ := hsp
      exact ⟨σ', H', J'.ofTry ok, q⟩
    | cont =>
      obtain ⟨σ', H', J', q⟩ := hsp
      exact ⟨σ', H', J'.ofTry ok, q⟩
    | ret u =>
      obtain ⟨v, σ', H', J', r, q⟩ := hsp
      exact ⟨v, σ', H', J'.ofTry ok, r, q⟩
abbrev DEnds.gone (D : DEnds) (i : Nat) : DEnds := { nx := fun δ G => D.nx (δ.set i none) G, rt := D.rt, bk := fun δ G => D.bk (δ.set i none) G, ct := fun δ G => D.ct (δ.set i none) G }
theorem Fits.rebase {K : PySem.W.Frag} {B F : Hp} {R : DEnds} {D : Ends} (f : Fits K B F R D) (l : Le B F) : Fits K F F R D :=
  ⟨fun δ' G' σ' F' H' p l' g s => f.nx δ' G' σ' F' H' p l' (g.unbase l) s, f.rt.rebase l, fun δ' G' σ' F' H' p l' g s => f.bk δ' G' σ' F' H' p l' (g.unbase l) s, fun δ' G' σ' F' H' p l' g s => f.ct δ' G' σ' F' H' p l' (g.unbase l) s⟩
/-- try: body, except c as n (slot i): suite -/
def dTry (K : PySem.W.Frag) (c : Value) (i : Nat) (tb : (DSt → DXK) → DTS) (ts : DTS) : DTS := fun D δ G => tb (fun δ' C w G' => PySem.W.exmOne K (.ref C) c = some true ∧ ts (D.gone i) (δ'.set i (some (.exc C w))) G') D δ G
theorem ds_try {K : PySem.W.Frag} {B : Hp} {tb : (DSt → DXK) → DTS} {ts : DTS} (hK : X.K = K) (hc : Names X x c) (hi : X.N[i]? = some n) (hN : X.N.Nodup) (hln : X.env.kindOf n = some .local)
    (hb : ∀ (W : WX) (RW : DSt → DXK) (B' : Hp) (pn : List (Addr × Obj)) (xe : Value → Shared → Prop), L2N.Takes (X.tr pn xe) W → ContW X.K B' RW W → DSs (X.tr pn xe) B' body (tb RW))
    (hsu : ∀ (a : Addr) (pn : List (Addr × Obj)) (B' : Hp), HotB (X.suite a pn) B' → DSs (X.suite a pn) B' (b₀ :: suite) ts)
    (hs : X.stack = X.env :: X.outer := by rfl) (hex : X.ex = [] := by rfl) (hf : X.env.frame = some X.env.locals := by rfl) :
    DS X B (.Try body [.ExceptHandler (some (.Name x np)) (some n) (b₀ :: suite) pos'] [] [] pos) (dTry K c i tb ts) := by
  subst hK
  refine PS.imp (ps_try_tr (X := X) (tb := fun W D σ H => ∃ RW B', ContW X.K B' RW W ∧ tDS X.K B' (tb RW) D σ H) (ts := fun a D σ H => ∃ B', (∃ C d, B' a = some (exg a C d)) ∧ tDS X.K B' ts D σ H) hs hex hf hN hi hln hc (fun W pn xe tk => ⟨fun pins s σ H D I ⟨RW, B', cw, h⟩ => (hb W RW B' pn xe tk cw).run pins s σ H D I h⟩)
    (fun a pn => ⟨fun pins s σ H D I ⟨B', ⟨C, d, e⟩, h⟩ => (hsu a pn B' ⟨a, C, d, rfl, e⟩).run pins s σ H D I h⟩)) fun D σ H ⟨F, G, δ, R, g, s, p, f⟩ => ?_
  refine ⟨_, F, fun δ' σ' C w G' d v F' H' ⟨hm, q⟩ g' s' e i' => ?_, F, G, δ, R, g.rebase, s, p, f.rebase g.bs⟩
  refine ⟨hm, C, d, rfl, rfl, fun a na => ?_⟩
  obtain ⟨l2, g2⟩ := g'.newF na (exg a C d)
  refine ⟨upd F' a (exg a C d), ⟨C, d, upd_same⟩, _, G', _, _, g2.rebase, (s'.le l2).set i (.exc upd_same (l2 _ _ e) (i'.le l2)), q, ?_⟩
  have l3 : Le F (upd F' a (exg a C d)) := g'.bs.trans l2
  have f2 := f.rebase g.bs
  exact ⟨fun δ2 G2 σ2 F2 H2 p2 l2' g3 s3 => f2.nx _ G2 _ F2 H2 p2 (l3.trans l2') (g3.unbase l3) (s3.none i), fun d2 G2 v2 F2 H2 p2 l2' g3 i3 => f2.rt d2 G2 v2 F2 H2 p2 (l3.trans l2') (g3.unbase l3) i3,
    fun δ2 G2 σ2 F2 H2 p2 l2' g3 s3 => f2.bk _ G2 _ F2 H2 p2 (l3.trans l2') (g3.unbase l3) (s3.none i), fun δ2 G2 σ2 F2 H2 p2 l2' g3 s3 => f2.ct _ G2 _ F2 H2 p2 (l3.trans l2') (g3.unbase l3) (s3.none i)⟩
/-- .. except c: suite -/
def dTryO (K : PySem.W.Frag) (c : Value) (tb : (DSt → DXK) → DTS) (ts : DTS) : DTS := fun D δ G => tb (fun δ' C _ G' => PySem.W.exmOne K (.ref C) c = some true ∧ ts D δ' G') D δ G
theorem sky_imp {B h : Heap} {l : List Env} {a L : Addr} {Z Z' : Obj → Prop} (z : ∀ o, Z o → Z' o) (x : Sky B l a Z L h) : Sky B l a Z' L h := by
  have tr : ∀ {fl : Value}, HandSPX.TracedZ h B a Z fl → HandSPX.TracedZ h B a Z' fl := fun ⟨oe, vs, T, oT, ts, e1, e2, r⟩ => ⟨oe, vs, T, oT, ts, e1, z _ e2, r⟩
  rcases x with ⟨b1, b2, b3, oe, vs, e1, e2, r⟩ | ⟨b1, b2, b3, t⟩ | ⟨b1, b2, b3, t⟩
  · exact .inl ⟨b1, b2, b3, oe, vs, e1, z _ e2, r⟩
  · exact .inr (.inl ⟨b1, b2, b3, tr t⟩)
  · exact .inr (.inr ⟨b1, b2, b3, tr t⟩)
theorem takesN {X : Cx} {W : WX} (t : L2.Takes X W) : L2N.Takes X W := fun u s' ⟨a, B, sI, pins, σ, H, cls, d, e, I, nb, up, sky, na, os, ag, w⟩ =>
  t u s' ⟨a, B, sI, pins, σ, H, cls, d, e, I, nb, up, sky_imp (fun _ => L2N.Zn.zc) sky, na, os, ag, w⟩
theorem ds_tryO {K : PySem.W.Frag} {B : Hp} {tb : (DSt → DXK) → DTS} {ts : DTS} (hK : X.K = K) (hc : Names X x c) (tk : Takes X (fun _ _ _ _ => False))
    (hb : ∀ (W : WX) (RW : DSt → DXK) (B' : Hp) (pn : List (Addr × Obj)) (xe : Value → Shared → Prop), L2N.Takes (X.tr pn xe) W → ContW X.K B' RW W → DSs (X.tr pn xe) B' body (tb RW))
    (hsu : ∀ (a : Addr) (pn : List (Addr × Obj)) (B' : Hp), DSs (X.suite a pn) B' (b₀ :: suite) ts)
    (hs : X.stack = X.env :: X.outer := by rfl) (hf : X.env.frame = some X.env.locals := by rfl) :
    DS X B (.Try body [.ExceptHandler (some (.Name x np)) none (b₀ :: suite) pos'] [] [] pos) (dTryO K c tb ts) := by
  subst hK
  refine PS.imp (ps_try_only (X := X) (tb := fun W D σ H => ∃ RW B', ContW X.K B' RW W ∧ tDS X.K B' (tb RW) D σ H) (ts := fun _ _ _ D σ H => ∃ B', tDS X.K B' ts D σ H) hs hf hc tk (fun W pn xe tk _ => ⟨fun pins s σ H D I ⟨RW, B', cw, h⟩ => (hb W RW B' pn xe (takesN tk) cw).run pins s σ H D I h⟩)
    (fun a oe cls d pn _ _ => ⟨fun pins s σ H D I ⟨B', h⟩ => (hsu a _ B').run pins s σ H D I h⟩)) fun D σ H ⟨F, G, δ, R, g, s, p, f⟩ => ?_
  refine ⟨_, F, fun δ' σ' C w G' d v F' H' ⟨hm, q⟩ g' s' e i' => ?_, F, G, δ, R, g.rebase, s, p, f.rebase g.bs⟩
  exact ⟨true, hm, fun _ a na => ⟨F, F', G', δ', R, g', s', q, (f.rebase g.bs).le g'.bs⟩, fun z => nomatch z⟩
theorem takes_nox : Takes X.nox (fun _ _ _ _ => False) := fun u s' ⟨a, B, sI, pins, σ, H, cls, d, e, I, nb, up, sky, na, os, ag, w⟩ => w
end
section
variable {P : Program} {w : World} {K : PySem.W.Frag} {mg : Str → Option Value} {base : Heap}
theorem d_okR {x qual : Str} {st : Stmt} {f : Addr} {fd : FuncData} {N ps : List Str} {k : Nat} {c : DSp} (F : Fun K x qual st f fd) (S : FnScope N ps (defScope st)) (len : ∀ ds G P R, c ds G P R → ds.length = ps.length)
    (hb : ∀ (cdv : Value) (A : Around) (outer : List Env) (s : Shared) (H : Hp) (E : XK) (B : Hp) (R : DXK), Room k (A.deeper (PyProof.Rows.envOfC qual (defScope st) s.heap.objs.size f cdv)) →
      L2N.Takes (cxOf (L2N.CX P w) P w K mg base N qual (defScope st) f cdv A outer s H E) (fun cls d _ H => E cls d H) → ContW K B (fun _ => R) (fun cls d _ H => E cls d H) →
      PassesOwn (model P w) (cxOf (L2N.CX P w) P w K mg base N qual (defScope st) f cdv A outer s H E).A (cxOf (L2N.CX P w) P w K mg base N qual (defScope st) f cdv A outer s H E).env (cxOf (L2N.CX P w) P w K mg base N qual (defScope st) f cdv A outer s H E).xe →
      ∃ t : DTS, DSs (cxOf (L2N.CX P w) P w K mg base N qual (defScope st) f cdv A outer s H E) B (defBody st) t ∧ ∀ ds G P, c ds G P R → t (dEnds P) (dstart N ds) G) : FnOk P w K mg base (L2N.CX P w) (k + 1) f fd ps (toSp K c) :=
  d_okX F S len fun cdv A outer s H E B R hr kx => hb cdv A outer s H E B R hr (L2N.takes_of rfl rfl rfl rfl) (.of kx) (passes_of rfl)
theorem dfn_ofR {x : Str} {st : Stmt} {N ps : List Str} {k : Nat} {c : DSp} (T : TopFn K mg x st ps) (S : FnScope N ps (defScope st)) (len : ∀ ds G P R, c ds G P R → ds.length = ps.length)
    (hb : ∀ (f : Addr) (cdv : Value) (A : Around) (outer : List Env) (s : Shared) (H : Hp) (E : XK) (B : Hp) (R : DXK), Room k (A.deeper (PyProof.Rows.envOfC x (defScope st) s.heap.objs.size f cdv)) →
      L2N.Takes (cxOf (L2N.CX P w) P w K mg base N x (defScope st) f cdv A outer s H E) (fun cls d _ H => E cls d H) → ContW K B (fun _ => R) (fun cls d _ H => E cls d H) →
      PassesOwn (model P w) (cxOf (L2N.CX P w) P w K mg base N x (defScope st) f cdv A outer s H E).A (cxOf (L2N.CX P w) P w K mg base N x (defScope st) f cdv A outer s H E).env (cxOf (L2N.CX P w) P w K mg base N x (defScope st) f cdv A outer s H E).xe →
      ∃ t : DTS, DSs (cxOf (L2N.CX P w) P w K mg base N x (defScope st) f cdv A outer s H E) B (defBody st) t ∧ ∀ ds G P, c ds G P R → t (dEnds P) (dstart N ds) G) : Dfn P w K mg base (L2N.CX P w) x ps c (k + 1) := by
  obtain ⟨f, fd, F, m, b⟩ := T
  exact ⟨f, fd, d_okR F S len (hb f), m, F.kp, b⟩
theorem dmt_ofR {C : Addr} {m qual : Str} {st : Stmt} {N ps : List Str} {k : Nat} {c : DSp} (T : TopMt K C m qual st ps) (S : FnScope N ps (defScope st)) (len : ∀ ds G P R, c ds G P R → ds.length = ps.length)
    (hb : ∀ (f : Addr) (cdv : Value) (A : Around) (outer : List Env) (s : Shared) (H : Hp) (E : XK) (B : Hp) (R : DXK), Room k (A.deeper (PyProof.Rows.envOfC qual (defScope st) s.heap.objs.size f cdv)) →
      L2N.Takes (cxOf (L2N.CX P w) P w K mg base N qual (defScope st) f cdv A outer s H E) (fun cls d _ H => E cls d H) → ContW K B (fun _ => R) (fun cls d _ H => E cls d H) →
      PassesOwn (model P w) (cxOf (L2N.CX P w) P w K mg base N qual (defScope st) f cdv A outer s H E).A (cxOf (L2N.CX P w) P w K mg base N qual (defScope st) f cdv A outer s H E).env (cxOf (L2N.CX P w) P w K mg base N qual (defScope st) f cdv A outer s H E).xe →
      ∃ t : DTS, DSs (cxOf (L2N.CX P w) P w K mg base N qual (defScope st) f cdv A outer s H E) B (defBody st) t ∧ ∀ ds G P, c ds G P R → t (dEnds P) (dstart N ds) G) : Dmt P w K mg base (L2N.CX P w) C m ps c (k + 1) := by
  obtain ⟨f, fd, F, m, b⟩ := T
  exact ⟨f, fd, d_okR F S len (hb f), m, b⟩
end
/-- what the texts ask of the classes of refusals -/
structure XTab (K : PySem.W.Frag) (mg : Str → Option Value) (CE cRoad cHouse cClash cReport cTale cDays cText : Addr) : Prop where
  mgVillageError : mg "VillageError" = some (.ref CE)
  mgValueError : mg "ValueError" = none
  mgNoRoad : mg "NoRoad" = some (.ref cRoad)
  mgNoHouse : mg "NoHouse" = some (.ref cHouse)
  mgClash : mg "Clash" = some (.ref cClash)
  mgNoReport : mg "NoReport" = some (.ref cReport)
  mgNoTale : mg "NoTale" = some (.ref cTale)
  mgNoDays : mg "NoDays" = some (.ref cDays)
  mgNoText : mg "NoText" = some (.ref cText)
/-- what is asked of a class whose instances are caught -/
structure XCau (K : PySem.W.Frag) (CE : Addr) (others : List Addr) (Z : Addr) : Prop where
  ek : ExK K Z
  ex : PySem.W.exmOne K (.ref Z) (.ref CE) = some true
  ve : PySem.W.kitOne K (.ref Z) (.type "ValueError") = some true
  kit : ∀ D ∈ others, PySem.W.kitOne K (.ref Z) (.ref D) = some false
theorem kit_self {K : PySem.W.Frag} {C : Addr} : PySem.W.kitOne K (.ref C) (.ref C) = some true := by
  unfold PySem.W.kitOne
  rw [if_pos (by simp)]
theorem kitAny_no {K : PySem.W.Frag} {t : Value} : ∀ {l : List Addr}, (∀ D ∈ l, PySem.W.kitOne K t (.ref D) = some false) → PySem.W.kitAny K t (l.map Value.ref) = some false
  | [], _ => rfl
  | D :: l, h => kitAny_cons (h D List.mem_cons_self) (fun _ => kitAny_no fun E hE => h E (List.mem_cons_of_mem _ hE)) (fun z => nomatch z)
theorem kits_nil {K : PySem.W.Frag} {t : Value} : ∀ D ∈ ([] : List Addr), PySem.W.kitOne K t (.ref D) = some false := fun _ h => nomatch h
theorem kits_cons {K : PySem.W.Frag} {t : Value} {d : Addr} {l : List Addr} (h : PySem.W.kitOne K t (.ref d) = some false) (r : ∀ D ∈ l, PySem.W.kitOne K t (.ref D) = some false) : ∀ D ∈ d :: l, PySem.W.kitOne K t (.ref D) = some false := fun D hD => by
  rcases List.mem_cons.mp hD with e | e
  · rw [e]; exact h
  · exact r D e
end DL

set_option Elab.async false
set_option linter.all false
set_option maxRecDepth 100000
set_option maxHeartbeats 4100000
/-! A list comprehension out of which a refusal comes. -/
namespace LcX
open PySem PySem.Spec PyProof.Rows L2 HandSPX
section
variable {M : Model} {A : Around} {E : Value → Shared → Prop} {s : Shared} {env : Env} {base : Heap} {l : List Env} {outer : List Env} {e : Addr} {Z : Obj → Prop} {L : Addr}
/-- noted by a frame, its mark another one's -/
theorem note_held {mark : Value} {Q : Unit → Shared → Prop} (steady : PXN.Steady1 Z) (top : A.frames = some (env :: outer)) (at_ : env.frame = some L) (other : (mark == rawInt L) = false) (stays : base.StaysIn s.heap) (new : base.get? e = none) (fr : s.heap.FunFrames base (env :: outer))
    (tr : TracedZ s.heap base e Z mark) (q : ∀ h2, HeldZ base (env :: outer) e Z L h2 → s.heap.UpToSlots h2 → Q () { s with heap := h2 }) : wpAny M A (noteFrame (.ref e) env) Q E s := by
  obtain ⟨eo, ef, R, ro, rf, ge, ze, de, e1, nR, ne, gR, dR, r3⟩ := tr
  have far : ∀ c, c ≠ R → (s.heap.update R (Obj.mapFields (·.setIfInBounds 3 Value.none))).get? c = s.heap.get? c := fun c n => Heap.get?_update_other _ _ n.symm
  have solid : ∀ {c ob}, s.heap.get? c = some ob → (∀ fs, ob.data ≠ .fields fs) → c ≠ R := fun {c ob} g n z => by
    subst z
    rw [gR] at g
    cases g
    exact n rf dR
  have lower : base.StaysIn (s.heap.update R (Obj.mapFields (·.setIfInBounds 3 Value.none))) := fun c ob g => by
    refine (far c fun z => ?_).trans (stays c ob g)
    rw [z, nR] at g
    cases g
  have frames2 := Heap.FunFrames.of_keeps (h' := s.heap.update R (Obj.mapFields (·.setIfInBounds 3 Value.none))) (fun c ob g n => ⟨ob, (far c (solid g n)).trans g, rfl⟩) fr
  unfold noteFrame
  simp only [at_]
  refine wpAny_bind (wpAny_field ge de e1 ?_)
  rw [if_pos (by simp : (Value.ref R != Value.none) = true)]
  refine wpAny_bind (wpAny_field gR dR r3 ?_)
  rw [other, if_neg Bool.false_ne_true]
  refine wpAny_bind (wpAny_setField gR dR (Array.getElem?_eq_some_iff.mp r3).1 ?_)
  exact PXN.wpAny_entryZ steady top frames2 at_ ((far e ne.symm).trans ge) lower new de (Array.getElem?_eq_some_iff.mp e1).1 ze fun h2 ⟨n1, n2, n3, n4⟩ =>
    q h2 ⟨n1, new, n2, n3⟩ fun c ob g n => n4 c ob ((far c (solid g n)).trans g) n
/-- noted, whatever its mark -/
theorem note_sky {L' : Addr} {Q : Unit → Shared → Prop} (steady : PXN.Steady1 Z) (top : A.frames = some (env :: outer)) (at_ : env.frame = some L) (x : Sky base (env :: outer) e Z L' s.heap)
    (q : ∀ h2, HeldZ base (env :: outer) e Z L h2 → s.heap.UpToSlots h2 → Q () { s with heap := h2 }) : wpAny M A (noteFrame (.ref e) env) Q E s := by
  rcases x with ⟨b1, b2, b3, eo, ef, g1, g2, g3, g4⟩ | flying | held
  · exact PXN.look_newZ steady top b3 at_ g1 b1 b2 g3 g4 g2 q
  · exact PXN.looks_onZ steady top at_ flying q
  · by_cases same : (rawInt L' == rawInt L) = true
    · have eq : rawInt L' = rawInt L := by simpa using same
      have t : TracedZ s.heap base e Z (rawInt L) := by rw [← eq]; exact held.2.2.2
      exact againZ at_ t (q s.heap ⟨held.1, held.2.1, held.2.2.1, t⟩ (Heap.UpToSlots.refl _))
    · exact note_held steady top at_ (by simpa using same) held.1 held.2.1 held.2.2.1 held.2.2.2 q
/-- passed on by the frame that noted it -/
theorem pass_held {α : Type} {what : String} {Q : α → Shared → Prop} (at_ : env.frame = some L) (held : HeldZ base l e Z L s.heap) (q : ∀ h2, HeldZ base l e Z L h2 → s.heap.UpToSlots h2 → E (.ref e) { s with heap := h2 }) :
    wpAny M A (passOn what (.ref e) env : Sem α) Q E s := by
  obtain ⟨b1, b2, b3, tr⟩ := held
  obtain ⟨eo, ef, R, ro, rf, ge, ze, de, e1, _⟩ := id tr
  have flies : wpAny M A (setFlight (.ref e) env.frame) (fun _ t => wpAny M A (throw (.ref e) : Sem α) Q E t) E s := by
    rw [at_]
    exact setFlight_anyZ b1 b3 tr fun h2 n1 n2 n3 n4 => wpAny_throw (q h2 ⟨n1, b2, n2, n3⟩ n4)
  unfold PySem.passOn
  refine wpAny_bind (wpAny_field ge de e1 ?_)
  rw [show (Value.ref R == Value.none) = false by simp, if_neg Bool.false_ne_true]
  first
    | exact wpAny_bind flies
    | exact wpAny_bind (wpAny_pure (wpAny_bind flies))
/-- at the end of a comprehension's code; a refusal is passed on by its own environment -/
def compPostF (M : Model) (A : Around) (E : Value → Shared → Prop) (use : Option (Value → Sem Unit)) (Q : Value → Shared → Prop) (acc : Value) (cenv : Env) (r : Result) (s' : Shared) : Prop :=
  match r with
  | .ok f => compPost M A E use Q acc cenv.locals (.ok f) s'
  | .error x => ∃ m, s'.heap.Ns cenv.locals m ∧ ∀ h', Heap.SameBut cenv.locals s'.heap h' → wpAny M A (passOn "comprehension.variables-let-go" x cenv : Sem Value) (fun _ _ => False) E { s' with heap := h' }
theorem comp_runs {elt tg iter : Expr} {ifs : List Expr} {scope : Scope} {own pos : Pos} {cl : List (Str × Addr)} {use : Option (Value → Sem Unit)} {Q : Value → Shared → Prop} (fold : ∀ v, foldedSetIterable iter env v = pure v)
    (closed : closureFor scope env = pure cl) (fn : scope.kind = .function) (own_ : ∀ z ∈ scope.names, z.2 = .local → scope.names.lookup z.1 = some .local)
    (start : wpAny M A (eval iter env) (fun v t1 => wpAny M A (pyIter v) (fun i t2 => wpAny M A (newList []) (fun bag t3 => wpAny M A (newFunctionEnv scope env.globals cl [] env.qual none .none (some env)) (fun ce t4 =>
      codeAny M A (.compStart (.ListComp elt [⟨tg, iter, ifs, 0⟩] scope own) 0 i bag { ce with scope := relabel scope env }) (compPostF M A E use Q bag { ce with scope := relabel scope env }) t4) E t3) E t2) E t1) E s) :
    wpAny M A (comprehension (.ListComp elt [⟨tg, iter, ifs, 0⟩] scope own) scope env pos (newList []) false (eval iter env) use) Q E s := by
  unfold comprehension
  rw [closed, show clausesOf (.ListComp elt [⟨tg, iter, ifs, 0⟩] scope own) = [⟨tg, iter, ifs, 0⟩] from rfl]
  refine wpAny_bind (wpAny_mono start (fun v t1 p1 => ?_) fun _ _ z => z)
  refine wpAny_bind (wpAny_standAt (wpAny_bind (wpAny_of_eq (fold v) (wpAny_bind (wpAny_holding ?_)))))
  refine wpAny_mono p1 (fun i t2 p2 => wpAny_standIf (wpAny_bind ?_)) fun _ _ z => z
  refine wpAny_mono p2 (fun bag t3 p3 => wpAny_bind (wpAny_pure (wpAny_bind ?_))) fun _ _ z => z
  refine wpAny_mono p3 (fun ce t4 p4 => ?_) fun _ _ z => z
  dsimp only
  have here : ∀ z ∈ (scope.names.filter fun z => (z.2 == .local || z.2 == .cell) && z.1 != (".0" : Str)).reverse, z.2 = .local → Env.kindOf { ce with scope := relabel scope env } z.1 = some .local :=
    fun z m k => lookup_relabel_local (own_ z (List.mem_filter.mp (List.mem_reverse.mp m)).1 k)
  refine wpAny_holding (wpAny_bind (wpAny_attempt (wpAny_holding (wpAny_run (codeAny_mono p4 fun end_ t5 p5 => ?_)))))
  cases end_ with
  | error x =>
    obtain ⟨m, names, thrown⟩ := p5
    refine wpAny_bind (wpAny_holding (wpAny_comp_letGo (cenv := { ce with scope := relabel scope env }) fn _ t5 m here names fun h2 _ _ but => ?_))
    exact wpAny_mono (thrown h2 but) (fun _ _ z => z.elim) fun _ _ z => z
  | ok fl =>
    cases use with
    | none =>
      obtain ⟨m, names, told⟩ := p5
      refine wpAny_bind (wpAny_holding (wpAny_comp_letGo (cenv := { ce with scope := relabel scope env }) fn _ t5 m here names fun h2 _ _ but => ?_))
      exact wpAny_pure (told h2 but)
    | some u =>
      refine wpAny_bind (wpAny_rule (wpAny_bind (wpAny_holding ?_)))
      refine wpAny_mono p5 (fun _ t6 p6 => ?_) fun _ _ z => z
      obtain ⟨m, names, told⟩ := p6
      refine wpAny_bind (wpAny_comp_letGo (cenv := { ce with scope := relabel scope env }) fn _ t6 m (fun z mz k => ?_) names fun h2 _ _ but => wpAny_pure (told h2 but))
      exact (List.mem_append.mp mz).elim (fun q => here z (List.mem_of_mem_drop q) k) fun q => here z (List.mem_of_mem_take q) k
end
section
variable {X : Cx} {pins : List (Addr × Obj)} {σ : L2.St} {H3 : Hp} {s3 : Shared} {W : Value → Option Addr → Hp → Prop}
/-- the context of a block out of which a refusal comes -/
abbrev blkE (X : Cx) (s : Shared) (H : Hp) (scope : Scope) (cenv : Env) (fp : List Addr) (xe : Value → Shared → Prop) : Cx := (X.blk s H scope cenv fp).tr [] xe
theorem funFrames_less {B B' h : Heap} (k : ∀ b, B.get? b = none → B'.get? b = none) : ∀ {l : List Env}, h.FunFrames B l → h.FunFrames B' l
  | [], _ => trivial
  | _ :: _, ⟨a, ⟨L, o, e1, e2, e3, e4⟩, r⟩ => ⟨a, ⟨L, o, e1, k _ e2, e3, e4⟩, funFrames_less k r⟩
theorem funFrames_but {g h h' B B0 : Heap} {C : Addr} (hC : g.get? C = none) (k : ∀ b, b ≠ C → h'.get? b = h.get? b) : ∀ {l : List Env}, g.FunFrames B0 l → h.FunFrames B l → h'.FunFrames B l
  | [], _, _ => trivial
  | _ :: _, ⟨_, ⟨L1, o1, f1, _, g1, _⟩, r1⟩, ⟨a, ⟨L, o, e1, e2, e3, e4⟩, r⟩ => by
    rw [f1] at e1
    cases e1
    refine ⟨a, ⟨L1, o, f1, e2, (k L1 fun q => ?_).trans e3, e4⟩, funFrames_but hC k r1 r⟩
    rw [q, hC] at g1
    cases g1
theorem takes_blk {scope : Scope} {cl : List (Str × Addr)} {fp : List Addr} {use : Option (Value → Sem Unit)} {Qf : Value → Shared → Prop} {acc : Value} (I3 : Inv X pins σ H3 s3) (hs : X.stack = X.env :: X.outer) (hf : X.env.frame = some X.env.locals)
    (f3 : ∀ b ∈ fp, FpOk X pins H3 b ∧ b < s3.heap.objs.size) (tk : L2N.Takes X fun c d _ H => W c d H) :
    L2N.Takes (blkE X s3 H3 scope (compEnvC scope cl s3.heap.objs.size X.env) fp (notedBy (model X.prog X.w) X.A (compEnvC scope cl s3.heap.objs.size X.env) fun e s' => compPostF (model X.prog X.w) X.A X.xe use Qf acc (compEnvC scope cl s3.heap.objs.size X.env) (.error e) s')) fun c d _ H => W c d H := by
  rintro u s' ⟨a, B, sI, pins', σ', H', cls, d, rfl, I', nb, up, sky, na, os, ag, w⟩
  have hfr : X.A.frames = some (X.env :: X.outer) := by rw [I3.ok.frames, hs]
  have sky' : Sky B (X.env :: X.outer) a (L2N.Zn cls d) s3.heap.objs.size s'.heap := by rw [← hs]; exact sky
  have I7 : Inv X pins σ H' sI := I3.call' (ch := fp) I'.os I'.base I'.hok I'.bare fun b hb => ⟨(f3 b hb).1.2.2.2.1, (f3 b hb).1.2.1, (f3 b hb).1.2.2.2.2.1, (f3 b hb).1.2.2.2.2.2⟩
  have nC : H' s3.heap.objs.size = none := I'.free
  obtain ⟨m, hn, _⟩ := I'.loc
  have hn : sI.heap.Ns s3.heap.objs.size m := hn
  have fC := I3.fpOk (Nat.le_refl _) nC
  show wpAny (model X.prog X.w) X.A (noteFrame (.ref a) X.env) _ _ s'
  refine note_sky L2N.Zn.steady hfr hf sky' fun h1 hh1 up1 => ?_
  have hn1 : h1.Ns s3.heap.objs.size m := Heap.UpToSlots.ns (up.trans up1) hn
  refine ⟨m, hn1, fun h' hsb => ?_⟩
  have hCn : s3.heap.get? s3.heap.objs.size = none := by
    cases q : s3.heap.get? s3.heap.objs.size with
    | none => rfl
    | some o => exact absurd (Heap.lt_size q) (Nat.lt_irrefl _)
  generalize hC : s3.heap.objs.size = C at *
  have ge : ∀ {h : Heap} {b : Addr} {o : Obj}, (PySem.W.hideAll h [C]).get? b = some o → b ≠ C ∧ h.get? b = some o := fun {h b o} e => by
    refine ⟨fun q => ?_, PySem.W.of_hideAll _ e⟩
    rw [q, PySem.W.hideAll_none [C] (List.mem_singleton.mpr rfl)] at e
    cases e
  obtain ⟨k1, k2, k3, oe, vs, T, oT, ts, he, hz, hd, h1', hnT, hTe, hT, hdT, h3⟩ := hh1
  have noC : ∀ {b : Addr} {o : Obj} {fs : Array Value}, h1.get? b = some o → o.data = .fields fs → b ≠ C := fun {b o fs} e1 e2 q => by
    obtain ⟨o', es, ep, ho, hd', _⟩ := hn1
    rw [q, ho] at e1
    cases e1
    rw [hd'] at e2
    cases e2
  have hh2 : HeldZ (PySem.W.hideAll B [C]) (X.env :: X.outer) a (L2N.Zn cls d) X.env.locals h' := by
    refine ⟨fun b o e => ?_, ?_, ?_, oe, vs, T, oT, ts, ?_, hz, hd, h1', ?_, hTe, ?_, hdT, h3⟩
    · obtain ⟨h1, h2⟩ := ge e
      exact (hsb.2 b h1).trans (k1 b o h2)
    · cases q : (PySem.W.hideAll B [C]).get? a with
      | none => rfl
      | some o => rw [(ge q).2] at k2; cases k2
    · refine funFrames_less (fun b e => ?_) (funFrames_but hCn hsb.2 (by rw [← hs]; exact I3.stack) k3)
      cases q : (PySem.W.hideAll B [C]).get? b with
      | none => rfl
      | some o => rw [(ge q).2] at e; cases e
    · exact (hsb.2 a (noC he hd)).trans he
    · cases q : (PySem.W.hideAll B [C]).get? T with
      | none => rfl
      | some o => rw [(ge q).2] at hnT; cases hnT
    · exact (hsb.2 T (noC hT hdT)).trans hT
  refine pass_held hf hh2 fun h2 hh3 up3 => tk _ _ ⟨a, PySem.W.hideAll B [C], { sI with heap := PySem.W.hideAll sI.heap [C] }, pins, σ, H', cls, d, rfl, ?_, fun b o e hb => ?_, ?_, .inr (.inr (by rw [hs]; exact hh3)), na, os, ag, w⟩
  · obtain ⟨f0, f1, f2, f3', f4, f5⟩ := fC
    exact I7.turned (t' := sI.toks) (fun b o hb e => PySem.W.hideAll_get _ e (by simpa using hb)) f0 f1 f3' f4 f5
  · obtain ⟨n1, n2⟩ := ge e
    exact PySem.W.hideAll_get _ (nb b o n2 hb) (by simpa using n1)
  · refine Heap.UpToSlots.trans (fun b o e hn => ?_) up3
    obtain ⟨n1, n2⟩ := ge e
    obtain ⟨sl, q⟩ := (up.trans up1) b o n2 hn
    exact ⟨sl, (hsb.2 b n1).trans q⟩
/-- the comprehension itself, whatever is walked -/
theorem runs {σ : L2.St} {H : Hp} {Q : VK} {elt tg iter : Expr} {ifs : List Expr} {scope : Scope} {own : List (Str × Nat)} {pos spot : Pos} {wi : TI} {g : TG} {tt : TT} {te : TE} {use : Option (Value → Sem Unit)} {Qf : Value → Shared → Prop} {s : Shared}
    (calm : X.calm = true) (nd : X.N.Nodup) (I : Inv X pins σ H s) (walk : PI X tg iter wi) (ok : BlkOk X.N X.env.scope scope own) (hs : X.stack = X.env :: X.outer) (hf : X.env.frame = some X.env.locals) (tk : L2N.Takes X fun c d _ H => W c d H)
    (ptg : ∀ (s : Shared) (H : Hp) (C : Addr) (cl : List (Str × Addr)) (fp : List Addr) (xe : Value → Shared → Prop), PG (blkE X s H scope (compEnvC scope cl C X.env) fp xe) tg g)
    (pts : ∀ (s : Shared) (H : Hp) (C : Addr) (cl : List (Str × Addr)) (fp : List Addr) (xe : Value → Shared → Prop), PTs (blkE X s H scope (compEnvC scope cl C X.env) fp xe) ifs tt)
    (pel : ∀ (s : Shared) (H : Hp) (C : Addr) (cl : List (Str × Addr)) (fp : List Addr) (xe : Value → Shared → Prop), L2N.Takes (blkE X s H scope (compEnvC scope cl C X.env) fp xe) (fun c d _ H => W c d H) → PE (blkE X s H scope (compEnvC scope cl C X.env) fp xe) elt te)
    (fold : ∀ x, foldedSetIterable iter X.env x = pure x) (q0 : tLc wi g tt te (own.map (·.2)) σ H Q)
    (out : ∀ D C s' m H', Inv X pins σ H' s' → Q (.ref D) H' → s'.heap.Ns C m → FpOk X pins H' C → compPost (model X.prog X.w) X.A X.xe use Qf (.ref D) C (.ok .next) s') :
    wpAny (model X.prog X.w) X.A (comprehension (.ListComp elt [⟨tg, iter, ifs, 0⟩] scope pos) scope X.env spot (newList []) false (eval iter X.env) use) Qf X.xe s := by
  have closes : ∀ y ∈ scope.names, y.2 = .free → ∃ c, X.env.cells.lookup y.1 = some c := fun y hy e => I.ok.has _ ((ok.free y hy e).elim .inl .inr)
  refine comp_runs (use := use) fold (closure_ok closes) ok.kind (fun y hy e => by rw [ok.uniq y hy, e]) (thn (walk.run pins s σ H _ I q0) fun v1 s1 w1 => thn w1 fun v2 s2 w2 => ?_)
  obtain ⟨it, fp, tn, J, H2, rfl, I2, T, st2, ff, q⟩ := w2
  refine wpAny_newObj_type (newEnv_comp ?_) (Nat.zero_le _ : 0 ≤ sizeLine)
  have nD : H2 s2.heap.objs.size = none := I2.hok.fresh (Nat.le_refl _)
  obtain ⟨Wt, ⟨m0, w0⟩, turn⟩ := q s2.heap.objs.size nD
  -- the list that is to be
  have gD := Heap.get?_push_size s2.heap (o := { cls := .type "list", data := .seq ([] : List Value).toArray }) rfl
  have up2 : ∀ b o, s2.heap.get? b = some o → (s2.heap.push { cls := .type "list", data := .seq ([] : List Value).toArray }).get? b = some o := fun b o e => Heap.get?_push_of_some _ e
  have I3 := I2.laid (t' := s2.toks) (a := s2.heap.objs.size) (o := .lst []) up2 (Nat.le_refl _) ⟨Nat.zero_le _, [], 0, .nil, gD⟩
  have low : ∀ b ∈ fp, b < s2.heap.objs.size := fun b hb => Heap.lt_size (T.obj _ _ st2 b hb).choose_spec.1
  have size2 : (s2.heap.push { cls := .type "list", data := .seq ([] : List Value).toArray }).objs.size = s2.heap.objs.size + 1 := Heap.size_push ..
  have f3 : ∀ b ∈ fp, FpOk X pins (upd H2 s2.heap.objs.size (.lst [])) b ∧ b < (s2.heap.push { cls := .type "list", data := .seq ([] : List Value).toArray }).objs.size := fun b hb => by
    have h1 := low b hb
    refine ⟨⟨?_, (ff b hb).2⟩, by rw [size2]; exact Nat.lt_succ_of_lt h1⟩
    rw [upd_ne (Nat.ne_of_lt h1)]
    exact (ff b hb).1
  have st3 := T.keep _ _ _ st2 fun b _ o e => up2 b o e
  generalize eD : s2.heap.objs.size = D at I3 w0 turn f3 gD ⊢
  generalize eh3 : s2.heap.push { cls := .type "list", data := .seq ([] : List Value).toArray } = h3 at I3 f3 st3 gD ⊢
  generalize eH3 : upd H2 D (.lst []) = H3 at I3 w0 f3 ⊢
  have J3 : Inv X pins σ H3 ({ s2 with heap := h3 } : Shared) := I3
  clear I3
  generalize es3 : ({ s2 with heap := h3 } : Shared) = s3 at J3
  have e3 : s3.heap = h3 := by rw [← es3]
  have f3' : ∀ b ∈ fp, FpOk X pins H3 b ∧ b < s3.heap.objs.size := fun b hb => by rw [e3]; exact f3 b hb
  have I4 := block_start J3 ok nd f3'
  have tkb := takes_blk (scope := scope) (cl := cellsFrom (s3.heap.objs.size + 1) scope.names (cloFrom X.env.cells scope.names [])) (use := use) (Qf := Qf) (acc := .ref D) J3 hs hf f3' tk
  have xtg := ptg s3 H3 s3.heap.objs.size (cellsFrom (s3.heap.objs.size + 1) scope.names (cloFrom X.env.cells scope.names [])) fp
  have xts := pts s3 H3 s3.heap.objs.size (cellsFrom (s3.heap.objs.size + 1) scope.names (cloFrom X.env.cells scope.names [])) fp
  have xel := pel s3 H3 s3.heap.objs.size (cellsFrom (s3.heap.objs.size + 1) scope.names (cloFrom X.env.cells scope.names [])) fp
  show codeAny _ _ (.compStart (.ListComp elt [⟨tg, iter, ifs, 0⟩] scope pos) 0 (.ref it) (.ref D) (compEnvC scope (cellsFrom (s3.heap.objs.size + 1) scope.names (cloFrom X.env.cells scope.names [])) s3.heap.objs.size X.env)) (compPostF (model X.prog X.w) X.A X.xe use Qf (.ref D) (compEnvC scope (cellsFrom (s3.heap.objs.size + 1) scope.names (cloFrom X.env.cells scope.names [])) s3.heap.objs.size X.env)) _
  have cL : (compEnvC scope (cellsFrom (s3.heap.objs.size + 1) scope.names (cloFrom X.env.cells scope.names [])) s3.heap.objs.size X.env).locals = s3.heap.objs.size := rfl
  generalize ece : compEnvC scope (cellsFrom (s3.heap.objs.size + 1) scope.names (cloFrom X.env.cells scope.names [])) s3.heap.objs.size X.env = ce at I4 tkb xtg xts xel cL ⊢
  generalize exe : (notedBy (model X.prog X.w) X.A ce fun e s' => compPostF (model X.prog X.w) X.A X.xe use Qf (.ref D) ce (.error e) s') = xe at tkb
  have J4 : Inv (blkE X s3 H3 scope ce fp xe) [] (wipe σ (own.map (·.2))) H3 { s3 with heap := pushCells (s3.heap.push { cls := .type "dict", data := .dict #[] }) scope.names } := I4.toTry xe
  clear I4
  generalize es4 : ({ s3 with heap := pushCells (s3.heap.push { cls := .type "dict", data := .dict #[] }) scope.names } : Shared) = s4 at J4 ⊢
  have st4 : tn 0 s4.heap := T.keep _ _ _ st3 fun b _ o e => by
    rw [← es4]
    exact pushCells_keeps _ _ _ _ (Heap.get?_push_of_some _ (by rw [e3]; exact e))
  have idle : ∀ b ∈ fp, H3 b = none := fun b hb => (f3' b hb).1.1
  have still : ∀ {τ : L2.St} {H' : Hp} {s' : Shared}, Inv (blkE X s3 H3 scope ce fp xe) [] τ H' s' → (∀ b ∈ fp, H' b = none) → ∀ b ∈ fp, FpOk (blkE X s3 H3 scope ce fp xe) [] H' b := fun {τ H' s'} J n b hb =>
    ⟨n b hb, (J.ok.exf b hb).1, J.ok.exfs b hb, .inl hb, (J.ok.exf b hb).2, fun p hp => nomatch (show p ∈ ([] : List (Addr × Obj)) from hp)⟩
  have loop : codeAny (model X.prog X.w) X.A (.compLoop (.ListComp elt [⟨tg, iter, ifs, 0⟩] scope pos) 0 (.ref it) (.ref D) ce) (compPostF (model X.prog X.w) X.A X.xe use Qf (.ref D) ce) s4 := by
    refine compLoop_any (fun n s' => ∃ i H', Inv (blkE X s3 H3 scope ce fp xe) [] (wipe σ (own.map (·.2))) H' s' ∧ tn i s'.heap ∧ (∀ b ∈ fp, H' b = none) ∧ Wt i n H') ?_ m0 ⟨0, H3, J4, st4, idle, w0⟩
    rw [exe]
    rintro n s5 ⟨i, H5, J5, t5, n5, w5⟩
    rcases turn i n H5 w5 with ⟨over, q5⟩ | ⟨more, Nx, hNx, step⟩
    · refine thnF (T.done (blkE X s3 H3 scope ce fp xe) rfl rfl rfl calm i [] s5 _ H5 (fun _ _ => False) J5 (still J5 n5) t5 over) fun r s6 h6 => ?_
      obtain ⟨rfl, J6⟩ := h6
      have nC : H5 s3.heap.objs.size = none := cL ▸ J6.free
      obtain ⟨m, hn, _⟩ := J6.loc
      have hn : s6.heap.Ns s3.heap.objs.size m := cL ▸ hn
      have back : Inv X pins σ H5 s6 := J3.call' (ch := fp) J6.os J6.base J6.hok J6.bare fun b hb => ⟨(f3' b hb).1.2.2.2.1, (f3' b hb).1.2.1, (f3' b hb).1.2.2.2.2.1, (f3' b hb).1.2.2.2.2.2⟩
      show compPost _ _ _ use Qf (.ref D) ce.locals (.ok .next) s6
      rw [cL]
      exact out D _ s6 m H5 back q5 hn (J3.fpOk (Nat.le_refl _) nC)
    · refine thnF (T.item (blkE X s3 H3 scope ce fp xe) rfl rfl rfl calm i [] s5 _ H5 (fun _ _ => False) J5 (still J5 n5) t5 more) fun r s6 h6 => ?_
      obtain ⟨u, rfl, h6⟩ := h6
      refine thnF h6 fun _ s7 h7 => ?_
      obtain ⟨x, H7, J7, r7, y7, t7, n7⟩ := h7
      refine thn ((xtg xe).run _ s7 _ H7 x u _ (J7.pinned (still J7 n7) (T.obj _ _ t7)) r7 (step x H7 y7)) fun _ s8 h8 => ?_
      obtain ⟨σ8, H8, J8, same, q8⟩ := h8
      refine thn ((xts xe).run _ s8 σ8 H8 _ J8 q8) fun b s9 h9 => ?_
      obtain ⟨H9, J9, q9⟩ := h9
      have round : ∀ {s' : Shared} {H' : Hp}, Inv (blkE X s3 H3 scope ce fp xe) ([] ++ pinsAt fp s7.heap) σ8 H' s' → Nx H' → ∃ m, m < n ∧ ∃ i H', Inv (blkE X s3 H3 scope ce fp xe) [] (wipe σ (own.map (·.2))) H' s' ∧ tn i s'.heap ∧ (∀ b ∈ fp, H' b = none) ∧ Wt i m H' := fun {s' H'} J nx => by
        obtain ⟨m, hm, w⟩ := hNx H' nx
        have held : ∀ b ∈ fp, ∀ o, s7.heap.get? b = some o → s'.heap.get? b = some o ∧ H' b = none := fun b hb o e =>
          have z := J.pin (b, o) (List.mem_append_right _ (List.mem_append_right _ (mem_pinsAt hb e)))
          ⟨z.1, z.2.1⟩
        refine ⟨m, hm, i + 1, H', (J.unpinned (pins := [])).weak (by rw [← same, wipe_length]) (fun j v e => ?_), T.keep _ _ _ t7 fun b hb o e => (held b hb o e).1, fun b hb => ?_, w⟩
        · rw [← same] at e
          exact And.left (wipe_some e)
        · obtain ⟨o, e, _⟩ := T.obj _ _ t7 b hb
          exact (held b hb o e).2
      cases b with
      | false => exact round J9 q9
      | true =>
        refine thn ((xel xe tkb).run _ s9 σ8 H9 _ J9 q9) fun z s10 h10 => ?_
        obtain ⟨y, H10, J10, r10, acc, gl, hz, nx⟩ := h10
        exact app_ok (X := blkE X s3 H3 scope ce fp xe) J10 gl hz r10 fun s11 J11 => round J11 nx
  exact codeAny_compStart_list loop <| T.self X.A 0 _ _ _ st4 loop
theorem pe_lcX {elt tg iter : Expr} {ifs : List Expr} {scope : Scope} {own : List (Str × Nat)} {pos : Pos} {wi : TI} {g : TG} {tt : TT} {te : TE}
    (calm : X.calm = true) (nd : X.N.Nodup) (walk : PI X tg iter wi) (ok : BlkOk X.N X.env.scope scope own) (hs : X.stack = X.env :: X.outer) (hf : X.env.frame = some X.env.locals) (tk : L2N.Takes X fun c d _ H => W c d H)
    (ptg : ∀ (s : Shared) (H : Hp) (C : Addr) (cl : List (Str × Addr)) (fp : List Addr) (xe : Value → Shared → Prop), PG (blkE X s H scope (compEnvC scope cl C X.env) fp xe) tg g)
    (pts : ∀ (s : Shared) (H : Hp) (C : Addr) (cl : List (Str × Addr)) (fp : List Addr) (xe : Value → Shared → Prop), PTs (blkE X s H scope (compEnvC scope cl C X.env) fp xe) ifs tt)
    (pel : ∀ (s : Shared) (H : Hp) (C : Addr) (cl : List (Str × Addr)) (fp : List Addr) (xe : Value → Shared → Prop), L2N.Takes (blkE X s H scope (compEnvC scope cl C X.env) fp xe) (fun c d _ H => W c d H) → PE (blkE X s H scope (compEnvC scope cl C X.env) fp xe) elt te)
    (fold : ∀ x, foldedSetIterable iter X.env x = pure x := by intro _; rfl) : PE X (.ListComp elt [⟨tg, iter, ifs, 0⟩] scope pos) (tLc wi g tt te (own.map (·.2))) := by
  constructor
  intro pins s σ H Q I q
  rw [eval_ListComp]
  refine runs calm nd I walk ok hs hf tk ptg pts pel fold q fun D C s' m H' J q' hn f => ⟨m, hn, fun h' sb => ?_⟩
  exact ⟨.ref D, H', J.turned (t' := s'.toks) (fun b o hb e => (sb.2 b hb).trans e) f.1 f.2.1 f.2.2.2.1 f.2.2.2.2.1 f.2.2.2.2.2, rfl, q'⟩
end
end LcX
namespace DL
open PySem PySem.Spec L2 LcX
section
variable {X : Cx} {B : Hp} {W : Value → Option Addr → Hp → Prop} {elt tg iter : Expr} {ifs : List Expr} {scope : Scope} {own : List (Str × Nat)} {pos : Pos} {wi : DTI} {g : DTG} {tt : DTT} {te : DTE}
/-- [.. for .. in ..], its parts may refuse -/
theorem d_lcX (hc : X.calm = true) (hN : X.N.Nodup) (hs : X.stack = X.env :: X.outer) (hf : X.env.frame = some X.env.locals) (tk : L2N.Takes X fun c d _ H => W c d H) (hi : DI X B tg iter wi) (ok : BlkOk X.N X.env.scope scope own)
    (hg : ∀ (s : Shared) (H : Hp) (C : Addr) (cl : List (Str × Addr)) (fp : List Addr) (xe : Value → Shared → Prop), PG (blkE X s H scope (compEnvC scope cl C X.env) fp xe) tg (tDGw X.K B (own.map (·.2)) g))
    (ht : ∀ (s : Shared) (H : Hp) (C : Addr) (cl : List (Str × Addr)) (fp : List Addr) (xe : Value → Shared → Prop), PTs (blkE X s H scope (compEnvC scope cl C X.env) fp xe) ifs (tDT X.K B tt))
    (he : ∀ (s : Shared) (H : Hp) (C : Addr) (cl : List (Str × Addr)) (fp : List Addr) (xe : Value → Shared → Prop), L2N.Takes (blkE X s H scope (compEnvC scope cl C X.env) fp xe) (fun c d _ H => W c d H) → PE (blkE X s H scope (compEnvC scope cl C X.env) fp xe) elt (tD X.K B te))
    (fold : ∀ x, foldedSetIterable iter X.env x = pure x := by intro _; rfl) : DE X B (.ListComp elt [⟨tg, iter, ifs, 0⟩] scope pos) (dLc wi g tt te (own.map (·.2))) :=
  PE.imp (pe_lcX hc hN hi ok hs hf tk hg ht he fold) (lc_imp fun a xs ys H h1 h2 => by rw [h1] at h2; cases h2; rfl)
end
end DL

set_option Elab.async false
set_option linter.all false
set_option maxRecDepth 100000
set_option maxHeartbeats 4000000
/-! xs.count(b), xs.index(b) of lists of truths. -/
namespace DL
open PySem PySem.Spec L2 PyProof.Rows PySem.SeqAt
section
variable {X : Cx} {B : Hp} {o a : Expr} {to ta : DTE} {pos apos : Pos}
theorem mt_countB (hu : X.A.units + 65 < cLine) : MtR X "list.count" (fun x xs H Q => ∃ (p : Addr) (bs : List Bool) (c : Bool), x = .ref p ∧ xs = [.bl c] ∧ SqL X.K H p (bs.map V.bl) ∧ DpAll X.K H (bs.map V.bl) (bs.map PyData.bool) ∧ Q (.int (bs.count c : Nat)) H) := by
  intro pins s σ H x xs v us Q I rx rxs h
  obtain ⟨p, bs, c, rfl, rfl, hs, hd, q⟩ := h
  cases rx
  obtain ⟨u, rfl, ru⟩ := rxs.one
  cases ru
  obtain ⟨its, rv, ht, hlen⟩ := I.list hs
  obtain ⟨as, h4⟩ := Dp.readsAll I _ _ its hd rv
  have hp : PyData.plainAll (bs.map PyData.bool) = true := by
    clear h4 hd rv hs q hlen
    induction bs with
    | nil => rfl
    | cons b bs ih => rw [List.map_cons, PyData.plainAll, ih]; rfl
  obtain ⟨bs', r1⟩ := Dp.reads I (.bool c) (.bl c) (.bool c) (.bl c) rfl
  have hc : ((bs.map PyData.bool).countP fun y => PyData.eqv y (.bool c)) = bs.count c := by
    rw [List.countP_map, List.count]
    refine List.countP_congr fun b _ => ?_
    cases b <;> cases c <;> simp [PyData.eqv]
  refine PySem.SeqAt.count_list_data (vs := its.toArray) ht.isList (by simpa using h4) r1 hp rfl ?_ ?_
  · have : (PyData.bool c).depth = 0 := rfl
    rw [this, Nat.min_zero]
    omega
  · rw [hc]
    exact ⟨.int (bs.count c : Nat), H, I.tok _, ⟨s.toks, rfl⟩, q⟩
theorem isL_bl : ∀ {K : PySem.W.Frag} {F : Hp} {vs : List V} {bs : List Bool}, IsL K F vs (bs.map Dt.bl) → vs = bs.map V.bl
  | _, _, _, [], h => by cases h; rfl
  | _, _, _, b :: bs, h => by
    cases h with
    | cons a r =>
      cases a
      rw [isL_bl r]
      rfl
theorem dpAll_bl {K : PySem.W.Frag} {H : Hp} : ∀ bs : List Bool, DpAll K H (bs.map V.bl) (bs.map PyData.bool)
  | [] => .nil
  | b :: bs => .cons (.bl b) (dpAll_bl bs)
def rCountB : Dt → List Dt → Gp → DK → Prop := fun x ds G P => ∃ (bs : List Bool) (c : Bool), asL G x = some (bs.map Dt.bl) ∧ ds = [.bl c] ∧ P (.int (bs.count c : Nat)) G
def rIndexB : Dt → List Dt → Gp → DK → Prop := fun x ds G P => ∃ (bs : List Bool) (c : Bool) (j : Nat), asL G x = some (bs.map Dt.bl) ∧ ds = [.bl c] ∧ bs[j]? = some c ∧ (∀ m z, m < j → bs[m]? = some z → z ≠ c) ∧ P (.int (j : Nat)) G
theorem m_countB (hu : X.A.units + 65 < cLine) : DMt X B "list.count" rCountB := ⟨_, mt_countB hu, fun F G H v x vs ds P Q g i1 i2 ⟨bs, c, h, e, p⟩ k => by
  subst e
  cases i2 with
  | cons i2 i3 =>
    cases i2
    cases i3
    obtain ⟨q, ws, rfl, e2, r⟩ := asL_is g i1 h
    have ew := isL_bl r
    subst ew
    exact ⟨q, bs, c, rfl, rfl, SqL.of e2, dpAll_bl bs, k _ G _ F H p (Le.refl F) g (.int _)⟩⟩
theorem m_indexB : DMt X B "list.index" rIndexB := ⟨_, mt_index, fun F G H v x vs ds P Q g i1 i2 ⟨bs, c, j, h, e, hj, hn, p⟩ k => by
  subst e
  cases i2 with
  | cons i2 i3 =>
    cases i2
    cases i3
    obtain ⟨q, ws, rfl, e2, r⟩ := asL_is g i1 h
    have ew := isL_bl r
    subst ew
    refine ⟨q, bs.map V.bl, .bl c, j, .bl c, rfl, rfl, SqL.of e2, rfl, ?_, by rw [List.getElem?_map, hj]; rfl, by simp [eqV], fun m z' hm hz => ?_, k _ G _ F H p (Le.refl F) g (.int _)⟩
    · rw [List.all_map, List.all_eq_true]
      intro b _
      rfl
    · rw [List.getElem?_map] at hz
      cases e : bs[m]? with
      | none => rw [e] at hz; cases hz
      | some z =>
        rw [e] at hz
        cases hz
        have := hn m z hm e
        cases z <;> cases c <;> simp_all [eqV]⟩
theorem d_countB {k : Nat} (hr : Room k X.A) (ho : DE X B o to) (ha : DE X B a ta) (hs : starEach [a] X.env = (false, eval a X.env) :: starEach [] X.env := by rfl)
    (pe : ∀ {r : V → List V → Hp → VK → Prop} {t : TA} {to : TE}, MtR X "list.count" r → PE X o to → PA X [a] t → PE X (.Call (.Attribute o "count" apos) [a] [] pos) (tBM X.K "list" r to t) := by exact fun h1 h2 h3 => pe_bm PySem.F.plainAttrs_list PySem.F.slot_list_count PySem.F.type_list_count h1 h2 h3) :
    DE X B (.Call (.Attribute o "count" apos) [a] [] pos) (dBM rCountB to (dCons ta dNil)) := by
  obtain ⟨r', h1, h2⟩ := (m_countB (X := X) (B := B) (by have := hr.un; omega)).ex
  exact PE.imp (pe h1 ho (da_cons ha da_nil hs)) (bm_imp h2)
theorem d_indexB (ho : DE X B o to) (ha : DE X B a ta) (hs : starEach [a] X.env = (false, eval a X.env) :: starEach [] X.env := by rfl)
    (pe : ∀ {r : V → List V → Hp → VK → Prop} {t : TA} {to : TE}, MtR X "list.index" r → PE X o to → PA X [a] t → PE X (.Call (.Attribute o "index" apos) [a] [] pos) (tBM X.K "list" r to t) := by exact fun h1 h2 h3 => pe_bm PySem.F.plainAttrs_list PySem.F.slot_list_index PySem.F.type_list_index h1 h2 h3) :
    DE X B (.Call (.Attribute o "index" apos) [a] [] pos) (dBM rIndexB to (dCons ta dNil)) := by
  obtain ⟨r', h1, h2⟩ := (m_indexB (X := X) (B := B)).ex
  exact PE.imp (pe h1 ho (da_cons ha da_nil hs)) (bm_imp h2)
end
end DL

set_option Elab.async false
set_option linter.all false
set_option maxRecDepth 100000
set_option maxHeartbeats 4000000
/-! What is refused: need_houses, Village.far. -/
namespace V
open PySem PySem.Spec L2 DL
/-- no house of n, and not too long to be told -/
def Odd (n : Nat) (z : Int) : Prop := ¬ (0 ≤ z ∧ z < (n : Int)) ∧ z.natAbs.log2 < 1920
theorem odd_of {n : Nat} {z : Int} (h : z < 0 ∨ (n : Int) ≤ z) (hb : z.natAbs < 1000000000000000000000000000000000000000000000000000000000000000000000000) : Odd n z := by
  refine ⟨by omega, ?_⟩
  by_cases h0 : z.natAbs = 0
  · rw [h0]; decide
  · exact (Nat.log2_lt h0).mpr (Nat.lt_of_lt_of_le hb (by decide +kernel))
section
variable {P : Program} {w : World} {K : PySem.W.Frag} {mg : Str → Option Value} {base : Heap} {C D cH : Addr}
def c_needX (C cH : Addr) : DSp := fun ds G P R => ∃ (v : Vil) (hs : List Int) (z : Int) (ts : List Int), ds = [vilD C v, .lst ((hs ++ z :: ts).map Dt.int)] ∧ (∀ h ∈ hs, 0 ≤ h ∧ h < (v.n : Int)) ∧ Odd v.n z ∧ R cH (.int z) G
theorem at_needX (T : TV K mg C) {f : Addr} {fd : FuncData} (F : Fun K "need_houses" "need_houses" s_need_houses f fd) (D_is_house : Dfn P w K mg base CX0 "is_house" p_is_house c_is_house 1) (M_houses : Dmt P w K mg base CX0 C "houses" p_V_houses (c_houses C) 1) (DX_NoHouse : DexC P w K mg base "NoHouse" cH) :
    FnOk P w K mg base (L2N.CX P w) 3 f fd p_need_houses (toSp K (c_needX C cH)) := by
  refine d_okR F sc_need_houses (fun ds G P R ⟨v, hs, z, ts, e, _⟩ => by rw [e]; rfl) fun cdv A outer s H E B R hr tk cw pa => ?_
  refine ⟨_, (dss_one (ds_for pa rfl (di_list (dv (pv 1))) (dg_name (pg_name (i := 2) sc_need_houses.nd rfl (by first | exact Or.inl rfl | exact Or.inr rfl))) (dss_one (ds_if (dt_not (dt_val (d_callD D_is_house hr (by rfl) (da_cons (d_methD0 (dv (pv 0)) T.cl M_houses hr) (da_cons (dv (pv 2)) da_nil))))) (dss_one (ds_raise DX_NoHouse rfl hr tk cw (by rfl) (dv (pv 2)))) dss_nil)))), ?_⟩
  rintro ds G P ⟨v, hs, z, ts, rfl, hh, hz, p⟩
  refine ⟨.lst ((hs ++ z :: ts).map Dt.int), rfl, _, rfl, fun i δ G' => i ≤ hs.length ∧ G' = G ∧ ∃ o, δ = [some (vilD C v), some (.lst ((hs ++ z :: ts).map Dt.int)), o], ⟨Nat.zero_le _, rfl, _, rfl⟩, ?_, ?_⟩
  · rintro i x δ G' hx ⟨hi, rfl, o, rfl⟩
    by_cases hl : i < hs.length
    · have hx' : x = .int hs[i] := by
        rw [List.getElem?_map, List.getElem?_append_left hl, List.getElem?_eq_getElem hl] at hx
        exact (Option.some.inj hx).symm
      subst hx'
      have hb := hh _ (List.getElem_mem hl)
      simp [and_assoc, dRet, dRetN, dRetC, dChain, r2I, dC, dVar, dEnds, dstart, dOp, dCB, DL.rLen, dCons, dNil, dFld, asL_lst, asQ_lst, asQ_tup, asQ_scr, ins_obj, dNever, dgN, dgNil, dgCons, dgTup, dIf, dNot, dAnd, dOr, dB, dCall, dMeth, dNext, dSeq, dSt, dLst, dTup, dIfE, rIxQ, dDrop, dYes, diL, diR1, diR2, dNeg, dAsg, dwipe, dBM, dBM0, rAppendD, rMin2, rMax2, atI_0, atI_1, atI_2, atI_3, ix4_0, ix4_1, ix4_3, dRaise, c_is_house, c_houses, vil_ins, vilD_inj, mh "houses", hb]
      omega
    · have hx' : x = .int z := by
        have e : i = hs.length := by omega
        subst e
        rw [List.getElem?_map, List.getElem?_append_right (Nat.le_refl _), Nat.sub_self] at hx
        exact (Option.some.inj hx).symm
      subst hx'
      have hb : ¬ (0 ≤ z ∧ z < (v.n : Int)) := hz.1
      simp [and_assoc, dRet, dRetN, dRetC, dChain, r2I, dC, dVar, dEnds, dstart, dOp, dCB, DL.rLen, dCons, dNil, dFld, asL_lst, asQ_lst, asQ_tup, asQ_scr, ins_obj, dNever, dgN, dgNil, dgCons, dgTup, dIf, dNot, dAnd, dOr, dB, dCall, dMeth, dNext, dSeq, dSt, dLst, dTup, dIfE, rIxQ, dDrop, dYes, diL, diR1, diR2, dNeg, dAsg, dwipe, dBM, dBM0, rAppendD, rMin2, rMax2, atI_0, atI_1, atI_2, atI_3, ix4_0, ix4_1, ix4_3, dRaise, c_is_house, c_houses, vil_ins, vilD_inj, mh "houses", hb]
      exact ⟨.int z hz.2, p⟩
  · rintro δ G' ⟨hi, _⟩
    simp at hi
    omega
theorem ok_needX (T : TV K mg C) (TF : TopFn K mg "need_houses" s_need_houses p_need_houses) (D_is_house : Dfn P w K mg base CX0 "is_house" p_is_house c_is_house 1) (M_houses : Dmt P w K mg base CX0 C "houses" p_V_houses (c_houses C) 1) (DX_NoHouse : DexC P w K mg base "NoHouse" cH) :
    Dfn P w K mg base (L2N.CX P w) "need_houses" p_need_houses (c_needX C cH) 3 := by
  obtain ⟨f, fd, F, m, b⟩ := TF
  exact ⟨f, fd, at_needX T F D_is_house M_houses DX_NoHouse, m, F.kp, b⟩
/-- both -/
def c_needO (C cH : Addr) : DSp := cOr (c_need C) (c_needX C cH)
theorem ok_needO (T : TV K mg C) (TF : TopFn K mg "need_houses" s_need_houses p_need_houses) (D_is_house : Dfn P w K mg base CX0 "is_house" p_is_house c_is_house 1) (M_houses : Dmt P w K mg base CX0 C "houses" p_V_houses (c_houses C) 1) (DX_NoHouse : DexC P w K mg base "NoHouse" cH) :
    Dfn P w K mg base (L2N.CX P w) "need_houses" p_need_houses (c_needO C cH) 3 := by
  obtain ⟨f, fd, F, m, b⟩ := TF
  refine ⟨f, fd, FnOk.or (FnOk.cx (FnOk.mono (j := 2) ?_ (by decide))) (at_needX T F D_is_house M_houses DX_NoHouse), m, F.kp, b⟩
  refine d_ok F sc_need_houses (fun ds G P R ⟨v, hs, e, _⟩ => by rw [e]; rfl) fun cdv A outer s H E B hr => ?_
  refine ⟨_, (dss_one (ds_for PassesOwn.never rfl (di_list (dv (pv 1))) (dg_name (pg_name (i := 2) sc_need_houses.nd rfl (by first | exact Or.inl rfl | exact Or.inr rfl))) (dss_one (ds_if (dt_not (dt_val (d_callD D_is_house hr (by rfl) (da_cons (d_methD0 (dv (pv 0)) T.cl M_houses hr) (da_cons (dv (pv 2)) da_nil))))) (dss_one ds_never) dss_nil)))), ?_⟩
  rintro ds G P R ⟨v, hs, rfl, hh, p⟩
  refine ⟨.lst (hs.map Dt.int), rfl, _, rfl, fun i δ G' => G' = G ∧ ∃ o, δ = [some (vilD C v), some (.lst (hs.map Dt.int)), o], ⟨rfl, _, rfl⟩, ?_, ?_⟩
  · rintro i x δ G' hx ⟨rfl, o, rfl⟩
    obtain ⟨h, hm, rfl⟩ := List.mem_map.mp (List.mem_of_getElem? hx)
    have hb := hh h hm
    simp [and_assoc, dRet, dRetN, dRetC, dChain, r2I, dC, dVar, dEnds, dstart, dOp, dCB, DL.rLen, dCons, dNil, dFld, asL_lst, asQ_lst, asQ_tup, asQ_scr, ins_obj, dNever, dgN, dgNil, dgCons, dgTup, dIf, dNot, dAnd, dOr, dB, dCall, dMeth, dNext, dSeq, dSt, dLst, dTup, dIfE, rIxQ, dDrop, dYes, diL, diR1, diR2, dNeg, dAsg, dwipe, dBM, dBM0, rAppendD, rMin2, rMax2, atI_0, atI_1, atI_2, atI_3, ix4_0, ix4_1, ix4_3, c_is_house, c_houses, vil_ins, vilD_inj, mh "houses", hb]
  · rintro δ G' ⟨rfl, _⟩
    exact p
def c_vfarX (C cH : Addr) : DSp := fun ds G P R => ∃ (E : List (Nat × Nat)) (d : Nat → Nat → Nat) (z : Int), ds = [vilD C (vilOf E d), .int z] ∧ TV0 E d ∧ Odd (E.length + 1) z ∧ R cH (.int z) G
theorem ok_vfarX (T : TV K mg C) (TM : TopMt K C "far" "Village.far" s_V_far p_V_far) (DX_need_houses : Dfn P w K mg base (L2N.CX P w) "need_houses" p_need_houses (c_needX C cH) 3) (M__far : Dmt P w K mg base CX0 C "_far" p_V_farOf (c_vf C) 2) : Dmt P w K mg base (L2N.CX P w) C "far" p_V_far (c_vfarX C cH) 4 := by
  refine dmt_ofR TM sc_V_far (fun ds G P R ⟨E, d, z, e, _⟩ => by rw [e]; rfl) fun f cdv A outer s H E B R hr tk cw pa => ?_
  refine ⟨_, (dss_cons (ds_expr (d_callS DX_need_houses hr tk cw (by rfl) (da_cons (dv (pv 0)) (da_cons (d_lst (da_cons (dv (pv 1)) da_nil)) da_nil))))
      (dss_one (ds_ret (d_callTy c_list (by rfl) T.list (by decide +kernel) (da_cons (d_methD (dv (pv 0)) T.cl M__far hr (da_cons (dv (pv 1)) da_nil)) da_nil))))), ?_⟩
  rintro ds G P ⟨E, d, z, rfl, hE, hz, p⟩
  have hn : (vilOf E d).n = E.length + 1 := vilOf_n E d
  simp [and_assoc, dRet, dRetN, dRetC, dChain, r2I, dC, dVar, dEnds, dstart, dOp, dCB, DL.rLen, dCons, dNil, dFld, asL_lst, asQ_lst, asQ_tup, asQ_scr, ins_obj, dNever, dgN, dgNil, dgCons, dgTup, dIf, dNot, dAnd, dOr, dB, dCall, dMeth, dNext, dSeq, dSt, dLst, dTup, dIfE, rIxQ, dDrop, dYes, diL, diR1, diR2, dNeg, dAsg, dwipe, dBM, dBM0, rAppendD, rMin2, rMax2, atI_0, atI_1, atI_2, atI_3, ix4_0, ix4_1, ix4_3, asL_g, asQ_g, now_g, gupd_same, gupd_gupd, Int.ofNat_inj, now_lst, now_int, now_tup, asL_lst, natsD_length, rdD_length, vilD_inj, vil_ins, natsD_inj, rdD_inj, nnD_inj, dCallS, n_V_far, c_needX, hn]
  exact ⟨by rw [sizeLine_eq]; decide, [], z, ⟨[], rfl⟩, by simp, hz, p⟩
end
end V

set_option Elab.async false
set_option linter.all false
set_option maxRecDepth 100000
set_option maxHeartbeats 4000000
/-! Moves refused. -/
namespace V
open PySem PySem.Spec L2 DL
section
variable {P : Program} {w : World} {K : PySem.W.Frag} {mg : Str → Option Value} {base : Heap} {C D CE cRoad cHouse cClash cReport cTale cDays cText : Addr}
def c_vfarO (C cH : Addr) : DSp := cOr (c_vfar C) (c_vfarX C cH)
theorem ok_vfarO (T : TV K mg C) (TM : TopMt K C "far" "Village.far" s_V_far p_V_far) (DX_need_houses : Dfn P w K mg base (L2N.CX P w) "need_houses" p_need_houses (c_needO C cHouse) 3) (M__far : Dmt P w K mg base CX0 C "_far" p_V_farOf (c_vf C) 2) : Dmt P w K mg base (L2N.CX P w) C "far" p_V_far (c_vfarO C cHouse) 4 := by
  refine dmt_ofR TM sc_V_far (fun ds G P R h => by rcases h with ⟨E, d, z, e, _⟩ | ⟨E, d, z, e, _⟩ <;> rw [e] <;> rfl) fun f cdv A outer s H E B R hr tk cw pa => ?_
  refine ⟨_, (dss_cons (ds_expr (d_callS DX_need_houses hr tk cw (by rfl) (da_cons (dv (pv 0)) (da_cons (d_lst (da_cons (dv (pv 1)) da_nil)) da_nil))))
      (dss_one (ds_ret (d_callTy c_list (by rfl) T.list (by decide +kernel) (da_cons (d_methD (dv (pv 0)) T.cl M__far hr (da_cons (dv (pv 1)) da_nil)) da_nil))))), ?_⟩
  rintro ds G P (⟨E, d, x, rfl, hE, hx, p⟩ | ⟨E, d, z, rfl, hE, hz, p⟩)
  · have hn : (vilOf E d).n = E.length + 1 := vilOf_n E d
    simp [and_assoc, dRet, dRetN, dRetC, dChain, r2I, dC, dVar, dEnds, dstart, dOp, dCB, DL.rLen, dCons, dNil, dFld, asL_lst, asQ_lst, asQ_tup, asQ_scr, ins_obj, dNever, dgN, dgNil, dgCons, dgTup, dIf, dNot, dAnd, dOr, dB, dCall, dMeth, dNext, dSeq, dSt, dLst, dTup, dIfE, rIxQ, dDrop, dYes, diL, diR1, diR2, dNeg, dAsg, dwipe, dBM, dBM0, rAppendD, rMin2, rMax2, atI_0, atI_1, atI_2, atI_3, ix4_0, ix4_1, ix4_3, asL_g, asQ_g, now_g, gupd_same, gupd_gupd, Int.ofNat_inj, now_lst, now_int, now_tup, asL_lst, natsD_length, rdD_length, vilD_inj, vil_ins, natsD_inj, rdD_inj, nnD_inj, dCallS, n_V_far]
    refine ⟨by rw [sizeLine_eq]; decide, .inl ⟨vilOf E d, [(x : Int)], rfl, by simp; omega, ?_⟩⟩
    have e0 : (List.range (vilOf E d).n).map ((vilOf E d).d x) = (List.range (E.length + 1)).map (d x) := by
      rw [hn]
      exact List.map_congr_left fun y hy => vilOf_d hx (List.mem_range.mp hy)
    refine ⟨mh "_far", vilOf E d, x, rfl, hE.ok, by omega, ?_⟩
    rw [e0]
    exact ⟨_, _, rfl, rfl, p⟩
  · have hn : (vilOf E d).n = E.length + 1 := vilOf_n E d
    simp [and_assoc, dRet, dRetN, dRetC, dChain, r2I, dC, dVar, dEnds, dstart, dOp, dCB, DL.rLen, dCons, dNil, dFld, asL_lst, asQ_lst, asQ_tup, asQ_scr, ins_obj, dNever, dgN, dgNil, dgCons, dgTup, dIf, dNot, dAnd, dOr, dB, dCall, dMeth, dNext, dSeq, dSt, dLst, dTup, dIfE, rIxQ, dDrop, dYes, diL, diR1, diR2, dNeg, dAsg, dwipe, dBM, dBM0, rAppendD, rMin2, rMax2, atI_0, atI_1, atI_2, atI_3, ix4_0, ix4_1, ix4_3, asL_g, asQ_g, now_g, gupd_same, gupd_gupd, Int.ofNat_inj, now_lst, now_int, now_tup, asL_lst, natsD_length, rdD_length, vilD_inj, vil_ins, natsD_inj, rdD_inj, nnD_inj, dCallS, n_V_far]
    exact ⟨by rw [sizeLine_eq]; decide, .inr ⟨vilOf E d, [], z, [], rfl, by simp, by rw [hn]; exact hz, p⟩⟩
/-- of a house and a goal the first one that is no house -/
def OddXT (n : Nat) (x t z : Int) : Prop := (z = x ∧ Odd n x) ∨ (z = t ∧ (∃ i : Nat, x = i ∧ i < n) ∧ Odd n t)
def c_keptY (C D cH : Addr) : DSp := fun ds G P R => ∃ (p : Addr) (E : List (Nat × Nat)) (d : Nat → Nat → Nat) (L : List (Nat × Nat)) (x t z : Int), ds = [.ref p, .int x, .int t] ∧ TV0 E d ∧ Rep D C E d L G p ∧ OddXT (E.length + 1) x t z ∧ R cH (.int z) G
theorem ok_keptY (T : TR K mg C D) (TF : TopFn K mg "kept_away" s_kept_away p_kept_away) (M_village : Dmt P w K mg base CX0 D "village" p_R_village (c_rvil C D) 1) (M_reports : Dmt P w K mg base CX0 D "reports" p_R_reports (c_rreps C D) 1) (MX_far : Dmt P w K mg base (L2N.CX P w) C "far" p_V_far (c_vfarO C cHouse) 4) :
    Dfn P w K mg base (L2N.CX P w) "kept_away" p_kept_away (c_keptY C D cHouse) 5 := by
  refine dfn_ofR TF sc_kept_away (fun ds G P R ⟨p, E, d, L, x, t, z, e, _⟩ => by rw [e]; rfl) fun f cdv A outer s H E B R hr tk cw pa => ?_
  refine ⟨_, (dss_cons (ds_set (i := 3) sc_kept_away.nd rfl (by first | exact Or.inl rfl | exact Or.inr rfl) (d_methD0 (dv (pv 0)) T.clR M_village hr))
      (dss_cons (ds_set (i := 4) sc_kept_away.nd rfl (by first | exact Or.inl rfl | exact Or.inr rfl) (d_methS (dv (pv 3)) T.cl MX_far hr tk cw (da_cons (dv (pv 1)) da_nil)))
      (dss_cons (ds_set (i := 5) sc_kept_away.nd rfl (by first | exact Or.inl rfl | exact Or.inr rfl) (d_methS (dv (pv 3)) T.cl MX_far hr tk cw (da_cons (dv (pv 2)) da_nil)))
      (dss_cons (ds_set (i := 6) sc_kept_away.nd rfl (by first | exact Or.inl rfl | exact Or.inr rfl) d_int)
      (dss_cons (ds_set (i := 7) sc_kept_away.nd rfl (by first | exact Or.inl rfl | exact Or.inr rfl) d_non)
      (dss_cons (ds_for pa rfl (di_list (d_frzMeth0 (dv (pv 0)) T.clR M_reports hr)) (dg_name (pg_name (i := 8) sc_kept_away.nd rfl (by first | exact Or.inl rfl | exact Or.inr rfl))) (dss_cons (ds_asg (dv (pv 8)) (dg_tup (n := 2) rfl (dgs_cons (dg_name (pg_name (i := 9) sc_kept_away.nd rfl (by first | exact Or.inl rfl | exact Or.inr rfl))) (dgs_cons (dg_name (pg_name (i := 10) sc_kept_away.nd rfl (by first | exact Or.inl rfl | exact Or.inr rfl))) dgs_nil))))
      (dss_one (ds_if (dt_cmp o_gt (d_op o_sub (d_ix (dv (pv 5)) (dv (pv 10)) (fun _ _ => rfl)) (d_ix (dv (pv 4)) (dv (pv 9)) (fun _ _ => rfl))) (dv (pv 6)) (nomark _)) (dss_cons (ds_set (i := 6) sc_kept_away.nd rfl (by first | exact Or.inl rfl | exact Or.inr rfl) (d_op o_sub (d_ix (dv (pv 5)) (dv (pv 10)) (fun _ _ => rfl)) (d_ix (dv (pv 4)) (dv (pv 9)) (fun _ _ => rfl))))
      (dss_one (ds_set (i := 7) sc_kept_away.nd rfl (by first | exact Or.inl rfl | exact Or.inr rfl) (dv (pv 8))))) dss_nil))))
      (dss_one (ds_ret (d_tup (da_cons (dv (pv 6)) (da_cons (dv (pv 7)) da_nil))))))))))), ?_⟩
  rintro ds G P ⟨q, E, d, L, x, t, z, rfl, hE, hr', hz, p⟩
  simp [and_assoc, dRet, dRetN, dRetC, dChain, r2I, dC, dVar, dEnds, dstart, dOp, dCB, DL.rLen, dCons, dNil, dFld, asL_lst, asQ_lst, asQ_tup, asQ_scr, ins_obj, dNever, dgN, dgNil, dgCons, dgTup, dIf, dNot, dAnd, dOr, dB, dCall, dMeth, dNext, dSeq, dSt, dLst, dTup, dIfE, rIxQ, dDrop, dYes, diL, diR1, diR2, dNeg, dAsg, dwipe, dBM, dBM0, rAppendD, rMin2, rMax2, atI_0, atI_1, atI_2, atI_3, ix4_0, ix4_1, ix4_3, asL_g, asQ_g, now_g, gupd_same, gupd_gupd, Int.ofNat_inj, now_lst, now_int, now_tup, asL_lst, natsD_length, rdD_length, vilD_inj, vil_ins, natsD_inj, rdD_inj, nnD_inj, dMethS, n_kept_away, rep_ins hr', rm "village"]
  refine ⟨q, E, d, L, rfl, hr', ?_⟩
  simp [and_assoc, dRet, dRetN, dRetC, dChain, r2I, dC, dVar, dEnds, dstart, dOp, dCB, DL.rLen, dCons, dNil, dFld, asL_lst, asQ_lst, asQ_tup, asQ_scr, ins_obj, dNever, dgN, dgNil, dgCons, dgTup, dIf, dNot, dAnd, dOr, dB, dCall, dMeth, dNext, dSeq, dSt, dLst, dTup, dIfE, rIxQ, dDrop, dYes, diL, diR1, diR2, dNeg, dAsg, dwipe, dBM, dBM0, rAppendD, rMin2, rMax2, atI_0, atI_1, atI_2, atI_3, ix4_0, ix4_1, ix4_3, asL_g, asQ_g, now_g, gupd_same, gupd_gupd, Int.ofNat_inj, now_lst, now_int, now_tup, asL_lst, natsD_length, rdD_length, vilD_inj, vil_ins, natsD_inj, rdD_inj, nnD_inj, dMethS, mh "far"]
  rcases hz with ⟨rfl, h⟩ | ⟨rfl, ⟨i, rfl, hi⟩, h⟩
  · exact .inr ⟨E, d, z, rfl, hE, h, p⟩
  · exact .inl ⟨E, d, i, rfl, hE, hi, .inr ⟨E, d, z, rfl, hE, h, p⟩⟩
theorem at_leastY (T : TR K mg C D) {f : Addr} {fd : FuncData} (F : Fun K "least_move" "least_move" s_least_move f fd) (DX_kept_away : Dfn P w K mg base (L2N.CX P w) "kept_away" p_kept_away (c_keptY C D cHouse) 5) :
    FnOk P w K mg base (L2N.CX P w) 6 f fd p_least_move (toSp K fun ds G P R => ∃ (p : Addr) (E : List (Nat × Nat)) (d : Nat → Nat → Nat) (L : List (Nat × Nat)) (z : Int), ds = [.ref p, .int z] ∧ TV0 E d ∧ Rep D C E d L G p ∧ Odd (E.length + 1) z ∧ R cHouse (.int z) G) := by
  refine d_okR F sc_least_move (fun ds G P R ⟨p, E, d, L, z, e, _⟩ => by rw [e]; rfl) fun cdv A outer s H E B R hr tk cw pa => ?_
  refine ⟨_, (dss_one (ds_ret (d_ix (d_callS DX_kept_away hr tk cw (by rfl) (da_cons (dv (pv 0)) (da_cons (dv (pv 1)) (da_cons (dv (pv 1)) da_nil)))) d_int (fun _ _ => rfl)))), ?_⟩
  rintro ds G P ⟨q, E, d, L, z, rfl, hE, hr', hz, p⟩
  simp [and_assoc, dRet, dRetN, dRetC, dChain, r2I, dC, dVar, dEnds, dstart, dOp, dCB, DL.rLen, dCons, dNil, dFld, asL_lst, asQ_lst, asQ_tup, asQ_scr, ins_obj, dNever, dgN, dgNil, dgCons, dgTup, dIf, dNot, dAnd, dOr, dB, dCall, dMeth, dNext, dSeq, dSt, dLst, dTup, dIfE, rIxQ, dDrop, dYes, diL, diR1, diR2, dNeg, dAsg, dwipe, dBM, dBM0, rAppendD, rMin2, rMax2, atI_0, atI_1, atI_2, atI_3, ix4_0, ix4_1, ix4_3, asL_g, asQ_g, now_g, gupd_same, gupd_gupd, Int.ofNat_inj, now_lst, now_int, now_tup, asL_lst, natsD_length, rdD_length, vilD_inj, vil_ins, natsD_inj, rdD_inj, nnD_inj, dCallS, n_least_move]
  exact ⟨q, E, d, L, z, z, z, rfl, hE, hr', .inl ⟨rfl, hz⟩, p⟩
def c_homenY (C D cH : Addr) : DSp := fun ds G P R => ∃ (p : Addr) (E : List (Nat × Nat)) (d : Nat → Nat → Nat) (L : List (Nat × Nat)) (i : Nat) (t : Int), ds = [.ref p, .int (i : Int), .int t] ∧ TV0 E d ∧ Rep D C E d L G p ∧ i < E.length + 1 ∧ Odd (E.length + 1) t ∧ R cH (.int t) G
theorem ok_homenY (T : TR K mg C D) (TF : TopFn K mg "home_nearest" s_home_nearest p_home_nearest) (DX_kept_away : Dfn P w K mg base (L2N.CX P w) "kept_away" p_kept_away (c_keptY C D cHouse) 5) (M_village : Dmt P w K mg base CX0 D "village" p_R_village (c_rvil C D) 1) (M_way : Dmt P w K mg base CX0 C "way" p_V_way (c_way C) 4) :
    Dfn P w K mg base (L2N.CX P w) "home_nearest" p_home_nearest (c_homenY C D cHouse) 6 := by
  refine dfn_ofR TF sc_home_nearest (fun ds G P R ⟨p, E, d, L, i, t, e, _⟩ => by rw [e]; rfl) fun f cdv A outer s H E B R hr tk cw pa => ?_
  refine ⟨_, (dss_cons (ds_asg (d_callS DX_kept_away hr tk cw (by rfl) (da_cons (dv (pv 0)) (da_cons (dv (pv 1)) (da_cons (dv (pv 2)) da_nil)))) (dg_tup (n := 2) rfl (dgs_cons (dg_name (pg_name (i := 3) sc_home_nearest.nd rfl (by first | exact Or.inl rfl | exact Or.inr rfl))) (dgs_cons (dg_name (pg_name (i := 4) sc_home_nearest.nd rfl (by first | exact Or.inl rfl | exact Or.inr rfl))) dgs_nil))))
      (dss_cons (ds_if (dt_cmp o_isD (dv (pv 4)) d_non (nomark _)) (dss_one (ds_ret (dv (pv 2)))) dss_nil)
      (dss_one (ds_ret (d_ix (d_methD (d_methD0 (dv (pv 0)) T.clR M_village hr) T.cl M_way hr (da_cons (dv (pv 2)) (da_cons (d_ix (dv (pv 4)) d_int (fun _ _ => rfl)) da_nil))) (dv (pv 3)) (fun _ _ => rfl)))))), ?_⟩
  rintro ds G P ⟨q, E, d, L, i, t, rfl, hE, hr', hi, hz, p⟩
  simp [and_assoc, dRet, dRetN, dRetC, dChain, r2I, dC, dVar, dEnds, dstart, dOp, dCB, DL.rLen, dCons, dNil, dFld, asL_lst, asQ_lst, asQ_tup, asQ_scr, ins_obj, dNever, dgN, dgNil, dgCons, dgTup, dIf, dNot, dAnd, dOr, dB, dCall, dMeth, dNext, dSeq, dSt, dLst, dTup, dIfE, rIxQ, dDrop, dYes, diL, diR1, diR2, dNeg, dAsg, dwipe, dBM, dBM0, rAppendD, rMin2, rMax2, atI_0, atI_1, atI_2, atI_3, ix4_0, ix4_1, ix4_3, asL_g, asQ_g, now_g, gupd_same, gupd_gupd, Int.ofNat_inj, now_lst, now_int, now_tup, asL_lst, natsD_length, rdD_length, vilD_inj, vil_ins, natsD_inj, rdD_inj, nnD_inj, dCallS, n_home_nearest]
  exact ⟨q, E, d, L, i, t, t, rfl, hE, hr', .inr ⟨rfl, ⟨i, rfl, hi⟩, hz⟩, p⟩
theorem at_nearY (T : TR K mg C D) {f : Addr} {fd : FuncData} (F : Fun K "nearest" "nearest" s_nearest f fd) (DX_home_nearest : Dfn P w K mg base (L2N.CX P w) "home_nearest" p_home_nearest (c_homenY C D cHouse) 6) (M_village : Dmt P w K mg base CX0 D "village" p_R_village (c_rvil C D) 1) (M_houses : Dmt P w K mg base CX0 C "houses" p_V_houses (c_houses C) 1) :
    FnOk P w K mg base (L2N.CX P w) 7 f fd p_nearest (toSp K fun ds G P R => ∃ (p : Addr) (E : List (Nat × Nat)) (d : Nat → Nat → Nat) (L : List (Nat × Nat)) (z : Int), ds = [.ref p, .int z] ∧ TV0 E d ∧ Rep D C E d L G p ∧ Odd (E.length + 1) z ∧ ∀ G', GLe G G' → R cHouse (.int z) G') := by
  refine d_okR F sc_nearest (fun ds G P R ⟨p, E, d, L, z, e, _⟩ => by rw [e]; rfl) fun cdv A outer s H E B R hr tk cw pa => ?_
  refine ⟨_, (dss_one (ds_ret (d_lcX (own := [("x", 2)]) rfl sc_nearest.nd rfl rfl tk (di_range1 (by rfl) T.range (da_cons (d_methD0 (d_methD0 (dv (pv 0)) T.clR M_village hr) T.cl M_houses hr) da_nil)) (blkOk_by (N := n_nearest) (sc := defScope s_nearest) (by decide +kernel)) (fun _ _ _ _ _ _ => (dgw_name (pg_name (i := 2) sc_nearest.nd rfl (by first | exact Or.inl rfl | exact Or.inr rfl)))) (fun _ _ _ _ _ _ => dts_nil) (fun _ _ _ _ _ _ tk => (d_callS DX_home_nearest hr tk cw (by rfl) (da_cons (dv (pv 0)) (da_cons (dv (pv 2)) (da_cons (dv (pv 1)) da_nil)))))))), ?_⟩
  rintro ds G P ⟨q, E, d, L, z, rfl, hE, hr', hz, p⟩
  have hn : (vilOf E d).n = E.length + 1 := vilOf_n E d
  have hEl := hE.l
  simp [and_assoc, dRet, dRetN, dRetC, dChain, r2I, dC, dVar, dEnds, dstart, dOp, dCB, DL.rLen, dCons, dNil, dFld, asL_lst, asQ_lst, asQ_tup, asQ_scr, ins_obj, dNever, dgN, dgNil, dgCons, dgTup, dIf, dNot, dAnd, dOr, dB, dCall, dMeth, dNext, dSeq, dSt, dLst, dTup, dIfE, rIxQ, dDrop, dYes, diL, diR1, diR2, dNeg, dAsg, dwipe, dBM, dBM0, rAppendD, rMin2, rMax2, atI_0, atI_1, atI_2, atI_3, ix4_0, ix4_1, ix4_3, asL_g, asQ_g, now_g, gupd_same, gupd_gupd, Int.ofNat_inj, now_lst, now_int, now_tup, asL_lst, natsD_length, rdD_length, vilD_inj, vil_ins, natsD_inj, rdD_inj, nnD_inj, dCallS, n_nearest]
  refine dLc_intro (natsD (List.range (E.length + 1))) G (fun D i acc G' => i = 0 ∧ G' = gupd G D (.lst [])) (fun P p => ?_) (fun D hD => ⟨rfl, rfl⟩) (fun D i dd acc G' hD hd ⟨h1, h2⟩ => ?_) (fun D acc G' hD ⟨h1, h2⟩ => ?_)
  · simp [and_assoc, dRet, dRetN, dRetC, dChain, r2I, dC, dVar, dEnds, dstart, dOp, dCB, DL.rLen, dCons, dNil, dFld, asL_lst, asQ_lst, asQ_tup, asQ_scr, ins_obj, dNever, dgN, dgNil, dgCons, dgTup, dIf, dNot, dAnd, dOr, dB, dCall, dMeth, dNext, dSeq, dSt, dLst, dTup, dIfE, rIxQ, dDrop, dYes, diL, diR1, diR2, dNeg, dAsg, dwipe, dBM, dBM0, rAppendD, rMin2, rMax2, atI_0, atI_1, atI_2, atI_3, ix4_0, ix4_1, ix4_3, asL_g, asQ_g, now_g, gupd_same, gupd_gupd, Int.ofNat_inj, now_lst, now_int, now_tup, asL_lst, natsD_length, rdD_length, vilD_inj, vil_ins, natsD_inj, rdD_inj, nnD_inj, rep_ins hr', rm "village"]
    refine ⟨q, E, d, L, rfl, hr', ?_⟩
    simp [and_assoc, dRet, dRetN, dRetC, dChain, r2I, dC, dVar, dEnds, dstart, dOp, dCB, DL.rLen, dCons, dNil, dFld, asL_lst, asQ_lst, asQ_tup, asQ_scr, ins_obj, dNever, dgN, dgNil, dgCons, dgTup, dIf, dNot, dAnd, dOr, dB, dCall, dMeth, dNext, dSeq, dSt, dLst, dTup, dIfE, rIxQ, dDrop, dYes, diL, diR1, diR2, dNeg, dAsg, dwipe, dBM, dBM0, rAppendD, rMin2, rMax2, atI_0, atI_1, atI_2, atI_3, ix4_0, ix4_1, ix4_3, asL_g, asQ_g, now_g, gupd_same, gupd_gupd, Int.ofNat_inj, now_lst, now_int, now_tup, asL_lst, natsD_length, rdD_length, vilD_inj, vil_ins, natsD_inj, rdD_inj, nnD_inj, c_houses, mh "houses", hn]
    rw [upto0]
    first | exact p | exact ⟨by omega, p⟩ | exact ⟨by omega, by omega, p⟩
  · subst h1; subst h2
    obtain ⟨x, hx, rfl⟩ := natsD_get hd
    have hx1 := List.mem_range.mp (List.mem_of_getElem? hx)
    simp [and_assoc, dRet, dRetN, dRetC, dChain, r2I, dC, dVar, dEnds, dstart, dOp, dCB, DL.rLen, dCons, dNil, dFld, asL_lst, asQ_lst, asQ_tup, asQ_scr, ins_obj, dNever, dgN, dgNil, dgCons, dgTup, dIf, dNot, dAnd, dOr, dB, dCall, dMeth, dNext, dSeq, dSt, dLst, dTup, dIfE, rIxQ, dDrop, dYes, diL, diR1, diR2, dNeg, dAsg, dwipe, dBM, dBM0, rAppendD, rMin2, rMax2, atI_0, atI_1, atI_2, atI_3, ix4_0, ix4_1, ix4_3, asL_g, asQ_g, now_g, gupd_same, gupd_gupd, Int.ofNat_inj, now_lst, now_int, now_tup, asL_lst, natsD_length, rdD_length, vilD_inj, vil_ins, natsD_inj, rdD_inj, nnD_inj, dCallS]
    exact ⟨q, E, d, L, x, z, rfl, hE, by show gupd G D (.lst []) q = _; rw [gupd_ne (gne hr' hD)]; exact hr', hx1, hz, p _ (GLe.gupd hD)⟩
  · rw [natsD_length, List.length_range] at h1
    omega
end
end V

set_option Elab.async false
set_option linter.all false
set_option maxRecDepth 100000
set_option maxHeartbeats 4000000
/-! What of moves is refused, by the law's own asking. -/
namespace V
open PySem PySem.Spec L2 DL
section
variable {P : Program} {w : World} {K : PySem.W.Frag} {mg : Str → Option Value} {base : Heap} {C D CE cRoad cHouse cClash cReport cTale cDays cText : Addr}
abbrev s_law_kind : Stmt := top 36
abbrev n_law_kind : List Str := ["e", "some", "others"]
abbrev p_law_kind : List Str := ["e"]
theorem sc_law_kind : FnScope n_law_kind p_law_kind (defScope s_law_kind) := ⟨rfl, rfl, rfl, by decide +kernel, rfl, by decide +kernel, by decide +kernel⟩
def c_mkind (cH : Addr) : DSp := fun ds G P _ => ∃ z : Int, ds = [.exc cH (.int z)] ∧ P (.tup [.str "house", .int z]) G
theorem ok_mkind (T : Bt mg) (XT : XTab K mg CE cRoad cHouse cClash cReport cTale cDays cText) (XH : XCau K CE [cClash, cDays, cReport, cRoad, cTale, cText] cHouse) (TF : TopFn K mg "_law_kind" s_law_kind p_law_kind) : Dfn P w K mg base CX0 "_law_kind" p_law_kind (c_mkind cHouse) 1 := by
  refine dfn_of TF sc_law_kind (fun ds G P R ⟨z, e, _⟩ => by rw [e]; rfl) fun f cdv A outer s H E B hr => ?_
  refine ⟨_, (dss_cons (ds_set (i := 1) sc_law_kind.nd rfl (by first | exact Or.inl rfl | exact Or.inr rfl) (d_lst (da_cons (d_callB (c_isiX (K := K) rfl) (by rfl) T.isinstance (by decide +kernel) (da_cons (dv (pv 0)) (da_cons (d_cls (by rfl) XT.mgNoHouse) da_nil))) (da_cons (d_callB (c_isiX (K := K) rfl) (by rfl) T.isinstance (by decide +kernel) (da_cons (dv (pv 0)) (da_cons (d_cls (by rfl) XT.mgNoTale) da_nil))) (da_cons (d_callB (c_isiX (K := K) rfl) (by rfl) T.isinstance (by decide +kernel) (da_cons (dv (pv 0)) (da_cons (d_cls (by rfl) XT.mgNoDays) da_nil))) da_nil)))))
      (dss_cons (ds_set (i := 2) sc_law_kind.nd rfl (by first | exact Or.inl rfl | exact Or.inr rfl) (d_or (d_callB (c_isiTX (K := K) rfl) (by rfl) T.isinstance (by decide +kernel) (da_cons (dv (pv 0)) (da_cons (d_tup (da_cons (d_cls (by rfl) XT.mgNoRoad) (da_cons (d_cls (by rfl) XT.mgClash) (da_cons (d_cls (by rfl) XT.mgNoReport) (da_cons (d_cls (by rfl) XT.mgNoText) da_nil))))) da_nil))) (d_one (d_not (d_callB (c_isiX (K := K) rfl) (by rfl) T.isinstance (by decide +kernel) (da_cons (dv (pv 0)) (da_cons (d_ty (n := "ValueError") (by rfl) XT.mgValueError (by decide +kernel)) da_nil)))))))
      (dss_one (ds_ret (d_ifExp (DW.dt (dw_or (dt_val (dv (pv 2))) (dw_or1 (dt_cmp o_neI (d_countB hr (dv (pv 1)) d_bl) d_int (nomark _))))) (d_tup (da_cons d_str (da_cons d_non da_nil))) (d_tup (da_cons (d_ix (d_lst (da_cons d_str (da_cons d_str (da_cons d_str da_nil)))) (d_indexB (dv (pv 1)) d_bl) (fun _ _ => rfl)) (da_cons (d_what (K := K) rfl (dv (pv 0))) da_nil)))))))), ?_⟩
  rintro ds G P R ⟨z, rfl, p⟩
  have s2 : 2 ≤ sizeLine := by rw [sizeLine_eq]; decide
  have s3 : 3 ≤ sizeLine := by rw [sizeLine_eq]; decide
  have s4 : 4 ≤ sizeLine := by rw [sizeLine_eq]; decide
  simp [and_assoc, dRet, dRetN, dRetC, dChain, r2I, dC, dVar, dEnds, dstart, dOp, dCB, DL.rLen, dCons, dNil, dFld, asL_lst, asQ_lst, asQ_tup, asQ_scr, ins_obj, dNever, dgN, dgNil, dgCons, dgTup, dIf, dNot, dAnd, dOr, dB, dCall, dMeth, dNext, dSeq, dSt, dLst, dTup, dIfE, rIxQ, dDrop, dYes, diL, diR1, diR2, dNeg, dAsg, dwipe, dBM, dBM0, rAppendD, rMin2, rMax2, atI_0, atI_1, atI_2, atI_3, ix4_0, ix4_1, ix4_3, asL_g, asQ_g, now_g, gupd_same, gupd_gupd, Int.ofNat_inj, now_lst, now_int, now_tup, asL_lst, natsD_length, rdD_length, vilD_inj, vil_ins, natsD_inj, rdD_inj, nnD_inj, n_law_kind, s2, s3, s4]
  have tH : ∀ {D' : Addr}, D' ∈ [cClash, cDays, cReport, cRoad, cTale, cText] → PySem.W.kitOne K (.ref cHouse) (.ref D') = some false := fun h => XH.kit _ h
  have aH : PySem.W.kitAny K (.ref cHouse) [.ref cRoad, .ref cClash, .ref cReport, .ref cText] = some false := kitAny_no (l := [cRoad, cClash, cReport, cText]) fun D' h => tH (by simp at h ⊢; rcases h with rfl | rfl | rfl | rfl <;> simp)
  have tg : tagX K G (.exc cHouse (.int z)) (.ref cHouse) := .inl ⟨_, _, rfl, rfl, XH.ek⟩
  refine ⟨_, _, _, _, true, rfl, tg, rfl, kit_self, _, _, _, _, false, rfl, tg, rfl, tH (by simp), _, _, _, _, false, rfl, tg, rfl, tH (by simp), ?_⟩
  simp [and_assoc, dRet, dRetN, dRetC, dChain, r2I, dC, dVar, dEnds, dstart, dOp, dCB, DL.rLen, dCons, dNil, dFld, asL_lst, asQ_lst, asQ_tup, asQ_scr, ins_obj, dNever, dgN, dgNil, dgCons, dgTup, dIf, dNot, dAnd, dOr, dB, dCall, dMeth, dNext, dSeq, dSt, dLst, dTup, dIfE, rIxQ, dDrop, dYes, diL, diR1, diR2, dNeg, dAsg, dwipe, dBM, dBM0, rAppendD, rMin2, rMax2, atI_0, atI_1, atI_2, atI_3, ix4_0, ix4_1, ix4_3, asL_g, asQ_g, now_g, gupd_same, gupd_gupd, Int.ofNat_inj, now_lst, now_int, now_tup, asL_lst, natsD_length, rdD_length, vilD_inj, vil_ins, natsD_inj, rdD_inj, nnD_inj, dOrV, dNotV, dWhat]
  exact ⟨s4, _, _, _, [.ref cRoad, .ref cClash, .ref cReport, .ref cText], false, rfl, tg, rfl, aH, .inl ⟨rfl, _, _, _, _, true, rfl, tg, rfl, XH.ve, .inr ⟨rfl, [true, false, false], true, rfl, rfl, _, rfl, .inl ⟨by rfl, [true, false, false], true, 0, rfl, rfl, rfl, (fun m z h => by omega), _, _, rfl, rfl, _, rfl, XH.ek, p⟩⟩⟩⟩
abbrev s_law_asked : Stmt := top 37
abbrev n_law_asked : List Str := ["door", "folk", "house", "caught", "e"]
abbrev p_law_asked : List Str := ["door", "folk", "house"]
theorem sc_law_asked : FnScope n_law_asked p_law_asked (defScope s_law_asked) := ⟨rfl, rfl, rfl, by decide +kernel, rfl, by decide +kernel, by decide +kernel⟩
def c_leastY (C D cH : Addr) : DSp := cOr (c_least C D) fun ds G P R => ∃ (p : Addr) (E : List (Nat × Nat)) (d : Nat → Nat → Nat) (L : List (Nat × Nat)) (z : Int), ds = [.ref p, .int z] ∧ TV0 E d ∧ Rep D C E d L G p ∧ Odd (E.length + 1) z ∧ R cH (.int z) G
def c_nearY (C D cH : Addr) : DSp := cOr (c_near C D) fun ds G P R => ∃ (p : Addr) (E : List (Nat × Nat)) (d : Nat → Nat → Nat) (L : List (Nat × Nat)) (z : Int), ds = [.ref p, .int z] ∧ TV0 E d ∧ Rep D C E d L G p ∧ Odd (E.length + 1) z ∧ ∀ G', GLe G G' → R cH (.int z) G'
def c_masked (C D : Addr) : DSp := fun ds G P _ => ∃ (door : Nat) (p : Addr) (E : List (Nat × Nat)) (d : Nat → Nat → Nat) (L : List (Nat × Nat)) (z : Int), ds = [.int (door : Int), .ref p, .int z] ∧ door < 4 ∧ TV0 E d ∧ Rep D C E d L G p ∧ L.length ≤ 400 ∧ InV E L ∧ Pair d L ∧
  ((∃ i : Nat, z = i ∧ i < E.length + 1 ∧ ∀ G', GLe G G' → P (.tup [.str "none", .non]) G') ∨ (Odd (E.length + 1) z ∧ ∀ G', GLe G G' → P (.tup [.str "house", .int z]) G'))
theorem ok_masked (T : TR K mg C D) (XT : XTab K mg CE cRoad cHouse cClash cReport cTale cDays cText) (XH : XCau K CE [cClash, cDays, cReport, cRoad, cTale, cText] cHouse) (TF : TopFn K mg "_law_asked" s_law_asked p_law_asked) (D__law_kind : Dfn P w K mg base CX0 "_law_kind" p_law_kind (c_mkind cHouse) 1)
    (DX_least_move : Dfn P w K mg base (L2N.CX P w) "least_move" p_least_move (c_leastY C D cHouse) 7) (KX_least_move : DfnK P w K mg base (L2N.CX P w) "least_move" p_least_move ["x", "reports"] swap2 (c_leastY C D cHouse) 7)
    (DX_nearest : Dfn P w K mg base (L2N.CX P w) "nearest" p_nearest (c_nearY C D cHouse) 7) (KX_nearest : DfnK P w K mg base (L2N.CX P w) "nearest" p_nearest ["t", "reports"] swap2 (c_nearY C D cHouse) 7) : Dfn P w K mg base CX0 "_law_asked" p_law_asked (c_masked C D) 8 := by
  refine dfn_of TF sc_law_asked (fun ds G P R ⟨door, p, E, d, L, z, e, _⟩ => by rw [e]; rfl) fun f cdv A outer s H E B hr => ?_
  refine ⟨_, (dss_cons (ds_set (i := 3) sc_law_asked.nd rfl (by first | exact Or.inl rfl | exact Or.inr rfl) d_non)
      (dss_cons (ds_try (K := K) (i := 4) rfl ⟨by rfl, by decide +kernel, .inl XT.mgVillageError⟩ rfl sc_law_asked.nd rfl (fun W RW B2 pn xe tk cw => (dss_one (ds_if (dt_cmp o_eqI (dv (pv 0)) d_int (nomark _)) (dss_one (ds_expr (d_callS DX_least_move hr tk cw (by rfl) (da_cons (dv (pv 1)) (da_cons (dv (pv 2)) da_nil))))) (dss_one (ds_if (dt_cmp o_eqI (dv (pv 0)) d_int (nomark _)) (dss_one (ds_expr (d_callS DX_nearest hr tk cw (by rfl) (da_cons (dv (pv 1)) (da_cons (dv (pv 2)) da_nil))))) (dss_one (ds_if (dt_cmp o_eqI (dv (pv 0)) d_int (nomark _)) (dss_one (ds_expr (d_callKwS KX_least_move swap2_ok hr tk cw (by rfl) (dpk_cons (dv (pv 2)) (dpk_cons (dv (pv 1)) dpk_nil))))) (dss_one (ds_expr (d_callKwS KX_nearest swap2_ok hr tk cw (by rfl) (dpk_cons (dv (pv 2)) (dpk_cons (dv (pv 1)) dpk_nil)))))))))))) (fun ax pnx B2 hB => (dss_one (ds_set (i := 3) sc_law_asked.nd rfl (by first | exact Or.inl rfl | exact Or.inr rfl) (dv (pv 4))))))
      (dss_one (ds_ret (d_ifExp (dt_cmp o_isD (dv (pv 3)) d_non (nomark _)) (d_tup (da_cons d_str (da_cons d_non da_nil))) (d_callD D__law_kind hr (by rfl) (da_cons (dv (pv 3)) da_nil))))))), ?_⟩
  rintro ds G P R ⟨door, p0, E, d, L, z, rfl, hd4, hE, hrep, hL, hin, hpf, h⟩
  have s2 : 2 ≤ sizeLine := by rw [sizeLine_eq]; decide
  simp [and_assoc, dRet, dRetN, dRetC, dChain, r2I, dC, dVar, dEnds, dstart, dOp, dCB, DL.rLen, dCons, dNil, dFld, asL_lst, asQ_lst, asQ_tup, asQ_scr, ins_obj, dNever, dgN, dgNil, dgCons, dgTup, dIf, dNot, dAnd, dOr, dB, dCall, dMeth, dNext, dSeq, dSt, dLst, dTup, dIfE, rIxQ, dDrop, dYes, diL, diR1, diR2, dNeg, dAsg, dwipe, dBM, dBM0, rAppendD, rMin2, rMax2, atI_0, atI_1, atI_2, atI_3, ix4_0, ix4_1, ix4_3, asL_g, asQ_g, now_g, gupd_same, gupd_gupd, Int.ofNat_inj, now_lst, now_int, now_tup, asL_lst, natsD_length, rdD_length, vilD_inj, vil_ins, natsD_inj, rdD_inj, nnD_inj, n_law_asked, dTry, dCallS, dCallKS, s2]
  have kind : ∀ {G' : Gp}, GLe G G' → (Odd (E.length + 1) z ∧ ∀ G', GLe G G' → P (.tup [.str "house", .int z]) G') → PySem.W.exmOne K (.ref cHouse) (.ref CE) = some true ∧ rIsND (Dt.exc cHouse (.int z)) Dt.non G' fun x G1 => x = Dt.bl false ∧ c_mkind cHouse [Dt.exc cHouse (.int z)] G1 P noX ∨ x = Dt.bl true ∧ P (Dt.tup [Dt.str "none", Dt.non]) G1 := fun {G'} g h =>
    ⟨XH.ex, rfl, .inl ⟨rfl, z, rfl, h.2 G' g⟩⟩
  have none_ : ∀ {G' : Gp}, GLe G G' → (∀ G', GLe G G' → P (.tup [.str "none", .non]) G') → rIsND Dt.non Dt.non G' fun x G1 => x = Dt.bl false ∧ c_mkind cHouse [Dt.non] G1 P noX ∨ x = Dt.bl true ∧ P (Dt.tup [Dt.str "none", Dt.non]) G1 := fun {G'} g h => ⟨rfl, .inr ⟨rfl, h G' g⟩⟩
  have gl : GLe G G := fun _ _ h => h
  have least : c_leastY C D cHouse [.ref p0, .int z] G (fun x G' => rIsND Dt.non Dt.non G' fun x G1 => x = Dt.bl false ∧ c_mkind cHouse [Dt.non] G1 P noX ∨ x = Dt.bl true ∧ P (Dt.tup [Dt.str "none", Dt.non]) G1) fun C w G' =>
      PySem.W.exmOne K (.ref C) (.ref CE) = some true ∧ rIsND (Dt.exc C w) Dt.non G' fun x G1 => x = Dt.bl false ∧ c_mkind cHouse [Dt.exc C w] G1 P noX ∨ x = Dt.bl true ∧ P (Dt.tup [Dt.str "none", Dt.non]) G1 := by
    rcases h with ⟨i, rfl, hi, q⟩ | h
    · exact .inl ⟨p0, E, d, L, i, rfl, hE, hrep, hL, hin, hi, none_ gl q⟩
    · exact .inr ⟨p0, E, d, L, z, rfl, hE, hrep, h.1, kind gl h⟩
  have near : c_nearY C D cHouse [.ref p0, .int z] G (fun x G' => rIsND Dt.non Dt.non G' fun x G1 => x = Dt.bl false ∧ c_mkind cHouse [Dt.non] G1 P noX ∨ x = Dt.bl true ∧ P (Dt.tup [Dt.str "none", Dt.non]) G1) fun C w G' =>
      PySem.W.exmOne K (.ref C) (.ref CE) = some true ∧ rIsND (Dt.exc C w) Dt.non G' fun x G1 => x = Dt.bl false ∧ c_mkind cHouse [Dt.exc C w] G1 P noX ∨ x = Dt.bl true ∧ P (Dt.tup [Dt.str "none", Dt.non]) G1 := by
    rcases h with ⟨i, rfl, hi, q⟩ | h
    · exact .inl ⟨p0, E, d, L, i, rfl, hE, hrep, hL, hin, hpf, hi, fun l q' hl hq' => none_ (GLe.gupd hq') q⟩
    · exact .inr ⟨p0, E, d, L, z, rfl, hE, hrep, h.1, fun G' g => kind g h⟩
  match door, hd4 with
  | 0, _ => rw [if_pos rfl]; exact least
  | 1, _ => rw [if_neg (by decide), if_pos (by decide)]; exact near
  | 2, _ => rw [if_neg (by decide), if_neg (by decide), if_pos (by decide)]; exact least
  | 3, _ => rw [if_neg (by decide), if_neg (by decide), if_neg (by decide)]; exact near
end
end V

set_option Elab.async false
set_option linter.all false
set_option maxRecDepth 100000
set_option maxHeartbeats 4000000
/-! Moves refused: the law. -/
namespace V
open PySem PySem.Spec L2 DL
theorem so_none : PyData.strOk (Str.ofString "none") = true := by decide +kernel
theorem so_house : PyData.strOk (Str.ofString "house") = true := by decide +kernel
theorem same_house {z : Int} {G : Gp} {P : DK} (p : P (.bl false) G) : rEqT true (.tup [.str "house", .int z]) (.tup [.str "house", .int z]) G P := by
  have h : plT 9 (now G (.tup [.str "house", .int z])) = true := by simp [now, asL, plT, so_house]
  refine ⟨h, h, ?_⟩
  simpa [now, asL, PyData.eqv, PyData.eqvAll, toPyT] using p
theorem same_none {G : Gp} {P : DK} (p : P (.bl false) G) : rEqT true (.tup [.str "none", .non]) (.tup [.str "none", .non]) G P := by
  have h : plT 9 (now G (.tup [.str "none", .non])) = true := by simp [now, asL, plT, so_none]
  refine ⟨h, h, ?_⟩
  simpa [now, asL, PyData.eqv, PyData.eqvAll, toPyT] using p
theorem heard_pair21 {E : List (Nat × Nat)} {d : Nat → Nat → Nat} {st hs : List Nat} (h : Heard E hs) (t : Tale E d st) (hE : Tree E) (hd : Dists E d) : Pair d (ofTale st hs) := fun a ha b hb => by
  obtain ⟨x, hx, rfl⟩ := List.mem_map.mp ha
  exact h.fits t hE hd (h.lt x hx) b hb
section
variable {P : Program} {w : World} {K : PySem.W.Frag} {mg : Str → Option Value} {base : Heap} {C D : Addr}
abbrev s_law_right : Stmt := top 38
abbrev n_law_right : List Str := ["pot", "folk", "heard", "many", "turn", "house", "door"]
abbrev p_law_right : List Str := ["pot", "folk", "heard", "many"]
theorem sc_law_right : FnScope n_law_right p_law_right (defScope s_law_right) := ⟨rfl, rfl, rfl, by decide +kernel, rfl, by decide +kernel, by decide +kernel⟩
def c_mright (C D : Addr) : DSp := fun ds G P _ => ∃ (q p : Addr) (E : List (Nat × Nat)) (d : Nat → Nat → Nat) (st hs : List Nat) (n : Nat), ds = [.ref q, .ref p, .lst (rdD (ofTale st hs)), .int ((E.length + 1 : Nat) : Int)] ∧ TV0 E d ∧ Tale E d st ∧ Heard E hs ∧ Rep D C E d (sortP (ofTale st hs)) G p ∧ ¬ Pown q p ∧ Pot q G (n + 100) ∧ ∀ G', Pot q G' n → P (.bl true) G'
theorem ok_mright (T : TR K mg C D) (TF : TopFn K mg "_law_right" s_law_right p_law_right) (D__law_draw : Dfn P w K mg base CX0 "_law_draw" p_law_draw c_pdraw 1) (D__law_asked : Dfn P w K mg base CX0 "_law_asked" p_law_asked (c_masked C D) 8) (M_reports : Dmt P w K mg base CX0 D "reports" p_R_reports (c_rreps C D) 1) : Dfn P w K mg base CX0 "_law_right" p_law_right (c_mright C D) 9 := by
  refine dfn_of TF sc_law_right (fun ds G P R ⟨q, p, E, d, st, hs, n, e, _⟩ => by rw [e]; rfl) fun f cdv A outer s H E B hr => ?_
  refine ⟨_, (dss_cons (ds_for PassesOwn.never rfl (di_range1 (by rfl) T.range (da_cons d_int da_nil)) (dg_name (pg_name (i := 4) sc_law_right.nd rfl (by first | exact Or.inl rfl | exact Or.inr rfl))) (dss_cons (ds_set (i := 5) sc_law_right.nd rfl (by first | exact Or.inl rfl | exact Or.inr rfl) (d_ix (d_lst (da_cons (d_neg d_int) (da_cons (dv (pv 3)) (da_cons (d_op o_add (dv (pv 3)) (d_callD D__law_draw hr (by rfl) (da_cons (dv (pv 0)) (da_cons d_int da_nil)))) (da_cons (d_op o_add (d_op o_pow d_int d_int) (d_callD D__law_draw hr (by rfl) (da_cons (dv (pv 0)) (da_cons d_int da_nil)))) (da_cons (d_neg (dv (pv 3))) da_nil)))))) (d_callD D__law_draw hr (by rfl) (da_cons (dv (pv 0)) (da_cons d_int da_nil))) (fun _ _ => rfl)))
      (dss_one (ds_for PassesOwn.never rfl (di_range1 (by rfl) T.range (da_cons d_int da_nil)) (dg_name (pg_name (i := 6) sc_law_right.nd rfl (by first | exact Or.inl rfl | exact Or.inr rfl))) (dss_cons (ds_if (DW.dt (dw_or (dt_cmp (o_neT hr) (d_callD D__law_asked hr (by rfl) (da_cons (dv (pv 6)) (da_cons (dv (pv 1)) (da_cons (dv (pv 5)) da_nil)))) (d_tup (da_cons d_str (da_cons (dv (pv 5)) da_nil))) (nomark _)) (dw_or1 (dt_cmp (o_ne hr) (d_methD0 (dv (pv 1)) T.clR M_reports hr) (d_callB c_sortP (by rfl) T.sorted (by decide +kernel) (da_cons (dv (pv 2)) da_nil)) (nomark _))))) (dss_one (ds_ret d_bl)) dss_nil)
      (dss_one (ds_if (dt_cmp (o_neT hr) (d_callD D__law_asked hr (by rfl) (da_cons (dv (pv 6)) (da_cons (dv (pv 1)) (da_cons (d_callD D__law_draw hr (by rfl) (da_cons (dv (pv 0)) (da_cons (dv (pv 3)) da_nil))) da_nil)))) (d_tup (da_cons d_str (da_cons d_non da_nil))) (nomark _)) (dss_one (ds_ret d_bl)) dss_nil)))))))
      (dss_one (ds_ret d_bl))), ?_⟩
  rintro ds G P R ⟨q, p0, E, d, st, hs, n, rfl, hE, hst, hh, hrep, hpq, hT, p⟩
  have hEl := hE.l
  have hll := hh.len
  have hol := ofTale_length (st := st) (hs := hs)
  have hinv := hh.inv hst
  have hsp := sortP_perm (ofTale st hs)
  have hinv2 : InV E (sortP (ofTale st hs)) := fun r hr => hinv r (hsp.mem_iff.mp hr)
  have hL : (sortP (ofTale st hs)).length ≤ 400 := by rw [hsp.length_eq]; omega
  have s2 : 2 ≤ sizeLine := by rw [sizeLine_eq]; decide
  have s5 : 5 ≤ sizeLine := by rw [sizeLine_eq]; decide
  simp [and_assoc, dRet, dRetN, dRetC, dChain, r2I, dC, dVar, dEnds, dstart, dOp, dCB, DL.rLen, dCons, dNil, dFld, asL_lst, asQ_lst, asQ_tup, asQ_scr, ins_obj, dNever, dgN, dgNil, dgCons, dgTup, dIf, dNot, dAnd, dOr, dB, dCall, dMeth, dNext, dSeq, dSt, dLst, dTup, dIfE, rIxQ, dDrop, dYes, diL, diR1, diR2, dNeg, dAsg, dwipe, dBM, dBM0, rAppendD, rMin2, rMax2, atI_0, atI_1, atI_2, atI_3, ix4_0, ix4_1, ix4_3, asL_g, asQ_g, now_g, gupd_same, gupd_gupd, Int.ofNat_inj, now_lst, now_int, now_tup, asL_lst, natsD_length, rdD_length, vilD_inj, vil_ins, natsD_inj, rdD_inj, nnD_inj, -Int.natCast_add, n_law_right]
  obtain ⟨W, hW⟩ : ∃ W : Nat → DSt → Gp → Prop, ∀ j δ G', W j δ G' ↔ ∃ o4 o5 o6 : Option Dt, δ = [some (.ref q), some (.ref p0), some (.lst (rdD (ofTale st hs))), some (.int ((E.length + 1 : Nat) : Int)), o4, o5, o6] ∧ Rep D C E d (sortP (ofTale st hs)) G' p0 ∧ Pot q G' (n + 100 - 10 * j) := ⟨_, fun _ _ _ => Iff.rfl⟩
  refine dFor_intro (upto 0 4) G W (fun P p => ?_) ((hW _ _ _).mpr ⟨_, _, _, rfl, hrep, hT⟩) (fun j dj δ G1 hdj hw => ?_) (fun δ G1 hw => ?_)
  · simp [and_assoc, dRet, dRetN, dRetC, dChain, r2I, dC, dVar, dEnds, dstart, dOp, dCB, DL.rLen, dCons, dNil, dFld, asL_lst, asQ_lst, asQ_tup, asQ_scr, ins_obj, dNever, dgN, dgNil, dgCons, dgTup, dIf, dNot, dAnd, dOr, dB, dCall, dMeth, dNext, dSeq, dSt, dLst, dTup, dIfE, rIxQ, dDrop, dYes, diL, diR1, diR2, dNeg, dAsg, dwipe, dBM, dBM0, rAppendD, rMin2, rMax2, atI_0, atI_1, atI_2, atI_3, ix4_0, ix4_1, ix4_3, asL_g, asQ_g, now_g, gupd_same, gupd_gupd, Int.ofNat_inj, now_lst, now_int, now_tup, asL_lst, natsD_length, rdD_length, vilD_inj, vil_ins, natsD_inj, rdD_inj, nnD_inj, -Int.natCast_add]
    exact p
  · obtain ⟨o4, o5, o6, rfl, hrep1, hT1⟩ := (hW _ _ _).mp hw
    obtain ⟨hj, rfl⟩ := upto_get hdj
    simp [and_assoc, dRet, dRetN, dRetC, dChain, r2I, dC, dVar, dEnds, dstart, dOp, dCB, DL.rLen, dCons, dNil, dFld, asL_lst, asQ_lst, asQ_tup, asQ_scr, ins_obj, dNever, dgN, dgNil, dgCons, dgTup, dIf, dNot, dAnd, dOr, dB, dCall, dMeth, dNext, dSeq, dSt, dLst, dTup, dIfE, rIxQ, dDrop, dYes, diL, diR1, diR2, dNeg, dAsg, dwipe, dBM, dBM0, rAppendD, rMin2, rMax2, atI_0, atI_1, atI_2, atI_3, ix4_0, ix4_1, ix4_3, asL_g, asQ_g, now_g, gupd_same, gupd_gupd, Int.ofNat_inj, now_lst, now_int, now_tup, asL_lst, natsD_length, rdD_length, vilD_inj, vil_ins, natsD_inj, rdD_inj, nnD_inj, -Int.natCast_add]
    have hpf : Pair d (sortP (ofTale st hs)) := fun a ha b hb => heard_pair21 hh hst hE.t hE.d a (hsp.mem_iff.mp ha) b (hsp.mem_iff.mp hb)
    refine ⟨q, 50, n + 100 - 10 * j - 1, rfl, by decide, by decide, hT1.mono (by omega), fun r1 G2 hr1 hT2 hx2 => ⟨_, rfl, ⟨by decide, by decide, by decide⟩, q, 9, n + 100 - 10 * j - 2, rfl, by decide, by decide, hT2.mono (by omega), fun r2 G3 hr2 hT3 hx3 => ⟨_, rfl, s5, q, 5, n + 100 - 10 * j - 3, rfl, by decide, by decide, hT3.mono (by omega), fun r3 G4 hr3 hT4 hx4 => ⟨_, _, rfl, rfl, ?_⟩⟩⟩⟩
    have hrep4 : Rep D C E d (sortP (ofTale st hs)) G4 p0 := hx4 p0 _ hpq (hx3 p0 _ hpq (hx2 p0 _ hpq hrep1))
    obtain ⟨z, hz, hz1, hz2⟩ : ∃ z : Int, atI [Dt.int (-1), .int ((E.length + 1 : Nat) : Int), .int (((E.length + 1 : Nat) : Int) + (r1 : Int)), .int (100000000 + (r2 : Int)), .int (-((E.length + 1 : Nat) : Int))] (r3 : Int) = some (.int z) ∧ (z < 0 ∨ ((E.length + 1 : Nat) : Int) ≤ z) ∧ z.natAbs < 1000000000000 :=
      match r3, hr3 with
      | 0, _ => ⟨_, rfl, by omega, by omega⟩
      | 1, _ => ⟨_, rfl, by omega, by omega⟩
      | 2, _ => ⟨_, rfl, by omega, by omega⟩
      | 3, _ => ⟨_, rfl, by omega, by omega⟩
      | 4, _ => ⟨_, rfl, by omega, by omega⟩
    have odd : Odd (E.length + 1) z := odd_of hz1 (by omega)
    refine ⟨_, hz, ?_⟩
    obtain ⟨W2, hW2⟩ : ∃ W2 : Nat → DSt → Gp → Prop, ∀ i δ G', W2 i δ G' ↔ ∃ o6 : Option Dt, δ = [some (.ref q), some (.ref p0), some (.lst (rdD (ofTale st hs))), some (.int ((E.length + 1 : Nat) : Int)), some (.int (j : Int)), some (.int z), o6] ∧ Rep D C E d (sortP (ofTale st hs)) G' p0 ∧ Pot q G' (n + 100 - 10 * j - 3 - i) := ⟨_, fun _ _ _ => Iff.rfl⟩
    refine dFor_intro (upto 0 4) G4 W2 (fun P p => ?_) ((hW2 _ _ _).mpr ⟨_, rfl, hrep4, hT4⟩) (fun i di δ G5 hdi hw2 => ?_) (fun δ G5 hw2 => ?_)
    · simp [and_assoc, dRet, dRetN, dRetC, dChain, r2I, dC, dVar, dEnds, dstart, dOp, dCB, DL.rLen, dCons, dNil, dFld, asL_lst, asQ_lst, asQ_tup, asQ_scr, ins_obj, dNever, dgN, dgNil, dgCons, dgTup, dIf, dNot, dAnd, dOr, dB, dCall, dMeth, dNext, dSeq, dSt, dLst, dTup, dIfE, rIxQ, dDrop, dYes, diL, diR1, diR2, dNeg, dAsg, dwipe, dBM, dBM0, rAppendD, rMin2, rMax2, atI_0, atI_1, atI_2, atI_3, ix4_0, ix4_1, ix4_3, asL_g, asQ_g, now_g, gupd_same, gupd_gupd, Int.ofNat_inj, now_lst, now_int, now_tup, asL_lst, natsD_length, rdD_length, vilD_inj, vil_ins, natsD_inj, rdD_inj, nnD_inj, -Int.natCast_add]
      exact p
    · obtain ⟨o6, rfl, hrep5, hT5⟩ := (hW2 _ _ _).mp hw2
      obtain ⟨hi, rfl⟩ := upto_get hdi
      simp [and_assoc, dRet, dRetN, dRetC, dChain, r2I, dC, dVar, dEnds, dstart, dOp, dCB, DL.rLen, dCons, dNil, dFld, asL_lst, asQ_lst, asQ_tup, asQ_scr, ins_obj, dNever, dgN, dgNil, dgCons, dgTup, dIf, dNot, dAnd, dOr, dB, dCall, dMeth, dNext, dSeq, dSt, dLst, dTup, dIfE, rIxQ, dDrop, dYes, diL, diR1, diR2, dNeg, dAsg, dwipe, dBM, dBM0, rAppendD, rMin2, rMax2, atI_0, atI_1, atI_2, atI_3, ix4_0, ix4_1, ix4_3, asL_g, asQ_g, now_g, gupd_same, gupd_gupd, Int.ofNat_inj, now_lst, now_int, now_tup, asL_lst, natsD_length, rdD_length, vilD_inj, vil_ins, natsD_inj, rdD_inj, nnD_inj, -Int.natCast_add, rep_ins hrep5, rm "reports"]
      refine ⟨i, p0, E, d, _, z, rfl, hi, hE, hrep5, hL, hinv2, hpf, .inr ⟨odd, fun G6 g6 => ?_⟩⟩
      have hrep6 : Rep D C E d (sortP (ofTale st hs)) G6 p0 := g6 _ _ hrep5
      have ge_pot : ∀ {G G' : Gp} {m : Nat}, GLe G G' → Pot q G m → Pot q G' m := fun {G G' m} g h => by
        obtain ⟨a, b, c, h, r⟩ := h
        exact ⟨a, b, c, g _ _ h, r⟩
      refine ⟨s2, same_house (.inl ⟨rfl, ?_⟩)⟩
      simp [and_assoc, dRet, dRetN, dRetC, dChain, r2I, dC, dVar, dEnds, dstart, dOp, dCB, DL.rLen, dCons, dNil, dFld, asL_lst, asQ_lst, asQ_tup, asQ_scr, ins_obj, dNever, dgN, dgNil, dgCons, dgTup, dIf, dNot, dAnd, dOr, dB, dCall, dMeth, dNext, dSeq, dSt, dLst, dTup, dIfE, rIxQ, dDrop, dYes, diL, diR1, diR2, dNeg, dAsg, dwipe, dBM, dBM0, rAppendD, rMin2, rMax2, atI_0, atI_1, atI_2, atI_3, ix4_0, ix4_1, ix4_3, asL_g, asQ_g, now_g, gupd_same, gupd_gupd, Int.ofNat_inj, now_lst, now_int, now_tup, asL_lst, natsD_length, rdD_length, vilD_inj, vil_ins, natsD_inj, rdD_inj, nnD_inj, -Int.natCast_add, rep_ins hrep6, rm "reports"]
      refine ⟨p0, E, d, _, rfl, hrep6, fun q' hq' => ?_⟩
      refine ⟨_, (ofTale st hs).map fun p => ((p.1 : Int), (p.2 : Int)), rfl, by rw [asL_lst]; simp [rdD, npD], fun ns h1 h2 => ?_⟩
      rw [sort_rows h1 h2]
      have g7 : GLe G6 (gupd G6 q' (.lst (rdD (sortP (ofTale st hs))))) := GLe.gupd hq'
      refine rEqP_now (by rw [now_g]; exact pl_rows _) (by rw [now_g, now_lst]) ?_
      refine .inl ⟨rfl, q, E.length + 1, n + 100 - 10 * j - 3 - (i + 1), rfl, by omega, by omega, ge_pot g7 (ge_pot g6 (hT5.mono (by omega))), fun x G8 hx hT8 hx8 => ?_⟩
      have hrep8 : Rep D C E d (sortP (ofTale st hs)) G8 p0 := hx8 p0 _ hpq (g7 _ _ hrep6)
      refine ⟨i, p0, E, d, _, (x : Int), rfl, hi, hE, hrep8, hL, hinv2, hpf, .inl ⟨x, rfl, hx, fun G9 g9 => ⟨s2, same_none (.inl ⟨rfl, ?_⟩)⟩⟩⟩
      exact (hW2 _ _ _).mpr ⟨_, rfl, g9 _ _ hrep8, ge_pot g9 hT8⟩
    · obtain ⟨o6, rfl, hrep5, hT5⟩ := (hW2 _ _ _).mp hw2
      rw [upto_length] at hT5
      exact (hW _ _ _).mpr ⟨_, _, _, rfl, hrep5, hT5.mono (by omega)⟩
  · obtain ⟨o4, o5, o6, rfl, hrep1, hT1⟩ := (hW _ _ _).mp hw
    rw [upto_length] at hT1
    simp [and_assoc, dRet, dRetN, dRetC, dChain, r2I, dC, dVar, dEnds, dstart, dOp, dCB, DL.rLen, dCons, dNil, dFld, asL_lst, asQ_lst, asQ_tup, asQ_scr, ins_obj, dNever, dgN, dgNil, dgCons, dgTup, dIf, dNot, dAnd, dOr, dB, dCall, dMeth, dNext, dSeq, dSt, dLst, dTup, dIfE, rIxQ, dDrop, dYes, diL, diR1, diR2, dNeg, dAsg, dwipe, dBM, dBM0, rAppendD, rMin2, rMax2, atI_0, atI_1, atI_2, atI_3, ix4_0, ix4_1, ix4_3, asL_g, asQ_g, now_g, gupd_same, gupd_gupd, Int.ofNat_inj, now_lst, now_int, now_tup, asL_lst, natsD_length, rdD_length, vilD_inj, vil_ins, natsD_inj, rdD_inj, nnD_inj, -Int.natCast_add]
    exact p G1 (hT1.mono (by omega))
abbrev s_law : Stmt := top 39
abbrev n_law : List Str := ["script", "k", "pot", "lines", "far", "heard"]
abbrev p_law : List Str := ["script"]
theorem sc_law : FnScope n_law p_law (defScope s_law) := ⟨rfl, rfl, rfl, by decide +kernel, rfl, by decide +kernel, by decide +kernel⟩
def c_law : DSp := fun ds G P _ => ∃ ns : List Int, ds = [.scr ns] ∧ ns.length ≤ 63 ∧ ∀ G', P (.bl true) G'
theorem ok_law {fa : Addr} {fd : FuncData} (T : TR K mg C D) (TF : Fun K "law" "law" s_law fa fd) (D__law_pot : Dfn P w K mg base CX0 "_law_pot" p_law_pot c_pot 1) (D__law_draw : Dfn P w K mg base CX0 "_law_draw" p_law_draw c_pdraw 1) (D__law_drawn : Dfn P w K mg base CX0 "_law_drawn" p_law_drawn c_drawn 2) (D__law_steps : Dfn P w K mg base CX0 "_law_steps" p_law_steps c_steps 1)
    (D__law_hidden : Dfn P w K mg base CX0 "_law_hidden" p_law_hidden c_hidden 3) (D__law_heard : Dfn P w K mg base CX0 "_law_heard" p_law_heard c_heard 2) (D__law_folk : Dfn P w K mg base CX0 "_law_folk" p_law_folk (c_folk C D) 7) (D__law_right : Dfn P w K mg base CX0 "_law_right" p_law_right (c_mright C D) 9) : FnOk P w K mg base CX0 10 fa fd p_law (toSp K c_law) := by
  refine d_ok TF sc_law (fun ds G P R ⟨ns, e, _⟩ => by rw [e]; rfl) fun cdv A outer s H E B hr => ?_
  refine ⟨_, (dss_cons (ds_for PassesOwn.never rfl (di_range1 (by rfl) T.range (da_cons (d_callB (c_max2 rfl) (by rfl) T.max (by decide +kernel) (da_cons d_int (da_cons (d_callB (c_min2 rfl) (by rfl) T.min (by decide +kernel) (da_cons d_int (da_cons (d_callB c_len (by rfl) T.len (by decide +kernel) (da_cons (dv (pv 0)) da_nil)) da_nil))) da_nil))) da_nil)) (dg_name (pg_name (i := 1) sc_law.nd rfl (by first | exact Or.inl rfl | exact Or.inr rfl))) (dss_cons (ds_set (i := 2) sc_law.nd rfl (by first | exact Or.inl rfl | exact Or.inr rfl) (d_callD D__law_pot hr (by rfl) (da_cons (dv (pv 0)) (da_cons (dv (pv 1)) da_nil))))
      (dss_cons (ds_set (i := 3) sc_law.nd rfl (by first | exact Or.inl rfl | exact Or.inr rfl) (d_callD D__law_drawn hr (by rfl) (da_cons (dv (pv 2)) (da_cons (d_ix (d_lst (da_cons d_int (da_cons d_int (da_cons d_int da_nil)))) (d_callD D__law_draw hr (by rfl) (da_cons (dv (pv 2)) (da_cons d_int da_nil))) (fun _ _ => rfl)) da_nil))))
      (dss_cons (ds_set (i := 4) sc_law.nd rfl (by first | exact Or.inl rfl | exact Or.inr rfl) (d_callD D__law_steps hr (by rfl) (da_cons (dv (pv 3)) da_nil)))
      (dss_cons (ds_set (i := 5) sc_law.nd rfl (by first | exact Or.inl rfl | exact Or.inr rfl) (d_callD D__law_heard hr (by rfl) (da_cons (dv (pv 2)) (da_cons (d_callD D__law_hidden hr (by rfl) (da_cons (dv (pv 2)) (da_cons (dv (pv 4)) da_nil))) (da_cons d_int da_nil)))))
      (dss_one (ds_if (dt_not (dt_val (d_callD D__law_right hr (by rfl) (da_cons (dv (pv 2)) (da_cons (d_callD D__law_folk hr (by rfl) (da_cons (dv (pv 3)) (da_cons (dv (pv 5)) da_nil))) (da_cons (dv (pv 5)) (da_cons (d_callB c_len (by rfl) T.len (by decide +kernel) (da_cons (dv (pv 4)) da_nil)) da_nil))))))) (dss_one (ds_ret d_bl)) dss_nil)))))))
      (dss_one (ds_ret d_bl))), ?_⟩
  rintro ds G P R ⟨ns, rfl, hns, p⟩
  simp [and_assoc, dRet, dRetN, dRetC, dChain, r2I, dC, dVar, dEnds, dstart, dOp, dCB, DL.rLen, dCons, dNil, dFld, asL_lst, asQ_lst, asQ_tup, asQ_scr, ins_obj, dNever, dgN, dgNil, dgCons, dgTup, dIf, dNot, dAnd, dOr, dB, dCall, dMeth, dNext, dSeq, dSt, dLst, dTup, dIfE, rIxQ, dDrop, dYes, diL, diR1, diR2, dNeg, dAsg, dwipe, dBM, dBM0, rAppendD, rMin2, rMax2, atI_0, atI_1, atI_2, atI_3, ix4_0, ix4_1, ix4_3, asL_g, asQ_g, now_g, gupd_same, gupd_gupd, Int.ofNat_inj, now_lst, now_int, now_tup, asL_lst, natsD_length, rdD_length, vilD_inj, vil_ins, natsD_inj, rdD_inj, nnD_inj, n_law]
  refine dFor_intro (upto 0 (max 1 (min 6 ns.length))) G (fun i δ G' => ∃ o1 o2 o3 o4 o5, δ = [some (.scr ns), o1, o2, o3, o4, o5]) (fun P p => ?_) ⟨_, _, _, _, _, rfl⟩ ?_ ?_
  · simp [and_assoc, dRet, dRetN, dRetC, dChain, r2I, dC, dVar, dEnds, dstart, dOp, dCB, DL.rLen, dCons, dNil, dFld, asL_lst, asQ_lst, asQ_tup, asQ_scr, ins_obj, dNever, dgN, dgNil, dgCons, dgTup, dIf, dNot, dAnd, dOr, dB, dCall, dMeth, dNext, dSeq, dSt, dLst, dTup, dIfE, rIxQ, dDrop, dYes, diL, diR1, diR2, dNeg, dAsg, dwipe, dBM, dBM0, rAppendD, rMin2, rMax2, atI_0, atI_1, atI_2, atI_3, ix4_0, ix4_1, ix4_3, asL_g, asQ_g, now_g, gupd_same, gupd_gupd, Int.ofNat_inj, now_lst, now_int, now_tup, asL_lst, natsD_length, rdD_length, vilD_inj, vil_ins, natsD_inj, rdD_inj, nnD_inj]
    refine ⟨by omega, by omega, ?_⟩
    have e : (max 1 (min 6 (ns.length : Int))).toNat = max 1 (min 6 ns.length) := by omega
    rw [e]
    exact p
  · rintro i d δ G1 hd ⟨o1, o2, o3, o4, o5, rfl⟩
    obtain ⟨hi, rfl⟩ := upto_get hd
    have hi6 : i < 6 := by omega
    have s3 : 3 ≤ sizeLine := by rw [sizeLine_eq]; decide
    simp [and_assoc, dRet, dRetN, dRetC, dChain, r2I, dC, dVar, dEnds, dstart, dOp, dCB, DL.rLen, dCons, dNil, dFld, asL_lst, asQ_lst, asQ_tup, asQ_scr, ins_obj, dNever, dgN, dgNil, dgCons, dgTup, dIf, dNot, dAnd, dOr, dB, dCall, dMeth, dNext, dSeq, dSt, dLst, dTup, dIfE, rIxQ, dDrop, dYes, diL, diR1, diR2, dNeg, dAsg, dwipe, dBM, dBM0, rAppendD, rMin2, rMax2, atI_0, atI_1, atI_2, atI_3, ix4_0, ix4_1, ix4_3, asL_g, asQ_g, now_g, gupd_same, gupd_gupd, Int.ofNat_inj, now_lst, now_int, now_tup, asL_lst, natsD_length, rdD_length, vilD_inj, vil_ins, natsD_inj, rdD_inj, nnD_inj]
    refine ⟨ns, i, rfl, by omega, by omega, fun q G2 hq hG hT => ?_⟩
    simp [and_assoc, dRet, dRetN, dRetC, dChain, r2I, dC, dVar, dEnds, dstart, dOp, dCB, DL.rLen, dCons, dNil, dFld, asL_lst, asQ_lst, asQ_tup, asQ_scr, ins_obj, dNever, dgN, dgNil, dgCons, dgTup, dIf, dNot, dAnd, dOr, dB, dCall, dMeth, dNext, dSeq, dSt, dLst, dTup, dIfE, rIxQ, dDrop, dYes, diL, diR1, diR2, dNeg, dAsg, dwipe, dBM, dBM0, rAppendD, rMin2, rMax2, atI_0, atI_1, atI_2, atI_3, ix4_0, ix4_1, ix4_3, asL_g, asQ_g, now_g, gupd_same, gupd_gupd, Int.ofNat_inj, now_lst, now_int, now_tup, asL_lst, natsD_length, rdD_length, vilD_inj, vil_ins, natsD_inj, rdD_inj, nnD_inj, s3]
    refine ⟨q, 3, 1000, rfl, by decide, by decide, hT.mono (by decide), fun r0 G3 hr0 hT3 hx3 => ?_⟩
    obtain ⟨z, hz, hz1, hz2⟩ : ∃ z : Nat, atI [Dt.int 3, .int 9, .int 40] (r0 : Int) = some (.int (z : Int)) ∧ 0 < z ∧ z ≤ 40 := by
      match r0, hr0 with
      | 0, _ => exact ⟨3, rfl, by decide, by decide⟩
      | 1, _ => exact ⟨9, rfl, by decide, by decide⟩
      | 2, _ => exact ⟨40, rfl, by decide, by decide⟩
    refine ⟨_, _, rfl, rfl, _, hz, q, z, 700, rfl, hz1, hz2, hT3, fun E G4 hE hEl hT4 hx4 => ?_⟩
    obtain ⟨dd, hdd⟩ := hE.dists
    have tv : TV0 E dd := ⟨hE, hdd, by omega⟩
    refine ⟨E, dd, rfl, hE, hdd, by omega, ?_⟩
    simp [and_assoc, dRet, dRetN, dRetC, dChain, r2I, dC, dVar, dEnds, dstart, dOp, dCB, DL.rLen, dCons, dNil, dFld, asL_lst, asQ_lst, asQ_tup, asQ_scr, ins_obj, dNever, dgN, dgNil, dgCons, dgTup, dIf, dNot, dAnd, dOr, dB, dCall, dMeth, dNext, dSeq, dSt, dLst, dTup, dIfE, rIxQ, dDrop, dYes, diL, diR1, diR2, dNeg, dAsg, dwipe, dBM, dBM0, rAppendD, rMin2, rMax2, atI_0, atI_1, atI_2, atI_3, ix4_0, ix4_1, ix4_3, asL_g, asQ_g, now_g, gupd_same, gupd_gupd, Int.ofNat_inj, now_lst, now_int, now_tup, asL_lst, natsD_length, rdD_length, vilD_inj, vil_ins, natsD_inj, rdD_inj, nnD_inj]
    refine ⟨q, E, dd, 500, rfl, hE, hdd, by omega, hT4, fun st G5 hst hT5 hx5 => ?_⟩
    simp [and_assoc, dRet, dRetN, dRetC, dChain, r2I, dC, dVar, dEnds, dstart, dOp, dCB, DL.rLen, dCons, dNil, dFld, asL_lst, asQ_lst, asQ_tup, asQ_scr, ins_obj, dNever, dgN, dgNil, dgCons, dgTup, dIf, dNot, dAnd, dOr, dB, dCall, dMeth, dNext, dSeq, dSt, dLst, dTup, dIfE, rIxQ, dDrop, dYes, diL, diR1, diR2, dNeg, dAsg, dwipe, dBM, dBM0, rAppendD, rMin2, rMax2, atI_0, atI_1, atI_2, atI_3, ix4_0, ix4_1, ix4_3, asL_g, asQ_g, now_g, gupd_same, gupd_gupd, Int.ofNat_inj, now_lst, now_int, now_tup, asL_lst, natsD_length, rdD_length, vilD_inj, vil_ins, natsD_inj, rdD_inj, nnD_inj]
    refine ⟨q, E, dd, st, 40, 459, rfl, hst, by omega, by decide, hT5, fun hs G6 hh hT6 hx6 => ?_⟩
    simp [and_assoc, dRet, dRetN, dRetC, dChain, r2I, dC, dVar, dEnds, dstart, dOp, dCB, DL.rLen, dCons, dNil, dFld, asL_lst, asQ_lst, asQ_tup, asQ_scr, ins_obj, dNever, dgN, dgNil, dgCons, dgTup, dIf, dNot, dAnd, dOr, dB, dCall, dMeth, dNext, dSeq, dSt, dLst, dTup, dIfE, rIxQ, dDrop, dYes, diL, diR1, diR2, dNeg, dAsg, dwipe, dBM, dBM0, rAppendD, rMin2, rMax2, atI_0, atI_1, atI_2, atI_3, ix4_0, ix4_1, ix4_3, asL_g, asQ_g, now_g, gupd_same, gupd_gupd, Int.ofNat_inj, now_lst, now_int, now_tup, asL_lst, natsD_length, rdD_length, vilD_inj, vil_ins, natsD_inj, rdD_inj, nnD_inj]
    refine ⟨E, dd, st, hs, rfl, tv, hst, hh, fun p7 hp7 => ?_⟩
    have hT7 : Pot q (gupd G6 p7 (repM D C E dd (sortP (ofTale st hs)))) 459 := potSrc.put hT6 (potSrc.fresh hT6 hp7)
    have hpq : ¬ Pown q p7 := potSrc.fresh hT6 hp7
    have fl : (nnD (vilOf E dd).far).length = E.length + 1 := by rw [nnD_length]; simp [vilOf]
    simp [and_assoc, dRet, dRetN, dRetC, dChain, r2I, dC, dVar, dEnds, dstart, dOp, dCB, DL.rLen, dCons, dNil, dFld, asL_lst, asQ_lst, asQ_tup, asQ_scr, ins_obj, dNever, dgN, dgNil, dgCons, dgTup, dIf, dNot, dAnd, dOr, dB, dCall, dMeth, dNext, dSeq, dSt, dLst, dTup, dIfE, rIxQ, dDrop, dYes, diL, diR1, diR2, dNeg, dAsg, dwipe, dBM, dBM0, rAppendD, rMin2, rMax2, atI_0, atI_1, atI_2, atI_3, ix4_0, ix4_1, ix4_3, asL_g, asQ_g, now_g, gupd_same, gupd_gupd, Int.ofNat_inj, now_lst, now_int, now_tup, asL_lst, natsD_length, rdD_length, vilD_inj, vil_ins, natsD_inj, rdD_inj, nnD_inj, fl]
    exact ⟨q, p7, E, dd, st, hs, 359, rfl, tv, hst, hh, gupd_same, hpq, hT7, fun G8 hT8 => .inr rfl⟩
  · rintro δ G1 ⟨o1, o2, o3, o4, o5, rfl⟩
    simp [and_assoc, dRet, dRetN, dRetC, dChain, r2I, dC, dVar, dEnds, dstart, dOp, dCB, DL.rLen, dCons, dNil, dFld, asL_lst, asQ_lst, asQ_tup, asQ_scr, ins_obj, dNever, dgN, dgNil, dgCons, dgTup, dIf, dNot, dAnd, dOr, dB, dCall, dMeth, dNext, dSeq, dSt, dLst, dTup, dIfE, rIxQ, dDrop, dYes, diL, diR1, diR2, dNeg, dAsg, dwipe, dBM, dBM0, rAppendD, rMin2, rMax2, atI_0, atI_1, atI_2, atI_3, ix4_0, ix4_1, ix4_3, asL_g, asQ_g, now_g, gupd_same, gupd_gupd, Int.ofNat_inj, now_lst, now_int, now_tup, asL_lst, natsD_length, rdD_length, vilD_inj, vil_ins, natsD_inj, rdD_inj, nnD_inj]
    exact p G1
end
end V

set_option Elab.async false
set_option linter.all false
set_option maxRecDepth 100000
set_option maxHeartbeats 4000000
namespace V
open PySem PySem.Spec L2 DL
section
variable {K : PySem.W.Frag} {h : Heap} {mg : Str → Option Value} {f C : Addr} {od an : Option Addr} {sl : Array (Option Value)} {oc kV dc pm cd ct : Value}
theorem kit_no {n : String} (i : PySem.W.isClsIn K C = true) (t : PySem.W.typeIn K (.ref C) = some (.type "type")) (s : PySem.W.subIn K (.type n) (.ref C) = some false) : PySem.W.kitOne K (.type n) (.ref C) = some false := by
  unfold PySem.W.kitOne PySem.W.kitCls
  rw [if_neg (by simp)]
  dsimp only
  rw [if_pos, s]
  unfold PySem.W.isClsIn at i
  rw [i, t]
  simp
/-- Village.__init__, with a keyword too -/
def TopMkK (K : PySem.W.Frag) (C : Addr) : Prop := ∃ f fd g, Fun K "__init__" "Village.__init__" s_V_init f fd ∧ Mk K C f ∧ Binds K fd p_V_init [] ∧ KBn K fd p_V_init 1 ["roads"] g (fun vs zs => vs ++ zs)
theorem tk_V (mk : PySem.W.makesIn K C = true) (kc : PySem.W.keepIn K (.ref C) = true) (a : PySem.W.findIn K (.ref C) "__init__" = some (some (.ref f))) (i : PySem.W.isFn K (.ref f) = true) (l : K.lookup f = some ⟨oc, od, .func (PySem.W.fnOf "__init__" "Village.__init__" (defArgs s_V_init) (defBody s_V_init) (defScope s_V_init) .none kV dc pm an cd ct), sl⟩) (c : PySem.W.codeIn K cd "Village.__init__" = true) (k : PySem.W.keepIn K (.ref f) = true) : TopMkK K C :=
  ⟨f, _, fun us ws => us ++ ws, fun_mk l c k, ⟨mk, a, i, kc⟩, (fun_mk (st := s_V_init) l c k).binds (ps := p_V_init) fun _ _ _ _ _ _ us hl => match us, hl with | [_, _], _ => rfl,
    ⟨fun s us ws _ h1 h2 => match us, h1, ws, h2 with | [_], _, [_], _ => .of_eq rfl, fun r1 r2 => r1.append r2⟩⟩
theorem tv_V (X : K.In h) (G : h.Ns mainGlobals mg) (aC : PySem.W.nsIn K mainGlobals "Village" = some (some (.ref C))) (pg : PySem.W.plainGet K C Str.empty = true) (hd : PySem.W.hasDictIn K C = true) (po : PySem.W.plainOver K C = true)
    (sa : PySem.W.findIn K (.ref C) "__setattr__" = some (some (.builtin "object.__setattr__"))) (n1 : PySem.W.findIn K (.ref C) "_roads" = some none) (n2 : PySem.W.findIn K (.ref C) "_doors" = some none) (n3 : PySem.W.findIn K (.ref C) "_known" = some none)
    (ha : PySem.W.findIn K (.ref C) "__class__" = some (some (.builtin "object.__class__"))) (hn : PySem.W.specialIn K (.builtin "object.__class__") "__get__" = some (some (.builtin "getset_descriptor.__get__"))) (ht : PySem.W.takesIn K (.builtin "object.__class__") = some true)
    (hm : PySem.W.mroIn K C (.type "object") = some true)
    (iC : PySem.W.isClsIn K C = true) (tC : PySem.W.typeIn K (.ref C) = some (.type "type"))
    (kN : PySem.W.subIn K (.type "NoneType") (.ref C) = some false) (kI : PySem.W.subIn K (.type "int") (.ref C) = some false) (kL : PySem.W.subIn K (.type "list") (.ref C) = some false) (kD : PySem.W.subIn K (.type "dict") (.ref C) = some false)
    (fN : PySem.W.notFirst K C (.type "NoneType") = true) (fI : PySem.W.notFirst K C (.type "int") = true) (fL : PySem.W.notFirst K C (.type "list") = true) (fD : PySem.W.notFirst K C (.type "dict") = true)
    (b_len : PySem.W.nsIn K mainGlobals "len" = some none) (b_range : PySem.W.nsIn K mainGlobals "range" = some none) (b_list : PySem.W.nsIn K mainGlobals "list" = some none) (b_tuple : PySem.W.nsIn K mainGlobals "tuple" = some none) (b_min : PySem.W.nsIn K mainGlobals "min" = some none) (b_max : PySem.W.nsIn K mainGlobals "max" = some none) (b_sum : PySem.W.nsIn K mainGlobals "sum" = some none) (b_sorted : PySem.W.nsIn K mainGlobals "sorted" = some none) (b_all : PySem.W.nsIn K mainGlobals "all" = some none) (b_any : PySem.W.nsIn K mainGlobals "any" = some none) (b_abs : PySem.W.nsIn K mainGlobals "abs" = some none) (b_isinstance : PySem.W.nsIn K mainGlobals "isinstance" = some none) (b_enumerate : PySem.W.nsIn K mainGlobals "enumerate" = some none) (b_zip : PySem.W.nsIn K mainGlobals "zip" = some none) (b_set : PySem.W.nsIn K mainGlobals "set" = some none) (b_dict : PySem.W.nsIn K mainGlobals "dict" = some none) (b_int : PySem.W.nsIn K mainGlobals "int" = some none) (b_bool : PySem.W.nsIn K mainGlobals "bool" = some none) (b_str : PySem.W.nsIn K mainGlobals "str" = some none) : TV K mg C :=
  { len := PySem.W.mg_none_of X G b_len, range := PySem.W.mg_none_of X G b_range, list := PySem.W.mg_none_of X G b_list, tuple := PySem.W.mg_none_of X G b_tuple, min := PySem.W.mg_none_of X G b_min, max := PySem.W.mg_none_of X G b_max, sum := PySem.W.mg_none_of X G b_sum, sorted := PySem.W.mg_none_of X G b_sorted, all := PySem.W.mg_none_of X G b_all, any := PySem.W.mg_none_of X G b_any, abs := PySem.W.mg_none_of X G b_abs, isinstance := PySem.W.mg_none_of X G b_isinstance, enumerate := PySem.W.mg_none_of X G b_enumerate, zip := PySem.W.mg_none_of X G b_zip, set := PySem.W.mg_none_of X G b_set, dict := PySem.W.mg_none_of X G b_dict, int := PySem.W.mg_none_of X G b_int, bool := PySem.W.mg_none_of X G b_bool, str := PySem.W.mg_none_of X G b_str, cl := ⟨pg, hd, po, sa⟩, n_roads := n1, n_doors := n2, n_known := n3, mgVillage := PySem.W.mg_of X G aC, isf := ⟨⟨pg, hd, po, sa⟩, ha, hn, ht, hm⟩, own := by simp [PySem.W.kitOne],
    noNone := ⟨kit_no iC tC kN, fN⟩, noInt := ⟨kit_no iC tC kI, fI⟩, noList := ⟨kit_no iC tC kL, fL⟩, noDict := ⟨kit_no iC tC kD, fD⟩ }
end
end V

set_option Elab.async false
set_option linter.all false
set_option maxRecDepth 100000
set_option maxHeartbeats 4000000
namespace V
open PySem PySem.Spec L2 DL
section
variable {K : PySem.W.Frag} {h : Heap} {mg : Str → Option Value} {f C D : Addr} {od an : Option Addr} {sl : Array (Option Value)} {oc kV dc pm cd ct : Value}
theorem tr_R (X : K.In h) (G : h.Ns mainGlobals mg) (aC : PySem.W.nsIn K mainGlobals "Reports" = some (some (.ref D))) (pg : PySem.W.plainGet K D Str.empty = true) (hd : PySem.W.hasDictIn K D = true) (po : PySem.W.plainOver K D = true)
    (sa : PySem.W.findIn K (.ref D) "__setattr__" = some (some (.builtin "object.__setattr__"))) (n1 : PySem.W.findIn K (.ref D) "_village" = some none) (n2 : PySem.W.findIn K (.ref D) "_heard" = some none) (T : TV K mg C) : TR K mg C D :=
  { T with clR := ⟨pg, hd, po, sa⟩, n_village := n1, n_heard := n2, mgReports := PySem.W.mg_of X G aC }
theorem tk_R (mk : PySem.W.makesIn K D = true) (kc : PySem.W.keepIn K (.ref D) = true) (a : PySem.W.findIn K (.ref D) "__init__" = some (some (.ref f))) (i : PySem.W.isFn K (.ref f) = true) (l : K.lookup f = some ⟨oc, od, .func (PySem.W.fnOf "__init__" "Reports.__init__" (defArgs s_R_init) (defBody s_R_init) (defScope s_R_init) .none kV dc pm an cd ct), sl⟩) (c : PySem.W.codeIn K cd "Reports.__init__" = true) (k : PySem.W.keepIn K (.ref f) = true) : TopMk K D "Reports.__init__" s_R_init p_R_init :=
  ⟨f, _, fun_mk l c k, ⟨mk, a, i, kc⟩, (fun_mk (st := s_R_init) l c k).binds (ps := p_R_init) fun _ _ _ _ _ _ us hl => match us, hl with | [_, _], _ => rfl⟩
end
end V

set_option Elab.async false
set_option linter.all false
set_option maxRecDepth 100000
set_option maxHeartbeats 4000000
/-! What the top has of the classes of refusals. -/
namespace V
open PySem PySem.Spec L2 DL
section
variable {P : Program} {w : World} {K : PySem.W.Frag} {h : Heap} {mg : Str → Option Value} {base : Heap} {f C D CE cc cda : Addr} {x qual nm q : Str} {st : Stmt} {N : Addr} {bs bm sub : List Value} {sn : List Str} {ab : Bool} {col : Option Bool} {dd : Option Addr} {k0 k1 k2 k3 k5 : Option Value}
theorem kit_noR (ne : (C == D) = false) (i : PySem.W.isClsIn K D = true) (t : PySem.W.typeIn K (.ref D) = some (.type "type")) (s : PySem.W.subIn K (.ref C) (.ref D) = some false) : PySem.W.kitOne K (.ref C) (.ref D) = some false := by
  unfold PySem.W.kitOne PySem.W.kitCls
  rw [if_neg (by simpa using ne)]
  dsimp only
  rw [if_pos, s]
  unfold PySem.W.isClsIn at i
  rw [i, t]
  simp
theorem kit_ve (s : PySem.W.subIn K (.ref C) (.type "ValueError") = some true) : PySem.W.kitOne K (.ref C) (.type "ValueError") = some true := by
  unfold PySem.W.kitOne PySem.W.kitCls
  rw [if_neg (by simp)]
  dsimp only
  rw [if_pos (by decide +kernel), s]
theorem exk_mk (g1 : PySem.W.findIn K (.ref C) "__getattribute__" = some (some (.builtin "BaseException.__getattribute__"))) (g2 : PySem.W.findIn K (.ref C) "__getattr__" = some none) (g3 : PySem.W.subIn K (.ref C) (.type "BaseException") = some true) (g4 : PySem.W.hasDictIn K C = true)
    (g5 : PySem.W.findIn K (.ref C) "__class__" = some (some (.builtin "object.__class__"))) (g6 : PySem.W.specialIn K (.builtin "object.__class__") "__get__" = some (some (.builtin "getset_descriptor.__get__"))) (g7 : PySem.W.takesIn K (.builtin "object.__class__") = some true) (g8 : PySem.W.mroIn K C (.type "object") = some true)
    (g9 : PySem.W.findIn K (.ref C) "what" = some none) : ExK K C := ⟨⟨g1, g2, g3, g4, g5, g6, g7, g8⟩, g9⟩
theorem dexc_mk {oc : Value} {od : Option Addr} {dV kV doc pm ct : Value} {an : Option Addr} {osl : Array (Option Value)} {ccl : Value} {cdd : Option Addr} {vs : Array Value} {ccs : Array (Option Value)} {file : Str} {tf : Tok} {cl : Value} {cld : Option Addr} {csl : Array (Option Value)}
    (X0 : ∃ (t : Str) (p0 p1 p2 p3 p4 p5 p6 p7 p8 p9 p10 p11 p12 : Pos) (j : Nat), ExcE qual st t p0 p1 p2 p3 p4 p5 p6 p7 p8 p9 p10 p11 p12 j) (X : K.In h) (G : h.Ns mainGlobals mg) (a : PySem.W.nsIn K mainGlobals x = some (some (.ref C)))
    (c1 : K.lookup C = some (excClassObj nm q C N bs bm true sn sub ab col dd k0 k1 k2 k3 k5 "ValueError.__new__")) (c2 : PySem.HandSPX.refsVE bm = true) (c3 : PySem.W.findIn K (.ref C) "__setattr__" = some (some (.builtin "object.__setattr__"))) (c4 : PySem.W.subIn K (.ref C) (.type "BaseException") = some true) (c5 : PySem.W.typeIn K (.ref C) = some (.type "type")) (c6 : PySem.W.keepIn K (.ref C) = true)
    (i1 : PySem.W.findIn K (.ref C) "__init__" = some (some (.ref f))) (i2 : PySem.W.typeIn K (.ref f) = some (.type "function"))
    (i3 : K.lookup f = some ⟨oc, od, .func (PySem.W.ksFn "__init__" qual (defArgs st) (defBody st) (defScope st) dV kV doc pm an (.ref cda) ct cc), osl⟩) (i4 : PySem.W.codeIn K (.ref cda) qual = true) (i5 : K.lookup cda = some ⟨ccl, cdd, .fields vs, ccs⟩) (i6 : vs[2]? = some (.str file tf)) (i7 : ((P.main.file : Str) == file) = true)
    (i8 : K.lookup cc = some ⟨cl, cld, .cell (some (.ref C)), csl⟩) (s1 : PySem.W.ks_superIn K C C "__init__" = some (some (.builtin "ValueError.__init__"))) (s2 : PySem.W.subIn K (.ref C) (.type "ValueError") = some true) (s3 : PySem.W.mroIn K C (.ref C) = some true) (s4 : PySem.W.nsIn K PySem.cStatics "thirdparty.any" = some none) (s5 : PySem.W.findIn K (.ref C) "what" = some none)
    (s6 : (P.main.scope.names.lookup ("super" : Str)).isSome = false) (s7 : PySem.W.nsIn K mainGlobals "super" = some none)
    (hb : ∀ us : List Value, us.length = 2 → bindArgs (PySem.W.ksFn "__init__" qual (defArgs st) (defBody st) (defScope st) dV kV doc pm an (.ref cda) ct cc) ⟨us, []⟩ = pure ((["self", "what"] : List Str).zip us)) :
    (∀ (w : World) (base : Heap), DexC P w K mg base x C) ∧ mg x = some (.ref C) :=
  have T : ExcI P K C f cc cda qual st := ⟨⟨⟨nm, q, N, bs, bm, sn, sub, ab, col, dd, k0, k1, k2, k3, k5, c1, c2⟩, c3, c4, c5, c6⟩, ⟨_, _, _, _, _, _, _, _, _, i3⟩, i4, ⟨_, _, _, _, _, _, i5, i6, i7⟩, ⟨_, _, _, i8⟩, s1, s2, s3, s4, s5, s6⟩
  let ⟨_, _, _, _, _, _, _, _, _, _, _, _, _, _, _, X0⟩ := X0
  ⟨fun w base => ⟨T.ox, PySem.W.mg_of X G a, f, _, i1, i2, exc_init T i3 (PySem.W.mg_none_of X G s7) X0, .all hb⟩, PySem.W.mg_of X G a⟩
theorem xtab_mk {cRoad cHouse cClash cReport cTale cDays cText : Addr} (X : K.In h) (G : h.Ns mainGlobals mg) (aE : PySem.W.nsIn K mainGlobals "VillageError" = some (some (.ref CE))) (bV : PySem.W.nsIn K mainGlobals "ValueError" = some none) (a1 : PySem.W.nsIn K mainGlobals "NoRoad" = some (some (.ref cRoad))) (a2 : PySem.W.nsIn K mainGlobals "NoHouse" = some (some (.ref cHouse))) (a3 : PySem.W.nsIn K mainGlobals "Clash" = some (some (.ref cClash)))
    (a4 : PySem.W.nsIn K mainGlobals "NoReport" = some (some (.ref cReport))) (a5 : PySem.W.nsIn K mainGlobals "NoTale" = some (some (.ref cTale))) (a6 : PySem.W.nsIn K mainGlobals "NoDays" = some (some (.ref cDays))) (a7 : PySem.W.nsIn K mainGlobals "NoText" = some (some (.ref cText))) : XTab K mg CE cRoad cHouse cClash cReport cTale cDays cText :=
  ⟨PySem.W.mg_of X G aE, PySem.W.mg_none_of X G bV, PySem.W.mg_of X G a1, PySem.W.mg_of X G a2, PySem.W.mg_of X G a3, PySem.W.mg_of X G a4, PySem.W.mg_of X G a5, PySem.W.mg_of X G a6, PySem.W.mg_of X G a7⟩
theorem xcau_mk {others : List Addr} (g1 : PySem.W.findIn K (.ref C) "__getattribute__" = some (some (.builtin "BaseException.__getattribute__"))) (g2 : PySem.W.findIn K (.ref C) "__getattr__" = some none) (g3 : PySem.W.subIn K (.ref C) (.type "BaseException") = some true) (g4 : PySem.W.hasDictIn K C = true)
    (g5 : PySem.W.findIn K (.ref C) "__class__" = some (some (.builtin "object.__class__"))) (g6 : PySem.W.specialIn K (.builtin "object.__class__") "__get__" = some (some (.builtin "getset_descriptor.__get__"))) (g7 : PySem.W.takesIn K (.builtin "object.__class__") = some true) (g8 : PySem.W.mroIn K C (.type "object") = some true)
    (g9 : PySem.W.findIn K (.ref C) "what" = some none) (h1 : PySem.W.subIn K (.ref CE) (.type "BaseException") = some true) (h2 : PySem.W.hasDictIn K CE = true) (h3 : PySem.W.typeIn K (.ref CE) = some (.type "type")) (h4 : PySem.W.subIn K (.ref C) (.ref CE) = some true) (h5 : PySem.W.subIn K (.ref C) (.type "ValueError") = some true)
    (hk : ∀ D ∈ others, PySem.W.kitOne K (.ref C) (.ref D) = some false) : XCau K CE others C := ⟨⟨⟨g1, g2, g3, g4, g5, g6, g7, g8⟩, g9⟩, PySem.W.exm_ref h1 h2 h3 h4, kit_ve h5, hk⟩
end
end V

set_option Elab.async false
set_option linter.all false
set_option maxRecDepth 100000
set_option maxHeartbeats 4000000
namespace V
open PySem PySem.Spec L2 DL
section
variable {K : PySem.W.Frag} {h : Heap} {mg : Str → Option Value} {f C : Addr} {od an : Option Addr} {sl : Array (Option Value)} {oc kV dc pm cd ct : Value}
theorem tf_is_house (X : K.In h) (G : h.Ns mainGlobals mg) (a : PySem.W.nsIn K mainGlobals "is_house" = some (some (.ref f))) (l : K.lookup f = some ⟨oc, od, .func (PySem.W.fnOf "is_house" "is_house" (defArgs s_is_house) (defBody s_is_house) (defScope s_is_house) .none kV dc pm an cd ct), sl⟩) (c : PySem.W.codeIn K cd "is_house" = true) (k : PySem.W.keepIn K (.ref f) = true) : TopFn K mg "is_house" s_is_house p_is_house :=
  ⟨f, _, fun_mk l c k, PySem.W.mg_of X G a, (fun_mk (st := s_is_house) l c k).binds (ps := p_is_house) fun _ _ _ _ _ _ us hl => match us, hl with | [_, _], _ => rfl⟩
theorem tf_need_houses (X : K.In h) (G : h.Ns mainGlobals mg) (a : PySem.W.nsIn K mainGlobals "need_houses" = some (some (.ref f))) (l : K.lookup f = some ⟨oc, od, .func (PySem.W.fnOf "need_houses" "need_houses" (defArgs s_need_houses) (defBody s_need_houses) (defScope s_need_houses) .none kV dc pm an cd ct), sl⟩) (c : PySem.W.codeIn K cd "need_houses" = true) (k : PySem.W.keepIn K (.ref f) = true) : TopFn K mg "need_houses" s_need_houses p_need_houses :=
  ⟨f, _, fun_mk l c k, PySem.W.mg_of X G a, (fun_mk (st := s_need_houses) l c k).binds (ps := p_need_houses) fun _ _ _ _ _ _ us hl => match us, hl with | [_, _], _ => rfl⟩
theorem tf_head_of (X : K.In h) (G : h.Ns mainGlobals mg) (a : PySem.W.nsIn K mainGlobals "head_of" = some (some (.ref f))) (l : K.lookup f = some ⟨oc, od, .func (PySem.W.fnOf "head_of" "head_of" (defArgs s_head_of) (defBody s_head_of) (defScope s_head_of) .none kV dc pm an cd ct), sl⟩) (c : PySem.W.codeIn K cd "head_of" = true) (k : PySem.W.keepIn K (.ref f) = true) : TopFn K mg "head_of" s_head_of p_head_of :=
  ⟨f, _, fun_mk l c k, PySem.W.mg_of X G a, (fun_mk (st := s_head_of) l c k).binds (ps := p_head_of) fun _ _ _ _ _ _ us hl => match us, hl with | [_, _], _ => rfl⟩
theorem tf_roads_in_order (X : K.In h) (G : h.Ns mainGlobals mg) (a : PySem.W.nsIn K mainGlobals "roads_in_order" = some (some (.ref f))) (l : K.lookup f = some ⟨oc, od, .func (PySem.W.fnOf "roads_in_order" "roads_in_order" (defArgs s_roads_in_order) (defBody s_roads_in_order) (defScope s_roads_in_order) .none kV dc pm an cd ct), sl⟩) (c : PySem.W.codeIn K cd "roads_in_order" = true) (k : PySem.W.keepIn K (.ref f) = true) : TopFn K mg "roads_in_order" s_roads_in_order p_roads_in_order :=
  ⟨f, _, fun_mk l c k, PySem.W.mg_of X G a, (fun_mk (st := s_roads_in_order) l c k).binds (ps := p_roads_in_order) fun _ _ _ _ _ _ us hl => match us, hl with | [_], _ => rfl⟩
theorem tf_next_doors (X : K.In h) (G : h.Ns mainGlobals mg) (a : PySem.W.nsIn K mainGlobals "next_doors" = some (some (.ref f))) (l : K.lookup f = some ⟨oc, od, .func (PySem.W.fnOf "next_doors" "next_doors" (defArgs s_next_doors) (defBody s_next_doors) (defScope s_next_doors) .none kV dc pm an cd ct), sl⟩) (c : PySem.W.codeIn K cd "next_doors" = true) (k : PySem.W.keepIn K (.ref f) = true) : TopFn K mg "next_doors" s_next_doors p_next_doors :=
  ⟨f, _, fun_mk l c k, PySem.W.mg_of X G a, (fun_mk (st := s_next_doors) l c k).binds (ps := p_next_doors) fun _ _ _ _ _ _ us hl => match us, hl with | [_], _ => rfl⟩
theorem tf_far_from (X : K.In h) (G : h.Ns mainGlobals mg) (a : PySem.W.nsIn K mainGlobals "far_from" = some (some (.ref f))) (l : K.lookup f = some ⟨oc, od, .func (PySem.W.fnOf "far_from" "far_from" (defArgs s_far_from) (defBody s_far_from) (defScope s_far_from) .none kV dc pm an cd ct), sl⟩) (c : PySem.W.codeIn K cd "far_from" = true) (k : PySem.W.keepIn K (.ref f) = true) : TopFn K mg "far_from" s_far_from p_far_from :=
  ⟨f, _, fun_mk l c k, PySem.W.mg_of X G a, (fun_mk (st := s_far_from) l c k).binds (ps := p_far_from) fun _ _ _ _ _ _ us hl => match us, hl with | [_, _], _ => rfl⟩
theorem tf_too_far (X : K.In h) (G : h.Ns mainGlobals mg) (a : PySem.W.nsIn K mainGlobals "too_far" = some (some (.ref f))) (l : K.lookup f = some ⟨oc, od, .func (PySem.W.fnOf "too_far" "too_far" (defArgs s_too_far) (defBody s_too_far) (defScope s_too_far) .none kV dc pm an cd ct), sl⟩) (c : PySem.W.codeIn K cd "too_far" = true) (k : PySem.W.keepIn K (.ref f) = true) : TopFn K mg "too_far" s_too_far p_too_far :=
  ⟨f, _, fun_mk l c k, PySem.W.mg_of X G a, (fun_mk (st := s_too_far) l c k).binds (ps := p_too_far) fun _ _ _ _ _ _ us hl => match us, hl with | [_, _, _], _ => rfl⟩
theorem tf_kept_away (X : K.In h) (G : h.Ns mainGlobals mg) (a : PySem.W.nsIn K mainGlobals "kept_away" = some (some (.ref f))) (l : K.lookup f = some ⟨oc, od, .func (PySem.W.fnOf "kept_away" "kept_away" (defArgs s_kept_away) (defBody s_kept_away) (defScope s_kept_away) .none kV dc pm an cd ct), sl⟩) (c : PySem.W.codeIn K cd "kept_away" = true) (k : PySem.W.keepIn K (.ref f) = true) : TopFn K mg "kept_away" s_kept_away p_kept_away :=
  ⟨f, _, fun_mk l c k, PySem.W.mg_of X G a, (fun_mk (st := s_kept_away) l c k).binds (ps := p_kept_away) fun _ _ _ _ _ _ us hl => match us, hl with | [_, _, _], _ => rfl⟩
theorem tf_home_nearest (X : K.In h) (G : h.Ns mainGlobals mg) (a : PySem.W.nsIn K mainGlobals "home_nearest" = some (some (.ref f))) (l : K.lookup f = some ⟨oc, od, .func (PySem.W.fnOf "home_nearest" "home_nearest" (defArgs s_home_nearest) (defBody s_home_nearest) (defScope s_home_nearest) .none kV dc pm an cd ct), sl⟩) (c : PySem.W.codeIn K cd "home_nearest" = true) (k : PySem.W.keepIn K (.ref f) = true) : TopFn K mg "home_nearest" s_home_nearest p_home_nearest :=
  ⟨f, _, fun_mk l c k, PySem.W.mg_of X G a, (fun_mk (st := s_home_nearest) l c k).binds (ps := p_home_nearest) fun _ _ _ _ _ _ us hl => match us, hl with | [_, _, _], _ => rfl⟩
theorem tf_law_pot (X : K.In h) (G : h.Ns mainGlobals mg) (a : PySem.W.nsIn K mainGlobals "_law_pot" = some (some (.ref f))) (l : K.lookup f = some ⟨oc, od, .func (PySem.W.fnOf "_law_pot" "_law_pot" (defArgs s_law_pot) (defBody s_law_pot) (defScope s_law_pot) .none kV dc pm an cd ct), sl⟩) (c : PySem.W.codeIn K cd "_law_pot" = true) (k : PySem.W.keepIn K (.ref f) = true) : TopFn K mg "_law_pot" s_law_pot p_law_pot :=
  ⟨f, _, fun_mk l c k, PySem.W.mg_of X G a, (fun_mk (st := s_law_pot) l c k).binds (ps := p_law_pot) fun _ _ _ _ _ _ us hl => match us, hl with | [_, _], _ => rfl⟩
theorem tf_law_draw (X : K.In h) (G : h.Ns mainGlobals mg) (a : PySem.W.nsIn K mainGlobals "_law_draw" = some (some (.ref f))) (l : K.lookup f = some ⟨oc, od, .func (PySem.W.fnOf "_law_draw" "_law_draw" (defArgs s_law_draw) (defBody s_law_draw) (defScope s_law_draw) .none kV dc pm an cd ct), sl⟩) (c : PySem.W.codeIn K cd "_law_draw" = true) (k : PySem.W.keepIn K (.ref f) = true) : TopFn K mg "_law_draw" s_law_draw p_law_draw :=
  ⟨f, _, fun_mk l c k, PySem.W.mg_of X G a, (fun_mk (st := s_law_draw) l c k).binds (ps := p_law_draw) fun _ _ _ _ _ _ us hl => match us, hl with | [_, _], _ => rfl⟩
theorem tf_law_drawn (X : K.In h) (G : h.Ns mainGlobals mg) (a : PySem.W.nsIn K mainGlobals "_law_drawn" = some (some (.ref f))) (l : K.lookup f = some ⟨oc, od, .func (PySem.W.fnOf "_law_drawn" "_law_drawn" (defArgs s_law_drawn) (defBody s_law_drawn) (defScope s_law_drawn) .none kV dc pm an cd ct), sl⟩) (c : PySem.W.codeIn K cd "_law_drawn" = true) (k : PySem.W.keepIn K (.ref f) = true) : TopFn K mg "_law_drawn" s_law_drawn p_law_drawn :=
  ⟨f, _, fun_mk l c k, PySem.W.mg_of X G a, (fun_mk (st := s_law_drawn) l c k).binds (ps := p_law_drawn) fun _ _ _ _ _ _ us hl => match us, hl with | [_, _], _ => rfl⟩
theorem tf_law_steps (X : K.In h) (G : h.Ns mainGlobals mg) (a : PySem.W.nsIn K mainGlobals "_law_steps" = some (some (.ref f))) (l : K.lookup f = some ⟨oc, od, .func (PySem.W.fnOf "_law_steps" "_law_steps" (defArgs s_law_steps) (defBody s_law_steps) (defScope s_law_steps) .none kV dc pm an cd ct), sl⟩) (c : PySem.W.codeIn K cd "_law_steps" = true) (k : PySem.W.keepIn K (.ref f) = true) : TopFn K mg "_law_steps" s_law_steps p_law_steps :=
  ⟨f, _, fun_mk l c k, PySem.W.mg_of X G a, (fun_mk (st := s_law_steps) l c k).binds (ps := p_law_steps) fun _ _ _ _ _ _ us hl => match us, hl with | [_], _ => rfl⟩
theorem tf_law_order (X : K.In h) (G : h.Ns mainGlobals mg) (a : PySem.W.nsIn K mainGlobals "_law_order" = some (some (.ref f))) (l : K.lookup f = some ⟨oc, od, .func (PySem.W.fnOf "_law_order" "_law_order" (defArgs s_law_order) (defBody s_law_order) (defScope s_law_order) .none kV dc pm an cd ct), sl⟩) (c : PySem.W.codeIn K cd "_law_order" = true) (k : PySem.W.keepIn K (.ref f) = true) : TopFn K mg "_law_order" s_law_order p_law_order :=
  ⟨f, _, fun_mk l c k, PySem.W.mg_of X G a, (fun_mk (st := s_law_order) l c k).binds (ps := p_law_order) fun _ _ _ _ _ _ us hl => match us, hl with | [_, _], _ => rfl⟩
theorem tf_law_hidden (X : K.In h) (G : h.Ns mainGlobals mg) (a : PySem.W.nsIn K mainGlobals "_law_hidden" = some (some (.ref f))) (l : K.lookup f = some ⟨oc, od, .func (PySem.W.fnOf "_law_hidden" "_law_hidden" (defArgs s_law_hidden) (defBody s_law_hidden) (defScope s_law_hidden) .none kV dc pm an cd ct), sl⟩) (c : PySem.W.codeIn K cd "_law_hidden" = true) (k : PySem.W.keepIn K (.ref f) = true) : TopFn K mg "_law_hidden" s_law_hidden p_law_hidden :=
  ⟨f, _, fun_mk l c k, PySem.W.mg_of X G a, (fun_mk (st := s_law_hidden) l c k).binds (ps := p_law_hidden) fun _ _ _ _ _ _ us hl => match us, hl with | [_, _], _ => rfl⟩
theorem tf_law_heard (X : K.In h) (G : h.Ns mainGlobals mg) (a : PySem.W.nsIn K mainGlobals "_law_heard" = some (some (.ref f))) (l : K.lookup f = some ⟨oc, od, .func (PySem.W.fnOf "_law_heard" "_law_heard" (defArgs s_law_heard) (defBody s_law_heard) (defScope s_law_heard) .none kV dc pm an cd ct), sl⟩) (c : PySem.W.codeIn K cd "_law_heard" = true) (k : PySem.W.keepIn K (.ref f) = true) : TopFn K mg "_law_heard" s_law_heard p_law_heard :=
  ⟨f, _, fun_mk l c k, PySem.W.mg_of X G a, (fun_mk (st := s_law_heard) l c k).binds (ps := p_law_heard) fun _ _ _ _ _ _ us hl => match us, hl with | [_, _, _], _ => rfl⟩
theorem tf_law_folk (X : K.In h) (G : h.Ns mainGlobals mg) (a : PySem.W.nsIn K mainGlobals "_law_folk" = some (some (.ref f))) (l : K.lookup f = some ⟨oc, od, .func (PySem.W.fnOf "_law_folk" "_law_folk" (defArgs s_law_folk) (defBody s_law_folk) (defScope s_law_folk) .none kV dc pm an cd ct), sl⟩) (c : PySem.W.codeIn K cd "_law_folk" = true) (k : PySem.W.keepIn K (.ref f) = true) : TopFn K mg "_law_folk" s_law_folk p_law_folk :=
  ⟨f, _, fun_mk l c k, PySem.W.mg_of X G a, (fun_mk (st := s_law_folk) l c k).binds (ps := p_law_folk) fun _ _ _ _ _ _ us hl => match us, hl with | [_, _], _ => rfl⟩
theorem tf_law_kind (X : K.In h) (G : h.Ns mainGlobals mg) (a : PySem.W.nsIn K mainGlobals "_law_kind" = some (some (.ref f))) (l : K.lookup f = some ⟨oc, od, .func (PySem.W.fnOf "_law_kind" "_law_kind" (defArgs s_law_kind) (defBody s_law_kind) (defScope s_law_kind) .none kV dc pm an cd ct), sl⟩) (c : PySem.W.codeIn K cd "_law_kind" = true) (k : PySem.W.keepIn K (.ref f) = true) : TopFn K mg "_law_kind" s_law_kind p_law_kind :=
  ⟨f, _, fun_mk l c k, PySem.W.mg_of X G a, (fun_mk (st := s_law_kind) l c k).binds (ps := p_law_kind) fun _ _ _ _ _ _ us hl => match us, hl with | [_], _ => rfl⟩
theorem tf_law_asked (X : K.In h) (G : h.Ns mainGlobals mg) (a : PySem.W.nsIn K mainGlobals "_law_asked" = some (some (.ref f))) (l : K.lookup f = some ⟨oc, od, .func (PySem.W.fnOf "_law_asked" "_law_asked" (defArgs s_law_asked) (defBody s_law_asked) (defScope s_law_asked) .none kV dc pm an cd ct), sl⟩) (c : PySem.W.codeIn K cd "_law_asked" = true) (k : PySem.W.keepIn K (.ref f) = true) : TopFn K mg "_law_asked" s_law_asked p_law_asked :=
  ⟨f, _, fun_mk l c k, PySem.W.mg_of X G a, (fun_mk (st := s_law_asked) l c k).binds (ps := p_law_asked) fun _ _ _ _ _ _ us hl => match us, hl with | [_, _, _], _ => rfl⟩
theorem tf_law_right (X : K.In h) (G : h.Ns mainGlobals mg) (a : PySem.W.nsIn K mainGlobals "_law_right" = some (some (.ref f))) (l : K.lookup f = some ⟨oc, od, .func (PySem.W.fnOf "_law_right" "_law_right" (defArgs s_law_right) (defBody s_law_right) (defScope s_law_right) .none kV dc pm an cd ct), sl⟩) (c : PySem.W.codeIn K cd "_law_right" = true) (k : PySem.W.keepIn K (.ref f) = true) : TopFn K mg "_law_right" s_law_right p_law_right :=
  ⟨f, _, fun_mk l c k, PySem.W.mg_of X G a, (fun_mk (st := s_law_right) l c k).binds (ps := p_law_right) fun _ _ _ _ _ _ us hl => match us, hl with | [_, _, _, _], _ => rfl⟩
theorem tm_V_houses (a : PySem.W.findIn K (.ref C) "houses" = some (some (.ref f))) (i : PySem.W.isFn K (.ref f) = true) (l : K.lookup f = some ⟨oc, od, .func (PySem.W.fnOf "houses" "Village.houses" (defArgs s_V_houses) (defBody s_V_houses) (defScope s_V_houses) .none kV dc pm an cd ct), sl⟩) (c : PySem.W.codeIn K cd "Village.houses" = true) (k : PySem.W.keepIn K (.ref f) = true) : TopMt K C "houses" "Village.houses" s_V_houses p_V_houses :=
  ⟨f, _, fun_mk l c k, ⟨a, i, k⟩, (fun_mk (st := s_V_houses) l c k).binds (ps := p_V_houses) fun _ _ _ _ _ _ us hl => match us, hl with | [_], _ => rfl⟩
theorem tm_V_roads (a : PySem.W.findIn K (.ref C) "roads" = some (some (.ref f))) (i : PySem.W.isFn K (.ref f) = true) (l : K.lookup f = some ⟨oc, od, .func (PySem.W.fnOf "roads" "Village.roads" (defArgs s_V_roads) (defBody s_V_roads) (defScope s_V_roads) .none kV dc pm an cd ct), sl⟩) (c : PySem.W.codeIn K cd "Village.roads" = true) (k : PySem.W.keepIn K (.ref f) = true) : TopMt K C "roads" "Village.roads" s_V_roads p_V_roads :=
  ⟨f, _, fun_mk l c k, ⟨a, i, k⟩, (fun_mk (st := s_V_roads) l c k).binds (ps := p_V_roads) fun _ _ _ _ _ _ us hl => match us, hl with | [_], _ => rfl⟩
theorem tm_V_apart (a : PySem.W.findIn K (.ref C) "apart" = some (some (.ref f))) (i : PySem.W.isFn K (.ref f) = true) (l : K.lookup f = some ⟨oc, od, .func (PySem.W.fnOf "apart" "Village.apart" (defArgs s_V_apart) (defBody s_V_apart) (defScope s_V_apart) .none kV dc pm an cd ct), sl⟩) (c : PySem.W.codeIn K cd "Village.apart" = true) (k : PySem.W.keepIn K (.ref f) = true) : TopMt K C "apart" "Village.apart" s_V_apart p_V_apart :=
  ⟨f, _, fun_mk l c k, ⟨a, i, k⟩, (fun_mk (st := s_V_apart) l c k).binds (ps := p_V_apart) fun _ _ _ _ _ _ us hl => match us, hl with | [_, _, _], _ => rfl⟩
theorem tm_V_far (a : PySem.W.findIn K (.ref C) "far" = some (some (.ref f))) (i : PySem.W.isFn K (.ref f) = true) (l : K.lookup f = some ⟨oc, od, .func (PySem.W.fnOf "far" "Village.far" (defArgs s_V_far) (defBody s_V_far) (defScope s_V_far) .none kV dc pm an cd ct), sl⟩) (c : PySem.W.codeIn K cd "Village.far" = true) (k : PySem.W.keepIn K (.ref f) = true) : TopMt K C "far" "Village.far" s_V_far p_V_far :=
  ⟨f, _, fun_mk l c k, ⟨a, i, k⟩, (fun_mk (st := s_V_far) l c k).binds (ps := p_V_far) fun _ _ _ _ _ _ us hl => match us, hl with | [_, _], _ => rfl⟩
theorem tm_V_way (a : PySem.W.findIn K (.ref C) "way" = some (some (.ref f))) (i : PySem.W.isFn K (.ref f) = true) (l : K.lookup f = some ⟨oc, od, .func (PySem.W.fnOf "way" "Village.way" (defArgs s_V_way) (defBody s_V_way) (defScope s_V_way) .none kV dc pm an cd ct), sl⟩) (c : PySem.W.codeIn K cd "Village.way" = true) (k : PySem.W.keepIn K (.ref f) = true) : TopMt K C "way" "Village.way" s_V_way p_V_way :=
  ⟨f, _, fun_mk l c k, ⟨a, i, k⟩, (fun_mk (st := s_V_way) l c k).binds (ps := p_V_way) fun _ _ _ _ _ _ us hl => match us, hl with | [_, _, _], _ => rfl⟩
theorem tm_V_farOf (a : PySem.W.findIn K (.ref C) "_far" = some (some (.ref f))) (i : PySem.W.isFn K (.ref f) = true) (l : K.lookup f = some ⟨oc, od, .func (PySem.W.fnOf "_far" "Village._far" (defArgs s_V_farOf) (defBody s_V_farOf) (defScope s_V_farOf) .none kV dc pm an cd ct), sl⟩) (c : PySem.W.codeIn K cd "Village._far" = true) (k : PySem.W.keepIn K (.ref f) = true) : TopMt K C "_far" "Village._far" s_V_farOf p_V_farOf :=
  ⟨f, _, fun_mk l c k, ⟨a, i, k⟩, (fun_mk (st := s_V_farOf) l c k).binds (ps := p_V_farOf) fun _ _ _ _ _ _ us hl => match us, hl with | [_, _], _ => rfl⟩
theorem tm_R_village (a : PySem.W.findIn K (.ref C) "village" = some (some (.ref f))) (i : PySem.W.isFn K (.ref f) = true) (l : K.lookup f = some ⟨oc, od, .func (PySem.W.fnOf "village" "Reports.village" (defArgs s_R_village) (defBody s_R_village) (defScope s_R_village) .none kV dc pm an cd ct), sl⟩) (c : PySem.W.codeIn K cd "Reports.village" = true) (k : PySem.W.keepIn K (.ref f) = true) : TopMt K C "village" "Reports.village" s_R_village p_R_village :=
  ⟨f, _, fun_mk l c k, ⟨a, i, k⟩, (fun_mk (st := s_R_village) l c k).binds (ps := p_R_village) fun _ _ _ _ _ _ us hl => match us, hl with | [_], _ => rfl⟩
theorem tm_R_tell (a : PySem.W.findIn K (.ref C) "tell" = some (some (.ref f))) (i : PySem.W.isFn K (.ref f) = true) (l : K.lookup f = some ⟨oc, od, .func (PySem.W.fnOf "tell" "Reports.tell" (defArgs s_R_tell) (defBody s_R_tell) (defScope s_R_tell) .none kV dc pm an cd ct), sl⟩) (c : PySem.W.codeIn K cd "Reports.tell" = true) (k : PySem.W.keepIn K (.ref f) = true) : TopMt K C "tell" "Reports.tell" s_R_tell p_R_tell :=
  ⟨f, _, fun_mk l c k, ⟨a, i, k⟩, (fun_mk (st := s_R_tell) l c k).binds (ps := p_R_tell) fun _ _ _ _ _ _ us hl => match us, hl with | [_, _, _], _ => rfl⟩
theorem tm_R_reports (a : PySem.W.findIn K (.ref C) "reports" = some (some (.ref f))) (i : PySem.W.isFn K (.ref f) = true) (l : K.lookup f = some ⟨oc, od, .func (PySem.W.fnOf "reports" "Reports.reports" (defArgs s_R_reports) (defBody s_R_reports) (defScope s_R_reports) .none kV dc pm an cd ct), sl⟩) (c : PySem.W.codeIn K cd "Reports.reports" = true) (k : PySem.W.keepIn K (.ref f) = true) : TopMt K C "reports" "Reports.reports" s_R_reports p_R_reports :=
  ⟨f, _, fun_mk l c k, ⟨a, i, k⟩, (fun_mk (st := s_R_reports) l c k).binds (ps := p_R_reports) fun _ _ _ _ _ _ us hl => match us, hl with | [_], _ => rfl⟩
theorem tfk_least_move (X : K.In h) (G : h.Ns mainGlobals mg) (a : PySem.W.nsIn K mainGlobals "least_move" = some (some (.ref f))) (l : K.lookup f = some ⟨oc, od, .func (PySem.W.fnOf "least_move" "least_move" (defArgs s_least_move) (defBody s_least_move) (defScope s_least_move) .none kV dc pm an cd ct), sl⟩) (c : PySem.W.codeIn K cd "least_move" = true) (k : PySem.W.keepIn K (.ref f) = true) : ∃ f fd, Fun K "least_move" "least_move" s_least_move f fd ∧ mg "least_move" = some (.ref f) ∧ PySem.W.keepIn K (.ref f) = true ∧ Binds K fd p_least_move [] ∧ KBn K fd p_least_move 0 ["x", "reports"] (fun _ ws => swap2 ws) (fun _ zs => swap2 zs) :=
  ⟨f, _, fun_mk l c k, PySem.W.mg_of X G a, k, (fun_mk (st := s_least_move) l c k).binds (ps := p_least_move) fun _ _ _ _ _ _ us hl => match us, hl with | [_, _], _ => rfl,
    ⟨fun s us ws _ h1 h2 => match us, h1, ws, h2 with | [], _, [_, _], _ => .of_eq rfl, fun _ r2 => swap2_vals r2⟩⟩
theorem tfk_nearest (X : K.In h) (G : h.Ns mainGlobals mg) (a : PySem.W.nsIn K mainGlobals "nearest" = some (some (.ref f))) (l : K.lookup f = some ⟨oc, od, .func (PySem.W.fnOf "nearest" "nearest" (defArgs s_nearest) (defBody s_nearest) (defScope s_nearest) .none kV dc pm an cd ct), sl⟩) (c : PySem.W.codeIn K cd "nearest" = true) (k : PySem.W.keepIn K (.ref f) = true) : ∃ f fd, Fun K "nearest" "nearest" s_nearest f fd ∧ mg "nearest" = some (.ref f) ∧ PySem.W.keepIn K (.ref f) = true ∧ Binds K fd p_nearest [] ∧ KBn K fd p_nearest 0 ["t", "reports"] (fun _ ws => swap2 ws) (fun _ zs => swap2 zs) :=
  ⟨f, _, fun_mk l c k, PySem.W.mg_of X G a, k, (fun_mk (st := s_nearest) l c k).binds (ps := p_nearest) fun _ _ _ _ _ _ us hl => match us, hl with | [_, _], _ => rfl,
    ⟨fun s us ws _ h1 h2 => match us, h1, ws, h2 with | [], _, [_, _], _ => .of_eq rfl, fun _ r2 => swap2_vals r2⟩⟩
abbrev s_NoHouse_init : Stmt := inClass (top 9) 0
theorem xe_NoHouse : ∃ (t : Str) (p0 p1 p2 p3 p4 p5 p6 p7 p8 p9 p10 p11 p12 : Pos) (j : Nat), ExcE "NoHouse.__init__" s_NoHouse_init t p0 p1 p2 p3 p4 p5 p6 p7 p8 p9 p10 p11 p12 j :=
  ⟨_, _, _, _, _, _, _, _, _, _, _, _, _, _, _, ⟨rfl, by decide +kernel, by decide +kernel, rfl, fun _ _ _ _ => rfl, fun _ _ _ _ => rfl, fun _ _ _ _ => ⟨_, rfl⟩, fun _ _ _ _ => rfl⟩⟩
end
theorem all_mk {l : PySem.W.OpenLaw} {w : World} {K : PySem.W.Frag} {h : Heap} {mg : Str → Option Value} {fa CV CR CE cNoRoad cNoHouse cClash cNoReport cNoTale cNoDays cNoText f4 : Addr} {od4 an4 : Option Addr} {sl4 : Array (Option Value)} {oc4 kV4 dc4 pm4 cd4 ct4 : Value} (X : K.In h) (G : h.Ns mainGlobals mg) (hfa : mg "law" = some (.ref fa))
    (TV1 : TV K mg CV) (TK : TopMkK K CV)
    (TR1 : TV K mg CV → TR K mg CV CR) (TK2 : TopMk K CR "Reports.__init__" s_R_init p_R_init)
    (F_is_house : TopFn K mg "is_house" s_is_house p_is_house)
    (F_need_houses : TopFn K mg "need_houses" s_need_houses p_need_houses)
    (F_head_of : TopFn K mg "head_of" s_head_of p_head_of)
    (F_roads_in_order : TopFn K mg "roads_in_order" s_roads_in_order p_roads_in_order)
    (F_next_doors : TopFn K mg "next_doors" s_next_doors p_next_doors)
    (F_far_from : TopFn K mg "far_from" s_far_from p_far_from)
    (F_too_far : TopFn K mg "too_far" s_too_far p_too_far)
    (F_kept_away : TopFn K mg "kept_away" s_kept_away p_kept_away)
    (F_home_nearest : TopFn K mg "home_nearest" s_home_nearest p_home_nearest)
    (F_law_pot : TopFn K mg "_law_pot" s_law_pot p_law_pot)
    (F_law_draw : TopFn K mg "_law_draw" s_law_draw p_law_draw)
    (F_law_drawn : TopFn K mg "_law_drawn" s_law_drawn p_law_drawn)
    (F_law_steps : TopFn K mg "_law_steps" s_law_steps p_law_steps)
    (F_law_order : TopFn K mg "_law_order" s_law_order p_law_order)
    (F_law_hidden : TopFn K mg "_law_hidden" s_law_hidden p_law_hidden)
    (F_law_heard : TopFn K mg "_law_heard" s_law_heard p_law_heard)
    (F_law_folk : TopFn K mg "_law_folk" s_law_folk p_law_folk)
    (F_law_kind : TopFn K mg "_law_kind" s_law_kind p_law_kind)
    (F_law_asked : TopFn K mg "_law_asked" s_law_asked p_law_asked)
    (F_law_right : TopFn K mg "_law_right" s_law_right p_law_right)
    (FK_least_move : ∃ f fd, Fun K "least_move" "least_move" s_least_move f fd ∧ mg "least_move" = some (.ref f) ∧ PySem.W.keepIn K (.ref f) = true ∧ Binds K fd p_least_move [] ∧ KBn K fd p_least_move 0 ["x", "reports"] (fun _ ws => swap2 ws) (fun _ zs => swap2 zs))
    (FK_nearest : ∃ f fd, Fun K "nearest" "nearest" s_nearest f fd ∧ mg "nearest" = some (.ref f) ∧ PySem.W.keepIn K (.ref f) = true ∧ Binds K fd p_nearest [] ∧ KBn K fd p_nearest 0 ["t", "reports"] (fun _ ws => swap2 ws) (fun _ zs => swap2 zs))
    (M_V_houses : TopMt K CV "houses" "Village.houses" s_V_houses p_V_houses)
    (M_V_roads : TopMt K CV "roads" "Village.roads" s_V_roads p_V_roads)
    (M_V_apart : TopMt K CV "apart" "Village.apart" s_V_apart p_V_apart)
    (M_V_far : TopMt K CV "far" "Village.far" s_V_far p_V_far)
    (M_V_way : TopMt K CV "way" "Village.way" s_V_way p_V_way)
    (M_V_farOf : TopMt K CV "_far" "Village._far" s_V_farOf p_V_farOf)
    (M_R_village : TopMt K CR "village" "Reports.village" s_R_village p_R_village)
    (M_R_tell : TopMt K CR "tell" "Reports.tell" s_R_tell p_R_tell)
    (M_R_reports : TopMt K CR "reports" "Reports.reports" s_R_reports p_R_reports)
    (XT : XTab K mg CE cNoRoad cNoHouse cClash cNoReport cNoTale cNoDays cNoText)
    (DX_NoHouse : (∀ (w : World) (base : Heap), DexC l.prog w K mg base "NoHouse" cNoHouse) ∧ mg "NoHouse" = some (.ref cNoHouse))
    (XC_NoHouse : XCau K CE [cClash, cNoDays, cNoReport, cNoRoad, cNoTale, cNoText] cNoHouse)
    (a4 : PySem.W.nsIn K mainGlobals "law" = some (some (.ref f4))) (l4 : K.lookup f4 = some ⟨oc4, od4, .func (PySem.W.fnOf "law" "law" (defArgs s_law) (defBody s_law) (defScope s_law) .none kV4 dc4 pm4 an4 cd4 ct4), sl4⟩) (c4 : PySem.W.codeIn K cd4 "law" = true) (k4 : PySem.W.keepIn K (.ref f4) = true) :
    ∃ fd : FuncData, (∀ (s : Shared) (v : Value), BindsTo s fd ⟨[v], []⟩ [("script", v)]) ∧ ∀ base : Heap, K.In base → base.Ns mainGlobals mg → FnOk l.prog w K mg base CX0 10 fa fd ["script"] (toSp K c_law) := by
  have e := hfa.symm.trans (PySem.W.mg_of X G a4)
  cases e
  refine ⟨PySem.W.fnOf "law" "law" (defArgs s_law) (defBody s_law) (defScope s_law) .none kV4 dc4 pm4 an4 cd4 ct4, fun s v => .of_eq rfl, fun base _ _ => ?_⟩
  have T := TR1 TV1
  have B := T.toBt
  obtain ⟨f2, fd2, K5, K6, K7⟩ := TK2
  obtain ⟨f0, fd0, g0, K1, K2, K3, K4⟩ := TK
  have h1 := ok_is_house (P := l.prog) (w := w) (base := base) F_is_house
  have h2 := ok_head (P := l.prog) (w := w) (base := base) B F_head_of
  have h3 := ok_rio (P := l.prog) (w := w) (base := base) B F_roads_in_order h1 h2
  have h4 := ok_doors (P := l.prog) (w := w) (base := base) B F_next_doors
  have h5 := ok_far (P := l.prog) (w := w) (base := base) B F_far_from
  have m1 := ok_houses (P := l.prog) (w := w) (base := base) T.toTV M_V_houses
  have m0 := ok_vf (P := l.prog) (w := w) (base := base) T.toTV M_V_farOf h5
  have h6 := ok_need (P := l.prog) (w := w) (base := base) T.toTV F_need_houses h1 m1
  have h7 := vinit_at (P := l.prog) (w := w) (base := base) T.toTV K1 h3 h4
  have m2 := ok_roads (P := l.prog) (w := w) (base := base) T.toTV M_V_roads
  have m3 := ok_apart (P := l.prog) (w := w) (base := base) T.toTV M_V_apart h6 m0
  have m4 := ok_vfar (P := l.prog) (w := w) (base := base) T.toTV M_V_far h6 m0
  have m5 := ok_way (P := l.prog) (w := w) (base := base) T.toTV M_V_way m1 m3 m0
  have x6 := ok_needO (P := l.prog) (w := w) (base := base) T.toTV F_need_houses h1 m1 (DX_NoHouse.1 w base)
  have x4 := ok_vfarO (P := l.prog) (w := w) (base := base) T.toTV M_V_far x6 m0
  have r0 := rinit_at (P := l.prog) (w := w) (base := base) T K5 ⟨f0, fd0, h7, K2, K3⟩ m2
  have r1 := ok_toofar (P := l.prog) (w := w) (base := base) T.toTV F_too_far m4
  have r2 := ok_rvil (P := l.prog) (w := w) (base := base) T M_R_village
  have r3 := ok_rreps (P := l.prog) (w := w) (base := base) T M_R_reports
  have r4 := ok_rtell (P := l.prog) (w := w) (base := base) T M_R_tell h6 r1
  have r6 := ok_kept (P := l.prog) (w := w) (base := base) T F_kept_away r2 r3 m4
  have y6 := ok_keptY (P := l.prog) (w := w) (base := base) T F_kept_away r2 r3 x4
  have r7 := ok_homen (P := l.prog) (w := w) (base := base) T F_home_nearest r6 r2 m5
  have y7 := ok_homenY (P := l.prog) (w := w) (base := base) T F_home_nearest y6 r2 m5
  obtain ⟨ft, fdt, t1, t2, t3, t4, t5⟩ := FK_least_move
  have t6 := fn_least (P := l.prog) (w := w) (base := base) T t1 r6
  have t7 := at_leastY (P := l.prog) (w := w) (base := base) T t1 y6
  have t8 := FnOk.or (FnOk.cx (FnOk.mono (j := 5) (k := 7) t6 (by decide))) (FnOk.mono (j := 6) (k := 7) t7 (by decide))
  obtain ⟨fn, fdn, n1, n2, n3, n4, n5⟩ := FK_nearest
  have n6 := fn_near (P := l.prog) (w := w) (base := base) T n1 r7 r2 m1
  have n7 := at_nearY (P := l.prog) (w := w) (base := base) T n1 y7 r2 m1
  have n8 := FnOk.or (FnOk.cx (FnOk.mono (j := 6) (k := 7) n6 (by decide))) n7
  have a1 := ok_pdraw (P := l.prog) (w := w) (base := base) B F_law_draw
  have a2 := ok_pot (P := l.prog) (w := w) (base := base) B F_law_pot
  have a3 := ok_drawn (P := l.prog) (w := w) (base := base) B F_law_drawn a1
  have a4 := ok_steps (P := l.prog) (w := w) (base := base) B F_law_steps
  have a5 := ok_order (P := l.prog) (w := w) (base := base) B F_law_order a1
  have a6 := ok_hidden (P := l.prog) (w := w) (base := base) B F_law_hidden a1 a5
  have a7 := ok_heard (P := l.prog) (w := w) (base := base) B F_law_heard a1
  have a8 := ok_folk (P := l.prog) (w := w) (base := base) T F_law_folk ⟨f0, fd0, h7, K2, K3⟩ ⟨f2, fd2, r0, K6, K7⟩ r4
  have b1 := ok_mkind (P := l.prog) (w := w) (base := base) B XT XC_NoHouse F_law_kind
  have b2 := ok_masked (P := l.prog) (w := w) (base := base) T XT XC_NoHouse F_law_asked b1 ⟨ft, fdt, t8, t2, t3, t4⟩ ⟨ft, fdt, t8, t2, t3, t5⟩ ⟨fn, fdn, n8, n2, n3, n4⟩ ⟨fn, fdn, n8, n2, n3, n5⟩
  have b3 := ok_mright (P := l.prog) (w := w) (base := base) T F_law_right a1 b2 r3
  exact ok_law T (fun_mk l4 c4 k4) a2 a1 a3 a4 a6 a7 a8 b3
theorem law_start {K : PySem.W.Frag} {H : Hp} {a : Addr} {ns : List Int} (hl : ns.length ≤ 63) (hS : SqL K H a (ns.map V.int)) : toSp K c_law [.ref a] H (fun v _ => v = .bl true) fun _ _ _ => False :=
  ⟨noT H, fun _ => none, [.scr ns], fun d _ => d = .bl true, noX, Good.start, .one (.scr (SqL.noT hS)), ⟨ns, rfl, hl, fun _ => rfl⟩, fun d G' v F' H' e l g i => by
    subst e
    cases i
    rfl, contX_no⟩
theorem walk {l : PySem.W.OpenLaw} {q : Program} {loose : List Str} {XP : (Str → Option Value) → Heap → Prop} {YP : World → Heap → Prop} {d : DefRec} {K : Params → PySem.W.Frag} (hn : l.most = some 63) (hdf : d.params.defaults = [])
    (hY : ∀ (w : World) (h : Heap), YP w h → (K w.params).In h)
    (F : ∀ (w : World) (mg : Str → Option Value) (fa : Addr) (h : Heap), (K w.params).In h → h.Ns mainGlobals mg → mg d.name = some (.ref fa) →
      ∃ fd : FuncData, (∀ (s : Shared) (u : Value), BindsTo s fd ⟨[u], []⟩ [("script", u)]) ∧ ∀ base : Heap, (K w.params).In base → base.Ns mainGlobals mg → FnOk l.prog w (K w.params) mg base CX0 10 fa fd ["script"] (toSp (K w.params) c_law)) :
    PySem.W.WalkO q loose XP YP l.row.toRowW d [] (fun f vs => PySem.call f vs) :=
  L2.walk_of (n := 63) (k := 10) (x := "script") (CX := fun _ => CX0) (sp := fun w => toSp (K w.params) c_law) hn (by decide) hdf ⟨rfl, by decide, by decide⟩ hY F (fun _ _ a ns hl _ hS => law_start hl hS) fun _ _ _ _ _ z => z
end V

set_option Elab.async false
set_option linter.all false
open PySem PySem.W PyProof.Rows
set_option maxRecDepth 100000 in
set_option maxHeartbeats 0 in
theorem PySem.Challenge.cw_movedays_k21_moves_refused_holds : PySem.Challenge.rw_movedays_k21_moves_refused.Holds := by
  w_on; o_law; k_head; (case hw => w_witness2)
  k_fill
  refine V.walk (l := PySem.Challenge.rw_movedays_k21_moves_refused) rfl rfl (fun w h Y => PySem.W.kIn_of Y) ?F
  case F =>
    intro w mg fa h KX G hmg
    refine' V.all_mk KX G hmg (V.tv_V KX G ?aCV ?pgV ?hdV ?poV ?saV ?n1V ?n2V ?n3V ?haV ?hnV ?htV ?hmV ?iCV ?tCV ?kNV ?kIV ?kLV ?kDV ?fNV ?fIV ?fLV ?fDV ?b_lenV ?b_rangeV ?b_listV ?b_tupleV ?b_minV ?b_maxV ?b_sumV ?b_sortedV ?b_allV ?b_anyV ?b_absV ?b_isinstanceV ?b_enumerateV ?b_zipV ?b_setV ?b_dictV ?b_intV ?b_boolV ?b_strV)
      (V.tk_V ?mkV ?kcV ?aIV ?iIV ?lIV ?cIV ?kI2V)
      (V.tr_R KX G ?aCR ?pgR ?hdR ?poR ?saR ?n1R ?n2R)
      (V.tk_R ?mkR ?kcR ?aIR ?iIR ?lIR ?cIR ?kI2R)
      (V.tf_is_house KX G ?af0 ?lf0 ?cf0 ?kf0)
      (V.tf_need_houses KX G ?af1 ?lf1 ?cf1 ?kf1)
      (V.tf_head_of KX G ?af2 ?lf2 ?cf2 ?kf2)
      (V.tf_roads_in_order KX G ?af3 ?lf3 ?cf3 ?kf3)
      (V.tf_next_doors KX G ?af4 ?lf4 ?cf4 ?kf4)
      (V.tf_far_from KX G ?af5 ?lf5 ?cf5 ?kf5)
      (V.tf_too_far KX G ?af6 ?lf6 ?cf6 ?kf6)
      (V.tf_kept_away KX G ?af7 ?lf7 ?cf7 ?kf7)
      (V.tf_home_nearest KX G ?af8 ?lf8 ?cf8 ?kf8)
      (V.tf_law_pot KX G ?af9 ?lf9 ?cf9 ?kf9)
      (V.tf_law_draw KX G ?af10 ?lf10 ?cf10 ?kf10)
      (V.tf_law_drawn KX G ?af11 ?lf11 ?cf11 ?kf11)
      (V.tf_law_steps KX G ?af12 ?lf12 ?cf12 ?kf12)
      (V.tf_law_order KX G ?af13 ?lf13 ?cf13 ?kf13)
      (V.tf_law_hidden KX G ?af14 ?lf14 ?cf14 ?kf14)
      (V.tf_law_heard KX G ?af15 ?lf15 ?cf15 ?kf15)
      (V.tf_law_folk KX G ?af16 ?lf16 ?cf16 ?kf16)
      (V.tf_law_kind KX G ?af17 ?lf17 ?cf17 ?kf17)
      (V.tf_law_asked KX G ?af18 ?lf18 ?cf18 ?kf18)
      (V.tf_law_right KX G ?af19 ?lf19 ?cf19 ?kf19)
      (V.tfk_least_move KX G ?ak0 ?lk0 ?ck0 ?kk0)
      (V.tfk_nearest KX G ?ak1 ?lk1 ?ck1 ?kk1)
      (V.tm_V_houses ?am0 ?im0 ?lm0 ?cm0 ?km0)
      (V.tm_V_roads ?am1 ?im1 ?lm1 ?cm1 ?km1)
      (V.tm_V_apart ?am2 ?im2 ?lm2 ?cm2 ?km2)
      (V.tm_V_far ?am3 ?im3 ?lm3 ?cm3 ?km3)
      (V.tm_V_way ?am4 ?im4 ?lm4 ?cm4 ?km4)
      (V.tm_V_farOf ?am5 ?im5 ?lm5 ?cm5 ?km5)
      (V.tm_R_village ?am6 ?im6 ?lm6 ?cm6 ?km6)
      (V.tm_R_tell ?am7 ?im7 ?lm7 ?cm7 ?km7)
      (V.tm_R_reports ?am8 ?im8 ?lm8 ?cm8 ?km8)
      (V.xtab_mk KX G ?xE ?xV ?x1 ?x2 ?x3 ?x4 ?x5 ?x6 ?x7)
      (V.dexc_mk V.xe_NoHouse KX G ?aNoHouse ?c1_NoHouse ?c2_NoHouse ?c3_NoHouse ?c4_NoHouse ?c5_NoHouse ?c6_NoHouse ?i1_NoHouse ?i2_NoHouse ?i3_NoHouse ?i4_NoHouse ?i5_NoHouse ?i6_NoHouse ?i7_NoHouse ?i8_NoHouse ?s1_NoHouse ?s2_NoHouse ?s3_NoHouse ?s4_NoHouse ?s5_NoHouse ?s6_NoHouse ?s7_NoHouse ?hbNoHouse)
      (V.xcau_mk ?g1NoHouse ?g2NoHouse ?g3NoHouse ?g4NoHouse ?g5NoHouse ?g6NoHouse ?g7NoHouse ?g8NoHouse ?g9NoHouse ?h1NoHouse ?h2NoHouse ?h3NoHouse ?h4NoHouse ?h5NoHouse (DL.kits_cons (V.kit_noR ?neNoHouseClash ?iyNoHouseClash ?tyNoHouseClash ?syNoHouseClash) (DL.kits_cons (V.kit_noR ?neNoHouseNoDays ?iyNoHouseNoDays ?tyNoHouseNoDays ?syNoHouseNoDays) (DL.kits_cons (V.kit_noR ?neNoHouseNoReport ?iyNoHouseNoReport ?tyNoHouseNoReport ?syNoHouseNoReport) (DL.kits_cons (V.kit_noR ?neNoHouseNoRoad ?iyNoHouseNoRoad ?tyNoHouseNoRoad ?syNoHouseNoRoad) (DL.kits_cons (V.kit_noR ?neNoHouseNoTale ?iyNoHouseNoTale ?tyNoHouseNoTale ?syNoHouseNoTale) (DL.kits_cons (V.kit_noR ?neNoHouseNoText ?iyNoHouseNoText ?tyNoHouseNoText ?syNoHouseNoText) DL.kits_nil)))))))
      ?a4
      ?l4
      ?c4
      ?k4
    (case aCV => first | k_is | rfl | decide +kernel)
    (case pgV => first | k_is | rfl | decide +kernel)
    (case hdV => first | k_is | rfl | decide +kernel)
    (case poV => first | k_is | rfl | decide +kernel)
    (case saV => first | k_is | rfl | decide +kernel)
    (case n1V => first | k_is | rfl | decide +kernel)
    (case n2V => first | k_is | rfl | decide +kernel)
    (case n3V => first | k_is | rfl | decide +kernel)
    (case haV => first | k_is | rfl | decide +kernel)
    (case hnV => first | k_is | rfl | decide +kernel)
    (case htV => first | k_is | rfl | decide +kernel)
    (case hmV => first | k_is | rfl | decide +kernel)
    (case iCV => first | k_is | rfl | decide +kernel)
    (case tCV => first | k_is | rfl | decide +kernel)
    (case kNV => first | k_is | rfl | decide +kernel)
    (case kIV => first | k_is | rfl | decide +kernel)
    (case kLV => first | k_is | rfl | decide +kernel)
    (case kDV => first | k_is | rfl | decide +kernel)
    (case fNV => first | k_is | rfl | decide +kernel)
    (case fIV => first | k_is | rfl | decide +kernel)
    (case fLV => first | k_is | rfl | decide +kernel)
    (case fDV => first | k_is | rfl | decide +kernel)
    (case b_lenV => first | k_is | rfl | decide +kernel)
    (case b_rangeV => first | k_is | rfl | decide +kernel)
    (case b_listV => first | k_is | rfl | decide +kernel)
    (case b_tupleV => first | k_is | rfl | decide +kernel)
    (case b_minV => first | k_is | rfl | decide +kernel)
    (case b_maxV => first | k_is | rfl | decide +kernel)
    (case b_sumV => first | k_is | rfl | decide +kernel)
    (case b_sortedV => first | k_is | rfl | decide +kernel)
    (case b_allV => first | k_is | rfl | decide +kernel)
    (case b_anyV => first | k_is | rfl | decide +kernel)
    (case b_absV => first | k_is | rfl | decide +kernel)
    (case b_isinstanceV => first | k_is | rfl | decide +kernel)
    (case b_enumerateV => first | k_is | rfl | decide +kernel)
    (case b_zipV => first | k_is | rfl | decide +kernel)
    (case b_setV => first | k_is | rfl | decide +kernel)
    (case b_dictV => first | k_is | rfl | decide +kernel)
    (case b_intV => first | k_is | rfl | decide +kernel)
    (case b_boolV => first | k_is | rfl | decide +kernel)
    (case b_strV => first | k_is | rfl | decide +kernel)
    (case mkV => first | k_is | rfl | decide +kernel)
    (case kcV => first | k_is | rfl | decide +kernel)
    (case aIV => first | k_is | rfl | decide +kernel)
    (case iIV => first | k_is | rfl | decide +kernel)
    (case lIV => first | k_is | rfl | decide +kernel)
    (case cIV => first | k_is | rfl | decide +kernel)
    (case kI2V => first | k_is | rfl | decide +kernel)
    (case aCR => first | k_is | rfl | decide +kernel)
    (case pgR => first | k_is | rfl | decide +kernel)
    (case hdR => first | k_is | rfl | decide +kernel)
    (case poR => first | k_is | rfl | decide +kernel)
    (case saR => first | k_is | rfl | decide +kernel)
    (case n1R => first | k_is | rfl | decide +kernel)
    (case n2R => first | k_is | rfl | decide +kernel)
    (case mkR => first | k_is | rfl | decide +kernel)
    (case kcR => first | k_is | rfl | decide +kernel)
    (case aIR => first | k_is | rfl | decide +kernel)
    (case iIR => first | k_is | rfl | decide +kernel)
    (case lIR => first | k_is | rfl | decide +kernel)
    (case cIR => first | k_is | rfl | decide +kernel)
    (case kI2R => first | k_is | rfl | decide +kernel)
    (case af0 => first | k_is | rfl | decide +kernel)
    (case lf0 => first | k_is | rfl | decide +kernel)
    (case cf0 => first | k_is | rfl | decide +kernel)
    (case kf0 => first | k_is | rfl | decide +kernel)
    (case af1 => first | k_is | rfl | decide +kernel)
    (case lf1 => first | k_is | rfl | decide +kernel)
    (case cf1 => first | k_is | rfl | decide +kernel)
    (case kf1 => first | k_is | rfl | decide +kernel)
    (case af2 => first | k_is | rfl | decide +kernel)
    (case lf2 => first | k_is | rfl | decide +kernel)
    (case cf2 => first | k_is | rfl | decide +kernel)
    (case kf2 => first | k_is | rfl | decide +kernel)
    (case af3 => first | k_is | rfl | decide +kernel)
    (case lf3 => first | k_is | rfl | decide +kernel)
    (case cf3 => first | k_is | rfl | decide +kernel)
    (case kf3 => first | k_is | rfl | decide +kernel)
    (case af4 => first | k_is | rfl | decide +kernel)
    (case lf4 => first | k_is | rfl | decide +kernel)
    (case cf4 => first | k_is | rfl | decide +kernel)
    (case kf4 => first | k_is | rfl | decide +kernel)
    (case af5 => first | k_is | rfl | decide +kernel)
    (case lf5 => first | k_is | rfl | decide +kernel)
    (case cf5 => first | k_is | rfl | decide +kernel)
    (case kf5 => first | k_is | rfl | decide +kernel)
    (case af6 => first | k_is | rfl | decide +kernel)
    (case lf6 => first | k_is | rfl | decide +kernel)
    (case cf6 => first | k_is | rfl | decide +kernel)
    (case kf6 => first | k_is | rfl | decide +kernel)
    (case af7 => first | k_is | rfl | decide +kernel)
    (case lf7 => first | k_is | rfl | decide +kernel)
    (case cf7 => first | k_is | rfl | decide +kernel)
    (case kf7 => first | k_is | rfl | decide +kernel)
    (case af8 => first | k_is | rfl | decide +kernel)
    (case lf8 => first | k_is | rfl | decide +kernel)
    (case cf8 => first | k_is | rfl | decide +kernel)
    (case kf8 => first | k_is | rfl | decide +kernel)
    (case af9 => first | k_is | rfl | decide +kernel)
    (case lf9 => first | k_is | rfl | decide +kernel)
    (case cf9 => first | k_is | rfl | decide +kernel)
    (case kf9 => first | k_is | rfl | decide +kernel)
    (case af10 => first | k_is | rfl | decide +kernel)
    (case lf10 => first | k_is | rfl | decide +kernel)
    (case cf10 => first | k_is | rfl | decide +kernel)
    (case kf10 => first | k_is | rfl | decide +kernel)
    (case af11 => first | k_is | rfl | decide +kernel)
    (case lf11 => first | k_is | rfl | decide +kernel)
    (case cf11 => first | k_is | rfl | decide +kernel)
    (case kf11 => first | k_is | rfl | decide +kernel)
    (case af12 => first | k_is | rfl | decide +kernel)
    (case lf12 => first | k_is | rfl | decide +kernel)
    (case cf12 => first | k_is | rfl | decide +kernel)
    (case kf12 => first | k_is | rfl | decide +kernel)
    (case af13 => first | k_is | rfl | decide +kernel)
    (case lf13 => first | k_is | rfl | decide +kernel)
    (case cf13 => first | k_is | rfl | decide +kernel)
    (case kf13 => first | k_is | rfl | decide +kernel)
    (case af14 => first | k_is | rfl | decide +kernel)
    (case lf14 => first | k_is | rfl | decide +kernel)
    (case cf14 => first | k_is | rfl | decide +kernel)
    (case kf14 => first | k_is | rfl | decide +kernel)
    (case af15 => first | k_is | rfl | decide +kernel)
    (case lf15 => first | k_is | rfl | decide +kernel)
    (case cf15 => first | k_is | rfl | decide +kernel)
    (case kf15 => first | k_is | rfl | decide +kernel)
    (case af16 => first | k_is | rfl | decide +kernel)
    (case lf16 => first | k_is | rfl | decide +kernel)
    (case cf16 => first | k_is | rfl | decide +kernel)
    (case kf16 => first | k_is | rfl | decide +kernel)
    (case af17 => first | k_is | rfl | decide +kernel)
    (case lf17 => first | k_is | rfl | decide +kernel)
    (case cf17 => first | k_is | rfl | decide +kernel)
    (case kf17 => first | k_is | rfl | decide +kernel)
    (case af18 => first | k_is | rfl | decide +kernel)
    (case lf18 => first | k_is | rfl | decide +kernel)
    (case cf18 => first | k_is | rfl | decide +kernel)
    (case kf18 => first | k_is | rfl | decide +kernel)
    (case af19 => first | k_is | rfl | decide +kernel)
    (case lf19 => first | k_is | rfl | decide +kernel)
    (case cf19 => first | k_is | rfl | decide +kernel)
    (case kf19 => first | k_is | rfl | decide +kernel)
    (case ak0 => first | k_is | rfl | decide +kernel)
    (case lk0 => first | k_is | rfl | decide +kernel)
    (case ck0 => first | k_is | rfl | decide +kernel)
    (case kk0 => first | k_is | rfl | decide +kernel)
    (case ak1 => first | k_is | rfl | decide +kernel)
    (case lk1 => first | k_is | rfl | decide +kernel)
    (case ck1 => first | k_is | rfl | decide +kernel)
    (case kk1 => first | k_is | rfl | decide +kernel)
    (case am0 => first | k_is | rfl | decide +kernel)
    (case im0 => first | k_is | rfl | decide +kernel)
    (case lm0 => first | k_is | rfl | decide +kernel)
    (case cm0 => first | k_is | rfl | decide +kernel)
    (case km0 => first | k_is | rfl | decide +kernel)
    (case am1 => first | k_is | rfl | decide +kernel)
    (case im1 => first | k_is | rfl | decide +kernel)
    (case lm1 => first | k_is | rfl | decide +kernel)
    (case cm1 => first | k_is | rfl | decide +kernel)
    (case km1 => first | k_is | rfl | decide +kernel)
    (case am2 => first | k_is | rfl | decide +kernel)
    (case im2 => first | k_is | rfl | decide +kernel)
    (case lm2 => first | k_is | rfl | decide +kernel)
    (case cm2 => first | k_is | rfl | decide +kernel)
    (case km2 => first | k_is | rfl | decide +kernel)
    (case am3 => first | k_is | rfl | decide +kernel)
    (case im3 => first | k_is | rfl | decide +kernel)
    (case lm3 => first | k_is | rfl | decide +kernel)
    (case cm3 => first | k_is | rfl | decide +kernel)
    (case km3 => first | k_is | rfl | decide +kernel)
    (case am4 => first | k_is | rfl | decide +kernel)
    (case im4 => first | k_is | rfl | decide +kernel)
    (case lm4 => first | k_is | rfl | decide +kernel)
    (case cm4 => first | k_is | rfl | decide +kernel)
    (case km4 => first | k_is | rfl | decide +kernel)
    (case am5 => first | k_is | rfl | decide +kernel)
    (case im5 => first | k_is | rfl | decide +kernel)
    (case lm5 => first | k_is | rfl | decide +kernel)
    (case cm5 => first | k_is | rfl | decide +kernel)
    (case km5 => first | k_is | rfl | decide +kernel)
    (case am6 => first | k_is | rfl | decide +kernel)
    (case im6 => first | k_is | rfl | decide +kernel)
    (case lm6 => first | k_is | rfl | decide +kernel)
    (case cm6 => first | k_is | rfl | decide +kernel)
    (case km6 => first | k_is | rfl | decide +kernel)
    (case am7 => first | k_is | rfl | decide +kernel)
    (case im7 => first | k_is | rfl | decide +kernel)
    (case lm7 => first | k_is | rfl | decide +kernel)
    (case cm7 => first | k_is | rfl | decide +kernel)
    (case km7 => first | k_is | rfl | decide +kernel)
    (case am8 => first | k_is | rfl | decide +kernel)
    (case im8 => first | k_is | rfl | decide +kernel)
    (case lm8 => first | k_is | rfl | decide +kernel)
    (case cm8 => first | k_is | rfl | decide +kernel)
    (case km8 => first | k_is | rfl | decide +kernel)
    (case xE => first | k_is | rfl | decide +kernel)
    (case xV => first | k_is | rfl | decide +kernel)
    (case x1 => first | k_is | rfl | decide +kernel)
    (case x2 => first | k_is | rfl | decide +kernel)
    (case x3 => first | k_is | rfl | decide +kernel)
    (case x4 => first | k_is | rfl | decide +kernel)
    (case x5 => first | k_is | rfl | decide +kernel)
    (case x6 => first | k_is | rfl | decide +kernel)
    (case x7 => first | k_is | rfl | decide +kernel)
    (case aNoHouse => first | k_is | rfl | decide +kernel)
    (case c1_NoHouse => first | k_is | rfl | decide +kernel)
    (case c2_NoHouse => first | k_is | rfl | decide +kernel)
    (case c3_NoHouse => first | k_is | rfl | decide +kernel)
    (case c4_NoHouse => first | k_is | rfl | decide +kernel)
    (case c5_NoHouse => first | k_is | rfl | decide +kernel)
    (case c6_NoHouse => first | k_is | rfl | decide +kernel)
    (case i1_NoHouse => first | k_is | rfl | decide +kernel)
    (case i2_NoHouse => first | k_is | rfl | decide +kernel)
    (case i3_NoHouse => first | k_is | rfl | decide +kernel)
    (case i4_NoHouse => first | k_is | rfl | decide +kernel)
    (case i5_NoHouse => first | k_is | rfl | decide +kernel)
    (case i6_NoHouse => first | k_is | rfl | decide +kernel)
    (case i7_NoHouse => first | k_is | rfl | decide +kernel)
    (case i8_NoHouse => first | k_is | rfl | decide +kernel)
    (case s1_NoHouse => first | k_is | rfl | decide +kernel)
    (case s2_NoHouse => first | k_is | rfl | decide +kernel)
    (case s3_NoHouse => first | k_is | rfl | decide +kernel)
    (case s4_NoHouse => first | k_is | rfl | decide +kernel)
    (case s5_NoHouse => first | k_is | rfl | decide +kernel)
    (case s6_NoHouse => first | k_is | rfl | decide +kernel)
    (case s7_NoHouse => first | k_is | rfl | decide +kernel)
    (case hbNoHouse => intro us hl; match us, hl with | [_, _], _ => rfl)
    (case neNoHouseNoText => first | k_is | rfl | decide +kernel)
    (case iyNoHouseNoText => first | k_is | rfl | decide +kernel)
    (case tyNoHouseNoText => first | k_is | rfl | decide +kernel)
    (case syNoHouseNoText => first | k_is | rfl | decide +kernel)
    (case neNoHouseNoTale => first | k_is | rfl | decide +kernel)
    (case iyNoHouseNoTale => first | k_is | rfl | decide +kernel)
    (case tyNoHouseNoTale => first | k_is | rfl | decide +kernel)
    (case syNoHouseNoTale => first | k_is | rfl | decide +kernel)
    (case neNoHouseNoRoad => first | k_is | rfl | decide +kernel)
    (case iyNoHouseNoRoad => first | k_is | rfl | decide +kernel)
    (case tyNoHouseNoRoad => first | k_is | rfl | decide +kernel)
    (case syNoHouseNoRoad => first | k_is | rfl | decide +kernel)
    (case neNoHouseNoReport => first | k_is | rfl | decide +kernel)
    (case iyNoHouseNoReport => first | k_is | rfl | decide +kernel)
    (case tyNoHouseNoReport => first | k_is | rfl | decide +kernel)
    (case syNoHouseNoReport => first | k_is | rfl | decide +kernel)
    (case neNoHouseNoDays => first | k_is | rfl | decide +kernel)
    (case iyNoHouseNoDays => first | k_is | rfl | decide +kernel)
    (case tyNoHouseNoDays => first | k_is | rfl | decide +kernel)
    (case syNoHouseNoDays => first | k_is | rfl | decide +kernel)
    (case neNoHouseClash => first | k_is | rfl | decide +kernel)
    (case iyNoHouseClash => first | k_is | rfl | decide +kernel)
    (case tyNoHouseClash => first | k_is | rfl | decide +kernel)
    (case syNoHouseClash => first | k_is | rfl | decide +kernel)
    (case g1NoHouse => first | k_is | rfl | decide +kernel)
    (case g2NoHouse => first | k_is | rfl | decide +kernel)
    (case g3NoHouse => first | k_is | rfl | decide +kernel)
    (case g4NoHouse => first | k_is | rfl | decide +kernel)
    (case g5NoHouse => first | k_is | rfl | decide +kernel)
    (case g6NoHouse => first | k_is | rfl | decide +kernel)
    (case g7NoHouse => first | k_is | rfl | decide +kernel)
    (case g8NoHouse => first | k_is | rfl | decide +kernel)
    (case g9NoHouse => first | k_is | rfl | decide +kernel)
    (case h1NoHouse => first | k_is | rfl | decide +kernel)
    (case h2NoHouse => first | k_is | rfl | decide +kernel)
    (case h3NoHouse => first | k_is | rfl | decide +kernel)
    (case h4NoHouse => first | k_is | rfl | decide +kernel)
    (case h5NoHouse => first | k_is | rfl | decide +kernel)
    (case a4 => first | k_is | rfl | decide +kernel)
    (case l4 => first | k_is | rfl | decide +kernel)
    (case c4 => first | k_is | rfl | decide +kernel)
    (case k4 => first | k_is | rfl | decide +kernel)
#print axioms PySem.Challenge.cw_movedays_k21_moves_refused_holds

