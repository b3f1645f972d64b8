import PyProof.Rows.All
import Wide.All
import OpenK.AllK
import Wide.FinOn
import HandS.ForMost
import HandS.Walk
import HandS.Evl
import HandS.Lambda
import HandS.Style
import HandS.StrMore
import HandS.Flow
import HandS.Defaults
import HandS.Exc
import HandS.WordsExc
import HandS.WideBits
import HandS.IsInst
import KE.KExcSuper
import KE.KExcInit
import HandS.ExcInit
import HandS.ExcSuper
import HandS.TryMany
import HandS.HotCalls
import KE.GoesEnum
import HandS.Sort
import PyProof.ReprLen
import PyProof.Rows.RegStrFacts
import HandS.TupAny
import KE.KExcIs
import HandS.ExcField
import HandS.ExcIs
import HandS.Dict
import HandS.DictTup
import HandS.More
import KE.KRevSl
import HandS.SortKw
import HandS.Deep
import HandS.SetFor
import HandS.Ends
import HandS.TryOnly
import HandS.ListItems
import KE.KDictList
import HandS.Conv
import HandS.List
import KE.KDictPairs
import HandS.EndTab
import KE.KNestM
import KE.DataEq
import KE.KFmtOwn
import KE.SortData
import HandS.Wide
import HandS.Rev
import HandS.MapJoin
import HandS.DictEq
import HandS.DeepEq
import HandS.RaiseMore
import HandS.FStr
import PyProof.InstEq
import HandS.TupMul
import KE.KLam
import PySem.Challenge.RW_tallyplans_k15_errors_of_orders
set_option Elab.async false
set_option linter.all false
set_option autoImplicit false
set_option maxRecDepth 100000
set_option maxHeartbeats 4000000
/-! DL: a wp calculus over plain data, above the hand layer: values are data (D), owned objects stand in a store (Wl). -/
namespace DL
open PySem L2

/-! ### data -/
inductive D where
  | non | bl (b : Bool) | int (i : Int) | str (x : Str) | byt (b : Array UInt8) | ty (n : String) | ptr (a : Addr)
  | lst (ds : List D) | tup (ds : List D)
  /-- a tuple known to have no attribute dict -/
  | btp (ds : List D)
  | ins (C : Addr) (fs : List (Str × D))
  /-- an empty dict that nobody changes -/
  | emp
deriving Inhabited
/-- what is owned: a list, a dict, an instance that may change -/
inductive Cl where
  | lst (ds : List D) | dK (kvs : List (Key × D)) | ins (C : Addr) (fs : List (Str × D))
  /-- the script, as it was given -/
  | scr (ns : List Int)
  /-- a dict that is being walked: it stands as it is -/
  | dF (o : Obj) (ks : List (Key × V)) (kvs : List (Key × D))
  /-- a code object's table: what it tells bears the name q -/
  | tab (q : Str)
  /-- the dict of an exception -/
  | xd (gs : List (Str × V)) (fs : List (Str × D))
abbrev Dlt := List (Option D)
abbrev Wl := Addr → Option Cl
def w0 : Wl := fun _ => none
def put (w : Wl) (a : Addr) (c : Cl) : Wl := fun b => if b = a then some c else w b
def cut (w : Wl) (a : Addr) : Wl := fun b => if b = a then none else w b
theorem put_same {w : Wl} {a : Addr} {c : Cl} : put w a c a = some c := by unfold put; rw [if_pos rfl]
theorem put_ne {w : Wl} {a b : Addr} {c : Cl} (h : b ≠ a) : put w a c b = w b := by unfold put; rw [if_neg h]
theorem put_put {w : Wl} {a : Addr} {c d : Cl} : put (put w a c) a d = put w a d := by
  funext b; unfold put; split <;> rfl
theorem cut_put {w : Wl} {a : Addr} {c : Cl} (h : w a = none) : cut (put w a c) a = w := by
  funext b; unfold cut put; split
  · rename_i e; subst e; exact h.symm
  · rfl
theorem put_self {w : Wl} {a : Addr} {c : Cl} (h : w a = some c) : put w a c = w := by
  funext b; unfold put; split
  · rename_i e; subst e; exact h.symm
  · rfl
/-- the heap without what is owned -/
def msk (w : Wl) (H : Hp) : Hp := fun a => if (w a).isSome then none else H a
theorem msk_some {w : Wl} {H : Hp} {a : Addr} {o : HO} (h : msk w H a = some o) : w a = none ∧ H a = some o := by
  unfold msk at h
  cases q : w a with
  | none => rw [q] at h; exact ⟨rfl, h⟩
  | some c => rw [q] at h; cases h
theorem msk_of {w : Wl} {H : Hp} {a : Addr} {o : HO} (h : w a = none) (e : H a = some o) : msk w H a = some o := by
  unfold msk; rw [h]; exact e

abbrev Ex (H H' : Hp) : Prop := ∀ a o, H a = some o → H' a = some o
theorem Ex.refl (H : Hp) : Ex H H := fun _ _ h => h
theorem Ex.trans {H H1 H2 : Hp} (a : Ex H H1) (b : Ex H1 H2) : Ex H H2 := fun x o h => b x o (a x o h)
theorem Ex.msk {w : Wl} {H : Hp} : Ex (msk w H) H := fun _ _ h => (msk_some h).2
theorem ex_rd {H H' : Hp} {a : Addr} {u : HO} (e : Ex H H') (h : Rd H a u) : Rd H' a u := by
  rcases h with h | ⟨o, h⟩
  · exact Or.inl (e a _ h)
  · exact Or.inr ⟨o, e a _ h⟩
theorem ex_l {K : PySem.W.Frag} {H H' : Hp} {a : Addr} {xs : List V} (e : Ex H H') (h : SqL K H a xs) : SqL K H' a xs := by
  rcases h with h | h
  · exact Or.inl (ex_rd e h)
  · exact Or.inr h
theorem ex_t {K : PySem.W.Frag} {H H' : Hp} {a : Addr} {xs : List V} (e : Ex H H') (h : SqT K H a xs) : SqT K H' a xs := by
  rcases h with h | h
  · exact Or.inl (ex_rd e h)
  · exact Or.inr h

/-! ### a value is a datum -/
/-- no attribute dict -/
def Bare (K : PySem.W.Frag) (G : Hp) (a : Addr) : Prop := (∃ o xs, G a = some (.frz o (.tup xs)) ∧ o.dict = none) ∨ ∃ o, K.lookup a = some o ∧ o.dict = none
mutual
inductive Rp (K : PySem.W.Frag) (G : Hp) : V → D → Prop
  | non : Rp K G .non .non
  | bl (b : Bool) : Rp K G (.bl b) (.bl b)
  | int (i : Int) : Rp K G (.int i) (.int i)
  | str (x : Str) : Rp K G (.str x) (.str x)
  | byt (x : Array UInt8) : Rp K G (.byt x) (.byt x)
  | ty (n : String) : Rp K G (.ty n) (.ty n)
  | ptr (a : Addr) : Rp K G (.ref a) (.ptr a)
  | lst {a : Addr} {xs : List V} {ds : List D} : G a = some (.lst xs) → RpA K G xs ds → Rp K G (.ref a) (.lst ds)
  | tup {a : Addr} {xs : List V} {ds : List D} : SqT K G a xs → RpA K G xs ds → Rp K G (.ref a) (.tup ds)
  | btp {a : Addr} {xs : List V} {ds : List D} : Bare K G a → SqT K G a xs → RpA K G xs ds → Rp K G (.ref a) (.btp ds)
  | ins {a C dx : Addr} {fs : List (Str × V)} {ds : List (Str × D)} : G a = some (.ins C dx fs) → RpF K G fs ds → Rp K G (.ref a) (.ins C ds)
  | emp {a : Addr} : G a = some (.dK []) → Rp K G (.ref a) .emp
inductive RpA (K : PySem.W.Frag) (G : Hp) : List V → List D → Prop
  | nil : RpA K G [] []
  | cons {v : V} {vs : List V} {d : D} {ds : List D} : Rp K G v d → RpA K G vs ds → RpA K G (v :: vs) (d :: ds)
inductive RpF (K : PySem.W.Frag) (G : Hp) : List (Str × V) → List (Str × D) → Prop
  | nil : RpF K G [] []
  | cons (n : Str) {v : V} {vs : List (Str × V)} {d : D} {ds : List (Str × D)} : Rp K G v d → RpF K G vs ds → RpF K G ((n, v) :: vs) ((n, d) :: ds)
end
section
variable {K : PySem.W.Frag} {G G' H H' : Hp}
theorem Bare.mono {a : Addr} (e : Ex G G') (h : Bare K G a) : Bare K G' a := h.imp (fun ⟨o, xs, h1, h2⟩ => ⟨o, xs, e _ _ h1, h2⟩) id
mutual
theorem Rp.mono (e : Ex G G') : ∀ {v : V} {d : D}, Rp K G v d → Rp K G' v d
  | _, _, .non => .non
  | _, _, .bl b => .bl b
  | _, _, .int b => .int b
  | _, _, .str b => .str b
  | _, _, .byt b => .byt b
  | _, _, .ty b => .ty b
  | _, _, .ptr b => .ptr b
  | _, _, .lst h r => .lst (e _ _ h) (RpA.mono e r)
  | _, _, .tup h r => .tup (ex_t e h) (RpA.mono e r)
  | _, _, .btp b h r => .btp (b.mono e) (ex_t e h) (RpA.mono e r)
  | _, _, .ins h r => .ins (e _ _ h) (RpF.mono e r)
  | _, _, .emp h => .emp (e _ _ h)
theorem RpA.mono (e : Ex G G') : ∀ {v : List V} {d : List D}, RpA K G v d → RpA K G' v d
  | _, _, .nil => .nil
  | _, _, .cons r t => .cons (Rp.mono e r) (RpA.mono e t)
theorem RpF.mono (e : Ex G G') : ∀ {v : List (Str × V)} {d : List (Str × D)}, RpF K G v d → RpF K G' v d
  | _, _, .nil => .nil
  | _, _, .cons n r t => .cons n (Rp.mono e r) (RpF.mono e t)
end
theorem RpA.length : ∀ {vs : List V} {ds : List D}, RpA K G vs ds → vs.length = ds.length
  | _, _, .nil => rfl
  | _, _, .cons _ t => by simp [RpA.length t]
theorem RpA.get : ∀ {vs : List V} {ds : List D} {i : Nat} {d : D}, RpA K G vs ds → ds[i]? = some d → ∃ v, vs[i]? = some v ∧ Rp K G v d
  | _, _, _, _, .nil, e => by simp at e
  | _, _, 0, _, .cons r _, e => by simp at e; subst e; exact ⟨_, rfl, r⟩
  | _, _, i + 1, d, .cons _ t, e => by
    obtain ⟨v, h1, h2⟩ := RpA.get (i := i) (d := d) t (by simpa using e)
    exact ⟨v, by simpa using h1, h2⟩
theorem RpA.append : ∀ {vs ws : List V} {ds es : List D}, RpA K G vs ds → RpA K G ws es → RpA K G (vs ++ ws) (ds ++ es)
  | _, _, _, _, .nil, s => s
  | _, _, _, _, .cons r t, s => .cons r (RpA.append t s)
theorem RpA.take : ∀ {vs : List V} {ds : List D} (n : Nat), RpA K G vs ds → RpA K G (vs.take n) (ds.take n)
  | _, _, 0, _ => .nil
  | _, _, _ + 1, .nil => .nil
  | _, _, n + 1, .cons r t => .cons r (RpA.take n t)
theorem RpA.drop : ∀ {vs : List V} {ds : List D} (n : Nat), RpA K G vs ds → RpA K G (vs.drop n) (ds.drop n)
  | _, _, 0, r => r
  | _, _, _ + 1, .nil => .nil
  | _, _, n + 1, .cons _ t => RpA.drop n t
theorem RpA.set {v : V} {d : D} (r : Rp K G v d) : ∀ {vs : List V} {ds : List D} (i : Nat), RpA K G vs ds → RpA K G (vs.set i v) (ds.set i d)
  | _, _, _, .nil => .nil
  | _, _, 0, .cons _ t => .cons r t
  | _, _, i + 1, .cons q t => .cons q (RpA.set r i t)
theorem RpA.reverse : ∀ {vs : List V} {ds : List D}, RpA K G vs ds → RpA K G vs.reverse ds.reverse
  | _, _, .nil => .nil
  | _, _, .cons r t => by rw [List.reverse_cons, List.reverse_cons]; exact (RpA.reverse t).append (.cons r .nil)
theorem rpa_strs {vs : List V} {ns : List Str} (h : RpA K G vs (ns.map D.str)) : vs = ns.map V.str := by
  induction ns generalizing vs with
  | nil => cases h; rfl
  | cons n ns ih => cases h with
    | cons r t => cases r; rw [ih t]; rfl
theorem rpa_bools {vs : List V} {ns : List Bool} (h : RpA K G vs (ns.map D.bl)) : vs = ns.map V.bl := by
  induction ns generalizing vs with
  | nil => cases h; rfl
  | cons n ns ih => cases h with
    | cons r t => cases r; rw [ih t]; rfl
theorem rpa_ofstrs : ∀ (ns : List Str), RpA K G (ns.map V.str) (ns.map D.str)
  | [] => .nil
  | n :: ns => .cons (.str n) (rpa_ofstrs ns)
theorem rpa_ofints : ∀ (ns : List Int), RpA K G (ns.map V.int) (ns.map D.int)
  | [] => .nil
  | n :: ns => .cons (.int n) (rpa_ofints ns)
end

/-! ### the store is held -/
def RpK (K : PySem.W.Frag) (G : Hp) : List (Key × V) → List (Key × D) → Prop
  | [], [] => True
  | (k, v) :: r, (l, d) :: s => k = l ∧ Rp K G v d ∧ RpK K G r s
  | _, _ => False
theorem RpK.mono {K : PySem.W.Frag} {G G' : Hp} (e : Ex G G') : ∀ {r : List (Key × V)} {s : List (Key × D)}, RpK K G r s → RpK K G' r s
  | [], [], _ => trivial
  | (_, _) :: _, (_, _) :: _, ⟨a, b, c⟩ => ⟨a, b.mono e, RpK.mono e c⟩
  | [], _ :: _, h => h.elim
  | _ :: _, [], h => h.elim
def ClAt (K : PySem.W.Frag) (G H : Hp) (a : Addr) : Cl → Prop
  | .lst ds => ∃ xs, H a = some (.lst xs) ∧ RpA K G xs ds
  | .dK kvs => ∃ ks, H a = some (.dK ks) ∧ RpK K G ks kvs
  | .ins C fs => ∃ dx gs, H a = some (.ins C dx gs) ∧ RpF K G gs fs
  | .scr ns => Rd H a (.lst (ns.map V.int))
  | .dF o ks kvs => H a = some (.frz o (.dK ks)) ∧ RpK K G ks kvs
  | .tab q => ∃ ps : Array Value, H a = some (.tbl ps) ∧ TriplesOk ps.toList ∧ ∀ (p : Pos) (u : Value), codeAmong p ps.toList = some u → ∃ c, u = .ref c ∧ G c = some (LamX.CodeO c q)
  | .xd gs fs => H a = some (.xd gs) ∧ RpF K G gs fs
def Cells (K : PySem.W.Frag) (w : Wl) (H : Hp) : Prop := ∀ a c, w a = some c → ClAt K (msk w H) H a c
theorem ClAt.has {K : PySem.W.Frag} {G H : Hp} {a : Addr} {c : Cl} (h : ClAt K G H a c) : ∃ o, H a = some o := by
  cases c with
  | lst ds => obtain ⟨_, e, _⟩ := h; exact ⟨_, e⟩
  | dK ds => obtain ⟨_, e, _⟩ := h; exact ⟨_, e⟩
  | ins C ds => obtain ⟨_, _, e, _⟩ := h; exact ⟨_, e⟩
  | scr ns => rcases h with e | ⟨_, e⟩ <;> exact ⟨_, e⟩
  | dF o ks kvs => exact ⟨_, h.1⟩
  | tab q => obtain ⟨_, e, _⟩ := h; exact ⟨_, e⟩
  | xd gs fs => exact ⟨_, h.1⟩
theorem ClAt.mono {K : PySem.W.Frag} {G G' H H' : Hp} {a : Addr} {c : Cl} (e : Ex G G') (h : ClAt K G H a c) (k : ∀ o, H a = some o → H' a = some o) : ClAt K G' H' a c := by
  cases c with
  | lst ds => obtain ⟨x, h1, h2⟩ := h; exact ⟨x, k _ h1, h2.mono e⟩
  | dK ds => obtain ⟨x, h1, h2⟩ := h; exact ⟨x, k _ h1, h2.mono e⟩
  | ins C ds => obtain ⟨x, y, h1, h2⟩ := h; exact ⟨x, y, k _ h1, h2.mono e⟩
  | dF o ks kvs => exact ⟨k _ h.1, h.2.mono e⟩
  | tab q =>
    obtain ⟨ps, h1, h2, h3⟩ := h
    exact ⟨ps, k _ h1, h2, fun p u z => let ⟨c, z1, z2⟩ := h3 p u z; ⟨c, z1, e _ _ z2⟩⟩
  | xd gs fs => exact ⟨k _ h.1, h.2.mono e⟩
  | scr ns =>
    rcases h with e | ⟨o, e⟩
    · exact .inl (k _ e)
    · exact .inr ⟨o, k _ e⟩
theorem Cells.free {K : PySem.W.Frag} {w : Wl} {H : Hp} (c : Cells K w H) {a : Addr} (h : H a = none) : w a = none := by
  cases q : w a with
  | none => rfl
  | some x =>
    obtain ⟨o, e⟩ := ClAt.has (c a x q)
    rw [h] at e; cases e
/-- a heap that only grew: the same store -/
theorem Cells.grow {K : PySem.W.Frag} {w : Wl} {H H' : Hp} (c : Cells K w H) (e : Ex H H') : Cells K w H' ∧ Ex (msk w H) (msk w H') := by
  have e' : Ex (msk w H) (msk w H') := fun a o h => msk_of (msk_some h).1 (e _ _ (msk_some h).2)
  exact ⟨fun a x q => ClAt.mono e' (c a x q) fun o => e a o, e'⟩
theorem ex_new {H : Hp} {p : Addr} {o : HO} (h : H p = none) : Ex H (upd H p o) := fun a u e => by
  rw [upd_ne (ne_of_none e h)]
  exact e

structure Sat (K : PySem.W.Frag) (σ : L2.St) (H : Hp) (δ : Dlt) (w : Wl) : Prop where
  len : σ.length = δ.length
  sl : ∀ (i : Nat) (d : D), δ[i]? = some (some d) → ∃ v, σ[i]? = some (some v) ∧ Rp K (msk w H) v d
  ce : Cells K w H
theorem Sat.next {K : PySem.W.Frag} {σ : L2.St} {H H' : Hp} {δ : Dlt} {w w' : Wl} (s : Sat K σ H δ w) (e : Ex (msk w H) (msk w' H')) (c : Cells K w' H') : Sat K σ H' δ w' :=
  ⟨s.len, fun i d h => let ⟨v, h1, h2⟩ := s.sl i d h; ⟨v, h1, h2.mono e⟩, c⟩
theorem Sat.set {K : PySem.W.Frag} {σ : L2.St} {H : Hp} {δ : Dlt} {w : Wl} (s : Sat K σ H δ w) (i : Nat) {v : V} {d : D} (r : Rp K (msk w H) v d) : Sat K (σ.set i (some v)) H (δ.set i (some d)) w := by
  refine ⟨by rw [List.length_set, List.length_set]; exact s.len, fun j x h => ?_, s.ce⟩
  by_cases e : i = j
  · subst e
    by_cases hl : i < δ.length
    · rw [List.getElem?_set_self hl] at h
      cases h
      exact ⟨v, List.getElem?_set_self (by rw [s.len]; exact hl), r⟩
    · rw [List.getElem?_eq_none (by simpa using hl)] at h; cases h
  · rw [List.getElem?_set_ne e] at h
    obtain ⟨u, h1, h2⟩ := s.sl j x h
    exact ⟨u, by rw [List.getElem?_set_ne e]; exact h1, h2⟩

/-! ### the ends -/
/-- the wish for a value, the wish for an exception -/
def XdAt (K : PySem.W.Frag) (G H : Hp) (od : Option Addr) (fs : List (Str × D)) : Prop := match od with
  | none => fs = []
  | some a => ∃ gs, G a = some (.xd gs) ∧ RpF K G gs fs
abbrev PD := D → Wl → Prop
abbrev ZD := Value → List (Str × D) → Wl → Prop
def z0 : ZD := fun _ _ _ => False
def KqG (K : PySem.W.Frag) {α β : Type} (R : Hp → α → β → Prop) (w : Wl) (H : Hp) (P : β → Wl → Prop) (Q : α → Hp → Prop) : Prop :=
  ∀ v H' d w', Ex (msk w H) (msk w' H') → Cells K w' H' → R (msk w' H') v d → P d w' → Q v H'
abbrev Kq (K : PySem.W.Frag) := KqG K (Rp K)
abbrev KqA (K : PySem.W.Frag) := KqG K (RpA K)
abbrev KqB (K : PySem.W.Frag) := KqG K (fun _ (a b : Bool) => a = b)
abbrev KqO (K : PySem.W.Frag) := KqG K (fun _ (a b : Option Int) => a = b)
def Kz (K : PySem.W.Frag) (w : Wl) (H : Hp) (Z : ZD) (W : XK) : Prop :=
  ∀ c od H' fs w', Ex (msk w H) (msk w' H') → Cells K w' H' → XdAt K (msk w' H') H' od fs → Z c fs w' → W c od H'
theorem KqG.next {K : PySem.W.Frag} {α β : Type} {R : Hp → α → β → Prop} {w w1 : Wl} {H H1 : Hp} {P : β → Wl → Prop} {Q : α → Hp → Prop} (k : KqG K R w H P Q) (e : Ex (msk w H) (msk w1 H1)) : KqG K R w1 H1 P Q :=
  fun v H' d w' e' => k v H' d w' (Ex.trans e e')
theorem Kz.next {K : PySem.W.Frag} {w w1 : Wl} {H H1 : Hp} {Z : ZD} {W : XK} (k : Kz K w H Z W) (e : Ex (msk w H) (msk w1 H1)) : Kz K w1 H1 Z W :=
  fun c od H' fs w' e' => k c od H' fs w' (Ex.trans e e')

/-! ### the judgements -/
def Ev (K : PySem.W.Frag) (W : XK) (te : TE) (δ : Dlt) (w : Wl) (P : PD) (Z : ZD) : Prop := ∀ σ H, Sat K σ H δ w → ∀ Q : VK, Kq K w H P Q → Kz K w H Z W → te σ H Q
def EvT (K : PySem.W.Frag) (W : XK) (te : TT) (δ : Dlt) (w : Wl) (P : Bool → Wl → Prop) (Z : ZD) : Prop := ∀ σ H, Sat K σ H δ w → ∀ Q : Bool → Hp → Prop, KqB K w H P Q → Kz K w H Z W → te σ H Q
def EvA (K : PySem.W.Frag) (W : XK) (te : TA) (δ : Dlt) (w : Wl) (P : List D → Wl → Prop) (Z : ZD) : Prop := ∀ σ H, Sat K σ H δ w → ∀ Q : List V → Hp → Prop, KqA K w H P Q → Kz K w H Z W → te σ H Q
def EvO (K : PySem.W.Frag) (W : XK) (te : TO) (δ : Dlt) (w : Wl) (P : Option Int → Wl → Prop) (Z : ZD) : Prop := ∀ σ H, Sat K σ H δ w → ∀ Q : Option Int → Hp → Prop, KqO K w H P Q → Kz K w H Z W → te σ H Q
/-- operations on values -/
def Op1 (K : PySem.W.Frag) (r : V → Hp → VK → Prop) (x : D) (w : Wl) (P : PD) : Prop := ∀ v H, Rp K (msk w H) v x → Cells K w H → ∀ Q, Kq K w H P Q → r v H Q
def Op2 (K : PySem.W.Frag) (r : R2) (x y : D) (w : Wl) (P : PD) : Prop := ∀ v u H, Rp K (msk w H) v x → Rp K (msk w H) u y → Cells K w H → ∀ Q, Kq K w H P Q → r v u H Q
def OpL (K : PySem.W.Frag) (r : List V → Hp → VK → Prop) (xs : List D) (w : Wl) (P : PD) : Prop := ∀ vs H, RpA K (msk w H) vs xs → Cells K w H → ∀ Q, Kq K w H P Q → r vs H Q
def OpM (K : PySem.W.Frag) (r : V → List V → Hp → VK → Prop) (x : D) (xs : List D) (w : Wl) (P : PD) : Prop := ∀ v vs H, Rp K (msk w H) v x → RpA K (msk w H) vs xs → Cells K w H → ∀ Q, Kq K w H P Q → r v vs H Q
structure EndD where
  nx : Dlt → Wl → Prop
  rt : PD
  bk : Dlt → Wl → Prop := fun _ _ => False
  ct : Dlt → Wl → Prop := fun _ _ => False
  rz : ZD := z0
def Ks (K : PySem.W.Frag) (w : Wl) (H : Hp) (P : Dlt → Wl → Prop) (Q : L2.St → Hp → Prop) : Prop := ∀ σ' H' δ' w', Ex (msk w H) (msk w' H') → Sat K σ' H' δ' w' → P δ' w' → Q σ' H'
theorem Ks.next {K : PySem.W.Frag} {w w1 : Wl} {H H1 : Hp} {P : Dlt → Wl → Prop} {Q : L2.St → Hp → Prop} (k : Ks K w H P Q) (e : Ex (msk w H) (msk w1 H1)) : Ks K w1 H1 P Q :=
  fun σ' H' δ' w' e' => k σ' H' δ' w' (Ex.trans e e')
structure Ke (K : PySem.W.Frag) (W : XK) (w : Wl) (H : Hp) (E : EndD) (Dn : Ends) : Prop where
  nx : Ks K w H E.nx Dn.nx
  rt : Kq K w H E.rt Dn.rt
  bk : Ks K w H E.bk Dn.bk
  ct : Ks K w H E.ct Dn.ct
  rz : Kz K w H E.rz W
theorem Ke.next {K : PySem.W.Frag} {W : XK} {w w1 : Wl} {H H1 : Hp} {E : EndD} {Dn : Ends} (k : Ke K W w H E Dn) (e : Ex (msk w H) (msk w1 H1)) : Ke K W w1 H1 E Dn :=
  ⟨k.nx.next e, KqG.next k.rt e, k.bk.next e, k.ct.next e, k.rz.next e⟩
def Sd (K : PySem.W.Frag) (W : XK) (ts : TS) (δ : Dlt) (w : Wl) (E : EndD) : Prop := ∀ σ H, Sat K σ H δ w → ∀ Dn : Ends, Ke K W w H E Dn → ts Dn σ H
/-- a target: the datum goes there -/
def Gd (K : PySem.W.Frag) (W : XK) (g : TG) (d : D) (δ : Dlt) (w : Wl) (P : Dlt → Wl → Prop) (Z : ZD) : Prop :=
  ∀ v σ H, Rp K (msk w H) v d → Sat K σ H δ w → ∀ Q : L2.St → Hp → Prop, Ks K w H P Q → Kz K w H Z W → g v σ H Q
def Gds (K : PySem.W.Frag) (W : XK) (g : TGs) (ds : List D) (δ : Dlt) (w : Wl) (P : Dlt → Wl → Prop) (Z : ZD) : Prop :=
  ∀ vs σ H, RpA K (msk w H) vs ds → Sat K σ H δ w → ∀ Q : L2.St → Hp → Prop, Ks K w H P Q → Kz K w H Z W → g vs σ H Q
end DL
set_option Elab.async false
set_option linter.all false
set_option autoImplicit false
set_option maxRecDepth 100000
set_option maxHeartbeats 4000000
namespace DL
open PySem L2
section
variable {K : PySem.W.Frag} {W : XK} {δ : Dlt} {w : Wl} {P : PD} {Z : ZD} {ta tb te : TE} {tt tu : TT} {r : R2}

/-! ### names, constants -/
theorem ev_var {i : Nat} {d : D} (h : δ[i]? = some (some d)) (k : P d w) : Ev K W (tVar i) δ w P Z :=
  fun σ H s Q q _ => let ⟨v, h1, h2⟩ := s.sl i d h; ⟨v, h1, q v H d w (Ex.refl _) s.ce h2 k⟩
theorem frz_ok {H : Hp} {l : Addr} {ds : List D} (c : w l = some (.lst ds)) (s : Cells K w H) : Ex (msk w H) (msk (cut w l) H) ∧ Cells K (cut w l) H ∧ Rp K (msk (cut w l) H) (.ref l) (.lst ds) := by
  have e : Ex (msk w H) (msk (cut w l) H) := fun a o h => by
    obtain ⟨h1, h2⟩ := msk_some h
    refine msk_of ?_ h2
    unfold cut; split
    · rfl
    · exact h1
  refine ⟨e, fun a x q => ?_, ?_⟩
  · have q' : w a = some x := by
      unfold cut at q; split at q
      · cases q
      · exact q
    exact ClAt.mono e (s a x q') fun _ z => z
  · obtain ⟨xs, h1, h2⟩ := s l _ c
    refine .lst (msk_of ?_ h1) (h2.mono e)
    unfold cut; rw [if_pos rfl]
/-- an owned list is given away: from here on it stands still -/
theorem ev_frz {i : Nat} {l : Addr} {ds : List D} (h : δ[i]? = some (some (.ptr l))) (c : w l = some (.lst ds)) (k : P (.lst ds) (cut w l)) : Ev K W (tVar i) δ w P Z :=
  fun σ H s Q q _ => by
    obtain ⟨v, h1, h2⟩ := s.sl i _ h
    obtain ⟨e, c', r⟩ := frz_ok c s.ce
    cases h2
    exact ⟨_, h1, q _ H _ _ e c' r k⟩
theorem ev_cint {i : Int} (k : P (.int i) w) : Ev K W (tC (.int i)) δ w P Z := fun _ H s _ q _ => q _ H _ w (Ex.refl _) s.ce (.int i) k
theorem ev_cbl {i : Bool} (k : P (.bl i) w) : Ev K W (tC (.bl i)) δ w P Z := fun _ H s _ q _ => q _ H _ w (Ex.refl _) s.ce (.bl i) k
theorem ev_cstr {i : Str} (k : P (.str i) w) : Ev K W (tC (.str i)) δ w P Z := fun _ H s _ q _ => q _ H _ w (Ex.refl _) s.ce (.str i) k
theorem ev_cnon (k : P .non w) : Ev K W (tC .non) δ w P Z := fun _ H s _ q _ => q _ H _ w (Ex.refl _) s.ce .non k
theorem ev_cty {i : String} (k : P (.ty i) w) : Ev K W (tC (.ty i)) δ w P Z := fun _ H s _ q _ => q _ H _ w (Ex.refl _) s.ce (.ty i) k
theorem ev_cref {a : Addr} (k : P (.ptr a) w) : Ev K W (tC (.ref a)) δ w P Z := fun _ H s _ q _ => q _ H _ w (Ex.refl _) s.ce (.ptr a) k
theorem Ev.imp {P' : PD} (h : Ev K W te δ w P Z) (k : ∀ d w', P d w' → P' d w') : Ev K W te δ w P' Z := fun σ H s Q q z => h σ H s Q (fun v H' d w' e c r p => q v H' d w' e c r (k d w' p)) z

/-! ### operators -/
theorem ev_op (h : Ev K W ta δ w (fun x w1 => Ev K W tb δ w1 (fun y w2 => Op2 K r x y w2 P) Z) Z) : Ev K W (tOp r ta tb) δ w P Z :=
  fun σ H s Q q z => h σ H s _ (fun x H1 d w1 e1 c1 r1 h1 => h1 σ H1 (s.next e1 c1) _ (fun y H2 d2 w2 e2 c2 r2 h2 => h2 x y H2 (r1.mono e2) r2 c2 Q (KqG.next q (e1.trans e2))) (z.next e1)) z
theorem ev_un {r : V → Hp → VK → Prop} (h : Ev K W ta δ w (fun x w1 => Op1 K r x w1 P) Z) : Ev K W (tUn r ta) δ w P Z :=
  fun σ H s Q q z => h σ H s _ (fun x H1 d w1 e1 c1 r1 h1 => h1 x H1 r1 c1 Q (KqG.next q e1)) z
theorem o2_I0 {g : Int → Int → Int} {i j : Int} (k : P (.int (g i j)) w) : Op2 K (rI0 fun a b => .int (g a b)) (.int i) (.int j) w P := by
  intro v u H h1 h2 c Q q
  cases h1; cases h2
  exact ⟨i, j, rfl, rfl, q _ H _ w (Ex.refl _) c (.int _) k⟩
theorem o2_B0 {g : Int → Int → Bool} {i j : Int} (k : P (.bl (g i j)) w) : Op2 K (rI0 fun a b => .bl (g a b)) (.int i) (.int j) w P := by
  intro v u H h1 h2 c Q q
  cases h1; cases h2
  exact ⟨i, j, rfl, rfl, q _ H _ w (Ex.refl _) c (.bl _) k⟩
theorem o2_I {C : Int → Int → Prop} {g : Int → Int → Int} {i j : Int} (hc : C i j) (k : P (.int (g i j)) w) : Op2 K (rI C fun a b => .int (g a b)) (.int i) (.int j) w P := by
  intro v u H h1 h2 c Q q
  cases h1; cases h2
  exact ⟨i, j, rfl, rfl, hc, q _ H _ w (Ex.refl _) c (.int _) k⟩
theorem o1_U {g : Int → Int} {i : Int} (k : P (.int (g i)) w) : Op1 K (rU fun a => .int (g a)) (.int i) w P := by
  intro v H h1 c Q q
  cases h1
  exact ⟨i, rfl, q _ H _ w (Ex.refl _) c (.int _) k⟩
/-- == of ints, bools, texts, None -/
theorem o2_eqI {i j : Int} (k : P (.bl (decide (i = j))) w) : Op2 K rEq (.int i) (.int j) w P := by
  intro v u H h1 h2 c Q q
  cases h1; cases h2
  have e : decide (V.int i = V.int j) = decide (i = j) := by
    by_cases h : i = j
    · rw [decide_eq_true h, decide_eq_true (by rw [h])]
    · rw [decide_eq_false h, decide_eq_false (fun z => h (V.int.inj z))]
  exact ⟨rfl, q _ H _ w (Ex.refl _) c (by rw [e]; exact .bl _) k⟩
theorem o2_neI {i j : Int} (k : P (.bl (!decide (i = j))) w) : Op2 K rNe (.int i) (.int j) w P := by
  intro v u H h1 h2 c Q q
  cases h1; cases h2
  have e : decide (V.int i = V.int j) = decide (i = j) := by
    by_cases h : i = j
    · rw [decide_eq_true h, decide_eq_true (by rw [h])]
    · rw [decide_eq_false h, decide_eq_false (fun z => h (V.int.inj z))]
  exact ⟨rfl, q _ H _ w (Ex.refl _) c (by rw [e]; exact .bl _) k⟩
theorem o2_eqS {i j : Str} (k : P (.bl (decide (i = j))) w) : Op2 K rEq (.str i) (.str j) w P := by
  intro v u H h1 h2 c Q q
  cases h1; cases h2
  have e : decide (V.str i = V.str j) = decide (i = j) := by
    by_cases h : i = j
    · rw [decide_eq_true h, decide_eq_true (by rw [h])]
    · rw [decide_eq_false h, decide_eq_false (fun z => h (V.str.inj z))]
  exact ⟨rfl, q _ H _ w (Ex.refl _) c (by rw [e]; exact .bl _) k⟩
theorem o2_neB {i j : Bool} (k : P (.bl (!decide (i = j))) w) : Op2 K rNe (.bl i) (.bl j) w P := by
  intro v u H h1 h2 c Q q
  cases h1; cases h2
  have e : decide (V.bl i = V.bl j) = decide (i = j) := by
    by_cases h : i = j
    · rw [decide_eq_true h, decide_eq_true (by rw [h])]
    · rw [decide_eq_false h, decide_eq_false (fun z => h (V.bl.inj z))]
  exact ⟨rfl, q _ H _ w (Ex.refl _) c (by rw [e]; exact .bl _) k⟩
theorem o2_catS {i j : Str} (hl : i.length + j.length ≤ sizeLine) (k : P (.str (i ++ j)) w) : Op2 K (fun x y H Q => ∃ i j, x = .str i ∧ y = .str j ∧ i.length + j.length ≤ sizeLine ∧ Q (.str (i ++ j)) H) (.str i) (.str j) w P := by
  intro v u H h1 h2 c Q q
  cases h1; cases h2
  exact ⟨i, j, rfl, rfl, hl, q _ H _ w (Ex.refl _) c (.str _) k⟩
def isNonD : D → Bool | .non => true | _ => false

/-! ### items -/
theorem atI_map {G : Hp} {vs : List V} {ds : List D} (r : RpA K G vs ds) {i : Int} {d : D} (h : atI ds i = some d) : ∃ v, atI vs i = some v ∧ Rp K G v d := by
  unfold atI at h ⊢
  rw [r.length]
  cases e : ixN ds.length i with
  | none => rw [e] at h; cases h
  | some j =>
    rw [e] at h
    exact r.get h
theorem o2_ixT {ds : List D} {i : Int} {d : D} (h : atI ds i = some d) (k : P d w) : Op2 K (rIxT K) (.tup ds) (.int i) w P := by
  intro v u H h1 h2 c Q q
  cases h1 with
  | tup ht hr =>
    cases h2
    obtain ⟨x, e, rx⟩ := atI_map hr h
    exact ⟨_, _, i, x, rfl, rfl, ex_t Ex.msk ht, e, q _ H _ w (Ex.refl _) c rx k⟩
theorem o2_ixL {ds : List D} {i : Int} {d : D} (h : atI ds i = some d) (k : P d w) : Op2 K (rIxL K) (.lst ds) (.int i) w P := by
  intro v u H h1 h2 c Q q
  cases h1 with
  | lst ht hr =>
    cases h2
    obtain ⟨x, e, rx⟩ := atI_map hr h
    exact ⟨_, _, i, x, rfl, rfl, SqL.of (msk_some ht).2, e, q _ H _ w (Ex.refl _) c rx k⟩
theorem o2_ixLo {l : Addr} {ds : List D} {i : Int} {d : D} (hl : w l = some (.lst ds)) (h : atI ds i = some d) (k : P d w) : Op2 K (rIxL K) (.ptr l) (.int i) w P := by
  intro v u H h1 h2 c Q q
  cases h1; cases h2
  obtain ⟨xs, e1, e2⟩ := c l _ hl
  obtain ⟨x, e, rx⟩ := atI_map e2 h
  exact ⟨_, _, i, x, rfl, rfl, SqL.of e1, e, q _ H _ w (Ex.refl _) c rx k⟩
theorem o2_ixS {z : Str} {i : Int} {n : Nat} (hz : z.length ≤ sizeLine) (h : atI z.cps.toList i = some n) (k : P (.str ⟨#[n]⟩) w) : Op2 K rIxS (.str z) (.int i) w P := by
  intro v u H h1 h2 c Q q
  cases h1; cases h2
  exact ⟨z, i, n, rfl, rfl, hz, h, q _ H _ w (Ex.refl _) c (.str _) k⟩

/-! ### new tuples, new lists -/
theorem mk_new {H : Hp} {p : Addr} {o : HO} (c : Cells K w H) (hp : H p = none) : Ex (msk w H) (msk w (upd H p o)) ∧ Cells K w (upd H p o) ∧ msk w (upd H p o) p = some o := by
  obtain ⟨c', e⟩ := c.grow (ex_new (o := o) hp)
  exact ⟨e, c', msk_of (c.free hp) upd_same⟩
theorem kq_tup {H : Hp} {vs : List V} {ds : List D} {Q : VK} (q : Kq K w H P Q) (c : Cells K w H) (r : RpA K (msk w H) vs ds) (k : P (.tup ds) w) {p : Addr} (hp : H p = none) : Q (.ref p) (upd H p (.tup vs)) := by
  obtain ⟨e, c', h⟩ := mk_new (o := .tup vs) c hp
  exact q _ _ _ w e c' (.tup (.inl (.inl h)) (r.mono e)) k
theorem kq_lst {H : Hp} {vs : List V} {ds : List D} {Q : VK} (q : Kq K w H P Q) (c : Cells K w H) (r : RpA K (msk w H) vs ds) (k : P (.lst ds) w) {p : Addr} (hp : H p = none) : Q (.ref p) (upd H p (.lst vs)) := by
  obtain ⟨e, c', h⟩ := mk_new (o := .lst vs) c hp
  exact q _ _ _ w e c' (.lst h (r.mono e)) k
theorem ev_tup {ts : TA} (h : EvA K W ts δ w (fun ds w1 => ds.length ≤ sizeLine ∧ P (.tup ds) w1) Z) : Ev K W (tTup ts) δ w P Z :=
  fun σ H s Q q z => h σ H s _ (fun vs H1 ds w1 e1 c1 r1 ⟨h1, h2⟩ => ⟨by rw [r1.length]; exact h1, fun p hp => kq_tup (KqG.next q e1) c1 r1 h2 hp⟩) z
theorem ev_lst {ts : TA} (h : EvA K W ts δ w (fun ds w1 => ds.length ≤ sizeLine ∧ P (.lst ds) w1) Z) : Ev K W (tLst ts) δ w P Z :=
  fun σ H s Q q z => h σ H s _ (fun vs H1 ds w1 e1 c1 r1 ⟨h1, h2⟩ => ⟨by rw [r1.length]; exact h1, fun p hp => kq_lst (KqG.next q e1) c1 r1 h2 hp⟩) z
/-- a new list that stays owned -/
theorem own_ok {H : Hp} {p : Addr} {vs : List V} {ds : List D} (c : Cells K w H) (r : RpA K (msk w H) vs ds) (hp : H p = none) : Ex (msk w H) (msk (put w p (.lst ds)) (upd H p (.lst vs))) ∧ Cells K (put w p (.lst ds)) (upd H p (.lst vs)) := by
  have e : Ex (msk w H) (msk (put w p (.lst ds)) (upd H p (.lst vs))) := fun a o h => by
    obtain ⟨h1, h2⟩ := msk_some h
    have n : a ≠ p := ne_of_none h2 hp
    exact msk_of (by rw [put_ne n]; exact h1) (by rw [upd_ne n]; exact h2)
  refine ⟨e, fun a x q => ?_⟩
  by_cases n : a = p
  · subst n
    rw [put_same] at q; cases q
    exact ⟨vs, upd_same, r.mono e⟩
  · rw [put_ne n] at q
    exact ClAt.mono e (c a x q) fun o ho => by rw [upd_ne n]; exact ho
theorem ev_lstOwn {ts : TA} (h : EvA K W ts δ w (fun ds w1 => ds.length ≤ sizeLine ∧ ∀ p, w1 p = none → P (.ptr p) (put w1 p (.lst ds))) Z) : Ev K W (tLst ts) δ w P Z :=
  fun σ H s Q q z => h σ H s _ (fun vs H1 ds w1 e1 c1 r1 ⟨h1, h2⟩ => ⟨by rw [r1.length]; exact h1, fun p hp => by
    obtain ⟨e, c'⟩ := own_ok c1 r1 hp
    exact q _ _ _ _ (e1.trans e) c' (.ptr p) (h2 p (c1.free hp))⟩) z
theorem ea_nil {P : List D → Wl → Prop} (k : P [] w) : EvA K W tNil δ w P Z := fun σ H s Q q _ => q [] H [] w (Ex.refl _) s.ce .nil k
theorem ea_cons {tr : TA} {P : List D → Wl → Prop} (h : Ev K W ta δ w (fun d w1 => EvA K W tr δ w1 (fun ds w2 => P (d :: ds) w2) Z) Z) : EvA K W (tCons ta tr) δ w P Z :=
  fun σ H s Q q z => h σ H s _ (fun v H1 d w1 e1 c1 r1 h1 => h1 σ H1 (s.next e1 c1) _ (fun vs H2 ds w2 e2 c2 r2 h2 => q (v :: vs) H2 (d :: ds) w2 (e1.trans e2) c2 (.cons (r1.mono e2) r2) h2) (z.next e1)) z

/-! ### built-ins by values -/
theorem ev_cb {rr : List V → Hp → VK → Prop} {ts : TA} (h : EvA K W ts δ w (fun ds w1 => OpL K rr ds w1 P) Z) : Ev K W (tCB rr ts) δ w P Z :=
  fun σ H s Q q z => h σ H s _ (fun vs H1 ds w1 e1 c1 r1 h1 => h1 vs H1 r1 c1 Q (KqG.next q e1)) z
theorem ol_len {rr : List V → Hp → VK → Prop} {x : D} {n : Nat} (hr : ∀ v H (Q : VK), LenV K v H n → Q (.int n) H → rr [v] H Q)
    (hx : (∃ ds, x = .tup ds ∧ n = ds.length) ∨ (∃ ds, x = .lst ds ∧ n = ds.length) ∨ (∃ z, x = .str z ∧ z.length ≤ sizeLine ∧ n = z.length) ∨ ∃ l ds, x = .ptr l ∧ w l = some (.lst ds) ∧ n = ds.length) (k : P (.int n) w) : OpL K rr [x] w P := by
  intro vs H h1 c Q q
  cases h1 with
  | cons h t =>
    cases t
    refine hr _ H Q ?_ (q _ H _ w (Ex.refl _) c (.int _) k)
    rcases hx with ⟨ds, rfl, rfl⟩ | ⟨ds, rfl, rfl⟩ | ⟨z, rfl, hz, rfl⟩ | ⟨l, ds, rfl, hl, rfl⟩
    · cases h with
      | tup ht hr => exact .inr ⟨_, ex_t Ex.msk ht, by rw [hr.length]⟩
    · cases h with
      | lst ht hr => exact .inl ⟨_, SqL.of (msk_some ht).2, by rw [hr.length]⟩
    · cases h
      exact ⟨hz, rfl⟩
    · cases h
      obtain ⟨xs, e1, e2⟩ := c l _ hl
      exact .inl ⟨xs, SqL.of e1, by rw [e2.length]⟩
def rLen (K : PySem.W.Frag) : List V → Hp → VK → Prop := fun xs H Q => ∃ x n, xs = [x] ∧ LenV K x H n ∧ Q (.int n) H
theorem len_hr {n : Nat} : ∀ v H (Q : VK), LenV K v H n → Q (.int n) H → rLen K [v] H Q := fun v _ _ h q => ⟨v, n, rfl, h, q⟩
theorem ol_lenT {ds : List D} (k : P (.int ds.length) w) : OpL K (rLen K) [.tup ds] w P := ol_len len_hr (.inl ⟨ds, rfl, rfl⟩) k
theorem ol_lenL {ds : List D} (k : P (.int ds.length) w) : OpL K (rLen K) [.lst ds] w P := ol_len len_hr (.inr (.inl ⟨ds, rfl, rfl⟩)) k
theorem ol_lenS {z : Str} (hz : z.length ≤ sizeLine) (k : P (.int z.length) w) : OpL K (rLen K) [.str z] w P := ol_len len_hr (.inr (.inr (.inl ⟨z, rfl, hz, rfl⟩))) k
def rAbs : List V → Hp → VK → Prop := fun xs H Q => ∃ i, xs = [.int i] ∧ Q (.int (if i < 0 then -i else i)) H
theorem ol_abs {i : Int} (k : P (.int (if i < 0 then -i else i)) w) : OpL K rAbs [.int i] w P := by
  intro vs H h1 c Q q
  cases h1 with
  | cons h t => cases t; cases h; exact ⟨i, rfl, q _ H _ w (Ex.refl _) c (.int _) k⟩
def rMax2 : List V → Hp → VK → Prop := fun xs H Q => ∃ i j, xs = [.int i, .int j] ∧ Q (.int (if j > i then j else i)) H
def rMin2 : List V → Hp → VK → Prop := fun xs H Q => ∃ i j, xs = [.int i, .int j] ∧ Q (.int (if j < i then j else i)) H
theorem ol_max2 {i j : Int} (k : P (.int (if j > i then j else i)) w) : OpL K rMax2 [.int i, .int j] w P := by
  intro vs H h1 c Q q
  cases h1 with
  | cons h t => cases t with
    | cons h' t' => cases t'; cases h; cases h'; exact ⟨i, j, rfl, q _ H _ w (Ex.refl _) c (.int _) k⟩
theorem ol_min2 {i j : Int} (k : P (.int (if j < i then j else i)) w) : OpL K rMin2 [.int i, .int j] w P := by
  intro vs H h1 c Q q
  cases h1 with
  | cons h t => cases t with
    | cons h' t' => cases t'; cases h; cases h'; exact ⟨i, j, rfl, q _ H _ w (Ex.refl _) c (.int _) k⟩
def rInt1 : List V → Hp → VK → Prop := fun xs H Q => (∃ i, xs = [.int i] ∧ Q (.int i) H) ∨ ∃ k, xs = [.bl k] ∧ Q (.int (if k then 1 else 0)) H
theorem ol_int1 {i : Int} (k : P (.int i) w) : OpL K rInt1 [.int i] w P := by
  intro vs H h1 c Q q
  cases h1 with
  | cons h t => cases t; cases h; exact .inl ⟨i, rfl, q _ H _ w (Ex.refl _) c (.int _) k⟩
/-- tuple(xs), list(xs) -/
def rTupOf (K : PySem.W.Frag) : List V → Hp → VK → Prop := fun xs H Q => ∃ p ys, xs = [.ref p] ∧ ((SqL K H p ys ∧ ∀ l, H l = none → Q (.ref l) (upd H l (.tup ys))) ∨ (SqT K H p ys ∧ Q (.ref p) H))
theorem ol_tupL {ds : List D} (k : P (.tup ds) w) : OpL K (rTupOf K) [.lst ds] w P := by
  intro vs H h1 c Q q
  cases h1 with
  | cons h t => cases t; cases h with
    | lst ht hr => exact ⟨_, _, rfl, .inl ⟨SqL.of (msk_some ht).2, fun p hp => kq_tup q c hr k hp⟩⟩
theorem ol_tupO {l : Addr} {ds : List D} (hl : w l = some (.lst ds)) (k : P (.tup ds) w) : OpL K (rTupOf K) [.ptr l] w P := by
  intro vs H h1 c Q q
  cases h1 with
  | cons h t =>
    cases t; cases h
    obtain ⟨xs, e1, e2⟩ := c l _ hl
    exact ⟨_, _, rfl, .inl ⟨SqL.of e1, fun p hp => kq_tup q c e2 k hp⟩⟩
def rLstOf (K : PySem.W.Frag) : List V → Hp → VK → Prop := fun xs H Q => ∃ p ys, xs = [.ref p] ∧ (SqL K H p ys ∨ SqT K H p ys) ∧ ∀ l, H l = none → Q (.ref l) (upd H l (.lst ys))
theorem ol_lstT {ds : List D} (k : P (.lst ds) w) : OpL K (rLstOf K) [.tup ds] w P := by
  intro vs H h1 c Q q
  cases h1 with
  | cons h t => cases t; cases h with
    | tup ht hr => exact ⟨_, _, rfl, .inr (ex_t Ex.msk ht), fun p hp => kq_lst q c hr k hp⟩
theorem ol_all {ns : List Bool} (k : P (.bl (ns.all id)) w) : OpL K (rAll K) [.lst (ns.map D.bl)] w P := by
  intro vs H h1 c Q q
  cases h1 with
  | cons h t => cases t; cases h with
    | lst ht hr =>
      have e := rpa_bools hr
      subst e
      exact ⟨_, ns, rfl, SqL.of (msk_some ht).2, q _ H _ w (Ex.refl _) c (.bl _) k⟩

/-! ### methods -/
theorem ev_bm0 {T : String} {rr : V → List V → Hp → VK → Prop} {to : TE} (h : Ev K W to δ w (fun x w1 => (∀ v H, Rp K (msk w1 H) v x → Cells K w1 H → tyV K T v H) ∧ OpM K rr x [] w1 P) Z) : Ev K W (tBM0 K T rr to) δ w P Z :=
  fun σ H s Q q z => h σ H s _ (fun v H1 d w1 e1 c1 r1 ⟨h1, h2⟩ => ⟨h1 v H1 r1 c1, h2 v [] H1 r1 .nil c1 Q (KqG.next q e1)⟩) z
theorem ev_bm {T : String} {rr : V → List V → Hp → VK → Prop} {to : TE} {ts : TA} (h : Ev K W to δ w (fun x w1 => (∀ v H, Rp K (msk w1 H) v x → Cells K w1 H → tyV K T v H) ∧ EvA K W ts δ w1 (fun ds w2 => OpM K rr x ds w2 P) Z) Z) : Ev K W (tBM K T rr to ts) δ w P Z :=
  fun σ H s Q q z => h σ H s _ (fun v H1 d w1 e1 c1 r1 ⟨h1, h2⟩ => ⟨h1 v H1 r1 c1, h2 σ H1 (s.next e1 c1) _ (fun vs H2 ds w2 e2 c2 r2 h3 => h3 v vs H2 (r1.mono e2) r2 c2 Q (KqG.next q (e1.trans e2))) (z.next e1)⟩) z
theorem ty_str {z : Str} : ∀ v H, Rp K (msk w H) v (.str z) → Cells K w H → tyV K "str" v H := fun v H h _ => by cases h; rfl
theorem ty_lstO {l : Addr} {ds : List D} (hl : w l = some (.lst ds)) : ∀ v H, Rp K (msk w H) v (.ptr l) → Cells K w H → tyV K "list" v H := fun v H h c => by
  cases h
  obtain ⟨xs, e1, _⟩ := c l _ hl
  exact Or.inl ⟨rfl, _, SqL.of e1⟩
theorem om_S0 {g : Str → Bool} {C : Str → Prop} {a : Str} (hc : C a) (k : P (.bl (g a)) w) : OpM K (fun x xs H Q => ∃ a, x = .str a ∧ xs = [] ∧ C a ∧ Q (.bl (g a)) H) (.str a) [] w P := by
  intro v vs H h1 h2 c Q q
  cases h1; cases h2
  exact ⟨a, rfl, rfl, hc, q _ H _ w (Ex.refl _) c (.bl _) k⟩
/-- xs.append(e), xs owned -/
theorem put_ok {l : Addr} {H : Hp} {xs : List V} {ds es : List D} {ys : List V} (c : Cells K w H) (hl : w l = some (.lst ds)) (e : H l = some (.lst xs)) (r : RpA K (msk w H) ys es) : Ex (msk w H) (msk (put w l (.lst es)) (upd H l (.lst ys))) ∧ Cells K (put w l (.lst es)) (upd H l (.lst ys)) := by
  have ee : Ex (msk w H) (msk (put w l (.lst es)) (upd H l (.lst ys))) := fun a o h => by
    obtain ⟨h1, h2⟩ := msk_some h
    have n : a ≠ l := fun z => by rw [z, hl] at h1; cases h1
    exact msk_of (by rw [put_ne n]; exact h1) (by rw [upd_ne n]; exact h2)
  refine ⟨ee, fun a x q => ?_⟩
  by_cases n : a = l
  · subst n
    rw [put_same] at q; cases q
    exact ⟨ys, upd_same, r.mono ee⟩
  · rw [put_ne n] at q
    exact ClAt.mono ee (c a x q) fun o ho => by rw [upd_ne n]; exact ho
theorem om_app {l : Addr} {ds : List D} {d : D} (hl : w l = some (.lst ds)) (hz : ds.length < sizeLine) (k : P .non (put w l (.lst (ds ++ [d])))) : OpM K rAppend (.ptr l) [d] w P := by
  intro v vs H h1 h2 c Q q
  cases h1
  cases h2 with
  | cons r t =>
    cases t
    obtain ⟨xs, e1, e2⟩ := c l _ hl
    obtain ⟨e, c'⟩ := put_ok c hl e1 (e2.append (.cons r .nil))
    exact ⟨l, xs, _, rfl, rfl, e1, by rw [e2.length]; exact hz, q _ _ _ _ e c' .non k⟩

/-! ### slices -/
theorem eo_none {P : Option Int → Wl → Prop} (k : P none w) : EvO K W tNoPart δ w P Z := fun σ H s Q q _ => q none H none w (Ex.refl _) s.ce rfl k
theorem eo_some {P : Option Int → Wl → Prop} (h : Ev K W te δ w (fun d w1 => ∃ i, d = .int i ∧ P (some i) w1) Z) : EvO K W (tPart te) δ w P Z :=
  fun σ H s Q q z => h σ H s _ (fun v H1 d w1 e1 c1 r1 ⟨i, hd, h1⟩ => by
    subst hd; cases r1
    exact ⟨i, rfl, q (some i) H1 (some i) w1 e1 c1 rfl h1⟩) z
def OpS (K : PySem.W.Frag) (r : V → Option Int → Option Int → Hp → VK → Prop) (x : D) (lo hi : Option Int) (w : Wl) (P : PD) : Prop := ∀ v H, Rp K (msk w H) v x → Cells K w H → ∀ Q, Kq K w H P Q → r v lo hi H Q
theorem ev_sl {rr : V → Option Int → Option Int → Hp → VK → Prop} {tl th : TO} (h : Ev K W te δ w (fun x w1 => EvO K W tl δ w1 (fun lo w2 => EvO K W th δ w2 (fun hi w3 => OpS K rr x lo hi w3 P) Z) Z) Z) : Ev K W (tSl rr te tl th) δ w P Z :=
  fun σ H s Q q z => h σ H s _ (fun v H1 d w1 e1 c1 r1 h1 => h1 σ H1 (s.next e1 c1) _ (fun lo H2 lo' w2 e2 c2 r2 h2 => h2 σ H2 ((s.next e1 c1).next e2 c2) _ (fun hi H3 hi' w3 e3 c3 r3 h3 => by
    subst r2; subst r3
    exact h3 v H3 ((r1.mono e2).mono e3) c3 Q (KqG.next q ((e1.trans e2).trans e3))) (z.next (e1.trans e2))) (z.next e1)) z
def cutD (xs : List D) (lo hi : Option Int) : List D := (xs.drop (HT.sIx xs.length 0 lo)).take (HT.sIx xs.length xs.length hi - HT.sIx xs.length 0 lo)
theorem rpa_cut {G : Hp} {vs : List V} {ds : List D} (r : RpA K G vs ds) (lo hi : Option Int) : RpA K G (cutV vs lo hi) (cutD ds lo hi) := by
  unfold cutV cutD
  rw [r.length]
  exact (r.drop _).take _
theorem os_str {z : Str} {lo hi : Option Int} (hz : z.length ≤ sizeLine) (k : P (.str (cutS z lo hi)) w) : OpS K rSlS (.str z) lo hi w P := by
  intro v H h1 c Q q
  cases h1
  exact ⟨z, rfl, hz, q _ H _ w (Ex.refl _) c (.str _) k⟩

/-! ### tests, choices -/
theorem et_B {P : Bool → Wl → Prop} (h : Ev K W te δ w (fun d w1 => ∃ b, d = .bl b ∧ P b w1) Z) : EvT K W (tB te) δ w P Z :=
  fun σ H s Q q z => h σ H s _ (fun v H1 d w1 e1 c1 r1 ⟨i, hd, h1⟩ => by
    subst hd; cases r1
    exact ⟨i, rfl, q i H1 i w1 e1 c1 rfl h1⟩) z
theorem et_test {P : Bool → Wl → Prop} (h : Ev K W te δ w (fun d w1 => ∃ b, d = .bl b ∧ P b w1) Z) : EvT K W (tTest te) δ w P Z :=
  fun σ H s Q q z => h σ H s _ (fun v H1 d w1 e1 c1 r1 ⟨i, hd, h1⟩ => by
    subst hd; cases r1
    exact ⟨i, rfl, q i H1 i w1 e1 c1 rfl h1⟩) z
theorem et_not {P : Bool → Wl → Prop} (h : EvT K W tt δ w (fun b w1 => P (!b) w1) Z) : EvT K W (tNot tt) δ w P Z :=
  fun σ H s Q q z => h σ H s _ (fun v H1 d w1 e1 c1 r1 h1 => by
    subst r1
    exact q _ H1 _ w1 e1 c1 rfl h1) z
theorem et_and {P : Bool → Wl → Prop} (h : EvT K W tt δ w (fun b w1 => if b = true then EvT K W tu δ w1 P Z else P false w1) Z) : EvT K W (tAnd tt tu) δ w P Z :=
  fun σ H s Q q z => h σ H s _ (fun v H1 d w1 e1 c1 r1 h1 => by
    subst r1
    cases v with
    | true => exact h1 σ H1 (s.next e1 c1) Q (KqG.next q e1) (z.next e1)
    | false => exact q false H1 false w1 e1 c1 rfl h1) z
theorem et_or {P : Bool → Wl → Prop} (h : EvT K W tt δ w (fun b w1 => if b = true then P true w1 else EvT K W tu δ w1 P Z) Z) : EvT K W (tOr tt tu) δ w P Z :=
  fun σ H s Q q z => h σ H s _ (fun v H1 d w1 e1 c1 r1 h1 => by
    subst r1
    cases v with
    | false => exact h1 σ H1 (s.next e1 c1) Q (KqG.next q e1) (z.next e1)
    | true => exact q true H1 true w1 e1 c1 rfl h1) z
theorem et_yes {P : Bool → Wl → Prop} (k : P true w) : EvT K W tYes δ w P Z := fun σ H s Q q _ => q true H true w (Ex.refl _) s.ce rfl k
theorem EvT.imp {P P' : Bool → Wl → Prop} (h : EvT K W tt δ w P Z) (k : ∀ d w', P d w' → P' d w') : EvT K W tt δ w P' Z := fun σ H s Q q z => h σ H s Q (fun v H' d w' e c r p => q v H' d w' e c r (k d w' p)) z
theorem ev_if (h : EvT K W tt δ w (fun b w1 => if b = true then Ev K W ta δ w1 P Z else Ev K W tb δ w1 P Z) Z) : Ev K W (tIf tt ta tb) δ w P Z :=
  fun σ H s Q q z => h σ H s _ (fun v H1 d w1 e1 c1 r1 h1 => by
    subst r1
    cases v with
    | true => exact h1 σ H1 (s.next e1 c1) Q (KqG.next q e1) (z.next e1)
    | false => exact h1 σ H1 (s.next e1 c1) Q (KqG.next q e1) (z.next e1)) z
theorem ev_andV (h : Ev K W ta δ w (fun d w1 => ∃ b, d = .bl b ∧ if b = true then Ev K W tb δ w1 P Z else P (.bl false) w1) Z) : Ev K W (tAndV ta tb) δ w P Z :=
  fun σ H s Q q z => h σ H s _ (fun v H1 d w1 e1 c1 r1 ⟨b, hd, h1⟩ => by
    subst hd; cases r1
    refine ⟨b, rfl, ?_⟩
    cases b with
    | true => exact h1 σ H1 (s.next e1 c1) Q (KqG.next q e1) (z.next e1)
    | false => exact q _ H1 _ w1 e1 c1 (.bl false) h1) z
theorem ev_notV (h : Ev K W ta δ w (fun d w1 => ∃ b, d = .bl b ∧ P (.bl (!b)) w1) Z) : Ev K W (tNotV ta) δ w P Z :=
  fun σ H s Q q z => h σ H s _ (fun v H1 d w1 e1 c1 r1 ⟨b, hd, h1⟩ => by
    subst hd; cases r1
    exact ⟨b, rfl, q _ H1 _ w1 e1 c1 (.bl _) h1⟩) z
/-- the truth of a list, a tuple, a text, an int -/
def truD (w : Wl) : D → Option Bool
  | .non => some false | .bl b => some b | .int i => some (i != 0)
  | .lst ds => some (!ds.isEmpty) | .tup ds => some (!ds.isEmpty)
  | .ptr l => match w l with | some (.lst ds) => some (!ds.isEmpty) | _ => none
  | _ => none
theorem rpa_empty {G : Hp} {vs : List V} {ds : List D} (r : RpA K G vs ds) : (!vs.isEmpty) = !ds.isEmpty := by cases r <;> rfl
theorem tru_of {H : Hp} {v : V} {d : D} {b : Bool} (h : Rp K (msk w H) v d) (c : Cells K w H) (e : truD w d = some b) : TruV K v H b := by
  cases h with
  | non => cases e; rfl
  | bl x => cases e; rfl
  | int i => cases e; rfl
  | lst ht hr => cases e; exact .inl ⟨_, SqL.of (msk_some ht).2, (rpa_empty hr).symm⟩
  | tup ht hr => cases e; exact .inr (.inl ⟨_, ex_t Ex.msk ht, (rpa_empty hr).symm⟩)
  | ptr l =>
    unfold truD at e
    cases q : w l with
    | none => simp [q] at e
    | some x =>
      cases x with
      | lst ds =>
        simp only [q] at e; cases e
        obtain ⟨xs, e1, e2⟩ := c l _ q
        exact .inl ⟨_, SqL.of e1, (rpa_empty e2).symm⟩
      | dK _ => simp [q] at e
      | ins _ _ => simp [q] at e
      | scr _ => simp [q] at e
      | dF _ _ _ => simp [q] at e
      | tab _ => simp [q] at e
      | xd _ _ => simp [q] at e
  | _ => cases e
def tTru (K : PySem.W.Frag) (ta : TE) : TT := fun σ H Q => ta σ H fun x H1 => ∃ k, TruV K x H1 k ∧ Q k H1
theorem et_tru {P : Bool → Wl → Prop} (h : Ev K W ta δ w (fun d w1 => ∃ b, truD w1 d = some b ∧ P b w1) Z) : EvT K W (tTru K ta) δ w P Z :=
  fun σ H s Q q z => h σ H s _ (fun v H1 d w1 e1 c1 r1 ⟨b, hd, h1⟩ => ⟨b, tru_of r1 c1 hd, q b H1 b w1 e1 c1 rfl h1⟩) z
end
end DL
set_option Elab.async false
set_option linter.all false
set_option autoImplicit false
set_option maxRecDepth 100000
set_option maxHeartbeats 4000000
namespace DL
open PySem PySem.Spec PyProof.Rows L2
section
variable {K : PySem.W.Frag} {W : XK} {δ : Dlt} {w : Wl} {P : PD} {Z : ZD} {E : EndD} {ta tb te : TE} {tt : TT} {ts tu : TS} {g : TG}

/-! ### statements -/
theorem sd_nx {nx : Dlt → Wl → Prop} {rt : PD} {bk ct : Dlt → Wl → Prop} {rz : ZD} (k : nx δ w) : Sd K W tNext δ w ⟨nx, rt, bk, ct, rz⟩ := fun σ H s Dn ke => ke.nx σ H δ w (Ex.refl _) s k
theorem sd_seq {nx : Dlt → Wl → Prop} {rt : PD} {bk ct : Dlt → Wl → Prop} {rz : ZD} (h : Sd K W ts δ w ⟨fun δ' w' => Sd K W tu δ' w' ⟨nx, rt, bk, ct, rz⟩, rt, bk, ct, rz⟩) : Sd K W (tSeq ts tu) δ w ⟨nx, rt, bk, ct, rz⟩ :=
  fun σ H s Dn ke => h σ H s { Dn with nx := tu Dn } ⟨fun σ' H' δ' w' e s' k => k σ' H' s' Dn (ke.next e), ke.rt, ke.bk, ke.ct, ke.rz⟩
theorem sd_drop {nx : Dlt → Wl → Prop} {rt : PD} {bk ct : Dlt → Wl → Prop} {rz : ZD} (h : Ev K W te δ w (fun _ w1 => nx δ w1) rz) : Sd K W (tDrop te) δ w ⟨nx, rt, bk, ct, rz⟩ :=
  fun σ H s Dn ke => h σ H s _ (fun v H1 d w1 e1 c1 r1 k => ke.nx σ H1 δ w1 e1 (s.next e1 c1) k) ke.rz
theorem sd_ret {nx : Dlt → Wl → Prop} {rt : PD} {bk ct : Dlt → Wl → Prop} {rz : ZD} (h : Ev K W te δ w rt rz) : Sd K W (tRet te) δ w ⟨nx, rt, bk, ct, rz⟩ := fun σ H s Dn ke => h σ H s _ ke.rt ke.rz
theorem sd_if {nx : Dlt → Wl → Prop} {rt : PD} {bk ct : Dlt → Wl → Prop} {rz : ZD} (h : EvT K W tt δ w (fun b w1 => if b = true then Sd K W ts δ w1 ⟨nx, rt, bk, ct, rz⟩ else Sd K W tu δ w1 ⟨nx, rt, bk, ct, rz⟩) rz) : Sd K W (tIfS tt ts tu) δ w ⟨nx, rt, bk, ct, rz⟩ :=
  fun σ H s Dn ke => h σ H s _ (fun v H1 d w1 e1 c1 r1 h1 => by
    subst r1
    cases v with
    | true => exact h1 σ H1 (s.next e1 c1) Dn (ke.next e1)
    | false => exact h1 σ H1 (s.next e1 c1) Dn (ke.next e1)) ke.rz
theorem sd_asg {nx : Dlt → Wl → Prop} {rt : PD} {bk ct : Dlt → Wl → Prop} {rz : ZD} (h : Ev K W te δ w (fun d w1 => Gd K W g d δ w1 nx rz) rz) : Sd K W (tAsg te g) δ w ⟨nx, rt, bk, ct, rz⟩ :=
  fun σ H s Dn ke => h σ H s _ (fun v H1 d w1 e1 c1 r1 k => k v σ H1 r1 (s.next e1 c1) _ (ke.nx.next e1) (ke.rz.next e1)) ke.rz
theorem sd_par {nx : Dlt → Wl → Prop} {rt : PD} {bk ct : Dlt → Wl → Prop} {rz : ZD} {i j : Nat} {t : TA} (h : EvA K W t δ w (fun ds w1 => ∃ a b, ds = [a, b] ∧ nx ((δ.set i (some a)).set j (some b)) w1) rz) : Sd K W (tPar i j t) δ w ⟨nx, rt, bk, ct, rz⟩ :=
  fun σ H s Dn ke => h σ H s _ (fun vs H1 ds w1 e1 c1 r1 ⟨a, b, hd, k⟩ => by
    subst hd
    cases r1 with
    | cons ra t => cases t with
      | cons rb t => cases t; exact ⟨_, _, rfl, ke.nx _ H1 _ w1 e1 (((s.next e1 c1).set i ra).set j rb) k⟩) ke.rz

/-! ### targets -/
theorem gd_name {i : Nat} {d : D} {P : Dlt → Wl → Prop} (k : P (δ.set i (some d)) w) : Gd K W (gName i) d δ w P Z := fun v σ H r s Q q _ => q _ H _ w (Ex.refl _) (s.set i r) k
theorem gd_tup {n : Nat} {t : TGs} {ds : List D} {P : Dlt → Wl → Prop} (hn : ds.length = n) (h : Gds K W t ds δ w P Z) : Gd K W (gTup K n t) (.tup ds) δ w P Z := by
  intro v σ H r s Q q z
  cases r with
  | tup ht hr => exact ⟨_, _, rfl, ex_t Ex.msk ht, hr.length.trans hn, h _ σ H hr s Q q z⟩
theorem gs_nil {P : Dlt → Wl → Prop} (k : P δ w) : Gds K W gNil [] δ w P Z := by
  intro vs σ H r s Q q z
  cases r
  exact ⟨rfl, q σ H δ w (Ex.refl _) s k⟩
theorem gs_cons {t : TG} {u : TGs} {d : D} {ds : List D} {P : Dlt → Wl → Prop} (h : Gd K W t d δ w (fun δ1 w1 => Gds K W u ds δ1 w1 P Z) Z) : Gds K W (gCons t u) (d :: ds) δ w P Z := by
  intro vs σ H r s Q q z
  cases r with
  | cons r1 r2 => exact ⟨_, _, rfl, h _ σ H r1 s _ (fun σ' H' δ' w' e s' k => k _ σ' H' (r2.mono e) s' Q (q.next e) (z.next e)) z⟩
theorem gd_sub {to ti : TE} {d : D} {P : Dlt → Wl → Prop} (h : Ev K W to δ w (fun o w1 => Ev K W ti δ w1 (fun i w2 => ∃ l ds k j, o = .ptr l ∧ i = .int k ∧ w2 l = some (.lst ds) ∧ ixN ds.length k = some j ∧ P δ (put w2 l (.lst (ds.set j d)))) Z) Z) : Gd K W (gSub to ti rSetL) d δ w P Z := by
  intro v σ H r s Q q z
  refine h σ H s _ (fun o H1 od w1 e1 c1 r1 h1 => ?_) z
  refine h1 σ H1 (s.next e1 c1) _ (fun i H2 di w2 e2 c2 r2 ⟨l, ds, k, j, h3, h4, hl, hj, hp⟩ => ?_) (z.next e1)
  subst h3; subst h4
  cases r1; cases r2
  obtain ⟨xs, e3, e4⟩ := c2 l _ hl
  have r' := r.mono (e1.trans e2)
  obtain ⟨ee, cc⟩ := put_ok c2 hl e3 (e4.set r' j)
  exact ⟨l, xs, k, j, rfl, rfl, e3, by rw [e4.length]; exact hj, q σ _ δ _ ((e1.trans e2).trans ee) ((s.next e1 c1).next e2 c2 |>.next ee cc) hp⟩

/-! ### what is walked -/
structure ItD (K : PySem.W.Frag) (J : It) (ds : List D) (G : Hp) : Prop where
  go : ∀ (i : Nat) (H : Hp), i < ds.length → Ex G H → J.go i H
  stop : ∀ H : Hp, Ex G H → J.stop ds.length H
  yld : ∀ (i : Nat) (d : D) (w : Wl) (H : Hp) (x : V) (H' : Hp), ds[i]? = some d → Ex G (msk w H) → Cells K w H → J.yld i H x H' → Ex (msk w H) (msk w H') ∧ Cells K w H' ∧ Rp K (msk w H') x d
def EvI (K : PySem.W.Frag) (W : XK) (wi : TI) (δ : Dlt) (w : Wl) (P : List D → Wl → Prop) (Z : ZD) : Prop :=
  ∀ σ H, Sat K σ H δ w → ∀ R : It → Hp → Prop, (∀ J H' ds w', Ex (msk w H) (msk w' H') → Cells K w' H' → ItD K J ds (msk w' H') → P ds w' → R J H') → Kz K w H Z W → wi σ H R
theorem itd_tup {a : Addr} {xs : List V} {ds : List D} {G : Hp} (h : SqT K G a xs) (r : RpA K G xs ds) : ItD K (Itt K a) ds G :=
  ⟨fun i H hi e => ⟨xs, xs[i]'(by rw [r.length]; exact hi), ex_t e h, by simp [r.length, hi]⟩, fun H e => ⟨xs, ex_t e h, by rw [r.length]; exact Nat.le_refl _⟩,
    fun i d w H x H' hd e c y => by
      obtain ⟨rfl, y⟩ := y
      obtain ⟨v, h1, h2⟩ := r.get hd
      have y' := y xs (ex_t (Ex.trans e Ex.msk) h)
      rw [h1] at y'; cases y'
      exact ⟨Ex.refl _, c, h2.mono e⟩⟩
theorem itd_lst {a : Addr} {xs : List V} {ds : List D} {G : Hp} (h : SqL K G a xs) (r : RpA K G xs ds) : ItD K (Itl K a) ds G :=
  ⟨fun i H hi e => ⟨xs, xs[i]'(by rw [r.length]; exact hi), ex_l e h, by simp [r.length, hi]⟩, fun H e => ⟨xs, ex_l e h, by rw [r.length]; exact Nat.le_refl _⟩,
    fun i d w H x H' hd e c y => by
      obtain ⟨rfl, y⟩ := y
      obtain ⟨v, h1, h2⟩ := r.get hd
      have y' := y xs (ex_l (Ex.trans e Ex.msk) h)
      rw [h1] at y'; cases y'
      exact ⟨Ex.refl _, c, h2.mono e⟩⟩
def rngD (lo : Int) (n : Nat) : List D := (List.range n).map fun i => .int (lo + (i : Nat))
theorem rngD_len {lo : Int} {n : Nat} : (rngD lo n).length = n := by unfold rngD; simp
theorem rngD_get {lo : Int} {n i : Nat} {d : D} (h : (rngD lo n)[i]? = some d) : d = .int (lo + (i : Nat)) ∧ i < n := by
  unfold rngD at h
  rw [List.getElem?_map] at h
  by_cases hi : i < n
  · rw [List.getElem?_range hi] at h
    cases h
    exact ⟨rfl, hi⟩
  · rw [List.getElem?_eq_none (by simpa using hi)] at h
    cases h
theorem itd_rng {lo : Int} {n : Nat} {G : Hp} : ItD K (Itr lo n) (rngD lo n) G :=
  ⟨fun i H hi e => by rw [rngD_len] at hi; exact hi, fun H e => by rw [rngD_len]; exact Nat.le_refl _, fun i d w H x H' hd e c y => by
    obtain ⟨rfl, rfl⟩ := y
    obtain ⟨rfl, _⟩ := rngD_get hd
    exact ⟨Ex.refl _, c, .int _⟩⟩
def chrD (z : Str) : List D := z.cps.toList.map fun c => .str ⟨#[c]⟩
theorem itd_str {z : Str} {G : Hp} : ItD K (Its z) (chrD z) G :=
  ⟨fun i H hi e => by unfold chrD at hi; simp at hi; exact hi, fun H e => by unfold chrD; simp [Its], fun i d w H x H' hd e c y => by
    obtain ⟨rfl, n, h1, rfl⟩ := y
    unfold chrD at hd
    rw [List.getElem?_map] at hd
    have : z.cps.toList[i]? = some n := by rw [← h1]; simp
    rw [this] at hd
    cases hd
    exact ⟨Ex.refl _, c, .str _⟩⟩
end
section
variable {K : PySem.W.Frag} {W : XK} {δ : Dlt} {w : Wl} {P : PD} {Z : ZD} {E : EndD} {ta tb te : TE} {tt : TT} {ts tu : TS} {g : TG} {PA : List D → Wl → Prop}
theorem ei_tupT (h : Ev K W te δ w (fun d w1 => ∃ ds, d = .tup ds ∧ PA ds w1) Z) : EvI K W (iTup K te) δ w PA Z :=
  fun σ H s R q z => h σ H s _ (fun v H1 d w1 e1 c1 r1 ⟨ds, hd, k⟩ => by
    subst hd
    cases r1 with
    | tup ht hr => exact ⟨_, rfl, ⟨_, ex_t Ex.msk ht⟩, q _ H1 ds w1 e1 c1 (itd_tup ht hr) k⟩) z
theorem ei_lst (h : Ev K W te δ w (fun d w1 => ∃ ds, d = .lst ds ∧ PA ds w1) Z) : EvI K W (iList K te) δ w PA Z :=
  fun σ H s R q z => h σ H s _ (fun v H1 d w1 e1 c1 r1 ⟨ds, hd, k⟩ => by
    subst hd
    cases r1 with
    | lst ht hr => exact ⟨_, rfl, ⟨_, SqL.of (msk_some ht).2⟩, q _ H1 ds w1 e1 c1 (itd_lst (SqL.of ht) hr) k⟩) z
theorem ei_str (h : Ev K W te δ w (fun d w1 => ∃ z, d = .str z ∧ PA (chrD z) w1) Z) : EvI K W (iStr te) δ w PA Z :=
  fun σ H s R q z => h σ H s _ (fun v H1 d w1 e1 c1 r1 ⟨ds, hd, k⟩ => by
    subst hd; cases r1
    exact ⟨_, rfl, q _ H1 _ w1 e1 c1 itd_str k⟩) z
theorem ei_rng1 {t : TA} (h : EvA K W t δ w (fun ds w1 => ∃ j : Int, ds = [.int j] ∧ (-(2 ^ 62) ≤ j ∧ j < 2 ^ 62) ∧ PA (rngD 0 j.toNat) w1) Z) : EvI K W (iRng1 t) δ w PA Z :=
  fun σ H s R q z => h σ H s _ (fun v H1 d w1 e1 c1 r1 ⟨j, hd, hj, k⟩ => by
    subst hd
    cases r1 with
    | cons r t => cases t; cases r; exact ⟨j, rfl, hj.1, hj.2, q _ H1 _ w1 e1 c1 itd_rng k⟩) z
/-- a for: I, a word of the turn, the slots, the store -/
theorem sd_for {nx : Dlt → Wl → Prop} {rt : PD} {bk ct : Dlt → Wl → Prop} {rz : ZD} {wi : TI} (h : EvI K W wi δ w (fun ds w1 => ∃ I : Nat → Dlt → Wl → Prop, I 0 δ w1 ∧
    (∀ (i : Nat) (d : D) (δ' : Dlt) (w' : Wl), ds[i]? = some d → I i δ' w' → Gd K W g d δ' w' (fun δ2 w2 => Sd K W ts δ2 w2 ⟨I (i + 1), rt, nx, I (i + 1), rz⟩) rz) ∧
    (∀ δ' w', I ds.length δ' w' → nx δ' w')) rz) : Sd K W (tFor wi g ts) δ w ⟨nx, rt, bk, ct, rz⟩ := by
  intro σ H s Dn ke
  refine h σ H s _ (fun J H1 ds w1 e1 c1 it ⟨I, i0, it1, iN⟩ => ?_) ke.rz
  refine ⟨fun i m σ' H' => m = ds.length - i ∧ i ≤ ds.length ∧ ∃ δ' w', Ex (msk w1 H1) (msk w' H') ∧ Sat K σ' H' δ' w' ∧ I i δ' w', ⟨ds.length, by simp, Nat.zero_le _, δ, w1, Ex.refl _, s.next e1 c1, i0⟩, ?_⟩
  rintro i m σ' H' ⟨rfl, hi, δ', w', e', s', p⟩
  by_cases hlt : i < ds.length
  · refine .inr ⟨it.go i H' hlt (e'.trans Ex.msk), fun σ2 H2 => ∃ δ2 w2, Ex (msk w1 H1) (msk w2 H2) ∧ Sat K σ2 H2 δ2 w2 ∧ I (i + 1) δ2 w2, fun σ2 H2 h2 => ⟨ds.length - (i + 1), by omega, rfl, hlt, h2⟩, fun x H2 y => ?_⟩
    have hd : ds[i]? = some ds[i] := by simp [hlt]
    obtain ⟨e2, c2, r2⟩ := it.yld i _ w' H' x H2 hd e' s'.ce y
    refine it1 i _ δ' w' hd p x σ' H2 r2 (s'.next e2 c2) _ (fun σ3 H3 δ3 w3 e3 s3 k => ?_) (ke.rz.next ((e1.trans e').trans e2))
    have e03 : Ex (msk w1 H1) (msk w3 H3) := (e'.trans e2).trans e3
    refine k σ3 H3 s3 _ ⟨fun σ4 H4 δ4 w4 e4 s4 k4 => ⟨δ4, w4, e03.trans e4, s4, k4⟩, KqG.next ke.rt (e1.trans e03), fun σ4 H4 δ4 w4 e4 s4 k4 => ke.nx σ4 H4 δ4 w4 ((e1.trans e03).trans e4) s4 k4, fun σ4 H4 δ4 w4 e4 s4 k4 => ⟨δ4, w4, e03.trans e4, s4, k4⟩, ke.rz.next (e1.trans e03)⟩
  · have e : i = ds.length := by omega
    subst e
    exact .inl ⟨it.stop H' (e'.trans Ex.msk), ke.nx σ' H' δ' w' (e1.trans e') s' (iN δ' w' p)⟩

/-! ### comprehensions -/
def wipeD (δ : Dlt) : List Nat → Dlt
  | [] => δ
  | v :: vs => (wipeD δ vs).set v none
theorem Sat.wipe {σ : L2.St} {H : Hp} (s : Sat K σ H δ w) : ∀ vs : List Nat, Sat K (wipe σ vs) H (wipeD δ vs) w
  | [] => s
  | v :: vs => by
    have ih := Sat.wipe s vs
    unfold L2.wipe wipeD
    refine ⟨by rw [List.length_set, List.length_set]; exact ih.len, fun j x h => ?_, ih.ce⟩
    by_cases e : v = j
    · subst e
      by_cases hl : v < (wipeD δ vs).length
      · rw [List.getElem?_set_self hl] at h; cases h
      · rw [List.getElem?_eq_none (by simpa using hl)] at h; cases h
    · rw [List.getElem?_set_ne e] at h
      obtain ⟨u, h1, h2⟩ := ih.sl j x h
      exact ⟨u, by rw [List.getElem?_set_ne e]; exact h1, h2⟩
theorem set_comm' {α : Type} (l : List α) (i j : Nat) (a : α) : (l.set i a).set j a = (l.set j a).set i a := by
  by_cases h : i = j
  · subst h; rfl
  · exact List.set_comm _ _ h
theorem wipe_set_none (σ : L2.St) (i : Nat) : ∀ vs : List Nat, wipe (σ.set i none) vs = (wipe σ vs).set i none
  | [] => rfl
  | v :: vs => by unfold L2.wipe; rw [wipe_set_none σ i vs, set_comm']
theorem wipe_mem (σ : L2.St) {i : Nat} {x : Option V} : ∀ {vs : List Nat}, i ∈ vs → wipe (σ.set i x) vs = wipe σ vs
  | v :: vs, h => by
    by_cases hi : i ∈ vs
    · unfold L2.wipe; rw [wipe_mem σ hi]
    · have e : i = v := by
        rcases List.mem_cons.mp h with h | h
        · exact h
        · exact absurd h hi
      subst e
      -- a slot outside vs
      have go : ∀ us : List Nat, (wipe (σ.set i x) us).set i none = (wipe σ us).set i none := fun us => by
        rw [← wipe_set_none, ← wipe_set_none, List.set_set]
      exact go vs
theorem wipe_idem (σ : L2.St) : ∀ vs : List Nat, wipe (wipe σ vs) vs = wipe σ vs
  | [] => rfl
  | v :: vs => by
    show (wipe ((wipe σ vs).set v none) vs).set v none = (wipe σ vs).set v none
    rw [wipe_set_none, wipe_idem σ vs, List.set_set]
/-- a target that stores within vs alone -/
def GLoc (g : TG) (vs : List Nat) : Prop := ∀ v σ H (Q : L2.St → Hp → Prop), g v σ H Q → g v σ H fun σ' H' => Q σ' H' ∧ wipe σ' vs = wipe σ vs
def GLocs (g : TGs) (vs : List Nat) : Prop := ∀ v σ H (Q : L2.St → Hp → Prop), g v σ H Q → g v σ H fun σ' H' => Q σ' H' ∧ wipe σ' vs = wipe σ vs
def GMon (g : TG) : Prop := ∀ v σ H (Q Q' : L2.St → Hp → Prop), (∀ σ' H', Q σ' H' → Q' σ' H') → g v σ H Q → g v σ H Q'
def GMons (g : TGs) : Prop := ∀ v σ H (Q Q' : L2.St → Hp → Prop), (∀ σ' H', Q σ' H' → Q' σ' H') → g v σ H Q → g v σ H Q'
theorem gl_name {i : Nat} {vs : List Nat} (h : i ∈ vs) : GLoc (gName i) vs ∧ GMon (gName i) := ⟨fun v σ H Q q => ⟨q, wipe_mem σ h⟩, fun v σ H Q Q' f q => f _ _ q⟩
theorem gls_nil {vs : List Nat} : GLocs gNil vs ∧ GMons gNil := ⟨fun v σ H Q q => ⟨q.1, q.2, rfl⟩, fun v σ H Q Q' f q => ⟨q.1, f _ _ q.2⟩⟩
theorem gls_cons {t : TG} {u : TGs} {vs : List Nat} (h1 : GLoc t vs ∧ GMon t) (h2 : GLocs u vs ∧ GMons u) : GLocs (gCons t u) vs ∧ GMons (gCons t u) := by
  refine ⟨fun v σ H Q q => ?_, fun v σ H Q Q' f q => ?_⟩
  · obtain ⟨x, r, e, q⟩ := q
    refine ⟨x, r, e, h1.2 x σ H _ _ (fun σ' H' ⟨q', e'⟩ => h2.2 r σ' H' _ _ (fun σ2 H2 ⟨q2, e2⟩ => ⟨q2, e2.trans e'⟩) (h2.1 r σ' H' _ q')) (h1.1 x σ H _ q)⟩
  · obtain ⟨x, r, e, q⟩ := q
    exact ⟨x, r, e, h1.2 x σ H _ _ (fun σ' H' q' => h2.2 r σ' H' _ _ f q') q⟩
theorem gl_tup {n : Nat} {t : TGs} {vs : List Nat} (h : GLocs t vs ∧ GMons t) : GLoc (gTup K n t) vs ∧ GMon (gTup K n t) := by
  refine ⟨fun v σ H Q q => ?_, fun v σ H Q Q' f q => ?_⟩
  · obtain ⟨a, xs, e, h1, h2, q⟩ := q
    exact ⟨a, xs, e, h1, h2, h.1 xs σ H _ q⟩
  · obtain ⟨a, xs, e, h1, h2, q⟩ := q
    exact ⟨a, xs, e, h1, h2, h.2 xs σ H _ _ f q⟩
theorem ev_lc {wi : TI} {vs : List Nat} (hg : GLoc g vs ∧ GMon g) (h : EvI K W wi δ w (fun ds w1 => ∀ l : Addr, w1 l = none → ∃ I : Nat → List D → Wl → Prop, I 0 [] (put w1 l (.lst [])) ∧
    (∀ (i : Nat) (d : D) (acc : List D) (w' : Wl), ds[i]? = some d → w' l = some (.lst acc) → I i acc w' → Gd K W g d (wipeD δ vs) w' (fun δ2 w2 => EvT K W tt δ2 w2 (fun b w3 =>
      if b = true then Ev K W te δ2 w3 (fun y w4 => w4 l = some (.lst acc) ∧ acc.length < sizeLine ∧ I (i + 1) (acc ++ [y]) (put w4 l (.lst (acc ++ [y])))) Z else w3 l = some (.lst acc) ∧ I (i + 1) acc w3) Z) Z) ∧
    (∀ acc w', w' l = some (.lst acc) → I ds.length acc w' → P (.lst acc) (cut w' l))) Z) : Ev K W (tLc wi g tt te vs) δ w P Z := by
  intro σ H s Q q z
  refine h σ H s _ (fun J H1 ds w1 e1 c1 it hI => fun l hD => ?_) z
  obtain ⟨I, i0, it1, iN⟩ := hI l (c1.free hD)
  obtain ⟨eo, co⟩ := own_ok (w := w1) (vs := []) (ds := []) c1 .nil hD
  refine ⟨fun i m H' => m = ds.length - i ∧ i ≤ ds.length ∧ ∃ acc w', w' l = some (.lst acc) ∧ Ex (msk w1 H1) (msk w' H') ∧ Cells K w' H' ∧ I i acc w', ⟨ds.length, by simp, Nat.zero_le _, [], _, put_same, eo, co, i0⟩, ?_⟩
  rintro i m H' ⟨rfl, hi, acc, w', hl, e', c', p⟩
  by_cases hlt : i < ds.length
  · refine .inr ⟨it.go i H' hlt (e'.trans Ex.msk), fun H2 => ∃ acc2 w2, w2 l = some (.lst acc2) ∧ Ex (msk w1 H1) (msk w2 H2) ∧ Cells K w2 H2 ∧ I (i + 1) acc2 w2, fun H2 h2 => ⟨ds.length - (i + 1), by omega, rfl, hlt, h2⟩, fun x H2 y => ?_⟩
    have hd : ds[i]? = some ds[i] := by simp [hlt]
    obtain ⟨e2, c2, r2⟩ := it.yld i _ w' H' x H2 hd e' c' y
    have s2 : Sat K (wipe σ vs) H2 (wipeD δ vs) w' := (s.wipe vs).next ((e1.trans e').trans e2) c2
    refine hg.2 x _ H2 _ _ (fun σ3 H3 (q3 : _ ∧ _) => ⟨q3.2.trans (wipe_idem σ vs), q3.1⟩) (hg.1 x _ H2 _ ?_)
    refine it1 i _ acc w' hd hl p x _ H2 r2 s2 _ (fun σ3 H3 δ3 w3 e3 s3 k => ?_) (z.next ((e1.trans e').trans e2))
    have e13 := (e'.trans e2).trans e3
    refine k σ3 H3 s3 _ (fun b H4 b' w4 e4 c4 r4 k4 => ?_) (z.next (e1.trans e13))
    subst r4
    cases b with
    | true =>
      refine k4 σ3 H4 (s3.next e4 c4) _ (fun y H5 dy w5 e5 c5 r5 ⟨k5, k6, k7⟩ => ?_) (z.next ((e1.trans e13).trans e4))
      obtain ⟨xs, h5, r6⟩ := c5 l _ k5
      obtain ⟨e6, c6⟩ := put_ok c5 k5 h5 (r6.append (.cons r5 .nil))
      exact ⟨xs, h5, by rw [r6.length]; exact k6, _, _, put_same, ((e13.trans e4).trans e5).trans e6, c6, k7⟩
    | false => exact ⟨acc, w4, k4.1, e13.trans e4, c4, k4.2⟩
  · have e : i = ds.length := by omega
    subst e
    obtain ⟨e3, c3, r3⟩ := frz_ok hl c'
    exact .inl ⟨it.stop H' (e'.trans Ex.msk), q _ H' _ _ ((e1.trans e').trans e3) c3 r3 (iN acc w' hl p)⟩
/-- no if, the store as it is, each item's element known -/
theorem lc_map {f : D → D} {wi : TI} {vs : List Nat} (hg : GLoc g vs ∧ GMon g) (h : EvI K W wi δ w (fun ds w1 => ds.length ≤ sizeLine ∧
    (∀ (l : Addr) (c : Cl) (i : Nat) (d : D), w1 l = none → ds[i]? = some d → Gd K W g d (wipeD δ vs) (put w1 l c) (fun δ2 w2 => Ev K W te δ2 w2 (fun y w4 => w4 = put w1 l c ∧ y = f d) Z) Z) ∧ P (.lst (ds.map f)) w1) Z) : Ev K W (tLc wi g tYes te vs) δ w P Z := by
  refine ev_lc hg fun σ H s R q z => h σ H s R (fun J H' ds w1 e c it ⟨hz, h1, h2⟩ => q J H' ds w1 e c it fun l hl => ?_) z
  refine ⟨fun i acc w' => acc = (ds.take i).map f ∧ w' = put w1 l (.lst acc), ⟨by simp, rfl⟩, ?_, ?_⟩
  · rintro i d acc w' hd hw ⟨ha, rfl⟩
    refine fun v σ H r s Q q z => h1 l _ i d hl hd v σ H r s Q (fun σ' H' δ' w' e s' k => q σ' H' δ' w' e s' (et_yes ?_)) z
    show Ev K W te δ' w' _ Z
    refine k.imp fun y w4 ⟨hw4, hy⟩ => ?_
    subst hw4; subst hy
    have hi : i < ds.length := (List.getElem?_eq_some_iff.mp hd).1
    refine ⟨hw, by rw [ha]; simp; omega, ?_, put_put⟩
    rw [ha, List.take_add_one, hd]
    simp
  · rintro acc w' hw ⟨ha, rfl⟩
    rw [cut_put hl, ha, List.take_length]
    exact h2

/-! ### calls -/
/-- a promise on data: what is given, what comes back, what is raised -/
def SpD (K : PySem.W.Frag) (pre : List D → Wl → Prop) (post : List D → Wl → D → Wl → Prop) (zost : List D → Wl → ZD) : Sp := fun vs H Q E =>
  ∃ ds w, RpA K (msk w H) vs ds ∧ Cells K w H ∧ pre ds w ∧ Kq K w H (post ds w) Q ∧ Kz K w H (zost ds w) E
def zN : List D → Wl → ZD := fun _ _ => z0
theorem kz_none {H : Hp} {E' : XK} : Kz K w H z0 E' := fun _ _ _ _ _ _ _ _ h => h.elim
/-- f(a, ..), nothing raised -/
theorem ev_call {pre : List D → Wl → Prop} {post : List D → Wl → D → Wl → Prop} {E' : XK} {t : TA} (h : EvA K W t δ w (fun ds w1 => pre ds w1 ∧ ∀ d w2, post ds w1 d w2 → P d w2) Z) : Ev K W (tCall (SpD K pre post zN) [] E' t) δ w P Z :=
  fun σ H s Q q z => h σ H s _ (fun vs H1 ds w1 e1 c1 r1 ⟨h1, h2⟩ => by
    rw [List.append_nil]
    exact ⟨ds, w1, r1, c1, h1, fun v H2 d w2 e2 c2 r2 p2 => q v H2 d w2 (e1.trans e2) c2 r2 (h2 d w2 p2), kz_none⟩) z
/-- .. it may raise, and the caller lets it out -/
theorem ev_callX {pre : List D → Wl → Prop} {post : List D → Wl → D → Wl → Prop} {zost : List D → Wl → ZD} {t : TA} (h : EvA K W t δ w (fun ds w1 => pre ds w1 ∧ (∀ d w2, post ds w1 d w2 → P d w2) ∧ ∀ c fs w2, zost ds w1 c fs w2 → Z c fs w2) Z) : Ev K W (tCall (SpD K pre post zost) [] W t) δ w P Z :=
  fun σ H s Q q z => h σ H s _ (fun vs H1 ds w1 e1 c1 r1 ⟨h1, h2, h3⟩ => by
    rw [List.append_nil]
    exact ⟨ds, w1, r1, c1, h1, fun v H2 d w2 e2 c2 r2 p2 => q v H2 d w2 (e1.trans e2) c2 r2 (h2 d w2 p2), fun c od H2 fs w2 e2 c2 x2 p2 => z c od H2 fs w2 (e1.trans e2) c2 x2 (h3 c fs w2 p2)⟩) z

/-! ### a def's promise by its body -/
def startD (N : List Str) (ds : List D) : Dlt := ds.map some ++ List.replicate (N.length - ds.length) none
theorem sat_start {N : List Str} {vs : List V} {ds : List D} {H : Hp} (r : RpA K (msk w H) vs ds) (c : Cells K w H) : Sat K (L2.start N vs) H (startD N ds) w := by
  unfold L2.start startD
  refine ⟨by simp [r.length], fun i d h => ?_, c⟩
  by_cases hi : i < ds.length
  · rw [List.getElem?_append_left (by simpa using hi), List.getElem?_map] at h
    cases e : ds[i]? with
    | none => rw [e] at h; cases h
    | some x =>
      rw [e] at h; cases h
      obtain ⟨v, h1, h2⟩ := r.get e
      exact ⟨v, by rw [List.getElem?_append_left (by simp [r.length, hi]), List.getElem?_map, h1]; rfl, h2⟩
  · rw [List.getElem?_append_right (by simpa using Nat.le_of_not_lt hi), List.getElem?_replicate] at h
    split at h <;> cases h
abbrev endD (post : List D → Wl → D → Wl → Prop) (zost : List D → Wl → ZD) (ds : List D) (w : Wl) : EndD := { nx := fun _ w' => post ds w .non w', rt := post ds w, rz := zost ds w }
theorem ke_of {H : Hp} {E' : XK} {Q : VK} {ds : List D} {post : List D → Wl → D → Wl → Prop} {zost : List D → Wl → ZD} (q : Kq K w H (post ds w) Q) (z : Kz K w H (zost ds w) E') : Ke K E' w H (endD post zost ds w) { nx := fun _ H' => Q .non H', rt := Q } :=
  ⟨fun σ' H' δ' w' e s k => q _ H' _ w' e s.ce .non k, q, fun _ _ _ _ _ _ k => k.elim, fun _ _ _ _ _ _ k => k.elim, z⟩
end
section
variable {Pr : Program} {wo : World} {K : PySem.W.Frag} {mg : Str → Option Value} {base : Heap} {pre : List D → Wl → Prop} {post : List D → Wl → D → Wl → Prop} {zost : List D → Wl → ZD}
theorem fn_len {ps : List Str} (hlen : ∀ ds w, pre ds w → ds.length = ps.length) : ∀ vs H Q E, SpD K pre post zost vs H Q E → vs.length = ps.length := fun vs H Q E ⟨ds, w, r, _, p, _⟩ => by rw [r.length]; exact hlen ds w p
end
end DL
set_option Elab.async false
set_option linter.all false
set_option autoImplicit false
set_option maxRecDepth 100000
set_option maxHeartbeats 4000000
/-! DL4: promises of defs that may know which guards of repr stand around (none); their calls; the law's end. -/
namespace DL
open PySem PySem.Spec PyProof.Rows L2

/-- a def's promise, told of calls around which no repr is under way -/
structure Gn (P : Program) (wo : World) (K : PySem.W.Frag) (mg : Str → Option Value) (base : Heap) (C : CXT) (k : Nat) (f : Addr) (fd : FuncData) (ps : List Str) (sp : Sp) : Prop where
  ln : ∀ vs H Q E, sp vs H Q E → vs.length = ps.length
  go : ∀ (A : Around) (fr : List Env) (s : Shared) (H : Hp) (ar : Args) (us : List Value) (vs : List V) (Q : VK) (E : XK), A.guards = some [] → Room k A → Env0 P wo K mg base A fr s H → BindsTo s fd ar (ps.zip us) → Vals vs us →
    sp vs H Q E → codeAny (model P wo) A (.call (.ref f) ar) (CR C fr P wo H s Q E) s
section
variable {P : Program} {wo : World} {K : PySem.W.Frag} {mg : Str → Option Value} {base : Heap} {C : CXT}
theorem Gn.of {k : Nat} {f : Addr} {fd : FuncData} {ps : List Str} {sp : Sp} (h : FnOk P wo K mg base C k f fd ps sp) : Gn P wo K mg base C k f fd ps sp :=
  ⟨h.len, fun A fr s H ar us vs Q E _ hr => h.run A fr s H ar us vs Q E hr⟩
/-- a def by its body -/
theorem gn_of {k : Nat} {f : Addr} {name qual : Str} {pa : Arguments} {body : List Stmt} {sc : Scope} {dV kV doc pm cdv ct oc : Value} {an od : Option Addr} {osl : Array (Option Value)} {N ps : List Str} {sp : Sp}
    (lk : K.lookup f = some ⟨oc, od, .func (PySem.W.fnOf name qual pa body sc dV kV doc pm an cdv ct), osl⟩) (hcd : PySem.W.codeIn K cdv qual = true) (S : FnScope N ps sc) (hl : ∀ vs H Q E, sp vs H Q E → vs.length = ps.length)
    (hb : ∀ (A : Around) (fr : List Env) (s : Shared) (H : Hp) (vs : List V) (Q : VK) (E : XK), A.guards = some [] → Room k (A.deeper (envOfC qual sc s.heap.objs.size f cdv)) → sp vs H Q E →
      ∃ t, PSs (cxOf C P wo K mg base N qual sc f cdv A fr s H E) body t ∧ t { nx := fun _ H' => Q .non H', rt := Q } (L2.start N vs) H) :
    Gn P wo K mg base C (k + 1) f (PySem.W.fnOf name qual pa body sc dV kV doc pm an cdv ct) ps sp := by
  refine ⟨hl, fun A fr s H ar us vs Q E hg hr e0 bt rv hsp => ?_⟩
  have kin : K.In s.heap := e0.mod.kin.keeps fun b o z => (e0.bs b o z).1
  have nol : s.heap.NoLimit := e0.mod.nolimit.keeps fun b o z => (e0.bs b o z).1
  have kinds : ∀ y ∈ ps.zip us, sc.names.lookup y.1 = some .local ∨ (sc.names.lookup y.1 = some .cell ∧ ((cellsFrom (s.heap.objs.size + 1) sc.names []).lookup y.1).isSome = true) := by
    rintro ⟨n, v⟩ hy
    exact (S.par n (List.of_mem_zip hy).1).elim Or.inl fun q => .inr ⟨q, PySem.W.cellsFrom_some _ _ _ (.inl q)⟩
  refine codeAny_call_function hr.depth (kin _ _ lk) rfl S.co S.gen rfl (PySem.W.codeRec_of kin hcd) (bt _ _ _ _ ?_)
  refine wpAny_newFunctionEnv_cells S.kind kinds fun env he s1 hx => ?_
  subst he
  refine ⟨nol.keeps hx.toInCall.keep, codeAny_func ?_⟩
  obtain ⟨t, tb, tq⟩ := hb A fr s H vs Q E hg (hr.deeper _) hsp
  have inv : Inv (cxOf C P wo K mg base N qual sc f cdv A fr s H E) [] (L2.start N vs) H s1 := inv_start S hr.hd e0 (hl _ _ _ _ hsp) rv hx
  refine wpAny_mono (tb.run [] s1 (L2.start N vs) H _ inv tq) (fun fl s' z => ?_) (fun e s' z => z)
  cases fl with
  | ret u => obtain ⟨v, σ', H', J, r, q⟩ := z; exact ⟨v, H', J.os, J.bare, J.base, J.hok, r, q⟩
  | next => obtain ⟨σ', H', J, q⟩ := z; exact ⟨V.non, H', J.os, J.bare, J.base, J.hok, rfl, q⟩
  | brk => obtain ⟨_, _, _, q⟩ := z; exact q.elim
  | cont => obtain ⟨_, _, _, q⟩ := z; exact q.elim
end

/-! ### calls of such defs -/
section
variable {X : Cx} {C : CXT} {k : Nat} {f : Addr} {fd : FuncData} {ps ks : List Str} {sp : Sp} {E : XK} {x : Str} {p pos : Pos} {e : Expr} {es : List Expr} {kws : List Keyword} {t tk : TA} {g : List Value → List Value → List Value} {gV : List V → List V → List V}
theorem gn_run {pins : List (Addr × Obj)} {σ : L2.St} {H : Hp} {s : Shared} {Q : VK} {ar : Args} {us : List Value} {vs : List V} (F : Gn X.prog X.w X.K X.mg X.base C k f fd ps sp) (hg : X.A.guards = some []) (hr : Room k X.A) (hx : Passes C X E)
    (I : Inv X pins σ H s) (hb : BindsTo s fd ar (ps.zip us)) (r : Vals vs us) (h : sp vs H Q E) : wpAny (model X.prog X.w) X.A (PySem.call (.ref f) ar.pos ar.kw) (EP X pins σ Q) X.xe s := by
  refine wpAny_call (codeAny_mono (F.go X.A X.stack s H ar us vs Q E hg hr I.env0 hb r h) fun rs s' hq => ?_)
  match rs, hq with
  | .error e, hq => exact hx pins σ H s e s' I hq
  | .ok (.ret u), hq => exact I.after hq
  | .ok .next, hq => exact hq.elim
  | .ok .brk, hq => exact hq.elim
  | .ok .cont, hq => exact hq.elim
end
end DL
set_option Elab.async false
set_option linter.all false
set_option autoImplicit false
set_option maxRecDepth 100000
set_option maxHeartbeats 4000000
/-! EA: an error of a class of the program is made: its __init__ says super().__init__(text) and stores its field. -/
namespace EX
open PySem PySem.Spec PyProof.Rows L2
/-- the text of such an __init__ -/
structure ErS (st : Stmt) (fld : Str) : Prop where
  body : ∃ (msg : Str) (j : Nat) (p0 p1 p2 p3 p4 p5 p6 p7 p8 p9 : Pos), defBody st = [.Expr (.Call (.Attribute (.Call (.Name "super" p0) [] [] p1) "__init__" p2) [.Constant (.str msg) j p3] [] p4) p5,
    .Assign [.Attribute (.Name "self" p6) fld p7] (.Name fld p8) p9] ∧ (p2.endLine == p4.line) = true
  head : ∃ ar : Arg, ((defArgs st).posonlyargs ++ (defArgs st).args).head? = some ar ∧ ar.arg = "self"
  bind : ∀ (q : Str) (dV kV dc pm ct : Value) (an : Option Addr) (cda cc : Addr) (e u : Value), bindArgs (PySem.W.ksFn "__init__" q (defArgs st) (defBody st) (defScope st) .none kV dc pm an (.ref cda) ct cc) ⟨[e, u], []⟩ = pure [(("self" : Str), e), (fld, u)]
  nsup : (defScope st).names.lookup ("super" : Str) = some .globalImplicit
  ncls : (defScope st).names.lookup ("__class__" : Str) = some .free
  nself : (defScope st).names.lookup ("self" : Str) = some .local
  nfld : (defScope st).names.lookup fld = some .local
  fne : (("self" : Str) == fld) = false
  fdb : (fld == ("__debug__" : Str)) = false
  kind : (defScope st).kind = .function
  co : (defScope st).isCoroutine = false
  gen : (defScope st).isGenerator = false
  nocell : ∀ x ∈ (defScope st).names, x.2 ≠ .cell
/-- what the top has left of it -/
def ErI (P : Program) (K : PySem.W.Frag) (C f : Addr) (st : Stmt) : Prop :=
  ∃ (qual : Str) (oc : Value) (od : Option Addr) (kV dc pm ct : Value) (an : Option Addr) (cda cc : Addr) (sl sl2 sl3 : Array (Option Value)) (oc2 oc3 : Value) (od2 od3 : Option Addr) (vs : Array Value) (file : Str) (tf : Tok),
    K.lookup f = some ⟨oc, od, .func (PySem.W.ksFn "__init__" qual (defArgs st) (defBody st) (defScope st) .none kV dc pm an (.ref cda) ct cc), sl⟩ ∧ PySem.W.codeIn K (.ref cda) qual = true ∧
    K.lookup cda = some ⟨oc2, od2, .fields vs, sl2⟩ ∧ vs[2]? = some (.str file tf) ∧ ((P.main.file : Str) == file) = true ∧ K.lookup cc = some ⟨oc3, od3, .cell (some (.ref C)), sl3⟩
/-- an error class of the program, over a built-in one -/
structure ErC (P : Program) (K : PySem.W.Frag) (mg : Str → Option Value) (B newId iI : String) (bmB : List Value) (C : Addr) (fld : Str) (st : Stmt) : Prop where
  fb : ExcBaseFacts B newId iI bmB
  kf : PySem.W.KxsFacts B iI
  sf : StoreFacts B bmB "object.__setattr__" "object"
  ts : ErS st fld
  it : ∃ f, PySem.W.findIn K (.ref C) "__init__" = some (some (.ref f)) ∧ PySem.W.isFn K (.ref f) = true ∧ ErI P K C f st
  ex : PySem.W.excInitIn K C bmB newId = true
  ov : PySem.W.excOver K C bmB = true
  sub : PySem.W.subIn K (.ref C) (.type B) = some true
  sup : PySem.W.ks_superIn K C C "__init__" = some (some (.builtin iI))
  sa : PySem.W.findIn K (.ref C) "__setattr__" = some (some (.builtin "object.__setattr__"))
  tk : PySem.W.takerIn K C fld = some none
  hd : PySem.W.hasDictIn K C = true
  me : PySem.W.mroIn K C (.ref C) = some true
  op : PySem.W.nsIn K cStatics "thirdparty.any" = some none
  sm : mg "super" = none
  top : (P.main.scope.names.lookup ("super" : Str)).isSome = false
  exC : PySem.W.subIn K (.ref C) (.type "BaseException") = some true
  tyC : PySem.W.typeIn K (.ref C) = some (.type "type")
theorem er_call (env : Env) {p0 p1 p2 p3 p4 : Pos} {msg : Str} {j : Nat} (h : (p2.endLine == p4.line) = true) : eval (.Call (.Attribute (.Call (.Name "super" p0) [] [] p1) "__init__" p2) [.Constant (.str msg) j p3] [] p4) env = (do
      let ov ← attributeBase (.Call (.Name "super" p0) [] [] p1) "__init__" env (eval (.Call (.Name "super" p0) [] [] p1) env)
      standAt p2.atName
      let (f, first) ← holding [ov] (getMethod ov "__init__" (do return (← importBound (.Call (.Name "super" p0) [] [] p1) env).getD true))
      callWith p4 f first (backTo p4 (starEach [.Constant (.str msg) j p3] env)) []) := by
  have e : methodCallPos true (.Call (.Name "super" p0) [] [] p1) env p2 p4 = pure p4 := by
    unfold methodCallPos
    rw [h]
    rfl
  show (do
    let ov ← attributeBase (.Call (.Name "super" p0) [] [] p1) "__init__" env (eval (.Call (.Name "super" p0) [] [] p1) env)
    standAt p2.atName
    let (f, first) ← holding [ov] (getMethod ov "__init__" (do return (← importBound (.Call (.Name "super" p0) [] [] p1) env).getD true))
    let q ← methodCallPos true (.Call (.Name "super" p0) [] [] p1) env p2 p4
    callWith q f first (backTo p4 (starEach [.Constant (.str msg) j p3] env)) []) = _
  rw [e]
  rfl
section
open PySem.W PySem.Calls
variable {P : Program} {w : World} {A : Around} {K : Frag} {mg : Str → Option Value} {B newId iI : String} {bmB : List Value} {C f : Addr} {fld : Str} {st : Stmt}
theorem ns_one {h : Heap} {dx : Addr} {hs : Int} {x : Nat} {u : Value} (e : h.get? dx = some (dictOf [⟨hs, .str fld x, u⟩] 1)) : h.Ns1 dx fun y => if y = fld then some u else none := by
  refine ⟨_, _, _, e, rfl, ?_, ?_, fun y => ?_⟩
  · intro en hen
    have e2 : en = ⟨hs, .str fld x, u⟩ := by simpa using hen
    subst e2
    exact ⟨_, _, rfl⟩
  · exact List.pairwise_singleton ..
  · unfold nsFind findBy
    simp only [List.find?_toArray, List.find?_cons, List.find?_nil]
    by_cases q : y = fld
    · subst q
      simp [Value.isStr]
    · have q2 : ¬ fld = y := fun z => q z.symm
      have q3 : (fld == y) = false := by simpa using q2
      simp [Value.isStr, q, q3]
theorem er_init (E : ErC P K mg B newId iI bmB C fld st) {base : Heap} {s : Shared} {e t : Addr} {u : Value} {R : Result → Shared → Prop} (it : isFn K (.ref f) = true ∧ ErI P K C f st) (md : Mod K mg base) (kb : ∀ b o, base.get? b = some o → s.heap.get? b = some o)
    (be : base.get? e = none) (bt : base.get? t = none) (het : e ≠ t) (he : s.heap.get? e = some (excObj C t none .none)) (ht : s.heap.get? t = some (excTup [u])) (room : A.depth < recursionLimit)
    (fin : ∀ (h' : Heap) (t' dx : Addr) (tk : Nat) (hs : Int) (x : Nat), (∀ b o, b ≠ e → s.heap.get? b = some o → h'.get? b = some o) → s.heap.objs.size ≤ dx → h'.get? e = some (excObj C t' (some dx) .none) →
      h'.get? dx = some (dictOf [⟨hs, .str fld x, u⟩] 1) → R (.ok (.ret .none)) { s with heap := h', toks := tk }) :
    codeAny (model P w) A (.call (.ref f) ⟨[.ref e, u], []⟩) R s := by
  obtain ⟨hfn, qual, oc, od, kV, dc, pm, ct, an, cda, cc, sl, sl2, sl3, oc2, oc3, od2, od3, vs, file, tf, lk, hcd, lcd, hvs, hfile, lcc⟩ := it
  have inS : K.In s.heap := md.kin.keeps kb
  have lim : s.heap.NoLimit := md.nolimit.keeps kb
  obtain ⟨msg, j, p0, p1, p2, p3, p4, p5, p6, p7, p8, p9, hbody, hline⟩ := E.ts.body
  obtain ⟨ar, har, harg⟩ := E.ts.head
  refine ks_codeAny_call_defAt (binds := [(("self" : Str), .ref e), (fld, u)]) (body := defBody st) room (inS _ _ lk) rfl lim (codeRec_of inS hcd) rfl (.of_eq (E.ts.bind qual .none kV dc pm ct an cda cc (.ref e) u)) E.ts.nocell (fun x hx => ?_) (fun h0 hns hk => ?_) E.ts.co E.ts.gen E.ts.kind
  · simp only [List.mem_cons, List.not_mem_nil, or_false] at hx
    rcases hx with rfl | rfl
    · exact E.ts.nself
    · exact E.ts.nfld
  obtain ⟨g, hg⟩ : ∃ g, g = hideAll s.heap [e, t] := ⟨_, rfl⟩
  have gS : ∀ b o, g.get? b = some o → s.heap.get? b = some o := fun b o q => of_hideAll _ (by rw [hg] at q; exact q)
  have inG : K.In g := fun b o q => by
    rw [hg]
    refine hideAll_get _ (inS b o q) fun m => ?_
    have z := md.kin b o q
    rcases List.mem_cons.mp m with rfl | m
    · rw [be] at z; cases z
    · rw [List.mem_singleton.mp m, bt] at z; cases z
  have gbase : ∀ b o, base.get? b = some o → g.get? b = some o := fun b o z => by
    rw [hg]
    refine hideAll_get _ (kb b o z) fun m => ?_
    rcases List.mem_cons.mp m with rfl | m
    · rw [be] at z; cases z
    · rw [List.mem_singleton.mp m, bt] at z; cases z
  have F0 : Fr g s.heap.objs.size h0 (fun x => ([(("self" : Str), Value.ref e), (fld, u)] : List (Str × Value)).reverse.lookup x) := ⟨hns, fun b o q => hk b o (gS b o q), by rw [hg]; exact Nat.le_of_eq (hideAll_size _ _)⟩
  have gone : ∀ b ∈ [e, t], g.get? b = none := fun b m => by rw [hg]; exact hideAll_none _ m
  have N0 : News g s.heap.objs.size h0 [(e, excObj C t none .none), (t, excTup [u])] := fun p hp => by
    simp only [List.mem_cons, List.not_mem_nil, or_false] at hp
    rcases hp with rfl | rfl
    · exact ⟨hk _ _ he, Nat.ne_of_lt (Heap.lt_size he), gone _ (by simp)⟩
    · exact ⟨hk _ _ ht, Nat.ne_of_lt (Heap.lt_size ht), gone _ (by simp)⟩
  have kbody : ∀ env, execs (defBody st) env = execs [.Expr (.Call (.Attribute (.Call (.Name "super" p0) [] [] p1) "__init__" p2) [.Constant (.str msg) j p3] [] p4) p5, .Assign [.Attribute (.Name "self" p6) fld p7] (.Name fld p8) p9] env := fun env => by rw [hbody]
  rw [kbody]
  have inH : K.In h0 := inG.keeps F0.keep
  obtain ⟨cdC, hcC, _⟩ := any_some E.hd
  obtain ⟨oD, hD1, hD2⟩ : ∃ oD, h0.get? C = some oD ∧ oD.data = .cls cdC := by
    unfold clsIn at hcC
    split at hcC
    · rename_i ho
      cases hcC
      exact ⟨_, inH _ _ ho, rfl⟩
    · cases hcC
  have IA : InstAt h0 e (excObj C t none .none) C none := ⟨hk _ _ he, rfl, rfl, trivial⟩
  obtain ⟨mb, hb1, hb2⟩ := md.blt
  refine ks_wpAt_execs_cons (ks_wpAt_Expr_any (ks_wpAt_MethodCall ?_ (er_call _ hline)) (by unfold interactive; rw [show (callEnv (ksFn ("__init__" : Str) qual (defArgs st) (defBody st) (defScope st) Value.none kV dc pm an (Value.ref cda) ct cc) s.heap.objs.size f).scope.kind = .function from E.ts.kind]; rfl))
  refine ks_wpAt_super_base E.ts.nsup E.ts.ncls rfl rfl (inH _ _ lk) rfl har rfl (inH _ _ lcd) rfl hvs hfile E.top ?_
  rw [harg]
  refine ks_loadName_global E.ts.kind E.ts.nsup (loadGlobal_builtin (md.glob.keeps fun b o z => F0.keep _ _ (gbase b o z)) E.sm (hb1.keeps fun b o z => F0.keep _ _ (gbase b o z)) ((hb2 "super" (by decide)).trans (show bootBuiltins "super" = some (.type "super") from by decide +kernel)) ⟨rfl, ?_⟩)
  refine wpAny_loadName_free E.ts.kind E.ts.ncls rfl ⟨_, inH _ _ lcc, rfl⟩ ?_
  refine wpAny_loadName_local E.ts.kind E.ts.nself F0.ns (v := .ref e) (by simp [List.lookup, E.ts.fne]) ?_
  refine ks_wpAny_isType_cls hD1 hD2 ⟨rfl, ?_⟩
  refine ks_wpAny_call_super hD1 hD2 IA.at_ IA.cls (fun c q => by cases q) (looks_mroIn inH E.me) (fun h1 q1 k1 => ?_)
  obtain ⟨F1, N1, l1⟩ := ks_newsPush (s := ⟨h0, s.gens, s.drawn, s.toks, s.os⟩) F0 N0 rfl q1 k1
  have I1 : InstAt h1 e (excObj C t none .none) C none := ⟨k1 _ _ IA.at_, rfl, rfl, trivial⟩
  refine kxs_method E.kf F1 inG N1 (List.mem_cons_self ..) I1 E.op E.sup E.sub rfl (fun q h2 F2 N2 l2 => ?_)
  refine kxs_callWith1 N2 (List.mem_cons_self ..) ?_
  show wpAny _ _ (spliced ((false, eval (.Constant (.str msg) j p3) _) :: backTo p4 (starEach [] _))) _ _ _
  refine spliced_cons (Constant_str (spliced_nil ⟨kxs_at N2 (List.mem_cons_self ..), ?_⟩))
  have ne1 : e < h0.objs.size := Heap.lt_size (hk _ _ he)
  have nt1 : t < h0.objs.size := Heap.lt_size (hk _ _ ht)
  have ne2 : e < q := l2 _ (List.mem_cons_of_mem _ (List.mem_cons_self ..))
  refine kxs_call F2 inG N2 E.fb E.ex (List.mem_cons_self ..) (.tail (Nat.ne_of_gt ne2) (.tail (Nat.ne_of_gt ne1) (.head fun p hp => by rw [List.mem_singleton.mp hp]; exact het.symm))) (by show 1 ≤ sizeLine; rw [sizeLine_eq]; omega) (fun t' h3 F3 N3 l3 => ?_)
  refine ks_wpAt_execs_cons (ks_wpAt_Assign_Attr (wpAt_of_wpAny (ESX.ldL F3.ns (v := u) (by simp [List.lookup]) ?_ E.ts.kind E.ts.nfld E.ts.fdb)))
  refine ESX.ldL F3.ns (v := .ref e) (by simp [List.lookup, E.ts.fne]) ?_ E.ts.kind E.ts.nself
  have ne3 : e < t' := l3 _ (List.mem_cons_of_mem _ (List.mem_cons_of_mem _ (List.mem_cons_self ..)))
  refine set_exc0 E.sf F3 inG N3 (List.mem_cons_of_mem _ (List.mem_cons_of_mem _ (List.mem_cons_of_mem _ (List.mem_cons_self ..)))) E.sa E.ov E.tk E.hd rfl (.tail (Nat.ne_of_gt ne3) (.tail (Nat.ne_of_gt ne2) (.tail (Nat.ne_of_gt ne1) (.head fun p hp => by rw [List.mem_singleton.mp hp]; exact het.symm)))) (by simp [putL]) (fun dx h4 F4 N4 l4 => ?_)
  refine wpAt_of_wpAny (wpAny_execs_nil ?_)
  have keep : ∀ b o, b ≠ e → s.heap.get? b = some o → h4.get? b = some o := fun b o hb q => by
    by_cases z : b = t
    · rw [z] at q ⊢
      rw [ht] at q
      cases q
      exact (N4 (t, excTup [u]) (by simp)).1
    · exact F4.keep b o (by
        rw [hg]
        exact hideAll_get _ q (by simp [hb, z]))
  have hdx := (N4 _ (List.mem_cons_self ..)).1
  exact fin h4 t' dx _ _ _ keep (Nat.le_of_lt (Nat.lt_trans hns.lt (l4 _ (List.mem_cons_of_mem _ (List.mem_cons_of_mem _ (List.mem_cons_self ..)))))) (N4 (e, excObj C t' (some dx) .none) (by simp)).1 hdx
end
end EX
set_option Elab.async false
set_option linter.all false
set_option autoImplicit false
set_option maxRecDepth 100000
set_option maxHeartbeats 4000000
/-! EB: raise C(e). -/
namespace EX
open PySem PySem.Spec PyProof.Rows L2
/-- C(e), an error class of the program -/
def tEr (C : Addr) (fld : Str) (te : TE) : L2.St → Hp → XK → Prop := fun σ H Q => te σ H fun v H1 => ∀ d, H1 d = none → Q (.ref C) (some d) (upd H1 d (.xd [(fld, v)]))
section
variable {X : Cx} {B newId iI : String} {bmB : List Value} {C : Addr} {fld x : Str} {st : Stmt} {e : Expr} {te : TE} {p pos : Pos} {k : Nat}
theorem pmk_er (E : ErC X.prog X.K X.mg B newId iI bmB C fld st) (kC : PySem.W.keepIn X.K (.ref C) = true) (hg : Gl X x) (hm : X.mg x = some (.ref C)) (hd : X.A.depth + 1 < recursionLimit) (he : PE X e te)
    (hs : starEach [e] X.env = (false, eval e X.env) :: starEach [] X.env := by rfl) (hdb : (x == ("__debug__" : Str)) = false := by decide) : PMk X (.Call (.Name x p) [e] [] pos) (tEr C fld te) := by
  intro pins s σ H Q I h
  refine wpAny_Call_Name_kw (ld_glob I hg hm ?_ hdb)
  refine PySem.W.callWith_K (h₀ := X.base) I.ok.mod.kin kC ?_ hs (by rfl)
  rw [hs]
  show wpAny _ _ (spliced ((false, eval e X.env) :: backTo pos (starEach [] X.env))) _ _ s
  refine Calls.spliced_cons (thn (he.run pins s σ H _ I h) fun u s1 ⟨v, H1, I1, r1, q1⟩ => ?_)
  refine Calls.spliced_nil ⟨I1.kIn, ?_⟩
  show wpAny _ _ (call (.ref C) [u]) _ _ _
  obtain ⟨f, iC, hfn, eri⟩ := E.it
  obtain ⟨nm, N, qn, bs, bm, hdct, sn, sub, ab, col, dd, k0, k1, k2, k3, k5, hC, hT⟩ := PySem.W.excInit_of I1.kIn E.ex
  obtain ⟨oI, hoI, hcI⟩ : ∃ oI, s1.heap.get? f = some oI ∧ oI.cls = .type "function" := by
    obtain ⟨o, ho, hc⟩ := Option.map_eq_some_iff.mp (show (X.K.lookup f).map (·.cls) = some (.type "function") from beq_iff_eq.mp hfn)
    exact ⟨o, I1.kIn _ _ ho, hc⟩
  have one : ([u] : List Value).length ≤ sizeLine := by
    show 1 ≤ _
    rw [sizeLine_eq]; omega
  obtain ⟨hp, g, dr, tk, os⟩ := s1
  have kk : ∀ b o, hp.get? b = some o → ((hp.push (PySem.W.kdv_tup [u])).push (HandSPX.excO C hp.objs.size)).get? b = some o := fun b o z => Heap.get?_push_of_some _ (Heap.get?_push_of_some _ z)
  have nob : ∀ b, hp.objs.size ≤ b → X.base.get? b = none := fun b hb => by
    cases z : X.base.get? b with
    | none => rfl
    | some o =>
      obtain ⟨m, fr⟩ := I1.fr
      exact absurd (Nat.lt_of_lt_of_le (Heap.lt_size z) (Nat.le_trans fr.above (Nat.le_of_lt I1.lt))) (Nat.not_lt.mpr hb)
  refine wpAny_call (HandSPX.call_own E.fb hT hC (PySem.W.looks_findIn I1.kIn iC) (fun self => PySem.W.exc_bind hoI hcI self) one ?_)
  refine er_init E ⟨hfn, eri⟩ I1.ok.mod (fun b o z => kk _ _ (I1.bk b o z)) (base := X.base) (t := hp.objs.size) ?_ ?_ (Nat.succ_ne_self _) (by heap_get) (by heap_get) (by rw [make_depth]; exact hd) (fun h' t' dx tk2 hs x0 kp hsz hex hdx => ?_)
  · exact nob _ (Nat.le_succ _)
  · exact nob _ (Nat.le_refl _)
  · have hea : hp.objs.size ≤ hp.objs.size + 1 := Nat.le_succ _
    obtain ⟨G, g1, g2⟩ := restrict h' fun b => decide (b ≠ hp.objs.size + 1)
    have gk : ∀ b, b ≠ hp.objs.size + 1 → G.get? b = h'.get? b := fun b hb => g1 b (decide_eq_true hb)
    have ge : G.get? (hp.objs.size + 1) = none := g2 _ (by simp)
    have old : ∀ b o, hp.get? b = some o → G.get? b = some o := fun b o z => by
      have ne : b ≠ hp.objs.size + 1 := Nat.ne_of_lt (Nat.lt_succ_of_lt (Heap.lt_size z))
      rw [gk b ne]
      exact kp b o ne (kk b o z)
    have hdge : hp.objs.size ≤ dx := Nat.le_trans (by rw [Heap.size_push, Heap.size_push]; omega) hsz
    have hde : dx ≠ hp.objs.size + 1 := fun z => by
      rw [z, hex] at hdx
      cases hdx
    have hn : H1 dx = none := I1.hok.fresh hdge
    have gdx : G.get? dx = _ := (gk dx hde).trans hdx
    have J : Inv X pins σ (upd H1 dx (.xd [(fld, v)])) ⟨G, g, dr, tk2, os⟩ := I1.laid (t' := tk2) (a := dx) (o := .xd [(fld, v)]) (h' := G) old hdge ⟨_, ns_one gdx, fun y => relO_put (fs := []) (mA := fun _ => none) r1 (fun _ => True.intro) y⟩
    refine ⟨rfl, ?_⟩
    refine ⟨hp.objs.size + 1, _, _, ⟨G, g, dr, tk2, os⟩, _, .ref C, some dx, rfl, J, fun b o z => ?_, ge, hex, ⟨rfl, rfl⟩, rfl, rfl, ?_, rfl, I1.bare, raises_own E.exC E.tyC, q1 dx hn⟩
    · by_cases hb : b = hp.objs.size + 1
      · rw [hb, ge] at z; cases z
      · exact (gk b hb).symm.trans z
    · show (upd H1 dx (HO.xd [(fld, v)])) (hp.objs.size + 1) = none
      rw [upd_ne hde.symm]
      exact I1.hok.fresh hea
end
end EX
set_option Elab.async false
set_option linter.all false
set_option autoImplicit false
set_option maxRecDepth 100000
set_option maxHeartbeats 4000000
/-! EC: try: body, except TEST as n: suite, for any test that tells. -/
namespace EX
open PySem PySem.Spec PyProof.Rows L2
/-- the test of an except clause, asked while the exception is at hand -/
def Tells (X : Cx) (tst : Expr) (f : Value → Option Bool) : Prop :=
  ∀ (a : Addr) (oe : Obj) (pn pins : List (Addr × Obj)) (σ : L2.St) (H : Hp) (s : Shared) (b : Bool) (Q : Bool → Shared → Prop) (E : Value → Shared → Prop), Inv (X.suite a ((a, oe) :: pn)) pins σ H s → s.heap.get? a = some oe → f oe.cls = some b →
    (∀ h' t', (∀ x o, s.heap.get? x = some o → h'.get? x = some o) → Q b { s with heap := h', toks := t' }) →
    wpAny (model X.prog X.w) (X.A.mark (some (.ref a))) (eval tst X.env) (fun c s1 => wpAny (model X.prog X.w) (X.A.mark (some (.ref a))) (excMatches (.ref a) c) (fun z s2 => Q z s2) E s1) E s
def wG (f : Value → Option Bool) (i : Nat) (ts : Addr → Value → Option Addr → TS) (Wo : WX) (D : Ends) : WX := fun cls d σ H =>
  ∃ b, f cls = some b ∧ (b = true → ∀ a, H a = none → ts a cls d { nx := fun σ' H' => D.nx (σ'.set i none) H', rt := D.rt, bk := fun σ' H' => D.bk (σ'.set i none) H', ct := fun σ' H' => D.ct (σ'.set i none) H' } (σ.set i (some (.ref a))) H) ∧ (b = false → Wo cls d σ H)
theorem fly_keep {B h h' : Heap} {l : List Env} {a : Addr} {Z : Obj → Prop} (x : HandSPX.FlyingZ B l a Z h) (k : ∀ b o, h.get? b = some o → h'.get? b = some o) : HandSPX.FlyingZ B l a Z h' := by
  obtain ⟨x1, x2, x3, oe, vs, T, oT, ts, y1, y2, y3, y4, y5, y6, y7, y8, y9⟩ := x
  exact ⟨fun b o e => k b o (x1 b o e), x2, Heap.FunFrames.of_keeps (fun b o e _ => ⟨o, k b o e, rfl⟩) x3, oe, vs, T, oT, ts, k _ _ y1, y2, y3, y4, y5, y6, k _ _ y7, y8, y9⟩
section
variable {X : Cx} {n : Str} {f : Value → Option Bool} {i : Nat} {tst : Expr} {body suite : List Stmt} {b₀ : Stmt} {pos pos' : Pos} {tb : WX → TS} {ts : Addr → Value → Option Addr → TS} {Wo : WX}
theorem ps_tryG (st : X.stack = X.env :: X.outer) (fr : X.env.frame = some X.env.locals) (nd : X.N.Nodup) (hi : X.N[i]? = some n) (ln : X.env.kindOf n = some .local) (test : Tells X tst f) (tk : Takes X Wo)
    (hb : ∀ (W : WX) (pn : List (Addr × Obj)) (xe : Value → Shared → Prop), Takes (X.tr pn xe) W → PassesOwn (model X.prog X.w) X.A X.env xe → PSs (X.tr pn xe) body (tb W))
    (hu : ∀ (a : Addr) (oe : Obj) (cls : Value) (d : Option Addr) (pn : List (Addr × Obj)), Zc cls d oe → (∃ vs, oe.data = .fields vs) → PSs (X.suite a ((a, oe) :: pn)) (b₀ :: suite) (ts a cls d)) :
    PS X (.Try body [.ExceptHandler (some tst) (some n) (b₀ :: suite) pos'] [] [] pos) (fun D σ H => tb (wG f i ts Wo D) D σ H) := by
  refine ⟨fun pins s σ H D I h => ?_⟩
  have okX := I.ok
  have frames : X.A.frames = some (X.env :: X.outer) := by rw [okX.frames, st]
  refine wpAny_Try_except ?_
  obtain ⟨xe, hxe⟩ : ∃ xe : Value → Shared → Prop, xe = fun e s1 => wpAny (model X.prog X.w) X.A (noteFrame e X.env) (fun _ s2 => wpAny (model X.prog X.w) X.A (setFlight e none) (fun _ s3 =>
      wpAny (model X.prog X.w) X.A (handleBy e X.env [.ExceptHandler (some tst) (some n) (b₀ :: suite) pos']) (SP X pins D) X.xe s3) X.xe s2) X.xe s1 := ⟨_, rfl⟩
  have own : PassesOwn (model X.prog X.w) X.A X.env xe := by rw [hxe]; exact PassesOwn.looking
  refine wpAny_mono ((hb (wG f i ts Wo D) (X.pn ++ pins) xe (fun u s' air => ?_) own).run [] s σ H D (I.toTry _) h) (fun fl s1 back => ?_) (fun e s1 z => by rw [hxe] at z; exact z)
  · obtain ⟨a, B, sI, pins1, σ1, H1, cls, d, eu, J0, ground, upto, sky, free, eos, bare, b, hb1, yes, no⟩ := air
    subst eu
    rw [hxe]
    have J : Inv X pins σ1 H1 sI := J0.ofTry okX
    rw [st] at sky
    show wpAny (model X.prog X.w) X.A (noteFrame (.ref a) X.env) _ _ _
    refine Sky.land Zc.steady frames fr sky fun h3 fly upto3 => ?_
    have J3 : Inv X pins σ1 H1 { s' with heap := h3 } := J.landed ground fly.1 (upto.trans upto3) eos bare
    obtain ⟨o3, v3, get3, zc3, dat3⟩ := fly.there
    have away : a ∉ frs (X.env :: X.outer) := fun m => by
      obtain ⟨_, o', q, nf⟩ := fly.2.2.1.mem m
      rw [get3] at q
      cases q
      exact nf _ dat3
    have aL : a ≠ X.env.locals := fun z => away (List.mem_filterMap.mpr ⟨X.env, List.mem_cons_self, by rw [fr, z]⟩)
    have aF : a ∉ X.fs := fun m => by
      obtain ⟨e, m1, q⟩ := List.mem_filterMap.mp m
      exact away (List.mem_filterMap.mpr ⟨e, List.mem_cons_of_mem _ m1, q⟩)
    refine wpAny_handleBy_cons (codeAny_handlers_test ?_) (by intro q; cases q)
    refine test a o3 (X.pn ++ pins) [] σ1 H1 _ b _ _ (J3.suite get3 dat3 free aL aF) get3 (by rw [zc3.1]; exact hb1) fun h4 t4 k4 => ?_
    have fly4 := fly_keep fly k4
    have up4 : sI.heap.UpToSlots h4 := (upto.trans upto3).trans (Heap.UpToSlots.of_keeps k4)
    cases b with
    | true =>
      refine codeAny_handlers_suite_as ?_
      refine HandSPX.lands_againZ fly4 fun h5 fly5 upto5 => ?_
      have J5 : Inv X pins σ1 H1 { s' with heap := h5, toks := t4 } := J.landed ground fly5.1 (up4.trans upto5) eos bare
      obtain ⟨o5, v5, get5, zc5, dat5⟩ := fly5.there
      refine store_ok (X := X.suite a ((a, o5) :: (X.pn ++ pins))) (v := .ref a) (J5.suite get5 dat5 free aL aF) nd hi (.inl ln) rfl (fun s6 J6 => ?_) (.inr ln)
      refine wpAny_mono ((hu a o5 cls d (X.pn ++ pins) zc5 ⟨_, dat5⟩).run [] s6 _ H1 _ J6 (yes rfl a free)) (fun fl s7 back => ?_) (fun _ _ z => False.elim z)
      have fin : ∀ {σ7 : L2.St} {H7 : Hp} {Q : Shared → Prop}, Inv (X.suite a ((a, o5) :: (X.pn ++ pins))) [] σ7 H7 s7 → (∀ s8, Inv X pins (σ7.set i none) H7 s8 → Q s8) →
          wpAny (model X.prog X.w) X.A (do bindName X.env n .none; unbindBehindTheSuite X.env n pos') (fun _ s8 => Q s8) X.xe s7 := fun {σ7 H7 Q} J7 q => gone_ok (J7.unsuite okX) nd hi ln q
      cases fl with
      | next => obtain ⟨σ7, H7, J7, q7⟩ := back; exact fin J7 fun s8 J8 => ⟨_, _, J8, q7⟩
      | brk => obtain ⟨σ7, H7, J7, q7⟩ := back; exact fin J7 fun s8 J8 => ⟨_, _, J8, q7⟩
      | cont => obtain ⟨σ7, H7, J7, q7⟩ := back; exact fin J7 fun s8 J8 => ⟨_, _, J8, q7⟩
      | ret u => obtain ⟨v7, σ7, H7, J7, r7, q7⟩ := back; exact fin J7 fun s8 J8 => ⟨_, _, _, J8, r7, q7⟩
    | false =>
      show wpAny _ X.A (handleBy (.ref a) X.env []) _ _ _
      refine wpAny_handleBy_nil ?_
      obtain ⟨g1, g2, g3, oe, vs, T, oT, tv, get, hz, hd, h1, hr⟩ := id fly4
      have last : wpAny (model X.prog X.w) X.A (setFlight (.ref a) X.env.frame) (fun _ s5 => wpAny (model X.prog X.w) X.A (throw (.ref a) : Sem Flow) (SP X pins D) X.xe s5) X.xe { s' with heap := h4, toks := t4 } := by
        rw [fr]
        exact HandSPX.setFlight_upZ fly4 fun h5 held upto5 => wpAny_throw (tk _ _ ⟨a, B, sI, pins, σ1, H1, cls, d, rfl, J, ground, up4.trans upto5, .inr (.inr (by rw [st]; exact held)), free, eos, bare, no rfl⟩)
      unfold PySem.passOn
      refine wpAny_bind (wpAny_field get hd h1 ?_)
      rw [if_neg (show ¬ ((Value.ref T == Value.none) = true) from by simp)]
      first
        | exact wpAny_bind (wpAny_pure (wpAny_bind last))
        | exact wpAny_bind last
  · cases fl with
    | next => obtain ⟨σ', H', J', q⟩ := back; exact wpAny_execs_nil ⟨σ', H', J'.ofTry okX, q⟩
    | brk => obtain ⟨σ', H', J', q⟩ := back; exact ⟨σ', H', J'.ofTry okX, q⟩
    | cont => obtain ⟨σ', H', J', q⟩ := back; exact ⟨σ', H', J'.ofTry okX, q⟩
    | ret u => obtain ⟨v, σ', H', J', r, q⟩ := back; exact ⟨v, σ', H', J'.ofTry okX, r, q⟩
end
section
variable {X : Cx} {x1 x2 x3 : Str} {C1 C2 C3 : Addr} {p1 p2 p3 pos : Pos} 
theorem tells_tup3 (g1 : Gl X x1) (g2 : Gl X x2) (g3 : Gl X x3) (m1 : X.mg x1 = some (.ref C1)) (m2 : X.mg x2 = some (.ref C2)) (m3 : X.mg x3 = some (.ref C3))
    (d1 : (x1 == ("__debug__" : Str)) = false := by decide) (d2 : (x2 == ("__debug__" : Str)) = false := by decide) (d3 : (x3 == ("__debug__" : Str)) = false := by decide) :
    ∀ cx, Tells X (.Tuple [.Name x1 p1, .Name x2 p2, .Name x3 p3] cx pos) (fun cls => PySem.W.exmAny X.K cls [.ref C1, .ref C2, .ref C3]) := by
  intro cx a oe pn pins σ H s b Q E I get hb q
  refine wpAny_Tuple_spliced ?_
  show wpAny _ _ (spliced ((false, eval (.Name x1 p1) X.env) :: (false, eval (.Name x2 p2) X.env) :: (false, eval (.Name x3 p3) X.env) :: [])) _ _ _
  refine Calls.spliced_cons (ld_glob (X := X.suite a ((a, oe) :: pn)) I g1 m1 (Calls.spliced_cons (ld_glob (X := X.suite a ((a, oe) :: pn)) I g2 m2 (Calls.spliced_cons (ld_glob (X := X.suite a ((a, oe) :: pn)) I g3 m3 (Calls.spliced_nil ?_) d3)) d2)) d1)
  refine ⟨by show 3 ≤ sizeLine; rw [sizeLine_eq]; omega, ?_⟩
  have up : ∀ x o, s.heap.get? x = some o → (s.heap.push ({ cls := .type "tuple", data := .seq [Value.ref C1, .ref C2, .ref C3].toArray } : Obj)).get? x = some o := fun x o e => Heap.get?_push_of_some _ e
  have LT : PySem.W.Looks (model X.prog X.w) (s.heap.push ({ cls := .type "tuple", data := .seq [Value.ref C1, .ref C2, .ref C3].toArray } : Obj)) (typeOf (.ref a)) oe.cls := fun A Q E s k q => wpAny_typeOf_ref (k _ _ (up _ _ get)) q
  have LM := PySem.W.exm_tup3 (M := model X.prog X.w) (I.kIn.keeps up) LT (Heap.get?_push_size _ rfl) hb
  exact LM.here (q _ _ up)
end
end EX
set_option Elab.async false
set_option linter.all false
set_option autoImplicit false
set_option maxRecDepth 100000
set_option maxHeartbeats 4000000
/-! ED: a lambda handed to a def, one table at a time. -/
namespace EX
open PySem PySem.Spec PyProof.Rows L2
/-- the table at T: all that it tells bears the name q -/
def TabAt (H : Hp) (T : Addr) (q : Str) : Prop := ∃ ps : Array Value, H T = some (.tbl ps) ∧ TriplesOk ps.toList ∧ ∀ (p : Pos) (u : Value), codeAmong p ps.toList = some u → ∃ c, u = .ref c ∧ H c = some (LamX.CodeO c q)
/-- .. and what becomes of it when a lambda is made -/
def Grows (H H1 : Hp) (T : Addr) (q : Str) : Prop := H1 = H ∨ ∃ (ps : Array Value) (c : Addr), H c = none ∧ H1 = upd (upd H T (.tbl ps)) c (LamX.CodeO c q) ∧ TabAt H1 T q
section
variable {X : Cx} {pins : List (Addr × Obj)} {σ : L2.St} {H : Hp} {s : Shared}
theorem lam_made {c T : Addr} {q : Str} {params : Arguments} {body : Expr} {scope : Scope} {pos : Pos} {E : Value → Shared → Prop} {Q : Value → Shared → Prop} (I : Inv X pins σ H s) (TB : LamX.TabB X.base X.mg c T) (hcode : X.env.code = .ref c) (hq : X.env.qual ++ "<lambda>" = q)
    (tab : TabAt H T q) (hdef : defaultsOf params X.env = ([], [])) (hfree : ∀ y ∈ scope.names, y.2 = .free → ∃ c, X.env.cells.lookup y.1 = some c)
    (h : ∀ (f c' : Addr) (pm ctv : Value) (H1 : Hp) (s' : Shared), Inv X pins σ H1 s' → Grows H H1 T q → s'.heap.get? f = some (PySem.W.kla_obj "<lambda>" (X.env.qual ++ "<lambda>") params body scope (cloFrom X.env.cells scope.names []) pm c' ctv) →
      H1 f = none → f ∉ frs X.stack → H1 c' = some (LamX.CodeO c' q) → Q (.ref f) s') : wpAny (model X.prog X.w) X.A (eval (.Lambda params body scope pos) X.env) Q E s := by
  obtain ⟨ps, atT, trip, codes⟩ := tab
  refine PySem.W.kla_eval hdef ?_
  have bltT : s.heap.BuiltinsAt X.mg T := TB.bm.keeps I.bk
  have objT : s.heap.get? T = some { cls := .none, data := .fields ps } := I.hok T _ atT
  have outside : ∀ f, s.heap.objs.size ≤ f → f ∉ frs X.stack := fun f big m => by
    rcases List.mem_cons.mp (I.stkSub _ m) with e | e
    · have small := I.lt
      rw [← e] at small
      exact Nat.lt_irrefl _ (Nat.lt_of_lt_of_le small big)
    · exact I.nofs big e
  cases among : codeAmong pos ps.toList with
  | none =>
    refine PySem.W.kla_makeFunction (mg := X.mg) (c := c) (P := T) (ps := ps) (closure_ok hfree) I.ok.glob (I.mod.glob.keeps I.bk) hcode (TB.code.keeps I.bk) objT trip among TB.gP bltT fun c' ctv h' tk ext ge lt rec tbl => ?_
    obtain ⟨c2, oc, vs, t, e2, get, dat, nam⟩ := rec
    cases e2
    have larger : s.heap.objs.size ≤ h'.objs.size := Nat.le_trans ge (Nat.le_of_lt lt)
    have newC : H c' = none := I.hok.fresh ge
    have J := LamX.inv_table (t' := tk) (more := #[rawInt pos.line, rawInt pos.col, .ref c']) (h' := h'.push (PySem.W.kla_obj "<lambda>" (X.env.qual ++ "<lambda>") params body scope (cloFrom X.env.cells scope.names []) ((X.mg "__name__").getD .none) c' ctv)) I atT
      (fun b o nb e => Heap.get?_push_of_some _ (ext b o nb e)) (Heap.get?_push_of_some _ tbl) ge ⟨oc, vs, t, Heap.get?_push_of_some _ get, dat, nam⟩
    have lst : (ps ++ #[rawInt pos.line, rawInt pos.col, .ref c']).toList = ps.toList ++ [rawInt pos.line, rawInt pos.col, .ref c'] := by simp
    have grown : TabAt (upd (upd H T (.tbl (ps ++ #[rawInt pos.line, rawInt pos.col, .ref c']))) c' (LamX.CodeO c' (X.env.qual ++ "<lambda>"))) T q := by
      refine ⟨_, by rw [upd_ne (ne_of_none atT newC), upd_same], by rw [lst]; exact PySem.TriplesOk_snoc _ _ _ _ trip, fun p u z => ?_⟩
      rw [lst] at z
      rcases LamX.among_app _ trip z with z | z
      · obtain ⟨c0, e1, e2⟩ := codes p u z
        refine ⟨c0, e1, ?_⟩
        rw [upd_ne (ne_of_none e2 newC), upd_ne (fun e => by rw [e, atT] at e2; exact LamX.codeO_ne ps (Option.some.inj e2).symm)]
        exact e2
      · exact ⟨c', z, by rw [upd_same, hq]⟩
    refine h h'.objs.size c' ((X.mg "__name__").getD .none) ctv _ _ J (.inr ⟨_, c', newC, by rw [hq], grown⟩) (Heap.get?_push_size _ rfl) ?_ (outside _ larger) (by rw [upd_same, hq])
    rw [upd_ne (Nat.ne_of_gt lt), upd_ne (Nat.ne_of_gt (Nat.lt_of_lt_of_le (Heap.lt_size objT) larger))]
    exact I.hok.fresh larger
  | some u =>
    obtain ⟨c', e, known⟩ := codes pos u among
    subst e
    refine PySem.W.kla_makeFunctionHit (mg := X.mg) (c := c) (P := T) (ps := ps) (closure_ok hfree) I.ok.glob (I.mod.glob.keeps I.bk) hcode (TB.code.keeps I.bk) objT trip among bltT fun ctv h' tk ext big => ?_
    exact h h'.objs.size c' ((X.mg "__name__").getD .none) ctv H _ (I.kept (t' := tk) fun b o e => Heap.get?_push_of_some _ (ext b o e)) (.inl rfl) (Heap.get?_push_size _ rfl) (I.hok.fresh big) (outside _ big) known
end
section
variable {X : Cx} {pins : List (Addr × Obj)} {σ : L2.St} {H : Hp} {s : Shared}
/-- x() of the lambda that was handed over, in the def that got it; the guards are told -/
theorem pe_act2 {C0 : CXT} {E0 : XK} {Ng : List Str} {qg : Str} {sg : Scope} {g f c' : Addr} {cdg pm ctv : Value} {params : Arguments} {body : Expr} {scope : Scope} {k : Nat} {a : Str} {pn : List (Addr × Obj)} {xe : Value → Shared → Prop} {W : WX} {E : XK} {tb : TE} {p1 p2 : Pos}
    (I : Inv X pins σ H s) (L : LamX.LamS X.env.scope scope) (at_ : s.heap.get? f = some (PySem.W.kla_obj "<lambda>" (X.env.qual ++ "<lambda>") params body scope (cloFrom X.env.cells scope.names []) pm c' ctv)) (no : H f = none) (out : f ∉ frs X.stack)
    (bind : bindArgs (PySem.W.kla_fn "<lambda>" (X.env.qual ++ "<lambda>") params body scope (cloFrom X.env.cells scope.names []) pm (.ref c') ctv) ⟨[], []⟩ = pure [])
    (tk : Takes ((cxOf C0 X.prog X.w X.K X.mg X.base Ng qg sg g cdg X.A X.stack s H E0).tr pn xe) W) (hW : ∀ cls d σ' H', E cls d H' → W cls d σ' H') (room : Room (k + 1) (X.A.deeper (envOfC qg sg s.heap.objs.size g cdg)))
    (inner : ∀ (outer : List Env) (s2 : Shared) (H2 : Hp), Room k ((X.A.deeper (envOfC qg sg s.heap.objs.size g cdg)).deeper (LamX.lamEnv X scope s2.heap.objs.size f c')) → PE (LamX.lamCx X (X.A.deeper (envOfC qg sg s.heap.objs.size g cdg)) outer s2 H2 E scope f c') body tb)
    (hN : Ng[0]? = some a) (hv : Vis sg a) (hd : (a == ("__debug__" : Str)) = false := by decide) (hcd : (a == ("__classdict__" : Str)) = false := by decide) :
    PE ((cxOf C0 X.prog X.w X.K X.mg X.base Ng qg sg g cdg X.A X.stack s H E0).tr pn xe) (.Call (.Name a p1) [] [] p2)
      (fun σZ HZ Q => σZ[0]? = some (some (.ref f)) ∧ HZ c' = some (LamX.CodeO c' (X.env.qual ++ "<lambda>")) ∧ tb σ HZ Q) := by
  refine ⟨fun pins2 s2 σ2 H2 Q J h => ?_⟩
  obtain ⟨slot, code, read⟩ := h
  refine wpAny_Call_Name_kw (thn ((pe_var (pos := p1) (i := 0) hN hv hd hcd).run pins2 s2 σ2 H2 (fun v G => v = .ref f ∧ G = H2) J ⟨.ref f, slot, rfl, rfl⟩) fun u s3 ⟨v, H3, J3, rel, same⟩ => ?_)
  obtain ⟨rfl, rfl⟩ := same
  obtain rfl : u = Value.ref f := rel
  have obj : s3.heap.get? f = some (PySem.W.kla_obj "<lambda>" (X.env.qual ++ "<lambda>") params body scope (cloFrom X.env.cells scope.names []) pm c' ctv) := J3.base.keep f _ at_ no out (fun z => nomatch (show f ∈ ([] : List Addr) from z))
  refine PySem.W.callWith_F0 ⟨_, _, _, _, obj⟩ ?_
  obtain ⟨⟨oc, vs, t, e1, e2, e3⟩, _, _⟩ := J3.hok c' _ code
  have result : codeAny (model X.prog X.w) (X.A.deeper (envOfC qg sg s.heap.objs.size g cdg)) (.call (.ref f) ⟨[], []⟩) (CR (L2.CX X.prog X.w) (envOfC qg sg s.heap.objs.size g cdg :: X.stack) X.prog X.w H3 s3 Q E) s3 := by
    refine PySem.W.kla_callFunE room.depth obj rfl L.co L.gen rfl ⟨c', oc, vs, t, rfl, e1, e2, e3⟩ ?_
    rw [bind]
    refine wpAny_pure (wpAny_newFunctionEnv (fun y hy => (L.own y hy).2) (fun y hy => absurd hy (by simp)) (fun h1 names but => ⟨J3.nolimit.fresh _ but, ?_⟩) L.kind)
    show codeAny _ _ (.expr body (LamX.lamEnv X scope s3.heap.objs.size f c')) _ _
    have start : Inv (LamX.lamCx X (X.A.deeper (envOfC qg sg s.heap.objs.size g cdg)) (envOfC qg sg s.heap.objs.size g cdg :: X.stack) s3 H3 E scope f c') [] σ H3 { s3 with heap := h1, toks := s3.toks + ([] : List (Str × Value)).length } :=
      LamX.lam_start2 I L J3.env0 room.hd J3.base names fun b o e => but.extBut b o (Nat.ne_of_lt (Heap.lt_size e)) (Heap.get?_push_of_some _ e)
    refine PySem.W.kla_codeExpr (wpAny_mono ((inner _ s3 H3 (room.deeper _)).run [] _ _ H3 Q start read) (fun v s4 z => ?_) fun e s4 z => z)
    obtain ⟨w', H4, J4, r4, q4⟩ := z
    exact ⟨w', H4, J4.os, J4.bare, J4.base, J4.hok, r4, q4⟩
  refine wpAny_call (codeAny_mono result fun r s4 z => ?_)
  match r, z with
  | .error e, z => exact passes_call tk hW pins2 σ2 H3 s3 e s4 J3 z
  | .ok (.ret u), z => exact J3.after z
end
/-- x(lambda: body), the reading -/
def tLm (T : Addr) (q : Str) (TT : (XK → Hp → VK → Prop) → Hp → VK → Prop) (t : XK → TE) : TE := fun σ H Q => TabAt H T q ∧ ∀ H1, Grows H H1 T q → TT (fun E H' Q' => t E σ H' Q') H1 Q
section
variable {X : Cx}
theorem pe_lm {TT : (XK → Hp → VK → Prop) → Hp → VK → Prop} {x a : Str} {q : Str} {g c T : Addr} {k : Nat} {fd : FuncData} {st : Stmt} {Ng : List Str} {params : Arguments} {body : Expr} {scope : Scope} {t : XK → TE} {p lpos pos : Pos}
    (F : Fun X.K x x st g fd) (hg : Gl X x) (hm : X.mg x = some (.ref g)) (hb : L2.Binds X.K fd [a] []) (Sg : FnScope Ng [a] (defScope st)) (hNg : Ng[0]? = some a) (hva : Vis (defScope st) a)
    (hG : ∀ cdg, LamX.GivesTo X Ng x (defScope st) g cdg (defBody st) a q TT) (TB : LamX.TabB X.base X.mg c T) (hcode : X.env.code = .ref c) (hq : X.env.qual ++ "<lambda>" = q) (hr : Room (k + 2) X.A) (L : LamX.LamS X.env.scope scope) (hdef : defaultsOf params X.env = ([], []))
    (hbind : ∀ (q : Str) (cl : List (Str × Addr)) (pm cv ctv : Value), bindArgs (PySem.W.kla_fn "<lambda>" q params body scope cl pm cv ctv) ⟨[], []⟩ = pure [])
    (hgu : X.A.guards = some []) (hbody : ∀ (A : Around) (outer : List Env) (s : Shared) (H : Hp) (E : XK) (f c' : Addr), A.guards = some [] → Room k (A.deeper (LamX.lamEnv X scope s.heap.objs.size f c')) → PE (LamX.lamCx X A outer s H E scope f c') body (t E))
    (hdb : (x == ("__debug__" : Str)) = false := by decide) (hd : (a == ("__debug__" : Str)) = false := by decide) (hcd : (a == ("__classdict__" : Str)) = false := by decide) :
    PE X (.Call (.Name x p) [.Lambda params body scope lpos] [] pos) (tLm T q TT t) := by
  refine ⟨fun pins s σ H Q I h => ?_⟩
  obtain ⟨tab, go⟩ := h
  refine wpAny_Call_Name_kw (ld_glob I hg hm ?_ hdb)
  refine PySem.W.callWith_K (h₀ := X.base) I.ok.mod.kin F.kp ?_ (by rfl) (by rfl)
  show wpAny _ _ (spliced ((false, eval (.Lambda params body scope lpos) X.env) :: backTo pos (starEach [] X.env))) _ _ s
  refine Calls.spliced_cons (lam_made I TB hcode hq tab hdef (L.has I.ok) fun f c' pm' ctv H1 s' J grown at_ none_ out known => ?_)
  refine Calls.spliced_nil ⟨J.kIn, ?_⟩
  obtain ⟨oc, od, kV, doc, pm, an, cdv, ct, osl, rfl, lk, hcg⟩ := F.ex
  have run : codeAny (model X.prog X.w) X.A (.call (.ref g) ⟨[.ref f], []⟩) (CR C8.CX0 X.stack X.prog X.w H1 s' Q C8.E0) s' := by
    refine LamX.run_ofS (N := Ng) (ps := [a]) (us := [.ref f]) (vs := [.ref f]) lk hcg Sg hr J.env0 (hb s' [.ref f] J.kIn rfl) (.cons rfl .nil) rfl fun room => ?_
    obtain ⟨t', d, r⟩ := hG cdv f c' s' H1 Q (fun E H' Q' => t E σ H' Q') (fun W pn xe E p1 p2 tk hW => by
      have act := pe_act2 (p1 := p1) (p2 := p2) (C0 := C8.CX0) (E0 := C8.E0) J L at_ none_ out (hbind _ _ _ _ _) tk hW room (fun outer s H r2 => hbody _ outer s H E f c' hgu r2) hNg hva hd hcd
      rw [hq] at act
      exact act) known (go H1 grown)
    exact ⟨t', d.nox, r⟩
  refine wpAny_call (codeAny_mono run fun r s2 z => ?_)
  match r, z with
  | .error e, z => exact (show False from z).elim
  | .ok (.ret u), z => exact J.after z
end
end EX
set_option Elab.async false
set_option linter.all false
set_option autoImplicit false
set_option maxRecDepth 100000
set_option maxHeartbeats 4000000
/-! DL5: enumerate(a tuple); repr of data; isinstance; calls by keywords. -/
namespace DL
open PySem PySem.Spec PyProof.Rows L2
open Sem (wp)

/-! ### enumerate(t), t a tuple -/
theorem meets_en1 {v : Value} {o : Obj} {G : Heap → Prop} (B : Begins v o G) :
    Meets (Builtin.«enumerate.__new__» ⟨[.type "enumerate", v], []⟩) (fun _ R s => G s.heap ∧
      R (.ok (.ret (.ref (s.heap.push o).objs.size))) { s with heap := (s.heap.push o).push { cls := .type "enumerate", data := .fields #[.none, .bool false, .ref s.heap.objs.size, rawInt 0, .none, .none] } }) :=
  .of_wp fun prog w A R s h => by
    obtain ⟨hp, g, dr, tk, os⟩ := s
    obtain ⟨h1, h⟩ := h
    have hsub := sub_enumerate
    have it1 : ∀ {A' : Around} {E : Value → Shared → Prop} {Q : Value → Shared → Prop}, Q (.ref hp.objs.size) ⟨hp.push o, g, dr, tk, os⟩ → wpAny (model prog w) A' (pyIter v) Q E ⟨hp, g, dr, tk, os⟩ :=
      fun q => B.iter prog w _ _ ⟨hp, g, dr, tk, os⟩ _ h1 q
    wp_walk using it1
    refine wpAny_stack_any fun st => wpAny_pure ?_
    split
    · rename_i c _ _ _ _ _
      cases (c == Value.type "enumerate") <;> (wp_walk using it1; exact ⟨_, rfl, h⟩)
    · wp_walk using it1
      exact ⟨_, rfl, h⟩
theorem en_begins {prog : Program} {w : World} {A : Around} {E : Value → Shared → Prop} {s : Shared} {v : Value} {o : Obj} {G : Heap → Prop} {Q : Value → Shared → Prop} (B : Begins v o G) (h1 : G s.heap)
    (h : ∀ h', IsEnum h' (s.heap.objs.size + 1) s.heap.objs.size 0 .none → h'.get? s.heap.objs.size = some o → h'.objs.size = s.heap.objs.size + 2 → (∀ b ob, s.heap.get? b = some ob → h'.get? b = some ob) → Q (.ref (s.heap.objs.size + 1)) { s with heap := h' }) :
    wpAny (model prog w) A (PySem.call (.type "enumerate") [v]) Q E s := by
  refine callType_new F.called_enumerate (by decide) (F.typeCall_enumerate_1 _) (F.newCall_enumerate_1 _) (fun obj => F.args_object_init_2 obj _) F.entry_enumerate_new (meets_en1 B) ⟨h1, ?_⟩
  have hz : (s.heap.push o).objs.size = s.heap.objs.size + 1 := Heap.size_push ..
  show _ ∧ _
  rw [hz]
  have he : IsEnum ((s.heap.push o).push { cls := .type "enumerate", data := .fields #[.none, .bool false, .ref s.heap.objs.size, rawInt 0, .none, .none] }) (s.heap.objs.size + 1) s.heap.objs.size 0 .none := by
    have z := Heap.get?_push_size (s.heap.push o) (o := { cls := .type "enumerate", data := .fields #[.none, .bool false, .ref s.heap.objs.size, rawInt 0, .none, .none] }) rfl
    rw [hz] at z
    exact z
  exact ⟨⟨_, he, rfl⟩, h _ he (Heap.get?_push_of_some _ (Heap.get?_push_size _ B.free)) (by rw [Heap.size_push, hz]) fun b ob x => Heap.get?_push_of_some _ (Heap.get?_push_of_some _ x)⟩
/-- the tuple at a, each item in a new pair behind its place -/
def ItEt (K : PySem.W.Frag) (a : Addr) : It :=
  ⟨fun i H => ∃ (xs : List V) (x : V), SqT K H a xs ∧ xs[i]? = some x, fun i H v H' => ∃ T x, v = .ref T ∧ H T = none ∧ H' = upd H T (.tup [.int (i : Nat), x]) ∧ ∀ xs, SqT K H a xs → xs[i]? = some x, fun i H => ∃ xs : List V, SqT K H a xs ∧ xs.length ≤ i⟩
theorem tupIter_ne {h : Heap} {it a : Addr} {i : Nat} {items : Array Value} (h1 : h.IsTupleIter it a i) (h2 : h.IsTuple a items) : a ≠ it := by
  rintro rfl
  obtain ⟨o, e, c, _⟩ := h1
  obtain ⟨o', e', c', _⟩ := h2
  rw [e] at e'
  cases e'
  rw [c] at c'
  exact absurd c' (by intro z; injection z with z; exact absurd z (by decide))
theorem turn_en {P : Program} {w : World} {K : PySem.W.Frag} {elts : List Expr} {kk : Nat} {tpos : Pos} (a e it : Addr) :
    Turn P w K (.Tuple elts kk tpos) (ItEt K a) [e, it] e (fun i h => (∃ old, IsEnum h e it ((i : Nat) : Int) old) ∧ h.IsTupleIter it a i ∧ e ≠ it) where
  mem := List.mem_cons_self
  obj := by
    rintro i h ⟨⟨old, he⟩, ⟨o, ho, hc, hd⟩, _⟩ b hb
    rcases (show b = e ∨ b = it by simpa using hb) with rfl | rfl
    · exact ⟨_, he, fun v q => nomatch q⟩
    · exact ⟨o, ho, fun v q => by rw [hd] at q; cases q⟩
  keep := by
    rintro i h h' ⟨⟨old, he⟩, hi, hne⟩ k
    exact ⟨⟨old, k e (by simp) _ he⟩, hi.at fun o q => k it (by simp) o q, hne⟩
  item := by
    intro X hP hw hK hc i pins s σ H E I hf st hg
    subst hP hw hK
    obtain ⟨⟨old, he⟩, hit, hne⟩ := st
    obtain ⟨xs, x, hq, hx⟩ := hg
    obtain ⟨its, rv, p, hz⟩ := I.tuple hq
    have p' : s.heap.IsTuple a its.toArray := p
    obtain ⟨u, hu, ru⟩ := rv.get hx
    have hel : e < s.heap.objs.size := Heap.lt_size he
    have hil : it < s.heap.objs.size := by obtain ⟨_, q, _⟩ := hit; exact Heap.lt_size q
    have hal : a ≠ it := tupIter_ne hit p'
    have hae : e ≠ a := by
      rintro rfl
      obtain ⟨o', e', c', _⟩ := p'
      have he' : s.heap.get? e = some _ := he
      rw [he'] at e'; cases e'
      exact absurd c' (by intro z; injection z with z; exact absurd z (by decide))
    have D : Draws X.prog X.w X.A.in1 it [it, a] its.toArray.size (fun i v => its.toArray[i]? = some v) (fun i h => h.IsTupleIter it a i ∧ h.IsTuple a its.toArray) := Draws.tuple (show X.A.in1.handled = none from I.ok.hd hc) it a hal its.toArray
    have hlt : i < its.toArray.size := by
      have := (List.getElem?_eq_some_iff.mp hu).1
      simpa using this
    refine wpAny_pyNext_enum_itemD D he ⟨hit, p'⟩ hlt hne (by simp [hne, hae]) fun y h' tk hy ho hit' hT hsz hk => ?_
    have hyu : y = u := by
      have : its.toArray[i]? = some u := by simpa using hu
      rw [this] at hy
      exact (Option.some.inj hy).symm
    subst hyu
    refine ⟨_, rfl, wpAny_letOwnedTupleGo_enum (s := { s with heap := h', toks := tk + 1 }) ho fun h'' he' sb => ?_⟩
    have hT2 : h''.get? s.heap.objs.size = some { cls := .type "tuple", data := .seq #[.int i tk, y] } := (sb.2 _ (Nat.ne_of_gt hel)).trans hT
    have new : ObjOk X.prog X.w (upd H s.heap.objs.size (.tup [.int (i : Nat), x])) h'' s.heap.objs.size (.tup [.int (i : Nat), x]) :=
      ⟨by show 2 ≤ sizeLine; decide, [.int i tk, y], .cons ⟨_, rfl⟩ (.cons ru .nil), ⟨_, hT2, rfl, _, rfl⟩⟩
    have I1 : Inv X pins σ (upd H s.heap.objs.size (.tup [.int (i : Nat), x])) { s with heap := h'', toks := tk + 1 } :=
      I.turnedNew (ch := [e, it]) (fun b ob hb q => (sb.2 b (fun z => hb (by simp [z]))).trans (hk b ob (fun z => hb (by simp [z])) (fun z => hb (by simp [z])) q)) hf (Nat.le_refl _) new
    refine ⟨.ref s.heap.objs.size, _, I1, rfl, ⟨_, x, rfl, I.hok.fresh (Nat.le_refl _), rfl, fun ys hy => by rw [I.tuple_inj hy hq]; exact hx⟩, ⟨⟨y, ?_⟩, hit'.1.at fun o q => (sb.2 it (Ne.symm hne)).trans q, hne⟩, fun b hb => ?_⟩
    · rw [show ((i + 1 : Nat) : Int) = (i : Int) + 1 by omega]
      exact he'
    · have hb' : b < s.heap.objs.size := by
        rcases (show b = e ∨ b = it by simpa using hb) with z | z
        · rw [z]; exact hel
        · rw [z]; exact hil
      rw [upd_ne (Nat.ne_of_lt hb')]
      exact (hf b hb).1
  done := by
    intro X hP hw hK hc i pins s σ H E I hf st hg
    subst hP hw hK
    obtain ⟨⟨old, he⟩, hit, hne⟩ := st
    obtain ⟨xs, hq, hx⟩ := hg
    obtain ⟨its, rv, p, hz⟩ := I.tuple hq
    have p' : s.heap.IsTuple a its.toArray := p
    obtain ⟨f0, f1, f2, f3, f4, f5⟩ := hf it (by simp)
    have hl := rv.length
    have hal : a ≠ it := tupIter_ne hit p'
    -- the iterator stands at i, at or behind the end
    have nx := fun (s' : Shared) (Q : Value → Shared → Prop) (E' : Value → Shared → Prop) (h1 : s'.heap.IsTupleIter it a i) (h2 : s'.heap.IsTuple a its.toArray) h3 =>
      wpAny_nextOf_tuple_end (prog := X.prog) (w := X.w) (A := X.A.in1) (E := E') (s := s') (Q := Q) (show X.A.in1.handled = none from I.ok.hd hc) h1 h2 (by simp; omega) h3
    have D : Draws X.prog X.w X.A.in1 it [it, a] i (fun _ _ => False) (fun j h => j = i ∧ h.IsTupleIter it a i ∧ h.IsTuple a its.toArray) :=
      { live := fun _ _ st => let ⟨o, ho, _⟩ := st.2.1; ⟨o, ho⟩
        frame := fun _ _ _ st hk => ⟨st.1, st.2.1.at fun o z => hk it (by simp) o z, st.2.2.at fun o z => hk a (by simp) o z⟩
        item := fun j s Q E hj st _ => absurd st.1 (Nat.ne_of_lt hj)
        done := fun s Q E st hE => nx s Q E st.2.1 st.2.2 hE }
    exact wpAny_pyNext_enum_endD D he ⟨rfl, hit, p'⟩ fun h' eb => ⟨rfl, I.turned (t' := s.toks) (fun b o hb q => eb b o hb q) f0 f1 f3 f4 f5⟩
  self := fun A i s Q E st h => let ⟨⟨_, he⟩, _⟩ := st; wpAny_pyIter_enum he h
def iEnT (K : PySem.W.Frag) (ta : TA) : TI := fun σ H R => ta σ H fun vs H1 => ∃ a xs, vs = [.ref a] ∧ SqT K H1 a xs ∧ R (ItEt K a) H1
theorem pi_enT {X : Cx} {e : Expr} {ta : TA} {p pos tpos : Pos} {elts : List Expr} {kk : Nat} (hg : Gl X "enumerate") (hm : X.mg "enumerate" = none) (ha : PA X [e] ta) (hs : starEach [e] X.env = [(false, eval e X.env)] := by rfl) :
    PI X (.Tuple elts kk tpos) (.Call (.Name "enumerate" p) [e] [] pos) (iEnT X.K ta) := by
  refine ⟨fun pins s σ H R I h => ?_⟩
  refine Call_ (ld_blt I hg hm boot_enumerate (PyProof.Rows.callWith_type1 (thn (ha.run pos pins s σ H _ I h) fun us s1 ⟨vs, H1, I1, r1, q1⟩ => ?_) hs rfl))
  obtain ⟨a, xs, rfl, hq, q⟩ := q1
  cases r1 with
  | cons r rr =>
    cases rr
    cases r
    obtain ⟨its, rv, p', hz⟩ := I1.tuple hq
    refine en_begins (begins_tuple a its.toArray) p' fun h' he hit hsz hk => wpAny_pyIter_enum he ?_
    refine ⟨s1.heap.objs.size + 1, [s1.heap.objs.size + 1, s1.heap.objs.size], _, _, H1, rfl, I1.kept (t' := s1.toks) hk, turn_en a (s1.heap.objs.size + 1) s1.heap.objs.size, ⟨⟨.none, he⟩, ⟨_, hit, rfl, rfl⟩, Nat.succ_ne_self _⟩, fun b hb => ?_, q⟩
    have hle : s1.heap.objs.size ≤ b := by
      rcases (show b = s1.heap.objs.size + 1 ∨ b = s1.heap.objs.size by simpa using hb) with z | z <;> rw [z]
      · exact Nat.le_add_right _ _
      · exact Nat.le_refl _
    exact I1.fpOk hle (I1.hok.fresh hle)
section
variable {K : PySem.W.Frag} {W : XK} {δ : Dlt} {w : Wl} {Z : ZD} {PA : List D → Wl → Prop}
/-- its items on data -/
def enD (ds : List D) : List D := (List.range ds.length).map fun i => .tup [.int (i : Nat), ds.getD i .non]
theorem enD_len (ds : List D) : (enD ds).length = ds.length := by unfold enD; simp
theorem enD_get {ds : List D} {i : Nat} {d : D} (h : (enD ds)[i]? = some d) : ∃ x, ds[i]? = some x ∧ d = .tup [.int (i : Nat), x] := by
  unfold enD at h
  rw [List.getElem?_map] at h
  by_cases hi : i < ds.length
  · rw [List.getElem?_range hi] at h
    cases h
    exact ⟨ds[i], by simp [hi], by simp [List.getD, hi]⟩
  · rw [List.getElem?_eq_none (by simpa using hi)] at h
    cases h
theorem itd_en {a : Addr} {xs : List V} {ds : List D} {G : Hp} (h : SqT K G a xs) (r : RpA K G xs ds) : ItD K (ItEt K a) (enD ds) G :=
  ⟨fun i H hi e => ⟨xs, xs[i]'(by rw [r.length]; rw [enD_len] at hi; exact hi), ex_t e h, by rw [enD_len] at hi; simp [r.length, hi]⟩, fun H e => ⟨xs, ex_t e h, by rw [r.length, enD_len]; exact Nat.le_refl _⟩,
    fun i d w H x H' hd e c y => by
      obtain ⟨T, x, rfl, hT, rfl, y⟩ := y
      obtain ⟨dd, hdd, rfl⟩ := enD_get hd
      obtain ⟨v, h1, h2⟩ := r.get hdd
      have y' := y xs (ex_t (Ex.trans e Ex.msk) h)
      rw [h1] at y'; cases y'
      obtain ⟨e', c', h'⟩ := mk_new (o := .tup [.int (i : Nat), x]) c hT
      exact ⟨e', c', .tup (.inl (.inl h')) (.cons (.int _) (.cons ((h2.mono e).mono e') .nil))⟩⟩
theorem ei_enT {t : TA} (h : EvA K W t δ w (fun ds w1 => ∃ xs, ds = [.tup xs] ∧ PA (enD xs) w1) Z) : EvI K W (iEnT K t) δ w PA Z :=
  fun σ H s R q z => h σ H s _ (fun v H1 d w1 e1 c1 r1 ⟨xs, hd, k⟩ => by
    subst hd
    cases r1 with
    | cons r t => cases t; cases r with
      | tup ht hr => exact ⟨_, _, rfl, ex_t Ex.msk ht, q _ H1 _ w1 e1 c1 (itd_en ht hr) k⟩) z
end
end DL
set_option Elab.async false
set_option linter.all false
set_option autoImplicit false
set_option maxRecDepth 100000
set_option maxHeartbeats 4000000
/-! DL6: repr and == of data, isinstance, calls by keywords, texts. -/
namespace DL
open PySem PySem.Spec PyProof.Rows L2

/-! ### data as the library's plain data -/
mutual
def py : D → PyData
  | .bl b => .bool b
  | .int i => .int i
  | .str x => .str x
  | .lst ds => .list (pyA ds)
  | .tup ds => .tuple (pyA ds)
  | _ => .none
def pyA : List D → List PyData
  | [] => []
  | d :: ds => py d :: pyA ds
end
mutual
def isPy : D → Bool
  | .non | .bl _ | .int _ | .str _ => true
  | .lst ds => isPyA ds
  | .tup ds => isPyA ds
  | _ => false
def isPyA : List D → Bool
  | [] => true
  | d :: ds => isPy d && isPyA ds
end
section
variable {K : PySem.W.Frag} {G : Hp}
mutual
theorem Rp.dp : ∀ {v : V} {d : D}, Rp K G v d → isPy d = true → Dp K G v (py d)
  | _, _, .non, _ => by simp only [py]; exact .non
  | _, _, .bl b, _ => by simp only [py]; exact .bl b
  | _, _, .int b, _ => by simp only [py]; exact .int b
  | _, _, .str b, _ => by simp only [py]; exact .str b
  | _, _, .lst h r, q => by simp only [py]; exact .lst (SqL.of h) (RpA.dp r (by simpa [isPy] using q))
  | _, _, .tup h r, q => by simp only [py]; exact .tup h (RpA.dp r (by simpa [isPy] using q))
  | _, _, .byt _, q => by simp [isPy] at q
  | _, _, .ty _, q => by simp [isPy] at q
  | _, _, .ptr _, q => by simp [isPy] at q
  | _, _, .btp _ _ _, q => by simp [isPy] at q
  | _, _, .ins _ _, q => by simp [isPy] at q
  | _, _, .emp _, q => by simp [isPy] at q
theorem RpA.dp : ∀ {v : List V} {d : List D}, RpA K G v d → isPyA d = true → DpAll K G v (pyA d)
  | _, _, .nil, _ => by simp only [pyA]; exact .nil
  | _, d :: ds, .cons r t, q => by
    have q' : isPy d = true ∧ isPyA ds = true := by simpa [isPyA] using q
    simp only [pyA]
    exact .cons (Rp.dp r q'.1) (RpA.dp t q'.2)
end
theorem Dp.mono' {G' : Hp} (e : Ex G G') {v : V} {d : D} (h : Rp K G v d) (q : isPy d = true) : Dp K G' v (py d) := (h.mono e).dp q
end

/-! ### repr of a list, a tuple -/
def rReprD (K : PySem.W.Frag) : List V → Hp → VK → Prop := fun vs H Q => ∃ (a : Addr) (d : PyData), vs = [.ref a] ∧ Dp K H (.ref a) d ∧ d.showable = true ∧ d.hasDict = false ∧ d.depth ≤ 60 ∧ d.shown.length ≤ sizeLine ∧ Q (.str d.shown) H
/-! what is written costs at most so many signs -/
mutual
def costD : D → Nat
  | .str x => 10 * x.length + 4
  | .lst ds => costA ds + 4
  | .tup ds => costA ds + 4
  | _ => 1922
def costA : List D → Nat
  | [] => 0
  | d :: ds => costD d + 2 + costA ds
end
/-! ints below 2 ^ 1900, texts of plain signs -/
mutual
def small : D → Bool
  | .int i => decide (i.natAbs.log2 < 1900)
  | .str x => x.cps.all (fun c => decide (c < 1000))
  | .lst ds => smallA ds
  | .tup ds => smallA ds
  | .non | .bl _ => true
  | _ => false
def smallA : List D → Bool
  | [] => true
  | d :: ds => small d && smallA ds
end
mutual
theorem small_py : ∀ d : D, small d = true → isPy d = true
  | .non, _ | .bl _, _ | .int _, _ | .str _, _ => by simp [isPy]
  | .lst ds, h => by simp only [isPy]; exact smallA_py ds (by simpa [small] using h)
  | .tup ds, h => by simp only [isPy]; exact smallA_py ds (by simpa [small] using h)
  | .byt _, h | .ty _, h | .ptr _, h | .btp _, h | .ins _ _, h | .emp, h => by simp [small] at h
theorem smallA_py : ∀ ds : List D, smallA ds = true → isPyA ds = true
  | [], _ => by simp [isPyA]
  | d :: ds, h => by
    have q : small d = true ∧ smallA ds = true := by simpa [smallA] using h
    simp [isPyA, small_py d q.1, smallA_py ds q.2]
end
mutual
theorem small_show : ∀ d : D, small d = true → (py d).showable = true
  | .non, _ => by simp [py, PyData.showable]
  | .bl _, _ => by simp [py, PyData.showable]
  | .str _, _ => by simp [py, PyData.showable]
  | .int i, h => by
    have q : i.natAbs.log2 < 1900 := by simpa [small] using h
    simp only [py, PyData.showable, decide_eq_true_eq]
    omega
  | .lst ds, h => by simp only [py, PyData.showable]; exact smallA_show ds (by simpa [small] using h)
  | .tup ds, h => by simp only [py, PyData.showable]; exact smallA_show ds (by simpa [small] using h)
  | .byt _, h | .ty _, h | .ptr _, h | .btp _, h | .ins _ _, h | .emp, h => by simp [small] at h
theorem smallA_show : ∀ ds : List D, smallA ds = true → PyData.showableAll (pyA ds) = true
  | [], _ => by simp [pyA, PyData.showableAll]
  | d :: ds, h => by
    have q : small d = true ∧ smallA ds = true := by simpa [smallA] using h
    simp [pyA, PyData.showableAll, small_show d q.1, smallA_show ds q.2]
end
mutual
theorem py_noDict : ∀ d : D, (py d).hasDict = false
  | .non => by simp [py, PyData.hasDict]
  | .bl _ => by simp [py, PyData.hasDict]
  | .str _ => by simp [py, PyData.hasDict]
  | .int _ => by simp [py, PyData.hasDict]
  | .lst ds => by simp only [py, PyData.hasDict]; exact pyA_noDict ds
  | .tup ds => by simp only [py, PyData.hasDict]; exact pyA_noDict ds
  | .byt _ => by simp [py, PyData.hasDict]
  | .ty _ => by simp [py, PyData.hasDict]
  | .ptr _ => by simp [py, PyData.hasDict]
  | .btp _ => by simp [py, PyData.hasDict]
  | .ins _ _ => by simp [py, PyData.hasDict]
  | .emp => by simp [py, PyData.hasDict]
theorem pyA_noDict : ∀ ds : List D, PyData.hasDictAll (pyA ds) = false
  | [] => by simp [pyA, PyData.hasDictAll]
  | d :: ds => by simp [pyA, PyData.hasDictAll, py_noDict d, pyA_noDict ds]
end
mutual
def deepD : D → Nat
  | .lst ds => deepA ds + 1
  | .tup ds => deepA ds + 1
  | _ => 0
def deepA : List D → Nat
  | [] => 0
  | d :: ds => max (deepD d) (deepA ds)
end
mutual
theorem py_depth : ∀ d : D, (py d).depth = deepD d
  | .non => by simp [py, PyData.depth, deepD]
  | .bl _ => by simp [py, PyData.depth, deepD]
  | .str _ => by simp [py, PyData.depth, deepD]
  | .int _ => by simp [py, PyData.depth, deepD]
  | .lst ds => by simp only [py, PyData.depth, deepD]; rw [pyA_depth ds]
  | .tup ds => by simp only [py, PyData.depth, deepD]; rw [pyA_depth ds]
  | .byt _ => by simp [py, PyData.depth, deepD]
  | .ty _ => by simp [py, PyData.depth, deepD]
  | .ptr _ => by simp [py, PyData.depth, deepD]
  | .btp _ => by simp [py, PyData.depth, deepD]
  | .ins _ _ => by simp [py, PyData.depth, deepD]
  | .emp => by simp [py, PyData.depth, deepD]
theorem pyA_depth : ∀ ds : List D, PyData.depthAll (pyA ds) = deepA ds
  | [] => by simp [pyA, PyData.depthAll, deepA]
  | d :: ds => by simp [pyA, PyData.depthAll, deepA, py_depth d, pyA_depth ds]
end


mutual
theorem small_cost : ∀ d : D, small d = true → (py d).shown.length ≤ costD d
  | .non, _ => by simp only [py, PyData.shown, costD]; decide +kernel
  | .bl b, _ => by cases b <;> (simp only [py, PyData.shown, costD]; decide +kernel)
  | .int i, h => by
    have q : i.natAbs.log2 < 1900 := by simpa [small] using h
    simp only [py, PyData.shown, costD]
    exact Nat.le_trans (int_text_len_1921 (by omega)) (by omega)
  | .str x, h => by
    have q : ∀ c ∈ x.cps.toList, c < 16 ^ 8 := fun c hc => by
      have z := h
      simp only [small, Array.all_eq_true', decide_eq_true_eq] at z
      exact Nat.lt_of_lt_of_le (z c (Array.mem_toList_iff.mp hc)) (by decide)
    simp only [py, PyData.shown, costD]
    have := StrLaws.reprText_len x q
    omega
  | .lst ds, h => by
    simp only [py, PyData.shown, costD]
    have h1 := listText_len_le (PyData.shownAll (pyA ds))
    have h2 := smallA_cost ds (by simpa [small] using h)
    rw [shownAll_len'] at h1
    omega
  | .tup ds, h => by
    simp only [py, PyData.shown, costD]
    have h1 := tupleText_len_le (PyData.shownAll (pyA ds))
    have h2 := smallA_cost ds (by simpa [small] using h)
    rw [shownAll_len'] at h1
    omega
  | .byt _, h | .ty _, h | .ptr _, h | .btp _, h | .ins _ _, h | .emp, h => by simp [small] at h
theorem smallA_cost : ∀ ds : List D, smallA ds = true → ((PyData.shownAll (pyA ds)).map (·.length)).sum + 2 * ds.length ≤ costA ds
  | [], _ => by simp [pyA, PyData.shownAll, costA]
  | d :: ds, h => by
    have q : small d = true ∧ smallA ds = true := by simpa [smallA] using h
    have h1 := small_cost d q.1
    have h2 := smallA_cost ds q.2
    simp only [pyA, PyData.shownAll, costA, List.map_cons, List.sum_cons, List.length_cons]
    omega
theorem shownAll_len' : ∀ ds : List D, (PyData.shownAll (pyA ds)).length = ds.length
  | [] => by simp [pyA, PyData.shownAll]
  | d :: ds => by simp [pyA, PyData.shownAll, shownAll_len' ds]
end
/-- what can be written out: a list or a tuple -/
def wr (d : D) : Prop := small d = true ∧ deepD d ≤ 60 ∧ costD d ≤ sizeLine
def isSeq : D → Bool | .lst _ => true | .tup _ => true | _ => false
section
variable {K : PySem.W.Frag} {W : XK} {δ : Dlt} {w : Wl} {P : PD} {Z : ZD} {ta tb te : TE}
/-! ### == of data -/
mutual
def flatOk : D → Bool
  | .lst ds => flatOkA ds
  | .tup ds => flatOkA ds
  | .non | .bl _ | .int _ | .str _ => true
  | _ => false
def flatOkA : List D → Bool
  | [] => true
  | d :: ds => flatOk d && flatOkA ds
end
mutual
theorem flatOk_py : ∀ d : D, flatOk d = true → isPy d = true
  | .non, _ | .bl _, _ | .int _, _ | .str _, _ => by simp [isPy]
  | .lst ds, h => by simp only [isPy]; exact flatOkA_py ds (by simpa [flatOk] using h)
  | .tup ds, h => by simp only [isPy]; exact flatOkA_py ds (by simpa [flatOk] using h)
  | .byt _, h | .ty _, h | .ptr _, h | .btp _, h | .ins _ _, h | .emp, h => by simp [flatOk] at h
theorem flatOkA_py : ∀ ds : List D, flatOkA ds = true → isPyA ds = true
  | [], _ => by simp [isPyA]
  | d :: ds, h => by
    have q : flatOk d = true ∧ flatOkA ds = true := by simpa [flatOkA] using h
    simp [isPyA, flatOk_py d q.1, flatOkA_py ds q.2]
end

/-! ### isinstance against a built-in class -/
def tyD : D → Option String
  | .non => some "NoneType" | .bl _ => some "bool" | .int _ => some "int" | .str _ => some "str" | .byt _ => some "bytes" | .lst _ => some "list" | .tup _ => some "tuple" | .emp => some "dict" | _ => none
theorem ty_of {H : Hp} {v : V} {d : D} {t : String} (h : Rp K (msk w H) v d) (e : tyD d = some t) : TyX K H v (.type t) := by
  cases h with
  | non => cases e; exact .base .non
  | bl b => cases e; exact .base (.bl b)
  | int b => cases e; exact .base (.int b)
  | str b => cases e; exact .base (.str b)
  | byt b => cases e; exact .byt b
  | lst h r => cases e; exact .base (.lst (msk_some h).2)
  | tup h r =>
    cases e
    rcases ex_t Ex.msk h with (h | ⟨o, h⟩) | ⟨o, its, n, h1, h2, _⟩
    · exact .base (.tup h)
    · exact .fTuple h
    · exact .kTuple h1 h2
  | emp h => cases e; exact .base (.dK (msk_some h).2)
  | _ => cases e
theorem ol_isi {x : D} {c t : String} {b : Bool} (e : tyD x = some t) (h : kitB t c = some b) (k : P (.bl b) w) : OpL K (rIsi K) [x, .ty c] w P := by
  intro vs H h1 cl Q q
  cases h1 with
  | cons h1 t1 => cases t1 with
    | cons h2 t2 =>
      cases t2; cases h2
      exact ⟨_, _, .type t, .type c, b, rfl, .ty c, ty_of h1 e, kit_ty h, q _ H _ w (Ex.refl _) cl (.bl _) k⟩
/-! ### texts -/
def rJoin (K : PySem.W.Frag) : V → List V → Hp → VK → Prop := fun x xs H Q => ∃ a p, ∃ ys : List Str, x = .str a ∧ xs = [.ref p] ∧ (SqL K H p (ys.map V.str) ∨ SqT K H p (ys.map V.str)) ∧
  (ys.map (·.length)).sum + ys.length * a.length ≤ 16777216 ∧ Q (.str (Txt.join a ys)) H
theorem ev_m1 {rr : V → List V → Hp → VK → Prop} {to : TE} (h : Ev K W to δ w (fun x w1 => (∃ a, x = .str a) ∧ Ev K W te δ w1 (fun y w2 => OpM K rr x [y] w2 P) Z) Z) : Ev K W (tM1 rr to te) δ w P Z :=
  fun σ H s Q q z => h σ H s _ (fun v H1 d w1 e1 c1 r1 ⟨⟨a, ha⟩, h2⟩ => by
    subst ha
    refine ⟨by cases r1; exact ⟨a, rfl⟩, h2 σ H1 (s.next e1 c1) _ (fun u H2 d2 w2 e2 c2 r2 h3 => h3 v [u] H2 (r1.mono e2) (.cons r2 .nil) c2 Q (KqG.next q (e1.trans e2))) (z.next e1)⟩) z
theorem om_join {a : Str} {ys : List Str} (hz : (ys.map (·.length)).sum + ys.length * a.length ≤ 16777216) (k : P (.str (Txt.join a ys)) w) : OpM K (rJoin K) (.str a) [.lst (ys.map D.str)] w P := by
  intro v vs H h1 h2 c Q q
  cases h1
  cases h2 with
  | cons r t => cases t; cases r with
    | lst ht hr =>
      have e := rpa_strs hr
      subst e
      exact ⟨a, _, ys, rfl, rfl, .inl (SqL.of (msk_some ht).2), hz, q _ H _ w (Ex.refl _) c (.str _) k⟩
/-- sorted of texts, by the library's own word -/
def rSortS (K : PySem.W.Frag) : List V → Hp → VK → Prop := rSortedS K
/-- divmod: (i // j, i % j), unpacked at once or not -/
theorem ol_divmod {C : Int → Int → Prop} {i j : Int} (hc : C i j) (k : P (.tup [.int (i / j), .int (i % j)]) w) :
    OpL K (fun xs H Q => ∃ i j, xs = [.int i, .int j] ∧ C i j ∧ ∀ p, H p = none → Q (.ref p) (upd H p (.tup [.int (i / j), .int (i % j)]))) [.int i, .int j] w P := by
  intro vs H h1 c Q q
  cases h1 with
  | cons h t => cases t with
    | cons h' t' => cases t'; cases h; cases h'; exact ⟨i, j, rfl, hc, fun p hp => kq_tup q c (.cons (.int _) (.cons (.int _) .nil)) k hp⟩
end

/-! ### calls by keywords -/
/-- which order: from the positional values and the keywords' values to the parameters -/
structure KwG (g : {α : Type} → List α → List α → List α) : Prop where
  rel : ∀ {α β : Type} {R : α → β → Prop} {us zs : List α} {vs ws : List β}, Paired R us vs → Paired R zs ws → Paired R (g us zs) (g vs ws)
section
variable {K : PySem.W.Frag} {W : XK} {δ : Dlt} {w : Wl} {P : PD} {Z : ZD}
end
def kg1 {α : Type} : List α → List α → List α
  | [], [a] => [a]
  | _, _ => []
def kgS {α : Type} : List α → List α → List α
  | [], [a, b] => [b, a]
  | _, _ => []
def kg2 {α : Type} : List α → List α → List α
  | [], [a, b] => [a, b]
  | _, _ => []

/-! ### a def by its name, its calls -/
/-- the def st stands under its name -/
def Dn (K : PySem.W.Frag) (mg : Str → Option Value) (name : Str) (st : Stmt) : Prop := ∃ f fd, Fun K name name st f fd ∧ mg name = some (.ref f)
structure Fk0 (P : Program) (wo : World) (K : PySem.W.Frag) (mg : Str → Option Value) (base : Heap) (C : CXT) (k : Nat) (name : Str) (st : Stmt) (ps : List Str) (sp : Sp) (f : Addr) (fd : FuncData) : Prop where
  gn : Gn P wo K mg base C k f fd ps sp
  fn : Fun K name name st f fd
  nm : mg name = some (.ref f)
  bd : Binds K fd ps []
/-- the def of that name keeps its promise -/
def Fk (P : Program) (wo : World) (K : PySem.W.Frag) (mg : Str → Option Value) (base : Heap) (C : CXT) (k : Nat) (name : Str) (st : Stmt) (ps : List Str) (sp : Sp) : Prop := ∃ f fd, Fk0 P wo K mg base C k name st ps sp f fd
/-- how the arguments bind, said once a def -/
abbrev BindP (name : Str) (st : Stmt) (ps : List Str) : Prop := ∀ (kV doc pm : Value) (an : Option Addr) (cdv ct : Value) (us : List Value), us.length = ps.length → bindArgs (PySem.W.fnOf name name (defArgs st) (defBody st) (defScope st) .none kV doc pm an cdv ct) ⟨us, []⟩ = pure (ps.zip us)
abbrev BindK (name : Str) (st : Stmt) (ps ks : List Str) (g : {α : Type} → List α → List α → List α) : Prop := ∀ (kV doc pm : Value) (an : Option Addr) (cdv ct : Value) (us ws : List Value), (g us ws).length = ps.length →
  bindArgs (PySem.W.fnOf name name (defArgs st) (defBody st) (defScope st) .none kV doc pm an cdv ct) ⟨us, ks.zip ws⟩ = pure (ps.zip (g us ws))
section
variable {P : Program} {wo : World} {K : PySem.W.Frag} {mg : Str → Option Value} {base : Heap} {pre : List D → Wl → Prop} {post : List D → Wl → D → Wl → Prop}
theorem fk_ok {name : Str} {st : Stmt} {N ps : List Str} {k : Nat} (d : Dn K mg name st) (S : FnScope N ps (defScope st)) (hb : BindP name st ps) (hlen : ∀ ds w, pre ds w → ds.length = ps.length)
    (body : ∀ (f : Addr) (cdv : Value) (A : Around) (fr : List Env) (s : Shared) (H : Hp) (E : XK), A.guards = some [] → Room k (A.deeper (envOfC name (defScope st) s.heap.objs.size f cdv)) →
      ∃ t, PSs (cxOf CX0 P wo K mg base N name (defScope st) f cdv A fr s H E).nox (defBody st) t ∧ ∀ ds w, pre ds w → Sd K E0 t (startD N ds) w (endD post zN ds w)) : Fk P wo K mg base CX0 (k + 1) name st ps (SpD K pre post zN) := by
  obtain ⟨f, fd, F, m⟩ := d
  refine ⟨f, fd, ⟨?_, F, m, F.binds hb⟩⟩
  obtain ⟨oc, od, kV, doc, pm, an, cdv, ct, osl, rfl, lk, hcd⟩ := F.ex
  refine gn_of lk hcd S (fn_len hlen) fun A fr s H vs Q E hg hr h => ?_
  obtain ⟨ds, w, r, c, p, q, z⟩ := h
  obtain ⟨t, ht, hs⟩ := body f cdv A fr s H E hg hr
  exact ⟨t, ht.nox, hs ds w p _ H (sat_start r c) _ (ke_of q kz_none)⟩
end
section
variable {X : Cx} {C : CXT} {k : Nat} {x : Str} {st : Stmt} {ps ks : List Str} {sp : Sp} {E : XK} {p pos : Pos} {e : Expr} {es : List Expr} {kws : List Keyword} {t tk : TA}
/-- f(a, ..) -/
theorem pe_f (F : Fk X.prog X.w X.K X.mg X.base C k x st ps sp) (hg : X.A.guards = some []) (hr : Room k X.A) (hgl : Gl X x) (hx : Passes C X E) (ha : PA X (e :: es) t) (hdb : (x == ("__debug__" : Str)) = false := by decide)
    (he : starEach (e :: es) X.env = (false, eval e X.env) :: starEach es X.env := by rfl) (hpl : (backTo pos (starEach es X.env)).any (·.1) = false := by rfl) : PE X (.Call (.Name x p) (e :: es) [] pos) (tCall sp [] E t) := by
  obtain ⟨f, fd, F⟩ := F
  refine ⟨fun pins s σ H Q I h => wpAny_Call_Name_kw (ld_glob I hgl F.nm ?_ hdb)⟩
  refine PySem.W.callWith_K (h₀ := X.base) I.ok.mod.kin F.fn.kp (thn (ha.run pos pins s σ H _ I h) fun us s1 ⟨vs, H1, I1, r, q⟩ => ⟨I1.kIn, ?_⟩) he hpl
  have q' : sp vs H1 Q E := by simpa using q
  have l : us.length = ps.length := by rw [← r.length]; exact F.gn.ln _ _ _ _ q'
  have b := F.bd s1 us I1.kIn (by simpa using l)
  rw [List.append_nil] at b
  exact gn_run (ar := ⟨us, []⟩) F.gn hg hr hx I1 b r q'
end
end DL
set_option Elab.async false
set_option linter.all false
set_option autoImplicit false
set_option maxRecDepth 100000
set_option maxHeartbeats 4000000
/-! DL7: the built-ins by their names, short. -/
namespace DL
open PySem PySem.Spec PyProof.Rows L2
section
variable {X : Cx} {p pos : Pos} {e : Expr} {es : List Expr} {t : TA}
theorem b_len (m : X.mg "len" = none) (hg : Gl X "len") (ha : PA X (e :: es) t) (he : starEach (e :: es) X.env = (false, eval e X.env) :: starEach es X.env := by rfl) (hpl : (backTo pos (starEach es X.env)).any (·.1) = false := by rfl) : PE X (.Call (.Name "len" p) (e :: es) [] pos) (tCB (rLen X.K) t) := pe_callB call_len hg m boot_len ha (by decide) (by decide) he hpl
theorem b_all (hc : X.calm = true) (m : X.mg "all" = none) (hg : Gl X "all") (ha : PA X (e :: es) t) (he : starEach (e :: es) X.env = (false, eval e X.env) :: starEach es X.env := by rfl) (hpl : (backTo pos (starEach es X.env)).any (·.1) = false := by rfl) : PE X (.Call (.Name "all" p) (e :: es) [] pos) (tCB (rAll X.K) t) := pe_callB (cr_all hc) hg m boot_all ha (by decide) (by decide) he hpl
theorem b_abs (m : X.mg "abs" = none) (hg : Gl X "abs") (ha : PA X (e :: es) t) (he : starEach (e :: es) X.env = (false, eval e X.env) :: starEach es X.env := by rfl) (hpl : (backTo pos (starEach es X.env)).any (·.1) = false := by rfl) : PE X (.Call (.Name "abs" p) (e :: es) [] pos) (tCB rAbs t) := pe_callB call_abs hg m boot_abs ha (by decide) (by decide) he hpl
theorem b_max2 (hc : X.calm = true) (m : X.mg "max" = none) (hg : Gl X "max") (ha : PA X (e :: es) t) (he : starEach (e :: es) X.env = (false, eval e X.env) :: starEach es X.env := by rfl) (hpl : (backTo pos (starEach es X.env)).any (·.1) = false := by rfl) : PE X (.Call (.Name "max" p) (e :: es) [] pos) (tCB rMax2 t) := pe_callB (call_max2 hc) hg m boot_max ha (by decide) (by decide) he hpl
theorem b_min2 (hc : X.calm = true) (m : X.mg "min" = none) (hg : Gl X "min") (ha : PA X (e :: es) t) (he : starEach (e :: es) X.env = (false, eval e X.env) :: starEach es X.env := by rfl) (hpl : (backTo pos (starEach es X.env)).any (·.1) = false := by rfl) : PE X (.Call (.Name "min" p) (e :: es) [] pos) (tCB rMin2 t) := pe_callB (call_min2 hc) hg m boot_min ha (by decide) (by decide) he hpl
theorem b_isi (m : X.mg "isinstance" = none) (hg : Gl X "isinstance") (ha : PA X (e :: es) t) (he : starEach (e :: es) X.env = (false, eval e X.env) :: starEach es X.env := by rfl) (hpl : (backTo pos (starEach es X.env)).any (·.1) = false := by rfl) : PE X (.Call (.Name "isinstance" p) (e :: es) [] pos) (tCB (rIsi X.K) t) := pe_callB call_isi hg m boot_isinstance ha (by decide) (by decide) he hpl
def rDivmod : List V → Hp → VK → Prop := fun xs H Q => ∃ i j, xs = [.int i, .int j] ∧ CDivP i j ∧ ∀ p, H p = none → Q (.ref p) (upd H p (.tup [.int (i / j), .int (i % j)]))
theorem b_divmod (m : X.mg "divmod" = none) (hg : Gl X "divmod") (ha : PA X (e :: es) t) (he : starEach (e :: es) X.env = (false, eval e X.env) :: starEach es X.env := by rfl) (hpl : (backTo pos (starEach es X.env)).any (·.1) = false := by rfl) : PE X (.Call (.Name "divmod" p) (e :: es) [] pos) (tCB rDivmod t) := pe_callB call_divmodW hg m boot_divmod ha (by decide) (by decide) he hpl
theorem ol_divmodW {K : PySem.W.Frag} {w : Wl} {P : PD} {i j : Int} (hc : CDivP i j) (k : P (.tup [.int (i / j), .int (i % j)]) w) : OpL K rDivmod [.int i, .int j] w P := ol_divmod hc k
theorem b_int (m : X.mg "int" = none) (hg : Gl X "int") (ha : PA X (e :: es) t) (he : starEach (e :: es) X.env = (false, eval e X.env) :: starEach es X.env := by rfl) (hpl : (backTo pos (starEach es X.env)).any (·.1) = false := by rfl) : PE X (.Call (.Name "int" p) (e :: es) [] pos) (tCB rInt1 t) := pe_callTy call_int1 hg m boot_int ha (by decide) (by decide) he hpl
theorem b_tuple (m : X.mg "tuple" = none) (hg : Gl X "tuple") (ha : PA X (e :: es) t) (he : starEach (e :: es) X.env = (false, eval e X.env) :: starEach es X.env := by rfl) (hpl : (backTo pos (starEach es X.env)).any (·.1) = false := by rfl) : PE X (.Call (.Name "tuple" p) (e :: es) [] pos) (tCB (rTupOf X.K) t) := pe_callTy call_tuple_of hg m boot_tuple ha (by decide) (by decide) he hpl
theorem b_list (m : X.mg "list" = none) (hg : Gl X "list") (ha : PA X (e :: es) t) (he : starEach (e :: es) X.env = (false, eval e X.env) :: starEach es X.env := by rfl) (hpl : (backTo pos (starEach es X.env)).any (·.1) = false := by rfl) : PE X (.Call (.Name "list" p) (e :: es) [] pos) (tCB (rLstOf X.K) t) := pe_callTy call_list_of hg m boot_list ha (by decide) (by decide) he hpl
/-- the classes as values -/
theorem c_int (m : X.mg "int" = none) (hg : Gl X "int") : PE X (.Name "int" p) (tC (.ty "int")) := pe_bltn hg m boot_int rfl
theorem c_bool (m : X.mg "bool" = none) (hg : Gl X "bool") : PE X (.Name "bool" p) (tC (.ty "bool")) := pe_bltn hg m boot_bool rfl
theorem c_str (m : X.mg "str" = none) (hg : Gl X "str") : PE X (.Name "str" p) (tC (.ty "str")) := pe_bltn hg m boot_str rfl
theorem c_tuple (m : X.mg "tuple" = none) (hg : Gl X "tuple") : PE X (.Name "tuple" p) (tC (.ty "tuple")) := pe_bltn hg m boot_tuple rfl
/-- a module's constant that is an int -/
theorem k_int {x : Str} {i : Int} (m : ∃ u, X.mg x = some (.int i u)) (hg : Gl X x) (hd : (x == ("__debug__" : Str)) = false := by decide) : PE X (.Name x p) (tC (.int i)) := by
  obtain ⟨u, m⟩ := m
  exact pe_glob hg m ⟨u, rfl⟩ hd
/-- a test by truth -/
theorem pt_tru {a : Expr} {ta : TE} (ha : PE X a ta) (he : ∀ whole, isTrue a X.env whole = (do let v ← whole; standAt a.pos; holding [v] (truthy v)) := by intro _; rfl) : PT X a (tTru X.K ta) := pt_truth ha he
/-- s * n -/
def rMulS : R2 := fun x y H Q => ∃ (z : Str) (n : Int), x = .str z ∧ y = .int n ∧ 1 ≤ n ∧ n ≤ 1000 ∧ z.length * n.toNat ≤ 1000 ∧ ∀ r : Str, r.cps.toList = (List.replicate n.toNat z.cps.toList).flatten → Q (.str r) H
end

theorem mulS_fold (a : Array Nat) : ∀ (n : Nat) (acc : Array Nat), ((List.replicate n a).foldl (· ++ ·) acc).toList = acc.toList ++ (List.replicate n a.toList).flatten
  | 0, acc => by simp
  | n + 1, acc => by
    rw [List.replicate_succ, List.foldl_cons, mulS_fold a n, List.replicate_succ, List.flatten_cons]
    simp
section
variable {X : Cx}
theorem op_mulS : OpR X (binaryOp .Mult) rMulS := by
  intro pins s σ H x y v u Q I rx ry h
  obtain ⟨z, n, rfl, rfl, h1, h2, h3, q⟩ := h
  obtain ⟨t, rfl⟩ := rx
  obtain ⟨t', rfl⟩ := ry
  have hn : ¬ n < 1 := by omega
  refine PySem.P.mul_str (by rw [decide_eq_false (by omega), decide_eq_false (by omega)]; rfl) (fun _ hz => ?_) (fun _ hz => ?_) ?_
  · have e1 : (z.length : Int) ≤ 1000 := by
      have : z.length * 1 ≤ z.length * n.toNat := Nat.mul_le_mul_left _ (by omega)
      omega
    have e2 : (1000 : Int) ≤ (2 ^ 63 - 1) / n := by
      rw [Int.le_ediv_iff_mul_le (by omega)]
      omega
    omega
  · unfold Builtin.Str.tooLong
    rw [sizeLine_eq]
    exact decide_eq_false (by omega)
  · rw [if_neg hn]
    by_cases hz : (n == 1 || z.length == 0) = true
    · rw [if_pos hz]
      refine ⟨.str z, H, I, ⟨t, rfl⟩, q z ?_⟩
      rcases Bool.or_eq_true_iff.mp hz with e | e
      · have : n = 1 := by simpa using e
        subst this
        simp
      · have e0 : z.length = 0 := by simpa using e
        have e1 : z.cps.toList = [] := by
          have : z.cps.size = 0 := e0
          exact List.eq_nil_of_length_eq_zero (by simpa using this)
        rw [e1]
        simp
    · rw [if_neg hz]
      refine ⟨?_, .str _, H, I.tok _, ⟨_, rfl⟩, q _ ?_⟩
      · show ((List.replicate n.toNat z.cps).foldl (· ++ ·) #[]).size ≤ sizeLine
        have e := congrArg List.length (mulS_fold z.cps n.toNat #[])
        have e2 : (List.replicate n.toNat z.cps.toList).flatten.length = z.length * n.toNat := by
          rw [List.length_flatten, List.map_replicate, List.sum_replicate_nat, Nat.mul_comm]
          rfl
        rw [List.length_append, e2, Array.length_toList] at e
        rw [e, sizeLine_eq]
        have e3 : (#[] : Array Nat).toList.length = 0 := rfl
        omega
      · rw [mulS_fold]
        rfl
end
section
variable {K : PySem.W.Frag} {w : Wl} {P : PD}
theorem o2_mulS {z : Str} {n : Int} (h1 : 1 ≤ n) (h2 : n ≤ 1000) (h3 : z.length * n.toNat ≤ 1000) (k : ∀ r : Str, r.cps.toList = (List.replicate n.toNat z.cps.toList).flatten → P (.str r) w) : Op2 K rMulS (.str z) (.int n) w P := by
  intro v u H r1 r2 c Q q
  cases r1; cases r2
  exact ⟨z, n, rfl, rfl, h1, h2, h3, fun r hr => q _ H _ w (Ex.refl _) c (.str _) (k r hr)⟩
theorem o2_catT {xs ys : List D} (hz : xs.length + ys.length ≤ sizeLine) (k : P (.tup (xs ++ ys)) w) : Op2 K (rCatA K) (.tup xs) (.tup ys) w P := by
  intro v u H r1 r2 c Q q
  cases r1 with
  | tup h1 a1 => cases r2 with
    | tup h2 a2 =>
      refine ⟨_, _, _, _, rfl, rfl, ex_t Ex.msk h1, ex_t Ex.msk h2, by rw [a1.length, a2.length]; exact hz, fun e => ?_, fun _ e => ?_, fun _ _ p hp => kq_tup q c (a1.append a2) k hp⟩
      · subst e; cases a1
        exact q _ H _ w (Ex.refl _) c (.tup h2 a2) k
      · subst e; cases a2
        rw [List.append_nil] at k
        exact q _ H _ w (Ex.refl _) c (.tup h1 a1) k
theorem o2_catL {xs ys : List D} (hz : xs.length + ys.length ≤ sizeLine) (k : P (.lst (xs ++ ys)) w) : Op2 K rCat (.lst xs) (.lst ys) w P := by
  intro v u H r1 r2 c Q q
  cases r1 with
  | lst h1 a1 => cases r2 with
    | lst h2 a2 => exact ⟨_, _, _, _, rfl, rfl, (msk_some h1).2, (msk_some h2).2, by rw [a1.length, a2.length]; exact hz, fun p hp => kq_lst q c (a1.append a2) k hp⟩
theorem cutV_whole {α : Type} {xs : List α} {lo hi : Option Int} (h : HT.sIx xs.length 0 lo = 0 ∧ HT.sIx xs.length xs.length hi = xs.length) : (xs.drop (HT.sIx xs.length 0 lo)).take (HT.sIx xs.length xs.length hi - HT.sIx xs.length 0 lo) = xs := by
  rw [h.1, h.2]; simp
theorem os_tupA {ds : List D} {lo hi : Option Int} (k : P (.tup (cutD ds lo hi)) w) : OpS K (rSlA K) (.tup ds) lo hi w P := by
  intro v H r1 c Q q
  cases r1 with
  | tup h1 a1 =>
    refine ⟨_, _, rfl, ex_t Ex.msk h1, fun e => ?_, fun _ p hp => kq_tup q c (rpa_cut a1 lo hi) k hp⟩
    rw [a1.length] at e
    have z : cutD ds lo hi = ds := cutV_whole e
    rw [z] at k
    exact q _ H _ w (Ex.refl _) c (.tup h1 a1) k
end
end DL
set_option Elab.async false
set_option linter.all false
set_option autoImplicit false
set_option maxRecDepth 100000
set_option maxHeartbeats 4000000
/-! DL8: isinstance of any datum; small helpers. -/
namespace DL
open PySem PySem.Spec PyProof.Rows L2
/-- a plain value: its kind is known -/
def kn (d : D) : Prop := (tyD d).isSome = true
def isiInt : D → Bool | .int _ => true | .bl _ => true | _ => false
def isiBool : D → Bool | .bl _ => true | _ => false
def isiStr : D → Bool | .str _ => true | _ => false
def isiTup : D → Bool | .tup _ => true | _ => false
def isiLst : D → Bool | .lst _ => true | _ => false
section
variable {K : PySem.W.Frag} {w : Wl} {P : PD}
theorem ol_isiInt {x : D} (h : kn x) (k : P (.bl (isiInt x)) w) : OpL K (rIsi K) [x, .ty "int"] w P := by
  cases x with
  | non => exact ol_isi rfl (show kitB "NoneType" "int" = some false by decide +kernel) k
  | bl b => exact ol_isi rfl (show kitB "bool" "int" = some true by decide +kernel) k
  | int b => exact ol_isi rfl (show kitB "int" "int" = some true by decide +kernel) k
  | str b => exact ol_isi rfl (show kitB "str" "int" = some false by decide +kernel) k
  | byt b => exact ol_isi rfl (show kitB "bytes" "int" = some false by decide +kernel) k
  | lst b => exact ol_isi rfl (show kitB "list" "int" = some false by decide +kernel) k
  | tup b => exact ol_isi rfl (show kitB "tuple" "int" = some false by decide +kernel) k
  | emp => exact ol_isi rfl (show kitB "dict" "int" = some false by decide +kernel) k
  | _ => cases h
theorem ol_isiBool {x : D} (h : kn x) (k : P (.bl (isiBool x)) w) : OpL K (rIsi K) [x, .ty "bool"] w P := by
  cases x with
  | non => exact ol_isi rfl (show kitB "NoneType" "bool" = some false by decide +kernel) k
  | bl b => exact ol_isi rfl (show kitB "bool" "bool" = some true by decide +kernel) k
  | int b => exact ol_isi rfl (show kitB "int" "bool" = some false by decide +kernel) k
  | str b => exact ol_isi rfl (show kitB "str" "bool" = some false by decide +kernel) k
  | byt b => exact ol_isi rfl (show kitB "bytes" "bool" = some false by decide +kernel) k
  | lst b => exact ol_isi rfl (show kitB "list" "bool" = some false by decide +kernel) k
  | tup b => exact ol_isi rfl (show kitB "tuple" "bool" = some false by decide +kernel) k
  | emp => exact ol_isi rfl (show kitB "dict" "bool" = some false by decide +kernel) k
  | _ => cases h
theorem ol_isiStr {x : D} (h : kn x) (k : P (.bl (isiStr x)) w) : OpL K (rIsi K) [x, .ty "str"] w P := by
  cases x with
  | non => exact ol_isi rfl (show kitB "NoneType" "str" = some false by decide +kernel) k
  | bl b => exact ol_isi rfl (show kitB "bool" "str" = some false by decide +kernel) k
  | int b => exact ol_isi rfl (show kitB "int" "str" = some false by decide +kernel) k
  | str b => exact ol_isi rfl (show kitB "str" "str" = some true by decide +kernel) k
  | byt b => exact ol_isi rfl (show kitB "bytes" "str" = some false by decide +kernel) k
  | lst b => exact ol_isi rfl (show kitB "list" "str" = some false by decide +kernel) k
  | tup b => exact ol_isi rfl (show kitB "tuple" "str" = some false by decide +kernel) k
  | emp => exact ol_isi rfl (show kitB "dict" "str" = some false by decide +kernel) k
  | _ => cases h
theorem ol_isiTup {x : D} (h : kn x) (k : P (.bl (isiTup x)) w) : OpL K (rIsi K) [x, .ty "tuple"] w P := by
  cases x with
  | non => exact ol_isi rfl (show kitB "NoneType" "tuple" = some false by decide +kernel) k
  | bl b => exact ol_isi rfl (show kitB "bool" "tuple" = some false by decide +kernel) k
  | int b => exact ol_isi rfl (show kitB "int" "tuple" = some false by decide +kernel) k
  | str b => exact ol_isi rfl (show kitB "str" "tuple" = some false by decide +kernel) k
  | byt b => exact ol_isi rfl (show kitB "bytes" "tuple" = some false by decide +kernel) k
  | lst b => exact ol_isi rfl (show kitB "list" "tuple" = some false by decide +kernel) k
  | tup b => exact ol_isi rfl (show kitB "tuple" "tuple" = some true by decide +kernel) k
  | emp => exact ol_isi rfl (show kitB "dict" "tuple" = some false by decide +kernel) k
  | _ => cases h
end
theorem if_t {A B : Prop} {b : Bool} (e : b = true) (h : A) : if b = true then A else B := by rw [if_pos e]; exact h
theorem if_f {A B : Prop} {b : Bool} (e : b = false) (h : B) : if b = true then A else B := by rw [if_neg (by rw [e]; exact Bool.false_ne_true)]; exact h
theorem if_2 {A B : Prop} {b : Bool} (h1 : b = true → A) (h2 : b = false → B) : if b = true then A else B := by
  cases b with
  | true => exact h1 rfl
  | false => exact h2 rfl
/-- a def without a store: f of its arguments -/
abbrev SpF (K : PySem.W.Frag) (ok : List D → Prop) (f : List D → D) : Sp := SpD K (fun ds _ => ok ds) (fun ds w d w' => d = f ds ∧ w' = w) zN
theorem ev_f {K : PySem.W.Frag} {W : XK} {δ : Dlt} {w : Wl} {Pd : PD} {Z : ZD} {ok : List D → Prop} {f : List D → D} {E' : XK} {t : TA} (h : EvA K W t δ w (fun ds w1 => ok ds ∧ Pd (f ds) w1) Z) : Ev K W (tCall (SpF K ok f) [] E' t) δ w Pd Z :=
  ev_call fun σ H s Q q z => h σ H s Q (fun v H' d w' e c r p => q v H' d w' e c r ⟨p.1, fun d2 w2 z => by rw [z.1, z.2]; exact p.2⟩) z
/-- for a SpF def: the value at the end -/
theorem rt_f {f : List D → D} {ds : List D} {w : Wl} {d : D} (h : d = f ds) : (endD (fun ds w d w' => d = f ds ∧ w' = w) zN ds w).rt d w := ⟨h, rfl⟩

/-! plain data of bounded texts -/
mutual
def fine : D → Bool
  | .str x => decide (x.length ≤ 5000)
  | .lst ds => fineA ds
  | .tup ds => fineA ds
  | .non | .bl _ | .int _ | .emp => true
  | .byt b => decide (b.size ≤ 5000)
  | _ => false
def fineA : List D → Bool
  | [] => true
  | d :: ds => fine d && fineA ds
end
theorem fine_kn {d : D} (h : fine d = true) : kn d := by
  cases d <;> first | rfl | (simp [fine] at h)
theorem fine_str {x : Str} (h : fine (.str x) = true) : x.length ≤ sizeLine := by
  have : x.length ≤ 5000 := by simpa [fine] using h
  exact Nat.le_trans this (by decide)
theorem fine_tup {ds : List D} (h : fine (.tup ds) = true) : fineA ds = true := by simpa [fine] using h
theorem fineA_cons {d : D} {ds : List D} (h : fineA (d :: ds) = true) : fine d = true ∧ fineA ds = true := by simpa [fineA] using h
theorem fineA_get : ∀ {ds : List D} {i : Nat} {d : D}, fineA ds = true → ds[i]? = some d → fine d = true
  | [], _, _, _, e => by simp at e
  | x :: xs, 0, d, h, e => by
    simp at e; subst e
    exact (fineA_cons h).1
  | x :: xs, i + 1, d, h, e => fineA_get (fineA_cons h).2 (by simpa using e)
theorem fineA_of {ds : List D} (h : ∀ d ∈ ds, fine d = true) : fineA ds = true := by
  induction ds with
  | nil => rfl
  | cons x xs ih => simp [fineA, h x List.mem_cons_self, ih fun d hd => h d (List.mem_cons_of_mem _ hd)]
end DL
set_option Elab.async false
set_option linter.all false
set_option autoImplicit false
set_option maxRecDepth 100000
set_option maxHeartbeats 4000000
/-! EE: defs called while an exception is handled, told of it; isinstance of it, its fields. -/
namespace EX
open PySem PySem.Spec PyProof.Rows L2 DL
/-- the exception that is handled: oe at a, of the class at C, its dict d -/
structure Hd (A : Around) (a : Addr) (oe : Obj) (C : Addr) (d : Option Addr) : Prop where
  hot : A.handled = some (.ref a)
  cls : oe.cls = .ref C
  dct : oe.dict = d
  fld : ∃ vs, oe.data = .fields vs
abbrev SpE := Addr → Addr → Option Addr → Sp
structure FnE (P : Program) (w : World) (K : PySem.W.Frag) (mg : Str → Option Value) (base : Heap) (k : Nat) (f : Addr) (fd : FuncData) (ps : List Str) (sp : SpE) : Prop where
  ln : ∀ a C d vs H Q E, sp a C d vs H Q E → vs.length = ps.length
  go : ∀ (A : Around) (fr : List Env) (s : Shared) (H : Hp) (ar : Args) (us : List Value) (vs : List V) (Q : VK) (E : XK) (a : Addr) (oe : Obj) (C : Addr) (d : Option Addr), L2H.RoomH k A → Hd A a oe C d → L2H.PinOk fr H s (a, oe) → Env0 P w K mg base A fr s H → BindsTo s fd ar (ps.zip us) → Vals vs us →
    sp a C d vs H Q E → codeAny (model P w) A (.call (.ref f) ar) (CR CX0 fr P w H s Q E) s
/-- the context has the exception -/
structure Has (X : Cx) (a : Addr) (oe : Obj) (C : Addr) (d : Option Addr) : Prop where
  hd : Hd X.A a oe C d
  pn : (a, oe) ∈ X.pn
section
variable {P : Program} {w : World} {K : PySem.W.Frag} {mg : Str → Option Value} {base : Heap}
theorem fnE_of {k : Nat} {x qual : Str} {st : Stmt} {f : Addr} {fd : FuncData} {N ps : List Str} {sp : SpE} (F : Fun K x qual st f fd) (S : FnScope N ps (defScope st)) (hl : ∀ a C d vs H Q E, sp a C d vs H Q E → vs.length = ps.length)
    (body : ∀ (cdv : Value) (A : Around) (fr : List Env) (s : Shared) (H : Hp) (vs : List V) (Q : VK) (E : XK) (a : Addr) (oe : Obj) (C : Addr) (d : Option Addr), Hd A a oe C d → L2H.RoomH k (A.deeper (envOfC qual (defScope st) s.heap.objs.size f cdv)) → sp a C d vs H Q E →
      ∃ t, PSs (L2H.cxH CX0 P w K mg base N qual (defScope st) f cdv A fr s H E (a, oe)) (defBody st) t ∧ t { nx := fun _ H' => Q .non H', rt := Q } (L2.start N vs) H) : FnE P w K mg base (k + 1) f fd ps sp := by
  obtain ⟨oc, od, kV, doc, pm, an, cdv, ct, osl, rfl, lk, hcd⟩ := F.ex
  refine ⟨hl, fun A fr s H ar us vs Q E a oe C d room hot pin e0 bt rv hsp => ?_⟩
  have inn : K.In s.heap := e0.mod.kin.keeps fun b o z => (e0.bs b o z).1
  have kinds : ∀ y ∈ ps.zip us, (defScope st).names.lookup y.1 = some .local ∨ ((defScope st).names.lookup y.1 = some .cell ∧ ((cellsFrom (s.heap.objs.size + 1) (defScope st).names []).lookup y.1).isSome = true) := by
    rintro ⟨n, v⟩ hy
    exact (S.par n (List.of_mem_zip hy).1).elim Or.inl fun q => .inr ⟨q, PySem.W.cellsFrom_some _ _ _ (.inl q)⟩
  have hdep := room.depth
  refine codeAny_call_function hdep (inn _ _ lk) rfl S.co S.gen rfl (PySem.W.codeRec_of inn hcd) (bt _ _ _ _ ?_)
  refine wpAny_newFunctionEnv_cells S.kind kinds fun env he s1 hx => ?_
  subst he
  refine ⟨(e0.mod.nolimit.keeps fun b o z => (e0.bs b o z).1).keeps hx.toInCall.keep, codeAny_func ?_⟩
  obtain ⟨t, tb, tq⟩ := body cdv A fr s H vs Q E a oe C d hot (room.deeper _) hsp
  have J : Inv (L2H.cxH CX0 P w K mg base N qual (defScope st) f cdv A fr s H E (a, oe)) [] (L2.start N vs) H s1 := L2H.inv_startH S pin e0 (hl _ _ _ _ _ _ _ hsp) rv hx
  refine wpAny_mono (tb.run [] s1 (L2.start N vs) H _ J tq) (fun fl s' z => ?_) (fun e s' z => z)
  cases fl with
  | ret u => obtain ⟨v, σ', H', I, r, q⟩ := z; exact ⟨v, H', I.os, I.bare, I.base, I.hok, r, q⟩
  | next => obtain ⟨σ', H', I, q⟩ := z; exact ⟨V.non, H', I.os, I.bare, I.base, I.hok, rfl, q⟩
  | brk => obtain ⟨_, _, _, q⟩ := z; exact q.elim
  | cont => obtain ⟨_, _, _, q⟩ := z; exact q.elim
end
/-- a call there -/
def tCallE (a C : Addr) (d : Option Addr) (sp : SpE) (t : TA) : TE := fun σ H Q => t σ H fun vs H1 => sp a C d vs H1 Q (fun _ _ _ => False)
section
variable {X : Cx} {a : Addr} {oe : Obj} {C : Addr} {d : Option Addr}
theorem pe_callE {k : Nat} {f : Addr} {x : Str} {st : Stmt} {fd : FuncData} {ps : List Str} {sp : SpE} {e : Expr} {es : List Expr} {t : TA} {p pos : Pos} (F : FnE X.prog X.w X.K X.mg X.base k f fd ps sp) (U : Fun X.K x x st f fd) (hb : L2.Binds X.K fd ps []) (hm : X.mg x = some (.ref f)) (h : Has X a oe C d) (hr : L2H.RoomH k X.A) (hg : Gl X x)
    (ha : PA X (e :: es) t) (hdb : (x == ("__debug__" : Str)) = false := by decide) (he : starEach (e :: es) X.env = (false, eval e X.env) :: starEach es X.env := by rfl) (hpl : (backTo pos (starEach es X.env)).any (·.1) = false := by rfl) :
    PE X (.Call (.Name x p) (e :: es) [] pos) (tCallE a C d sp t) := by
  refine ⟨fun pins s σ H Q I z => wpAny_Call_Name_kw (ld_glob I hg hm ?_ hdb)⟩
  refine PySem.W.callWith_K (h₀ := X.base) I.ok.mod.kin U.kp (thn (ha.run pos pins s σ H _ I z) fun us s1 ⟨vs, H1, J, r, q⟩ => ⟨J.kIn, ?_⟩) he hpl
  have len : us.length = ps.length := by rw [← r.length]; exact F.ln _ _ _ _ _ _ _ q
  have b := hb s1 us J.kIn (by rw [List.append_nil]; exact len)
  rw [List.append_nil] at b
  obtain ⟨get, fre, nl, nf, nc⟩ := J.pin (a, oe) (List.mem_append_left _ h.pn)
  have pin : L2H.PinOk X.stack H1 s1 (a, oe) := by
    refine ⟨get, fre, fun m => ?_, nc⟩
    rcases List.mem_cons.mp (J.stkSub a m) with z | z
    · exact nl z
    · exact nf z
  refine wpAny_call (codeAny_mono (F.go X.A X.stack s1 H1 ⟨us, []⟩ us vs Q _ a oe C d hr h.hd pin J.env0 b r q) fun rs s' z => ?_)
  match rs, z with
  | .error e, z => exact (show False from z).elim
  | .ok (.ret u), z => exact J.after z
/-- the dict of the exception is known -/
def Dict (H : Hp) (d : Option Addr) : Prop := ∀ dd, d = some dd → ∃ fs, H dd = some (.xd fs)
theorem Has.inst (h : Has X a oe C d) {pins : List (Addr × Obj)} {σ : L2.St} {H : Hp} {s : Shared} (I : Inv X pins σ H s) (k : Dict H d) : ∃ od, PySem.W.InstAt s.heap a oe C od := by
  obtain ⟨get, _⟩ := I.pin (a, oe) (List.mem_append_left _ h.pn)
  obtain ⟨vs, hv⟩ := h.hd.fld
  have nc : PySem.W.notCls oe = true := by unfold PySem.W.notCls; rw [hv] <;> rfl
  have hdct := h.hd.dct
  cases d with
  | none => exact ⟨none, get, h.hd.cls, nc, by rw [hdct]; trivial⟩
  | some dd =>
    obtain ⟨fs, hx⟩ := k dd rfl
    obtain ⟨mA, hns, _⟩ := (show ObjOk X.prog X.w H s.heap dd (.xd fs) from I.hok dd _ hx)
    obtain ⟨od, ho, _⟩ := L2.lookIn_ns hns
    exact ⟨some od, get, h.hd.cls, nc, by rw [hdct]; exact ho⟩
/-- isinstance(e, c), isinstance(e, (c, ..)) -/
def rIsH (K : PySem.W.Frag) (a C : Addr) (d : Option Addr) : List V → Hp → VK → Prop := fun xs H Q => Dict H d ∧
  ((∃ c cv b, xs = [.ref a, c] ∧ ClsV c cv ∧ PySem.W.kitOne K (.ref C) cv = some b ∧ Q (.bl b) H) ∨
   (∃ tp cs ws b, xs = [.ref a, .ref tp] ∧ SqT K H tp cs ∧ Paired ClsV cs ws ∧ PySem.W.kitAny K (.ref C) ws = some b ∧ Q (.bl b) H))
theorem call_isH (h : Has X a oe C d) (c : L2.ExcC X.K C) : CallR X (.builtin "isinstance") (rIsH X.K a C d) := by
  intro pins s σ H xs us Q I r q
  obtain ⟨known, q⟩ := q
  obtain ⟨od, at_⟩ := h.inst I known
  obtain ⟨cd, hcd, _⟩ := PySem.W.any_some c.hd
  have kit := PySem.W.kitx_exc (x := a) (ox := oe) (od := od) (by rw [hcd]; rfl) c.hg c.hk c.hs c.ha c.hn c.ht c.hm
  rcases q with ⟨k, cv, b, rfl, hk, e, q⟩ | ⟨tp, cs, ws, b, rfl, ht, hk, e, q⟩
  · obtain ⟨u1, u2, rfl, r1, r2⟩ := vals2 r
    cases (show u1 = Value.ref a from r1)
    have e2 := ClsV.eq hk r2
    subst e2
    exact PySem.W.kia_one kit I.kIn at_ e (fun z => nomatch z) fun tk => ⟨.bl b, H, I.tok tk, rfl, q⟩
  · obtain ⟨u1, u2, rfl, r1, r2⟩ := vals2 r
    cases (show u1 = Value.ref a from r1)
    cases (show u2 = Value.ref tp from r2)
    obtain ⟨its, rv, ⟨o, h1, h2, n, h3⟩, _⟩ := I.tuple ht
    have e3 := ClsV.all hk rv
    subst e3
    obtain ⟨oc, od2, dt, sl⟩ := o
    simp only at h2 h3
    subst h2 h3
    exact PySem.W.kia_tup kit I.kIn at_ h1 e (fun z => nomatch z) fun tk => ⟨.bl b, H, I.tok tk, rfl, q⟩
/-- e.n -/
def tFldH (a C : Addr) (d : Option Addr) (n : Str) (te : TE) : TE := fun σ H Q => te σ H fun x H1 => x = .ref a ∧ ∃ (dd : Addr) (fs : List (Str × V)) (v : V), d = some dd ∧ H1 dd = some (.xd fs) ∧ fs.lookup n = some v ∧ Q v H1
theorem pe_fldH {n : Str} {e : Expr} {te : TE} {pos : Pos} (h : Has X a oe C d) (T : XfC X.K C) (no : PySem.W.findIn X.K (.ref C) n = some none) (he : PE X e te) (hb : attributeBase e n X.env (eval e X.env) = eval e X.env := by rfl) : PE X (.Attribute e n pos) (tFldH a C d n te) := by
  refine ⟨fun pins s σ H Q I z => attr_of hb (thn (he.run pins s σ H _ I z) fun u s1 hh => ?_)⟩
  obtain ⟨x, H1, J, rx, ex, dd, fs, v, ed, ea, l, q⟩ := hh
  subst ex; subst ed
  obtain rfl : u = Value.ref a := rx
  obtain ⟨get, _⟩ := J.pin (a, oe) (List.mem_append_left _ h.pn)
  obtain ⟨vs, hv⟩ := h.hd.fld
  obtain ⟨mA, hns, hr⟩ := (show ObjOk X.prog X.w H1 s1.heap dd (.xd fs) from J.hok dd _ ea)
  obtain ⟨od, ho, hl⟩ := L2.lookIn_ns hns
  obtain ⟨u, hu, ru⟩ := RelO.some_of (v := v) (o := mA n) (by rw [← l]; exact hr n)
  have at_ : PySem.W.InstAt s1.heap a oe C (some od) := ⟨get, h.hd.cls, by unfold PySem.W.notCls; rw [hv] <;> rfl, by rw [h.hd.dct]; exact ho⟩
  exact HandSPX.exc_get J.kIn at_ T.ga T.gg T.exC (PySem.W.findObj_own T.hdC no rfl (by rw [hl, hu])) (handed_of ru) ⟨v, H1, J.tok _, ru, q⟩
end
end EX
set_option Elab.async false
set_option linter.all false
set_option autoImplicit false
set_option maxRecDepth 100000
set_option maxHeartbeats 4000000
/-! DL9: the rules that speak of the written part, with it named (for comprehensions' blocks). -/
namespace DL
open PySem PySem.Spec PyProof.Rows L2
section
variable {X : Cx} {K : PySem.W.Frag} {p pos : Pos} {e o : Expr} {es : List Expr} {t : TA} {ta te to : TE} {tg : Expr}
theorem q_len (hK : X.K = K) (m : X.mg "len" = none) (hg : Gl X "len") (ha : PA X (e :: es) t) (he : starEach (e :: es) X.env = (false, eval e X.env) :: starEach es X.env := by rfl) (hpl : (backTo pos (starEach es X.env)).any (·.1) = false := by rfl) : PE X (.Call (.Name "len" p) (e :: es) [] pos) (tCB (rLen K) t) := by subst hK; exact b_len m hg ha he hpl
theorem q_all (hK : X.K = K) (hc : X.calm = true) (m : X.mg "all" = none) (hg : Gl X "all") (ha : PA X (e :: es) t) (he : starEach (e :: es) X.env = (false, eval e X.env) :: starEach es X.env := by rfl) (hpl : (backTo pos (starEach es X.env)).any (·.1) = false := by rfl) : PE X (.Call (.Name "all" p) (e :: es) [] pos) (tCB (rAll K) t) := by subst hK; exact b_all hc m hg ha he hpl
theorem q_isi (hK : X.K = K) (m : X.mg "isinstance" = none) (hg : Gl X "isinstance") (ha : PA X (e :: es) t) (he : starEach (e :: es) X.env = (false, eval e X.env) :: starEach es X.env := by rfl) (hpl : (backTo pos (starEach es X.env)).any (·.1) = false := by rfl) : PE X (.Call (.Name "isinstance" p) (e :: es) [] pos) (tCB (rIsi K) t) := by subst hK; exact b_isi m hg ha he hpl
theorem q_tuple (hK : X.K = K) (m : X.mg "tuple" = none) (hg : Gl X "tuple") (ha : PA X (e :: es) t) (he : starEach (e :: es) X.env = (false, eval e X.env) :: starEach es X.env := by rfl) (hpl : (backTo pos (starEach es X.env)).any (·.1) = false := by rfl) : PE X (.Call (.Name "tuple" p) (e :: es) [] pos) (tCB (rTupOf K) t) := by subst hK; exact b_tuple m hg ha he hpl
theorem q_list (hK : X.K = K) (m : X.mg "list" = none) (hg : Gl X "list") (ha : PA X (e :: es) t) (he : starEach (e :: es) X.env = (false, eval e X.env) :: starEach es X.env := by rfl) (hpl : (backTo pos (starEach es X.env)).any (·.1) = false := by rfl) : PE X (.Call (.Name "list" p) (e :: es) [] pos) (tCB (rLstOf K) t) := by subst hK; exact b_list m hg ha he hpl
theorem qt_tru {a : Expr} (hK : X.K = K) (ha : PE X a ta) (he : ∀ whole, isTrue a X.env whole = (do let v ← whole; standAt a.pos; holding [v] (truthy v)) := by intro _; rfl) : PT X a (tTru K ta) := by subst hK; exact pt_tru ha he
theorem qx_list (hK : X.K = K) : IxR X (rIxL K) := by subst hK; exact ix_list
theorem qx_tup (hK : X.K = K) : IxR X (rIxT K) := by subst hK; exact ix_tup
theorem qs_list (hK : X.K = K) : SlR X (rSlL K) := by subst hK; exact sl_list
theorem qs_tup (hK : X.K = K) : SlR X (rSlA K) := by subst hK; exact sl_tupA
theorem qo_catA (hK : X.K = K) : OpR X (binaryOp .Add) (rCatA K) := by subst hK; exact op_catA
theorem qi_list (hK : X.K = K) (h : PE X e te) : PI X tg e (iList K te) := by subst hK; exact pi_list h
theorem qi_tup (hK : X.K = K) (h : PE X e te) : PI X tg e (iTup K te) := by subst hK; exact pi_tup h
theorem qi_enT {tpos : Pos} {elts : List Expr} {kk : Nat} (hK : X.K = K) (hg : Gl X "enumerate") (hm : X.mg "enumerate" = none) (ha : PA X [e] t) (hs : starEach [e] X.env = [(false, eval e X.env)] := by rfl) :
    PI X (.Tuple elts kk tpos) (.Call (.Name "enumerate" p) [e] [] pos) (iEnT K t) := by subst hK; exact pi_enT hg hm ha hs
theorem q_bm0 {T id : String} {name : Str} {r : V → List V → Hp → VK → Prop} {apos cpos : Pos} (hK : X.K = K) (pa : PlainAttrs T) (slot : Slot T name id) (hty : typeOf (.builtin id) = pure (.type "method_descriptor")) (hm : MtR X id r) (ho : PE X o to)
    (hbase : attributeBase o name X.env (eval o X.env) = eval o X.env := by rfl) (hline : (apos.endLine == cpos.line) = true := by rfl) : PE X (.Call (.Attribute o name apos) [] [] cpos) (tBM0 K T r to) := by subst hK; exact pe_bm0 pa slot hty hm ho hbase hline
theorem q_bm {T id : String} {name : Str} {r : V → List V → Hp → VK → Prop} {apos cpos : Pos} (hK : X.K = K) (pa : PlainAttrs T) (slot : Slot T name id) (hty : typeOf (.builtin id) = pure (.type "method_descriptor")) (hm : MtR X id r) (ho : PE X o to) (ha : PA X (e :: es) t)
    (hbase : attributeBase o name X.env (eval o X.env) = eval o X.env := by rfl)
    (hfew : ((backTo cpos (starEach (e :: es) X.env)).all (fun x => !x.1) && (backToKw cpos (keywordEach [] X.env)).all (fun x => x.1.isSome)
      && decide ((e :: es).length + ([] : List Keyword).length + (if ([] : List Keyword).isEmpty then 0 else 1) < 30)) = true := by rfl)
    (hline : (apos.endLine == cpos.line) = true := by rfl) (hs : starEach (e :: es) X.env = (false, eval e X.env) :: starEach es X.env := by rfl) (hplain : (backTo cpos (starEach es X.env)).any (·.1) = false := by rfl) :
    PE X (.Call (.Attribute o name apos) (e :: es) [] cpos) (tBM K T r to t) := by subst hK; exact pe_bm pa slot hty hm ho ha hbase hfew hline hs hplain
theorem q_join {apos : Pos} (hK : X.K = K) (ho : PE X o to) (he : PE X e te) (hs : starEach [e] X.env = [(false, eval e X.env)] := by rfl) (hbase : attributeBase o "join" X.env (eval o X.env) = eval o X.env := by rfl) (hline : (apos.endLine == pos.line) = true := by rfl) :
    PE X (.Call (.Attribute o "join" apos) [e] [] pos) (tM1 (rJoin K) to te) := by subst hK; exact pe_join ho he hs hbase hline
theorem qg_tup {k n : Nat} {u : TGs} (hK : X.K = K) (hc : X.calm = true) (h : PGs X es u) (hn : (assignEach es X.env).length = n) (hst : (assignEach es X.env).findIdx? (·.1) = none := by rfl) : PG X (.Tuple es k pos) (gTup K n u) := by subst hK; exact pg_tup hc h hn hst
end
end DL
set_option Elab.async false
set_option linter.all false
set_option autoImplicit false
set_option maxRecDepth 100000
set_option maxHeartbeats 4000000
/-! DL10: comprehensions with an if; the store as it is. -/
namespace DL
open PySem PySem.Spec PyProof.Rows L2
section
variable {K : PySem.W.Frag} {W : XK} {δ : Dlt} {w : Wl} {P : PD} {Z : ZD} {te : TE} {tt : TT} {g : TG}
end
end DL
set_option Elab.async false
set_option linter.all false
set_option autoImplicit false
set_option maxRecDepth 100000
set_option maxHeartbeats 4000000
/-! DL11: the script of a law. -/
namespace DL
open PySem PySem.Spec PyProof.Rows L2
/-- the script stands at a: known to the written part, or given -/
def Scr (K : PySem.W.Frag) (w : Wl) (a : Addr) (ns : List Int) : Prop := (∀ H : Hp, SqL K H a (ns.map V.int)) ∨ w a = some (.scr ns)
section
variable {K : PySem.W.Frag} {w : Wl} {P : PD} {a : Addr} {ns : List Int}
theorem Scr.sq {H : Hp} (h : Scr K w a ns) (c : Cells K w H) : SqL K H a (ns.map V.int) := by
  rcases h with h | h
  · exact h H
  · exact .inl (c a _ h)
theorem Scr.next {w' : Wl} (h : Scr K w a ns) (k : w a ≠ none → w' a = w a) : Scr K w' a ns := by
  rcases h with h | h
  · exact .inl h
  · exact .inr (by rw [k (by rw [h]; simp)]; exact h)
theorem ol_lenK (h : Scr K w a ns) (k : P (.int ns.length) w) : OpL K (rLen K) [.ptr a] w P := by
  intro vs H h1 c Q q
  cases h1 with
  | cons r t =>
    cases t; cases r
    exact len_hr _ H Q (.inl ⟨_, h.sq c, by rw [List.length_map]⟩) (q _ H _ w (Ex.refl _) c (.int _) k)
theorem atI_mapV {i : Int} {n : Int} (h : atI ns i = some n) : atI (ns.map V.int) i = some (.int n) := by
  unfold atI at h ⊢
  rw [List.length_map]
  cases e : ixN ns.length i with
  | none => rw [e] at h; cases h
  | some j =>
    rw [e] at h
    simp only [Option.bind_some] at h ⊢
    rw [List.getElem?_map, h]
    rfl
theorem o2_ixK {i n : Int} (h : Scr K w a ns) (e : atI ns i = some n) (k : P (.int n) w) : Op2 K (rIxL K) (.ptr a) (.int i) w P := by
  intro v u H h1 h2 c Q q
  cases h1; cases h2
  exact ⟨_, _, i, _, rfl, rfl, h.sq c, atI_mapV e, q _ H _ w (Ex.refl _) c (.int _) k⟩
def cutI (xs : List Int) (lo hi : Option Int) : List Int := (xs.drop (HT.sIx xs.length 0 lo)).take (HT.sIx xs.length xs.length hi - HT.sIx xs.length 0 lo)
theorem cut_ints {lo hi : Option Int} : cutD (ns.map D.int) lo hi = (cutI ns lo hi).map D.int ∧ cutV (ns.map V.int) lo hi = (cutI ns lo hi).map V.int := by
  constructor
  · simp [cutD, cutI, List.map_take, List.map_drop]
  · simp [cutV, cutI, List.map_take, List.map_drop]
theorem os_K {lo hi : Option Int} (h : Scr K w a ns) (k : P (.lst ((cutI ns lo hi).map D.int)) w) : OpS K (rSlL K) (.ptr a) lo hi w P := by
  intro v H h1 c Q q
  cases h1
  refine ⟨a, _, rfl, h.sq c, fun p hp => ?_⟩
  rw [cut_ints.2]
  exact kq_lst q c (rpa_ofints _) k hp
end
end DL
set_option Elab.async false
set_option linter.all false
set_option autoImplicit false
set_option maxRecDepth 100000
set_option maxHeartbeats 4000000
/-! DL12: owned dicts whose keys are ints and texts. -/
namespace DL
open PySem PySem.Spec PyProof.Rows L2
def kD : Key → D
  | .inl i => .int i
  | .inr x => .str x
def valD (kvs : List (Key × D)) (k : Key) : Option D := (kvs.find? fun kv => decide (kv.1 = k)).map (·.2)
def putD (kvs : List (Key × D)) (k : Key) (d : D) : List (Key × D) :=
  if (kvs.any fun kv => decide (kv.1 = k)) = true then kvs.map (fun kv => if kv.1 = k then (kv.1, d) else kv) else kvs ++ [(k, d)]
def dropD (kvs : List (Key × D)) (k : Key) : List (Key × D) := kvs.filter fun kv => decide (kv.1 ≠ k)
section
variable {K : PySem.W.Frag} {G : Hp}
theorem rp_kD {v : V} {k : Key} (h : Rp K G v (kD k)) : v = kV k := by
  cases k with
  | inl i => cases h; rfl
  | inr x => cases h; rfl
theorem rpk_len : ∀ {ks : List (Key × V)} {kvs : List (Key × D)}, RpK K G ks kvs → ks.length = kvs.length
  | [], [], _ => rfl
  | (_, _) :: r, (_, _) :: s, h => by
    obtain ⟨_, _, h⟩ := h
    rw [List.length_cons, List.length_cons, rpk_len h]
  | [], _ :: _, h => h.elim
  | _ :: _, [], h => h.elim
theorem rpk_any {k : Key} : ∀ {ks : List (Key × V)} {kvs : List (Key × D)}, RpK K G ks kvs → (ks.any fun kv => decide (kv.1 = k)) = (kvs.any fun kv => decide (kv.1 = k))
  | [], [], _ => rfl
  | (a, _) :: r, (b, _) :: s, h => by
    obtain ⟨e, _, h⟩ := h
    subst e
    rw [List.any_cons, List.any_cons, rpk_any h]
  | [], _ :: _, h => h.elim
  | _ :: _, [], h => h.elim
theorem rpk_val {k : Key} : ∀ {ks : List (Key × V)} {kvs : List (Key × D)}, RpK K G ks kvs → (valV ks k = none ∧ valD kvs k = none) ∨ ∃ v d, valV ks k = some v ∧ valD kvs k = some d ∧ Rp K G v d
  | [], [], _ => .inl ⟨rfl, rfl⟩
  | (a, v) :: r, (b, d) :: s, h => by
    obtain ⟨e, hr, h⟩ := h
    subst e
    by_cases e : a = k
    · exact .inr ⟨v, d, by simp [valV, List.find?_cons, e], by simp [valD, List.find?_cons, e], hr⟩
    · rcases rpk_val (k := k) h with ⟨h1, h2⟩ | ⟨v', d', h1, h2, h3⟩
      · refine .inl ⟨?_, ?_⟩
        · simpa [valV, List.find?_cons, e] using h1
        · simpa [valD, List.find?_cons, e] using h2
      · refine .inr ⟨v', d', ?_, ?_, h3⟩
        · simpa [valV, List.find?_cons, e] using h1
        · simpa [valD, List.find?_cons, e] using h2
  | [], _ :: _, h => h.elim
  | _ :: _, [], h => h.elim
theorem rpk_map {k : Key} {v : V} {d : D} (r : Rp K G v d) : ∀ {ks : List (Key × V)} {kvs : List (Key × D)}, RpK K G ks kvs → RpK K G (ks.map fun kv => if kv.1 = k then (kv.1, v) else kv) (kvs.map fun kv => if kv.1 = k then (kv.1, d) else kv)
  | [], [], _ => trivial
  | (a, _) :: _, (b, _) :: _, h => by
    obtain ⟨e, hr, h⟩ := h
    subst e
    rw [List.map_cons, List.map_cons]
    by_cases e : a = k
    · rw [if_pos e, if_pos e]; exact ⟨rfl, r, rpk_map r h⟩
    · rw [if_neg e, if_neg e]; exact ⟨rfl, hr, rpk_map r h⟩
  | [], _ :: _, h => h.elim
  | _ :: _, [], h => h.elim
theorem rpk_snoc {k : Key} {v : V} {d : D} (r : Rp K G v d) : ∀ {ks : List (Key × V)} {kvs : List (Key × D)}, RpK K G ks kvs → RpK K G (ks ++ [(k, v)]) (kvs ++ [(k, d)])
  | [], [], _ => ⟨rfl, r, trivial⟩
  | (a, _) :: _, (b, _) :: _, h => ⟨h.1, h.2.1, rpk_snoc r h.2.2⟩
  | [], _ :: _, h => h.elim
  | _ :: _, [], h => h.elim
theorem rpk_put {k : Key} {v : V} {d : D} (r : Rp K G v d) {ks : List (Key × V)} {kvs : List (Key × D)} (h : RpK K G ks kvs) : RpK K G (putK ks k v) (putD kvs k d) := by
  unfold putK putD
  rw [rpk_any h]
  split
  · exact rpk_map r h
  · exact rpk_snoc r h
end
section
variable {K : PySem.W.Frag} {W : XK} {δ : Dlt} {w : Wl} {P : PD} {Z : ZD} {td ty tv tx : TE} {E : EndD}
/-- an owned dict is made anew -/
theorem ownK_ok {H : Hp} {p : Addr} {ks : List (Key × V)} {kvs : List (Key × D)} (c : Cells K w H) (r : RpK K (msk w H) ks kvs) (hp : H p = none) : Ex (msk w H) (msk (put w p (.dK kvs)) (upd H p (.dK ks))) ∧ Cells K (put w p (.dK kvs)) (upd H p (.dK ks)) := by
  have e : Ex (msk w H) (msk (put w p (.dK kvs)) (upd H p (.dK ks))) := fun a o h => by
    obtain ⟨h1, h2⟩ := msk_some h
    have n : a ≠ p := ne_of_none h2 hp
    exact msk_of (by rw [put_ne n]; exact h1) (by rw [upd_ne n]; exact h2)
  refine ⟨e, fun a x q => ?_⟩
  by_cases n : a = p
  · subst n
    rw [put_same] at q
    cases q
    exact ⟨ks, upd_same, r.mono e⟩
  · rw [put_ne n] at q
    exact ClAt.mono e (c a x q) fun o h => by rw [upd_ne n]; exact h
/-- an owned dict changes -/
theorem putK_ok {H : Hp} {l : Addr} {o : HO} {ks : List (Key × V)} {kvs : List (Key × D)} {cl : Cl} (c : Cells K w H) (hl : w l = some cl) (r : RpK K (msk w H) ks kvs) : Ex (msk w H) (msk (put w l (.dK kvs)) (upd H l (.dK ks))) ∧ Cells K (put w l (.dK kvs)) (upd H l (.dK ks)) := by
  have e : Ex (msk w H) (msk (put w l (.dK kvs)) (upd H l (.dK ks))) := fun a o h => by
    obtain ⟨h1, h2⟩ := msk_some h
    have n : a ≠ l := fun z => by rw [z, hl] at h1; cases h1
    exact msk_of (by rw [put_ne n]; exact h1) (by rw [upd_ne n]; exact h2)
  refine ⟨e, fun a x q => ?_⟩
  by_cases n : a = l
  · subst n
    rw [put_same] at q
    cases q
    exact ⟨ks, upd_same, r.mono e⟩
  · rw [put_ne n] at q
    exact ClAt.mono e (c a x q) fun o h => by rw [upd_ne n]; exact h
/-- {} -/
theorem ev_dnew (k : ∀ p, w p = none → P (.ptr p) (put w p (.dK []))) : Ev K W tDNewK δ w P Z :=
  fun σ H s Q q _ p hp => by
    obtain ⟨e, c⟩ := ownK_ok (ks := []) (kvs := []) s.ce trivial hp
    exact q _ _ _ _ e c (.ptr p) (k p (s.ce.free hp))
/-- d.get(k, x) -/
theorem ev_dget2 (h : Ev K W td δ w (fun x w1 => ∃ l, x = .ptr l ∧ (∃ kvs, w1 l = some (.dK kvs)) ∧ Ev K W ty δ w1 (fun y w2 => Ev K W tx δ w2 (fun u w3 => ∃ kvs k, w3 l = some (.dK kvs) ∧ y = kD k ∧ P ((valD kvs k).getD u) w3) Z) Z) Z) : Ev K W (tDGet2 td ty tx) δ w P Z :=
  fun σ H s Q q z => h σ H s _ (fun v H1 d1 w1 e1 c1 r1 ⟨l, ex, ⟨kvs1, hw1⟩, h1⟩ => by
    subst ex
    cases r1
    obtain ⟨ks1, g1, _⟩ := c1 l _ hw1
    refine ⟨l, rfl, .inl ⟨ks1, .inl g1⟩, ?_⟩
    refine h1 σ H1 (s.next e1 c1) _ (fun y H2 d2 w2 e2 c2 r2 h2 => ?_) (z.next e1)
    refine h2 σ H2 (s.next (e1.trans e2) c2) _ (fun u H3 d3 w3 e3 c3 r3 ⟨kvs, k, hw, ey, hp⟩ => ?_) (z.next (e1.trans e2))
    subst ey
    obtain ⟨ks, g1, g2⟩ := c3 l _ hw
    refine ⟨valV ks k, by rw [rp_kD r2]; exact DGet.k g1, ?_⟩
    rcases rpk_val (k := k) g2 with ⟨a, b⟩ | ⟨v', d', a, b, r⟩
    · rw [a]; rw [b] at hp
      exact q _ H3 _ w3 ((e1.trans e2).trans e3) c3 r3 hp
    · rw [a]; rw [b] at hp
      exact q _ H3 _ w3 ((e1.trans e2).trans e3) c3 r hp) z
/-- d[k] = v -/
theorem sd_dput {nx : Dlt → Wl → Prop} {rt : PD} {bk ct : Dlt → Wl → Prop} {rz : ZD} (h : Ev K W tv δ w (fun d w1 => Ev K W td δ w1 (fun x w2 => Ev K W ty δ w2 (fun y w3 => ∃ l kvs k, x = .ptr l ∧ w3 l = some (.dK kvs) ∧ y = kD k ∧ kvs.length < sizeLine ∧ nx δ (put w3 l (.dK (putD kvs k d)))) rz) rz) rz) : Sd K W (sDPut td ty tv) δ w ⟨nx, rt, bk, ct, rz⟩ :=
  fun σ H s Dn ke => h σ H s _ (fun v H1 d w1 e1 c1 r1 h1 => h1 σ H1 (s.next e1 c1) _ (fun x H2 dx w2 e2 c2 r2 h2 => h2 σ H2 (s.next (e1.trans e2) c2) _ (fun y H3 dy w3 e3 c3 r3 ⟨l, kvs, k, ex, hw, ey, hz, hn⟩ => by
    subst ex; subst ey
    cases r2
    obtain ⟨ks, g1, g2⟩ := c3 l _ hw
    have r1' := (r1.mono e2).mono e3
    obtain ⟨e4, c4⟩ := putK_ok (o := .dK ks) c3 hw (rpk_put r1' g2 (k := k))
    refine ⟨l, _, rfl, .inl ⟨ks, k, g1, rp_kD r3, by rw [rpk_len g2]; exact hz, rfl⟩, ?_⟩
    exact ke.nx σ _ δ _ (((e1.trans e2).trans e3).trans e4) (s.next (((e1.trans e2).trans e3).trans e4) c4) hn) (ke.rz.next (e1.trans e2))) (ke.rz.next e1)) ke.rz
end
end DL
set_option Elab.async false
set_option linter.all false
set_option autoImplicit false
set_option maxRecDepth 100000
set_option maxHeartbeats 4000000
/-! DL13: sorted(d.items()), d with texts as keys and ints as values. -/
namespace KS
open PySem PySem.W PySem.Calls PyProof.Rows PyProof.V PySem.Spec DT
section
variable {prog : Program} {w : World} {A : Around} {E : Value → Shared → Prop} {s : Shared}
def textAt (h : Heap) (v : Value) : Str := txOf (seqAt0 h (refOf (some v)))
/-- v is a pair of the text y and the int m -/
def SI (h : Heap) (v : Value) (y : Str) (m : Int) : Prop := ∃ (a : Addr) (t u : Tok), v = .ref a ∧ IsTup h a #[.str y t, .int m u]
theorem SI.tx {h : Heap} {v : Value} {y : Str} {m : Int} (x : SI h v y m) : textAt h v = y := by
  obtain ⟨a, t, u, rfl, g⟩ := x
  show txOf (seqAt0 h a) = y
  rw [seqAt0_of g]
  rfl
theorem heads {h : Heap} {M : Str → Int} : ∀ us : List Value, (∀ v ∈ us, ∃ y, SI h v y (M y)) → ∃ fs : List Value, KatTups h us fs ∧ fs.length = us.length ∧ ∀ f ∈ fs, ∃ (y : Str) (t : Tok), f = Value.str y t
  | [], _ => ⟨[], .nil, rfl, fun f z => nomatch z⟩
  | v :: us, x => by
    obtain ⟨fs, g1, g2, g3⟩ := heads us fun u hu => x u (List.mem_cons_of_mem _ hu)
    obtain ⟨y, a, t, u, rfl, o, ho, hc, n, hd⟩ := x v (List.mem_cons_self ..)
    refine ⟨.str y t :: fs, .cons ho hc hd rfl g1, by simp [g2], fun f hf => ?_⟩
    cases hf with
    | head => exact ⟨y, t, rfl⟩
    | tail _ hf => exact g3 f hf
theorem kind_si {us : List Value} {rk : Str → Int} {M : Str → Int} (two : 2 ≤ us.length) (x : ∀ v ∈ us, ∃ y, SI s.heap v y (M y))
    (hrk : ∀ v ∈ us, ∀ u ∈ us, decide ((textAt s.heap v).cps.toList < (textAt s.heap u).cps.toList) = decide (rk (textAt s.heap v) < rk (textAt s.heap u))) (Q : SortKind → Shared → Prop)
    (h : ∀ κ, TS.Cmp prog w A s κ (pairsOf us) (fun v => rk (textAt s.heap v)) → Q κ s) : wpAny (model prog w) A (keyKind' us.toArray) Q E s := by
  obtain ⟨fs, g1, g2, g3⟩ := heads us x
  refine kat_kind (T := .type "str") g1 (by omega) (fun f hf => ?_) rfl (h _ ?_)
  · obtain ⟨y, t, rfl⟩ := g3 f hf
    exact Looks.of_pure rfl
  · have notTup : (Value.type "str" != Value.type "tuple") = true := by first | rfl | decide
    rw [notTup]
    intro p q hp hq Q' E' done
    rw [pairsOf_toList] at hp hq
    have inP := (mem_zip_self hp).2
    have inQ := (mem_zip_self hq).2
    obtain ⟨y, py⟩ := x _ inP
    obtain ⟨z, pz⟩ := x _ inQ
    have same := hrk _ inP _ inQ
    rw [py.tx, pz.tx] at same
    have done2 : Q' (decide (rk (textAt s.heap p.1) < rk (textAt s.heap q.1))) s := done
    rw [py.tx, pz.tx, ← same] at done2
    obtain ⟨a, t, u, e1, o, ho, _, n, hd⟩ := py
    obtain ⟨b, t', u', e2, o', ho', _, n', hd'⟩ := pz
    rw [e1, e2]
    refine kat_lt ho hd ho' hd' ?_
    show KatLex prog w A true false Q' [(Value.str y t, Value.str z t'), (Value.int (M y) u, Value.int (M z) u')] 0 s
    by_cases eq : y = z
    · subst eq
      have irr : decide (y.cps.toList < y.cps.toList) = false := decide_eq_false (List.lt_irrefl _)
      rw [irr] at done2
      refine kat_cons (wpAny_eqBool_str (kat_go (fun _ => kat_yes ?_) fun no => absurd rfl (of_decide_eq_false no)))
      refine kat_cons (wpAny_eqBool_int (kat_go (fun _ => kat_yes (kat_nil done2)) fun no => absurd no (by simp)))
    · refine kat_cons (wpAny_eqBool_str (kat_go (fun yes => absurd (of_decide_eq_true yes) eq) fun _ => kat_no ?_))
      exact oneLt_str done2
end
/-! the rank of a text among others -/
def rank (ts : List Str) (y : Str) : Int := ((ts.filter fun e => decide (e.cps.toList < y.cps.toList)).length : Int)
theorem filt_sub {p q : Str → Bool} (ts : List Str) (h : ∀ e, p e = true → q e = true) : (ts.filter p).Sublist (ts.filter q) := by
  have e : ts.filter p = (ts.filter q).filter p := by
    rw [List.filter_filter]
    refine List.filter_congr fun x _ => ?_
    cases hp : p x with
    | true => rw [h x hp]; rfl
    | false => rfl
  rw [e]
  exact List.filter_sublist
theorem rank_lt {ts : List Str} {a b : Str} (ha : a ∈ ts) : decide (a.cps.toList < b.cps.toList) = decide (rank ts a < rank ts b) := by
  by_cases h : a.cps.toList < b.cps.toList
  · rw [decide_eq_true h]
    refine (decide_eq_true ?_).symm
    have sub := filt_sub (p := fun e : Str => decide (e.cps.toList < a.cps.toList)) (q := fun e : Str => decide (e.cps.toList < b.cps.toList)) ts fun e he => decide_eq_true (List.lt_trans (of_decide_eq_true he) h)
    unfold rank
    have le := sub.length_le
    rcases Nat.lt_or_eq_of_le le with z | z
    · exact_mod_cast z
    · exfalso
      have eq := sub.eq_of_length z
      have inB : a ∈ ts.filter fun e : Str => decide (e.cps.toList < b.cps.toList) := List.mem_filter.mpr ⟨ha, decide_eq_true h⟩
      rw [← eq] at inB
      exact List.lt_irrefl _ (of_decide_eq_true (List.mem_filter.mp inB).2)
  · rw [decide_eq_false h]
    refine (decide_eq_false ?_).symm
    have ba : b.cps.toList ≤ a.cps.toList := List.not_lt.mp h
    have sub := filt_sub (p := fun e : Str => decide (e.cps.toList < b.cps.toList)) (q := fun e : Str => decide (e.cps.toList < a.cps.toList)) ts fun e he => by
      have lt := of_decide_eq_true he
      rcases List.le_iff_lt_or_eq.mp ba with z | z
      · exact decide_eq_true (List.lt_trans lt z)
      · exact decide_eq_true (z ▸ lt)
    unfold rank
    have le := sub.length_le
    omega

/-! ### the rules -/
abbrev entK (e : Str × Int) : L2.Key × L2.V := (Sum.inr e.1, L2.V.int e.2)
open L2 in
def rItemsK : V → List V → Hp → VK → Prop := fun x xs H Q => ∃ (a : Addr) (kvs : List (Key × V)), x = .ref a ∧ xs = [] ∧ H a = some (.dK kvs) ∧ ∀ p, H p = none → Q (.ref p) (upd H p (DX.itemsO p a))
open L2 in
theorem mt_itemsK {X : Cx} : MtR X "dict.items" rItemsK := by
  intro pins s σ H x xs v us Q I rx rxs h
  obtain ⟨a, kvs, rfl, rfl, ha, q⟩ := h
  cases rx
  cases rxs
  obtain ⟨_, notMods, vs, rel, o, es, ep, ho, hx, hdat, _⟩ := dk_of I.hok ha
  refine DT.callItems (es := es) (ep := ep) notMods ⟨o, ho, hx, hdat⟩ ?_
  exact ⟨.ref s.heap.objs.size, upd H s.heap.objs.size (DX.itemsO s.heap.objs.size a), I.laid (t' := s.toks) (fun b u e => Heap.get?_push_of_some _ e) (Nat.le_refl _) (DX.itemsO_ok (Heap.get?_push_size _ rfl)), rfl, q _ (I.hok.fresh (Nat.le_refl _))⟩
open L2 in
/-- sorted(d.items()): at most 63 entries; the pairs are new, ascending by their texts -/
def rSortK : List V → Hp → VK → Prop := fun vs H Q => ∃ (p a : Addr) (ks : List (Str × Int)), vs = [.ref p] ∧ H p = some (DX.itemsO p a) ∧ H a = some (.dK (ks.map entK)) ∧ ks.length < 64 ∧
  ∀ (H' : Hp) (l : Addr) (ps : List (Addr × Str × Int)), (∀ b o, H b = some o → H' b = some o) → (ps.map (·.2)).Perm ks → (ks.map (·.1)).Nodup → (ps.map (·.2)).Pairwise (fun e f => ¬ f.1.cps.toList < e.1.cps.toList) → H l = none → (∀ z ∈ ps, H z.1 = none) → H' l = some (.lst (ps.map fun z => V.ref z.1)) →
    (∀ z ∈ ps, H' z.1 = some (.tup [.str z.2.1, .int z.2.2])) → Q (.ref l) H'
open L2 in
theorem ent_get {ks : List (Str × Int)} {vs : List (Key × Value)} : KV (ks.map entK) vs → (ks.length = vs.length ∧ vs.map (·.1) = ks.map (fun e => (Sum.inr e.1 : Key)) ∧ ∀ (j : Nat) (kv : Key × Value), vs[j]? = some kv → ∃ e, ks[j]? = some e ∧ kv.1 = Sum.inr e.1 ∧ RelV (.int e.2) kv.2) := by
  induction ks generalizing vs with
  | nil => intro h; cases h; exact ⟨rfl, rfl, fun j kv z => by simp at z⟩
  | cons e ks ih =>
    intro h
    cases h with
    | cons r t =>
      obtain ⟨g1, g2, g3⟩ := ih t
      refine ⟨by rw [List.length_cons, List.length_cons, g1], ?_, fun j kv z => ?_⟩
      · rw [List.map_cons, List.map_cons, g2, ← r.1]
      · cases j with
        | zero =>
          simp only [List.getElem?_cons_zero] at z
          cases z
          exact ⟨e, rfl, r.1.symm, r.2⟩
        | succ j =>
          simp only [List.getElem?_cons_succ] at z ⊢
          exact g3 j kv z
theorem pairs_get {K : Type} [DecidableEq K] {prog : Program} {w : World} {knd : PySem.KeyKind prog w K} {es : List DictEntry} {kvs : List (K × Value)} (h : Pairs knd es kvs) : ∀ {j : Nat} {en : DictEntry}, es[j]? = some en → ∃ kv, kvs[j]? = some kv ∧ knd.is kv.1 en.key = true ∧ en.val = kv.2 := by
  induction h with
  | nil => intro j en z; simp at z
  | cons a b _ ih =>
    intro j en z
    cases j with
    | zero =>
      simp only [List.getElem?_cons_zero] at z
      cases z
      exact ⟨_, rfl, a, b⟩
    | succ j =>
      simp only [List.getElem?_cons_succ] at z ⊢
      exact ih z
def numOf (ks : List (Str × Int)) (y : Str) : Int := ((ks.find? fun e => decide (e.1 = y)).map (·.2)).getD 0
theorem numOf_mem : ∀ {ks : List (Str × Int)}, (ks.map (·.1)).Nodup → ∀ e ∈ ks, numOf ks e.1 = e.2
  | [], _, e, h => nomatch h
  | a :: ks, nd, e, h => by
    rw [List.map_cons] at nd
    obtain ⟨n1, n2⟩ := List.nodup_cons.mp nd
    unfold numOf
    rw [List.find?_cons]
    rcases List.mem_cons.mp h with rfl | h
    · rw [decide_eq_true rfl]; rfl
    · have ne : a.1 ≠ e.1 := fun z => n1 (z ▸ List.mem_map.mpr ⟨e, h, rfl⟩)
      rw [decide_eq_false ne]
      exact numOf_mem n2 e h

open L2 in
theorem cr_sortK {X : Cx} (hc : X.calm = true) : CallR X (.builtin "sorted") rSortK := by
  intro pins s σ H xs us Q I r h
  obtain ⟨p, a, ks, rfl, hp, ha, few, q⟩ := h
  obtain rfl := Vals.ref1 r
  have view : s.heap.IsItemsView p a := (show ObjOk X.prog X.w H s.heap p (DX.itemsO p a) from I.hok p _ hp).1
  obtain ⟨_, _, vs, rel, o, es, ep, ho, hx, hdat, _, prs, nodK⟩ := dk_of I.hok ha
  obtain ⟨len1, keys, getE⟩ := ent_get rel
  have lenE : es.size = ks.length := by rw [← Array.length_toList, prs.length, len1]
  have nodN : (ks.map (·.1)).Nodup := by
    rw [keys] at nodK
    have e : ks.map (fun e => (Sum.inr e.1 : Key)) = (ks.map (·.1)).map Sum.inr := by rw [List.map_map]; rfl
    rw [e] at nodK
    exact (List.pairwise_map.mp nodK).imp fun {x y} ne z => ne (congrArg Sum.inr z)
  refine DT.sortedI (es := es) (ep := ep) (I.ok.hd hc) view ⟨o, ho, hx, hdat⟩ (by rw [sizeLine_eq]; omega) fun h' tk as old larger lenA made => ?_
  have lenAK : as.length = ks.length := by omega
  have nodA : as.Nodup := List.Pairwise.imp (fun z => Nat.ne_of_lt z) made.rise
  -- what was collected
  have coll : ∀ (j : Nat) (b : Addr), as[j]? = some b → ∃ (e : Str × Int) (k x : Value), ks[j]? = some e ∧ RelV (.str e.1) k ∧ RelV (.int e.2) x ∧ h'.get? b = some { cls := .type "tuple", data := .seq #[k, x] } := by
    intro j b hj
    obtain ⟨en, he, hg⟩ := made.pairs j b hj
    obtain ⟨kv, k1, k2, k3⟩ := pairs_get prs (j := j) (en := en) (by rw [Array.getElem?_toList]; exact he)
    obtain ⟨e, e1, e2, e3⟩ := getE j kv k1
    rw [← k3] at e3
    have rk : RelV (kV kv.1) en.key := relV_key (show keyIs kv.1 en.key = true from k2)
    rw [e2] at rk
    exact ⟨e, en.key, en.val, e1, rk, e3, hg⟩
  have list0 : (h'.push { cls := .type "list", data := .seq (as.map Value.ref).toArray }).get? h'.objs.size = some (seqObj "list" (as.map Value.ref).toArray 0) := Heap.get?_push_size _ rfl
  have apart : ∀ b o, h'.get? b = some o → b ≠ h'.objs.size := fun b o e => Nat.ne_of_lt (Heap.lt_size e)
  have kept1 : ∀ b o, h'.get? b = some o → (h'.push { cls := .type "list", data := .seq (as.map Value.ref).toArray }).get? b = some o := fun b o e => Heap.get?_push_of_some _ e
  generalize h'.push { cls := .type "list", data := .seq (as.map Value.ref).toArray } = h2 at list0 kept1 ⊢
  have isSI : ∀ (j : Nat) (b : Addr), as[j]? = some b → ∃ e : Str × Int, ks[j]? = some e ∧ SI (TS.midHeap h2 h'.objs.size (as.map Value.ref)) (.ref b) e.1 e.2 := by
    intro j b hj
    obtain ⟨e, k, x, e1, ⟨t, rfl⟩, ⟨u, rfl⟩, hg⟩ := coll j b hj
    exact ⟨e, e1, b, t, u, rfl, _, TS.midHeap_old (apart _ _ hg) (kept1 _ _ hg), rfl, 0, rfl⟩
  have ofV : ∀ v ∈ as.map Value.ref, ∃ (j : Nat) (b : Addr) (e : Str × Int), v = .ref b ∧ as[j]? = some b ∧ ks[j]? = some e ∧ SI (TS.midHeap h2 h'.objs.size (as.map Value.ref)) (.ref b) e.1 e.2 := by
    intro v hv
    obtain ⟨b, hb, rfl⟩ := List.mem_map.mp hv
    obtain ⟨j, hj⟩ := List.mem_iff_getElem?.mp hb
    obtain ⟨e, e1, e2⟩ := isSI j b hj
    exact ⟨j, b, e, rfl, hj, e1, e2⟩
  let names := ks.map (·.1)
  have inN : ∀ {j : Nat} {e : Str × Int}, ks[j]? = some e → e.1 ∈ names := fun z => List.mem_map.mpr ⟨_, List.mem_of_getElem? z, rfl⟩
  refine wpAny_call_entry PyProof.Rows.slot_list_sort ⟨_, list0, rfl⟩ PyProof.Rows.entry_list_sort
    (SK.plain_sort (s := { s with heap := h2, toks := tk }) (r := fun v => rank names (textAt (TS.midHeap h2 h'.objs.size (as.map Value.ref)) v)) list0 (by rw [List.length_map]; omega) (fun two Qk hQk => ?_) fun sp out o1 o2 o3 => ⟨.none, rfl, ?_⟩) (PyProof.Rows.args_list_sort _)
  · refine kind_si (s := { s with heap := TS.midHeap h2 h'.objs.size (as.map Value.ref), toks := tk }) (rk := rank names) (M := numOf ks) two (fun v hv => ?_) (fun v hv u hu => ?_) Qk hQk
    · obtain ⟨j, b, e, rfl, _, e1, e2⟩ := ofV v hv
      refine ⟨e.1, ?_⟩
      rw [numOf_mem nodN e (List.mem_of_getElem? e1)]
      exact e2
    · obtain ⟨j, b, e, rfl, _, e1, e2⟩ := ofV v hv
      obtain ⟨i, c, f, rfl, _, f1, f2⟩ := ofV u hu
      show decide ((textAt (TS.midHeap h2 h'.objs.size (as.map Value.ref)) (.ref b)).cps.toList < (textAt (TS.midHeap h2 h'.objs.size (as.map Value.ref)) (.ref c)).cps.toList) = _
      rw [e2.tx, f2.tx]
      exact rank_lt (inN e1)
  · show EP X pins σ Q (.ref h'.objs.size) { s with heap := sortedHeap h2 h'.objs.size (as.map Value.ref) out, toks := tk }
    obtain ⟨zs, pz, ez⟩ := perm_lift (fun z : Addr × Str × Int => (Value.ref z.1, Value.ref z.1)) o2 (as.zip ks) (DX.zip_self Value.ref as ks lenAK)
    have at_ : ∀ z ∈ zs, ∃ j : Nat, as[j]? = some z.1 ∧ ks[j]? = some z.2 := fun z hz => by
      obtain ⟨j, hj⟩ := List.mem_iff_getElem?.mp (pz.mem_iff.mp hz)
      exact ⟨j, List.getElem?_zip_eq_some.mp hj⟩
    have outs : out.toList = zs.map fun z => Value.ref z.1 := by
      rw [o1, ← ez, List.map_map]
      rfl
    have permK : (zs.map (·.2)).Perm ks := by
      have e := pz.map (·.2)
      rw [show (as.zip ks).map (·.2) = ks from List.map_snd_zip (Nat.le_of_eq lenAK.symm)] at e
      exact e
    have tx : ∀ z ∈ zs, textAt (TS.midHeap h2 h'.objs.size (as.map Value.ref)) (.ref z.1) = z.2.1 ∧ z.2.1 ∈ names := fun z hz => by
      obtain ⟨j, j1, j2⟩ := at_ z hz
      obtain ⟨e, e1, e2⟩ := isSI j _ j1
      have ee : e = z.2 := Option.some.inj (e1.symm.trans j2)
      exact ⟨by rw [e2.tx, ee], inN j2⟩
    have order : (zs.map (·.2)).Pairwise fun e f => ¬ f.1.cps.toList < e.1.cps.toList := by
      rw [← ez, List.pairwise_map] at o3
      rw [List.pairwise_map]
      refine List.Pairwise.imp_of_mem (fun {x y} hx hy le lt => ?_) o3
      have le2 : rank names (textAt (TS.midHeap h2 h'.objs.size (as.map Value.ref)) (.ref x.1)) ≤ rank names (textAt (TS.midHeap h2 h'.objs.size (as.map Value.ref)) (.ref y.1)) := le
      rw [(tx x hx).1, (tx y hy).1] at le2
      have lt2 := rank_lt (b := x.2.1) (tx y hy).2
      rw [decide_eq_true lt] at lt2
      have := of_decide_eq_true lt2.symm
      omega
    have kept2 : ∀ b o, b ≠ h'.objs.size → h2.get? b = some o → (sortedHeap h2 h'.objs.size (as.map Value.ref) out).get? b = some o := fun b o ne e => (PyProof.Rows.sortedHeap_old ne (Heap.lt_size e)).trans e
    have kept3 : ∀ b o, s.heap.get? b = some o → (sortedHeap h2 h'.objs.size (as.map Value.ref) out).get? b = some o := fun b o e => kept2 b o (apart _ _ (old b o e)) (kept1 _ _ (old b o e))
    obtain ⟨cap, heF⟩ := PyProof.Rows.sortedHeap_at (vs := as.map Value.ref) (out := out) list0
    have J1 : Inv X pins σ H { s with heap := sortedHeap h2 h'.objs.size (as.map Value.ref) out, toks := tk } := I.kept (t' := tk) kept3
    have free0 : H h'.objs.size = none := I.hok.fresh (Nat.le_of_lt larger)
    have short : (zs.map fun z => V.ref z.1).length ≤ sizeLine := by
      have e := permK.length_eq
      rw [List.length_map] at e
      rw [List.length_map, sizeLine_eq]
      omega
    have outV : Vals (zs.map fun z => V.ref z.1) out.toList := by
      rw [outs]
      exact vals_maps (fun z : Addr × Str × Int => V.ref z.1) (fun z => Value.ref z.1) zs fun _ _ => rfl
    have J2 : Inv X pins σ (upd H h'.objs.size (.lst (zs.map fun z => V.ref z.1))) { s with heap := sortedHeap h2 h'.objs.size (as.map Value.ref) out, toks := tk } :=
      J1.take (h' := sortedHeap h2 h'.objs.size (as.map Value.ref) out) (t' := tk) (fun b ob _ e => e) (I.fpOk (Nat.le_of_lt larger) free0) ⟨short, out.toList, cap, outV, heF⟩
    obtain ⟨H2, J3, grow, tups⟩ := DX.takeT (P := fun b ws => ∃ (j : Nat) (e : Str × Int), as[j]? = some b ∧ ks[j]? = some e ∧ ws = [V.str e.1, V.int e.2]) I as _ J2 nodA fun b hb => by
      obtain ⟨j, hj⟩ := List.mem_iff_getElem?.mp hb
      obtain ⟨e, k, x, e1, rk, rx, hg⟩ := coll j b hj
      have up : s.heap.objs.size ≤ b := Nat.le_of_lt (made.above b hb)
      refine ⟨up, ?_, [.str e.1, .int e.2], ⟨j, e, hj, e1, rfl⟩, fun H3 => ⟨by rw [sizeLine_eq]; show 2 ≤ 16777216; omega, [k, x], .cons rk (.cons rx .nil), ⟨_, kept2 _ _ (apart _ _ hg) (kept1 _ _ hg), rfl, 0, rfl⟩⟩⟩
      rw [upd_ne (apart _ _ hg)]
      exact I.hok.fresh up
    have grow2 : ∀ b o, H b = some o → H2 b = some o := fun b o e => grow b o (by rw [upd_ne (ne_of_none e free0)]; exact e)
    refine ⟨.ref h'.objs.size, H2, J3, rfl, q H2 h'.objs.size zs grow2 permK nodN order free0 (fun z hz => ?_) (grow _ _ upd_same) fun z hz => ?_⟩
    · obtain ⟨j, j1, _⟩ := at_ z hz
      exact I.hok.fresh (Nat.le_of_lt (made.above _ (List.mem_of_getElem? j1)))
    · obtain ⟨i, i1, i2⟩ := at_ z hz
      obtain ⟨ws, ⟨j, e, j1, j2, ew⟩, hH⟩ := tups z.1 (List.mem_of_getElem? i1)
      have eij : i = j := (List.getElem?_inj (List.getElem?_eq_some_iff.mp i1).1 nodA).mp (i1.trans j1.symm)
      subst eij
      have ee : e = z.2 := Option.some.inj (j2.symm.trans i2)
      rw [ew, ee] at hH
      exact hH
end KS
set_option Elab.async false
set_option linter.all false
set_option autoImplicit false
set_option maxRecDepth 100000
set_option maxHeartbeats 4000000
/-! DL14: sorted(d.items()) on data; len and truth of dicts. -/
namespace DL
open PySem PySem.Spec PyProof.Rows L2
section
variable {K : PySem.W.Frag} {W : XK} {δ : Dlt} {w : Wl} {P : PD} {Z : ZD} {te : TE} {ta : TA}
abbrev entD (e : Str × Int) : Key × D := (Sum.inr e.1, D.int e.2)
abbrev prD (e : Str × Int) : D := .tup [.str e.1, .int e.2]
theorem rpk_ents {G : Hp} : ∀ {vs : List (Key × V)} {ks : List (Str × Int)}, RpK K G vs (ks.map entD) → vs = ks.map KS.entK
  | [], [], _ => rfl
  | (a, v) :: vs, e :: ks, h => by
    obtain ⟨h1, h2, h3⟩ := h
    subst h1
    cases h2
    rw [List.map_cons, ← rpk_ents h3]
  | [], _ :: _, h => h.elim
  | _ :: _, [], h => h.elim
theorem rpa_prs {G : Hp} : ∀ {ps : List (Addr × Str × Int)}, (∀ z ∈ ps, G z.1 = some (.tup [.str z.2.1, .int z.2.2])) → RpA K G (ps.map fun z => V.ref z.1) ((ps.map (·.2)).map DL.prD)
  | [], _ => .nil
  | z :: ps, h => .cons (.tup (.inl (.inl (h z (List.mem_cons_self ..)))) (.cons (.str _) (.cons (.int _) .nil))) (rpa_prs fun y hy => h y (List.mem_cons_of_mem _ hy))
/-- sorted(d.items()) -/
def tSortItems (K : PySem.W.Frag) (te : TE) : TE := tCB KS.rSortK (tCons (tBM0 K "dict" KS.rItemsK te) tNil)
theorem ev_sortItems (h : Ev K W te δ w (fun x w1 => ∃ (l : Addr) (ks : List (Str × Int)), x = .ptr l ∧ w1 l = some (.dK (ks.map entD)) ∧ ks.length < 64 ∧ ∀ ys : List (Str × Int), ys.Perm ks → (ks.map (·.1)).Nodup → ys.Pairwise (fun e f => ¬ f.1.cps.toList < e.1.cps.toList) → P (.lst (ys.map DL.prD)) w1) Z) :
    Ev K W (tSortItems K te) δ w P Z :=
  fun σ H s Q q z => h σ H s _ (fun v H1 d w1 e1 c1 r1 ⟨l, ks, ex, hw, few, hp⟩ => by
    subst ex
    cases r1
    obtain ⟨vs, g1, g2⟩ := c1 l _ hw
    rw [rpk_ents g2] at g1
    refine ⟨?_, l, _, rfl, rfl, g1, fun p np => ⟨p, l, ks, rfl, upd_same, ?_, few, fun H' m ps grow perm nod ord nm nt hm ht => ?_⟩⟩
    · exact .inr (.inr (.inl ⟨rfl, .inl ⟨_, g1⟩⟩))
    · rw [upd_ne (ne_of_none g1 np)]; exact g1
    · have big : Ex H1 H' := fun b o e => grow b o (by rw [upd_ne (ne_of_none e np)]; exact e)
      obtain ⟨c2, e2⟩ := Cells.grow c1 big
      have nmH : H1 m = none := by
        cases e : H1 m with
        | none => rfl
        | some o =>
          have : upd H1 p (L2.DX.itemsO p l) m = some o := by rw [upd_ne (ne_of_none e np)]; exact e
          rw [nm] at this; cases this
      have off : ∀ {b : Addr}, upd H1 p (L2.DX.itemsO p l) b = none → H1 b = none := fun {b} e => by
        cases e2 : H1 b with
        | none => rfl
        | some o =>
          have : upd H1 p (L2.DX.itemsO p l) b = some o := by rw [upd_ne (ne_of_none e2 np)]; exact e2
          rw [e] at this; cases this
      have tups : ∀ z ∈ ps, msk w1 H' z.1 = some (.tup [.str z.2.1, .int z.2.2]) := fun z hz => msk_of (c1.free (off (nt z hz))) (ht z hz)
      exact q _ H' _ w1 (e1.trans e2) c2 (.lst (msk_of (c1.free nmH) hm) (rpa_prs tups)) (hp _ perm nod ord)) z
def rLenK : List V → Hp → VK → Prop := fun xs H Q => ∃ (a : Addr) (kvs : List (Key × V)), xs = [.ref a] ∧ H a = some (.dK kvs) ∧ Q (.int kvs.length) H
theorem cr_lenK {X : Cx} : CallR X (.builtin "len") rLenK := by
  intro pins s σ H xs us Q I r h
  obtain ⟨a, kvs, rfl, ha, q⟩ := h
  obtain rfl := Vals.ref1 r
  exact d_len I (.inl ha) fun t s' I' => ⟨.int kvs.length, H, I', ⟨t, rfl⟩, q⟩
theorem ol_lenD {l : Addr} {kvs : List (Key × D)} (hl : w l = some (.dK kvs)) (k : P (.int kvs.length) w) : OpL K rLenK [.ptr l] w P := by
  intro vs H h1 c Q q
  cases h1 with
  | cons r t =>
    cases t; cases r
    obtain ⟨ks, g1, g2⟩ := c l _ hl
    refine ⟨l, ks, rfl, g1, ?_⟩
    rw [rpk_len g2]
    exact q _ H _ w (Ex.refl _) c (.int _) k
end
section
variable {X : Cx} {K : PySem.W.Frag} {o e f i value : Expr} {to td ty tv tx : TE} {p pos pos' apos cpos : Pos}
theorem q_sortItems (hK : X.K = K) (hc : X.calm = true) (m : X.mg "sorted" = none) (hg : Gl X "sorted") (ho : PE X o to) (hbase : attributeBase o "items" X.env (eval o X.env) = eval o X.env := by rfl) (hline : (apos.endLine == cpos.line) = true := by rfl)
    (he : starEach (.Call (.Attribute o "items" apos) [] [] cpos :: []) X.env = (false, eval (.Call (.Attribute o "items" apos) [] [] cpos) X.env) :: starEach [] X.env := by rfl) (hpl : (backTo pos (starEach [] X.env)).any (·.1) = false := by rfl) :
    PE X (.Call (.Name "sorted" p) [.Call (.Attribute o "items" apos) [] [] cpos] [] pos) (tSortItems K to) := by
  subst hK
  exact pe_callB (KS.cr_sortK hc) hg m (by decide +kernel) (pa_cons (pe_bm0 PySem.F.plainAttrs_dict PySem.F.slot_dict_items PySem.F.type_dict_items KS.mt_itemsK ho hbase hline) pa_nil) (he := he) (hpl := hpl)
theorem q_lenD {es : List Expr} {t : TA} (m : X.mg "len" = none) (hg : Gl X "len") (ha : PA X (e :: es) t) (he : starEach (e :: es) X.env = (false, eval e X.env) :: starEach es X.env := by rfl) (hpl : (backTo pos (starEach es X.env)).any (·.1) = false := by rfl) :
    PE X (.Call (.Name "len" p) (e :: es) [] pos) (tCB rLenK t) := pe_callB cr_lenK hg m (by decide +kernel) ha (he := he) (hpl := hpl)
theorem q_dget2 (hu : X.A.units + 64 < cLine) (ho : PE X o td) (he : PE X e ty) (hf : PE X f tx) (m : M2 X o "get" apos e f cpos) : PE X (.Call (.Attribute o "get" apos) [e, f] [] cpos) (tDGet2 td ty tx) := pe_dget2 (by omega) ho he hf m
theorem q_dput (hu : X.A.units + 64 < cLine) (ho : PE X o td) (hi : PE X i ty) (hv : PE X value tv) (hs : swapsWith value (some (.Subscript o i pos')) pos.line X.env = pure false) : PS X (.Assign [.Subscript o i pos'] value pos) (sDPut td ty tv) := ps_dput (by omega) ho hi hv hs
end
end DL
set_option Elab.async false
set_option linter.all false
set_option autoImplicit false
set_option maxRecDepth 100000
set_option maxHeartbeats 4000000
/-! DL15: sorted(d); t[::-1] of a tuple. -/
namespace DL
open PySem PySem.Spec PyProof.Rows L2
section
variable {K : PySem.W.Frag} {W : XK} {δ : Dlt} {w : Wl} {P : PD} {Z : ZD} {te : TE} {ta : TA}
def rSortDK : List V → Hp → VK → Prop := fun xs H Q => ∃ (a : Addr) (kvs : List (Key × V)) (ks : List Str), xs = [.ref a] ∧ Rd H a (.dK kvs) ∧ kvs.map (·.1) = ks.map Sum.inr ∧ ks.length < 64 ∧
    ∀ ys p, ys.Perm ks → sortedS ys = true → H p = none → Q (.ref p) (upd H p (.lst (ys.map V.str)))
end
section
variable {X : Cx} {K : PySem.W.Frag} {e : Expr} {es : List Expr} {t : TA} {p pos : Pos}
end
end DL
namespace TR
open PySem PySem.W PySem.Calls PyProof.Rows PyProof.V PySem.Spec HT
section
variable {prog : Program} {w : World} {A : Around} {E : Value → Shared → Prop} {s : Shared}
end
end TR
namespace DL
open PySem PySem.Spec PyProof.Rows L2
/-- t[::-1] of a tuple: a new one -/
def tRevT (K : PySem.W.Frag) (te : TE) : TE := fun σ H Q => te σ H fun x H1 => ∃ a xs, x = .ref a ∧ SqT K H1 a xs ∧ ∀ p, H1 p = none → Q (.ref p) (upd H1 p (.tup xs.reverse))
section
variable {K : PySem.W.Frag} {W : XK} {δ : Dlt} {w : Wl} {P : PD} {Z : ZD} {te : TE}
end
section
variable {K : PySem.W.Frag} {w : Wl} {P : PD} {x y : D} {p : Addr}
theorem isI {C : Int → Int → Prop} {f : Int → Int → V} (h : Op2 K (rI C f) x y w P) : Op2 K (rI C f) x y w P := h
theorem isIxLo (h : Op2 K (rIxL K) (.ptr p) y w P) : Op2 K (rIxL K) (.ptr p) y w P := h
theorem isTupO (h : OpL K (rTupOf K) [.ptr p] w P) : OpL K (rTupOf K) [.ptr p] w P := h
theorem isLenD (h : OpL K rLenK [.ptr p] w P) : OpL K rLenK [.ptr p] w P := h
theorem isIxT {ds : List D} (h : Op2 K (rIxT K) (.tup ds) y w P) : Op2 K (rIxT K) (.tup ds) y w P := h
theorem isIxL {ds : List D} (h : Op2 K (rIxL K) (.lst ds) y w P) : Op2 K (rIxL K) (.lst ds) y w P := h
end
end DL
set_option Elab.async false
set_option linter.all false
set_option autoImplicit false
set_option maxRecDepth 100000
set_option maxHeartbeats 4000000
/-! DL16: instances of own classes: made, their fields, their methods; sorted(.., reverse=True). -/
namespace DL
open PySem PySem.Spec PyProof.Rows L2

/-! ### fields on data -/
def putFD (f : Str) (d : D) : List (Str × D) → List (Str × D)
  | [] => [(f, d)]
  | (g, x) :: r => if g = f then (g, d) :: r else (g, x) :: putFD f d r
section
variable {K : PySem.W.Frag} {G : Hp}
theorem RpF.look {f : Str} {d : D} : ∀ {fs : List (Str × V)} {ds : List (Str × D)}, RpF K G fs ds → ds.lookup f = some d → ∃ v, fs.lookup f = some v ∧ Rp K G v d
  | _, _, .nil, e => by cases e
  | _, _, .cons n q t, e => by
    simp only [List.lookup] at e ⊢
    cases h : (f == n) with
    | true => rw [h] at e; cases e; exact ⟨_, rfl, q⟩
    | false => rw [h] at e; exact RpF.look t e
theorem RpF.length : ∀ {fs : List (Str × V)} {ds : List (Str × D)}, RpF K G fs ds → fs.length = ds.length
  | _, _, .nil => rfl
  | _, _, .cons _ _ t => by simp [RpF.length t]
end
section
variable {K : PySem.W.Frag} {W : XK} {δ : Dlt} {w : Wl} {P : PD} {Z : ZD} {ta tb te tv : TE} {f : Str}
end

/-! ### a method, a class, by its promise -/
structure Mt0 (P : Program) (wo : World) (K : PySem.W.Frag) (mg : Str → Option Value) (base : Heap) (CX : CXT) (k : Nat) (C : Addr) (m : Str) (ps : List Str) (sp : Sp) (f : Addr) (fd : FuncData) : Prop where
  gn : Gn P wo K mg base CX k f fd ps sp
  me : Meth K C m f
  bd : Binds K fd ps []
  un : ∀ {oc : Value} {od : Option Addr} {fd2 : FuncData} {osl : Array (Option Value)}, K.lookup f = some ⟨oc, od, .func fd2, osl⟩ → fd = fd2
def Mt (P : Program) (wo : World) (K : PySem.W.Frag) (mg : Str → Option Value) (base : Heap) (CX : CXT) (k : Nat) (C : Addr) (m : Str) (ps : List Str) (sp : Sp) : Prop := ∃ f fd, Mt0 P wo K mg base CX k C m ps sp f fd
/-- where a method's def stands -/
structure MD0 (K : PySem.W.Frag) (C : Addr) (m qual : Str) (st : Stmt) (f : Addr) (fd : FuncData) : Prop where
  ex : ∃ (oc : Value) (od : Option Addr) (kV doc pm : Value) (an : Option Addr) (cdv ct : Value) (osl : Array (Option Value)),
    fd = PySem.W.fnOf m qual (defArgs st) (defBody st) (defScope st) .none kV doc pm an cdv ct ∧ K.lookup f = some ⟨oc, od, .func fd, osl⟩ ∧ PySem.W.codeIn K cdv qual = true
  me : Meth K C m f
def MD (K : PySem.W.Frag) (C : Addr) (m qual : Str) (st : Stmt) : Prop := ∃ f fd, MD0 K C m qual st f fd
abbrev BindPM (name qual : Str) (st : Stmt) (ps : List Str) : Prop := ∀ (kV doc pm : Value) (an : Option Addr) (cdv ct : Value) (us : List Value), us.length = ps.length → bindArgs (PySem.W.fnOf name qual (defArgs st) (defBody st) (defScope st) .none kV doc pm an cdv ct) ⟨us, []⟩ = pure (ps.zip us)
abbrev BindKM (name qual : Str) (st : Stmt) (ps ks : List Str) : Prop := ∀ (kV doc pm : Value) (an : Option Addr) (cdv ct : Value) (us ws : List Value), (us ++ ws).length = ps.length → us.length = 1 →
  bindArgs (PySem.W.fnOf name qual (defArgs st) (defBody st) (defScope st) .none kV doc pm an cdv ct) ⟨us, ks.zip ws⟩ = pure (ps.zip (us ++ ws))
section
variable {P : Program} {wo : World} {K : PySem.W.Frag} {mg : Str → Option Value} {base : Heap} {pre : List D → Wl → Prop} {post : List D → Wl → D → Wl → Prop}
end
/-- what of a class the makers ask: here __init__ is the method of that name -/
structure CMk (K : PySem.W.Frag) (C : Addr) : Prop where
  makes : PySem.W.makesIn K C = true
  kp : PySem.W.keepIn K (.ref C) = true
/-- o.m(k = e, ..) -/
def tMethK (C : Addr) (m : Str) (sp : Sp) (E : XK) (ta : TE) (tk : TA) : TE := fun σ H Q => ta σ H fun x H1 => ∃ a dx fs, x = .ref a ∧ H1 a = some (.ins C dx fs) ∧ fs.lookup m = none ∧ tk σ H1 fun vs H2 => sp (x :: vs) H2 Q E
section
variable {X : Cx} {CX : CXT} {k : Nat} {C : Addr} {x m : Str} {ps ks : List Str} {sp : Sp} {E : XK} {p pos apos : Pos} {e o : Expr} {es : List Expr} {kws : List Keyword} {ta : TE} {t tk : TA}
end
section
variable {K : PySem.W.Frag} {W : XK} {δ : Dlt} {w : Wl} {P : PD} {Z : ZD} {ta te : TE} {m : Str} {C : Addr}
end
/-! ### sorted(xs, reverse=True) of ints -/
section
variable {K : PySem.W.Frag} {W : XK} {δ : Dlt} {w : Wl} {P : PD} {Z : ZD}
end
section
variable {X : Cx} {K : PySem.W.Frag} {e : Expr} {ta : TE} {f : Str} {pos : Pos}
end
end DL
set_option Elab.async false
set_option linter.all false
set_option autoImplicit false
set_option maxRecDepth 100000
set_option maxHeartbeats 4000000
/-! EF: handled exceptions, on data; the program's error classes by number; list.count, list.index, split on data. -/
namespace EX
open PySem PySem.Spec PyProof.Rows L2 DL
/-! ### the program's error classes: 0 to 19 with a word, 20 to 22 their bases -/
def erN : List Str := ["InvalidCapacity", "InvalidName", "InvalidTimes", "InvalidCounts", "InvalidSummary", "InvalidOrder", "InvalidPlan", "InvalidText", "InvalidSize", "InvalidNumber", "InvalidSlots", "InvalidIndex", "InvalidAction", "InvalidLine", "NotASummary", "CapacitiesDiffer", "Busy", "NothingToUndo", "TooManyNames", "TooManyActions", "TallyError", "StateError", "SizeError"]
def erW : List Str := ["capacity", "name", "times", "counts", "summary", "order", "plan", "text", "size", "number", "slots", "index", "action", "line", "notsummary", "differ", "busy", "undo", "names", "actions"]
def erF : List (Option Str) := [some "capacity", some "name", some "times", some "index", some "index", some "index", some "index", some "text", some "size", some "number", some "slots", some "index", some "index", some "line", some "value", some "capacity", none, none, some "found", some "found"]
/-- the fields' names -/
def erA : List Str := ["index", "value", "capacity", "found", "name", "times", "text", "number", "slots", "size", "line"]
def erSub (i j : Nat) : Bool := i == j || (j == 20 && decide (i < 15)) || (j == 21 && (decide (14 < i) && decide (i < 18))) || (j == 22 && decide (17 < i))
/-- where the classes stand -/
def ErG (mg : Str → Option Value) (ec : Nat → Addr) : Prop := ∀ (i : Nat) (n : Str), erN[i]? = some n → mg n = some (.ref (ec i))
/-- what the written part says of the i-th one -/
structure ErK (K : PySem.W.Frag) (ec : Nat → Addr) (i : Nat) : Prop where
  lt : i < 20
  ex : L2.ExcC K (ec i)
  xf : XfC K (ec i)
  no : ∀ n ∈ erA, PySem.W.findIn K (.ref (ec i)) n = some none
  kit : ∀ j, j < 23 → PySem.W.kitOne K (.ref (ec i)) (.ref (ec j)) = some (erSub i j)
  kv : PySem.W.kitOne K (.ref (ec i)) (.type "ValueError") = some (decide (i < 15))
  kl : PySem.W.kitOne K (.ref (ec i)) (.type "LookupError") = some (decide (14 < i) && decide (i < 18))
  ka : PySem.W.kitOne K (.ref (ec i)) (.type "ArithmeticError") = some (decide (17 < i))
  em : PySem.W.exmAny K (.ref (ec i)) [.ref (ec 20), .ref (ec 21), .ref (ec 22)] = some true
section
variable {X : Cx} {p : Pos} {mg : Str → Option Value} {ec : Nat → Addr}
theorem k_er (G : ErG X.mg ec) {n : Str} (i : Nat) (hi : erN[i]? = some n) (hg : Gl X n) (hd : (n == ("__debug__" : Str)) = false := by decide) : PE X (.Name n p) (tC (.ref (ec i))) := pe_glob hg (G i n hi) rfl hd
theorem c_VE (m : X.mg "ValueError" = none) (hg : Gl X "ValueError") : PE X (.Name "ValueError" p) (tC (.ty "ValueError")) := pe_bltn hg m (by rfl) rfl
theorem c_LE (m : X.mg "LookupError" = none) (hg : Gl X "LookupError") : PE X (.Name "LookupError" p) (tC (.ty "LookupError")) := pe_bltn hg m (by rfl) rfl
theorem c_AE (m : X.mg "ArithmeticError" = none) (hg : Gl X "ArithmeticError") : PE X (.Name "ArithmeticError" p) (tC (.ty "ArithmeticError")) := pe_bltn hg m (by rfl) rfl
theorem q_isH {a : Addr} {oe : Obj} {C : Addr} {d : Option Addr} {K : PySem.W.Frag} {e : Expr} {es : List Expr} {t : TA} {pos : Pos} (h : Has X a oe C d) (c : L2.ExcC X.K C) (hK : X.K = K) (m : X.mg "isinstance" = none) (hg : Gl X "isinstance") (ha : PA X (e :: es) t)
    (he : starEach (e :: es) X.env = (false, eval e X.env) :: starEach es X.env := by rfl) (hpl : (backTo pos (starEach es X.env)).any (·.1) = false := by rfl) : PE X (.Call (.Name "isinstance" p) (e :: es) [] pos) (tCB (rIsH K a C d) t) := by
  subst hK
  exact pe_callB (call_isH h c) hg m boot_isinstance ha (by decide) (by decide) he hpl
end
/-! ### on data -/
def DictW (w : Wl) (d : Option Addr) : Prop := ∀ dd, d = some dd → ∃ gs fs, w dd = some (.xd gs fs)
section
variable {K : PySem.W.Frag} {W : XK} {δ : Dlt} {w : Wl} {P : PD} {Z : ZD} {te : TE} {a C : Addr} {d : Option Addr}
theorem DictW.at {H : Hp} (k : DictW w d) (c : Cells K w H) : Dict H d := fun dd e => by
  obtain ⟨gs, fs, h⟩ := k dd e
  exact ⟨gs, (c dd _ h).1⟩
theorem ol_isH {j : Addr} {b : Bool} (k : DictW w d) (e : PySem.W.kitOne K (.ref C) (.ref j) = some b) (q : P (.bl b) w) : OpL K (rIsH K a C d) [.ptr a, .ptr j] w P := by
  intro vs H h1 c Q z
  cases h1 with
  | cons h t => cases t with
    | cons h' t' =>
      cases t'; cases h; cases h'
      exact ⟨k.at c, .inl ⟨_, _, b, rfl, .own j, e, z _ H _ w (Ex.refl _) c (.bl b) q⟩⟩
theorem ol_isHb {n : String} {b : Bool} (k : DictW w d) (e : PySem.W.kitOne K (.ref C) (.type n) = some b) (q : P (.bl b) w) : OpL K (rIsH K a C d) [.ptr a, .ty n] w P := by
  intro vs H h1 c Q z
  cases h1 with
  | cons h t => cases t with
    | cons h' t' =>
      cases t'; cases h; cases h'
      exact ⟨k.at c, .inl ⟨_, _, b, rfl, .ty n, e, z _ H _ w (Ex.refl _) c (.bl b) q⟩⟩
theorem rpa_ptrs {G : Hp} : ∀ {js : List Addr} {vs : List V}, RpA K G vs (js.map D.ptr) → vs = js.map V.ref
  | [], _, h => by cases h; rfl
  | j :: js, _, h => by
    cases h with
    | cons r t => cases r; rw [rpa_ptrs t]; rfl
theorem clsv_own : ∀ js : List Addr, Paired ClsV (js.map V.ref) (js.map Value.ref)
  | [] => .nil
  | j :: js => .cons (.own j) (clsv_own js)
theorem kitAny_or {t : Value} {f : Addr → Bool} : ∀ {js : List Addr}, (∀ j ∈ js, PySem.W.kitOne K t (.ref j) = some (f j)) → PySem.W.kitAny K t (js.map Value.ref) = some (js.any f)
  | [], _ => rfl
  | j :: js, h => by
    have h1 := h j (List.mem_cons_self ..)
    have ih := kitAny_or (js := js) fun x hx => h x (List.mem_cons_of_mem _ hx)
    show PySem.W.kitAny K t (.ref j :: js.map Value.ref) = _
    unfold PySem.W.kitAny
    rw [h1, List.any_cons]
    cases f j with
    | true => simp
    | false => simpa using ih
theorem ol_isHT {js : List Addr} {f : Addr → Bool} (k : DictW w d) (e : ∀ j ∈ js, PySem.W.kitOne K (.ref C) (.ref j) = some (f j)) (q : P (.bl (js.any f)) w) : OpL K (rIsH K a C d) [.ptr a, .tup (js.map D.ptr)] w P := by
  intro vs H h1 c Q z
  cases h1 with
  | cons h t => cases t with
    | cons h' t' =>
      cases t'; cases h
      cases h' with
      | tup ht hr =>
        have e2 := rpa_ptrs hr
        subst e2
        exact ⟨k.at c, .inr ⟨_, _, _, _, rfl, ex_t Ex.msk ht, clsv_own js, kitAny_or e, z _ H _ w (Ex.refl _) c (.bl _) q⟩⟩
end
end EX
set_option Elab.async false
set_option linter.all false
set_option autoImplicit false
set_option maxRecDepth 100000
set_option maxHeartbeats 4000000
/-! EG: list.count, list.index, str.split on data; defs called while an exception is handled, on data. -/
namespace EX
open PySem PySem.Spec PyProof.Rows L2 DL
section
variable {X : Cx}
/-- how often an equal one stands in the list -/
def rCountD (K : PySem.W.Frag) : V → List V → Hp → VK → Prop := fun x xs H Q => ∃ (l : Addr) (y : V) (d : PyData) (ds : List PyData), x = V.ref l ∧ xs = [y] ∧ Dp K H (V.ref l) (.list ds) ∧ Dp K H y d ∧ SeqAt.shaped (.list ds) = true ∧ SeqAt.shaped d = true ∧
  Q (.int (ds.countP (fun z => PyData.eqv z d) : Nat)) H
theorem mt_countD (hu : X.A.units + 65 < cLine) : MtR X "list.count" (rCountD X.K) := by
  intro pins s σ H x xs v us Q I rx rxs h
  obtain ⟨l, y, d, ds, rfl, rfl, hl, hy, shl, shd, q⟩ := h
  cases rx
  obtain ⟨uy, rfl, ry⟩ := rxs.one
  obtain ⟨bs, readY⟩ := Dp.reads I d y uy hy ry
  have lay := SeqAt.canLay_of_shaped shl
  have layD := SeqAt.canLay_of_shaped shd
  have room : X.A.units + 1 + min (PyData.depthAll ds) d.depth < cLine := room_in_shaped shd hu
  cases hl with
  | lst seq all =>
    obtain ⟨its, rv, ⟨⟨cl, dd, dt, sl⟩, n, ho, hc, hdn, hdt⟩, _⟩ := I.list seq
    simp only at hc hdt
    subst hc hdt
    obtain ⟨as, reads⟩ := Dp.readsAll I ds _ its all rv
    have same : its.map (SeqAt.readOf s.heap) = ds := SeqAt.readsAll_map ds its as lay reads
    refine call_meets PySem.F.slot_list_count ⟨_, ho, rfl⟩ PySem.F.entry_list_count (PySem.F.args_list_count_2 _ _)
      (SeqAt.list_countAt l its.toArray n dd sl uy fun u => PyData.eqv (SeqAt.readOf s.heap u) d) ⟨ho, SeqAt.items_eqAt (vs := its.toArray) (show ReadsAll s.heap its.toArray.toList ds as from reads) readY lay layD room, ?_⟩
    have cnt : its.toArray.toList.countP (fun u => PyData.eqv (SeqAt.readOf s.heap u) d) = ds.countP (fun z => PyData.eqv z d) := by
      rw [← same, List.countP_map]
      rfl
    refine ⟨.int (ds.countP (fun z => PyData.eqv z d) : Nat), H, I.tok _, ⟨s.toks, ?_⟩, q⟩
    rw [← cnt]
end
section
variable {K : PySem.W.Frag} {w : Wl} {P : PD}
theorem bools_py : ∀ bs : List Bool, isPyA (bs.map D.bl) = true
  | [] => rfl
  | b :: bs => by
    have := bools_py bs
    simpa [isPyA, isPy] using this
theorem pyA_bools : ∀ bs : List Bool, pyA (bs.map D.bl) = bs.map PyData.bool
  | [] => rfl
  | b :: bs => by
    have := pyA_bools bs
    simp [pyA, py, this]
theorem bools_shaped (bs : List Bool) : SeqAt.shaped (.list (bs.map PyData.bool)) = true := by
  have h1 : ∀ bs : List Bool, PyData.canLayAll0 (bs.map PyData.bool) = true := fun bs => by
    induction bs with
    | nil => rfl
    | cons b r ih => simpa [PyData.canLayAll0, PyData.canLay0] using ih
  have h2 : ∀ bs : List Bool, PyData.depthAll (bs.map PyData.bool) = 0 := fun bs => by
    induction bs with
    | nil => rfl
    | cons b r ih => simpa [PyData.depthAll, PyData.depth] using ih
  unfold SeqAt.shaped
  simp [PyData.canLay0, PyData.depth, h1, h2]
theorem om_countB {bs : List Bool} {b : Bool} (k : P (.int (bs.count b : Nat)) w) : OpM K (rCountD K) (.lst (bs.map D.bl)) [.bl b] w P := by
  intro v vs H h1 h2 c Q q
  cases h2 with
  | cons h t =>
    cases t
    have e1 : Dp K H v (py (.lst (bs.map D.bl))) := Dp.mono' Ex.msk h1 (by simp only [isPy]; exact bools_py bs)
    have e2 : py (.lst (bs.map D.bl)) = .list (bs.map PyData.bool) := by simp only [py]; rw [pyA_bools]
    rw [e2] at e1
    cases h
    cases h1 with
    | lst ht hr =>
      refine ⟨_, _, .bool b, bs.map PyData.bool, rfl, rfl, e1, .bl b, bools_shaped bs, rfl, ?_⟩
      have e3 : (bs.map PyData.bool).countP (fun z => PyData.eqv z (.bool b)) = bs.count b := by
        rw [List.countP_map, List.count]
        refine List.countP_congr fun z _ => ?_
        show PyData.eqv (.bool z) (.bool b) = true ↔ _
        cases z <;> cases b <;> decide
      rw [e3]
      exact q _ H _ w (Ex.refl _) c (.int _) k
theorem om_indexB {bs : List Bool} {b : Bool} {j : Nat} (hj : bs[j]? = some b) (hn : ∀ m, m < j → bs[m]? ≠ some b) (k : P (.int (j : Nat)) w) : OpM K (rIndexD K) (.lst (bs.map D.bl)) [.bl b] w P := by
  intro v vs H h1 h2 c Q q
  cases h2 with
  | cons h t =>
    cases t
    have e1 : Dp K H v (py (.lst (bs.map D.bl))) := Dp.mono' Ex.msk h1 (by simp only [isPy]; exact bools_py bs)
    have e2 : py (.lst (bs.map D.bl)) = .list (bs.map PyData.bool) := by simp only [py]; rw [pyA_bools]
    rw [e2] at e1
    cases h
    cases h1 with
    | lst ht hr =>
      refine ⟨_, _, .bool b, bs.map PyData.bool, j, .bool b, rfl, rfl, e1, .bl b, bools_shaped bs, rfl, by rw [List.getElem?_map, hj]; rfl, by cases b <;> decide, fun m z hm hz => ?_, q _ H _ w (Ex.refl _) c (.int _) k⟩
      rw [List.getElem?_map] at hz
      obtain ⟨x, hx, rfl⟩ := Option.map_eq_some_iff.mp hz
      have ne : x ≠ b := fun e => hn m hm (by rw [hx, e])
      cases x <;> cases b <;> first | decide | exact absurd rfl ne
def rSplitS : V → List V → Hp → VK → Prop := fun x xs H Q => ∃ a b, x = .str a ∧ xs = [.str b] ∧ (b.length == 0) = false ∧ a.length + 2 ≤ sizeLine ∧ rNewStrs (Txt.split a b) H Q
theorem om_split {a b : Str} {ys : List Str} (hb : (b.length == 0) = false) (hz : a.length + 2 ≤ sizeLine) (hy : Txt.split a b = ys) (k : P (.lst (ys.map D.str)) w) : OpM K rSplitS (.str a) [.str b] w P := by
  intro v vs H h1 h2 c Q q
  cases h1
  cases h2 with
  | cons h t =>
    cases t; cases h
    refine ⟨a, b, rfl, rfl, hb, hz, fun p hp => ?_⟩
    rw [hy]
    exact kq_lst q c (rpa_ofstrs ys) k hp
end
/-! ### a def of the handled exception, on data -/
def spE (K : PySem.W.Frag) (pre : Addr → Addr → Option Addr → List D → Wl → Prop) (post : Addr → Addr → Option Addr → List D → Wl → D → Wl → Prop) : SpE := fun a C d vs H Q _ =>
  ∃ ds w, RpA K (msk w H) vs ds ∧ Cells K w H ∧ pre a C d ds w ∧ Kq K w H (post a C d ds w) Q
structure FkE0 (P : Program) (wo : World) (K : PySem.W.Frag) (mg : Str → Option Value) (base : Heap) (k : Nat) (name : Str) (st : Stmt) (ps : List Str) (sp : SpE) (f : Addr) (fd : FuncData) : Prop where
  fe : FnE P wo K mg base k f fd ps sp
  fn : Fun K name name st f fd
  nm : mg name = some (.ref f)
  bd : L2.Binds K fd ps []
def FkE (P : Program) (wo : World) (K : PySem.W.Frag) (mg : Str → Option Value) (base : Heap) (k : Nat) (name : Str) (st : Stmt) (ps : List Str) (sp : SpE) : Prop := ∃ f fd, FkE0 P wo K mg base k name st ps sp f fd
section
variable {P : Program} {wo : World} {K : PySem.W.Frag} {mg : Str → Option Value} {base : Heap} {pre : Addr → Addr → Option Addr → List D → Wl → Prop} {post : Addr → Addr → Option Addr → List D → Wl → D → Wl → Prop}
theorem fkE_ok {name : Str} {st : Stmt} {N ps : List Str} {k : Nat} (d : Dn K mg name st) (S : FnScope N ps (defScope st)) (hb : BindP name st ps) (hlen : ∀ a C d ds w, pre a C d ds w → ds.length = ps.length)
    (body : ∀ (f : Addr) (cdv : Value) (A : Around) (fr : List Env) (s : Shared) (H : Hp) (E : XK) (a : Addr) (oe : Obj) (C : Addr) (d : Option Addr), Has (L2H.cxH CX0 P wo K mg base N name (defScope st) f cdv A fr s H E (a, oe)) a oe C d → L2H.RoomH k (A.deeper (envOfC name (defScope st) s.heap.objs.size f cdv)) → (∃ ds w, pre a C d ds w) →
      ∃ t, PSs (L2H.cxH CX0 P wo K mg base N name (defScope st) f cdv A fr s H E (a, oe)) (defBody st) t ∧ ∀ ds w, pre a C d ds w → Sd K E0 t (startD N ds) w (endD (post a C d) zN ds w)) : FkE P wo K mg base (k + 1) name st ps (spE K pre post) := by
  obtain ⟨f, fd, F, m⟩ := d
  refine ⟨f, fd, ⟨fnE_of F S (fun a C d vs H Q E ⟨ds, w, r, _, p, _⟩ => by rw [r.length]; exact hlen a C d ds w p) fun cdv A fr s H vs Q E a oe C d hot hr h => ?_, F, m, F.binds hb⟩⟩
  obtain ⟨ds, w, r, c, p, q⟩ := h
  obtain ⟨t, ht, hs⟩ := body f cdv A fr s H E a oe C d ⟨⟨hot.hot, hot.cls, hot.dct, hot.fld⟩, List.mem_cons_self ..⟩ hr ⟨ds, w, p⟩
  exact ⟨t, ht, hs ds w p _ H (sat_start r c) _ (ke_of q kz_none)⟩
end
section
variable {X : Cx} {a : Addr} {oe : Obj} {C : Addr} {d : Option Addr} {k : Nat} {x : Str} {st : Stmt} {ps : List Str} {sp : SpE} {e : Expr} {es : List Expr} {t : TA} {p pos : Pos}
theorem pe_fE (F : FkE X.prog X.w X.K X.mg X.base k x st ps sp) (h : Has X a oe C d) (hr : L2H.RoomH k X.A) (hg : Gl X x) (ha : PA X (e :: es) t) (hdb : (x == ("__debug__" : Str)) = false := by decide)
    (he : starEach (e :: es) X.env = (false, eval e X.env) :: starEach es X.env := by rfl) (hpl : (backTo pos (starEach es X.env)).any (·.1) = false := by rfl) : PE X (.Call (.Name x p) (e :: es) [] pos) (tCallE a C d sp t) := by
  obtain ⟨f, fd, F⟩ := F
  exact pe_callE F.fe F.fn F.bd F.nm h hr hg ha hdb he hpl
end
section
variable {K : PySem.W.Frag} {W : XK} {δ : Dlt} {w : Wl} {P : PD} {Z : ZD} {t : TA} {a C : Addr} {d : Option Addr} {pre : Addr → Addr → Option Addr → List D → Wl → Prop} {post : Addr → Addr → Option Addr → List D → Wl → D → Wl → Prop}
theorem ev_callE (h : EvA K W t δ w (fun ds w1 => pre a C d ds w1 ∧ ∀ x w2, post a C d ds w1 x w2 → P x w2) Z) : Ev K W (tCallE a C d (spE K pre post) t) δ w P Z :=
  fun σ H s Q q z => h σ H s _ (fun vs H1 ds w1 e1 c1 r1 ⟨h1, h2⟩ => ⟨ds, w1, r1, c1, h1, fun v H2 x w2 e2 c2 r2 p2 => q v H2 x w2 (e1.trans e2) c2 r2 (h2 x w2 p2)⟩) z
end
theorem _root_.L2H.RoomH.units {k : Nat} {A : Around} (r : L2H.RoomH k A) : A.units + 64 < cLine := by have := r.un; omega
theorem _root_.L2H.RoomH.units65 {k : Nat} {A : Around} (r : L2H.RoomH k A) : A.units + 65 < cLine := by have := r.un; omega
end EX
set_option Elab.async false
set_option linter.all false
set_option autoImplicit false
set_option maxRecDepth 100000
set_option maxHeartbeats 4000000
/-! EH: what a call returns, or the word and the fields of its error: a lambda handed to the law's own def. -/
namespace EX
open PySem PySem.Spec PyProof.Rows L2 DL
/-- the fields of an error of the i-th class -/
def ErFs (i : Nat) (fs : List (Str × D)) : Prop := match erF[i]? with
  | some (some n) => ∃ v, fs = [(n, v)]
  | _ => fs = []
def erT (i : Nat) : Str := erW.getD i Str.empty
/-- what is told of an error -/
def erD (i : Nat) (fs : List (Str × D)) : D := .lst (.str (erT i) :: fs.map (·.2))
def CgE (K : PySem.W.Frag) (ec : Nat → Addr) (R : List Nat) (w : Wl) (H : Hp) (P : PD) : XK := fun cls od H' =>
  ∃ fs w' i, Ex (msk w H) (msk w' H') ∧ Cells K w' H' ∧ XdAt K (msk w' H') H' od fs ∧ i ∈ R ∧ cls = .ref (ec i) ∧ ErFs i fs ∧ P (erD i fs) w'
def CgQ (Q : VK) : VK := fun v H' => ([.str "returned", v] : List V).length ≤ sizeLine ∧ ∀ p, H' p = none → Q (.ref p) (upd H' p (.lst [.str "returned", v]))
def TTc (K : PySem.W.Frag) (ec : Nat → Addr) (R : List Nat) : (XK → Hp → VK → Prop) → Hp → VK → Prop := fun tl H Q =>
  ∃ (w : Wl) (P : PD), Cells K w H ∧ Kq K w H P Q ∧ tl (CgE K ec R w H P) H (CgQ Q)
/-- the wish for an error, on data -/
def CgZ (ec : Nat → Addr) (R : List Nat) (P : PD) : ZD := fun c fs w => ∃ i, i ∈ R ∧ c = .ref (ec i) ∧ ErFs i fs ∧ P (erD i fs) w
section
variable {K : PySem.W.Frag} {W : XK} {δ : Dlt} {w : Wl} {P : PD} {Z : ZD} {ec : Nat → Addr} {R : List Nat}
theorem grows_ok {H H1 : Hp} {T : Addr} {q : Str} (ht : w T = some (.tab q)) (c : Cells K w H) (g : Grows H H1 T q) : Ex (msk w H) (msk w H1) ∧ Cells K w H1 := by
  rcases g with rfl | ⟨ps, cc, hn, rfl, tab⟩
  · exact ⟨Ex.refl _, c⟩
  · have at_ : ∀ b, b ≠ T → ∀ o, H b = some o → upd (upd H T (.tbl ps)) cc (LamX.CodeO cc q) b = some o := fun b hb o e => by
      rw [upd_ne (ne_of_none e hn), upd_ne hb]; exact e
    have ee : Ex (msk w H) (msk w (upd (upd H T (.tbl ps)) cc (LamX.CodeO cc q))) := fun b o e => by
      obtain ⟨h1, h2⟩ := msk_some e
      exact msk_of h1 (at_ b (fun z => by rw [z, ht] at h1; cases h1) o h2)
    refine ⟨ee, fun b x hx => ?_⟩
    by_cases hb : b = T
    · subst hb
      rw [ht] at hx
      cases hx
      obtain ⟨ps2, h1, h2, h3⟩ := tab
      refine ⟨ps2, h1, h2, fun p u hu => ?_⟩
      obtain ⟨c2, e1, e2⟩ := h3 p u hu
      refine ⟨c2, e1, msk_of ?_ e2⟩
      -- a code object is owned by nobody
      cases hw : w c2 with
      | none => rfl
      | some y =>
        exfalso
        by_cases z : c2 = cc
        · have := c.free (a := c2) (by rw [z]; exact hn)
          rw [this] at hw; cases hw
        · by_cases z2 : c2 = b
          · subst z2
            rw [h1] at e2
            exact LamX.codeO_ne _ (Option.some.inj e2).symm
          · rw [upd_ne z, upd_ne z2] at e2
            have k := c c2 y hw
            have isx : ∀ o : HO, H c2 = some o → o = LamX.CodeO c2 q := fun o e => by rw [e2] at e; exact (Option.some.inj e).symm
            have bad : ∀ o : HO, H c2 = some o → (∀ φ, o ≠ .ext φ) → False := fun o e n => by
              have e3 := isx o e
              unfold LamX.CodeO at e3
              exact n _ e3
            cases y with
            | lst ds => obtain ⟨x, k1, _⟩ := k; exact bad _ k1 (fun _ => nofun)
            | dK ds => obtain ⟨x, k1, _⟩ := k; exact bad _ k1 (fun _ => nofun)
            | ins C ds => obtain ⟨x, y, k1, _⟩ := k; exact bad _ k1 (fun _ => nofun)
            | dF o ks kvs => exact bad _ k.1 (fun _ => nofun)
            | scr ns =>
              rcases k with k1 | ⟨o, k1⟩
              · exact bad _ k1 (fun _ => nofun)
              · exact bad _ k1 (fun _ => nofun)
            | tab q2 => obtain ⟨x, k1, _⟩ := k; exact bad _ k1 (fun _ => nofun)
            | xd gs fs => exact bad _ k.1 (fun _ => nofun)
    · exact ClAt.mono ee (c b x hx) fun o => at_ b hb o
theorem ev_lmC {T : Addr} {q : Str} {t : XK → TE} (ht : w T = some (.tab q)) (h : ∀ W', Ev K W' (t W') δ w (fun d w1 => P (.lst [.str "returned", d]) w1) (CgZ ec R P)) : Ev K W (tLm T q (TTc K ec R) t) δ w P Z := by
  intro σ H s Q kq _
  have tab : TabAt H T q := by
    obtain ⟨ps, h1, h2, h3⟩ := s.ce T _ ht
    exact ⟨ps, h1, h2, fun p u hu => let ⟨c, e1, e2⟩ := h3 p u hu; ⟨c, e1, (msk_some e2).2⟩⟩
  refine ⟨tab, fun H1 g => ?_⟩
  obtain ⟨ee, c1⟩ := grows_ok ht s.ce g
  refine ⟨w, P, c1, KqG.next kq ee, ?_⟩
  refine h (CgE K ec R w H1 P) σ H1 (s.next ee c1) (CgQ Q) (fun v H' d w' e' c' r p => ?_) (fun c od H' fs w' e' c' x z => ?_)
  · refine ⟨by show 2 ≤ sizeLine; rw [sizeLine_eq]; omega, fun l hl => ?_⟩
    exact kq_lst (KqG.next kq (ee.trans e')) c' (.cons (.str _) (.cons r .nil)) p hl
  · obtain ⟨i, hi, hc, hf, hp⟩ := z
    exact ⟨fs, w', i, e', c', x, hi, hc, hf, hp⟩
end
end EX
set_option Elab.async false
set_option linter.all false
set_option autoImplicit false
set_option maxRecDepth 100000
set_option maxHeartbeats 4000000
/-! EI: the law's own def that catches errors. -/
namespace EX
open PySem PySem.Spec PyProof.Rows L2 DL
/-- the dict of the handled error -/
def DX (w : Wl) (d : Option Addr) (fs : List (Str × D)) : Prop := match d with
  | none => fs = []
  | some dd => ∃ gs, w dd = some (.xd gs fs)
theorem DX.dict {w : Wl} {d : Option Addr} {fs : List (Str × D)} (h : DX w d fs) : DictW w d := fun dd e => by
  subst e
  obtain ⟨gs, h⟩ := h
  exact ⟨gs, fs, h⟩
theorem DX.same {w : Wl} {d : Option Addr} {fs fs' : List (Str × D)} (h : DX w d fs) (h' : DX w d fs') : fs' = fs := by
  cases d with
  | none => exact (show fs' = [] from h').trans (show fs = [] from h).symm
  | some dd =>
    obtain ⟨gs, h⟩ := h
    obtain ⟨gs', h'⟩ := h'
    rw [h] at h'
    cases h'
    rfl
def preEr (ec : Nat → Addr) (R : List Nat) (a C : Addr) (d : Option Addr) (ds : List D) (w : Wl) : Prop := ds = [.ptr a] ∧ ∃ i fs, i ∈ R ∧ C = ec i ∧ ErFs i fs ∧ DX w d fs
def postKind (ec : Nat → Addr) (R : List Nat) (_ C : Addr) (_ : Option Addr) (_ : List D) (w : Wl) (x : D) (w' : Wl) : Prop := w' = w ∧ ∀ i, i ∈ R → C = ec i → x = .str (erT i)
def postFlds (ec : Nat → Addr) (R : List Nat) (_ C : Addr) (d : Option Addr) (_ : List D) (w : Wl) (x : D) (w' : Wl) : Prop := w' = w ∧ ∀ i fs, i ∈ R → C = ec i → ErFs i fs → DX w d fs → x = .lst (fs.map (·.2))
theorem er_inj {K : PySem.W.Frag} {ec : Nat → Addr} {i j : Nat} (hi : ErK K ec i) (hj : ErK K ec j) (e : ec i = ec j) : i = j := by
  have h1 := hi.kit i (by have := hi.lt; omega)
  have h2 := hj.kit i (by have := hi.lt; omega)
  rw [← e, h1] at h2
  have e2 := Option.some.inj h2
  have l1 := hi.lt
  have t : erSub i i = true := by simp [erSub]
  rw [t] at e2
  have n20 : (i == 20) = false := by simpa using (show i ≠ 20 by omega)
  have n21 : (i == 21) = false := by simpa using (show i ≠ 21 by omega)
  have n22 : (i == 22) = false := by simpa using (show i ≠ 22 by omega)
  unfold erSub at e2
  rw [n20, n21, n22] at e2
  simp only [Bool.false_and, Bool.or_false] at e2
  exact (beq_iff_eq.mp e2.symm).symm
theorem er_count {i : Nat} (h : i < 20) : ((List.range 20).map (erSub i)).count true = 1 := (by decide : ∀ i, i < 20 → ((List.range 20).map (erSub i)).count true = 1) i h
theorem er_at {i : Nat} (h : i < 20) : ((List.range 20).map (erSub i))[i]? = some true := (by decide : ∀ i, i < 20 → ((List.range 20).map (erSub i))[i]? = some true) i h
theorem er_before {i : Nat} (h : i < 20) : ∀ m, m < i → ((List.range 20).map (erSub i))[m]? ≠ some true := (by decide : ∀ i, i < 20 → ∀ m, m < i → ((List.range 20).map (erSub i))[m]? ≠ some true) i h
theorem er_bases {i : Nat} (h : i < 20) : erSub i 20 = decide (i < 15) ∧ erSub i 21 = (decide (14 < i) && decide (i < 18)) ∧ erSub i 22 = decide (17 < i) := (by decide : ∀ i, i < 20 → erSub i 20 = decide (i < 15) ∧ erSub i 21 = (decide (14 < i) && decide (i < 18)) ∧ erSub i 22 = decide (17 < i)) i h
theorem er_split : Txt.split (Str.ofString "capacity name times counts summary order plan text size number slots index action line" ++ Str.ofString " notsummary differ busy undo names actions") (Str.ofString " ") = erW := by decide +kernel
theorem er_get {i : Nat} (h : i < 20) : erW[i]? = some (erT i) := by
  unfold erT
  have : i < erW.length := by show i < 20; exact h
  rw [List.getD_eq_getElem?_getD, List.getElem?_eq_getElem this]
  rfl
theorem bools_eqv : ∀ xs ys : List Bool, PyData.eqvAll (pyA (xs.map D.bl)) (pyA (ys.map D.bl)) = decide (xs = ys)
  | [], [] => rfl
  | [], _ :: _ => rfl
  | _ :: _, [] => rfl
  | x :: xs, y :: ys => by
    have ih := bools_eqv xs ys
    have e : PyData.eqvAll (pyA ((x :: xs).map D.bl)) (pyA ((y :: ys).map D.bl)) = (PyData.eqv (.bool x) (.bool y) && PyData.eqvAll (pyA (xs.map D.bl)) (pyA (ys.map D.bl))) := rfl
    have e2 : PyData.eqv (.bool x) (.bool y) = decide (x = y) := by cases x <;> cases y <;> rfl
    rw [e, e2, ih, Bool.eq_iff_iff]
    simp
theorem ty_lstF {K : PySem.W.Frag} {w : Wl} {ds : List D} : ∀ v H, Rp K (msk w H) v (.lst ds) → Cells K w H → tyV K "list" v H := fun v H h _ => by
  cases h with
  | lst ht hr => exact Or.inl ⟨rfl, _, SqL.of (msk_some ht).2⟩
/-! what is told by data never lies in an exception's dict -/
abbrev ExX (G G' : Hp) : Prop := ∀ a o, G a = some o → (∀ gs, o ≠ .xd gs) → G' a = some o
section
variable {K : PySem.W.Frag} {G G' : Hp}
theorem sqX {a : Addr} {xs : List V} (e : ExX G G') (h : SqT K G a xs) : SqT K G' a xs := by
  rcases h with (h | ⟨o, h⟩) | h
  · exact .inl (.inl (e _ _ h fun _ => nofun))
  · exact .inl (.inr ⟨o, e _ _ h fun _ => nofun⟩)
  · exact .inr h
theorem bareX {a : Addr} (e : ExX G G') (h : Bare K G a) : Bare K G' a := h.imp (fun ⟨o, xs, h1, h2⟩ => ⟨o, xs, e _ _ h1 (fun _ => nofun), h2⟩) id
mutual
theorem rpX (e : ExX G G') : ∀ {v : V} {d : D}, Rp K G v d → Rp K G' v d
  | _, _, .non => .non
  | _, _, .bl b => .bl b
  | _, _, .int b => .int b
  | _, _, .str b => .str b
  | _, _, .byt b => .byt b
  | _, _, .ty b => .ty b
  | _, _, .ptr b => .ptr b
  | _, _, .lst h r => .lst (e _ _ h fun _ => nofun) (rpaX e r)
  | _, _, .tup h r => .tup (sqX e h) (rpaX e r)
  | _, _, .btp b h r => .btp (bareX e b) (sqX e h) (rpaX e r)
  | _, _, .ins h r => .ins (e _ _ h fun _ => nofun) (rpfX e r)
  | _, _, .emp h => .emp (e _ _ h fun _ => nofun)
theorem rpaX (e : ExX G G') : ∀ {v : List V} {d : List D}, RpA K G v d → RpA K G' v d
  | _, _, .nil => .nil
  | _, _, .cons r t => .cons (rpX e r) (rpaX e t)
theorem rpfX (e : ExX G G') : ∀ {v : List (Str × V)} {d : List (Str × D)}, RpF K G v d → RpF K G' v d
  | _, _, .nil => .nil
  | _, _, .cons n r t => .cons n (rpX e r) (rpfX e t)
end
theorem rpkX (e : ExX G G') : ∀ {r : List (Key × V)} {s : List (Key × D)}, RpK K G r s → RpK K G' r s
  | [], [], _ => trivial
  | (_, _) :: _, (_, _) :: _, ⟨a, b, c⟩ => ⟨a, rpX e b, rpkX e c⟩
  | [], _ :: _, h => h.elim
  | _ :: _, [], h => h.elim
theorem clX {H : Hp} {a : Addr} {c : Cl} (e : ExX G G') (h : ClAt K G H a c) : ClAt K G' H a c := by
  cases c with
  | lst ds => obtain ⟨x, h1, h2⟩ := h; exact ⟨x, h1, rpaX e h2⟩
  | dK ds => obtain ⟨x, h1, h2⟩ := h; exact ⟨x, h1, rpkX e h2⟩
  | ins C ds => obtain ⟨x, y, h1, h2⟩ := h; exact ⟨x, y, h1, rpfX e h2⟩
  | dF o ks kvs => exact ⟨h.1, rpkX e h.2⟩
  | tab q =>
    obtain ⟨ps, h1, h2, h3⟩ := h
    refine ⟨ps, h1, h2, fun p u z => ?_⟩
    obtain ⟨c, z1, z2⟩ := h3 p u z
    exact ⟨c, z1, e _ _ z2 fun gs q => by unfold LamX.CodeO at q; cases q⟩
  | xd gs fs => exact ⟨h.1, rpfX e h.2⟩
  | scr ns => exact h
end
/-- the suite's reading -/
def tSuite (ec : Nat → Addr) (K : PySem.W.Frag) (R : List Nat) (a : Addr) (cls : Value) (d : Option Addr) : TS := fun D σ H => ∃ i, i ∈ R ∧ cls = .ref (ec i) ∧
  tRet (tOp rCat (tLst (tCons (tCallE a (ec i) d (spE K (preEr ec R) (postKind ec R)) (tCons (tVar 1) tNil)) tNil)) (tCallE a (ec i) d (spE K (preEr ec R) (postFlds ec R)) (tCons (tVar 1) tNil))) D σ H
section
variable {K : PySem.W.Frag} {ec : Nat → Addr} {R : List Nat} {w : Wl} {a : Addr} {d : Option Addr} {i : Nat} {fs : List (Str × D)}
theorem ev_suite (KS : ∀ i, i ∈ R → ErK K ec i) (hi : i ∈ R) (hf : ErFs i fs) (hx : DX w d fs) :
    Ev K E0 (tOp rCat (tLst (tCons (tCallE a (ec i) d (spE K (preEr ec R) (postKind ec R)) (tCons (tVar 1) tNil)) tNil)) (tCallE a (ec i) d (spE K (preEr ec R) (postFlds ec R)) (tCons (tVar 1) tNil))) [none, some (.ptr a)] w (fun x w' => x = erD i fs ∧ w' = w) z0 := by
  have len : (fs.map (·.2)).length ≤ 1 := by
    unfold ErFs at hf
    split at hf
    · obtain ⟨v, rfl⟩ := hf; simp
    · rw [hf]; simp
  refine ev_op (ev_lst (ea_cons (ev_callE (ea_cons (ev_var (by rfl) (ea_nil ?_))))))
  refine ⟨⟨rfl, i, fs, hi, rfl, hf, hx⟩, ?_⟩
  rintro x w1 ⟨rfl, hk⟩
  have hk := hk i hi rfl
  subst hk
  refine ea_nil ?_
  refine ⟨by show 1 ≤ sizeLine; rw [sizeLine_eq]; omega, ?_⟩
  refine ev_callE (ea_cons (ev_var (by rfl) (ea_nil ?_)))
  refine ⟨⟨rfl, i, fs, hi, rfl, hf, hx⟩, ?_⟩
  rintro y w2 ⟨rfl, hk⟩
  have hk := hk i fs hi rfl hf hx
  subst hk
  refine o2_catL (by rw [sizeLine_eq]; simp only [List.length_cons, List.length_nil]; omega) ?_
  exact ⟨rfl, rfl⟩
/-- the error at hand, told -/
theorem suite_at (KS : ∀ i, i ∈ R → ErK K ec i) {H H' : Hp} {P : PD} {Q : VK} {w0 w' : Wl} {σ' : L2.St} (kq : Kq K w0 H P Q) (e : Ex (msk w0 H) (msk w' H')) (c : Cells K w' H') (x : XdAt K (msk w' H') H' d fs) (hi : i ∈ R) (hf : ErFs i fs) (hp : P (erD i fs) w') (hl : σ'.length = 2) (D : Ends) (hD : D.rt = Q) :
    tSuite ec K R a (.ref (ec i)) d D (σ'.set 1 (some (.ref a))) H' := by
  refine ⟨i, hi, rfl, ?_⟩
  obtain ⟨w2, hx, c2, ee, back⟩ : ∃ w2 : Wl, DX w2 d fs ∧ Cells K w2 H' ∧ Ex (msk w2 H') (msk w' H') ∧ (∀ H'', Ex (msk w2 H') (msk w2 H'') → Cells K w2 H'' → Ex (msk w' H') (msk w' H'') ∧ Cells K w' H'' ∧ Ex (msk w2 H'') (msk w' H'')) := by
    cases d with
    | none => exact ⟨w', x, c, Ex.refl _, fun H'' z1 z2 => ⟨z1, z2, Ex.refl _⟩⟩
    | some dd =>
      obtain ⟨gs, h1, h2⟩ := x
      obtain ⟨hn, h1'⟩ := msk_some h1
      have sub : ∀ H1 : Hp, Ex (msk (put w' dd (.xd gs fs)) H1) (msk w' H1) := fun H1 b o z => by
        obtain ⟨y1, y2⟩ := msk_some z
        by_cases q : b = dd
        · subst q; rw [put_same] at y1; cases y1
        · rw [put_ne q] at y1; exact msk_of y1 y2
      have inner : Ex (msk (put w' dd (.xd gs fs)) H') (msk w' H') := sub H'
      refine ⟨put w' dd (.xd gs fs), ⟨gs, put_same⟩, fun b y hb => ?_, inner, fun H'' z1 z2 => ?_⟩
      · have far : ExX (msk w' H') (msk (put w' dd (.xd gs fs)) H') := fun b2 o z n => by
          obtain ⟨y1, y2⟩ := msk_some z
          have q : b2 ≠ dd := fun q => by subst q; rw [h1'] at y2; exact n _ (Option.some.inj y2).symm
          exact msk_of (by rw [put_ne q]; exact y1) y2
        by_cases q : b = dd
        · subst q
          rw [put_same] at hb
          cases hb
          exact ⟨h1', rpfX far h2⟩
        · rw [put_ne q] at hb
          exact clX far (c b y hb)
      · have at_ := (z2 dd _ put_same).1
        refine ⟨fun b o z => ?_, fun b y hb => ?_, sub H''⟩
        · obtain ⟨y1, y2⟩ := msk_some z
          by_cases q : b = dd
          · subst q
            rw [h1'] at y2
            cases y2
            exact msk_of y1 at_
          · exact sub H'' _ _ (z1 b o (msk_of (by rw [put_ne q]; exact y1) y2))
        · have q : b ≠ dd := fun q => by subst q; rw [hn] at hb; cases hb
          exact ClAt.mono (sub H'') (z2 b y (by rw [put_ne q]; exact hb)) fun o ho => ho
  have sat : Sat K (σ'.set 1 (some (.ref a))) H' [none, some (.ptr a)] w2 := by
    refine ⟨by rw [List.length_set]; exact hl, fun j y hj => ?_, c2⟩
    match j, hj with
    | 0, hj => cases hj
    | 1, hj =>
      cases hj
      exact ⟨.ref a, by rw [List.getElem?_set_self (by omega)], .ptr a⟩
    | j + 2, hj => simp at hj
  refine ev_suite KS hi hf hx _ H' sat _ (fun v H'' y w3 e3 c3 r3 ⟨h3, h4⟩ => ?_) (fun _ _ _ _ _ _ _ _ z => z.elim)
  subst h3
  subst h4
  obtain ⟨b1, b2, b3⟩ := back H'' e3 c3
  rw [hD]
  exact kq v H'' _ w' (e.trans b1) b2 (r3.mono b3) hp
end
end EX
set_option Elab.async false
set_option linter.all false
set_option autoImplicit false
set_option maxRecDepth 100000
set_option maxHeartbeats 4000000
/-! EJ: the law's own def that catches errors, as a def that is given a lambda. -/
namespace EX
open PySem PySem.Spec PyProof.Rows L2 DL
/-- its text -/
def CgBody (st : Stmt) : Prop := ∃ (p1 p2 p3 p4 p5 p6 p7 p8 p9 q1 q2 q3 q4 q5 q6 q7 q8 q9 r1 r2 : Pos) (j cx : Nat), defBody st =
  [.Try [.Return (some (.List [.Constant (.str "returned") j p1, .Call (.Name "_law_call" p2) [] [] p3] p4)) p5]
    [.ExceptHandler (some (.Tuple [.Name "TallyError" p6, .Name "StateError" p7, .Name "SizeError" p8] cx p9)) (some "_law_e")
      [.Return (some (.BinOp (.List [.Call (.Name "_law_kind" q1) [.Name "_law_e" q2] [] q3] q4) .Add (.Call (.Name "_law_fields" q5) [.Name "_law_e" q6] [] q7) q8)) q9] r1] [] [] r2]
structure CgS (st : Stmt) : Prop where
  body : CgBody st
  sc : FnScope ["_law_call", "_law_e"] ["_law_call"] (defScope st)
  v0 : (defScope st).names.lookup ("_law_call" : Str) = some .local
  v1 : (defScope st).names.lookup ("_law_e" : Str) = some .local
  g1 : (defScope st).names.lookup ("TallyError" : Str) = some .globalImplicit
  g2 : (defScope st).names.lookup ("StateError" : Str) = some .globalImplicit
  g3 : (defScope st).names.lookup ("SizeError" : Str) = some .globalImplicit
  g4 : (defScope st).names.lookup ("_law_kind" : Str) = some .globalImplicit
  g5 : (defScope st).names.lookup ("_law_fields" : Str) = some .globalImplicit
theorem takes_len {X : Cx} {W : WX} (t : Takes X W) : Takes X (fun c d σ H => σ.length = X.N.length → W c d σ H) := fun u s' ⟨a, B, sI, pins, σ, H, cls, d, e, I, z1, z2, z3, z4, z5, z6, z7⟩ => t u s' ⟨a, B, sI, pins, σ, H, cls, d, e, I, z1, z2, z3, z4, z5, z6, z7 I.len⟩
section
variable {X : Cx} {ec : Nat → Addr} {R : List Nat} {st sk sf : Stmt}
theorem cg_gives (S : CgS st) (G : ErG X.mg ec) (KS : ∀ i, i ∈ R → ErK X.K ec i) (FK : FkE X.prog X.w X.K X.mg X.base 1 "_law_kind" sk ["_law_e"] (spE X.K (preEr ec R) (postKind ec R)))
    (FF : FkE X.prog X.w X.K X.mg X.base 2 "_law_fields" sf ["_law_e"] (spE X.K (preEr ec R) (postFlds ec R))) (hr : Room 3 X.A) (g : Addr) (cdg : Value) (q : Str) :
    LamX.GivesTo X ["_law_call", "_law_e"] "_law_caught" (defScope st) g cdg (defBody st) "_law_call" q (TTc X.K ec R) := by
  intro f c' s H Q tl act known h
  obtain ⟨p1, p2, p3, p4, p5, p6, p7, p8, p9, q1, q2, q3, q4, q5, q6, q7, q8, q9, r1, r2, j, cx, hb⟩ := S.body
  obtain ⟨w, P, cel, kq, ht⟩ := h
  rw [hb]
  have room := hr.deeper (envOfC "_law_caught" (defScope st) s.heap.objs.size g cdg)
  have g1 : Gl (cxOf C8.CX0 X.prog X.w X.K X.mg X.base ["_law_call", "_law_e"] "_law_caught" (defScope st) g cdg X.A X.stack s H C8.E0).nox "TallyError" := S.g1
  have g2 : Gl (cxOf C8.CX0 X.prog X.w X.K X.mg X.base ["_law_call", "_law_e"] "_law_caught" (defScope st) g cdg X.A X.stack s H C8.E0).nox "StateError" := S.g2
  have g3 : Gl (cxOf C8.CX0 X.prog X.w X.K X.mg X.base ["_law_call", "_law_e"] "_law_caught" (defScope st) g cdg X.A X.stack s H C8.E0).nox "SizeError" := S.g3
  refine ⟨_, pss_one (ps_tryG (X := (cxOf C8.CX0 X.prog X.w X.K X.mg X.base ["_law_call", "_law_e"] "_law_caught" (defScope st) g cdg X.A X.stack s H C8.E0).nox) (i := 1)
    (tb := fun W D σ H' => σ.length = 2 ∧ (∀ cls d σ' H'', CgE X.K ec R w H P cls d H'' → σ'.length = 2 → W cls d σ' H'') ∧ σ[0]? = some (some (.ref f)) ∧ H' c' = some (LamX.CodeO c' q) ∧ tl (CgE X.K ec R w H P) H' (CgQ D.rt))
    (ts := fun a cls d => tSuite ec X.K R a cls d)
    rfl rfl S.sc.nd rfl S.v1 (tells_tup3 g1 g2 g3 (G 20 _ rfl) (G 21 _ rfl) (G 22 _ rfl) rfl rfl rfl cx) takes0 (fun W pn xe tk _ => ?_) (fun a oe cls d pn hz hf => ?_)), ?_⟩
  · refine ⟨fun pins s' σ H' D I z => ?_⟩
    obtain ⟨len, hW, h1, h2, h3⟩ := z
    have hp := act (fun cls d σ H => σ.length = 2 → W cls d σ H) pn xe (CgE X.K ec R w H P) p2 p3 (takes_len tk) (fun cls d σ' H'' e l => hW cls d σ' H'' e l)
    exact (pss_one (ps_ret (pos := p5) (pe_lst (pos := p4) (pa_cons (pe_str (j := j) (pos := p1)) (pa_cons hp pa_nil))))).run pins s' σ H' D I ⟨h1, h2, h3⟩
  · refine ⟨fun pins s' σ H' D I z => ?_⟩
    obtain ⟨i, hi, hc, z⟩ := z
    subst hc
    have has : Has ((cxOf C8.CX0 X.prog X.w X.K X.mg X.base ["_law_call", "_law_e"] "_law_caught" (defScope st) g cdg X.A X.stack s H C8.E0).nox.suite a ((a, oe) :: pn)) a oe (ec i) d := ⟨⟨rfl, hz.1, hz.2, hf⟩, List.mem_cons_self ..⟩
    have rm : L2H.RoomH 2 ((cxOf C8.CX0 X.prog X.w X.K X.mg X.base ["_law_call", "_law_e"] "_law_caught" (defScope st) g cdg X.A X.stack s H C8.E0).nox.suite a ((a, oe) :: pn)).A := ⟨room.dp, room.un⟩
    have l4 : Gl ((cxOf C8.CX0 X.prog X.w X.K X.mg X.base ["_law_call", "_law_e"] "_law_caught" (defScope st) g cdg X.A X.stack s H C8.E0).nox.suite a ((a, oe) :: pn)) "_law_kind" := S.g4
    have l5 : Gl ((cxOf C8.CX0 X.prog X.w X.K X.mg X.base ["_law_call", "_law_e"] "_law_caught" (defScope st) g cdg X.A X.stack s H C8.E0).nox.suite a ((a, oe) :: pn)) "_law_fields" := S.g5
    have var : ∀ p : Pos, PE ((cxOf C8.CX0 X.prog X.w X.K X.mg X.base ["_law_call", "_law_e"] "_law_caught" (defScope st) g cdg X.A X.stack s H C8.E0).nox.suite a ((a, oe) :: pn)) (.Name "_law_e" p) (tVar 1) := fun p => pe_var (i := 1) rfl (.inl S.v1) rfl rfl
    exact (pss_one (ps_ret (pos := q9) (pe_op (pos := q8) op_cat (pe_lst (pos := q4) (pa_cons (pe_fE (X := (cxOf C8.CX0 X.prog X.w X.K X.mg X.base ["_law_call", "_law_e"] "_law_caught" (defScope st) g cdg X.A X.stack s H C8.E0).nox.suite a ((a, oe) :: pn)) (p := q1) (pos := q3) FK has (rm.mono (show 1 ≤ 2 by decide)) l4 (pa_cons (var q2) pa_nil)) pa_nil)) (pe_fE (X := (cxOf C8.CX0 X.prog X.w X.K X.mg X.base ["_law_call", "_law_e"] "_law_caught" (defScope st) g cdg X.A X.stack s H C8.E0).nox.suite a ((a, oe) :: pn)) (p := q5) (pos := q7) FF has rm l5 (pa_cons (var q6) pa_nil))))).run pins s' σ H' D I z
  · refine ⟨rfl, fun cls d σ' H'' e l => ?_, rfl, known, ht⟩
    obtain ⟨fs, w', i, e1, c1, x1, hi, hc, hf, hp⟩ := e
    subst hc
    exact ⟨true, (KS i hi).em, fun _ a ha => suite_at KS kq e1 c1 x1 hi hf hp l _ rfl, fun z => nomatch z⟩
end
/-- the def that catches, for those who hand it a lambda -/
structure Cgt (P : Program) (wo : World) (K : PySem.W.Frag) (mg : Str → Option Value) (base : Heap) (ec : Nat → Addr) (R : List Nat) (st : Stmt) : Prop where
  sh : CgS st
  it : ∃ g fd, Fun K "_law_caught" "_law_caught" st g fd ∧ mg "_law_caught" = some (.ref g) ∧ L2.Binds K fd ["_law_call"] [] ∧
    ∀ (X : Cx), X.prog = P → X.w = wo → X.K = K → X.mg = mg → X.base = base → Room 3 X.A → ∀ (cdg : Value) (q : Str), LamX.GivesTo X ["_law_call", "_law_e"] "_law_caught" (defScope st) g cdg (defBody st) "_law_call" q (TTc K ec R)
section
variable {P : Program} {wo : World} {K : PySem.W.Frag} {mg : Str → Option Value} {base : Heap} {ec : Nat → Addr} {R : List Nat} {st sk sf : Stmt}
theorem cgt_ok (S : CgS st) (d : Dn K mg "_law_caught" st) (hb : BindP "_law_caught" st ["_law_call"]) (G : ErG mg ec) (KS : ∀ i, i ∈ R → ErK K ec i) (FK : FkE P wo K mg base 1 "_law_kind" sk ["_law_e"] (spE K (preEr ec R) (postKind ec R)))
    (FF : FkE P wo K mg base 2 "_law_fields" sf ["_law_e"] (spE K (preEr ec R) (postFlds ec R))) : Cgt P wo K mg base ec R st := by
  obtain ⟨g, fd, F, m⟩ := d
  refine ⟨S, g, fd, F, m, F.binds hb, fun X e1 e2 e3 e4 e5 hr cdg q => ?_⟩
  subst e1; subst e2; subst e3; subst e4; subst e5
  exact cg_gives S G KS FK FF hr g cdg q
end
section
variable {X : Cx} {ec : Nat → Addr} {R : List Nat} {st : Stmt} {k : Nat} {c T : Addr} {q : Str} {params : Arguments} {body : Expr} {scope : Scope} {t : XK → TE} {p lpos pos : Pos}
/-- _law_caught(lambda: body) -/
theorem pe_cg (C : Cgt X.prog X.w X.K X.mg X.base ec R st) (hg : Gl X "_law_caught") (TB : LamX.TabB X.base X.mg c T) (hcode : X.env.code = .ref c) (hq : X.env.qual ++ "<lambda>" = q) (hr : Room (k + 3) X.A) (L : LamX.LamS X.env.scope scope) (hdef : defaultsOf params X.env = ([], []))
    (hbind : ∀ (q : Str) (cl : List (Str × Addr)) (pm cv ctv : Value), bindArgs (PySem.W.kla_fn "<lambda>" q params body scope cl pm cv ctv) ⟨[], []⟩ = pure [])
    (hgu : X.A.guards = some []) (hbody : ∀ (A : Around) (outer : List Env) (s : Shared) (H : Hp) (E : XK) (f c' : Addr), A.guards = some [] → Room k (A.deeper (LamX.lamEnv X scope s.heap.objs.size f c')) → PE (LamX.lamCx X A outer s H E scope f c') body (t E)) :
    PE X (.Call (.Name "_law_caught" p) [.Lambda params body scope lpos] [] pos) (tLm T q (TTc X.K ec R) t) := by
  obtain ⟨g, fd, F, m, b, go⟩ := C.it
  exact pe_lm (k := k) F hg m b C.sh.sc rfl (.inl C.sh.v0) (fun cdg => go X rfl rfl rfl rfl rfl (hr.mono (by omega)) cdg q) TB hcode hq (hr.mono (by omega)) L hdef hbind hgu hbody
end
end EX
set_option Elab.async false
set_option linter.all false
set_option autoImplicit false
set_option maxRecDepth 100000
set_option maxHeartbeats 4000000
/-! DL17: [d[k] for k in d]; a class as a value, isinstance against it. -/
namespace DL
open PySem PySem.Spec PyProof.Rows L2
section
variable {K : PySem.W.Frag} {W : XK} {δ : Dlt} {w : Wl} {P : PD} {Z : ZD}
end
/-! ### classes as values -/
/-- what is known of an own class and its plain instances -/
structure Uc (K : PySem.W.Frag) (mg : Str → Option Value) (name : Str) (C : Addr) : Prop where
  nm : mg name = some (.ref C)
  cls : Cls K C
  mkr : CMk K C
  ha : PySem.W.findIn K (.ref C) "__class__" = some (some (.builtin "object.__class__"))
  hn : PySem.W.specialIn K (.builtin "object.__class__") "__get__" = some (some (.builtin "getset_descriptor.__get__"))
  htk : PySem.W.takesIn K (.builtin "object.__class__") = some true
  hm : PySem.W.mroIn K C (.type "object") = some true
  kit : PySem.W.kitOne K (.ref C) (.ref C) = some true
section
variable {K : PySem.W.Frag} {W : XK} {δ : Dlt} {w : Wl} {P : PD} {Z : ZD} {C : Addr} {fs : List (Str × D)} {mg : Str → Option Value} {name : Str}
end
end DL
set_option Elab.async false
set_option linter.all false
set_option autoImplicit false
set_option maxRecDepth 100000
set_option maxHeartbeats 4000000
/-! DL18: methods with a default. -/
namespace DL
open PySem PySem.Spec PyProof.Rows L2
/-- a method with one default -/
structure MDD0 (K : PySem.W.Frag) (C : Addr) (m qual : Str) (st : Stmt) (f : Addr) (fd : FuncData) (u : Value) : Prop where
  ex : ∃ (oc : Value) (od : Option Addr) (T : Addr) (o : Obj) (n : Nat) (kV doc pm : Value) (an : Option Addr) (cdv ct : Value) (osl : Array (Option Value)),
    fd = PySem.W.fnOf m qual (defArgs st) (defBody st) (defScope st) (.ref T) kV doc pm an cdv ct ∧ K.lookup f = some ⟨oc, od, .func fd, osl⟩ ∧ PySem.W.codeIn K cdv qual = true ∧ K.lookup T = some o ∧ o.data = .seq #[u] n
  me : Meth K C m f
def MDD (K : PySem.W.Frag) (C : Addr) (m qual : Str) (st : Stmt) : Prop := ∃ f fd u, MDD0 K C m qual st f fd u
abbrev BindPD (name qual : Str) (st : Stmt) (ps : List Str) : Prop := ∀ (T : Addr) (u kV doc pm : Value) (an : Option Addr) (cdv ct : Value) (us : List Value), us.length = ps.length →
  ∃ k : Option (Array Value) → Sem (List (Str × Value)), bindArgs (PySem.W.fnOf name qual (defArgs st) (defBody st) (defScope st) (.ref T) kV doc pm an cdv ct) ⟨us, []⟩ = seqItems? (.ref T) >>= k ∧ k (some #[u]) = pure (ps.zip us)
section
variable {P : Program} {wo : World} {K : PySem.W.Frag} {mg : Str → Option Value} {base : Heap} {pre : List D → Wl → Prop} {post : List D → Wl → D → Wl → Prop}
end
end DL
set_option Elab.async false
set_option linter.all false
set_option autoImplicit false
set_option maxRecDepth 100000
set_option maxHeartbeats 4000000
/-! WM: names, the words that the law draws. -/
namespace LW
open PySem PySem.Spec PyProof.Rows L2 DL
def nameS (x : Str) : Bool := decide (x.length ≤ 8) && (Txt.isascii x && (Txt.isalpha x && Txt.islower x))
theorem letter_ok : ∀ c : Nat, 97 ≤ c → c ≤ 122 → c < 128 ∧ Unicode.isAlpha c = true ∧ Unicode.isLower c = true ∧ Unicode.isUpper c = false ∧ Unicode.isTitle c = false := by
  have h : ∀ i : Fin 26, (97 + i.val < 128 ∧ Unicode.isAlpha (97 + i.val) = true ∧ Unicode.isLower (97 + i.val) = true ∧ Unicode.isUpper (97 + i.val) = false ∧ Unicode.isTitle (97 + i.val) = false) := by decide +kernel
  intro c h1 h2
  have q := h ⟨c - 97, by omega⟩
  have e : 97 + (c - 97) = c := by omega
  rw [show (97 + (⟨c - 97, by omega⟩ : Fin 26).val) = c from e] at q
  exact q
/-- a to z alone -/
def low (l : List Nat) : Prop := ∀ c ∈ l, 97 ≤ c ∧ c ≤ 122
theorem nameS_of {x : Str} (h : low x.cps.toList) (h1 : 1 ≤ x.length) (h2 : x.length ≤ 8) : nameS x = true := by
  have mem : ∀ c ∈ x.cps.toList, c < 128 ∧ Unicode.isAlpha c = true ∧ Unicode.isLower c = true ∧ Unicode.isUpper c = false ∧ Unicode.isTitle c = false := fun c hc => letter_ok c (h c hc).1 (h c hc).2
  have ea : x.cps.all (fun c => decide (c < 128)) = true := by
    rw [Array.all_eq_true']
    intro c hc
    exact decide_eq_true (mem c (Array.mem_toList_iff.mpr hc)).1
  have eb : x.cps.all Unicode.isAlpha = true := by
    rw [Array.all_eq_true']
    intro c hc
    exact (mem c (Array.mem_toList_iff.mpr hc)).2.1
  have ec : x.cps.any (fun c => Unicode.isUpper c || Unicode.isTitle c) = false := by
    rw [Array.any_eq_false']
    intro c hc
    have := mem c (Array.mem_toList_iff.mpr hc)
    rw [this.2.2.2.1, this.2.2.2.2]
    decide
  have ed : x.cps.any Unicode.isLower = true := by
    have hs : 0 < x.cps.size := h1
    rw [Array.any_eq_true']
    exact ⟨x.cps[0], Array.getElem_mem hs, (mem x.cps[0] (Array.mem_toList_iff.mpr (Array.getElem_mem hs))).2.2.1⟩
  unfold nameS Txt.isascii Txt.isalpha Txt.islower
  rw [decide_eq_true h2, ea, eb, ec, ed, decide_eq_true (show x.length > 0 by omega)]
  rfl
theorem str_ext {a b : Str} (h : a.cps.toList = b.cps.toList) : a = b := ext_toList h
theorem len_toList (a : Str) : a.length = a.cps.toList.length := by simp [Str.length]
/-! the menu -/
def menu : List Str := ["more", "less", "sum", "few", "many", "gain", "columns", "range", "order", "merge", "a", "b", "c", "x", "y"]
def letters : Str := "abcdefghijklmnopqrstuvwxyz"
theorem letters_list : letters.cps.toList = (List.range 26).map (fun i => 97 + i) := by decide +kernel
theorem letters_len : letters.length = 26 := by decide +kernel
theorem letters_at {i : Int} (h0 : 0 ≤ i) (h1 : i < 26) : atI letters.cps.toList i = some (97 + i.toNat) := by
  rw [letters_list]
  unfold atI ixN
  have e : ((List.range 26).map (fun i => 97 + i)).length = 26 := by simp
  rw [e, if_pos h0, if_pos (by omega)]
  simp only [Option.bind_some]
  rw [List.getElem?_map, List.getElem?_range (by omega)]
  rfl
theorem menu_at {i : Int} (h0 : 0 ≤ i) (h1 : i < 15) : atI (menu.map D.str) i = some (.str (menu.getD i.toNat "")) := by
  unfold atI ixN
  have e : (menu.map D.str).length = 15 := by simp [menu]
  rw [e, if_pos h0, if_pos (by omega)]
  simp only [Option.bind_some]
  have hl : i.toNat < menu.length := by simp [menu]; omega
  rw [List.getElem?_map, List.getElem?_eq_getElem hl]
  simp [List.getD, hl]
theorem menu_names : ∀ x ∈ menu, nameS x = true := by decide +kernel
def wordsOk (xs : List Str) : Prop := (∀ x ∈ xs, nameS x = true) ∧ xs.Nodup
theorem nodup_range {g : Nat → Str} {n : Nat} (hn : n ≤ 12) (h : ∀ i j, i < 12 → j < 12 → g i = g j → i = j) : ((List.range n).map g).Nodup := by
  unfold List.Nodup
  rw [List.pairwise_map]
  refine List.Pairwise.imp_of_mem ?_ (List.pairwise_lt_range (n := n))
  intro a b ha hb hab e
  have h1 := List.mem_range.mp ha
  have h2 := List.mem_range.mp hb
  exact absurd (h a b (by omega) (by omega) e) (by omega)
theorem words0 {b : Int} {n : Nat} (h0 : 0 ≤ b) (h1 : b < 15) (hn : n ≤ 12) : wordsOk ((List.range n).map fun i : Nat => menu.getD ((b + 4 * (i : Int)) % 15).toNat "") := by
  have key : ∀ (b : Fin 15) (i j : Fin 12), menu.getD ((b.val + 4 * i.val) % 15) "" = menu.getD ((b.val + 4 * j.val) % 15) "" → i = j := by decide +kernel
  have e : ∀ i : Nat, ((b + 4 * (i : Int)) % 15).toNat = (b.toNat + 4 * i) % 15 := fun i => by omega
  refine ⟨fun x hx => ?_, nodup_range hn fun i j hi hj hij => ?_⟩
  · obtain ⟨i, hi, rfl⟩ := List.mem_map.mp hx
    have hl : ((b + 4 * (i : Int)) % 15).toNat < menu.length := by simp [menu]; omega
    have : menu.getD ((b + 4 * (i : Int)) % 15).toNat "" ∈ menu := by
      simp only [List.getD, List.getElem?_eq_getElem hl, Option.getD_some]
      exact List.getElem_mem hl
    exact menu_names _ this
  · rw [e, e] at hij
    have := key ⟨b.toNat, by omega⟩ ⟨i, hi⟩ ⟨j, hj⟩ hij
    exact congrArg Fin.val this
/-! one letter, often -/
def rep (b : Int) (i : Nat) : Str := ⟨(List.replicate (1 + i % 8) (97 + ((b + 7 * (i : Int)) % 26).toNat)).toArray⟩
theorem words1 {b : Int} {n : Nat} (h0 : 0 ≤ b) (h1 : b < 15) (hn : n ≤ 12) : wordsOk ((List.range n).map (rep b)) := by
  have key : ∀ (b : Fin 15) (i j : Fin 12), (b.val + 7 * i.val) % 26 = (b.val + 7 * j.val) % 26 → i = j := by decide +kernel
  have e : ∀ i : Nat, ((b + 7 * (i : Int)) % 26).toNat = (b.toNat + 7 * i) % 26 := fun i => by omega
  refine ⟨fun x hx => ?_, nodup_range hn fun i j hi hj hij => ?_⟩
  · obtain ⟨i, hi, rfl⟩ := List.mem_map.mp hx
    refine nameS_of (fun c hc => ?_) ?_ ?_
    · have hc' : c ∈ List.replicate (1 + i % 8) (97 + ((b + 7 * (i : Int)) % 26).toNat) := hc
      rw [List.eq_of_mem_replicate hc']
      omega
    · rw [len_toList]; show 1 ≤ (List.replicate _ _).length; rw [List.length_replicate]; omega
    · rw [len_toList]; show (List.replicate _ _).length ≤ 8; rw [List.length_replicate]; omega
  · have q : (rep b i).cps.toList = (rep b j).cps.toList := by rw [hij]
    have q' : List.replicate (1 + i % 8) (97 + ((b + 7 * (i : Int)) % 26).toNat) = List.replicate (1 + j % 8) (97 + ((b + 7 * (j : Int)) % 26).toNat) := q
    rw [show 1 + i % 8 = i % 8 + 1 by omega, show 1 + j % 8 = j % 8 + 1 by omega, List.replicate_succ, List.replicate_succ] at q'
    have q2 := (List.cons.inj q').1
    rw [e, e] at q2
    have := key ⟨b.toNat, by omega⟩ ⟨i, hi⟩ ⟨j, hj⟩ (show (b.toNat + 7 * i) % 26 = (b.toNat + 7 * j) % 26 by omega)
    exact congrArg Fin.val this
/-! a letter within a stem -/
def stemW (s : List Nat) (at_ : Nat) (b : Int) (i : Nat) : Str := ⟨(s.take at_ ++ (97 + ((b + 5 * (i : Int)) % 26).toNat) :: s.drop at_).toArray⟩
theorem words2 {b : Int} {n : Nat} {s : List Nat} {at_ : Nat} (hs : low s) (hl : s.length ≤ 7) (ha : at_ ≤ s.length) (h0 : 0 ≤ b) (h1 : b < 15) (hn : n ≤ 12) : wordsOk ((List.range n).map (stemW s at_ b)) := by
  have key : ∀ (b : Fin 15) (i j : Fin 12), (b.val + 5 * i.val) % 26 = (b.val + 5 * j.val) % 26 → i = j := by decide +kernel
  have e : ∀ i : Nat, ((b + 5 * (i : Int)) % 26).toNat = (b.toNat + 5 * i) % 26 := fun i => by omega
  refine ⟨fun x hx => ?_, nodup_range hn fun i j hi hj hij => ?_⟩
  · obtain ⟨i, hi, rfl⟩ := List.mem_map.mp hx
    have ll : (s.take at_ ++ (97 + ((b + 5 * (i : Int)) % 26).toNat) :: s.drop at_).length = s.length + 1 := by
      rw [List.length_append, List.length_cons, List.length_take, List.length_drop]
      omega
    refine nameS_of (fun c hc => ?_) ?_ ?_
    · have hc' : c ∈ s.take at_ ++ (97 + ((b + 5 * (i : Int)) % 26).toNat) :: s.drop at_ := hc
      rcases List.mem_append.mp hc' with h | h
      · exact hs c (List.mem_of_mem_take h)
      · rcases List.mem_cons.mp h with h | h
        · omega
        · exact hs c (List.mem_of_mem_drop h)
    · rw [len_toList]; show 1 ≤ (s.take at_ ++ _ :: s.drop at_).length; rw [ll]; omega
    · rw [len_toList]; show (s.take at_ ++ _ :: s.drop at_).length ≤ 8; rw [ll]; omega
  · have q : (stemW s at_ b i).cps.toList = (stemW s at_ b j).cps.toList := by rw [hij]
    have q' : s.take at_ ++ (97 + ((b + 5 * (i : Int)) % 26).toNat) :: s.drop at_ = s.take at_ ++ (97 + ((b + 5 * (j : Int)) % 26).toNat) :: s.drop at_ := q
    have q2 := (List.cons.inj (List.append_cancel_left q')).1
    rw [e, e] at q2
    have := key ⟨b.toNat, by omega⟩ ⟨i, hi⟩ ⟨j, hj⟩ (show (b.toNat + 5 * i) % 26 = (b.toNat + 5 * j) % 26 by omega)
    exact congrArg Fin.val this
theorem joinL_nil : ∀ l : List (List Nat), TL.joinL [] l = l.flatten
  | [] => rfl
  | [p] => by simp [TL.joinL]
  | p :: q :: r => by
    show p ++ ([] ++ TL.joinL [] (q :: r)) = _
    rw [joinL_nil (q :: r)]
    simp
theorem cut_to {z : Str} {k : Nat} (h : k ≤ z.length) : (cutS z none (some (k : Int))).cps.toList = z.cps.toList.take k := by
  have e : HT.sIx z.length z.length (some (k : Int)) = k := by
    show (if (k : Int) < 0 then ((k : Int) + (z.length : Int)).toNat else min (k : Int).toNat z.length) = k
    rw [if_neg (by omega)]
    omega
  show ((z.cps.toList.drop (HT.sIx z.length 0 none)).take (HT.sIx z.length z.length (some (k : Int)) - HT.sIx z.length 0 none)).toArray.toList = _
  rw [e]
  show ((z.cps.toList.drop 0).take (k - 0)).toArray.toList = _
  simp
theorem cut_from {z : Str} {k : Nat} (h : k ≤ z.length) : (cutS z (some (k : Int)) none).cps.toList = z.cps.toList.drop k := by
  have e : HT.sIx z.length 0 (some (k : Int)) = k := by
    show (if (k : Int) < 0 then ((k : Int) + (z.length : Int)).toNat else min (k : Int).toNat z.length) = k
    rw [if_neg (by omega)]
    omega
  show ((z.cps.toList.drop (HT.sIx z.length 0 (some (k : Int)))).take (HT.sIx z.length z.length none - HT.sIx z.length 0 (some (k : Int)))).toArray.toList = _
  rw [e]
  show ((z.cps.toList.drop k).take (z.length - k)).toArray.toList = _
  rw [List.take_of_length_le (by simp [Str.length])]
theorem join_flat (ys : List Str) : (Txt.join ("" : Str) ys).cps.toList = (ys.map (fun y => y.cps.toList)).flatten := by
  rw [TL.join_eq]
  have h := TL.tl_join ("" : Str) ys
  have e : TL.tl ("" : Str) = [] := by decide +kernel
  rw [e, joinL_nil] at h
  exact h
/-- the pool's three ints at p -/
def Pl (w : Wl) (p : Addr) (w' : Wl) : Prop := ∃ a b c : Int, w' = put w p (.lst [.int a, .int b, .int c]) ∧ 0 ≤ a ∧ a < 1000000007 ∧ 0 ≤ b
theorem Pl.at {w w' : Wl} {p : Addr} (h : Pl w p w') : ∃ a b c : Int, w' p = some (.lst [.int a, .int b, .int c]) ∧ 0 ≤ a ∧ a < 1000000007 ∧ 0 ≤ b := by
  obtain ⟨a, b, c, rfl, h⟩ := h
  exact ⟨a, b, c, put_same, h⟩
theorem Pl.of {w : Wl} {p : Addr} {a b c : Int} (h : w p = some (.lst [.int a, .int b, .int c])) (h1 : 0 ≤ a) (h2 : a < 1000000007) (h3 : 0 ≤ b) : Pl w p w := ⟨a, b, c, (put_self h).symm, h1, h2, h3⟩
theorem Pl.trans {w w1 w2 : Wl} {p : Addr} (h : Pl w p w1) (g : Pl w1 p w2) : Pl w p w2 := by
  obtain ⟨a, b, c, rfl, _⟩ := h
  obtain ⟨a', b', c', rfl, g⟩ := g
  exact ⟨a', b', c', put_put, g⟩
theorem Pl.self {w w1 : Wl} {p : Addr} (h : Pl w p w1) : Pl w1 p w1 := by
  obtain ⟨a, b, c, e, h1, h2, h3⟩ := h.at
  exact Pl.of e h1 h2 h3
theorem Pl.ne {w w1 : Wl} {p q : Addr} (h : Pl w p w1) (n : q ≠ p) : w1 q = w q := by
  obtain ⟨a, b, c, rfl, _⟩ := h
  exact put_ne n
theorem rng_map {α : Type} {f : D → α} {n : Nat} : (rngD 0 n).map f = (List.range n).map fun i => f (.int (i : Nat)) := by
  unfold rngD
  rw [List.map_map]
  refine List.map_congr_left fun i _ => ?_
  show f (.int (0 + (i : Int))) = _
  rw [Int.zero_add]
theorem put_comm {w : Wl} {a b : Addr} {c d : DL.Cl} (h : a ≠ b) : put (put w a c) b d = put (put w b d) a c := by
  funext x
  unfold put
  by_cases h1 : x = b
  · subst h1
    rw [if_pos rfl, if_neg (Ne.symm h), if_pos rfl]
  · rw [if_neg h1]
    by_cases h2 : x = a
    · rw [if_pos h2, if_pos h2]
    · rw [if_neg h2, if_neg h2, if_neg h1]
section
variable {K : PySem.W.Frag} {W : XK} {δ : Dlt} {w : Wl} {P : PD} {Z : ZD} {te : TE} {g : TG}
/-- a comprehension whose element draws from the pool at p -/
theorem lc_pool {wi : TI} {vs : List Nat} {p : Addr} {R : Nat → D → D → Prop} (hg : GLoc g vs ∧ GMon g) (h : EvI K W wi δ w (fun ds w1 => ds.length ≤ sizeLine ∧ Pl w1 p w1 ∧
    (∀ (w2 : Wl) (i : Nat) (d : D), Pl w2 p w2 → ds[i]? = some d → Gd K W g d (wipeD δ vs) w2 (fun δ2 w3 => Ev K W te δ2 w3 (fun y w4 => Pl w2 p w4 ∧ R i d y) Z) Z) ∧
    (∀ acc w4, Pl w1 p w4 → acc.length = ds.length → (∀ (i : Nat) (d y : D), ds[i]? = some d → acc[i]? = some y → R i d y) → P (.lst acc) w4)) Z) : Ev K W (tLc wi g tYes te vs) δ w P Z := by
  refine ev_lc hg fun σ H s Rr q z => h σ H s Rr (fun J H' ds w1 e c it ⟨hz, hp, h1, h2⟩ => q J H' ds w1 e c it fun l hl => ?_) z
  have npl : p ≠ l := by
    rintro rfl
    obtain ⟨a, b, c', e, _⟩ := hp.at
    rw [hl] at e; cases e
  refine ⟨fun i acc w' => acc.length = i ∧ (∀ (j : Nat) (d y : D), ds[j]? = some d → acc[j]? = some y → R j d y) ∧ ∃ wq, Pl w1 p wq ∧ w' = put wq l (.lst acc), ⟨rfl, fun j d y _ hy => by simp at hy, w1, hp, rfl⟩, ?_, ?_⟩
  · rintro i d acc w' hd hw ⟨ha, hR, wq, hq, rfl⟩
    have hp' : Pl (put wq l (.lst acc)) p (put wq l (.lst acc)) := by
      obtain ⟨a, b, c', e, b1, b2, b3⟩ := hq.at
      exact Pl.of (by rw [put_ne npl]; exact e) b1 b2 b3
    refine fun v σ H r s Q q z => h1 _ i d hp' hd v σ H r s Q (fun σ' H' δ' w' e s' k => q σ' H' δ' w' e s' (et_yes ?_)) z
    show Ev K W te δ' w' _ Z
    refine k.imp fun y w4 ⟨hw4, hy⟩ => ?_
    have hi : i < ds.length := (List.getElem?_eq_some_iff.mp hd).1
    obtain ⟨a, b, c', rfl, b1, b2, b3⟩ := hw4
    refine ⟨by rw [put_ne (Ne.symm npl)]; exact put_same, by rw [ha]; omega, by rw [List.length_append, ha]; rfl, fun j d2 y2 hd2 hy2 => ?_, put wq p (.lst [.int a, .int b, .int c']), ?_, ?_⟩
    · by_cases hj : j < acc.length
      · rw [List.getElem?_append_left hj] at hy2
        exact hR j d2 y2 hd2 hy2
      · rw [List.getElem?_append_right (by omega)] at hy2
        have : j = i := by
          have := (List.getElem?_eq_some_iff.mp hy2).1
          simp at this
          omega
        subst this
        rw [ha, Nat.sub_self] at hy2
        cases hy2
        rw [hd] at hd2
        cases hd2
        exact hy
    · exact hq.trans ⟨a, b, c', rfl, b1, b2, b3⟩
    · rw [put_comm (Ne.symm npl), put_put]
  · rintro acc w' hw ⟨ha, hR, wq, hq, rfl⟩
    have hql : wq l = none := by rw [hq.ne (Ne.symm npl)]; exact hl
    rw [cut_put hql]
    exact h2 acc wq hq ha hR
end
theorem flat_rep (c : Nat) : ∀ n : Nat, (List.replicate n [c]).flatten = List.replicate n c
  | 0 => rfl
  | n + 1 => by rw [List.replicate_succ, List.flatten_cons, flat_rep c n, List.replicate_succ]; rfl
end LW
set_option Elab.async false
set_option linter.all false
set_option autoImplicit false
set_option maxRecDepth 100000
set_option maxHeartbeats 4000000
/-! BG: what counts are, what the program's and the law's defs promise on data. -/
namespace LW
open PySem PySem.Spec PyProof.Rows L2 DL
def isIntD : D → Bool | .int _ => true | _ => false
def okKn : List D → Prop | [d] => kn d | _ => False
def fIsInt : List D → D | [d] => .bl (isIntD d) | _ => .non
def nameD : D → Bool | .str x => nameS x | _ => false
def okFine : List D → Prop | [d] => fine d = true | _ => False
def fIsName : List D → D | [d] => .bl (nameD d) | _ => .non
def posD : D → Bool | .int c => decide (c ≥ 1) | _ => false
def pairD : D → Bool | .tup [n, c] => nameD n && posD c | _ => false
def okIF : List D → Prop | [d, .int _] => kn d | _ => False
def fIF : List D → D | [.int i, .int m] => .bl (decide (i ≥ m)) | [_, .int _] => .bl false | _ => .non
def okNm : List D → Prop | [.str n] => nameS n = true | _ => False
def fIsPair : List D → D | [d] => .bl (pairD d) | _ => .non
theorem pairD_len {ds : List D} (h : ds.length ≠ 2) : pairD (.tup ds) = false := by
  match ds, h with
  | [], _ => rfl
  | [_], _ => rfl
  | [_, _], h => exact absurd rfl h
  | _ :: _ :: _ :: _, _ => rfl
def nmD : D → Str | .tup (.str n :: _) => n | _ => ""
/-- the first element that is no counts' one -/
def goodGo (most : Int) : Str → Nat → List D → Option Nat
  | _, _, [] => none
  | b, i, d :: ds => if (i : Int) = most ∨ pairD d = false ∨ ¬ b.cps.toList < (nmD d).cps.toList then some i else goodGo most (nmD d) (i + 1) ds
def goodN (ds : List D) (most : Int) : Nat := (goodGo most "" 0 ds).getD ds.length
def okGood : List D → Prop | [.tup ds, .int _] => fineA ds = true | _ => False
def fGood : List D → D | [.tup ds, .int m] => .int (goodN ds m) | _ => .non
theorem pairD_shape {d : D} (h : pairD d = true) : ∃ n c, d = .tup [.str n, .int c] ∧ nameS n = true ∧ c ≥ 1 := by
  unfold pairD at h
  split at h
  · rename_i n c
    obtain ⟨h1, h2⟩ := Bool.and_eq_true_iff.mp h
    cases n with
    | str x => cases c with
      | int i => exact ⟨x, i, rfl, h1, of_decide_eq_true h2⟩
      | _ => cases h2
    | _ => cases h1
  · cases h
def okBag : List D → Prop | [.tup ds] => fineA ds = true ∧ goodN ds 12 = ds.length | _ => False
def fNon : List D → D | _ => .non
def okSeqFine : List D → Prop | [d] => fine d = true | _ => False
def isCountsD : D → Bool | .tup ds => decide (goodN ds 12 = ds.length) | _ => false
def fIsCounts : List D → D | [d] => .bl (isCountsD d) | _ => .non
def cntD : D → Int | .tup [_, .int c] => c | _ => 0
def sumC (ds : List D) : Int := (ds.map cntD).sum
def fTotal : List D → D | [.tup ds] => .int (sumC ds) | _ => .non
def cofD (n : Str) : List D → Int
  | [] => 0
  | .tup [.str m, .int c] :: r => if m = n then c else cofD n r
  | _ :: r => cofD n r
def okCof : List D → Prop | [.tup ds, .str n] => (fineA ds = true ∧ goodN ds 12 = ds.length) ∧ nameS n = true | _ => False
def fCof : List D → D | [.tup ds, .str n] => .int (cofD n ds) | _ => .non
theorem nameS_fine {n : Str} (h : nameS n = true) : fine (.str n) = true := by
  have q : n.length ≤ 8 := of_decide_eq_true (Bool.and_eq_true_iff.mp h).1
  simp only [fine, decide_eq_true_eq]
  omega
def preInt (ds : List D) (_ : Wl) : Prop := ∃ i : Int, ds = [.int i]
/-- a new pool -/
def postPool (_ : List D) (w : Wl) (d : D) (w' : Wl) : Prop := ∃ p, w p = none ∧ d = .ptr p ∧ Pl w p w'
/-- a draw below n -/
def preDraw (ds : List D) (w : Wl) : Prop := ∃ (p : Addr) (n : Int), ds = [.ptr p, .int n] ∧ 0 < n ∧ n.natAbs.log2 < 9000 ∧ Pl w p w
def postDraw (ds : List D) (w : Wl) (d : D) (w' : Wl) : Prop := ∀ p n, ds = [.ptr p, .int n] → Pl w p w' ∧ ∃ k : Int, d = .int k ∧ 0 ≤ k ∧ k < n
section
variable {K : PySem.W.Frag}
/-- a draw, from outside -/
theorem ev_draw {W : XK} {δ : Dlt} {w : Wl} {Pd : PD} {Z : ZD} {E' : XK} {t : TA} (h : EvA K W t δ w (fun ds w1 => ∃ (p : Addr) (n : Int), ds = [.ptr p, .int n] ∧ 0 < n ∧ n.natAbs.log2 < 9000 ∧ Pl w1 p w1 ∧ ∀ (w2 : Wl) (k : Int), Pl w1 p w2 → 0 ≤ k → k < n → Pd (.int k) w2) Z) : Ev K W (tCall (SpD K preDraw postDraw zN) [] E' t) δ w Pd Z :=
  ev_call fun σ H s Q q z => h σ H s Q (fun v H' d w' e c r p => q v H' d w' e c r (by
    obtain ⟨p, n, rfl, h1, h2, h3, h4⟩ := p
    exact ⟨⟨p, n, rfl, h1, h2, h3⟩, fun d w2 pd => by
      obtain ⟨g1, k, rfl, g2, g3⟩ := pd p n rfl
      exact h4 w2 k g1 g2 g3⟩)) z
end
theorem app_list (a b : Str) : (a ++ b).cps.toList = a.cps.toList ++ b.cps.toList := Array.toList_append
theorem app_len (a b : Str) : (a ++ b).length = a.length + b.length := by rw [len_toList, app_list, List.length_append, ← len_toList, ← len_toList]
theorem log2_small {n : Int} (h0 : 0 ≤ n) (h1 : n ≤ 100) : n.natAbs.log2 < 9000 := by
  have h : n.natAbs ≤ 100 := by omega
  rcases Nat.eq_zero_or_pos n.natAbs with e | e
  · rw [e]; decide
  · exact Nat.lt_of_lt_of_le ((Nat.log2_lt (by omega)).mpr (show n.natAbs < 2 ^ 7 by omega)) (by decide)
/-- a stem of letters -/
theorem stem_of {acc : List D} (h : ∀ y ∈ acc, ∃ c : Nat, (97 ≤ c ∧ c ≤ 122) ∧ y = .str ⟨#[c]⟩) : ∃ ys : List Str, acc = ys.map D.str ∧ (ys.map (·.length)).sum = acc.length ∧ low ((Txt.join ("" : Str) ys).cps.toList) ∧ (Txt.join ("" : Str) ys).length = acc.length ∧ ys.length = acc.length := by
  induction acc with
  | nil => exact ⟨[], rfl, rfl, fun c hc => (by rw [join_flat] at hc; cases hc), by rw [len_toList, join_flat]; rfl, rfl⟩
  | cons a t ih =>
    obtain ⟨ys, rfl, h1, h2, h3, h4⟩ := ih fun y hy => h y (List.mem_cons_of_mem _ hy)
    obtain ⟨c, hc, rfl⟩ := h a (List.mem_cons_self ..)
    rw [len_toList, join_flat] at h3
    rw [join_flat] at h2
    refine ⟨⟨#[c]⟩ :: ys, rfl, ?_, ?_, ?_, ?_⟩
    · rw [List.map_cons, List.sum_cons, h1, List.length_cons]
      show 1 + _ = _
      omega
    · rw [join_flat]
      intro x hx
      rcases List.mem_cons.mp (show x ∈ c :: (ys.map fun y => y.cps.toList).flatten from hx) with e | e
      · subst e; exact hc
      · exact h2 x e
    · rw [len_toList, join_flat]
      show (c :: (ys.map fun y => y.cps.toList).flatten).length = _
      rw [List.length_cons, h3, List.length_cons]
    · rw [List.length_cons, h4, List.length_cons]
def preWords (ds : List D) (w : Wl) : Prop := ∃ (p : Addr) (n : Int), ds = [.ptr p, .int n] ∧ 0 ≤ n ∧ n ≤ 12 ∧ Pl w p w
def postWords (ds : List D) (w : Wl) (d : D) (w' : Wl) : Prop := ∀ p n, ds = [.ptr p, .int n] → Pl w p w' ∧ ∃ xs : List Str, d = .lst (xs.map D.str) ∧ (xs.length : Int) = n ∧ wordsOk xs
def preP1 (ds : List D) (w : Wl) : Prop := ∃ p : Addr, ds = [.ptr p] ∧ Pl w p w
def postOften (ds : List D) (w : Wl) (d : D) (w' : Wl) : Prop := ∀ p, ds = [.ptr p] → Pl w p w' ∧ ∃ k : Int, d = .int k ∧ 1 ≤ k ∧ k ≤ 10 ^ 30

/-! ### bags: names ascending, counts between 1 and 10 ** 30 -/
theorem str_lt_of {a b : List Nat} (h : ¬ b < a) (n : a ≠ b) : a < b := by
  rcases List.le_iff_lt_or_eq.mp (List.not_lt.mp h) with q | q
  · exact q
  · exact absurd q n
def asc (ys : List Str) : Prop := ys.Pairwise fun a b => a.cps.toList < b.cps.toList
def bagE (pr : Str × Int) : D := .tup [.str pr.1, .int pr.2]
/-- counts as the laws build them -/
def Bg (ds : List D) : Prop := ∃ prs : List (Str × Int), ds = prs.map bagE ∧ asc (prs.map (·.1)) ∧ (∀ pr ∈ prs, nameS pr.1 = true ∧ 1 ≤ pr.2 ∧ pr.2 ≤ 10 ^ 30) ∧ prs.length ≤ 12
theorem fineA_of {ds : List D} (h : ∀ d ∈ ds, fine d = true) : fineA ds = true := by
  induction ds with
  | nil => simp [fineA]
  | cons d r ih => simp only [fineA, Bool.and_eq_true]; exact ⟨h d (List.mem_cons_self ..), ih fun q hq => h q (List.mem_cons_of_mem _ hq)⟩
theorem Bg.fine {ds : List D} (h : Bg ds) : fineA ds = true := by
  obtain ⟨prs, rfl, ha, hp, hl⟩ := h
  refine fineA_of fun d hd => ?_
  obtain ⟨pr, hpr, rfl⟩ := List.mem_map.mp hd
  have q := nameS_fine (hp pr hpr).1
  unfold bagE
  simp only [DL.fine, fineA, Bool.and_true]
  simpa [DL.fine] using q
theorem log2_30 {n : Int} (h0 : 0 ≤ n) (h1 : n ≤ 10 ^ 30) : n.natAbs.log2 < 1900 := by
  have h : n.natAbs ≤ 10 ^ 30 := by
    have e : ((10 ^ 30 : Nat) : Int) = (10 : Int) ^ 30 := by decide +kernel
    omega
  rcases Nat.eq_zero_or_pos n.natAbs with e | e
  · rw [e]; decide
  · refine Nat.lt_of_lt_of_le ((Nat.log2_lt (by omega)).mpr (show n.natAbs < 2 ^ 100 from Nat.lt_of_le_of_lt h (by decide +kernel))) (by decide)
/-- the pool at p, all else that was owned as before -/
def Pm (w : Wl) (p : Addr) (w' : Wl) : Prop := Pl w' p w' ∧ ∀ q, q ≠ p → w q ≠ none → w' q = w q
theorem Pm.of {w w' : Wl} {p : Addr} (h : Pl w p w') : Pm w p w' := ⟨h.self, fun q n _ => h.ne n⟩
theorem Pm.trans {w w1 w2 : Wl} {p : Addr} (h : Pm w p w1) (g : Pm w1 p w2) : Pm w p w2 :=
  ⟨g.1, fun q n e => by
    have e1 := h.2 q n e
    rw [g.2 q n (by rw [e1]; exact e), e1]⟩
theorem Pm.put {w w1 : Wl} {p q : Addr} {c : DL.Cl} (h : Pm w p w1) (n : q ≠ p) (f : w q = none) : Pm w p (put w1 q c) := by
  refine ⟨?_, fun r hr e => ?_⟩
  · obtain ⟨a, b, c', e, h1, h2, h3⟩ := h.1.at
    exact Pl.of (by rw [put_ne (Ne.symm n)]; exact e) h1 h2 h3
  · have : r ≠ q := fun z => e (z ▸ f)
    rw [put_ne this]
    exact h.2 r hr e
def preBag (ds : List D) (w : Wl) : Prop := ∃ (p : Addr) (xs : List Str) (m : Int), ds = [.ptr p, .lst (xs.map D.str), .int m] ∧ wordsOk xs ∧ xs.length ≤ 12 ∧ 0 ≤ m ∧ m ≤ 10 ^ 30 ∧ Pl w p w
def postBag (ds : List D) (w : Wl) (d : D) (w' : Wl) : Prop := ∀ p xs m, ds = [.ptr p, .lst xs, .int m] → Pm w p w' ∧ ∃ b, d = .tup b ∧ Bg b
section
variable {K : PySem.W.Frag}
/-- a number of arrivals, from outside -/
theorem ev_often {W : XK} {δ : Dlt} {w : Wl} {Pd : PD} {Z : ZD} {E' : XK} {t : TA} (h : EvA K W t δ w (fun ds w1 => ∃ p : Addr, ds = [.ptr p] ∧ Pl w1 p w1 ∧ ∀ (w2 : Wl) (k : Int), Pl w1 p w2 → 1 ≤ k → k ≤ 10 ^ 30 → Pd (.int k) w2) Z) : Ev K W (tCall (SpD K preP1 postOften zN) [] E' t) δ w Pd Z :=
  ev_call fun σ H s Q q z => h σ H s Q (fun v H' d w' e c r p => q v H' d w' e c r (by
    obtain ⟨p, rfl, h3, h4⟩ := p
    exact ⟨⟨p, rfl, h3⟩, fun d w2 pd => by
      obtain ⟨g1, k, rfl, g2, g3⟩ := pd p rfl
      exact h4 w2 k g1 g2 g3⟩)) z
end
theorem log2_le30 {n : Int} (h0 : 0 ≤ n) (h1 : n ≤ 10 ^ 30) : n.natAbs.log2 < 9000 := Nat.lt_trans (log2_30 h0 h1) (by decide)
def okWhole : List D → Prop | [.int _, .int _] => True | _ => False
def fWhole : List D → D | [.int a, .int b] => .bl (decide (a = b)) | _ => .non
/-- counts that are held against the program's own -/
def okBR : List D → Prop | [.tup ds, .lst xs] => (okBag [.tup ds] ∧ DL.wr (.tup ds) ∧ (ds.map nmD).Nodup) ∧ xs.length ≤ 100 ∧ ∀ x ∈ xs, nameD x = true | _ => False
def fTrue : List D → D | _ => .bl true
theorem asc_nodup {ys : List Str} (h : asc ys) : ys.Nodup := by
  refine List.Pairwise.imp ?_ h
  intro a b q e
  rw [e] at q
  exact absurd q (List.lt_irrefl _)
theorem Bg.nodup {ds : List D} (h : Bg ds) : (ds.map nmD).Nodup := by
  obtain ⟨prs, rfl, ha, hp, hl⟩ := h
  rw [List.map_map]
  exact asc_nodup ha
section
variable {K : PySem.W.Frag}
/-- words, from outside -/
theorem ev_words {W : XK} {δ : Dlt} {w : Wl} {Pd : PD} {Z : ZD} {E' : XK} {t : TA} (h : EvA K W t δ w (fun ds w1 => ∃ (p : Addr) (n : Int), ds = [.ptr p, .int n] ∧ 0 ≤ n ∧ n ≤ 12 ∧ Pl w1 p w1 ∧ ∀ (w2 : Wl) (xs : List Str), Pl w1 p w2 → wordsOk xs → (xs.length : Int) = n → Pd (.lst (xs.map D.str)) w2) Z) : Ev K W (tCall (SpD K preWords postWords zN) [] E' t) δ w Pd Z :=
  ev_call fun σ H s Q q z => h σ H s Q (fun v H' d w' e c r p => q v H' d w' e c r (by
    obtain ⟨p, n, rfl, h3, h4, h5, h6⟩ := p
    exact ⟨⟨p, n, rfl, h3, h4, h5⟩, fun d w2 pd => by
      obtain ⟨g1, xs, rfl, g2, g3⟩ := pd p n rfl
      exact h6 w2 xs g1 g3 g2⟩)) z
end
def preRight (ds : List D) (w : Wl) : Prop := ∃ p : Addr, ds = [.ptr p] ∧ Pl w p w
def postRight (ds : List D) (w : Wl) (d : D) (w' : Wl) : Prop := d = .bl true ∧ ∀ p, ds = [.ptr p] → Pm w p w'
def preCell (K : PySem.W.Frag) (ds : List D) (w : Wl) : Prop := ∃ (a : Addr) (ns : List Int) (k : Nat), ds = [.ptr a, .int k] ∧ k ≤ 100 ∧ ns.length ≤ 100000 ∧ Scr K w a ns
def postInt (_ : List D) (w : Wl) (d : D) (w' : Wl) : Prop := w' = w ∧ ∃ i : Int, d = .int i
theorem Bg.of {prs : List (Str × Int)} (h1 : asc (prs.map (·.1))) (h2 : prs.all (fun pr => nameS pr.1 && (decide (1 ≤ pr.2) && decide (pr.2 ≤ 10 ^ 30))) = true) (h3 : prs.length ≤ 12) : Bg (prs.map bagE) :=
  ⟨prs, rfl, h1, fun pr hp => by
    have q := List.all_eq_true.mp h2 pr hp
    obtain ⟨q1, q2⟩ := Bool.and_eq_true_iff.mp q
    obtain ⟨q2, q3⟩ := Bool.and_eq_true_iff.mp q2
    exact ⟨q1, of_decide_eq_true q2, of_decide_eq_true q3⟩, h3⟩
def twelve : List (Str × Int) := [("a", 10 ^ 30), ("b", 10 ^ 30), ("c", 10 ^ 30), ("d", 10 ^ 30), ("e", 10 ^ 30), ("f", 10 ^ 30), ("g", 10 ^ 30), ("h", 10 ^ 30), ("i", 10 ^ 30), ("j", 10 ^ 30), ("k", 10 ^ 30), ("l", 10 ^ 30)]
def withC (n : Int) : D → D | .str x => .tup [.str x, .int n] | _ => .non
end LW
set_option Elab.async false
set_option linter.all false
set_option autoImplicit false
set_option maxRecDepth 100000
set_option maxHeartbeats 4000000
/-! LE: a law's end, for promises of defs that know the guards around them. -/
namespace LW
open PySem PySem.Spec PyProof.Rows L2 DL
def preLaw (K : PySem.W.Frag) (ds : List D) (w : Wl) : Prop := ∃ (a : Addr) (ns : List Int), ds = [.ptr a] ∧ ns.length ≤ 100000 ∧ Scr K w a ns
def postLaw (_ : List D) (_ : Wl) (d : D) (_ : Wl) : Prop := d = .bl true
/-- what is known of the heap at the start: the script, if the written part doesn't tell of it -/
def hp0 (K : PySem.W.Frag) (a : Addr) (o : Obj) (ns : List Int) : Hp := fun b => if b = a ∧ K.lookup a = none then some (.frz o (.lst (ns.map V.int))) else none
def st0 (K : PySem.W.Frag) (a : Addr) (ns : List Int) : Wl := fun b => if b = a ∧ K.lookup a = none then some (.scr ns) else none
section
variable {P : Program} {wo : World} {K : PySem.W.Frag} {mg mb : Str → Option Value} {k : Nat} {fa a : Addr} {fd : FuncData} {x : Str} {sh : Shared} {vs : List Value} {ns : List Int}
theorem hp0_some {o : Obj} {b : Addr} {u : HO} (h : hp0 K a o ns b = some u) : b = a ∧ K.lookup a = none ∧ u = .frz o (.lst (ns.map V.int)) := by
  unfold hp0 at h
  by_cases q : b = a ∧ K.lookup a = none
  · rw [if_pos q] at h
    exact ⟨q.1, q.2, (Option.some.inj h).symm⟩
  · rw [if_neg q] at h; cases h
end
theorem dn_of {K : PySem.W.Frag} {h : Heap} {mg : Str → Option Value} {name : Str} {st : Stmt} {f : Addr} {oc kV dc pm cd ct : Value} {od an : Option Addr} {sl : Array (Option Value)} (X : K.In h) (G : h.Ns mainGlobals mg)
    (a1 : PySem.W.nsIn K mainGlobals name = some (some (.ref f)))
    (a2 : K.lookup f = some ⟨oc, od, .func (PySem.W.fnOf name name (defArgs st) (defBody st) (defScope st) .none kV dc pm an cd ct), sl⟩)
    (a3 : PySem.W.codeIn K cd name = true) (a4 : PySem.W.keepIn K (.ref f) = true) : Dn K mg name st :=
  ⟨f, _, fun_mk a2 a3 a4, PySem.W.mg_of X G a1⟩
theorem gn_end {P : Program} {wo : World} {K : PySem.W.Frag} {mg : Str → Option Value} {k : Nat} {name x : Str} {st : Stmt} {sp : Sp} {fa : Addr} {Bs : Heap → Prop} (h : ∀ base, Bs base → Fk P wo K mg base CX0 k name st [x] sp) (d : Dn K mg name st) (b : BindP name st [x]) (e : mg name = some (.ref fa)) :
    ∃ fd : FuncData, Binds K fd [x] [] ∧ ∀ base, Bs base → Gn P wo K mg base CX0 k fa fd [x] sp := by
  obtain ⟨f, fd, F, m⟩ := d
  have e' := e.symm.trans m
  cases e'
  refine ⟨fd, F.binds b, fun base hb => ?_⟩
  obtain ⟨f2, fd2, g⟩ := h base hb
  have e' := e.symm.trans g.nm
  cases e'
  obtain ⟨oc, od, kV, doc, pm, an, cdv, ct, osl, rfl, lk, _⟩ := F.ex
  obtain ⟨oc2, od2, kV2, doc2, pm2, an2, cdv2, ct2, osl2, rfl, lk2, _⟩ := g.fn.ex
  rw [lk] at lk2
  injection lk2 with z
  injection z with _ _ z3
  injection z3 with z4
  rw [z4]
  exact g.gn
theorem ki_of {K : PySem.W.Frag} {h : Heap} {mg : Str → Option Value} {name : Str} {i : Int} {u : Tok} (X : K.In h) (G : h.Ns mainGlobals mg) (e : PySem.W.nsIn K mainGlobals name = some (some (.int i u))) : ∃ u, mg name = some (.int i u) := ⟨u, PySem.W.mg_of X G e⟩
end LW
set_option Elab.async false
set_option linter.all false
set_option autoImplicit false
set_option maxRecDepth 100000
set_option maxHeartbeats 4000000
/-! DL19: what the top has left of a class. -/
namespace LW
open PySem PySem.Spec PyProof.Rows L2 DL
end LW
set_option Elab.async false
set_option linter.all false
set_option autoImplicit false
set_option maxRecDepth 100000
set_option maxHeartbeats 4000000
/-! DL22: an instance made with its last argument left out, an empty tuple. -/
namespace DL
open PySem PySem.Spec PyProof.Rows L2
structure ME0 (K : PySem.W.Frag) (C : Addr) (m qual : Str) (st : Stmt) (a0 f : Addr) (fd : FuncData) : Prop where
  ex : ∃ (oc : Value) (od : Option Addr) (T : Addr) (o : Obj) (n : Nat) (kV doc pm : Value) (an : Option Addr) (cdv ct : Value) (osl : Array (Option Value)),
    fd = PySem.W.fnOf m qual (defArgs st) (defBody st) (defScope st) (.ref T) kV doc pm an cdv ct ∧ K.lookup f = some ⟨oc, od, .func fd, osl⟩ ∧ K.lookup T = some o ∧ o.data = .seq #[.ref a0] n
  at_ : PySem.W.findIn K (.ref C) m = some (some (.ref f))
  emp : ∀ H : Hp, SqT K H a0 []
def ME (K : PySem.W.Frag) (C : Addr) (m qual : Str) (st : Stmt) (a0 : Addr) : Prop := ∃ f fd, ME0 K C m qual st a0 f fd
abbrev BindP1 (name qual : Str) (st : Stmt) (ps : List Str) : Prop := ∀ (T : Addr) (u kV doc pm : Value) (an : Option Addr) (cdv ct : Value) (us : List Value), (us ++ [u]).length = ps.length →
  ∃ k : Option (Array Value) → Sem (List (Str × Value)), bindArgs (PySem.W.fnOf name qual (defArgs st) (defBody st) (defScope st) (.ref T) kV doc pm an cdv ct) ⟨us, []⟩ = seqItems? (.ref T) >>= k ∧ k (some #[u]) = pure (ps.zip (us ++ [u]))
section
variable {X : Cx} {CX : CXT} {k : Nat} {C a0 : Addr} {x : Str} {ps : List Str} {sp : Sp} {E : XK} {p pos : Pos} {e : Expr} {es : List Expr} {t : TA} {qual : Str} {st : Stmt}
end
section
variable {K : PySem.W.Frag} {W : XK} {δ : Dlt} {w : Wl} {P : PD} {Z : ZD} {C a0 : Addr}
end
end DL
set_option Elab.async false
set_option linter.all false
set_option autoImplicit false
set_option maxRecDepth 100000
set_option maxHeartbeats 4000000
/-! DL20: while; a walk over a dict that stands locked; dict(d), list(d), min of a list. -/
namespace DL
open PySem PySem.Spec PyProof.Rows L2
section
variable {K : PySem.W.Frag} {W : XK} {δ : Dlt} {w : Wl} {P : PD} {Z : ZD} {ta tb te td ty : TE} {tt : TT} {ts tu : TS} {g : TG}
/-- while -/
theorem sd_while {nx : Dlt → Wl → Prop} {rt : PD} {bk ct : Dlt → Wl → Prop} {rz : ZD} (I : Nat → Dlt → Wl → Prop) (i0 : ∃ m, I m δ w) (it : ∀ m δ' w', I m δ' w' → EvT K W tt δ' w' (fun b w1 => if b = true then Sd K W ts δ' w1 ⟨fun δ2 w2 => ∃ m', m' < m ∧ I m' δ2 w2, rt, nx, fun δ2 w2 => ∃ m', m' < m ∧ I m' δ2 w2, rz⟩ else nx δ' w1) rz) :
    Sd K W (tWhile tt ts) δ w ⟨nx, rt, bk, ct, rz⟩ := by
  intro σ H s Dn ke
  obtain ⟨m0, i0⟩ := i0
  refine ⟨fun m σ' H' => ∃ δ' w', Ex (msk w H) (msk w' H') ∧ Sat K σ' H' δ' w' ∧ I m δ' w', ⟨m0, δ, w, Ex.refl _, s, i0⟩, ?_⟩
  rintro m σ' H' ⟨δ', w', e', s', i'⟩
  refine it m δ' w' i' σ' H' s' _ (fun v H1 b w1 e1 c1 r1 h1 => ?_) (ke.rz.next e')
  subst r1
  have e01 := e'.trans e1
  cases v with
  | true =>
    rw [if_pos rfl] at h1 ⊢
    refine ⟨fun σ2 H2 => ∃ m', m' < m ∧ ∃ δ2 w2, Ex (msk w H) (msk w2 H2) ∧ Sat K σ2 H2 δ2 w2 ∧ I m' δ2 w2, fun σ2 H2 h => h, ?_⟩
    refine h1 σ' H1 (s'.next e1 c1) _ ⟨fun σ2 H2 δ2 w2 e2 s2 ⟨m', hm, i2⟩ => ⟨m', hm, δ2, w2, e01.trans e2, s2, i2⟩, KqG.next ke.rt e01, fun σ2 H2 δ2 w2 e2 s2 k => ke.nx σ2 H2 δ2 w2 (e01.trans e2) s2 k, fun σ2 H2 δ2 w2 e2 s2 ⟨m', hm, i2⟩ => ⟨m', hm, δ2, w2, e01.trans e2, s2, i2⟩, ke.rz.next e01⟩
  | false =>
    rw [if_neg (by decide)] at h1 ⊢
    exact ke.nx σ' H1 δ' w1 e01 (s'.next e1 c1) h1
/-! ### a dict that is walked -/
def IsF (c : Cl) (kvs : List (Key × D)) : Prop := ∃ o ks, c = .dF o ks kvs
end
end DL
set_option Elab.async false
set_option linter.all false
set_option autoImplicit false
set_option maxRecDepth 100000
set_option maxHeartbeats 4000000
/-! DL21: dict(d), list(d), min(xs), xs[::-1], a, b = xs, in a dict. -/
namespace DL
open PySem PySem.Spec PyProof.Rows L2
def rDictD : List V → Hp → VK → Prop := fun xs H Q => ∃ (a : Addr) (kvs : List (Key × V)), xs = [.ref a] ∧ Rd H a (.dK kvs) ∧ ∀ p, H p = none → Q (.ref p) (upd H p (.dK kvs))
def rListDK : List V → Hp → VK → Prop := fun xs H Q => ∃ (a : Addr) (kvs : List (Key × V)), xs = [.ref a] ∧ Rd H a (.dK kvs) ∧ ∀ p, H p = none → Q (.ref p) (upd H p (.lst (kvs.map fun kv => kV kv.1)))
section
variable {X : Cx} {K : PySem.W.Frag} {e o i : Expr} {es : List Expr} {t : TA} {td ty te : TE} {p pos : Pos}
end
section
variable {K : PySem.W.Frag} {W : XK} {δ : Dlt} {w : Wl} {P : PD} {Z : ZD} {te : TE}
end
def kgR {α : Type} : List α → List α → List α
  | [], [a, b, c] => [c, b, a]
  | _, _ => []
end DL
set_option Elab.async false
set_option linter.all false
set_option autoImplicit false
set_option maxRecDepth 100000
set_option maxHeartbeats 4000000
/-! DL23: list(d.values()), d[k] -= n, del d[k]. -/
namespace DL
open PySem PySem.Spec PyProof.Rows L2
/-- list(e.values()) -/
def tListVals (te : TE) : TE := fun σ H Q => te σ H fun x H1 => ∃ (d : Addr) (kvs : List (Key × V)), x = .ref d ∧ H1 d = some (.dK kvs) ∧ ∀ p, H1 p = none → Q (.ref p) (upd H1 p (.lst (kvs.map (·.2))))
section
variable {X : Cx} {e o i value : Expr} {te td ty tv : TE} {p apos cpos pos tpos : Pos}
end
section
variable {K : PySem.W.Frag} {W : XK} {δ : Dlt} {w : Wl} {P : PD} {Z : ZD} {td ty tv te : TE}
end
end DL
set_option Elab.async false
set_option linter.all false
set_option autoImplicit false
set_option maxRecDepth 100000
set_option maxHeartbeats 4000000
/-! DL24: tuples known to be bare: made of a list, seen as tuples. -/
namespace DL
open PySem PySem.Spec PyProof.Rows L2
section
variable {K : PySem.W.Frag} {G : Hp}
end
section
variable {K : PySem.W.Frag} {W : XK} {δ : Dlt} {w : Wl} {P : PD} {Z : ZD} {te : TE}
end
def rTupB (K : PySem.W.Frag) : List V → Hp → VK → Prop := fun xs H Q => ∃ p ys, xs = [.ref p] ∧ SqL K H p ys ∧ ∀ l o, H l = none → o.dict = none → Q (.ref l) (upd H l (.frz o (.tup ys)))
section
variable {X : Cx} {K : PySem.W.Frag} {e : Expr} {es : List Expr} {t : TA} {p pos : Pos}
end
section
variable {K : PySem.W.Frag} {w : Wl} {P : PD}
end
/-! dict(t) of a bare tuple of pairs -/
def rDictB (K : PySem.W.Frag) : List V → Hp → VK → Prop := fun xs H Q => ∃ (a : Addr) (ps : List Addr) (kvs : List (Key × V)), xs = [.ref a] ∧ Bare K H a ∧ SqT K H a (ps.map V.ref) ∧ Paired (fun p kv => SqT K H p [kV kv.1, kv.2]) ps kvs ∧
  ∀ p, H p = none → Q (.ref p) (upd H p (.dK (mergeK [] kvs)))
section
variable {X : Cx} {K : PySem.W.Frag} {e : Expr} {es : List Expr} {t : TA} {p pos : Pos}
end
section
variable {K : PySem.W.Frag} {w : Wl} {P : PD}
end
end DL
set_option Elab.async false
set_option linter.all false
set_option autoImplicit false
set_option maxRecDepth 100000
set_option maxHeartbeats 4000000
/-! DL25: written tuples known to be bare; an instance made with a bare default. -/
namespace DL
open PySem PySem.Spec PyProof.Rows L2
def tTupB (t : TA) : TE := fun σ H Q => t σ H fun xs H1 => xs.length ≤ sizeLine ∧ ∀ p o, H1 p = none → o.dict = none → Q (.ref p) (upd H1 p (.frz o (.tup xs)))
section
variable {X : Cx} {es : List Expr} {t : TA} {pos : Pos}
end
section
variable {K : PySem.W.Frag} {W : XK} {δ : Dlt} {w : Wl} {P : PD} {Z : ZD}
end
/-- the default, known to be bare -/
structure MEB (K : PySem.W.Frag) (C : Addr) (m qual : Str) (st : Stmt) (a0 : Addr) : Prop where
  me : ME K C m qual st a0
  ba : ∃ o, K.lookup a0 = some o ∧ o.dict = none
theorem MEB.emp {K : PySem.W.Frag} {C a0 : Addr} {m qual : Str} {st : Stmt} (h : MEB K C m qual st a0) : ∀ H : Hp, SqT K H a0 [] := by
  obtain ⟨⟨_, _, h⟩, _⟩ := h
  exact h.emp
section
variable {K : PySem.W.Frag} {W : XK} {δ : Dlt} {w : Wl} {P : PD} {Z : ZD} {C a0 : Addr}
end
end DL
namespace DL
end DL
namespace DL
open PySem PySem.Spec PyProof.Rows L2
def rSlB (K : PySem.W.Frag) : V → Option Int → Option Int → Hp → VK → Prop := fun x lo hi H Q => ∃ a xs, x = .ref a ∧ SqT K H a xs ∧
  (HT.sIx xs.length 0 lo = 0 ∧ HT.sIx xs.length xs.length hi = xs.length → Q (.ref a) H) ∧ (¬ (HT.sIx xs.length 0 lo = 0 ∧ HT.sIx xs.length xs.length hi = xs.length) → ∀ p o, H p = none → o.dict = none → Q (.ref p) (upd H p (.frz o (.tup (cutV xs lo hi)))))
section
variable {X : Cx} {K : PySem.W.Frag}
end
end DL
set_option Elab.async false
set_option linter.all false
set_option autoImplicit false
set_option maxRecDepth 100000
set_option maxHeartbeats 4000000
/-! DL26: methods with one default, an int: called with it left out, called by keywords. -/
namespace DL
open PySem PySem.Spec PyProof.Rows L2
def MDI (K : PySem.W.Frag) (C : Addr) (m qual : Str) (st : Stmt) (i : Int) : Prop := ∃ f fd tk, MDD0 K C m qual st f fd (.int i tk)
structure KwD (g : {α : Type} → List α → α → List α) : Prop where
  rel : ∀ {α β : Type} {R : α → β → Prop} {us : List α} {vs : List β} {a : α} {b : β}, Paired R us vs → R a b → Paired R (g us a) (g vs b)
def kdA {α : Type} : List α → α → List α
  | [n], d => [n, d]
  | _, _ => []
def kdB {α : Type} : List α → α → List α
  | [t, n], _ => [n, t]
  | _, _ => []
def kdC {α : Type} : List α → α → List α
  | [n, t], _ => [n, t]
  | _, _ => []
def kdI {α : Type} : List α → α → List α
  | [i, n], d => [i, n, d]
  | _, _ => []
abbrev BindKD (name qual : Str) (st : Stmt) (ps ks : List Str) (g : {α : Type} → List α → α → List α) : Prop := ∀ (T : Addr) (a u kV doc pm : Value) (an : Option Addr) (cdv ct : Value) (ws : List Value), (a :: g ws u).length = ps.length →
  ∃ k : Option (Array Value) → Sem (List (Str × Value)), bindArgs (PySem.W.fnOf name qual (defArgs st) (defBody st) (defScope st) (.ref T) kV doc pm an cdv ct) ⟨[a], ks.zip ws⟩ = seqItems? (.ref T) >>= k ∧ k (some #[u]) = pure (ps.zip (a :: g ws u))
def tMethD (C : Addr) (m : Str) (sp : Sp) (g : {α : Type} → List α → α → List α) (i : Int) (E : XK) (ta : TE) (tk : TA) : TE := fun σ H Q => ta σ H fun x H1 => ∃ a dx fs, x = .ref a ∧ H1 a = some (.ins C dx fs) ∧ fs.lookup m = none ∧ tk σ H1 fun vs H2 => sp (x :: g vs (.int i)) H2 Q E
section
variable {X : Cx} {CX : CXT} {k : Nat} {C : Addr} {x m : Str} {ps ks : List Str} {sp : Sp} {E : XK} {p pos apos : Pos} {e o : Expr} {es : List Expr} {kws : List Keyword} {ta : TE} {t tk : TA} {qual : Str} {st : Stmt} {i : Int}
end
section
variable {K : PySem.W.Frag} {W : XK} {δ : Dlt} {w : Wl} {P : PD} {Z : ZD} {ta te : TE} {m : Str} {C : Addr} {i : Int}
end
end DL
namespace LW
open PySem PySem.Spec PyProof.Rows L2 DL
end LW
set_option Elab.async false
set_option linter.all false
set_option autoImplicit false
set_option maxRecDepth 100000
set_option maxHeartbeats 4000000
/-! EK: defs that may raise, their calls, on data. -/
namespace EX
open PySem PySem.Spec PyProof.Rows L2 DL LW
theorem passX {X : Cx} {E : XK} {E₁ : Value → Shared → Prop} (hs : X.stack = X.env :: X.outer) (hf : X.env.frame = some X.env.locals) (hex : X.ex = []) (hx : X.xe = fun e s' => wpAny (model X.prog X.w) X.A (leaving X.env e) (fun _ s'' => L2.CX X.prog X.w X.outer X.H_0 X.s_0 E e s'') E₁ s') :
    Passes (L2.CX X.prog X.w) X E := fun pins σ H s e s' I c => passes_call (takes_of hs hf hex hx) (fun _ _ _ _ h => h) pins σ H s e s' I c
section
variable {P : Program} {wo : World} {K : PySem.W.Frag} {mg : Str → Option Value} {base : Heap} {pre : List D → Wl → Prop} {post : List D → Wl → D → Wl → Prop} {zost : List D → Wl → ZD}
theorem fkX_ok {name : Str} {st : Stmt} {N ps : List Str} {k : Nat} (d : Dn K mg name st) (S : FnScope N ps (defScope st)) (hb : BindP name st ps) (hlen : ∀ ds w, pre ds w → ds.length = ps.length)
    (body : ∀ (f : Addr) (cdv : Value) (A : Around) (fr : List Env) (s : Shared) (H : Hp) (E : XK), A.guards = some [] → Room k (A.deeper (envOfC name (defScope st) s.heap.objs.size f cdv)) →
      ∃ t, PSs (cxOf (L2.CX P wo) P wo K mg base N name (defScope st) f cdv A fr s H E) (defBody st) t ∧ ∀ ds w, pre ds w → Sd K E t (startD N ds) w (endD post zost ds w)) : Fk P wo K mg base (L2.CX P wo) (k + 1) name st ps (SpD K pre post zost) := by
  obtain ⟨f, fd, F, m⟩ := d
  refine ⟨f, fd, ⟨?_, F, m, F.binds hb⟩⟩
  obtain ⟨oc, od, kV, doc, pm, an, cdv, ct, osl, rfl, lk, hcd⟩ := F.ex
  refine gn_of lk hcd S (fn_len hlen) fun A fr s H vs Q E hg hr h => ?_
  obtain ⟨ds, w, r, c, p, q, z⟩ := h
  obtain ⟨t, ht, hs⟩ := body f cdv A fr s H E hg hr
  exact ⟨t, ht, hs ds w p _ H (sat_start r c) _ (ke_of q z)⟩
end
/-- raise C(e) -/
def tRaise (C : Addr) (fld : Str) (te : TE) (E : XK) : TS := fun _ σ H => tEr C fld te σ H fun cls d H' => E cls d H'
def ErR (P : Program) (K : PySem.W.Frag) (mg : Str → Option Value) (C : Addr) (fld : Str) (st : Stmt) : Prop := ∃ (B newId iI : String) (bmB : List Value), ErC P K mg B newId iI bmB C fld st ∧ PySem.W.keepIn K (.ref C) = true
theorem ps_er {X : Cx} {E : XK} {E₁ : Value → Shared → Prop} {C : Addr} {fld x : Str} {st : Stmt} {e : Expr} {te : TE} {p pos rpos : Pos} {k : Nat} (c : ErR X.prog X.K X.mg C fld st) (hm : X.mg x = some (.ref C)) (hg : Gl X x) (hr : Room k X.A) (hc : X.calm = true)
    (hs : X.stack = X.env :: X.outer) (hf : X.env.frame = some X.env.locals) (hex : X.ex = []) (hx : X.xe = fun e s' => wpAny (model X.prog X.w) X.A (leaving X.env e) (fun _ s'' => L2.CX X.prog X.w X.outer X.H_0 X.s_0 E e s'') E₁ s') (he : PE X e te)
    (h1 : starEach [e] X.env = (false, eval e X.env) :: starEach [] X.env := by rfl) (hdb : (x == ("__debug__" : Str)) = false := by decide) : PS X (.Raise (some (.Call (.Name x p) [e] [] pos)) none rpos) (tRaise C fld te E) := by
  obtain ⟨B, newId, iI, bmB, c, kC⟩ := c
  exact ps_raise hc (takes_of hs hf hex hx) (pmk_er c kC hg hm (by have := hr.dp; omega) he h1 hdb)
section
variable {K : PySem.W.Frag} {W : XK} {δ : Dlt} {w : Wl} {P : PD} {Z : ZD} {te ta : TE} {m : Str} {C : Addr} {i : Int}
theorem xd_new {H : Hp} {dd : Addr} {n : Str} {v : V} {d : D} (c : Cells K w H) (r : Rp K (msk w H) v d) (hn : H dd = none) : Ex (msk w H) (msk w (upd H dd (.xd [(n, v)]))) ∧ Cells K w (upd H dd (.xd [(n, v)])) ∧ XdAt K (msk w (upd H dd (.xd [(n, v)]))) (upd H dd (.xd [(n, v)])) (some dd) [(n, d)] := by
  obtain ⟨c1, e1⟩ := c.grow (ex_new (o := .xd [(n, v)]) hn)
  exact ⟨e1, c1, [(n, v)], msk_of (c.free hn) upd_same, .cons n (r.mono e1) .nil⟩
theorem sd_raise {nx : Dlt → Wl → Prop} {rt : PD} {bk ct : Dlt → Wl → Prop} {rz : ZD} {fld : Str} (h : Ev K W te δ w (fun v w1 => rz (.ref C) [(fld, v)] w1) rz) : Sd K W (tRaise C fld te W) δ w ⟨nx, rt, bk, ct, rz⟩ :=
  fun σ H s Dn ke => h σ H s _ (fun v H1 d w1 e1 c1 r1 hz => fun dd hn => by
    obtain ⟨e2, c2, x2⟩ := xd_new (n := fld) c1 r1 hn
    exact ke.rz (.ref C) (some dd) _ _ w1 (e1.trans e2) c2 x2 hz) ke.rz
variable {pre : List D → Wl → Prop} {post : List D → Wl → D → Wl → Prop} {zost : List D → Wl → ZD}
end
end EX
set_option Elab.async false
set_option linter.all false
set_option autoImplicit false
set_option maxRecDepth 100000
set_option maxHeartbeats 4000000
/-! EL: laws whose defs make lambdas: their code objects' tables, the law's end. -/
namespace EX
open PySem PySem.Spec PyProof.Rows L2 DL LW
/-- where a def stands, its code object and that one's table -/
def DnL (K : PySem.W.Frag) (mg : Str → Option Value) (name : Str) (st : Stmt) (c T : Addr) : Prop := ∃ (f : Addr) (oc : Value) (od : Option Addr) (kV dc pm ct : Value) (an : Option Addr) (sl : Array (Option Value)),
  Fun K name name st f (PySem.W.fnOf name name (defArgs st) (defBody st) (defScope st) .none kV dc pm an (.ref c) ct) ∧ mg name = some (.ref f) ∧
  K.lookup f = some ⟨oc, od, .func (PySem.W.fnOf name name (defArgs st) (defBody st) (defScope st) .none kV dc pm an (.ref c) ct), sl⟩ ∧ PySem.W.codeIn K (.ref c) name = true
/-- the tables are owned -/
def TW (ts : List (Addr × Str)) (w : Wl) : Prop := ∀ p ∈ ts, w p.1 = some (.tab p.2)
theorem TW.keep {ts : List (Addr × Str)} {w w' : Wl} (h : TW ts w) (k : ∀ b, w b ≠ none → w' b = w b) : TW ts w' := fun p hp => by rw [k p.1 (by rw [h p hp]; simp)]; exact h p hp
theorem TW.put {ts : List (Addr × Str)} {w : Wl} {l : Addr} {c : Cl} (h : TW ts w) (hl : w l = none) : TW ts (put w l c) := fun p hp => by
  rw [put_ne (fun z => by have := h p hp; rw [z, hl] at this; cases this)]; exact h p hp
section
variable {P : Program} {wo : World} {K : PySem.W.Frag} {mg : Str → Option Value} {base : Heap} {pre : List D → Wl → Prop} {post : List D → Wl → D → Wl → Prop} {zost : List D → Wl → ZD}
theorem fkL_ok {name : Str} {st : Stmt} {N ps : List Str} {k : Nat} {c T : Addr} (d : DnL K mg name st c T) (S : FnScope N ps (defScope st)) (hb : BindP name st ps) (hlen : ∀ ds w, pre ds w → ds.length = ps.length)
    (body : ∀ (f : Addr) (A : Around) (fr : List Env) (s : Shared) (H : Hp) (E : XK), A.guards = some [] → Room k (A.deeper (envOfC name (defScope st) s.heap.objs.size f (.ref c))) →
      ∃ t, PSs (cxOf CX0 P wo K mg base N name (defScope st) f (.ref c) A fr s H E).nox (defBody st) t ∧ ∀ ds w, pre ds w → Sd K E0 t (startD N ds) w (endD post zN ds w)) : Fk P wo K mg base CX0 (k + 1) name st ps (SpD K pre post zN) := by
  obtain ⟨f, oc, od, kV, dc, pm, ct, an, sl, F, m, lk, hcd⟩ := d
  refine ⟨f, _, ⟨?_, F, m, F.binds hb⟩⟩
  refine gn_of lk hcd S (fn_len hlen) fun A fr s H vs Q E hg hr h => ?_
  obtain ⟨ds, w, r, c, p, q, z⟩ := h
  obtain ⟨t, ht, hs⟩ := body f A fr s H E hg hr
  exact ⟨t, ht.nox, hs ds w p _ H (sat_start r c) _ (ke_of q kz_none)⟩
end
def preLawT (K : PySem.W.Frag) (ts : List (Addr × Str)) (ds : List D) (w : Wl) : Prop := ∃ (a : Addr) (ns : List Int), ds = [.ptr a] ∧ ns.length ≤ 100000 ∧ Scr K w a ns ∧ TW ts w
/-- the heap and the store at the start: the tables, then what LE says of the script -/
def hpT (ts : List (Addr × Str)) (K : PySem.W.Frag) (a : Addr) (o : Obj) (ns : List Int) : Hp := fun b => if b ∈ ts.map (·.1) then some (.tbl #[]) else hp0 K a o ns b
def stT (ts : List (Addr × Str)) (K : PySem.W.Frag) (a : Addr) (ns : List Int) : Wl := fun b => match ts.lookup b with | some q => some (.tab q) | none => st0 K a ns b
section
variable {P : Program} {wo : World} {K : PySem.W.Frag} {mg mb : Str → Option Value} {k : Nat} {fa a : Addr} {fd : FuncData} {x : Str} {sh : Shared} {vs : List Value} {ns : List Int} {ts : List (Addr × Str)} {cs : List (Addr × Addr)}
theorem look_mem {b : Addr} : ∀ {ts : List (Addr × Str)}, (ts.lookup b).isSome = true ↔ b ∈ ts.map (·.1)
  | [] => by simp
  | (c, q) :: r => by
    have ih := look_mem (b := b) (ts := r)
    rw [List.lookup_cons, List.map_cons, List.mem_cons]
    by_cases h : b = c
    · subst h; simp
    · have : (b == c) = false := by simpa using h
      rw [this]
      simpa [h] using ih
theorem look_at {p : Addr × Str} : ∀ {ts : List (Addr × Str)}, (ts.map (·.1)).Nodup → p ∈ ts → ts.lookup p.1 = some p.2
  | [], _, h => (List.not_mem_nil h).elim
  | (c, q) :: r, nd, h => by
    rw [List.map_cons, List.nodup_cons] at nd
    rw [List.lookup_cons]
    rcases List.mem_cons.mp h with e | h
    · subst e; simp
    · have ne : (p.1 == c) = false := by
        have : p.1 ≠ c := fun z => nd.1 (by rw [← z]; exact List.mem_map.mpr ⟨p, h, rfl⟩)
        simpa using this
      rw [ne]
      exact look_at nd.2 h
theorem law_endT (hK : K.In sh.heap) (hm : sh.heap.Ns mainGlobals mg) (hbi : sh.heap.Ns builtinsNs mb) (hbo : ∀ y : Str, y ≠ "__name__" → mb y = bootBuiltins y) (hno : sh.heap.NoLimit) (hge : sh.gens = #[])
    (hT : ∀ p ∈ cs, sh.heap.get? p.2 = some { cls := .none, data := .fields #[] }) (nT : ∀ p ∈ cs, K.lookup p.2 = none) (cT : ∀ p ∈ cs, PySem.W.CodeHd sh.heap p.1 p.2) (same : cs.map (·.2) = ts.map (·.1)) (nd : (ts.map (·.1)).Nodup)
    (hbm : ∃ (bm : Addr) (ob : Obj), mg "__builtins__" = some (.ref bm) ∧ bm ≠ builtinsNs ∧ sh.heap.get? bm = some ob ∧ ob.cls = .type "module" ∧ ob.dict = some builtinsNs ∧ ob.data = .plain)
    (hob : sh.heap.get? a = some { cls := .type "list", data := .seq vs.toArray }) (hin : IntsAre vs ns) (hle : ns.length ≤ 100000) (hro : Room k callerA)
    (F : ∀ base : Heap, K.In base → base.Ns mainGlobals mg → (∀ p ∈ cs, LamX.TabB base mg p.1 p.2) → Gn P wo K mg base CX0 k fa fd [x] (SpD K (preLawT K ts) postLaw zN)) (hbd : L2.Binds K fd [x] []) :
    codeAny (model P wo) callerA (.call (.ref fa) ⟨[.ref a], []⟩) (fun r s' => r = .ok (.ret (.bool true)) ∧ OldK sh.heap s'.heap ∧ s'.os = sh.os ∧ AllBare s'.gens) sh := by
  have hv := vals_ints hin
  have hvl := hin.length
  have hsz : ns.length ≤ sizeLine := Nat.le_trans hle (by rw [sizeLine_eq]; decide)
  have isT : ∀ b, b ∈ ts.map (·.1) → sh.heap.get? b = some { cls := .none, data := .fields #[] } ∧ K.lookup b = none := fun b hb => by
    rw [← same] at hb
    obtain ⟨p, hp, e⟩ := List.mem_map.mp hb
    rw [← e]
    exact ⟨hT p hp, nT p hp⟩
  have aT : a ∉ ts.map (·.1) := fun z => by
    have q := (isT a z).1
    rw [hob] at q
    cases q
  let H : Hp := hpT ts K a { cls := .type "list", data := .seq vs.toArray } ns
  have hH : ∀ b, H b = if b ∈ ts.map (·.1) then some (.tbl #[]) else hp0 K a { cls := .type "list", data := .seq vs.toArray } ns b := fun b => rfl
  have hok : ∀ b u, H b = some u → (b ∈ ts.map (·.1) ∧ u = .tbl #[]) ∨ (b = a ∧ K.lookup a = none ∧ u = .frz { cls := .type "list", data := .seq vs.toArray } (.lst (ns.map V.int))) := fun b u z => by
    rw [hH] at z
    by_cases q : b ∈ ts.map (·.1)
    · rw [if_pos q] at z
      exact .inl ⟨q, (Option.some.inj z).symm⟩
    · rw [if_neg q] at z
      exact .inr (hp0_some z)
  have hokH : HOk P wo H sh.heap := fun b u z => by
    rcases hok b u z with ⟨q, rfl⟩ | ⟨rfl, _, rfl⟩
    · exact (isT b q).1
    · exact ⟨hob, by rw [List.length_map]; exact hsz, vs, _, hv, hob⟩
  have away : ∀ {b : Addr} {o : Obj}, sh.heap.get? b = some o → o.data ≠ .fields #[] → (b = a → K.lookup a ≠ none) → (hidT sh.heap H).get? b = some o := fun {b o} e n1 n => hidT_get e (by
    cases q : H b with
    | none => rfl
    | some u =>
      rcases hok b u q with ⟨z1, _⟩ | ⟨z1, z2, _⟩
      · rw [(isT b z1).1] at e
        cases e
        exact absurd rfl n1
      · exact absurd z2 (n z1))
  have dicts : ∀ {b : Addr} {m : Str → Option Value}, sh.heap.Ns b m → (hidT sh.heap H).Ns b m := fun {b m} ⟨o, es, ep, e, d, r⟩ => by
    refine ⟨o, es, ep, away e (fun z => by rw [d] at z; cases z) fun z => ?_, d, r⟩
    subst z
    rw [hob] at e
    cases e
    cases (show Data.seq vs.toArray _ = Data.dict es ep from d)
  have inK : K.In (hidT sh.heap H) := fun b o e => hidT_get (hK b o e) (by
    cases q : H b with
    | none => rfl
    | some u =>
      rcases hok b u q with ⟨z1, _⟩ | ⟨z1, z2, _⟩
      · rw [(isT b z1).2] at e; cases e
      · rw [z1, z2] at e; cases e)
  have md : Mod K mg (hidT sh.heap H) := ⟨inK, dicts hm, ⟨mb, dicts hbi, hbo⟩, by
    obtain ⟨mc, h1, h2⟩ := hno
    exact ⟨mc, dicts h1, h2⟩⟩
  have tabs : ∀ p ∈ cs, LamX.TabB (hidT sh.heap H) mg p.1 p.2 := fun p hp => by
    have hTp := hT p hp
    have nl : ∀ {b : Addr} {o : Obj}, sh.heap.get? b = some o → (∀ vs n, o.data ≠ .seq vs n) → o.data ≠ .fields #[] → (hidT sh.heap H).get? b = some o := fun {b o} e n1 n2 => away e n2 fun z => by
      subst z
      rw [hob] at e
      cases e
      exact absurd rfl (n1 _ _)
    refine ⟨?_, ?_, fun z => ?_⟩
    · obtain ⟨o, us, file, tf, flags, tg, inF, text, tt, e1, r1, r2, r3, r4⟩ := cT p hp
      refine ⟨o, us, file, tf, flags, tg, inF, text, tt, nl e1 (fun vs n z => by rw [r2] at z; cases z) (fun z => ?_), r1, r2, r3, r4⟩
      rw [r2] at z
      cases z
      simp at r3
    · obtain ⟨bm, ob, b1, b2, b3, b4, b5, b6⟩ := hbm
      refine ⟨bm, ob, b1, b2, fun q => ?_, fun q => ?_, nl b3 (fun vs n z => by rw [b6] at z; cases z) (fun z => by rw [b6] at z; cases z), b4, b5, b6⟩
      · obtain ⟨o, es, ep, e, hd, _⟩ := hm
        rw [q, e] at b3
        cases b3
        rw [hd] at b6
        cases b6
      · rw [q, hTp] at b3
        cases b3
        cases b6
    · obtain ⟨o, es, ep, e, hd, _⟩ := hm
      rw [z, hTp] at e
      cases e
      cases hd
  have env : Env0 P wo K mg (hidT sh.heap H) callerA [] sh H := ⟨rfl, md, fun b o e => of_hidT e, Nat.le_of_eq (hidT_size _ _), trivial, fun b z => (List.not_mem_nil (show b ∈ ([] : List Addr) from z)).elim, hokH, .of_eq hge⟩
  have stA : ∀ b, b ∉ ts.map (·.1) → stT ts K a ns b = st0 K a ns b := fun b hb => by
    unfold stT
    cases q : ts.lookup b with
    | none => rfl
    | some y => exact absurd (look_mem.mp (by rw [q]; rfl)) hb
  have pre : preLawT K ts [.ptr a] (stT ts K a ns) := by
    refine ⟨a, ns, rfl, hle, ?_, fun p hp => ?_⟩
    · cases q : K.lookup a with
      | none => exact .inr (by rw [stA a aT]; unfold st0; rw [if_pos ⟨rfl, q⟩])
      | some o =>
        have e := hK a o q
        rw [hob] at e
        cases e
        exact .inl fun H' => .inr ⟨_, vs.toArray, _, q, rfl, rfl, rfl, by rw [List.size_toArray, hvl]; exact hsz, by simpa using hv⟩
    · unfold stT
      rw [look_at nd hp]
  have cel : Cells K (stT ts K a ns) H := fun b c z => by
    by_cases q : b ∈ ts.map (·.1)
    · obtain ⟨y, hy⟩ := Option.isSome_iff_exists.mp (look_mem.mpr q)
      unfold stT at z
      rw [hy] at z
      cases z
      refine ⟨#[], by rw [hH, if_pos q], True.intro, fun p u hu => ?_⟩
      have hu : codeAmong p [] = some u := hu
      simp [codeAmong] at hu
    · rw [stA b q] at z
      unfold st0 at z
      by_cases q2 : b = a ∧ K.lookup a = none
      · rw [if_pos q2] at z
        cases z
        exact .inr ⟨_, by rw [hH, if_neg q]; unfold hp0; rw [if_pos q2]⟩
      · rw [if_neg q2] at z; cases z
  have promise : SpD K (preLawT K ts) postLaw zN [.ref a] H (fun v _ => v = .bl true) fun _ _ _ => False :=
    ⟨[.ptr a], stT ts K a ns, .cons (.ptr a) .nil, cel, pre, fun v _ d _ _ _ r p => by
      have p' : d = .bl true := p
      subst p'
      cases r
      rfl, kz_none⟩
  refine codeAny_mono ((F _ inK (dicts hm) tabs).go callerA [] sh H ⟨[.ref a], []⟩ [.ref a] [.ref a] _ _ rfl hro env (hbd sh [.ref a] hK rfl) (.cons rfl .nil) promise) fun r s' z => ?_
  match r, z with
  | .error e, z => exact (show False from z).elim
  | .ok (.ret u), z =>
    obtain ⟨v, H', os, bare, un, ok', rel, q⟩ := z
    have q' : v = .bl true := q
    subst q'
    obtain rfl : u = Value.bool true := rel
    have key : ∀ b o, b ∉ ts.map (·.1) → sh.heap.get? b = some o → s'.heap.get? b = some o := fun b o nb e => by
      cases q : H b with
      | none => exact un.keep b o e q (fun z => (List.not_mem_nil (show b ∈ ([] : List Addr) from z)).elim) (by simp)
      | some u =>
        rcases hok b u q with ⟨z1, _⟩ | ⟨_, _, rfl⟩
        · exact absurd z1 nb
        · have w1 := (hokH b _ q).1
          have w2 := (ok' b _ (un.frzs b _ _ q)).1
          rw [e] at w1
          cases w1
          exact w2
    have grown : ∀ p ∈ cs, ∃ more : Array Value, s'.heap.get? p.2 = some { cls := .none, data := .fields more } := fun p hp => by
      obtain ⟨more, z⟩ := un.tbls p.2 #[] (by rw [hH, if_pos (by rw [← same]; exact List.mem_map.mpr ⟨p, hp, rfl⟩)])
      exact ⟨_, ok' p.2 _ z⟩
    refine ⟨rfl, ⟨fun b o e => ?_, fun b o e => ?_⟩, os, bare⟩
    · by_cases hb : b ∈ ts.map (·.1)
      · rw [← same] at hb
        obtain ⟨p, hp, ep⟩ := List.mem_map.mp hb
        obtain ⟨more, hmo⟩ := grown p hp
        rw [← ep] at e ⊢
        rw [hT p hp] at e
        cases e
        exact .inr (.inl ⟨((cT p hp).tab (hT p hp)).isCodeTable, rfl, #[], more, rfl, by rw [Array.empty_append]; exact hmo⟩)
      · exact .inl (key b o hb e)
    · by_cases hb : b ∈ ts.map (·.1)
      · rw [← same] at hb
        obtain ⟨p, hp, ep⟩ := List.mem_map.mp hb
        obtain ⟨more, hmo⟩ := grown p hp
        rw [← ep]
        exact ⟨_, hmo⟩
      · exact ⟨o, key b o hb e⟩
end
/-- the table of the code object at c -/
def tabOf (K : PySem.W.Frag) (c : Addr) : Option Addr := match K.lookup c with
  | some ⟨_, _, .fields vs, _⟩ => (match (vs[11]? : Option Value) with | some (.ref T) => some T | _ => none)
  | _ => none
theorem dl_of {K : PySem.W.Frag} {h : Heap} {mg : Str → Option Value} {name : Str} {st : Stmt} {f c T : Addr} {oc kV dc pm ct : Value} {od an : Option Addr} {sl : Array (Option Value)} (X : K.In h) (G : h.Ns mainGlobals mg) (a1 : PySem.W.nsIn K mainGlobals name = some (some (.ref f)))
    (a2 : K.lookup f = some ⟨oc, od, .func (PySem.W.fnOf name name (defArgs st) (defBody st) (defScope st) .none kV dc pm an (.ref c) ct), sl⟩) (a3 : PySem.W.codeIn K (.ref c) name = true) (a4 : PySem.W.keepIn K (.ref f) = true) : DnL K mg name st c T :=
  ⟨f, oc, od, kV, dc, pm, ct, an, sl, fun_mk a2 a3 a4, PySem.W.mg_of X G a1, a2, a3⟩
/-- the goal that the head leaves, for a law with lambdas -/
theorem walk_endT {l : PySem.W.OpenLaw} {n k : Nat} {q : Program} {loose : List Str} {XP : (Str → Option Value) → Heap → Prop} {YP : World → Heap → Prop} {d : DefRec} {KK : Params → PySem.W.Frag} {x : Str} (most : l.most = some n) (few : n ≤ 100000) (nodef : d.params.defaults = []) (room : Room k callerA)
    (part : ∀ (wo : World) (h : Heap), YP wo h → (KK wo.params).In h)
    (F : ∀ (wo : World) (mg : Str → Option Value) (fa : Addr) (h : Heap), YP wo h → (KK wo.params).In h → h.Ns mainGlobals mg → mg d.name = some (.ref fa) →
      ∃ (fd : FuncData) (cs : List (Addr × Addr)) (ts : List (Addr × Str)), (∀ p ∈ cs, h.get? p.2 = some { cls := .none, data := .fields #[] }) ∧ (∀ p ∈ cs, (KK wo.params).lookup p.2 = none) ∧ (∀ p ∈ cs, PySem.W.CodeHd h p.1 p.2) ∧ cs.map (·.2) = ts.map (·.1) ∧ (ts.map (·.1)).Nodup ∧
        L2.Binds (KK wo.params) fd [x] [] ∧ ∀ base : Heap, (KK wo.params).In base → base.Ns mainGlobals mg → (∀ p ∈ cs, LamX.TabB base mg p.1 p.2) → Gn l.prog wo (KK wo.params) mg base CX0 k fa fd [x] (SpD (KK wo.params) (preLawT (KK wo.params) ts) postLaw zN)) :
    PySem.W.WalkO q loose XP YP l.row.toRowW d [] (fun f vs => PySem.call f vs) := by
  refine Att.attach_call most nodef fun wo s0 s1 mg mb fa o pm cd doc a vs ns G Y _ _ _ named seen nums len gens => ?_
  have inn := part wo _ Y
  obtain ⟨fd, cs, ts, hT, nT, cT, same, nd, bind, keeps⟩ := F wo mg fa _ Y inn G.T.g named
  exact law_endT inn G.T.g G.T.b G.T.builtins G.T.nolimit gens hT nT cT same nd G.T.bmain seen nums (Nat.le_trans len few) room keeps bind
end EX
set_option Elab.async false
set_option linter.all false
set_option autoImplicit false
set_option maxRecDepth 100000
set_option maxHeartbeats 4000000
/-! BH: tables of counts, runs. -/
namespace LW
open PySem PySem.Spec PyProof.Rows L2 DL
/-! ### a table of texts and ints -/
def putS (kvs : List (Str × Int)) (n : Str) (c : Int) : List (Str × Int) := if (kvs.any fun kv => decide (kv.1 = n)) = true then kvs.map (fun kv => if kv.1 = n then (kv.1, c) else kv) else kvs ++ [(n, c)]
def getS (kvs : List (Str × Int)) (n : Str) : Int := ((kvs.find? fun kv => decide (kv.1 = n)).map (·.2)).getD 0
theorem key_eq {a n : Str} : decide ((Sum.inr a : Key) = Sum.inr n) = decide (a = n) := by
  by_cases h : a = n
  · rw [decide_eq_true h, decide_eq_true (congrArg Sum.inr h)]
  · rw [decide_eq_false h, decide_eq_false fun z => h (Sum.inr.inj z)]
theorem any_ent {n : Str} : ∀ kvs : List (Str × Int), ((kvs.map entD).any fun kv => decide (kv.1 = Sum.inr n)) = kvs.any fun kv => decide (kv.1 = n)
  | [] => rfl
  | e :: r => by
    rw [List.map_cons, List.any_cons, List.any_cons, any_ent r]
    rw [show decide ((entD e).1 = Sum.inr n) = decide (e.1 = n) from key_eq]
theorem putD_ent {n : Str} {c : Int} {kvs : List (Str × Int)} : putD (kvs.map entD) (.inr n) (.int c) = (putS kvs n c).map entD := by
  unfold putD putS
  rw [any_ent]
  split
  · rw [List.map_map, List.map_map]
    refine List.map_congr_left fun e _ => ?_
    show (if (Sum.inr e.1 : Key) = Sum.inr n then ((Sum.inr e.1 : Key), D.int c) else entD e) = entD (if e.1 = n then (e.1, c) else e)
    by_cases h : e.1 = n
    · rw [if_pos h, if_pos (congrArg Sum.inr h)]
    · rw [if_neg h, if_neg fun z => h (Sum.inr.inj z)]
  · rw [List.map_append]; rfl
theorem valD_ent {n : Str} : ∀ kvs : List (Str × Int), (valD (kvs.map entD) (.inr n)).getD (.int 0) = .int (getS kvs n)
  | [] => rfl
  | e :: r => by
    have ih := valD_ent (n := n) r
    unfold valD getS at ih ⊢
    rw [List.map_cons, List.find?_cons, List.find?_cons, show decide ((entD e).1 = Sum.inr n) = decide (e.1 = n) from key_eq]
    cases decide (e.1 = n) with
    | true => rfl
    | false => exact ih
def addS (kvs : List (Str × Int)) (e : Str × Int) : List (Str × Int) := putS kvs e.1 (getS kvs e.1 + e.2)
def accS (prs : List (Str × Int)) : List (Str × Int) := prs.foldl addS []
theorem putS_len (kvs : List (Str × Int)) (n : Str) (c : Int) : kvs.length ≤ (putS kvs n c).length := by
  unfold putS
  split
  · rw [List.length_map]; exact Nat.le_refl _
  · rw [List.length_append]; omega
theorem fold_len : ∀ (prs kvs : List (Str × Int)), kvs.length ≤ (prs.foldl addS kvs).length
  | [], kvs => Nat.le_refl _
  | e :: prs, kvs => Nat.le_trans (putS_len ..) (fold_len prs _)
theorem acc_take {prs : List (Str × Int)} {i : Nat} {e : Str × Int} (h : prs[i]? = some e) : accS (prs.take (i + 1)) = addS (accS (prs.take i)) e := by
  unfold accS
  rw [List.take_add_one, h, List.foldl_append]
  rfl
theorem acc_le {prs : List (Str × Int)} (i : Nat) : (accS (prs.take i)).length ≤ (accS prs).length := by
  have e : accS prs = (prs.drop i).foldl addS (accS (prs.take i)) := by
    unfold accS
    rw [← List.foldl_append, List.take_append_drop]
  rw [e]
  exact fold_len ..
/-! ### a set of texts -/
abbrev entB (x : Str) : Key × D := (Sum.inr x, D.bl true)
def insS (ns : List Str) (n : Str) : List Str := if n ∈ ns then ns else ns ++ [n]
theorem any_entB {n : Str} : ∀ ns : List Str, ((ns.map entB).any fun kv => decide (kv.1 = Sum.inr n)) = decide (n ∈ ns)
  | [] => by simp
  | e :: r => by
    rw [List.map_cons, List.any_cons, any_entB r, show decide ((entB e).1 = Sum.inr n) = decide (e = n) from key_eq]
    by_cases h : e = n
    · subst h; simp
    · rw [decide_eq_false h, Bool.false_or]
      by_cases g : n ∈ r
      · rw [decide_eq_true g, decide_eq_true (List.mem_cons_of_mem _ g)]
      · rw [decide_eq_false g, decide_eq_false fun z => (List.mem_cons.mp z).elim (fun q => h q.symm) g]
theorem putD_entB {n : Str} {ns : List Str} : putD (ns.map entB) (.inr n) (.bl true) = (insS ns n).map entB := by
  unfold putD insS
  rw [any_entB]
  by_cases h : n ∈ ns
  · rw [if_pos (decide_eq_true h), if_pos h, List.map_map]
    refine List.map_congr_left fun e _ => ?_
    show (if (Sum.inr e : Key) = Sum.inr n then ((Sum.inr e : Key), D.bl true) else entB e) = entB e
    split <;> rfl
  · rw [if_neg (by simpa using h), if_neg h, List.map_append]; rfl
theorem insS_len (ns : List Str) (n : Str) : (insS ns n).length ≤ ns.length + 1 := by
  unfold insS
  split
  · omega
  · rw [List.length_append]; exact Nat.le_refl _
/-! ### orders -/
def goodRGo : Nat → List Str → List D → Option Nat
  | _, _, [] => none
  | i, ns, d :: ds => if i = 1000 ∨ pairD d = false then some i else if 12 < (insS ns (nmD d)).length then some i else goodRGo (i + 1) (insS ns (nmD d)) ds
def goodR (ds : List D) : Nat := (goodRGo 0 [] ds).getD ds.length
def okFineT : List D → Prop | [.tup ds] => fineA ds = true | _ => False
/-- all that was owned stays -/
def Keep (w w' : Wl) : Prop := ∀ q, w q ≠ none → w' q = w q
theorem Keep.refl (w : Wl) : Keep w w := fun _ _ => rfl
theorem Keep.trans {w w1 w2 : Wl} (h : Keep w w1) (g : Keep w1 w2) : Keep w w2 := fun q n => by
  have e := h q n
  rw [g q (by rw [e]; exact n), e]
theorem Keep.put {w w1 : Wl} {p : Addr} {c : DL.Cl} (h : Keep w w1) (f : w p = none) : Keep w (DL.put w1 p c) := fun q n => by
  have ne : q ≠ p := fun z => n (z ▸ f)
  rw [put_ne ne]
  exact h q n
def postRuns (ds : List D) (w : Wl) (d : D) (w' : Wl) : Prop := ∀ xs, ds = [.tup xs] → d = .int (goodR xs) ∧ Keep w w'
def okOrd : List D → Prop | [.tup ds] => fineA ds = true ∧ goodR ds = ds.length | _ => False
def postKeep (r : List D → D) (ds : List D) (w : Wl) (d : D) (w' : Wl) : Prop := d = r ds ∧ Keep w w'
def isOrderD : D → Bool | .tup ds => decide (goodR ds = ds.length) | _ => false
def fIsOrder : List D → D | [d] => .bl (isOrderD d) | _ => .non
/-- the pairs of a tuple of pairs -/
def prsOf (ds : List D) : List (Str × Int) := ds.map fun d => (nmD d, cntD d)
theorem prs_ent {ds : List D} (h : ∀ d ∈ ds, pairD d = true) {i : Nat} {d : D} (e : ds[i]? = some d) : ∃ n c, d = .tup [.str n, .int c] ∧ nameS n = true ∧ c ≥ 1 ∧ (prsOf ds)[i]? = some (n, c) := by
  obtain ⟨n, c, rfl, hn, hc⟩ := pairD_shape (h d (List.mem_of_getElem? e))
  refine ⟨n, c, rfl, hn, hc, ?_⟩
  unfold prsOf
  rw [List.getElem?_map, e]
  rfl
def okSum (ds : List D) (_ : Wl) : Prop := ∃ xs, ds = [.tup xs] ∧ (∀ d ∈ xs, pairD d = true) ∧ (accS (prsOf xs)).length < 64
/-- strictly ascending sums -/
def Sums (prs ys : List (Str × Int)) : Prop := ys.Perm (accS prs) ∧ asc (ys.map (·.1))
def postSum (ds : List D) (w : Wl) (d : D) (w' : Wl) : Prop := ∀ xs, ds = [.tup xs] → Keep w w' ∧ ∃ ys, d = .tup (ys.map DL.prD) ∧ Sums (prsOf xs) ys
theorem sums_of {prs ys : List (Str × Int)} (h : ys.Perm (accS prs)) (n : ((accS prs).map (·.1)).Nodup) (o : ys.Pairwise (fun e f => ¬ f.1.cps.toList < e.1.cps.toList)) : Sums prs ys := by
  refine ⟨h, ?_⟩
  have ny : (ys.map (·.1)).Nodup := (h.map (·.1)).nodup_iff.mpr n
  unfold asc
  rw [List.pairwise_map]
  have ny' := List.pairwise_map.mp ny
  refine List.Pairwise.imp₂ (R := fun e f => ¬ f.1.cps.toList < e.1.cps.toList) (S := fun e f => e.1 ≠ f.1) ?_ o ny'
  intro a b h1 h2
  exact str_lt_of h1 fun z => h2 (str_ext z)
theorem goodRGo_pairs : ∀ {ds : List D} {i : Nat} {ns : List Str}, goodRGo i ns ds = none → ∀ d ∈ ds, pairD d = true
  | [], _, _, _, d, h => nomatch h
  | x :: ds, i, ns, h, d, hd => by
    unfold goodRGo at h
    split at h
    · cases h
    · rename_i c
      split at h
      · cases h
      · rcases List.mem_cons.mp hd with rfl | hd
        · cases e : pairD d with
          | true => rfl
          | false => exact absurd (.inr e) c
        · exact goodRGo_pairs h d hd
theorem goodRGo_le : ∀ {ds : List D} {i j : Nat} {ns : List Str}, goodRGo i ns ds = some j → i ≤ j ∧ j < i + ds.length
  | [], _, _, _, h => by cases h
  | x :: ds, i, j, ns, h => by
    unfold goodRGo at h
    split at h
    · cases h; simp
    · split at h
      · cases h; simp
      · have := goodRGo_le h
        simp only [List.length_cons]
        omega
theorem goodR_none {ds : List D} (h : goodR ds = ds.length) : goodRGo 0 [] ds = none := by
  unfold goodR at h
  cases e : goodRGo 0 [] ds with
  | none => rfl
  | some j =>
    rw [e] at h
    have := goodRGo_le e
    have h' : j = ds.length := h
    omega
theorem ord_pairs {ds : List D} (h : goodR ds = ds.length) : ∀ d ∈ ds, pairD d = true := goodRGo_pairs (goodR_none h)
theorem goodRGo_room : ∀ {ds : List D} {i : Nat} {ns : List Str}, goodRGo i ns ds = none → i ≤ 1000 → i + ds.length ≤ 1000
  | [], _, _, _, h => by simpa using h
  | x :: ds, i, ns, h, hi => by
    unfold goodRGo at h
    split at h
    · cases h
    · rename_i c
      split at h
      · cases h
      · have h1 : i ≠ 1000 := fun z => c (.inl z)
        have := goodRGo_room h (by omega)
        simp only [List.length_cons]
        omega
theorem ord_len {ds : List D} (h : goodR ds = ds.length) : ds.length ≤ 1000 := by
  have := goodRGo_room (goodR_none h) (Nat.zero_le _)
  omega
/-! neighbours joined -/
def addJ (acc : List (Str × Int)) (e : Str × Int) : List (Str × Int) := match acc.getLast? with
  | some l => if l.1 = e.1 then acc.dropLast ++ [(e.1, l.2 + e.2)] else acc ++ [e]
  | none => acc ++ [e]
def joinS (prs : List (Str × Int)) : List (Str × Int) := prs.foldl addJ []
theorem addJ_len (acc : List (Str × Int)) (e : Str × Int) : (addJ acc e).length ≤ acc.length + 1 := by
  unfold addJ
  split
  · split
    · rw [List.length_append, List.length_dropLast]; simp
    · rw [List.length_append]; exact Nat.le_refl _
  · rw [List.length_append]; exact Nat.le_refl _
theorem foldJ_len : ∀ (prs acc : List (Str × Int)), (prs.foldl addJ acc).length ≤ acc.length + prs.length
  | [], acc => Nat.le_refl _
  | e :: prs, acc => by
    have h1 := foldJ_len prs (addJ acc e)
    have h2 := addJ_len acc e
    simp only [List.foldl_cons, List.length_cons]
    omega
theorem join_take {prs : List (Str × Int)} {i : Nat} {e : Str × Int} (h : prs[i]? = some e) : joinS (prs.take (i + 1)) = addJ (joinS (prs.take i)) e := by
  unfold joinS
  rw [List.take_add_one, h, List.foldl_append]
  rfl
theorem addJ_new {acc : List (Str × Int)} {e : Str × Int} (h : ∀ l, acc.getLast? = some l → l.1 ≠ e.1) : addJ acc e = acc ++ [e] := by
  unfold addJ
  split
  · rename_i l hl
    rw [if_neg (h l hl)]
  · rfl
theorem addJ_old {acc : List (Str × Int)} {n : Str} {k c : Int} (h : acc.getLast? = some (n, k)) : addJ acc (n, c) = acc.dropLast ++ [(n, k + c)] := by
  unfold addJ
  rw [h]
  exact if_pos rfl
theorem at_last {α : Type} {xs : List α} {x : α} (h : xs.getLast? = some x) : atI xs (-1) = some x ∧ ixN xs.length (-1) = some (xs.length - 1) := by
  have ne : xs ≠ [] := fun z => by rw [z] at h; cases h
  have pos : 0 < xs.length := List.length_pos_iff.mpr ne
  have e : ixN xs.length (-1) = some (xs.length - 1) := by
    unfold ixN
    rw [if_neg (by decide), if_pos (by omega)]
    congr 1
    omega
  refine ⟨?_, e⟩
  unfold atI
  rw [e]
  simp only [Option.bind_some]
  rw [← List.getLast?_eq_getElem?]
  exact h
def fShort : List D → D | [.tup ds] => .tup ((joinS (prsOf ds)).map DL.prD) | _ => .non
theorem set_last {α β : Type} {f : α → β} {xs : List α} {y : β} (h : xs ≠ []) : (xs.map f).set (xs.length - 1) y = xs.dropLast.map f ++ [y] := by
  obtain ⟨r, x, rfl⟩ : ∃ r x, xs = r ++ [x] := ⟨xs.dropLast, xs.getLast h, (List.dropLast_concat_getLast h).symm⟩
  rw [List.dropLast_concat, List.map_append, List.length_append]
  have e : r.length + [x].length - 1 = (r.map f).length := by simp
  rw [e, List.set_append_right _ _ (Nat.le_refl _), Nat.sub_self]
  rfl
/-! ### what the laws build: paths, tables -/
/-- runs of some words -/
def Runs (xs : List Str) (prs : List (Str × Int)) : Prop := ∀ pr ∈ prs, pr.1 ∈ xs ∧ nameS pr.1 = true ∧ 1 ≤ pr.2 ∧ pr.2 ≤ 10 ^ 30
def prePath (ds : List D) (w : Wl) : Prop := ∃ (p : Addr) (xs : List Str) (k m : Int), ds = [.ptr p, .lst (xs.map D.str), .int k, .int m] ∧ (∀ x ∈ xs, nameS x = true) ∧ 0 < xs.length ∧ xs.length ≤ 64 ∧ 0 ≤ k ∧ k ≤ 1000 ∧ 0 ≤ m ∧ m ≤ 10 ^ 30 ∧ Pl w p w
def postPath (ds : List D) (w : Wl) (d : D) (w' : Wl) : Prop := ∀ p xs k m, ds = [.ptr p, .lst (xs.map D.str), .int k, .int m] → Pm w p w' ∧ ∃ prs : List (Str × Int), d = .tup (prs.map DL.prD) ∧ Runs xs prs ∧ (prs.length : Int) ≤ k
theorem log2_1000 {n : Int} (h0 : 0 ≤ n) (h1 : n ≤ 10000) : n.natAbs.log2 < 9000 := by
  have p30 : (10000 : Int) ≤ 10 ^ 30 := by decide +kernel
  exact log2_le30 h0 (by omega)
theorem str_inj {xs ys : List Str} (h : xs.map D.str = ys.map D.str) : xs = ys := by
  induction xs generalizing ys with
  | nil => cases ys with
    | nil => rfl
    | cons _ _ => cases h
  | cons x xs ih => cases ys with
    | nil => cases h
    | cons y ys =>
      rw [List.map_cons, List.map_cons] at h
      injection h with h1 h2
      injection h1 with h1
      rw [h1, ih h2]
def preFlat (ds : List D) (w : Wl) : Prop := ∃ (l : Addr) (kvs : List (Str × Int)), ds = [.ptr l] ∧ w l = some (.dK (kvs.map entD)) ∧ kvs.length < 64 ∧ (kvs.map (·.1)).Nodup
def postFlat (ds : List D) (w : Wl) (d : D) (w' : Wl) : Prop := w' = w ∧ ∀ (l : Addr) (kvs : List (Str × Int)), ds = [.ptr l] → w l = some (.dK (kvs.map entD)) → ∃ ys : List (Str × Int), d = .tup (ys.map DL.prD) ∧ ys.Perm kvs ∧ asc (ys.map (·.1))
theorem getS_mem : ∀ {kvs : List (Str × Int)}, (kvs.map (·.1)).Nodup → ∀ e ∈ kvs, getS kvs e.1 = e.2
  | [], _, e, h => nomatch h
  | a :: kvs, nd, e, h => by
    rw [List.map_cons] at nd
    obtain ⟨n1, n2⟩ := List.nodup_cons.mp nd
    unfold getS
    rw [List.find?_cons]
    rcases List.mem_cons.mp h with rfl | h
    · rw [decide_eq_true rfl]; rfl
    · have ne : a.1 ≠ e.1 := fun z => n1 (z ▸ List.mem_map.mpr ⟨e, h, rfl⟩)
      rw [decide_eq_false ne]
      exact getS_mem n2 e h
end LW
set_option Elab.async false
set_option linter.all false
set_option autoImplicit false
set_option maxRecDepth 100000
set_option maxHeartbeats 4000000
/-! BI: sums and joined neighbours, their laws. -/
namespace LW
open PySem PySem.Spec PyProof.Rows L2 DL
/-! ### tables -/
theorem getS_put (kvs : List (Str × Int)) (n : Str) (c : Int) : getS (putS kvs n c) n = c := by
  have hm : ∀ kvs : List (Str × Int), (kvs.any fun kv => decide (kv.1 = n)) = true → getS (kvs.map (fun kv => if kv.1 = n then (kv.1, c) else kv)) n = c := by
    intro kvs
    induction kvs with
    | nil => intro h; cases h
    | cons e r ih =>
      intro h
      unfold getS at ih ⊢
      rw [List.map_cons, List.find?_cons]
      by_cases q : e.1 = n
      · rw [if_pos q, decide_eq_true (show (e.1, c).1 = n from q)]; rfl
      · rw [if_neg q, decide_eq_false q]
        rw [List.any_cons, decide_eq_false q, Bool.false_or] at h
        exact ih h
  have ha : ∀ kvs : List (Str × Int), (kvs.any fun kv => decide (kv.1 = n)) = false → getS (kvs ++ [(n, c)]) n = c := by
    intro kvs
    induction kvs with
    | nil => intro h; unfold getS; rw [List.nil_append, List.find?_cons, decide_eq_true rfl]; rfl
    | cons e r ih =>
      intro h
      rw [List.any_cons, Bool.or_eq_false_iff] at h
      unfold getS at ih ⊢
      rw [List.cons_append, List.find?_cons, h.1]
      exact ih h.2
  unfold putS
  split
  · rename_i h; exact hm kvs h
  · rename_i h; exact ha kvs (Bool.eq_false_iff.mpr h)
theorem acc_snoc (prs : List (Str × Int)) (e : Str × Int) : accS (prs ++ [e]) = addS (accS prs) e := by
  unfold accS
  rw [List.foldl_append]; rfl
theorem snoc_of_last {α : Type} {xs : List α} {x : α} (h : xs.getLast? = some x) : xs = xs.dropLast ++ [x] := by
  have ne : xs ≠ [] := fun z => by rw [z] at h; cases h
  have := List.dropLast_concat_getLast ne
  have e : xs.getLast? = some (xs.getLast ne) := List.getLast?_eq_some_getLast ne
  rw [e] at h
  cases h
  exact this.symm
theorem snoc_ind {α : Type} {P : List α → Prop} (h0 : P []) (h1 : ∀ r x, P r → P (r ++ [x])) : ∀ xs, P xs := by
  intro xs
  have : ∀ ys : List α, P ys.reverse := by
    intro ys
    induction ys with
    | nil => exact h0
    | cons y ys ih => rw [List.reverse_cons]; exact h1 _ _ ih
  have z := this xs.reverse
  rwa [List.reverse_reverse] at z
/-! neighbours of unlike names -/
inductive Nb : List (Str × Int) → Prop
  | nil : Nb []
  | snoc {r : List (Str × Int)} {e : Str × Int} : Nb r → (∀ l, r.getLast? = some l → l.1 ≠ e.1) → Nb (r ++ [e])
theorem Nb.inv {xs : List (Str × Int)} (h : Nb xs) : ∀ {r : List (Str × Int)} {e : Str × Int}, xs = r ++ [e] → Nb r ∧ ∀ l, r.getLast? = some l → l.1 ≠ e.1 := by
  cases h with
  | nil => intro r e q; exact absurd (congrArg List.length q) (by simp)
  | snoc h1 h2 =>
    intro r e q
    obtain ⟨q1, q2⟩ := List.append_inj' q rfl
    subst q1
    cases q2
    exact ⟨h1, h2⟩
theorem Nb.add {acc : List (Str × Int)} (h : Nb acc) (e : Str × Int) : Nb (addJ acc e) := by
  cases hl : acc.getLast? with
  | none =>
    have g : ∀ l, acc.getLast? = some l → l.1 ≠ e.1 := fun l h => by rw [hl] at h; cases h
    rw [addJ_new g]; exact .snoc h g
  | some l =>
    obtain ⟨m, k⟩ := l
    obtain ⟨n, c⟩ := e
    by_cases q : m = n
    · subst q
      rw [addJ_old hl]
      obtain ⟨h1, h2⟩ := h.inv (snoc_of_last hl)
      exact .snoc h1 h2
    · have g : ∀ l, acc.getLast? = some l → l.1 ≠ (n, c).1 := fun l h => by rw [hl] at h; cases h; exact q
      rw [addJ_new g]; exact .snoc h g
/-! keys -/
theorem putS_keys (kvs : List (Str × Int)) (n : Str) (c : Int) : (putS kvs n c).map (·.1) = insS (kvs.map (·.1)) n := by
  unfold putS insS
  have e : (kvs.any fun kv => decide (kv.1 = n)) = decide (n ∈ kvs.map (·.1)) := by
    rw [Bool.eq_iff_iff]
    rw [List.any_eq_true, decide_eq_true_iff, List.mem_map]
    constructor
    · rintro ⟨x, h1, h2⟩; exact ⟨x, h1, of_decide_eq_true h2⟩
    · rintro ⟨x, h1, h2⟩; exact ⟨x, h1, decide_eq_true h2⟩
  rw [e]
  by_cases h : n ∈ kvs.map (·.1)
  · rw [if_pos (decide_eq_true h), if_pos h, List.map_map]
    refine List.map_congr_left fun x _ => ?_
    show (if x.1 = n then (x.1, c) else x).1 = x.1
    split <;> rfl
  · rw [if_neg (by simpa using h), if_neg h, List.map_append]; rfl
theorem insS_nodup {ns : List Str} (h : ns.Nodup) (n : Str) : (insS ns n).Nodup := by
  unfold insS
  split
  · exact h
  · rename_i q
    rw [List.nodup_append]
    refine ⟨h, List.nodup_cons.mpr ⟨by simp, List.nodup_nil⟩, fun a ha b hb z => ?_⟩
    rw [List.mem_singleton] at hb
    exact q (by rw [← hb, ← z]; exact ha)
theorem insS_sub {ns xs : List Str} {n : Str} (h : ∀ a ∈ ns, a ∈ xs) (hn : n ∈ xs) : ∀ a ∈ insS ns n, a ∈ xs := by
  intro a ha
  unfold insS at ha
  split at ha
  · exact h a ha
  · rcases List.mem_append.mp ha with ha | ha
    · exact h a ha
    · rw [List.mem_singleton.mp ha]; exact hn
theorem acc_keys {xs : List Str} (prs : List (Str × Int)) (h : ∀ pr ∈ prs, pr.1 ∈ xs) : ((accS prs).map (·.1)).Nodup ∧ ∀ a ∈ (accS prs).map (·.1), a ∈ xs := by
  revert h
  refine snoc_ind (P := fun prs => (∀ pr ∈ prs, pr.1 ∈ xs) → ((accS prs).map (·.1)).Nodup ∧ ∀ a ∈ (accS prs).map (·.1), a ∈ xs) ?_ (fun r x ih => ?_) prs
  · intro _; exact ⟨List.nodup_nil, fun a h => nomatch h⟩
  · intro h
    obtain ⟨h1, h2⟩ := ih fun pr hp => h pr (List.mem_append_left _ hp)
    rw [acc_snoc]
    unfold addS
    rw [putS_keys]
    exact ⟨insS_nodup h1 _, insS_sub h2 (h x (List.mem_append_right _ (List.mem_singleton.mpr rfl)))⟩
theorem nodup_len {ns xs : List Str} (h : ns.Nodup) (s : ∀ a ∈ ns, a ∈ xs) : ns.length ≤ xs.length := by
  induction ns generalizing xs with
  | nil => exact Nat.zero_le _
  | cons n ns ih =>
    obtain ⟨h1, h2⟩ := List.nodup_cons.mp h
    have hn : n ∈ xs := s n (List.mem_cons_self ..)
    have := ih (xs := xs.erase n) h2 fun a ha => by
      have na : a ≠ n := fun z => by rw [z] at ha; exact h1 ha
      exact (List.mem_erase_of_ne na).mpr (s a (List.mem_cons_of_mem _ ha))
    rw [List.length_erase_of_mem hn] at this
    have pos : 0 < xs.length := List.length_pos_of_mem hn
    simp only [List.length_cons]
    omega
theorem acc_few {xs : List Str} {prs : List (Str × Int)} (h : ∀ pr ∈ prs, pr.1 ∈ xs) : (accS prs).length ≤ xs.length := by
  obtain ⟨h1, h2⟩ := acc_keys prs h
  have := nodup_len h1 h2
  rwa [List.length_map] at this
/-! two ascending arrangements -/
/-! ### a path is an order -/
/-- runs with sums -/
def RunsB (b : Int) (xs : List Str) (prs : List (Str × Int)) : Prop := ∀ pr ∈ prs, pr.1 ∈ xs ∧ nameS pr.1 = true ∧ 1 ≤ pr.2 ∧ pr.2 ≤ b
theorem prs_fine {b : Int} {xs : List Str} {prs : List (Str × Int)} (h : RunsB b xs prs) : fineA (prs.map DL.prD) = true := by
  refine fineA_of fun d hd => ?_
  obtain ⟨pr, hp, rfl⟩ := List.mem_map.mp hd
  have := nameS_fine (h pr hp).2.1
  simp [DL.prD, fine, fineA] at this ⊢
  exact this
/-- sums stay below: total -/
def totS (prs : List (Str × Int)) : Int := (prs.map (·.2)).sum
end LW
set_option Elab.async false
set_option linter.all false
set_option autoImplicit false
set_option maxRecDepth 100000
set_option maxHeartbeats 4000000
/-! BJ: the laws about orders. -/
namespace DL
open PySem PySem.Spec PyProof.Rows L2
mutual
theorem py_plain : ∀ d : D, (py d).plain = true
  | .non => by simp [py, PyData.plain]
  | .bl _ => by simp [py, PyData.plain]
  | .str _ => by simp [py, PyData.plain]
  | .int _ => by simp [py, PyData.plain]
  | .lst ds => by simp only [py, PyData.plain]; exact pyA_plain ds
  | .tup ds => by simp only [py, PyData.plain]; exact pyA_plain ds
  | .byt _ => by simp [py, PyData.plain]
  | .ty _ => by simp [py, PyData.plain]
  | .ptr _ => by simp [py, PyData.plain]
  | .btp _ => by simp [py, PyData.plain]
  | .ins _ _ => by simp [py, PyData.plain]
  | .emp => by simp [py, PyData.plain]
theorem pyA_plain : ∀ ds : List D, PyData.plainAll (pyA ds) = true
  | [] => by simp [pyA, PyData.plainAll]
  | d :: ds => by simp [pyA, PyData.plainAll, py_plain d, pyA_plain ds]
end
/-! == of any plain data, whatever their texts -/
def rEqP (K : PySem.W.Frag) : R2 := fun x y H Q => ∃ d e, Dp K H x d ∧ Dp K H y e ∧ d.plain = true ∧ e.plain = true ∧ d.depth ≤ 64 ∧ Q (.bl (PyData.eqv d e)) H
def rNeP (K : PySem.W.Frag) : R2 := fun x y H Q => ∃ d e, Dp K H x d ∧ Dp K H y e ∧ d.plain = true ∧ e.plain = true ∧ d.depth ≤ 64 ∧ Q (.bl (!PyData.eqv d e)) H
section
variable {X : Cx} {K : PySem.W.Frag}
theorem qo_neP (hK : X.K = K) (hu : X.A.units + 64 < cLine) : OpR X (compareOp .NotEq) (rNeP K) := by
  subst hK
  intro pins s σ H x y v u Q I rx ry h
  obtain ⟨d, e, hd, he, sd, se, dp, q⟩ := h
  obtain ⟨as, r1⟩ := Dp.reads I d x v hd rx
  obtain ⟨bs, r2⟩ := Dp.reads I e y u he ry
  exact SeqAt.ne_plain r1 r2 sd se (by have := Nat.min_le_left d.depth e.depth; omega) ⟨.bl _, H, I, rfl, q⟩
end
section
variable {K : PySem.W.Frag} {W : XK} {w : Wl} {P : PD}
theorem o2_neP {x y : D} (hx : isPy x = true) (hy : isPy y = true) (hd : deepD x ≤ 64) (k : P (.bl (!PyData.eqv (py x) (py y))) w) : Op2 K (rNeP K) x y w P := by
  intro v u H h1 h2 c Q q
  exact ⟨py x, py y, Dp.mono' Ex.msk h1 hx, Dp.mono' Ex.msk h2 hy, py_plain x, py_plain y, by rw [py_depth]; exact hd, q _ H _ w (Ex.refl _) c (.bl _) k⟩
end
end DL
namespace LW
open PySem PySem.Spec PyProof.Rows L2 DL
theorem addS_bound {xs : List Str} {B b : Int} {kvs : List (Str × Int)} {e : Str × Int} (h : RunsB B xs kvs) (h1 : e.1 ∈ xs) (h2 : nameS e.1 = true) (h3 : 1 ≤ e.2) (h4 : e.2 ≤ b) (hB : 0 ≤ B) : RunsB (B + b) xs (addS kvs e) := by
  have hg : 0 ≤ getS kvs e.1 ∧ getS kvs e.1 ≤ B := by
    unfold getS
    cases q : kvs.find? fun kv => decide (kv.1 = e.1) with
    | none => exact ⟨Int.le_refl _, hB⟩
    | some y =>
      have := h y (List.mem_of_find?_eq_some q)
      exact ⟨by show (0 : Int) ≤ y.2; omega, this.2.2.2⟩
  have old : ∀ pr ∈ kvs, pr.1 ∈ xs ∧ nameS pr.1 = true ∧ 1 ≤ pr.2 ∧ pr.2 ≤ B + b := fun pr hp => by
    obtain ⟨g1, g2, g3, g4⟩ := h pr hp
    exact ⟨g1, g2, g3, by omega⟩
  unfold addS putS
  split
  · intro pr hp
    obtain ⟨z, hz, rfl⟩ := List.mem_map.mp hp
    by_cases q : z.1 = e.1
    · rw [if_pos q]
      exact ⟨by rw [q]; exact h1, by rw [q]; exact h2, by show 1 ≤ getS kvs e.1 + e.2; omega, by show getS kvs e.1 + e.2 ≤ B + b; omega⟩
    · rw [if_neg q]; exact old z hz
  · intro pr hp
    rcases List.mem_append.mp hp with hp | hp
    · exact old pr hp
    · rw [List.mem_singleton.mp hp]
      exact ⟨h1, h2, by show 1 ≤ getS kvs e.1 + e.2; omega, by show getS kvs e.1 + e.2 ≤ B + b; omega⟩
theorem acc_bound {xs : List Str} {b : Int} (hb : 0 ≤ b) (prs : List (Str × Int)) : RunsB b xs prs → RunsB (prs.length * b) xs (accS prs) := by
  refine snoc_ind (P := fun prs => RunsB b xs prs → RunsB (prs.length * b) xs (accS prs)) (fun _ pr h => nomatch h) (fun r x ih h => ?_) prs
  have h1 := ih fun pr hp => h pr (List.mem_append_left _ hp)
  obtain ⟨g1, g2, g3, g4⟩ := h x (List.mem_append_right _ (List.mem_singleton.mpr rfl))
  rw [acc_snoc]
  have := addS_bound h1 g1 g2 g3 g4 (Int.mul_nonneg (by omega) hb)
  have e : ((r ++ [x]).length : Int) * b = r.length * b + b := by
    rw [List.length_append]
    show ((r.length + 1 : Nat) : Int) * b = _
    rw [Int.natCast_add, Int.add_mul]; omega
  rw [e]; exact this
theorem RunsB.mono {a b : Int} {xs : List Str} {prs : List (Str × Int)} (h : RunsB a xs prs) (l : a ≤ b) : RunsB b xs prs := fun pr hp => by
  obtain ⟨h1, h2, h3, h4⟩ := h pr hp
  exact ⟨h1, h2, h3, Int.le_trans h4 l⟩
theorem RunsB.perm {b : Int} {xs : List Str} {prs qs : List (Str × Int)} (h : RunsB b xs prs) (p : qs.Perm prs) : RunsB b xs qs := fun pr hp => h pr (p.subset hp)
theorem RunsB.take {b : Int} {xs : List Str} {prs : List (Str × Int)} (h : RunsB b xs prs) (i : Nat) : RunsB b xs (prs.take i) := fun pr hp => h pr (List.mem_of_mem_take hp)
/-- an order that is good, and small -/
def Path (prs : List (Str × Int)) : Prop := ∃ xs : List Str, xs.length ≤ 12 ∧ RunsB (10 ^ 30) xs prs ∧ prs.length ≤ 1000
def prePR (ds : List D) (_ : Wl) : Prop := ∃ prs, ds = [.tup (prs.map DL.prD)] ∧ Path prs
def postPR (ds : List D) (w : Wl) (d : D) (w' : Wl) : Prop := d = .bl true ∧ Keep w w'
theorem cutD_to {xs : List D} {j : Int} (h : 0 ≤ j) : DL.cutD xs none (some j) = xs.take j.toNat := by
  obtain ⟨k, rfl⟩ := Int.eq_ofNat_of_zero_le h
  unfold DL.cutD
  rw [HT.sIx_nat, HT.sIx_none, List.drop_zero, Nat.sub_zero, Int.toNat_natCast]
  rw [List.take_eq_take_iff]
  omega
theorem Path.of {xs : List Str} {prs : List (Str × Int)} (h : Runs xs prs) (hx : xs.length ≤ 12) (hl : prs.length ≤ 1000) : Path prs := ⟨xs, hx, h, hl⟩
theorem Path.nil : Path [] := ⟨[], Nat.zero_le _, (fun pr h => (List.not_mem_nil h).elim : RunsB (10 ^ 30) [] []), Nat.zero_le _⟩
def longP : List (Str × Int) := (List.range 1000).map fun i => ((⟨#[97 + (i / 3) % 12]⟩ : Str), (10 : Int) ^ 30)
theorem Pm.keep {w w1 w2 : Wl} {p : Addr} (h : Pm w p w1) (k : Keep w1 w2) : Pm w p w2 := by
  obtain ⟨a, b, c, e, h1, h2, h3⟩ := h.1.at
  refine ⟨Pl.of (a := a) (b := b) (c := c) (by rw [k p (by rw [e]; simp), e]) h1 h2 h3, fun q n m => ?_⟩
  have := h.2 q n m
  rw [k q (by rw [this]; exact m), this]
def longF : D → D | .int i => DL.prD (⟨#[97 + (i / 3 % 12).toNat]⟩, 10 ^ 30) | _ => .non
end LW
set_option Elab.async false
set_option linter.all false
set_option autoImplicit false
set_option maxRecDepth 100000
set_option maxHeartbeats 4000000
/-! BK: summaries: sums of two, the counts behind a place, what is cut. -/
namespace LW
open PySem PySem.Spec PyProof.Rows L2 DL
/-! ### the greatest counts -/
def descS (ns : List Int) : List Int := ns.mergeSort (fun a b => decide (a ≥ b))
theorem desc_ok (ns : List Int) : (descS ns).Perm ns ∧ (descS ns).Pairwise (· ≥ ·) := by
  refine ⟨List.mergeSort_perm ns _, ?_⟩
  have h := List.pairwise_mergeSort (le := fun a b : Int => decide (a ≥ b)) (fun a b c h1 h2 => by simp only [decide_eq_true_eq] at *; omega) (fun a b => by simp only [Bool.or_eq_true, decide_eq_true_eq]; omega) ns
  exact h.imp fun h => of_decide_eq_true h
def kth (ns : List Int) (k : Nat) : Int := ((descS ns)[k]?).getD 0
theorem kth_pos {ns : List Int} (h : ∀ n ∈ ns, 0 ≤ n) (k : Nat) : 0 ≤ kth ns k := by
  unfold kth
  cases q : (descS ns)[k]? with
  | none => exact Int.le_refl _
  | some v => exact h v ((desc_ok ns).1.subset (List.mem_of_getElem? q))
theorem kth_few (ns : List Int) (k : Nat) : (ns.filter fun x => decide (x > kth ns k)).length ≤ k := by
  have e := ((desc_ok ns).1.filter fun x => decide (x > kth ns k)).length_eq
  rw [← e]
  by_cases hk : k < (descS ns).length
  · have hv : kth ns k = (descS ns)[k] := by unfold kth; rw [List.getElem?_eq_getElem hk]; rfl
    have sp : descS ns = (descS ns).take k ++ (descS ns).drop k := (List.take_append_drop k _).symm
    rw [sp, List.filter_append, List.length_append]
    have h0 : ((descS ns).drop k).filter (fun x => decide (x > kth ns k)) = [] := by
      rw [List.filter_eq_nil_iff]
      intro x hx
      have hd : (descS ns).drop k = (descS ns)[k] :: (descS ns).drop (k + 1) := List.drop_eq_getElem_cons hk
      have pw : ((descS ns).drop k).Pairwise (· ≥ ·) := (desc_ok ns).2.sublist (List.drop_sublist _ _)
      rw [hd] at hx pw
      have := (List.pairwise_cons.mp pw).1
      rw [hv]
      rcases List.mem_cons.mp hx with rfl | hx
      · simp
      · have := this x hx
        simp only [decide_eq_true_eq]
        omega
    rw [h0, List.length_nil, Nat.add_zero]
    exact Nat.le_trans (List.length_filter_le _ _) (by rw [List.length_take]; omega)
  · exact Nat.le_trans (List.length_filter_le _ _) (by omega)
/-! ### what is cut -/
def cutP (l : Int) (prs : List (Str × Int)) : List (Str × Int) := (prs.filter fun pr => decide (pr.2 > l)).map fun pr => (pr.1, pr.2 - l)
/-- counts of a summary: so many at most, each at most b -/
def SumP (b : Int) (n : Nat) (prs : List (Str × Int)) : Prop := asc (prs.map (·.1)) ∧ (∀ pr ∈ prs, nameS pr.1 = true ∧ 1 ≤ pr.2 ∧ pr.2 ≤ b) ∧ prs.length ≤ n
theorem SumP.nodup {b : Int} {n : Nat} {prs : List (Str × Int)} (h : SumP b n prs) : (prs.map (·.1)).Nodup := asc_nodup h.1
theorem SumP.runs {b : Int} {n : Nat} {prs : List (Str × Int)} (h : SumP b n prs) : RunsB b (prs.map (·.1)) prs := fun pr hp => ⟨List.mem_map.mpr ⟨pr, hp, rfl⟩, h.2.1 pr hp⟩
theorem SumP.sub {b : Int} {n m : Nat} {prs qs : List (Str × Int)} (h : SumP b n prs) (s : qs.Sublist prs) (hm : qs.length ≤ m) : SumP b m qs :=
  ⟨List.Pairwise.sublist (s.map (·.1)) h.1, fun pr hp => h.2.1 pr (s.subset hp), hm⟩
theorem SumP.fine {b : Int} {n : Nat} {prs : List (Str × Int)} (h : SumP b n prs) : fineA (prs.map DL.prD) = true := prs_fine h.runs
theorem cut_names (l : Int) (prs : List (Str × Int)) : ((cutP l prs).map (·.1)).Sublist (prs.map (·.1)) := by
  unfold cutP
  rw [List.map_map]
  exact (List.filter_sublist (l := prs) (p := fun pr => decide (pr.2 > l))).map (fun e : Str × Int => e.1)
theorem cutP_sum {B : Int} {prs : List (Str × Int)} {n : Nat} (h : asc (prs.map (·.1))) (h1 : ∀ pr ∈ prs, nameS pr.1 = true ∧ 1 ≤ pr.2 ∧ pr.2 ≤ B) : SumP B n (cutP (kth (prs.map (·.2)) n) prs) := by
  have l0 : 0 ≤ kth (prs.map (·.2)) n := kth_pos (fun x hx => by
    obtain ⟨pr, hp, rfl⟩ := List.mem_map.mp hx
    have := (h1 pr hp).2.1
    omega) n
  refine ⟨List.Pairwise.sublist (cut_names _ _) h, fun pr hp => ?_, ?_⟩
  · unfold cutP at hp
    obtain ⟨q, hq, rfl⟩ := List.mem_map.mp hp
    obtain ⟨hq1, hq2⟩ := List.mem_filter.mp hq
    have hq2 := of_decide_eq_true hq2
    obtain ⟨g1, g2, g3⟩ := h1 q hq1
    exact ⟨g1, by show 1 ≤ q.2 - _; omega, by show q.2 - _ ≤ B; omega⟩
  · unfold cutP
    rw [List.length_map]
    have e : (prs.filter fun pr => decide (pr.2 > kth (prs.map (·.2)) n)).length = ((prs.map (·.2)).filter fun x => decide (x > kth (prs.map (·.2)) n)).length := by
      rw [List.filter_map, List.length_map]; rfl
    rw [e]
    exact kth_few _ _
/-! ### sums of two -/
theorem getS_put_ne {n m : Str} (kvs : List (Str × Int)) (c : Int) (h : m ≠ n) : getS (putS kvs n c) m = getS kvs m := by
  have hm : ∀ kvs : List (Str × Int), getS (kvs.map (fun kv => if kv.1 = n then (kv.1, c) else kv)) m = getS kvs m := by
    intro kvs
    induction kvs with
    | nil => rfl
    | cons e r ih =>
      unfold getS at ih ⊢
      rw [List.map_cons, List.find?_cons, List.find?_cons]
      have e1 : (if e.1 = n then (e.1, c) else e).1 = e.1 := by split <;> rfl
      rw [e1]
      by_cases q : e.1 = m
      · rw [decide_eq_true q]
        have : e.1 ≠ n := fun z => h (q.symm.trans z)
        rw [if_neg this]
      · rw [decide_eq_false q]; exact ih
  have ha : ∀ kvs : List (Str × Int), getS (kvs ++ [(n, c)]) m = getS kvs m := by
    intro kvs
    induction kvs with
    | nil => unfold getS; rw [List.nil_append, List.find?_cons, decide_eq_false (fun z : n = m => h z.symm)]
    | cons e r ih =>
      unfold getS at ih ⊢
      rw [List.cons_append, List.find?_cons, List.find?_cons]
      by_cases q : e.1 = m
      · rw [decide_eq_true q]
      · rw [decide_eq_false q]; exact ih
  unfold putS
  split
  · exact hm kvs
  · exact ha kvs
def sumN (n : Str) (prs : List (Str × Int)) : Int := ((prs.filter fun pr => decide (pr.1 = n)).map (·.2)).sum
theorem nodup_of_map {prs : List (Str × Int)} (h : (prs.map (·.1)).Nodup) : prs.Nodup := by
  induction prs with
  | nil => exact List.nodup_nil
  | cons e r ih =>
    rw [List.map_cons] at h
    obtain ⟨h1, h2⟩ := List.nodup_cons.mp h
    exact List.nodup_cons.mpr ⟨fun z => h1 (List.mem_map.mpr ⟨e, z, rfl⟩), ih h2⟩
theorem mem_table {kvs : List (Str × Int)} (h : (kvs.map (·.1)).Nodup) (e : Str × Int) : e ∈ kvs ↔ e.1 ∈ kvs.map (·.1) ∧ e.2 = getS kvs e.1 := by
  constructor
  · intro he
    exact ⟨List.mem_map.mpr ⟨e, he, rfl⟩, (getS_mem h e he).symm⟩
  · rintro ⟨h1, h2⟩
    obtain ⟨f, hf, h3⟩ := List.mem_map.mp h1
    have h4 := getS_mem h f hf
    rw [h3] at h4
    have : e = f := Prod.ext h3.symm (h2.trans h4)
    rw [this]; exact hf
theorem putS_new {kvs : List (Str × Int)} {n : Str} {c : Int} (h : n ∉ kvs.map (·.1)) : putS kvs n c = kvs ++ [(n, c)] ∧ getS kvs n = 0 := by
  have e : (kvs.any fun kv => decide (kv.1 = n)) = false := by
    rw [List.any_eq_false]
    intro x hx z
    exact h (List.mem_map.mpr ⟨x, hx, of_decide_eq_true z⟩)
  refine ⟨by unfold putS; rw [if_neg (by rw [e]; decide)], ?_⟩
  unfold getS
  rw [List.find?_eq_none.mpr]
  · rfl
  · intro x hx z
    exact h (List.mem_map.mpr ⟨x, hx, of_decide_eq_true z⟩)
/-- the summary of both -/
def Merg (k : Nat) (p q r : List (Str × Int)) : Prop := ∃ ys, Sums (p ++ q) ys ∧ r = cutP (kth (ys.map (·.2)) k) ys
theorem RunsB.app {b : Int} {xs ys : List Str} {p q : List (Str × Int)} (h : RunsB b xs p) (g : RunsB b ys q) : RunsB b (xs ++ ys) (p ++ q) := fun pr hp => by
  rcases List.mem_append.mp hp with hp | hp
  · obtain ⟨a, c⟩ := h pr hp; exact ⟨List.mem_append_left _ a, c⟩
  · obtain ⟨a, c⟩ := g pr hp; exact ⟨List.mem_append_right _ a, c⟩
theorem sums_bound {b : Int} {n m : Nat} {p q ys : List (Str × Int)} (hb : 0 ≤ b) (h1 : SumP b n p) (h2 : SumP b m q) (h : Sums (p ++ q) ys) : (∀ pr ∈ ys, nameS pr.1 = true ∧ 1 ≤ pr.2 ∧ pr.2 ≤ ((n + m : Nat) : Int) * b) ∧ ys.length ≤ n + m := by
  have r := (acc_bound hb (p ++ q) (h1.runs.app h2.runs)).perm h.1
  have hl : (p ++ q).length ≤ n + m := by rw [List.length_append]; have := h1.2.2; have := h2.2.2; omega
  refine ⟨fun pr hp => ?_, ?_⟩
  · obtain ⟨_, a, c, e⟩ := r pr hp
    refine ⟨a, c, Int.le_trans e (Int.mul_le_mul_of_nonneg_right (by omega) hb)⟩
  · rw [h.1.length_eq]
    have := acc_few (xs := (p ++ q).map (·.1)) (prs := p ++ q) fun pr hp => List.mem_map.mpr ⟨pr, hp, rfl⟩
    rw [List.length_map] at this
    omega
theorem Merg.sum {b : Int} {n m k : Nat} {p q r : List (Str × Int)} (hb : 0 ≤ b) (h1 : SumP b n p) (h2 : SumP b m q) (h : Merg k p q r) : SumP (((n + m : Nat) : Int) * b) k r := by
  obtain ⟨ys, hs, rfl⟩ := h
  exact cutP_sum hs.2 (sums_bound hb h1 h2 hs).1
end LW
set_option Elab.async false
set_option linter.all false
set_option autoImplicit false
set_option maxRecDepth 100000
set_option maxHeartbeats 4000000
/-! BL: promises of the defs about summaries. -/
namespace LW
open PySem PySem.Spec PyProof.Rows L2 DL
def postBagP (ds : List D) (w : Wl) (d : D) (w' : Wl) : Prop := ∀ p xs m, ds = [.ptr p, .lst xs, .int m] → Pm w p w' ∧ ∃ prs, d = .tup (prs.map DL.prD) ∧ SumP (10 ^ 30) xs.length prs
def okI : List D → Prop | [.int _] => True | _ => False
def okCap : List D → Prop | [.int i] => 1 ≤ i ∧ i ≤ 8 | _ => False
def fCap : List D → D | [.int i] => .bl (decide (1 ≤ i) && decide (i ≤ 8)) | _ => .non
def sumFsB (c : Int) (prs : List (Str × Int)) : List (Str × D) := [(("capacity" : Str), .int c), (("counts" : Str), .btp (prs.map DL.prD))]
abbrev sumFs := sumFsB
def preInit (C : Addr) (ds : List D) (w : Wl) : Prop := ∃ (x : Addr) (c : Int) (prs : List (Str × Int)), ds = [.ptr x, .int c, .btp (prs.map DL.prD)] ∧ w x = some (.ins C []) ∧ 1 ≤ c ∧ c ≤ 8 ∧ ∃ b, SumP b c.toNat prs
def postInit (C : Addr) (ds : List D) (w : Wl) (d : D) (w' : Wl) : Prop := d = .non ∧ ∀ x c prs, ds = [.ptr x, .int c, .btp (prs.map DL.prD)] → w' = put w x (.ins C (sumFs c prs))
abbrev fs2 (a b : D) : List (Str × D) := [(("capacity" : Str), a), (("counts" : Str), b)]
def okIns (C : Addr) : List D → Prop | [.ins C' _] => C' = C | _ => False
def okPart (C : Addr) : List D → Prop | [.int c, .ins C' fs] => C' = C ∧ ∃ prs, fs = sumFs c prs | _ => False
def prePlace (ds : List D) (_ : Wl) : Prop := ∃ (prs : List (Str × Int)) (k : Nat), ds = [.tup (prs.map DL.prD), .int k] ∧ prs.length ≤ 1000
def postPlace (ds : List D) (w : Wl) (d : D) (w' : Wl) : Prop := w' = w ∧ ∀ (prs : List (Str × Int)) (k : Nat), ds = [.tup (prs.map DL.prD), .int k] → d = .int (kth (prs.map (·.2)) k)
def preMerg (C : Addr) (ds : List D) (_ : Wl) : Prop := ∃ (c : Int) (p q : List (Str × Int)) (b : Int), ds = [.ins C (sumFs c p), .ins C (sumFs c q)] ∧ 1 ≤ c ∧ c ≤ 8 ∧ 0 ≤ b ∧ SumP b c.toNat p ∧ SumP b c.toNat q
def postMerg (C : Addr) (ds : List D) (w : Wl) (d : D) (w' : Wl) : Prop := Keep w w' ∧ ∀ (c : Int) (p q : List (Str × Int)), ds = [.ins C (sumFs c p), .ins C (sumFs c q)] → ∃ r, d = .ins C (sumFs c r) ∧ Merg c.toNat p q r
def cutF (l : Int) (d : D) : D := DL.prD (nmD d, cntD d - l)
def preHeld (ds : List D) (_ : Wl) : Prop := ∃ prs : List (Str × Int), ds = [.tup (prs.map DL.prD)] ∧ (prs.map (·.1)).Nodup ∧ prs.length ≤ 1000
def postHeld (ds : List D) (w : Wl) (d : D) (w' : Wl) : Prop := ∃ l : Addr, w l = none ∧ d = .ptr l ∧ ∀ prs : List (Str × Int), ds = [.tup (prs.map DL.prD)] → w' = put w l (.dK (prs.map entD))
def preLM (ds : List D) (_ : Wl) : Prop := ∃ (c : Int) (p q : List (Str × Int)) (b : Int), ds = [.int c, .tup (p.map DL.prD), .tup (q.map DL.prD)] ∧ 0 ≤ c ∧ 0 ≤ b ∧ SumP b 12 p ∧ SumP b 12 q
def postLM (ds : List D) (w : Wl) (d : D) (w' : Wl) : Prop := Keep w w' ∧ ∀ (c : Int) (p q : List (Str × Int)), ds = [.int c, .tup (p.map DL.prD), .tup (q.map DL.prD)] → ∃ r, d = .tup (r.map DL.prD) ∧ Merg c.toNat p q r
def getF (kvs : List (Str × Int)) (l : Int) : D → D | .str n => DL.prD (n, getS kvs n - l) | _ => .non
def getC (kvs : List (Str × Int)) (l : Int) : D → Bool | .str n => decide (getS kvs n > l) | _ => false
/-- small enough to be shown in a list -/
def wrS (d : D) : Prop := small d = true ∧ deepD d ≤ 10 ∧ costD d ≤ 1000000
def preMR (ds : List D) (_ : Wl) : Prop := ∃ (c : Int) (p q : List (Str × Int)), ds = [.int c, .btp (p.map DL.prD), .btp (q.map DL.prD)] ∧ 1 ≤ c ∧ c ≤ 8 ∧ SumP (10 ^ 30) c.toNat p ∧ SumP (10 ^ 30) c.toNat q
theorem SumP.none {b : Int} {n : Nat} : SumP b n [] := ⟨List.Pairwise.nil, fun pr h => (List.not_mem_nil h).elim, Nat.zero_le _⟩
def eA : List (Str × Int) := [("a", 2), ("b", 2), ("c", 2), ("d", 2), ("e", 2), ("f", 2), ("g", 2), ("h", 2)]
def eI : List (Str × Int) := [("i", 2), ("j", 2), ("k", 2), ("l", 2), ("m", 2), ("n", 2), ("o", 2), ("p", 2)]
theorem SumP.of {n : Nat} {prs : List (Str × Int)} (h1 : asc (prs.map (·.1))) (h2 : prs.all (fun pr => nameS pr.1 && (decide (1 ≤ pr.2) && decide (pr.2 ≤ 10 ^ 30))) = true) (h3 : prs.length ≤ n) : SumP (10 ^ 30) n prs :=
  ⟨h1, fun pr hp => by
    have := List.all_eq_true.mp h2 pr hp
    simp only [Bool.and_eq_true, decide_eq_true_eq] at this
    exact this, h3⟩
end LW
set_option Elab.async false
set_option linter.all false
set_option autoImplicit false
set_option maxRecDepth 100000
set_option maxHeartbeats 4000000
/-! BM: losses. -/
namespace LW
open PySem PySem.Spec PyProof.Rows L2 DL
def negP (e : List (Str × Int)) : List (Str × Int) := e.map fun pr => (pr.1, -pr.2)
def lossL (p a e : List (Str × Int)) : List (Str × Int) := p ++ a ++ negP e
def nzP (ys : List (Str × Int)) : List (Str × Int) := ys.filter fun pr => decide (pr.2 ≠ 0)
def okQ (C : Addr) (ds : List D) : Prop := ∃ (c : Int) (p a e : List (Str × Int)) (b : Int), ds = [.ins C (sumFs c p), .tup (a.map DL.prD), .ins C (sumFs c e)] ∧ SumP b 8 p ∧ SumP b 12 a ∧ SumP b 8 e
def okSumZ (ds : List D) (_ : Wl) : Prop := ∃ prs : List (Str × Int), ds = [.tup (prs.map DL.prD)] ∧ (accS prs).length < 64
def postSumZ (ds : List D) (w : Wl) (d : D) (w' : Wl) : Prop := Keep w w' ∧ ∀ prs : List (Str × Int), ds = [.tup (prs.map DL.prD)] → ∃ ys, d = .tup (ys.map DL.prD) ∧ Sums prs ys
def postLP (C : Addr) (ds : List D) (w : Wl) (d : D) (w' : Wl) : Prop := Keep w w' ∧ ∀ (c : Int) (p a e : List (Str × Int)), ds = [.ins C (sumFs c p), .tup (a.map DL.prD), .ins C (sumFs c e)] → ∃ ys, d = .tup (ys.map DL.prD) ∧ Sums (lossL p a e) ys
def postLoss (C : Addr) (ds : List D) (w : Wl) (d : D) (w' : Wl) : Prop := Keep w w' ∧ ∀ (c : Int) (p a e : List (Str × Int)), ds = [.ins C (sumFs c p), .tup (a.map DL.prD), .ins C (sumFs c e)] → ∃ ys, d = .tup ((nzP ys).map DL.prD) ∧ Sums (lossL p a e) ys
def negF (d : D) : D := DL.prD (nmD d, -cntD d)
end LW
set_option Elab.async false
set_option linter.all false
set_option autoImplicit false
set_option maxRecDepth 100000
set_option maxHeartbeats 4000000
/-! BN: tables that are played on. -/
namespace LW
open PySem PySem.Spec PyProof.Rows L2 DL
/-- a table of so many names at most, each with a count from 1 on -/
def TabOk (n : Nat) (b : Int) (kvs : List (Str × Int)) : Prop := (kvs.map (·.1)).Nodup ∧ (∀ e ∈ kvs, nameS e.1 = true ∧ 1 ≤ e.2 ∧ e.2 ≤ b) ∧ kvs.length ≤ n
def preRun (ds : List D) (w : Wl) : Prop := ∃ (n : Int) (l : Addr) (kvs : List (Str × Int)) (x : Str) (o b : Int), ds = [.int n, .ptr l, .str x, .int o] ∧ w l = some (.dK (kvs.map entD)) ∧ TabOk n.toNat b kvs ∧ nameS x = true ∧ 1 ≤ o ∧ 1 ≤ n ∧ n ≤ 8 ∧ 0 ≤ b
def postRun (ds : List D) (w : Wl) (d : D) (w' : Wl) : Prop := Keep w w' ∧ ∀ (n : Int) (l : Addr) (kvs : List (Str × Int)) (x : Str) (o b : Int), ds = [.int n, .ptr l, .str x, .int o] → w l = some (.dK (kvs.map entD)) → TabOk n.toNat b kvs → 0 ≤ b → ∃ (l2 : Addr) (kv2 : List (Str × Int)) (z : Int), d = .tup [.ptr l2, .int z] ∧ w l2 = none ∧ w' l2 = some (.dK (kv2.map entD)) ∧ TabOk n.toNat (b + o) kv2
theorem TabOk.cut {n : Nat} {b s : Int} {kvs : List (Str × Int)} (h : TabOk n b kvs) (hs : 0 ≤ s) : TabOk n b (cutP s kvs) := by
  refine ⟨h.1.sublist (cut_names s kvs), fun e he => ?_, ?_⟩
  · unfold cutP at he
    obtain ⟨q, hq, rfl⟩ := List.mem_map.mp he
    obtain ⟨hq1, hq2⟩ := List.mem_filter.mp hq
    have hq2 := of_decide_eq_true hq2
    obtain ⟨g1, g2, g3⟩ := h.2.1 q hq1
    exact ⟨g1, by show 1 ≤ q.2 - s; omega, by show q.2 - s ≤ b; omega⟩
  · unfold cutP
    rw [List.length_map]
    exact Nat.le_trans (List.length_filter_le _ _) h.2.2
theorem TabOk.add {n : Nat} {b o c : Int} {x : Str} {kvs : List (Str × Int)} (h : TabOk n b kvs) (hx : nameS x = true) (h1 : 1 ≤ c) (h2 : c ≤ o) (hb : 0 ≤ b) (room : x ∈ kvs.map (·.1) ∨ kvs.length < n) : TabOk n (b + o) (putS kvs x (getS kvs x + c)) := by
  have hg : 0 ≤ getS kvs x ∧ getS kvs x ≤ b := by
    unfold getS
    cases q : kvs.find? fun kv => decide (kv.1 = x) with
    | none => exact ⟨Int.le_refl _, hb⟩
    | some y =>
      have := h.2.1 y (List.mem_of_find?_eq_some q)
      exact ⟨by show (0 : Int) ≤ y.2; omega, this.2.2⟩
  refine ⟨by rw [putS_keys]; exact insS_nodup h.1 x, fun e he => ?_, ?_⟩
  · unfold putS at he
    split at he
    · obtain ⟨z, hz, rfl⟩ := List.mem_map.mp he
      obtain ⟨g1, g2, g3⟩ := h.2.1 z hz
      by_cases q : z.1 = x
      · rw [if_pos q]
        exact ⟨g1, by show 1 ≤ getS kvs x + c; omega, by show getS kvs x + c ≤ b + o; omega⟩
      · rw [if_neg q]; exact ⟨g1, g2, by omega⟩
    · rcases List.mem_append.mp he with he | he
      · obtain ⟨g1, g2, g3⟩ := h.2.1 e he
        exact ⟨g1, g2, by omega⟩
      · rw [List.mem_singleton.mp he]
        exact ⟨hx, by show 1 ≤ getS kvs x + c; omega, by show getS kvs x + c ≤ b + o; omega⟩
  · have e : (putS kvs x (getS kvs x + c)).length = (insS (kvs.map (·.1)) x).length := by rw [← putS_keys _ _ (getS kvs x + c), List.length_map]
    rw [e]
    rcases room with h5 | h5
    · unfold insS
      rw [if_pos h5, List.length_map]; exact h.2.2
    · have := insS_len (kvs.map (·.1)) x
      rw [List.length_map] at this
      omega
theorem TabOk.mono {n : Nat} {b c : Int} {kvs : List (Str × Int)} (h : TabOk n b kvs) (l : b ≤ c) : TabOk n c kvs := ⟨h.1, fun e he => by
  obtain ⟨g1, g2, g3⟩ := h.2.1 e he
  exact ⟨g1, g2, by omega⟩, h.2.2⟩
def prePld (ds : List D) (w : Wl) : Prop := ∃ (n : Int) (l : Addr) (kvs prs : List (Str × Int)), ds = [.int n, .ptr l, .tup (prs.map DL.prD)] ∧ w l = some (.dK (kvs.map entD)) ∧ TabOk n.toNat (10 ^ 30) kvs ∧ 1 ≤ n ∧ n ≤ 8 ∧ ∀ pr ∈ prs, nameS pr.1 = true ∧ 1 ≤ pr.2 ∧ pr.2 ≤ 10 ^ 30
def postPld (ds : List D) (w : Wl) (d : D) (w' : Wl) : Prop := Keep w w' ∧ ∃ (l2 : Addr) (kv2 : List (Str × Int)) (z : Int), d = .tup [.ptr l2, .int z] ∧ w' l2 = some (.dK (kv2.map entD)) ∧ ∀ (n : Int) (l : Addr) (kvs prs : List (Str × Int)), ds = [.int n, .ptr l, .tup (prs.map DL.prD)] → TabOk n.toNat (10 ^ 30 + prs.length * 10 ^ 30) kv2
def segs (p a e : List (Str × Int)) : List (List (Str × Int) × Int) := [(p, 1), (a, 1), (e, -1)]
def sgnP (s : List (Str × Int) × Int) : List (Str × Int) := s.1.map fun pr => (pr.1, s.2 * pr.2)
def preLo (ds : List D) (_ : Wl) : Prop := ∃ p a e : List (Str × Int), ds = [.tup (p.map DL.prD), .tup (a.map DL.prD), .tup (e.map DL.prD)] ∧ p.length + a.length + e.length ≤ 60
def postLo (ds : List D) (w : Wl) (d : D) (w' : Wl) : Prop := ∃ l : Addr, w l = none ∧ d = .ptr l ∧ ∀ p a e : List (Str × Int), ds = [.tup (p.map DL.prD), .tup (a.map DL.prD), .tup (e.map DL.prD)] → w' = put w l (.dK ((accS (lossL p a e)).map entD))
end LW
set_option Elab.async false
set_option linter.all false
set_option autoImplicit false
set_option maxRecDepth 100000
set_option maxHeartbeats 4000000
/-! BO: the law about losses. -/
namespace DL
open PySem PySem.Spec PyProof.Rows L2
section
variable {K : PySem.W.Frag} {W : XK} {δ : Dlt} {w : Wl} {P Q : PD} {Z : ZD} {te t1 t2 : TE} {u1 u2 : TS} {c : Bool}
theorem ev_ite2 (Q : PD) (h1 : c = true → Ev K W t1 δ w Q Z) (h2 : c = false → Ev K W t2 δ w Q Z) (k : ∀ d w1, Q d w1 → P d w1) : if c = true then Ev K W t1 δ w P Z else Ev K W t2 δ w P Z := by
  cases c with
  | true => rw [if_pos rfl]; exact (h1 rfl).imp k
  | false => rw [if_neg (by decide)]; exact (h2 rfl).imp k
end
end DL
namespace LW
open PySem PySem.Spec PyProof.Rows L2 DL
def getN (kvs : List (Str × Int)) : D → D | .str n => DL.prD (n, getS kvs n) | _ => .non
def getZ (kvs : List (Str × Int)) : D → Bool | .str n => decide (getS kvs n ≠ 0) | _ => false
def postDue (ds : List D) (w : Wl) (d : D) (w' : Wl) : Prop := Keep w w' ∧ ∀ p a e : List (Str × Int), ds = [.tup (p.map DL.prD), .tup (a.map DL.prD), .tup (e.map DL.prD)] → ∃ ys, d = .tup ((nzP ys).map DL.prD) ∧ Sums (lossL p a e) ys
def preFirst (ds : List D) (w : Wl) : Prop := ∃ (p : Addr) (n : Int) (xs : List Str) (m : Int), ds = [.ptr p, .int n, .lst (xs.map D.str), .int m] ∧ 1 ≤ n ∧ n ≤ 8 ∧ wordsOk xs ∧ xs.length ≤ 12 ∧ 0 ≤ m ∧ m ≤ 10 ^ 30 ∧ Pl w p w
def postFirst (ds : List D) (w : Wl) (d : D) (w' : Wl) : Prop := ∀ p n xs m, ds = [.ptr p, .int n, .lst xs, .int m] → Pm w p w' ∧ ∃ prs, d = .tup (prs.map DL.prD) ∧ SumP (10 ^ 30) n.toNat prs
def Small (b : Int) (prs : List (Str × Int)) : Prop := ∀ pr ∈ prs, nameS pr.1 = true ∧ -b ≤ pr.2 ∧ pr.2 ≤ b
theorem SumP.small {b c : Int} {n : Nat} {prs : List (Str × Int)} (h : SumP b n prs) (l : b ≤ c) : Small c prs := fun pr hp => by
  obtain ⟨h1, h2, h3⟩ := h.2.1 pr hp
  exact ⟨h1, by omega, by omega⟩
theorem Small.app {b : Int} {p q : List (Str × Int)} (h : Small b p) (g : Small b q) : Small b (p ++ q) := fun pr hp => (List.mem_append.mp hp).elim (h pr) (g pr)
def idxF (xs : List Str) : D → D | .int i => .str (xs.getD i.toNat "") | _ => .non
/-- a case: capacity, first counters, arrivals, last counters -/
def CaseD (d : D) : Prop := ∃ (c : Int) (p a e : List (Str × Int)), d = .tup [.int c, .tup (p.map DL.prD), .tup (a.map DL.prD), .tup (e.map DL.prD)] ∧ 1 ≤ c ∧ c ≤ 8 ∧ SumP (10 ^ 36) c.toNat p ∧ SumP (10 ^ 36) 12 a ∧ SumP (10 ^ 36) c.toNat e
def postCase (ds : List D) (w : Wl) (d : D) (w' : Wl) : Prop := ∀ p, ds = [.ptr p] → Pm w p w' ∧ CaseD d
def preTold (ds : List D) (_ : Wl) : Prop := ∃ d, ds = [d] ∧ CaseD d
end LW
set_option Elab.async false
set_option linter.all false
set_option autoImplicit false
set_option maxRecDepth 100000
set_option maxHeartbeats 4000000
/-! BP: arrivals on a table of counters, told as a function. -/
namespace LW
open PySem PySem.Spec PyProof.Rows L2 DL
def minL : List Int → Int
  | [] => 0
  | [a] => a
  | a :: b :: r => if minL (b :: r) < a then minL (b :: r) else a
theorem minL_mem : ∀ {ns : List Int}, 0 < ns.length → minL ns ∈ ns
  | [a], _ => List.mem_singleton.mpr rfl
  | a :: b :: r, _ => by
    have ih := minL_mem (ns := b :: r) (by simp)
    unfold minL
    split
    · exact List.mem_cons_of_mem _ ih
    · exact List.mem_cons_self
theorem minL_le : ∀ {ns : List Int} {y : Int}, y ∈ ns → minL ns ≤ y
  | [a], y, h => by rw [List.mem_singleton.mp h]; exact Int.le_refl _
  | a :: b :: r, y, h => by
    have ih := fun z hz => minL_le (ns := b :: r) (y := z) hz
    unfold minL
    rcases List.mem_cons.mp h with rfl | h
    · split <;> omega
    · have := ih y h
      split <;> omega
theorem minL_eq {ns : List Int} {m : Int} (h1 : m ∈ ns) (h2 : ∀ y ∈ ns, m ≤ y) : m = minL ns := by
  have a := minL_le h1
  have b := h2 _ (minL_mem (List.length_pos_of_mem h1))
  omega
/-- how many reductions -/
def fallS (kvs : List (Str × Int)) (t : Int) : Int := if minL (kvs.map (·.2)) < t then minL (kvs.map (·.2)) else t
/-- the counters behind t arrivals of x, and how many reductions take place -/
def arrS (n : Int) (kvs : List (Str × Int)) (x : Str) (t : Int) : List (Str × Int) × Int :=
  if x ∈ kvs.map (·.1) ∨ (kvs.length : Int) < n then (putS kvs x (getS kvs x + t), 0)
  else (if fallS kvs t < t then putS (cutP (fallS kvs t) kvs) x (t - fallS kvs t) else cutP (fallS kvs t) kvs, fallS kvs t)
def preArr (ds : List D) (w : Wl) : Prop := ∃ (l : Addr) (n : Int) (x : Str) (t : Int) (kvs : List (Str × Int)) (b : Int), ds = [.ptr l, .int n, .str x, .int t] ∧ w l = some (.dK (kvs.map entD)) ∧ TabOk n.toNat b kvs ∧ 1 ≤ n ∧ n ≤ 8 ∧ 1 ≤ t
def postArr (ds : List D) (w : Wl) (d : D) (w' : Wl) : Prop := ∀ (l : Addr) (n : Int) (x : Str) (t : Int) (kvs : List (Str × Int)), ds = [.ptr l, .int n, .str x, .int t] → w l = some (.dK (kvs.map entD)) → d = .int (arrS n kvs x t).2 ∧ w' = put w l (.dK ((arrS n kvs x t).1.map entD))
/-- behind the first and only turn of the laws' own loop -/
structure Once (n : Int) (kvs : List (Str × Int)) (x : Str) (o : Int) (kv : List (Str × Int)) (of lo : Int) : Prop where
  new : x ∉ kvs.map (·.1)
  full : (kvs.length : Int) = n
  ekv : kv = cutP (fallS kvs o) kvs
  eof : of = o - fallS kvs o
  elo : lo = fallS kvs o
  less : 0 < of → kv.length < kvs.length
theorem Once.le {n : Int} {kvs : List (Str × Int)} {x : Str} {o : Int} {kv : List (Str × Int)} {of lo : Int} (h : Once n kvs x o kv of lo) : kv.length ≤ kvs.length := by
  rw [h.ekv]
  unfold cutP
  rw [List.length_map]
  exact List.length_filter_le _ _
theorem cut_less {f : Int} {kvs : List (Str × Int)} (h : ∃ e ∈ kvs, f = e.2) : (cutP f kvs).length < kvs.length := by
  obtain ⟨e, he, hf⟩ := h
  unfold cutP
  rw [List.length_map]
  exact List.length_filter_lt_length_iff_exists.mpr ⟨e, he, by rw [hf]; simp⟩
theorem getS_new {kvs : List (Str × Int)} {x : Str} (h : x ∉ kvs.map (·.1)) : getS kvs x = 0 := by
  unfold getS
  rw [List.find?_eq_none.mpr fun y hy z => h (List.mem_map.mpr ⟨y, hy, of_decide_eq_true z⟩)]
  rfl
def postRunX (ds : List D) (w : Wl) (d : D) (w' : Wl) : Prop := Keep w w' ∧ ∀ (n : Int) (l : Addr) (kvs : List (Str × Int)) (x : Str) (o : Int), ds = [.int n, .ptr l, .str x, .int o] → w l = some (.dK (kvs.map entD)) → ∃ l2 : Addr, d = .tup [.ptr l2, .int (arrS n kvs x o).2] ∧ w l2 = none ∧ w' l2 = some (.dK ((arrS n kvs x o).1.map entD))
end LW
set_option Elab.async false
set_option linter.all false
set_option autoImplicit false
set_option maxRecDepth 100000
set_option maxHeartbeats 4000000
/-! BQ: summaries whose counts are known to be bare. -/
namespace DL
open PySem PySem.Spec PyProof.Rows L2
end DL
namespace LW
open PySem PySem.Spec PyProof.Rows L2 DL
def preInitB (C : Addr) (ds : List D) (w : Wl) : Prop := ∃ (x : Addr) (c : Int) (prs : List (Str × Int)), ds = [.ptr x, .int c, .btp (prs.map DL.prD)] ∧ w x = some (.ins C []) ∧ 1 ≤ c ∧ c ≤ 8 ∧ ∃ b, SumP b c.toNat prs
def postInitB (C : Addr) (ds : List D) (w : Wl) (d : D) (w' : Wl) : Prop := d = .non ∧ ∀ x c prs, ds = [.ptr x, .int c, .btp (prs.map DL.prD)] → w' = put w x (.ins C (sumFsB c prs))
def preSO (ds : List D) (w : Wl) : Prop := ∃ (c : Int) (l : Addr) (kv : List (Str × Int)) (b : Int), ds = [.int c, .ptr l] ∧ w l = some (.dK (kv.map entD)) ∧ TabOk c.toNat b kv ∧ 1 ≤ c ∧ c ≤ 8
def postSO (C : Addr) (ds : List D) (w : Wl) (d : D) (w' : Wl) : Prop := w' = w ∧ ∀ (c : Int) (l : Addr) (kv : List (Str × Int)), ds = [.int c, .ptr l] → w l = some (.dK (kv.map entD)) → ∃ ys, d = .ins C (sumFsB c ys) ∧ ys.Perm kv ∧ asc (ys.map (·.1))
def playS (n : Int) (kvs : List (Str × Int)) (runs : List (Str × Int)) : List (Str × Int) × Int := runs.foldl (fun a r => ((arrS n a.1 r.1 r.2).1, a.2 + (arrS n a.1 r.1 r.2).2)) (kvs, 0)
theorem play_snoc {n : Int} {kvs runs : List (Str × Int)} {i : Nat} {x : Str} {t : Int} (h : runs[i]? = some (x, t)) : playS n kvs (runs.take (i + 1)) = ((arrS n (playS n kvs (runs.take i)).1 x t).1, (playS n kvs (runs.take i)).2 + (arrS n (playS n kvs (runs.take i)).1 x t).2) := by
  unfold playS
  rw [List.take_add_one, h, List.foldl_append]
  rfl
theorem arr_tab {n b t : Int} {kvs : List (Str × Int)} {x : Str} (h : TabOk n.toNat b kvs) (hx : nameS x = true) (ht : 1 ≤ t) (hn : 1 ≤ n) : ∃ b', TabOk n.toNat b' (arrS n kvs x t).1 := by
  have hm : TabOk n.toNat (if b < 0 then 0 else b) kvs := h.mono (by split <;> omega)
  have h0 : (0 : Int) ≤ (if b < 0 then 0 else b) := by split <;> omega
  unfold arrS
  by_cases room : x ∈ kvs.map (·.1) ∨ (kvs.length : Int) < n
  · rw [if_pos room]
    exact ⟨_, hm.add hx ht (Int.le_refl _) h0 (room.imp id fun z => by omega)⟩
  · rw [if_neg room]
    have hnew : x ∉ kvs.map (·.1) := fun z => room (.inl z)
    have hl : 0 < (kvs.map (·.2)).length := by
      rw [List.length_map]
      have : ¬ (kvs.length : Int) < n := fun z => room (.inr z)
      omega
    obtain ⟨e, he, hv⟩ := List.mem_map.mp (minL_mem hl)
    have h1 := (h.2.1 e he).2.1
    have hf : 0 ≤ fallS kvs t := by unfold fallS; split <;> omega
    have hc := hm.cut hf
    by_cases hlt : fallS kvs t < t
    · show ∃ b', TabOk n.toNat b' (if fallS kvs t < t then _ else _)
      rw [if_pos hlt]
      have hnew2 : x ∉ (cutP (fallS kvs t) kvs).map (·.1) := fun z => hnew ((cut_names _ _).subset z)
      have hless : (cutP (fallS kvs t) kvs).length < kvs.length := cut_less ⟨e, he, by
        rw [hv]
        unfold fallS at hlt ⊢
        split
        · rfl
        · rename_i q
          rw [if_neg q] at hlt
          omega⟩
      have ha := hc.add (o := t) hx (c := t - fallS kvs t) (by omega) (by omega) h0 (.inr (by have := h.2.2; omega))
      rw [getS_new hnew2, Int.zero_add] at ha
      exact ⟨_, ha⟩
    · show ∃ b', TabOk n.toNat b' (if fallS kvs t < t then _ else _)
      rw [if_neg hlt]
      exact ⟨_, hc⟩
theorem SumP.tab {b : Int} {n : Nat} {prs : List (Str × Int)} (h : SumP b n prs) : TabOk n b prs := ⟨h.nodup, h.2.1, h.2.2⟩
theorem play_tab {n b : Int} {kvs runs : List (Str × Int)} (h : TabOk n.toNat b kvs) (hn : 1 ≤ n) (hr : ∀ pr ∈ runs, nameS pr.1 = true ∧ 1 ≤ pr.2) : ∀ i, i ≤ runs.length → ∃ b', TabOk n.toNat b' (playS n kvs (runs.take i)).1
  | 0, _ => ⟨b, h⟩
  | i + 1, hi => by
    obtain ⟨b', h'⟩ := play_tab h hn hr i (by omega)
    have hi' : i < runs.length := by omega
    have e : runs[i]? = some (runs[i].1, runs[i].2) := List.getElem?_eq_getElem hi'
    rw [play_snoc e]
    have := hr runs[i] (List.getElem_mem _)
    exact arr_tab h' this.1 this.2 hn
def prePl (C : Addr) (ds : List D) (_ : Wl) : Prop := ∃ (c : Int) (prs runs : List (Str × Int)) (b : Int), ds = [.ins C (sumFsB c prs), .tup (runs.map DL.prD)] ∧ SumP b c.toNat prs ∧ 1 ≤ c ∧ c ≤ 8 ∧ ∀ pr ∈ runs, nameS pr.1 = true ∧ 1 ≤ pr.2
def postPl (C : Addr) (ds : List D) (w : Wl) (d : D) (w' : Wl) : Prop := ∀ (c : Int) (prs runs : List (Str × Int)), ds = [.ins C (sumFsB c prs), .tup (runs.map DL.prD)] → ∃ l : Addr, d = .tup [.ptr l, .int (playS c prs runs).2] ∧ w l = none ∧ w' = put w l (.dK ((playS c prs runs).1.map entD))
def preRed (C : Addr) (ds : List D) (w : Wl) : Prop := prePl C ds w ∧ ∃ (c : Int) (prs runs : List (Str × Int)), ds = [.ins C (sumFsB c prs), .tup (runs.map DL.prD)] ∧ okOrd [.tup (runs.map DL.prD)]
def postRed (C : Addr) (ds : List D) (w : Wl) (d : D) (w' : Wl) : Prop := Keep w w' ∧ ∀ (c : Int) (prs runs : List (Str × Int)), ds = [.ins C (sumFsB c prs), .tup (runs.map DL.prD)] → d = .int (playS c prs runs).2
def postPlay (C : Addr) (ds : List D) (w : Wl) (d : D) (w' : Wl) : Prop := Keep w w' ∧ ∀ (c : Int) (prs runs : List (Str × Int)), ds = [.ins C (sumFsB c prs), .tup (runs.map DL.prD)] → ∃ ys, d = .ins C (sumFsB c ys) ∧ ys.Perm (playS c prs runs).1 ∧ asc (ys.map (·.1))
def prePldX (ds : List D) (w : Wl) : Prop := ∃ (n : Int) (l : Addr) (kvs prs : List (Str × Int)) (b : Int), ds = [.int n, .ptr l, .tup (prs.map DL.prD)] ∧ w l = some (.dK (kvs.map entD)) ∧ TabOk n.toNat b kvs ∧ 1 ≤ n ∧ n ≤ 8 ∧ ∀ pr ∈ prs, nameS pr.1 = true ∧ 1 ≤ pr.2
def postPldX (ds : List D) (w : Wl) (d : D) (w' : Wl) : Prop := Keep w w' ∧ ∀ (n : Int) (l : Addr) (kvs prs : List (Str × Int)), ds = [.int n, .ptr l, .tup (prs.map DL.prD)] → w l = some (.dK (kvs.map entD)) → ∃ l2 : Addr, d = .tup [.ptr l2, .int (playS n kvs prs).2] ∧ w' l2 = some (.dK ((playS n kvs prs).1.map entD))
end LW
set_option Elab.async false
set_option linter.all false
set_option autoImplicit false
set_option maxRecDepth 100000
set_option maxHeartbeats 4000000
/-! BR: plays: the table's order does not matter, orders one behind the other, sums. -/
namespace LW
open PySem PySem.Spec PyProof.Rows L2 DL
theorem getS_perm {a b : List (Str × Int)} (p : a.Perm b) (nd : (a.map (·.1)).Nodup) (n : Str) : getS a n = getS b n := by
  have nd2 : (b.map (·.1)).Nodup := (p.map _).nodup_iff.mp nd
  by_cases h : n ∈ a.map (·.1)
  · obtain ⟨e, he, rfl⟩ := List.mem_map.mp h
    rw [getS_mem nd e he, getS_mem nd2 e (p.subset he)]
  · rw [getS_new h, getS_new (fun z => h ((p.map _).symm.subset z))]
theorem putS_perm {a b : List (Str × Int)} (p : a.Perm b) (n : Str) (c : Int) : (putS a n c).Perm (putS b n c) := by
  unfold putS
  have e : (a.any fun kv => decide (kv.1 = n)) = (b.any fun kv => decide (kv.1 = n)) := by
    rw [Bool.eq_iff_iff, List.any_eq_true, List.any_eq_true]
    exact ⟨fun ⟨x, h, z⟩ => ⟨x, p.subset h, z⟩, fun ⟨x, h, z⟩ => ⟨x, p.symm.subset h, z⟩⟩
  rw [e]
  split
  · exact p.map _
  · exact p.append_right _
theorem minL_perm {a b : List Int} (p : a.Perm b) : minL a = minL b := by
  by_cases h : 0 < a.length
  · exact minL_eq (p.subset (minL_mem h)) fun y hy => minL_le (p.symm.subset hy)
  · have e1 : a = [] := List.eq_nil_of_length_eq_zero (by omega)
    have e2 : b = [] := List.eq_nil_of_length_eq_zero (by rw [← p.length_eq]; omega)
    rw [e1, e2]
theorem cutP_perm {l : Int} {a b : List (Str × Int)} (p : a.Perm b) : (cutP l a).Perm (cutP l b) := (p.filter _).map _
theorem fall_perm {a b : List (Str × Int)} (p : a.Perm b) (t : Int) : fallS a t = fallS b t := by unfold fallS; rw [minL_perm (p.map _)]
theorem arr_perm {n : Int} {a b : List (Str × Int)} (p : a.Perm b) (nd : (a.map (·.1)).Nodup) (x : Str) (t : Int) : (arrS n a x t).1.Perm (arrS n b x t).1 ∧ (arrS n a x t).2 = (arrS n b x t).2 := by
  have e1 : (x ∈ a.map (·.1)) ↔ x ∈ b.map (·.1) := (p.map _).mem_iff
  have e2 := p.length_eq
  unfold arrS
  rw [fall_perm p t, ← e2, getS_perm p nd x]
  by_cases h : x ∈ a.map (·.1) ∨ (a.length : Int) < n
  · rw [if_pos h, if_pos (by rw [← e1]; exact h)]
    exact ⟨putS_perm p _ _, rfl⟩
  · have h' : ¬ (x ∈ b.map (·.1) ∨ (a.length : Int) < n) := by rw [← e1]; exact h
    rw [if_neg h, if_neg h']
    refine ⟨?_, rfl⟩
    show List.Perm (if fallS b t < t then putS (cutP (fallS b t) a) x (t - fallS b t) else cutP (fallS b t) a) (if fallS b t < t then putS (cutP (fallS b t) b) x (t - fallS b t) else cutP (fallS b t) b)
    by_cases h2 : fallS b t < t
    · rw [if_pos h2, if_pos h2]; exact putS_perm (cutP_perm p) _ _
    · rw [if_neg h2, if_neg h2]; exact cutP_perm p
theorem putS_nodup {a : List (Str × Int)} (nd : (a.map (·.1)).Nodup) (n : Str) (c : Int) : ((putS a n c).map (·.1)).Nodup := by
  rw [putS_keys]; exact insS_nodup nd n
theorem cutP_nodup {a : List (Str × Int)} (nd : (a.map (·.1)).Nodup) (l : Int) : ((cutP l a).map (·.1)).Nodup := (cut_names l a).nodup nd
theorem arr_nodup {n : Int} {a : List (Str × Int)} (nd : (a.map (·.1)).Nodup) (x : Str) (t : Int) : ((arrS n a x t).1.map (·.1)).Nodup := by
  unfold arrS
  split
  · exact putS_nodup nd _ _
  · show ((if fallS a t < t then _ else _ : List (Str × Int)).map _).Nodup
    split
    · exact putS_nodup (cutP_nodup nd _) _ _
    · exact cutP_nodup nd _
abbrev playF (n : Int) (a : List (Str × Int) × Int) (r : Str × Int) : List (Str × Int) × Int := ((arrS n a.1 r.1 r.2).1, a.2 + (arrS n a.1 r.1 r.2).2)
theorem play_fold {n : Int} : ∀ (runs : List (Str × Int)) (a : List (Str × Int)) (d : Int), runs.foldl (playF n) (a, d) = ((playS n a runs).1, d + (playS n a runs).2)
  | [], a, d => by unfold playS; simp
  | r :: rs, a, d => by
    have h1 := play_fold (n := n) rs (arrS n a r.1 r.2).1 (d + (arrS n a r.1 r.2).2)
    have h2 := play_fold (n := n) rs (arrS n a r.1 r.2).1 (0 + (arrS n a r.1 r.2).2)
    show rs.foldl (playF n) ((arrS n a r.1 r.2).1, d + (arrS n a r.1 r.2).2) = ((rs.foldl (playF n) ((arrS n a r.1 r.2).1, 0 + (arrS n a r.1 r.2).2)).1, d + (rs.foldl (playF n) ((arrS n a r.1 r.2).1, 0 + (arrS n a r.1 r.2).2)).2)
    rw [h1, h2]
    simp only [Prod.mk.injEq, true_and]
    omega
theorem play_cons {n : Int} (r : Str × Int) (rs a : List (Str × Int)) : playS n a (r :: rs) = ((playS n (arrS n a r.1 r.2).1 rs).1, (arrS n a r.1 r.2).2 + (playS n (arrS n a r.1 r.2).1 rs).2) := by
  have h := play_fold (n := n) rs (arrS n a r.1 r.2).1 (0 + (arrS n a r.1 r.2).2)
  show rs.foldl (playF n) ((arrS n a r.1 r.2).1, 0 + (arrS n a r.1 r.2).2) = _
  rw [h, Int.zero_add]
theorem play_nil {n : Int} (a : List (Str × Int)) : playS n a [] = (a, 0) := rfl
theorem play_app {n : Int} : ∀ (r s a : List (Str × Int)), playS n a (r ++ s) = ((playS n (playS n a r).1 s).1, (playS n a r).2 + (playS n (playS n a r).1 s).2)
  | [], s, a => by simp [play_nil]
  | e :: r, s, a => by
    rw [List.cons_append, play_cons, play_cons, play_app r s]
    simp only [Prod.mk.injEq, true_and]
    omega
theorem play_perm {n : Int} : ∀ (runs : List (Str × Int)) {a b : List (Str × Int)}, a.Perm b → (a.map (·.1)).Nodup → (playS n a runs).1.Perm (playS n b runs).1 ∧ (playS n a runs).2 = (playS n b runs).2
  | [], a, b, p, nd => ⟨p, rfl⟩
  | r :: rs, a, b, p, nd => by
    obtain ⟨p1, e1⟩ := arr_perm (n := n) p nd r.1 r.2
    obtain ⟨p2, e2⟩ := play_perm rs p1 (arr_nodup nd _ _)
    rw [play_cons, play_cons]
    exact ⟨p2, by rw [e1, e2]⟩
theorem play_nodup {n : Int} : ∀ (runs : List (Str × Int)) {a : List (Str × Int)}, (a.map (·.1)).Nodup → ((playS n a runs).1.map (·.1)).Nodup
  | [], a, nd => nd
  | r :: rs, a, nd => by rw [play_cons]; exact play_nodup rs (arr_nodup nd _ _)
/-! sums -/
end LW
set_option Elab.async false
set_option linter.all false
set_option autoImplicit false
set_option maxRecDepth 100000
set_option maxHeartbeats 4000000
/-! BS: summaries with bare counts: what their methods do, as rules for a call. -/
namespace LW
open PySem PySem.Spec PyProof.Rows L2 DL
def okCounters : List D → Prop | [.tup ds, .int m] => fineA ds = true ∧ goodN ds m = ds.length | _ => False
def postBagB (ds : List D) (w : Wl) (d : D) (w' : Wl) : Prop := ∀ p xs m, ds = [.ptr p, .lst xs, .int m] → Pm w p w' ∧ ∃ prs, d = .btp (prs.map DL.prD) ∧ SumP (10 ^ 30) xs.length prs
/-- an order -/
def PathX (prs : List (Str × Int)) : Prop := ∃ (xs : List Str) (b : Int), xs.length ≤ 12 ∧ RunsB b xs prs ∧ prs.length ≤ 1000
theorem PathX.all {prs : List (Str × Int)} (h : PathX prs) : ∀ pr ∈ prs, nameS pr.1 = true ∧ 1 ≤ pr.2 := let ⟨_, _, _, h2, _⟩ := h; fun pr hp => ⟨(h2 pr hp).2.1, (h2 pr hp).2.2.1⟩
theorem PathX.len {prs : List (Str × Int)} (h : PathX prs) : prs.length ≤ 1000 := let ⟨_, _, _, _, h3⟩ := h; h3
theorem PathX.sub {prs qs : List (Str × Int)} (h : PathX prs) (s : ∀ x ∈ qs, x ∈ prs) (l : qs.length ≤ 1000) : PathX qs := let ⟨xs, b, h1, h2, _⟩ := h; ⟨xs, b, h1, fun pr hp => h2 pr (s pr hp), l⟩
theorem PathX.take {prs : List (Str × Int)} (h : PathX prs) (i : Nat) : PathX (prs.take i) := h.sub (fun _ hx => List.mem_of_mem_take hx) (by rw [List.length_take]; have := h.len; omega)
theorem PathX.drop {prs : List (Str × Int)} (h : PathX prs) (i : Nat) : PathX (prs.drop i) := h.sub (fun _ hx => List.mem_of_mem_drop hx) (by rw [List.length_drop]; have := h.len; omega)
theorem PathX.of {xs : List Str} {prs : List (Str × Int)} (h : Runs xs prs) (hx : xs.length ≤ 12) (hl : prs.length ≤ 1000) : PathX prs := ⟨xs, _, hx, h, hl⟩
theorem PathX.nil : PathX [] := ⟨[], 0, by decide, (fun _ h => nomatch h), by decide⟩
/-- a summary's capacity and counts -/
def SumX (c : Int) (prs : List (Str × Int)) : Prop := 1 ≤ c ∧ c ≤ 8 ∧ ∃ b, SumP b c.toNat prs
theorem SumX.nodup {c : Int} {prs : List (Str × Int)} (h : SumX c prs) : (prs.map (·.1)).Nodup := let ⟨_, _, _, h⟩ := h; h.nodup
theorem SumX.len {c : Int} {prs : List (Str × Int)} (h : SumX c prs) : (prs.length : Int) ≤ c := by obtain ⟨h1, _, _, h⟩ := h; have := h.2.2; omega
theorem SumX.tab {c : Int} {prs : List (Str × Int)} (h : SumX c prs) : ∃ b, TabOk c.toNat b prs := let ⟨_, _, b, h⟩ := h; ⟨b, h.tab⟩
theorem SumX.none {c : Int} (h1 : 1 ≤ c) (h2 : c ≤ 8) : SumX c [] := ⟨h1, h2, 0, SumP.none⟩
theorem SumX.asc {c : Int} {prs : List (Str × Int)} (h : SumX c prs) : LW.asc (prs.map (·.1)) := let ⟨_, _, _, h⟩ := h; h.1
theorem SumX.all {c : Int} {prs : List (Str × Int)} (h : SumX c prs) : ∀ pr ∈ prs, nameS pr.1 = true ∧ 1 ≤ pr.2 := let ⟨_, _, _, h⟩ := h; fun pr hp => ⟨(h.2.1 pr hp).1, (h.2.1 pr hp).2.1⟩
theorem SumX.of_tab {c b : Int} {kv ys : List (Str × Int)} (h : TabOk c.toNat b kv) (h1 : 1 ≤ c) (h8 : c ≤ 8) (p : ys.Perm kv) (a : LW.asc (ys.map (·.1))) : SumX c ys :=
  ⟨h1, h8, b, a, fun pr hp => h.2.1 pr (p.subset hp), by rw [p.length_eq]; exact h.2.2⟩
/-- what an order makes of a summary -/
def PlayD (c : Int) (prs runs ys : List (Str × Int)) : Prop := ys.Perm (playS c prs runs).1 ∧ asc (ys.map (·.1))
theorem PlayD.sum {c : Int} {prs runs ys : List (Str × Int)} (h : PlayD c prs runs ys) (hs : SumX c prs) (hr : PathX runs) : SumX c ys := by
  obtain ⟨b, ht⟩ := hs.tab
  obtain ⟨b', ht'⟩ := play_tab ht hs.1 hr.all runs.length (Nat.le_refl _)
  rw [List.take_length] at ht'
  exact .of_tab ht' hs.1 hs.2.1 h.1 h.2
theorem PlayD.app {c : Int} {prs r s ys zs : List (Str × Int)} (hs : SumX c prs) (h : PlayD c prs r ys) (g : PlayD c ys s zs) : PlayD c prs (r ++ s) zs := by
  refine ⟨g.1.trans ?_, g.2⟩
  rw [play_app]
  have n1 : (ys.map (·.1)).Nodup := (h.1.map _).nodup_iff.mpr (play_nodup r hs.nodup)
  exact (play_perm s h.1 n1).1
/-! ### rules -/
section
variable {K : PySem.W.Frag} {W : XK} {δ : Dlt} {w : Wl} {P : PD} {Z : ZD} {te : TE} {t : TA} {C : Addr} {E' : XK}
/-- kept -/
def preKept (C : Addr) (ds : List D) (_ : Wl) : Prop := ∃ (c : Int) (prs : List (Str × Int)), ds = [.ins C (sumFsB c prs)] ∧ SumX c prs
def postKept (C : Addr) (ds : List D) (w : Wl) (d : D) (w' : Wl) : Prop := w' = w ∧ ∀ (c : Int) (prs : List (Str × Int)), ds = [.ins C (sumFsB c prs)] → d = .int (totS prs)
theorem ev_path (h : EvA K W t δ w (fun ds w1 => ∃ (p : Addr) (xs : List Str) (k m : Int), ds = [.ptr p, .lst (xs.map D.str), .int k, .int m] ∧ wordsOk xs ∧ 0 < xs.length ∧ xs.length ≤ 12 ∧ 0 ≤ k ∧ k ≤ 1000 ∧ 0 ≤ m ∧ m ≤ 10 ^ 30 ∧ Pl w1 p w1 ∧ ∀ (w2 : Wl) (prs : List (Str × Int)), Pm w1 p w2 → Runs xs prs → (prs.length : Int) ≤ k → PathX prs → P (.tup (prs.map DL.prD)) w2) Z) : Ev K W (tCall (SpD K prePath postPath zN) [] E' t) δ w P Z := by
  refine ev_call (fun σ H s Q q z => h σ H s Q (fun v H' d w' e cc r ⟨p, xs, kk, m, hd, h1, h2, h3, h4, h5, h6, h7, h8, k2⟩ => q v H' d w' e cc r ?_) z)
  subst hd
  refine ⟨⟨p, xs, kk, m, rfl, h1.1, h2, by omega, h4, h5, h6, h7, h8⟩, fun dd w4 h4 => ?_⟩
  obtain ⟨hm, prs, rfl, hr, hl⟩ := h4 p xs kk m rfl
  exact k2 w4 prs hm hr hl (.of hr (by omega) (by omega))
end
/-- sum of pairs' numbers -/
def preSum (ds : List D) (_ : Wl) : Prop := ∃ prs : List (Str × Int), ds = [.tup (prs.map DL.prD)] ∧ prs.length ≤ 5000
def postSumT (ds : List D) (w : Wl) (d : D) (w' : Wl) : Prop := w' = w ∧ ∀ prs : List (Str × Int), ds = [.tup (prs.map DL.prD)] → d = .int (totS prs)
end LW
set_option Elab.async false
set_option linter.all false
set_option autoImplicit false
set_option maxRecDepth 100000
set_option maxHeartbeats 4000000
/-! BT: arrive; bounds of what is played; steps of one arrival. -/
namespace LW
open PySem PySem.Spec PyProof.Rows L2 DL
def okRun : List D → Prop | [.str n, .int t] => nameS n = true ∧ 1 ≤ t | _ => False
def preArv (C : Addr) (ds : List D) (_ : Wl) : Prop := ∃ (c : Int) (prs : List (Str × Int)) (n : Str) (t : Int), ds = [.ins C (sumFsB c prs), .str n, .int t] ∧ SumX c prs ∧ nameS n = true ∧ 1 ≤ t
def postArv (C : Addr) (ds : List D) (w : Wl) (d : D) (w' : Wl) : Prop := Keep w w' ∧ ∀ (c : Int) (prs : List (Str × Int)) (n : Str) (t : Int), ds = [.ins C (sumFsB c prs), .str n, .int t] → ∃ ys, d = .ins C (sumFsB c ys) ∧ PlayD c prs [(n, t)] ys
section
variable {K : PySem.W.Frag} {W : XK} {δ : Dlt} {w : Wl} {P : PD} {Z : ZD} {te : TE} {t : TA} {C : Addr} {E' : XK}
end
theorem Pm.dict {w w1 : Wl} {p l : Addr} {kvs : List (Key × D)} (h : Pm w p w1) (e : w1 l = some (.dK kvs)) : l ≠ p := fun z => by
  obtain ⟨a, b, c, e2, _⟩ := h.1.at
  rw [z, e2] at e; cases e
/-! bounds -/
/-! one arrival -/
def stepS (n : Int) (kvs : List (Str × Int)) (x : Str) : List (Str × Int) := if x ∈ kvs.map (·.1) ∨ (kvs.length : Int) < n then putS kvs x (getS kvs x + 1) else cutP 1 kvs
theorem step_arr {n b : Int} {kvs : List (Str × Int)} {x : Str} (h : TabOk n.toNat b kvs) (hn : 1 ≤ n) : stepS n kvs x = (arrS n kvs x 1).1 ∧ (arrS n kvs x 1).2 = (if x ∈ kvs.map (·.1) ∨ (kvs.length : Int) < n then 0 else 1) := by
  unfold stepS arrS
  by_cases hc : x ∈ kvs.map (·.1) ∨ (kvs.length : Int) < n
  · rw [if_pos hc, if_pos hc, if_pos hc]; exact ⟨rfl, rfl⟩
  · rw [if_neg hc, if_neg hc, if_neg hc]
    have hl : 0 < kvs.length := by
      have := fun z => hc (.inr z)
      omega
    have f1 : fallS kvs 1 = 1 := by
      unfold fallS
      have := minL_mem (ns := kvs.map (·.2)) (by rw [List.length_map]; exact hl)
      obtain ⟨e, he, hm⟩ := List.mem_map.mp this
      have := (h.2.1 e he).2.1
      rw [if_neg (by omega)]
    rw [f1, if_neg (by decide)]
    exact ⟨rfl, rfl⟩
def preStep (ds : List D) (w : Wl) : Prop := ∃ (n : Int) (l : Addr) (kvs : List (Str × Int)) (x : Str) (b : Int), ds = [.int n, .ptr l, .str x] ∧ w l = some (.dK (kvs.map entD)) ∧ TabOk n.toNat b kvs ∧ 1 ≤ n ∧ n ≤ 8
def postStep (ds : List D) (w : Wl) (d : D) (w' : Wl) : Prop := Keep w w' ∧ ∀ (n : Int) (l : Addr) (kvs : List (Str × Int)) (x : Str), ds = [.int n, .ptr l, .str x] → w l = some (.dK (kvs.map entD)) → ∃ (l2 : Addr) (b : Bool), d = .tup [.ptr l2, .bl b] ∧ b = !decide (x ∈ kvs.map (·.1) ∨ (kvs.length : Int) < n) ∧ w l2 = none ∧ w' l2 = some (.dK ((stepS n kvs x).map entD))
/-- what repr([s.capacity, s.counts]) shows -/
def shS (c : Int) (ys : List (Str × Int)) : Str := (py (.lst [.int c, .tup (ys.map DL.prD)])).shown
section
variable {K : PySem.W.Frag} {W : XK} {δ : Dlt} {w : Wl} {P : PD} {Z : ZD} {ta tb : TE} {C : Addr} {mg : Str → Option Value}
end
end LW
set_option Elab.async false
set_option linter.all false
set_option autoImplicit false
set_option maxRecDepth 100000
set_option maxHeartbeats 4000000
/-! DL27: len(o), repr(o), str(o) of instances with own __len__, __repr__, __str__. -/
namespace DL
open PySem PySem.Spec PyProof.Rows L2
section
variable {X : Cx} {C : CXT} {k : Nat} {f : Addr} {fd : FuncData} {ps : List Str} {sp : Sp} {E : XK}
end
def rLenO (C : Addr) (sp : Sp) (E : XK) : List V → Hp → VK → Prop := fun xs H Q => ∃ a dx fs, xs = [.ref a] ∧ H a = some (.ins C dx fs) ∧ sp [.ref a] H (fun v H2 => ∃ n : Int, v = .int n ∧ 0 ≤ n ∧ n < 2 ^ 63 ∧ Q v H2) E
def rStrO (C : Addr) (sp : Sp) (E : XK) : List V → Hp → VK → Prop := fun xs H Q => ∃ a dx fs, xs = [.ref a] ∧ H a = some (.ins C dx fs) ∧ sp [.ref a] H (fun v H2 => ∃ y : Str, v = .str y ∧ Q v H2) E
section
variable {X : Cx} {CX : CXT} {k : Nat} {C : Addr} {ps : List Str} {sp : Sp} {E : XK}
open Builtin Builtin.Str PySem.W in
theorem call_strK {prog : Program} {w : World} {A : Around} {E : Value → Shared → Prop} {s : Shared} {K : PySem.W.Frag} {x C f : Addr} {ox : Obj} {od : Option Obj} {Q : Value → Shared → Prop} (hu : A.in1.in1.units < cLine) (X : K.In s.heap) (I : PySem.W.InstAt s.heap x ox C od) (hs : PySem.W.findIn K (.ref C) "__str__" = some (some (.ref f))) (hf : PySem.W.isFn K (.ref f) = true)
    (h : wpAny (model prog w) A.in1.in1 (call (.ref f) [.ref x]) (PySem.W.StrBack Q) E s) : wpAny (model prog w) A (call (.type "str") [.ref x]) Q E s := by
  refine callType_codes (T := "str") (Bi := Builtin.«object.__init__») (Q₁ := fun r s₁ => ∃ y u, r = .str y u ∧ Q r s₁) PySem.F.called_str (PySem.F.typeCall_str_1 _) PySem.F.entry_object_init ?_ ?_
  · refine codeAny_of_tree ?_
    show wpAny _ A.in1.in1 (do checkBuiltinCall "str.__new__" ⟨[.type "str", .ref x], []⟩; again (.builtin "str.__new__" ⟨[.type "str", .ref x], []⟩)) _ _ s
    refine wpAny_bind (wpAny_of_eq (PySem.F.newCall_str_1 _) (wpAny_pure ⟨plainId_quiet (by decide +kernel) _, codeAny_builtin PySem.F.entry_str_new ?_⟩))
    rw [Around.under_plainId (by decide +kernel) _]
    rw [str_new_tree]
    refine wpAny_bind (wpAny_pure ?_)
    refine wpAny_bind (wpAny_of_eq isSubtype_str_str ?_)
    have key : wpAny (model prog w) A.in1.in1 (PySem.Builtin.Str.strOf (.ref x)) (fun r s₁ => ∃ y u, r = .str y u ∧ Q r s₁) E s := by
      unfold PySem.Builtin.Str.strOf
      rw [show isExactStr (.ref x) = false from rfl]
      refine wpAny_bind (m := cRoomFor _ _) (wpAny_cRoomFor hu ?_)
      refine wpAny_bind (m := callSpecial? (.ref x) (Str.ofString "__str__")) (special_fn X I hs (beq_iff_eq.mp hf) (wpAny_mono h (fun r s' z => ?_) fun _ _ y => y))
      cases r <;> first | exact z.elim | exact wpAny_pure ⟨_, _, rfl, z⟩
    exact wpAny_bind (wpAny_mono key (fun r s₁ hr => wpAny_pure hr) fun _ _ y => y)
  · rintro obj s₁ ⟨y, u, rfl, hq⟩
    exact ⟨typeIs_str _ _ _, PySem.F.args_object_init_2 _ _, object_init_meets PySem.F.called_str.init.lookup PySem.F.called_str.made (by decide) prog w A.in1 _ s₁ ⟨typeIs_str _ _ _, rfl, hq⟩⟩
end
section
variable {X : Cx} {CX : CXT} {k : Nat} {C : Addr} {ps : List Str} {sp : Sp} {E : XK} {e : Expr} {t : TE} {p pos : Pos}
end
section
variable {K : PySem.W.Frag} {w : Wl} {P : PD} {C : Addr} {fs : List (Str × D)} {pre : List D → Wl → Prop} {post : List D → Wl → D → Wl → Prop} {E' : XK}
end
end DL
namespace DL
open PySem PySem.Spec PyProof.Rows L2
section
variable {K : PySem.W.Frag} {W : XK} {δ : Dlt} {w : Wl} {P : PD} {Z : ZD} {ta tb tc : TE}
theorem ev_chain {r r' : R2} (h : Ev K W ta δ w (fun x w1 => Ev K W tb δ w1 (fun y w2 => Op2 K r x y w2 (fun d w3 => ∃ b, d = .bl b ∧ if b = true then Ev K W tc δ w3 (fun u w4 => Op2 K r' y u w4 P) Z else P (.bl false) w3)) Z) Z) : Ev K W (tChain r r' ta tb tc) δ w P Z :=
  fun σ H s Q q z => h σ H s _ (fun v H1 x w1 e1 c1 r1 h1 => h1 σ H1 (s.next e1 c1) _ (fun u H2 y w2 e2 c2 r2 h2 => h2 v u H2 (r1.mono e2) r2 c2 _ (fun d H3 d' w3 e3 c3 r3 ⟨b, hd, h3⟩ => by
    subst hd
    cases r3
    refine ⟨b, rfl, ?_⟩
    cases b with
    | true => exact h3 σ H3 (((s.next e1 c1).next e2 c2).next e3 c3) _ (fun u' H4 y' w4 e4 c4 r4 h4 => h4 u u' H4 ((r2.mono e3).mono e4) r4 c4 Q (KqG.next q (((e1.trans e2).trans e3).trans e4))) (z.next ((e1.trans e2).trans e3))
    | false => exact q _ H3 _ w3 ((e1.trans e2).trans e3) c3 (.bl false) h3)) (z.next e1)) z
end
end DL
set_option Elab.async false
set_option linter.all false
set_option autoImplicit false
set_option maxRecDepth 100000
set_option maxHeartbeats 4000000
/-! BU: losses of names; merging loses; counts by name. -/
namespace LW
open PySem PySem.Spec PyProof.Rows L2 DL
theorem getS_cut {f : Int} {kvs : List (Str × Int)} (nd : (kvs.map (·.1)).Nodup) (n : Str) : getS (cutP f kvs) n = if n ∈ kvs.map (·.1) ∧ getS kvs n > f then getS kvs n - f else 0 := by
  by_cases h : n ∈ kvs.map (·.1)
  · obtain ⟨e, he, rfl⟩ := List.mem_map.mp h
    have hg := getS_mem nd e he
    by_cases hf : e.2 > f
    · rw [if_pos ⟨h, by rw [hg]; exact hf⟩, hg]
      exact getS_mem (cutP_nodup nd f) (e.1, e.2 - f) (List.mem_map.mpr ⟨e, List.mem_filter.mpr ⟨he, decide_eq_true hf⟩, rfl⟩)
    · rw [if_neg (fun z => hf (by rw [hg] at z; exact z.2))]
      refine getS_new fun z => ?_
      obtain ⟨y, hy, hn⟩ := List.mem_map.mp z
      obtain ⟨x, hx, rfl⟩ := List.mem_map.mp hy
      obtain ⟨hx1, hx2⟩ := List.mem_filter.mp hx
      have hx2 := of_decide_eq_true hx2
      have e1 : x.1 = e.1 := hn
      have := getS_mem nd x hx1
      rw [e1, hg] at this
      omega
  · rw [if_neg (fun z => h z.1)]
    exact getS_new fun z => h ((cut_names _ _).subset z)
/-! merging -/
def minC (c : Int) (ns : List Int) : Int := (ns.map fun x => if x > c then c else x).sum
end LW
set_option Elab.async false
set_option linter.all false
set_option autoImplicit false
set_option maxRecDepth 100000
set_option maxHeartbeats 4000000
/-! DL28: comprehensions over a dict that is locked meanwhile. -/
namespace DL
open PySem PySem.Spec PyProof.Rows L2
section
variable {K : PySem.W.Frag} {W : XK} {δ : Dlt} {w : Wl} {P : PD} {te : TE} {tt : TT} {g : TG}
end
end DL
set_option Elab.async false
set_option linter.all false
set_option autoImplicit false
set_option maxRecDepth 100000
set_option maxHeartbeats 4000000
/-! BV: tally, len, merged as rules for a call. -/
namespace LW
open PySem PySem.Spec PyProof.Rows L2 DL
def preTal (C : Addr) (ds : List D) (_ : Wl) : Prop := ∃ (c : Int) (prs : List (Str × Int)) (n : Str), ds = [.ins C (sumFsB c prs), .str n] ∧ SumX c prs ∧ nameS n = true
def postTal (C : Addr) (ds : List D) (w : Wl) (d : D) (w' : Wl) : Prop := w' = w ∧ ∀ (c : Int) (prs : List (Str × Int)) (n : Str), ds = [.ins C (sumFsB c prs), .str n] → d = .int (getS prs n)
def preLen (C : Addr) (ds : List D) (_ : Wl) : Prop := ∃ (c : Int) (prs : List (Str × Int)), ds = [.ins C (sumFsB c prs)] ∧ prs.length ≤ 1000
def postLen (C : Addr) (ds : List D) (w : Wl) (d : D) (w' : Wl) : Prop := w' = w ∧ ∀ (c : Int) (prs : List (Str × Int)), ds = [.ins C (sumFsB c prs)] → d = .int prs.length
section
variable {K : PySem.W.Frag} {W : XK} {δ : Dlt} {w : Wl} {P : PD} {Z : ZD} {te : TE} {t : TA} {C : Addr} {E' : XK}
end
/-- sums by name, flat -/
def preFP (ds : List D) (_ : Wl) : Prop := ∃ prs : List (Str × Int), ds = [.tup (prs.map DL.prD)] ∧ (accS prs).length < 64 ∧ prs.length ≤ 5000
def postFP (ds : List D) (w : Wl) (d : D) (w' : Wl) : Prop := Keep w w' ∧ ∀ prs : List (Str × Int), ds = [.tup (prs.map DL.prD)] → ∃ ys, d = .tup (ys.map DL.prD) ∧ Sums prs ys
end LW
set_option Elab.async false
set_option linter.all false
set_option autoImplicit false
set_option maxRecDepth 100000
set_option maxHeartbeats 4000000
/-! BW: arrivals one by one; a late arrival. -/
namespace LW
open PySem PySem.Spec PyProof.Rows L2 DL
/-- tables by their counts -/
theorem mem_pos {n : Nat} {b : Int} {a : List (Str × Int)} (h : TabOk n b a) (z : Str) : z ∈ a.map (·.1) ↔ 0 < getS a z := by
  refine ⟨fun hz => ?_, fun hz => ?_⟩
  · obtain ⟨e, he, rfl⟩ := List.mem_map.mp hz
    rw [getS_mem h.1 e he]
    have := (h.2.1 e he).2.1
    omega
  · by_cases hm : z ∈ a.map (·.1)
    · exact hm
    · rw [getS_new hm] at hz; omega
theorem perm_of_get {n m : Nat} {b c : Int} {x y : List (Str × Int)} (hx : TabOk n b x) (hy : TabOk m c y) (h : ∀ z, getS x z = getS y z) : x.Perm y := by
  have nx := nodup_of_map hx.1
  have ny := nodup_of_map hy.1
  refine (List.perm_ext_iff_of_nodup nx ny).mpr fun e => ?_
  rw [mem_table hx.1, mem_table hy.1, mem_pos hx, mem_pos hy, h e.1]
theorem get_step {n b : Int} {a : List (Str × Int)} {x : Str} (h : TabOk n.toNat b a) (z : Str) :
    getS (stepS n a x) z = if x ∈ a.map (·.1) ∨ (a.length : Int) < n then getS a z + (if x = z then 1 else 0) else if 0 < getS a z then getS a z - 1 else 0 := by
  unfold stepS
  by_cases hc : x ∈ a.map (·.1) ∨ (a.length : Int) < n
  · rw [if_pos hc, if_pos hc]
    by_cases hz : x = z
    · subst hz
      rw [getS_put, if_pos rfl]
    · rw [getS_put_ne a _ (Ne.symm hz), if_neg hz]; omega
  · rw [if_neg hc, if_neg hc, getS_cut h.1]
    by_cases hz : z ∈ a.map (·.1)
    · have hp := (mem_pos h z).mp hz
      rw [if_pos hp]
      split
      · rfl
      · rename_i hn
        have : ¬ getS a z > 1 := fun q => hn ⟨hz, q⟩
        omega
    · have hp : ¬ 0 < getS a z := fun q => hz ((mem_pos h z).mpr q)
      rw [if_neg hp, if_neg (fun q => hz q.1)]
theorem step_tab {n b : Int} {a : List (Str × Int)} {x : Str} (h : TabOk n.toNat b a) (hx : nameS x = true) (hn : 1 ≤ n) : ∃ b', TabOk n.toNat b' (stepS n a x) := by
  rw [(step_arr h hn).1]
  exact arr_tab h hx (Int.le_refl 1) hn
theorem put_len {a : List (Str × Int)} (x : Str) (c : Int) : (putS a x c).length = if x ∈ a.map (·.1) then a.length else a.length + 1 := by
  by_cases h : x ∈ a.map (·.1)
  · rw [if_pos h]
    have e : (a.any fun kv => decide (kv.1 = x)) = true := by
      obtain ⟨y, hy, hn⟩ := List.mem_map.mp h
      exact List.any_eq_true.mpr ⟨y, hy, decide_eq_true hn⟩
    unfold putS
    rw [if_pos e, List.length_map]
  · rw [if_neg h, (putS_new h).1, List.length_append]; rfl
/-! a run is its arrivals one by one -/
/-- single arrivals -/
def stepsS (n : Int) : List (Str × Int) → List Str → List (Str × Int) × Int
  | a, [] => (a, 0)
  | a, x :: xs => ((stepsS n (arrS n a x 1).1 xs).1, (arrS n a x 1).2 + (stepsS n (arrS n a x 1).1 xs).2)
def singles (runs : List (Str × Int)) : List Str := runs.flatMap fun r => List.replicate r.2.toNat r.1
/-! a late arrival -/
/-- B is A with one more at y -/
def MoreR (n : Int) (y : Str) (a b : List (Str × Int)) : Prop := (∀ z, getS b z = getS a z + (if y = z then 1 else 0)) ∧ (y ∈ a.map (·.1) ∨ (a.length : Int) < n)
/-- A is full, B is A with each count lower by one -/
def LessR (n : Int) (a b : List (Str × Int)) : Prop := (a.length : Int) = n ∧ ∀ z, getS b z = if 0 < getS a z then getS a z - 1 else 0
theorem MoreR.len {n : Int} {y : Str} {a b : List (Str × Int)} {p q : Int} (h : MoreR n y a b) (ha : TabOk n.toNat p a) (hb : TabOk n.toNat q b) (hy : nameS y = true) (hn : 1 ≤ n) : b.length = if y ∈ a.map (·.1) then a.length else a.length + 1 := by
  have e : b.Perm (stepS n a y) := by
    obtain ⟨b', hs⟩ := step_tab ha hy hn
    refine perm_of_get hb hs fun z => ?_
    rw [h.1 z, get_step ha, if_pos h.2]
  rw [e.length_eq]
  unfold stepS
  rw [if_pos h.2, put_len]
def LateR (n d : Int) (a b : List (Str × Int)) : Prop := (∃ y, nameS y = true ∧ MoreR n y a b ∧ d = 0) ∨ (LessR n a b ∧ d = 1)
end LW
set_option Elab.async false
set_option linter.all false
set_option autoImplicit false
set_option maxRecDepth 100000
set_option maxHeartbeats 4000000
/-! DL29: for k, v in d.items(), d standing still. -/
namespace DL
open PySem PySem.Spec PyProof.Rows L2
section
variable {K : PySem.W.Frag} {W : XK} {δ : Dlt} {w : Wl} {P : PD} {Z : ZD} {ta tb te td ty : TE} {tt : TT} {ts tu : TS} {g : TG}
end
end DL
set_option Elab.async false
set_option linter.all false
set_option autoImplicit false
set_option maxRecDepth 100000
set_option maxHeartbeats 4000000
/-! BX: what late_change tells. -/
namespace LW
open PySem PySem.Spec PyProof.Rows L2 DL
def okIdx : List D → Prop | [.int i, .int m] => 0 ≤ i ∧ i ≤ m | _ => False
def lateR (runs : List (Str × Int)) (k : Int) (nm : Str) : List (Str × Int) := runs.take k.toNat ++ (nm, 1) :: runs.drop k.toNat
def LateD (c : Int) (A B : List (Str × Int)) (dl : Int) (d : D) : Prop :=
  (∃ y, nameS y = true ∧ d = .tup [.str ("more" : Str), .str y] ∧ MoreR c y A B ∧ dl = 0) ∨ (d = .tup [.str ("less" : Str)] ∧ LessR c A B ∧ dl = 1)
def preLate (C : Addr) (ds : List D) (_ : Wl) : Prop := ∃ (c : Int) (prs runs : List (Str × Int)) (k : Int) (nm : Str), ds = [.ins C (sumFsB c prs), .tup (runs.map DL.prD), .int k, .str nm] ∧ SumX c prs ∧ PathX runs ∧ 0 ≤ k ∧ k ≤ runs.length ∧ nameS nm = true
def postLate (C : Addr) (ds : List D) (w : Wl) (d : D) (w' : Wl) : Prop := Keep w w' ∧ ∀ (c : Int) (prs runs : List (Str × Int)) (k : Int) (nm : Str), ds = [.ins C (sumFsB c prs), .tup (runs.map DL.prD), .int k, .str nm] →
  LateD c (playS c prs runs).1 (playS c prs (lateR runs k nm)).1 ((playS c prs (lateR runs k nm)).2 - (playS c prs runs).2) d
end LW
set_option Elab.async false
set_option linter.all false
set_option autoImplicit false
set_option maxRecDepth 100000
set_option maxHeartbeats 4000000
/-! DL30: dict of a list of pairs; [f(k) for k in d if b(k)], d standing still. -/
namespace DL
open PySem PySem.Spec PyProof.Rows L2
def rDictL (K : PySem.W.Frag) : List V → Hp → VK → Prop := fun xs H Q => ∃ (a : Addr) (ps : List Addr) (kvs : List (Key × V)), xs = [.ref a] ∧ SqL K H a (ps.map V.ref) ∧ Paired (fun p kv => SqT K H p [kV kv.1, kv.2]) ps kvs ∧
  ∀ p, H p = none → Q (.ref p) (upd H p (.dK (mergeK [] kvs)))
section
variable {X : Cx} {K : PySem.W.Frag} {e : Expr} {es : List Expr} {t : TA} {p pos : Pos}
end
section
variable {K : PySem.W.Frag} {W : XK} {δ : Dlt} {w : Wl} {P : PD} {Z : ZD} {ta tb te td ty : TE} {tt : TT} {ts tu : TS} {g : TG}
end
end DL
set_option Elab.async false
set_option linter.all false
set_option autoImplicit false
set_option maxRecDepth 100000
set_option maxHeartbeats 4000000
/-! BY: late arrivals in turn. -/
namespace LW
open PySem PySem.Spec PyProof.Rows L2 DL
/-- a path with its bound -/
def postPathM (ds : List D) (w : Wl) (d : D) (w' : Wl) : Prop := ∀ p xs k m, ds = [.ptr p, .lst (xs.map D.str), .int k, .int m] → Pm w p w' ∧ ∃ prs : List (Str × Int), d = .tup (prs.map DL.prD) ∧ RunsB (if m = 0 then 10 ^ 30 else m) xs prs ∧ (prs.length : Int) ≤ k
section
variable {K : PySem.W.Frag} {W : XK} {δ : Dlt} {w : Wl} {P : PD} {Z : ZD} {E' : XK} {t : TA}
end
/-! the change told, made on a table -/
def lessD : D := .tup [.str ("less" : Str)]
def moreD (y : Str) : D := .tup [.str ("more" : Str), .str y]
def preChg (ds : List D) (w : Wl) : Prop := ∃ (l : Addr) (kvs : List (Str × Int)) (d : D), ds = [.ptr l, d] ∧ w l = some (.dK (kvs.map entD)) ∧ (kvs.map (·.1)).Nodup ∧ kvs.length ≤ 60 ∧ (d = lessD ∨ ∃ y, d = moreD y)
def postChg (ds : List D) (w : Wl) (d' : D) (w' : Wl) : Prop := Keep w w' ∧ ∀ (l : Addr) (kvs : List (Str × Int)) (d : D), ds = [.ptr l, d] → w l = some (.dK (kvs.map entD)) →
  ∃ (l' : Addr) (kvs' : List (Str × Int)), d' = .ptr l' ∧ w l' = none ∧ w' l' = some (.dK (kvs'.map entD)) ∧ (d = lessD → kvs' = cutP 1 kvs) ∧ ∀ y, d = moreD y → kvs' = putS kvs y (getS kvs y + 1)
def lowF : Key → D → D | .inr n, .int c => .tup [.str n, .int (c - 1)] | _, _ => .non
def lowB : Key → D → Bool | _, .int c => decide (c > 1) | _, _ => false
/-! all late arrivals of a law's case -/
def ltD (e : Int × Str) : D := .tup [.int e.1, .str e.2]
def preTurn (C : Addr) (ds : List D) (_ : Wl) : Prop := ∃ (c : Int) (prs runs : List (Str × Int)) (lts : List (Int × Str)) (xs : List Str), ds = [.ins C (sumFsB c prs), .tup (runs.map DL.prD), .lst (lts.map ltD)] ∧ 1 ≤ c ∧ c ≤ 8 ∧ SumP (10 ^ 30) c.toNat prs ∧ xs.length ≤ 12 ∧ Runs xs runs ∧ runs.length + lts.length ≤ 1000 ∧ ∀ lt ∈ lts, 0 ≤ lt.1 ∧ lt.1 ≤ 1000 ∧ nameS lt.2 = true ∧ lt.2 ∈ xs
end LW
set_option Elab.async false
set_option linter.all false
set_option autoImplicit false
set_option maxRecDepth 100000
set_option maxHeartbeats 4000000
/-! BZ: one late arrival (the texts of what is told). -/
namespace LW
open PySem PySem.Spec PyProof.Rows L2 DL
def preFull (C : Addr) (ds : List D) (_ : Wl) : Prop := ∃ (c : Int) (prs : List (Str × Int)), ds = [.ins C (sumFsB c prs)] ∧ prs.length ≤ 1000
def postFull (C : Addr) (ds : List D) (w : Wl) (d : D) (w' : Wl) : Prop := w' = w ∧ ∀ (c : Int) (prs : List (Str × Int)), ds = [.ins C (sumFsB c prs)] → d = .bl (decide ((prs.length : Int) = c))
section
variable {K : PySem.W.Frag} {W : XK} {δ : Dlt} {w : Wl} {P : PD} {Z : ZD} {te : TE} {C : Addr} {E' : XK}
end
def preCR (C : Addr) (ds : List D) (_ : Wl) : Prop := ∃ (c : Int) (prs runs : List (Str × Int)) (k : Int) (nm : Str) (xs : List Str), ds = [.ins C (sumFsB c prs), .tup (runs.map DL.prD), .int k, .str nm] ∧ 1 ≤ c ∧ c ≤ 8 ∧ SumP (10 ^ 30) c.toNat prs ∧ xs.length ≤ 12 ∧ Runs xs runs ∧ runs.length ≤ 900 ∧ 0 ≤ k ∧ k ≤ runs.length ∧ nameS nm = true ∧ nm ∈ xs
end LW
set_option Elab.async false
set_option linter.all false
set_option autoImplicit false
set_option maxRecDepth 100000
set_option maxHeartbeats 4000000
/-! DL31: x (not) in a list of texts; a list times an int. -/
namespace DL
open PySem PySem.Spec PyProof.Rows L2
theorem qo_inL {X : Cx} {K : PySem.W.Frag} (hK : X.K = K) : OpR X (compareOp .In) (rIn K false) := by subst hK; exact op_in_seq
section
variable {K : PySem.W.Frag} {w : Wl} {P : PD}
theorem strs_of {G : Hp} : ∀ {vs : List V} {xs : List Str}, RpA K G vs (xs.map D.str) → vs = xs.map V.str
  | _, [], h => by cases h; rfl
  | _, x :: xs, h => by
    cases h with
    | cons h t => cases h; rw [strs_of t]; rfl
theorem inV_strs (x : Str) : ∀ xs : List Str, inV (.str x) (xs.map V.str) = decide (x ∈ xs)
  | [] => by simp [inV]
  | y :: ys => by
    have ih := inV_strs x ys
    unfold inV at ih ⊢
    rw [List.map_cons, List.any_cons, ih]
    have e : eqV (.str y) (.str x) = decide (y = x) := by
      unfold eqV
      rfl
    rw [e]
    by_cases h : y = x
    · subst h; simp
    · have h' : ¬ x = y := fun z => h z.symm
      simp [h, h']
theorem o2_inL {neg : Bool} {x : Str} {xs : List Str} (k : P (.bl (if neg then !decide (x ∈ xs) else decide (x ∈ xs))) w) : Op2 K (rIn K neg) (.str x) (.lst (xs.map D.str)) w P := by
  intro v u H h1 h2 c Q q
  cases h1
  cases h2 with
  | lst ht hr =>
    obtain rfl := strs_of hr
    refine ⟨_, _, rfl, .inl (SqL.of (msk_some ht).2), rfl, ?_, ?_⟩
    · rw [List.all_map]; exact List.all_eq_true.mpr fun _ _ => rfl
    · rw [inV_strs]
      exact q _ _ _ _ (Ex.refl _) c (.bl _) k
theorem o2_rep {ds : List D} {n : Int} (h0 : 0 ≤ n) (h1 : n ≤ 1000) (hz : ds.length ≤ 1000) (k : P (.lst (List.replicate n.toNat ds).flatten) w) : Op2 K rRep (.lst ds) (.int n) w P := by
  intro v u H r1 r2 c Q q
  cases r2
  cases r1 with
  | @lst a xs _ ht hr =>
    have hb : ∀ m : Nat, RpA K (msk w H) (List.replicate m xs).flatten (List.replicate m ds).flatten := fun m => by
      induction m with
      | zero => exact .nil
      | succ m ih => rw [List.replicate_succ, List.replicate_succ, List.flatten_cons, List.flatten_cons]; exact hr.append ih
    refine ⟨_, n, xs, rfl, rfl, (msk_some ht).2, by omega, by omega, ?_, fun p hp => kq_lst q c (hb n.toNat) k hp⟩
    rw [hr.length, sizeLine_eq]
    have : ds.length * n.toNat ≤ 1000 * 1000 := Nat.mul_le_mul hz (by omega)
    omega
end
end DL
set_option Elab.async false
set_option linter.all false
set_option autoImplicit false
set_option maxRecDepth 100000
set_option maxHeartbeats 4000000
/-! DL32: sorted of a list of pairs (text, int), any number of them. -/
namespace DL
open PySem PySem.Spec PyProof.Rows L2
def siLe (p q : Str × Int) : Prop := ¬ (q.1.cps.toList < p.1.cps.toList ∨ (q.1 = p.1 ∧ q.2 < p.2))
def encB (b : V × Str × Int) : PyData := .tuple [.str b.2.1, .int b.2.2]
def rSortPr (K : PySem.W.Frag) : List V → Hp → VK → Prop := fun vs H Q => ∃ (a : Addr) (bs : List (V × Str × Int)), vs = [V.ref a] ∧ SqL K H a (bs.map (·.1)) ∧ (∀ b ∈ bs, Dp K H b.1 (encB b)) ∧
  ∀ (bs' : List (V × Str × Int)) (p : Addr), bs'.Perm bs → (bs'.Pairwise fun x y => siLe x.2 y.2) → H p = none → Q (.ref p) (upd H p (.lst (bs'.map (·.1))))
section
variable {X : Cx} {K : PySem.W.Frag} {e : Expr} {es : List Expr} {t : TA} {p pos : Pos}
end
end DL
set_option Elab.async false
set_option linter.all false
set_option autoImplicit false
set_option maxRecDepth 100000
set_option maxHeartbeats 4000000
/-! CA: how many reductions a size tells; the cases of the laws on truth. -/
namespace LW
open PySem PySem.Spec PyProof.Rows L2 DL
def postFlatB (ds : List D) (w : Wl) (d : D) (w' : Wl) : Prop := w' = w ∧ ∀ (l : Addr) (kvs : List (Str × Int)), ds = [.ptr l] → w l = some (.dK (kvs.map entD)) → ∃ ys : List (Str × Int), d = .btp (ys.map DL.prD) ∧ ys.Perm kvs ∧ asc (ys.map (·.1))
def preRC (C : Addr) (ds : List D) (_ : Wl) : Prop := ∃ (c : Int) (prs : List (Str × Int)) (n : Int), ds = [.ins C (sumFsB c prs), .int (totS prs + n * (c + 1))] ∧ SumX c prs ∧ 0 ≤ n ∧ n ≤ 10 ^ 60
def postRC (C : Addr) (ds : List D) (w : Wl) (d : D) (w' : Wl) : Prop := w' = w ∧ ∀ (c : Int) (prs : List (Str × Int)) (n : Int), ds = [.ins C (sumFsB c prs), .int (totS prs + n * (c + 1))] → 1 ≤ c → d = .int n
section
variable {K : PySem.W.Frag} {W : XK} {δ : Dlt} {w : Wl} {P : PD} {Z : ZD} {E' : XK} {t tk : TA} {C : Addr}
end
/-- a case: width, counts kept, reductions, true counts -/
def CaseOk (c n : Int) (prs bag : List (Str × Int)) : Prop := 1 ≤ c ∧ c ≤ 8 ∧ SumP (10 ^ 30) c.toNat prs ∧ 0 ≤ n ∧ n ≤ 10 ^ 30 ∧ SumP (2 * 10 ^ 30) 12 bag ∧ (∀ y, 0 ≤ getS bag y - getS prs y ∧ getS bag y - getS prs y ≤ n) ∧ totS bag = totS prs + n * (c + 1)
def postCaseT (ds : List D) (w : Wl) (d : D) (w' : Wl) : Prop := ∀ p, ds = [.ptr p] → Pm w p w' ∧ ∃ (c n : Int) (prs bag : List (Str × Int)), d = .lst [.int c, .btp (prs.map DL.prD), .int n, .tup (bag.map DL.prD)] ∧ CaseOk c n prs bag
def posB : D → Bool | .tup [_, .int c] => decide (c > 0) | _ => false
def posP (kv : List (Str × Int)) : List (Str × Int) := kv.filter fun e => decide (e.2 > 0)
def preSM (C : Addr) (ds : List D) (_ : Wl) : Prop := ∃ (c : Int) (prs : List (Str × Int)) (n : Int) (x y : Str), ds = [.ins C (sumFsB c prs), .int (totS prs + n * (c + 1)), .str x, .str y] ∧ SumX c prs ∧ 0 ≤ n ∧ n ≤ 10 ^ 60 ∧ nameS x = true ∧ nameS y = true
def postSM (C : Addr) (ds : List D) (w : Wl) (d : D) (w' : Wl) : Prop := w' = w ∧ ∀ (c : Int) (prs : List (Str × Int)) (n : Int) (x y : Str), ds = [.ins C (sumFsB c prs), .int (totS prs + n * (c + 1)), .str x, .str y] → 1 ≤ c → d = .bl (decide (getS prs x > getS prs y + n))
def preDeps (ds : List D) (w : Wl) : Prop := ∃ (p : Addr) (prs : List (Str × Int)) (n : Int), ds = [.ptr p, .tup (prs.map DL.prD), .int n] ∧ prs.length ≤ 100 ∧ 0 ≤ n ∧ n ≤ 10 ^ 30 ∧ (∀ pr ∈ prs, 0 ≤ pr.2 ∧ pr.2 ≤ 10 ^ 30) ∧ Pl w p w
def postDeps (ds : List D) (w : Wl) (d : D) (w' : Wl) : Prop := ∀ p a b, ds = [.ptr p, a, b] → Pl w p w' ∧ ∃ ns : List Int, d = .lst (ns.map D.int) ∧ ns.length ≤ 10 ∧ ∀ n ∈ ns, 0 ≤ n ∧ n ≤ 10 ^ 31
end LW
set_option Elab.async false
set_option linter.all false
set_option autoImplicit false
set_option maxRecDepth 100000
set_option maxHeartbeats 4000000
/-! DL33: f(d=, c=, b=, a=). -/
namespace DL
open PySem PySem.Spec PyProof.Rows L2
def kgR4 {α : Type} : List α → List α → List α
  | [], [a, b, c, d] => [d, c, b, a]
  | _, _ => []
end DL
namespace LW
open PySem PySem.Spec PyProof.Rows L2 DL
section
variable {K : PySem.W.Frag} {W : XK} {δ : Dlt} {w : Wl} {P : PD} {Z : ZD} {E' : XK} {t tk : TA} {te : TE} {C : Addr}
end
def firstF : D → D | .tup [d, _] => d | _ => .non
def freshB (ns : List Str) : D → Bool | .str s => !decide (s ∈ ns) | _ => false
def depF (g : Int) : D → D | .int s => .int (if g + s > 0 then g + s else 0) | _ => .non
end LW
set_option Elab.async false
set_option linter.all false
set_option autoImplicit false
set_option maxRecDepth 100000
set_option maxHeartbeats 4000000
/-! DL34: repr of a bool. -/
namespace DL
open PySem PySem.Spec PyProof.Rows L2
def boolS (b : Bool) : Str := if b then "True" else "False"
def rReprB : List V → Hp → VK → Prop := fun vs H Q => ∃ b, vs = [.bl b] ∧ Q (.str (boolS b)) H
section
variable {X : Cx} {K : PySem.W.Frag} {e : Expr} {es : List Expr} {t : TA} {p pos : Pos}
end
end DL
set_option Elab.async false
set_option linter.all false
set_option autoImplicit false
set_option maxRecDepth 100000
set_option maxHeartbeats 4000000
/-! CB: which true counts fit. -/
namespace LW
open PySem PySem.Spec PyProof.Rows L2 DL
def okLoss (n : Int) (v : Int) : Bool := decide (0 ≤ v) && decide (v ≤ n)
def fitB (c n : Int) (prs a : List (Str × Int)) : Bool := (accS (lossL [] a prs)).all (fun e => okLoss n e.2) && decide (totS a = totS prs + n * (c + 1))
def preFit (C : Addr) (ds : List D) (_ : Wl) : Prop := ∃ (c : Int) (prs a : List (Str × Int)) (n b : Int), ds = [.ins C (sumFsB c prs), .int (totS prs + n * (c + 1)), .tup (a.map DL.prD)] ∧ 1 ≤ c ∧ c ≤ 8 ∧ SumP b c.toNat prs ∧ SumP b 12 a ∧ 0 ≤ n ∧ n ≤ 10 ^ 60
def postFit (C : Addr) (ds : List D) (w : Wl) (d : D) (w' : Wl) : Prop := Keep w w' ∧ ∀ (c : Int) (prs a : List (Str × Int)) (n : Int), ds = [.ins C (sumFsB c prs), .int (totS prs + n * (c + 1)), .tup (a.map DL.prD)] → 1 ≤ c → d = .bl (fitB c n prs a)
def secF : D → D | .tup [_, d] => d | _ => .non
def chkF (n : Int) : D → D | .int v => .bl (okLoss n v) | _ => .non
def preIsF (ds : List D) (_ : Wl) : Prop := ∃ (prs a : List (Str × Int)) (n g b c : Int), ds = [.tup (prs.map DL.prD), .int n, .int g, .tup (a.map DL.prD)] ∧ c ≤ 8 ∧ SumP b c.toNat prs ∧ SumP b 12 a
def postIsF (ds : List D) (w : Wl) (d : D) (w' : Wl) : Prop := Keep w w' ∧ ∀ (prs a : List (Str × Int)) (n g : Int), ds = [.tup (prs.map DL.prD), .int n, .int g, .tup (a.map DL.prD)] → d = .bl (decide (totS a = g) && (accS (lossL [] a prs)).all (fun e => okLoss n e.2))
def preMov (ds : List D) (w : Wl) : Prop := ∃ (p : Addr) (a : List (Str × Int)) (b : Int), ds = [.ptr p, .tup (a.map DL.prD)] ∧ SumP b 12 a ∧ 0 < a.length ∧ b ≤ 10 ^ 40 ∧ Pl w p w
def postMov (ds : List D) (w : Wl) (d : D) (w' : Wl) : Prop := ∀ p a b, ds = [.ptr p, .tup (a.map DL.prD)] → SumP b 12 a → Pm w p w' ∧ ∃ e : List (Str × Int), d = .tup (e.map DL.prD) ∧ SumP (2 * b) 12 e
def movS (a : List (Str × Int)) (f g : Str) (s : Int) : List (Str × Int) := putS (putS a f (getS a f - s)) g (getS (putS a f (getS a f - s)) g + s)
end LW
set_option Elab.async false
set_option linter.all false
set_option autoImplicit false
set_option maxRecDepth 100000
set_option maxHeartbeats 4000000
/-! DL35: branches that join; an owned list seen as plain data from here on; a sum of lists that is owned. -/
namespace DL
open PySem PySem.Spec PyProof.Rows L2
section
variable {K : PySem.W.Frag} {W : XK} {δ : Dlt} {w : Wl} {P : PD} {Z : ZD} {ts tu : TS}
end
end DL
namespace LW
open PySem PySem.Spec PyProof.Rows L2 DL
theorem Pm.cut {w w' : Wl} {p q : Addr} (h : Pm w p w') (n : q ≠ p) (f : w q = none) : Pm w p (DL.cut w' q) := by
  refine ⟨?_, fun r hr e => ?_⟩
  · obtain ⟨a, b, c, e, h1, h2, h3⟩ := h.1.at
    exact Pl.of (by unfold DL.cut; rw [if_neg (Ne.symm n)]; exact e) h1 h2 h3
  · unfold DL.cut
    have ne : r ≠ q := fun z => e (z ▸ f)
    rw [if_neg ne]
    exact h.2 r hr e
end LW
set_option Elab.async false
set_option linter.all false
set_option autoImplicit false
set_option maxRecDepth 100000
set_option maxHeartbeats 4000000
/-! CC: lists of counts, seen as plain tuples; true counts of a case fit. -/
namespace DL
open PySem PySem.Spec PyProof.Rows L2
def wkD : D → D | .btp ds => .tup ds | d => d
section
variable {K : PySem.W.Frag} {G : Hp}
end
section
variable {K : PySem.W.Frag} {W : XK} {δ : Dlt} {w : Wl} {P : PD} {Z : ZD} {te : TE}
end
end DL
namespace LW
open PySem PySem.Spec PyProof.Rows L2 DL
def Cand (a : List (Str × Int)) : Prop := SumP (10 ^ 32) 12 a
/-- a list of candidates -/
def Cands (ds : List D) : Prop := ∀ d ∈ ds, ∃ a, d = D.tup (a.map DL.prD) ∧ Cand a
theorem Cands.nil : Cands [] := fun _ h => (List.not_mem_nil h).elim
theorem Cands.cons {a : List (Str × Int)} {ds : List D} (h : Cand a) (t : Cands ds) : Cands (.tup (a.map DL.prD) :: ds) := fun d hd => by
  rcases List.mem_cons.mp hd with rfl | hd
  · exact ⟨a, rfl, h⟩
  · exact t d hd
theorem Cands.app {ds es : List D} (h : Cands ds) (t : Cands es) : Cands (ds ++ es) := fun d hd => by
  rcases List.mem_append.mp hd with hd | hd
  · exact h d hd
  · exact t d hd
theorem Cand.drop {a : List (Str × Int)} (h : Cand a) (i : Nat) : Cand (a.take i ++ a.drop (i + 1)) := by
  have s : (a.take i ++ a.drop (i + 1)).Sublist a := by
    conv => rhs; rw [← List.take_append_drop i a]
    refine List.Sublist.append (List.Sublist.refl _) ?_
    rw [show i + 1 = i + 1 from rfl, ← List.drop_drop]
    exact List.drop_sublist ..
  exact h.sub s (Nat.le_trans s.length_le h.2.2)
section
variable {K : PySem.W.Frag} {W : XK} {δ : Dlt} {w : Wl} {P : PD} {Z : ZD} {E' : XK} {t tk : TA} {te : TE} {C : Addr}
end
end LW
set_option Elab.async false
set_option linter.all false
set_option autoImplicit false
set_option maxRecDepth 100000
set_option maxHeartbeats 4000000
/-! CD: ranges of true counts. -/
namespace LW
open PySem PySem.Spec PyProof.Rows L2 DL
def preTR (C : Addr) (ds : List D) (_ : Wl) : Prop := ∃ (c : Int) (prs : List (Str × Int)) (n : Int) (x : Str), ds = [.ins C (sumFsB c prs), .int (totS prs + n * (c + 1)), .str x] ∧ SumX c prs ∧ 0 ≤ n ∧ n ≤ 10 ^ 60 ∧ nameS x = true
def postTR (C : Addr) (ds : List D) (w : Wl) (d : D) (w' : Wl) : Prop := w' = w ∧ ∀ (c : Int) (prs : List (Str × Int)) (n : Int) (x : Str), ds = [.ins C (sumFsB c prs), .int (totS prs + n * (c + 1)), .str x] → 1 ≤ c → d = .tup [.int (getS prs x), .int (getS prs x + n)]
section
variable {K : PySem.W.Frag} {W : XK} {δ : Dlt} {w : Wl} {P : PD} {Z : ZD} {E' : XK} {t tk : TA} {te : TE} {C : Addr}
end
/-- so many units on each of these names -/
def layS (prs : List (Str × Int)) (xs : List Str) (n : Int) : List (Str × Int) := accS (prs ++ xs.map fun x => (x, n))
def preSpr (ds : List D) (_ : Wl) : Prop := ∃ (prs : List (Str × Int)) (xs : List Str) (k n : Int), ds = [.tup (prs.map DL.prD), .lst (xs.map D.str), .int (n * k), .int n] ∧ SumP (10 ^ 30) 8 prs ∧ xs.Nodup ∧ (∀ x ∈ xs, nameS x = true) ∧ (xs.length : Int) ≤ k ∧ k ≤ 9 ∧ 0 ≤ n ∧ n ≤ 10 ^ 30
def SprOk (prs : List (Str × Int)) (xs : List Str) (n : Int) (e : List (Str × Int)) : Prop := SumP (2 * 10 ^ 30) 20 e ∧ (∀ y, getS e y = getS prs y + if y ∈ xs then n else 0) ∧ totS e = totS prs + n * xs.length
def postSpr (ds : List D) (w : Wl) (d : D) (w' : Wl) : Prop := Keep w w' ∧ ∀ (prs : List (Str × Int)) (xs : List Str) (k n : Int), ds = [.tup (prs.map DL.prD), .lst (xs.map D.str), .int (n * k), .int n] → ∃ e : List (Str × Int), d = .lst [.tup (e.map DL.prD), .int (n * k - n * xs.length)] ∧ SprOk prs xs n e
end LW
set_option Elab.async false
set_option linter.all false
set_option autoImplicit false
set_option maxRecDepth 100000
set_option maxHeartbeats 4000000
/-! CE: other names; pairs shown. -/
namespace LW
open PySem PySem.Spec PyProof.Rows L2 DL
def neB (x : Str) : D → Bool | .str s => !decide (s = x) | _ => false
def neFreshB (x : Str) (ns : List Str) : D → Bool | .str s => !decide (s = x) && !decide (s ∈ ns) | _ => false
def fresh10 : List Str := ["qa", "qb", "qc", "qd", "qe", "qf", "qg", "qh", "qi", "qj"]
def othS (ns : List Str) (x : Str) : List Str := (ns.filter fun s => !decide (s = x)) ++ (fresh10.filter fun s => !decide (s = x) && !decide (s ∈ ns))
end LW
set_option Elab.async false
set_option linter.all false
set_option autoImplicit false
set_option maxRecDepth 100000
set_option maxHeartbeats 4000000
/-! CF: names ahead. -/
namespace LW
open PySem PySem.Spec PyProof.Rows L2 DL
def missV (g v : Int) : Int := if g - v > 0 then g - v else 0
def nearS (prs : List (Str × Int)) (x : Str) (n g : Int) : List Int := ((prs.filter fun e => !decide (e.1 = x)).map fun e => missV g e.2).filter fun u => decide (u ≤ n)
def mostS (c n : Int) (prs : List (Str × Int)) (x : Str) : Int :=
  if getS prs x + 1 > n then (nearS prs x n (getS prs x + 1)).length else (nearS prs x n (getS prs x + 1)).length + (n * (c + 1) - (nearS prs x n (getS prs x + 1)).sum) / (getS prs x + 1)
/-! choices -/
def chS (L : List Int) : List (Int × Int) := L.foldl (fun f v => f ++ f.map fun e => (e.1 + 1, e.2 + v)) [(0, 0)]
def valS (U g n : Int) (e : Int × Int) : Int := e.1 + if g ≤ n then (U - e.2) / g else 0
def topS (U g n : Int) (L : List Int) : Int := if g > n then (L.length : Int) else (L.length : Int) + (U - L.sum) / g
/-! data -/
def chD (e : Int × Int) : D := .tup [.int e.1, .int e.2]
def missF (g : Int) : D → D | .tup [_, .int v] => .int (missV g v) | _ => .non
def neKeyB (x : Str) : D → Bool | .tup [.str s, _] => !decide (s = x) | _ => false
def leB (n : Int) : D → Bool | .int v => decide (v ≤ n) | _ => false
def chF (v : Int) : D → D | .tup [.int a, .int b] => .tup [.int (a + 1), .int (b + v)] | _ => .non
def preMA (C : Addr) (ds : List D) (_ : Wl) : Prop := ∃ (c : Int) (prs : List (Str × Int)) (n : Int) (x : Str), ds = [.ins C (sumFsB c prs), .int (totS prs + n * (c + 1)), .str x] ∧ 1 ≤ c ∧ c ≤ 8 ∧ SumP (10 ^ 30) c.toNat prs ∧ 0 ≤ n ∧ n ≤ 10 ^ 31 ∧ nameS x = true
def postMA (C : Addr) (ds : List D) (w : Wl) (d : D) (w' : Wl) : Prop := w' = w ∧ ∀ (c : Int) (prs : List (Str × Int)) (n : Int) (x : Str), ds = [.ins C (sumFsB c prs), .int (totS prs + n * (c + 1)), .str x] → 1 ≤ c → d = .int (mostS c n prs x)
def preSA (C : Addr) (ds : List D) (_ : Wl) : Prop := ∃ (c : Int) (prs : List (Str × Int)) (n : Int) (x : Str) (k : Int), ds = [.ins C (sumFsB c prs), .int (totS prs + n * (c + 1)), .str x, .int k] ∧ 1 ≤ c ∧ c ≤ 8 ∧ SumP (10 ^ 30) c.toNat prs ∧ 0 ≤ n ∧ n ≤ 10 ^ 31 ∧ nameS x = true ∧ 1 ≤ k
def postSA (C : Addr) (ds : List D) (w : Wl) (d : D) (w' : Wl) : Prop := w' = w ∧ ∀ (c : Int) (prs : List (Str × Int)) (n : Int) (x : Str) (k : Int), ds = [.ins C (sumFsB c prs), .int (totS prs + n * (c + 1)), .str x, .int k] → 1 ≤ c → d = .bl (decide (mostS c n prs x < k))
section
variable {K : PySem.W.Frag} {W : XK} {δ : Dlt} {w : Wl} {P : PD} {Z : ZD} {E' : XK} {t tk : TA} {te : TE} {C : Addr}
def MaOk (C : Addr) (P : PD) (ds : List D) (w1 : Wl) : Prop := ∃ c prs n x, ds = [.ins C (sumFsB c prs), .int (totS prs + n * (c + 1)), .str x] ∧ 1 ≤ c ∧ c ≤ 8 ∧ SumP (10 ^ 30) c.toNat prs ∧ 0 ≤ n ∧ n ≤ 10 ^ 31 ∧ nameS x = true ∧ P (.int (mostS c n prs x)) w1
def SaOk (C : Addr) (P : PD) (ds : List D) (w1 : Wl) : Prop := ∃ c prs n x k, ds = [.ins C (sumFsB c prs), .int (totS prs + n * (c + 1)), .str x, .int k] ∧ 1 ≤ c ∧ c ≤ 8 ∧ SumP (10 ^ 30) c.toNat prs ∧ 0 ≤ n ∧ n ≤ 10 ^ 31 ∧ nameS x = true ∧ 1 ≤ k ∧ P (.bl (decide (mostS c n prs x < k))) w1
end
/-! the law's defs -/
def preCh (ds : List D) (_ : Wl) : Prop := ∃ L : List Int, ds = [.lst (L.map D.int)] ∧ L.length ≤ 8
def postCh (ds : List D) (w : Wl) (d : D) (w' : Wl) : Prop := w' = w ∧ ∀ L : List Int, ds = [.lst (L.map D.int)] → d = .lst ((chS L).map chD)
def preAhd (ds : List D) (_ : Wl) : Prop := ∃ (c : Int) (prs : List (Str × Int)) (n : Int) (x : Str), ds = [.int c, .tup (prs.map DL.prD), .int n, .str x] ∧ 1 ≤ c ∧ c ≤ 8 ∧ SumP (10 ^ 30) c.toNat prs ∧ 0 ≤ n ∧ n ≤ 10 ^ 31 ∧ nameS x = true
def postAhd (ds : List D) (w : Wl) (d : D) (w' : Wl) : Prop := Keep w w' ∧ ∀ (c : Int) (prs : List (Str × Int)) (n : Int) (x : Str), ds = [.int c, .tup (prs.map DL.prD), .int n, .str x] → d = .int (mostS c n prs x)
def preDR (C : Addr) (ds : List D) (_ : Wl) : Prop := ∃ (c : Int) (prs : List (Str × Int)) (n : Int), ds = [.ins C (sumFsB c prs), .tup (prs.map DL.prD), .int n] ∧ 1 ≤ c ∧ c ≤ 8 ∧ SumP (10 ^ 30) c.toNat prs ∧ 0 ≤ n ∧ n ≤ 10 ^ 31
def postTru (ds : List D) (w : Wl) (d : D) (w' : Wl) : Prop := d = .bl true ∧ Keep w w'
def preAR (ds : List D) (_ : Wl) : Prop := ∃ (c : Int) (prs : List (Str × Int)) (n : Int), ds = [.int c, .btp (prs.map DL.prD), .int n] ∧ 1 ≤ c ∧ c ≤ 8 ∧ SumP (10 ^ 30) c.toNat prs ∧ 0 ≤ n ∧ n ≤ 10 ^ 30
def okNum : List D → Prop
  | [.int i, .int m] => m ≤ i
  | _ => False
end LW
set_option Elab.async false
set_option linter.all false
set_option autoImplicit false
set_option maxRecDepth 100000
set_option maxHeartbeats 4000000
/-! DL36: sep.join(reversed(xs)), xs a list. -/
namespace RT
open PySem PySem.Spec PyProof.Rows PySem.Builtin PySem.Builtin.Str PySem.W MpR
section
variable {prog : Program} {w : World} {A : Around} {E : Value → Shared → Prop} {s : Shared}
theorem join_rev {x : Str} {t : Tok} {ys : List Str} {it l : Addr} {items : Array Value} {Q : Value → Shared → Prop} (hh : A.handled = none) (hit : s.heap.IsRevIter it l ((items.size : Int) - 1)) (hl : s.heap.IsList l items) (hne : l ≠ it) (hn : items.size ≤ sizeLine)
    (hP : ∀ acc : Array Value, ItemsOf (fun i v => items[items.size - 1 - i]? = some v) acc items.size → StrsAre acc.toList ys) (hok : (ys.map (·.length)).sum + ys.length * x.length ≤ 16777216)
    (hq : ∀ h' tk, (∀ b o, b ≠ it → s.heap.get? b = some o → h'.get? b = some o) → ∀ t', Q (.str (Txt.join x ys) t') { s with heap := h', toks := tk }) :
    wpAny (model prog w) A (call (.builtin "str.join") [.str x t, .ref it]) Q E s := by
  refine wpAny_call (codeAny_call_builtin F.slot_str_join.plain F.entry_str_join (F.slot_str_join.check _ _ _ _ _ _ _ _ (typeIs_str _ _ _) (F.args_str_join_2 _ _) ?_))
  rw [join_tree_other]
  refine wpAny_bind (wpAny_typeOf hit.typeIs ?_)
  show wpAny _ A.in1 ((pyIter (.ref it)).tryCatch _ >>= fun it => collect it >>= fun items => joinTail x items) _ _ s
  refine wpAny_bind (wpAny_tryCatch (wpAny_pyIter_revIter hit ?_))
  have hh1 : A.in1.handled = none := hh
  refine wpAny_bind (collect_rev hh1 hit hl hne hn fun h' tk acc hk hacc => ?_)
  obtain ⟨l, hl, ht⟩ := strsAre_values (hP acc hacc)
  subst ht
  rw [hl]
  have hok' := joinOk_of hok
  unfold JoinOk at hok'
  rw [Bool.not_eq_true'] at hok'
  have g : Gives (joinTail x (strValues l)) (joinMade x l) := by
    have g0 := gives_joinTail x l hok'
    cases l with
    | nil => exact g0
    | cons p r => cases r with
      | nil => exact g0
      | cons q r' => exact g0
  exact g prog w A (wants Q E) _ (post_join l ⟨joinFit_length hok', fun t' k => hq h' k hk t'⟩)
end
end RT
namespace DL
open PySem PySem.Spec PyProof.Rows L2
/-- sep.join(reversed(xs)), xs a list: sep first -/
def tJoinRev (K : PySem.W.Frag) (to te : TE) : TE := fun σ H Q => to σ H fun x H1 => (∃ a, x = .str a) ∧ te σ H1 fun v H2 => ∃ (a : Str) (q : Addr) (ys : List Str), x = .str a ∧ v = .ref q ∧ SqL K H2 q (ys.map V.str) ∧ (ys.reverse.map (·.length)).sum + ys.reverse.length * a.length ≤ 16777216 ∧ Q (.str (Txt.join a ys.reverse)) H2
theorem strs_vals : ∀ {ys : List Str} {us : List Value}, Vals (ys.map V.str) us → StrsAre us ys
  | [], us, h => by cases h; exact .nil
  | y :: ys, us, h => by
    cases h with
    | cons r t =>
      obtain ⟨tk, rfl⟩ := r
      exact .cons y tk (strs_vals t)
section
variable {X : Cx} {K : PySem.W.Frag} {o e : Expr} {to te : TE} {apos pos p pos2 : Pos}
theorem q_joinRev (hK : X.K = K) (hc : X.calm = true) (hm : X.mg "reversed" = none) (hg : Gl X "reversed") (ho : PE X o to) (he : PE X e te)
    (hs1 : starEach [.Call (.Name "reversed" p) [e] [] pos2] X.env = [(false, eval (.Call (.Name "reversed" p) [e] [] pos2) X.env)] := by rfl)
    (hs : starEach [e] X.env = (false, eval e X.env) :: starEach [] X.env := by rfl)
    (hbase : attributeBase o "join" X.env (eval o X.env) = eval o X.env := by rfl) (hline : (apos.endLine == pos.line) = true := by rfl) :
    PE X (.Call (.Attribute o "join" apos) [.Call (.Name "reversed" p) [e] [] pos2] [] pos) (tJoinRev K to te) := by
  subst hK
  refine ⟨fun pins s σ H Q I h => ?_⟩
  refine PySem.Call_method1 hbase hs1 hline (thn (ho.run pins s σ H _ I h) fun v s1 ⟨x, H1, I1, r1, q1⟩ => ?_)
  obtain ⟨⟨a, rfl⟩, q1⟩ := q1
  obtain ⟨t, rfl⟩ := _root_.id r1
  refine ⟨"str", _, F.plainAttrs_str, F.slot_str_join, F.type_str_join, typeIs_str _ _ _, (fun _ e => nomatch e), Calls.callWith_builtin rfl (Calls.evalArgs_plain (Calls.spliced_cons ?_))⟩
  refine Call_ (ld_blt I1 hg hm PyProof.Rows.boot_reversed (PyProof.Rows.callWith_type1 (args_cons (thn (he.run pins s1 σ H1 _ I1 q1) fun u s2 ⟨v2, H2, I2, r2, q2⟩ => args_nil ?_) hs) hs rfl))
  obtain ⟨a', q, ys, ea, rfl, hq, hz, q3⟩ := q2
  cases ea
  obtain rfl : u = Value.ref q := r2
  obtain ⟨its, rv, p', hsz⟩ := I2.list hq
  refine call_reversed_list p'.isList ?_
  refine Calls.spliced_nil ?_
  have k0 : ∀ b o, s2.heap.get? b = some o → (s2.heap.push (revObj q ((its.toArray.size : Int) - 1))).get? b = some o := fun b o e => Heap.get?_push_of_some _ e
  have I3 : Inv X pins σ H2 { s2 with heap := s2.heap.push (revObj q ((its.toArray.size : Int) - 1)) } := I2.kept (t' := s2.toks) k0
  obtain ⟨f0, f1, f2, f3, f4, f5⟩ := I2.fpOk (H' := H2) (b := s2.heap.objs.size) (Nat.le_refl _) (I2.hok.fresh (Nat.le_refl _))
  have hl := p'.isList
  obtain ⟨ol, hol, _⟩ := _root_.id hl
  have hne : q ≠ s2.heap.objs.size := Nat.ne_of_lt (Heap.lt_size hol)
  have hn : its.toArray.size ≤ sizeLine := by rw [List.size_toArray, ← rv.length]; exact hsz
  refine RT.join_rev (s := { s2 with heap := s2.heap.push (revObj q ((its.toArray.size : Int) - 1)) }) (ys := ys.reverse) (I2.ok.hd hc) ⟨_, Heap.get?_push_size _ rfl, rfl, rfl⟩ (hl.push _) hne hn (fun acc hacc => ?_) hz fun h' tk hk t' => ?_
  · have rr := RT.vals_rev rv hacc
    rw [← List.map_reverse] at rr
    exact strs_vals rr
  · have I4 : Inv X pins σ H2 { s2 with heap := h', toks := tk } := I3.turned (t' := tk) (fun b o hb e => hk b o hb e) f0 f1 f3 f4 f5
    exact ⟨.str _, H2, I4, ⟨t', rfl⟩, q3⟩
end
section
variable {K : PySem.W.Frag} {W : XK} {δ : Dlt} {w : Wl} {P : PD} {Z : ZD} {to te : TE}
theorem ev_joinRev (h : Ev K W to δ w (fun x w1 => ∃ a, x = .str a ∧ Ev K W te δ w1 (fun y w2 => ∃ (l : Addr) (ys : List Str), y = .ptr l ∧ w2 l = some (.lst (ys.map D.str)) ∧ (ys.reverse.map (·.length)).sum + ys.reverse.length * a.length ≤ 16777216 ∧ P (.str (Txt.join a ys.reverse)) w2) Z) Z) : Ev K W (tJoinRev K to te) δ w P Z :=
  fun σ H s Q q z => h σ H s _ (fun v H1 d w1 e1 c1 r1 ⟨a, ha, h2⟩ => by
    subst ha
    cases r1
    refine ⟨⟨a, rfl⟩, h2 σ H1 (s.next e1 c1) _ (fun u H2 d2 w2 e2 c2 r2 ⟨l, ys, hd, hl, hz, hp⟩ => ?_) (z.next e1)⟩
    subst hd
    cases r2
    obtain ⟨xs, ex, rx⟩ := c2 l _ hl
    have e := rpa_strs rx
    subst e
    exact ⟨a, l, ys, rfl, rfl, SqL.of ex, hz, q _ H2 _ w2 (e1.trans e2) c2 (.str _) hp⟩) z
end
end DL
set_option Elab.async false
set_option linter.all false
set_option autoImplicit false
set_option maxRecDepth 100000
set_option maxHeartbeats 4000000
/-! DL37: != of two dicts that are equal; str of an int, of a text; f-strings. -/
namespace PySem.W
open Lean Elab Tactic Meta PySem PySem.Calls PyProof.Rows PyProof.V PySem.Spec
section
variable {prog : Program} {w : World} {K : Type} [DecidableEq K] {knd : KeyKind prog w K} {A : Around} {E : Value → Shared → Prop} {s : Shared}
end
end PySem.W
namespace DL
open PySem PySem.Spec PyProof.Rows L2
/-- a != b, two dicts of the same keys with the same flat values -/
def rNeDD : R2 := fun x y H Q => ∃ a b ks ls, x = .ref a ∧ y = .ref b ∧ H a = some (.dK ks) ∧ H b = some (.dK ls) ∧ ks.length = ls.length ∧ (∀ p ∈ ks, ∃ u, valV ls p.1 = some u ∧ p.2 = u ∧ flatB u = true) ∧ Q (.bl false) H
section
variable {K : PySem.W.Frag} {W : XK} {δ : Dlt} {w : Wl} {P : PD} {Z : ZD}
/-- str(i), str(x) -/
def rStrI : List V → Hp → VK → Prop := fun xs H Q => (∃ i, xs = [.int i] ∧ i.natAbs.log2 < 1920 ∧ Q (.str (toString i)) H) ∨ ∃ a, xs = [.str a] ∧ Q (.str a) H
theorem call_strI {X : Cx} : CallR X (.type "str") rStrI := by
  intro pins s σ H xs us Q I r h
  rcases h with h | h
  · exact call_str_int pins s σ H xs us Q I r h
  · exact SkE.call_str_str pins s σ H xs us Q I r h
theorem b_str {X : Cx} {e : Expr} {es : List Expr} {t : TA} {p pos : Pos} (m : X.mg "str" = none) (hg : Gl X "str") (ha : PA X (e :: es) t) (he : starEach (e :: es) X.env = (false, eval e X.env) :: starEach es X.env := by rfl) (hpl : (backTo pos (starEach es X.env)).any (·.1) = false := by rfl) :
    PE X (.Call (.Name "str" p) (e :: es) [] pos) (tCB rStrI t) := pe_callTy call_strI hg m boot_str ha (by decide) (by decide) he hpl
theorem ol_strI {i : Int} (h : i.natAbs.log2 < 1920) (k : P (.str (toString i)) w) : OpL K rStrI [.int i] w P := by
  intro vs H r c Q q
  cases r with
  | cons r t =>
    cases t
    cases r
    exact .inl ⟨i, rfl, h, q _ H _ w (Ex.refl _) c (.str _) k⟩
/-! f-strings -/
def tFj (ts : List TE) : TE := fun σ H Q => tJs ts Str.empty σ H fun out H1 => Q (.str out) H1
def jsD (K : PySem.W.Frag) (W : XK) (δ : Dlt) (Z : ZD) (P : PD) : List TE → Str → Wl → Prop
  | [], acc, w => P (.str acc) w
  | t :: ts, acc, w => Ev K W t δ w (fun d w1 => ∃ y, d = .str y ∧ (acc ++ y).length ≤ sizeLine ∧ jsD K W δ Z P ts (acc ++ y) w1) Z
end
end DL
set_option Elab.async false
set_option linter.all false
set_option autoImplicit false
set_option maxRecDepth 100000
set_option maxHeartbeats 4000000
/-! CG: numbers and counts as texts. -/
namespace LW
open PySem PySem.Spec PyProof.Rows L2 DL
def preFN (ds : List D) (_ : Wl) : Prop := ∃ n : Int, ds = [.int n] ∧ 0 ≤ n ∧ n < 10 ^ 60
def postFN (ds : List D) (w : Wl) (d : D) (w' : Wl) : Prop := Keep w w' ∧ ∀ n : Int, ds = [.int n] → d = .str (toString n)
theorem log2_60' {n : Int} (h0 : 0 ≤ n) (h1 : n < 10 ^ 60) : n.natAbs.log2 < 300 := by
  rcases Nat.eq_zero_or_pos n.natAbs with z | z
  · rw [z]; decide
  · exact (Nat.log2_lt (by omega)).mpr (Nat.lt_of_lt_of_le (m := 10 ^ 60) (by omega) (by decide +kernel))
theorem log2_60 {n : Int} (h0 : 0 ≤ n) (h1 : n < 10 ^ 60) : n.natAbs.log2 < 1920 := by
  rcases Nat.eq_zero_or_pos n.natAbs with z | z
  · rw [z]; decide
  · exact (Nat.log2_lt (by omega)).mpr (Nat.lt_of_lt_of_le (m := 10 ^ 60) (by omega) (by decide +kernel))
theorem num_len {n : Int} (h0 : 0 ≤ n) (h1 : n < 10 ^ 60) : (Str.ofString (toString n)).length ≤ 2000 := by
  have h := small_cost (.int n) (by simp only [small]; exact decide_eq_true (Nat.lt_trans (log2_60' h0 h1) (by decide)))
  have e : (py (.int n)).shown = Str.ofString (toString n) := by simp [py, PyData.shown]
  rw [e] at h
  exact Nat.le_trans h (by simp [costD])
def pairS (e : Str × Int) : Str := e.1 ++ ":" ++ (toString e.2 : Str)
def textS (prs : List (Str × Int)) : Str := if prs.isEmpty then "-" else Txt.join " " (prs.map pairS)
def preCT (ds : List D) (_ : Wl) : Prop := ∃ (prs : List (Str × Int)) (b : Int) (k : Nat), ds = [.tup (prs.map DL.prD)] ∧ SumP b k prs ∧ k ≤ 100 ∧ b < 10 ^ 60
def postCT (ds : List D) (w : Wl) (d : D) (w' : Wl) : Prop := Keep w w' ∧ ∀ prs : List (Str × Int), ds = [.tup (prs.map DL.prD)] → d = .str (textS prs)
def preStr (C : Addr) (ds : List D) (_ : Wl) : Prop := ∃ (c : Int) (prs : List (Str × Int)) (b : Int), ds = [.ins C (sumFsB c prs)] ∧ SumP b c.toNat prs ∧ 1 ≤ c ∧ c ≤ 8 ∧ b < 10 ^ 60
def postStr (C : Addr) (ds : List D) (w : Wl) (d : D) (w' : Wl) : Prop := Keep w w' ∧ ∀ (c : Int) (prs : List (Str × Int)), ds = [.ins C (sumFsB c prs)] → d = .str (textS prs)
theorem nameS_len {x : Str} (h : nameS x = true) : x.length ≤ 8 := by
  unfold nameS at h
  simp at h
  exact h.1
theorem sum_lens {n : Nat} : ∀ ys : List Str, (∀ y ∈ ys, y.length ≤ n) → (ys.map (·.length)).sum ≤ ys.length * n
  | [], _ => by simp
  | y :: ys, h => by
    have h1 := h y (List.mem_cons_self ..)
    have h2 := sum_lens ys fun z hz => h z (List.mem_cons_of_mem _ hz)
    rw [List.map_cons, List.sum_cons, List.length_cons, Nat.succ_mul]
    omega
def preSam (C : Addr) (ds : List D) (w : Wl) : Prop := ∃ (c : Int) (prs kv : List (Str × Int)) (l : Addr) (b : Int), ds = [.ins C (sumFsB c prs), .int c, .ptr l] ∧ SumP b c.toNat prs ∧ 1 ≤ c ∧ c ≤ 8 ∧ b ≤ 10 ^ 40 ∧ w l = some (.dK (kv.map entD)) ∧ prs.Perm kv
def postSam (ds : List D) (w : Wl) (d : D) (w' : Wl) : Prop := d = .bl true ∧ w' = w
def preSgl (ds : List D) (w : Wl) : Prop := ∃ (n : Int) (l : Addr) (kv : List (Str × Int)) (x : Str) (t b : Int), ds = [.int n, .ptr l, .str x, .int t] ∧ w l = some (.dK (kv.map entD)) ∧ TabOk n.toNat b kv ∧ nameS x = true ∧ 1 ≤ n ∧ n ≤ 8 ∧ 1 ≤ t ∧ t ≤ 1000 ∧ 0 ≤ b
def postSgl (ds : List D) (w : Wl) (d : D) (w' : Wl) : Prop := Keep w w' ∧ ∀ (n : Int) (l : Addr) (kv : List (Str × Int)) (x : Str) (t : Int), ds = [.int n, .ptr l, .str x, .int t] → w l = some (.dK (kv.map entD)) → ∃ l2 : Addr, d = .ptr l2 ∧ w' l2 = some (.dK ((arrS n kv x t).1.map entD))
end LW
namespace LW
open PySem PySem.Spec PyProof.Rows L2 DL
end LW
namespace LW
open PySem PySem.Spec PyProof.Rows L2 DL
section
variable {K : PySem.W.Frag} {w : Wl} {P : PD} {C : Addr} {E' : XK}
end
end LW
set_option Elab.async false
set_option linter.all false
set_option autoImplicit false
set_option maxRecDepth 100000
set_option maxHeartbeats 4000000
/-! EM: lists of truths compared. -/
namespace EX
open PySem PySem.Spec PyProof.Rows L2 DL LW
section
variable {K : PySem.W.Frag} {w : Wl} {P : PD}
theorem bools_deep : ∀ bs : List Bool, deepA (bs.map D.bl) = 0
  | [] => rfl
  | b :: bs => by
    have := bools_deep bs
    simp [deepA, deepD, this]
theorem o2_neBl {xs ys : List Bool} (k : P (.bl (!decide (xs = ys))) w) : Op2 K (rNeP K) (.lst (xs.map D.bl)) (.lst (ys.map D.bl)) w P := by
  refine o2_neP (by simp only [isPy]; exact bools_py _) (by simp only [isPy]; exact bools_py _) (by simp only [deepD]; rw [bools_deep]; omega) ?_
  have e : PyData.eqv (py (.lst (xs.map D.bl))) (py (.lst (ys.map D.bl))) = decide (xs = ys) := bools_eqv xs ys
  rw [e]
  exact k
end
theorem er_own {i : Nat} (h : i < 20) : [decide (i < 15), decide (14 < i) && decide (i < 18), decide (17 < i)] = [erSub i 20, erSub i 21, erSub i 22] := by
  obtain ⟨h1, h2, h3⟩ := er_bases h
  rw [h1, h2, h3]
theorem er_told {i : Nat} (h : i < 20) {b : Bool} (hb : b = (decide ((14 : Int) < i) && decide ((i : Int) < 18))) : [erSub i 20, erSub i 21, erSub i 22] = [decide ((i : Int) < 15), b, decide ((17 : Int) < i)] := by
  obtain ⟨h1, h2, h3⟩ := er_bases h
  rw [h1, h2, h3, hb]
  have e1 : decide ((i : Int) < 15) = decide (i < 15) := by rw [Bool.eq_iff_iff]; simp; omega
  have e2 : decide ((14 : Int) < i) = decide (14 < i) := by rw [Bool.eq_iff_iff]; simp; omega
  have e3 : decide ((i : Int) < 18) = decide (i < 18) := by rw [Bool.eq_iff_iff]; simp; omega
  have e4 : decide ((17 : Int) < i) = decide (17 < i) := by rw [Bool.eq_iff_iff]; simp; omega
  rw [e1, e2, e3, e4]
theorem er_at2 {i : Nat} (h : i < 20) : atI (erW.map D.str) (i : Int) = some (.str (erT i)) := by
  have l : (i : Int) < ((erW.map D.str).length : Int) := by
    rw [List.length_map]
    show (i : Int) < 20
    omega
  unfold atI ixN
  rw [if_pos (by omega), if_pos l, Option.bind_some, Int.toNat_natCast, List.getElem?_map, er_get h]
  rfl
/-- before the second def of the fields -/
def preErO (ec : Nat → Addr) (R : List Nat) (a C : Addr) (d : Option Addr) (ds : List D) (w : Wl) : Prop := ds = [.ptr a] ∧ ∃ i fs, i ∈ R ∧ C = ec i ∧ ErFs i fs ∧ DX w d fs ∧ i ∈ [1, 2, 7, 8, 9, 10, 13, 16, 17]
theorem er_mem {i : Nat} {js : List Nat} (h : i < 20) (hj : ∀ j ∈ js, j < 20) (e : js.any (erSub i) = true) : i ∈ js := by
  rw [List.any_eq_true] at e
  obtain ⟨j, m, e⟩ := e
  have l := hj j m
  have n20 : (j == 20) = false := by simpa using (show j ≠ 20 by omega)
  have n21 : (j == 21) = false := by simpa using (show j ≠ 21 by omega)
  have n22 : (j == 22) = false := by simpa using (show j ≠ 22 by omega)
  unfold erSub at e
  rw [n20, n21, n22] at e
  simp only [Bool.false_and, Bool.or_false] at e
  rw [beq_iff_eq.mp e]
  exact m
theorem er_one {i : Nat} {fs : List (Str × D)} {n : Str} (hf : ErFs i fs) (h : erF[i]? = some (some n)) : ∃ v, fs = [(n, v)] := by
  unfold ErFs at hf
  rw [h] at hf
  exact hf
theorem er_no {i : Nat} {fs : List (Str × D)} (hf : ErFs i fs) (h : erF[i]? = some none) : fs = [] := by
  unfold ErFs at hf
  rw [h] at hf
  exact hf
section
variable {K : PySem.W.Frag} {W : XK} {δ : Dlt} {w : Wl} {P : PD} {Z : ZD} {a C : Addr} {d : Option Addr} {te : TE}
theorem ev_fldX {n : Str} {v : D} (h : Ev K W te δ w (fun x w1 => x = .ptr a ∧ DX w1 d [(n, v)] ∧ P v w1) Z) : Ev K W (tFldH a C d n te) δ w P Z := by
  intro σ H s Q q z
  cases d with
  | none => exact h σ H s _ (fun v' H1 x w1 e1 c1 r1 ⟨_, hx, _⟩ => by cases (show [(n, v)] = [] from hx)) z
  | some dd =>
    exact h σ H s _ (fun v' H1 x w1 e1 c1 r1 ⟨hx, ⟨gs, hw⟩, hp⟩ => by
      subst hx
      cases r1
      obtain ⟨h1, h2⟩ := c1 dd _ hw
      obtain ⟨u, hu, ru⟩ := h2.look (f := n) (d := v) (by simp [List.lookup])
      exact ⟨rfl, dd, gs, u, rfl, h1, hu, q u H1 v w1 e1 c1 ru hp⟩) z
theorem ol_isHs {ec : Nat → Addr} {i : Nat} {P : PD} (js : List Nat) (hk : ErK K ec i) (k : DictW w d) (hj : ∀ j ∈ js, j < 20) (q : P (.bl (js.any (erSub i))) w) : OpL K (rIsH K a (ec i) d) [.ptr a, .tup (js.map fun j => D.ptr (ec j))] w P := by
  let f : Addr → Bool := fun j => (PySem.W.kitOne K (.ref (ec i)) (.ref j)).getD false
  have hf : ∀ j ∈ js, PySem.W.kitOne K (.ref (ec i)) (.ref (ec j)) = some (f (ec j)) := fun j m => by
    show _ = some ((PySem.W.kitOne K (.ref (ec i)) (.ref (ec j))).getD false)
    rw [hk.kit j (by have := hj j m; omega)]
    rfl
  have e1 : (js.map fun j => D.ptr (ec j)) = (js.map ec).map D.ptr := by rw [List.map_map]; rfl
  have e2 : (js.map ec).any f = js.any (erSub i) := by
    rw [List.any_map]
    rw [Bool.eq_iff_iff, List.any_eq_true, List.any_eq_true]
    have e3 : ∀ j ∈ js, (f ∘ ec) j = erSub i j := fun j m => by
      show (PySem.W.kitOne K (.ref (ec i)) (.ref (ec j))).getD false = _
      rw [hk.kit j (by have := hj j m; omega)]
      rfl
    exact ⟨fun ⟨j, m, z⟩ => ⟨j, m, by rw [← e3 j m]; exact z⟩, fun ⟨j, m, z⟩ => ⟨j, m, by rw [e3 j m]; exact z⟩⟩
  rw [e1]
  refine ol_isHT (f := f) k (fun j m => ?_) (by rw [e2]; exact q)
  obtain ⟨j', m', rfl⟩ := List.mem_map.mp m
  exact hf j' m'
end
theorem er_any1 {i j : Nat} {b : Bool} (e : erSub i j = b) : [j].any (erSub i) = b := by simpa using e
theorem er_rest1 {i : Nat} (h : i < 20) (m : i ∈ [1, 2, 7, 8, 9, 10, 13, 16, 17]) (e : [1, 2, 7, 9, 10, 8, 13].any (erSub i) = false) : i ∈ [16, 17] :=
  (by decide : ∀ i, i < 20 → i ∈ [1, 2, 7, 8, 9, 10, 13, 16, 17] → [1, 2, 7, 9, 10, 8, 13].any (erSub i) = false → i ∈ [16, 17]) i h m e
theorem er_rest2 {i : Nat} (h : i < 20) (e : [3, 4, 5, 6, 11, 12, 14, 0, 15, 18, 19].any (erSub i) = false) : i ∈ [1, 2, 7, 8, 9, 10, 13, 16, 17] :=
  (by decide : ∀ i, i < 20 → [3, 4, 5, 6, 11, 12, 14, 0, 15, 18, 19].any (erSub i) = false → i ∈ [1, 2, 7, 8, 9, 10, 13, 16, 17]) i h e
end EX
set_option Elab.async false
set_option linter.all false
set_option autoImplicit false
set_option maxRecDepth 100000
set_option maxHeartbeats 4000000
/-! EN: t[::2] of a tuple. -/
namespace DL
/-- every second one -/
def alt {α : Type} : List α → List α
  | [] => []
  | [a] => [a]
  | a :: _ :: r => a :: alt r
end DL
namespace TR
open PySem PySem.W PySem.Calls PyProof.Rows PyProof.V PySem.Spec HT DL
section
variable {prog : Program} {w : World} {A : Around} {E : Value → Shared → Prop} {s : Shared}
end
end TR
namespace DL
open PySem PySem.Spec PyProof.Rows L2
/-- t[::2] of a tuple: a new one -/
def tAltT (K : PySem.W.Frag) (te : TE) : TE := fun σ H Q => te σ H fun x H1 => ∃ a xs, x = .ref a ∧ SqT K H1 a xs ∧ ∀ p, H1 p = none → Q (.ref p) (upd H1 p (.tup (alt xs)))
section
variable {K : PySem.W.Frag} {W : XK} {δ : Dlt} {w : Wl} {P : PD} {Z : ZD} {te : TE}
end
end DL
set_option Elab.async false
set_option linter.all false
set_option autoImplicit false
set_option maxRecDepth 100000
set_option maxHeartbeats 4000000
/-! DL38: bool(o) of an own instance with an own __len__ and no __bool__. -/
namespace PySem.W
open PySem PySem.Calls PyProof.Rows Builtin
section
variable {prog : Program} {w : World} {A : Around} {E : Value → Shared → Prop} {s : Shared} {K : Frag} {x C L f : Addr} {h₀ : Heap} {m : Str → Option Value} {ox : Obj} {od : Option Obj}
end
end PySem.W
namespace DL
open PySem PySem.Spec PyProof.Rows L2
def rBoolO (C : Addr) (sp : Sp) (E : XK) : List V → Hp → VK → Prop := fun xs H Q => ∃ a dx fs, xs = [.ref a] ∧ H a = some (.ins C dx fs) ∧ sp [.ref a] H (fun v H2 => ∃ n : Int, v = .int n ∧ 0 ≤ n ∧ n < 2 ^ 63 ∧ Q (.bl (n != 0)) H2) E
section
variable {X : Cx} {CX : CXT} {k : Nat} {C : Addr} {ps : List Str} {sp : Sp} {E : XK}
end
section
variable {X : Cx} {CX : CXT} {k : Nat} {C : Addr} {ps : List Str} {sp : Sp} {E : XK} {e : Expr} {t : TE} {p pos : Pos}
end
section
variable {K : PySem.W.Frag} {w : Wl} {P : PD} {C : Addr} {fs : List (Str × D)} {pre : List D → Wl → Prop} {post : List D → Wl → D → Wl → Prop} {E' : XK}
end
end DL
set_option Elab.async false
set_option linter.all false
set_option autoImplicit false
set_option maxRecDepth 100000
set_option maxHeartbeats 4000000
/-! DL39: own instances made by keywords. -/
namespace DL
open PySem PySem.Spec PyProof.Rows L2
def tMakeK (C : Addr) (sp : Sp) (g : {α : Type} → List α → α → List α) (dv : V) (E : XK) (tk : TA) : TE := fun σ H Q => tk σ H fun zs H1 => ∀ x dx, H1 x = none → H1 dx = none → dx ≠ x → sp (.ref x :: g zs dv) (upd (upd H1 dx (.own x)) x (.ins C dx [])) (fun v H2 => v = .non ∧ Q (.ref x) H2) E
def kdD {α : Type} : List α → α → List α
  | [t], d => [t, d]
  | _, _ => []
section
variable {X : Cx} {CX : CXT} {k : Nat} {C a0 : Addr} {x : Str} {ps ks : List Str} {sp : Sp} {E : XK} {p pos : Pos} {kws : List Keyword} {tk : TA} {qual : Str} {st : Stmt}
end
section
variable {K : PySem.W.Frag} {W : XK} {δ : Dlt} {w : Wl} {P : PD} {Z : ZD} {C a0 : Addr}
end
end DL
namespace LW
open PySem PySem.Spec PyProof.Rows L2 DL
section
variable {K : PySem.W.Frag} {W : XK} {δ : Dlt} {w : Wl} {P : PD} {Z : ZD} {C a0 : Addr}
end
end LW
namespace DL
open PySem PySem.Spec PyProof.Rows L2
/-- a builtin type is not below an own class -/
abbrev KitF (K : PySem.W.Frag) (C : Addr) (T : String) : Prop := PySem.W.kitOne K (.type T) (.ref C) = some false
section
variable {K : PySem.W.Frag} {w : Wl} {P : PD} {C : Addr}
end
end DL
namespace LW
open PySem PySem.Spec PyProof.Rows L2 DL
end LW
set_option Elab.async false
set_option linter.all false
set_option autoImplicit false
set_option maxRecDepth 100000
set_option maxHeartbeats 4000000
/-! CH: what a summary tells of itself. -/
namespace LW
open PySem PySem.Spec PyProof.Rows L2 DL
def postRpr (C : Addr) (ds : List D) (w : Wl) (d : D) (w' : Wl) : Prop := Keep w w' ∧ ∀ (c : Int) (prs : List (Str × Int)), ds = [.ins C (sumFsB c prs)] → d = .str (Str.empty ++ "Summary(" ++ (toString c : Str) ++ ", '" ++ textS prs ++ "')")
def postShn (ds : List D) (w : Wl) (d : D) (w' : Wl) : Prop := w' = w ∧ ∀ prs : List (Str × Int), ds = [.tup (prs.map DL.prD)] → d = .str (textS prs)
def pairF : D → D | .tup [.str x, .int v] => .str (pairS (x, v)) | _ => .non
def okIsS (C : Addr) : List D → Prop
  | [.ins D _] => D = C
  | [.tup _] => True
  | _ => False
def fIsS : List D → D
  | [.ins _ _] => .bl true
  | _ => .bl false
def preOne (C : Addr) (ds : List D) (_ : Wl) : Prop := ∃ (c : Int) (prs : List (Str × Int)) (xs : List Str), ds = [.ins C (sumFsB c prs), .int c, .tup (prs.map DL.prD), .lst (xs.map D.str)] ∧ 1 ≤ c ∧ c ≤ 8 ∧ SumP (10 ^ 30) c.toNat prs ∧ (∀ x ∈ xs, nameS x = true)
def preMade (ds : List D) (_ : Wl) : Prop := ∃ (c : Int) (prs : List (Str × Int)) (xs : List Str), ds = [.int c, .btp (prs.map DL.prD), .lst (xs.map D.str)] ∧ 1 ≤ c ∧ c ≤ 8 ∧ SumP (10 ^ 30) c.toNat prs ∧ (∀ x ∈ xs, nameS x = true)
section
variable {K : PySem.W.Frag} {w : Wl} {P : PD} {C : Addr} {E' : XK}
def rprS (c : Int) (prs : List (Str × Int)) : Str := Str.empty ++ "Summary(" ++ (toString c : Str) ++ ", '" ++ textS prs ++ "')"
end
end LW
namespace LW
open PySem PySem.Spec PyProof.Rows L2 DL
def eqKeyB (x : Str) : D → Bool | .tup [.str s, _] => decide (s = x) | _ => false
end LW
namespace LW
open PySem PySem.Spec PyProof.Rows L2 DL
end LW
set_option Elab.async false
set_option linter.all false
set_option autoImplicit false
set_option maxRecDepth 100000
set_option maxHeartbeats 4000000
/-! DL40: max(xs); f(b=, a=, c=); xs.extend(tuple). -/
namespace DL
open PySem PySem.Spec PyProof.Rows L2
section
variable {X : Cx} {K : PySem.W.Frag} {e : Expr} {es : List Expr} {t : TA} {p pos : Pos}
end
section
variable {K : PySem.W.Frag} {w : Wl} {P : PD}
end
def kgT {α : Type} : List α → List α → List α
  | [], [a, b, c] => [b, a, c]
  | _, _ => []
end DL
namespace PySem
open Builtin AutoSeq1
end PySem
namespace DL
open PySem PySem.Spec PyProof.Rows L2
def rExtT (K : PySem.W.Frag) : V → List V → Hp → VK → Prop := fun x vs H Q => ∃ l b xs zs, x = .ref l ∧ vs = [.ref b] ∧ H l = some (.lst xs) ∧ SqT K H b zs ∧ xs.length + zs.length ≤ sizeLine ∧ Q .non (upd H l (.lst (xs ++ zs)))
section
variable {K : PySem.W.Frag} {w : Wl} {P : PD}
end
end DL
set_option Elab.async false
set_option linter.all false
set_option autoImplicit false
set_option maxRecDepth 100000
set_option maxHeartbeats 4000000
/-! DL41: x == y and x != y by an own __eq__ (and no own __ne__). -/
namespace PySem.W
open PySem PySem.Calls PyProof.Rows Builtin
section
variable {prog : Program} {w : World} {A : Around} {E : Value → Shared → Prop} {s : Shared} {K : Frag} {x C L f : Addr} {h₀ : Heap} {m : Str → Option Value} {ox : Obj} {od : Option Obj} {b tb : Value}
end
end PySem.W

namespace DL
open PySem PySem.Spec PyProof.Rows L2
/-- no own __ne__ -/
abbrev NoNe (K : PySem.W.Frag) (C : Addr) : Prop := PySem.W.findIn K (.ref C) "__ne__" = some (some (.builtin "object.__ne__"))
theorem KitF.sub {K : PySem.W.Frag} {C : Addr} {T : String} (h : KitF K C T) : PySem.W.subIn K (.type T) (.ref C) = some false := by
  have h2 : PySem.W.kitOne K (.type T) (.ref C) = some false := h
  unfold PySem.W.kitOne at h2
  rw [if_neg (by simp)] at h2
  change (if ((PySem.W.clsIn K C).isSome && PySem.W.typeIn K (.ref C) == some (.type "type")) = true then PySem.W.subIn K (.type T) (.ref C) else none) = some false at h2
  split at h2
  · exact h2
  · cases h2
/-- x == y by the own __eq__ of the class at C, x an instance of it; y one too, or of a builtin type -/
def rCmpO (neg : Bool) (K : PySem.W.Frag) (C : Addr) (sp : Sp) (E : XK) : R2 := fun x y H Q => ∃ (a dx : Addr) (fs : List (Str × V)) (t : Value), x = .ref a ∧ H a = some (.ins C dx fs) ∧
  ((∃ (b dy : Addr) (gs : List (Str × V)), y = .ref b ∧ H b = some (.ins C dy gs) ∧ t = .ref C) ∨ TyX K H y t) ∧ PySem.W.notFirst K C t = true ∧ sp [x, y] H (fun v H2 => ∃ r, v = .bl r ∧ Q (.bl (r != neg)) H2) E
section
variable {X : Cx} {CX : CXT} {k : Nat} {C : Addr} {ps : List Str} {sp : Sp} {E : XK}
end
section
variable {K : PySem.W.Frag} {w : Wl} {P : PD} {C : Addr} {fs gs : List (Str × D)} {pre : List D → Wl → Prop} {post : List D → Wl → D → Wl → Prop} {E' : XK} {neg : Bool}
end
end DL
set_option Elab.async false
set_option linter.all false
set_option autoImplicit false
set_option maxRecDepth 100000
set_option maxHeartbeats 4000000
/-! CJ: what repr shows of a summary tells it. -/
namespace LW
open PySem PySem.Spec PyProof.Rows L2 DL Builtin Builtin.Str
abbrev chs (s : Str) : List Nat := s.cps.toList
abbrev num (i : Int) : List Nat := chs (Str.ofString (toString i))
def itemC (e : Str × Int) : List Nat := 40 :: 39 :: (chs e.1 ++ 39 :: 44 :: 32 :: (num e.2 ++ [41]))
def restC : List (Str × Int) → List Nat
  | [] => [41]
  | e :: r => 44 :: 32 :: (itemC e ++ restC r)
def Nm (p : List (Str × Int)) : Prop := ∀ e ∈ p, nameS e.1 = true
def tupC : List (Str × Int) → List Nat
  | [] => [40, 41]
  | [x] => 40 :: (itemC x ++ [44, 41])
  | x :: y :: r => 40 :: (itemC x ++ restC (y :: r))
end LW
set_option Elab.async false
set_option linter.all false
set_option autoImplicit false
set_option maxRecDepth 100000
set_option maxHeartbeats 4000000
/-! DL42: s + t of tuples, kept bare. -/
namespace DL
open PySem PySem.Spec PyProof.Rows L2
def rCatB (K : PySem.W.Frag) : R2 := fun x y H Q => ∃ a b xs ys, x = .ref a ∧ y = .ref b ∧ SqT K H a xs ∧ SqT K H b ys ∧ xs.length + ys.length ≤ sizeLine ∧
  (xs = [] → Q (.ref b) H) ∧ (xs ≠ [] → ys = [] → Q (.ref a) H) ∧ (xs ≠ [] → ys ≠ [] → ∀ p o, H p = none → o.dict = none → Q (.ref p) (upd H p (.frz o (.tup (xs ++ ys)))))
section
variable {X : Cx} {K : PySem.W.Frag}
end
end DL
set_option Elab.async false
set_option linter.all false
set_option autoImplicit false
set_option maxRecDepth 100000
set_option maxHeartbeats 4000000
/-! CK: equal summaries. -/
namespace LW
open PySem PySem.Spec PyProof.Rows L2 DL
def OthD (K : PySem.W.Frag) (C : Addr) (w : Wl) (y : D) : Prop := (∃ t, tyD y = some t ∧ KitF K C t) ∨ (∃ (l : Addr) (kvs : List (Key × D)), y = .ptr l ∧ w l = some (.dK kvs) ∧ KitF K C "dict")
theorem OthD.ne {K : PySem.W.Frag} {C : Addr} {w : Wl} {y : D} (h : OthD K C w y) : ∀ fs, y ≠ .ins C fs := fun fs e => by
  subst e
  rcases h with ⟨t, h, _⟩ | ⟨l, kvs, h, _⟩ <;> cases h
def preEqS (K : PySem.W.Frag) (C : Addr) (ds : List D) (w : Wl) : Prop := ∃ (c : Int) (p : List (Str × Int)) (y : D), ds = [.ins C (sumFsB c p), y] ∧ p.length ≤ 8 ∧ ((∃ (e : Int) (q : List (Str × Int)), y = .ins C (sumFsB e q) ∧ q.length ≤ 8) ∨ OthD K C w y)
def postEqS (C : Addr) (ds : List D) (w : Wl) (d : D) (w' : Wl) : Prop := w' = w ∧ ∀ (c : Int) (p : List (Str × Int)) (y : D), ds = [.ins C (sumFsB c p), y] → (∀ (e : Int) (q : List (Str × Int)), y = .ins C (sumFsB e q) → d = .bl (decide (c = e ∧ p = q))) ∧ ((∀ fs, y ≠ .ins C fs) → d = .bl false)
def preIsS (K : PySem.W.Frag) (C : Addr) (ds : List D) (w : Wl) : Prop := ∃ y, ds = [y] ∧ ((∃ fs, y = .ins C fs) ∨ OthD K C w y)
def postIsS (C : Addr) (ds : List D) (w : Wl) (d : D) (w' : Wl) : Prop := w' = w ∧ ∀ y, ds = [y] → ((∃ fs, y = .ins C fs) → d = .bl true) ∧ ((∀ fs, y ≠ .ins C fs) → d = .bl false)
section
variable {K : PySem.W.Frag} {w : Wl} {P : PD} {C : Addr} {E' : XK} {neg : Bool}
end
def shwD (c : Int) (p : List (Str × Int)) : D := .lst [.int c, .tup (p.map DL.prD), .int p.length, .bl ((p.length : Int) != 0), .int (totS p), .bl (decide ((p.length : Int) = c)), .int (getS p "a"), .str (textS p), .str (rprS c p), .bl true]
def preShw (C : Addr) (ds : List D) (_ : Wl) : Prop := ∃ (c : Int) (p : List (Str × Int)), ds = [.ins C (sumFsB c p)] ∧ 1 ≤ c ∧ c ≤ 8 ∧ SumP (10 ^ 36) c.toNat p
def postShw (C : Addr) (ds : List D) (w : Wl) (d : D) (w' : Wl) : Prop := Keep w w' ∧ ∀ (c : Int) (p : List (Str × Int)), ds = [.ins C (sumFsB c p)] → d = .str (py (shwD c p)).shown
end LW
namespace LW
open PySem PySem.Spec PyProof.Rows L2 DL
end LW
namespace LW
open PySem PySem.Spec PyProof.Rows L2 DL
def inD (C : Addr) (e : Int × List (Str × Int)) : D := .ins C (sumFsB e.1 e.2)
def OkS (e : Int × List (Str × Int)) : Prop := 1 ≤ e.1 ∧ e.1 ≤ 8 ∧ SumP (10 ^ 31) e.1.toNat e.2
end LW
namespace LW
open PySem PySem.Spec PyProof.Rows L2 DL
end LW
namespace LW
open PySem PySem.Spec PyProof.Rows L2 DL
end LW
set_option Elab.async false
set_option linter.all false
set_option autoImplicit false
set_option maxRecDepth 100000
set_option maxHeartbeats 4000000
/-! EO: k03, sums of two counts; tables kept. -/
namespace LW
open PySem PySem.Spec PyProof.Rows L2 DL EX
theorem _root_.EX.TW.pm {ts : List (Addr × Str)} {w w' : Wl} {p : Addr} (h : TW ts w) (hp : Pl w p w) (k : Pm w p w') : TW ts w' := fun t ht => by
  have e := h t ht
  have ne : t.1 ≠ p := fun z => by
    obtain ⟨a, b, c, e2, _⟩ := hp.at
    rw [z, e2] at e
    cases e
  rw [k.2 t.1 ne (by rw [e]; simp), e]
theorem _root_.EX.TW.kp {ts : List (Addr × Str)} {w w' : Wl} (h : TW ts w) (k : Keep w w') : TW ts w' := h.keep k
def twoB (p q : List (Str × Int)) : List D := [.tup (p.map DL.prD), .tup (q.map DL.prD)]
def preAdd (ds : List D) (_ : Wl) : Prop := ∃ p q, ds = twoB p q ∧ SumP (10 ^ 30) 12 p ∧ SumP (10 ^ 30) 12 q
def postAdd (ds : List D) (w : Wl) (d : D) (w' : Wl) : Prop := Keep w w' ∧ ∀ p q, ds = twoB p q → (accS (p ++ q)).length ≤ 12 ∧ ∃ ys, d = .tup (ys.map DL.prD) ∧ Sums (p ++ q) ys
def zostAdd (ec : Nat → Addr) (ds : List D) (w : Wl) (c : Value) (fs : List (Str × D)) (w' : Wl) : Prop := Keep w w' ∧ c = .ref (ec 18) ∧ ∀ p q, ds = twoB p q → 12 < (accS (p ++ q)).length ∧ fs = [(("found" : Str), .int ((accS (p ++ q)).length : Nat))]
def preTwo (ts : List (Addr × Str)) (ds : List D) (w : Wl) : Prop := ∃ p q, ds = twoB p q ∧ SumP (10 ^ 30) 12 p ∧ SumP (10 ^ 30) 12 q ∧ TW ts w
def postTwo (_ : List D) (w : Wl) (d : D) (w' : Wl) : Prop := d = .bl true ∧ Keep w w'
def preRightT (ts : List (Addr × Str)) (ds : List D) (w : Wl) : Prop := ∃ p : Addr, ds = [.ptr p] ∧ Pl w p w ∧ TW ts w
/-- what is told of a sum of two -/
def resD (p q : List (Str × Int)) (d : D) : Prop := ((accS (p ++ q)).length ≤ 12 ∧ ∃ ys, d = .lst [.str "returned", .tup (ys.map DL.prD)] ∧ Sums (p ++ q) ys) ∨ (12 < (accS (p ++ q)).length ∧ d = .lst [.str "names", .int ((accS (p ++ q)).length : Nat)])
theorem ev_cut {K : PySem.W.Frag} {W : XK} {δ : Dlt} {w : Wl} {P : PD} {Z : ZD} {te : TE} (Q : PD) (h : Ev K W te δ w Q Z) (k : ∀ d w1, Q d w1 → P d w1) : Ev K W te δ w P Z := h.imp k
theorem keep_free {w w' : Wl} {q : Addr} (h : Keep w w') (f : w' q = none) : w q = none := by
  cases e : w q with
  | none => rfl
  | some c => rw [h q (by rw [e]; simp), e] at f; cases f
theorem keep_cut {w w' : Wl} {q : Addr} (h : Keep w w') (f : w q = none) : Keep w (cut w' q) := fun b hb => by
  unfold cut
  rw [if_neg (fun z => hb (by rw [z]; exact f)), h b hb]
theorem keep_at {w w' : Wl} {q : Addr} {c : Cl} (h : Keep (put w q c) w') : w' q = some c := by rw [h q (by rw [put_same]; simp), put_same]
theorem keep_un {w w' : Wl} {q : Addr} {c : Cl} (h : Keep (put w q c) w') (f : w q = none) : Keep w w' := ((Keep.refl w).put f).trans h
theorem keep_put {w w' : Wl} {q : Addr} {c : Cl} (h : Keep w w') (f : w q = none) : Keep w (put w' q c) := fun b hb => by
  rw [put_ne (fun z => hb (by rw [z]; exact f)), h b hb]
theorem tw_over {ts : List (Addr × Str)} {w : Wl} {l : Addr} {ds : List D} {c : Cl} (h : TW ts w) (hl : w l = some (.lst ds)) : TW ts (put w l c) := fun p hp => by
  have e := h p hp
  rw [put_ne (fun z => by rw [z, hl] at e; cases e), e]
section
variable {K : PySem.W.Frag} {W : XK} {δ : Dlt} {w : Wl} {P : PD} {Z : ZD} {te : TE} {g : TG}
/-- all true, the store kept -/
theorem lc_allK {wi : TI} {vs : List Nat} (hg : GLoc g vs ∧ GMon g) (h : EvI K W wi δ w (fun ds w1 => ds.length ≤ sizeLine ∧
    (∀ (i : Nat) (d : D) (w' : Wl), ds[i]? = some d → Keep w1 w' → Gd K W g d (wipeD δ vs) w' (fun δ2 w2 => Ev K W te δ2 w2 (fun y w4 => y = .bl true ∧ Keep w' w4) Z) Z) ∧ ∀ w5, Keep w1 w5 → P (.lst ((List.replicate ds.length true).map D.bl)) w5) Z) : Ev K W (tLc wi g tYes te vs) δ w P Z := by
  refine ev_lc hg fun σ H s R q z => h σ H s R (fun J H' ds w1 e c it ⟨hz, h1, h2⟩ => q J H' ds w1 e c it fun l hl => ?_) z
  refine ⟨fun i acc w' => acc = (List.replicate i true).map D.bl ∧ Keep w1 w', ⟨by simp, (Keep.refl w1).put hl⟩, ?_, ?_⟩
  · rintro i d acc w' hd hw ⟨ha, kw⟩
    refine fun v σ H r s Q q z => h1 i d w' hd kw v σ H r s Q (fun σ' H' δ' w2 e s' k => q σ' H' δ' w2 e s' (et_yes ?_)) z
    show Ev K W te δ' w2 _ Z
    refine k.imp fun y w4 ⟨hy, k4⟩ => ?_
    subst hy
    have hi : i < ds.length := (List.getElem?_eq_some_iff.mp hd).1
    refine ⟨by rw [k4 l (by rw [hw]; simp), hw], by rw [ha]; simp; omega, ?_, keep_put (kw.trans k4) hl⟩
    rw [ha, List.replicate_succ', List.map_append]
    rfl
  · rintro acc w' hw ⟨ha, kw⟩
    rw [ha]
    exact h2 _ (keep_cut kw hl)
end
theorem all_true {n : Nat} : (List.replicate n true).all id = true := by
  rw [List.all_replicate]
  simp
def chW : D → Str | .str s => s | _ => Str.empty
def oneP (z : Str) : List (Str × Int) := (chrD z).map fun d => (chW d, (1 : Int))
theorem chr_str : ∀ (z : Str), ∀ d ∈ chrD z, ∃ s, d = .str s := fun z d h => by
  unfold chrD at h
  obtain ⟨c, _, rfl⟩ := List.mem_map.mp h
  exact ⟨_, rfl⟩
def rows3 : List Str := ["abcdefghijkl", "bcdefghijklm", "m", "abcdef", "ghijklm"]
def oneD : D → D | .str z => .tup ((oneP z).map DL.prD) | _ => .non
end LW
set_option Elab.async false
set_option linter.all false
set_option autoImplicit false
set_option maxRecDepth 100000
set_option maxHeartbeats 4000000
/-! EQ: data that holds empty dicts: written out; {} made. -/
namespace RD
open PySem PySem.Spec PyProof.Rows
variable {prog : Program} {w : World} {h : Heap}
mutual
/-- a datum read off the heap: dicts are empty, and no one of them is that of the modules -/
inductive RdE (h : Heap) : Value → PyData → Prop
  | base {v : Value} {d : PyData} {as : List Addr} : Reads h v d as → d.hasDict = false → RdE h v d
  | emp {a : Addr} {o : Obj} {n : Nat} : h.get? a = some o → o.cls = .type "dict" → o.data = .dict #[] n → (a == sysModules) = false → RdE h (.ref a) (.dict [])
  | lst {a : Addr} {o : Obj} {vs : Array Value} {n : Nat} {xs : List PyData} : h.get? a = some o → o.cls = .type "list" → o.data = .seq vs n → RdA h vs.toList xs → RdE h (.ref a) (.list xs)
  | tup {a : Addr} {o : Obj} {vs : Array Value} {n : Nat} {xs : List PyData} : h.get? a = some o → o.cls = .type "tuple" → o.data = .seq vs n → RdA h vs.toList xs → RdE h (.ref a) (.tuple xs)
inductive RdA (h : Heap) : List Value → List PyData → Prop
  | nil : RdA h [] []
  | cons {v : Value} {vs : List Value} {d : PyData} {ds : List PyData} : RdE h v d → RdA h vs ds → RdA h (v :: vs) (d :: ds)
end
mutual
theorem RdE.reads : ∀ {v : Value} {d : PyData}, RdE h v d → ∃ as, Reads h v d as
  | _, _, .base r _ => ⟨_, r⟩
  | _, _, .emp e c dt _ => ⟨_, .dict (kvs := []) (as := []) (bs := []) e c dt .nil .nil⟩
  | _, _, .lst e c dt r => let ⟨_, q⟩ := RdA.reads r; ⟨_, .list e c dt q⟩
  | _, _, .tup e c dt r => let ⟨_, q⟩ := RdA.reads r; ⟨_, .tuple e c dt q⟩
theorem RdA.reads : ∀ {vs : List Value} {ds : List PyData}, RdA h vs ds → ∃ as, ReadsAll h vs ds as
  | _, _, .nil => ⟨_, .nil⟩
  | _, _, .cons r t => let ⟨_, q⟩ := RdE.reads r; let ⟨_, z⟩ := RdA.reads t; ⟨_, .cons q z⟩
end
theorem reprK_mono {as bs : List Addr} {m n : Nat} {v : Value} {t : Str} (k : ReprK prog w as h m v t) (sub : ∀ b ∈ as, b ∈ bs) (le : m ≤ n) : ReprK prog w bs h n v t :=
  fun base hz A g E s Q hg hc hu hk q => k base hz A g E s Q hg (fun b hb => hc b (sub b hb)) (by omega) hk q
mutual
theorem RdE.shows : ∀ {v : Value} {d : PyData}, RdE h v d → d.showable = true → d.shown.length ≤ sizeLine → ∃ bs, ReadAtMost h d.depth bs ∧ ReprK prog w bs h d.depth v d.shown
  | _, _, .base r nd, sh, hz => ReprK.of_reads r sh (fun y => by rw [nd] at y; cases y) hz
  | _, _, .emp (a := a) e c dt ns, _, _ => by
    have r : Reads h (.ref a) (.dict []) _ := .dict (kvs := []) (as := []) (bs := []) e c dt .nil .nil
    have none_ : ReadAtMost h 0 [] := fun b z => absurd z List.not_mem_nil
    have k : ReprK prog w [a] h (0 + 1) (.ref a) (dictText []) := ReprK.dict e c dt ns List.not_mem_nil .nil
    have ed : PyData.depth (.dict []) = 1 := by simp [PyData.depth, PyData.depthKv]
    have es : PyData.shown (.dict []) = dictText [] := by simp [PyData.shown, PyData.shownKv]
    rw [ed, es]
    refine ⟨[a], ?_, k⟩
    have z := ReadAtMost.cons r (Nat.zero_le _) none_
    rwa [ed] at z
  | _, _, .lst (a := a) (vs := vs) (xs := xs) e c dt r, sh, hz => by
    have sh' : PyData.showableAll xs = true := by simpa [PyData.showable] using sh
    have hz2 : (listText (PyData.shownAll xs)).length ≤ sizeLine := by simpa only [PyData.shown] using hz
    obtain ⟨bs, most, all⟩ := RdA.shows r sh' fun t ht => Nat.le_trans (listText_mem_le ht) hz2
    obtain ⟨as, ra⟩ := RdA.reads r
    have me : Reads h (.ref a) (.list xs) (a :: as) := .list e c dt ra
    have ed : PyData.depth (.list xs) = PyData.depthAll xs + 1 := by simp [PyData.depth]
    have es : PyData.shown (.list xs) = listText (PyData.shownAll xs) := by simp [PyData.shown]
    have fresh : a ∉ bs := not_mem_of_deeper me (by rw [ed]; omega) most
    refine ⟨a :: bs, ReadAtMost.cons me (by rw [ed]; omega) most, ?_⟩
    rw [ed, es]
    obtain ⟨l⟩ := vs
    match l, all with
    | [], all =>
      cases hx : PyData.shownAll xs with
      | nil =>
        rw [listText_nil]
        exact ReprK.listEmpty e c dt
      | cons t ts => rw [hx] at all; cases all
    | x :: l, all => exact ReprK.list e c dt fresh (by have := all.length_eq; simpa using this) fun i y q => all.item i y (by simpa using q)
  | _, _, .tup (a := a) (vs := vs) (xs := xs) e c dt r, sh, hz => by
    have sh' : PyData.showableAll xs = true := by simpa [PyData.showable] using sh
    have hz2 : (tupleText (PyData.shownAll xs)).length ≤ sizeLine := by simpa only [PyData.shown] using hz
    obtain ⟨bs, most, all⟩ := RdA.shows r sh' fun t ht => Nat.le_trans (tupleText_mem_le ht) hz2
    obtain ⟨as, ra⟩ := RdA.reads r
    have me : Reads h (.ref a) (.tuple xs) as := .tuple e c dt ra
    have ed : PyData.depth (.tuple xs) = PyData.depthAll xs + 1 := by simp [PyData.depth]
    have es : PyData.shown (.tuple xs) = tupleText (PyData.shownAll xs) := by simp [PyData.shown]
    have fresh : a ∉ bs := not_mem_of_deeper me (by rw [ed]; omega) most
    refine ⟨a :: bs, ReadAtMost.cons me (by rw [ed]; omega) most, ?_⟩
    rw [ed, es]
    exact ReprK.tuple e c dt fresh all
theorem RdA.shows : ∀ {vs : List Value} {ds : List PyData}, RdA h vs ds → PyData.showableAll ds = true → (∀ t ∈ PyData.shownAll ds, t.length ≤ sizeLine) → ∃ bs, ReadAtMost h (PyData.depthAll ds) bs ∧ ReprAllK prog w bs h (PyData.depthAll ds) vs (PyData.shownAll ds)
  | _, _, .nil, _, _ => ⟨[], fun b z => absurd z List.not_mem_nil, by simp only [PyData.shownAll]; exact .nil⟩
  | _, _, .cons (d := d) (ds := ds) r t, sh, hz => by
    have sh' : d.showable = true ∧ PyData.showableAll ds = true := by simpa [PyData.showableAll] using sh
    have eq : PyData.shownAll (d :: ds) = d.shown :: PyData.shownAll ds := by simp [PyData.shownAll]
    have ed : PyData.depthAll (d :: ds) = max d.depth (PyData.depthAll ds) := by simp [PyData.depthAll]
    rw [eq] at hz ⊢
    rw [ed]
    obtain ⟨b1, m1, k1⟩ := RdE.shows r sh'.1 (hz _ (List.mem_cons_self ..))
    obtain ⟨b2, m2, k2⟩ := RdA.shows t sh'.2 fun t ht => hz t (List.mem_cons_of_mem _ ht)
    exact ⟨b1 ++ b2, (m1.mono (Nat.le_max_left ..)).append (m2.mono (Nat.le_max_right ..)), .cons (reprK_mono k1 (fun b hb => List.mem_append.mpr (.inl hb)) (Nat.le_max_left ..)) (k2.more_le (fun b hb => List.mem_append.mpr (.inr hb)) (Nat.le_max_right ..))⟩
end
variable {A : Around} {E : Value → Shared → Prop} {s : Shared} {Q : Value → Shared → Prop}
/-- repr of a list or a tuple that may hold empty dicts -/
theorem repr_at {a : Addr} {d : PyData} (r : RdE h (.ref a) d) (seq : ∃ xs, d = .list xs ∨ d = .tuple xs) (sh : d.showable = true) (hg : A.guards = some []) (hu : A.units + (d.depth + 1) < cLine) (hk : ∀ b o, h.get? b = some o → s.heap.get? b = some o)
    (hQ : ∀ h' u tk, (∀ b o, s.heap.get? b = some o → h'.get? b = some o) → Q (.str d.shown u) ⟨h', s.gens, s.drawn, tk, s.os⟩) (hz : d.shown.length ≤ sizeLine) : wpAny (model prog w) A (call (.builtin "repr") [.ref a]) Q E s := by
  cases r with
  | base r nd => exact repr_of_reads' r sh (PyData.noDict_hsm nd) hg hu hk hQ hz
  | emp e c dt ns => obtain ⟨xs, q | q⟩ := seq <;> cases q
  | lst e c dt r =>
    rename_i o vs n xs
    have ed : PyData.depth (.list xs) = PyData.depthAll xs + 1 := by simp [PyData.depth]
    have es : PyData.shown (.list xs) = listText (PyData.shownAll xs) := by simp [PyData.shown]
    rw [ed] at hu
    rw [es] at hz hQ
    obtain ⟨bs, most, all⟩ := RdA.shows (prog := prog) (w := w) r (by simpa [PyData.showable] using sh) fun t ht => Nat.le_trans (listText_mem_le ht) hz
    obtain ⟨as, ra⟩ := RdA.reads r
    have me : Reads h (.ref a) (.list xs) (a :: as) := .list e c dt ra
    have fresh : a ∉ bs := not_mem_of_deeper me (by rw [ed]; omega) most
    refine call_repr_slot (T := "list") (idr := "list.__repr__") (by omega) ⟨o, hk _ _ e, c⟩ F.slot_list_repr.toG ?_
    obtain ⟨l⟩ := vs
    match l, all, e, c, dt with
    | [], all, e, c, dt =>
      cases hx : PyData.shownAll xs with
      | nil =>
        rw [hx, listText_nil] at hQ
        exact call_list_repr_empty ⟨o, hk _ _ e, c⟩ (hk _ _ e) dt ⟨_, _, rfl, hQ s.heap _ _ fun _ _ z => z⟩
      | cons t ts => rw [hx] at all; cases all
    | x :: l, all, e, c, dt =>
      exact call_list_reprK e c dt fresh (by have := all.length_eq; simpa using this) (fun i y q => all.item i y (by simpa using q)) hg (fun b _ => Clear.nil b) (by show A.units + 1 + _ < _; omega) hk (fun h' u tk k2 => ⟨_, _, rfl, hQ h' u tk k2⟩) hz
  | tup e c dt r =>
    rename_i o vs n xs
    have ed : PyData.depth (.tuple xs) = PyData.depthAll xs + 1 := by simp [PyData.depth]
    have es : PyData.shown (.tuple xs) = tupleText (PyData.shownAll xs) := by simp [PyData.shown]
    rw [ed] at hu
    rw [es] at hz hQ
    obtain ⟨bs, most, all⟩ := RdA.shows (prog := prog) (w := w) r (by simpa [PyData.showable] using sh) fun t ht => Nat.le_trans (tupleText_mem_le ht) hz
    obtain ⟨as, ra⟩ := RdA.reads r
    have me : Reads h (.ref a) (.tuple xs) as := .tuple e c dt ra
    have fresh : a ∉ bs := not_mem_of_deeper me (by rw [ed]; omega) most
    refine call_repr_slot (T := "tuple") (idr := "tuple.__repr__") (by omega) ⟨o, hk _ _ e, c⟩ F.slot_tuple_repr ?_
    exact call_tuple_reprK e c dt fresh all hg (fun b _ => Clear.nil b) (by show A.units + 1 + _ < _; omega) hk (fun h' u tk k2 => ⟨_, _, rfl, hQ h' u tk k2⟩) hz
end RD
namespace DL
open PySem PySem.Spec PyProof.Rows L2 RD
mutual
/-- data laid out, empty dicts among it -/
inductive DpE (K : PySem.W.Frag) (H : Hp) : V → PyData → Prop
  | base {v : V} {d : PyData} : Dp K H v d → d.hasDict = false → DpE K H v d
  | emp {a : Addr} : H a = some (.dK []) → DpE K H (.ref a) (.dict [])
  | lst {a : Addr} {xs : List V} {ds : List PyData} : SqL K H a xs → DpEA K H xs ds → DpE K H (.ref a) (.list ds)
  | tup {a : Addr} {xs : List V} {ds : List PyData} : SqT K H a xs → DpEA K H xs ds → DpE K H (.ref a) (.tuple ds)
inductive DpEA (K : PySem.W.Frag) (H : Hp) : List V → List PyData → Prop
  | nil : DpEA K H [] []
  | cons {v : V} {vs : List V} {d : PyData} {ds : List PyData} : DpE K H v d → DpEA K H vs ds → DpEA K H (v :: vs) (d :: ds)
end
section
variable {X : Cx} {pins : List (Addr × Obj)} {σ : L2.St} {H : Hp} {s : Shared}
theorem emp_at (I : Inv X pins σ H s) {a : Addr} (e : H a = some (.dK [])) : ∃ o n, s.heap.get? a = some o ∧ o.cls = .type "dict" ∧ o.data = .dict #[] n ∧ (a == sysModules) = false := by
  obtain ⟨_, ns, vs, kv, o, es, ep, h1, ⟨h2, _, _⟩, h3, _, ps, _⟩ := dk_of I.hok e
  cases kv
  cases hes : es.toList with
  | nil =>
    have : es = #[] := Array.toList_eq_nil_iff.mp hes
    rw [this] at h3
    exact ⟨o, ep, h1, h2, h3, ns⟩
  | cons x r => rw [hes] at ps; cases ps
mutual
theorem DpE.reads (I : Inv X pins σ H s) : ∀ {v : V} {d : PyData} {u : Value}, DpE X.K H v d → RelV v u → RdE s.heap u d
  | _, _, _, .base h nd, r => let ⟨_, q⟩ := Dp.reads I _ _ _ h r; .base q nd
  | _, _, _, .emp e, r => by
    cases r
    obtain ⟨o, n, h1, h2, h3, h4⟩ := emp_at I e
    exact .emp h1 h2 h3 h4
  | _, _, _, .lst e t, r => by
    cases r
    obtain ⟨its, rv, ⟨o, n, h1, h2, _, h3⟩, _⟩ := I.list e
    exact .lst h1 h2 h3 (DpEA.reads I t rv)
  | _, _, _, .tup e t, r => by
    cases r
    obtain ⟨its, rv, ⟨o, h1, h2, n, h3⟩, _⟩ := I.tuple e
    exact .tup h1 h2 h3 (DpEA.reads I t rv)
theorem DpEA.reads (I : Inv X pins σ H s) : ∀ {vs : List V} {ds : List PyData} {us : List Value}, DpEA X.K H vs ds → Vals vs us → RdA s.heap us ds
  | _, _, _, .nil, .nil => .nil
  | _, _, _, .cons h t, .cons r z => .cons (DpE.reads I h r) (DpEA.reads I t z)
end
end
def rReprE (K : PySem.W.Frag) : List V → Hp → VK → Prop := fun vs H Q => ∃ (a : Addr) (d : PyData), vs = [.ref a] ∧ DpE K H (.ref a) d ∧ (∃ xs, d = .list xs ∨ d = .tuple xs) ∧ d.showable = true ∧ d.depth ≤ 60 ∧ d.shown.length ≤ sizeLine ∧ Q (.str d.shown) H
theorem call_reprE {X : Cx} (hg : X.A.guards = some []) (hu : X.A.units + 64 < cLine) : CallR X (.builtin "repr") (rReprE X.K) := by
  intro pins s σ H xs us Q I r h
  obtain ⟨a, d, rfl, hd, sq, h1, h3, h4, q⟩ := h
  obtain ⟨u, rfl, rx⟩ := vals1 r
  cases rx
  exact repr_at (DpE.reads I hd rfl) sq h1 hg (by omega) (fun _ _ z => z) (fun h' u tk hk => ⟨.str d.shown, H, I.kept (t' := tk) hk, ⟨u, rfl⟩, q⟩) h4
theorem q_reprE {X : Cx} {K : PySem.W.Frag} {e : Expr} {es : List Expr} {t : TA} {p pos : Pos} (hK : X.K = K) (m : X.mg "repr" = none) (hgu : X.A.guards = some []) (hu : X.A.units + 64 < cLine) (hg : Gl X "repr") (ha : PA X (e :: es) t) (he : starEach (e :: es) X.env = (false, eval e X.env) :: starEach es X.env := by rfl) (hpl : (backTo pos (starEach es X.env)).any (·.1) = false := by rfl) :
    PE X (.Call (.Name "repr" p) (e :: es) [] pos) (tCB (rReprE K) t) := by
  subst hK
  exact pe_callB (call_reprE hgu hu) hg m (by decide +kernel) ha (he := he) (hpl := hpl)
/-! ### on data -/
mutual
def pyE : D → PyData
  | .non => .none
  | .bl b => .bool b
  | .int i => .int i
  | .str x => .str x
  | .lst ds => .list (pyEA ds)
  | .tup ds => .tuple (pyEA ds)
  | .btp ds => .tuple (pyEA ds)
  | .emp => .dict []
  | _ => .none
def pyEA : List D → List PyData
  | [] => []
  | d :: ds => pyE d :: pyEA ds
end
mutual
def smallE : D → Bool
  | .int i => decide (i.natAbs.log2 < 1900)
  | .str x => x.cps.all (fun c => decide (c < 1000))
  | .lst ds | .tup ds | .btp ds => smallEA ds
  | .non | .bl _ | .emp => true
  | _ => false
def smallEA : List D → Bool
  | [] => true
  | d :: ds => smallE d && smallEA ds
end
mutual
def deepE : D → Nat
  | .lst ds | .tup ds | .btp ds => deepEA ds + 1
  | .emp => 1
  | _ => 0
def deepEA : List D → Nat
  | [] => 0
  | d :: ds => max (deepE d) (deepEA ds)
end
mutual
def costE : D → Nat
  | .str x => 10 * x.length + 4
  | .lst ds | .tup ds | .btp ds => costEA ds + 4
  | _ => 1922
def costEA : List D → Nat
  | [] => 0
  | d :: ds => costE d + 2 + costEA ds
end
section
variable {K : PySem.W.Frag} {G : Hp}
mutual
theorem rp_dpe : ∀ {v : V} {d : D}, Rp K G v d → smallE d = true → DpE K G v (pyE d)
  | _, _, .non, _ => by simp only [pyE]; exact .base .non (by simp [PyData.hasDict])
  | _, _, .bl b, _ => by simp only [pyE]; exact .base (.bl b) (by simp [PyData.hasDict])
  | _, _, .int b, _ => by simp only [pyE]; exact .base (.int b) (by simp [PyData.hasDict])
  | _, _, .str b, _ => by simp only [pyE]; exact .base (.str b) (by simp [PyData.hasDict])
  | _, _, .lst h r, q => by simp only [pyE]; exact .lst (SqL.of h) (rpa_dpe r (by simpa [smallE] using q))
  | _, _, .tup h r, q => by simp only [pyE]; exact .tup h (rpa_dpe r (by simpa [smallE] using q))
  | _, _, .btp _ h r, q => by simp only [pyE]; exact .tup h (rpa_dpe r (by simpa [smallE] using q))
  | _, _, .emp h, _ => by simp only [pyE]; exact .emp h
  | _, _, .byt _, q => by simp [smallE] at q
  | _, _, .ty _, q => by simp [smallE] at q
  | _, _, .ptr _, q => by simp [smallE] at q
  | _, _, .ins _ _, q => by simp [smallE] at q
theorem rpa_dpe : ∀ {vs : List V} {ds : List D}, RpA K G vs ds → smallEA ds = true → DpEA K G vs (pyEA ds)
  | _, _, .nil, _ => by simp only [pyEA]; exact .nil
  | _, d :: ds, .cons r t, q => by
    have z : smallE d = true ∧ smallEA ds = true := by simpa [smallEA] using q
    simp only [pyEA]
    exact .cons (rp_dpe r z.1) (rpa_dpe t z.2)
end
end
mutual
theorem smallE_show : ∀ d : D, smallE d = true → (pyE d).showable = true
  | .non, _ => by simp [pyE, PyData.showable]
  | .bl _, _ => by simp [pyE, PyData.showable]
  | .str _, _ => by simp [pyE, PyData.showable]
  | .int i, h => by
    have q : i.natAbs.log2 < 1900 := by simpa [smallE] using h
    simp only [pyE, PyData.showable, decide_eq_true_eq]
    omega
  | .lst ds, h => by simp only [pyE, PyData.showable]; exact smallEA_show ds (by simpa [smallE] using h)
  | .tup ds, h => by simp only [pyE, PyData.showable]; exact smallEA_show ds (by simpa [smallE] using h)
  | .btp ds, h => by simp only [pyE, PyData.showable]; exact smallEA_show ds (by simpa [smallE] using h)
  | .emp, _ => by simp [pyE, PyData.showable, PyData.showableKv]
  | .byt _, h | .ty _, h | .ptr _, h | .ins _ _, h => by simp [smallE] at h
theorem smallEA_show : ∀ ds : List D, smallEA ds = true → PyData.showableAll (pyEA ds) = true
  | [], _ => by simp [pyEA, PyData.showableAll]
  | d :: ds, h => by
    have q : smallE d = true ∧ smallEA ds = true := by simpa [smallEA] using h
    simp [pyEA, PyData.showableAll, smallE_show d q.1, smallEA_show ds q.2]
end
mutual
theorem pyE_depth : ∀ d : D, (pyE d).depth = deepE d
  | .non => by simp [pyE, PyData.depth, deepE]
  | .bl _ => by simp [pyE, PyData.depth, deepE]
  | .str _ => by simp [pyE, PyData.depth, deepE]
  | .int _ => by simp [pyE, PyData.depth, deepE]
  | .lst ds => by simp only [pyE, PyData.depth, deepE]; rw [pyEA_depth ds]
  | .tup ds => by simp only [pyE, PyData.depth, deepE]; rw [pyEA_depth ds]
  | .btp ds => by simp only [pyE, PyData.depth, deepE]; rw [pyEA_depth ds]
  | .emp => by simp [pyE, PyData.depth, PyData.depthKv, deepE]
  | .byt _ => by simp [pyE, PyData.depth, deepE]
  | .ty _ => by simp [pyE, PyData.depth, deepE]
  | .ptr _ => by simp [pyE, PyData.depth, deepE]
  | .ins _ _ => by simp [pyE, PyData.depth, deepE]
theorem pyEA_depth : ∀ ds : List D, PyData.depthAll (pyEA ds) = deepEA ds
  | [] => by simp [pyEA, PyData.depthAll, deepEA]
  | d :: ds => by simp [pyEA, PyData.depthAll, deepEA, pyE_depth d, pyEA_depth ds]
end
theorem shownEA_len : ∀ ds : List D, (PyData.shownAll (pyEA ds)).length = ds.length
  | [] => by simp [pyEA, PyData.shownAll]
  | d :: ds => by simp [pyEA, PyData.shownAll, shownEA_len ds]
mutual
theorem smallE_cost : ∀ d : D, smallE d = true → (pyE d).shown.length ≤ costE d
  | .non, _ => by simp only [pyE, PyData.shown, costE]; decide +kernel
  | .bl b, _ => by cases b <;> (simp only [pyE, PyData.shown, costE]; decide +kernel)
  | .int i, h => by
    have q : i.natAbs.log2 < 1900 := by simpa [smallE] using h
    simp only [pyE, PyData.shown, costE]
    exact Nat.le_trans (int_text_len_1921 (by omega)) (by omega)
  | .str x, h => by
    have q : ∀ c ∈ x.cps.toList, c < 16 ^ 8 := fun c hc => by
      have z := h
      simp only [smallE, Array.all_eq_true', decide_eq_true_eq] at z
      exact Nat.lt_of_lt_of_le (z c (Array.mem_toList_iff.mp hc)) (by decide)
    have := StrLaws.reprText_len x q
    simp only [pyE, PyData.shown, costE]
    omega
  | .lst ds, h => by
    have h1 := listText_len_le (PyData.shownAll (pyEA ds))
    have h2 := smallEA_cost ds (by simpa [smallE] using h)
    rw [shownEA_len] at h1
    simp only [pyE, PyData.shown, costE]
    omega
  | .tup ds, h => by
    have h1 := tupleText_len_le (PyData.shownAll (pyEA ds))
    have h2 := smallEA_cost ds (by simpa [smallE] using h)
    rw [shownEA_len] at h1
    simp only [pyE, PyData.shown, costE]
    omega
  | .btp ds, h => by
    have h1 := tupleText_len_le (PyData.shownAll (pyEA ds))
    have h2 := smallEA_cost ds (by simpa [smallE] using h)
    rw [shownEA_len] at h1
    simp only [pyE, PyData.shown, costE]
    omega
  | .emp, _ => by simp only [pyE, PyData.shown, PyData.shownKv, costE]; decide +kernel
  | .byt _, h | .ty _, h | .ptr _, h | .ins _ _, h => by simp [smallE] at h
theorem smallEA_cost : ∀ ds : List D, smallEA ds = true → ((PyData.shownAll (pyEA ds)).map (·.length)).sum + 2 * ds.length ≤ costEA ds
  | [], _ => by simp [pyEA, PyData.shownAll, costEA]
  | d :: ds, h => by
    have q : smallE d = true ∧ smallEA ds = true := by simpa [smallEA] using h
    have h1 := smallE_cost d q.1
    have h2 := smallEA_cost ds q.2
    simp only [pyEA, PyData.shownAll, costEA, List.map_cons, List.sum_cons, List.length_cons]
    omega
end
def wrE (d : D) : Prop := smallE d = true ∧ deepE d ≤ 60 ∧ costE d ≤ sizeLine
def isSeqE : D → Bool | .lst _ | .tup _ | .btp _ => true | _ => false
section
variable {K : PySem.W.Frag} {W : XK} {δ : Dlt} {w : Wl} {P : PD} {Z : ZD}
theorem ol_reprE {d : D} (hs : isSeqE d = true) (hw : wrE d) (k : P (.str (pyE d).shown) w) : OpL K (rReprE K) [d] w P := by
  intro vs H h1 c Q q
  cases h1 with
  | cons h t =>
    cases t
    have dp := rp_dpe (h.mono (G' := H) Ex.msk) hw.1
    have fin : ∀ a, DpE K H (.ref a) (pyE d) → (∃ xs, pyE d = .list xs ∨ pyE d = .tuple xs) → rReprE K [.ref a] H Q := fun a ha sq =>
      ⟨a, pyE d, rfl, ha, sq, smallE_show d hw.1, by rw [pyE_depth]; exact hw.2.1, Nat.le_trans (smallE_cost d hw.1) hw.2.2, q _ H _ w (Ex.refl _) c (.str _) k⟩
    cases h with
    | lst _ _ => exact fin _ dp ⟨_, .inl (by simp only [pyE]; rfl)⟩
    | tup _ _ => exact fin _ dp ⟨_, .inr (by simp only [pyE]; rfl)⟩
    | btp _ _ _ => exact fin _ dp ⟨_, .inr (by simp only [pyE]; rfl)⟩
    | _ => cases hs
/-- {}: nobody will change it -/
theorem ev_demp (k : P .emp w) : Ev K W tDNewK δ w P Z := fun σ H s Q q _ p hp => by
  have e : Ex H (upd H p (.dK [])) := ex_new hp
  obtain ⟨c1, e1⟩ := s.ce.grow e
  exact q (.ref p) _ .emp w e1 c1 (.emp (msk_of (s.ce.free hp) upd_same)) k
end
end DL
set_option Elab.async false
set_option linter.all false
set_option autoImplicit false
set_option maxRecDepth 100000
set_option maxHeartbeats 4000000
/-! ER: checks that raise, over any data; names as the laws tell them. -/
namespace LW
open PySem PySem.Spec PyProof.Rows L2 DL EX
/-! ### letters -/
abbrev alph : Str := "abcdefghijklmnopqrstuvwxyz"
def lowC (c : Nat) : Bool := decide (97 ≤ c ∧ c ≤ 122)
theorem low_uni : ∀ c : Fin 128, lowC c.val = (Unicode.isAlpha c.val && !(Unicode.isUpper c.val || Unicode.isTitle c.val)) ∧ (lowC c.val = true → Unicode.isLower c.val = true) := by decide +kernel
def lowS (x : Str) : Bool := decide (0 < x.length) && (decide (x.length < 9) && x.cps.toList.all lowC)
def ascS (x : Str) : Bool := x.cps.toList.all fun c => decide (c < 128)
theorem len_cps (x : Str) : x.length = x.cps.toList.length := rfl
theorem name_low {x : Str} (h : ascS x = true) : nameS x = lowS x := by
  have hc : ∀ c ∈ x.cps.toList, c < 128 := fun c m => of_decide_eq_true (List.all_eq_true.mp h c m)
  unfold nameS lowS
  rw [Bool.eq_iff_iff]
  simp only [Bool.and_eq_true, decide_eq_true_eq]
  constructor
  · rintro ⟨h1, h2, h3, h4⟩
    unfold Txt.isalpha at h3
    unfold Txt.islower at h4
    simp only [Bool.and_eq_true, decide_eq_true_eq, Bool.not_eq_true', Array.all_eq_true', Array.any_eq_false'] at h3 h4
    refine ⟨h3.1, by omega, List.all_eq_true.mpr fun c m => ?_⟩
    have m' := Array.mem_toList_iff.mp m
    rw [(low_uni ⟨c, hc c m⟩).1]
    have h5 := h3.2 c m'
    have h6 := h4.2 c m'
    rw [h5]
    cases q : (Unicode.isUpper c || Unicode.isTitle c) with
    | false => rfl
    | true => exact absurd q h6
  · rintro ⟨h1, h2, h3⟩
    have low : ∀ c ∈ x.cps, lowC c = true := fun c m => List.all_eq_true.mp h3 c (Array.mem_toList_iff.mpr m)
    have both : ∀ c ∈ x.cps, Unicode.isAlpha c = true ∧ (Unicode.isUpper c || Unicode.isTitle c) = false ∧ Unicode.isLower c = true := fun c m => by
      have lt := hc c (Array.mem_toList_iff.mpr m)
      have l := low c m
      have u := (low_uni ⟨c, lt⟩).1
      rw [show lowC (⟨c, lt⟩ : Fin 128).val = true from l] at u
      have u := u.symm
      rw [Bool.and_eq_true, Bool.not_eq_true'] at u
      exact ⟨u.1, u.2, (low_uni ⟨c, lt⟩).2 l⟩
    refine ⟨by omega, ?_, ?_, ?_⟩
    · unfold Txt.isascii
      rw [Array.all_eq_true']
      exact fun c m => decide_eq_true (hc c (Array.mem_toList_iff.mpr m))
    · unfold Txt.isalpha
      rw [Bool.and_eq_true, Array.all_eq_true']
      exact ⟨decide_eq_true h1, fun c m => (both c m).1⟩
    · unfold Txt.islower
      rw [Bool.and_eq_true, Bool.not_eq_true', Array.any_eq_false']
      refine ⟨?_, fun c m => by rw [(both c m).2.1]; decide⟩
      rw [Array.any_eq_true']
      have ne : 0 < x.cps.toList.length := h1
      exact ⟨x.cps.toList[0], Array.mem_toList_iff.mp (List.getElem_mem ne), (both _ (Array.mem_toList_iff.mp (List.getElem_mem ne))).2.2⟩
/-! ### checks -/
def capD : D → Bool | .int i => decide (1 ≤ i) && decide (i ≤ 8) | _ => false
def fCapG : List D → D | [d] => .bl (capD d) | _ => .non
def preKn (ds : List D) (_ : Wl) : Prop := ∃ d, ds = [d] ∧ kn d
def preFine (ds : List D) (_ : Wl) : Prop := ∃ d, ds = [d] ∧ fine d = true
/-- what a check tells: it passes, the store as it is -/
def postChk (ok : D → Bool) (ds : List D) (w : Wl) (r : D) (w' : Wl) : Prop := w' = w ∧ r = .non ∧ ∀ d, ds = [d] → ok d = true
def zostChk (ok : D → Bool) (C : Addr) (fld : Str) (v : D → D) (ds : List D) (w : Wl) (c : Value) (fs : List (Str × D)) (w' : Wl) : Prop := w' = w ∧ c = .ref C ∧ ∀ d, ds = [d] → ok d = false ∧ fs = [(fld, v d)]
/-- counts of at most m -/
def cntOk (m : Int) : D → Bool | .tup ds => decide (goodN ds m = ds.length) | _ => false
def badAt (m : Int) : D → D | .tup ds => .int (goodN ds m : Nat) | _ => .non
def preCk2 (ds : List D) (_ : Wl) : Prop := ∃ d m, ds = [d, .int m] ∧ fine d = true
def postCk2 (ds : List D) (w : Wl) (r : D) (w' : Wl) : Prop := w' = w ∧ r = .non ∧ ∀ d m, ds = [d, .int m] → cntOk m d = true
def zostCk2 (C : Addr) (fld : Str) (ds : List D) (w : Wl) (c : Value) (fs : List (Str × D)) (w' : Wl) : Prop := w' = w ∧ c = .ref C ∧ ∀ d m, ds = [d, .int m] → cntOk m d = false ∧ fs = [(fld, badAt m d)]
def postIs (f : List D → D) (ds : List D) (w : Wl) (d : D) (w' : Wl) : Prop := w' = w ∧ d = f ds
def fPairD : List D → D | [d] => .bl (pairD d) | _ => .non
theorem alph_mem (c : Nat) : decide (c ∈ alph.cps.toList) = lowC c := by
  have e : alph.cps.toList = List.range' 97 26 := by decide +kernel
  unfold lowC
  rw [e, Bool.eq_iff_iff, decide_eq_true_eq, decide_eq_true_eq, List.mem_range'_1]
  omega
def letF : D → D | .str s => .bl (decide ((s.cps[0]?).getD 0 ∈ alph.cps.toList)) | _ => .non
theorem let_map (x : Str) : (chrD x).map letF = (x.cps.toList.map lowC).map D.bl := by
  unfold chrD
  rw [List.map_map, List.map_map]
  refine List.map_congr_left fun c _ => ?_
  show D.bl (decide (c ∈ alph.cps.toList)) = D.bl (lowC c)
  rw [alph_mem]
theorem chr_one {x : Str} {d : D} (h : d ∈ chrD x) : ∃ c : Nat, d = .str ⟨#[c]⟩ := by
  unfold chrD at h
  obtain ⟨c, _, rfl⟩ := List.mem_map.mp h
  exact ⟨c, rfl⟩
theorem o2_inC {K : PySem.W.Frag} {w : Wl} {P : PD} {c : Nat} {z : Str} (k : P (.bl (decide (c ∈ z.cps.toList))) w) : Op2 K (fun x y H Q => ∃ c z, x = V.str ⟨#[c]⟩ ∧ y = V.str z ∧ Q (V.bl (decide (c ∈ z.cps.toList))) H) (.str ⟨#[c]⟩) (.str z) w P := by
  intro v u H h1 h2 cl Q q
  cases h1
  cases h2
  exact ⟨c, z, rfl, rfl, q _ H _ w (Ex.refl _) cl (.bl _) k⟩
theorem all_low (x : Str) : (x.cps.toList.map lowC).all id = x.cps.toList.all lowC := by rw [List.all_map]; rfl
def ascD : D → Bool | .tup (.str x :: _) => ascS x | _ => true
def preAsc (ds : List D) (_ : Wl) : Prop := ∃ d, ds = [d] ∧ fine d = true ∧ ascD d = true
theorem pair_low {x : Str} {b : D} (h : ascS x = true) : pairD (.tup [.str x, b]) = (lowS x && posD b) := by
  show (nameS x && posD b) = _
  rw [name_low h]
theorem low_none {x : Str} {b : D} (h : ascS x = true) (e : lowS x = false) : D.bl false = fPairD [.tup [.str x, b]] := by
  show D.bl false = D.bl (pairD _)
  rw [pair_low h, e]
  rfl
theorem low_yes {x : Str} (h1 : 0 < x.length) (h2 : x.length < 9) (h3 : x.cps.toList.all lowC = true) : lowS x = true := by
  unfold lowS
  rw [decide_eq_true h1, decide_eq_true h2, h3]
  rfl
theorem low_not1 {x : Str} (h1 : ¬ 0 < x.length) : lowS x = false := by
  unfold lowS
  rw [decide_eq_false h1]
  rfl
theorem low_not2 {x : Str} (h1 : ¬ x.length < 9) : lowS x = false := by
  unfold lowS
  rw [decide_eq_false h1]
  simp
theorem low_not3 {x : Str} (h3 : x.cps.toList.all lowC = false) : lowS x = false := by
  unfold lowS
  rw [h3]
  simp
def ascA : D → Bool | .tup ds => ds.all ascD | _ => true
/-- where the counts are bad: None, a place, or -1 -/
def due5 (m : Int) : D → D | .tup ds => .int (if goodN ds m = ds.length then -1 else (goodN ds m : Int)) | _ => .non
def lenT : D → Nat | .tup ds => ds.length | _ => 0
def preDue5 (ds : List D) (_ : Wl) : Prop := ∃ d m, ds = [.int m, d] ∧ fine d = true ∧ (1 ≤ m ∧ m ≤ 8) ∧ ascA d = true ∧ lenT d ≤ 1000
def fDue5 : List D → D | [.int m, d] => due5 m d | _ => .non
/-- so far all good -/
def GI (m : Int) (ds : List D) (i : Nat) : Prop := (i : Int) ≤ m ∧ ∃ b, goodGo m "" 0 ds = goodGo m b i (ds.drop i) ∧ ((i = 0 ∧ b = "") ∨ (0 < i ∧ ∃ c, ds[i - 1]? = some (.tup [.str b, .int c])))
theorem at_nat {ds : List D} {i : Nat} {d : D} (h : ds[i]? = some d) : atI ds (i : Int) = some d := by
  have hi : i < ds.length := (List.getElem?_eq_some_iff.mp h).1
  unfold atI ixN
  rw [if_pos (by omega), if_pos (by omega), Option.bind_some, Int.toNat_natCast]
  exact h
theorem at_in {L : List D} {j : Int} (h0 : 0 ≤ j) (h1 : j < L.length) : ∃ d, d ∈ L ∧ atI L j = some d := by
  obtain ⟨i, rfl⟩ := Int.eq_ofNat_of_zero_le h0
  have hi : i < L.length := by omega
  exact ⟨L[i], List.getElem_mem hi, at_nat (List.getElem?_eq_getElem hi)⟩
/-! ### a summary made of anything -/
def preInit5 (C : Addr) (ds : List D) (w : Wl) : Prop := ∃ (x : Addr) (a b : D), ds = [.ptr x, a, b] ∧ w x = some (.ins C []) ∧ kn a ∧ fine b = true
def sum5 (a b : D) : List (Str × D) := [(("capacity" : Str), a), (("counts" : Str), b)]
def okInit5 (a b : D) : Bool := capD a && (match a with | .int m => cntOk m b | _ => false)
def postInit5 (C : Addr) (ds : List D) (w : Wl) (d : D) (w' : Wl) : Prop := d = .non ∧ ∀ x a b, ds = [.ptr x, a, b] → okInit5 a b = true ∧ w' = put w x (.ins C (sum5 a b))
def zostInit5 (C : Addr) (ec : Nat → Addr) (ds : List D) (w : Wl) (c : Value) (fs : List (Str × D)) (w' : Wl) : Prop := ∀ x a b, ds = [.ptr x, a, b] → w' = w ∧ ((capD a = false ∧ c = .ref (ec 0) ∧ fs = [(("capacity" : Str), a)]) ∨ (capD a = true ∧ ∃ m, a = .int m ∧ cntOk m b = false ∧ c = .ref (ec 4) ∧ fs = [(("index" : Str), badAt m b)]))
def oddL (z : Str) : List D :=
  [.non, .int 0, .bl true, .str "a", .tup [], .tup [.str "a"], .tup [.str "a", .int 1, .int 1], .lst [.str "a", .int 1], .tup [.str "", .int 1], .tup [.str "A", .int 1], .tup [.str "a1", .int 1], .tup [.str "a b", .int 1], .tup [.str "a", .int 0],
   .tup [.str "a", .int (-1)], .tup [.str "a", .bl true], .tup [.str "a", .str "1"], .tup [.str "a", .non], .tup [.str z, .int 1], .tup [.str z, .int 0], .tup [.non, .int 1], .tup [.tup [.str "a"], .int 1], .emp,
   .tup [.str "abcdefghi", .int 1], .tup [.str "a\n", .int 1], .tup [.int 1, .str "a"], .tup [.str z, .lst [.int 1]], .tup [.str "zzzzzzzz", .int (10 ^ 30)], .tup [.str "a", .tup [.int 1]],
   .tup [.lst [.str z], .int 1], .tup [.emp, .int 1], .tup [.str z, .emp]]
def preOdd5 (ds : List D) (w : Wl) : Prop := ∃ (p : Addr) (z : Str), ds = [.ptr p, .str z] ∧ nameS z = true ∧ Pl w p w
def postOdd5 (ds : List D) (w : Wl) (d : D) (w' : Wl) : Prop := ∀ p z, ds = [.ptr p, .str z] → Pl w p w' ∧ d ∈ oddL z
def preOne5 (ts : List (Addr × Str)) (ds : List D) (w : Wl) : Prop := ∃ (m : Int) (d : D), ds = [.int m, d] ∧ (1 ≤ m ∧ m ≤ 8) ∧ TW ts w ∧ fine d = true ∧ ascA d = true ∧ lenT d ≤ 1000 ∧ smallE d = true ∧ deepE d ≤ 10 ∧ costE d ≤ 1000000
end LW
set_option Elab.async false
set_option linter.all false
set_option autoImplicit false
set_option maxRecDepth 100000
set_option maxHeartbeats 4000000
/-! ES: k05: what is told of a summary made of anything; the bent bags. -/
namespace EX
open PySem PySem.Spec PyProof.Rows L2 DL
section
variable {K : PySem.W.Frag} {W : XK} {δ : Dlt} {w : Wl} {P : PD} {Z : ZD} {C a0 : Addr} {pre : List D → Wl → Prop} {post : List D → Wl → D → Wl → Prop} {zost : List D → Wl → Value → List (Str × D) → Wl → Prop}
end
end EX
namespace LW
open PySem PySem.Spec PyProof.Rows L2 DL EX
section
variable {K : PySem.W.Frag} {P : PD} {w : Wl}
theorem o2_eqNI {i : Int} (k : P (.bl false) w) : Op2 K rEq .non (.int i) w P := by
  intro v u H h1 h2 c Q q
  cases h1; cases h2
  exact ⟨rfl, q _ H _ w (Ex.refl _) c (by rw [decide_eq_false nofun]; exact .bl _) k⟩
end
def toldS (C : Addr) (m : Int) (d : D) : D := if cntOk m d = true then .lst [.str "returned", .ins C (sum5 (.int m) d)] else .lst [.str "summary", badAt m d]
/-! ### bags, bent -/
def elOk (d : D) : Prop := fine d = true ∧ ascD d = true ∧ smallE d = true ∧ deepE d ≤ 4 ∧ costE d ≤ 10000
def bagOk (d : D) : Prop := fine d = true ∧ ascA d = true ∧ lenT d ≤ 1000 ∧ smallE d = true ∧ deepE d ≤ 10 ∧ costE d ≤ 1000000
theorem name_bits {z : Str} (h : nameS z = true) : z.length ≤ 8 ∧ ascS z = true ∧ z.cps.all (fun c => decide (c < 1000)) = true := by
  unfold nameS at h
  simp only [Bool.and_eq_true, decide_eq_true_eq] at h
  obtain ⟨h1, h2, _⟩ := h
  have h3 : ascS z = true := by
    unfold Txt.isascii at h2
    unfold ascS
    rw [Array.all_toList]
    exact h2
  refine ⟨h1, h3, ?_⟩
  rw [← Array.all_toList, List.all_eq_true]
  unfold ascS at h3
  rw [List.all_eq_true] at h3
  exact fun c hc => decide_eq_true (Nat.lt_trans (of_decide_eq_true (h3 c hc)) (by decide))
def SO (n : Nat) (L : List D) : Prop := (∀ d ∈ L, elOk d) ∧ L.length ≤ n
theorem SO.sub {n m : Nat} {L M : List D} (h : SO n L) (s : M.Sublist L) (le : n ≤ m) : SO m M := ⟨fun d hd => h.1 d (s.subset hd), Nat.le_trans s.length_le (Nat.le_trans h.2 le)⟩
theorem SO.cut {n : Nat} {L : List D} (h : SO n L) (lo hi : Option Int) : SO n (cutD L lo hi) := h.sub ((List.take_sublist ..).trans (List.drop_sublist ..)) (Nat.le_refl n)
def wrongL : List D := [.non, .int 0, .int 9, .bl true, .bl false, .int (-1), .str "5", .tup [.int 5], .lst [.int 5], .emp, .int (10 ^ 30), .int (-10 ^ 30)]
def wrongOk (a : D) : Prop := capD a = false ∧ kn a ∧ smallE a = true ∧ deepE a ≤ 2 ∧ costE a ≤ 5000
end LW
set_option Elab.async false
set_option linter.all false
set_option autoImplicit false
set_option maxRecDepth 100000
set_option maxHeartbeats 4000000
/-! ET: k15: orders that are none: what the checks say, own words of the law. -/
namespace EX
open PySem PySem.Spec PyProof.Rows L2 DL
section
variable {X : Cx} {ec : Nat → Addr} {R : List Nat} {st : Stmt} {k : Nat} {c T : Addr} {q : Str} {params : Arguments} {body : Expr} {scope : Scope} {t : XK → TE} {p lpos pos : Pos}
/-- the same in a comprehension: K named -/
theorem q_cg {K : PySem.W.Frag} (hK : X.K = K) (C : Cgt X.prog X.w K X.mg X.base ec R st) (hg : Gl X "_law_caught") (TB : LamX.TabB X.base X.mg c T) (hcode : X.env.code = .ref c) (hq : X.env.qual ++ "<lambda>" = q) (hr : Room (k + 3) X.A) (L : LamX.LamS X.env.scope scope) (hdef : defaultsOf params X.env = ([], []))
    (hbind : ∀ (q : Str) (cl : List (Str × Addr)) (pm cv ctv : Value), bindArgs (PySem.W.kla_fn "<lambda>" q params body scope cl pm cv ctv) ⟨[], []⟩ = pure [])
    (hgu : X.A.guards = some []) (hbody : ∀ (A : Around) (outer : List Env) (s : Shared) (H : Hp) (E : XK) (f c' : Addr), A.guards = some [] → Room k (A.deeper (LamX.lamEnv X scope s.heap.objs.size f c')) → PE (LamX.lamCx X A outer s H E scope f c') body (t E)) :
    PE X (.Call (.Name "_law_caught" p) [.Lambda params body scope lpos] [] pos) (tLm T q (TTc K ec R) t) := by
  subst hK
  exact pe_cg C hg TB hcode hq hr L hdef hbind hgu hbody
end
end EX
namespace LW
open PySem PySem.Spec PyProof.Rows L2 DL EX
/-! ### names of an order -/
theorem putS_keys7 (n : Str) (c : Int) (kvs : List (Str × Int)) : (putS kvs n c).map (·.1) = insS (kvs.map (·.1)) n := by
  have ha : (kvs.any fun kv => decide (kv.1 = n)) = decide (n ∈ kvs.map (·.1)) := by
    by_cases h : n ∈ kvs.map (·.1)
    · rw [decide_eq_true h, List.any_eq_true]
      obtain ⟨e, he, hn⟩ := List.mem_map.mp h
      exact ⟨e, he, decide_eq_true hn⟩
    · rw [decide_eq_false h, List.any_eq_false]
      intro e he
      simp only [decide_eq_true_eq]
      exact fun z => h (List.mem_map.mpr ⟨e, he, z⟩)
  unfold putS insS
  rw [ha]
  by_cases h : n ∈ kvs.map (·.1)
  · rw [if_pos (decide_eq_true h), if_pos h, List.map_map]
    refine List.map_congr_left fun e _ => ?_
    show (if e.1 = n then (e.1, c) else e).1 = e.1
    split <;> rfl
  · rw [if_neg (by simpa using h), if_neg h, List.map_append]
    rfl
theorem acc_keys7 : ∀ (prs kvs : List (Str × Int)), (prs.foldl addS kvs).map (·.1) = (prs.map (·.1)).foldl insS (kvs.map (·.1))
  | [], _ => rfl
  | e :: r, kvs => by
    rw [List.foldl_cons, acc_keys7 r, List.map_cons, List.foldl_cons]
    congr 1
    exact putS_keys7 ..
theorem names_le : ∀ {ds : List D} {i : Nat} {ns : List Str}, goodRGo i ns ds = none → ns.length ≤ 12 → ((ds.map nmD).foldl insS ns).length ≤ 12
  | [], _, _, _, h => h
  | d :: ds, i, ns, h, hn => by
    unfold goodRGo at h
    split at h
    · cases h
    · split at h
      · cases h
      · rename_i c
        exact names_le (ds := ds) h (by omega)
theorem ord_few {xs : List D} (h : goodR xs = xs.length) : (accS (prsOf xs)).length ≤ 12 := by
  have h1 := names_le (goodR_none h) (Nat.zero_le _)
  have h2 := acc_keys7 (prsOf xs) []
  have h3 : (prsOf xs).map (·.1) = xs.map nmD := by unfold prsOf; rw [List.map_map]; rfl
  rw [h3] at h2
  have h4 := congrArg List.length h2
  rw [List.length_map] at h4
  unfold accS
  rw [h4]
  exact h1
theorem ord_sum {xs : List D} (h : goodR xs = xs.length) (w : Wl) : okSum [.tup xs] w := ⟨xs, rfl, ord_pairs h, by have := ord_few h; omega⟩
/-! ### checks -/
def ordAt : D → D | .tup ds => .int (goodR ds : Nat) | _ => .non
def postChkK (ok : D → Bool) (ds : List D) (w : Wl) (r : D) (w' : Wl) : Prop := Keep w w' ∧ r = .non ∧ ∀ d, ds = [d] → ok d = true
def postOkK (ok : D → Bool) (ds : List D) (w : Wl) (_ : D) (w' : Wl) : Prop := Keep w w' ∧ ∀ d, ds = [d] → ok d = true
def zostChkK (ok : D → Bool) (C : Addr) (fld : Str) (v : D → D) (ds : List D) (w : Wl) (c : Value) (fs : List (Str × D)) (w' : Wl) : Prop := Keep w w' ∧ c = .ref C ∧ ∀ d, ds = [d] → ok d = false ∧ fs = [(fld, v d)]
theorem goodR_le (ds : List D) : goodR ds ≤ ds.length := by
  unfold goodR
  cases h : goodRGo 0 [] ds with
  | none => exact Nat.le_refl _
  | some j =>
    have := goodRGo_le h
    show j ≤ _
    omega
def manyOk (xs : List D) : Prop := ∀ e ∈ xs, cntD e < 10 ^ 60
def preFO (ds : List D) (_ : Wl) : Prop := ∃ d, ds = [d] ∧ fine d = true ∧ ∀ xs, d = .tup xs → manyOk xs
def preRun1 (ds : List D) (_ : Wl) : Prop := ∃ (n : Str) (c : Int), ds = [.str n, .int c] ∧ n.length ≤ 8 ∧ 1 ≤ c ∧ c < 10 ^ 60
def postRun1 (_ : List D) (w : Wl) (d : D) (w' : Wl) : Prop := Keep w w' ∧ ∃ s : Str, d = .str s ∧ s.length ≤ 3000
def prePO (ds : List D) (_ : Wl) : Prop := ∃ d, ds = [d] ∧ kn d ∧ isiStr d = false
def postNo (_ : List D) (_ : Wl) (_ : D) (_ : Wl) : Prop := False
def zostPO (C : Addr) (ds : List D) (w : Wl) (c : Value) (fs : List (Str × D)) (w' : Wl) : Prop := w' = w ∧ c = .ref C ∧ ∀ d, ds = [d] → fs = [(("text" : Str), d)]
/-! ### the law's own words -/
def due7 : D → D | .tup ds => .int (if goodR ds = ds.length then -1 else (goodR ds : Int)) | _ => .non
def preDue7 (ds : List D) (_ : Wl) : Prop := ∃ d, ds = [d] ∧ fine d = true ∧ ascA d = true ∧ lenT d ≤ 2000
def fDue7 : List D → D | [d] => due7 d | _ => .non
def RI (ds : List D) (i : Nat) (ns : List Str) : Prop := i ≤ 1000 ∧ ns.length ≤ 12 ∧ goodRGo 0 [] ds = goodRGo i ns (ds.drop i)
theorem ri_0 {ds : List D} : RI ds 0 [] := ⟨by omega, by simp, rfl⟩
theorem ri_cons {ds : List D} {i : Nat} {ns : List Str} {dd : D} (g : RI ds i ns) (hd : ds[i]? = some dd) : goodRGo 0 [] ds = if i = 1000 ∨ pairD dd = false then some i else if 12 < (insS ns (nmD dd)).length then some i else goodRGo (i + 1) (insS ns (nmD dd)) (ds.drop (i + 1)) := by
  have hi : i < ds.length := (List.getElem?_eq_some_iff.mp hd).1
  have ed : ds[i] = dd := (List.getElem?_eq_some_iff.mp hd).2
  rw [g.2.2, List.drop_eq_getElem_cons hi, ed, goodRGo]
theorem due7_at {ds : List D} {i : Nat} (h : goodRGo 0 [] ds = some i) (hi : i < ds.length) : due7 (.tup ds) = .int (i : Nat) := by
  have e : goodR ds = i := by unfold goodR; rw [h]; rfl
  show D.int (if goodR ds = ds.length then -1 else (goodR ds : Int)) = _
  rw [if_neg (by omega), e]
theorem due7_end {ds : List D} {ns : List Str} (g : RI ds ds.length ns) : due7 (.tup ds) = .int (-1) := by
  have h := g.2.2
  rw [List.drop_length] at h
  have h : goodRGo 0 [] ds = none := h
  have e : goodR ds = ds.length := by unfold goodR; rw [h]; rfl
  show D.int (if goodR ds = ds.length then -1 else (goodR ds : Int)) = _
  rw [if_pos e]
theorem ri_stop {ds : List D} {i : Nat} {ns : List Str} {dd : D} (g : RI ds i ns) (hd : ds[i]? = some dd) (s : 999 < i ∨ pairD dd = false) : due7 (.tup ds) = .int (i : Nat) := by
  refine due7_at ?_ (List.getElem?_eq_some_iff.mp hd).1
  rw [ri_cons g hd, if_pos]
  rcases s with s | s
  · exact .inl (by have := g.1; omega)
  · exact .inr s
theorem ri_many {ds : List D} {i : Nat} {ns : List Str} {dd : D} (g : RI ds i ns) (hd : ds[i]? = some dd) (h1 : ¬ 999 < i) (h2 : pairD dd = true) (s : 12 < (insS ns (nmD dd)).length) : due7 (.tup ds) = .int (i : Nat) := by
  refine due7_at ?_ (List.getElem?_eq_some_iff.mp hd).1
  rw [ri_cons g hd, if_neg, if_pos s]
  rintro (z | z)
  · omega
  · rw [h2] at z; cases z
theorem ri_next {ds : List D} {i : Nat} {ns : List Str} {dd : D} (g : RI ds i ns) (hd : ds[i]? = some dd) (h1 : ¬ 999 < i) (h2 : pairD dd = true) (s : ¬ 12 < (insS ns (nmD dd)).length) : RI ds (i + 1) (insS ns (nmD dd)) := by
  refine ⟨by omega, by omega, ?_⟩
  rw [ri_cons g hd, if_neg, if_neg s]
  rintro (z | z)
  · omega
  · rw [h2] at z; cases z
theorem due7_yes {d : D} (h : isOrderD d = true) : due7 d = .int (-1) := by
  cases d <;> first | cases h | skip
  rename_i ds
  have h := of_decide_eq_true h
  show D.int (if goodR ds = ds.length then -1 else (goodR ds : Int)) = _
  rw [if_pos h]
theorem due7_no {d : D} (h : isOrderD d = false) : due7 d = ordAt d ∧ (ordAt d = .non ∨ ∃ n : Nat, ordAt d = .int n ∧ n ≤ lenT d) := by
  cases d <;> first | exact ⟨rfl, .inl rfl⟩ | skip
  rename_i ds
  have h := of_decide_eq_false h
  refine ⟨?_, .inr ⟨_, rfl, goodR_le ds⟩⟩
  show D.int (if goodR ds = ds.length then -1 else (goodR ds : Int)) = _
  rw [if_neg h]
  rfl
def oddR (z : Str) : List D :=
  [.non, .int 0, .str "a", .tup [], .tup [.str "a"], .tup [.str "a", .int 1, .int 1], .lst [.str "a", .int 1], .tup [.str "", .int 1], .tup [.str "A", .int 1], .tup [.str "a b", .int 1], .tup [.str z, .int 0], .tup [.str z, .int (-1)],
   .tup [.str z, .bl true], .tup [.str z, .str "1"], .tup [.str z, .non], .tup [.non, .int 1], .tup [.tup [.str z], .int 1], .emp, .tup [.str "abcdefghi", .int 1],
   .tup [.lst [.str z], .int 1], .tup [.emp, .int 1], .tup [.str z, .lst [.int 1]], .tup [.str z, .emp]]
def postOddR (ds : List D) (w : Wl) (d : D) (w' : Wl) : Prop := ∀ p z, ds = [.ptr p, .str z] → Pl w p w' ∧ d ∈ oddR z
/-! ### paths, bent -/
def elR (d : D) : Prop := fine d = true ∧ ascD d = true ∧ cntD d < 10 ^ 60
def pathOk (d : D) : Prop := fine d = true ∧ ascA d = true ∧ lenT d ≤ 2000 ∧ ∀ xs, d = .tup xs → manyOk xs
theorem elR_all : ∀ {ds : List D}, (∀ d ∈ ds, elR d) → fineA ds = true ∧ ds.all ascD = true
  | [], _ => ⟨rfl, rfl⟩
  | d :: ds, h => by
    obtain ⟨h1, h2, h3⟩ := h d (List.mem_cons_self ..)
    obtain ⟨k1, k2⟩ := elR_all fun x hx => h x (List.mem_cons_of_mem _ hx)
    refine ⟨?_, ?_⟩
    · rw [fineA, h1, k1]; rfl
    · rw [List.all_cons, h2, k2]; rfl
theorem path_tup {ds : List D} (h : ∀ d ∈ ds, elR d) (hl : ds.length ≤ 2000) : pathOk (.tup ds) := by
  obtain ⟨k1, k2⟩ := elR_all h
  refine ⟨?_, k2, hl, fun xs e => ?_⟩
  · rw [fine]; exact k1
  · cases e; exact fun e he => (h e he).2.2
theorem path_oth {d : D} (hf : fine d = true) (hn : ∀ xs, d ≠ .tup xs) : pathOk d := by
  refine ⟨hf, ?_, ?_, fun xs e => absurd e (hn xs)⟩
  · cases d <;> first | rfl | exact absurd rfl (hn _)
  · cases d <;> first | exact Nat.zero_le _ | exact absurd rfl (hn _)
theorem elR_prd {n : Str} {c : Int} (hn : nameS n = true) (hc : c < 10 ^ 60) : elR (DL.prD (n, c)) := by
  obtain ⟨h1, h2, h3⟩ := name_bits hn
  refine ⟨?_, h2, hc⟩
  show fine (.tup [.str n, .int c]) = true
  simp only [fine, fineA, Bool.and_true]; exact decide_eq_true (by omega)
theorem odd_elR {z : Str} {d : D} (hz : nameS z = true) (h : d ∈ oddR z) : elR d := by
  obtain ⟨h1, h2, h3⟩ := name_bits hz
  have g1 : decide (z.length ≤ 5000) = true := decide_eq_true (by omega)
  unfold oddR at h
  simp only [List.mem_cons, List.not_mem_nil, or_false] at h
  rcases h with rfl | rfl | rfl | rfl | rfl | rfl | rfl | rfl | rfl | rfl | rfl | rfl | rfl | rfl | rfl | rfl | rfl | rfl | rfl | rfl | rfl | rfl | rfl <;>
    first
    | exact ⟨by decide +kernel, by decide +kernel, by decide +kernel⟩
    | (refine ⟨?_, ?_, ?_⟩
       · simp only [fine, fineA, g1, Bool.true_and, Bool.and_true] <;> decide +kernel
       · first | exact h2 | rfl
       · first | exact (by decide +kernel : (0 : Int) < 10 ^ 60) | exact (by decide +kernel : (1 : Int) < 10 ^ 60) | exact (by decide +kernel : (-1 : Int) < 10 ^ 60))
def SR (n : Nat) (L : List D) : Prop := (∀ d ∈ L, elR d) ∧ L.length ≤ n
theorem SR.sub {n m : Nat} {L M : List D} (h : SR n L) (s : M.Sublist L) (le : n ≤ m) : SR m M := ⟨fun d hd => h.1 d (s.subset hd), Nat.le_trans s.length_le (Nat.le_trans h.2 le)⟩
theorem SR.cut {n : Nat} {L : List D} (h : SR n L) (lo hi : Option Int) : SR n (cutD L lo hi) := h.sub ((List.take_sublist ..).trans (List.drop_sublist ..)) (Nat.le_refl n)
theorem SR.cat {n m : Nat} {L M : List D} (h : SR n L) (g : SR m M) : SR (n + m) (L ++ M) := ⟨fun d hd => (List.mem_append.mp hd).elim (h.1 d) (g.1 d), by have := h.2; have := g.2; rw [List.length_append]; omega⟩
theorem SR.one {d : D} (h : elR d) : SR 1 [d] := ⟨fun x hx => by rw [List.mem_singleton.mp hx]; exact h, Nat.le_refl 1⟩
theorem SR.path {n : Nat} {L : List D} (h : SR n L) (le : n ≤ 2000) : pathOk (.tup L) := path_tup h.1 (Nat.le_trans h.2 le)
theorem SR.lst {n : Nat} {L : List D} (h : SR n L) : pathOk (.lst L) := path_oth (by rw [fine]; exact (elR_all h.1).1) nofun
def preOne7 (ts : List (Addr × Str)) (ds : List D) (w : Wl) : Prop := ∃ d : D, ds = [d] ∧ TW ts w ∧ pathOk d
def postOne7 (_ : List D) (w : Wl) (d : D) (w' : Wl) : Prop := d = .bl true ∧ Keep w w'
def told7 (d r : D) : Prop := (isOrderD d = true ∧ ∃ v, r = .lst [.str "returned", v]) ∨ (isOrderD d = false ∧ r = .lst [.str "order", ordAt d])
theorem told_err7 {ec : Nat → Addr} {d : D} {R : List Nat} {P : PD} {c : Value} {fs : List (Str × D)} {w w' : Wl} (hR : 5 ∈ R) (h : zostChkK isOrderD (ec 5) "index" ordAt [d] w c fs w') (k : ∀ r, told7 d r → Keep w w' → P r w') : CgZ ec R P c fs w' := by
  obtain ⟨h1, rfl, h2⟩ := h
  obtain ⟨h3, rfl⟩ := h2 d rfl
  exact ⟨5, hR, rfl, ⟨_, rfl⟩, k _ (.inr ⟨h3, rfl⟩) h1⟩
theorem told7_yes {d r : D} (h : told7 d r) (hd : isOrderD d = true) : ∃ v, r = .lst [.str "returned", v] := by
  rcases h with ⟨_, h⟩ | ⟨h, _⟩
  · exact h
  · rw [hd] at h; cases h
theorem told7_no {d r : D} (h : told7 d r) (hd : isOrderD d = false) : r = .lst [.str "order", ordAt d] := by
  rcases h with ⟨h, _⟩ | ⟨_, h⟩
  · rw [hd] at h; cases h
  · exact h
theorem small_nat {n : Nat} (h : n ≤ 2000) : smallE (.int (n : Int)) = true := by
  rw [smallE]
  · refine decide_eq_true ?_
    rw [Int.natAbs_natCast]
    by_cases z : n = 0
    · rw [z]; decide
    · exact Nat.lt_of_lt_of_le ((Nat.log2_lt z).mpr (Nat.lt_of_le_of_lt h (show 2000 < 2 ^ 11 by decide))) (by decide)
theorem wrE3 {d : D} (hl : lenT d ≤ 2000) (h : isOrderD d = false) : wrE (.lst [.lst [.str "order", ordAt d], .lst [.str "order", ordAt d], .lst [.str "order", ordAt d]]) := by
  have s : smallE (.str "order") = true := by decide +kernel
  have e : (Str.ofString "order").length = 5 := by decide +kernel
  rcases (due7_no h).2 with q | ⟨n, q, hn⟩
  · rw [q]
    refine ⟨?_, ?_, ?_⟩
    · simp only [smallE, smallEA] at s ⊢
      simp only [s, Bool.and_true, Bool.true_and]
    · simp only [deepE, deepEA]; decide
    · rw [sizeLine_eq]; simp only [costE, costEA, e]; decide
  · rw [q]
    have sn := small_nat (Nat.le_trans hn hl)
    refine ⟨?_, ?_, ?_⟩
    · simp only [smallE, smallEA] at s sn ⊢
      simp only [s, sn, Bool.and_true, Bool.true_and]
    · simp only [deepE, deepEA]; decide
    · rw [sizeLine_eq]; simp only [costE, costEA, e]; decide
section
variable {K : PySem.W.Frag} {W : XK} {δ : Dlt} {w : Wl} {P : PD} {Z : ZD}
/-- repr of an own list, as it stands -/
theorem ol_reprO {l : Addr} {ds : List D} (hl : w l = some (.lst ds)) (hw : wrE (.lst ds)) (k : P (.str (pyE (.lst ds)).shown) w) : OpL K (rReprE K) [.ptr l] w P := by
  intro vs H h1 c Q q
  cases h1 with
  | cons h t =>
    cases t
    cases h
    obtain ⟨xs, e, r⟩ := c l _ hl
    have sm : smallEA ds = true := by have := hw.1; rw [smallE] at this; exact this
    have da := rpa_dpe (r.mono (G' := H) Ex.msk) sm
    have dp : DpE K H (.ref l) (pyE (.lst ds)) := by
      simp only [pyE]
      exact .lst (.inl (.inl e)) da
    exact ⟨l, pyE (.lst ds), rfl, dp, ⟨_, .inl (by simp only [pyE]; rfl)⟩, smallE_show _ hw.1, by rw [pyE_depth]; exact hw.2.1, Nat.le_trans (smallE_cost _ hw.1) hw.2.2, q _ H _ w (Ex.refl _) c (.str _) k⟩
end
def textL : List D := [.non, .int 0, .bl true, .tup [], .lst [], .emp, .tup [.str "a"], .lst [.str "a"], .tup [.tup [.str "a", .int 1]], .int (10 ^ 30)]
def noTxt (d : D) : Prop := kn d ∧ isiStr d = false ∧ wrE (.lst [.str "text", d])
theorem noTxt_of {d : D} (h : d ∈ textL) : noTxt d := by
  have h2 : kn d ∧ isiStr d = false ∧ smallE d = true ∧ deepE d ≤ 3 ∧ costE d ≤ 5000 := by
    unfold textL at h
    simp only [List.mem_cons, List.not_mem_nil, or_false] at h
    rcases h with rfl | rfl | rfl | rfl | rfl | rfl | rfl | rfl | rfl | rfl <;>
      exact ⟨rfl, rfl, by decide +kernel, by decide +kernel, by decide +kernel⟩
  obtain ⟨a, b, c, d1, e⟩ := h2
  refine ⟨a, b, ?_, ?_, ?_⟩
  · have s : smallE (.str "text") = true := by decide +kernel
    simp only [smallE, smallEA] at s ⊢
    simp only [s, c, Bool.and_true, Bool.true_and]
  · simp only [deepE, deepEA]; omega
  · have e2 : (Str.ofString "text").length = 4 := by decide +kernel
    rw [sizeLine_eq]; simp only [costE, costEA, e2]; omega
section
variable {X : Cx} {K : PySem.W.Frag} {w : Wl} {P : PD}
theorem qo_repT (hK : X.K = K) : OpR X (binaryOp .Mult) (rRepT K) := by subst hK; exact op_repT
theorem o2_repT {ds : List D} {n : Int} (h1 : 2 ≤ n) (h2 : n ≤ 1000) (hz : ds.length ≤ 1000) (hne : 0 < ds.length) (k : P (.tup (List.replicate n.toNat ds).flatten) w) : Op2 K (rRepT K) (.tup ds) (.int n) w P := by
  intro v u H r1 r2 c Q q
  cases r2
  cases r1 with
  | tup ht hr =>
    rename_i a xs
    have hb : ∀ m : Nat, RpA K (msk w H) (List.replicate m xs).flatten (List.replicate m ds).flatten := fun m => by
      induction m with
      | zero => exact .nil
      | succ m ih => rw [List.replicate_succ, List.replicate_succ, List.flatten_cons, List.flatten_cons]; exact hr.append ih
    refine ⟨_, n, xs, rfl, rfl, ex_t Ex.msk ht, ?_, h1, h2, by rw [hr.length]; exact hz, fun p hp => kq_tup q c (hb n.toNat) k hp⟩
    intro e
    have := hr.length
    rw [e] at this
    simp at this
    omega
theorem SR.rep {n : Nat} {L : List D} (h : SR n L) (m : Nat) : SR (m * n) (List.replicate m L).flatten := by
  refine ⟨fun d hd => ?_, ?_⟩
  · obtain ⟨l, hl, hd⟩ := List.mem_flatten.mp hd
    rw [(List.mem_replicate.mp hl).2] at hd
    exact h.1 d hd
  · rw [List.length_flatten, List.map_replicate, List.sum_replicate_nat]
    exact Nat.mul_le_mul_left m h.2
theorem sr_13 : SR 13 (List.map (withC 1) (chrD (Str.ofString "abcdefghijklm"))) := by
  have h : ((List.map (withC 1) (chrD (Str.ofString "abcdefghijklm"))).all fun d => fine d && (ascD d && decide (cntD d < 10 ^ 60))) = true := by decide +kernel
  refine ⟨fun d hd => ?_, by decide +kernel⟩
  have h := List.all_eq_true.mp h d hd
  simp only [Bool.and_eq_true, decide_eq_true_eq] at h
  exact ⟨h.1, h.2.1, h.2.2⟩
theorem len_13 : (List.map (withC 1) (chrD (Str.ofString "abcdefghijklm"))).length = 13 := by decide +kernel
theorem elR_c {d : D} (h : (fine d && (ascD d && decide (cntD d < 10 ^ 60))) = true) : elR d := by
  simp only [Bool.and_eq_true, decide_eq_true_eq] at h
  exact ⟨h.1, h.2.1, h.2.2⟩
end
end LW
set_option Elab.async false
set_option linter.all false
set_option autoImplicit false
set_option maxRecDepth 100000
set_option maxHeartbeats 4000000
/-! EP: the facts of the error classes, from what is written. -/
namespace EX
open PySem PySem.Spec PyProof.Rows L2 DL LW
def ecL (as : List Addr) (i : Nat) : Addr := as.getD i 0
def ErGL (mg : Str → Option Value) : List Str → List Addr → Prop
  | [], [] => True
  | n :: ns, a :: as => mg n = some (.ref a) ∧ ErGL mg ns as
  | _, _ => False
theorem erGL_at {mg : Str → Option Value} : ∀ {ns : List Str} {as : List Addr}, ErGL mg ns as → ∀ (i : Nat) (n : Str), ns[i]? = some n → mg n = some (.ref (as.getD i 0))
  | [], [], _, i, n, h => by simp at h
  | m :: ns, a :: as, ⟨h1, h2⟩, 0, n, h => by
    cases h
    exact h1
  | m :: ns, a :: as, ⟨h1, h2⟩, i + 1, n, h => erGL_at h2 i n h
  | [], _ :: _, h, _, _, _ => h.elim
  | _ :: _, [], h, _, _, _ => h.elim
theorem erG_of {mg : Str → Option Value} {as : List Addr} (h : ErGL mg erN as) : ErG mg (ecL as) := fun i n e => erGL_at h i n e
def isF (K : PySem.W.Frag) (c : Addr) (n : Str) (b : String) : Bool := match PySem.W.findIn K (.ref c) n with | some (some (.builtin x)) => x == b | _ => false
def noF (K : PySem.W.Frag) (c : Addr) (n : Str) : Bool := match PySem.W.findIn K (.ref c) n with | some none => true | _ => false
theorem isF_eq {K : PySem.W.Frag} {c : Addr} {n : Str} {b : String} (h : isF K c n b = true) : PySem.W.findIn K (.ref c) n = some (some (.builtin b)) := by
  unfold isF at h
  split at h
  · rename_i x e
    rw [e, beq_iff_eq.mp h]
  · cases h
theorem noF_eq {K : PySem.W.Frag} {c : Addr} {n : Str} (h : noF K c n = true) : PySem.W.findIn K (.ref c) n = some none := by
  unfold noF at h
  split at h
  · rename_i e
    exact e
  · cases h
def yesO (o : Option Bool) : Bool := match o with | some b => b | none => false
theorem yesO_eq {o : Option Bool} (h : yesO o = true) : o = some true := by
  unfold yesO at h
  split at h
  · rw [h]
  · cases h
/-- all that ErK says, but for the special names -/
def erKb (K : PySem.W.Frag) (as : List Addr) (i : Nat) : Bool :=
  decide (i < 20) && isF K (ecL as i) "__getattribute__" "BaseException.__getattribute__" && noF K (ecL as i) "__getattr__" && yesO (PySem.W.subIn K (.ref (ecL as i)) (.type "BaseException")) && PySem.W.hasDictIn K (ecL as i)
    && isF K (ecL as i) "__class__" "object.__class__" && yesO (PySem.W.mroIn K (ecL as i) (.type "object")) && erA.all (fun n => noF K (ecL as i) n)
    && (List.range 23).all (fun j => PySem.W.kitOne K (.ref (ecL as i)) (.ref (ecL as j)) == some (erSub i j))
    && (PySem.W.kitOne K (.ref (ecL as i)) (.type "ValueError") == some (decide (i < 15))) && (PySem.W.kitOne K (.ref (ecL as i)) (.type "LookupError") == some (decide (14 < i) && decide (i < 18)))
    && (PySem.W.kitOne K (.ref (ecL as i)) (.type "ArithmeticError") == some (decide (17 < i))) && yesO (PySem.W.exmAny K (.ref (ecL as i)) [.ref (ecL as 20), .ref (ecL as 21), .ref (ecL as 22)])
theorem erK_of {K : PySem.W.Frag} {as : List Addr} {i : Nat} (h : erKb K as i = true) (hn : PySem.W.specialIn K (.builtin "object.__class__") "__get__" = some (some (.builtin "getset_descriptor.__get__"))) (ht : PySem.W.takesIn K (.builtin "object.__class__") = some true) : ErK K (ecL as) i := by
  unfold erKb at h
  simp only [Bool.and_eq_true] at h
  obtain ⟨⟨⟨⟨⟨⟨⟨⟨⟨⟨⟨⟨h1, h2⟩, h3⟩, h4⟩, h5⟩, h6⟩, h7⟩, h8⟩, h9⟩, h10⟩, h11⟩, h12⟩, h13⟩ := h
  exact ⟨of_decide_eq_true h1, ⟨isF_eq h2, noF_eq h3, yesO_eq h4, h5, isF_eq h6, hn, ht, yesO_eq h7⟩, ⟨isF_eq h2, noF_eq h3, yesO_eq h4, h5⟩,
    fun n m => noF_eq (List.all_eq_true.mp h8 n m), fun j hj => beq_iff_eq.mp (List.all_eq_true.mp h9 j (List.mem_range.mpr hj)), beq_iff_eq.mp h10, beq_iff_eq.mp h11, beq_iff_eq.mp h12, yesO_eq h13⟩
/-- the rest of ErC -/
def erRb (K : PySem.W.Frag) (C : Addr) (fld : Str) (B newId iI : String) (bmB : List Value) : Bool :=
  PySem.W.excInitIn K C bmB newId && PySem.W.excOver K C bmB && yesO (PySem.W.subIn K (.ref C) (.type B)) && (match PySem.W.ks_superIn K C C "__init__" with | some (some (.builtin x)) => x == iI | _ => false)
    && isF K C "__setattr__" "object.__setattr__" && (match PySem.W.takerIn K C fld with | some none => true | _ => false) && PySem.W.hasDictIn K C && yesO (PySem.W.mroIn K C (.ref C))
    && (match PySem.W.nsIn K cStatics "thirdparty.any" with | some none => true | _ => false) && yesO (PySem.W.subIn K (.ref C) (.type "BaseException")) && (match PySem.W.typeIn K (.ref C) with | some (.type "type") => true | _ => false) && PySem.W.keepIn K (.ref C)
theorem erR_of {P : Program} {K : PySem.W.Frag} {mg : Str → Option Value} {B newId iI : String} {bmB : List Value} {C f cda cc : Addr} {fld : Str} {st : Stmt} {qual : Str} {oc kV dc pm ct oc2 oc3 : Value} {od an od2 od3 : Option Addr} {sl sl2 sl3 : Array (Option Value)} {vs : Array Value} {file : Str} {tf : Tok}
    (fb : ExcBaseFacts B newId iI bmB) (kf : PySem.W.KxsFacts B iI) (sf : StoreFacts B bmB "object.__setattr__" "object") (ts : ErS st fld)
    (a1 : PySem.W.findIn K (.ref C) "__init__" = some (some (.ref f))) (a2 : PySem.W.isFn K (.ref f) = true)
    (a3 : K.lookup f = some ⟨oc, od, .func (PySem.W.ksFn "__init__" qual (defArgs st) (defBody st) (defScope st) .none kV dc pm an (.ref cda) ct cc), sl⟩)
    (a4 : PySem.W.codeIn K (.ref cda) qual = true) (a5 : K.lookup cda = some ⟨oc2, od2, .fields vs, sl2⟩) (a6 : vs[2]? = some (.str file tf)) (a7 : (P.main.file == file) = true) (a8 : K.lookup cc = some ⟨oc3, od3, .cell (some (.ref C)), sl3⟩)
    (b : erRb K C fld B newId iI bmB = true) (sm : mg "super" = none) (top : (P.main.scope.names.lookup ("super" : Str)).isSome = false) : ErR P K mg C fld st := by
  unfold erRb at b
  simp only [Bool.and_eq_true] at b
  obtain ⟨⟨⟨⟨⟨⟨⟨⟨⟨⟨⟨h1, h2⟩, h3⟩, h4⟩, h5⟩, h6⟩, h7⟩, h8⟩, h9⟩, h10⟩, h11⟩, h12⟩ := b
  refine ⟨B, newId, iI, bmB, ⟨fb, kf, sf, ts, ⟨f, a1, a2, qual, oc, od, kV, dc, pm, ct, an, cda, cc, sl, sl2, sl3, oc2, oc3, od2, od3, vs, file, tf, a3, a4, a5, a6, a7, a8⟩, h1, h2, yesO_eq h3, ?_, isF_eq h5, ?_, h7, yesO_eq h8, ?_, sm, top, yesO_eq h10, ?_⟩, h12⟩
  · split at h4
    · rename_i x e
      rw [e, beq_iff_eq.mp h4]
    · cases h4
  · split at h6
    · rename_i e
      exact e
    · cases h6
  · split at h9
    · rename_i e
      exact e
    · cases h9
  · split at h11
    · rename_i e
      exact e
    · cases h11
/-- where a def with lambdas stands, its code object and that one's table -/
theorem dlT_of {K : PySem.W.Frag} {h : Heap} {mg : Str → Option Value} {name : Str} {st : Stmt} {f c T : Addr} {oc kV dc pm ct oc2 : Value} {od an od2 : Option Addr} {sl sl2 : Array (Option Value)} {vs : Array Value} (X : K.In h) (G : h.Ns mainGlobals mg) (a1 : PySem.W.nsIn K mainGlobals name = some (some (.ref f)))
    (a2 : K.lookup f = some ⟨oc, od, .func (PySem.W.fnOf name name (defArgs st) (defBody st) (defScope st) .none kV dc pm an (.ref c) ct), sl⟩) (a3 : PySem.W.codeIn K (.ref c) name = true) (a4 : PySem.W.keepIn K (.ref f) = true)
    (a5 : K.lookup c = some ⟨oc2, od2, .fields vs, sl2⟩) (a6 : vs[11]? = some (.ref T)) : DnL K mg name st c T := dl_of X G a1 a2 a3 a4
theorem erGL_mk {mg : Str → Option Value} {a0 a1 a2 a3 a4 a5 a6 a7 a8 a9 a10 a11 a12 a13 a14 a15 a16 a17 a18 a19 a20 a21 a22 : Addr} (h0 : mg "InvalidCapacity" = some (.ref a0)) (h1 : mg "InvalidName" = some (.ref a1)) (h2 : mg "InvalidTimes" = some (.ref a2)) (h3 : mg "InvalidCounts" = some (.ref a3)) (h4 : mg "InvalidSummary" = some (.ref a4)) (h5 : mg "InvalidOrder" = some (.ref a5)) (h6 : mg "InvalidPlan" = some (.ref a6)) (h7 : mg "InvalidText" = some (.ref a7)) (h8 : mg "InvalidSize" = some (.ref a8)) (h9 : mg "InvalidNumber" = some (.ref a9)) (h10 : mg "InvalidSlots" = some (.ref a10)) (h11 : mg "InvalidIndex" = some (.ref a11)) (h12 : mg "InvalidAction" = some (.ref a12)) (h13 : mg "InvalidLine" = some (.ref a13)) (h14 : mg "NotASummary" = some (.ref a14)) (h15 : mg "CapacitiesDiffer" = some (.ref a15)) (h16 : mg "Busy" = some (.ref a16)) (h17 : mg "NothingToUndo" = some (.ref a17)) (h18 : mg "TooManyNames" = some (.ref a18)) (h19 : mg "TooManyActions" = some (.ref a19)) (h20 : mg "TallyError" = some (.ref a20)) (h21 : mg "StateError" = some (.ref a21)) (h22 : mg "SizeError" = some (.ref a22)) : ErGL mg erN [a0, a1, a2, a3, a4, a5, a6, a7, a8, a9, a10, a11, a12, a13, a14, a15, a16, a17, a18, a19, a20, a21, a22] := ⟨h0, h1, h2, h3, h4, h5, h6, h7, h8, h9, h10, h11, h12, h13, h14, h15, h16, h17, h18, h19, h20, h21, h22, trivial⟩
theorem ks_mk {K : PySem.W.Frag} {h : Heap} {mg : Str → Option Value} {as : List Addr} {R : List Nat} (_ : K.In h) (_ : ErGL mg erN as) (hb : R.all (erKb K as) = true) (hn : PySem.W.specialIn K (.builtin "object.__class__") "__get__" = some (some (.builtin "getset_descriptor.__get__"))) (ht : PySem.W.takesIn K (.builtin "object.__class__") = some true) : ∀ i, i ∈ R → ErK K (ecL as) i :=
  fun i m => erK_of (List.all_eq_true.mp hb i m) hn ht
theorem erR_at {P : Program} {K : PySem.W.Frag} {nmC : Str} {mg : Str → Option Value} {B newId iI : String} {bmB : List Value} {C f cda cc : Addr} {fld : Str} {st : Stmt} {qual : Str} {oc kV dc pm ct oc2 oc3 : Value} {od an od2 od3 : Option Addr} {sl sl2 sl3 : Array (Option Value)} {vs : Array Value} {file : Str} {tf : Tok}
    {h : Heap} (_ : K.In h) (_ : mg nmC = some (.ref C)) (fb : ExcBaseFacts B newId iI bmB) (kf : PySem.W.KxsFacts B iI) (sf : StoreFacts B bmB "object.__setattr__" "object") (ts : ErS st fld)
    (a1 : PySem.W.findIn K (.ref C) "__init__" = some (some (.ref f))) (a2 : PySem.W.isFn K (.ref f) = true)
    (a3 : K.lookup f = some ⟨oc, od, .func (PySem.W.ksFn "__init__" qual (defArgs st) (defBody st) (defScope st) .none kV dc pm an (.ref cda) ct cc), sl⟩)
    (a4 : PySem.W.codeIn K (.ref cda) qual = true) (a5 : K.lookup cda = some ⟨oc2, od2, .fields vs, sl2⟩) (a6 : vs[2]? = some (.str file tf)) (a7 : (P.main.file == file) = true) (a8 : K.lookup cc = some ⟨oc3, od3, .cell (some (.ref C)), sl3⟩)
    (b : erRb K C fld B newId iI bmB = true) (sm : mg "super" = none) (top : (P.main.scope.names.lookup ("super" : Str)).isSome = false) : ErR P K mg C fld st := erR_of fb kf sf ts a1 a2 a3 a4 a5 a6 a7 a8 b sm top
end EX
set_option Elab.async false
set_option linter.all false
set_option autoImplicit false
set_option maxRecDepth 100000
set_option maxHeartbeats 4000000
namespace LW
open PySem PySem.Spec PyProof.Rows L2 DL
def top (i : Nat) : Stmt := PySem.Challenge.pw_tallyplans_k15_errors_of_orders.main.body.getD i (.Pass ⟨0, 0, 0, 0⟩)
def clsBody : Stmt → List Stmt | .ClassDef _ _ _ b _ _ _ _ _ _ _ => b | _ => []
def meth (i j : Nat) : Stmt := (clsBody (top i)).getD j (.Pass ⟨0, 0, 0, 0⟩)
abbrev s_InvalidCapacity___init__ : Stmt := meth 2 0
abbrev s_InvalidName___init__ : Stmt := meth 3 0
abbrev s_InvalidTimes___init__ : Stmt := meth 4 0
abbrev s_InvalidCounts___init__ : Stmt := meth 5 0
abbrev s_InvalidSummary___init__ : Stmt := meth 6 0
abbrev s_InvalidOrder___init__ : Stmt := meth 7 0
abbrev s_InvalidPlan___init__ : Stmt := meth 8 0
abbrev s_InvalidText___init__ : Stmt := meth 9 0
abbrev s_InvalidSize___init__ : Stmt := meth 10 0
abbrev s_InvalidNumber___init__ : Stmt := meth 11 0
abbrev s_InvalidSlots___init__ : Stmt := meth 12 0
abbrev s_InvalidIndex___init__ : Stmt := meth 13 0
abbrev s_InvalidAction___init__ : Stmt := meth 14 0
abbrev s_InvalidLine___init__ : Stmt := meth 15 0
abbrev s_NotASummary___init__ : Stmt := meth 16 0
abbrev s_CapacitiesDiffer___init__ : Stmt := meth 18 0
abbrev s_TooManyNames___init__ : Stmt := meth 22 0
abbrev s_TooManyActions___init__ : Stmt := meth 23 0
structure Tx (mg : Str → Option Value) : Prop where
  b_ArithmeticError : mg "ArithmeticError" = none
  b_LookupError : mg "LookupError" = none
  b_ValueError : mg "ValueError" = none
  b_abs : mg "abs" = none
  b_all : mg "all" = none
  b_bool : mg "bool" = none
  b_divmod : mg "divmod" = none
  b_enumerate : mg "enumerate" = none
  b_int : mg "int" = none
  b_isinstance : mg "isinstance" = none
  b_len : mg "len" = none
  b_list : mg "list" = none
  b_max : mg "max" = none
  b_min : mg "min" = none
  b_range : mg "range" = none
  b_repr : mg "repr" = none
  b_reversed : mg "reversed" = none
  b_sorted : mg "sorted" = none
  b_str : mg "str" = none
  b_tuple : mg "tuple" = none
  k_BLOCK : ∃ u, mg "BLOCK" = some (.int 1000000000000000000000000000000000000000000000000000000000000 u)
  k_BLOCK_DIGITS : ∃ u, mg "BLOCK_DIGITS" = some (.int 60 u)
  k_LONGEST_NAME : ∃ u, mg "LONGEST_NAME" = some (.int 8 u)
  k_MAX_NAMES : ∃ u, mg "MAX_NAMES" = some (.int 12 u)
  k_MAX_RUNS : ∃ u, mg "MAX_RUNS" = some (.int 1000 u)
end LW
set_option Elab.async false
set_option linter.all false
set_option autoImplicit false
set_option maxRecDepth 100000
set_option maxHeartbeats 4000000
namespace LW
open PySem PySem.Spec PyProof.Rows L2 DL EX
/-- one step of a reading on data -/
local macro_rules | `(tactic| walk_at "st") => `(tactic| first
  | with_reducible refine sd_seq ?_
  | with_reducible refine sd_raise ?_
  | with_reducible refine ev_cref ?_
  | with_reducible refine sd_ret ?_
  | with_reducible refine sd_asg ?_
  | with_reducible refine sd_if ?_
  | with_reducible refine sd_drop ?_
  | with_reducible refine sd_par ?_
  | with_reducible refine sd_nx ?_
  | with_reducible refine sd_retN ?_
  | with_reducible refine ev_op ?_
  | with_reducible refine ev_cint ?_
  | with_reducible refine ev_cstr ?_
  | with_reducible refine ev_cbl ?_
  | with_reducible refine ev_cnon ?_
  | with_reducible refine ev_cty ?_
  | refine ev_var (by exact rfl) ?_
  | with_reducible refine ev_cb ?_
  | with_reducible refine ea_cons ?_
  | with_reducible refine ea_nil ?_
  | with_reducible refine ev_tup ?_
  | with_reducible refine ev_un ?_
  | with_reducible refine o1_U ?_
  | with_reducible refine ev_andV ?_
  | with_reducible refine ev_orV ?_
  | with_reducible refine ev_notV ?_
  | with_reducible refine ev_if ?_
  | with_reducible refine et_B ?_
  | with_reducible refine et_test ?_
  | with_reducible refine et_not ?_
  | with_reducible refine et_and ?_
  | with_reducible refine et_or ?_
  | with_reducible refine et_tru ?_
  | with_reducible refine ev_bm0 ?_
  | with_reducible refine ev_bm ?_
  | with_reducible refine ev_chain ?_
  | with_reducible refine gd_name ?_
  | with_reducible refine gd_sub ?_
  | ((with_reducible refine isIxLo ?_); refine o2_ixLo (by first | assumption | exact put_same) (by exact rfl) ?_)
  | ((with_reducible refine isI ?_); refine o2_I (by first | (show (0 : Int) < _; decide) | exact ⟨by decide, by decide⟩ | exact ⟨by decide, by decide, by decide⟩ | exact ⟨by omega, by omega⟩ | exact Or.inl ⟨by omega, by omega⟩ | exact Or.inr ⟨by decide, by decide⟩ | exact Or.inr ⟨by omega, by omega⟩) ?_)
  | refine ⟨_, _, _, _, rfl, rfl, (by first | assumption | exact put_same), (by exact rfl), ?_⟩
  | ((with_reducible refine isTupO ?_); refine ol_tupO (by first | assumption | exact put_same) ?_)
  | ((with_reducible refine isTupBO ?_); refine ol_tupBO (by first | assumption | exact put_same) ?_)
  | with_reducible refine ol_abs ?_
  | with_reducible refine ol_max2 ?_
  | with_reducible refine ol_min2 ?_
  | with_reducible refine gs_nil ?_
  | with_reducible refine gs_cons ?_
  | with_reducible refine gd_tup rfl ?_
  | with_reducible refine o2_I0 ?_
  | with_reducible refine o2_B0 ?_
  | with_reducible refine o2_eqI ?_
  | with_reducible refine o2_neI ?_
  | with_reducible refine o2_eqS ?_
  | with_reducible refine o2_neS ?_
  | with_reducible refine o2_SS ?_
  | with_reducible refine o2_isB ?_
  | with_reducible refine o2_notB ?_
  | with_reducible refine om_S0 trivial ?_
  | with_reducible refine ol_isiInt (by first | assumption | rfl) ?_
  | with_reducible refine ol_isiBool (by first | assumption | rfl) ?_
  | with_reducible refine ol_isiStr (by first | assumption | rfl) ?_
  | with_reducible refine ol_isiTup (by first | assumption | rfl) ?_
  | refine Exists.intro _ (And.intro rfl ?_)
  | with_reducible refine And.intro ty_str ?_
  | ((with_reducible refine isIxT ?_); refine o2_ixT rfl ?_)
  | ((with_reducible refine isIxL ?_); refine o2_ixL rfl ?_)
  | with_reducible refine ev_f ?_
  | with_reducible refine ev_fk kg1_ok ?_
  | with_reducible refine ev_fk kgS_ok ?_
  | refine And.intro (by first | assumption | exact Nat.le_of_ble_eq_true rfl) ?_
  | with_reducible refine ev_sl ?_
  | with_reducible refine eo_none ?_
  | with_reducible refine eo_some ?_
  | with_reducible refine ol_lenS (by rw [sizeLine_eq]; omega) ?_
  | with_reducible refine os_str (by rw [sizeLine_eq]; omega) ?_
  | ((with_reducible refine isLenD ?_); refine ol_lenD (by first | assumption | exact put_same) ?_)
  | with_reducible refine sd_dput ?_
  | with_reducible refine ev_sortItems ?_
  | with_reducible refine ev_revT ?_
  | with_reducible refine ev_altT ?_
  | with_reducible refine ev_dget2 ?_
  | with_reducible refine ol_lenT ?_
  | with_reducible refine ol_lenL ?_
  | with_reducible refine ol_int1 ?_
  | with_reducible refine ol_tupL ?_
  | with_reducible refine ol_tupB ?_
  | with_reducible refine ev_tupB ?_
  | with_reducible refine ol_tupT ?_
  | with_reducible refine ol_lstL ?_
  | with_reducible refine ol_lstT ?_
  | with_reducible refine os_lst ?_
  | with_reducible refine os_tupA ?_
  | with_reducible refine os_tupB ?_)
local macro_rules | `(tactic| walk_at "stn") => `(tactic| repeat walk_at "st")
local macro_rules | `(tactic| walk_at "sts") => `(tactic| repeat first | walk_at "st" | with_reducible refine ev_lst ?_)
section
variable {P : Program} {wo : World} {K : PySem.W.Frag} {mg : Str → Option Value} {base : Heap}
abbrev s_is_integer : Stmt := top 26
theorem sc_is_integer : FnScope ["thing"] ["thing"] (defScope s_is_integer) := ⟨rfl, rfl, rfl, by decide +kernel, rfl, by decide +kernel, by decide +kernel⟩
theorem bp_is_integer : BindP "is_integer" s_is_integer ["thing"] := fun _ _ _ _ _ _ us hl => match us, hl with | [_], _ => rfl

theorem ok_is_integer (T : Tx mg) (d : Dn K mg "is_integer" s_is_integer) : Fk P wo K mg base CX0 1 "is_integer" s_is_integer ["thing"] (SpF K okKn fIsInt) := by
  refine fk_ok d sc_is_integer bp_is_integer (fun ds w h => ?_) fun f cdv A fr s H E hg hr => ⟨_, (pss_one (ps_ret (pe_and (q_isi (K := K) rfl T.b_isinstance rfl (pa_cons (pv 0) (pa_cons (c_int T.b_int rfl) pa_nil))) (pe_one (pe_not (q_isi (K := K) rfl T.b_isinstance rfl (pa_cons (pv 0) (pa_cons (c_bool T.b_bool rfl) pa_nil)))))))), fun ds w hp => ?_⟩
  · match ds, h with | [d], _ => rfl
  · match ds, hp with
    | [d], hp =>
      replace hp : kn d := hp
      walk_at "sts"
      refine if_2 (fun e => ?_) (fun e => ?_)
      · walk_at "sts"
        refine rt_f ?_
        cases d <;> first | rfl | cases e
      · refine rt_f ?_
        cases d <;> first | rfl | cases e
end
section
variable {P : Program} {wo : World} {K : PySem.W.Frag} {mg : Str → Option Value} {base : Heap}
abbrev s_is_integer_from : Stmt := top 27
theorem sc_is_integer_from : FnScope ["thing", "least"] ["thing", "least"] (defScope s_is_integer_from) := ⟨rfl, rfl, rfl, by decide +kernel, rfl, by decide +kernel, by decide +kernel⟩
theorem bp_is_integer_from : BindP "is_integer_from" s_is_integer_from ["thing", "least"] := fun _ _ _ _ _ _ us hl => match us, hl with | [_, _], _ => rfl

theorem ok_is_integer_from (T : Tx mg) (d : Dn K mg "is_integer_from" s_is_integer_from) (F_is_integer : Fk P wo K mg base CX0 1 "is_integer" s_is_integer ["thing"] (SpF K okKn fIsInt)) :
    Fk P wo K mg base CX0 2 "is_integer_from" s_is_integer_from ["thing", "least"] (SpF K okIF fIF) := by
  refine fk_ok d sc_is_integer_from bp_is_integer_from (fun ds w h => ?_) fun f cdv A fr s H E hg hr => ⟨_, (pss_one (ps_ret (pe_and (pe_f F_is_integer hg (hr.mono (by decide)) rfl pass0 (pa_cons (pv 0) pa_nil)) (pe_one (pe_cmpR op_ge (pv 0) (pv 1) (nomark _)))))), fun ds w hp => ?_⟩
  · match ds, h with | [_, .int _], _ => rfl
  · match ds, hp with
    | [d, .int m], hp =>
      have hk : okKn [d] := hp
      walk_at "sts"
      refine if_2 (fun e => ?_) (fun e => ?_)
      · cases d with
        | int i =>
          walk_at "sts"
          exact rt_f rfl
        | _ => cases e
      · refine rt_f ?_
        cases d with
        | int i => cases e
        | _ => rfl
end
section
variable {P : Program} {wo : World} {K : PySem.W.Frag} {mg : Str → Option Value} {base : Heap}
abbrev s_is_name : Stmt := top 28
theorem sc_is_name : FnScope ["thing"] ["thing"] (defScope s_is_name) := ⟨rfl, rfl, rfl, by decide +kernel, rfl, by decide +kernel, by decide +kernel⟩
theorem bp_is_name : BindP "is_name" s_is_name ["thing"] := fun _ _ _ _ _ _ us hl => match us, hl with | [_], _ => rfl

theorem ok_is_name (T : Tx mg) (d : Dn K mg "is_name" s_is_name) : Fk P wo K mg base CX0 1 "is_name" s_is_name ["thing"] (SpF K okFine fIsName) := by
  refine fk_ok d sc_is_name bp_is_name (fun ds w h => ?_) fun f cdv A fr s H E hg hr => ⟨_, (pss_cons (ps_if (PW.pt (pw_or (pt_not (pt_val (q_isi (K := K) rfl T.b_isinstance rfl (pa_cons (pv 0) (pa_cons (c_str T.b_str rfl) pa_nil))))) (pw_or1 (pt_cmpR op_gt (q_len (K := K) rfl T.b_len rfl (pa_cons (pv 0) pa_nil)) (k_int T.k_LONGEST_NAME rfl) (nomark _))))) (pss_one (ps_ret pe_bl)) pss_nil) (pss_one (ps_ret (pe_and (q_bm0 (K := K) rfl PySem.F.plainAttrs_str PySem.F.slot_str_isascii PySem.F.type_str_isascii mt_isascii (pv 0)) (pe_and (q_bm0 (K := K) rfl PySem.F.plainAttrs_str PySem.F.slot_str_isalpha PySem.F.type_str_isalpha mt_isalpha (pv 0)) (pe_one (q_bm0 (K := K) rfl PySem.F.plainAttrs_str PySem.F.slot_str_islower PySem.F.type_str_islower mt_islower (pv 0)))))))), fun ds w hp => ?_⟩
  · match ds, h with | [d], _ => rfl
  · match ds, hp with
    | [d], hp =>
      replace hp : fine d = true := hp
      have hk : kn d := fine_kn hp
      walk_at "sts"
      refine if_2 (fun e => ?_) (fun e => ?_)
      · refine if_t rfl ?_
        walk_at "sts"
        refine rt_f ?_
        cases d <;> first | rfl | cases e
      · cases d with
        | str x =>
          walk_at "sts"
          refine ol_lenS (fine_str hp) ?_
          walk_at "sts"
          refine if_2 (fun e => ?_) (fun e => ?_)
          · walk_at "sts"
            refine rt_f ?_
            have e' : ¬ x.length ≤ 8 := by
              have := of_decide_eq_true e
              omega
            show _ = D.bl (nameS x)
            unfold nameS
            rw [decide_eq_false e']
            rfl
          · have e' : x.length ≤ 8 := by
              have := of_decide_eq_false e
              omega
            walk_at "sts"
            have fin : ∀ b : Bool, b = (Txt.isascii x && (Txt.isalpha x && Txt.islower x)) → D.bl b = fIsName [.str x] := fun b hb => by
              show _ = D.bl (nameS x)
              unfold nameS
              rw [hb, decide_eq_true e']
              rfl
            refine if_2 (fun e1 => ?_) (fun e1 => rt_f (fin _ (by rw [e1]; rfl)))
            walk_at "sts"
            refine if_2 (fun e2 => ?_) (fun e2 => rt_f (fin _ (by rw [e1, e2]; rfl)))
            walk_at "sts"
            exact rt_f (fin _ (by rw [e1, e2]; rfl))
        | _ => cases e
end
section
variable {P : Program} {wo : World} {K : PySem.W.Frag} {mg : Str → Option Value} {base : Heap}
abbrev s_is_pair : Stmt := top 29
theorem sc_is_pair : FnScope ["thing", "name", "number"] ["thing"] (defScope s_is_pair) := ⟨rfl, rfl, rfl, by decide +kernel, rfl, by decide +kernel, by decide +kernel⟩
theorem bp_is_pair : BindP "is_pair" s_is_pair ["thing"] := fun _ _ _ _ _ _ us hl => match us, hl with | [_], _ => rfl

theorem ok_is_pair (T : Tx mg) (d : Dn K mg "is_pair" s_is_pair) (F_is_name : Fk P wo K mg base CX0 1 "is_name" s_is_name ["thing"] (SpF K okFine fIsName)) (F_is_integer_from : Fk P wo K mg base CX0 2 "is_integer_from" s_is_integer_from ["thing", "least"] (SpF K okIF fIF)) :
    Fk P wo K mg base CX0 3 "is_pair" s_is_pair ["thing"] (SpF K okFine fIsPair) := by
  refine fk_ok d sc_is_pair bp_is_pair (fun ds w h => ?_) fun f cdv A fr s H E hg hr => ⟨_, (pss_cons (ps_if (PW.pt (pw_or (pt_not (pt_val (q_isi (K := K) rfl T.b_isinstance rfl (pa_cons (pv 0) (pa_cons (c_tuple T.b_tuple rfl) pa_nil))))) (pw_or1 (pt_cmpR op_ne (q_len (K := K) rfl T.b_len rfl (pa_cons (pv 0) pa_nil)) pe_int (nomark _))))) (pss_one (ps_ret pe_bl)) pss_nil) (pss_cons (ps_asg (pv 0) (qg_tup (K := K) (n := 2) rfl rfl (pgs_cons (pg_name (i := 1) sc_is_pair.nd rfl (Or.inl rfl) (hf := Or.inl rfl)) (pgs_cons (pg_name (i := 2) sc_is_pair.nd rfl (Or.inl rfl) (hf := Or.inl rfl)) pgs_nil)) rfl)) (pss_one (ps_ret (pe_and (pe_f F_is_name hg (hr.mono (by decide)) rfl pass0 (pa_cons (pv 1) pa_nil)) (pe_one (pe_f F_is_integer_from hg (hr.mono (by decide)) rfl pass0 (pa_cons (pv 2) (pa_cons pe_int pa_nil))))))))), fun ds w hp => ?_⟩
  · match ds, h with | [d], _ => rfl
  · match ds, hp with
    | [d], hp =>
      replace hp : fine d = true := hp
      have hk : kn d := fine_kn hp
      walk_at "sts"
      refine if_2 (fun e => ?_) (fun e => ?_)
      · refine if_t rfl ?_
        walk_at "sts"
        refine rt_f ?_
        cases d <;> first | rfl | cases e
      · cases d with
        | tup ds =>
          walk_at "sts"
          refine if_2 (fun e1 => ?_) (fun e1 => ?_)
          · walk_at "sts"
            refine rt_f ?_
            show _ = D.bl (pairD (.tup ds))
            rw [pairD_len]
            intro h
            rw [h] at e1
            exact absurd e1 (by decide)
          · match ds, e1 with
            | [n, c], _ =>
              have h1 : fine n = true := (fineA_cons (fine_tup hp)).1
              have h2 : fine c = true := (fineA_cons (fineA_cons (fine_tup hp)).2).1
              have h3 : okFine [n] := h1
              have h4 : okIF [c, .int 1] := fine_kn h2
              walk_at "sts"
              have fin : ∀ b : Bool, (b = pairD (.tup [n, c])) → D.bl b = fIsPair [.tup [n, c]] := fun b hb => by rw [hb]; rfl
              refine if_2 (fun e2 => ?_) (fun e2 => ?_)
              · walk_at "sts"
                refine rt_f ?_
                have e2' : nameD n = true := e2
                show fIF [c, .int 1] = D.bl (nameD n && posD c)
                rw [e2']
                cases c <;> rfl
              · refine rt_f (fin _ ?_)
                show _ = (nameD n && posD c)
                rw [e2]
                rfl
            | [], e1 => exact absurd e1 (by decide)
            | [_], e1 => exact absurd e1 (by simp)
            | _ :: _ :: _ :: _, e1 =>
              exfalso
              simp only [List.length_cons, Bool.not_eq_false', decide_eq_true_eq] at e1
              omega
        | _ => cases e
end
section
variable {P : Program} {wo : World} {K : PySem.W.Frag} {mg : Str → Option Value} {base : Heap}
abbrev s_format_number : Stmt := top 33
theorem sc_format_number : FnScope ["number", "blocks", "rest", "low"] ["number"] (defScope s_format_number) := ⟨rfl, rfl, rfl, by decide +kernel, rfl, by decide +kernel, by decide +kernel⟩
theorem bp_format_number : BindP "format_number" s_format_number ["number"] := fun _ _ _ _ _ _ us hl => match us, hl with | [_], _ => rfl


theorem ok_format_number (T : Tx mg) (d : Dn K mg "format_number" s_format_number) :
    Fk P wo K mg base CX0 1 "format_number" s_format_number ["number"] (SpD K preFN postFN zN) := by
  refine fk_ok d sc_format_number bp_format_number (fun ds w h => by first | (unfold preFN at h; (repeat (first | (obtain ⟨rfl, _⟩ := h; rfl) | (obtain ⟨_, h⟩ := h))); done) | (unfold preFN at h; split at h <;> first | rfl | exact h.elim) | (dsimp only at h; unfold preFN at h; split at h <;> first | rfl | exact h.elim)) fun f cdv A fr s H E hg hr => ⟨_, (pss_cons (ps_set (i := 1) sc_format_number.nd rfl (Or.inl rfl) (pe_lst pa_nil)) (pss_cons (ps_set (i := 2) sc_format_number.nd rfl (Or.inl rfl) (pv 0)) (pss_cons (ps_while PassesOwn.never (pt_cmpR op_ge (pv 2) (k_int T.k_BLOCK rfl) (nomark _)) (pss_cons (ps_asg (b_divmod T.b_divmod rfl (pa_cons (pv 2) (pa_cons (k_int T.k_BLOCK rfl) pa_nil))) (qg_tup (K := K) (n := 2) rfl rfl (pgs_cons (pg_name (i := 2) sc_format_number.nd rfl (Or.inl rfl) (hf := Or.inl rfl)) (pgs_cons (pg_name (i := 3) sc_format_number.nd rfl (Or.inl rfl) (hf := Or.inl rfl)) pgs_nil)) rfl)) (pss_one (ps_expr (q_bm (K := K) rfl PySem.F.plainAttrs_list PySem.F.slot_list_append PySem.F.type_list_append mt_append (pv 1) (pa_cons (q_bm (K := K) rfl PySem.F.plainAttrs_str PySem.F.slot_str_zfill PySem.F.type_str_zfill mt_zfill (b_str T.b_str rfl (pa_cons (pv 3) pa_nil)) (pa_cons (k_int T.k_BLOCK_DIGITS rfl) pa_nil)) pa_nil)))))) (pss_cons (ps_expr (q_bm (K := K) rfl PySem.F.plainAttrs_list PySem.F.slot_list_append PySem.F.type_list_append mt_append (pv 1) (pa_cons (b_str T.b_str rfl (pa_cons (pv 2) pa_nil)) pa_nil))) (pss_one (ps_ret (q_joinRev (K := K) rfl rfl T.b_reversed rfl pe_str (pv 1)))))))), fun ds w hp => ?_⟩
  · obtain ⟨n, rfl, h0, h1⟩ := hp
    walk_at "stn"
    refine ev_lstOwn ?_
    walk_at "stn"
    intro q nq
    walk_at "stn"
    refine sd_while (fun m δ' w' => δ' = [some (.int n), some (.ptr q), some (.int n), none] ∧ w' = put w q (.lst [])) ⟨0, rfl, rfl⟩ fun m δ' w' h => ?_
    obtain ⟨rfl, rfl⟩ := h
    walk_at "stn"
    refine if_f (decide_eq_false (by omega)) ?_
    walk_at "stn"
    refine ⟨ty_lstO put_same, ?_⟩
    walk_at "stn"
    refine ol_strI (log2_60 h0 h1) ?_
    walk_at "stn"
    refine om_app put_same (by rw [sizeLine_eq]; simp) ?_
    rw [put_put]
    walk_at "stn"
    refine ev_joinRev ?_
    walk_at "stn"
    have hl := num_len h0 h1
    refine ⟨q, [Str.ofString (toString n)], rfl, put_same, ?_, (Keep.refl w).put nq, fun m e => ?_⟩
    · show (Str.ofString (toString n)).length + 0 + (0 + 1) * 0 ≤ 16777216
      omega
    injection e with e _
    injection e with e
    subst e
    exact rfl
end
section
variable {P : Program} {wo : World} {K : PySem.W.Frag} {mg : Str → Option Value} {base : Heap}
abbrev s_summed : Stmt := top 38
theorem sc_summed : FnScope ["pairs", "sums", "name", "number"] ["pairs"] (defScope s_summed) := ⟨rfl, rfl, rfl, by decide +kernel, rfl, by decide +kernel, by decide +kernel⟩
theorem bp_summed : BindP "summed" s_summed ["pairs"] := fun _ _ _ _ _ _ us hl => match us, hl with | [_], _ => rfl

theorem ok_summed (T : Tx mg) (d : Dn K mg "summed" s_summed) : Fk P wo K mg base CX0 1 "summed" s_summed ["pairs"] (SpD K okSum postSum zN) := by
  refine fk_ok d sc_summed bp_summed (fun ds w h => ?_) fun f cdv A fr s H E hg hr => ⟨_, (pss_cons (ps_set (i := 1) sc_summed.nd rfl (Or.inl rfl) pe_dnewK) (pss_cons (ps_for PassesOwn.never rfl (qi_tup (K := K) rfl (pv 0)) (qg_tup (K := K) (n := 2) rfl rfl (pgs_cons (pg_name (i := 2) sc_summed.nd rfl (Or.inl rfl) (hf := Or.inl rfl)) (pgs_cons (pg_name (i := 3) sc_summed.nd rfl (Or.inl rfl) (hf := Or.inl rfl)) pgs_nil)) rfl) (pss_one (q_dput hr.units (pv 1) (pv 2) (pe_op op_add (q_dget2 hr.units (pv 1) (pv 2) pe_int ⟨rfl, rfl, rfl, rfl⟩) (pv 3)) rfl))) (pss_one (ps_ret (q_tuple (K := K) rfl T.b_tuple rfl (pa_cons (q_sortItems (K := K) rfl rfl T.b_sorted rfl (pv 1)) pa_nil)))))), fun ds w hp => ?_⟩
  · obtain ⟨xs, rfl, _⟩ := h; rfl
  · obtain ⟨xs, rfl, hx, hn⟩ := hp
    walk_at "sts"
    refine ev_dnew fun p np => ?_
    walk_at "sts"
    refine sd_for (ei_tupT ?_)
    walk_at "sts"
    refine ⟨fun i δ' w' => ∃ x y : Option D, δ' = [some (.tup xs), some (.ptr p), x, y] ∧ Keep w w' ∧ w' p = some (.dK ((accS ((prsOf xs).take i)).map entD)), ⟨_, _, rfl, (Keep.refl w).put np, put_same⟩, ?_, ?_⟩
    · rintro i e δ' w' he ⟨x, y, rfl, hk, hw⟩
      obtain ⟨n, c, rfl, hnm, hc, hpr⟩ := prs_ent hx he
      have hlt : (accS ((prsOf xs).take i)).length < 64 := Nat.lt_of_le_of_lt (acc_le i) hn
      walk_at "sts"
      refine ⟨⟨_, hw⟩, ?_⟩
      walk_at "sts"
      refine ⟨_, Sum.inr n, hw, rfl, ?_⟩
      rw [valD_ent]
      walk_at "sts"
      refine ⟨p, _, Sum.inr n, rfl, hw, rfl, by rw [List.length_map, sizeLine_eq]; omega, ?_⟩
      rw [putD_ent]
      refine ⟨_, _, rfl, hk.put np, ?_⟩
      rw [put_same, acc_take hpr]
      rfl
    · rintro δ' w' ⟨x, y, rfl, hk, hw⟩
      have hln : (prsOf xs).length = xs.length := List.length_map ..
      rw [← hln, List.take_length] at hw
      walk_at "sts"
      refine ⟨p, _, rfl, hw, hn, fun ys perm nod ord => ?_⟩
      walk_at "sts"
      intro xs' e
      cases e
      exact ⟨hk, ys, rfl, sums_of perm nod ord⟩
end
section
variable {P : Program} {wo : World} {K : PySem.W.Frag} {mg : Str → Option Value} {base : Heap}
abbrev s_good_runs : Stmt := top 40
theorem sc_good_runs : FnScope ["things", "names", "index", "thing"] ["things"] (defScope s_good_runs) := ⟨rfl, rfl, rfl, by decide +kernel, rfl, by decide +kernel, by decide +kernel⟩
theorem bp_good_runs : BindP "good_runs" s_good_runs ["things"] := fun _ _ _ _ _ _ us hl => match us, hl with | [_], _ => rfl

theorem ok_good_runs (T : Tx mg) (d : Dn K mg "good_runs" s_good_runs) (F_is_pair : Fk P wo K mg base CX0 3 "is_pair" s_is_pair ["thing"] (SpF K okFine fIsPair)) :
    Fk P wo K mg base CX0 4 "good_runs" s_good_runs ["things"] (SpD K (fun ds _ => okFineT ds) postRuns zN) := by
  refine fk_ok d sc_good_runs bp_good_runs (fun ds w h => ?_) fun f cdv A fr s H E hg hr => ⟨_, (pss_cons (ps_set (i := 1) sc_good_runs.nd rfl (Or.inl rfl) pe_dnewK) (pss_cons (ps_for PassesOwn.never rfl (qi_enT (K := K) rfl rfl T.b_enumerate (pa_cons (pv 0) pa_nil)) (qg_tup (K := K) (n := 2) rfl rfl (pgs_cons (pg_name (i := 2) sc_good_runs.nd rfl (Or.inl rfl) (hf := Or.inl rfl)) (pgs_cons (pg_name (i := 3) sc_good_runs.nd rfl (Or.inl rfl) (hf := Or.inl rfl)) pgs_nil)) rfl) (pss_cons (ps_if (PW.pt (pw_or (pt_cmpR op_eq (pv 2) (k_int T.k_MAX_RUNS rfl) (nomark _)) (pw_or1 (pt_not (pt_val (pe_f F_is_pair hg (hr.mono (by decide)) rfl pass0 (pa_cons (pv 3) pa_nil))))))) (pss_one (ps_ret (pv 2))) pss_nil) (pss_cons (q_dput hr.units (pv 1) (pe_ix (qx_tup (K := K) rfl) (pv 3) pe_int (fun _ _ => rfl)) pe_bl rfl) (pss_one (ps_if (pt_cmpR op_gt (q_lenD T.b_len rfl (pa_cons (pv 1) pa_nil)) (k_int T.k_MAX_NAMES rfl) (nomark _)) (pss_one (ps_ret (pv 2))) pss_nil))))) (pss_one (ps_ret (q_len (K := K) rfl T.b_len rfl (pa_cons (pv 0) pa_nil)))))), fun ds w hp => ?_⟩
  · match ds, h with | [.tup _], _ => rfl
  · match ds, hp with
    | [.tup ds], hp =>
      replace hp : fineA ds = true := hp
      walk_at "sts"
      refine ev_dnew fun p np => ?_
      walk_at "sts"
      refine sd_for (ei_enT ?_)
      walk_at "sts"
      refine ⟨fun i δ' w' => ∃ (ns : List Str) (x y : Option D), δ' = [some (.tup ds), some (.ptr p), x, y] ∧ ns.length ≤ 12 ∧ Keep w w' ∧ w' p = some (.dK (ns.map entB)) ∧ goodRGo 0 [] ds = goodRGo i ns (ds.drop i), ⟨[], _, _, rfl, Nat.zero_le _, (Keep.refl w).put np, put_same, rfl⟩, ?_, ?_⟩
      · rintro i e δ' w' he ⟨ns, x, y, rfl, hl, hk, hw, hgo⟩
        obtain ⟨dd, hdd, rfl⟩ := enD_get he
        have hi : i < ds.length := (List.getElem?_eq_some_iff.mp hdd).1
        have hdrop : ds.drop i = dd :: ds.drop (i + 1) := by
          rw [List.drop_eq_getElem_cons hi]
          congr 1
          exact (List.getElem?_eq_some_iff.mp hdd).2
        have hf : okFine [dd] := fineA_get hp hdd
        rw [hdrop] at hgo
        have out : ∀ w2 : Wl, Keep w w2 → goodRGo 0 [] ds = some i → (endD postRuns zN [D.tup ds] w).rt (.int i) w2 := fun w2 k2 h xs e => by
          cases e
          refine ⟨?_, k2⟩
          unfold goodR
          rw [h]
          rfl
        walk_at "sts"
        refine if_2 (fun e1 => if_t rfl ?_) (fun e1 => ?_)
        · walk_at "sts"
          have e1' : (i : Int) = 1000 := of_decide_eq_true e1
          exact out _ hk (by rw [hgo, goodRGo, if_pos (.inl (by omega))])
        · walk_at "sts"
          have e1' : ¬ (i : Int) = 1000 := of_decide_eq_false e1
          refine if_2 (fun e2 => ?_) (fun e2 => ?_)
          · walk_at "sts"
            exact out _ hk (by rw [hgo, goodRGo, if_pos (.inr (by simpa using e2))])
          · have hpd : pairD dd = true := by simpa using e2
            obtain ⟨n, c, rfl, hn, hc⟩ := pairD_shape hpd
            have go : goodRGo 0 [] ds = if 12 < (insS ns n).length then some i else goodRGo (i + 1) (insS ns n) (ds.drop (i + 1)) := by
              rw [hgo, goodRGo, if_neg]
              · rfl
              · rintro (h | h)
                · exact e1' (by omega)
                · rw [hpd] at h; cases h
            walk_at "sts"
            refine ⟨p, ns.map entB, Sum.inr n, rfl, hw, rfl, by rw [List.length_map, sizeLine_eq]; omega, ?_⟩
            rw [putD_entB]
            have kp : Keep w (put w' p (.dK ((insS ns n).map entB))) := hk.put np
            walk_at "sts"
            rw [List.length_map]
            refine if_2 (fun e3 => ?_) (fun e3 => ?_)
            · walk_at "sts"
              have e3' := of_decide_eq_true e3
              exact out _ kp (by rw [go, if_pos (by omega)])
            · walk_at "sts"
              have e3' := of_decide_eq_false e3
              exact ⟨insS ns n, _, _, rfl, by omega, kp, put_same, by rw [go, if_neg (by omega)]⟩
      · rintro δ' w' ⟨ns, x, y, rfl, hl, hk, hw, hgo⟩
        walk_at "sts"
        rw [enD_len, List.drop_length] at hgo
        intro xs e
        cases e
        refine ⟨?_, hk⟩
        unfold goodR
        rw [hgo]
        rfl
end
section
variable {P : Program} {wo : World} {K : PySem.W.Frag} {mg : Str → Option Value} {base : Heap}
abbrev s_check_order : Stmt := top 41
theorem sc_check_order : FnScope ["thing", "good"] ["thing"] (defScope s_check_order) := ⟨rfl, rfl, rfl, by decide +kernel, rfl, by decide +kernel, by decide +kernel⟩
theorem bp_check_order : BindP "check_order" s_check_order ["thing"] := fun _ _ _ _ _ _ us hl => match us, hl with | [_], _ => rfl


theorem ok_check_order {ec : Nat → Addr} (T : Tx mg) (d : Dn K mg "check_order" s_check_order) (G : ErG mg ec) (ER_InvalidOrder : ErR P K mg (ec 5) "index" s_InvalidOrder___init__)
    (F_good_runs : Fk P wo K mg base CX0 4 "good_runs" s_good_runs ["things"] (SpD K (fun ds _ => okFineT ds) postRuns zN)) :
    Fk P wo K mg base (L2.CX P wo) 5 "check_order" s_check_order ["thing"] (SpD K preFine (postChkK isOrderD) (zostChkK isOrderD (ec 5) "index" ordAt)) := by
  refine fkX_ok d sc_check_order bp_check_order (fun ds w h => by first | (unfold preFine at h; (repeat (first | (obtain ⟨rfl, _⟩ := h; rfl) | (obtain ⟨_, h⟩ := h))); done) | (unfold preFine at h; split at h <;> first | rfl | exact h.elim) | (dsimp only at h; unfold preFine at h; split at h <;> first | rfl | exact h.elim)) fun f cdv A fr s H E hg hr => ⟨_, (pss_cons (ps_if (pt_not (pt_val (q_isi (K := K) rfl T.b_isinstance rfl (pa_cons (pv 0) (pa_cons (c_tuple T.b_tuple rfl) pa_nil))))) (pss_one (ps_er ER_InvalidOrder (G 5 _ rfl) rfl hr rfl rfl rfl rfl rfl pe_non)) pss_nil) (pss_cons (ps_set (i := 1) sc_check_order.nd rfl (Or.inl rfl) (pe_f F_good_runs hg (hr.mono (by decide)) rfl pass0 (pa_cons (pv 0) pa_nil))) (pss_one (ps_if (pt_cmpR op_lt (pv 1) (q_len (K := K) rfl T.b_len rfl (pa_cons (pv 0) pa_nil)) (nomark _)) (pss_one (ps_er ER_InvalidOrder (G 5 _ rfl) rfl hr rfl rfl rfl rfl rfl (pv 1))) pss_nil)))), fun ds w hp => ?_⟩
  · obtain ⟨d, rfl, hf⟩ := hp
    have hk : kn d := fine_kn hf
    walk_at "sts"
    refine if_2 (fun e => ?_) (fun e => ?_)
    · have e : isiTup d = false := by simpa using e
      walk_at "sts"
      refine ⟨Keep.refl _, rfl, fun d' h => ?_⟩
      cases h
      cases d <;> first | exact ⟨rfl, rfl⟩ | cases e
    · have e : isiTup d = true := by simpa using e
      cases d with
      | tup ds =>
        have hft : okFineT [.tup ds] := fine_tup hf
        walk_at "sts"
        refine ev_call ?_
        walk_at "sts"
        intro r w2 hr2
        obtain ⟨rfl, hkp⟩ := hr2 ds rfl
        have le := goodR_le ds
        walk_at "sts"
        refine if_2 (fun e => ?_) (fun e => ?_)
        · have e := of_decide_eq_true e
          walk_at "sts"
          refine ⟨rfl, fun d' h => ?_⟩
          cases h
          refine ⟨?_, rfl⟩
          show decide (goodR ds = ds.length) = false
          exact decide_eq_false (by omega)
        · have e := of_decide_eq_false e
          walk_at "sts"
          refine ⟨rfl, fun d' h => ?_⟩
          cases h
          show decide (goodR ds = ds.length) = true
          exact decide_eq_true (by omega)
      | _ => cases e
end
section
variable {P : Program} {wo : World} {K : PySem.W.Frag} {mg : Str → Option Value} {base : Heap}
abbrev s_is_order : Stmt := top 42
theorem sc_is_order : FnScope ["thing"] ["thing"] (defScope s_is_order) := ⟨rfl, rfl, rfl, by decide +kernel, rfl, by decide +kernel, by decide +kernel⟩
theorem bp_is_order : BindP "is_order" s_is_order ["thing"] := fun _ _ _ _ _ _ us hl => match us, hl with | [_], _ => rfl

theorem ok_is_order (T : Tx mg) (d : Dn K mg "is_order" s_is_order) (F_good_runs : Fk P wo K mg base CX0 4 "good_runs" s_good_runs ["things"] (SpD K (fun ds _ => okFineT ds) postRuns zN)) :
    Fk P wo K mg base CX0 5 "is_order" s_is_order ["thing"] (SpD K (fun ds _ => okFine ds) (postKeep fIsOrder) zN) := by
  refine fk_ok d sc_is_order bp_is_order (fun ds w h => ?_) fun f cdv A fr s H E hg hr => ⟨_, (pss_one (ps_ret (pe_and (q_isi (K := K) rfl T.b_isinstance rfl (pa_cons (pv 0) (pa_cons (c_tuple T.b_tuple rfl) pa_nil))) (pe_one (pe_cmpR op_eq (pe_f F_good_runs hg (hr.mono (by decide)) rfl pass0 (pa_cons (pv 0) pa_nil)) (q_len (K := K) rfl T.b_len rfl (pa_cons (pv 0) pa_nil)) (nomark _)))))), fun ds w hp => ?_⟩
  · match ds, h with | [_], _ => rfl
  · match ds, hp with
    | [d], hp =>
      replace hp : fine d = true := hp
      have hk : kn d := fine_kn hp
      walk_at "sts"
      cases d with
      | tup ds =>
        have hft : okFineT [.tup ds] := fine_tup hp
        refine if_t rfl ?_
        walk_at "sts"
        refine ev_call ?_
        walk_at "sts"
        intro r w2 hr2
        obtain ⟨rfl, hkp⟩ := hr2 ds rfl
        walk_at "sts"
        refine ⟨?_, hkp⟩
        show D.bl _ = D.bl (decide (goodR ds = ds.length))
        by_cases e : goodR ds = ds.length
        · rw [decide_eq_true e, decide_eq_true (by rw [e])]
        · rw [decide_eq_false e, decide_eq_false (by intro z; exact e (by exact_mod_cast z))]
      | ty _ => cases hk
      | ptr _ => cases hk
      | ins _ _ => cases hk
      | _ =>
        refine if_f rfl ?_
        exact ⟨rfl, Keep.refl _⟩
end
section
variable {P : Program} {wo : World} {K : PySem.W.Frag} {mg : Str → Option Value} {base : Heap}
abbrev s_arrivals_of : Stmt := top 43
theorem sc_arrivals_of : FnScope ["order"] ["order"] (defScope s_arrivals_of) := ⟨rfl, rfl, rfl, by decide +kernel, rfl, by decide +kernel, by decide +kernel⟩
theorem bp_arrivals_of : BindP "arrivals_of" s_arrivals_of ["order"] := fun _ _ _ _ _ _ us hl => match us, hl with | [_], _ => rfl


theorem ok_arrivals_of {ec : Nat → Addr} (T : Tx mg) (d : Dn K mg "arrivals_of" s_arrivals_of)
    (F_check_order : Fk P wo K mg base (L2.CX P wo) 5 "check_order" s_check_order ["thing"] (SpD K preFine (postChkK isOrderD) (zostChkK isOrderD (ec 5) "index" ordAt)))
    (F_summed : Fk P wo K mg base CX0 1 "summed" s_summed ["pairs"] (SpD K okSum postSum zN)) :
    Fk P wo K mg base (L2.CX P wo) 6 "arrivals_of" s_arrivals_of ["order"] (SpD K preFine (postOkK isOrderD) (zostChkK isOrderD (ec 5) "index" ordAt)) := by
  refine fkX_ok d sc_arrivals_of bp_arrivals_of (fun ds w h => by first | (unfold preFine at h; (repeat (first | (obtain ⟨rfl, _⟩ := h; rfl) | (obtain ⟨_, h⟩ := h))); done) | (unfold preFine at h; split at h <;> first | rfl | exact h.elim) | (dsimp only at h; unfold preFine at h; split at h <;> first | rfl | exact h.elim)) fun f cdv A fr s H E hg hr => ⟨_, (pss_cons (ps_expr (pe_f F_check_order hg (hr.mono (by decide)) rfl (passX rfl rfl rfl rfl) (pa_cons (pv 0) pa_nil))) (pss_one (ps_ret (pe_f F_summed hg (hr.mono (by decide)) rfl pass0 (pa_cons (pv 0) pa_nil))))), fun ds w hp => ?_⟩
  · obtain ⟨d, rfl, hf⟩ := hp
    walk_at "sts"
    refine ev_callX ?_
    walk_at "sts"
    refine ⟨⟨d, rfl, hf⟩, ?_, ?_⟩
    · rintro _ w2 ⟨k2, rfl, hok⟩
      have hok := hok d rfl
      cases d with
      | tup xs =>
        have ho : goodR xs = xs.length := of_decide_eq_true hok
        walk_at "sts"
        refine ev_call ?_
        walk_at "sts"
        refine ⟨ord_sum ho _, ?_⟩
        intro r w3 h3
        obtain ⟨k3, ys, rfl, hy⟩ := h3 xs rfl
        refine ⟨k2.trans k3, fun d e => ?_⟩
        cases e
        exact hok
      | _ => cases hok
    · rintro c fs w2 h
      exact h
end
section
variable {P : Program} {wo : World} {K : PySem.W.Frag} {mg : Str → Option Value} {base : Heap}
abbrev s_shortened : Stmt := top 44
theorem sc_shortened : FnScope ["order", "runs", "name", "times"] ["order"] (defScope s_shortened) := ⟨rfl, rfl, rfl, by decide +kernel, rfl, by decide +kernel, by decide +kernel⟩
theorem bp_shortened : BindP "shortened" s_shortened ["order"] := fun _ _ _ _ _ _ us hl => match us, hl with | [_], _ => rfl


theorem ok_shortened {ec : Nat → Addr} (T : Tx mg) (d : Dn K mg "shortened" s_shortened)
    (F_check_order : Fk P wo K mg base (L2.CX P wo) 5 "check_order" s_check_order ["thing"] (SpD K preFine (postChkK isOrderD) (zostChkK isOrderD (ec 5) "index" ordAt))) :
    Fk P wo K mg base (L2.CX P wo) 6 "shortened" s_shortened ["order"] (SpD K preFine (postOkK isOrderD) (zostChkK isOrderD (ec 5) "index" ordAt)) := by
  refine fkX_ok d sc_shortened bp_shortened (fun ds w h => by first | (unfold preFine at h; (repeat (first | (obtain ⟨rfl, _⟩ := h; rfl) | (obtain ⟨_, h⟩ := h))); done) | (unfold preFine at h; split at h <;> first | rfl | exact h.elim) | (dsimp only at h; unfold preFine at h; split at h <;> first | rfl | exact h.elim)) fun f cdv A fr s H E hg hr => ⟨_, (pss_cons (ps_expr (pe_f F_check_order hg (hr.mono (by decide)) rfl (passX rfl rfl rfl rfl) (pa_cons (pv 0) pa_nil))) (pss_cons (ps_set (i := 1) sc_shortened.nd rfl (Or.inl rfl) (pe_lst pa_nil)) (pss_cons (ps_for (passes_of rfl) rfl (qi_tup (K := K) rfl (pv 0)) (qg_tup (K := K) (n := 2) rfl rfl (pgs_cons (pg_name (i := 2) sc_shortened.nd rfl (Or.inl rfl) (hf := Or.inl rfl)) (pgs_cons (pg_name (i := 3) sc_shortened.nd rfl (Or.inl rfl) (hf := Or.inl rfl)) pgs_nil)) rfl) (pss_one (ps_if (PW.pt (pw_and (qt_tru (K := K) rfl (pv 1)) (pw_and1 (pt_cmpR op_eq (pe_ix (qx_tup (K := K) rfl) (pe_ix (qx_list (K := K) rfl) (pv 1) (pe_un un_neg pe_int) (fun _ _ => rfl)) pe_int (fun _ _ => rfl)) (pv 2) (nomark _))))) (pss_one (ps_asg (pe_tup (pa_cons (pv 2) (pa_cons (pe_op op_add (pe_ix (qx_tup (K := K) rfl) (pe_ix (qx_list (K := K) rfl) (pv 1) (pe_un un_neg pe_int) (fun _ _ => rfl)) pe_int (fun _ _ => rfl)) (pv 3)) pa_nil))) (pg_sub (pv 1) (pe_un un_neg pe_int) set_list))) (pss_one (ps_expr (q_bm (K := K) rfl PySem.F.plainAttrs_list PySem.F.slot_list_append PySem.F.type_list_append mt_append (pv 1) (pa_cons (pe_tup (pa_cons (pv 2) (pa_cons (pv 3) pa_nil))) pa_nil))))))) (pss_one (ps_ret (q_tuple (K := K) rfl T.b_tuple rfl (pa_cons (pv 1) pa_nil))))))), fun ds w hp => ?_⟩
  · obtain ⟨d, rfl, hf⟩ := hp
    walk_at "stn"
    refine ev_callX ?_
    walk_at "stn"
    refine ⟨⟨d, rfl, hf⟩, ?_, ?_⟩
    · rintro _ w0 ⟨k0, rfl, hok⟩
      have hok := hok d rfl
      cases d with
      | tup xs =>
        have h2 : goodR xs = xs.length := of_decide_eq_true hok
        have hx := ord_pairs h2
        have hxl := ord_len h2
        walk_at "stn"
        refine ev_lstOwn ?_
        walk_at "stn"
        intro p np
        walk_at "stn"
        refine sd_for (ei_tupT ?_)
        walk_at "stn"
        refine ⟨fun i δ' w' => ∃ x y : Option D, δ' = [some (.tup xs), some (.ptr p), x, y] ∧ Keep w0 w' ∧ w' p = some (.lst ((joinS ((prsOf xs).take i)).map DL.prD)), ⟨_, _, rfl, (Keep.refl w0).put np, put_same⟩, ?_, ?_⟩
        · rintro i e δ' w' he ⟨x, y, rfl, hk, hw⟩
          obtain ⟨n, c, rfl, hnm, hc, hpr⟩ := prs_ent hx he
          have hlen : (joinS ((prsOf xs).take i)).length ≤ 1000 := by
            have h3 := foldJ_len ((prsOf xs).take i) []
            have h4 : ((prsOf xs).take i).length ≤ 1000 := by
              rw [List.length_take]
              have : (prsOf xs).length = xs.length := List.length_map ..
              omega
            have h5 : (joinS ((prsOf xs).take i)).length ≤ 0 + ((prsOf xs).take i).length := h3
            omega
          walk_at "stn"
          have app : addJ (joinS ((prsOf xs).take i)) (n, c) = joinS ((prsOf xs).take i) ++ [(n, c)] → OpM K rAppend (.ptr p) [.tup [.str n, .int c]] w' fun _ w3 => ∃ x y : Option D, [some (.tup xs), some (.ptr p), some (.str n), some (.int c)] = [some (.tup xs), some (.ptr p), x, y] ∧ Keep w0 w3 ∧ w3 p = some (.lst ((joinS ((prsOf xs).take (i + 1))).map DL.prD)) := fun hj => by
            refine om_app hw (by rw [List.length_map, sizeLine_eq]; omega) ?_
            refine ⟨_, _, rfl, hk.put np, ?_⟩
            rw [put_same, join_take hpr, hj, List.map_append]
            rfl
          have tr : truD w' (.ptr p) = some (!((joinS ((prsOf xs).take i)).map DL.prD).isEmpty) := by
            show (match w' p with | some (.lst ds) => some (!ds.isEmpty) | _ => none) = _
            rw [hw]
          refine ⟨_, tr, ?_⟩
          cases hlast : (joinS ((prsOf xs).take i)).getLast? with
          | none =>
            have e0 : joinS ((prsOf xs).take i) = [] := List.getLast?_eq_none_iff.mp hlast
            rw [e0]
            refine if_f rfl ?_
            rw [if_neg (by decide)]
            walk_at "stn"
            refine ⟨ty_lstO hw, ?_⟩
            walk_at "stn"
            exact app (addJ_new fun l hl => by rw [hlast] at hl; cases hl)
          | some l =>
            obtain ⟨m, k⟩ := l
            have hat : atI ((joinS ((prsOf xs).take i)).map DL.prD) (-1) = some (DL.prD (m, k)) := (at_last (by rw [List.getLast?_map, hlast]; rfl)).1
            have hix : ixN ((joinS ((prsOf xs).take i)).map DL.prD).length (-1) = some ((joinS ((prsOf xs).take i)).length - 1) := by
              have := (at_last hlast).2
              rw [List.length_map]
              exact this
            have ne : joinS ((prsOf xs).take i) ≠ [] := fun z => by rw [z] at hlast; cases hlast
            refine if_t (by cases q : joinS ((prsOf xs).take i) with | nil => exact absurd q ne | cons a r => rfl) ?_
            walk_at "stn"
            refine o2_ixLo hw hat ?_
            walk_at "stn"
            refine if_2 (fun e1 => ?_) (fun e1 => ?_)
            · have emn : m = n := of_decide_eq_true e1
              subst emn
              walk_at "stn"
              refine o2_ixLo hw hat ?_
              walk_at "stn"
              refine ⟨p, _, _, _, rfl, rfl, hw, hix, ?_⟩
              refine ⟨_, _, rfl, hk.put np, ?_⟩
              rw [put_same, join_take hpr, addJ_old hlast, List.map_append]
              exact congrArg (fun z => some (Cl.lst z)) (set_last ne)
            · walk_at "stn"
              refine ⟨ty_lstO hw, ?_⟩
              walk_at "stn"
              exact app (addJ_new fun l hl => by rw [hlast] at hl; cases hl; exact of_decide_eq_false e1)
        · rintro δ' w' ⟨x, y, rfl, hk, hw⟩
          have hln : (prsOf xs).length = xs.length := List.length_map ..
          rw [← hln, List.take_length] at hw
          walk_at "stn"
          exact ⟨k0.trans hk, fun d e => by cases e; exact hok⟩
      | _ => cases hok
    · rintro c fs w2 h
      exact h
end
section
variable {P : Program} {wo : World} {K : PySem.W.Frag} {mg : Str → Option Value} {base : Heap}
abbrev s_format_run : Stmt := top 45
theorem sc_format_run : FnScope ["name", "times"] ["name", "times"] (defScope s_format_run) := ⟨rfl, rfl, rfl, by decide +kernel, rfl, by decide +kernel, by decide +kernel⟩
theorem bp_format_run : BindP "format_run" s_format_run ["name", "times"] := fun _ _ _ _ _ _ us hl => match us, hl with | [_, _], _ => rfl


theorem ok_format_run (T : Tx mg) (d : Dn K mg "format_run" s_format_run)
    (F_format_number : Fk P wo K mg base CX0 1 "format_number" s_format_number ["number"] (SpD K preFN postFN zN)) :
    Fk P wo K mg base CX0 2 "format_run" s_format_run ["name", "times"] (SpD K preRun1 postRun1 zN) := by
  refine fk_ok d sc_format_run bp_format_run (fun ds w h => by first | (unfold preRun1 at h; (repeat (first | (obtain ⟨rfl, _⟩ := h; rfl) | (obtain ⟨_, h⟩ := h))); done) | (unfold preRun1 at h; split at h <;> first | rfl | exact h.elim) | (dsimp only at h; unfold preRun1 at h; split at h <;> first | rfl | exact h.elim)) fun f cdv A fr s H E hg hr => ⟨_, (pss_cons (ps_if (pt_cmpR op_eq (pv 1) pe_int (nomark _)) (pss_one (ps_ret (pv 0))) pss_nil) (pss_one (ps_ret (pe_op op_add_str (pe_op op_add_str (pv 0) pe_str) (pe_f F_format_number hg (hr.mono (by decide)) rfl pass0 (pa_cons (pv 1) pa_nil)))))), fun ds w hp => ?_⟩
  · obtain ⟨n, c, rfl, hn, h1, h2⟩ := hp
    walk_at "sts"
    refine if_2 (fun e => ?_) (fun e => ?_)
    · walk_at "sts"
      exact ⟨Keep.refl _, _, rfl, by omega⟩
    · have hs : (Str.ofString "*").length = 1 := by decide +kernel
      walk_at "sts"
      refine o2_catS (by rw [hs, sizeLine_eq]; omega) ?_
      refine ev_call ?_
      walk_at "sts"
      refine ⟨⟨c, rfl, by omega, h2⟩, ?_⟩
      rintro dd w3 ⟨k3, h3⟩
      have h3 := h3 c rfl
      subst h3
      have hcl := num_len (n := c) (by omega) h2
      refine o2_catS (by rw [Str.length_append, hs, sizeLine_eq]; omega) ?_
      exact ⟨k3, _, rfl, by rw [Str.length_append, Str.length_append, hs]; omega⟩
end
section
variable {P : Program} {wo : World} {K : PySem.W.Frag} {mg : Str → Option Value} {base : Heap}
abbrev s_format_order : Stmt := top 47
theorem sc_format_order : FnScope ["order", "name", "times"] ["order"] (defScope s_format_order) := ⟨rfl, rfl, rfl, by decide +kernel, rfl, by decide +kernel, by decide +kernel⟩
theorem bp_format_order : BindP "format_order" s_format_order ["order"] := fun _ _ _ _ _ _ us hl => match us, hl with | [_], _ => rfl


theorem ok_format_order {ec : Nat → Addr} (T : Tx mg) (d : Dn K mg "format_order" s_format_order)
    (F_check_order : Fk P wo K mg base (L2.CX P wo) 5 "check_order" s_check_order ["thing"] (SpD K preFine (postChkK isOrderD) (zostChkK isOrderD (ec 5) "index" ordAt)))
    (F_format_run : Fk P wo K mg base CX0 2 "format_run" s_format_run ["name", "times"] (SpD K preRun1 postRun1 zN)) :
    Fk P wo K mg base (L2.CX P wo) 6 "format_order" s_format_order ["order"] (SpD K preFO (postOkK isOrderD) (zostChkK isOrderD (ec 5) "index" ordAt)) := by
  refine fkX_ok d sc_format_order bp_format_order (fun ds w h => by first | (unfold preFO at h; (repeat (first | (obtain ⟨rfl, _⟩ := h; rfl) | (obtain ⟨_, h⟩ := h))); done) | (unfold preFO at h; split at h <;> first | rfl | exact h.elim) | (dsimp only at h; unfold preFO at h; split at h <;> first | rfl | exact h.elim)) fun f cdv A fr s H E hg hr => ⟨_, (pss_cons (ps_expr (pe_f F_check_order hg (hr.mono (by decide)) rfl (passX rfl rfl rfl rfl) (pa_cons (pv 0) pa_nil))) (pss_cons (ps_if (pt_not (qt_tru (K := K) rfl (pv 0))) (pss_one (ps_ret pe_str)) pss_nil) (pss_one (ps_ret (q_join (K := K) rfl pe_str (pe_lc (own := [("name", 1), ("times", 2)]) rfl sc_format_order.nd (qi_tup (K := K) rfl (pv 0)) (blkOk_by (N := ["order", "name", "times"]) (sc := defScope s_format_order) (by decide +kernel)) (fun _ _ _ _ _ => (qg_tup (K := K) (n := 2) rfl rfl (pgs_cons (pg_name (i := 1) sc_format_order.nd rfl (Or.inl rfl) (hf := Or.inr rfl)) (pgs_cons (pg_name (i := 2) sc_format_order.nd rfl (Or.inl rfl) (hf := Or.inr rfl)) pgs_nil)) rfl)) (fun _ _ _ _ _ => pts_nil) (fun _ _ _ _ _ => (pe_f F_format_run hg (hr.mono (by decide)) rfl pass0 (pa_cons (pv 1) (pa_cons (pv 2) pa_nil)))))))))), fun ds w hp => ?_⟩
  · obtain ⟨d, rfl, hf, hm⟩ := hp
    walk_at "sts"
    refine ev_callX ?_
    walk_at "sts"
    refine ⟨⟨d, rfl, hf⟩, ?_, ?_⟩
    · rintro _ w0 ⟨k0, rfl, hok⟩
      have hok := hok d rfl
      cases d with
      | tup xs =>
        have h2 : goodR xs = xs.length := of_decide_eq_true hok
        have hx := ord_pairs h2
        have hxl := ord_len h2
        have hm := hm xs rfl
        walk_at "sts"
        refine if_2 (fun e5 => ?_) (fun e5 => ?_)
        · walk_at "sts"
          exact fun d e => by cases e; exact hok
        · have hsp : (Str.ofString " ").length = 1 := by decide +kernel
          walk_at "sts"
          refine ev_m1 ?_
          walk_at "sts"
          refine ⟨⟨_, rfl⟩, ?_⟩
          refine ev_lc (gl_tup (gls_cons (gl_name (by decide)) (gls_cons (gl_name (by decide)) gls_nil))) (ei_tupT ?_)
          walk_at "sts"
          intro l hl
          refine ⟨fun i acc w' => ∃ ys : List Str, acc = ys.map D.str ∧ ys.length = i ∧ (∀ y ∈ ys, y.length ≤ 3000) ∧ w' l = some (.lst acc) ∧ Keep w0 w', ⟨[], rfl, rfl, nofun, put_same, (Keep.refl w0).put hl⟩, ?_, ?_⟩
          · rintro i e acc w' he hacc ⟨ys, rfl, hyl, hy, _, hkp⟩
            have hi := (List.getElem?_eq_some_iff.mp he).1
            have hpd := hx e (List.mem_of_getElem? he)
            have hce := hm e (List.mem_of_getElem? he)
            obtain ⟨nm, cv, rfl, hnm, hcv⟩ := pairD_shape hpd
            have hnl : nm.length ≤ 8 := nameS_len hnm
            walk_at "sts"
            refine et_yes ?_
            rw [if_pos rfl]
            refine ev_call ?_
            walk_at "sts"
            refine ⟨⟨nm, cv, rfl, hnl, hcv, hce⟩, ?_⟩
            rintro dd w3 ⟨k3, s, rfl, hs⟩
            have hl3 : w3 l = w' l := k3 l (by rw [hacc]; simp)
            refine ⟨by rw [hl3, hacc], by rw [List.length_map, sizeLine_eq]; omega, ⟨ys ++ [s], by rw [List.map_append]; rfl, by rw [List.length_append, hyl]; rfl, fun y hy' => ?_, put_same, (hkp.trans k3).put hl⟩⟩
            rcases List.mem_append.mp hy' with h | h
            · exact hy y h
            · rw [List.mem_singleton.mp h]; exact hs
          · rintro acc w' hacc ⟨ys, rfl, hyl, hy, _, hkp⟩
            refine om_join ?_ ?_
            · have h2 := sum_lens (n := 3000) ys fun y hy' => hy y hy'
              rw [hsp]
              omega
            · exact ⟨k0.trans (keep_cut hkp hl), fun d e => by cases e; exact hok⟩
      | _ => cases hok
    · rintro c fs w2 h
      exact h
end
section
variable {P : Program} {wo : World} {K : PySem.W.Frag} {mg : Str → Option Value} {base : Heap}
abbrev s_parse_order : Stmt := top 48
theorem sc_parse_order : FnScope ["text", "order", "word"] ["text"] (defScope s_parse_order) := ⟨rfl, rfl, rfl, by decide +kernel, rfl, by decide +kernel, by decide +kernel⟩
theorem bp_parse_order : BindP "parse_order" s_parse_order ["text"] := fun _ _ _ _ _ _ us hl => match us, hl with | [_], _ => rfl


theorem ok_parse_order {ec : Nat → Addr} (T : Tx mg) (d : Dn K mg "parse_order" s_parse_order) (G : ErG mg ec) (ER_InvalidText : ErR P K mg (ec 7) "text" s_InvalidText___init__) :
    Fk P wo K mg base (L2.CX P wo) 1 "parse_order" s_parse_order ["text"] (SpD K prePO postNo (zostPO (ec 7))) := by
  refine fkX_ok d sc_parse_order bp_parse_order (fun ds w h => by first | (unfold prePO at h; (repeat (first | (obtain ⟨rfl, _⟩ := h; rfl) | (obtain ⟨_, h⟩ := h))); done) | (unfold prePO at h; split at h <;> first | rfl | exact h.elim) | (dsimp only at h; unfold prePO at h; split at h <;> first | rfl | exact h.elim)) fun f cdv A fr s H E hg hr => ⟨_, (pss_cons (ps_if (pt_not (pt_val (q_isi (K := K) rfl T.b_isinstance rfl (pa_cons (pv 0) (pa_cons (c_str T.b_str rfl) pa_nil))))) (pss_one (ps_er ER_InvalidText (G 7 _ rfl) rfl hr rfl rfl rfl rfl rfl (pv 0))) pss_nil) pss_never), fun ds w hp => ?_⟩
  · obtain ⟨d, rfl, hk, hs⟩ := hp
    walk_at "sts"
    refine if_t (by rw [hs]; rfl) ?_
    walk_at "sts"
    exact ⟨rfl, rfl, fun d' h => by cases h; rfl⟩
end
section
variable {P : Program} {wo : World} {K : PySem.W.Frag} {mg : Str → Option Value} {base : Heap}
abbrev s__law_cell : Stmt := top 50
theorem sc__law_cell : FnScope ["_law_script", "_law_k", "_law_state", "_law_cell_here"] ["_law_script", "_law_k"] (defScope s__law_cell) := ⟨rfl, rfl, rfl, by decide +kernel, rfl, by decide +kernel, by decide +kernel⟩
theorem bp__law_cell : BindP "_law_cell" s__law_cell ["_law_script", "_law_k"] := fun _ _ _ _ _ _ us hl => match us, hl with | [_, _], _ => rfl

theorem ok__law_cell (T : Tx mg) (d : Dn K mg "_law_cell" s__law_cell) : Fk P wo K mg base CX0 1 "_law_cell" s__law_cell ["_law_script", "_law_k"] (SpD K (preCell K) postInt zN) := by
  refine fk_ok d sc__law_cell bp__law_cell (fun ds w h => ?_) fun f cdv A fr s H E hg hr => ⟨_, (pss_cons (ps_if (pt_cmpR op_lt (pv 1) (q_len (K := K) rfl T.b_len rfl (pa_cons (pv 0) pa_nil)) (nomark _)) (pss_one (ps_ret (pe_ix (qx_list (K := K) rfl) (pv 0) (pv 1) (fun _ _ => rfl)))) pss_nil) (pss_cons (ps_set (i := 2) sc__law_cell.nd rfl (Or.inl rfl) (pe_op op_mod (pe_op op_mul pe_int (pe_op op_add (pe_op op_add (pe_op op_mul (pv 1) (pv 1)) (pe_op op_mul pe_int (pv 1))) pe_int)) pe_int)) (pss_cons (ps_for PassesOwn.never rfl (qi_list (K := K) rfl (pe_slice (qs_list (K := K) rfl) (pv 0) po_none (po_some pe_int))) (pg_name (i := 3) sc__law_cell.nd rfl (Or.inl rfl) (hf := Or.inl rfl)) (pss_one (ps_set (i := 2) sc__law_cell.nd rfl (Or.inl rfl) (pe_op op_mod (pe_op op_add (pe_op op_mul (pv 2) pe_int) (pv 3)) pe_int)))) (pss_one (ps_ret (pv 2)))))), fun ds w hp => ?_⟩
  · obtain ⟨a, ns, k, rfl, _⟩ := h; rfl
  · obtain ⟨a, ns, k, rfl, hk, hn, hS⟩ := hp
    walk_at "sts"
    refine ol_lenK hS ?_
    walk_at "sts"
    refine if_2 (fun e => ?_) (fun e => ?_)
    · have hkl : k < ns.length := by
        have := of_decide_eq_true e
        omega
      have hat : atI ns (k : Int) = some ns[k] := by
        unfold atI ixN
        rw [if_pos (Int.natCast_nonneg k), if_pos (by omega)]
        simp [hkl]
      walk_at "sts"
      refine o2_ixK hS hat ?_
      exact ⟨rfl, _, rfl⟩
    · walk_at "sts"
      refine sd_for (ei_lst ?_)
      walk_at "sts"
      refine os_K hS ?_
      walk_at "sts"
      refine ⟨fun i δ' w' => w' = w ∧ ∃ (z : Int) (x : Option D), δ' = [some (.ptr a), some (.int k), some (.int z), x], ⟨rfl, _, _, rfl⟩, ?_, ?_⟩
      · rintro i e δ' w' he ⟨rfl, z, x, rfl⟩
        rw [List.getElem?_map] at he
        obtain ⟨y, hy, rfl⟩ := Option.map_eq_some_iff.mp he
        walk_at "sts"
        exact ⟨rfl, _, _, rfl⟩
      · rintro δ' w' ⟨rfl, z, x, rfl⟩
        walk_at "sts"
        exact ⟨rfl, _, rfl⟩
end
section
variable {P : Program} {wo : World} {K : PySem.W.Frag} {mg : Str → Option Value} {base : Heap}
abbrev s__law_pool : Stmt := top 51
theorem sc__law_pool : FnScope ["_law_cell_here", "_law_digits"] ["_law_cell_here"] (defScope s__law_pool) := ⟨rfl, rfl, rfl, by decide +kernel, rfl, by decide +kernel, by decide +kernel⟩
theorem bp__law_pool : BindP "_law_pool" s__law_pool ["_law_cell_here"] := fun _ _ _ _ _ _ us hl => match us, hl with | [_], _ => rfl

theorem ok__law_pool (T : Tx mg) (d : Dn K mg "_law_pool" s__law_pool) : Fk P wo K mg base CX0 1 "_law_pool" s__law_pool ["_law_cell_here"] (SpD K preInt postPool zN) := by
  refine fk_ok d sc__law_pool bp__law_pool (fun ds w h => ?_) fun f cdv A fr s H E hg hr => ⟨_, (pss_cons (ps_set (i := 1) sc__law_pool.nd rfl (Or.inl rfl) pe_int) (pss_cons (ps_if (PW.pt (pw_or (pt_cmpR op_lt (pv 0) pe_int (nomark _)) (pw_or1 (pt_cmpR op_ge (pv 0) (pe_op op_pow pe_int pe_int) (nomark _))))) (pss_one (ps_set (i := 1) sc__law_pool.nd rfl (Or.inl rfl) (b_abs T.b_abs rfl (pa_cons (pv 0) pa_nil)))) pss_nil) (pss_one (ps_ret (pe_lst (pa_cons (pe_op op_mod (pv 0) pe_int) (pa_cons (pv 1) (pa_cons pe_int pa_nil)))))))), fun ds w hp => ?_⟩
  · obtain ⟨i, rfl⟩ := h; rfl
  · obtain ⟨i, rfl⟩ := hp
    have fin : ∀ j : Int, 0 ≤ j → Ev K E0 (tLst (tCons (tOp (rI (fun x j => 0 < j) fun i j => V.int (i % j)) (tVar 0) (tC (V.int 1000000007))) (tCons (tVar 1) (tCons (tC (V.int 0)) tNil)))) [some (.int i), some (.int j)] w (endD postPool zN [D.int i] w).rt (endD postPool zN [D.int i] w).rz := fun j hj => by
      refine ev_lstOwn ?_
      walk_at "stn"
      exact fun p hp => ⟨p, hp, rfl, _, _, _, rfl, Int.emod_nonneg _ (by decide), Int.emod_lt_of_pos _ (by decide), hj⟩
    walk_at "stn"
    have abs0 : (0 : Int) ≤ (if i < 0 then -i else i) := by split <;> omega
    refine if_2 (fun e => if_t rfl ?_) (fun e => ?_)
    · walk_at "stn"
      exact fin _ abs0
    · walk_at "stn"
      refine if_2 (fun e2 => ?_) (fun e2 => ?_)
      · walk_at "stn"
        exact fin _ abs0
      · walk_at "stn"
        exact fin 0 (Int.le_refl 0)
end
section
variable {P : Program} {wo : World} {K : PySem.W.Frag} {mg : Str → Option Value} {base : Heap}
abbrev s__law_draw : Stmt := top 52
theorem sc__law_draw : FnScope ["_law_pool_here", "_law_many", "_law_state", "_law_digit"] ["_law_pool_here", "_law_many"] (defScope s__law_draw) := ⟨rfl, rfl, rfl, by decide +kernel, rfl, by decide +kernel, by decide +kernel⟩
theorem bp__law_draw : BindP "_law_draw" s__law_draw ["_law_pool_here", "_law_many"] := fun _ _ _ _ _ _ us hl => match us, hl with | [_, _], _ => rfl

theorem ok__law_draw (T : Tx mg) (d : Dn K mg "_law_draw" s__law_draw) : Fk P wo K mg base CX0 1 "_law_draw" s__law_draw ["_law_pool_here", "_law_many"] (SpD K preDraw postDraw zN) := by
  refine fk_ok d sc__law_draw bp__law_draw (fun ds w h => ?_) fun f cdv A fr s H E hg hr => ⟨_, (pss_cons (ps_asg (pe_op op_add (pe_ix (qx_list (K := K) rfl) (pv 0) pe_int (fun _ _ => rfl)) pe_int) (pg_sub (pv 0) pe_int set_list)) (pss_cons (ps_set (i := 2) sc__law_draw.nd rfl (Or.inl rfl) (pe_ix (qx_list (K := K) rfl) (pv 0) pe_int (fun _ _ => rfl))) (pss_cons (ps_asg (pe_op op_mod (b_int T.b_int rfl (pa_cons (pe_op op_add (pe_op op_add (pe_op op_mul (pv 2) (pe_op op_add (pe_op op_mod (b_int T.b_int rfl (pa_cons (pv 2) pa_nil)) pe_int) pe_int)) (pe_op op_mul pe_int (pe_ix (qx_list (K := K) rfl) (pv 0) pe_int (fun _ _ => rfl)))) pe_int) pa_nil)) pe_int) (pg_sub (pv 0) pe_int set_list)) (pss_cons (ps_if (pt_cmpR op_gt (pe_ix (qx_list (K := K) rfl) (pv 0) pe_int (fun _ _ => rfl)) pe_int (nomark _)) (pss_cons (ps_asg (b_divmod T.b_divmod rfl (pa_cons (pe_ix (qx_list (K := K) rfl) (pv 0) pe_int (fun _ _ => rfl)) (pa_cons (pv 1) pa_nil))) (qg_tup (K := K) (n := 2) rfl rfl (pgs_cons (pg_sub (pv 0) pe_int set_list) (pgs_cons (pg_name (i := 3) sc__law_draw.nd rfl (Or.inl rfl) (hf := Or.inl rfl)) pgs_nil)) rfl)) (pss_one (ps_ret (pv 3)))) pss_nil) (pss_one (ps_ret (pe_op op_mod (pe_op op_fdiv (pe_ix (qx_list (K := K) rfl) (pv 0) pe_int (fun _ _ => rfl)) pe_int) (pv 1)))))))), fun ds w hp => ?_⟩
  · obtain ⟨p, n, rfl, _⟩ := h; rfl
  · obtain ⟨p, n, rfl, hn, hl, hP⟩ := hp
    obtain ⟨a, b, c, hw, ha, ha2, hb⟩ := hP.at
    walk_at "stn"
    have hA0 := Int.emod_nonneg (a * (a % 46007 + 20011) + 60013 * (c + 1) + 5) (b := 1000000007) (by decide)
    have hA1 := Int.emod_lt_of_pos (a * (a % 46007 + 20011) + 60013 * (c + 1) + 5) (b := 1000000007) (by decide)
    refine if_2 (fun e => ?_) (fun e => ?_)
    · walk_at "stn"
      refine ol_divmodW ⟨hn, PyProof.noPylong_of_log2 hl⟩ ?_
      walk_at "stn"
      intro p' n' e'
      cases e'
      exact ⟨⟨_, b / n, c + 1, by rw [put_put, put_put]; rfl, hA0, hA1, Int.ediv_nonneg hb (Int.le_of_lt hn)⟩, _, rfl, Int.emod_nonneg _ (Int.ne_of_gt hn), Int.emod_lt_of_pos _ hn⟩
    · walk_at "stn"
      refine o2_I hn ?_
      intro p' n' e'
      cases e'
      exact ⟨⟨_, b, c + 1, by rw [put_put]; rfl, hA0, hA1, hb⟩, _, rfl, Int.emod_nonneg _ (Int.ne_of_gt hn), Int.emod_lt_of_pos _ hn⟩
end
section
variable {P : Program} {wo : World} {K : PySem.W.Frag} {mg : Str → Option Value} {base : Heap}
abbrev s__law_words : Stmt := top 53
theorem sc__law_words : FnScope ["_law_pool_here", "_law_many", "_law_letters", "_law_menu", "_law_way", "_law_begin", "_law_k", "_law_stem", "_law_at"] ["_law_pool_here", "_law_many"] (defScope s__law_words) := ⟨rfl, rfl, rfl, by decide +kernel, rfl, by decide +kernel, by decide +kernel⟩
theorem bp__law_words : BindP "_law_words" s__law_words ["_law_pool_here", "_law_many"] := fun _ _ _ _ _ _ us hl => match us, hl with | [_, _], _ => rfl

theorem ok__law_words (T : Tx mg) (d : Dn K mg "_law_words" s__law_words) (F__law_draw : Fk P wo K mg base CX0 1 "_law_draw" s__law_draw ["_law_pool_here", "_law_many"] (SpD K preDraw postDraw zN)) :
    Fk P wo K mg base CX0 2 "_law_words" s__law_words ["_law_pool_here", "_law_many"] (SpD K preWords postWords zN) := by
  refine fk_ok d sc__law_words bp__law_words (fun ds w h => ?_) fun f cdv A fr s H E hg hr => ⟨_, (pss_cons (ps_set (i := 2) sc__law_words.nd rfl (Or.inr rfl) pe_str) (pss_cons (ps_set (i := 3) sc__law_words.nd rfl (Or.inr rfl) (pe_lst (pa_cons pe_str (pa_cons pe_str (pa_cons pe_str (pa_cons pe_str (pa_cons pe_str (pa_cons pe_str (pa_cons pe_str (pa_cons pe_str (pa_cons pe_str (pa_cons pe_str (pa_cons pe_str (pa_cons pe_str (pa_cons pe_str (pa_cons pe_str (pa_cons pe_str pa_nil))))))))))))))))) (pss_cons (ps_asg (pe_tup (pa_cons (pe_f F__law_draw hg (hr.mono (by decide)) rfl pass0 (pa_cons (pv 0) (pa_cons pe_int pa_nil))) (pa_cons (pe_f F__law_draw hg (hr.mono (by decide)) rfl pass0 (pa_cons (pv 0) (pa_cons pe_int pa_nil))) pa_nil))) (qg_tup (K := K) (n := 2) rfl rfl (pgs_cons (pg_name (i := 4) sc__law_words.nd rfl (Or.inl rfl) (hf := Or.inl rfl)) (pgs_cons (pg_name (i := 5) sc__law_words.nd rfl (Or.inr rfl) (hf := Or.inl rfl)) pgs_nil)) rfl)) (pss_cons (ps_if (pt_cmpR op_eq (pv 4) pe_int (nomark _)) (pss_one (ps_ret (pe_lc (own := [("_law_k", 6)]) rfl sc__law_words.nd (pi_range1 rfl T.b_range (pa_cons (pv 1) pa_nil)) (blkOk_by (N := ["_law_pool_here", "_law_many", "_law_letters", "_law_menu", "_law_way", "_law_begin", "_law_k", "_law_stem", "_law_at"]) (sc := defScope s__law_words) (by decide +kernel)) (fun _ _ _ _ _ => (pg_name (i := 6) sc__law_words.nd rfl (Or.inl rfl) (hf := Or.inr rfl))) (fun _ _ _ _ _ => pts_nil) (fun _ _ _ _ _ => (pe_ix (qx_list (K := K) rfl) (pv 3) (pe_op op_mod (pe_op op_add (pv 5) (pe_op op_mul pe_int (pv 6))) pe_int) (fun _ _ => rfl)))))) pss_nil) (pss_cons (ps_if (pt_cmpR op_eq (pv 4) pe_int (nomark _)) (pss_one (ps_ret (pe_lc (own := [("_law_k", 6)]) rfl sc__law_words.nd (pi_range1 rfl T.b_range (pa_cons (pv 1) pa_nil)) (blkOk_by (N := ["_law_pool_here", "_law_many", "_law_letters", "_law_menu", "_law_way", "_law_begin", "_law_k", "_law_stem", "_law_at"]) (sc := defScope s__law_words) (by decide +kernel)) (fun _ _ _ _ _ => (pg_name (i := 6) sc__law_words.nd rfl (Or.inl rfl) (hf := Or.inr rfl))) (fun _ _ _ _ _ => pts_nil) (fun _ _ _ _ _ => (pe_op op_mulS (pe_ix ix_str (pv 2) (pe_op op_mod (pe_op op_add (pv 5) (pe_op op_mul pe_int (pv 6))) pe_int) (fun _ _ => rfl)) (pe_op op_add pe_int (pe_op op_mod (pv 6) pe_int))))))) pss_nil) (pss_cons (ps_set (i := 7) sc__law_words.nd rfl (Or.inr rfl) (q_join (K := K) rfl pe_str (pe_lc (own := [("_law_k", 6)]) rfl sc__law_words.nd (pi_range1 rfl T.b_range (pa_cons (pe_f F__law_draw hg (hr.mono (by decide)) rfl pass0 (pa_cons (pv 0) (pa_cons pe_int pa_nil))) pa_nil)) (blkOk_by (N := ["_law_pool_here", "_law_many", "_law_letters", "_law_menu", "_law_way", "_law_begin", "_law_k", "_law_stem", "_law_at"]) (sc := defScope s__law_words) (by decide +kernel)) (fun _ _ _ _ _ => (pg_name (i := 6) sc__law_words.nd rfl (Or.inl rfl) (hf := Or.inr rfl))) (fun _ _ _ _ _ => pts_nil) (fun _ _ _ _ _ => (pe_ix ix_str (pv 2) (pe_f F__law_draw hg (hr.mono (by decide)) rfl pass0 (pa_cons (pv 0) (pa_cons pe_int pa_nil))) (fun _ _ => rfl)))))) (pss_cons (ps_set (i := 8) sc__law_words.nd rfl (Or.inr rfl) (pe_f F__law_draw hg (hr.mono (by decide)) rfl pass0 (pa_cons (pv 0) (pa_cons (pe_op op_add (q_len (K := K) rfl T.b_len rfl (pa_cons (pv 7) pa_nil)) pe_int) pa_nil)))) (pss_one (ps_ret (pe_lc (own := [("_law_k", 6)]) rfl sc__law_words.nd (pi_range1 rfl T.b_range (pa_cons (pv 1) pa_nil)) (blkOk_by (N := ["_law_pool_here", "_law_many", "_law_letters", "_law_menu", "_law_way", "_law_begin", "_law_k", "_law_stem", "_law_at"]) (sc := defScope s__law_words) (by decide +kernel)) (fun _ _ _ _ _ => (pg_name (i := 6) sc__law_words.nd rfl (Or.inl rfl) (hf := Or.inr rfl))) (fun _ _ _ _ _ => pts_nil) (fun _ _ _ _ _ => (pe_op op_add_str (pe_op op_add_str (pe_slice sl_str (pv 7) po_none (po_some (pv 8))) (pe_ix ix_str (pv 2) (pe_op op_mod (pe_op op_add (pv 5) (pe_op op_mul pe_int (pv 6))) pe_int) (fun _ _ => rfl))) (pe_slice sl_str (pv 7) (po_some (pv 8)) po_none))))))))))))), fun ds w hp => ?_⟩
  · obtain ⟨p, n, rfl, _⟩ := h; rfl
  · obtain ⟨p, n, rfl, h0, h1, hP⟩ := hp
    walk_at "sts"
    refine ev_draw ?_
    walk_at "sts"
    refine ⟨p, 3, rfl, by decide, by decide +kernel, hP, fun w1 way hP1 hw0 hw1 => ?_⟩
    walk_at "sts"
    refine ev_draw ?_
    walk_at "sts"
    refine ⟨p, 15, rfl, by decide, by decide +kernel, hP1.self, fun w2 b hP2 hb0 hb1 => ?_⟩
    have hP02 : Pl w p w2 := hP1.trans hP2
    have hn : n.toNat ≤ 12 := by omega
    have fin : ∀ (w3 : Wl) (g : Nat → Str), Pl w p w3 → wordsOk ((List.range n.toNat).map g) → (endD postWords zN [D.ptr p, D.int n] w).rt (.lst ((rngD 0 n.toNat).map fun d => match d with | .int i => .str (g i.toNat) | _ => .non)) w3 := fun w3 g hp3 hw => by
      intro p' n' e'
      cases e'
      refine ⟨hp3, (List.range n.toNat).map g, ?_, by rw [List.length_map, List.length_range]; omega, hw⟩
      rw [rng_map, List.map_map]
      rfl
    walk_at "sts"
    refine if_2 (fun e => ?_) (fun e => ?_)
    · walk_at "sts"
      refine lc_map (gl_name (by decide)) (ei_rng1 ?_) (f := fun d => match d with | .int i => .str (menu.getD ((b + 4 * ((i.toNat : Nat) : Int)) % 15).toNat "") | _ => .non)
      walk_at "sts"
      refine ⟨⟨by omega, by omega⟩, by rw [rngD_len, sizeLine_eq]; omega, fun l c i d hl hd => ?_, fin w2 _ hP02 (words0 hb0 hb1 hn)⟩
      obtain ⟨rfl, hi⟩ := rngD_get hd
      rw [Int.zero_add]
      walk_at "sts"
      refine o2_ixL (menu_at (Int.emod_nonneg _ (by decide)) (Int.emod_lt_of_pos _ (by decide))) ?_
      exact ⟨rfl, rfl⟩
    · walk_at "sts"
      refine if_2 (fun e => ?_) (fun e => ?_)
      · walk_at "sts"
        refine lc_map (gl_name (by decide)) (ei_rng1 ?_) (f := fun d => match d with | .int i => .str (rep b i.toNat) | _ => .non)
        walk_at "sts"
        refine ⟨⟨by omega, by omega⟩, by rw [rngD_len, sizeLine_eq]; omega, fun l c i d hl hd => ?_, fin w2 _ hP02 (words1 hb0 hb1 hn)⟩
        obtain ⟨rfl, hi⟩ := rngD_get hd
        rw [Int.zero_add]
        walk_at "sts"
        refine o2_ixS (z := letters) (by rw [letters_len, sizeLine_eq]; omega) (letters_at (Int.emod_nonneg _ (by decide)) (Int.emod_lt_of_pos _ (by decide))) ?_
        walk_at "sts"
        have e8 : (1 + (i : Int) % 8).toNat = 1 + i % 8 := by omega
        refine o2_mulS (by omega) (by omega) (by rw [e8]; show 1 * _ ≤ 1000; omega) fun r hr => ⟨rfl, ?_⟩
        have er : r = rep b i := str_ext (by
          rw [hr, e8]
          show (List.replicate (1 + i % 8) [97 + ((b + 7 * (i : Int)) % 26).toNat]).flatten = _
          rw [flat_rep]
          rfl)
        rw [er]
        rfl
      · walk_at "sts"
        refine ev_m1 ?_
        walk_at "sts"
        refine ⟨⟨_, rfl⟩, ?_⟩
        refine lc_pool (p := p) (gl_name (by decide)) (ei_rng1 ?_) (R := fun _ _ y => ∃ c : Nat, (97 ≤ c ∧ c ≤ 122) ∧ y = .str ⟨#[c]⟩)
        walk_at "sts"
        refine ev_draw ?_
        walk_at "sts"
        refine ⟨p, 8, rfl, by decide, by decide +kernel, hP2.self, fun w3 m hP3 hm0 hm1 => ?_⟩
        walk_at "sts"
        refine ⟨⟨by omega, by omega⟩, by rw [rngD_len, sizeLine_eq]; omega, hP3.self, fun w4 i d hP4 hd => ?_, fun acc w4 hP4 hl hR => ?_⟩
        · obtain ⟨rfl, hi⟩ := rngD_get hd
          walk_at "sts"
          refine ev_draw ?_
          walk_at "sts"
          refine ⟨p, 26, rfl, by decide, by decide +kernel, hP4.self, fun w5 k hP5 hk0 hk1 => ?_⟩
          walk_at "sts"
          refine o2_ixS (z := letters) (by rw [letters_len, sizeLine_eq]; omega) (letters_at hk0 hk1) ?_
          exact ⟨hP4.trans hP5, _, ⟨by omega, by omega⟩, rfl⟩
        · rw [rngD_len] at hl
          obtain ⟨ys, rfl, g1, g2, g3, g4⟩ := stem_of (acc := acc) fun y hy => by
            obtain ⟨i, hi, e⟩ := List.mem_iff_getElem.mp hy
            have hi' : i < (rngD 0 m.toNat).length := by rw [rngD_len]; omega
            exact hR i _ y (List.getElem?_eq_getElem hi') (e ▸ List.getElem?_eq_getElem hi)
          refine om_join (by rw [g1, g4, hl]; show _ + _ * 0 ≤ _; omega) ?_
          walk_at "sts"
          refine ev_draw ?_
          walk_at "sts"
          rw [List.length_map] at g1 g3 hl
          refine ⟨p, (Txt.join ("" : Str) ys).length + 1, rfl, by omega, log2_small (by omega) (by omega), hP4.self, fun w5 k hP5 hk0 hk1 => ?_⟩
          obtain ⟨kn, rfl⟩ := Int.eq_ofNat_of_zero_le hk0
          have hkn : kn ≤ (Txt.join ("" : Str) ys).length := by omega
          have ct := cut_to hkn
          have cf := cut_from hkn
          have lt : (cutS (Txt.join ("" : Str) ys) none (some (kn : Int))).length ≤ 7 := by rw [len_toList, ct, List.length_take, ← len_toList]; omega
          have lf : (cutS (Txt.join ("" : Str) ys) (some (kn : Int)) none).length ≤ 7 := by rw [len_toList, cf, List.length_drop, ← len_toList]; omega
          walk_at "sts"
          have hp5 : Pl w p w5 := hP02.trans (hP3.trans (hP4.trans hP5))
          refine lc_map (gl_name (by decide)) (ei_rng1 ?_) (f := fun d => match d with | .int i => .str (stemW (Txt.join ("" : Str) ys).cps.toList kn b i.toNat) | _ => .non)
          walk_at "sts"
          refine ⟨⟨by omega, by omega⟩, by rw [rngD_len, sizeLine_eq]; omega, fun l c i d hl hd => ?_, fin w5 _ hp5 (words2 g2 (by rw [← len_toList]; omega) (by rw [← len_toList]; omega) hb0 hb1 hn)⟩
          obtain ⟨rfl, hi⟩ := rngD_get hd
          rw [Int.zero_add]
          walk_at "sts"
          refine o2_ixS (z := letters) (by rw [letters_len, sizeLine_eq]; omega) (letters_at (Int.emod_nonneg _ (by decide)) (Int.emod_lt_of_pos _ (by decide))) ?_
          refine o2_catS (by rw [sizeLine_eq]; show _ + 1 ≤ _; omega) ?_
          walk_at "sts"
          refine o2_catS (by rw [sizeLine_eq, app_len]; show _ + 1 + _ ≤ _; omega) ⟨rfl, ?_⟩
          refine congrArg D.str (str_ext ?_)
          rw [app_list, app_list, ct, cf]
          show _ = (stemW _ _ _ _).cps.toList
          show _ = List.take _ _ ++ _ :: List.drop _ _
          rw [List.append_assoc]
          rfl
end
section
variable {P : Program} {wo : World} {K : PySem.W.Frag} {mg : Str → Option Value} {base : Heap}
abbrev s__law_often : Stmt := top 54
theorem sc__law_often : FnScope ["_law_pool_here", "_law_way"] ["_law_pool_here"] (defScope s__law_often) := ⟨rfl, rfl, rfl, by decide +kernel, rfl, by decide +kernel, by decide +kernel⟩
theorem bp__law_often : BindP "_law_often" s__law_often ["_law_pool_here"] := fun _ _ _ _ _ _ us hl => match us, hl with | [_], _ => rfl

theorem ok__law_often (T : Tx mg) (d : Dn K mg "_law_often" s__law_often) (F__law_draw : Fk P wo K mg base CX0 1 "_law_draw" s__law_draw ["_law_pool_here", "_law_many"] (SpD K preDraw postDraw zN)) :
    Fk P wo K mg base CX0 2 "_law_often" s__law_often ["_law_pool_here"] (SpD K preP1 postOften zN) := by
  refine fk_ok d sc__law_often bp__law_often (fun ds w h => ?_) fun f cdv A fr s H E hg hr => ⟨_, (pss_cons (ps_set (i := 1) sc__law_often.nd rfl (Or.inl rfl) (pe_f F__law_draw hg (hr.mono (by decide)) rfl pass0 (pa_cons (pv 0) (pa_cons pe_int pa_nil)))) (pss_one (ps_ret (pe_ix (qx_list (K := K) rfl) (pe_lst (pa_cons pe_int (pa_cons pe_int (pa_cons pe_int (pa_cons (pe_op op_add pe_int (pe_f F__law_draw hg (hr.mono (by decide)) rfl pass0 (pa_cons (pv 0) (pa_cons pe_int pa_nil)))) (pa_cons (pe_op op_add pe_int (pe_f F__law_draw hg (hr.mono (by decide)) rfl pass0 (pa_cons (pv 0) (pa_cons (pe_op op_pow pe_int pe_int) pa_nil)))) (pa_cons (pe_op op_pow pe_int pe_int) pa_nil))))))) (pv 1) (fun _ _ => rfl))))), fun ds w hp => ?_⟩
  · obtain ⟨p, rfl, _⟩ := h; rfl
  · obtain ⟨p, rfl, hP⟩ := hp
    walk_at "sts"
    refine ev_draw ?_
    walk_at "sts"
    refine ⟨p, 6, rfl, by decide, by decide +kernel, hP, fun w1 way hP1 hw0 hw1 => ?_⟩
    walk_at "sts"
    refine ev_draw ?_
    walk_at "sts"
    refine ⟨p, 30, rfl, by decide, by decide +kernel, hP1.self, fun w2 a hP2 ha0 ha1 => ?_⟩
    walk_at "sts"
    refine ev_draw ?_
    walk_at "sts"
    refine ⟨p, 10 ^ 30, rfl, by decide +kernel, by decide +kernel, hP2.self, fun w3 b hP3 hb0 hb1 => ?_⟩
    walk_at "sts"
    have fin : ∀ k : Int, 1 ≤ k ∧ k ≤ 10 ^ 30 → (endD postOften zN [D.ptr p] w).rt (.int k) w3 := fun k hk p' e' => by
      cases e'
      exact ⟨hP1.trans (hP2.trans hP3), k, rfl, hk⟩
    have p30 : (100 : Int) ≤ 10 ^ 30 := by decide +kernel
    have hw : way = 0 ∨ way = 1 ∨ way = 2 ∨ way = 3 ∨ way = 4 ∨ way = 5 := by omega
    rcases hw with rfl | rfl | rfl | rfl | rfl | rfl
    all_goals refine o2_ixL (by exact rfl) (fin _ ?_)
    · exact ⟨by decide, by omega⟩
    · exact ⟨by decide, by omega⟩
    · exact ⟨by decide, by omega⟩
    · exact ⟨by omega, by omega⟩
    · exact ⟨by omega, by omega⟩
    · exact ⟨by decide +kernel, Int.le_refl _⟩
end
section
variable {P : Program} {wo : World} {K : PySem.W.Frag} {mg : Str → Option Value} {base : Heap}
abbrev s__law_path : Stmt := top 55
theorem sc__law_path : FnScope ["_law_pool_here", "_law_words_here", "_law_many", "_law_most", "_law_found", "_law_turn", "_law_word"] ["_law_pool_here", "_law_words_here", "_law_many", "_law_most"] (defScope s__law_path) := ⟨rfl, rfl, rfl, by decide +kernel, rfl, by decide +kernel, by decide +kernel⟩
theorem bp__law_path : BindP "_law_path" s__law_path ["_law_pool_here", "_law_words_here", "_law_many", "_law_most"] := fun _ _ _ _ _ _ us hl => match us, hl with | [_, _, _, _], _ => rfl

theorem ok__law_path (T : Tx mg) (d : Dn K mg "_law_path" s__law_path) (F__law_draw : Fk P wo K mg base CX0 1 "_law_draw" s__law_draw ["_law_pool_here", "_law_many"] (SpD K preDraw postDraw zN))
    (F__law_often : Fk P wo K mg base CX0 2 "_law_often" s__law_often ["_law_pool_here"] (SpD K preP1 postOften zN)) :
    Fk P wo K mg base CX0 3 "_law_path" s__law_path ["_law_pool_here", "_law_words_here", "_law_many", "_law_most"] (SpD K prePath postPath zN) := by
  refine fk_ok d sc__law_path bp__law_path (fun ds w h => ?_) fun f cdv A fr s H E hg hr => ⟨_, (pss_cons (ps_set (i := 4) sc__law_path.nd rfl (Or.inl rfl) (pe_lst pa_nil)) (pss_cons (ps_for PassesOwn.never rfl (pi_range1 rfl T.b_range (pa_cons (pe_f F__law_draw hg (hr.mono (by decide)) rfl pass0 (pa_cons (pv 0) (pa_cons (pe_op op_add (pv 2) pe_int) pa_nil))) pa_nil)) (pg_name (i := 5) sc__law_path.nd rfl (Or.inl rfl) (hf := Or.inl rfl)) (pss_cons (ps_set (i := 6) sc__law_path.nd rfl (Or.inl rfl) (pe_ix (qx_list (K := K) rfl) (pv 1) (pe_f F__law_draw hg (hr.mono (by decide)) rfl pass0 (pa_cons (pv 0) (pa_cons (q_len (K := K) rfl T.b_len rfl (pa_cons (pv 1) pa_nil)) pa_nil))) (fun _ _ => rfl))) (pss_one (ps_expr (q_bm (K := K) rfl PySem.F.plainAttrs_list PySem.F.slot_list_append PySem.F.type_list_append mt_append (pv 4) (pa_cons (pe_tup (pa_cons (pv 6) (pa_cons (pe_ifExp (pt_cmpR op_eq (pv 3) pe_int (nomark _)) (pe_f F__law_often hg (hr.mono (by decide)) rfl pass0 (pa_cons (pv 0) pa_nil)) (pe_op op_add pe_int (pe_f F__law_draw hg (hr.mono (by decide)) rfl pass0 (pa_cons (pv 0) (pa_cons (pv 3) pa_nil))))) pa_nil))) pa_nil)))))) (pss_one (ps_ret (q_tuple (K := K) rfl T.b_tuple rfl (pa_cons (pv 4) pa_nil)))))), fun ds w hp => ?_⟩
  · obtain ⟨p, xs, k, m, rfl, _⟩ := h; rfl
  · obtain ⟨p, xs, kk, m, rfl, hx, hl0, hl, hk0, hk1, hm0, hm1, hP⟩ := hp
    walk_at "stn"
    refine ev_lstOwn ?_
    walk_at "stn"
    intro q hq
    have nqp : q ≠ p := by
      rintro rfl
      obtain ⟨a, b, c, e, _⟩ := hP.at
      rw [hq] at e; cases e
    walk_at "stn"
    refine sd_for (ei_rng1 ?_)
    walk_at "stn"
    refine ev_draw ?_
    walk_at "stn"
    have hP0 : Pl (put w q (.lst [])) p (put w q (.lst [])) := ((Pm.of hP).put nqp hq).1
    refine ⟨p, kk + 1, rfl, by omega, log2_1000 (by omega) (by omega), hP0, fun w1 t hP1 ht0 ht1 => ?_⟩
    walk_at "stn"
    have hw1 : Pm w p w1 ∧ w1 q = some (.lst []) := ⟨((Pm.of hP).put nqp hq).trans (Pm.of hP1), by rw [hP1.ne nqp]; exact put_same⟩
    refine ⟨⟨by omega, by omega⟩, fun i δ' w' => ∃ (prs : List (Str × Int)) (x y : Option D), δ' = [some (.ptr p), some (.lst (xs.map D.str)), some (.int kk), some (.int m), some (.ptr q), x, y] ∧ Runs xs prs ∧ prs.length = i ∧ Pm w p w' ∧ w' q = some (.lst (prs.map DL.prD)), ⟨[], _, _, rfl, fun _ h => (nomatch h), rfl, hw1.1, hw1.2⟩, ?_, ?_⟩
    · rintro i e δ' w' he ⟨prs, x, y, rfl, hr, hi, hw, hwq⟩
      obtain ⟨rfl, hit⟩ := rngD_get he
      walk_at "stn"
      refine ev_draw ?_
      walk_at "stn"
      rw [List.length_map]
      refine ⟨p, xs.length, rfl, by omega, log2_1000 (by omega) (by omega), hw.1, fun w2 j hP2 hj0 hj1 => ?_⟩
      walk_at "stn"
      obtain ⟨y2, hy2, hat⟩ : ∃ y2 ∈ xs, atI (xs.map D.str) j = some (.str y2) := by
        have hlt : j.toNat < xs.length := by omega
        refine ⟨xs[j.toNat], List.getElem_mem hlt, ?_⟩
        unfold atI ixN
        rw [if_pos hj0, if_pos (by rw [List.length_map]; omega)]
        simp [hlt]
      refine o2_ixL hat ?_
      walk_at "stn"
      have hwq2 : w2 q = some (.lst (prs.map DL.prD)) := by rw [hP2.ne nqp]; exact hwq
      refine ⟨ty_lstO hwq2, ?_⟩
      walk_at "stn"
      have app : ∀ (w3 : Wl) (c : Int), 1 ≤ c → c ≤ 10 ^ 30 → Pl w2 p w3 → OpM K rAppend (.ptr q) [.tup [.str y2, .int c]] w3 fun _ w4 => ∃ (prs : List (Str × Int)) (x y : Option D), [some (D.ptr p), some (.lst (xs.map D.str)), some (.int kk), some (.int m), some (.ptr q), some (.int (0 + (i : Int))), some (.str y2)] = [some (D.ptr p), some (.lst (xs.map D.str)), some (.int kk), some (.int m), some (.ptr q), x, y] ∧ Runs xs prs ∧ prs.length = i + 1 ∧ Pm w p w4 ∧ w4 q = some (.lst (prs.map DL.prD)) := fun w3 c hc0 hc1 hP3 => by
        have hwq3 : w3 q = some (.lst (prs.map DL.prD)) := by rw [hP3.ne nqp]; exact hwq2
        refine om_app hwq3 (by rw [List.length_map, sizeLine_eq]; omega) ?_
        refine ⟨prs ++ [(y2, c)], _, _, rfl, fun pr h => ?_, by rw [List.length_append, hi]; rfl, (hw.trans ((Pm.of hP2).trans (Pm.of hP3))).put nqp hq, by rw [List.map_append]; exact put_same⟩
        rcases List.mem_append.mp h with h | h
        · exact hr pr h
        · rw [List.mem_singleton.mp h]
          exact ⟨hy2, hx y2 hy2, hc0, hc1⟩
      refine if_2 (fun e2 => ?_) (fun e2 => ?_)
      · refine ev_often ?_
        walk_at "stn"
        refine ⟨hP2.self, fun w3 c hP3 hc0 hc1 => ?_⟩
        walk_at "stn"
        exact app w3 c hc0 hc1 hP3
      · walk_at "stn"
        refine ev_draw ?_
        walk_at "stn"
        have hm2 : 0 < m := by
          have := of_decide_eq_false e2
          omega
        refine ⟨p, m, rfl, hm2, log2_le30 hm0 hm1, hP2.self, fun w3 c hP3 hc0 hc1 => ?_⟩
        walk_at "stn"
        exact app w3 (1 + c) (by omega) (by omega) hP3
    · rintro δ' w' ⟨prs, x, y, rfl, hr, hi, hw, hwq⟩
      walk_at "stn"
      rw [rngD_len] at hi
      intro p' xs' k' m' e'
      injection e' with e1 e2
      injection e2 with e2 e3
      injection e1 with e1
      injection e2 with e2
      injection e3 with e3 e4
      injection e3 with e3
      subst e1
      have := str_inj e2
      subst this
      subst e3
      exact ⟨hw, prs, rfl, hr, by omega⟩
end
section
variable {P : Program} {wo : World} {K : PySem.W.Frag} {mg : Str → Option Value} {base : Heap}
abbrev s__law_kind : Stmt := top 56
theorem sc__law_kind : FnScope ["_law_e", "_law_kinds", "_law_bases", "_law_own", "_law_at", "_law_words_here"] ["_law_e"] (defScope s__law_kind) := ⟨rfl, rfl, rfl, by decide +kernel, rfl, by decide +kernel, by decide +kernel⟩
theorem bp__law_kind : BindP "_law_kind" s__law_kind ["_law_e"] := fun _ _ _ _ _ _ us hl => match us, hl with | [_], _ => rfl


theorem ok__law_kind {ec : Nat → Addr} {R : List Nat} (T : Tx mg) (d : Dn K mg "_law_kind" s__law_kind) (G : ErG mg ec) (KS : ∀ i, i ∈ R → ErK K ec i) :
    FkE P wo K mg base 1 "_law_kind" s__law_kind ["_law_e"] (spE K (preEr ec R) (postKind ec R)) := by
  refine fkE_ok d sc__law_kind bp__law_kind (fun a C d ds w h => by obtain ⟨rfl, _⟩ := h; rfl) fun f cdv A fr s H E a oe C d hx hr hp0 => ?_
  obtain ⟨_, _, _, i, _, hi, rfl, _⟩ := hp0
  have hk := KS i hi
  refine ⟨_, (pss_cons (ps_set (i := 1) sc__law_kind.nd rfl (Or.inl rfl) (pe_lst (pa_cons (q_isH (K := K) hx hk.ex rfl T.b_isinstance rfl (pa_cons (pv 0) (pa_cons (k_er G 0 rfl rfl) pa_nil))) (pa_cons (q_isH (K := K) hx hk.ex rfl T.b_isinstance rfl (pa_cons (pv 0) (pa_cons (k_er G 1 rfl rfl) pa_nil))) (pa_cons (q_isH (K := K) hx hk.ex rfl T.b_isinstance rfl (pa_cons (pv 0) (pa_cons (k_er G 2 rfl rfl) pa_nil))) pa_nil))))) (pss_cons (ps_set (i := 1) sc__law_kind.nd rfl (Or.inl rfl) (pe_op op_cat (pv 1) (pe_lst (pa_cons (q_isH (K := K) hx hk.ex rfl T.b_isinstance rfl (pa_cons (pv 0) (pa_cons (k_er G 3 rfl rfl) pa_nil))) (pa_cons (q_isH (K := K) hx hk.ex rfl T.b_isinstance rfl (pa_cons (pv 0) (pa_cons (k_er G 4 rfl rfl) pa_nil))) (pa_cons (q_isH (K := K) hx hk.ex rfl T.b_isinstance rfl (pa_cons (pv 0) (pa_cons (k_er G 5 rfl rfl) pa_nil))) pa_nil)))))) (pss_cons (ps_set (i := 1) sc__law_kind.nd rfl (Or.inl rfl) (pe_op op_cat (pv 1) (pe_lst (pa_cons (q_isH (K := K) hx hk.ex rfl T.b_isinstance rfl (pa_cons (pv 0) (pa_cons (k_er G 6 rfl rfl) pa_nil))) (pa_cons (q_isH (K := K) hx hk.ex rfl T.b_isinstance rfl (pa_cons (pv 0) (pa_cons (k_er G 7 rfl rfl) pa_nil))) (pa_cons (q_isH (K := K) hx hk.ex rfl T.b_isinstance rfl (pa_cons (pv 0) (pa_cons (k_er G 8 rfl rfl) pa_nil))) pa_nil)))))) (pss_cons (ps_set (i := 1) sc__law_kind.nd rfl (Or.inl rfl) (pe_op op_cat (pv 1) (pe_lst (pa_cons (q_isH (K := K) hx hk.ex rfl T.b_isinstance rfl (pa_cons (pv 0) (pa_cons (k_er G 9 rfl rfl) pa_nil))) (pa_cons (q_isH (K := K) hx hk.ex rfl T.b_isinstance rfl (pa_cons (pv 0) (pa_cons (k_er G 10 rfl rfl) pa_nil))) (pa_cons (q_isH (K := K) hx hk.ex rfl T.b_isinstance rfl (pa_cons (pv 0) (pa_cons (k_er G 11 rfl rfl) pa_nil))) pa_nil)))))) (pss_cons (ps_set (i := 1) sc__law_kind.nd rfl (Or.inl rfl) (pe_op op_cat (pv 1) (pe_lst (pa_cons (q_isH (K := K) hx hk.ex rfl T.b_isinstance rfl (pa_cons (pv 0) (pa_cons (k_er G 12 rfl rfl) pa_nil))) (pa_cons (q_isH (K := K) hx hk.ex rfl T.b_isinstance rfl (pa_cons (pv 0) (pa_cons (k_er G 13 rfl rfl) pa_nil))) (pa_cons (q_isH (K := K) hx hk.ex rfl T.b_isinstance rfl (pa_cons (pv 0) (pa_cons (k_er G 14 rfl rfl) pa_nil))) pa_nil)))))) (pss_cons (ps_set (i := 1) sc__law_kind.nd rfl (Or.inl rfl) (pe_op op_cat (pv 1) (pe_lst (pa_cons (q_isH (K := K) hx hk.ex rfl T.b_isinstance rfl (pa_cons (pv 0) (pa_cons (k_er G 15 rfl rfl) pa_nil))) (pa_cons (q_isH (K := K) hx hk.ex rfl T.b_isinstance rfl (pa_cons (pv 0) (pa_cons (k_er G 16 rfl rfl) pa_nil))) (pa_cons (q_isH (K := K) hx hk.ex rfl T.b_isinstance rfl (pa_cons (pv 0) (pa_cons (k_er G 17 rfl rfl) pa_nil))) pa_nil)))))) (pss_cons (ps_set (i := 1) sc__law_kind.nd rfl (Or.inl rfl) (pe_op op_cat (pv 1) (pe_lst (pa_cons (q_isH (K := K) hx hk.ex rfl T.b_isinstance rfl (pa_cons (pv 0) (pa_cons (k_er G 18 rfl rfl) pa_nil))) (pa_cons (q_isH (K := K) hx hk.ex rfl T.b_isinstance rfl (pa_cons (pv 0) (pa_cons (k_er G 19 rfl rfl) pa_nil))) pa_nil))))) (pss_cons (ps_set (i := 2) sc__law_kind.nd rfl (Or.inl rfl) (pe_lst (pa_cons (q_isH (K := K) hx hk.ex rfl T.b_isinstance rfl (pa_cons (pv 0) (pa_cons (k_er G 20 rfl rfl) pa_nil))) (pa_cons (q_isH (K := K) hx hk.ex rfl T.b_isinstance rfl (pa_cons (pv 0) (pa_cons (k_er G 21 rfl rfl) pa_nil))) (pa_cons (q_isH (K := K) hx hk.ex rfl T.b_isinstance rfl (pa_cons (pv 0) (pa_cons (k_er G 22 rfl rfl) pa_nil))) pa_nil))))) (pss_cons (ps_set (i := 3) sc__law_kind.nd rfl (Or.inl rfl) (pe_lst (pa_cons (q_isH (K := K) hx hk.ex rfl T.b_isinstance rfl (pa_cons (pv 0) (pa_cons (c_VE T.b_ValueError rfl) pa_nil))) (pa_cons (q_isH (K := K) hx hk.ex rfl T.b_isinstance rfl (pa_cons (pv 0) (pa_cons (c_LE T.b_LookupError rfl) pa_nil))) (pa_cons (q_isH (K := K) hx hk.ex rfl T.b_isinstance rfl (pa_cons (pv 0) (pa_cons (c_AE T.b_ArithmeticError rfl) pa_nil))) pa_nil))))) (pss_cons (ps_if (pt_cmpR op_ne (q_bm (K := K) rfl PySem.F.plainAttrs_list PySem.F.slot_list_count PySem.F.type_list_count (mt_countD hr.units65) (pv 1) (pa_cons pe_bl pa_nil)) pe_int (nomark _)) (pss_one (ps_ret pe_str)) pss_nil) (pss_cons (ps_set (i := 4) sc__law_kind.nd rfl (Or.inl rfl) (q_bm (K := K) rfl PySem.F.plainAttrs_list PySem.F.slot_list_index PySem.F.type_list_index (mt_indexD hr.units65) (pv 1) (pa_cons pe_bl pa_nil))) (pss_cons (ps_if (PW.pt (pw_or (pt_cmpR (qo_neP (K := K) rfl hr.units) (pv 2) (pe_lst (pa_cons (pe_cmpR op_lt (pv 4) pe_int (nomark _)) (pa_cons (pe_chain op_lt op_lt pe_int (pv 4) pe_int) (pa_cons (pe_cmpR op_gt (pv 4) pe_int (nomark _)) pa_nil)))) (nomark _)) (pw_or1 (pt_cmpR (qo_neP (K := K) rfl hr.units) (pv 3) (pv 2) (nomark _))))) (pss_one (ps_ret pe_str)) pss_nil) (pss_cons (ps_set (i := 5) sc__law_kind.nd rfl (Or.inl rfl) pe_str) (pss_cons (ps_set (i := 5) sc__law_kind.nd rfl (Or.inl rfl) (pe_op op_add_str (pv 5) pe_str)) (pss_one (ps_ret (pe_ix (qx_list (K := K) rfl) (pe_split (pv 5) pe_str) (pv 4) (fun _ _ => rfl)))))))))))))))))), fun ds w hp => ?_⟩
  · obtain ⟨rfl, i', fs, hi', hc, hf, hx⟩ := hp
    have ei := er_inj hk (KS i' hi') hc; subst ei
    have dk := hx.dict
    have lt := hk.lt
    repeat first | walk_at "st" | refine ol_isH dk (hk.kit _ (by decide)) ?_ | refine ol_isHb dk hk.kv ?_ | refine ol_isHb dk hk.kl ?_ | refine ol_isHb dk hk.ka ?_ | with_reducible refine ev_lst ?_ | refine o2_catL (by rw [sizeLine_eq]; simp) ?_
    refine ⟨ty_lstF, ?_⟩
    walk_at "sts"
    refine om_countB (bs := (List.range 20).map (erSub i)) ?_
    rw [er_count lt]
    walk_at "sts"
    refine if_f (by decide) ?_
    walk_at "sts"
    refine ⟨ty_lstF, ?_⟩
    walk_at "sts"
    refine om_indexB (bs := (List.range 20).map (erSub i)) (er_at lt) (er_before lt) ?_
    walk_at "sts"
    refine if_2 (fun e => ?_) (fun e => ?_)
    · walk_at "sts"
      refine o2_neBl (xs := [erSub i 20, erSub i 21, erSub i 22]) (ys := [decide ((i : Int) < 15), decide ((i : Int) < 18), decide ((17 : Int) < i)]) ?_
      rw [er_told lt (b := decide ((i : Int) < 18)) (by rw [e]; rfl)]
      refine ⟨_, rfl, ?_⟩
      refine if_f (by simp) ?_
      walk_at "sts"
      refine o2_neBl (xs := [decide (i < 15), decide (14 < i) && decide (i < 18), decide (17 < i)]) (ys := [erSub i 20, erSub i 21, erSub i 22]) ?_
      rw [er_own lt]
      refine ⟨_, rfl, ?_⟩
      refine if_f (by simp) ?_
      walk_at "sts"
      refine o2_catS (by rw [sizeLine_eq]; decide +kernel) ?_
      walk_at "sts"
      refine ev_m1 ?_
      walk_at "sts"
      refine ⟨⟨_, rfl⟩, ?_⟩
      walk_at "sts"
      refine om_split (by decide +kernel) (by rw [sizeLine_eq]; decide +kernel) er_split ?_
      walk_at "sts"
      refine o2_ixL (er_at2 lt) ?_
      exact ⟨rfl, fun j hj hc => by rw [er_inj hk (KS j hj) hc]⟩
    · walk_at "sts"
      refine o2_neBl (xs := [erSub i 20, erSub i 21, erSub i 22]) (ys := [decide ((i : Int) < 15), false, decide ((17 : Int) < i)]) ?_
      rw [er_told lt (b := false) (by rw [e]; rfl)]
      refine ⟨_, rfl, ?_⟩
      refine if_f (by simp) ?_
      walk_at "sts"
      refine o2_neBl (xs := [decide (i < 15), decide (14 < i) && decide (i < 18), decide (17 < i)]) (ys := [erSub i 20, erSub i 21, erSub i 22]) ?_
      rw [er_own lt]
      refine ⟨_, rfl, ?_⟩
      refine if_f (by simp) ?_
      walk_at "sts"
      refine o2_catS (by rw [sizeLine_eq]; decide +kernel) ?_
      walk_at "sts"
      refine ev_m1 ?_
      walk_at "sts"
      refine ⟨⟨_, rfl⟩, ?_⟩
      walk_at "sts"
      refine om_split (by decide +kernel) (by rw [sizeLine_eq]; decide +kernel) er_split ?_
      walk_at "sts"
      refine o2_ixL (er_at2 lt) ?_
      exact ⟨rfl, fun j hj hc => by rw [er_inj hk (KS j hj) hc]⟩
end
section
variable {P : Program} {wo : World} {K : PySem.W.Frag} {mg : Str → Option Value} {base : Heap}
abbrev s__law_other_fields : Stmt := top 58
theorem sc__law_other_fields : FnScope ["_law_e"] ["_law_e"] (defScope s__law_other_fields) := ⟨rfl, rfl, rfl, by decide +kernel, rfl, by decide +kernel, by decide +kernel⟩
theorem bp__law_other_fields : BindP "_law_other_fields" s__law_other_fields ["_law_e"] := fun _ _ _ _ _ _ us hl => match us, hl with | [_], _ => rfl


theorem ok__law_other_fields {ec : Nat → Addr} {R : List Nat} (T : Tx mg) (d : Dn K mg "_law_other_fields" s__law_other_fields) (G : ErG mg ec) (KS : ∀ i, i ∈ R → ErK K ec i) :
    FkE P wo K mg base 1 "_law_other_fields" s__law_other_fields ["_law_e"] (spE K (preErO ec R) (postFlds ec R)) := by
  refine fkE_ok d sc__law_other_fields bp__law_other_fields (fun a C d ds w h => by obtain ⟨rfl, _⟩ := h; rfl) fun f cdv A fr s H E a oe C d hx hr hp0 => ?_
  obtain ⟨_, _, _, i, _, hi, rfl, _⟩ := hp0
  have hk := KS i hi
  refine ⟨_, (pss_cons (ps_if (pt_val (q_isH (K := K) hx hk.ex rfl T.b_isinstance rfl (pa_cons (pv 0) (pa_cons (k_er G 1 rfl rfl) pa_nil)))) (pss_one (ps_ret (pe_lst (pa_cons (pe_fldH hx hk.xf (hk.no _ (by decide)) (pv 0)) pa_nil)))) pss_nil) (pss_cons (ps_if (pt_val (q_isH (K := K) hx hk.ex rfl T.b_isinstance rfl (pa_cons (pv 0) (pa_cons (k_er G 2 rfl rfl) pa_nil)))) (pss_one (ps_ret (pe_lst (pa_cons (pe_fldH hx hk.xf (hk.no _ (by decide)) (pv 0)) pa_nil)))) pss_nil) (pss_cons (ps_if (pt_val (q_isH (K := K) hx hk.ex rfl T.b_isinstance rfl (pa_cons (pv 0) (pa_cons (k_er G 7 rfl rfl) pa_nil)))) (pss_one (ps_ret (pe_lst (pa_cons (pe_fldH hx hk.xf (hk.no _ (by decide)) (pv 0)) pa_nil)))) pss_nil) (pss_cons (ps_if (pt_val (q_isH (K := K) hx hk.ex rfl T.b_isinstance rfl (pa_cons (pv 0) (pa_cons (k_er G 9 rfl rfl) pa_nil)))) (pss_one (ps_ret (pe_lst (pa_cons (pe_fldH hx hk.xf (hk.no _ (by decide)) (pv 0)) pa_nil)))) pss_nil) (pss_cons (ps_if (pt_val (q_isH (K := K) hx hk.ex rfl T.b_isinstance rfl (pa_cons (pv 0) (pa_cons (k_er G 10 rfl rfl) pa_nil)))) (pss_one (ps_ret (pe_lst (pa_cons (pe_fldH hx hk.xf (hk.no _ (by decide)) (pv 0)) pa_nil)))) pss_nil) (pss_cons (ps_if (pt_val (q_isH (K := K) hx hk.ex rfl T.b_isinstance rfl (pa_cons (pv 0) (pa_cons (k_er G 8 rfl rfl) pa_nil)))) (pss_one (ps_ret (pe_lst (pa_cons (pe_fldH hx hk.xf (hk.no _ (by decide)) (pv 0)) pa_nil)))) pss_nil) (pss_one (ps_ret (pe_ifExp (pt_val (q_isH (K := K) hx hk.ex rfl T.b_isinstance rfl (pa_cons (pv 0) (pa_cons (k_er G 13 rfl rfl) pa_nil)))) (pe_lst (pa_cons (pe_fldH hx hk.xf (hk.no _ (by decide)) (pv 0)) pa_nil)) (pe_lst pa_nil)))))))))), fun ds w hp => ?_⟩
  · obtain ⟨rfl, i', fs, hi', hc, hf, hx, mo⟩ := hp
    have ei := er_inj hk (KS i' hi') hc; subst ei
    have dk := hx.dict
    have lt := hk.lt
    walk_at "sts"
    refine ol_isH dk (hk.kit _ (by decide)) ?_
    first | refine ⟨_, rfl, ?_⟩ | skip
    refine if_2 (fun e0 => ?_) (fun e0 => ?_)
    · have mm := er_mem lt (js := [1]) (by decide) (er_any1 e0)
      have ff : erF[i]? = some (some (Str.ofString "name")) := (by decide : ∀ i ∈ ([1] : List Nat), erF[i]? = some (some (Str.ofString "name"))) i mm
      obtain ⟨v, rfl⟩ := er_one hf ff
      walk_at "sts"
      refine ev_fldX (v := v) ?_
      walk_at "sts"
      refine ⟨rfl, hx, ?_⟩
      walk_at "sts"
      exact ⟨rfl, fun j' fs' hj' hc' hf' hx' => by rw [hx.same hx']; rfl⟩
    · skip
      walk_at "sts"
      refine ol_isH dk (hk.kit _ (by decide)) ?_
      first | refine ⟨_, rfl, ?_⟩ | skip
      refine if_2 (fun e1 => ?_) (fun e1 => ?_)
      · have mm := er_mem lt (js := [2]) (by decide) (er_any1 e1)
        have ff : erF[i]? = some (some (Str.ofString "times")) := (by decide : ∀ i ∈ ([2] : List Nat), erF[i]? = some (some (Str.ofString "times"))) i mm
        obtain ⟨v, rfl⟩ := er_one hf ff
        walk_at "sts"
        refine ev_fldX (v := v) ?_
        walk_at "sts"
        refine ⟨rfl, hx, ?_⟩
        walk_at "sts"
        exact ⟨rfl, fun j' fs' hj' hc' hf' hx' => by rw [hx.same hx']; rfl⟩
      · skip
        walk_at "sts"
        refine ol_isH dk (hk.kit _ (by decide)) ?_
        first | refine ⟨_, rfl, ?_⟩ | skip
        refine if_2 (fun e2 => ?_) (fun e2 => ?_)
        · have mm := er_mem lt (js := [7]) (by decide) (er_any1 e2)
          have ff : erF[i]? = some (some (Str.ofString "text")) := (by decide : ∀ i ∈ ([7] : List Nat), erF[i]? = some (some (Str.ofString "text"))) i mm
          obtain ⟨v, rfl⟩ := er_one hf ff
          walk_at "sts"
          refine ev_fldX (v := v) ?_
          walk_at "sts"
          refine ⟨rfl, hx, ?_⟩
          walk_at "sts"
          exact ⟨rfl, fun j' fs' hj' hc' hf' hx' => by rw [hx.same hx']; rfl⟩
        · skip
          walk_at "sts"
          refine ol_isH dk (hk.kit _ (by decide)) ?_
          first | refine ⟨_, rfl, ?_⟩ | skip
          refine if_2 (fun e3 => ?_) (fun e3 => ?_)
          · have mm := er_mem lt (js := [9]) (by decide) (er_any1 e3)
            have ff : erF[i]? = some (some (Str.ofString "number")) := (by decide : ∀ i ∈ ([9] : List Nat), erF[i]? = some (some (Str.ofString "number"))) i mm
            obtain ⟨v, rfl⟩ := er_one hf ff
            walk_at "sts"
            refine ev_fldX (v := v) ?_
            walk_at "sts"
            refine ⟨rfl, hx, ?_⟩
            walk_at "sts"
            exact ⟨rfl, fun j' fs' hj' hc' hf' hx' => by rw [hx.same hx']; rfl⟩
          · skip
            walk_at "sts"
            refine ol_isH dk (hk.kit _ (by decide)) ?_
            first | refine ⟨_, rfl, ?_⟩ | skip
            refine if_2 (fun e4 => ?_) (fun e4 => ?_)
            · have mm := er_mem lt (js := [10]) (by decide) (er_any1 e4)
              have ff : erF[i]? = some (some (Str.ofString "slots")) := (by decide : ∀ i ∈ ([10] : List Nat), erF[i]? = some (some (Str.ofString "slots"))) i mm
              obtain ⟨v, rfl⟩ := er_one hf ff
              walk_at "sts"
              refine ev_fldX (v := v) ?_
              walk_at "sts"
              refine ⟨rfl, hx, ?_⟩
              walk_at "sts"
              exact ⟨rfl, fun j' fs' hj' hc' hf' hx' => by rw [hx.same hx']; rfl⟩
            · skip
              walk_at "sts"
              refine ol_isH dk (hk.kit _ (by decide)) ?_
              first | refine ⟨_, rfl, ?_⟩ | skip
              refine if_2 (fun e5 => ?_) (fun e5 => ?_)
              · have mm := er_mem lt (js := [8]) (by decide) (er_any1 e5)
                have ff : erF[i]? = some (some (Str.ofString "size")) := (by decide : ∀ i ∈ ([8] : List Nat), erF[i]? = some (some (Str.ofString "size"))) i mm
                obtain ⟨v, rfl⟩ := er_one hf ff
                walk_at "sts"
                refine ev_fldX (v := v) ?_
                walk_at "sts"
                refine ⟨rfl, hx, ?_⟩
                walk_at "sts"
                exact ⟨rfl, fun j' fs' hj' hc' hf' hx' => by rw [hx.same hx']; rfl⟩
              · skip
                walk_at "sts"
                refine ol_isH dk (hk.kit _ (by decide)) ?_
                first | refine ⟨_, rfl, ?_⟩ | skip
                refine if_2 (fun e6 => ?_) (fun e6 => ?_)
                · have mm := er_mem lt (js := [13]) (by decide) (er_any1 e6)
                  have ff : erF[i]? = some (some (Str.ofString "line")) := (by decide : ∀ i ∈ ([13] : List Nat), erF[i]? = some (some (Str.ofString "line"))) i mm
                  obtain ⟨v, rfl⟩ := er_one hf ff
                  walk_at "sts"
                  refine ev_fldX (v := v) ?_
                  walk_at "sts"
                  refine ⟨rfl, hx, ?_⟩
                  walk_at "sts"
                  exact ⟨rfl, fun j' fs' hj' hc' hf' hx' => by rw [hx.same hx']; rfl⟩
                · walk_at "sts"
                  have mm := er_rest1 lt mo (by simp only [List.any_cons, List.any_nil, Bool.or_false, Bool.false_or, e0, e1, e2, e3, e4, e5, e6])
                  have ff : erF[i]? = some none := (by decide : ∀ i ∈ ([16, 17] : List Nat), erF[i]? = some none) i mm
                  obtain rfl := er_no hf ff
                  exact ⟨rfl, fun j' fs' hj' hc' hf' hx' => by rw [hx.same hx']; rfl⟩
end
section
variable {P : Program} {wo : World} {K : PySem.W.Frag} {mg : Str → Option Value} {base : Heap}
abbrev s__law_fields : Stmt := top 57
theorem sc__law_fields : FnScope ["_law_e"] ["_law_e"] (defScope s__law_fields) := ⟨rfl, rfl, rfl, by decide +kernel, rfl, by decide +kernel, by decide +kernel⟩
theorem bp__law_fields : BindP "_law_fields" s__law_fields ["_law_e"] := fun _ _ _ _ _ _ us hl => match us, hl with | [_], _ => rfl


theorem ok__law_fields {ec : Nat → Addr} {R : List Nat} (T : Tx mg) (d : Dn K mg "_law_fields" s__law_fields) (G : ErG mg ec) (KS : ∀ i, i ∈ R → ErK K ec i)
    (FE__law_other_fields : FkE P wo K mg base 1 "_law_other_fields" s__law_other_fields ["_law_e"] (spE K (preErO ec R) (postFlds ec R))) :
    FkE P wo K mg base 2 "_law_fields" s__law_fields ["_law_e"] (spE K (preEr ec R) (postFlds ec R)) := by
  refine fkE_ok d sc__law_fields bp__law_fields (fun a C d ds w h => by obtain ⟨rfl, _⟩ := h; rfl) fun f cdv A fr s H E a oe C d hx hr hp0 => ?_
  obtain ⟨_, _, _, i, _, hi, rfl, _⟩ := hp0
  have hk := KS i hi
  refine ⟨_, (pss_cons (ps_if (pt_val (q_isH (K := K) hx hk.ex rfl T.b_isinstance rfl (pa_cons (pv 0) (pa_cons (pe_tup (pa_cons (k_er G 3 rfl rfl) (pa_cons (k_er G 4 rfl rfl) (pa_cons (k_er G 5 rfl rfl) (pa_cons (k_er G 6 rfl rfl) pa_nil))))) pa_nil)))) (pss_one (ps_ret (pe_lst (pa_cons (pe_fldH hx hk.xf (hk.no _ (by decide)) (pv 0)) pa_nil)))) pss_nil) (pss_cons (ps_if (pt_val (q_isH (K := K) hx hk.ex rfl T.b_isinstance rfl (pa_cons (pv 0) (pa_cons (pe_tup (pa_cons (k_er G 11 rfl rfl) (pa_cons (k_er G 12 rfl rfl) pa_nil))) pa_nil)))) (pss_one (ps_ret (pe_lst (pa_cons (pe_fldH hx hk.xf (hk.no _ (by decide)) (pv 0)) pa_nil)))) pss_nil) (pss_cons (ps_if (pt_val (q_isH (K := K) hx hk.ex rfl T.b_isinstance rfl (pa_cons (pv 0) (pa_cons (k_er G 14 rfl rfl) pa_nil)))) (pss_one (ps_ret (pe_lst (pa_cons (pe_fldH hx hk.xf (hk.no _ (by decide)) (pv 0)) pa_nil)))) pss_nil) (pss_cons (ps_if (pt_val (q_isH (K := K) hx hk.ex rfl T.b_isinstance rfl (pa_cons (pv 0) (pa_cons (pe_tup (pa_cons (k_er G 0 rfl rfl) (pa_cons (k_er G 15 rfl rfl) pa_nil))) pa_nil)))) (pss_one (ps_ret (pe_lst (pa_cons (pe_fldH hx hk.xf (hk.no _ (by decide)) (pv 0)) pa_nil)))) pss_nil) (pss_cons (ps_if (pt_val (q_isH (K := K) hx hk.ex rfl T.b_isinstance rfl (pa_cons (pv 0) (pa_cons (pe_tup (pa_cons (k_er G 18 rfl rfl) (pa_cons (k_er G 19 rfl rfl) pa_nil))) pa_nil)))) (pss_one (ps_ret (pe_lst (pa_cons (pe_fldH hx hk.xf (hk.no _ (by decide)) (pv 0)) pa_nil)))) pss_nil) (pss_one (ps_ret (pe_fE FE__law_other_fields hx (hr.mono (by decide)) rfl (pa_cons (pv 0) pa_nil))))))))), fun ds w hp => ?_⟩
  · obtain ⟨rfl, i', fs, hi', hc, hf, hx⟩ := hp
    have ei := er_inj hk (KS i' hi') hc; subst ei
    have dk := hx.dict
    have lt := hk.lt
    walk_at "sts"
    refine ol_isHs [3, 4, 5, 6] hk dk (by decide) ?_
    first | refine ⟨_, rfl, ?_⟩ | skip
    refine if_2 (fun e0 => ?_) (fun e0 => ?_)
    · have mm := er_mem lt (js := [3, 4, 5, 6]) (by decide) e0
      have ff : erF[i]? = some (some (Str.ofString "index")) := (by decide : ∀ i ∈ ([3, 4, 5, 6] : List Nat), erF[i]? = some (some (Str.ofString "index"))) i mm
      obtain ⟨v, rfl⟩ := er_one hf ff
      walk_at "sts"
      refine ev_fldX (v := v) ?_
      walk_at "sts"
      refine ⟨rfl, hx, ?_⟩
      walk_at "sts"
      exact ⟨rfl, fun j' fs' hj' hc' hf' hx' => by rw [hx.same hx']; rfl⟩
    · skip
      walk_at "sts"
      refine ol_isHs [11, 12] hk dk (by decide) ?_
      first | refine ⟨_, rfl, ?_⟩ | skip
      refine if_2 (fun e1 => ?_) (fun e1 => ?_)
      · have mm := er_mem lt (js := [11, 12]) (by decide) e1
        have ff : erF[i]? = some (some (Str.ofString "index")) := (by decide : ∀ i ∈ ([11, 12] : List Nat), erF[i]? = some (some (Str.ofString "index"))) i mm
        obtain ⟨v, rfl⟩ := er_one hf ff
        walk_at "sts"
        refine ev_fldX (v := v) ?_
        walk_at "sts"
        refine ⟨rfl, hx, ?_⟩
        walk_at "sts"
        exact ⟨rfl, fun j' fs' hj' hc' hf' hx' => by rw [hx.same hx']; rfl⟩
      · skip
        walk_at "sts"
        refine ol_isH dk (hk.kit _ (by decide)) ?_
        first | refine ⟨_, rfl, ?_⟩ | skip
        refine if_2 (fun e2 => ?_) (fun e2 => ?_)
        · have mm := er_mem lt (js := [14]) (by decide) (er_any1 e2)
          have ff : erF[i]? = some (some (Str.ofString "value")) := (by decide : ∀ i ∈ ([14] : List Nat), erF[i]? = some (some (Str.ofString "value"))) i mm
          obtain ⟨v, rfl⟩ := er_one hf ff
          walk_at "sts"
          refine ev_fldX (v := v) ?_
          walk_at "sts"
          refine ⟨rfl, hx, ?_⟩
          walk_at "sts"
          exact ⟨rfl, fun j' fs' hj' hc' hf' hx' => by rw [hx.same hx']; rfl⟩
        · skip
          walk_at "sts"
          refine ol_isHs [0, 15] hk dk (by decide) ?_
          first | refine ⟨_, rfl, ?_⟩ | skip
          refine if_2 (fun e3 => ?_) (fun e3 => ?_)
          · have mm := er_mem lt (js := [0, 15]) (by decide) e3
            have ff : erF[i]? = some (some (Str.ofString "capacity")) := (by decide : ∀ i ∈ ([0, 15] : List Nat), erF[i]? = some (some (Str.ofString "capacity"))) i mm
            obtain ⟨v, rfl⟩ := er_one hf ff
            walk_at "sts"
            refine ev_fldX (v := v) ?_
            walk_at "sts"
            refine ⟨rfl, hx, ?_⟩
            walk_at "sts"
            exact ⟨rfl, fun j' fs' hj' hc' hf' hx' => by rw [hx.same hx']; rfl⟩
          · skip
            walk_at "sts"
            refine ol_isHs [18, 19] hk dk (by decide) ?_
            first | refine ⟨_, rfl, ?_⟩ | skip
            refine if_2 (fun e4 => ?_) (fun e4 => ?_)
            · have mm := er_mem lt (js := [18, 19]) (by decide) e4
              have ff : erF[i]? = some (some (Str.ofString "found")) := (by decide : ∀ i ∈ ([18, 19] : List Nat), erF[i]? = some (some (Str.ofString "found"))) i mm
              obtain ⟨v, rfl⟩ := er_one hf ff
              walk_at "sts"
              refine ev_fldX (v := v) ?_
              walk_at "sts"
              refine ⟨rfl, hx, ?_⟩
              walk_at "sts"
              exact ⟨rfl, fun j' fs' hj' hc' hf' hx' => by rw [hx.same hx']; rfl⟩
            · walk_at "sts"
              have mo := er_rest2 lt (by simp only [List.any_cons, List.any_nil, Bool.or_false, Bool.or_eq_false_iff] at e0 e1 e2 e3 e4 ⊢; exact ⟨e0.1, e0.2.1, e0.2.2.1, e0.2.2.2, e1.1, e1.2, e2, e3.1, e3.2, e4⟩)
              refine ev_callE ?_
              walk_at "sts"
              refine ⟨⟨rfl, i, fs, hi', rfl, hf, hx, mo⟩, ?_⟩
              rintro x w1 ⟨rfl, hk2⟩
              have hk2 := hk2 i fs hi' rfl hf hx
              subst hk2
              walk_at "sts"
              exact ⟨rfl, fun j' fs' hj' hc' hf' hx' => by rw [hx.same hx']⟩
end
section
variable {P : Program} {wo : World} {K : PySem.W.Frag} {mg : Str → Option Value} {base : Heap}
abbrev s__law_caught : Stmt := top 59
theorem sc__law_caught : FnScope ["_law_call", "_law_e"] ["_law_call"] (defScope s__law_caught) := ⟨rfl, rfl, rfl, by decide +kernel, rfl, by decide +kernel, by decide +kernel⟩
theorem bp__law_caught : BindP "_law_caught" s__law_caught ["_law_call"] := fun _ _ _ _ _ _ us hl => match us, hl with | [_], _ => rfl


theorem ok__law_caught {ec : Nat → Addr} {R : List Nat} (T : Tx mg) (d : Dn K mg "_law_caught" s__law_caught) (G : ErG mg ec) (KS : ∀ i, i ∈ R → ErK K ec i)
    (FE__law_fields : FkE P wo K mg base 2 "_law_fields" s__law_fields ["_law_e"] (spE K (preEr ec R) (postFlds ec R)))
    (FE__law_kind : FkE P wo K mg base 1 "_law_kind" s__law_kind ["_law_e"] (spE K (preEr ec R) (postKind ec R))) :
    Cgt P wo K mg base ec R s__law_caught :=
  cgt_ok ⟨⟨_, _, _, _, _, _, _, _, _, _, _, _, _, _, _, _, _, _, _, _, _, _, rfl⟩, sc__law_caught, rfl, rfl, rfl, rfl, rfl, rfl, rfl⟩ d bp__law_caught G KS FE__law_kind FE__law_fields

end
section
variable {P : Program} {wo : World} {K : PySem.W.Frag} {mg : Str → Option Value} {base : Heap}
abbrev s__law_run_right : Stmt := top 60
theorem sc__law_run_right : FnScope ["_law_run", "_law_letters", "_law_letter"] ["_law_run"] (defScope s__law_run_right) := ⟨rfl, rfl, rfl, by decide +kernel, rfl, by decide +kernel, by decide +kernel⟩
theorem bp__law_run_right : BindP "_law_run_right" s__law_run_right ["_law_run"] := fun _ _ _ _ _ _ us hl => match us, hl with | [_], _ => rfl


theorem ok__law_run_right (T : Tx mg) (d : Dn K mg "_law_run_right" s__law_run_right) :
    Fk P wo K mg base CX0 1 "_law_run_right" s__law_run_right ["_law_run"] (SpD K preAsc (postIs fPairD) zN) := by
  refine fk_ok d sc__law_run_right bp__law_run_right (fun ds w h => by first | (unfold preAsc at h; (repeat (first | (obtain ⟨rfl, _⟩ := h; rfl) | (obtain ⟨_, h⟩ := h))); done) | (unfold preAsc at h; split at h <;> first | rfl | exact h.elim) | (dsimp only at h; unfold preAsc at h; split at h <;> first | rfl | exact h.elim)) fun f cdv A fr s H E hg hr => ⟨_, (pss_cons (ps_if (PW.pt (pw_or (pt_not (pt_val (q_isi (K := K) rfl T.b_isinstance rfl (pa_cons (pv 0) (pa_cons (c_tuple T.b_tuple rfl) pa_nil))))) (pw_or (pt_cmpR op_ne (q_len (K := K) rfl T.b_len rfl (pa_cons (pv 0) pa_nil)) pe_int (nomark _)) (pw_or (pt_not (pt_val (q_isi (K := K) rfl T.b_isinstance rfl (pa_cons (pe_ix (qx_tup (K := K) rfl) (pv 0) pe_int (fun _ _ => rfl)) (pa_cons (c_str T.b_str rfl) pa_nil))))) (pw_or1 (pt_not (pt_chain op_lt op_lt pe_int (q_len (K := K) rfl T.b_len rfl (pa_cons (pe_ix (qx_tup (K := K) rfl) (pv 0) pe_int (fun _ _ => rfl)) pa_nil)) pe_int))))))) (pss_one (ps_ret pe_bl)) pss_nil) (pss_cons (ps_setLc (i := 1) (own := [("_law_letter", 2)]) rfl sc__law_run_right.nd rfl rfl (sw_true rfl rfl rfl (by decide +kernel)) (pi_str (pe_ix (qx_tup (K := K) rfl) (pv 0) pe_int (fun _ _ => rfl))) (blkOk_by (N := ["_law_run", "_law_letters", "_law_letter"]) (sc := defScope s__law_run_right) (by decide +kernel)) (fun _ _ _ _ _ => (pg_name (i := 2) sc__law_run_right.nd rfl (Or.inl rfl) (hf := Or.inr rfl))) (fun _ _ _ _ _ => pts_nil) (fun _ _ _ _ _ => (pe_cmpR op_in_sign (pv 2) pe_str rfl))) (pss_one (ps_ret (pe_and (q_all (K := K) rfl rfl T.b_all rfl (pa_cons (pv 1) pa_nil)) (pe_and (q_isi (K := K) rfl T.b_isinstance rfl (pa_cons (pe_ix (qx_tup (K := K) rfl) (pv 0) pe_int (fun _ _ => rfl)) (pa_cons (c_int T.b_int rfl) pa_nil))) (pe_and (pe_not (q_isi (K := K) rfl T.b_isinstance rfl (pa_cons (pe_ix (qx_tup (K := K) rfl) (pv 0) pe_int (fun _ _ => rfl)) (pa_cons (c_bool T.b_bool rfl) pa_nil)))) (pe_one (pe_cmpR op_gt (pe_ix (qx_tup (K := K) rfl) (pv 0) pe_int (fun _ _ => rfl)) pe_int (nomark _)))))))))), fun ds w hp => ?_⟩
  · obtain ⟨d, rfl, hf, hasc⟩ := hp
    have hk : kn d := fine_kn hf
    walk_at "sts"
    refine if_2 (fun e => ?_) (fun e => ?_)
    · have e : isiTup d = false := by simpa using e
      repeat refine if_t rfl ?_
      walk_at "sts"
      refine ⟨rfl, ?_⟩
      cases d <;> first | rfl | cases e
    · have e : isiTup d = true := by simpa using e
      cases d with
      | tup ds =>
        by_cases l2 : ds.length = 2
        · obtain ⟨a, b, rfl⟩ : ∃ a b, ds = [a, b] := by
            match ds, l2 with
            | [a, b], _ => exact ⟨a, b, rfl⟩
          have ha : fine a = true ∧ fine b = true := by simpa [fine, fineA] using hf
          have ka : kn a := fine_kn ha.1
          have kb : kn b := fine_kn ha.2
          walk_at "sts"
          refine if_f (by simp) ?_
          walk_at "sts"
          refine if_2 (fun e2 => ?_) (fun e2 => ?_)
          · have e2 : isiStr a = false := by simpa using e2
            repeat refine if_t rfl ?_
            walk_at "sts"
            refine ⟨rfl, ?_⟩
            show D.bl false = D.bl (nameD a && posD b)
            cases a <;> first | rfl | cases e2
          · have e2 : isiStr a = true := by simpa using e2
            cases a with
            | str x =>
              have hxl : x.length ≤ 5000 := of_decide_eq_true (show decide (x.length ≤ 5000) = true from by simpa [fine] using ha.1)
              walk_at "sts"
              refine if_2 (fun e3 => ?_) (fun e3 => ?_)
              · have e3 := of_decide_eq_true e3
                walk_at "sts"
                refine if_2 (fun e4 => ?_) (fun e4 => ?_)
                · have e4 : ¬ (x.length < 9) := by have q : ¬ ((x.length : Int) < 9) := (by simpa using e4); omega
                  repeat refine if_t rfl ?_
                  walk_at "sts"
                  exact ⟨rfl, low_none hasc (low_not2 e4)⟩
                · have e4 : x.length < 9 := by have q : ((x.length : Int) < 9) := (by simpa using e4); omega
                  walk_at "sts"
                  refine lc_map (f := letF) (gl_name (by decide)) (ei_str ?_)
                  walk_at "sts"
                  refine ⟨by unfold chrD; rw [List.length_map, sizeLine_eq]; have := len_cps x; omega, fun l c i d hl hd => ?_, ?_⟩
                  · obtain ⟨c0, rfl⟩ := chr_one (List.mem_of_getElem? hd)
                    walk_at "sts"
                    refine o2_inC ?_
                    exact ⟨rfl, rfl⟩
                  · rw [let_map]
                    have hasc : ascS x = true := hasc
                    walk_at "sts"
                    refine ol_all ?_
                    rw [all_low]
                    walk_at "sts"
                    refine if_2 (fun e5 => ?_) (fun e5 => ?_)
                    · have e5 : x.cps.toList.all lowC = true := e5
                      have hl := low_yes (by omega) e4 e5
                      have pe : pairD (.tup [.str x, b]) = posD b := by rw [pair_low hasc, hl]; rfl
                      have fe : fPairD [.tup [.str x, b]] = .bl (posD b) := congrArg D.bl pe
                      walk_at "sts"
                      cases b with
                      | bl b =>
                        repeat refine if_t rfl ?_
                        walk_at "sts"
                        repeat refine if_f rfl ?_
                        exact ⟨rfl, fe.symm⟩
                      | int i =>
                        repeat refine if_t rfl ?_
                        walk_at "sts"
                        repeat refine if_t rfl ?_
                        walk_at "sts"
                        refine ⟨rfl, ?_⟩
                        rw [fe]
                        show D.bl _ = D.bl (decide (i ≥ 1))
                        rw [show decide ((0 : Int) < i) = decide (i ≥ 1) from by rw [Bool.eq_iff_iff]; simp; omega]
                      | non | str _ | byt _ | lst _ | tup _ | emp =>
                        refine if_f rfl ?_
                        exact ⟨rfl, fe.symm⟩
                      | _ => cases kb
                    · have e5 : x.cps.toList.all lowC = false := e5
                      exact ⟨rfl, low_none hasc (low_not3 e5)⟩
              · have e3 : ¬ (0 < x.length) := by simpa using e3
                walk_at "sts"
                repeat refine if_t rfl ?_
                walk_at "sts"
                exact ⟨rfl, low_none hasc (low_not1 e3)⟩
            | _ => cases e2
        · walk_at "sts"
          refine if_t (by rw [decide_eq_false (by omega)]; rfl) ?_
          repeat refine if_t rfl ?_
          walk_at "sts"
          refine ⟨rfl, ?_⟩
          show D.bl false = D.bl (pairD (.tup ds))
          rw [pairD_len l2]
      | _ => cases e
end
section
variable {P : Program} {wo : World} {K : PySem.W.Frag} {mg : Str → Option Value} {base : Heap}
abbrev s__law_due : Stmt := top 61
theorem sc__law_due : FnScope ["_law_path_here", "_law_seen", "_law_at", "_law_run"] ["_law_path_here"] (defScope s__law_due) := ⟨rfl, rfl, rfl, by decide +kernel, rfl, by decide +kernel, by decide +kernel⟩
theorem bp__law_due : BindP "_law_due" s__law_due ["_law_path_here"] := fun _ _ _ _ _ _ us hl => match us, hl with | [_], _ => rfl


theorem ok__law_due (T : Tx mg) (d : Dn K mg "_law_due" s__law_due)
    (F__law_run_right : Fk P wo K mg base CX0 1 "_law_run_right" s__law_run_right ["_law_run"] (SpD K preAsc (postIs fPairD) zN)) :
    Fk P wo K mg base CX0 2 "_law_due" s__law_due ["_law_path_here"] (SpD K preDue7 (postIs fDue7) zN) := by
  refine fk_ok d sc__law_due bp__law_due (fun ds w h => by first | (unfold preDue7 at h; (repeat (first | (obtain ⟨rfl, _⟩ := h; rfl) | (obtain ⟨_, h⟩ := h))); done) | (unfold preDue7 at h; split at h <;> first | rfl | exact h.elim) | (dsimp only at h; unfold preDue7 at h; split at h <;> first | rfl | exact h.elim)) fun f cdv A fr s H E hg hr => ⟨_, (pss_cons (ps_if (pt_not (pt_val (q_isi (K := K) rfl T.b_isinstance rfl (pa_cons (pv 0) (pa_cons (c_tuple T.b_tuple rfl) pa_nil))))) (pss_one (ps_ret pe_non)) pss_nil) (pss_cons (ps_set (i := 1) sc__law_due.nd rfl (Or.inl rfl) (pe_lst pa_nil)) (pss_cons (ps_for PassesOwn.never rfl (qi_enT (K := K) rfl rfl T.b_enumerate (pa_cons (pv 0) pa_nil)) (qg_tup (K := K) (n := 2) rfl rfl (pgs_cons (pg_name (i := 2) sc__law_due.nd rfl (Or.inl rfl) (hf := Or.inl rfl)) (pgs_cons (pg_name (i := 3) sc__law_due.nd rfl (Or.inl rfl) (hf := Or.inl rfl)) pgs_nil)) rfl) (pss_cons (ps_if (PW.pt (pw_or (pt_cmpR op_gt (pv 2) pe_int (nomark _)) (pw_or1 (pt_not (pt_val (pe_f F__law_run_right hg (hr.mono (by decide)) rfl pass0 (pa_cons (pv 3) pa_nil))))))) (pss_one (ps_ret (pv 2))) pss_nil) (pss_cons (ps_set (i := 1) sc__law_due.nd rfl (Or.inl rfl) (pe_ifExp (pt_cmpR (qo_inL (K := K) rfl) (pe_ix (qx_tup (K := K) rfl) (pv 3) pe_int (fun _ _ => rfl)) (pv 1) rfl) (pv 1) (pe_op op_cat (pv 1) (pe_lst (pa_cons (pe_ix (qx_tup (K := K) rfl) (pv 3) pe_int (fun _ _ => rfl)) pa_nil))))) (pss_one (ps_if (pt_cmpR op_gt (q_len (K := K) rfl T.b_len rfl (pa_cons (pv 1) pa_nil)) pe_int (nomark _)) (pss_one (ps_ret (pv 2))) pss_nil))))) (pss_one (ps_ret (pe_un un_neg pe_int)))))), fun ds w hp => ?_⟩
  · obtain ⟨d, rfl, hf, hasc, hl⟩ := hp
    have hk : kn d := fine_kn hf
    walk_at "sts"
    refine if_2 (fun e => ?_) (fun e => ?_)
    · have e : isiTup d = false := by simpa using e
      walk_at "sts"
      refine ⟨rfl, ?_⟩
      cases d <;> first | rfl | cases e
    · have e : isiTup d = true := by simpa using e
      cases d with
      | tup ds =>
        have hfa : fineA ds = true := fine_tup hf
        have hal : ∀ x ∈ ds, ascD x = true := List.all_eq_true.mp hasc
        have hl : ds.length ≤ 2000 := hl
        walk_at "sts"
        refine sd_for (ei_enT ?_)
        walk_at "sts"
        refine ⟨fun i δ' w' => ∃ (ns : List Str) (x y : Option D), δ' = [some (.tup ds), some (.lst (ns.map D.str)), x, y] ∧ w' = w ∧ RI ds i ns, ⟨[], _, _, rfl, rfl, ri_0⟩, ?_, ?_⟩
        · rintro i e δ' w' he ⟨ns, x, y, rfl, rfl, g⟩
          obtain ⟨dd, hdd, rfl⟩ := enD_get he
          have hi : i < ds.length := (List.getElem?_eq_some_iff.mp hdd).1
          have hdf : fine dd = true := fineA_get hfa hdd
          have hda : ascD dd = true := hal dd (List.mem_of_getElem? hdd)
          walk_at "sts"
          refine if_2 (fun e1 => ?_) (fun e1 => ?_)
          · have e1 := of_decide_eq_true e1
            repeat refine if_t rfl ?_
            walk_at "sts"
            exact ⟨rfl, (ri_stop g hdd (.inl (by omega))).symm⟩
          · have e1 : ¬ 999 < i := by have := of_decide_eq_false e1; omega
            walk_at "sts"
            refine ev_call ?_
            walk_at "sts"
            refine ⟨⟨dd, rfl, hdf, hda⟩, ?_⟩
            rintro _ w2 ⟨rfl, rfl⟩
            have efp : fPairD [dd] = .bl (pairD dd) := rfl
            rw [efp]
            walk_at "sts"
            cases q : pairD dd with
            | false =>
              refine if_t rfl ?_
              walk_at "sts"
              exact ⟨rfl, (ri_stop g hdd (.inr q)).symm⟩
            | true =>
              obtain ⟨n, c, rfl, hn, hc⟩ := pairD_shape q
              refine if_f rfl ?_
              walk_at "sts"
              refine o2_inL ?_
              refine ⟨_, rfl, ?_⟩
              refine ev_ite2 (fun d w1 => d = .lst ((insS ns n).map D.str) ∧ w1 = w2) (fun e => ?_) (fun e => ?_) ?_
              · walk_at "sts"
                unfold insS
                rw [if_pos (of_decide_eq_true e)]
                exact ⟨rfl, rfl⟩
              · walk_at "sts"
                refine o2_catL (by rw [List.length_map, sizeLine_eq]; have := g.2.1; simp; omega) ?_
                unfold insS
                rw [if_neg (of_decide_eq_false e), List.map_append]
                exact ⟨rfl, rfl⟩
              · rintro _ _ ⟨rfl, rfl⟩
                walk_at "sts"
                rw [List.length_map]
                refine if_2 (fun e3 => ?_) (fun e3 => ?_)
                · have e3 := of_decide_eq_true e3
                  walk_at "sts"
                  exact ⟨rfl, (ri_many g hdd e1 q (by have : nmD (.tup [.str n, .int c]) = n := rfl; rw [this]; omega)).symm⟩
                · have e3 := of_decide_eq_false e3
                  walk_at "sts"
                  exact ⟨_, _, _, rfl, rfl, ri_next g hdd e1 q (by have : nmD (.tup [.str n, .int c]) = n := rfl; rw [this]; omega)⟩
        · rintro δ' w' ⟨ns, x, y, rfl, rfl, g⟩
          rw [enD_len] at g
          walk_at "sts"
          exact ⟨rfl, (due7_end g).symm⟩
      | _ => cases e
end
section
variable {P : Program} {wo : World} {K : PySem.W.Frag} {mg : Str → Option Value} {base : Heap}
abbrev s__law_odd : Stmt := top 62
theorem sc__law_odd : FnScope ["_law_pool_here", "_law_word", "_law_some"] ["_law_pool_here", "_law_word"] (defScope s__law_odd) := ⟨rfl, rfl, rfl, by decide +kernel, rfl, by decide +kernel, by decide +kernel⟩
theorem bp__law_odd : BindP "_law_odd" s__law_odd ["_law_pool_here", "_law_word"] := fun _ _ _ _ _ _ us hl => match us, hl with | [_, _], _ => rfl


theorem ok__law_odd (T : Tx mg) (d : Dn K mg "_law_odd" s__law_odd)
    (F__law_draw : Fk P wo K mg base CX0 1 "_law_draw" s__law_draw ["_law_pool_here", "_law_many"] (SpD K preDraw postDraw zN)) :
    Fk P wo K mg base CX0 2 "_law_odd" s__law_odd ["_law_pool_here", "_law_word"] (SpD K preOdd5 postOddR zN) := by
  refine fk_ok d sc__law_odd bp__law_odd (fun ds w h => by first | (unfold preOdd5 at h; (repeat (first | (obtain ⟨rfl, _⟩ := h; rfl) | (obtain ⟨_, h⟩ := h))); done) | (unfold preOdd5 at h; split at h <;> first | rfl | exact h.elim) | (dsimp only at h; unfold preOdd5 at h; split at h <;> first | rfl | exact h.elim)) fun f cdv A fr s H E hg hr => ⟨_, (pss_cons (ps_set (i := 2) sc__law_odd.nd rfl (Or.inl rfl) (pe_lst (pa_cons pe_non (pa_cons pe_int (pa_cons pe_str (pa_cons (pe_tup pa_nil) (pa_cons (pe_tup (pa_cons pe_str pa_nil)) (pa_cons (pe_tup (pa_cons pe_str (pa_cons pe_int (pa_cons pe_int pa_nil)))) (pa_cons (pe_lst (pa_cons pe_str (pa_cons pe_int pa_nil))) (pa_cons (pe_tup (pa_cons pe_str (pa_cons pe_int pa_nil))) (pa_cons (pe_tup (pa_cons pe_str (pa_cons pe_int pa_nil))) (pa_cons (pe_tup (pa_cons pe_str (pa_cons pe_int pa_nil))) (pa_cons (pe_tup (pa_cons (pv 1) (pa_cons pe_int pa_nil))) (pa_cons (pe_tup (pa_cons (pv 1) (pa_cons (pe_un un_neg pe_int) pa_nil))) pa_nil)))))))))))))) (pss_cons (ps_set (i := 2) sc__law_odd.nd rfl (Or.inl rfl) (pe_op op_cat (pv 2) (pe_lst (pa_cons (pe_tup (pa_cons (pv 1) (pa_cons pe_bl pa_nil))) (pa_cons (pe_tup (pa_cons (pv 1) (pa_cons pe_str pa_nil))) (pa_cons (pe_tup (pa_cons (pv 1) (pa_cons pe_non pa_nil))) (pa_cons (pe_tup (pa_cons pe_non (pa_cons pe_int pa_nil))) (pa_cons (pe_tup (pa_cons (pe_tup (pa_cons (pv 1) pa_nil)) (pa_cons pe_int pa_nil))) (pa_cons pe_dnewK (pa_cons (pe_tup (pa_cons pe_str (pa_cons pe_int pa_nil))) pa_nil)))))))))) (pss_one (ps_ret (pe_ix (qx_list (K := K) rfl) (pe_op op_cat (pv 2) (pe_lst (pa_cons (pe_tup (pa_cons (pe_lst (pa_cons (pv 1) pa_nil)) (pa_cons pe_int pa_nil))) (pa_cons (pe_tup (pa_cons pe_dnewK (pa_cons pe_int pa_nil))) (pa_cons (pe_tup (pa_cons (pv 1) (pa_cons (pe_lst (pa_cons pe_int pa_nil)) pa_nil))) (pa_cons (pe_tup (pa_cons (pv 1) (pa_cons pe_dnewK pa_nil))) pa_nil)))))) (pe_f F__law_draw hg (hr.mono (by decide)) rfl pass0 (pa_cons (pv 0) (pa_cons pe_int pa_nil))) (fun _ _ => rfl)))))), fun ds w hp => ?_⟩
  · obtain ⟨p, z, rfl, hz, hP⟩ := hp
    walk_at "sts"
    iterate 8 (first | (refine ev_demp ?_; walk_at "sts") | (refine o2_catL (by rw [sizeLine_eq]; simp) ?_; walk_at "sts") | skip)
    refine ev_draw ?_
    walk_at "sts"
    refine ⟨p, 23, rfl, by first | decide | omega, by first | decide +kernel | exact log2_1000 (by omega) (by omega), hP, fun w1 j hP1 hj0 hj1 => ?_⟩
    walk_at "sts"
    obtain ⟨d, hd, hat⟩ := at_in (L := oddR z) hj0 (by exact hj1)
    refine o2_ixL hat ?_
    exact fun p' z' e => by cases e; exact ⟨hP1, hd⟩
end
section
variable {P : Program} {wo : World} {K : PySem.W.Frag} {mg : Str → Option Value} {base : Heap}
abbrev s__law_one_right : Stmt := top 63
theorem sc__law_one_right : FnScope ["_law_path_here", "_law_due_here", "_law_results", "_law_told"] ["_law_path_here"] (defScope s__law_one_right) := ⟨rfl, rfl, rfl, by decide +kernel, rfl, by decide +kernel, by decide +kernel⟩
theorem bp__law_one_right : BindP "_law_one_right" s__law_one_right ["_law_path_here"] := fun _ _ _ _ _ _ us hl => match us, hl with | [_], _ => rfl


theorem ok__law_one_right {c__law_one_right T__law_one_right : Addr} {ec : Nat → Addr} {R : List Nat} {ts : List (Addr × Str)} (T : Tx mg) (d : DnL K mg "_law_one_right" s__law_one_right c__law_one_right T__law_one_right) (TBB : LamX.TabB base mg c__law_one_right T__law_one_right) (hTT : (T__law_one_right, ("_law_one_right.<locals>.<lambda>" : Str)) ∈ ts) (R5 : 5 ∈ R)
    (FC : Cgt P wo K mg base ec R s__law_caught)
    (F__law_due : Fk P wo K mg base CX0 2 "_law_due" s__law_due ["_law_path_here"] (SpD K preDue7 (postIs fDue7) zN))
    (F_arrivals_of : Fk P wo K mg base (L2.CX P wo) 6 "arrivals_of" s_arrivals_of ["order"] (SpD K preFine (postOkK isOrderD) (zostChkK isOrderD (ec 5) "index" ordAt)))
    (F_format_order : Fk P wo K mg base (L2.CX P wo) 6 "format_order" s_format_order ["order"] (SpD K preFO (postOkK isOrderD) (zostChkK isOrderD (ec 5) "index" ordAt)))
    (F_is_order : Fk P wo K mg base CX0 5 "is_order" s_is_order ["thing"] (SpD K (fun ds _ => okFine ds) (postKeep fIsOrder) zN))
    (F_shortened : Fk P wo K mg base (L2.CX P wo) 6 "shortened" s_shortened ["order"] (SpD K preFine (postOkK isOrderD) (zostChkK isOrderD (ec 5) "index" ordAt))) :
    Fk P wo K mg base CX0 10 "_law_one_right" s__law_one_right ["_law_path_here"] (SpD K (preOne7 ts) postOne7 zN) := by
  refine fkL_ok d sc__law_one_right bp__law_one_right (fun ds w h => by first | (unfold preOne7 at h; (repeat (first | (obtain ⟨rfl, _⟩ := h; rfl) | (obtain ⟨_, h⟩ := h))); done) | (unfold preOne7 at h; split at h <;> first | rfl | exact h.elim) | (dsimp only at h; unfold preOne7 at h; split at h <;> first | rfl | exact h.elim)) fun f A fr s H E hg hr => ⟨_, (pss_cons (ps_set (i := 1) sc__law_one_right.nd rfl (Or.inl rfl) (pe_f F__law_due hg (hr.mono (by decide)) rfl pass0 (pa_cons (pv 0) pa_nil))) (pss_cons (ps_set (i := 2) sc__law_one_right.nd rfl (Or.inl rfl) (pe_lst (pa_cons (pe_cg (k := 6) (q := ("_law_one_right.<locals>.<lambda>" : Str)) FC rfl TBB rfl rfl (hr.mono (by decide)) (LamX.lamS_by (show LamX.lamSB (defScope s__law_one_right) _ = true from by decide +kernel)) rfl (fun _ _ _ _ _ => rfl) hg (fun A outer s H E f c' hg hr => (pe_f F_arrivals_of hg (hr.mono (by decide)) rfl (passX rfl rfl rfl rfl) (pa_cons (pv 0) pa_nil)))) pa_nil))) (pss_cons (ps_expr (q_bm (K := K) rfl PySem.F.plainAttrs_list PySem.F.slot_list_append PySem.F.type_list_append mt_append (pv 2) (pa_cons (pe_cg (k := 6) (q := ("_law_one_right.<locals>.<lambda>" : Str)) FC rfl TBB rfl rfl (hr.mono (by decide)) (LamX.lamS_by (show LamX.lamSB (defScope s__law_one_right) _ = true from by decide +kernel)) rfl (fun _ _ _ _ _ => rfl) hg (fun A outer s H E f c' hg hr => (pe_f F_shortened hg (hr.mono (by decide)) rfl (passX rfl rfl rfl rfl) (pa_cons (pv 0) pa_nil)))) pa_nil))) (pss_cons (ps_expr (q_bm (K := K) rfl PySem.F.plainAttrs_list PySem.F.slot_list_append PySem.F.type_list_append mt_append (pv 2) (pa_cons (pe_cg (k := 6) (q := ("_law_one_right.<locals>.<lambda>" : Str)) FC rfl TBB rfl rfl (hr.mono (by decide)) (LamX.lamS_by (show LamX.lamSB (defScope s__law_one_right) _ = true from by decide +kernel)) rfl (fun _ _ _ _ _ => rfl) hg (fun A outer s H E f c' hg hr => (pe_f F_format_order hg (hr.mono (by decide)) rfl (passX rfl rfl rfl rfl) (pa_cons (pv 0) pa_nil)))) pa_nil))) (pss_cons (ps_if (pt_cmpR op_ne (pe_f F_is_order hg (hr.mono (by decide)) rfl pass0 (pa_cons (pv 0) pa_nil)) (pe_cmpR op_eq (pv 1) (pe_un un_neg pe_int) (nomark _)) (nomark _)) (pss_one (ps_ret pe_bl)) pss_nil) (pss_cons (ps_if (pt_cmpR op_eq (pv 1) (pe_un un_neg pe_int) (nomark _)) (pss_one (ps_ret (q_all (K := K) rfl rfl T.b_all rfl (pa_cons (pe_lc (own := [("_law_told", 3)]) rfl sc__law_one_right.nd (qi_list (K := K) rfl (pv 2)) (blkOk_by (N := ["_law_path_here", "_law_due_here", "_law_results", "_law_told"]) (sc := defScope s__law_one_right) (by decide +kernel)) (fun _ _ _ _ _ => (pg_name (i := 3) sc__law_one_right.nd rfl (Or.inl rfl) (hf := Or.inr rfl))) (fun _ _ _ _ _ => pts_nil) (fun _ _ _ _ _ => (pe_cmpR op_eq (pe_ix (qx_list (K := K) rfl) (pv 3) pe_int (fun _ _ => rfl)) pe_str (nomark _)))) pa_nil)))) pss_nil) (pss_one (ps_ret (pe_cmpR op_eq (q_reprE (K := K) rfl T.b_repr hg hr.units rfl (pa_cons (pv 2) pa_nil)) (q_reprE (K := K) rfl T.b_repr hg hr.units rfl (pa_cons (pe_op op_rep (pe_lst (pa_cons (pe_lst (pa_cons pe_str (pa_cons (pv 1) pa_nil))) pa_nil)) pe_int) pa_nil)) (nomark _)))))))))), fun ds w hp => ?_⟩
  · obtain ⟨d, rfl, ht, hpo⟩ := hp
    walk_at "stn"
    refine ev_call ?_
    walk_at "stn"
    refine ⟨⟨d, rfl, hpo.1, hpo.2.1, hpo.2.2.1⟩, ?_⟩
    rintro _ w2 ⟨rfl, rfl⟩
    walk_at "stn"
    show Ev _ _ _ (List.set (startD _ [d]) 1 (some (due7 d))) _ _ _
    refine ev_lstOwn ?_
    refine ea_cons ?_
    refine ev_cut (fun r w3 => told7 d r ∧ Keep w2 w3) (ev_lmC (ht _ hTT) fun W' => ?_) ?_
    · refine ev_callX ?_
      walk_at "stn"
      refine ⟨⟨d, rfl, hpo.1⟩, ?_, ?_⟩
      · rintro v w3 ⟨k3, hok⟩
        exact ⟨.inl ⟨hok d rfl, v, rfl⟩, k3⟩
      · intro c fs w3 h
        exact told_err7 R5 h fun r hr k => ⟨hr, k⟩
    · rintro r1 w3 ⟨h1, k3⟩
      walk_at "stn"
      intro l nl
      walk_at "stn"
      refine ⟨ty_lstO put_same, ea_cons ?_⟩
      have t3 := (ht.kp k3).put (c := .lst [r1]) nl
      refine ev_cut (fun r w4 => told7 d r ∧ Keep (put w3 l (.lst [r1])) w4) (ev_lmC (t3 _ hTT) fun W' => ?_) ?_
      · refine ev_callX ?_
        walk_at "stn"
        refine ⟨⟨d, rfl, hpo.1⟩, ?_, ?_⟩
        · rintro v w4 ⟨k4, hok⟩
          exact ⟨.inl ⟨hok d rfl, v, rfl⟩, k4⟩
        · intro c fs w4 h
          exact told_err7 R5 h fun r hr k => ⟨hr, k⟩
      · rintro r2 w4 ⟨h2, k4⟩
        walk_at "stn"
        refine om_app (keep_at k4) (by rw [sizeLine_eq]; simp) ?_
        walk_at "stn"
        refine ⟨ty_lstO put_same, ea_cons ?_⟩
        refine ev_cut (fun r w5 => told7 d r ∧ Keep (put w4 l (.lst ([r1] ++ [r2]))) w5) (ev_lmC (tw_over (TW.kp t3 k4) (keep_at k4) _ hTT) fun W' => ?_) ?_
        · refine ev_callX ?_
          walk_at "stn"
          refine ⟨⟨d, rfl, hpo.1, hpo.2.2.2⟩, ?_, ?_⟩
          · rintro v w5 ⟨k5, hok⟩
            exact ⟨.inl ⟨hok d rfl, v, rfl⟩, k5⟩
          · intro c fs w5 h
            exact told_err7 R5 h fun r hr k => ⟨hr, k⟩
        · rintro r3 w5 ⟨h3, k5⟩
          walk_at "stn"
          refine om_app (keep_at k5) (by rw [sizeLine_eq]; simp) ?_
          walk_at "stn"
          refine ev_call ?_
          walk_at "stn"
          refine ⟨hpo.1, ?_⟩
          rintro _ w6 ⟨rfl, k6⟩
          walk_at "stn"
          have efd : fDue7 [d] = due7 d := rfl
          have efo : fIsOrder [d] = .bl (isOrderD d) := rfl
          rw [efd, efo]
          have n0 := keep_free k3 nl
          have kw' : Keep w2 w6 := (keep_put ((keep_put (k3.trans (keep_un k4 nl)) n0).trans k5) n0).trans k6
          have kw6 : Keep w2 (cut w6 l) := keep_cut kw' n0
          have at6 : w6 l = some (.lst ([r1] ++ [r2] ++ [r3])) := keep_at k6
          cases q : isOrderD d with
          | true =>
            obtain ⟨v1, rfl⟩ := told7_yes h1 q
            obtain ⟨v2, rfl⟩ := told7_yes h2 q
            obtain ⟨v3, rfl⟩ := told7_yes h3 q
            rw [due7_yes q]
            walk_at "stn"
            refine o2_neB ?_
            refine ⟨_, rfl, ?_⟩
            refine if_f (by decide) ?_
            walk_at "stn"
            refine if_t (by decide) ?_
            walk_at "stn"
            refine lc_map (f := fun _ => .bl true) (gl_name (by decide)) (ei_lst (ev_frz rfl at6 ?_))
            refine ⟨_, rfl, ?_⟩
            refine ⟨by rw [sizeLine_eq]; simp, fun l5 c i e hl he => ?_, ?_⟩
            · obtain ⟨v, rfl⟩ : ∃ v, e = .lst [.str "returned", v] := by
                have hm := List.mem_of_getElem? he
                simp only [List.mem_cons, List.mem_append, List.not_mem_nil, or_false] at hm
                rcases hm with (rfl | rfl) | rfl <;> exact ⟨_, rfl⟩
              walk_at "sts"
              exact ⟨rfl, by rw [decide_eq_true rfl]⟩
            · walk_at "sts"
              refine ol_all (ns := [true, true, true]) ?_
              exact ⟨rfl, kw6⟩
          | false =>
            have e1 := told7_no h1 q
            have e2 := told7_no h2 q
            have e3 := told7_no h3 q
            subst e1 e2 e3
            have hwr := wrE3 hpo.2.2.1 q
            obtain ⟨e4, e5⟩ := due7_no q
            rw [e4]
            rcases e5 with e5 | ⟨n, e5, hn⟩
            · rw [e5] at hwr at6 ⊢
              refine o2_eqNI ?_
              refine o2_neB ?_
              refine ⟨_, rfl, ?_⟩
              refine if_f (by decide) ?_
              walk_at "stn"
              refine o2_eqNI ?_
              refine ⟨_, rfl, ?_⟩
              refine if_f rfl ?_
              walk_at "stn"
              refine ol_reprO at6 hwr ?_
              walk_at "sts"
              refine o2_rep (by decide) (by decide) (by simp) ?_
              walk_at "sts"
              refine ol_reprE rfl hwr ?_
              show Op2 K rEq (.str (pyE (.lst [.lst [.str "order", .non], .lst [.str "order", .non], .lst [.str "order", .non]])).shown) (.str (pyE (.lst [.lst [.str "order", .non], .lst [.str "order", .non], .lst [.str "order", .non]])).shown) _ _
              generalize (pyE (.lst [.lst [.str "order", .non], .lst [.str "order", .non], .lst [.str "order", .non]])).shown = z
              refine o2_eqS ?_
              exact ⟨by rw [decide_eq_true rfl], kw'⟩
            · rw [e5] at hwr at6 ⊢
              have ne : decide ((n : Int) = -1) = false := decide_eq_false (by omega)
              walk_at "stn"
              rw [ne]
              refine o2_neB ?_
              refine ⟨_, rfl, ?_⟩
              refine if_f (by decide) ?_
              walk_at "stn"
              refine if_f ne ?_
              walk_at "stn"
              refine ol_reprO at6 hwr ?_
              walk_at "sts"
              refine o2_rep (by decide) (by decide) (by simp) ?_
              walk_at "sts"
              refine ol_reprE rfl hwr ?_
              show Op2 K rEq (.str (pyE (.lst [.lst [.str "order", .int n], .lst [.str "order", .int n], .lst [.str "order", .int n]])).shown) (.str (pyE (.lst [.lst [.str "order", .int n], .lst [.str "order", .int n], .lst [.str "order", .int n]])).shown) _ _
              generalize (pyE (.lst [.lst [.str "order", .int n], .lst [.str "order", .int n], .lst [.str "order", .int n]])).shown = z
              refine o2_eqS ?_
              exact ⟨by rw [decide_eq_true rfl], kw'⟩
end
section
variable {P : Program} {wo : World} {K : PySem.W.Frag} {mg : Str → Option Value} {base : Heap}
abbrev s__law_right : Stmt := top 64
theorem sc__law_right : FnScope ["_law_pool_here", "_law_words_here", "_law_turn", "_law_path_here", "_law_at", "_law_on", "_law_bent", "_law_row", "_law_things", "_law_thing"] ["_law_pool_here"] (defScope s__law_right) := ⟨rfl, rfl, rfl, by decide +kernel, rfl, by decide +kernel, by decide +kernel⟩
theorem bp__law_right : BindP "_law_right" s__law_right ["_law_pool_here"] := fun _ _ _ _ _ _ us hl => match us, hl with | [_], _ => rfl


theorem ok__law_right {c__law_right T__law_right : Addr} {ec : Nat → Addr} {R : List Nat} {ts : List (Addr × Str)} (T : Tx mg) (d : DnL K mg "_law_right" s__law_right c__law_right T__law_right) (TBB : LamX.TabB base mg c__law_right T__law_right) (hTT : (T__law_right, ("_law_right.<locals>.<lambda>" : Str)) ∈ ts) (R7 : 7 ∈ R)
    (FC : Cgt P wo K mg base ec R s__law_caught)
    (F__law_draw : Fk P wo K mg base CX0 1 "_law_draw" s__law_draw ["_law_pool_here", "_law_many"] (SpD K preDraw postDraw zN))
    (F__law_odd : Fk P wo K mg base CX0 2 "_law_odd" s__law_odd ["_law_pool_here", "_law_word"] (SpD K preOdd5 postOddR zN))
    (F__law_one_right : Fk P wo K mg base CX0 10 "_law_one_right" s__law_one_right ["_law_path_here"] (SpD K (preOne7 ts) postOne7 zN))
    (F__law_path : Fk P wo K mg base CX0 3 "_law_path" s__law_path ["_law_pool_here", "_law_words_here", "_law_many", "_law_most"] (SpD K prePath postPath zN))
    (F__law_words : Fk P wo K mg base CX0 2 "_law_words" s__law_words ["_law_pool_here", "_law_many"] (SpD K preWords postWords zN))
    (F_parse_order : Fk P wo K mg base (L2.CX P wo) 1 "parse_order" s_parse_order ["text"] (SpD K prePO postNo (zostPO (ec 7)))) :
    Fk P wo K mg base CX0 14 "_law_right" s__law_right ["_law_pool_here"] (SpD K (preRightT ts) postRight zN) := by
  refine fkL_ok d sc__law_right bp__law_right (fun ds w h => by first | (unfold preRightT at h; (repeat (first | (obtain ⟨rfl, _⟩ := h; rfl) | (obtain ⟨_, h⟩ := h))); done) | (unfold preRightT at h; split at h <;> first | rfl | exact h.elim) | (dsimp only at h; unfold preRightT at h; split at h <;> first | rfl | exact h.elim)) fun f A fr s H E hg hr => ⟨_, (pss_cons (ps_set (i := 1) sc__law_right.nd rfl (Or.inl rfl) (pe_f F__law_words hg (hr.mono (by decide)) rfl pass0 (pa_cons (pv 0) (pa_cons (pe_op op_add pe_int (pe_f F__law_draw hg (hr.mono (by decide)) rfl pass0 (pa_cons (pv 0) (pa_cons pe_int pa_nil)))) pa_nil)))) (pss_cons (ps_for PassesOwn.never rfl (pi_range1 rfl T.b_range (pa_cons pe_int pa_nil)) (pg_name (i := 2) sc__law_right.nd rfl (Or.inl rfl) (hf := Or.inl rfl)) (pss_cons (ps_set (i := 3) sc__law_right.nd rfl (Or.inl rfl) (pe_f F__law_path hg (hr.mono (by decide)) rfl pass0 (pa_cons (pv 0) (pa_cons (pv 1) (pa_cons pe_int (pa_cons pe_int pa_nil)))))) (pss_cons (ps_par (i := 4) (j := 5) rfl sc__law_right.nd rfl rfl (by decide) rfl rfl (pa_cons (pe_f F__law_draw hg (hr.mono (by decide)) rfl pass0 (pa_cons (pv 0) (pa_cons (pe_op op_add (q_len (K := K) rfl T.b_len rfl (pa_cons (pv 3) pa_nil)) pe_int) pa_nil))) (pa_cons (pe_f F__law_draw hg (hr.mono (by decide)) rfl pass0 (pa_cons (pv 0) (pa_cons pe_int pa_nil))) pa_nil)) rfl) (pss_cons (ps_set (i := 6) sc__law_right.nd rfl (Or.inl rfl) (pe_op (qo_catA (K := K) rfl) (pe_op (qo_catA (K := K) rfl) (pe_slice (qs_tup (K := K) rfl) (pv 3) po_none (po_some (pv 4))) (pe_tup (pa_cons (pe_f F__law_odd hg (hr.mono (by decide)) rfl pass0 (pa_cons (pv 0) (pa_cons (pe_ix (qx_list (K := K) rfl) (pv 1) pe_int (fun _ _ => rfl)) pa_nil))) pa_nil))) (pe_slice (qs_tup (K := K) rfl) (pv 3) (po_some (pe_op op_add (pv 4) (pv 5))) po_none))) (pss_one (ps_if (pt_not (pt_val (q_all (K := K) rfl rfl T.b_all rfl (pa_cons (pe_lc (own := [("_law_row", 7)]) rfl sc__law_right.nd (qi_list (K := K) rfl (pe_lst (pa_cons (pv 6) (pa_cons (pv 3) (pa_cons (q_list (K := K) rfl T.b_list rfl (pa_cons (pv 3) pa_nil)) pa_nil))))) (blkOk_by (N := ["_law_pool_here", "_law_words_here", "_law_turn", "_law_path_here", "_law_at", "_law_on", "_law_bent", "_law_row", "_law_things", "_law_thing"]) (sc := defScope s__law_right) (by decide +kernel)) (fun _ _ _ _ _ => (pg_name (i := 7) sc__law_right.nd rfl (Or.inl rfl) (hf := Or.inr rfl))) (fun _ _ _ _ _ => pts_nil) (fun _ _ _ _ _ => (pe_f F__law_one_right hg (hr.mono (by decide)) rfl pass0 (pa_cons (pv 7) pa_nil)))) pa_nil)))) (pss_one (ps_ret pe_bl)) pss_nil)))))) (pss_cons (ps_set (i := 8) sc__law_right.nd rfl (Or.inl rfl) (pe_lst (pa_cons pe_non (pa_cons pe_int (pa_cons pe_bl (pa_cons (pe_tup pa_nil) (pa_cons (pe_lst pa_nil) (pa_cons pe_dnewK (pa_cons (pe_tup (pa_cons pe_str pa_nil)) (pa_cons (pe_lst (pa_cons pe_str pa_nil)) (pa_cons (pe_tup (pa_cons (pe_tup (pa_cons pe_str (pa_cons pe_int pa_nil))) pa_nil)) (pa_cons (pe_op op_pow pe_int pe_int) pa_nil)))))))))))) (pss_cons (ps_if (pt_not (pt_val (q_all (K := K) rfl rfl T.b_all rfl (pa_cons (pe_lc (own := [("_law_thing", 9)]) rfl sc__law_right.nd (qi_list (K := K) rfl (pv 8)) (blkOk_by (N := ["_law_pool_here", "_law_words_here", "_law_turn", "_law_path_here", "_law_at", "_law_on", "_law_bent", "_law_row", "_law_things", "_law_thing"]) (sc := defScope s__law_right) (by decide +kernel)) (fun _ _ _ _ _ => (pg_name (i := 9) sc__law_right.nd rfl (Or.inr rfl) (hf := Or.inl rfl))) (fun _ _ _ _ _ => pts_nil) (fun _ _ _ _ _ => (pe_cmpR op_eq (q_reprE (K := K) rfl T.b_repr hg hr.units rfl (pa_cons (q_cg (K := K) (k := 10) (q := ("_law_right.<locals>.<lambda>" : Str)) rfl FC rfl TBB rfl rfl (hr.mono (by decide)) (LamX.lamS_by (show LamX.lamSB { kind := .function, names := [(".0", .local), ("_law_thing", .cell), ("repr", .globalImplicit), ("_law_caught", .globalImplicit)], isGenerator := false, isCoroutine := false } _ = true from by decide +kernel)) rfl (fun _ _ _ _ _ => rfl) hg (fun A outer s H E f c' hg hr => (pe_f F_parse_order hg (hr.mono (by decide)) rfl (passX rfl rfl rfl rfl) (pa_cons (pv 9) pa_nil)))) pa_nil)) (q_reprE (K := K) rfl T.b_repr hg hr.units rfl (pa_cons (pe_lst (pa_cons pe_str (pa_cons (pv 9) pa_nil))) pa_nil)) (nomark _)))) pa_nil)))) (pss_one (ps_ret pe_bl)) pss_nil) (pss_one (ps_ret (q_all (K := K) rfl rfl T.b_all rfl (pa_cons (pe_lc (own := [("_law_thing", 9)]) rfl sc__law_right.nd (qi_list (K := K) rfl (pe_lst (pa_cons pe_non (pa_cons pe_int (pa_cons pe_bl (pa_cons pe_str (pa_cons pe_str (pa_cons pe_dnewK (pa_cons (pe_lst (pa_cons (pe_tup (pa_cons pe_str (pa_cons pe_int pa_nil))) pa_nil)) pa_nil))))))))) (blkOk_by (N := ["_law_pool_here", "_law_words_here", "_law_turn", "_law_path_here", "_law_at", "_law_on", "_law_bent", "_law_row", "_law_things", "_law_thing"]) (sc := defScope s__law_right) (by decide +kernel)) (fun _ _ _ _ _ => (pg_name (i := 9) sc__law_right.nd rfl (Or.inl rfl) (hf := Or.inr rfl))) (fun _ _ _ _ _ => pts_nil) (fun _ _ _ _ _ => (pe_f F__law_one_right hg (hr.mono (by decide)) rfl pass0 (pa_cons (pv 9) pa_nil)))) pa_nil)))))))), fun ds w hp => ?_⟩
  · obtain ⟨p, rfl, hP, ht⟩ := hp
    walk_at "sts"
    refine ev_words ?_
    walk_at "sts"
    refine ev_draw ?_
    walk_at "sts"
    refine ⟨p, 12, rfl, by first | decide | omega, by first | decide +kernel | exact log2_1000 (by omega) (by omega), hP, fun w1 k hP1 hk0 hk1 => ?_⟩
    walk_at "sts"
    refine ⟨p, 1 + k, rfl, by omega, by omega, hP1.self, fun w2 xs hP2 hx hxl => ?_⟩
    walk_at "sts"
    have hmA := Pm.of (hP1.trans hP2)
    obtain ⟨z, hz, hz0⟩ : ∃ z, nameS z = true ∧ atI (xs.map D.str) 0 = some (.str z) := by
      cases xs with
      | nil => simp at hxl; omega
      | cons z r => exact ⟨z, hx.1 z (List.mem_cons_self ..), at_nat (i := 0) rfl⟩
    refine sd_for (ei_rng1 ?_)
    walk_at "sts"
    refine ⟨⟨by decide, by decide⟩, fun i δ' w' => ∃ x2 x3 x4 x5 x6 x7 x8 x9 : Option D, δ' = [some (.ptr p), some (.lst (xs.map D.str)), x2, x3, x4, x5, x6, x7, x8, x9] ∧ Pm w p w', ⟨_, _, _, _, _, _, _, _, rfl, hmA⟩, ?_, ?_⟩
    · rintro i e δ' w' he ⟨x2, x3, x4, x5, x6, x7, x8, x9, rfl, hm⟩
      obtain ⟨rfl, hi⟩ := rngD_get he
      have hP' := hm.1
      walk_at "sts"
      refine ev_path ?_
      walk_at "sts"
      refine ⟨p, xs, 12, 3, rfl, hx, by omega, by omega, by decide, by decide, by decide, by decide +kernel, hP', fun w3 prs hm3 hruns hlen hpx => ?_⟩
      have sr : SR 12 (prs.map DL.prD) := by
        refine ⟨fun d hd => ?_, by rw [List.length_map]; omega⟩
        obtain ⟨⟨n, c⟩, hx', rfl⟩ := List.mem_map.mp hd
        have := hruns _ hx'
        exact elR_prd this.2.1 (Int.lt_of_le_of_lt this.2.2.2 (by decide +kernel))
      generalize prs.map DL.prD = ps at sr ⊢
      have hpl : ps.length ≤ 12 := sr.2
      walk_at "sts"
      refine ev_draw ?_
      walk_at "sts"
      refine ⟨p, (ps.length+1), rfl, by first | decide | omega, by first | decide +kernel | exact log2_1000 (by omega) (by omega), hm3.1, fun w6 j hP6 hj0 hj1 => ?_⟩
      walk_at "sts"
      refine ev_draw ?_
      walk_at "sts"
      refine ⟨p, 2, rfl, by first | decide | omega, by first | decide +kernel | exact log2_1000 (by omega) (by omega), hP6.self, fun w7 q hP7 hq0 hq1 => ?_⟩
      walk_at "sts"
      refine ⟨_, _, rfl, ?_⟩
      have so1 := sr.cut none (some j)
      have so2 := sr.cut (some (j + q)) none
      walk_at "sts"
      refine ev_call ?_
      walk_at "sts"
      refine o2_ixL hz0 ?_
      walk_at "sts"
      refine ⟨⟨p, z, rfl, hz, hP7.self⟩, ?_⟩
      rintro odd w8 hodd
      obtain ⟨hP8, hodd⟩ := hodd p z rfl
      have hodd := odd_elR hz hodd
      have soo := SR.one hodd
      walk_at "sts"
      refine o2_catT (by rw [sizeLine_eq]; have := so1.2; simp; omega) ?_
      walk_at "sts"
      refine o2_catT (by rw [sizeLine_eq]; have := so1.2; have := so2.2; simp; omega) ?_
      have hm8 := (hm.trans hm3).trans (Pm.of (hP6.trans (hP7.trans hP8)))
      walk_at "sts"
      refine lc_allK (gl_name (by decide)) (ei_lst ?_)
      walk_at "sts"
      refine ⟨fun i2 d w1 hd kw => ?_, fun w9 k9 => ?_⟩
      · have hb : pathOk d := by
          have hmm := List.mem_of_getElem? hd
          simp only [List.mem_cons, List.not_mem_nil, or_false] at hmm
          rcases hmm with rfl | rfl | rfl
          · exact ((so1.cat soo).cat so2).path (by omega)
          · exact sr.path (by omega)
          · exact sr.lst
        walk_at "sts"
        refine ev_call ?_
        walk_at "sts"
        refine ⟨⟨d, rfl, (ht.pm hP hm8).kp kw, hb⟩, ?_⟩
        rintro _ w9 ⟨rfl, k9⟩
        exact ⟨rfl, k9⟩
      · walk_at "sts"
        refine ol_all ?_
        rw [all_true]
        refine ⟨_, rfl, ?_⟩
        refine if_f rfl ?_
        walk_at "sts"
        exact ⟨_, _, _, _, _, _, _, _, rfl, hm8.keep k9⟩
    · rintro δ' w' ⟨x2, x3, x4, x5, x6, x7, x8, x9, rfl, hm⟩
      walk_at "sts"
      refine ev_demp ?_
      walk_at "sts"
      refine lc_allK (gl_name (by decide)) (ei_lst ?_)
      walk_at "sts"
      refine ⟨fun i2 d w1 hd kw => ?_, fun w9 k9 => ?_⟩
      · have hb : noTxt d := noTxt_of (show d ∈ textL from List.mem_of_getElem? hd)
        walk_at "sts"
        refine ev_cut (fun r w3 => r = .lst [.str "text", d] ∧ w3 = w1) (ev_lmC (((ht.pm hP hm).kp kw) _ hTT) fun W' => ?_) ?_
        · refine ev_callX ?_
          walk_at "sts"
          refine ⟨⟨d, rfl, hb.1, hb.2.1⟩, fun _ _ h => h.elim, ?_⟩
          rintro c fs w3 ⟨rfl, rfl, h⟩
          have h := h d rfl
          subst h
          exact ⟨7, R7, rfl, ⟨_, rfl⟩, rfl, rfl⟩
        · rintro _ w3 ⟨rfl, rfl⟩
          walk_at "sts"
          refine ol_reprE rfl hb.2.2 ?_
          walk_at "sts"
          refine ol_reprE rfl hb.2.2 ?_
          generalize (pyE (.lst [.str "text", d])).shown = zz
          refine o2_eqS ?_
          exact ⟨by rw [decide_eq_true rfl], Keep.refl _⟩
      · walk_at "sts"
        refine ol_all ?_
        rw [all_true]
        refine ⟨_, rfl, ?_⟩
        refine if_f rfl ?_
        walk_at "sts"
        refine lc_allK (gl_name (by decide)) (ei_lst ?_)
        walk_at "sts"
        refine ev_demp ?_
        walk_at "sts"
        refine ⟨fun i2 d w1 hd kw => ?_, fun w9' k9' => ?_⟩
        · have hb : pathOk d := by
            have hmm := List.mem_of_getElem? hd
            simp only [List.mem_cons, List.not_mem_nil, or_false] at hmm
            rcases hmm with rfl | rfl | rfl | rfl | rfl | rfl | rfl <;> exact path_oth (by decide +kernel) nofun
          walk_at "sts"
          refine ev_call ?_
          walk_at "sts"
          refine ⟨⟨d, rfl, ((ht.pm hP hm).kp k9).kp kw, hb⟩, ?_⟩
          rintro _ w10 ⟨rfl, k10⟩
          exact ⟨rfl, k10⟩
        · walk_at "sts"
          refine ol_all ?_
          rw [all_true]
          exact ⟨rfl, fun p' e => by cases e; exact (hm.keep k9).keep k9'⟩
end
section
variable {P : Program} {wo : World} {K : PySem.W.Frag} {mg : Str → Option Value} {base : Heap}
abbrev s_law : Stmt := top 65
theorem sc_law : FnScope ["_law_script", "_law_thirteen", "_law_far", "_law_word", "_law_some", "_law_path_here", "_law_k"] ["_law_script"] (defScope s_law) := ⟨rfl, rfl, rfl, by decide +kernel, rfl, by decide +kernel, by decide +kernel⟩
theorem bp_law : BindP "law" s_law ["_law_script"] := fun _ _ _ _ _ _ us hl => match us, hl with | [_], _ => rfl


theorem ok_law {ts : List (Addr × Str)} (T : Tx mg) (d : Dn K mg "law" s_law)
    (F__law_cell : Fk P wo K mg base CX0 1 "_law_cell" s__law_cell ["_law_script", "_law_k"] (SpD K (preCell K) postInt zN))
    (F__law_one_right : Fk P wo K mg base CX0 10 "_law_one_right" s__law_one_right ["_law_path_here"] (SpD K (preOne7 ts) postOne7 zN))
    (F__law_pool : Fk P wo K mg base CX0 1 "_law_pool" s__law_pool ["_law_cell_here"] (SpD K preInt postPool zN))
    (F__law_right : Fk P wo K mg base CX0 14 "_law_right" s__law_right ["_law_pool_here"] (SpD K (preRightT ts) postRight zN)) :
    Fk P wo K mg base CX0 15 "law" s_law ["_law_script"] (SpD K (preLawT K ts) postLaw zN) := by
  refine fk_ok d sc_law bp_law (fun ds w h => by first | (unfold preLawT at h; (repeat (first | (obtain ⟨rfl, _⟩ := h; rfl) | (obtain ⟨_, h⟩ := h))); done) | (unfold preLawT at h; split at h <;> first | rfl | exact h.elim) | (dsimp only at h; unfold preLawT at h; split at h <;> first | rfl | exact h.elim)) fun f cdv A fr s H E hg hr => ⟨_, (pss_cons (ps_par (i := 1) (j := 2) rfl sc_law.nd rfl rfl (by decide) rfl rfl (pa_cons (q_tuple (K := K) rfl T.b_tuple rfl (pa_cons (pe_lc (own := [("_law_word", 3)]) rfl sc_law.nd (pi_str pe_str) (blkOk_by (N := ["_law_script", "_law_thirteen", "_law_far", "_law_word", "_law_some", "_law_path_here", "_law_k"]) (sc := defScope s_law) (by decide +kernel)) (fun _ _ _ _ _ => (pg_name (i := 3) sc_law.nd rfl (Or.inl rfl) (hf := Or.inr rfl))) (fun _ _ _ _ _ => pts_nil) (fun _ _ _ _ _ => (pe_tup (pa_cons (pv 3) (pa_cons pe_int pa_nil))))) pa_nil)) (pa_cons (pe_op (qo_repT (K := K) rfl) (pe_tup (pa_cons (pe_tup (pa_cons pe_str (pa_cons pe_int pa_nil))) (pa_cons (pe_tup (pa_cons pe_str (pa_cons pe_int pa_nil))) pa_nil))) pe_int) pa_nil)) rfl) (pss_cons (ps_set (i := 4) sc_law.nd rfl (Or.inl rfl) (pe_lst (pa_cons (pv 1) (pa_cons (pe_op (qo_repT (K := K) rfl) (pe_slice (qs_tup (K := K) rfl) (pv 1) po_none (po_some pe_int)) pe_int) (pa_cons (pv 2) (pa_cons (pe_op (qo_catA (K := K) rfl) (pv 2) (pe_tup (pa_cons (pe_tup (pa_cons pe_str (pa_cons pe_int pa_nil))) pa_nil))) (pa_cons (pe_op (qo_catA (K := K) rfl) (pe_slice (qs_tup (K := K) rfl) (pv 1) po_none (po_some pe_int)) (pe_tup (pa_cons (pe_tup (pa_cons pe_str (pa_cons pe_int pa_nil))) (pa_cons (pe_tup (pa_cons pe_str (pa_cons pe_int pa_nil))) pa_nil)))) (pa_cons (pe_tup pa_nil) (pa_cons (pe_slice (qs_tup (K := K) rfl) (pv 2) (po_some pe_int) po_none) pa_nil))))))))) (pss_cons (ps_set (i := 4) sc_law.nd rfl (Or.inl rfl) (pe_op op_cat (pv 4) (pe_lst (pa_cons (pe_op (qo_catA (K := K) rfl) (pe_tup (pa_cons pe_non pa_nil)) (pv 2)) (pa_cons (pe_op (qo_catA (K := K) rfl) (pe_op (qo_catA (K := K) rfl) (pe_slice (qs_tup (K := K) rfl) (pv 2) po_none (po_some pe_int)) (pe_tup (pa_cons (pe_tup (pa_cons pe_str (pa_cons pe_int pa_nil))) pa_nil))) (pv 2)) (pa_cons (pe_op (qo_catA (K := K) rfl) (pe_tup (pa_cons (pe_tup (pa_cons pe_str (pa_cons pe_int pa_nil))) pa_nil)) (pv 1)) pa_nil)))))) (pss_cons (ps_if (pt_not (pt_val (q_all (K := K) rfl rfl T.b_all rfl (pa_cons (pe_lc (own := [("_law_path_here", 5)]) rfl sc_law.nd (qi_list (K := K) rfl (pv 4)) (blkOk_by (N := ["_law_script", "_law_thirteen", "_law_far", "_law_word", "_law_some", "_law_path_here", "_law_k"]) (sc := defScope s_law) (by decide +kernel)) (fun _ _ _ _ _ => (pg_name (i := 5) sc_law.nd rfl (Or.inl rfl) (hf := Or.inr rfl))) (fun _ _ _ _ _ => pts_nil) (fun _ _ _ _ _ => (pe_f F__law_one_right hg (hr.mono (by decide)) rfl pass0 (pa_cons (pv 5) pa_nil)))) pa_nil)))) (pss_one (ps_ret pe_bl)) pss_nil) (pss_one (ps_ret (q_all (K := K) rfl rfl T.b_all rfl (pa_cons (pe_lc (own := [("_law_k", 6)]) rfl sc_law.nd (pi_range1 rfl T.b_range (pa_cons (b_max2 rfl T.b_max rfl (pa_cons pe_int (pa_cons (b_min2 rfl T.b_min rfl (pa_cons (q_len (K := K) rfl T.b_len rfl (pa_cons (pv 0) pa_nil)) (pa_cons pe_int pa_nil))) pa_nil))) pa_nil)) (blkOk_by (N := ["_law_script", "_law_thirteen", "_law_far", "_law_word", "_law_some", "_law_path_here", "_law_k"]) (sc := defScope s_law) (by decide +kernel)) (fun _ _ _ _ _ => (pg_name (i := 6) sc_law.nd rfl (Or.inl rfl) (hf := Or.inr rfl))) (fun _ _ _ _ _ => pts_nil) (fun _ _ _ _ _ => (pe_f F__law_right hg (hr.mono (by decide)) rfl pass0 (pa_cons (pe_f F__law_pool hg (hr.mono (by decide)) rfl pass0 (pa_cons (pe_f F__law_cell hg (hr.mono (by decide)) rfl pass0 (pa_cons (pv 0) (pa_cons (pv 6) pa_nil))) pa_nil)) pa_nil)))) pa_nil)))))))), fun ds w hp => ?_⟩
  · obtain ⟨a, ns, rfl, hn, hS, ht⟩ := hp
    walk_at "sts"
    refine lc_map (f := withC 1) (gl_name (by decide)) (ei_str ?_)
    walk_at "sts"
    refine ⟨fun l2 c2 i2 d2 hl2 hd2 => ?_, ?_⟩
    · obtain ⟨s, rfl⟩ := chr_str _ d2 (List.mem_of_getElem? hd2)
      walk_at "sts"
      exact ⟨rfl, rfl⟩
    · walk_at "sts"
      have s13 := sr_13
      have l13 := len_13
      generalize List.map (withC 1) (chrD (Str.ofString "abcdefghijklm")) = ps at s13 l13 ⊢
      refine o2_repT (by decide) (by decide) (by decide) (by decide) ?_
      have sf : SR 1000 (List.replicate (Int.toNat 500) [D.tup [.str "a", .int 1], D.tup [.str "b", .int 2]]).flatten := SR.rep (n := 2) ⟨fun d hd => by
        simp only [List.mem_cons, List.not_mem_nil, or_false] at hd
        rcases hd with rfl | rfl <;> exact elR_c (by decide +kernel), by decide⟩ 500
      generalize (List.replicate (Int.toNat 500) [D.tup [.str "a", .int 1], D.tup [.str "b", .int 2]]).flatten = fs at sf ⊢
      have c12 := s13.cut none (some 12)
      have l12 : (cutD ps none (some 12)).length = 12 := by rw [cutD_to (by decide), List.length_take]; omega
      have cA := SR.one (d := .tup [.str "a", .int 1]) (elR_c (by decide +kernel))
      have cB : SR 2 [D.tup [.str "a", .int 1], D.tup [.str "z", .int 1]] := ⟨fun d hd => by
        simp only [List.mem_cons, List.not_mem_nil, or_false] at hd
        rcases hd with rfl | rfl <;> exact elR_c (by decide +kernel), by decide⟩
      have cN := SR.one (d := .non) (elR_c (by decide +kernel))
      have c0 := SR.one (d := .tup [.str "a", .int 0]) (elR_c (by decide +kernel))
      have f1 := sf.cut (some 1) none
      have f5 := sf.cut none (some 500)
      have l5 : (cutD fs none (some 500)).length ≤ 500 := by rw [cutD_to (by decide), List.length_take]; exact Nat.min_le_left ..
      have f5' : SR 500 (cutD fs none (some 500)) := ⟨f5.1, l5⟩
      have lf := sf.2
      walk_at "sts"
      refine ⟨_, _, rfl, ?_⟩
      walk_at "sts"
      refine o2_repT (by decide) (by decide) (by omega) (by omega) ?_
      have r12 := c12.rep (Int.toNat 2)
      walk_at "sts"
      refine o2_catT (by rw [sizeLine_eq]; simp; omega) ?_
      walk_at "sts"
      refine o2_catT (by rw [sizeLine_eq]; simp; omega) ?_
      walk_at "sts"
      refine o2_catT (by rw [sizeLine_eq]; simp; omega) ?_
      walk_at "sts"
      refine o2_catT (by rw [sizeLine_eq]; simp; omega) ?_
      walk_at "sts"
      refine o2_catT (by rw [sizeLine_eq]; simp; omega) ?_
      walk_at "sts"
      refine o2_catT (by rw [sizeLine_eq]; simp; omega) ?_
      walk_at "sts"
      refine o2_catL (by rw [sizeLine_eq]; simp) ?_
      walk_at "sts"
      refine lc_allK (gl_name (by decide)) (ei_lst ?_)
      walk_at "sts"
      refine ⟨fun i2 d w1 hd kw => ?_, fun w9 k9 => ?_⟩
      · have hb : pathOk d := by
          have hmm := List.mem_of_getElem? hd
          simp only [List.mem_append, List.mem_cons, List.not_mem_nil, or_false] at hmm
          rcases hmm with (rfl | rfl | rfl | rfl | rfl | rfl | rfl) | rfl | rfl | rfl
          · exact s13.path (by omega)
          · exact r12.path (by decide)
          · exact sf.path (by omega)
          · exact (sf.cat cA).path (by omega)
          · exact (c12.cat cB).path (by omega)
          · exact path_tup nofun (by decide)
          · exact f1.path (by omega)
          · exact (cN.cat sf).path (by omega)
          · exact ((f5'.cat c0).cat sf).path (by omega)
          · exact (c0.cat s13).path (by omega)
        walk_at "sts"
        refine ev_call ?_
        walk_at "sts"
        refine ⟨⟨d, rfl, ht.kp kw, hb⟩, ?_⟩
        rintro _ w10 ⟨rfl, k10⟩
        exact ⟨rfl, k10⟩
      · walk_at "sts"
        refine ol_all ?_
        rw [all_true]
        refine ⟨_, rfl, ?_⟩
        refine if_f rfl ?_
        have hS2 : Scr K w9 a ns := Scr.next hS fun e => k9 a e
        have ht2 := ht.kp k9
        walk_at "sts"
        refine ev_lc (gl_name (by decide)) (ei_rng1 ?_)
        walk_at "sts"
        refine ol_lenK hS2 ?_
        walk_at "sts"
        obtain ⟨q, hqe, hq0, hq8⟩ : ∃ q : Int, q = (if (if 5 < (ns.length : Int) then 5 else (ns.length : Int)) > 2 then if 5 < (ns.length : Int) then 5 else (ns.length : Int) else 2) ∧ 0 ≤ q ∧ q ≤ 5 := ⟨_, rfl, by split <;> split <;> omega, by split <;> split <;> omega⟩
        rw [← hqe]
        refine ⟨⟨by omega, by omega⟩, fun l hl => ⟨fun i acc w' => acc = List.replicate i (.bl true) ∧ w' l = some (.lst acc) ∧ Scr K w' a ns ∧ TW ts w', ⟨rfl, put_same, Scr.next hS2 fun e => put_ne fun z => e (z ▸ hl), ht2.put hl⟩, ?_, ?_⟩⟩
        · rintro i e acc w' he hacc ⟨rfl, _, hS', t'⟩
          obtain ⟨rfl, hi⟩ := rngD_get he
          rw [Int.zero_add]
          walk_at "sts"
          refine et_yes ?_
          rw [if_pos rfl]
          refine ev_call ?_
          walk_at "sts"
          refine ev_call ?_
          walk_at "sts"
          refine ev_call ?_
          walk_at "sts"
          refine ⟨⟨a, ns, i, rfl, by omega, hn, hS'⟩, ?_⟩
          rintro _ w2 ⟨hw2, c, rfl⟩
          rw [hw2]
          walk_at "sts"
          refine ⟨⟨c, rfl⟩, ?_⟩
          rintro _ w3 ⟨p, hp, rfl, hP⟩
          walk_at "sts"
          refine ⟨⟨p, rfl, hP.self, t'.keep fun b hb => hP.ne fun z => hb (z ▸ hp)⟩, ?_⟩
          rintro _ w4 ⟨rfl, hPm⟩
          have hPm := hPm p rfl
          have fr : ∀ b, w' b ≠ none → w4 b = w' b := fun b hb => by
            have nb : b ≠ p := fun z => hb (z ▸ hp)
            have e1 : w3 b = w' b := hP.ne nb
            rw [hPm.2 b nb (by rw [e1]; exact hb), e1]
          have hl4 : w4 l = some (.lst (List.replicate i (.bl true))) := by rw [fr l (by rw [hacc]; simp), hacc]
          refine ⟨hl4, by rw [List.length_replicate, sizeLine_eq]; omega, ?_, put_same, ?_, tw_over (t'.keep fr) hl4⟩
          · rw [List.replicate_succ']
          · rcases hS' with h | h
            · exact .inl h
            · have na : a ≠ l := fun z => by
                rw [z, hacc] at h
                cases h
              exact .inr (by rw [put_ne na, fr a (by rw [h]; simp)]; exact h)
        · rintro acc w' hacc ⟨rfl, _, hS', t'⟩
          walk_at "sts"
          rw [rngD_len]
          have e : List.replicate q.toNat (D.bl true) = (List.replicate q.toNat true).map D.bl := by rw [List.map_replicate]
          rw [e]
          refine ol_all ?_
          show D.bl _ = D.bl true
          rw [List.all_replicate]
          simp

end
end LW
set_option Elab.async false
set_option linter.all false
set_option autoImplicit false
set_option maxRecDepth 100000
set_option maxHeartbeats 4000000
namespace LW
open PySem PySem.Spec PyProof.Rows L2 DL
open EX
section
variable {P : Program} {wo : World} {K : PySem.W.Frag} {mg : Str → Option Value}
/-- all defs, from what the top has written -/
theorem all_ok  {ec : Nat → Addr} {c__law_one_right T__law_one_right c__law_right T__law_right : Addr} (T : Tx mg) (G : ErG mg ec) (KS : ∀ i, i ∈ [5, 7] → ErK K ec i) (ER_InvalidOrder : ErR P K mg (ec 5) "index" s_InvalidOrder___init__) (ER_InvalidText : ErR P K mg (ec 7) "text" s_InvalidText___init__) (d_is_integer : Dn K mg "is_integer" s_is_integer) (d_is_integer_from : Dn K mg "is_integer_from" s_is_integer_from) (d_is_name : Dn K mg "is_name" s_is_name) (d_is_pair : Dn K mg "is_pair" s_is_pair) (d_format_number : Dn K mg "format_number" s_format_number) (d_summed : Dn K mg "summed" s_summed) (d_good_runs : Dn K mg "good_runs" s_good_runs) (d_check_order : Dn K mg "check_order" s_check_order) (d_is_order : Dn K mg "is_order" s_is_order) (d_arrivals_of : Dn K mg "arrivals_of" s_arrivals_of) (d_shortened : Dn K mg "shortened" s_shortened) (d_format_run : Dn K mg "format_run" s_format_run) (d_format_order : Dn K mg "format_order" s_format_order) (d_parse_order : Dn K mg "parse_order" s_parse_order) (d__law_cell : Dn K mg "_law_cell" s__law_cell) (d__law_pool : Dn K mg "_law_pool" s__law_pool) (d__law_draw : Dn K mg "_law_draw" s__law_draw) (d__law_words : Dn K mg "_law_words" s__law_words) (d__law_often : Dn K mg "_law_often" s__law_often) (d__law_path : Dn K mg "_law_path" s__law_path) (d__law_kind : Dn K mg "_law_kind" s__law_kind) (d__law_other_fields : Dn K mg "_law_other_fields" s__law_other_fields) (d__law_fields : Dn K mg "_law_fields" s__law_fields) (d__law_caught : Dn K mg "_law_caught" s__law_caught) (d__law_run_right : Dn K mg "_law_run_right" s__law_run_right) (d__law_due : Dn K mg "_law_due" s__law_due) (d__law_odd : Dn K mg "_law_odd" s__law_odd) (d__law_one_right : DnL K mg "_law_one_right" s__law_one_right c__law_one_right T__law_one_right) (d__law_right : DnL K mg "_law_right" s__law_right c__law_right T__law_right) (d_law : Dn K mg "law" s_law) {fa : Addr} (e : mg "law" = some (.ref fa)) :
    ∃ fd : FuncData, Binds K fd ["_law_script"] [] ∧ ∀ base : Heap, (K.In base ∧ base.Ns mainGlobals mg ∧ ∀ p ∈ ([(c__law_one_right, T__law_one_right), (c__law_right, T__law_right)] : List (Addr × Addr)), LamX.TabB base mg p.1 p.2) → Gn P wo K mg base CX0 15 fa fd ["_law_script"] (SpD K (preLawT K [(T__law_one_right, ("_law_one_right.<locals>.<lambda>" : Str)), (T__law_right, ("_law_right.<locals>.<lambda>" : Str))]) postLaw zN) := by
  refine gn_end (fun base hz => ?_) d_law bp_law e
  have F_is_integer := ok_is_integer (P := P) (wo := wo) (base := base) T d_is_integer 
  have F_is_integer_from := ok_is_integer_from (P := P) (wo := wo) (base := base) T d_is_integer_from F_is_integer
  have F_is_name := ok_is_name (P := P) (wo := wo) (base := base) T d_is_name 
  have F_is_pair := ok_is_pair (P := P) (wo := wo) (base := base) T d_is_pair F_is_name F_is_integer_from
  have F_format_number := ok_format_number (P := P) (wo := wo) (base := base) T d_format_number 
  have F_summed := ok_summed (P := P) (wo := wo) (base := base) T d_summed 
  have F_good_runs := ok_good_runs (P := P) (wo := wo) (base := base) T d_good_runs F_is_pair
  have F_check_order := ok_check_order (P := P) (wo := wo) (base := base) T d_check_order G ER_InvalidOrder F_good_runs
  have F_is_order := ok_is_order (P := P) (wo := wo) (base := base) T d_is_order F_good_runs
  have F_arrivals_of := ok_arrivals_of (P := P) (wo := wo) (base := base) T d_arrivals_of F_check_order F_summed
  have F_shortened := ok_shortened (P := P) (wo := wo) (base := base) T d_shortened F_check_order
  have F_format_run := ok_format_run (P := P) (wo := wo) (base := base) T d_format_run F_format_number
  have F_format_order := ok_format_order (P := P) (wo := wo) (base := base) T d_format_order F_check_order F_format_run
  have F_parse_order := ok_parse_order (P := P) (wo := wo) (base := base) T d_parse_order G ER_InvalidText
  have F__law_cell := ok__law_cell (P := P) (wo := wo) (base := base) T d__law_cell 
  have F__law_pool := ok__law_pool (P := P) (wo := wo) (base := base) T d__law_pool 
  have F__law_draw := ok__law_draw (P := P) (wo := wo) (base := base) T d__law_draw 
  have F__law_words := ok__law_words (P := P) (wo := wo) (base := base) T d__law_words F__law_draw
  have F__law_often := ok__law_often (P := P) (wo := wo) (base := base) T d__law_often F__law_draw
  have F__law_path := ok__law_path (P := P) (wo := wo) (base := base) T d__law_path F__law_draw F__law_often
  have F__law_kind := ok__law_kind (P := P) (wo := wo) (base := base) (R := [5, 7]) T d__law_kind G KS
  have F__law_other_fields := ok__law_other_fields (P := P) (wo := wo) (base := base) (R := [5, 7]) T d__law_other_fields G KS
  have F__law_fields := ok__law_fields (P := P) (wo := wo) (base := base) (R := [5, 7]) T d__law_fields G KS F__law_other_fields
  have F__law_caught := ok__law_caught (P := P) (wo := wo) (base := base) (R := [5, 7]) T d__law_caught G KS F__law_fields F__law_kind
  have F__law_run_right := ok__law_run_right (P := P) (wo := wo) (base := base) T d__law_run_right 
  have F__law_due := ok__law_due (P := P) (wo := wo) (base := base) T d__law_due F__law_run_right
  have F__law_odd := ok__law_odd (P := P) (wo := wo) (base := base) T d__law_odd F__law_draw
  have F__law_one_right := ok__law_one_right (P := P) (wo := wo) (base := base) (R := [5, 7]) (ts := [(T__law_one_right, ("_law_one_right.<locals>.<lambda>" : Str)), (T__law_right, ("_law_right.<locals>.<lambda>" : Str))]) T d__law_one_right (hz.2.2 (c__law_one_right, T__law_one_right) (by simp)) (by simp) (by decide) F__law_caught F__law_due F_arrivals_of F_format_order F_is_order F_shortened
  have F__law_right := ok__law_right (P := P) (wo := wo) (base := base) (R := [5, 7]) (ts := [(T__law_one_right, ("_law_one_right.<locals>.<lambda>" : Str)), (T__law_right, ("_law_right.<locals>.<lambda>" : Str))]) T d__law_right (hz.2.2 (c__law_right, T__law_right) (by simp)) (by simp) (by decide) F__law_caught F__law_draw F__law_odd F__law_one_right F__law_path F__law_words F_parse_order
  have F_law := ok_law (P := P) (wo := wo) (base := base) (ts := [(T__law_one_right, ("_law_one_right.<locals>.<lambda>" : Str)), (T__law_right, ("_law_right.<locals>.<lambda>" : Str))]) T d_law F__law_cell F__law_one_right F__law_pool F__law_right
  exact F_law
end
theorem es_InvalidOrder : ErS s_InvalidOrder___init__ "index" := ⟨⟨_, _, _, _, _, _, _, _, _, _, _, _, rfl, rfl⟩, ⟨_, rfl, rfl⟩, fun _ _ _ _ _ _ _ _ _ _ _ => rfl, rfl, rfl, rfl, rfl, rfl, rfl, rfl, rfl, rfl, by decide⟩
theorem es_InvalidText : ErS s_InvalidText___init__ "text" := ⟨⟨_, _, _, _, _, _, _, _, _, _, _, _, rfl, rfl⟩, ⟨_, rfl, rfl⟩, fun _ _ _ _ _ _ _ _ _ _ _ => rfl, rfl, rfl, rfl, rfl, rfl, rfl, rfl, rfl, rfl, by decide⟩
section
variable {P : Program} {wo : World} {K : PySem.W.Frag} {mg : Str → Option Value}
end
end LW
open PySem PySem.W PyProof.Rows in
set_option maxRecDepth 100000 in
set_option maxHeartbeats 0 in
theorem PySem.Challenge.cw_tallyplans_k15_errors_of_orders_holds : PySem.Challenge.rw_tallyplans_k15_errors_of_orders.Holds := by
  w_on; o_law; k_head; (case hw => w_witness2)
  k_fill
  refine EX.walk_endT (l := PySem.Challenge.rw_tallyplans_k15_errors_of_orders) (k := 15) (x := "_law_script") rfl (by decide) rfl ⟨rfl, by decide, by decide⟩ (fun w h Y => PySem.W.km_in_of Y) ?F
  case F =>
    intro wo mg fa h Y KX G hmg
    have hTb := PySem.W.km_tabs_of Y
    have T : LW.Tx mg := by
      refine' ⟨PySem.W.mg_none_of KX G ?b_ArithmeticError, PySem.W.mg_none_of KX G ?b_LookupError, PySem.W.mg_none_of KX G ?b_ValueError, PySem.W.mg_none_of KX G ?b_abs, PySem.W.mg_none_of KX G ?b_all, PySem.W.mg_none_of KX G ?b_bool, PySem.W.mg_none_of KX G ?b_divmod, PySem.W.mg_none_of KX G ?b_enumerate, PySem.W.mg_none_of KX G ?b_int, PySem.W.mg_none_of KX G ?b_isinstance, PySem.W.mg_none_of KX G ?b_len, PySem.W.mg_none_of KX G ?b_list, PySem.W.mg_none_of KX G ?b_max, PySem.W.mg_none_of KX G ?b_min, PySem.W.mg_none_of KX G ?b_range, PySem.W.mg_none_of KX G ?b_repr, PySem.W.mg_none_of KX G ?b_reversed, PySem.W.mg_none_of KX G ?b_sorted, PySem.W.mg_none_of KX G ?b_str, PySem.W.mg_none_of KX G ?b_tuple, LW.ki_of KX G ?k_BLOCK, LW.ki_of KX G ?k_BLOCK_DIGITS, LW.ki_of KX G ?k_LONGEST_NAME, LW.ki_of KX G ?k_MAX_NAMES, LW.ki_of KX G ?k_MAX_RUNS⟩
      (case b_ArithmeticError => k_is)
      (case b_LookupError => k_is)
      (case b_ValueError => k_is)
      (case b_abs => k_is)
      (case b_all => k_is)
      (case b_bool => k_is)
      (case b_divmod => k_is)
      (case b_enumerate => k_is)
      (case b_int => k_is)
      (case b_isinstance => k_is)
      (case b_len => k_is)
      (case b_list => k_is)
      (case b_max => k_is)
      (case b_min => k_is)
      (case b_range => k_is)
      (case b_repr => k_is)
      (case b_reversed => k_is)
      (case b_sorted => k_is)
      (case b_str => k_is)
      (case b_tuple => k_is)
      (case k_BLOCK => k_is)
      (case k_BLOCK_DIGITS => k_is)
      (case k_LONGEST_NAME => k_is)
      (case k_MAX_NAMES => k_is)
      (case k_MAX_RUNS => k_is)
    have d_is_integer := by
      refine' LW.dn_of (name := "is_integer") (st := LW.s_is_integer) KX G ?a1 ?a2 ?a3 ?a4
      (case a1 => k_is)
      (case a2 => k_is)
      (case a3 => k_is)
      (case a4 => k_is)
    have d_is_integer_from := by
      refine' LW.dn_of (name := "is_integer_from") (st := LW.s_is_integer_from) KX G ?a1 ?a2 ?a3 ?a4
      (case a1 => k_is)
      (case a2 => k_is)
      (case a3 => k_is)
      (case a4 => k_is)
    have d_is_name := by
      refine' LW.dn_of (name := "is_name") (st := LW.s_is_name) KX G ?a1 ?a2 ?a3 ?a4
      (case a1 => k_is)
      (case a2 => k_is)
      (case a3 => k_is)
      (case a4 => k_is)
    have d_is_pair := by
      refine' LW.dn_of (name := "is_pair") (st := LW.s_is_pair) KX G ?a1 ?a2 ?a3 ?a4
      (case a1 => k_is)
      (case a2 => k_is)
      (case a3 => k_is)
      (case a4 => k_is)
    have d_format_number := by
      refine' LW.dn_of (name := "format_number") (st := LW.s_format_number) KX G ?a1 ?a2 ?a3 ?a4
      (case a1 => k_is)
      (case a2 => k_is)
      (case a3 => k_is)
      (case a4 => k_is)
    have d_summed := by
      refine' LW.dn_of (name := "summed") (st := LW.s_summed) KX G ?a1 ?a2 ?a3 ?a4
      (case a1 => k_is)
      (case a2 => k_is)
      (case a3 => k_is)
      (case a4 => k_is)
    have d_good_runs := by
      refine' LW.dn_of (name := "good_runs") (st := LW.s_good_runs) KX G ?a1 ?a2 ?a3 ?a4
      (case a1 => k_is)
      (case a2 => k_is)
      (case a3 => k_is)
      (case a4 => k_is)
    have d_check_order := by
      refine' LW.dn_of (name := "check_order") (st := LW.s_check_order) KX G ?a1 ?a2 ?a3 ?a4
      (case a1 => k_is)
      (case a2 => k_is)
      (case a3 => k_is)
      (case a4 => k_is)
    have d_is_order := by
      refine' LW.dn_of (name := "is_order") (st := LW.s_is_order) KX G ?a1 ?a2 ?a3 ?a4
      (case a1 => k_is)
      (case a2 => k_is)
      (case a3 => k_is)
      (case a4 => k_is)
    have d_arrivals_of := by
      refine' LW.dn_of (name := "arrivals_of") (st := LW.s_arrivals_of) KX G ?a1 ?a2 ?a3 ?a4
      (case a1 => k_is)
      (case a2 => k_is)
      (case a3 => k_is)
      (case a4 => k_is)
    have d_shortened := by
      refine' LW.dn_of (name := "shortened") (st := LW.s_shortened) KX G ?a1 ?a2 ?a3 ?a4
      (case a1 => k_is)
      (case a2 => k_is)
      (case a3 => k_is)
      (case a4 => k_is)
    have d_format_run := by
      refine' LW.dn_of (name := "format_run") (st := LW.s_format_run) KX G ?a1 ?a2 ?a3 ?a4
      (case a1 => k_is)
      (case a2 => k_is)
      (case a3 => k_is)
      (case a4 => k_is)
    have d_format_order := by
      refine' LW.dn_of (name := "format_order") (st := LW.s_format_order) KX G ?a1 ?a2 ?a3 ?a4
      (case a1 => k_is)
      (case a2 => k_is)
      (case a3 => k_is)
      (case a4 => k_is)
    have d_parse_order := by
      refine' LW.dn_of (name := "parse_order") (st := LW.s_parse_order) KX G ?a1 ?a2 ?a3 ?a4
      (case a1 => k_is)
      (case a2 => k_is)
      (case a3 => k_is)
      (case a4 => k_is)
    have d__law_cell := by
      refine' LW.dn_of (name := "_law_cell") (st := LW.s__law_cell) KX G ?a1 ?a2 ?a3 ?a4
      (case a1 => k_is)
      (case a2 => k_is)
      (case a3 => k_is)
      (case a4 => k_is)
    have d__law_pool := by
      refine' LW.dn_of (name := "_law_pool") (st := LW.s__law_pool) KX G ?a1 ?a2 ?a3 ?a4
      (case a1 => k_is)
      (case a2 => k_is)
      (case a3 => k_is)
      (case a4 => k_is)
    have d__law_draw := by
      refine' LW.dn_of (name := "_law_draw") (st := LW.s__law_draw) KX G ?a1 ?a2 ?a3 ?a4
      (case a1 => k_is)
      (case a2 => k_is)
      (case a3 => k_is)
      (case a4 => k_is)
    have d__law_words := by
      refine' LW.dn_of (name := "_law_words") (st := LW.s__law_words) KX G ?a1 ?a2 ?a3 ?a4
      (case a1 => k_is)
      (case a2 => k_is)
      (case a3 => k_is)
      (case a4 => k_is)
    have d__law_often := by
      refine' LW.dn_of (name := "_law_often") (st := LW.s__law_often) KX G ?a1 ?a2 ?a3 ?a4
      (case a1 => k_is)
      (case a2 => k_is)
      (case a3 => k_is)
      (case a4 => k_is)
    have d__law_path := by
      refine' LW.dn_of (name := "_law_path") (st := LW.s__law_path) KX G ?a1 ?a2 ?a3 ?a4
      (case a1 => k_is)
      (case a2 => k_is)
      (case a3 => k_is)
      (case a4 => k_is)
    have d__law_kind := by
      refine' LW.dn_of (name := "_law_kind") (st := LW.s__law_kind) KX G ?a1 ?a2 ?a3 ?a4
      (case a1 => k_is)
      (case a2 => k_is)
      (case a3 => k_is)
      (case a4 => k_is)
    have d__law_other_fields := by
      refine' LW.dn_of (name := "_law_other_fields") (st := LW.s__law_other_fields) KX G ?a1 ?a2 ?a3 ?a4
      (case a1 => k_is)
      (case a2 => k_is)
      (case a3 => k_is)
      (case a4 => k_is)
    have d__law_fields := by
      refine' LW.dn_of (name := "_law_fields") (st := LW.s__law_fields) KX G ?a1 ?a2 ?a3 ?a4
      (case a1 => k_is)
      (case a2 => k_is)
      (case a3 => k_is)
      (case a4 => k_is)
    have d__law_caught := by
      refine' LW.dn_of (name := "_law_caught") (st := LW.s__law_caught) KX G ?a1 ?a2 ?a3 ?a4
      (case a1 => k_is)
      (case a2 => k_is)
      (case a3 => k_is)
      (case a4 => k_is)
    have d__law_run_right := by
      refine' LW.dn_of (name := "_law_run_right") (st := LW.s__law_run_right) KX G ?a1 ?a2 ?a3 ?a4
      (case a1 => k_is)
      (case a2 => k_is)
      (case a3 => k_is)
      (case a4 => k_is)
    have d__law_due := by
      refine' LW.dn_of (name := "_law_due") (st := LW.s__law_due) KX G ?a1 ?a2 ?a3 ?a4
      (case a1 => k_is)
      (case a2 => k_is)
      (case a3 => k_is)
      (case a4 => k_is)
    have d__law_odd := by
      refine' LW.dn_of (name := "_law_odd") (st := LW.s__law_odd) KX G ?a1 ?a2 ?a3 ?a4
      (case a1 => k_is)
      (case a2 => k_is)
      (case a3 => k_is)
      (case a4 => k_is)
    have d__law_one_right := by
      refine' EX.dlT_of (name := "_law_one_right") (st := LW.s__law_one_right) KX G ?a1 ?a2 ?a3 ?a4 ?a5 ?a6
      (case a1 => k_is)
      (case a2 => k_is)
      (case a3 => k_is)
      (case a4 => k_is)
      (case a5 => k_is)
      (case a6 => rfl)
    have d__law_right := by
      refine' EX.dlT_of (name := "_law_right") (st := LW.s__law_right) KX G ?a1 ?a2 ?a3 ?a4 ?a5 ?a6
      (case a1 => k_is)
      (case a2 => k_is)
      (case a3 => k_is)
      (case a4 => k_is)
      (case a5 => k_is)
      (case a6 => rfl)
    have d_law := by
      refine' LW.dn_of (name := "law") (st := LW.s_law) KX G ?a1 ?a2 ?a3 ?a4
      (case a1 => k_is)
      (case a2 => k_is)
      (case a3 => k_is)
      (case a4 => k_is)
    have GL := by
      refine' EX.erGL_mk (PySem.W.mg_of KX G ?gE0) (PySem.W.mg_of KX G ?gE1) (PySem.W.mg_of KX G ?gE2) (PySem.W.mg_of KX G ?gE3) (PySem.W.mg_of KX G ?gE4) (PySem.W.mg_of KX G ?gE5) (PySem.W.mg_of KX G ?gE6) (PySem.W.mg_of KX G ?gE7) (PySem.W.mg_of KX G ?gE8) (PySem.W.mg_of KX G ?gE9) (PySem.W.mg_of KX G ?gE10) (PySem.W.mg_of KX G ?gE11) (PySem.W.mg_of KX G ?gE12) (PySem.W.mg_of KX G ?gE13) (PySem.W.mg_of KX G ?gE14) (PySem.W.mg_of KX G ?gE15) (PySem.W.mg_of KX G ?gE16) (PySem.W.mg_of KX G ?gE17) (PySem.W.mg_of KX G ?gE18) (PySem.W.mg_of KX G ?gE19) (PySem.W.mg_of KX G ?gE20) (PySem.W.mg_of KX G ?gE21) (PySem.W.mg_of KX G ?gE22)
      (case gE0 => k_is)
      (case gE1 => k_is)
      (case gE2 => k_is)
      (case gE3 => k_is)
      (case gE4 => k_is)
      (case gE5 => k_is)
      (case gE6 => k_is)
      (case gE7 => k_is)
      (case gE8 => k_is)
      (case gE9 => k_is)
      (case gE10 => k_is)
      (case gE11 => k_is)
      (case gE12 => k_is)
      (case gE13 => k_is)
      (case gE14 => k_is)
      (case gE15 => k_is)
      (case gE16 => k_is)
      (case gE17 => k_is)
      (case gE18 => k_is)
      (case gE19 => k_is)
      (case gE20 => k_is)
      (case gE21 => k_is)
      (case gE22 => k_is)
    have KS := EX.ks_mk (R := [5, 7]) KX GL (by kernel_rfl) (by kernel_rfl) (by kernel_rfl)
    have C_InvalidOrder := by
      refine' PySem.W.mg_of (n := "InvalidOrder") KX G ?c0
      (case c0 => k_is)
    have ER_InvalidOrder := by
      refine' EX.erR_at (P := (PySem.Challenge.rw_tallyplans_k15_errors_of_orders).prog) KX C_InvalidOrder PySem.F.excBase_ValueError PySem.W.kxs_ValueError PySem.F.store_ValueError LW.es_InvalidOrder ?r1 ?r2 ?r3 ?r4 ?r5 ?r6 ?r7 ?r8 ?r9 (PySem.W.mg_none_of KX G ?r10) ?r11
      (case r1 => k_is)
      (case r2 => k_is)
      (case r3 => k_is)
      (case r4 => k_is)
      (case r5 => k_is)
      (case r6 => rfl)
      (case r7 => kernel_rfl)
      (case r8 => k_is)
      (case r9 => kernel_rfl)
      (case r10 => k_is)
      (case r11 => kernel_rfl)
    have C_InvalidText := by
      refine' PySem.W.mg_of (n := "InvalidText") KX G ?c0
      (case c0 => k_is)
    have ER_InvalidText := by
      refine' EX.erR_at (P := (PySem.Challenge.rw_tallyplans_k15_errors_of_orders).prog) KX C_InvalidText PySem.F.excBase_ValueError PySem.W.kxs_ValueError PySem.F.store_ValueError LW.es_InvalidText ?r1 ?r2 ?r3 ?r4 ?r5 ?r6 ?r7 ?r8 ?r9 (PySem.W.mg_none_of KX G ?r10) ?r11
      (case r1 => k_is)
      (case r2 => k_is)
      (case r3 => k_is)
      (case r4 => k_is)
      (case r5 => k_is)
      (case r6 => rfl)
      (case r7 => kernel_rfl)
      (case r8 => k_is)
      (case r9 => kernel_rfl)
      (case r10 => k_is)
      (case r11 => kernel_rfl)
    obtain ⟨fd, h1, h2⟩ := LW.all_ok (P := (PySem.Challenge.rw_tallyplans_k15_errors_of_orders).prog) (wo := wo) T (EX.erG_of GL) KS ER_InvalidOrder ER_InvalidText d_is_integer d_is_integer_from d_is_name d_is_pair d_format_number d_summed d_good_runs d_check_order d_is_order d_arrivals_of d_shortened d_format_run d_format_order d_parse_order d__law_cell d__law_pool d__law_draw d__law_words d__law_often d__law_path d__law_kind d__law_other_fields d__law_fields d__law_caught d__law_run_right d__law_due d__law_odd d__law_one_right d__law_right d_law hmg
    refine ⟨fd, _, _, ?t1, ?t2, ?t3, ?t4, ?t5, h1, fun base z1 z2 z3 => h2 base ⟨z1, z2, z3⟩⟩
    (case t1 => exact List.forall_mem_cons.mpr ⟨hTb _ (by k_mem), List.forall_mem_cons.mpr ⟨hTb _ (by k_mem), fun _ h => nomatch h⟩⟩)
    (case t2 => exact List.forall_mem_cons.mpr ⟨by kernel_rfl, List.forall_mem_cons.mpr ⟨by kernel_rfl, fun _ h => nomatch h⟩⟩)
    (case t3 => exact List.forall_mem_cons.mpr ⟨PySem.W.codeHd_of_K KX (by kernel_rfl), List.forall_mem_cons.mpr ⟨PySem.W.codeHd_of_K KX (by kernel_rfl), fun _ h => nomatch h⟩⟩)
    (case t4 => rfl)
    (case t5 => decide)
