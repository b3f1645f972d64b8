import PyProof.Rows.All
import Wide.All
import OpenK.AllK
import Wide.FinOn
import HandS.ForMost
import HandS.Walk
import HandS.Evl
import HandS.Style
import HandS.StrMore
import HandS.Flow
import HandS.Defaults
import HandS.Exc
import HandS.WordsExc
import HandS.WideBits
import HandS.IsInst
import KE.GoesEnum
import HandS.Sort
import PyProof.ReprLen
import PyProof.Rows.RegStrFacts
import HandS.TupAny
import HandS.Ends
import HandS.Dict
import HandS.DictTup
import HandS.More
import KE.KRevSl
import HandS.SortKw
import HandS.TryOnly
import KE.DataEq
import HandS.ListItems
import KE.KDictList
import HandS.Conv
import HandS.List
import KE.KDictPairs
import KE.KFmtOwn
import KE.SortData
import HandS.Wide
import HandS.Rev
import HandS.MapJoin
import HandS.DictEq
import HandS.DeepEq
import HandS.RaiseMore
import HandS.FStr
import PySem.Challenge.RW_tallyplans_k04_summaries_made
set_option Elab.async false
set_option linter.all false
set_option autoImplicit false
set_option maxRecDepth 100000
set_option maxHeartbeats 4000000
/-! DL: a wp calculus over plain data, above the hand layer: values are data (D), owned objects stand in a store (Wl). -/
namespace DL
open PySem L2

/-! ### data -/
inductive D where
  | non | bl (b : Bool) | int (i : Int) | str (x : Str) | byt (b : Array UInt8) | ty (n : String) | ptr (a : Addr)
  | lst (ds : List D) | tup (ds : List D)
  /-- a tuple known to have no attribute dict -/
  | btp (ds : List D)
  | ins (C : Addr) (fs : List (Str × D))
deriving Inhabited
/-- what is owned: a list, a dict, an instance that may change -/
inductive Cl where
  | lst (ds : List D) | dK (kvs : List (Key × D)) | ins (C : Addr) (fs : List (Str × D))
  /-- the script, as it was given -/
  | scr (ns : List Int)
  /-- a dict that is being walked: it stands as it is -/
  | dF (o : Obj) (ks : List (Key × V)) (kvs : List (Key × D))
abbrev Dlt := List (Option D)
abbrev Wl := Addr → Option Cl
def w0 : Wl := fun _ => none
def put (w : Wl) (a : Addr) (c : Cl) : Wl := fun b => if b = a then some c else w b
def cut (w : Wl) (a : Addr) : Wl := fun b => if b = a then none else w b
theorem put_same {w : Wl} {a : Addr} {c : Cl} : put w a c a = some c := by unfold put; rw [if_pos rfl]
theorem put_ne {w : Wl} {a b : Addr} {c : Cl} (h : b ≠ a) : put w a c b = w b := by unfold put; rw [if_neg h]
theorem put_put {w : Wl} {a : Addr} {c d : Cl} : put (put w a c) a d = put w a d := by
  funext b; unfold put; split <;> rfl
theorem cut_put {w : Wl} {a : Addr} {c : Cl} (h : w a = none) : cut (put w a c) a = w := by
  funext b; unfold cut put; split
  · rename_i e; subst e; exact h.symm
  · rfl
theorem put_self {w : Wl} {a : Addr} {c : Cl} (h : w a = some c) : put w a c = w := by
  funext b; unfold put; split
  · rename_i e; subst e; exact h.symm
  · rfl
/-- the heap without what is owned -/
def msk (w : Wl) (H : Hp) : Hp := fun a => if (w a).isSome then none else H a
theorem msk_some {w : Wl} {H : Hp} {a : Addr} {o : HO} (h : msk w H a = some o) : w a = none ∧ H a = some o := by
  unfold msk at h
  cases q : w a with
  | none => rw [q] at h; exact ⟨rfl, h⟩
  | some c => rw [q] at h; cases h
theorem msk_of {w : Wl} {H : Hp} {a : Addr} {o : HO} (h : w a = none) (e : H a = some o) : msk w H a = some o := by
  unfold msk; rw [h]; exact e

abbrev Ex (H H' : Hp) : Prop := ∀ a o, H a = some o → H' a = some o
theorem Ex.refl (H : Hp) : Ex H H := fun _ _ h => h
theorem Ex.trans {H H1 H2 : Hp} (a : Ex H H1) (b : Ex H1 H2) : Ex H H2 := fun x o h => b x o (a x o h)
theorem Ex.msk {w : Wl} {H : Hp} : Ex (msk w H) H := fun _ _ h => (msk_some h).2
theorem ex_rd {H H' : Hp} {a : Addr} {u : HO} (e : Ex H H') (h : Rd H a u) : Rd H' a u := by
  rcases h with h | ⟨o, h⟩
  · exact Or.inl (e a _ h)
  · exact Or.inr ⟨o, e a _ h⟩
theorem ex_l {K : PySem.W.Frag} {H H' : Hp} {a : Addr} {xs : List V} (e : Ex H H') (h : SqL K H a xs) : SqL K H' a xs := by
  rcases h with h | h
  · exact Or.inl (ex_rd e h)
  · exact Or.inr h
theorem ex_t {K : PySem.W.Frag} {H H' : Hp} {a : Addr} {xs : List V} (e : Ex H H') (h : SqT K H a xs) : SqT K H' a xs := by
  rcases h with h | h
  · exact Or.inl (ex_rd e h)
  · exact Or.inr h

/-! ### a value is a datum -/
/-- no attribute dict -/
def Bare (K : PySem.W.Frag) (G : Hp) (a : Addr) : Prop := (∃ o xs, G a = some (.frz o (.tup xs)) ∧ o.dict = none) ∨ ∃ o, K.lookup a = some o ∧ o.dict = none
mutual
inductive Rp (K : PySem.W.Frag) (G : Hp) : V → D → Prop
  | non : Rp K G .non .non
  | bl (b : Bool) : Rp K G (.bl b) (.bl b)
  | int (i : Int) : Rp K G (.int i) (.int i)
  | str (x : Str) : Rp K G (.str x) (.str x)
  | byt (x : Array UInt8) : Rp K G (.byt x) (.byt x)
  | ty (n : String) : Rp K G (.ty n) (.ty n)
  | ptr (a : Addr) : Rp K G (.ref a) (.ptr a)
  | lst {a : Addr} {xs : List V} {ds : List D} : G a = some (.lst xs) → RpA K G xs ds → Rp K G (.ref a) (.lst ds)
  | tup {a : Addr} {xs : List V} {ds : List D} : SqT K G a xs → RpA K G xs ds → Rp K G (.ref a) (.tup ds)
  | btp {a : Addr} {xs : List V} {ds : List D} : Bare K G a → SqT K G a xs → RpA K G xs ds → Rp K G (.ref a) (.btp ds)
  | ins {a C dx : Addr} {fs : List (Str × V)} {ds : List (Str × D)} : G a = some (.ins C dx fs) → RpF K G fs ds → Rp K G (.ref a) (.ins C ds)
inductive RpA (K : PySem.W.Frag) (G : Hp) : List V → List D → Prop
  | nil : RpA K G [] []
  | cons {v : V} {vs : List V} {d : D} {ds : List D} : Rp K G v d → RpA K G vs ds → RpA K G (v :: vs) (d :: ds)
inductive RpF (K : PySem.W.Frag) (G : Hp) : List (Str × V) → List (Str × D) → Prop
  | nil : RpF K G [] []
  | cons (n : Str) {v : V} {vs : List (Str × V)} {d : D} {ds : List (Str × D)} : Rp K G v d → RpF K G vs ds → RpF K G ((n, v) :: vs) ((n, d) :: ds)
end
section
variable {K : PySem.W.Frag} {G G' H H' : Hp}
theorem Bare.mono {a : Addr} (e : Ex G G') (h : Bare K G a) : Bare K G' a := h.imp (fun ⟨o, xs, h1, h2⟩ => ⟨o, xs, e _ _ h1, h2⟩) id
mutual
theorem Rp.mono (e : Ex G G') : ∀ {v : V} {d : D}, Rp K G v d → Rp K G' v d
  | _, _, .non => .non
  | _, _, .bl b => .bl b
  | _, _, .int b => .int b
  | _, _, .str b => .str b
  | _, _, .byt b => .byt b
  | _, _, .ty b => .ty b
  | _, _, .ptr b => .ptr b
  | _, _, .lst h r => .lst (e _ _ h) (RpA.mono e r)
  | _, _, .tup h r => .tup (ex_t e h) (RpA.mono e r)
  | _, _, .btp b h r => .btp (b.mono e) (ex_t e h) (RpA.mono e r)
  | _, _, .ins h r => .ins (e _ _ h) (RpF.mono e r)
theorem RpA.mono (e : Ex G G') : ∀ {v : List V} {d : List D}, RpA K G v d → RpA K G' v d
  | _, _, .nil => .nil
  | _, _, .cons r t => .cons (Rp.mono e r) (RpA.mono e t)
theorem RpF.mono (e : Ex G G') : ∀ {v : List (Str × V)} {d : List (Str × D)}, RpF K G v d → RpF K G' v d
  | _, _, .nil => .nil
  | _, _, .cons n r t => .cons n (Rp.mono e r) (RpF.mono e t)
end
theorem RpA.length : ∀ {vs : List V} {ds : List D}, RpA K G vs ds → vs.length = ds.length
  | _, _, .nil => rfl
  | _, _, .cons _ t => by simp [RpA.length t]
theorem RpA.get : ∀ {vs : List V} {ds : List D} {i : Nat} {d : D}, RpA K G vs ds → ds[i]? = some d → ∃ v, vs[i]? = some v ∧ Rp K G v d
  | _, _, _, _, .nil, e => by simp at e
  | _, _, 0, _, .cons r _, e => by simp at e; subst e; exact ⟨_, rfl, r⟩
  | _, _, i + 1, d, .cons _ t, e => by
    obtain ⟨v, h1, h2⟩ := RpA.get (i := i) (d := d) t (by simpa using e)
    exact ⟨v, by simpa using h1, h2⟩
theorem RpA.getV : ∀ {vs : List V} {ds : List D} {i : Nat} {v : V}, RpA K G vs ds → vs[i]? = some v → ∃ d, ds[i]? = some d ∧ Rp K G v d
  | _, _, _, _, .nil, e => by simp at e
  | _, _, 0, _, .cons r _, e => by simp at e; subst e; exact ⟨_, rfl, r⟩
  | _, _, i + 1, d, .cons _ t, e => by
    obtain ⟨v, h1, h2⟩ := RpA.getV (i := i) (v := d) t (by simpa using e)
    exact ⟨v, by simpa using h1, h2⟩
theorem RpA.append : ∀ {vs ws : List V} {ds es : List D}, RpA K G vs ds → RpA K G ws es → RpA K G (vs ++ ws) (ds ++ es)
  | _, _, _, _, .nil, s => s
  | _, _, _, _, .cons r t, s => .cons r (RpA.append t s)
theorem RpA.take : ∀ {vs : List V} {ds : List D} (n : Nat), RpA K G vs ds → RpA K G (vs.take n) (ds.take n)
  | _, _, 0, _ => .nil
  | _, _, _ + 1, .nil => .nil
  | _, _, n + 1, .cons r t => .cons r (RpA.take n t)
theorem RpA.drop : ∀ {vs : List V} {ds : List D} (n : Nat), RpA K G vs ds → RpA K G (vs.drop n) (ds.drop n)
  | _, _, 0, r => r
  | _, _, _ + 1, .nil => .nil
  | _, _, n + 1, .cons _ t => RpA.drop n t
theorem RpA.set {v : V} {d : D} (r : Rp K G v d) : ∀ {vs : List V} {ds : List D} (i : Nat), RpA K G vs ds → RpA K G (vs.set i v) (ds.set i d)
  | _, _, _, .nil => .nil
  | _, _, 0, .cons _ t => .cons r t
  | _, _, i + 1, .cons q t => .cons q (RpA.set r i t)
theorem RpA.reverse : ∀ {vs : List V} {ds : List D}, RpA K G vs ds → RpA K G vs.reverse ds.reverse
  | _, _, .nil => .nil
  | _, _, .cons r t => by rw [List.reverse_cons, List.reverse_cons]; exact (RpA.reverse t).append (.cons r .nil)
/-- plain data are their own values -/
theorem rpa_ints {vs : List V} {ns : List Int} (h : RpA K G vs (ns.map D.int)) : vs = ns.map V.int := by
  induction ns generalizing vs with
  | nil => cases h; rfl
  | cons n ns ih => cases h with
    | cons r t => cases r; rw [ih t]; rfl
theorem rpa_strs {vs : List V} {ns : List Str} (h : RpA K G vs (ns.map D.str)) : vs = ns.map V.str := by
  induction ns generalizing vs with
  | nil => cases h; rfl
  | cons n ns ih => cases h with
    | cons r t => cases r; rw [ih t]; rfl
theorem rpa_bools {vs : List V} {ns : List Bool} (h : RpA K G vs (ns.map D.bl)) : vs = ns.map V.bl := by
  induction ns generalizing vs with
  | nil => cases h; rfl
  | cons n ns ih => cases h with
    | cons r t => cases r; rw [ih t]; rfl
theorem rpa_ofstrs : ∀ (ns : List Str), RpA K G (ns.map V.str) (ns.map D.str)
  | [] => .nil
  | n :: ns => .cons (.str n) (rpa_ofstrs ns)
theorem rpa_ofints : ∀ (ns : List Int), RpA K G (ns.map V.int) (ns.map D.int)
  | [] => .nil
  | n :: ns => .cons (.int n) (rpa_ofints ns)
end

/-! ### the store is held -/
def RpK (K : PySem.W.Frag) (G : Hp) : List (Key × V) → List (Key × D) → Prop
  | [], [] => True
  | (k, v) :: r, (l, d) :: s => k = l ∧ Rp K G v d ∧ RpK K G r s
  | _, _ => False
theorem RpK.mono {K : PySem.W.Frag} {G G' : Hp} (e : Ex G G') : ∀ {r : List (Key × V)} {s : List (Key × D)}, RpK K G r s → RpK K G' r s
  | [], [], _ => trivial
  | (_, _) :: _, (_, _) :: _, ⟨a, b, c⟩ => ⟨a, b.mono e, RpK.mono e c⟩
  | [], _ :: _, h => h.elim
  | _ :: _, [], h => h.elim
def ClAt (K : PySem.W.Frag) (G H : Hp) (a : Addr) : Cl → Prop
  | .lst ds => ∃ xs, H a = some (.lst xs) ∧ RpA K G xs ds
  | .dK kvs => ∃ ks, H a = some (.dK ks) ∧ RpK K G ks kvs
  | .ins C fs => ∃ dx gs, H a = some (.ins C dx gs) ∧ RpF K G gs fs
  | .scr ns => Rd H a (.lst (ns.map V.int))
  | .dF o ks kvs => H a = some (.frz o (.dK ks)) ∧ RpK K G ks kvs
def Cells (K : PySem.W.Frag) (w : Wl) (H : Hp) : Prop := ∀ a c, w a = some c → ClAt K (msk w H) H a c
theorem ClAt.has {K : PySem.W.Frag} {G H : Hp} {a : Addr} {c : Cl} (h : ClAt K G H a c) : ∃ o, H a = some o := by
  cases c with
  | lst ds => obtain ⟨_, e, _⟩ := h; exact ⟨_, e⟩
  | dK ds => obtain ⟨_, e, _⟩ := h; exact ⟨_, e⟩
  | ins C ds => obtain ⟨_, _, e, _⟩ := h; exact ⟨_, e⟩
  | scr ns => rcases h with e | ⟨_, e⟩ <;> exact ⟨_, e⟩
  | dF o ks kvs => exact ⟨_, h.1⟩
theorem ClAt.mono {K : PySem.W.Frag} {G G' H H' : Hp} {a : Addr} {c : Cl} (e : Ex G G') (h : ClAt K G H a c) (k : ∀ o, H a = some o → H' a = some o) : ClAt K G' H' a c := by
  cases c with
  | lst ds => obtain ⟨x, h1, h2⟩ := h; exact ⟨x, k _ h1, h2.mono e⟩
  | dK ds => obtain ⟨x, h1, h2⟩ := h; exact ⟨x, k _ h1, h2.mono e⟩
  | ins C ds => obtain ⟨x, y, h1, h2⟩ := h; exact ⟨x, y, k _ h1, h2.mono e⟩
  | dF o ks kvs => exact ⟨k _ h.1, h.2.mono e⟩
  | scr ns =>
    rcases h with e | ⟨o, e⟩
    · exact .inl (k _ e)
    · exact .inr ⟨o, k _ e⟩
theorem Cells.free {K : PySem.W.Frag} {w : Wl} {H : Hp} (c : Cells K w H) {a : Addr} (h : H a = none) : w a = none := by
  cases q : w a with
  | none => rfl
  | some x =>
    obtain ⟨o, e⟩ := ClAt.has (c a x q)
    rw [h] at e; cases e
/-- a heap that only grew: the same store -/
theorem Cells.grow {K : PySem.W.Frag} {w : Wl} {H H' : Hp} (c : Cells K w H) (e : Ex H H') : Cells K w H' ∧ Ex (msk w H) (msk w H') := by
  have e' : Ex (msk w H) (msk w H') := fun a o h => msk_of (msk_some h).1 (e _ _ (msk_some h).2)
  exact ⟨fun a x q => ClAt.mono e' (c a x q) fun o => e a o, e'⟩
theorem ex_new {H : Hp} {p : Addr} {o : HO} (h : H p = none) : Ex H (upd H p o) := fun a u e => by
  rw [upd_ne (ne_of_none e h)]
  exact e

structure Sat (K : PySem.W.Frag) (σ : L2.St) (H : Hp) (δ : Dlt) (w : Wl) : Prop where
  len : σ.length = δ.length
  sl : ∀ (i : Nat) (d : D), δ[i]? = some (some d) → ∃ v, σ[i]? = some (some v) ∧ Rp K (msk w H) v d
  ce : Cells K w H
theorem Sat.next {K : PySem.W.Frag} {σ : L2.St} {H H' : Hp} {δ : Dlt} {w w' : Wl} (s : Sat K σ H δ w) (e : Ex (msk w H) (msk w' H')) (c : Cells K w' H') : Sat K σ H' δ w' :=
  ⟨s.len, fun i d h => let ⟨v, h1, h2⟩ := s.sl i d h; ⟨v, h1, h2.mono e⟩, c⟩
theorem Sat.set {K : PySem.W.Frag} {σ : L2.St} {H : Hp} {δ : Dlt} {w : Wl} (s : Sat K σ H δ w) (i : Nat) {v : V} {d : D} (r : Rp K (msk w H) v d) : Sat K (σ.set i (some v)) H (δ.set i (some d)) w := by
  refine ⟨by rw [List.length_set, List.length_set]; exact s.len, fun j x h => ?_, s.ce⟩
  by_cases e : i = j
  · subst e
    by_cases hl : i < δ.length
    · rw [List.getElem?_set_self hl] at h
      cases h
      exact ⟨v, List.getElem?_set_self (by rw [s.len]; exact hl), r⟩
    · rw [List.getElem?_eq_none (by simpa using hl)] at h; cases h
  · rw [List.getElem?_set_ne e] at h
    obtain ⟨u, h1, h2⟩ := s.sl j x h
    exact ⟨u, by rw [List.getElem?_set_ne e]; exact h1, h2⟩
/-- what is forgotten -/
theorem Sat.weak {K : PySem.W.Frag} {σ : L2.St} {H : Hp} {δ δ' : Dlt} {w : Wl} (s : Sat K σ H δ w) (l : δ'.length = δ.length) (h : ∀ (i : Nat) (d : D), δ'[i]? = some (some d) → δ[i]? = some (some d)) : Sat K σ H δ' w :=
  ⟨s.len.trans l.symm, fun i d e => s.sl i d (h i d e), s.ce⟩

/-! ### the ends -/
/-- the wish for a value, the wish for an exception -/
def XdAt (K : PySem.W.Frag) (G H : Hp) (od : Option Addr) (fs : List (Str × D)) : Prop := match od with
  | none => fs = []
  | some a => ∃ gs, H a = some (.xd gs) ∧ RpF K G gs fs
abbrev PD := D → Wl → Prop
abbrev ZD := Value → List (Str × D) → Wl → Prop
def z0 : ZD := fun _ _ _ => False
def KqG (K : PySem.W.Frag) {α β : Type} (R : Hp → α → β → Prop) (w : Wl) (H : Hp) (P : β → Wl → Prop) (Q : α → Hp → Prop) : Prop :=
  ∀ v H' d w', Ex (msk w H) (msk w' H') → Cells K w' H' → R (msk w' H') v d → P d w' → Q v H'
abbrev Kq (K : PySem.W.Frag) := KqG K (Rp K)
abbrev KqA (K : PySem.W.Frag) := KqG K (RpA K)
abbrev KqB (K : PySem.W.Frag) := KqG K (fun _ (a b : Bool) => a = b)
abbrev KqO (K : PySem.W.Frag) := KqG K (fun _ (a b : Option Int) => a = b)
def Kz (K : PySem.W.Frag) (w : Wl) (H : Hp) (Z : ZD) (W : XK) : Prop :=
  ∀ c od H' fs w', Ex (msk w H) (msk w' H') → Cells K w' H' → XdAt K (msk w' H') H' od fs → Z c fs w' → W c od H'
theorem KqG.next {K : PySem.W.Frag} {α β : Type} {R : Hp → α → β → Prop} {w w1 : Wl} {H H1 : Hp} {P : β → Wl → Prop} {Q : α → Hp → Prop} (k : KqG K R w H P Q) (e : Ex (msk w H) (msk w1 H1)) : KqG K R w1 H1 P Q :=
  fun v H' d w' e' => k v H' d w' (Ex.trans e e')
theorem Kz.next {K : PySem.W.Frag} {w w1 : Wl} {H H1 : Hp} {Z : ZD} {W : XK} (k : Kz K w H Z W) (e : Ex (msk w H) (msk w1 H1)) : Kz K w1 H1 Z W :=
  fun c od H' fs w' e' => k c od H' fs w' (Ex.trans e e')
theorem Kz.zero {K : PySem.W.Frag} {w : Wl} {H : Hp} {W : XK} : Kz K w H z0 W := fun _ _ _ _ _ _ _ _ h => h.elim

/-! ### the judgements -/
def Ev (K : PySem.W.Frag) (W : XK) (te : TE) (δ : Dlt) (w : Wl) (P : PD) (Z : ZD) : Prop := ∀ σ H, Sat K σ H δ w → ∀ Q : VK, Kq K w H P Q → Kz K w H Z W → te σ H Q
def EvT (K : PySem.W.Frag) (W : XK) (te : TT) (δ : Dlt) (w : Wl) (P : Bool → Wl → Prop) (Z : ZD) : Prop := ∀ σ H, Sat K σ H δ w → ∀ Q : Bool → Hp → Prop, KqB K w H P Q → Kz K w H Z W → te σ H Q
def EvA (K : PySem.W.Frag) (W : XK) (te : TA) (δ : Dlt) (w : Wl) (P : List D → Wl → Prop) (Z : ZD) : Prop := ∀ σ H, Sat K σ H δ w → ∀ Q : List V → Hp → Prop, KqA K w H P Q → Kz K w H Z W → te σ H Q
def EvO (K : PySem.W.Frag) (W : XK) (te : TO) (δ : Dlt) (w : Wl) (P : Option Int → Wl → Prop) (Z : ZD) : Prop := ∀ σ H, Sat K σ H δ w → ∀ Q : Option Int → Hp → Prop, KqO K w H P Q → Kz K w H Z W → te σ H Q
/-- operations on values -/
def Op1 (K : PySem.W.Frag) (r : V → Hp → VK → Prop) (x : D) (w : Wl) (P : PD) : Prop := ∀ v H, Rp K (msk w H) v x → Cells K w H → ∀ Q, Kq K w H P Q → r v H Q
def Op2 (K : PySem.W.Frag) (r : R2) (x y : D) (w : Wl) (P : PD) : Prop := ∀ v u H, Rp K (msk w H) v x → Rp K (msk w H) u y → Cells K w H → ∀ Q, Kq K w H P Q → r v u H Q
def OpL (K : PySem.W.Frag) (r : List V → Hp → VK → Prop) (xs : List D) (w : Wl) (P : PD) : Prop := ∀ vs H, RpA K (msk w H) vs xs → Cells K w H → ∀ Q, Kq K w H P Q → r vs H Q
def OpM (K : PySem.W.Frag) (r : V → List V → Hp → VK → Prop) (x : D) (xs : List D) (w : Wl) (P : PD) : Prop := ∀ v vs H, Rp K (msk w H) v x → RpA K (msk w H) vs xs → Cells K w H → ∀ Q, Kq K w H P Q → r v vs H Q
structure EndD where
  nx : Dlt → Wl → Prop
  rt : PD
  bk : Dlt → Wl → Prop := fun _ _ => False
  ct : Dlt → Wl → Prop := fun _ _ => False
  rz : ZD := z0
def Ks (K : PySem.W.Frag) (w : Wl) (H : Hp) (P : Dlt → Wl → Prop) (Q : L2.St → Hp → Prop) : Prop := ∀ σ' H' δ' w', Ex (msk w H) (msk w' H') → Sat K σ' H' δ' w' → P δ' w' → Q σ' H'
theorem Ks.next {K : PySem.W.Frag} {w w1 : Wl} {H H1 : Hp} {P : Dlt → Wl → Prop} {Q : L2.St → Hp → Prop} (k : Ks K w H P Q) (e : Ex (msk w H) (msk w1 H1)) : Ks K w1 H1 P Q :=
  fun σ' H' δ' w' e' => k σ' H' δ' w' (Ex.trans e e')
structure Ke (K : PySem.W.Frag) (W : XK) (w : Wl) (H : Hp) (E : EndD) (Dn : Ends) : Prop where
  nx : Ks K w H E.nx Dn.nx
  rt : Kq K w H E.rt Dn.rt
  bk : Ks K w H E.bk Dn.bk
  ct : Ks K w H E.ct Dn.ct
  rz : Kz K w H E.rz W
theorem Ke.next {K : PySem.W.Frag} {W : XK} {w w1 : Wl} {H H1 : Hp} {E : EndD} {Dn : Ends} (k : Ke K W w H E Dn) (e : Ex (msk w H) (msk w1 H1)) : Ke K W w1 H1 E Dn :=
  ⟨k.nx.next e, KqG.next k.rt e, k.bk.next e, k.ct.next e, k.rz.next e⟩
def Sd (K : PySem.W.Frag) (W : XK) (ts : TS) (δ : Dlt) (w : Wl) (E : EndD) : Prop := ∀ σ H, Sat K σ H δ w → ∀ Dn : Ends, Ke K W w H E Dn → ts Dn σ H
/-- a target: the datum goes there -/
def Gd (K : PySem.W.Frag) (W : XK) (g : TG) (d : D) (δ : Dlt) (w : Wl) (P : Dlt → Wl → Prop) (Z : ZD) : Prop :=
  ∀ v σ H, Rp K (msk w H) v d → Sat K σ H δ w → ∀ Q : L2.St → Hp → Prop, Ks K w H P Q → Kz K w H Z W → g v σ H Q
def Gds (K : PySem.W.Frag) (W : XK) (g : TGs) (ds : List D) (δ : Dlt) (w : Wl) (P : Dlt → Wl → Prop) (Z : ZD) : Prop :=
  ∀ vs σ H, RpA K (msk w H) vs ds → Sat K σ H δ w → ∀ Q : L2.St → Hp → Prop, Ks K w H P Q → Kz K w H Z W → g vs σ H Q
end DL
set_option Elab.async false
set_option linter.all false
set_option autoImplicit false
set_option maxRecDepth 100000
set_option maxHeartbeats 4000000
namespace DL
open PySem L2
section
variable {K : PySem.W.Frag} {W : XK} {δ : Dlt} {w : Wl} {P : PD} {Z : ZD} {ta tb te : TE} {tt tu : TT} {r : R2}

/-! ### names, constants -/
theorem ev_var {i : Nat} {d : D} (h : δ[i]? = some (some d)) (k : P d w) : Ev K W (tVar i) δ w P Z :=
  fun σ H s Q q _ => let ⟨v, h1, h2⟩ := s.sl i d h; ⟨v, h1, q v H d w (Ex.refl _) s.ce h2 k⟩
theorem frz_ok {H : Hp} {l : Addr} {ds : List D} (c : w l = some (.lst ds)) (s : Cells K w H) : Ex (msk w H) (msk (cut w l) H) ∧ Cells K (cut w l) H ∧ Rp K (msk (cut w l) H) (.ref l) (.lst ds) := by
  have e : Ex (msk w H) (msk (cut w l) H) := fun a o h => by
    obtain ⟨h1, h2⟩ := msk_some h
    refine msk_of ?_ h2
    unfold cut; split
    · rfl
    · exact h1
  refine ⟨e, fun a x q => ?_, ?_⟩
  · have q' : w a = some x := by
      unfold cut at q; split at q
      · cases q
      · exact q
    exact ClAt.mono e (s a x q') fun _ z => z
  · obtain ⟨xs, h1, h2⟩ := s l _ c
    refine .lst (msk_of ?_ h1) (h2.mono e)
    unfold cut; rw [if_pos rfl]
/-- an owned list is given away: from here on it stands still -/
theorem ev_frz {i : Nat} {l : Addr} {ds : List D} (h : δ[i]? = some (some (.ptr l))) (c : w l = some (.lst ds)) (k : P (.lst ds) (cut w l)) : Ev K W (tVar i) δ w P Z :=
  fun σ H s Q q _ => by
    obtain ⟨v, h1, h2⟩ := s.sl i _ h
    obtain ⟨e, c', r⟩ := frz_ok c s.ce
    cases h2
    exact ⟨_, h1, q _ H _ _ e c' r k⟩
theorem ev_cint {i : Int} (k : P (.int i) w) : Ev K W (tC (.int i)) δ w P Z := fun _ H s _ q _ => q _ H _ w (Ex.refl _) s.ce (.int i) k
theorem ev_cbl {i : Bool} (k : P (.bl i) w) : Ev K W (tC (.bl i)) δ w P Z := fun _ H s _ q _ => q _ H _ w (Ex.refl _) s.ce (.bl i) k
theorem ev_cstr {i : Str} (k : P (.str i) w) : Ev K W (tC (.str i)) δ w P Z := fun _ H s _ q _ => q _ H _ w (Ex.refl _) s.ce (.str i) k
theorem ev_cnon (k : P .non w) : Ev K W (tC .non) δ w P Z := fun _ H s _ q _ => q _ H _ w (Ex.refl _) s.ce .non k
theorem ev_cty {i : String} (k : P (.ty i) w) : Ev K W (tC (.ty i)) δ w P Z := fun _ H s _ q _ => q _ H _ w (Ex.refl _) s.ce (.ty i) k
theorem ev_cref {a : Addr} (k : P (.ptr a) w) : Ev K W (tC (.ref a)) δ w P Z := fun _ H s _ q _ => q _ H _ w (Ex.refl _) s.ce (.ptr a) k
theorem Ev.imp {P' : PD} (h : Ev K W te δ w P Z) (k : ∀ d w', P d w' → P' d w') : Ev K W te δ w P' Z := fun σ H s Q q z => h σ H s Q (fun v H' d w' e c r p => q v H' d w' e c r (k d w' p)) z

/-! ### operators -/
theorem ev_op (h : Ev K W ta δ w (fun x w1 => Ev K W tb δ w1 (fun y w2 => Op2 K r x y w2 P) Z) Z) : Ev K W (tOp r ta tb) δ w P Z :=
  fun σ H s Q q z => h σ H s _ (fun x H1 d w1 e1 c1 r1 h1 => h1 σ H1 (s.next e1 c1) _ (fun y H2 d2 w2 e2 c2 r2 h2 => h2 x y H2 (r1.mono e2) r2 c2 Q (KqG.next q (e1.trans e2))) (z.next e1)) z
theorem ev_un {r : V → Hp → VK → Prop} (h : Ev K W ta δ w (fun x w1 => Op1 K r x w1 P) Z) : Ev K W (tUn r ta) δ w P Z :=
  fun σ H s Q q z => h σ H s _ (fun x H1 d w1 e1 c1 r1 h1 => h1 x H1 r1 c1 Q (KqG.next q e1)) z
theorem o2_I0 {g : Int → Int → Int} {i j : Int} (k : P (.int (g i j)) w) : Op2 K (rI0 fun a b => .int (g a b)) (.int i) (.int j) w P := by
  intro v u H h1 h2 c Q q
  cases h1; cases h2
  exact ⟨i, j, rfl, rfl, q _ H _ w (Ex.refl _) c (.int _) k⟩
theorem o2_B0 {g : Int → Int → Bool} {i j : Int} (k : P (.bl (g i j)) w) : Op2 K (rI0 fun a b => .bl (g a b)) (.int i) (.int j) w P := by
  intro v u H h1 h2 c Q q
  cases h1; cases h2
  exact ⟨i, j, rfl, rfl, q _ H _ w (Ex.refl _) c (.bl _) k⟩
theorem o2_I {C : Int → Int → Prop} {g : Int → Int → Int} {i j : Int} (hc : C i j) (k : P (.int (g i j)) w) : Op2 K (rI C fun a b => .int (g a b)) (.int i) (.int j) w P := by
  intro v u H h1 h2 c Q q
  cases h1; cases h2
  exact ⟨i, j, rfl, rfl, hc, q _ H _ w (Ex.refl _) c (.int _) k⟩
theorem o1_U {g : Int → Int} {i : Int} (k : P (.int (g i)) w) : Op1 K (rU fun a => .int (g a)) (.int i) w P := by
  intro v H h1 c Q q
  cases h1
  exact ⟨i, rfl, q _ H _ w (Ex.refl _) c (.int _) k⟩
/-- == of ints, bools, texts, None -/
theorem o2_eqI {i j : Int} (k : P (.bl (decide (i = j))) w) : Op2 K rEq (.int i) (.int j) w P := by
  intro v u H h1 h2 c Q q
  cases h1; cases h2
  have e : decide (V.int i = V.int j) = decide (i = j) := by
    by_cases h : i = j
    · rw [decide_eq_true h, decide_eq_true (by rw [h])]
    · rw [decide_eq_false h, decide_eq_false (fun z => h (V.int.inj z))]
  exact ⟨rfl, q _ H _ w (Ex.refl _) c (by rw [e]; exact .bl _) k⟩
theorem o2_neI {i j : Int} (k : P (.bl (!decide (i = j))) w) : Op2 K rNe (.int i) (.int j) w P := by
  intro v u H h1 h2 c Q q
  cases h1; cases h2
  have e : decide (V.int i = V.int j) = decide (i = j) := by
    by_cases h : i = j
    · rw [decide_eq_true h, decide_eq_true (by rw [h])]
    · rw [decide_eq_false h, decide_eq_false (fun z => h (V.int.inj z))]
  exact ⟨rfl, q _ H _ w (Ex.refl _) c (by rw [e]; exact .bl _) k⟩
theorem o2_eqS {i j : Str} (k : P (.bl (decide (i = j))) w) : Op2 K rEq (.str i) (.str j) w P := by
  intro v u H h1 h2 c Q q
  cases h1; cases h2
  have e : decide (V.str i = V.str j) = decide (i = j) := by
    by_cases h : i = j
    · rw [decide_eq_true h, decide_eq_true (by rw [h])]
    · rw [decide_eq_false h, decide_eq_false (fun z => h (V.str.inj z))]
  exact ⟨rfl, q _ H _ w (Ex.refl _) c (by rw [e]; exact .bl _) k⟩
theorem o2_neS {i j : Str} (k : P (.bl (!decide (i = j))) w) : Op2 K rNe (.str i) (.str j) w P := by
  intro v u H h1 h2 c Q q
  cases h1; cases h2
  have e : decide (V.str i = V.str j) = decide (i = j) := by
    by_cases h : i = j
    · rw [decide_eq_true h, decide_eq_true (by rw [h])]
    · rw [decide_eq_false h, decide_eq_false (fun z => h (V.str.inj z))]
  exact ⟨rfl, q _ H _ w (Ex.refl _) c (by rw [e]; exact .bl _) k⟩
theorem o2_eqB {i j : Bool} (k : P (.bl (decide (i = j))) w) : Op2 K rEq (.bl i) (.bl j) w P := by
  intro v u H h1 h2 c Q q
  cases h1; cases h2
  have e : decide (V.bl i = V.bl j) = decide (i = j) := by
    by_cases h : i = j
    · rw [decide_eq_true h, decide_eq_true (by rw [h])]
    · rw [decide_eq_false h, decide_eq_false (fun z => h (V.bl.inj z))]
  exact ⟨rfl, q _ H _ w (Ex.refl _) c (by rw [e]; exact .bl _) k⟩
theorem o2_neB {i j : Bool} (k : P (.bl (!decide (i = j))) w) : Op2 K rNe (.bl i) (.bl j) w P := by
  intro v u H h1 h2 c Q q
  cases h1; cases h2
  have e : decide (V.bl i = V.bl j) = decide (i = j) := by
    by_cases h : i = j
    · rw [decide_eq_true h, decide_eq_true (by rw [h])]
    · rw [decide_eq_false h, decide_eq_false (fun z => h (V.bl.inj z))]
  exact ⟨rfl, q _ H _ w (Ex.refl _) c (by rw [e]; exact .bl _) k⟩
theorem o2_SS {g : Str → Str → Bool} {i j : Str} (k : P (.bl (g i j)) w) : Op2 K (fun x y H Q => ∃ i j, x = .str i ∧ y = .str j ∧ Q (.bl (g i j)) H) (.str i) (.str j) w P := by
  intro v u H h1 h2 c Q q
  cases h1; cases h2
  exact ⟨i, j, rfl, rfl, q _ H _ w (Ex.refl _) c (.bl _) k⟩
theorem o2_inSign {z : Str} {n : Nat} (k : P (.bl (decide (n ∈ z.cps.toList))) w) : Op2 K (fun x y H Q => ∃ (c : Nat) (z : Str), x = .str ⟨#[c]⟩ ∧ y = .str z ∧ Q (.bl (decide (c ∈ z.cps.toList))) H) (.str ⟨#[n]⟩) (.str z) w P := by
  intro v u H h1 h2 c Q q
  cases h1; cases h2
  exact ⟨n, z, rfl, rfl, q _ H _ w (Ex.refl _) c (.bl _) k⟩
theorem o2_catS {i j : Str} (hl : i.length + j.length ≤ sizeLine) (k : P (.str (i ++ j)) w) : Op2 K (fun x y H Q => ∃ i j, x = .str i ∧ y = .str j ∧ i.length + j.length ≤ sizeLine ∧ Q (.str (i ++ j)) H) (.str i) (.str j) w P := by
  intro v u H h1 h2 c Q q
  cases h1; cases h2
  exact ⟨i, j, rfl, rfl, hl, q _ H _ w (Ex.refl _) c (.str _) k⟩
theorem o2_isB {i j : Bool} (k : P (.bl (decide (i = j))) w) : Op2 K rIsB (.bl i) (.bl j) w P := by
  intro v u H h1 h2 c Q q
  cases h1; cases h2
  exact ⟨i, j, rfl, rfl, q _ H _ w (Ex.refl _) c (.bl _) k⟩
theorem o2_notB {i j : Bool} (k : P (.bl (!decide (i = j))) w) : Op2 K rNotB (.bl i) (.bl j) w P := by
  intro v u H h1 h2 c Q q
  cases h1; cases h2
  exact ⟨i, j, rfl, rfl, q _ H _ w (Ex.refl _) c (.bl _) k⟩
def isNonD : D → Bool | .non => true | _ => false
theorem rp_isNon {G : Hp} {v : V} {x : D} (h : Rp K G v x) : decide (v = .non) = isNonD x := by
  cases h <;> rfl
theorem o2_isN {x : D} (k : P (.bl (isNonD x)) w) : Op2 K (fun x y H Q => y = .non ∧ Q (.bl (decide (x = .non))) H) x .non w P := by
  intro v u H h1 h2 c Q q
  cases h2
  exact ⟨rfl, q _ H _ w (Ex.refl _) c (by rw [rp_isNon h1]; exact .bl _) k⟩
theorem o2_notN {x : D} (k : P (.bl (!isNonD x)) w) : Op2 K (fun x y H Q => y = .non ∧ Q (.bl (!decide (x = .non))) H) x .non w P := by
  intro v u H h1 h2 c Q q
  cases h2
  exact ⟨rfl, q _ H _ w (Ex.refl _) c (by rw [rp_isNon h1]; exact .bl _) k⟩

/-! ### items -/
theorem atI_map {G : Hp} {vs : List V} {ds : List D} (r : RpA K G vs ds) {i : Int} {d : D} (h : atI ds i = some d) : ∃ v, atI vs i = some v ∧ Rp K G v d := by
  unfold atI at h ⊢
  rw [r.length]
  cases e : ixN ds.length i with
  | none => rw [e] at h; cases h
  | some j =>
    rw [e] at h
    exact r.get h
theorem o2_ixT {ds : List D} {i : Int} {d : D} (h : atI ds i = some d) (k : P d w) : Op2 K (rIxT K) (.tup ds) (.int i) w P := by
  intro v u H h1 h2 c Q q
  cases h1 with
  | tup ht hr =>
    cases h2
    obtain ⟨x, e, rx⟩ := atI_map hr h
    exact ⟨_, _, i, x, rfl, rfl, ex_t Ex.msk ht, e, q _ H _ w (Ex.refl _) c rx k⟩
theorem o2_ixL {ds : List D} {i : Int} {d : D} (h : atI ds i = some d) (k : P d w) : Op2 K (rIxL K) (.lst ds) (.int i) w P := by
  intro v u H h1 h2 c Q q
  cases h1 with
  | lst ht hr =>
    cases h2
    obtain ⟨x, e, rx⟩ := atI_map hr h
    exact ⟨_, _, i, x, rfl, rfl, SqL.of (msk_some ht).2, e, q _ H _ w (Ex.refl _) c rx k⟩
theorem o2_ixLo {l : Addr} {ds : List D} {i : Int} {d : D} (hl : w l = some (.lst ds)) (h : atI ds i = some d) (k : P d w) : Op2 K (rIxL K) (.ptr l) (.int i) w P := by
  intro v u H h1 h2 c Q q
  cases h1; cases h2
  obtain ⟨xs, e1, e2⟩ := c l _ hl
  obtain ⟨x, e, rx⟩ := atI_map e2 h
  exact ⟨_, _, i, x, rfl, rfl, SqL.of e1, e, q _ H _ w (Ex.refl _) c rx k⟩
theorem o2_ixS {z : Str} {i : Int} {n : Nat} (hz : z.length ≤ sizeLine) (h : atI z.cps.toList i = some n) (k : P (.str ⟨#[n]⟩) w) : Op2 K rIxS (.str z) (.int i) w P := by
  intro v u H h1 h2 c Q q
  cases h1; cases h2
  exact ⟨z, i, n, rfl, rfl, hz, h, q _ H _ w (Ex.refl _) c (.str _) k⟩

/-! ### new tuples, new lists -/
theorem mk_new {H : Hp} {p : Addr} {o : HO} (c : Cells K w H) (hp : H p = none) : Ex (msk w H) (msk w (upd H p o)) ∧ Cells K w (upd H p o) ∧ msk w (upd H p o) p = some o := by
  obtain ⟨c', e⟩ := c.grow (ex_new (o := o) hp)
  exact ⟨e, c', msk_of (c.free hp) upd_same⟩
theorem kq_tup {H : Hp} {vs : List V} {ds : List D} {Q : VK} (q : Kq K w H P Q) (c : Cells K w H) (r : RpA K (msk w H) vs ds) (k : P (.tup ds) w) {p : Addr} (hp : H p = none) : Q (.ref p) (upd H p (.tup vs)) := by
  obtain ⟨e, c', h⟩ := mk_new (o := .tup vs) c hp
  exact q _ _ _ w e c' (.tup (.inl (.inl h)) (r.mono e)) k
theorem kq_lst {H : Hp} {vs : List V} {ds : List D} {Q : VK} (q : Kq K w H P Q) (c : Cells K w H) (r : RpA K (msk w H) vs ds) (k : P (.lst ds) w) {p : Addr} (hp : H p = none) : Q (.ref p) (upd H p (.lst vs)) := by
  obtain ⟨e, c', h⟩ := mk_new (o := .lst vs) c hp
  exact q _ _ _ w e c' (.lst h (r.mono e)) k
theorem ev_tup {ts : TA} (h : EvA K W ts δ w (fun ds w1 => ds.length ≤ sizeLine ∧ P (.tup ds) w1) Z) : Ev K W (tTup ts) δ w P Z :=
  fun σ H s Q q z => h σ H s _ (fun vs H1 ds w1 e1 c1 r1 ⟨h1, h2⟩ => ⟨by rw [r1.length]; exact h1, fun p hp => kq_tup (KqG.next q e1) c1 r1 h2 hp⟩) z
theorem ev_lst {ts : TA} (h : EvA K W ts δ w (fun ds w1 => ds.length ≤ sizeLine ∧ P (.lst ds) w1) Z) : Ev K W (tLst ts) δ w P Z :=
  fun σ H s Q q z => h σ H s _ (fun vs H1 ds w1 e1 c1 r1 ⟨h1, h2⟩ => ⟨by rw [r1.length]; exact h1, fun p hp => kq_lst (KqG.next q e1) c1 r1 h2 hp⟩) z
/-- a new list that stays owned -/
theorem own_ok {H : Hp} {p : Addr} {vs : List V} {ds : List D} (c : Cells K w H) (r : RpA K (msk w H) vs ds) (hp : H p = none) : Ex (msk w H) (msk (put w p (.lst ds)) (upd H p (.lst vs))) ∧ Cells K (put w p (.lst ds)) (upd H p (.lst vs)) := by
  have e : Ex (msk w H) (msk (put w p (.lst ds)) (upd H p (.lst vs))) := fun a o h => by
    obtain ⟨h1, h2⟩ := msk_some h
    have n : a ≠ p := ne_of_none h2 hp
    exact msk_of (by rw [put_ne n]; exact h1) (by rw [upd_ne n]; exact h2)
  refine ⟨e, fun a x q => ?_⟩
  by_cases n : a = p
  · subst n
    rw [put_same] at q; cases q
    exact ⟨vs, upd_same, r.mono e⟩
  · rw [put_ne n] at q
    exact ClAt.mono e (c a x q) fun o ho => by rw [upd_ne n]; exact ho
theorem ev_lstOwn {ts : TA} (h : EvA K W ts δ w (fun ds w1 => ds.length ≤ sizeLine ∧ ∀ p, w1 p = none → P (.ptr p) (put w1 p (.lst ds))) Z) : Ev K W (tLst ts) δ w P Z :=
  fun σ H s Q q z => h σ H s _ (fun vs H1 ds w1 e1 c1 r1 ⟨h1, h2⟩ => ⟨by rw [r1.length]; exact h1, fun p hp => by
    obtain ⟨e, c'⟩ := own_ok c1 r1 hp
    exact q _ _ _ _ (e1.trans e) c' (.ptr p) (h2 p (c1.free hp))⟩) z
theorem ea_nil {P : List D → Wl → Prop} (k : P [] w) : EvA K W tNil δ w P Z := fun σ H s Q q _ => q [] H [] w (Ex.refl _) s.ce .nil k
theorem ea_cons {tr : TA} {P : List D → Wl → Prop} (h : Ev K W ta δ w (fun d w1 => EvA K W tr δ w1 (fun ds w2 => P (d :: ds) w2) Z) Z) : EvA K W (tCons ta tr) δ w P Z :=
  fun σ H s Q q z => h σ H s _ (fun v H1 d w1 e1 c1 r1 h1 => h1 σ H1 (s.next e1 c1) _ (fun vs H2 ds w2 e2 c2 r2 h2 => q (v :: vs) H2 (d :: ds) w2 (e1.trans e2) c2 (.cons (r1.mono e2) r2) h2) (z.next e1)) z

/-! ### built-ins by values -/
theorem ev_cb {rr : List V → Hp → VK → Prop} {ts : TA} (h : EvA K W ts δ w (fun ds w1 => OpL K rr ds w1 P) Z) : Ev K W (tCB rr ts) δ w P Z :=
  fun σ H s Q q z => h σ H s _ (fun vs H1 ds w1 e1 c1 r1 h1 => h1 vs H1 r1 c1 Q (KqG.next q e1)) z
theorem ol_len {rr : List V → Hp → VK → Prop} {x : D} {n : Nat} (hr : ∀ v H (Q : VK), LenV K v H n → Q (.int n) H → rr [v] H Q)
    (hx : (∃ ds, x = .tup ds ∧ n = ds.length) ∨ (∃ ds, x = .lst ds ∧ n = ds.length) ∨ (∃ z, x = .str z ∧ z.length ≤ sizeLine ∧ n = z.length) ∨ ∃ l ds, x = .ptr l ∧ w l = some (.lst ds) ∧ n = ds.length) (k : P (.int n) w) : OpL K rr [x] w P := by
  intro vs H h1 c Q q
  cases h1 with
  | cons h t =>
    cases t
    refine hr _ H Q ?_ (q _ H _ w (Ex.refl _) c (.int _) k)
    rcases hx with ⟨ds, rfl, rfl⟩ | ⟨ds, rfl, rfl⟩ | ⟨z, rfl, hz, rfl⟩ | ⟨l, ds, rfl, hl, rfl⟩
    · cases h with
      | tup ht hr => exact .inr ⟨_, ex_t Ex.msk ht, by rw [hr.length]⟩
    · cases h with
      | lst ht hr => exact .inl ⟨_, SqL.of (msk_some ht).2, by rw [hr.length]⟩
    · cases h
      exact ⟨hz, rfl⟩
    · cases h
      obtain ⟨xs, e1, e2⟩ := c l _ hl
      exact .inl ⟨xs, SqL.of e1, by rw [e2.length]⟩
def rLen (K : PySem.W.Frag) : List V → Hp → VK → Prop := fun xs H Q => ∃ x n, xs = [x] ∧ LenV K x H n ∧ Q (.int n) H
theorem len_hr {n : Nat} : ∀ v H (Q : VK), LenV K v H n → Q (.int n) H → rLen K [v] H Q := fun v _ _ h q => ⟨v, n, rfl, h, q⟩
theorem ol_lenT {ds : List D} (k : P (.int ds.length) w) : OpL K (rLen K) [.tup ds] w P := ol_len len_hr (.inl ⟨ds, rfl, rfl⟩) k
theorem ol_lenL {ds : List D} (k : P (.int ds.length) w) : OpL K (rLen K) [.lst ds] w P := ol_len len_hr (.inr (.inl ⟨ds, rfl, rfl⟩)) k
theorem ol_lenS {z : Str} (hz : z.length ≤ sizeLine) (k : P (.int z.length) w) : OpL K (rLen K) [.str z] w P := ol_len len_hr (.inr (.inr (.inl ⟨z, rfl, hz, rfl⟩))) k
theorem ol_lenO {l : Addr} {ds : List D} (hl : w l = some (.lst ds)) (k : P (.int ds.length) w) : OpL K (rLen K) [.ptr l] w P := ol_len len_hr (.inr (.inr (.inr ⟨l, ds, rfl, hl, rfl⟩))) k
def rAbs : List V → Hp → VK → Prop := fun xs H Q => ∃ i, xs = [.int i] ∧ Q (.int (if i < 0 then -i else i)) H
theorem ol_abs {i : Int} (k : P (.int (if i < 0 then -i else i)) w) : OpL K rAbs [.int i] w P := by
  intro vs H h1 c Q q
  cases h1 with
  | cons h t => cases t; cases h; exact ⟨i, rfl, q _ H _ w (Ex.refl _) c (.int _) k⟩
def rMax2 : List V → Hp → VK → Prop := fun xs H Q => ∃ i j, xs = [.int i, .int j] ∧ Q (.int (if j > i then j else i)) H
def rMin2 : List V → Hp → VK → Prop := fun xs H Q => ∃ i j, xs = [.int i, .int j] ∧ Q (.int (if j < i then j else i)) H
theorem ol_max2 {i j : Int} (k : P (.int (if j > i then j else i)) w) : OpL K rMax2 [.int i, .int j] w P := by
  intro vs H h1 c Q q
  cases h1 with
  | cons h t => cases t with
    | cons h' t' => cases t'; cases h; cases h'; exact ⟨i, j, rfl, q _ H _ w (Ex.refl _) c (.int _) k⟩
theorem ol_min2 {i j : Int} (k : P (.int (if j < i then j else i)) w) : OpL K rMin2 [.int i, .int j] w P := by
  intro vs H h1 c Q q
  cases h1 with
  | cons h t => cases t with
    | cons h' t' => cases t'; cases h; cases h'; exact ⟨i, j, rfl, q _ H _ w (Ex.refl _) c (.int _) k⟩
def rInt1 : List V → Hp → VK → Prop := fun xs H Q => (∃ i, xs = [.int i] ∧ Q (.int i) H) ∨ ∃ k, xs = [.bl k] ∧ Q (.int (if k then 1 else 0)) H
theorem ol_int1 {i : Int} (k : P (.int i) w) : OpL K rInt1 [.int i] w P := by
  intro vs H h1 c Q q
  cases h1 with
  | cons h t => cases t; cases h; exact .inl ⟨i, rfl, q _ H _ w (Ex.refl _) c (.int _) k⟩
/-- tuple(xs), list(xs) -/
def rTupOf (K : PySem.W.Frag) : List V → Hp → VK → Prop := fun xs H Q => ∃ p ys, xs = [.ref p] ∧ ((SqL K H p ys ∧ ∀ l, H l = none → Q (.ref l) (upd H l (.tup ys))) ∨ (SqT K H p ys ∧ Q (.ref p) H))
theorem ol_tupL {ds : List D} (k : P (.tup ds) w) : OpL K (rTupOf K) [.lst ds] w P := by
  intro vs H h1 c Q q
  cases h1 with
  | cons h t => cases t; cases h with
    | lst ht hr => exact ⟨_, _, rfl, .inl ⟨SqL.of (msk_some ht).2, fun p hp => kq_tup q c hr k hp⟩⟩
theorem ol_tupO {l : Addr} {ds : List D} (hl : w l = some (.lst ds)) (k : P (.tup ds) w) : OpL K (rTupOf K) [.ptr l] w P := by
  intro vs H h1 c Q q
  cases h1 with
  | cons h t =>
    cases t; cases h
    obtain ⟨xs, e1, e2⟩ := c l _ hl
    exact ⟨_, _, rfl, .inl ⟨SqL.of e1, fun p hp => kq_tup q c e2 k hp⟩⟩
theorem ol_tupT {ds : List D} (k : P (.tup ds) w) : OpL K (rTupOf K) [.tup ds] w P := by
  intro vs H h1 c Q q
  cases h1 with
  | cons h t => cases t; cases h with
    | tup ht hr => exact ⟨_, _, rfl, .inr ⟨ex_t Ex.msk ht, q _ H _ w (Ex.refl _) c (.tup ht hr) k⟩⟩
def rLstOf (K : PySem.W.Frag) : List V → Hp → VK → Prop := fun xs H Q => ∃ p ys, xs = [.ref p] ∧ (SqL K H p ys ∨ SqT K H p ys) ∧ ∀ l, H l = none → Q (.ref l) (upd H l (.lst ys))
theorem ol_lstL {ds : List D} (k : P (.lst ds) w) : OpL K (rLstOf K) [.lst ds] w P := by
  intro vs H h1 c Q q
  cases h1 with
  | cons h t => cases t; cases h with
    | lst ht hr => exact ⟨_, _, rfl, .inl (SqL.of (msk_some ht).2), fun p hp => kq_lst q c hr k hp⟩
theorem ol_lstT {ds : List D} (k : P (.lst ds) w) : OpL K (rLstOf K) [.tup ds] w P := by
  intro vs H h1 c Q q
  cases h1 with
  | cons h t => cases t; cases h with
    | tup ht hr => exact ⟨_, _, rfl, .inr (ex_t Ex.msk ht), fun p hp => kq_lst q c hr k hp⟩
/-- sum, all, any of a list -/
theorem ol_sum {ns : List Int} (k : P (.int ns.sum) w) : OpL K (rSum K) [.lst (ns.map D.int)] w P := by
  intro vs H h1 c Q q
  cases h1 with
  | cons h t => cases t; cases h with
    | lst ht hr =>
      have e := rpa_ints hr
      subst e
      exact ⟨_, ns, rfl, SqL.of (msk_some ht).2, q _ H _ w (Ex.refl _) c (.int _) k⟩
theorem ol_all {ns : List Bool} (k : P (.bl (ns.all id)) w) : OpL K (rAll K) [.lst (ns.map D.bl)] w P := by
  intro vs H h1 c Q q
  cases h1 with
  | cons h t => cases t; cases h with
    | lst ht hr =>
      have e := rpa_bools hr
      subst e
      exact ⟨_, ns, rfl, SqL.of (msk_some ht).2, q _ H _ w (Ex.refl _) c (.bl _) k⟩
theorem ol_any {ns : List Bool} (k : P (.bl (ns.any id)) w) : OpL K (rAny K) [.lst (ns.map D.bl)] w P := by
  intro vs H h1 c Q q
  cases h1 with
  | cons h t => cases t; cases h with
    | lst ht hr =>
      have e := rpa_bools hr
      subst e
      exact ⟨_, ns, rfl, SqL.of (msk_some ht).2, q _ H _ w (Ex.refl _) c (.bl _) k⟩
/-- sorted of texts -/
theorem ol_sortS {xs : List Str} (hl : xs.length < 64) (k : ∀ ys : List Str, ys.Perm xs → ys.Pairwise (fun a b => ¬ b.cps.toList < a.cps.toList) → P (.lst (ys.map D.str)) w) (hr : ∀ (a : Addr) (H : Hp) (Q : VK), SqL K H a (xs.map V.str) →
    (∀ ys : List Str, ys.Perm xs → ys.Pairwise (fun a b => ¬ b.cps.toList < a.cps.toList) → ∀ p, H p = none → Q (.ref p) (upd H p (.lst (ys.map V.str)))) → rSortedS K [.ref a] H Q) : OpL K (rSortedS K) [.lst (xs.map D.str)] w P := by
  intro vs H h1 c Q q
  cases h1 with
  | cons h t => cases t; cases h with
    | lst ht hr' =>
      have e := rpa_strs hr'
      subst e
      exact hr _ H Q (SqL.of (msk_some ht).2) fun ys h1 h2 p hp => kq_lst q c (rpa_ofstrs ys) (k ys h1 h2) hp

/-! ### methods -/
theorem ev_bm0 {T : String} {rr : V → List V → Hp → VK → Prop} {to : TE} (h : Ev K W to δ w (fun x w1 => (∀ v H, Rp K (msk w1 H) v x → Cells K w1 H → tyV K T v H) ∧ OpM K rr x [] w1 P) Z) : Ev K W (tBM0 K T rr to) δ w P Z :=
  fun σ H s Q q z => h σ H s _ (fun v H1 d w1 e1 c1 r1 ⟨h1, h2⟩ => ⟨h1 v H1 r1 c1, h2 v [] H1 r1 .nil c1 Q (KqG.next q e1)⟩) z
theorem ev_bm {T : String} {rr : V → List V → Hp → VK → Prop} {to : TE} {ts : TA} (h : Ev K W to δ w (fun x w1 => (∀ v H, Rp K (msk w1 H) v x → Cells K w1 H → tyV K T v H) ∧ EvA K W ts δ w1 (fun ds w2 => OpM K rr x ds w2 P) Z) Z) : Ev K W (tBM K T rr to ts) δ w P Z :=
  fun σ H s Q q z => h σ H s _ (fun v H1 d w1 e1 c1 r1 ⟨h1, h2⟩ => ⟨h1 v H1 r1 c1, h2 σ H1 (s.next e1 c1) _ (fun vs H2 ds w2 e2 c2 r2 h3 => h3 v vs H2 (r1.mono e2) r2 c2 Q (KqG.next q (e1.trans e2))) (z.next e1)⟩) z
theorem ty_str {z : Str} : ∀ v H, Rp K (msk w H) v (.str z) → Cells K w H → tyV K "str" v H := fun v H h _ => by cases h; rfl
theorem ty_lstO {l : Addr} {ds : List D} (hl : w l = some (.lst ds)) : ∀ v H, Rp K (msk w H) v (.ptr l) → Cells K w H → tyV K "list" v H := fun v H h c => by
  cases h
  obtain ⟨xs, e1, _⟩ := c l _ hl
  exact Or.inl ⟨rfl, _, SqL.of e1⟩
theorem om_S0 {g : Str → Bool} {C : Str → Prop} {a : Str} (hc : C a) (k : P (.bl (g a)) w) : OpM K (fun x xs H Q => ∃ a, x = .str a ∧ xs = [] ∧ C a ∧ Q (.bl (g a)) H) (.str a) [] w P := by
  intro v vs H h1 h2 c Q q
  cases h1; cases h2
  exact ⟨a, rfl, rfl, hc, q _ H _ w (Ex.refl _) c (.bl _) k⟩
/-- xs.append(e), xs owned -/
theorem put_ok {l : Addr} {H : Hp} {xs : List V} {ds es : List D} {ys : List V} (c : Cells K w H) (hl : w l = some (.lst ds)) (e : H l = some (.lst xs)) (r : RpA K (msk w H) ys es) : Ex (msk w H) (msk (put w l (.lst es)) (upd H l (.lst ys))) ∧ Cells K (put w l (.lst es)) (upd H l (.lst ys)) := by
  have ee : Ex (msk w H) (msk (put w l (.lst es)) (upd H l (.lst ys))) := fun a o h => by
    obtain ⟨h1, h2⟩ := msk_some h
    have n : a ≠ l := fun z => by rw [z, hl] at h1; cases h1
    exact msk_of (by rw [put_ne n]; exact h1) (by rw [upd_ne n]; exact h2)
  refine ⟨ee, fun a x q => ?_⟩
  by_cases n : a = l
  · subst n
    rw [put_same] at q; cases q
    exact ⟨ys, upd_same, r.mono ee⟩
  · rw [put_ne n] at q
    exact ClAt.mono ee (c a x q) fun o ho => by rw [upd_ne n]; exact ho
theorem om_app {l : Addr} {ds : List D} {d : D} (hl : w l = some (.lst ds)) (hz : ds.length < sizeLine) (k : P .non (put w l (.lst (ds ++ [d])))) : OpM K rAppend (.ptr l) [d] w P := by
  intro v vs H h1 h2 c Q q
  cases h1
  cases h2 with
  | cons r t =>
    cases t
    obtain ⟨xs, e1, e2⟩ := c l _ hl
    obtain ⟨e, c'⟩ := put_ok c hl e1 (e2.append (.cons r .nil))
    exact ⟨l, xs, _, rfl, rfl, e1, by rw [e2.length]; exact hz, q _ _ _ _ e c' .non k⟩

/-! ### slices -/
theorem eo_none {P : Option Int → Wl → Prop} (k : P none w) : EvO K W tNoPart δ w P Z := fun σ H s Q q _ => q none H none w (Ex.refl _) s.ce rfl k
theorem eo_some {P : Option Int → Wl → Prop} (h : Ev K W te δ w (fun d w1 => ∃ i, d = .int i ∧ P (some i) w1) Z) : EvO K W (tPart te) δ w P Z :=
  fun σ H s Q q z => h σ H s _ (fun v H1 d w1 e1 c1 r1 ⟨i, hd, h1⟩ => by
    subst hd; cases r1
    exact ⟨i, rfl, q (some i) H1 (some i) w1 e1 c1 rfl h1⟩) z
def OpS (K : PySem.W.Frag) (r : V → Option Int → Option Int → Hp → VK → Prop) (x : D) (lo hi : Option Int) (w : Wl) (P : PD) : Prop := ∀ v H, Rp K (msk w H) v x → Cells K w H → ∀ Q, Kq K w H P Q → r v lo hi H Q
theorem ev_sl {rr : V → Option Int → Option Int → Hp → VK → Prop} {tl th : TO} (h : Ev K W te δ w (fun x w1 => EvO K W tl δ w1 (fun lo w2 => EvO K W th δ w2 (fun hi w3 => OpS K rr x lo hi w3 P) Z) Z) Z) : Ev K W (tSl rr te tl th) δ w P Z :=
  fun σ H s Q q z => h σ H s _ (fun v H1 d w1 e1 c1 r1 h1 => h1 σ H1 (s.next e1 c1) _ (fun lo H2 lo' w2 e2 c2 r2 h2 => h2 σ H2 ((s.next e1 c1).next e2 c2) _ (fun hi H3 hi' w3 e3 c3 r3 h3 => by
    subst r2; subst r3
    exact h3 v H3 ((r1.mono e2).mono e3) c3 Q (KqG.next q ((e1.trans e2).trans e3))) (z.next (e1.trans e2))) (z.next e1)) z
def cutD (xs : List D) (lo hi : Option Int) : List D := (xs.drop (HT.sIx xs.length 0 lo)).take (HT.sIx xs.length xs.length hi - HT.sIx xs.length 0 lo)
theorem rpa_cut {G : Hp} {vs : List V} {ds : List D} (r : RpA K G vs ds) (lo hi : Option Int) : RpA K G (cutV vs lo hi) (cutD ds lo hi) := by
  unfold cutV cutD
  rw [r.length]
  exact (r.drop _).take _
theorem os_lst {ds : List D} {lo hi : Option Int} (k : P (.lst (cutD ds lo hi)) w) : OpS K (rSlL K) (.lst ds) lo hi w P := by
  intro v H h1 c Q q
  cases h1 with
  | lst ht hr => exact ⟨_, _, rfl, SqL.of (msk_some ht).2, fun p hp => kq_lst q c (rpa_cut hr lo hi) k hp⟩
theorem os_str {z : Str} {lo hi : Option Int} (hz : z.length ≤ sizeLine) (k : P (.str (cutS z lo hi)) w) : OpS K rSlS (.str z) lo hi w P := by
  intro v H h1 c Q q
  cases h1
  exact ⟨z, rfl, hz, q _ H _ w (Ex.refl _) c (.str _) k⟩

/-! ### tests, choices -/
theorem et_B {P : Bool → Wl → Prop} (h : Ev K W te δ w (fun d w1 => ∃ b, d = .bl b ∧ P b w1) Z) : EvT K W (tB te) δ w P Z :=
  fun σ H s Q q z => h σ H s _ (fun v H1 d w1 e1 c1 r1 ⟨i, hd, h1⟩ => by
    subst hd; cases r1
    exact ⟨i, rfl, q i H1 i w1 e1 c1 rfl h1⟩) z
theorem et_test {P : Bool → Wl → Prop} (h : Ev K W te δ w (fun d w1 => ∃ b, d = .bl b ∧ P b w1) Z) : EvT K W (tTest te) δ w P Z :=
  fun σ H s Q q z => h σ H s _ (fun v H1 d w1 e1 c1 r1 ⟨i, hd, h1⟩ => by
    subst hd; cases r1
    exact ⟨i, rfl, q i H1 i w1 e1 c1 rfl h1⟩) z
theorem et_not {P : Bool → Wl → Prop} (h : EvT K W tt δ w (fun b w1 => P (!b) w1) Z) : EvT K W (tNot tt) δ w P Z :=
  fun σ H s Q q z => h σ H s _ (fun v H1 d w1 e1 c1 r1 h1 => by
    subst r1
    exact q _ H1 _ w1 e1 c1 rfl h1) z
theorem et_and {P : Bool → Wl → Prop} (h : EvT K W tt δ w (fun b w1 => if b = true then EvT K W tu δ w1 P Z else P false w1) Z) : EvT K W (tAnd tt tu) δ w P Z :=
  fun σ H s Q q z => h σ H s _ (fun v H1 d w1 e1 c1 r1 h1 => by
    subst r1
    cases v with
    | true => exact h1 σ H1 (s.next e1 c1) Q (KqG.next q e1) (z.next e1)
    | false => exact q false H1 false w1 e1 c1 rfl h1) z
theorem et_or {P : Bool → Wl → Prop} (h : EvT K W tt δ w (fun b w1 => if b = true then P true w1 else EvT K W tu δ w1 P Z) Z) : EvT K W (tOr tt tu) δ w P Z :=
  fun σ H s Q q z => h σ H s _ (fun v H1 d w1 e1 c1 r1 h1 => by
    subst r1
    cases v with
    | false => exact h1 σ H1 (s.next e1 c1) Q (KqG.next q e1) (z.next e1)
    | true => exact q true H1 true w1 e1 c1 rfl h1) z
theorem et_yes {P : Bool → Wl → Prop} (k : P true w) : EvT K W tYes δ w P Z := fun σ H s Q q _ => q true H true w (Ex.refl _) s.ce rfl k
theorem EvT.imp {P P' : Bool → Wl → Prop} (h : EvT K W tt δ w P Z) (k : ∀ d w', P d w' → P' d w') : EvT K W tt δ w P' Z := fun σ H s Q q z => h σ H s Q (fun v H' d w' e c r p => q v H' d w' e c r (k d w' p)) z
theorem ev_if (h : EvT K W tt δ w (fun b w1 => if b = true then Ev K W ta δ w1 P Z else Ev K W tb δ w1 P Z) Z) : Ev K W (tIf tt ta tb) δ w P Z :=
  fun σ H s Q q z => h σ H s _ (fun v H1 d w1 e1 c1 r1 h1 => by
    subst r1
    cases v with
    | true => exact h1 σ H1 (s.next e1 c1) Q (KqG.next q e1) (z.next e1)
    | false => exact h1 σ H1 (s.next e1 c1) Q (KqG.next q e1) (z.next e1)) z
theorem ev_andV (h : Ev K W ta δ w (fun d w1 => ∃ b, d = .bl b ∧ if b = true then Ev K W tb δ w1 P Z else P (.bl false) w1) Z) : Ev K W (tAndV ta tb) δ w P Z :=
  fun σ H s Q q z => h σ H s _ (fun v H1 d w1 e1 c1 r1 ⟨b, hd, h1⟩ => by
    subst hd; cases r1
    refine ⟨b, rfl, ?_⟩
    cases b with
    | true => exact h1 σ H1 (s.next e1 c1) Q (KqG.next q e1) (z.next e1)
    | false => exact q _ H1 _ w1 e1 c1 (.bl false) h1) z
theorem ev_orV (h : Ev K W ta δ w (fun d w1 => ∃ b, d = .bl b ∧ if b = true then P (.bl true) w1 else Ev K W tb δ w1 P Z) Z) : Ev K W (tOrV ta tb) δ w P Z :=
  fun σ H s Q q z => h σ H s _ (fun v H1 d w1 e1 c1 r1 ⟨b, hd, h1⟩ => by
    subst hd; cases r1
    refine ⟨b, rfl, ?_⟩
    cases b with
    | false => exact h1 σ H1 (s.next e1 c1) Q (KqG.next q e1) (z.next e1)
    | true => exact q _ H1 _ w1 e1 c1 (.bl true) h1) z
theorem ev_notV (h : Ev K W ta δ w (fun d w1 => ∃ b, d = .bl b ∧ P (.bl (!b)) w1) Z) : Ev K W (tNotV ta) δ w P Z :=
  fun σ H s Q q z => h σ H s _ (fun v H1 d w1 e1 c1 r1 ⟨b, hd, h1⟩ => by
    subst hd; cases r1
    exact ⟨b, rfl, q _ H1 _ w1 e1 c1 (.bl _) h1⟩) z
/-- the truth of a list, a tuple, a text, an int -/
def truD (w : Wl) : D → Option Bool
  | .non => some false | .bl b => some b | .int i => some (i != 0)
  | .lst ds => some (!ds.isEmpty) | .tup ds => some (!ds.isEmpty)
  | .ptr l => match w l with | some (.lst ds) => some (!ds.isEmpty) | _ => none
  | _ => none
theorem rpa_empty {G : Hp} {vs : List V} {ds : List D} (r : RpA K G vs ds) : (!vs.isEmpty) = !ds.isEmpty := by cases r <;> rfl
theorem tru_of {H : Hp} {v : V} {d : D} {b : Bool} (h : Rp K (msk w H) v d) (c : Cells K w H) (e : truD w d = some b) : TruV K v H b := by
  cases h with
  | non => cases e; rfl
  | bl x => cases e; rfl
  | int i => cases e; rfl
  | lst ht hr => cases e; exact .inl ⟨_, SqL.of (msk_some ht).2, (rpa_empty hr).symm⟩
  | tup ht hr => cases e; exact .inr (.inl ⟨_, ex_t Ex.msk ht, (rpa_empty hr).symm⟩)
  | ptr l =>
    unfold truD at e
    cases q : w l with
    | none => simp [q] at e
    | some x =>
      cases x with
      | lst ds =>
        simp only [q] at e; cases e
        obtain ⟨xs, e1, e2⟩ := c l _ q
        exact .inl ⟨_, SqL.of e1, (rpa_empty e2).symm⟩
      | dK _ => simp [q] at e
      | ins _ _ => simp [q] at e
      | scr _ => simp [q] at e
      | dF _ _ _ => simp [q] at e
  | _ => cases e
def tTru (K : PySem.W.Frag) (ta : TE) : TT := fun σ H Q => ta σ H fun x H1 => ∃ k, TruV K x H1 k ∧ Q k H1
theorem et_tru {P : Bool → Wl → Prop} (h : Ev K W ta δ w (fun d w1 => ∃ b, truD w1 d = some b ∧ P b w1) Z) : EvT K W (tTru K ta) δ w P Z :=
  fun σ H s Q q z => h σ H s _ (fun v H1 d w1 e1 c1 r1 ⟨b, hd, h1⟩ => ⟨b, tru_of r1 c1 hd, q b H1 b w1 e1 c1 rfl h1⟩) z
end
end DL
set_option Elab.async false
set_option linter.all false
set_option autoImplicit false
set_option maxRecDepth 100000
set_option maxHeartbeats 4000000
namespace DL
open PySem PySem.Spec PyProof.Rows L2
section
variable {K : PySem.W.Frag} {W : XK} {δ : Dlt} {w : Wl} {P : PD} {Z : ZD} {E : EndD} {ta tb te : TE} {tt : TT} {ts tu : TS} {g : TG}

/-! ### statements -/
theorem sd_nx {nx : Dlt → Wl → Prop} {rt : PD} {bk ct : Dlt → Wl → Prop} {rz : ZD} (k : nx δ w) : Sd K W tNext δ w ⟨nx, rt, bk, ct, rz⟩ := fun σ H s Dn ke => ke.nx σ H δ w (Ex.refl _) s k
theorem sd_brk {nx : Dlt → Wl → Prop} {rt : PD} {bk ct : Dlt → Wl → Prop} {rz : ZD} (k : bk δ w) : Sd K W tBreak δ w ⟨nx, rt, bk, ct, rz⟩ := fun σ H s Dn ke => ke.bk σ H δ w (Ex.refl _) s k
theorem sd_cont {nx : Dlt → Wl → Prop} {rt : PD} {bk ct : Dlt → Wl → Prop} {rz : ZD} (k : ct δ w) : Sd K W tCont δ w ⟨nx, rt, bk, ct, rz⟩ := fun σ H s Dn ke => ke.ct σ H δ w (Ex.refl _) s k
theorem sd_seq {nx : Dlt → Wl → Prop} {rt : PD} {bk ct : Dlt → Wl → Prop} {rz : ZD} (h : Sd K W ts δ w ⟨fun δ' w' => Sd K W tu δ' w' ⟨nx, rt, bk, ct, rz⟩, rt, bk, ct, rz⟩) : Sd K W (tSeq ts tu) δ w ⟨nx, rt, bk, ct, rz⟩ :=
  fun σ H s Dn ke => h σ H s { Dn with nx := tu Dn } ⟨fun σ' H' δ' w' e s' k => k σ' H' s' Dn (ke.next e), ke.rt, ke.bk, ke.ct, ke.rz⟩
theorem sd_drop {nx : Dlt → Wl → Prop} {rt : PD} {bk ct : Dlt → Wl → Prop} {rz : ZD} (h : Ev K W te δ w (fun _ w1 => nx δ w1) rz) : Sd K W (tDrop te) δ w ⟨nx, rt, bk, ct, rz⟩ :=
  fun σ H s Dn ke => h σ H s _ (fun v H1 d w1 e1 c1 r1 k => ke.nx σ H1 δ w1 e1 (s.next e1 c1) k) ke.rz
theorem sd_ret {nx : Dlt → Wl → Prop} {rt : PD} {bk ct : Dlt → Wl → Prop} {rz : ZD} (h : Ev K W te δ w rt rz) : Sd K W (tRet te) δ w ⟨nx, rt, bk, ct, rz⟩ := fun σ H s Dn ke => h σ H s _ ke.rt ke.rz
theorem sd_retN {nx : Dlt → Wl → Prop} {rt : PD} {bk ct : Dlt → Wl → Prop} {rz : ZD} (k : rt .non w) : Sd K W tRetN δ w ⟨nx, rt, bk, ct, rz⟩ := fun σ H s Dn ke => ke.rt .non H .non w (Ex.refl _) s.ce .non k
theorem sd_if {nx : Dlt → Wl → Prop} {rt : PD} {bk ct : Dlt → Wl → Prop} {rz : ZD} (h : EvT K W tt δ w (fun b w1 => if b = true then Sd K W ts δ w1 ⟨nx, rt, bk, ct, rz⟩ else Sd K W tu δ w1 ⟨nx, rt, bk, ct, rz⟩) rz) : Sd K W (tIfS tt ts tu) δ w ⟨nx, rt, bk, ct, rz⟩ :=
  fun σ H s Dn ke => h σ H s _ (fun v H1 d w1 e1 c1 r1 h1 => by
    subst r1
    cases v with
    | true => exact h1 σ H1 (s.next e1 c1) Dn (ke.next e1)
    | false => exact h1 σ H1 (s.next e1 c1) Dn (ke.next e1)) ke.rz
theorem sd_asg {nx : Dlt → Wl → Prop} {rt : PD} {bk ct : Dlt → Wl → Prop} {rz : ZD} (h : Ev K W te δ w (fun d w1 => Gd K W g d δ w1 nx rz) rz) : Sd K W (tAsg te g) δ w ⟨nx, rt, bk, ct, rz⟩ :=
  fun σ H s Dn ke => h σ H s _ (fun v H1 d w1 e1 c1 r1 k => k v σ H1 r1 (s.next e1 c1) _ (ke.nx.next e1) (ke.rz.next e1)) ke.rz
theorem sd_par {nx : Dlt → Wl → Prop} {rt : PD} {bk ct : Dlt → Wl → Prop} {rz : ZD} {i j : Nat} {t : TA} (h : EvA K W t δ w (fun ds w1 => ∃ a b, ds = [a, b] ∧ nx ((δ.set i (some a)).set j (some b)) w1) rz) : Sd K W (tPar i j t) δ w ⟨nx, rt, bk, ct, rz⟩ :=
  fun σ H s Dn ke => h σ H s _ (fun vs H1 ds w1 e1 c1 r1 ⟨a, b, hd, k⟩ => by
    subst hd
    cases r1 with
    | cons ra t => cases t with
      | cons rb t => cases t; exact ⟨_, _, rfl, ke.nx _ H1 _ w1 e1 (((s.next e1 c1).set i ra).set j rb) k⟩) ke.rz
theorem sd_aug {nx : Dlt → Wl → Prop} {rt : PD} {bk ct : Dlt → Wl → Prop} {rz : ZD} {i : Nat} {f : Int → Int → Int} {a : Int} (hx : δ[i]? = some (some (.int a))) (h : Ev K W te δ w (fun d w1 => ∃ b, d = .int b ∧ nx (δ.set i (some (.int (f a b)))) w1) rz) : Sd K W (tAug i te (ipI f)) δ w ⟨nx, rt, bk, ct, rz⟩ := by
  intro σ H s Dn ke
  obtain ⟨v, h1, h2⟩ := s.sl i _ hx
  cases h2
  refine ⟨_, h1, h σ H s _ (fun vs H1 ds w1 e1 c1 r1 ⟨b, hd, k⟩ => ?_) ke.rz⟩
  subst hd; cases r1
  exact ⟨a, b, rfl, rfl, ke.nx _ H1 _ w1 e1 ((s.next e1 c1).set i (.int _)) k⟩

/-! ### targets -/
theorem gd_name {i : Nat} {d : D} {P : Dlt → Wl → Prop} (k : P (δ.set i (some d)) w) : Gd K W (gName i) d δ w P Z := fun v σ H r s Q q _ => q _ H _ w (Ex.refl _) (s.set i r) k
theorem gd_tup {n : Nat} {t : TGs} {ds : List D} {P : Dlt → Wl → Prop} (hn : ds.length = n) (h : Gds K W t ds δ w P Z) : Gd K W (gTup K n t) (.tup ds) δ w P Z := by
  intro v σ H r s Q q z
  cases r with
  | tup ht hr => exact ⟨_, _, rfl, ex_t Ex.msk ht, hr.length.trans hn, h _ σ H hr s Q q z⟩
theorem gs_nil {P : Dlt → Wl → Prop} (k : P δ w) : Gds K W gNil [] δ w P Z := by
  intro vs σ H r s Q q z
  cases r
  exact ⟨rfl, q σ H δ w (Ex.refl _) s k⟩
theorem gs_cons {t : TG} {u : TGs} {d : D} {ds : List D} {P : Dlt → Wl → Prop} (h : Gd K W t d δ w (fun δ1 w1 => Gds K W u ds δ1 w1 P Z) Z) : Gds K W (gCons t u) (d :: ds) δ w P Z := by
  intro vs σ H r s Q q z
  cases r with
  | cons r1 r2 => exact ⟨_, _, rfl, h _ σ H r1 s _ (fun σ' H' δ' w' e s' k => k _ σ' H' (r2.mono e) s' Q (q.next e) (z.next e)) z⟩
theorem gd_sub {to ti : TE} {d : D} {P : Dlt → Wl → Prop} (h : Ev K W to δ w (fun o w1 => Ev K W ti δ w1 (fun i w2 => ∃ l ds k j, o = .ptr l ∧ i = .int k ∧ w2 l = some (.lst ds) ∧ ixN ds.length k = some j ∧ P δ (put w2 l (.lst (ds.set j d)))) Z) Z) : Gd K W (gSub to ti rSetL) d δ w P Z := by
  intro v σ H r s Q q z
  refine h σ H s _ (fun o H1 od w1 e1 c1 r1 h1 => ?_) z
  refine h1 σ H1 (s.next e1 c1) _ (fun i H2 di w2 e2 c2 r2 ⟨l, ds, k, j, h3, h4, hl, hj, hp⟩ => ?_) (z.next e1)
  subst h3; subst h4
  cases r1; cases r2
  obtain ⟨xs, e3, e4⟩ := c2 l _ hl
  have r' := r.mono (e1.trans e2)
  obtain ⟨ee, cc⟩ := put_ok c2 hl e3 (e4.set r' j)
  exact ⟨l, xs, k, j, rfl, rfl, e3, by rw [e4.length]; exact hj, q σ _ δ _ ((e1.trans e2).trans ee) ((s.next e1 c1).next e2 c2 |>.next ee cc) hp⟩

/-! ### what is walked -/
structure ItD (K : PySem.W.Frag) (J : It) (ds : List D) (G : Hp) : Prop where
  go : ∀ (i : Nat) (H : Hp), i < ds.length → Ex G H → J.go i H
  stop : ∀ H : Hp, Ex G H → J.stop ds.length H
  yld : ∀ (i : Nat) (d : D) (w : Wl) (H : Hp) (x : V) (H' : Hp), ds[i]? = some d → Ex G (msk w H) → Cells K w H → J.yld i H x H' → Ex (msk w H) (msk w H') ∧ Cells K w H' ∧ Rp K (msk w H') x d
def EvI (K : PySem.W.Frag) (W : XK) (wi : TI) (δ : Dlt) (w : Wl) (P : List D → Wl → Prop) (Z : ZD) : Prop :=
  ∀ σ H, Sat K σ H δ w → ∀ R : It → Hp → Prop, (∀ J H' ds w', Ex (msk w H) (msk w' H') → Cells K w' H' → ItD K J ds (msk w' H') → P ds w' → R J H') → Kz K w H Z W → wi σ H R
theorem itd_tup {a : Addr} {xs : List V} {ds : List D} {G : Hp} (h : SqT K G a xs) (r : RpA K G xs ds) : ItD K (Itt K a) ds G :=
  ⟨fun i H hi e => ⟨xs, xs[i]'(by rw [r.length]; exact hi), ex_t e h, by simp [r.length, hi]⟩, fun H e => ⟨xs, ex_t e h, by rw [r.length]; exact Nat.le_refl _⟩,
    fun i d w H x H' hd e c y => by
      obtain ⟨rfl, y⟩ := y
      obtain ⟨v, h1, h2⟩ := r.get hd
      have y' := y xs (ex_t (Ex.trans e Ex.msk) h)
      rw [h1] at y'; cases y'
      exact ⟨Ex.refl _, c, h2.mono e⟩⟩
theorem itd_lst {a : Addr} {xs : List V} {ds : List D} {G : Hp} (h : SqL K G a xs) (r : RpA K G xs ds) : ItD K (Itl K a) ds G :=
  ⟨fun i H hi e => ⟨xs, xs[i]'(by rw [r.length]; exact hi), ex_l e h, by simp [r.length, hi]⟩, fun H e => ⟨xs, ex_l e h, by rw [r.length]; exact Nat.le_refl _⟩,
    fun i d w H x H' hd e c y => by
      obtain ⟨rfl, y⟩ := y
      obtain ⟨v, h1, h2⟩ := r.get hd
      have y' := y xs (ex_l (Ex.trans e Ex.msk) h)
      rw [h1] at y'; cases y'
      exact ⟨Ex.refl _, c, h2.mono e⟩⟩
def rngD (lo : Int) (n : Nat) : List D := (List.range n).map fun i => .int (lo + (i : Nat))
theorem rngD_len {lo : Int} {n : Nat} : (rngD lo n).length = n := by unfold rngD; simp
theorem rngD_get {lo : Int} {n i : Nat} {d : D} (h : (rngD lo n)[i]? = some d) : d = .int (lo + (i : Nat)) ∧ i < n := by
  unfold rngD at h
  rw [List.getElem?_map] at h
  by_cases hi : i < n
  · rw [List.getElem?_range hi] at h
    cases h
    exact ⟨rfl, hi⟩
  · rw [List.getElem?_eq_none (by simpa using hi)] at h
    cases h
theorem itd_rng {lo : Int} {n : Nat} {G : Hp} : ItD K (Itr lo n) (rngD lo n) G :=
  ⟨fun i H hi e => by rw [rngD_len] at hi; exact hi, fun H e => by rw [rngD_len]; exact Nat.le_refl _, fun i d w H x H' hd e c y => by
    obtain ⟨rfl, rfl⟩ := y
    obtain ⟨rfl, _⟩ := rngD_get hd
    exact ⟨Ex.refl _, c, .int _⟩⟩
def chrD (z : Str) : List D := z.cps.toList.map fun c => .str ⟨#[c]⟩
theorem itd_str {z : Str} {G : Hp} : ItD K (Its z) (chrD z) G :=
  ⟨fun i H hi e => by unfold chrD at hi; simp at hi; exact hi, fun H e => by unfold chrD; simp [Its], fun i d w H x H' hd e c y => by
    obtain ⟨rfl, n, h1, rfl⟩ := y
    unfold chrD at hd
    rw [List.getElem?_map] at hd
    have : z.cps.toList[i]? = some n := by rw [← h1]; simp
    rw [this] at hd
    cases hd
    exact ⟨Ex.refl _, c, .str _⟩⟩
end
section
variable {K : PySem.W.Frag} {W : XK} {δ : Dlt} {w : Wl} {P : PD} {Z : ZD} {E : EndD} {ta tb te : TE} {tt : TT} {ts tu : TS} {g : TG} {PA : List D → Wl → Prop}
theorem ei_tupT (h : Ev K W te δ w (fun d w1 => ∃ ds, d = .tup ds ∧ PA ds w1) Z) : EvI K W (iTup K te) δ w PA Z :=
  fun σ H s R q z => h σ H s _ (fun v H1 d w1 e1 c1 r1 ⟨ds, hd, k⟩ => by
    subst hd
    cases r1 with
    | tup ht hr => exact ⟨_, rfl, ⟨_, ex_t Ex.msk ht⟩, q _ H1 ds w1 e1 c1 (itd_tup ht hr) k⟩) z
theorem ei_lst (h : Ev K W te δ w (fun d w1 => ∃ ds, d = .lst ds ∧ PA ds w1) Z) : EvI K W (iList K te) δ w PA Z :=
  fun σ H s R q z => h σ H s _ (fun v H1 d w1 e1 c1 r1 ⟨ds, hd, k⟩ => by
    subst hd
    cases r1 with
    | lst ht hr => exact ⟨_, rfl, ⟨_, SqL.of (msk_some ht).2⟩, q _ H1 ds w1 e1 c1 (itd_lst (SqL.of ht) hr) k⟩) z
theorem ei_str (h : Ev K W te δ w (fun d w1 => ∃ z, d = .str z ∧ PA (chrD z) w1) Z) : EvI K W (iStr te) δ w PA Z :=
  fun σ H s R q z => h σ H s _ (fun v H1 d w1 e1 c1 r1 ⟨ds, hd, k⟩ => by
    subst hd; cases r1
    exact ⟨_, rfl, q _ H1 _ w1 e1 c1 itd_str k⟩) z
theorem ei_rng1 {t : TA} (h : EvA K W t δ w (fun ds w1 => ∃ j : Int, ds = [.int j] ∧ (-(2 ^ 62) ≤ j ∧ j < 2 ^ 62) ∧ PA (rngD 0 j.toNat) w1) Z) : EvI K W (iRng1 t) δ w PA Z :=
  fun σ H s R q z => h σ H s _ (fun v H1 d w1 e1 c1 r1 ⟨j, hd, hj, k⟩ => by
    subst hd
    cases r1 with
    | cons r t => cases t; cases r; exact ⟨j, rfl, hj.1, hj.2, q _ H1 _ w1 e1 c1 itd_rng k⟩) z
theorem ei_rng2 {t : TA} (h : EvA K W t δ w (fun ds w1 => ∃ i j : Int, ds = [.int i, .int j] ∧ (-(2 ^ 62) ≤ i ∧ i < 2 ^ 62 ∧ -(2 ^ 62) ≤ j ∧ j < 2 ^ 62) ∧ PA (rngD i (j - i).toNat) w1) Z) : EvI K W (iRng2 t) δ w PA Z :=
  fun σ H s R q z => h σ H s _ (fun v H1 d w1 e1 c1 r1 ⟨i, j, hd, hj, k⟩ => by
    subst hd
    cases r1 with
    | cons r t => cases t with
      | cons r' t' => cases t'; cases r; cases r'; exact ⟨i, j, rfl, hj, q _ H1 _ w1 e1 c1 itd_rng k⟩) z
/-- a for: I, a word of the turn, the slots, the store -/
theorem sd_for {nx : Dlt → Wl → Prop} {rt : PD} {bk ct : Dlt → Wl → Prop} {rz : ZD} {wi : TI} (h : EvI K W wi δ w (fun ds w1 => ∃ I : Nat → Dlt → Wl → Prop, I 0 δ w1 ∧
    (∀ (i : Nat) (d : D) (δ' : Dlt) (w' : Wl), ds[i]? = some d → I i δ' w' → Gd K W g d δ' w' (fun δ2 w2 => Sd K W ts δ2 w2 ⟨I (i + 1), rt, nx, I (i + 1), rz⟩) rz) ∧
    (∀ δ' w', I ds.length δ' w' → nx δ' w')) rz) : Sd K W (tFor wi g ts) δ w ⟨nx, rt, bk, ct, rz⟩ := by
  intro σ H s Dn ke
  refine h σ H s _ (fun J H1 ds w1 e1 c1 it ⟨I, i0, it1, iN⟩ => ?_) ke.rz
  refine ⟨fun i m σ' H' => m = ds.length - i ∧ i ≤ ds.length ∧ ∃ δ' w', Ex (msk w1 H1) (msk w' H') ∧ Sat K σ' H' δ' w' ∧ I i δ' w', ⟨ds.length, by simp, Nat.zero_le _, δ, w1, Ex.refl _, s.next e1 c1, i0⟩, ?_⟩
  rintro i m σ' H' ⟨rfl, hi, δ', w', e', s', p⟩
  by_cases hlt : i < ds.length
  · refine .inr ⟨it.go i H' hlt (e'.trans Ex.msk), fun σ2 H2 => ∃ δ2 w2, Ex (msk w1 H1) (msk w2 H2) ∧ Sat K σ2 H2 δ2 w2 ∧ I (i + 1) δ2 w2, fun σ2 H2 h2 => ⟨ds.length - (i + 1), by omega, rfl, hlt, h2⟩, fun x H2 y => ?_⟩
    have hd : ds[i]? = some ds[i] := by simp [hlt]
    obtain ⟨e2, c2, r2⟩ := it.yld i _ w' H' x H2 hd e' s'.ce y
    refine it1 i _ δ' w' hd p x σ' H2 r2 (s'.next e2 c2) _ (fun σ3 H3 δ3 w3 e3 s3 k => ?_) (ke.rz.next ((e1.trans e').trans e2))
    have e03 : Ex (msk w1 H1) (msk w3 H3) := (e'.trans e2).trans e3
    refine k σ3 H3 s3 _ ⟨fun σ4 H4 δ4 w4 e4 s4 k4 => ⟨δ4, w4, e03.trans e4, s4, k4⟩, KqG.next ke.rt (e1.trans e03), fun σ4 H4 δ4 w4 e4 s4 k4 => ke.nx σ4 H4 δ4 w4 ((e1.trans e03).trans e4) s4 k4, fun σ4 H4 δ4 w4 e4 s4 k4 => ⟨δ4, w4, e03.trans e4, s4, k4⟩, ke.rz.next (e1.trans e03)⟩
  · have e : i = ds.length := by omega
    subst e
    exact .inl ⟨it.stop H' (e'.trans Ex.msk), ke.nx σ' H' δ' w' (e1.trans e') s' (iN δ' w' p)⟩

/-! ### comprehensions -/
def wipeD (δ : Dlt) : List Nat → Dlt
  | [] => δ
  | v :: vs => (wipeD δ vs).set v none
theorem Sat.wipe {σ : L2.St} {H : Hp} (s : Sat K σ H δ w) : ∀ vs : List Nat, Sat K (wipe σ vs) H (wipeD δ vs) w
  | [] => s
  | v :: vs => by
    have ih := Sat.wipe s vs
    unfold L2.wipe wipeD
    refine ⟨by rw [List.length_set, List.length_set]; exact ih.len, fun j x h => ?_, ih.ce⟩
    by_cases e : v = j
    · subst e
      by_cases hl : v < (wipeD δ vs).length
      · rw [List.getElem?_set_self hl] at h; cases h
      · rw [List.getElem?_eq_none (by simpa using hl)] at h; cases h
    · rw [List.getElem?_set_ne e] at h
      obtain ⟨u, h1, h2⟩ := ih.sl j x h
      exact ⟨u, by rw [List.getElem?_set_ne e]; exact h1, h2⟩
theorem set_comm' {α : Type} (l : List α) (i j : Nat) (a : α) : (l.set i a).set j a = (l.set j a).set i a := by
  by_cases h : i = j
  · subst h; rfl
  · exact List.set_comm _ _ h
theorem wipe_set_none (σ : L2.St) (i : Nat) : ∀ vs : List Nat, wipe (σ.set i none) vs = (wipe σ vs).set i none
  | [] => rfl
  | v :: vs => by unfold L2.wipe; rw [wipe_set_none σ i vs, set_comm']
theorem wipe_wipe (σ : L2.St) : ∀ vs us : List Nat, wipe (wipe σ vs) us = wipe (wipe σ us) vs
  | [], us => rfl
  | v :: vs, us => by
    show wipe ((wipe σ vs).set v none) us = (wipe (wipe σ us) vs).set v none
    rw [wipe_set_none, wipe_wipe σ vs us]
theorem wipe_mem (σ : L2.St) {i : Nat} {x : Option V} : ∀ {vs : List Nat}, i ∈ vs → wipe (σ.set i x) vs = wipe σ vs
  | v :: vs, h => by
    by_cases hi : i ∈ vs
    · unfold L2.wipe; rw [wipe_mem σ hi]
    · have e : i = v := by
        rcases List.mem_cons.mp h with h | h
        · exact h
        · exact absurd h hi
      subst e
      -- a slot outside vs
      have go : ∀ us : List Nat, (wipe (σ.set i x) us).set i none = (wipe σ us).set i none := fun us => by
        rw [← wipe_set_none, ← wipe_set_none, List.set_set]
      exact go vs
theorem wipe_idem (σ : L2.St) : ∀ vs : List Nat, wipe (wipe σ vs) vs = wipe σ vs
  | [] => rfl
  | v :: vs => by
    show (wipe ((wipe σ vs).set v none) vs).set v none = (wipe σ vs).set v none
    rw [wipe_set_none, wipe_idem σ vs, List.set_set]
/-- a target that stores within vs alone -/
def GLoc (g : TG) (vs : List Nat) : Prop := ∀ v σ H (Q : L2.St → Hp → Prop), g v σ H Q → g v σ H fun σ' H' => Q σ' H' ∧ wipe σ' vs = wipe σ vs
def GLocs (g : TGs) (vs : List Nat) : Prop := ∀ v σ H (Q : L2.St → Hp → Prop), g v σ H Q → g v σ H fun σ' H' => Q σ' H' ∧ wipe σ' vs = wipe σ vs
def GMon (g : TG) : Prop := ∀ v σ H (Q Q' : L2.St → Hp → Prop), (∀ σ' H', Q σ' H' → Q' σ' H') → g v σ H Q → g v σ H Q'
def GMons (g : TGs) : Prop := ∀ v σ H (Q Q' : L2.St → Hp → Prop), (∀ σ' H', Q σ' H' → Q' σ' H') → g v σ H Q → g v σ H Q'
theorem gl_name {i : Nat} {vs : List Nat} (h : i ∈ vs) : GLoc (gName i) vs ∧ GMon (gName i) := ⟨fun v σ H Q q => ⟨q, wipe_mem σ h⟩, fun v σ H Q Q' f q => f _ _ q⟩
theorem gls_nil {vs : List Nat} : GLocs gNil vs ∧ GMons gNil := ⟨fun v σ H Q q => ⟨q.1, q.2, rfl⟩, fun v σ H Q Q' f q => ⟨q.1, f _ _ q.2⟩⟩
theorem gls_cons {t : TG} {u : TGs} {vs : List Nat} (h1 : GLoc t vs ∧ GMon t) (h2 : GLocs u vs ∧ GMons u) : GLocs (gCons t u) vs ∧ GMons (gCons t u) := by
  refine ⟨fun v σ H Q q => ?_, fun v σ H Q Q' f q => ?_⟩
  · obtain ⟨x, r, e, q⟩ := q
    refine ⟨x, r, e, h1.2 x σ H _ _ (fun σ' H' ⟨q', e'⟩ => h2.2 r σ' H' _ _ (fun σ2 H2 ⟨q2, e2⟩ => ⟨q2, e2.trans e'⟩) (h2.1 r σ' H' _ q')) (h1.1 x σ H _ q)⟩
  · obtain ⟨x, r, e, q⟩ := q
    exact ⟨x, r, e, h1.2 x σ H _ _ (fun σ' H' q' => h2.2 r σ' H' _ _ f q') q⟩
theorem gl_tup {n : Nat} {t : TGs} {vs : List Nat} (h : GLocs t vs ∧ GMons t) : GLoc (gTup K n t) vs ∧ GMon (gTup K n t) := by
  refine ⟨fun v σ H Q q => ?_, fun v σ H Q Q' f q => ?_⟩
  · obtain ⟨a, xs, e, h1, h2, q⟩ := q
    exact ⟨a, xs, e, h1, h2, h.1 xs σ H _ q⟩
  · obtain ⟨a, xs, e, h1, h2, q⟩ := q
    exact ⟨a, xs, e, h1, h2, h.2 xs σ H _ _ f q⟩
theorem ev_lc {wi : TI} {vs : List Nat} (hg : GLoc g vs ∧ GMon g) (h : EvI K W wi δ w (fun ds w1 => ∀ l : Addr, w1 l = none → ∃ I : Nat → List D → Wl → Prop, I 0 [] (put w1 l (.lst [])) ∧
    (∀ (i : Nat) (d : D) (acc : List D) (w' : Wl), ds[i]? = some d → w' l = some (.lst acc) → I i acc w' → Gd K W g d (wipeD δ vs) w' (fun δ2 w2 => EvT K W tt δ2 w2 (fun b w3 =>
      if b = true then Ev K W te δ2 w3 (fun y w4 => w4 l = some (.lst acc) ∧ acc.length < sizeLine ∧ I (i + 1) (acc ++ [y]) (put w4 l (.lst (acc ++ [y])))) Z else w3 l = some (.lst acc) ∧ I (i + 1) acc w3) Z) Z) ∧
    (∀ acc w', w' l = some (.lst acc) → I ds.length acc w' → P (.lst acc) (cut w' l))) Z) : Ev K W (tLc wi g tt te vs) δ w P Z := by
  intro σ H s Q q z
  refine h σ H s _ (fun J H1 ds w1 e1 c1 it hI => fun l hD => ?_) z
  obtain ⟨I, i0, it1, iN⟩ := hI l (c1.free hD)
  obtain ⟨eo, co⟩ := own_ok (w := w1) (vs := []) (ds := []) c1 .nil hD
  refine ⟨fun i m H' => m = ds.length - i ∧ i ≤ ds.length ∧ ∃ acc w', w' l = some (.lst acc) ∧ Ex (msk w1 H1) (msk w' H') ∧ Cells K w' H' ∧ I i acc w', ⟨ds.length, by simp, Nat.zero_le _, [], _, put_same, eo, co, i0⟩, ?_⟩
  rintro i m H' ⟨rfl, hi, acc, w', hl, e', c', p⟩
  by_cases hlt : i < ds.length
  · refine .inr ⟨it.go i H' hlt (e'.trans Ex.msk), fun H2 => ∃ acc2 w2, w2 l = some (.lst acc2) ∧ Ex (msk w1 H1) (msk w2 H2) ∧ Cells K w2 H2 ∧ I (i + 1) acc2 w2, fun H2 h2 => ⟨ds.length - (i + 1), by omega, rfl, hlt, h2⟩, fun x H2 y => ?_⟩
    have hd : ds[i]? = some ds[i] := by simp [hlt]
    obtain ⟨e2, c2, r2⟩ := it.yld i _ w' H' x H2 hd e' c' y
    have s2 : Sat K (wipe σ vs) H2 (wipeD δ vs) w' := (s.wipe vs).next ((e1.trans e').trans e2) c2
    refine hg.2 x _ H2 _ _ (fun σ3 H3 (q3 : _ ∧ _) => ⟨q3.2.trans (wipe_idem σ vs), q3.1⟩) (hg.1 x _ H2 _ ?_)
    refine it1 i _ acc w' hd hl p x _ H2 r2 s2 _ (fun σ3 H3 δ3 w3 e3 s3 k => ?_) (z.next ((e1.trans e').trans e2))
    have e13 := (e'.trans e2).trans e3
    refine k σ3 H3 s3 _ (fun b H4 b' w4 e4 c4 r4 k4 => ?_) (z.next (e1.trans e13))
    subst r4
    cases b with
    | true =>
      refine k4 σ3 H4 (s3.next e4 c4) _ (fun y H5 dy w5 e5 c5 r5 ⟨k5, k6, k7⟩ => ?_) (z.next ((e1.trans e13).trans e4))
      obtain ⟨xs, h5, r6⟩ := c5 l _ k5
      obtain ⟨e6, c6⟩ := put_ok c5 k5 h5 (r6.append (.cons r5 .nil))
      exact ⟨xs, h5, by rw [r6.length]; exact k6, _, _, put_same, ((e13.trans e4).trans e5).trans e6, c6, k7⟩
    | false => exact ⟨acc, w4, k4.1, e13.trans e4, c4, k4.2⟩
  · have e : i = ds.length := by omega
    subst e
    obtain ⟨e3, c3, r3⟩ := frz_ok hl c'
    exact .inl ⟨it.stop H' (e'.trans Ex.msk), q _ H' _ _ ((e1.trans e').trans e3) c3 r3 (iN acc w' hl p)⟩
/-- no if, the store as it is, each item's element known -/
theorem lc_map {f : D → D} {wi : TI} {vs : List Nat} (hg : GLoc g vs ∧ GMon g) (h : EvI K W wi δ w (fun ds w1 => ds.length ≤ sizeLine ∧
    (∀ (l : Addr) (c : Cl) (i : Nat) (d : D), w1 l = none → ds[i]? = some d → Gd K W g d (wipeD δ vs) (put w1 l c) (fun δ2 w2 => Ev K W te δ2 w2 (fun y w4 => w4 = put w1 l c ∧ y = f d) Z) Z) ∧ P (.lst (ds.map f)) w1) Z) : Ev K W (tLc wi g tYes te vs) δ w P Z := by
  refine ev_lc hg fun σ H s R q z => h σ H s R (fun J H' ds w1 e c it ⟨hz, h1, h2⟩ => q J H' ds w1 e c it fun l hl => ?_) z
  refine ⟨fun i acc w' => acc = (ds.take i).map f ∧ w' = put w1 l (.lst acc), ⟨by simp, rfl⟩, ?_, ?_⟩
  · rintro i d acc w' hd hw ⟨ha, rfl⟩
    refine fun v σ H r s Q q z => h1 l _ i d hl hd v σ H r s Q (fun σ' H' δ' w' e s' k => q σ' H' δ' w' e s' (et_yes ?_)) z
    show Ev K W te δ' w' _ Z
    refine k.imp fun y w4 ⟨hw4, hy⟩ => ?_
    subst hw4; subst hy
    have hi : i < ds.length := (List.getElem?_eq_some_iff.mp hd).1
    refine ⟨hw, by rw [ha]; simp; omega, ?_, put_put⟩
    rw [ha, List.take_add_one, hd]
    simp
  · rintro acc w' hw ⟨ha, rfl⟩
    rw [cut_put hl, ha, List.take_length]
    exact h2

/-! ### calls -/
/-- a promise on data: what is given, what comes back, what is raised -/
def SpD (K : PySem.W.Frag) (pre : List D → Wl → Prop) (post : List D → Wl → D → Wl → Prop) (zost : List D → Wl → ZD) : Sp := fun vs H Q E =>
  ∃ ds w, RpA K (msk w H) vs ds ∧ Cells K w H ∧ pre ds w ∧ Kq K w H (post ds w) Q ∧ Kz K w H (zost ds w) E
def zN : List D → Wl → ZD := fun _ _ => z0
theorem kz_none {H : Hp} {E' : XK} : Kz K w H z0 E' := fun _ _ _ _ _ _ _ _ h => h.elim
/-- f(a, ..), nothing raised -/
theorem ev_call {pre : List D → Wl → Prop} {post : List D → Wl → D → Wl → Prop} {E' : XK} {t : TA} (h : EvA K W t δ w (fun ds w1 => pre ds w1 ∧ ∀ d w2, post ds w1 d w2 → P d w2) Z) : Ev K W (tCall (SpD K pre post zN) [] E' t) δ w P Z :=
  fun σ H s Q q z => h σ H s _ (fun vs H1 ds w1 e1 c1 r1 ⟨h1, h2⟩ => by
    rw [List.append_nil]
    exact ⟨ds, w1, r1, c1, h1, fun v H2 d w2 e2 c2 r2 p2 => q v H2 d w2 (e1.trans e2) c2 r2 (h2 d w2 p2), kz_none⟩) z
/-- .. it may raise, and the caller lets it out -/
theorem ev_callX {pre : List D → Wl → Prop} {post : List D → Wl → D → Wl → Prop} {zost : List D → Wl → ZD} {t : TA} (h : EvA K W t δ w (fun ds w1 => pre ds w1 ∧ (∀ d w2, post ds w1 d w2 → P d w2) ∧ ∀ c fs w2, zost ds w1 c fs w2 → Z c fs w2) Z) : Ev K W (tCall (SpD K pre post zost) [] W t) δ w P Z :=
  fun σ H s Q q z => h σ H s _ (fun vs H1 ds w1 e1 c1 r1 ⟨h1, h2, h3⟩ => by
    rw [List.append_nil]
    exact ⟨ds, w1, r1, c1, h1, fun v H2 d w2 e2 c2 r2 p2 => q v H2 d w2 (e1.trans e2) c2 r2 (h2 d w2 p2), fun c od H2 fs w2 e2 c2 x2 p2 => z c od H2 fs w2 (e1.trans e2) c2 x2 (h3 c fs w2 p2)⟩) z
/-- .. it may raise, but not here -/
theorem ev_callN {pre : List D → Wl → Prop} {post : List D → Wl → D → Wl → Prop} {zost : List D → Wl → ZD} {E' : XK} {t : TA} (h : EvA K W t δ w (fun ds w1 => pre ds w1 ∧ (∀ d w2, post ds w1 d w2 → P d w2) ∧ ∀ c fs w2, ¬ zost ds w1 c fs w2) Z) : Ev K W (tCall (SpD K pre post zost) [] E' t) δ w P Z :=
  fun σ H s Q q z => h σ H s _ (fun vs H1 ds w1 e1 c1 r1 ⟨h1, h2, h3⟩ => by
    rw [List.append_nil]
    exact ⟨ds, w1, r1, c1, h1, fun v H2 d w2 e2 c2 r2 p2 => q v H2 d w2 (e1.trans e2) c2 r2 (h2 d w2 p2), fun c od H2 fs w2 e2 c2 x2 p2 => (h3 c fs w2 p2).elim⟩) z

/-! ### a def's promise by its body -/
def startD (N : List Str) (ds : List D) : Dlt := ds.map some ++ List.replicate (N.length - ds.length) none
theorem sat_start {N : List Str} {vs : List V} {ds : List D} {H : Hp} (r : RpA K (msk w H) vs ds) (c : Cells K w H) : Sat K (L2.start N vs) H (startD N ds) w := by
  unfold L2.start startD
  refine ⟨by simp [r.length], fun i d h => ?_, c⟩
  by_cases hi : i < ds.length
  · rw [List.getElem?_append_left (by simpa using hi), List.getElem?_map] at h
    cases e : ds[i]? with
    | none => rw [e] at h; cases h
    | some x =>
      rw [e] at h; cases h
      obtain ⟨v, h1, h2⟩ := r.get e
      exact ⟨v, by rw [List.getElem?_append_left (by simp [r.length, hi]), List.getElem?_map, h1]; rfl, h2⟩
  · rw [List.getElem?_append_right (by simpa using Nat.le_of_not_lt hi), List.getElem?_replicate] at h
    split at h <;> cases h
abbrev endD (post : List D → Wl → D → Wl → Prop) (zost : List D → Wl → ZD) (ds : List D) (w : Wl) : EndD := { nx := fun _ w' => post ds w .non w', rt := post ds w, rz := zost ds w }
theorem ke_of {H : Hp} {E' : XK} {Q : VK} {ds : List D} {post : List D → Wl → D → Wl → Prop} {zost : List D → Wl → ZD} (q : Kq K w H (post ds w) Q) (z : Kz K w H (zost ds w) E') : Ke K E' w H (endD post zost ds w) { nx := fun _ H' => Q .non H', rt := Q } :=
  ⟨fun σ' H' δ' w' e s k => q _ H' _ w' e s.ce .non k, q, fun _ _ _ _ _ _ k => k.elim, fun _ _ _ _ _ _ k => k.elim, z⟩
end
section
variable {Pr : Program} {wo : World} {K : PySem.W.Frag} {mg : Str → Option Value} {base : Heap} {pre : List D → Wl → Prop} {post : List D → Wl → D → Wl → Prop} {zost : List D → Wl → ZD}
theorem fn_len {ps : List Str} (hlen : ∀ ds w, pre ds w → ds.length = ps.length) : ∀ vs H Q E, SpD K pre post zost vs H Q E → vs.length = ps.length := fun vs H Q E ⟨ds, w, r, _, p, _⟩ => by rw [r.length]; exact hlen ds w p
/-- nothing leaves it but its value -/
theorem fn_ok {x qual : Str} {st : Stmt} {f : Addr} {fd : FuncData} {N ps : List Str} {k : Nat} (F : Fun K x qual st f fd) (S : FnScope N ps (defScope st)) (hlen : ∀ ds w, pre ds w → ds.length = ps.length)
    (hbody : ∀ (cdv : Value) (A : Around) (outer : List Env) (s : Shared) (H : Hp) (E : XK), Room k (A.deeper (envOfC qual (defScope st) s.heap.objs.size f cdv)) →
      ∃ t, PSs (cxOf CX0 Pr wo K mg base N qual (defScope st) f cdv A outer s H E).nox (defBody st) t ∧ ∀ ds w, pre ds w → Sd K E0 t (startD N ds) w (endD post zN ds w)) : FnOk Pr wo K mg base CX0 (k + 1) f fd ps (SpD K pre post zN) := by
  refine F.ok S (fn_len hlen) (fun cdv A outer s H vs Q E hr h => ?_)
  obtain ⟨ds, w, r, c, p, q, z⟩ := h
  obtain ⟨t, ht, hs⟩ := hbody cdv A outer s H E hr
  exact ⟨t, ht, hs ds w p _ H (sat_start r c) _ (ke_of q kz_none)⟩
/-- it may raise -/
theorem fn_okX {x qual : Str} {st : Stmt} {f : Addr} {fd : FuncData} {N ps : List Str} {k : Nat} (F : Fun K x qual st f fd) (S : FnScope N ps (defScope st)) (hlen : ∀ ds w, pre ds w → ds.length = ps.length)
    (hbody : ∀ (cdv : Value) (A : Around) (outer : List Env) (s : Shared) (H : Hp) (E : XK), Room k (A.deeper (envOfC qual (defScope st) s.heap.objs.size f cdv)) →
      ∃ t, PSs (cxOf (L2.CX Pr wo) Pr wo K mg base N qual (defScope st) f cdv A outer s H E) (defBody st) t ∧ ∀ ds w, pre ds w → Sd K E t (startD N ds) w (endD post zost ds w)) : FnOk Pr wo K mg base (L2.CX Pr wo) (k + 1) f fd ps (SpD K pre post zost) := by
  refine F.okX S (fn_len hlen) (fun cdv A outer s H vs Q E hr h => ?_)
  obtain ⟨ds, w, r, c, p, q, z⟩ := h
  obtain ⟨t, ht, hs⟩ := hbody cdv A outer s H E hr
  exact ⟨t, ht, hs ds w p _ H (sat_start r c) _ (ke_of q z)⟩
end
end DL
set_option Elab.async false
set_option linter.all false
set_option autoImplicit false
set_option maxRecDepth 100000
set_option maxHeartbeats 4000000
/-! DL4: promises of defs that may know which guards of repr stand around (none); their calls; the law's end. -/
namespace DL
open PySem PySem.Spec PyProof.Rows L2

/-- a def's promise, told of calls around which no repr is under way -/
structure Gn (P : Program) (wo : World) (K : PySem.W.Frag) (mg : Str → Option Value) (base : Heap) (C : CXT) (k : Nat) (f : Addr) (fd : FuncData) (ps : List Str) (sp : Sp) : Prop where
  ln : ∀ vs H Q E, sp vs H Q E → vs.length = ps.length
  go : ∀ (A : Around) (fr : List Env) (s : Shared) (H : Hp) (ar : Args) (us : List Value) (vs : List V) (Q : VK) (E : XK), A.guards = some [] → Room k A → Env0 P wo K mg base A fr s H → BindsTo s fd ar (ps.zip us) → Vals vs us →
    sp vs H Q E → codeAny (model P wo) A (.call (.ref f) ar) (CR C fr P wo H s Q E) s
section
variable {P : Program} {wo : World} {K : PySem.W.Frag} {mg : Str → Option Value} {base : Heap} {C : CXT}
theorem Gn.of {k : Nat} {f : Addr} {fd : FuncData} {ps : List Str} {sp : Sp} (h : FnOk P wo K mg base C k f fd ps sp) : Gn P wo K mg base C k f fd ps sp :=
  ⟨h.len, fun A fr s H ar us vs Q E _ hr => h.run A fr s H ar us vs Q E hr⟩
theorem Gn.up {j k : Nat} {f : Addr} {fd : FuncData} {ps : List Str} {sp : Sp} (h : Gn P wo K mg base C j f fd ps sp) (l : j ≤ k) : Gn P wo K mg base C k f fd ps sp :=
  ⟨h.ln, fun A fr s H ar us vs Q E hg hr => h.go A fr s H ar us vs Q E hg (hr.mono l)⟩
/-- a def by its body -/
theorem gn_of {k : Nat} {f : Addr} {name qual : Str} {pa : Arguments} {body : List Stmt} {sc : Scope} {dV kV doc pm cdv ct oc : Value} {an od : Option Addr} {osl : Array (Option Value)} {N ps : List Str} {sp : Sp}
    (lk : K.lookup f = some ⟨oc, od, .func (PySem.W.fnOf name qual pa body sc dV kV doc pm an cdv ct), osl⟩) (hcd : PySem.W.codeIn K cdv qual = true) (S : FnScope N ps sc) (hl : ∀ vs H Q E, sp vs H Q E → vs.length = ps.length)
    (hb : ∀ (A : Around) (fr : List Env) (s : Shared) (H : Hp) (vs : List V) (Q : VK) (E : XK), A.guards = some [] → Room k (A.deeper (envOfC qual sc s.heap.objs.size f cdv)) → sp vs H Q E →
      ∃ t, PSs (cxOf C P wo K mg base N qual sc f cdv A fr s H E) body t ∧ t { nx := fun _ H' => Q .non H', rt := Q } (L2.start N vs) H) :
    Gn P wo K mg base C (k + 1) f (PySem.W.fnOf name qual pa body sc dV kV doc pm an cdv ct) ps sp := by
  refine ⟨hl, fun A fr s H ar us vs Q E hg hr e0 bt rv hsp => ?_⟩
  have kin : K.In s.heap := e0.mod.kin.keeps fun b o z => (e0.bs b o z).1
  have nol : s.heap.NoLimit := e0.mod.nolimit.keeps fun b o z => (e0.bs b o z).1
  have kinds : ∀ y ∈ ps.zip us, sc.names.lookup y.1 = some .local ∨ (sc.names.lookup y.1 = some .cell ∧ ((cellsFrom (s.heap.objs.size + 1) sc.names []).lookup y.1).isSome = true) := by
    rintro ⟨n, v⟩ hy
    exact (S.par n (List.of_mem_zip hy).1).elim Or.inl fun q => .inr ⟨q, PySem.W.cellsFrom_some _ _ _ (.inl q)⟩
  refine codeAny_call_function hr.depth (kin _ _ lk) rfl S.co S.gen rfl (PySem.W.codeRec_of kin hcd) (bt _ _ _ _ ?_)
  refine wpAny_newFunctionEnv_cells S.kind kinds fun env he s1 hx => ?_
  subst he
  refine ⟨nol.keeps hx.toInCall.keep, codeAny_func ?_⟩
  obtain ⟨t, tb, tq⟩ := hb A fr s H vs Q E hg (hr.deeper _) hsp
  have inv : Inv (cxOf C P wo K mg base N qual sc f cdv A fr s H E) [] (L2.start N vs) H s1 := inv_start S hr.hd e0 (hl _ _ _ _ hsp) rv hx
  refine wpAny_mono (tb.run [] s1 (L2.start N vs) H _ inv tq) (fun fl s' z => ?_) (fun e s' z => z)
  cases fl with
  | ret u => obtain ⟨v, σ', H', J, r, q⟩ := z; exact ⟨v, H', J.os, J.bare, J.base, J.hok, r, q⟩
  | next => obtain ⟨σ', H', J, q⟩ := z; exact ⟨V.non, H', J.os, J.bare, J.base, J.hok, rfl, q⟩
  | brk => obtain ⟨_, _, _, q⟩ := z; exact q.elim
  | cont => obtain ⟨_, _, _, q⟩ := z; exact q.elim
end

/-! ### calls of such defs -/
section
variable {X : Cx} {C : CXT} {k : Nat} {f : Addr} {fd : FuncData} {ps ks : List Str} {sp : Sp} {E : XK} {x : Str} {p pos : Pos} {e : Expr} {es : List Expr} {kws : List Keyword} {t tk : TA} {g : List Value → List Value → List Value} {gV : List V → List V → List V}
theorem gn_run {pins : List (Addr × Obj)} {σ : L2.St} {H : Hp} {s : Shared} {Q : VK} {ar : Args} {us : List Value} {vs : List V} (F : Gn X.prog X.w X.K X.mg X.base C k f fd ps sp) (hg : X.A.guards = some []) (hr : Room k X.A) (hx : Passes C X E)
    (I : Inv X pins σ H s) (hb : BindsTo s fd ar (ps.zip us)) (r : Vals vs us) (h : sp vs H Q E) : wpAny (model X.prog X.w) X.A (PySem.call (.ref f) ar.pos ar.kw) (EP X pins σ Q) X.xe s := by
  refine wpAny_call (codeAny_mono (F.go X.A X.stack s H ar us vs Q E hg hr I.env0 hb r h) fun rs s' hq => ?_)
  match rs, hq with
  | .error e, hq => exact hx pins σ H s e s' I hq
  | .ok (.ret u), hq => exact I.after hq
  | .ok .next, hq => exact hq.elim
  | .ok .brk, hq => exact hq.elim
  | .ok .cont, hq => exact hq.elim
end
end DL
set_option Elab.async false
set_option linter.all false
set_option autoImplicit false
set_option maxRecDepth 100000
set_option maxHeartbeats 4000000
/-! DL5: enumerate(a tuple); repr of data; isinstance; calls by keywords. -/
namespace DL
open PySem PySem.Spec PyProof.Rows L2
open Sem (wp)

/-! ### enumerate(t), t a tuple -/
theorem meets_en1 {v : Value} {o : Obj} {G : Heap → Prop} (B : Begins v o G) :
    Meets (Builtin.«enumerate.__new__» ⟨[.type "enumerate", v], []⟩) (fun _ R s => G s.heap ∧
      R (.ok (.ret (.ref (s.heap.push o).objs.size))) { s with heap := (s.heap.push o).push { cls := .type "enumerate", data := .fields #[.none, .bool false, .ref s.heap.objs.size, rawInt 0, .none, .none] } }) :=
  .of_wp fun prog w A R s h => by
    obtain ⟨hp, g, dr, tk, os⟩ := s
    obtain ⟨h1, h⟩ := h
    have hsub := sub_enumerate
    have it1 : ∀ {A' : Around} {E : Value → Shared → Prop} {Q : Value → Shared → Prop}, Q (.ref hp.objs.size) ⟨hp.push o, g, dr, tk, os⟩ → wpAny (model prog w) A' (pyIter v) Q E ⟨hp, g, dr, tk, os⟩ :=
      fun q => B.iter prog w _ _ ⟨hp, g, dr, tk, os⟩ _ h1 q
    wp_walk using it1
    refine wpAny_stack_any fun st => wpAny_pure ?_
    split
    · rename_i c _ _ _ _ _
      cases (c == Value.type "enumerate") <;> (wp_walk using it1; exact ⟨_, rfl, h⟩)
    · wp_walk using it1
      exact ⟨_, rfl, h⟩
theorem en_begins {prog : Program} {w : World} {A : Around} {E : Value → Shared → Prop} {s : Shared} {v : Value} {o : Obj} {G : Heap → Prop} {Q : Value → Shared → Prop} (B : Begins v o G) (h1 : G s.heap)
    (h : ∀ h', IsEnum h' (s.heap.objs.size + 1) s.heap.objs.size 0 .none → h'.get? s.heap.objs.size = some o → h'.objs.size = s.heap.objs.size + 2 → (∀ b ob, s.heap.get? b = some ob → h'.get? b = some ob) → Q (.ref (s.heap.objs.size + 1)) { s with heap := h' }) :
    wpAny (model prog w) A (PySem.call (.type "enumerate") [v]) Q E s := by
  refine callType_new F.called_enumerate (by decide) (F.typeCall_enumerate_1 _) (F.newCall_enumerate_1 _) (fun obj => F.args_object_init_2 obj _) F.entry_enumerate_new (meets_en1 B) ⟨h1, ?_⟩
  have hz : (s.heap.push o).objs.size = s.heap.objs.size + 1 := Heap.size_push ..
  show _ ∧ _
  rw [hz]
  have he : IsEnum ((s.heap.push o).push { cls := .type "enumerate", data := .fields #[.none, .bool false, .ref s.heap.objs.size, rawInt 0, .none, .none] }) (s.heap.objs.size + 1) s.heap.objs.size 0 .none := by
    have z := Heap.get?_push_size (s.heap.push o) (o := { cls := .type "enumerate", data := .fields #[.none, .bool false, .ref s.heap.objs.size, rawInt 0, .none, .none] }) rfl
    rw [hz] at z
    exact z
  exact ⟨⟨_, he, rfl⟩, h _ he (Heap.get?_push_of_some _ (Heap.get?_push_size _ B.free)) (by rw [Heap.size_push, hz]) fun b ob x => Heap.get?_push_of_some _ (Heap.get?_push_of_some _ x)⟩
/-- the tuple at a, each item in a new pair behind its place -/
def ItEt (K : PySem.W.Frag) (a : Addr) : It :=
  ⟨fun i H => ∃ (xs : List V) (x : V), SqT K H a xs ∧ xs[i]? = some x, fun i H v H' => ∃ T x, v = .ref T ∧ H T = none ∧ H' = upd H T (.tup [.int (i : Nat), x]) ∧ ∀ xs, SqT K H a xs → xs[i]? = some x, fun i H => ∃ xs : List V, SqT K H a xs ∧ xs.length ≤ i⟩
theorem tupIter_ne {h : Heap} {it a : Addr} {i : Nat} {items : Array Value} (h1 : h.IsTupleIter it a i) (h2 : h.IsTuple a items) : a ≠ it := by
  rintro rfl
  obtain ⟨o, e, c, _⟩ := h1
  obtain ⟨o', e', c', _⟩ := h2
  rw [e] at e'
  cases e'
  rw [c] at c'
  exact absurd c' (by intro z; injection z with z; exact absurd z (by decide))
theorem turn_en {P : Program} {w : World} {K : PySem.W.Frag} {elts : List Expr} {kk : Nat} {tpos : Pos} (a e it : Addr) :
    Turn P w K (.Tuple elts kk tpos) (ItEt K a) [e, it] e (fun i h => (∃ old, IsEnum h e it ((i : Nat) : Int) old) ∧ h.IsTupleIter it a i ∧ e ≠ it) where
  mem := List.mem_cons_self
  obj := by
    rintro i h ⟨⟨old, he⟩, ⟨o, ho, hc, hd⟩, _⟩ b hb
    rcases (show b = e ∨ b = it by simpa using hb) with rfl | rfl
    · exact ⟨_, he, fun v q => nomatch q⟩
    · exact ⟨o, ho, fun v q => by rw [hd] at q; cases q⟩
  keep := by
    rintro i h h' ⟨⟨old, he⟩, hi, hne⟩ k
    exact ⟨⟨old, k e (by simp) _ he⟩, hi.at fun o q => k it (by simp) o q, hne⟩
  item := by
    intro X hP hw hK hc i pins s σ H E I hf st hg
    subst hP hw hK
    obtain ⟨⟨old, he⟩, hit, hne⟩ := st
    obtain ⟨xs, x, hq, hx⟩ := hg
    obtain ⟨its, rv, p, hz⟩ := I.tuple hq
    have p' : s.heap.IsTuple a its.toArray := p
    obtain ⟨u, hu, ru⟩ := rv.get hx
    have hel : e < s.heap.objs.size := Heap.lt_size he
    have hil : it < s.heap.objs.size := by obtain ⟨_, q, _⟩ := hit; exact Heap.lt_size q
    have hal : a ≠ it := tupIter_ne hit p'
    have hae : e ≠ a := by
      rintro rfl
      obtain ⟨o', e', c', _⟩ := p'
      have he' : s.heap.get? e = some _ := he
      rw [he'] at e'; cases e'
      exact absurd c' (by intro z; injection z with z; exact absurd z (by decide))
    have D : Draws X.prog X.w X.A.in1 it [it, a] its.toArray.size (fun i v => its.toArray[i]? = some v) (fun i h => h.IsTupleIter it a i ∧ h.IsTuple a its.toArray) := Draws.tuple (show X.A.in1.handled = none from I.ok.hd hc) it a hal its.toArray
    have hlt : i < its.toArray.size := by
      have := (List.getElem?_eq_some_iff.mp hu).1
      simpa using this
    refine wpAny_pyNext_enum_itemD D he ⟨hit, p'⟩ hlt hne (by simp [hne, hae]) fun y h' tk hy ho hit' hT hsz hk => ?_
    have hyu : y = u := by
      have : its.toArray[i]? = some u := by simpa using hu
      rw [this] at hy
      exact (Option.some.inj hy).symm
    subst hyu
    refine ⟨_, rfl, wpAny_letOwnedTupleGo_enum (s := { s with heap := h', toks := tk + 1 }) ho fun h'' he' sb => ?_⟩
    have hT2 : h''.get? s.heap.objs.size = some { cls := .type "tuple", data := .seq #[.int i tk, y] } := (sb.2 _ (Nat.ne_of_gt hel)).trans hT
    have new : ObjOk X.prog X.w (upd H s.heap.objs.size (.tup [.int (i : Nat), x])) h'' s.heap.objs.size (.tup [.int (i : Nat), x]) :=
      ⟨by show 2 ≤ sizeLine; decide, [.int i tk, y], .cons ⟨_, rfl⟩ (.cons ru .nil), ⟨_, hT2, rfl, _, rfl⟩⟩
    have I1 : Inv X pins σ (upd H s.heap.objs.size (.tup [.int (i : Nat), x])) { s with heap := h'', toks := tk + 1 } :=
      I.turnedNew (ch := [e, it]) (fun b ob hb q => (sb.2 b (fun z => hb (by simp [z]))).trans (hk b ob (fun z => hb (by simp [z])) (fun z => hb (by simp [z])) q)) hf (Nat.le_refl _) new
    refine ⟨.ref s.heap.objs.size, _, I1, rfl, ⟨_, x, rfl, I.hok.fresh (Nat.le_refl _), rfl, fun ys hy => by rw [I.tuple_inj hy hq]; exact hx⟩, ⟨⟨y, ?_⟩, hit'.1.at fun o q => (sb.2 it (Ne.symm hne)).trans q, hne⟩, fun b hb => ?_⟩
    · rw [show ((i + 1 : Nat) : Int) = (i : Int) + 1 by omega]
      exact he'
    · have hb' : b < s.heap.objs.size := by
        rcases (show b = e ∨ b = it by simpa using hb) with z | z
        · rw [z]; exact hel
        · rw [z]; exact hil
      rw [upd_ne (Nat.ne_of_lt hb')]
      exact (hf b hb).1
  done := by
    intro X hP hw hK hc i pins s σ H E I hf st hg
    subst hP hw hK
    obtain ⟨⟨old, he⟩, hit, hne⟩ := st
    obtain ⟨xs, hq, hx⟩ := hg
    obtain ⟨its, rv, p, hz⟩ := I.tuple hq
    have p' : s.heap.IsTuple a its.toArray := p
    obtain ⟨f0, f1, f2, f3, f4, f5⟩ := hf it (by simp)
    have hl := rv.length
    have hal : a ≠ it := tupIter_ne hit p'
    -- the iterator stands at i, at or behind the end
    have nx := fun (s' : Shared) (Q : Value → Shared → Prop) (E' : Value → Shared → Prop) (h1 : s'.heap.IsTupleIter it a i) (h2 : s'.heap.IsTuple a its.toArray) h3 =>
      wpAny_nextOf_tuple_end (prog := X.prog) (w := X.w) (A := X.A.in1) (E := E') (s := s') (Q := Q) (show X.A.in1.handled = none from I.ok.hd hc) h1 h2 (by simp; omega) h3
    have D : Draws X.prog X.w X.A.in1 it [it, a] i (fun _ _ => False) (fun j h => j = i ∧ h.IsTupleIter it a i ∧ h.IsTuple a its.toArray) :=
      { live := fun _ _ st => let ⟨o, ho, _⟩ := st.2.1; ⟨o, ho⟩
        frame := fun _ _ _ st hk => ⟨st.1, st.2.1.at fun o z => hk it (by simp) o z, st.2.2.at fun o z => hk a (by simp) o z⟩
        item := fun j s Q E hj st _ => absurd st.1 (Nat.ne_of_lt hj)
        done := fun s Q E st hE => nx s Q E st.2.1 st.2.2 hE }
    exact wpAny_pyNext_enum_endD D he ⟨rfl, hit, p'⟩ fun h' eb => ⟨rfl, I.turned (t' := s.toks) (fun b o hb q => eb b o hb q) f0 f1 f3 f4 f5⟩
  self := fun A i s Q E st h => let ⟨⟨_, he⟩, _⟩ := st; wpAny_pyIter_enum he h
def iEnT (K : PySem.W.Frag) (ta : TA) : TI := fun σ H R => ta σ H fun vs H1 => ∃ a xs, vs = [.ref a] ∧ SqT K H1 a xs ∧ R (ItEt K a) H1
theorem pi_enT {X : Cx} {e : Expr} {ta : TA} {p pos tpos : Pos} {elts : List Expr} {kk : Nat} (hg : Gl X "enumerate") (hm : X.mg "enumerate" = none) (ha : PA X [e] ta) (hs : starEach [e] X.env = [(false, eval e X.env)] := by rfl) :
    PI X (.Tuple elts kk tpos) (.Call (.Name "enumerate" p) [e] [] pos) (iEnT X.K ta) := by
  refine ⟨fun pins s σ H R I h => ?_⟩
  refine Call_ (ld_blt I hg hm boot_enumerate (PyProof.Rows.callWith_type1 (thn (ha.run pos pins s σ H _ I h) fun us s1 ⟨vs, H1, I1, r1, q1⟩ => ?_) hs rfl))
  obtain ⟨a, xs, rfl, hq, q⟩ := q1
  cases r1 with
  | cons r rr =>
    cases rr
    cases r
    obtain ⟨its, rv, p', hz⟩ := I1.tuple hq
    refine en_begins (begins_tuple a its.toArray) p' fun h' he hit hsz hk => wpAny_pyIter_enum he ?_
    refine ⟨s1.heap.objs.size + 1, [s1.heap.objs.size + 1, s1.heap.objs.size], _, _, H1, rfl, I1.kept (t' := s1.toks) hk, turn_en a (s1.heap.objs.size + 1) s1.heap.objs.size, ⟨⟨.none, he⟩, ⟨_, hit, rfl, rfl⟩, Nat.succ_ne_self _⟩, fun b hb => ?_, q⟩
    have hle : s1.heap.objs.size ≤ b := by
      rcases (show b = s1.heap.objs.size + 1 ∨ b = s1.heap.objs.size by simpa using hb) with z | z <;> rw [z]
      · exact Nat.le_add_right _ _
      · exact Nat.le_refl _
    exact I1.fpOk hle (I1.hok.fresh hle)
section
variable {K : PySem.W.Frag} {W : XK} {δ : Dlt} {w : Wl} {Z : ZD} {PA : List D → Wl → Prop}
/-- its items on data -/
def enD (ds : List D) : List D := (List.range ds.length).map fun i => .tup [.int (i : Nat), ds.getD i .non]
theorem enD_len (ds : List D) : (enD ds).length = ds.length := by unfold enD; simp
theorem enD_get {ds : List D} {i : Nat} {d : D} (h : (enD ds)[i]? = some d) : ∃ x, ds[i]? = some x ∧ d = .tup [.int (i : Nat), x] := by
  unfold enD at h
  rw [List.getElem?_map] at h
  by_cases hi : i < ds.length
  · rw [List.getElem?_range hi] at h
    cases h
    exact ⟨ds[i], by simp [hi], by simp [List.getD, hi]⟩
  · rw [List.getElem?_eq_none (by simpa using hi)] at h
    cases h
theorem itd_en {a : Addr} {xs : List V} {ds : List D} {G : Hp} (h : SqT K G a xs) (r : RpA K G xs ds) : ItD K (ItEt K a) (enD ds) G :=
  ⟨fun i H hi e => ⟨xs, xs[i]'(by rw [r.length]; rw [enD_len] at hi; exact hi), ex_t e h, by rw [enD_len] at hi; simp [r.length, hi]⟩, fun H e => ⟨xs, ex_t e h, by rw [r.length, enD_len]; exact Nat.le_refl _⟩,
    fun i d w H x H' hd e c y => by
      obtain ⟨T, x, rfl, hT, rfl, y⟩ := y
      obtain ⟨dd, hdd, rfl⟩ := enD_get hd
      obtain ⟨v, h1, h2⟩ := r.get hdd
      have y' := y xs (ex_t (Ex.trans e Ex.msk) h)
      rw [h1] at y'; cases y'
      obtain ⟨e', c', h'⟩ := mk_new (o := .tup [.int (i : Nat), x]) c hT
      exact ⟨e', c', .tup (.inl (.inl h')) (.cons (.int _) (.cons ((h2.mono e).mono e') .nil))⟩⟩
theorem ei_enT {t : TA} (h : EvA K W t δ w (fun ds w1 => ∃ xs, ds = [.tup xs] ∧ PA (enD xs) w1) Z) : EvI K W (iEnT K t) δ w PA Z :=
  fun σ H s R q z => h σ H s _ (fun v H1 d w1 e1 c1 r1 ⟨xs, hd, k⟩ => by
    subst hd
    cases r1 with
    | cons r t => cases t; cases r with
      | tup ht hr => exact ⟨_, _, rfl, ex_t Ex.msk ht, q _ H1 _ w1 e1 c1 (itd_en ht hr) k⟩) z
end
end DL
set_option Elab.async false
set_option linter.all false
set_option autoImplicit false
set_option maxRecDepth 100000
set_option maxHeartbeats 4000000
/-! DL6: repr and == of data, isinstance, calls by keywords, texts. -/
namespace DL
open PySem PySem.Spec PyProof.Rows L2

/-! ### data as the library's plain data -/
mutual
def py : D → PyData
  | .bl b => .bool b
  | .int i => .int i
  | .str x => .str x
  | .lst ds => .list (pyA ds)
  | .tup ds => .tuple (pyA ds)
  | _ => .none
def pyA : List D → List PyData
  | [] => []
  | d :: ds => py d :: pyA ds
end
mutual
def isPy : D → Bool
  | .non | .bl _ | .int _ | .str _ => true
  | .lst ds => isPyA ds
  | .tup ds => isPyA ds
  | _ => false
def isPyA : List D → Bool
  | [] => true
  | d :: ds => isPy d && isPyA ds
end
section
variable {K : PySem.W.Frag} {G : Hp}
mutual
theorem Rp.dp : ∀ {v : V} {d : D}, Rp K G v d → isPy d = true → Dp K G v (py d)
  | _, _, .non, _ => by simp only [py]; exact .non
  | _, _, .bl b, _ => by simp only [py]; exact .bl b
  | _, _, .int b, _ => by simp only [py]; exact .int b
  | _, _, .str b, _ => by simp only [py]; exact .str b
  | _, _, .lst h r, q => by simp only [py]; exact .lst (SqL.of h) (RpA.dp r (by simpa [isPy] using q))
  | _, _, .tup h r, q => by simp only [py]; exact .tup h (RpA.dp r (by simpa [isPy] using q))
  | _, _, .byt _, q => by simp [isPy] at q
  | _, _, .ty _, q => by simp [isPy] at q
  | _, _, .ptr _, q => by simp [isPy] at q
  | _, _, .btp _ _ _, q => by simp [isPy] at q
  | _, _, .ins _ _, q => by simp [isPy] at q
theorem RpA.dp : ∀ {v : List V} {d : List D}, RpA K G v d → isPyA d = true → DpAll K G v (pyA d)
  | _, _, .nil, _ => by simp only [pyA]; exact .nil
  | _, d :: ds, .cons r t, q => by
    have q' : isPy d = true ∧ isPyA ds = true := by simpa [isPyA] using q
    simp only [pyA]
    exact .cons (Rp.dp r q'.1) (RpA.dp t q'.2)
end
theorem Dp.mono' {G' : Hp} (e : Ex G G') {v : V} {d : D} (h : Rp K G v d) (q : isPy d = true) : Dp K G' v (py d) := (h.mono e).dp q
end

/-! ### repr of a list, a tuple -/
def rReprD (K : PySem.W.Frag) : List V → Hp → VK → Prop := fun vs H Q => ∃ (a : Addr) (d : PyData), vs = [.ref a] ∧ Dp K H (.ref a) d ∧ d.showable = true ∧ d.hasDict = false ∧ d.depth ≤ 60 ∧ d.shown.length ≤ sizeLine ∧ Q (.str d.shown) H
theorem call_reprD {X : Cx} (hg : X.A.guards = some []) (hu : X.A.units + 64 < cLine) : CallR X (.builtin "repr") (rReprD X.K) := by
  intro pins s σ H xs us Q I r h
  obtain ⟨a, d, rfl, hd, h1, h2, h3, h4, q⟩ := h
  obtain ⟨u, rfl, rx⟩ := vals1 r
  cases rx
  obtain ⟨as, rr⟩ := Dp.reads I d (.ref a) (.ref a) hd rfl
  exact repr_of_reads' rr h1 (PyData.noDict_hsm h2) hg (by omega) (fun _ _ z => z) (fun h' u tk hk => ⟨.str d.shown, H, I.kept (t' := tk) hk, ⟨u, rfl⟩, q⟩) h4
/-! what is written costs at most so many signs -/
mutual
def costD : D → Nat
  | .str x => 10 * x.length + 4
  | .lst ds => costA ds + 4
  | .tup ds => costA ds + 4
  | _ => 1922
def costA : List D → Nat
  | [] => 0
  | d :: ds => costD d + 2 + costA ds
end
/-! ints below 2 ^ 1900, texts of plain signs -/
mutual
def small : D → Bool
  | .int i => decide (i.natAbs.log2 < 1900)
  | .str x => x.cps.all (fun c => decide (c < 1000))
  | .lst ds => smallA ds
  | .tup ds => smallA ds
  | .non | .bl _ => true
  | _ => false
def smallA : List D → Bool
  | [] => true
  | d :: ds => small d && smallA ds
end
mutual
theorem small_py : ∀ d : D, small d = true → isPy d = true
  | .non, _ | .bl _, _ | .int _, _ | .str _, _ => by simp [isPy]
  | .lst ds, h => by simp only [isPy]; exact smallA_py ds (by simpa [small] using h)
  | .tup ds, h => by simp only [isPy]; exact smallA_py ds (by simpa [small] using h)
  | .byt _, h | .ty _, h | .ptr _, h | .btp _, h | .ins _ _, h => by simp [small] at h
theorem smallA_py : ∀ ds : List D, smallA ds = true → isPyA ds = true
  | [], _ => by simp [isPyA]
  | d :: ds, h => by
    have q : small d = true ∧ smallA ds = true := by simpa [smallA] using h
    simp [isPyA, small_py d q.1, smallA_py ds q.2]
end
mutual
theorem small_show : ∀ d : D, small d = true → (py d).showable = true
  | .non, _ => by simp [py, PyData.showable]
  | .bl _, _ => by simp [py, PyData.showable]
  | .str _, _ => by simp [py, PyData.showable]
  | .int i, h => by
    have q : i.natAbs.log2 < 1900 := by simpa [small] using h
    simp only [py, PyData.showable, decide_eq_true_eq]
    omega
  | .lst ds, h => by simp only [py, PyData.showable]; exact smallA_show ds (by simpa [small] using h)
  | .tup ds, h => by simp only [py, PyData.showable]; exact smallA_show ds (by simpa [small] using h)
  | .byt _, h | .ty _, h | .ptr _, h | .btp _, h | .ins _ _, h => by simp [small] at h
theorem smallA_show : ∀ ds : List D, smallA ds = true → PyData.showableAll (pyA ds) = true
  | [], _ => by simp [pyA, PyData.showableAll]
  | d :: ds, h => by
    have q : small d = true ∧ smallA ds = true := by simpa [smallA] using h
    simp [pyA, PyData.showableAll, small_show d q.1, smallA_show ds q.2]
end
mutual
theorem py_noDict : ∀ d : D, (py d).hasDict = false
  | .non => by simp [py, PyData.hasDict]
  | .bl _ => by simp [py, PyData.hasDict]
  | .str _ => by simp [py, PyData.hasDict]
  | .int _ => by simp [py, PyData.hasDict]
  | .lst ds => by simp only [py, PyData.hasDict]; exact pyA_noDict ds
  | .tup ds => by simp only [py, PyData.hasDict]; exact pyA_noDict ds
  | .byt _ => by simp [py, PyData.hasDict]
  | .ty _ => by simp [py, PyData.hasDict]
  | .ptr _ => by simp [py, PyData.hasDict]
  | .btp _ => by simp [py, PyData.hasDict]
  | .ins _ _ => by simp [py, PyData.hasDict]
theorem pyA_noDict : ∀ ds : List D, PyData.hasDictAll (pyA ds) = false
  | [] => by simp [pyA, PyData.hasDictAll]
  | d :: ds => by simp [pyA, PyData.hasDictAll, py_noDict d, pyA_noDict ds]
end
mutual
def deepD : D → Nat
  | .lst ds => deepA ds + 1
  | .tup ds => deepA ds + 1
  | _ => 0
def deepA : List D → Nat
  | [] => 0
  | d :: ds => max (deepD d) (deepA ds)
end
mutual
theorem py_depth : ∀ d : D, (py d).depth = deepD d
  | .non => by simp [py, PyData.depth, deepD]
  | .bl _ => by simp [py, PyData.depth, deepD]
  | .str _ => by simp [py, PyData.depth, deepD]
  | .int _ => by simp [py, PyData.depth, deepD]
  | .lst ds => by simp only [py, PyData.depth, deepD]; rw [pyA_depth ds]
  | .tup ds => by simp only [py, PyData.depth, deepD]; rw [pyA_depth ds]
  | .byt _ => by simp [py, PyData.depth, deepD]
  | .ty _ => by simp [py, PyData.depth, deepD]
  | .ptr _ => by simp [py, PyData.depth, deepD]
  | .btp _ => by simp [py, PyData.depth, deepD]
  | .ins _ _ => by simp [py, PyData.depth, deepD]
theorem pyA_depth : ∀ ds : List D, PyData.depthAll (pyA ds) = deepA ds
  | [] => by simp [pyA, PyData.depthAll, deepA]
  | d :: ds => by simp [pyA, PyData.depthAll, deepA, py_depth d, pyA_depth ds]
end


mutual
theorem small_cost : ∀ d : D, small d = true → (py d).shown.length ≤ costD d
  | .non, _ => by simp only [py, PyData.shown, costD]; decide +kernel
  | .bl b, _ => by cases b <;> (simp only [py, PyData.shown, costD]; decide +kernel)
  | .int i, h => by
    have q : i.natAbs.log2 < 1900 := by simpa [small] using h
    simp only [py, PyData.shown, costD]
    exact Nat.le_trans (int_text_len_1921 (by omega)) (by omega)
  | .str x, h => by
    have q : ∀ c ∈ x.cps.toList, c < 16 ^ 8 := fun c hc => by
      have z := h
      simp only [small, Array.all_eq_true', decide_eq_true_eq] at z
      exact Nat.lt_of_lt_of_le (z c (Array.mem_toList_iff.mp hc)) (by decide)
    simp only [py, PyData.shown, costD]
    have := StrLaws.reprText_len x q
    omega
  | .lst ds, h => by
    simp only [py, PyData.shown, costD]
    have h1 := listText_len_le (PyData.shownAll (pyA ds))
    have h2 := smallA_cost ds (by simpa [small] using h)
    rw [shownAll_len'] at h1
    omega
  | .tup ds, h => by
    simp only [py, PyData.shown, costD]
    have h1 := tupleText_len_le (PyData.shownAll (pyA ds))
    have h2 := smallA_cost ds (by simpa [small] using h)
    rw [shownAll_len'] at h1
    omega
  | .byt _, h | .ty _, h | .ptr _, h | .btp _, h | .ins _ _, h => by simp [small] at h
theorem smallA_cost : ∀ ds : List D, smallA ds = true → ((PyData.shownAll (pyA ds)).map (·.length)).sum + 2 * ds.length ≤ costA ds
  | [], _ => by simp [pyA, PyData.shownAll, costA]
  | d :: ds, h => by
    have q : small d = true ∧ smallA ds = true := by simpa [smallA] using h
    have h1 := small_cost d q.1
    have h2 := smallA_cost ds q.2
    simp only [pyA, PyData.shownAll, costA, List.map_cons, List.sum_cons, List.length_cons]
    omega
theorem shownAll_len' : ∀ ds : List D, (PyData.shownAll (pyA ds)).length = ds.length
  | [] => by simp [pyA, PyData.shownAll]
  | d :: ds => by simp [pyA, PyData.shownAll, shownAll_len' ds]
end
/-- what can be written out: a list or a tuple -/
def wr (d : D) : Prop := small d = true ∧ deepD d ≤ 60 ∧ costD d ≤ sizeLine
def isSeq : D → Bool | .lst _ => true | .tup _ => true | _ => false
section
variable {K : PySem.W.Frag} {W : XK} {δ : Dlt} {w : Wl} {P : PD} {Z : ZD} {ta tb te : TE}
theorem ol_repr {d : D} (hs : isSeq d = true) (hw : wr d) (k : P (.str (py d).shown) w) : OpL K (rReprD K) [d] w P := by
  intro vs H h1 c Q q
  cases h1 with
  | cons h t =>
    cases t
    have dp := Dp.mono' (G' := H) Ex.msk h (small_py d hw.1)
    have fin : ∀ a, Dp K H (.ref a) (py d) → rReprD K [.ref a] H Q := fun a ha =>
      ⟨a, py d, rfl, ha, small_show d hw.1, py_noDict d, by rw [py_depth]; exact hw.2.1, Nat.le_trans (small_cost d hw.1) hw.2.2, q _ H _ w (Ex.refl _) c (.str _) k⟩
    cases h with
    | lst _ _ => exact fin _ dp
    | tup _ _ => exact fin _ dp
    | _ => cases hs
/-! ### == of data -/
mutual
def flatOk : D → Bool
  | .lst ds => flatOkA ds
  | .tup ds => flatOkA ds
  | .non | .bl _ | .int _ | .str _ => true
  | _ => false
def flatOkA : List D → Bool
  | [] => true
  | d :: ds => flatOk d && flatOkA ds
end
mutual
theorem flatOk_py : ∀ d : D, flatOk d = true → isPy d = true
  | .non, _ | .bl _, _ | .int _, _ | .str _, _ => by simp [isPy]
  | .lst ds, h => by simp only [isPy]; exact flatOkA_py ds (by simpa [flatOk] using h)
  | .tup ds, h => by simp only [isPy]; exact flatOkA_py ds (by simpa [flatOk] using h)
  | .byt _, h | .ty _, h | .ptr _, h | .btp _, h | .ins _ _, h => by simp [flatOk] at h
theorem flatOkA_py : ∀ ds : List D, flatOkA ds = true → isPyA ds = true
  | [], _ => by simp [isPyA]
  | d :: ds, h => by
    have q : flatOk d = true ∧ flatOkA ds = true := by simpa [flatOkA] using h
    simp [isPyA, flatOk_py d q.1, flatOkA_py ds q.2]
end
theorem o2_eqD {x y : D} (hx : isPy x = true) (hy : isPy y = true) (sx : SeqAt.shaped (py x) = true) (sy : SeqAt.shaped (py y) = true) (k : P (.bl (PyData.eqv (py x) (py y))) w) : Op2 K (rEqD K) x y w P := by
  intro v u H h1 h2 c Q q
  exact ⟨py x, py y, Dp.mono' Ex.msk h1 hx, Dp.mono' Ex.msk h2 hy, sx, sy, q _ H _ w (Ex.refl _) c (.bl _) k⟩
theorem o2_neD {x y : D} (hx : isPy x = true) (hy : isPy y = true) (sx : SeqAt.shaped (py x) = true) (sy : SeqAt.shaped (py y) = true) (k : P (.bl (!PyData.eqv (py x) (py y))) w) : Op2 K (rNeD K) x y w P := by
  intro v u H h1 h2 c Q q
  exact ⟨py x, py y, Dp.mono' Ex.msk h1 hx, Dp.mono' Ex.msk h2 hy, sx, sy, q _ H _ w (Ex.refl _) c (.bl _) k⟩

/-! ### isinstance against a built-in class -/
def tyD : D → Option String
  | .non => some "NoneType" | .bl _ => some "bool" | .int _ => some "int" | .str _ => some "str" | .byt _ => some "bytes" | .lst _ => some "list" | .tup _ => some "tuple" | _ => none
theorem ty_of {H : Hp} {v : V} {d : D} {t : String} (h : Rp K (msk w H) v d) (e : tyD d = some t) : TyX K H v (.type t) := by
  cases h with
  | non => cases e; exact .base .non
  | bl b => cases e; exact .base (.bl b)
  | int b => cases e; exact .base (.int b)
  | str b => cases e; exact .base (.str b)
  | byt b => cases e; exact .byt b
  | lst h r => cases e; exact .base (.lst (msk_some h).2)
  | tup h r =>
    cases e
    rcases ex_t Ex.msk h with (h | ⟨o, h⟩) | ⟨o, its, n, h1, h2, _⟩
    · exact .base (.tup h)
    · exact .fTuple h
    · exact .kTuple h1 h2
  | _ => cases e
theorem ol_isi {x : D} {c t : String} {b : Bool} (e : tyD x = some t) (h : kitB t c = some b) (k : P (.bl b) w) : OpL K (rIsi K) [x, .ty c] w P := by
  intro vs H h1 cl Q q
  cases h1 with
  | cons h1 t1 => cases t1 with
    | cons h2 t2 =>
      cases t2; cases h2
      exact ⟨_, _, .type t, .type c, b, rfl, .ty c, ty_of h1 e, kit_ty h, q _ H _ w (Ex.refl _) cl (.bl _) k⟩
/-! ### texts -/
def rJoin (K : PySem.W.Frag) : V → List V → Hp → VK → Prop := fun x xs H Q => ∃ a p, ∃ ys : List Str, x = .str a ∧ xs = [.ref p] ∧ (SqL K H p (ys.map V.str) ∨ SqT K H p (ys.map V.str)) ∧
  (ys.map (·.length)).sum + ys.length * a.length ≤ 16777216 ∧ Q (.str (Txt.join a ys)) H
theorem ev_m1 {rr : V → List V → Hp → VK → Prop} {to : TE} (h : Ev K W to δ w (fun x w1 => (∃ a, x = .str a) ∧ Ev K W te δ w1 (fun y w2 => OpM K rr x [y] w2 P) Z) Z) : Ev K W (tM1 rr to te) δ w P Z :=
  fun σ H s Q q z => h σ H s _ (fun v H1 d w1 e1 c1 r1 ⟨⟨a, ha⟩, h2⟩ => by
    subst ha
    refine ⟨by cases r1; exact ⟨a, rfl⟩, h2 σ H1 (s.next e1 c1) _ (fun u H2 d2 w2 e2 c2 r2 h3 => h3 v [u] H2 (r1.mono e2) (.cons r2 .nil) c2 Q (KqG.next q (e1.trans e2))) (z.next e1)⟩) z
theorem ev_m0 {rr : V → List V → Hp → VK → Prop} {to : TE} (h : Ev K W to δ w (fun x w1 => (∃ a, x = .str a) ∧ OpM K rr x [] w1 P) Z) : Ev K W (tM0 rr to) δ w P Z :=
  fun σ H s Q q z => h σ H s _ (fun v H1 d w1 e1 c1 r1 ⟨⟨a, ha⟩, h2⟩ => by
    subst ha
    exact ⟨by cases r1; exact ⟨a, rfl⟩, h2 v [] H1 r1 .nil c1 Q (KqG.next q e1)⟩) z
theorem om_join {a : Str} {ys : List Str} (hz : (ys.map (·.length)).sum + ys.length * a.length ≤ 16777216) (k : P (.str (Txt.join a ys)) w) : OpM K (rJoin K) (.str a) [.lst (ys.map D.str)] w P := by
  intro v vs H h1 h2 c Q q
  cases h1
  cases h2 with
  | cons r t => cases t; cases r with
    | lst ht hr =>
      have e := rpa_strs hr
      subst e
      exact ⟨a, _, ys, rfl, rfl, .inl (SqL.of (msk_some ht).2), hz, q _ H _ w (Ex.refl _) c (.str _) k⟩
/-- sorted of texts, by the library's own word -/
def rSortS (K : PySem.W.Frag) : List V → Hp → VK → Prop := rSortedS K
theorem ol_sortedS {xs : List Str} (hl : xs.length < 64) (k : ∀ ys : List Str, ys.Perm xs → sortedS ys = true → P (.lst (ys.map D.str)) w) : OpL K (rSortedS K) [.lst (xs.map D.str)] w P := by
  intro vs H h1 c Q q
  cases h1 with
  | cons h t => cases t; cases h with
    | lst ht hr' =>
      have e := rpa_strs hr'
      subst e
      exact ⟨_, xs, rfl, SqL.of (msk_some ht).2, hl, fun ys p h1 h2 hp => kq_lst q c (rpa_ofstrs ys) (k ys h1 h2) hp⟩
/-- divmod: (i // j, i % j), unpacked at once or not -/
theorem ol_divmod {C : Int → Int → Prop} {i j : Int} (hc : C i j) (k : P (.tup [.int (i / j), .int (i % j)]) w) :
    OpL K (fun xs H Q => ∃ i j, xs = [.int i, .int j] ∧ C i j ∧ ∀ p, H p = none → Q (.ref p) (upd H p (.tup [.int (i / j), .int (i % j)]))) [.int i, .int j] w P := by
  intro vs H h1 c Q q
  cases h1 with
  | cons h t => cases t with
    | cons h' t' => cases t'; cases h; cases h'; exact ⟨i, j, rfl, hc, fun p hp => kq_tup q c (.cons (.int _) (.cons (.int _) .nil)) k hp⟩
theorem os_tup {ds : List D} {lo hi : Option Int} (k : P (.tup (cutD ds lo hi)) w)
    (hr : ∀ (a : Addr) (xs : List V) (H : Hp) (Q : VK), SqT K H a xs → (∀ p H', (H' = H ∧ p = a ∧ cutV xs lo hi = xs) ∨ (H p = none ∧ H' = upd H p (.tup (cutV xs lo hi))) → Q (.ref p) H') → rSlT K (.ref a) lo hi H Q) : OpS K (rSlT K) (.tup ds) lo hi w P := by
  intro v H h1 c Q q
  cases h1 with
  | tup ht hr' =>
    refine hr _ _ H Q (ex_t Ex.msk ht) fun p H' z => ?_
    rcases z with ⟨rfl, rfl, e⟩ | ⟨hp, rfl⟩
    · have r := rpa_cut hr' lo hi
      rw [e] at r
      exact q _ _ _ w (Ex.refl _) c (.tup ht r) k
    · exact kq_tup q c (rpa_cut hr' lo hi) k hp
end

/-! ### calls by keywords -/
/-- which order: from the positional values and the keywords' values to the parameters -/
structure KwG (g : {α : Type} → List α → List α → List α) : Prop where
  rel : ∀ {α β : Type} {R : α → β → Prop} {us zs : List α} {vs ws : List β}, Paired R us vs → Paired R zs ws → Paired R (g us zs) (g vs ws)
theorem rpa_paired {K : PySem.W.Frag} {G : Hp} : ∀ {vs : List V} {ds : List D}, RpA K G vs ds → Paired (Rp K G) vs ds
  | _, _, .nil => .nil
  | _, _, .cons r t => .cons r (rpa_paired t)
theorem paired_rpa {K : PySem.W.Frag} {G : Hp} : ∀ {vs : List V} {ds : List D}, Paired (Rp K G) vs ds → RpA K G vs ds
  | _, _, .nil => .nil
  | _, _, .cons r t => .cons r (paired_rpa t)
section
variable {K : PySem.W.Frag} {W : XK} {δ : Dlt} {w : Wl} {P : PD} {Z : ZD}
theorem ev_callK {g : {α : Type} → List α → List α → List α} (hg : KwG g) {pre : List D → Wl → Prop} {post : List D → Wl → D → Wl → Prop} {E' : XK} {t tk : TA}
    (h : EvA K W t δ w (fun us w1 => EvA K W tk δ w1 (fun zs w2 => pre (g us zs) w2 ∧ ∀ d w3, post (g us zs) w2 d w3 → P d w3) Z) Z) : Ev K W (tCallK (SpD K pre post zN) g E' t tk) δ w P Z :=
  fun σ H s Q q z => h σ H s _ (fun us H1 ds w1 e1 c1 r1 h1 => h1 σ H1 (s.next e1 c1) _ (fun zs H2 es w2 e2 c2 r2 ⟨h2, h3⟩ =>
    ⟨g ds es, w2, paired_rpa (hg.rel (rpa_paired (r1.mono e2)) (rpa_paired r2)), c2, h2, fun v H3 d w3 e3 c3 r3 p3 => q v H3 d w3 ((e1.trans e2).trans e3) c3 r3 (h3 d w3 p3), kz_none⟩) (z.next e1)) z
end
def kg1 {α : Type} : List α → List α → List α
  | [], [a] => [a]
  | _, _ => []
def kgS {α : Type} : List α → List α → List α
  | [], [a, b] => [b, a]
  | _, _ => []
def kg2 {α : Type} : List α → List α → List α
  | [], [a, b] => [a, b]
  | _, _ => []
theorem kg1_ok : KwG @kg1 := ⟨fun h1 h2 => by
  cases h1 with
  | nil => cases h2 with
    | nil => exact .nil
    | cons r t => cases t with
      | nil => exact .cons r .nil
      | cons _ _ => exact .nil
  | cons _ _ => cases h2 with
    | nil => exact .nil
    | cons r t => cases t <;> exact .nil⟩
theorem kgS_ok : KwG @kgS := ⟨fun h1 h2 => by
  cases h1 with
  | nil => cases h2 with
    | nil => exact .nil
    | cons r t => cases t with
      | nil => exact .nil
      | cons r2 t2 => cases t2 with
        | nil => exact .cons r2 (.cons r .nil)
        | cons _ _ => exact .nil
  | cons _ _ => cases h2 with
    | nil => exact .nil
    | cons r t => cases t with
      | nil => exact .nil
      | cons _ t2 => cases t2 <;> exact .nil⟩
theorem kg2_ok : KwG @kg2 := ⟨fun h1 h2 => by
  cases h1 with
  | nil => cases h2 with
    | nil => exact .nil
    | cons r t => cases t with
      | nil => exact .nil
      | cons r2 t2 => cases t2 with
        | nil => exact .cons r (.cons r2 .nil)
        | cons _ _ => exact .nil
  | cons _ _ => cases h2 with
    | nil => exact .nil
    | cons r t => cases t with
      | nil => exact .nil
      | cons _ t2 => cases t2 <;> exact .nil⟩

/-! ### a def by its name, its calls -/
/-- the def st stands under its name -/
def Dn (K : PySem.W.Frag) (mg : Str → Option Value) (name : Str) (st : Stmt) : Prop := ∃ f fd, Fun K name name st f fd ∧ mg name = some (.ref f)
structure Fk0 (P : Program) (wo : World) (K : PySem.W.Frag) (mg : Str → Option Value) (base : Heap) (C : CXT) (k : Nat) (name : Str) (st : Stmt) (ps : List Str) (sp : Sp) (f : Addr) (fd : FuncData) : Prop where
  gn : Gn P wo K mg base C k f fd ps sp
  fn : Fun K name name st f fd
  nm : mg name = some (.ref f)
  bd : Binds K fd ps []
/-- the def of that name keeps its promise -/
def Fk (P : Program) (wo : World) (K : PySem.W.Frag) (mg : Str → Option Value) (base : Heap) (C : CXT) (k : Nat) (name : Str) (st : Stmt) (ps : List Str) (sp : Sp) : Prop := ∃ f fd, Fk0 P wo K mg base C k name st ps sp f fd
/-- how the arguments bind, said once a def -/
abbrev BindP (name : Str) (st : Stmt) (ps : List Str) : Prop := ∀ (kV doc pm : Value) (an : Option Addr) (cdv ct : Value) (us : List Value), us.length = ps.length → bindArgs (PySem.W.fnOf name name (defArgs st) (defBody st) (defScope st) .none kV doc pm an cdv ct) ⟨us, []⟩ = pure (ps.zip us)
abbrev BindK (name : Str) (st : Stmt) (ps ks : List Str) (g : {α : Type} → List α → List α → List α) : Prop := ∀ (kV doc pm : Value) (an : Option Addr) (cdv ct : Value) (us ws : List Value), (g us ws).length = ps.length →
  bindArgs (PySem.W.fnOf name name (defArgs st) (defBody st) (defScope st) .none kV doc pm an cdv ct) ⟨us, ks.zip ws⟩ = pure (ps.zip (g us ws))
section
variable {P : Program} {wo : World} {K : PySem.W.Frag} {mg : Str → Option Value} {base : Heap} {pre : List D → Wl → Prop} {post : List D → Wl → D → Wl → Prop}
theorem fk_ok {name : Str} {st : Stmt} {N ps : List Str} {k : Nat} (d : Dn K mg name st) (S : FnScope N ps (defScope st)) (hb : BindP name st ps) (hlen : ∀ ds w, pre ds w → ds.length = ps.length)
    (body : ∀ (f : Addr) (cdv : Value) (A : Around) (fr : List Env) (s : Shared) (H : Hp) (E : XK), A.guards = some [] → Room k (A.deeper (envOfC name (defScope st) s.heap.objs.size f cdv)) →
      ∃ t, PSs (cxOf CX0 P wo K mg base N name (defScope st) f cdv A fr s H E).nox (defBody st) t ∧ ∀ ds w, pre ds w → Sd K E0 t (startD N ds) w (endD post zN ds w)) : Fk P wo K mg base CX0 (k + 1) name st ps (SpD K pre post zN) := by
  obtain ⟨f, fd, F, m⟩ := d
  refine ⟨f, fd, ⟨?_, F, m, F.binds hb⟩⟩
  obtain ⟨oc, od, kV, doc, pm, an, cdv, ct, osl, rfl, lk, hcd⟩ := F.ex
  refine gn_of lk hcd S (fn_len hlen) fun A fr s H vs Q E hg hr h => ?_
  obtain ⟨ds, w, r, c, p, q, z⟩ := h
  obtain ⟨t, ht, hs⟩ := body f cdv A fr s H E hg hr
  exact ⟨t, ht.nox, hs ds w p _ H (sat_start r c) _ (ke_of q kz_none)⟩
end
section
variable {X : Cx} {C : CXT} {k : Nat} {x : Str} {st : Stmt} {ps ks : List Str} {sp : Sp} {E : XK} {p pos : Pos} {e : Expr} {es : List Expr} {kws : List Keyword} {t tk : TA}
/-- f(a, ..) -/
theorem pe_f (F : Fk X.prog X.w X.K X.mg X.base C k x st ps sp) (hg : X.A.guards = some []) (hr : Room k X.A) (hgl : Gl X x) (hx : Passes C X E) (ha : PA X (e :: es) t) (hdb : (x == ("__debug__" : Str)) = false := by decide)
    (he : starEach (e :: es) X.env = (false, eval e X.env) :: starEach es X.env := by rfl) (hpl : (backTo pos (starEach es X.env)).any (·.1) = false := by rfl) : PE X (.Call (.Name x p) (e :: es) [] pos) (tCall sp [] E t) := by
  obtain ⟨f, fd, F⟩ := F
  refine ⟨fun pins s σ H Q I h => wpAny_Call_Name_kw (ld_glob I hgl F.nm ?_ hdb)⟩
  refine PySem.W.callWith_K (h₀ := X.base) I.ok.mod.kin F.fn.kp (thn (ha.run pos pins s σ H _ I h) fun us s1 ⟨vs, H1, I1, r, q⟩ => ⟨I1.kIn, ?_⟩) he hpl
  have q' : sp vs H1 Q E := by simpa using q
  have l : us.length = ps.length := by rw [← r.length]; exact F.gn.ln _ _ _ _ q'
  have b := F.bd s1 us I1.kIn (by simpa using l)
  rw [List.append_nil] at b
  exact gn_run (ar := ⟨us, []⟩) F.gn hg hr hx I1 b r q'
/-- f() -/
theorem pe_f0 (F : Fk X.prog X.w X.K X.mg X.base C k x st [] sp) (hg : X.A.guards = some []) (hr : Room k X.A) (hgl : Gl X x) (hx : Passes C X E) (hdb : (x == ("__debug__" : Str)) = false := by decide) :
    PE X (.Call (.Name x p) [] [] pos) (tCall sp [] E tNil) := by
  obtain ⟨f, fd, F⟩ := F
  refine ⟨fun pins s σ H Q I h => wpAny_Call_Name_kw (ld_glob I hgl F.nm ?_ hdb)⟩
  have b := F.bd s [] I.kIn rfl
  exact PySem.W.callWith_K0 I.kIn F.fn.kp (gn_run (ar := ⟨[], []⟩) F.gn hg hr hx I b .nil h)
/-- f(k = a, ..) -/
theorem pe_fk {g : {α : Type} → List α → List α → List α} (F : Fk X.prog X.w X.K X.mg X.base C k x st ps sp) (hg : X.A.guards = some []) (hr : Room k X.A) (hgl : Gl X x) (hx : Passes C X E) (G : KwG g) (hb : BindK x st ps ks g) (hkw : PK X kws tk)
    (hall : (backToKw pos (keywordEach kws X.env)).all (·.1.isSome) = true := by rfl) (hks : (backToKw pos (keywordEach kws X.env)).filterMap (·.1) = ks := by rfl) (hdb : (x == ("__debug__" : Str)) = false := by decide)
    (hpl : ((backTo pos (starEach [] X.env)).any (·.1) || (backToKw pos (keywordEach kws X.env)).any (·.1.isNone)) = false := by rfl) : PE X (.Call (.Name x p) [] kws pos) (tCallK sp g E tNil tk) := by
  obtain ⟨f, fd, F⟩ := F
  refine ⟨fun pins s σ H Q I h => wpAny_Call_Name_kw (ld_glob I hgl F.nm ?_ hdb)⟩
  refine PySem.W.callWith_KW0 (h₀ := X.base) I.ok.mod.kin F.fn.kp hall (thn (hkw.run pos pins s σ H _ I h) fun ws s2 ⟨zs, H2, I2, rz, q⟩ => ⟨I2.kIn, ?_⟩) hpl
  have r : Vals (g [] zs) (g [] ws) := G.rel .nil rz
  have l : (g [] ws).length = ps.length := by rw [← r.length]; exact F.gn.ln _ _ _ _ q
  rw [hks]
  obtain ⟨oc, od, kV, doc, pm, an, cdv, ct, osl, hfd, _⟩ := F.fn.ex
  refine gn_run (ar := ⟨[], ks.zip ws⟩) F.gn hg hr hx I2 (.of_eq ?_) r q
  rw [hfd]
  exact hb kV doc pm an cdv ct [] ws l
end
end DL
set_option Elab.async false
set_option linter.all false
set_option autoImplicit false
set_option maxRecDepth 100000
set_option maxHeartbeats 4000000
/-! DL7: the built-ins by their names, short. -/
namespace DL
open PySem PySem.Spec PyProof.Rows L2
section
variable {X : Cx} {p pos : Pos} {e : Expr} {es : List Expr} {t : TA}
theorem b_len (m : X.mg "len" = none) (hg : Gl X "len") (ha : PA X (e :: es) t) (he : starEach (e :: es) X.env = (false, eval e X.env) :: starEach es X.env := by rfl) (hpl : (backTo pos (starEach es X.env)).any (·.1) = false := by rfl) : PE X (.Call (.Name "len" p) (e :: es) [] pos) (tCB (rLen X.K) t) := pe_callB call_len hg m boot_len ha (by decide) (by decide) he hpl
theorem b_repr (m : X.mg "repr" = none) (hgu : X.A.guards = some []) (hu : X.A.units + 64 < cLine) (hg : Gl X "repr") (ha : PA X (e :: es) t) (he : starEach (e :: es) X.env = (false, eval e X.env) :: starEach es X.env := by rfl) (hpl : (backTo pos (starEach es X.env)).any (·.1) = false := by rfl) : PE X (.Call (.Name "repr" p) (e :: es) [] pos) (tCB (rReprD X.K) t) := pe_callB (call_reprD hgu hu) hg m boot_repr ha (by decide) (by decide) he hpl
theorem b_sum (hc : X.calm = true) (m : X.mg "sum" = none) (hg : Gl X "sum") (ha : PA X (e :: es) t) (he : starEach (e :: es) X.env = (false, eval e X.env) :: starEach es X.env := by rfl) (hpl : (backTo pos (starEach es X.env)).any (·.1) = false := by rfl) : PE X (.Call (.Name "sum" p) (e :: es) [] pos) (tCB (rSum X.K) t) := pe_callB (cr_sum hc) hg m boot_sum ha (by decide) (by decide) he hpl
theorem b_all (hc : X.calm = true) (m : X.mg "all" = none) (hg : Gl X "all") (ha : PA X (e :: es) t) (he : starEach (e :: es) X.env = (false, eval e X.env) :: starEach es X.env := by rfl) (hpl : (backTo pos (starEach es X.env)).any (·.1) = false := by rfl) : PE X (.Call (.Name "all" p) (e :: es) [] pos) (tCB (rAll X.K) t) := pe_callB (cr_all hc) hg m boot_all ha (by decide) (by decide) he hpl
theorem b_any (hc : X.calm = true) (m : X.mg "any" = none) (hg : Gl X "any") (ha : PA X (e :: es) t) (he : starEach (e :: es) X.env = (false, eval e X.env) :: starEach es X.env := by rfl) (hpl : (backTo pos (starEach es X.env)).any (·.1) = false := by rfl) : PE X (.Call (.Name "any" p) (e :: es) [] pos) (tCB (rAny X.K) t) := pe_callB (cr_any hc) hg m boot_any ha (by decide) (by decide) he hpl
theorem b_sortedS (m : X.mg "sorted" = none) (hg : Gl X "sorted") (ha : PA X (e :: es) t) (he : starEach (e :: es) X.env = (false, eval e X.env) :: starEach es X.env := by rfl) (hpl : (backTo pos (starEach es X.env)).any (·.1) = false := by rfl) : PE X (.Call (.Name "sorted" p) (e :: es) [] pos) (tCB (rSortedS X.K) t) := pe_callB cr_sortedS hg m boot_sorted ha (by decide) (by decide) he hpl
theorem b_abs (m : X.mg "abs" = none) (hg : Gl X "abs") (ha : PA X (e :: es) t) (he : starEach (e :: es) X.env = (false, eval e X.env) :: starEach es X.env := by rfl) (hpl : (backTo pos (starEach es X.env)).any (·.1) = false := by rfl) : PE X (.Call (.Name "abs" p) (e :: es) [] pos) (tCB rAbs t) := pe_callB call_abs hg m boot_abs ha (by decide) (by decide) he hpl
theorem b_max2 (hc : X.calm = true) (m : X.mg "max" = none) (hg : Gl X "max") (ha : PA X (e :: es) t) (he : starEach (e :: es) X.env = (false, eval e X.env) :: starEach es X.env := by rfl) (hpl : (backTo pos (starEach es X.env)).any (·.1) = false := by rfl) : PE X (.Call (.Name "max" p) (e :: es) [] pos) (tCB rMax2 t) := pe_callB (call_max2 hc) hg m boot_max ha (by decide) (by decide) he hpl
theorem b_min2 (hc : X.calm = true) (m : X.mg "min" = none) (hg : Gl X "min") (ha : PA X (e :: es) t) (he : starEach (e :: es) X.env = (false, eval e X.env) :: starEach es X.env := by rfl) (hpl : (backTo pos (starEach es X.env)).any (·.1) = false := by rfl) : PE X (.Call (.Name "min" p) (e :: es) [] pos) (tCB rMin2 t) := pe_callB (call_min2 hc) hg m boot_min ha (by decide) (by decide) he hpl
theorem b_isi (m : X.mg "isinstance" = none) (hg : Gl X "isinstance") (ha : PA X (e :: es) t) (he : starEach (e :: es) X.env = (false, eval e X.env) :: starEach es X.env := by rfl) (hpl : (backTo pos (starEach es X.env)).any (·.1) = false := by rfl) : PE X (.Call (.Name "isinstance" p) (e :: es) [] pos) (tCB (rIsi X.K) t) := pe_callB call_isi hg m boot_isinstance ha (by decide) (by decide) he hpl
def rDivmod : List V → Hp → VK → Prop := fun xs H Q => ∃ i j, xs = [.int i, .int j] ∧ CDivP i j ∧ ∀ p, H p = none → Q (.ref p) (upd H p (.tup [.int (i / j), .int (i % j)]))
theorem b_divmod (m : X.mg "divmod" = none) (hg : Gl X "divmod") (ha : PA X (e :: es) t) (he : starEach (e :: es) X.env = (false, eval e X.env) :: starEach es X.env := by rfl) (hpl : (backTo pos (starEach es X.env)).any (·.1) = false := by rfl) : PE X (.Call (.Name "divmod" p) (e :: es) [] pos) (tCB rDivmod t) := pe_callB call_divmodW hg m boot_divmod ha (by decide) (by decide) he hpl
theorem ol_divmodW {K : PySem.W.Frag} {w : Wl} {P : PD} {i j : Int} (hc : CDivP i j) (k : P (.tup [.int (i / j), .int (i % j)]) w) : OpL K rDivmod [.int i, .int j] w P := ol_divmod hc k
theorem b_int (m : X.mg "int" = none) (hg : Gl X "int") (ha : PA X (e :: es) t) (he : starEach (e :: es) X.env = (false, eval e X.env) :: starEach es X.env := by rfl) (hpl : (backTo pos (starEach es X.env)).any (·.1) = false := by rfl) : PE X (.Call (.Name "int" p) (e :: es) [] pos) (tCB rInt1 t) := pe_callTy call_int1 hg m boot_int ha (by decide) (by decide) he hpl
theorem b_tuple (m : X.mg "tuple" = none) (hg : Gl X "tuple") (ha : PA X (e :: es) t) (he : starEach (e :: es) X.env = (false, eval e X.env) :: starEach es X.env := by rfl) (hpl : (backTo pos (starEach es X.env)).any (·.1) = false := by rfl) : PE X (.Call (.Name "tuple" p) (e :: es) [] pos) (tCB (rTupOf X.K) t) := pe_callTy call_tuple_of hg m boot_tuple ha (by decide) (by decide) he hpl
theorem b_list (m : X.mg "list" = none) (hg : Gl X "list") (ha : PA X (e :: es) t) (he : starEach (e :: es) X.env = (false, eval e X.env) :: starEach es X.env := by rfl) (hpl : (backTo pos (starEach es X.env)).any (·.1) = false := by rfl) : PE X (.Call (.Name "list" p) (e :: es) [] pos) (tCB (rLstOf X.K) t) := pe_callTy call_list_of hg m boot_list ha (by decide) (by decide) he hpl
/-- the classes as values -/
theorem c_int (m : X.mg "int" = none) (hg : Gl X "int") : PE X (.Name "int" p) (tC (.ty "int")) := pe_bltn hg m boot_int rfl
theorem c_bool (m : X.mg "bool" = none) (hg : Gl X "bool") : PE X (.Name "bool" p) (tC (.ty "bool")) := pe_bltn hg m boot_bool rfl
theorem c_str (m : X.mg "str" = none) (hg : Gl X "str") : PE X (.Name "str" p) (tC (.ty "str")) := pe_bltn hg m boot_str rfl
theorem c_tuple (m : X.mg "tuple" = none) (hg : Gl X "tuple") : PE X (.Name "tuple" p) (tC (.ty "tuple")) := pe_bltn hg m boot_tuple rfl
theorem c_list (m : X.mg "list" = none) (hg : Gl X "list") : PE X (.Name "list" p) (tC (.ty "list")) := pe_bltn hg m boot_list rfl
/-- a module's constant that is an int -/
theorem k_int {x : Str} {i : Int} (m : ∃ u, X.mg x = some (.int i u)) (hg : Gl X x) (hd : (x == ("__debug__" : Str)) = false := by decide) : PE X (.Name x p) (tC (.int i)) := by
  obtain ⟨u, m⟩ := m
  exact pe_glob hg m ⟨u, rfl⟩ hd
/-- a test by truth -/
theorem pt_tru {a : Expr} {ta : TE} (ha : PE X a ta) (he : ∀ whole, isTrue a X.env whole = (do let v ← whole; standAt a.pos; holding [v] (truthy v)) := by intro _; rfl) : PT X a (tTru X.K ta) := pt_truth ha he
/-- s * n -/
def rMulS : R2 := fun x y H Q => ∃ (z : Str) (n : Int), x = .str z ∧ y = .int n ∧ 1 ≤ n ∧ n ≤ 1000 ∧ z.length * n.toNat ≤ 1000 ∧ ∀ r : Str, r.cps.toList = (List.replicate n.toNat z.cps.toList).flatten → Q (.str r) H
end

theorem mulS_fold (a : Array Nat) : ∀ (n : Nat) (acc : Array Nat), ((List.replicate n a).foldl (· ++ ·) acc).toList = acc.toList ++ (List.replicate n a.toList).flatten
  | 0, acc => by simp
  | n + 1, acc => by
    rw [List.replicate_succ, List.foldl_cons, mulS_fold a n, List.replicate_succ, List.flatten_cons]
    simp
section
variable {X : Cx}
theorem op_mulS : OpR X (binaryOp .Mult) rMulS := by
  intro pins s σ H x y v u Q I rx ry h
  obtain ⟨z, n, rfl, rfl, h1, h2, h3, q⟩ := h
  obtain ⟨t, rfl⟩ := rx
  obtain ⟨t', rfl⟩ := ry
  have hn : ¬ n < 1 := by omega
  refine PySem.P.mul_str (by rw [decide_eq_false (by omega), decide_eq_false (by omega)]; rfl) (fun _ hz => ?_) (fun _ hz => ?_) ?_
  · have e1 : (z.length : Int) ≤ 1000 := by
      have : z.length * 1 ≤ z.length * n.toNat := Nat.mul_le_mul_left _ (by omega)
      omega
    have e2 : (1000 : Int) ≤ (2 ^ 63 - 1) / n := by
      rw [Int.le_ediv_iff_mul_le (by omega)]
      omega
    omega
  · unfold Builtin.Str.tooLong
    rw [sizeLine_eq]
    exact decide_eq_false (by omega)
  · rw [if_neg hn]
    by_cases hz : (n == 1 || z.length == 0) = true
    · rw [if_pos hz]
      refine ⟨.str z, H, I, ⟨t, rfl⟩, q z ?_⟩
      rcases Bool.or_eq_true_iff.mp hz with e | e
      · have : n = 1 := by simpa using e
        subst this
        simp
      · have e0 : z.length = 0 := by simpa using e
        have e1 : z.cps.toList = [] := by
          have : z.cps.size = 0 := e0
          exact List.eq_nil_of_length_eq_zero (by simpa using this)
        rw [e1]
        simp
    · rw [if_neg hz]
      refine ⟨?_, .str _, H, I.tok _, ⟨_, rfl⟩, q _ ?_⟩
      · show ((List.replicate n.toNat z.cps).foldl (· ++ ·) #[]).size ≤ sizeLine
        have e := congrArg List.length (mulS_fold z.cps n.toNat #[])
        have e2 : (List.replicate n.toNat z.cps.toList).flatten.length = z.length * n.toNat := by
          rw [List.length_flatten, List.map_replicate, List.sum_replicate_nat, Nat.mul_comm]
          rfl
        rw [List.length_append, e2, Array.length_toList] at e
        rw [e, sizeLine_eq]
        have e3 : (#[] : Array Nat).toList.length = 0 := rfl
        omega
      · rw [mulS_fold]
        rfl
end
section
variable {K : PySem.W.Frag} {w : Wl} {P : PD}
theorem o2_mulS {z : Str} {n : Int} (h1 : 1 ≤ n) (h2 : n ≤ 1000) (h3 : z.length * n.toNat ≤ 1000) (k : ∀ r : Str, r.cps.toList = (List.replicate n.toNat z.cps.toList).flatten → P (.str r) w) : Op2 K rMulS (.str z) (.int n) w P := by
  intro v u H r1 r2 c Q q
  cases r1; cases r2
  exact ⟨z, n, rfl, rfl, h1, h2, h3, fun r hr => q _ H _ w (Ex.refl _) c (.str _) (k r hr)⟩
theorem o2_catT {xs ys : List D} (hz : xs.length + ys.length ≤ sizeLine) (k : P (.tup (xs ++ ys)) w) : Op2 K (rCatA K) (.tup xs) (.tup ys) w P := by
  intro v u H r1 r2 c Q q
  cases r1 with
  | tup h1 a1 => cases r2 with
    | tup h2 a2 =>
      refine ⟨_, _, _, _, rfl, rfl, ex_t Ex.msk h1, ex_t Ex.msk h2, by rw [a1.length, a2.length]; exact hz, fun e => ?_, fun _ e => ?_, fun _ _ p hp => kq_tup q c (a1.append a2) k hp⟩
      · subst e; cases a1
        exact q _ H _ w (Ex.refl _) c (.tup h2 a2) k
      · subst e; cases a2
        rw [List.append_nil] at k
        exact q _ H _ w (Ex.refl _) c (.tup h1 a1) k
theorem o2_catL {xs ys : List D} (hz : xs.length + ys.length ≤ sizeLine) (k : P (.lst (xs ++ ys)) w) : Op2 K rCat (.lst xs) (.lst ys) w P := by
  intro v u H r1 r2 c Q q
  cases r1 with
  | lst h1 a1 => cases r2 with
    | lst h2 a2 => exact ⟨_, _, _, _, rfl, rfl, (msk_some h1).2, (msk_some h2).2, by rw [a1.length, a2.length]; exact hz, fun p hp => kq_lst q c (a1.append a2) k hp⟩
theorem cutV_whole {α : Type} {xs : List α} {lo hi : Option Int} (h : HT.sIx xs.length 0 lo = 0 ∧ HT.sIx xs.length xs.length hi = xs.length) : (xs.drop (HT.sIx xs.length 0 lo)).take (HT.sIx xs.length xs.length hi - HT.sIx xs.length 0 lo) = xs := by
  rw [h.1, h.2]; simp
theorem os_tupA {ds : List D} {lo hi : Option Int} (k : P (.tup (cutD ds lo hi)) w) : OpS K (rSlA K) (.tup ds) lo hi w P := by
  intro v H r1 c Q q
  cases r1 with
  | tup h1 a1 =>
    refine ⟨_, _, rfl, ex_t Ex.msk h1, fun e => ?_, fun _ p hp => kq_tup q c (rpa_cut a1 lo hi) k hp⟩
    rw [a1.length] at e
    have z : cutD ds lo hi = ds := cutV_whole e
    rw [z] at k
    exact q _ H _ w (Ex.refl _) c (.tup h1 a1) k
end
end DL
set_option Elab.async false
set_option linter.all false
set_option autoImplicit false
set_option maxRecDepth 100000
set_option maxHeartbeats 4000000
/-! DL8: isinstance of any datum; small helpers. -/
namespace DL
open PySem PySem.Spec PyProof.Rows L2
/-- a plain value: its kind is known -/
def kn (d : D) : Prop := (tyD d).isSome = true
def isiInt : D → Bool | .int _ => true | .bl _ => true | _ => false
def isiBool : D → Bool | .bl _ => true | _ => false
def isiStr : D → Bool | .str _ => true | _ => false
def isiTup : D → Bool | .tup _ => true | _ => false
def isiLst : D → Bool | .lst _ => true | _ => false
section
variable {K : PySem.W.Frag} {w : Wl} {P : PD}
theorem ol_isiInt {x : D} (h : kn x) (k : P (.bl (isiInt x)) w) : OpL K (rIsi K) [x, .ty "int"] w P := by
  cases x with
  | non => exact ol_isi rfl (show kitB "NoneType" "int" = some false by decide +kernel) k
  | bl b => exact ol_isi rfl (show kitB "bool" "int" = some true by decide +kernel) k
  | int b => exact ol_isi rfl (show kitB "int" "int" = some true by decide +kernel) k
  | str b => exact ol_isi rfl (show kitB "str" "int" = some false by decide +kernel) k
  | byt b => exact ol_isi rfl (show kitB "bytes" "int" = some false by decide +kernel) k
  | lst b => exact ol_isi rfl (show kitB "list" "int" = some false by decide +kernel) k
  | tup b => exact ol_isi rfl (show kitB "tuple" "int" = some false by decide +kernel) k
  | _ => cases h
theorem ol_isiBool {x : D} (h : kn x) (k : P (.bl (isiBool x)) w) : OpL K (rIsi K) [x, .ty "bool"] w P := by
  cases x with
  | non => exact ol_isi rfl (show kitB "NoneType" "bool" = some false by decide +kernel) k
  | bl b => exact ol_isi rfl (show kitB "bool" "bool" = some true by decide +kernel) k
  | int b => exact ol_isi rfl (show kitB "int" "bool" = some false by decide +kernel) k
  | str b => exact ol_isi rfl (show kitB "str" "bool" = some false by decide +kernel) k
  | byt b => exact ol_isi rfl (show kitB "bytes" "bool" = some false by decide +kernel) k
  | lst b => exact ol_isi rfl (show kitB "list" "bool" = some false by decide +kernel) k
  | tup b => exact ol_isi rfl (show kitB "tuple" "bool" = some false by decide +kernel) k
  | _ => cases h
theorem ol_isiStr {x : D} (h : kn x) (k : P (.bl (isiStr x)) w) : OpL K (rIsi K) [x, .ty "str"] w P := by
  cases x with
  | non => exact ol_isi rfl (show kitB "NoneType" "str" = some false by decide +kernel) k
  | bl b => exact ol_isi rfl (show kitB "bool" "str" = some false by decide +kernel) k
  | int b => exact ol_isi rfl (show kitB "int" "str" = some false by decide +kernel) k
  | str b => exact ol_isi rfl (show kitB "str" "str" = some true by decide +kernel) k
  | byt b => exact ol_isi rfl (show kitB "bytes" "str" = some false by decide +kernel) k
  | lst b => exact ol_isi rfl (show kitB "list" "str" = some false by decide +kernel) k
  | tup b => exact ol_isi rfl (show kitB "tuple" "str" = some false by decide +kernel) k
  | _ => cases h
theorem ol_isiTup {x : D} (h : kn x) (k : P (.bl (isiTup x)) w) : OpL K (rIsi K) [x, .ty "tuple"] w P := by
  cases x with
  | non => exact ol_isi rfl (show kitB "NoneType" "tuple" = some false by decide +kernel) k
  | bl b => exact ol_isi rfl (show kitB "bool" "tuple" = some false by decide +kernel) k
  | int b => exact ol_isi rfl (show kitB "int" "tuple" = some false by decide +kernel) k
  | str b => exact ol_isi rfl (show kitB "str" "tuple" = some false by decide +kernel) k
  | byt b => exact ol_isi rfl (show kitB "bytes" "tuple" = some false by decide +kernel) k
  | lst b => exact ol_isi rfl (show kitB "list" "tuple" = some false by decide +kernel) k
  | tup b => exact ol_isi rfl (show kitB "tuple" "tuple" = some true by decide +kernel) k
  | _ => cases h
theorem ol_isiLst {x : D} (h : kn x) (k : P (.bl (isiLst x)) w) : OpL K (rIsi K) [x, .ty "list"] w P := by
  cases x with
  | non => exact ol_isi rfl (show kitB "NoneType" "list" = some false by decide +kernel) k
  | bl b => exact ol_isi rfl (show kitB "bool" "list" = some false by decide +kernel) k
  | int b => exact ol_isi rfl (show kitB "int" "list" = some false by decide +kernel) k
  | str b => exact ol_isi rfl (show kitB "str" "list" = some false by decide +kernel) k
  | byt b => exact ol_isi rfl (show kitB "bytes" "list" = some false by decide +kernel) k
  | lst b => exact ol_isi rfl (show kitB "list" "list" = some true by decide +kernel) k
  | tup b => exact ol_isi rfl (show kitB "tuple" "list" = some false by decide +kernel) k
  | _ => cases h
end
theorem if_t {A B : Prop} {b : Bool} (e : b = true) (h : A) : if b = true then A else B := by rw [if_pos e]; exact h
theorem if_f {A B : Prop} {b : Bool} (e : b = false) (h : B) : if b = true then A else B := by rw [if_neg (by rw [e]; exact Bool.false_ne_true)]; exact h
theorem if_2 {A B : Prop} {b : Bool} (h1 : b = true → A) (h2 : b = false → B) : if b = true then A else B := by
  cases b with
  | true => exact h1 rfl
  | false => exact h2 rfl
/-- a def without a store: f of its arguments -/
abbrev SpF (K : PySem.W.Frag) (ok : List D → Prop) (f : List D → D) : Sp := SpD K (fun ds _ => ok ds) (fun ds w d w' => d = f ds ∧ w' = w) zN
theorem ev_f {K : PySem.W.Frag} {W : XK} {δ : Dlt} {w : Wl} {Pd : PD} {Z : ZD} {ok : List D → Prop} {f : List D → D} {E' : XK} {t : TA} (h : EvA K W t δ w (fun ds w1 => ok ds ∧ Pd (f ds) w1) Z) : Ev K W (tCall (SpF K ok f) [] E' t) δ w Pd Z :=
  ev_call fun σ H s Q q z => h σ H s Q (fun v H' d w' e c r p => q v H' d w' e c r ⟨p.1, fun d2 w2 z => by rw [z.1, z.2]; exact p.2⟩) z
theorem ev_fk {K : PySem.W.Frag} {W : XK} {δ : Dlt} {w : Wl} {Pd : PD} {Z : ZD} {ok : List D → Prop} {f : List D → D} {E' : XK} {t tk : TA} {g : {α : Type} → List α → List α → List α} (hg : KwG g)
    (h : EvA K W t δ w (fun us w1 => EvA K W tk δ w1 (fun zs w2 => ok (g us zs) ∧ Pd (f (g us zs)) w2) Z) Z) : Ev K W (tCallK (SpF K ok f) g E' t tk) δ w Pd Z :=
  ev_callK hg fun σ H s Q q z => h σ H s Q (fun v H' d w' e c r p => q v H' d w' e c r fun σ2 H2 s2 Q2 q2 z2 => p σ2 H2 s2 Q2 (fun v2 H3 d2 w3 e3 c3 r3 p3 => q2 v2 H3 d2 w3 e3 c3 r3 ⟨p3.1, fun d4 w4 z4 => by rw [z4.1, z4.2]; exact p3.2⟩) z2) z
/-- for a SpF def: the value at the end -/
theorem rt_f {f : List D → D} {ds : List D} {w : Wl} {d : D} (h : d = f ds) : (endD (fun ds w d w' => d = f ds ∧ w' = w) zN ds w).rt d w := ⟨h, rfl⟩

/-! plain data of bounded texts -/
mutual
def fine : D → Bool
  | .str x => decide (x.length ≤ 5000)
  | .lst ds => fineA ds
  | .tup ds => fineA ds
  | .non | .bl _ | .int _ => true
  | .byt b => decide (b.size ≤ 5000)
  | _ => false
def fineA : List D → Bool
  | [] => true
  | d :: ds => fine d && fineA ds
end
theorem fine_kn {d : D} (h : fine d = true) : kn d := by
  cases d <;> first | rfl | (simp [fine] at h)
theorem fine_str {x : Str} (h : fine (.str x) = true) : x.length ≤ sizeLine := by
  have : x.length ≤ 5000 := by simpa [fine] using h
  exact Nat.le_trans this (by decide)
theorem fine_tup {ds : List D} (h : fine (.tup ds) = true) : fineA ds = true := by simpa [fine] using h
theorem fine_lst {ds : List D} (h : fine (.lst ds) = true) : fineA ds = true := by simpa [fine] using h
theorem fineA_cons {d : D} {ds : List D} (h : fineA (d :: ds) = true) : fine d = true ∧ fineA ds = true := by simpa [fineA] using h
theorem fineA_get : ∀ {ds : List D} {i : Nat} {d : D}, fineA ds = true → ds[i]? = some d → fine d = true
  | [], _, _, _, e => by simp at e
  | x :: xs, 0, d, h, e => by
    simp at e; subst e
    exact (fineA_cons h).1
  | x :: xs, i + 1, d, h, e => fineA_get (fineA_cons h).2 (by simpa using e)
theorem fineA_append {xs ys : List D} (h1 : fineA xs = true) (h2 : fineA ys = true) : fineA (xs ++ ys) = true := by
  induction xs with
  | nil => exact h2
  | cons x xs ih =>
    have q := fineA_cons h1
    simp [fineA, q.1, ih q.2]
theorem fineA_of {ds : List D} (h : ∀ d ∈ ds, fine d = true) : fineA ds = true := by
  induction ds with
  | nil => rfl
  | cons x xs ih => simp [fineA, h x List.mem_cons_self, ih fun d hd => h d (List.mem_cons_of_mem _ hd)]
end DL
set_option Elab.async false
set_option linter.all false
set_option autoImplicit false
set_option maxRecDepth 100000
set_option maxHeartbeats 4000000
/-! DL9: the rules that speak of the written part, with it named (for comprehensions' blocks). -/
namespace DL
open PySem PySem.Spec PyProof.Rows L2
section
variable {X : Cx} {K : PySem.W.Frag} {p pos : Pos} {e o : Expr} {es : List Expr} {t : TA} {ta te to : TE} {tg : Expr}
theorem q_len (hK : X.K = K) (m : X.mg "len" = none) (hg : Gl X "len") (ha : PA X (e :: es) t) (he : starEach (e :: es) X.env = (false, eval e X.env) :: starEach es X.env := by rfl) (hpl : (backTo pos (starEach es X.env)).any (·.1) = false := by rfl) : PE X (.Call (.Name "len" p) (e :: es) [] pos) (tCB (rLen K) t) := by subst hK; exact b_len m hg ha he hpl
theorem q_repr (hK : X.K = K) (m : X.mg "repr" = none) (hgu : X.A.guards = some []) (hu : X.A.units + 64 < cLine) (hg : Gl X "repr") (ha : PA X (e :: es) t) (he : starEach (e :: es) X.env = (false, eval e X.env) :: starEach es X.env := by rfl) (hpl : (backTo pos (starEach es X.env)).any (·.1) = false := by rfl) : PE X (.Call (.Name "repr" p) (e :: es) [] pos) (tCB (rReprD K) t) := by subst hK; exact b_repr m hgu hu hg ha he hpl
theorem q_sum (hK : X.K = K) (hc : X.calm = true) (m : X.mg "sum" = none) (hg : Gl X "sum") (ha : PA X (e :: es) t) (he : starEach (e :: es) X.env = (false, eval e X.env) :: starEach es X.env := by rfl) (hpl : (backTo pos (starEach es X.env)).any (·.1) = false := by rfl) : PE X (.Call (.Name "sum" p) (e :: es) [] pos) (tCB (rSum K) t) := by subst hK; exact b_sum hc m hg ha he hpl
theorem q_all (hK : X.K = K) (hc : X.calm = true) (m : X.mg "all" = none) (hg : Gl X "all") (ha : PA X (e :: es) t) (he : starEach (e :: es) X.env = (false, eval e X.env) :: starEach es X.env := by rfl) (hpl : (backTo pos (starEach es X.env)).any (·.1) = false := by rfl) : PE X (.Call (.Name "all" p) (e :: es) [] pos) (tCB (rAll K) t) := by subst hK; exact b_all hc m hg ha he hpl
theorem q_any (hK : X.K = K) (hc : X.calm = true) (m : X.mg "any" = none) (hg : Gl X "any") (ha : PA X (e :: es) t) (he : starEach (e :: es) X.env = (false, eval e X.env) :: starEach es X.env := by rfl) (hpl : (backTo pos (starEach es X.env)).any (·.1) = false := by rfl) : PE X (.Call (.Name "any" p) (e :: es) [] pos) (tCB (rAny K) t) := by subst hK; exact b_any hc m hg ha he hpl
theorem q_sortedS (hK : X.K = K) (m : X.mg "sorted" = none) (hg : Gl X "sorted") (ha : PA X (e :: es) t) (he : starEach (e :: es) X.env = (false, eval e X.env) :: starEach es X.env := by rfl) (hpl : (backTo pos (starEach es X.env)).any (·.1) = false := by rfl) : PE X (.Call (.Name "sorted" p) (e :: es) [] pos) (tCB (rSortedS K) t) := by subst hK; exact b_sortedS m hg ha he hpl
theorem q_isi (hK : X.K = K) (m : X.mg "isinstance" = none) (hg : Gl X "isinstance") (ha : PA X (e :: es) t) (he : starEach (e :: es) X.env = (false, eval e X.env) :: starEach es X.env := by rfl) (hpl : (backTo pos (starEach es X.env)).any (·.1) = false := by rfl) : PE X (.Call (.Name "isinstance" p) (e :: es) [] pos) (tCB (rIsi K) t) := by subst hK; exact b_isi m hg ha he hpl
theorem q_tuple (hK : X.K = K) (m : X.mg "tuple" = none) (hg : Gl X "tuple") (ha : PA X (e :: es) t) (he : starEach (e :: es) X.env = (false, eval e X.env) :: starEach es X.env := by rfl) (hpl : (backTo pos (starEach es X.env)).any (·.1) = false := by rfl) : PE X (.Call (.Name "tuple" p) (e :: es) [] pos) (tCB (rTupOf K) t) := by subst hK; exact b_tuple m hg ha he hpl
theorem q_list (hK : X.K = K) (m : X.mg "list" = none) (hg : Gl X "list") (ha : PA X (e :: es) t) (he : starEach (e :: es) X.env = (false, eval e X.env) :: starEach es X.env := by rfl) (hpl : (backTo pos (starEach es X.env)).any (·.1) = false := by rfl) : PE X (.Call (.Name "list" p) (e :: es) [] pos) (tCB (rLstOf K) t) := by subst hK; exact b_list m hg ha he hpl
theorem qt_tru {a : Expr} (hK : X.K = K) (ha : PE X a ta) (he : ∀ whole, isTrue a X.env whole = (do let v ← whole; standAt a.pos; holding [v] (truthy v)) := by intro _; rfl) : PT X a (tTru K ta) := by subst hK; exact pt_tru ha he
theorem qx_list (hK : X.K = K) : IxR X (rIxL K) := by subst hK; exact ix_list
theorem qx_tup (hK : X.K = K) : IxR X (rIxT K) := by subst hK; exact ix_tup
theorem qs_list (hK : X.K = K) : SlR X (rSlL K) := by subst hK; exact sl_list
theorem qs_tup (hK : X.K = K) : SlR X (rSlA K) := by subst hK; exact sl_tupA
theorem qo_catA (hK : X.K = K) : OpR X (binaryOp .Add) (rCatA K) := by subst hK; exact op_catA
theorem qo_eqD (hK : X.K = K) (hu : X.A.units + 64 < cLine) : OpR X (compareOp .Eq) (rEqD K) := by subst hK; exact op_eqD hu
theorem qo_neD (hK : X.K = K) (hu : X.A.units + 64 < cLine) : OpR X (compareOp .NotEq) (rNeD K) := by subst hK; exact op_neD hu
theorem qi_list (hK : X.K = K) (h : PE X e te) : PI X tg e (iList K te) := by subst hK; exact pi_list h
theorem qi_tup (hK : X.K = K) (h : PE X e te) : PI X tg e (iTup K te) := by subst hK; exact pi_tup h
theorem qi_enT {tpos : Pos} {elts : List Expr} {kk : Nat} (hK : X.K = K) (hg : Gl X "enumerate") (hm : X.mg "enumerate" = none) (ha : PA X [e] t) (hs : starEach [e] X.env = [(false, eval e X.env)] := by rfl) :
    PI X (.Tuple elts kk tpos) (.Call (.Name "enumerate" p) [e] [] pos) (iEnT K t) := by subst hK; exact pi_enT hg hm ha hs
theorem q_bm0 {T id : String} {name : Str} {r : V → List V → Hp → VK → Prop} {apos cpos : Pos} (hK : X.K = K) (pa : PlainAttrs T) (slot : Slot T name id) (hty : typeOf (.builtin id) = pure (.type "method_descriptor")) (hm : MtR X id r) (ho : PE X o to)
    (hbase : attributeBase o name X.env (eval o X.env) = eval o X.env := by rfl) (hline : (apos.endLine == cpos.line) = true := by rfl) : PE X (.Call (.Attribute o name apos) [] [] cpos) (tBM0 K T r to) := by subst hK; exact pe_bm0 pa slot hty hm ho hbase hline
theorem q_bm {T id : String} {name : Str} {r : V → List V → Hp → VK → Prop} {apos cpos : Pos} (hK : X.K = K) (pa : PlainAttrs T) (slot : Slot T name id) (hty : typeOf (.builtin id) = pure (.type "method_descriptor")) (hm : MtR X id r) (ho : PE X o to) (ha : PA X (e :: es) t)
    (hbase : attributeBase o name X.env (eval o X.env) = eval o X.env := by rfl)
    (hfew : ((backTo cpos (starEach (e :: es) X.env)).all (fun x => !x.1) && (backToKw cpos (keywordEach [] X.env)).all (fun x => x.1.isSome)
      && decide ((e :: es).length + ([] : List Keyword).length + (if ([] : List Keyword).isEmpty then 0 else 1) < 30)) = true := by rfl)
    (hline : (apos.endLine == cpos.line) = true := by rfl) (hs : starEach (e :: es) X.env = (false, eval e X.env) :: starEach es X.env := by rfl) (hplain : (backTo cpos (starEach es X.env)).any (·.1) = false := by rfl) :
    PE X (.Call (.Attribute o name apos) (e :: es) [] cpos) (tBM K T r to t) := by subst hK; exact pe_bm pa slot hty hm ho ha hbase hfew hline hs hplain
theorem q_join {apos : Pos} (hK : X.K = K) (ho : PE X o to) (he : PE X e te) (hs : starEach [e] X.env = [(false, eval e X.env)] := by rfl) (hbase : attributeBase o "join" X.env (eval o X.env) = eval o X.env := by rfl) (hline : (apos.endLine == pos.line) = true := by rfl) :
    PE X (.Call (.Attribute o "join" apos) [e] [] pos) (tM1 (rJoin K) to te) := by subst hK; exact pe_join ho he hs hbase hline
theorem qg_tup {k n : Nat} {u : TGs} (hK : X.K = K) (hc : X.calm = true) (h : PGs X es u) (hn : (assignEach es X.env).length = n) (hst : (assignEach es X.env).findIdx? (·.1) = none := by rfl) : PG X (.Tuple es k pos) (gTup K n u) := by subst hK; exact pg_tup hc h hn hst
end
end DL
set_option Elab.async false
set_option linter.all false
set_option autoImplicit false
set_option maxRecDepth 100000
set_option maxHeartbeats 4000000
/-! WM: names, the words that the law draws. -/
namespace LW
open PySem PySem.Spec PyProof.Rows L2 DL
def nameS (x : Str) : Bool := decide (x.length ≤ 8) && (Txt.isascii x && (Txt.isalpha x && Txt.islower x))
theorem letter_ok : ∀ c : Nat, 97 ≤ c → c ≤ 122 → c < 128 ∧ Unicode.isAlpha c = true ∧ Unicode.isLower c = true ∧ Unicode.isUpper c = false ∧ Unicode.isTitle c = false := by
  have h : ∀ i : Fin 26, (97 + i.val < 128 ∧ Unicode.isAlpha (97 + i.val) = true ∧ Unicode.isLower (97 + i.val) = true ∧ Unicode.isUpper (97 + i.val) = false ∧ Unicode.isTitle (97 + i.val) = false) := by decide +kernel
  intro c h1 h2
  have q := h ⟨c - 97, by omega⟩
  have e : 97 + (c - 97) = c := by omega
  rw [show (97 + (⟨c - 97, by omega⟩ : Fin 26).val) = c from e] at q
  exact q
/-- a to z alone -/
def low (l : List Nat) : Prop := ∀ c ∈ l, 97 ≤ c ∧ c ≤ 122
theorem nameS_of {x : Str} (h : low x.cps.toList) (h1 : 1 ≤ x.length) (h2 : x.length ≤ 8) : nameS x = true := by
  have mem : ∀ c ∈ x.cps.toList, c < 128 ∧ Unicode.isAlpha c = true ∧ Unicode.isLower c = true ∧ Unicode.isUpper c = false ∧ Unicode.isTitle c = false := fun c hc => letter_ok c (h c hc).1 (h c hc).2
  have ea : x.cps.all (fun c => decide (c < 128)) = true := by
    rw [Array.all_eq_true']
    intro c hc
    exact decide_eq_true (mem c (Array.mem_toList_iff.mpr hc)).1
  have eb : x.cps.all Unicode.isAlpha = true := by
    rw [Array.all_eq_true']
    intro c hc
    exact (mem c (Array.mem_toList_iff.mpr hc)).2.1
  have ec : x.cps.any (fun c => Unicode.isUpper c || Unicode.isTitle c) = false := by
    rw [Array.any_eq_false']
    intro c hc
    have := mem c (Array.mem_toList_iff.mpr hc)
    rw [this.2.2.2.1, this.2.2.2.2]
    decide
  have ed : x.cps.any Unicode.isLower = true := by
    have hs : 0 < x.cps.size := h1
    rw [Array.any_eq_true']
    exact ⟨x.cps[0], Array.getElem_mem hs, (mem x.cps[0] (Array.mem_toList_iff.mpr (Array.getElem_mem hs))).2.2.1⟩
  unfold nameS Txt.isascii Txt.isalpha Txt.islower
  rw [decide_eq_true h2, ea, eb, ec, ed, decide_eq_true (show x.length > 0 by omega)]
  rfl
theorem str_ext {a b : Str} (h : a.cps.toList = b.cps.toList) : a = b := ext_toList h
theorem len_toList (a : Str) : a.length = a.cps.toList.length := by simp [Str.length]
/-! the menu -/
def menu : List Str := ["more", "less", "sum", "few", "many", "gain", "columns", "range", "order", "merge", "a", "b", "c", "x", "y"]
def letters : Str := "abcdefghijklmnopqrstuvwxyz"
theorem letters_list : letters.cps.toList = (List.range 26).map (fun i => 97 + i) := by decide +kernel
theorem letters_len : letters.length = 26 := by decide +kernel
theorem letters_at {i : Int} (h0 : 0 ≤ i) (h1 : i < 26) : atI letters.cps.toList i = some (97 + i.toNat) := by
  rw [letters_list]
  unfold atI ixN
  have e : ((List.range 26).map (fun i => 97 + i)).length = 26 := by simp
  rw [e, if_pos h0, if_pos (by omega)]
  simp only [Option.bind_some]
  rw [List.getElem?_map, List.getElem?_range (by omega)]
  rfl
theorem menu_at {i : Int} (h0 : 0 ≤ i) (h1 : i < 15) : atI (menu.map D.str) i = some (.str (menu.getD i.toNat "")) := by
  unfold atI ixN
  have e : (menu.map D.str).length = 15 := by simp [menu]
  rw [e, if_pos h0, if_pos (by omega)]
  simp only [Option.bind_some]
  have hl : i.toNat < menu.length := by simp [menu]; omega
  rw [List.getElem?_map, List.getElem?_eq_getElem hl]
  simp [List.getD, hl]
theorem menu_names : ∀ x ∈ menu, nameS x = true := by decide +kernel
def wordsOk (xs : List Str) : Prop := (∀ x ∈ xs, nameS x = true) ∧ xs.Nodup
theorem nodup_range {g : Nat → Str} {n : Nat} (hn : n ≤ 12) (h : ∀ i j, i < 12 → j < 12 → g i = g j → i = j) : ((List.range n).map g).Nodup := by
  unfold List.Nodup
  rw [List.pairwise_map]
  refine List.Pairwise.imp_of_mem ?_ (List.pairwise_lt_range (n := n))
  intro a b ha hb hab e
  have h1 := List.mem_range.mp ha
  have h2 := List.mem_range.mp hb
  exact absurd (h a b (by omega) (by omega) e) (by omega)
theorem words0 {b : Int} {n : Nat} (h0 : 0 ≤ b) (h1 : b < 15) (hn : n ≤ 12) : wordsOk ((List.range n).map fun i : Nat => menu.getD ((b + 4 * (i : Int)) % 15).toNat "") := by
  have key : ∀ (b : Fin 15) (i j : Fin 12), menu.getD ((b.val + 4 * i.val) % 15) "" = menu.getD ((b.val + 4 * j.val) % 15) "" → i = j := by decide +kernel
  have e : ∀ i : Nat, ((b + 4 * (i : Int)) % 15).toNat = (b.toNat + 4 * i) % 15 := fun i => by omega
  refine ⟨fun x hx => ?_, nodup_range hn fun i j hi hj hij => ?_⟩
  · obtain ⟨i, hi, rfl⟩ := List.mem_map.mp hx
    have hl : ((b + 4 * (i : Int)) % 15).toNat < menu.length := by simp [menu]; omega
    have : menu.getD ((b + 4 * (i : Int)) % 15).toNat "" ∈ menu := by
      simp only [List.getD, List.getElem?_eq_getElem hl, Option.getD_some]
      exact List.getElem_mem hl
    exact menu_names _ this
  · rw [e, e] at hij
    have := key ⟨b.toNat, by omega⟩ ⟨i, hi⟩ ⟨j, hj⟩ hij
    exact congrArg Fin.val this
/-! one letter, often -/
def rep (b : Int) (i : Nat) : Str := ⟨(List.replicate (1 + i % 8) (97 + ((b + 7 * (i : Int)) % 26).toNat)).toArray⟩
theorem words1 {b : Int} {n : Nat} (h0 : 0 ≤ b) (h1 : b < 15) (hn : n ≤ 12) : wordsOk ((List.range n).map (rep b)) := by
  have key : ∀ (b : Fin 15) (i j : Fin 12), (b.val + 7 * i.val) % 26 = (b.val + 7 * j.val) % 26 → i = j := by decide +kernel
  have e : ∀ i : Nat, ((b + 7 * (i : Int)) % 26).toNat = (b.toNat + 7 * i) % 26 := fun i => by omega
  refine ⟨fun x hx => ?_, nodup_range hn fun i j hi hj hij => ?_⟩
  · obtain ⟨i, hi, rfl⟩ := List.mem_map.mp hx
    refine nameS_of (fun c hc => ?_) ?_ ?_
    · have hc' : c ∈ List.replicate (1 + i % 8) (97 + ((b + 7 * (i : Int)) % 26).toNat) := hc
      rw [List.eq_of_mem_replicate hc']
      omega
    · rw [len_toList]; show 1 ≤ (List.replicate _ _).length; rw [List.length_replicate]; omega
    · rw [len_toList]; show (List.replicate _ _).length ≤ 8; rw [List.length_replicate]; omega
  · have q : (rep b i).cps.toList = (rep b j).cps.toList := by rw [hij]
    have q' : List.replicate (1 + i % 8) (97 + ((b + 7 * (i : Int)) % 26).toNat) = List.replicate (1 + j % 8) (97 + ((b + 7 * (j : Int)) % 26).toNat) := q
    rw [show 1 + i % 8 = i % 8 + 1 by omega, show 1 + j % 8 = j % 8 + 1 by omega, List.replicate_succ, List.replicate_succ] at q'
    have q2 := (List.cons.inj q').1
    rw [e, e] at q2
    have := key ⟨b.toNat, by omega⟩ ⟨i, hi⟩ ⟨j, hj⟩ (show (b.toNat + 7 * i) % 26 = (b.toNat + 7 * j) % 26 by omega)
    exact congrArg Fin.val this
/-! a letter within a stem -/
def stemW (s : List Nat) (at_ : Nat) (b : Int) (i : Nat) : Str := ⟨(s.take at_ ++ (97 + ((b + 5 * (i : Int)) % 26).toNat) :: s.drop at_).toArray⟩
theorem words2 {b : Int} {n : Nat} {s : List Nat} {at_ : Nat} (hs : low s) (hl : s.length ≤ 7) (ha : at_ ≤ s.length) (h0 : 0 ≤ b) (h1 : b < 15) (hn : n ≤ 12) : wordsOk ((List.range n).map (stemW s at_ b)) := by
  have key : ∀ (b : Fin 15) (i j : Fin 12), (b.val + 5 * i.val) % 26 = (b.val + 5 * j.val) % 26 → i = j := by decide +kernel
  have e : ∀ i : Nat, ((b + 5 * (i : Int)) % 26).toNat = (b.toNat + 5 * i) % 26 := fun i => by omega
  refine ⟨fun x hx => ?_, nodup_range hn fun i j hi hj hij => ?_⟩
  · obtain ⟨i, hi, rfl⟩ := List.mem_map.mp hx
    have ll : (s.take at_ ++ (97 + ((b + 5 * (i : Int)) % 26).toNat) :: s.drop at_).length = s.length + 1 := by
      rw [List.length_append, List.length_cons, List.length_take, List.length_drop]
      omega
    refine nameS_of (fun c hc => ?_) ?_ ?_
    · have hc' : c ∈ s.take at_ ++ (97 + ((b + 5 * (i : Int)) % 26).toNat) :: s.drop at_ := hc
      rcases List.mem_append.mp hc' with h | h
      · exact hs c (List.mem_of_mem_take h)
      · rcases List.mem_cons.mp h with h | h
        · omega
        · exact hs c (List.mem_of_mem_drop h)
    · rw [len_toList]; show 1 ≤ (s.take at_ ++ _ :: s.drop at_).length; rw [ll]; omega
    · rw [len_toList]; show (s.take at_ ++ _ :: s.drop at_).length ≤ 8; rw [ll]; omega
  · have q : (stemW s at_ b i).cps.toList = (stemW s at_ b j).cps.toList := by rw [hij]
    have q' : s.take at_ ++ (97 + ((b + 5 * (i : Int)) % 26).toNat) :: s.drop at_ = s.take at_ ++ (97 + ((b + 5 * (j : Int)) % 26).toNat) :: s.drop at_ := q
    have q2 := (List.cons.inj (List.append_cancel_left q')).1
    rw [e, e] at q2
    have := key ⟨b.toNat, by omega⟩ ⟨i, hi⟩ ⟨j, hj⟩ (show (b.toNat + 5 * i) % 26 = (b.toNat + 5 * j) % 26 by omega)
    exact congrArg Fin.val this
theorem joinL_nil : ∀ l : List (List Nat), TL.joinL [] l = l.flatten
  | [] => rfl
  | [p] => by simp [TL.joinL]
  | p :: q :: r => by
    show p ++ ([] ++ TL.joinL [] (q :: r)) = _
    rw [joinL_nil (q :: r)]
    simp
theorem cut_to {z : Str} {k : Nat} (h : k ≤ z.length) : (cutS z none (some (k : Int))).cps.toList = z.cps.toList.take k := by
  have e : HT.sIx z.length z.length (some (k : Int)) = k := by
    show (if (k : Int) < 0 then ((k : Int) + (z.length : Int)).toNat else min (k : Int).toNat z.length) = k
    rw [if_neg (by omega)]
    omega
  show ((z.cps.toList.drop (HT.sIx z.length 0 none)).take (HT.sIx z.length z.length (some (k : Int)) - HT.sIx z.length 0 none)).toArray.toList = _
  rw [e]
  show ((z.cps.toList.drop 0).take (k - 0)).toArray.toList = _
  simp
theorem cut_from {z : Str} {k : Nat} (h : k ≤ z.length) : (cutS z (some (k : Int)) none).cps.toList = z.cps.toList.drop k := by
  have e : HT.sIx z.length 0 (some (k : Int)) = k := by
    show (if (k : Int) < 0 then ((k : Int) + (z.length : Int)).toNat else min (k : Int).toNat z.length) = k
    rw [if_neg (by omega)]
    omega
  show ((z.cps.toList.drop (HT.sIx z.length 0 (some (k : Int)))).take (HT.sIx z.length z.length none - HT.sIx z.length 0 (some (k : Int)))).toArray.toList = _
  rw [e]
  show ((z.cps.toList.drop k).take (z.length - k)).toArray.toList = _
  rw [List.take_of_length_le (by simp [Str.length])]
theorem join_flat (ys : List Str) : (Txt.join ("" : Str) ys).cps.toList = (ys.map (fun y => y.cps.toList)).flatten := by
  rw [TL.join_eq]
  have h := TL.tl_join ("" : Str) ys
  have e : TL.tl ("" : Str) = [] := by decide +kernel
  rw [e, joinL_nil] at h
  exact h
/-- the pool's three ints at p -/
def Pl (w : Wl) (p : Addr) (w' : Wl) : Prop := ∃ a b c : Int, w' = put w p (.lst [.int a, .int b, .int c]) ∧ 0 ≤ a ∧ a < 1000000007 ∧ 0 ≤ b
theorem Pl.at {w w' : Wl} {p : Addr} (h : Pl w p w') : ∃ a b c : Int, w' p = some (.lst [.int a, .int b, .int c]) ∧ 0 ≤ a ∧ a < 1000000007 ∧ 0 ≤ b := by
  obtain ⟨a, b, c, rfl, h⟩ := h
  exact ⟨a, b, c, put_same, h⟩
theorem Pl.of {w : Wl} {p : Addr} {a b c : Int} (h : w p = some (.lst [.int a, .int b, .int c])) (h1 : 0 ≤ a) (h2 : a < 1000000007) (h3 : 0 ≤ b) : Pl w p w := ⟨a, b, c, (put_self h).symm, h1, h2, h3⟩
theorem Pl.trans {w w1 w2 : Wl} {p : Addr} (h : Pl w p w1) (g : Pl w1 p w2) : Pl w p w2 := by
  obtain ⟨a, b, c, rfl, _⟩ := h
  obtain ⟨a', b', c', rfl, g⟩ := g
  exact ⟨a', b', c', put_put, g⟩
theorem Pl.self {w w1 : Wl} {p : Addr} (h : Pl w p w1) : Pl w1 p w1 := by
  obtain ⟨a, b, c, e, h1, h2, h3⟩ := h.at
  exact Pl.of e h1 h2 h3
theorem Pl.ne {w w1 : Wl} {p q : Addr} (h : Pl w p w1) (n : q ≠ p) : w1 q = w q := by
  obtain ⟨a, b, c, rfl, _⟩ := h
  exact put_ne n
theorem rng_map {α : Type} {f : D → α} {n : Nat} : (rngD 0 n).map f = (List.range n).map fun i => f (.int (i : Nat)) := by
  unfold rngD
  rw [List.map_map]
  refine List.map_congr_left fun i _ => ?_
  show f (.int (0 + (i : Int))) = _
  rw [Int.zero_add]
theorem put_comm {w : Wl} {a b : Addr} {c d : DL.Cl} (h : a ≠ b) : put (put w a c) b d = put (put w b d) a c := by
  funext x
  unfold put
  by_cases h1 : x = b
  · subst h1
    rw [if_pos rfl, if_neg (Ne.symm h), if_pos rfl]
  · rw [if_neg h1]
    by_cases h2 : x = a
    · rw [if_pos h2, if_pos h2]
    · rw [if_neg h2, if_neg h2, if_neg h1]
section
variable {K : PySem.W.Frag} {W : XK} {δ : Dlt} {w : Wl} {P : PD} {Z : ZD} {te : TE} {g : TG}
/-- a comprehension whose element draws from the pool at p -/
theorem lc_pool {wi : TI} {vs : List Nat} {p : Addr} {R : Nat → D → D → Prop} (hg : GLoc g vs ∧ GMon g) (h : EvI K W wi δ w (fun ds w1 => ds.length ≤ sizeLine ∧ Pl w1 p w1 ∧
    (∀ (w2 : Wl) (i : Nat) (d : D), Pl w2 p w2 → ds[i]? = some d → Gd K W g d (wipeD δ vs) w2 (fun δ2 w3 => Ev K W te δ2 w3 (fun y w4 => Pl w2 p w4 ∧ R i d y) Z) Z) ∧
    (∀ acc w4, Pl w1 p w4 → acc.length = ds.length → (∀ (i : Nat) (d y : D), ds[i]? = some d → acc[i]? = some y → R i d y) → P (.lst acc) w4)) Z) : Ev K W (tLc wi g tYes te vs) δ w P Z := by
  refine ev_lc hg fun σ H s Rr q z => h σ H s Rr (fun J H' ds w1 e c it ⟨hz, hp, h1, h2⟩ => q J H' ds w1 e c it fun l hl => ?_) z
  have npl : p ≠ l := by
    rintro rfl
    obtain ⟨a, b, c', e, _⟩ := hp.at
    rw [hl] at e; cases e
  refine ⟨fun i acc w' => acc.length = i ∧ (∀ (j : Nat) (d y : D), ds[j]? = some d → acc[j]? = some y → R j d y) ∧ ∃ wq, Pl w1 p wq ∧ w' = put wq l (.lst acc), ⟨rfl, fun j d y _ hy => by simp at hy, w1, hp, rfl⟩, ?_, ?_⟩
  · rintro i d acc w' hd hw ⟨ha, hR, wq, hq, rfl⟩
    have hp' : Pl (put wq l (.lst acc)) p (put wq l (.lst acc)) := by
      obtain ⟨a, b, c', e, b1, b2, b3⟩ := hq.at
      exact Pl.of (by rw [put_ne npl]; exact e) b1 b2 b3
    refine fun v σ H r s Q q z => h1 _ i d hp' hd v σ H r s Q (fun σ' H' δ' w' e s' k => q σ' H' δ' w' e s' (et_yes ?_)) z
    show Ev K W te δ' w' _ Z
    refine k.imp fun y w4 ⟨hw4, hy⟩ => ?_
    have hi : i < ds.length := (List.getElem?_eq_some_iff.mp hd).1
    obtain ⟨a, b, c', rfl, b1, b2, b3⟩ := hw4
    refine ⟨by rw [put_ne (Ne.symm npl)]; exact put_same, by rw [ha]; omega, by rw [List.length_append, ha]; rfl, fun j d2 y2 hd2 hy2 => ?_, put wq p (.lst [.int a, .int b, .int c']), ?_, ?_⟩
    · by_cases hj : j < acc.length
      · rw [List.getElem?_append_left hj] at hy2
        exact hR j d2 y2 hd2 hy2
      · rw [List.getElem?_append_right (by omega)] at hy2
        have : j = i := by
          have := (List.getElem?_eq_some_iff.mp hy2).1
          simp at this
          omega
        subst this
        rw [ha, Nat.sub_self] at hy2
        cases hy2
        rw [hd] at hd2
        cases hd2
        exact hy
    · exact hq.trans ⟨a, b, c', rfl, b1, b2, b3⟩
    · rw [put_comm (Ne.symm npl), put_put]
  · rintro acc w' hw ⟨ha, hR, wq, hq, rfl⟩
    have hql : wq l = none := by rw [hq.ne (Ne.symm npl)]; exact hl
    rw [cut_put hql]
    exact h2 acc wq hq ha hR
end
theorem flat_rep (c : Nat) : ∀ n : Nat, (List.replicate n [c]).flatten = List.replicate n c
  | 0 => rfl
  | n + 1 => by rw [List.replicate_succ, List.flatten_cons, flat_rep c n, List.replicate_succ]; rfl
end LW
set_option Elab.async false
set_option linter.all false
set_option autoImplicit false
set_option maxRecDepth 100000
set_option maxHeartbeats 4000000
/-! DL10: comprehensions with an if; the store as it is. -/
namespace DL
open PySem PySem.Spec PyProof.Rows L2
section
variable {K : PySem.W.Frag} {W : XK} {δ : Dlt} {w : Wl} {P : PD} {Z : ZD} {te : TE} {tt : TT} {g : TG}
/-- an if, the store as it is, each item's test and element known -/
theorem lc_filt {f : D → D} {c : D → Bool} {wi : TI} {vs : List Nat} (hg : GLoc g vs ∧ GMon g) (h : EvI K W wi δ w (fun ds w1 => ds.length ≤ sizeLine ∧
    (∀ (l : Addr) (cc : Cl) (i : Nat) (d : D), w1 l = none → ds[i]? = some d → Gd K W g d (wipeD δ vs) (put w1 l cc) (fun δ2 w2 => EvT K W tt δ2 w2 (fun b w3 => if b = true then c d = true ∧ Ev K W te δ2 w3 (fun y w4 => w4 = put w1 l cc ∧ y = f d) Z else c d = false ∧ w3 = put w1 l cc) Z) Z) ∧ P (.lst ((ds.filter c).map f)) w1) Z) : Ev K W (tLc wi g tt te vs) δ w P Z := by
  refine ev_lc hg fun σ H s R q z => h σ H s R (fun J H' ds w1 e cc it ⟨hz, h1, h2⟩ => q J H' ds w1 e cc it fun l hl => ?_) z
  refine ⟨fun i acc w' => acc = ((ds.take i).filter c).map f ∧ w' = put w1 l (.lst acc), ⟨by simp, rfl⟩, ?_, ?_⟩
  · rintro i d acc w' hd hw ⟨ha, rfl⟩
    refine fun v σ H r s Q q z => h1 l _ i d hl hd v σ H r s Q (fun σ' H' δ' w' e s' k => q σ' H' δ' w' e s' ?_) z
    have hi : i < ds.length := (List.getElem?_eq_some_iff.mp hd).1
    have hal : acc.length ≤ i := by
      rw [ha, List.length_map]
      have := List.length_filter_le c (ds.take i)
      rw [List.length_take] at this
      omega
    have htk : ((ds.take (i + 1)).filter c) = (ds.take i).filter c ++ (if c d = true then [d] else []) := by
      rw [List.take_add_one, hd, List.filter_append]
      cases hc : c d <;> simp [hc]
    show EvT K W tt δ' w' _ Z
    refine EvT.imp k fun b w3 hk => ?_
    cases b with
    | true =>
      rw [if_pos rfl] at hk ⊢
      obtain ⟨hc, hk⟩ := hk
      refine hk.imp fun y w4 ⟨hw4, hy⟩ => ?_
      subst hw4; subst hy
      refine ⟨hw, by omega, ?_, put_put⟩
      rw [htk, hc, if_pos rfl, List.map_append, ha]
      rfl
    | false =>
      rw [if_neg (by decide)] at hk ⊢
      obtain ⟨hc, rfl⟩ := hk
      refine ⟨hw, ?_, rfl⟩
      rw [htk, hc, if_neg (by decide), List.append_nil]
      exact ha
  · rintro acc w' hw ⟨ha, rfl⟩
    rw [cut_put hl, ha, List.take_length]
    exact h2
end
end DL
set_option Elab.async false
set_option linter.all false
set_option autoImplicit false
set_option maxRecDepth 100000
set_option maxHeartbeats 4000000
/-! DL11: the script of a law. -/
namespace DL
open PySem PySem.Spec PyProof.Rows L2
/-- the script stands at a: known to the written part, or given -/
def Scr (K : PySem.W.Frag) (w : Wl) (a : Addr) (ns : List Int) : Prop := (∀ H : Hp, SqL K H a (ns.map V.int)) ∨ w a = some (.scr ns)
section
variable {K : PySem.W.Frag} {w : Wl} {P : PD} {a : Addr} {ns : List Int}
theorem Scr.sq {H : Hp} (h : Scr K w a ns) (c : Cells K w H) : SqL K H a (ns.map V.int) := by
  rcases h with h | h
  · exact h H
  · exact .inl (c a _ h)
theorem Scr.next {w' : Wl} (h : Scr K w a ns) (k : w a ≠ none → w' a = w a) : Scr K w' a ns := by
  rcases h with h | h
  · exact .inl h
  · exact .inr (by rw [k (by rw [h]; simp)]; exact h)
theorem ol_lenK (h : Scr K w a ns) (k : P (.int ns.length) w) : OpL K (rLen K) [.ptr a] w P := by
  intro vs H h1 c Q q
  cases h1 with
  | cons r t =>
    cases t; cases r
    exact len_hr _ H Q (.inl ⟨_, h.sq c, by rw [List.length_map]⟩) (q _ H _ w (Ex.refl _) c (.int _) k)
theorem atI_mapV {i : Int} {n : Int} (h : atI ns i = some n) : atI (ns.map V.int) i = some (.int n) := by
  unfold atI at h ⊢
  rw [List.length_map]
  cases e : ixN ns.length i with
  | none => rw [e] at h; cases h
  | some j =>
    rw [e] at h
    simp only [Option.bind_some] at h ⊢
    rw [List.getElem?_map, h]
    rfl
theorem o2_ixK {i n : Int} (h : Scr K w a ns) (e : atI ns i = some n) (k : P (.int n) w) : Op2 K (rIxL K) (.ptr a) (.int i) w P := by
  intro v u H h1 h2 c Q q
  cases h1; cases h2
  exact ⟨_, _, i, _, rfl, rfl, h.sq c, atI_mapV e, q _ H _ w (Ex.refl _) c (.int _) k⟩
def cutI (xs : List Int) (lo hi : Option Int) : List Int := (xs.drop (HT.sIx xs.length 0 lo)).take (HT.sIx xs.length xs.length hi - HT.sIx xs.length 0 lo)
theorem cut_ints {lo hi : Option Int} : cutD (ns.map D.int) lo hi = (cutI ns lo hi).map D.int ∧ cutV (ns.map V.int) lo hi = (cutI ns lo hi).map V.int := by
  constructor
  · simp [cutD, cutI, List.map_take, List.map_drop]
  · simp [cutV, cutI, List.map_take, List.map_drop]
theorem os_K {lo hi : Option Int} (h : Scr K w a ns) (k : P (.lst ((cutI ns lo hi).map D.int)) w) : OpS K (rSlL K) (.ptr a) lo hi w P := by
  intro v H h1 c Q q
  cases h1
  refine ⟨a, _, rfl, h.sq c, fun p hp => ?_⟩
  rw [cut_ints.2]
  exact kq_lst q c (rpa_ofints _) k hp
end
end DL
set_option Elab.async false
set_option linter.all false
set_option autoImplicit false
set_option maxRecDepth 100000
set_option maxHeartbeats 4000000
/-! BG: what counts are, what the program's and the law's defs promise on data. -/
namespace LW
open PySem PySem.Spec PyProof.Rows L2 DL
def isIntD : D → Bool | .int _ => true | _ => false
def okKn : List D → Prop | [d] => kn d | _ => False
def fIsInt : List D → D | [d] => .bl (isIntD d) | _ => .non
def nameD : D → Bool | .str x => nameS x | _ => false
def okFine : List D → Prop | [d] => fine d = true | _ => False
def fIsName : List D → D | [d] => .bl (nameD d) | _ => .non
def posD : D → Bool | .int c => decide (c ≥ 1) | _ => false
def pairD : D → Bool | .tup [n, c] => nameD n && posD c | _ => false
def okIF : List D → Prop | [d, .int _] => kn d | _ => False
def fIF : List D → D | [.int i, .int m] => .bl (decide (i ≥ m)) | [_, .int _] => .bl false | _ => .non
def okNm : List D → Prop | [.str n] => nameS n = true | _ => False
def fIsPair : List D → D | [d] => .bl (pairD d) | _ => .non
theorem pairD_len {ds : List D} (h : ds.length ≠ 2) : pairD (.tup ds) = false := by
  match ds, h with
  | [], _ => rfl
  | [_], _ => rfl
  | [_, _], h => exact absurd rfl h
  | _ :: _ :: _ :: _, _ => rfl
def nmD : D → Str | .tup (.str n :: _) => n | _ => ""
/-- the first element that is no counts' one -/
def goodGo (most : Int) : Str → Nat → List D → Option Nat
  | _, _, [] => none
  | b, i, d :: ds => if (i : Int) = most ∨ pairD d = false ∨ ¬ b.cps.toList < (nmD d).cps.toList then some i else goodGo most (nmD d) (i + 1) ds
def goodN (ds : List D) (most : Int) : Nat := (goodGo most "" 0 ds).getD ds.length
def okGood : List D → Prop | [.tup ds, .int _] => fineA ds = true | _ => False
def fGood : List D → D | [.tup ds, .int m] => .int (goodN ds m) | _ => .non
theorem pairD_shape {d : D} (h : pairD d = true) : ∃ n c, d = .tup [.str n, .int c] ∧ nameS n = true ∧ c ≥ 1 := by
  unfold pairD at h
  split at h
  · rename_i n c
    obtain ⟨h1, h2⟩ := Bool.and_eq_true_iff.mp h
    cases n with
    | str x => cases c with
      | int i => exact ⟨x, i, rfl, h1, of_decide_eq_true h2⟩
      | _ => cases h2
    | _ => cases h1
  · cases h
def okBag : List D → Prop | [.tup ds] => fineA ds = true ∧ goodN ds 12 = ds.length | _ => False
def fNon : List D → D | _ => .non
def okSeqFine : List D → Prop | [d] => fine d = true | _ => False
def isCountsD : D → Bool | .tup ds => decide (goodN ds 12 = ds.length) | _ => false
def fIsCounts : List D → D | [d] => .bl (isCountsD d) | _ => .non
def cntD : D → Int | .tup [_, .int c] => c | _ => 0
def sumC (ds : List D) : Int := (ds.map cntD).sum
def fTotal : List D → D | [.tup ds] => .int (sumC ds) | _ => .non
/-- all pairs: what counts consist of -/
theorem good_pairs_all {ds : List D} {m : Int} : ∀ {b : Str} {i : Nat}, goodGo m b i ds = none → ∀ d ∈ ds, pairD d = true := by
  induction ds with
  | nil => intro b i _ d hd; cases hd
  | cons x xs ih =>
    intro b i h d hd
    unfold goodGo at h
    split at h
    · cases h
    · rename_i hc
      rcases List.mem_cons.mp hd with rfl | hd
      · cases e : pairD d with
        | true => rfl
        | false => exact absurd (.inr (.inl e)) hc
      · exact ih h d hd
theorem goodGo_le {m : Int} : ∀ {ds : List D} {b : Str} {i j : Nat}, goodGo m b i ds = some j → i ≤ j ∧ j < i + ds.length := by
  intro ds
  induction ds with
  | nil => intro b i j h; cases h
  | cons x xs ih =>
    intro b i j h
    unfold goodGo at h
    split at h
    · cases h; simp
    · have := ih h
      simp only [List.length_cons]
      omega
theorem good_none {ds : List D} {m : Int} (h : goodN ds m = ds.length) : goodGo m "" 0 ds = none := by
  unfold goodN at h
  cases e : goodGo m "" 0 ds with
  | none => rfl
  | some j =>
    rw [e] at h
    have := goodGo_le e
    have h' : j = ds.length := h
    omega
theorem bag_pair {ds : List D} (h : goodN ds 12 = ds.length) {d : D} (hd : d ∈ ds) : ∃ n c, d = .tup [.str n, .int c] ∧ nameS n = true ∧ c ≥ 1 := pairD_shape (good_pairs_all (good_none h) d hd)
theorem goodGo_room {m : Int} : ∀ {ds : List D} {b : Str} {i : Nat}, goodGo m b i ds = none → (i : Int) ≤ m → (i : Int) + ds.length ≤ m := by
  intro ds
  induction ds with
  | nil => intro b i _ h; simpa using h
  | cons x xs ih =>
    intro b i h hi
    unfold goodGo at h
    split at h
    · cases h
    · rename_i hc
      have h1 : (i : Int) ≠ m := fun z => hc (.inl z)
      have := ih h (by omega)
      simp only [List.length_cons]
      omega
theorem bag_len {ds : List D} (h : goodN ds 12 = ds.length) : ds.length ≤ 12 := by
  have := goodGo_room (good_none h) (by decide)
  omega
def cofD (n : Str) : List D → Int
  | [] => 0
  | .tup [.str m, .int c] :: r => if m = n then c else cofD n r
  | _ :: r => cofD n r
def okCof : List D → Prop | [.tup ds, .str n] => (fineA ds = true ∧ goodN ds 12 = ds.length) ∧ nameS n = true | _ => False
def fCof : List D → D | [.tup ds, .str n] => .int (cofD n ds) | _ => .non
theorem nameS_fine {n : Str} (h : nameS n = true) : fine (.str n) = true := by
  have q : n.length ≤ 8 := of_decide_eq_true (Bool.and_eq_true_iff.mp h).1
  simp only [fine, decide_eq_true_eq]
  omega
def preInt (ds : List D) (_ : Wl) : Prop := ∃ i : Int, ds = [.int i]
/-- a new pool -/
def postPool (_ : List D) (w : Wl) (d : D) (w' : Wl) : Prop := ∃ p, w p = none ∧ d = .ptr p ∧ Pl w p w'
/-- a draw below n -/
def preDraw (ds : List D) (w : Wl) : Prop := ∃ (p : Addr) (n : Int), ds = [.ptr p, .int n] ∧ 0 < n ∧ n.natAbs.log2 < 9000 ∧ Pl w p w
def postDraw (ds : List D) (w : Wl) (d : D) (w' : Wl) : Prop := ∀ p n, ds = [.ptr p, .int n] → Pl w p w' ∧ ∃ k : Int, d = .int k ∧ 0 ≤ k ∧ k < n
section
variable {K : PySem.W.Frag}
/-- a draw, from outside -/
theorem ev_draw {W : XK} {δ : Dlt} {w : Wl} {Pd : PD} {Z : ZD} {E' : XK} {t : TA} (h : EvA K W t δ w (fun ds w1 => ∃ (p : Addr) (n : Int), ds = [.ptr p, .int n] ∧ 0 < n ∧ n.natAbs.log2 < 9000 ∧ Pl w1 p w1 ∧ ∀ (w2 : Wl) (k : Int), Pl w1 p w2 → 0 ≤ k → k < n → Pd (.int k) w2) Z) : Ev K W (tCall (SpD K preDraw postDraw zN) [] E' t) δ w Pd Z :=
  ev_call fun σ H s Q q z => h σ H s Q (fun v H' d w' e c r p => q v H' d w' e c r (by
    obtain ⟨p, n, rfl, h1, h2, h3, h4⟩ := p
    exact ⟨⟨p, n, rfl, h1, h2, h3⟩, fun d w2 pd => by
      obtain ⟨g1, k, rfl, g2, g3⟩ := pd p n rfl
      exact h4 w2 k g1 g2 g3⟩)) z
end
theorem app_list (a b : Str) : (a ++ b).cps.toList = a.cps.toList ++ b.cps.toList := Array.toList_append
theorem app_len (a b : Str) : (a ++ b).length = a.length + b.length := by rw [len_toList, app_list, List.length_append, ← len_toList, ← len_toList]
theorem log2_small {n : Int} (h0 : 0 ≤ n) (h1 : n ≤ 100) : n.natAbs.log2 < 9000 := by
  have h : n.natAbs ≤ 100 := by omega
  rcases Nat.eq_zero_or_pos n.natAbs with e | e
  · rw [e]; decide
  · exact Nat.lt_of_lt_of_le ((Nat.log2_lt (by omega)).mpr (show n.natAbs < 2 ^ 7 by omega)) (by decide)
/-- a stem of letters -/
theorem stem_of {acc : List D} (h : ∀ y ∈ acc, ∃ c : Nat, (97 ≤ c ∧ c ≤ 122) ∧ y = .str ⟨#[c]⟩) : ∃ ys : List Str, acc = ys.map D.str ∧ (ys.map (·.length)).sum = acc.length ∧ low ((Txt.join ("" : Str) ys).cps.toList) ∧ (Txt.join ("" : Str) ys).length = acc.length ∧ ys.length = acc.length := by
  induction acc with
  | nil => exact ⟨[], rfl, rfl, fun c hc => (by rw [join_flat] at hc; cases hc), by rw [len_toList, join_flat]; rfl, rfl⟩
  | cons a t ih =>
    obtain ⟨ys, rfl, h1, h2, h3, h4⟩ := ih fun y hy => h y (List.mem_cons_of_mem _ hy)
    obtain ⟨c, hc, rfl⟩ := h a (List.mem_cons_self ..)
    rw [len_toList, join_flat] at h3
    rw [join_flat] at h2
    refine ⟨⟨#[c]⟩ :: ys, rfl, ?_, ?_, ?_, ?_⟩
    · rw [List.map_cons, List.sum_cons, h1, List.length_cons]
      show 1 + _ = _
      omega
    · rw [join_flat]
      intro x hx
      rcases List.mem_cons.mp (show x ∈ c :: (ys.map fun y => y.cps.toList).flatten from hx) with e | e
      · subst e; exact hc
      · exact h2 x e
    · rw [len_toList, join_flat]
      show (c :: (ys.map fun y => y.cps.toList).flatten).length = _
      rw [List.length_cons, h3, List.length_cons]
    · rw [List.length_cons, h4, List.length_cons]
def preWords (ds : List D) (w : Wl) : Prop := ∃ (p : Addr) (n : Int), ds = [.ptr p, .int n] ∧ 0 ≤ n ∧ n ≤ 12 ∧ Pl w p w
def postWords (ds : List D) (w : Wl) (d : D) (w' : Wl) : Prop := ∀ p n, ds = [.ptr p, .int n] → Pl w p w' ∧ ∃ xs : List Str, d = .lst (xs.map D.str) ∧ (xs.length : Int) = n ∧ wordsOk xs
def preP1 (ds : List D) (w : Wl) : Prop := ∃ p : Addr, ds = [.ptr p] ∧ Pl w p w
def postOften (ds : List D) (w : Wl) (d : D) (w' : Wl) : Prop := ∀ p, ds = [.ptr p] → Pl w p w' ∧ ∃ k : Int, d = .int k ∧ 1 ≤ k ∧ k ≤ 10 ^ 30

/-! ### bags: names ascending, counts between 1 and 10 ** 30 -/
theorem str_lt_trans {a b c : List Nat} (h : a < b) (g : b < c) : a < c := List.lt_trans h g
theorem str_lt_of {a b : List Nat} (h : ¬ b < a) (n : a ≠ b) : a < b := by
  rcases List.le_iff_lt_or_eq.mp (List.not_lt.mp h) with q | q
  · exact q
  · exact absurd q n
def asc (ys : List Str) : Prop := ys.Pairwise fun a b => a.cps.toList < b.cps.toList
theorem asc_of_rising : ∀ (p : Str) (ys : List Str), risingS p ys = true → (p :: ys).Nodup → asc (p :: ys)
  | p, [], _, _ => List.pairwise_singleton ..
  | p, x :: r, h, n => by
    have h' : (!ltCps x.cps.toList p.cps.toList) = true ∧ risingS x r = true := Bool.and_eq_true_iff.mp h
    have n1 : p ≠ x := fun e => (List.nodup_cons.mp n).1 (e ▸ List.mem_cons_self ..)
    have ih := asc_of_rising x r h'.2 (List.nodup_cons.mp n).2
    have q : p.cps.toList < x.cps.toList := by
      refine str_lt_of ?_ fun e => n1 (str_ext e)
      have := h'.1
      rw [ltCps_eq] at this
      simpa using this
    refine List.pairwise_cons.mpr ⟨fun y hy => ?_, ih⟩
    rcases List.mem_cons.mp hy with rfl | hy
    · exact q
    · exact str_lt_trans q (List.rel_of_pairwise_cons ih hy)
theorem asc_of_sorted {ys : List Str} (h : sortedS ys = true) (n : ys.Nodup) : asc ys := by
  cases ys with
  | nil => exact List.Pairwise.nil
  | cons x r => exact asc_of_rising x r h n
def bagE (pr : Str × Int) : D := .tup [.str pr.1, .int pr.2]
theorem nameS_ne {n : Str} (h : nameS n = true) : ([] : List Nat) < n.cps.toList := by
  have h2 : Txt.isalpha n = true := (Bool.and_eq_true_iff.mp (Bool.and_eq_true_iff.mp (Bool.and_eq_true_iff.mp h).2).2).1
  unfold Txt.isalpha at h2
  have h3 : n.length > 0 := of_decide_eq_true (Bool.and_eq_true_iff.mp h2).1
  rw [len_toList] at h3
  cases e : n.cps.toList with
  | nil => rw [e] at h3; exact absurd h3 (by decide)
  | cons a r => exact List.nil_lt_cons ..
theorem pairD_bagE {pr : Str × Int} (h : nameS pr.1 = true) (h1 : 1 ≤ pr.2) : pairD (bagE pr) = true := by
  show (nameS pr.1 && decide (pr.2 ≥ 1)) = true
  rw [h, decide_eq_true h1]
  rfl
theorem goodGo_bag {m : Int} : ∀ (prs : List (Str × Int)) (b : Str) (i : Nat), (∀ pr ∈ prs, nameS pr.1 = true ∧ 1 ≤ pr.2) → asc (prs.map (·.1)) → (∀ pr ∈ prs, b.cps.toList < pr.1.cps.toList) → (i : Int) + prs.length ≤ m → goodGo m b i (prs.map bagE) = none
  | [], _, _, _, _, _, _ => rfl
  | pr :: r, b, i, h, ha, hb, hm => by
    have h1 := h pr (List.mem_cons_self ..)
    have ha' := List.pairwise_cons.mp ha
    rw [List.length_cons] at hm
    show (if (i : Int) = m ∨ pairD (bagE pr) = false ∨ ¬ b.cps.toList < (nmD (bagE pr)).cps.toList then some i else goodGo m (nmD (bagE pr)) (i + 1) (r.map bagE)) = none
    rw [if_neg]
    · refine goodGo_bag r _ _ (fun q hq => h q (List.mem_cons_of_mem _ hq)) ha'.2 (fun q hq => ?_) (by omega)
      exact ha'.1 q.1 (List.mem_map.mpr ⟨q, hq, rfl⟩)
    · rintro (e | e | e)
      · omega
      · rw [pairD_bagE h1.1 h1.2] at e; cases e
      · exact e (hb pr (List.mem_cons_self ..))
/-- counts as the laws build them -/
def Bg (ds : List D) : Prop := ∃ prs : List (Str × Int), ds = prs.map bagE ∧ asc (prs.map (·.1)) ∧ (∀ pr ∈ prs, nameS pr.1 = true ∧ 1 ≤ pr.2 ∧ pr.2 ≤ 10 ^ 30) ∧ prs.length ≤ 12
theorem Bg.good {ds : List D} (h : Bg ds) : goodN ds 12 = ds.length := by
  obtain ⟨prs, rfl, ha, hp, hl⟩ := h
  unfold goodN
  rw [goodGo_bag prs "" 0 (fun q hq => ⟨(hp q hq).1, (hp q hq).2.1⟩) ha (fun q hq => nameS_ne (hp q hq).1) (by omega)]
  rfl
theorem fineA_of {ds : List D} (h : ∀ d ∈ ds, fine d = true) : fineA ds = true := by
  induction ds with
  | nil => simp [fineA]
  | cons d r ih => simp only [fineA, Bool.and_eq_true]; exact ⟨h d (List.mem_cons_self ..), ih fun q hq => h q (List.mem_cons_of_mem _ hq)⟩
theorem Bg.fine {ds : List D} (h : Bg ds) : fineA ds = true := by
  obtain ⟨prs, rfl, ha, hp, hl⟩ := h
  refine fineA_of fun d hd => ?_
  obtain ⟨pr, hpr, rfl⟩ := List.mem_map.mp hd
  have q := nameS_fine (hp pr hpr).1
  unfold bagE
  simp only [DL.fine, fineA, Bool.and_true]
  simpa [DL.fine] using q
theorem Bg.bag {ds : List D} (h : Bg ds) : okBag [.tup ds] := ⟨h.fine, h.good⟩
theorem nameS_low {n : Str} (h : nameS n = true) : n.cps.all (fun c => decide (c < 1000)) = true := by
  have h2 : Txt.isascii n = true := (Bool.and_eq_true_iff.mp (Bool.and_eq_true_iff.mp h).2).1
  unfold Txt.isascii at h2
  rw [Array.all_eq_true'] at h2 ⊢
  intro c hc
  have := of_decide_eq_true (h2 c hc)
  exact decide_eq_true (by omega)
theorem smallA_of {ds : List D} (h : ∀ d ∈ ds, small d = true) : smallA ds = true := by
  induction ds with
  | nil => simp [smallA]
  | cons d r ih => simp only [smallA, Bool.and_eq_true]; exact ⟨h d (List.mem_cons_self ..), ih fun q hq => h q (List.mem_cons_of_mem _ hq)⟩
theorem costA_of {n : Nat} {ds : List D} (h : ∀ d ∈ ds, costD d ≤ n) : costA ds ≤ ds.length * (n + 2) := by
  induction ds with
  | nil => simp [costA]
  | cons d r ih =>
    have h1 := h d (List.mem_cons_self ..)
    have h2 := ih fun q hq => h q (List.mem_cons_of_mem _ hq)
    simp only [costA, List.length_cons]
    rw [Nat.add_mul]
    omega
theorem deepA_of {n : Nat} {ds : List D} (h : ∀ d ∈ ds, deepD d ≤ n) : deepA ds ≤ n := by
  induction ds with
  | nil => simp [deepA]
  | cons d r ih => simp only [deepA]; exact Nat.max_le.mpr ⟨h d (List.mem_cons_self ..), ih fun q hq => h q (List.mem_cons_of_mem _ hq)⟩
theorem log2_30 {n : Int} (h0 : 0 ≤ n) (h1 : n ≤ 10 ^ 30) : n.natAbs.log2 < 1900 := by
  have h : n.natAbs ≤ 10 ^ 30 := by
    have e : ((10 ^ 30 : Nat) : Int) = (10 : Int) ^ 30 := by decide +kernel
    omega
  rcases Nat.eq_zero_or_pos n.natAbs with e | e
  · rw [e]; decide
  · refine Nat.lt_of_lt_of_le ((Nat.log2_lt (by omega)).mpr (show n.natAbs < 2 ^ 100 from Nat.lt_of_le_of_lt h (by decide +kernel))) (by decide)
theorem Bg.wr {ds : List D} (h : Bg ds) : DL.wr (.tup ds) := by
  obtain ⟨prs, rfl, ha, hp, hl⟩ := h
  have key : ∀ d ∈ prs.map bagE, small d = true ∧ costD d ≤ 2020 ∧ deepD d ≤ 1 := fun d hd => by
    obtain ⟨pr, hpr, rfl⟩ := List.mem_map.mp hd
    obtain ⟨h1, h2, h3⟩ := hp pr hpr
    refine ⟨?_, ?_, ?_⟩
    · unfold bagE
      simp only [small, smallA, Bool.and_true, Bool.and_eq_true]
      exact ⟨nameS_low h1, decide_eq_true (log2_30 (by omega) h3)⟩
    · unfold bagE
      have q : pr.1.length ≤ 8 := of_decide_eq_true (Bool.and_eq_true_iff.mp h1).1
      simp only [costD, costA]
      omega
    · unfold bagE
      simp [deepD, deepA]
  refine ⟨?_, ?_, ?_⟩
  · simp only [small]; exact smallA_of fun d hd => (key d hd).1
  · simp only [deepD]
    have := deepA_of fun d hd => (key d hd).2.2
    omega
  · simp only [costD]
    have := costA_of fun d hd => (key d hd).2.1
    rw [List.length_map] at this
    rw [sizeLine_eq]
    have : prs.length * 2022 ≤ 12 * 2022 := Nat.mul_le_mul_right _ hl
    omega
/-- the pool at p, all else that was owned as before -/
def Pm (w : Wl) (p : Addr) (w' : Wl) : Prop := Pl w' p w' ∧ ∀ q, q ≠ p → w q ≠ none → w' q = w q
theorem Pm.of {w w' : Wl} {p : Addr} (h : Pl w p w') : Pm w p w' := ⟨h.self, fun q n _ => h.ne n⟩
theorem Pm.trans {w w1 w2 : Wl} {p : Addr} (h : Pm w p w1) (g : Pm w1 p w2) : Pm w p w2 :=
  ⟨g.1, fun q n e => by
    have e1 := h.2 q n e
    rw [g.2 q n (by rw [e1]; exact e), e1]⟩
theorem Pm.put {w w1 : Wl} {p q : Addr} {c : DL.Cl} (h : Pm w p w1) (n : q ≠ p) (f : w q = none) : Pm w p (put w1 q c) := by
  refine ⟨?_, fun r hr e => ?_⟩
  · obtain ⟨a, b, c', e, h1, h2, h3⟩ := h.1.at
    exact Pl.of (by rw [put_ne (Ne.symm n)]; exact e) h1 h2 h3
  · have : r ≠ q := fun z => e (z ▸ f)
    rw [put_ne this]
    exact h.2 r hr e
def preBag (ds : List D) (w : Wl) : Prop := ∃ (p : Addr) (xs : List Str) (m : Int), ds = [.ptr p, .lst (xs.map D.str), .int m] ∧ wordsOk xs ∧ xs.length ≤ 12 ∧ 0 ≤ m ∧ m ≤ 10 ^ 30 ∧ Pl w p w
def postBag (ds : List D) (w : Wl) (d : D) (w' : Wl) : Prop := ∀ p xs m, ds = [.ptr p, .lst xs, .int m] → Pm w p w' ∧ ∃ b, d = .tup b ∧ Bg b
section
variable {K : PySem.W.Frag}
/-- a number of arrivals, from outside -/
theorem ev_often {W : XK} {δ : Dlt} {w : Wl} {Pd : PD} {Z : ZD} {E' : XK} {t : TA} (h : EvA K W t δ w (fun ds w1 => ∃ p : Addr, ds = [.ptr p] ∧ Pl w1 p w1 ∧ ∀ (w2 : Wl) (k : Int), Pl w1 p w2 → 1 ≤ k → k ≤ 10 ^ 30 → Pd (.int k) w2) Z) : Ev K W (tCall (SpD K preP1 postOften zN) [] E' t) δ w Pd Z :=
  ev_call fun σ H s Q q z => h σ H s Q (fun v H' d w' e c r p => q v H' d w' e c r (by
    obtain ⟨p, rfl, h3, h4⟩ := p
    exact ⟨⟨p, rfl, h3⟩, fun d w2 pd => by
      obtain ⟨g1, k, rfl, g2, g3⟩ := pd p rfl
      exact h4 w2 k g1 g2 g3⟩)) z
/-- a bag, from outside -/
theorem ev_bag {W : XK} {δ : Dlt} {w : Wl} {Pd : PD} {Z : ZD} {E' : XK} {t : TA} (h : EvA K W t δ w (fun ds w1 => ∃ (p : Addr) (xs : List Str) (m : Int), ds = [.ptr p, .lst (xs.map D.str), .int m] ∧ wordsOk xs ∧ xs.length ≤ 12 ∧ 0 ≤ m ∧ m ≤ 10 ^ 30 ∧ Pl w1 p w1 ∧ ∀ (w2 : Wl) (b : List D), Pm w1 p w2 → Bg b → Pd (.tup b) w2) Z) : Ev K W (tCall (SpD K preBag postBag zN) [] E' t) δ w Pd Z :=
  ev_call fun σ H s Q q z => h σ H s Q (fun v H' d w' e c r p => q v H' d w' e c r (by
    obtain ⟨p, xs, m, rfl, h3, h4, h5, h6, h7, h8⟩ := p
    exact ⟨⟨p, xs, m, rfl, h3, h4, h5, h6, h7⟩, fun d w2 pd => by
      obtain ⟨g1, k, rfl, g2⟩ := pd p _ m rfl
      exact h8 w2 k g1 g2⟩)) z
end
theorem log2_le30 {n : Int} (h0 : 0 ≤ n) (h1 : n ≤ 10 ^ 30) : n.natAbs.log2 < 9000 := Nat.lt_trans (log2_30 h0 h1) (by decide)
def okWhole : List D → Prop | [.int _, .int _] => True | _ => False
def fWhole : List D → D | [.int a, .int b] => .bl (decide (a = b)) | _ => .non
/-- counts that are held against the program's own -/
def okBR : List D → Prop | [.tup ds, .lst xs] => (okBag [.tup ds] ∧ DL.wr (.tup ds) ∧ (ds.map nmD).Nodup) ∧ xs.length ≤ 100 ∧ ∀ x ∈ xs, nameD x = true | _ => False
def fTrue : List D → D | _ => .bl true
theorem cof_none {n : Str} : ∀ {ds : List D}, (∀ d ∈ ds, pairD d = true) → n ∉ ds.map nmD → cofD n ds = 0
  | [], _, _ => rfl
  | d :: r, h, hn => by
    obtain ⟨m, k, rfl, hm, hk⟩ := pairD_shape (h d (List.mem_cons_self ..))
    rw [List.map_cons, List.mem_cons, not_or] at hn
    rw [cofD, if_neg (fun e => hn.1 e.symm)]
    exact cof_none (fun q hq => h q (List.mem_cons_of_mem _ hq)) hn.2
theorem filt_none {n : Str} : ∀ {ds : List D}, n ∉ ds.map nmD → ds.filter (fun d => decide (nmD d = n)) = []
  | [], _ => rfl
  | d :: r, hn => by
    rw [List.map_cons, List.mem_cons, not_or] at hn
    rw [List.filter_cons, if_neg (show ¬ decide (nmD d = n) = true from fun z => hn.1 (of_decide_eq_true z).symm)]
    exact filt_none hn.2
theorem due_cof {n : Str} : ∀ {ds : List D}, (∀ d ∈ ds, pairD d = true) → (ds.map nmD).Nodup → ((ds.filter (fun d => decide (nmD d = n))).map cntD).sum = cofD n ds
  | [], _, _ => rfl
  | d :: r, h, hn => by
    obtain ⟨m, k, rfl, hm, hk⟩ := pairD_shape (h d (List.mem_cons_self ..))
    rw [List.map_cons] at hn
    obtain ⟨h1, h2⟩ := List.nodup_cons.mp hn
    rw [List.filter_cons, cofD]
    by_cases e : m = n
    · rw [if_pos (show decide (nmD (D.tup [D.str m, D.int k]) = n) = true from decide_eq_true e), if_pos e, filt_none (e ▸ h1)]
      show k + 0 = k
      omega
    · rw [if_neg (show ¬ decide (nmD (D.tup [D.str m, D.int k]) = n) = true from fun z => e (of_decide_eq_true z)), if_neg e]
      exact due_cof (fun q hq => h q (List.mem_cons_of_mem _ hq)) h2
theorem asc_nodup {ys : List Str} (h : asc ys) : ys.Nodup := by
  refine List.Pairwise.imp ?_ h
  intro a b q e
  rw [e] at q
  exact absurd q (List.lt_irrefl _)
theorem Bg.nodup {ds : List D} (h : Bg ds) : (ds.map nmD).Nodup := by
  obtain ⟨prs, rfl, ha, hp, hl⟩ := h
  rw [List.map_map]
  exact asc_nodup ha
theorem Bg.okBR {ds xs : List D} (h : Bg ds) (h1 : xs.length ≤ 100) (h2 : ∀ x ∈ xs, nameD x = true) : okBR [.tup ds, .lst xs] := ⟨⟨h.bag, h.wr, h.nodup⟩, h1, h2⟩
section
variable {K : PySem.W.Frag}
/-- words, from outside -/
theorem ev_words {W : XK} {δ : Dlt} {w : Wl} {Pd : PD} {Z : ZD} {E' : XK} {t : TA} (h : EvA K W t δ w (fun ds w1 => ∃ (p : Addr) (n : Int), ds = [.ptr p, .int n] ∧ 0 ≤ n ∧ n ≤ 12 ∧ Pl w1 p w1 ∧ ∀ (w2 : Wl) (xs : List Str), Pl w1 p w2 → wordsOk xs → (xs.length : Int) = n → Pd (.lst (xs.map D.str)) w2) Z) : Ev K W (tCall (SpD K preWords postWords zN) [] E' t) δ w Pd Z :=
  ev_call fun σ H s Q q z => h σ H s Q (fun v H' d w' e c r p => q v H' d w' e c r (by
    obtain ⟨p, n, rfl, h3, h4, h5, h6⟩ := p
    exact ⟨⟨p, n, rfl, h3, h4, h5⟩, fun d w2 pd => by
      obtain ⟨g1, xs, rfl, g2, g3⟩ := pd p n rfl
      exact h6 w2 xs g1 g3 g2⟩)) z
end
def preRight (ds : List D) (w : Wl) : Prop := ∃ p : Addr, ds = [.ptr p] ∧ Pl w p w
def postRight (ds : List D) (w : Wl) (d : D) (w' : Wl) : Prop := d = .bl true ∧ ∀ p, ds = [.ptr p] → Pm w p w'
def preCell (K : PySem.W.Frag) (ds : List D) (w : Wl) : Prop := ∃ (a : Addr) (ns : List Int) (k : Nat), ds = [.ptr a, .int k] ∧ k ≤ 100 ∧ ns.length ≤ 100000 ∧ Scr K w a ns
def postInt (_ : List D) (w : Wl) (d : D) (w' : Wl) : Prop := w' = w ∧ ∃ i : Int, d = .int i
theorem Bg.of {prs : List (Str × Int)} (h1 : asc (prs.map (·.1))) (h2 : prs.all (fun pr => nameS pr.1 && (decide (1 ≤ pr.2) && decide (pr.2 ≤ 10 ^ 30))) = true) (h3 : prs.length ≤ 12) : Bg (prs.map bagE) :=
  ⟨prs, rfl, h1, fun pr hp => by
    have q := List.all_eq_true.mp h2 pr hp
    obtain ⟨q1, q2⟩ := Bool.and_eq_true_iff.mp q
    obtain ⟨q2, q3⟩ := Bool.and_eq_true_iff.mp q2
    exact ⟨q1, of_decide_eq_true q2, of_decide_eq_true q3⟩, h3⟩
def twelve : List (Str × Int) := [("a", 10 ^ 30), ("b", 10 ^ 30), ("c", 10 ^ 30), ("d", 10 ^ 30), ("e", 10 ^ 30), ("f", 10 ^ 30), ("g", 10 ^ 30), ("h", 10 ^ 30), ("i", 10 ^ 30), ("j", 10 ^ 30), ("k", 10 ^ 30), ("l", 10 ^ 30)]
theorem twelve_bg : Bg (twelve.map bagE) := Bg.of (by unfold asc; decide +kernel) (by decide +kernel) (by decide)
def withC (n : Int) : D → D | .str x => .tup [.str x, .int n] | _ => .non
theorem twelve_eq : (chrD ("abcdefghijkl" : Str)).map (withC (10 ^ 30)) = twelve.map bagE := by
  have e : ("abcdefghijkl" : Str).cps.toList = twelve.flatMap fun pr => pr.1.cps.toList := by decide +kernel
  unfold chrD
  rw [e]
  rfl
theorem nil_bg : Bg [] := Bg.of (prs := []) List.Pairwise.nil rfl (Nat.zero_le _)
theorem three_bg : Bg [.tup [.str "a", .int 1], .tup [.str "aa", .int 2], .tup [.str "b", .int 1]] := Bg.of (prs := [("a", 1), ("aa", 2), ("b", 1)]) (by unfold asc; decide +kernel) (by decide +kernel) (by decide)
end LW
set_option Elab.async false
set_option linter.all false
set_option autoImplicit false
set_option maxRecDepth 100000
set_option maxHeartbeats 4000000
/-! LE: a law's end, for promises of defs that know the guards around them. -/
namespace LW
open PySem PySem.Spec PyProof.Rows L2 DL
def preLaw (K : PySem.W.Frag) (ds : List D) (w : Wl) : Prop := ∃ (a : Addr) (ns : List Int), ds = [.ptr a] ∧ ns.length ≤ 100000 ∧ Scr K w a ns
def postLaw (_ : List D) (_ : Wl) (d : D) (_ : Wl) : Prop := d = .bl true
/-- what is known of the heap at the start: the script, if the written part doesn't tell of it -/
def hp0 (K : PySem.W.Frag) (a : Addr) (o : Obj) (ns : List Int) : Hp := fun b => if b = a ∧ K.lookup a = none then some (.frz o (.lst (ns.map V.int))) else none
def st0 (K : PySem.W.Frag) (a : Addr) (ns : List Int) : Wl := fun b => if b = a ∧ K.lookup a = none then some (.scr ns) else none
section
variable {P : Program} {wo : World} {K : PySem.W.Frag} {mg mb : Str → Option Value} {k : Nat} {fa a : Addr} {fd : FuncData} {x : Str} {sh : Shared} {vs : List Value} {ns : List Int}
theorem hp0_some {o : Obj} {b : Addr} {u : HO} (h : hp0 K a o ns b = some u) : b = a ∧ K.lookup a = none ∧ u = .frz o (.lst (ns.map V.int)) := by
  unfold hp0 at h
  by_cases q : b = a ∧ K.lookup a = none
  · rw [if_pos q] at h
    exact ⟨q.1, q.2, (Option.some.inj h).symm⟩
  · rw [if_neg q] at h; cases h
theorem law_end (hK : K.In sh.heap) (hm : sh.heap.Ns mainGlobals mg) (hbi : sh.heap.Ns builtinsNs mb) (hbo : ∀ y : Str, y ≠ "__name__" → mb y = bootBuiltins y) (hno : sh.heap.NoLimit) (hge : sh.gens = #[])
    (hob : sh.heap.get? a = some { cls := .type "list", data := .seq vs.toArray }) (hin : IntsAre vs ns) (hle : ns.length ≤ 100000) (hro : Room k callerA)
    (F : ∀ base : Heap, K.In base → base.Ns mainGlobals mg → Gn P wo K mg base CX0 k fa fd [x] (SpD K (preLaw K) postLaw zN)) (hbd : Binds K fd [x] []) :
    codeAny (model P wo) callerA (.call (.ref fa) ⟨[.ref a], []⟩) (fun r s' => r = .ok (.ret (.bool true)) ∧ OldK sh.heap s'.heap ∧ s'.os = sh.os ∧ AllBare s'.gens) sh := by
  have hv := vals_ints hin
  have hvl := hin.length
  have hsz : ns.length ≤ sizeLine := Nat.le_trans hle (by rw [sizeLine_eq]; decide)
  let H : Hp := hp0 K a { cls := .type "list", data := .seq vs.toArray } ns
  have hokH : HOk P wo H sh.heap := fun b u z => by
    obtain ⟨rfl, _, rfl⟩ := hp0_some z
    exact ⟨hob, by rw [List.length_map]; exact hsz, vs, _, hv, hob⟩
  have away : ∀ {b : Addr} {o : Obj}, sh.heap.get? b = some o → (b = a → K.lookup a ≠ none) → (hidT sh.heap H).get? b = some o := fun {b o} e n => hidT_get e (by
    cases q : H b with
    | none => rfl
    | some u =>
      obtain ⟨z1, z2, _⟩ := hp0_some q
      exact absurd z2 (n z1))
  have dicts : ∀ {b : Addr} {m : Str → Option Value}, sh.heap.Ns b m → (hidT sh.heap H).Ns b m := fun {b m} ⟨o, es, ep, e, d, r⟩ => by
    refine ⟨o, es, ep, away e fun z => ?_, d, r⟩
    subst z
    rw [hob] at e
    cases e
    cases (show Data.seq vs.toArray _ = Data.dict es ep from d)
  have inK : K.In (hidT sh.heap H) := fun b o e => away (hK b o e) fun z => by
    subst z
    rw [e]
    simp
  have md : Mod K mg (hidT sh.heap H) := ⟨inK, dicts hm, ⟨mb, dicts hbi, hbo⟩, by
    obtain ⟨mc, h1, h2⟩ := hno
    exact ⟨mc, dicts h1, h2⟩⟩
  have env : Env0 P wo K mg (hidT sh.heap H) callerA [] sh H := ⟨rfl, md, fun b o e => of_hidT e, Nat.le_of_eq (hidT_size _ _), trivial, fun b z => (List.not_mem_nil (show b ∈ ([] : List Addr) from z)).elim, hokH, .of_eq hge⟩
  have pre : preLaw K [.ptr a] (st0 K a ns) := by
    refine ⟨a, ns, rfl, hle, ?_⟩
    cases q : K.lookup a with
    | none => exact .inr (by unfold st0; rw [if_pos ⟨rfl, q⟩])
    | some o =>
      have e := hK a o q
      rw [hob] at e
      cases e
      exact .inl fun H' => .inr ⟨_, vs.toArray, _, q, rfl, rfl, rfl, by rw [List.size_toArray, hvl]; exact hsz, by simpa using hv⟩
  have cel : Cells K (st0 K a ns) H := fun b c z => by
    unfold st0 at z
    by_cases q : b = a ∧ K.lookup a = none
    · rw [if_pos q] at z
      cases z
      exact .inr ⟨_, by show hp0 K a _ ns b = _; unfold hp0; rw [if_pos q]⟩
    · rw [if_neg q] at z; cases z
  have promise : SpD K (preLaw K) postLaw zN [.ref a] H (fun v _ => v = .bl true) fun _ _ _ => False :=
    ⟨[.ptr a], st0 K a ns, .cons (.ptr a) .nil, cel, pre, fun v _ d _ _ _ r p => by
      have p' : d = .bl true := p
      subst p'
      cases r
      rfl, kz_none⟩
  refine codeAny_mono ((F _ inK (dicts hm)).go callerA [] sh H ⟨[.ref a], []⟩ [.ref a] [.ref a] _ _ rfl hro env (hbd sh [.ref a] hK rfl) (.cons rfl .nil) promise) fun r s' z => ?_
  match r, z with
  | .error e, z => exact (show False from z).elim
  | .ok (.ret u), z =>
    obtain ⟨v, H', os, bare, un, ok', rel, q⟩ := z
    have q' : v = .bl true := q
    subst q'
    obtain rfl : u = Value.bool true := rel
    refine ⟨rfl, OldK.of_keep fun b o e => ?_, os, bare⟩
    cases q : H b with
    | none => exact un.keep b o e q (fun z => (List.not_mem_nil (show b ∈ ([] : List Addr) from z)).elim) (by simp)
    | some u =>
      obtain ⟨_, _, rfl⟩ := hp0_some q
      have w1 := (hokH b _ q).1
      have w2 := (ok' b _ (un.frzs b _ _ q)).1
      rw [e] at w1
      cases w1
      exact w2
end
/-- the goal that the head leaves -/
theorem walk_end {l : PySem.W.OpenLaw} {n k : Nat} {q : Program} {loose : List Str} {XP : (Str → Option Value) → Heap → Prop} {YP : World → Heap → Prop} {d : DefRec} {KK : Params → PySem.W.Frag} {x : Str} (most : l.most = some n) (few : n ≤ 100000) (nodef : d.params.defaults = []) (room : Room k callerA)
    (part : ∀ (wo : World) (h : Heap), YP wo h → (KK wo.params).In h)
    (F : ∀ (wo : World) (mg : Str → Option Value) (fa : Addr) (h : Heap), (KK wo.params).In h → h.Ns mainGlobals mg → mg d.name = some (.ref fa) →
      ∃ fd : FuncData, Binds (KK wo.params) fd [x] [] ∧ ∀ base : Heap, (KK wo.params).In base → base.Ns mainGlobals mg → Gn l.prog wo (KK wo.params) mg base CX0 k fa fd [x] (SpD (KK wo.params) (preLaw (KK wo.params)) postLaw zN)) :
    PySem.W.WalkO q loose XP YP l.row.toRowW d [] (fun f vs => PySem.call f vs) := by
  refine Att.attach_call most nodef fun wo s0 s1 mg mb fa o pm cd doc a vs ns G Y _ _ _ named seen nums len gens => ?_
  have inn := part wo _ Y
  obtain ⟨fd, bind, keeps⟩ := F wo mg fa _ inn G.T.g named
  exact law_end inn G.T.g G.T.b G.T.builtins G.T.nolimit gens seen nums (Nat.le_trans len few) room keeps bind
theorem dn_of {K : PySem.W.Frag} {h : Heap} {mg : Str → Option Value} {name : Str} {st : Stmt} {f : Addr} {oc kV dc pm cd ct : Value} {od an : Option Addr} {sl : Array (Option Value)} (X : K.In h) (G : h.Ns mainGlobals mg)
    (a1 : PySem.W.nsIn K mainGlobals name = some (some (.ref f)))
    (a2 : K.lookup f = some ⟨oc, od, .func (PySem.W.fnOf name name (defArgs st) (defBody st) (defScope st) .none kV dc pm an cd ct), sl⟩)
    (a3 : PySem.W.codeIn K cd name = true) (a4 : PySem.W.keepIn K (.ref f) = true) : Dn K mg name st :=
  ⟨f, _, fun_mk a2 a3 a4, PySem.W.mg_of X G a1⟩
theorem gn_end {P : Program} {wo : World} {K : PySem.W.Frag} {mg : Str → Option Value} {k : Nat} {name x : Str} {st : Stmt} {sp : Sp} {fa : Addr} {Bs : Heap → Prop} (h : ∀ base, Bs base → Fk P wo K mg base CX0 k name st [x] sp) (d : Dn K mg name st) (b : BindP name st [x]) (e : mg name = some (.ref fa)) :
    ∃ fd : FuncData, Binds K fd [x] [] ∧ ∀ base, Bs base → Gn P wo K mg base CX0 k fa fd [x] sp := by
  obtain ⟨f, fd, F, m⟩ := d
  have e' := e.symm.trans m
  cases e'
  refine ⟨fd, F.binds b, fun base hb => ?_⟩
  obtain ⟨f2, fd2, g⟩ := h base hb
  have e' := e.symm.trans g.nm
  cases e'
  obtain ⟨oc, od, kV, doc, pm, an, cdv, ct, osl, rfl, lk, _⟩ := F.ex
  obtain ⟨oc2, od2, kV2, doc2, pm2, an2, cdv2, ct2, osl2, rfl, lk2, _⟩ := g.fn.ex
  rw [lk] at lk2
  injection lk2 with z
  injection z with _ _ z3
  injection z3 with z4
  rw [z4]
  exact g.gn
theorem ki_of {K : PySem.W.Frag} {h : Heap} {mg : Str → Option Value} {name : Str} {i : Int} {u : Tok} (X : K.In h) (G : h.Ns mainGlobals mg) (e : PySem.W.nsIn K mainGlobals name = some (some (.int i u))) : ∃ u, mg name = some (.int i u) := ⟨u, PySem.W.mg_of X G e⟩
end LW
set_option Elab.async false
set_option linter.all false
set_option autoImplicit false
set_option maxRecDepth 100000
set_option maxHeartbeats 4000000
/-! DL12: owned dicts whose keys are ints and texts. -/
namespace DL
open PySem PySem.Spec PyProof.Rows L2
def kD : Key → D
  | .inl i => .int i
  | .inr x => .str x
def valD (kvs : List (Key × D)) (k : Key) : Option D := (kvs.find? fun kv => decide (kv.1 = k)).map (·.2)
def putD (kvs : List (Key × D)) (k : Key) (d : D) : List (Key × D) :=
  if (kvs.any fun kv => decide (kv.1 = k)) = true then kvs.map (fun kv => if kv.1 = k then (kv.1, d) else kv) else kvs ++ [(k, d)]
def dropD (kvs : List (Key × D)) (k : Key) : List (Key × D) := kvs.filter fun kv => decide (kv.1 ≠ k)
section
variable {K : PySem.W.Frag} {G : Hp}
theorem rp_kD {v : V} {k : Key} (h : Rp K G v (kD k)) : v = kV k := by
  cases k with
  | inl i => cases h; rfl
  | inr x => cases h; rfl
theorem rp_kV (k : Key) : Rp K G (kV k) (kD k) := by
  cases k with
  | inl i => exact .int i
  | inr x => exact .str x
theorem rpk_len : ∀ {ks : List (Key × V)} {kvs : List (Key × D)}, RpK K G ks kvs → ks.length = kvs.length
  | [], [], _ => rfl
  | (_, _) :: r, (_, _) :: s, h => by
    obtain ⟨_, _, h⟩ := h
    rw [List.length_cons, List.length_cons, rpk_len h]
  | [], _ :: _, h => h.elim
  | _ :: _, [], h => h.elim
theorem rpk_any {k : Key} : ∀ {ks : List (Key × V)} {kvs : List (Key × D)}, RpK K G ks kvs → (ks.any fun kv => decide (kv.1 = k)) = (kvs.any fun kv => decide (kv.1 = k))
  | [], [], _ => rfl
  | (a, _) :: r, (b, _) :: s, h => by
    obtain ⟨e, _, h⟩ := h
    subst e
    rw [List.any_cons, List.any_cons, rpk_any h]
  | [], _ :: _, h => h.elim
  | _ :: _, [], h => h.elim
theorem rpk_val {k : Key} : ∀ {ks : List (Key × V)} {kvs : List (Key × D)}, RpK K G ks kvs → (valV ks k = none ∧ valD kvs k = none) ∨ ∃ v d, valV ks k = some v ∧ valD kvs k = some d ∧ Rp K G v d
  | [], [], _ => .inl ⟨rfl, rfl⟩
  | (a, v) :: r, (b, d) :: s, h => by
    obtain ⟨e, hr, h⟩ := h
    subst e
    by_cases e : a = k
    · exact .inr ⟨v, d, by simp [valV, List.find?_cons, e], by simp [valD, List.find?_cons, e], hr⟩
    · rcases rpk_val (k := k) h with ⟨h1, h2⟩ | ⟨v', d', h1, h2, h3⟩
      · refine .inl ⟨?_, ?_⟩
        · simpa [valV, List.find?_cons, e] using h1
        · simpa [valD, List.find?_cons, e] using h2
      · refine .inr ⟨v', d', ?_, ?_, h3⟩
        · simpa [valV, List.find?_cons, e] using h1
        · simpa [valD, List.find?_cons, e] using h2
  | [], _ :: _, h => h.elim
  | _ :: _, [], h => h.elim
theorem rpk_map {k : Key} {v : V} {d : D} (r : Rp K G v d) : ∀ {ks : List (Key × V)} {kvs : List (Key × D)}, RpK K G ks kvs → RpK K G (ks.map fun kv => if kv.1 = k then (kv.1, v) else kv) (kvs.map fun kv => if kv.1 = k then (kv.1, d) else kv)
  | [], [], _ => trivial
  | (a, _) :: _, (b, _) :: _, h => by
    obtain ⟨e, hr, h⟩ := h
    subst e
    rw [List.map_cons, List.map_cons]
    by_cases e : a = k
    · rw [if_pos e, if_pos e]; exact ⟨rfl, r, rpk_map r h⟩
    · rw [if_neg e, if_neg e]; exact ⟨rfl, hr, rpk_map r h⟩
  | [], _ :: _, h => h.elim
  | _ :: _, [], h => h.elim
theorem rpk_snoc {k : Key} {v : V} {d : D} (r : Rp K G v d) : ∀ {ks : List (Key × V)} {kvs : List (Key × D)}, RpK K G ks kvs → RpK K G (ks ++ [(k, v)]) (kvs ++ [(k, d)])
  | [], [], _ => ⟨rfl, r, trivial⟩
  | (a, _) :: _, (b, _) :: _, h => ⟨h.1, h.2.1, rpk_snoc r h.2.2⟩
  | [], _ :: _, h => h.elim
  | _ :: _, [], h => h.elim
theorem rpk_put {k : Key} {v : V} {d : D} (r : Rp K G v d) {ks : List (Key × V)} {kvs : List (Key × D)} (h : RpK K G ks kvs) : RpK K G (putK ks k v) (putD kvs k d) := by
  unfold putK putD
  rw [rpk_any h]
  split
  · exact rpk_map r h
  · exact rpk_snoc r h
theorem rpk_drop {k : Key} : ∀ {ks : List (Key × V)} {kvs : List (Key × D)}, RpK K G ks kvs → RpK K G (dropK ks k) (dropD kvs k)
  | [], [], _ => trivial
  | (a, _) :: _, (b, _) :: _, h => by
    obtain ⟨e, hr, h⟩ := h
    subst e
    have ih := rpk_drop (k := k) h
    unfold dropK dropD at ih ⊢
    rw [List.filter_cons, List.filter_cons]
    by_cases e : a = k
    · rw [if_neg (by simp [e]), if_neg (by simp [e])]; exact ih
    · rw [if_pos (by simp [e]), if_pos (by simp [e])]; exact ⟨rfl, hr, ih⟩
  | [], _ :: _, h => h.elim
  | _ :: _, [], h => h.elim
end
section
variable {K : PySem.W.Frag} {W : XK} {δ : Dlt} {w : Wl} {P : PD} {Z : ZD} {td ty tv tx : TE} {E : EndD}
/-- an owned dict is made anew -/
theorem ownK_ok {H : Hp} {p : Addr} {ks : List (Key × V)} {kvs : List (Key × D)} (c : Cells K w H) (r : RpK K (msk w H) ks kvs) (hp : H p = none) : Ex (msk w H) (msk (put w p (.dK kvs)) (upd H p (.dK ks))) ∧ Cells K (put w p (.dK kvs)) (upd H p (.dK ks)) := by
  have e : Ex (msk w H) (msk (put w p (.dK kvs)) (upd H p (.dK ks))) := fun a o h => by
    obtain ⟨h1, h2⟩ := msk_some h
    have n : a ≠ p := ne_of_none h2 hp
    exact msk_of (by rw [put_ne n]; exact h1) (by rw [upd_ne n]; exact h2)
  refine ⟨e, fun a x q => ?_⟩
  by_cases n : a = p
  · subst n
    rw [put_same] at q
    cases q
    exact ⟨ks, upd_same, r.mono e⟩
  · rw [put_ne n] at q
    exact ClAt.mono e (c a x q) fun o h => by rw [upd_ne n]; exact h
/-- an owned dict changes -/
theorem putK_ok {H : Hp} {l : Addr} {o : HO} {ks : List (Key × V)} {kvs : List (Key × D)} {cl : Cl} (c : Cells K w H) (hl : w l = some cl) (r : RpK K (msk w H) ks kvs) : Ex (msk w H) (msk (put w l (.dK kvs)) (upd H l (.dK ks))) ∧ Cells K (put w l (.dK kvs)) (upd H l (.dK ks)) := by
  have e : Ex (msk w H) (msk (put w l (.dK kvs)) (upd H l (.dK ks))) := fun a o h => by
    obtain ⟨h1, h2⟩ := msk_some h
    have n : a ≠ l := fun z => by rw [z, hl] at h1; cases h1
    exact msk_of (by rw [put_ne n]; exact h1) (by rw [upd_ne n]; exact h2)
  refine ⟨e, fun a x q => ?_⟩
  by_cases n : a = l
  · subst n
    rw [put_same] at q
    cases q
    exact ⟨ks, upd_same, r.mono e⟩
  · rw [put_ne n] at q
    exact ClAt.mono e (c a x q) fun o h => by rw [upd_ne n]; exact h
/-- {} -/
theorem ev_dnew (k : ∀ p, w p = none → P (.ptr p) (put w p (.dK []))) : Ev K W tDNewK δ w P Z :=
  fun σ H s Q q _ p hp => by
    obtain ⟨e, c⟩ := ownK_ok (ks := []) (kvs := []) s.ce trivial hp
    exact q _ _ _ _ e c (.ptr p) (k p (s.ce.free hp))
/-- d[k], there -/
theorem ev_dget (h : Ev K W td δ w (fun x w1 => Ev K W ty δ w1 (fun y w2 => ∃ l kvs k d, x = .ptr l ∧ w2 l = some (.dK kvs) ∧ y = kD k ∧ valD kvs k = some d ∧ P d w2) Z) Z) : Ev K W (tDGet td ty) δ w P Z :=
  fun σ H s Q q z => h σ H s _ (fun v H1 d1 w1 e1 c1 r1 h1 => h1 σ H1 (s.next e1 c1) _ (fun u H2 d2 w2 e2 c2 r2 ⟨l, kvs, k, d, ex, hw, ey, hv, hp⟩ => by
    subst ex; subst ey
    cases r1
    obtain ⟨ks, g1, g2⟩ := c2 l _ hw
    rcases rpk_val (k := k) g2 with ⟨_, b⟩ | ⟨v', d', a, b, r⟩
    · rw [hv] at b; cases b
    · rw [hv] at b; cases b
      refine ⟨l, v', rfl, ?_, q v' H2 _ w2 (e1.trans e2) c2 r hp⟩
      rw [rp_kD r2, ← a]
      exact DGet.k g1) (z.next e1)) z
/-- k in d -/
theorem ev_din (h : Ev K W ty δ w (fun y w1 => Ev K W td δ w1 (fun x w2 => ∃ l kvs k, x = .ptr l ∧ w2 l = some (.dK kvs) ∧ y = kD k ∧ P (.bl (valD kvs k).isSome) w2) Z) Z) : Ev K W (tDIn ty td) δ w P Z :=
  fun σ H s Q q z => h σ H s _ (fun u H1 d1 w1 e1 c1 r1 h1 => h1 σ H1 (s.next e1 c1) _ (fun v H2 d2 w2 e2 c2 r2 ⟨l, kvs, k, ex, hw, ey, hp⟩ => by
    subst ex; subst ey
    cases r2
    obtain ⟨ks, g1, g2⟩ := c2 l _ hw
    refine ⟨l, valV ks k, rfl, by rw [rp_kD r1]; exact DGet.k g1, ?_⟩
    have e : (valV ks k).isSome = (valD kvs k).isSome := by
      rcases rpk_val (k := k) g2 with ⟨a, b⟩ | ⟨v', d', a, b, _⟩ <;> rw [a, b] <;> rfl
    rw [e]
    exact q _ H2 _ w2 (e1.trans e2) c2 (.bl _) hp) (z.next e1)) z
theorem ev_dnotin (h : Ev K W ty δ w (fun y w1 => Ev K W td δ w1 (fun x w2 => ∃ l kvs k, x = .ptr l ∧ w2 l = some (.dK kvs) ∧ y = kD k ∧ P (.bl (!(valD kvs k).isSome)) w2) Z) Z) : Ev K W (tDNotIn ty td) δ w P Z :=
  fun σ H s Q q z => h σ H s _ (fun u H1 d1 w1 e1 c1 r1 h1 => h1 σ H1 (s.next e1 c1) _ (fun v H2 d2 w2 e2 c2 r2 ⟨l, kvs, k, ex, hw, ey, hp⟩ => by
    subst ex; subst ey
    cases r2
    obtain ⟨ks, g1, g2⟩ := c2 l _ hw
    refine ⟨l, valV ks k, rfl, by rw [rp_kD r1]; exact DGet.k g1, ?_⟩
    have e : (valV ks k).isSome = (valD kvs k).isSome := by
      rcases rpk_val (k := k) g2 with ⟨a, b⟩ | ⟨v', d', a, b, _⟩ <;> rw [a, b] <;> rfl
    rw [e]
    exact q _ H2 _ w2 (e1.trans e2) c2 (.bl _) hp) (z.next e1)) z
/-- d.get(k, x) -/
theorem ev_dget2 (h : Ev K W td δ w (fun x w1 => ∃ l, x = .ptr l ∧ (∃ kvs, w1 l = some (.dK kvs)) ∧ Ev K W ty δ w1 (fun y w2 => Ev K W tx δ w2 (fun u w3 => ∃ kvs k, w3 l = some (.dK kvs) ∧ y = kD k ∧ P ((valD kvs k).getD u) w3) Z) Z) Z) : Ev K W (tDGet2 td ty tx) δ w P Z :=
  fun σ H s Q q z => h σ H s _ (fun v H1 d1 w1 e1 c1 r1 ⟨l, ex, ⟨kvs1, hw1⟩, h1⟩ => by
    subst ex
    cases r1
    obtain ⟨ks1, g1, _⟩ := c1 l _ hw1
    refine ⟨l, rfl, .inl ⟨ks1, .inl g1⟩, ?_⟩
    refine h1 σ H1 (s.next e1 c1) _ (fun y H2 d2 w2 e2 c2 r2 h2 => ?_) (z.next e1)
    refine h2 σ H2 (s.next (e1.trans e2) c2) _ (fun u H3 d3 w3 e3 c3 r3 ⟨kvs, k, hw, ey, hp⟩ => ?_) (z.next (e1.trans e2))
    subst ey
    obtain ⟨ks, g1, g2⟩ := c3 l _ hw
    refine ⟨valV ks k, by rw [rp_kD r2]; exact DGet.k g1, ?_⟩
    rcases rpk_val (k := k) g2 with ⟨a, b⟩ | ⟨v', d', a, b, r⟩
    · rw [a]; rw [b] at hp
      exact q _ H3 _ w3 ((e1.trans e2).trans e3) c3 r3 hp
    · rw [a]; rw [b] at hp
      exact q _ H3 _ w3 ((e1.trans e2).trans e3) c3 r hp) z
/-- d[k] = v -/
theorem sd_dput {nx : Dlt → Wl → Prop} {rt : PD} {bk ct : Dlt → Wl → Prop} {rz : ZD} (h : Ev K W tv δ w (fun d w1 => Ev K W td δ w1 (fun x w2 => Ev K W ty δ w2 (fun y w3 => ∃ l kvs k, x = .ptr l ∧ w3 l = some (.dK kvs) ∧ y = kD k ∧ kvs.length < sizeLine ∧ nx δ (put w3 l (.dK (putD kvs k d)))) rz) rz) rz) : Sd K W (sDPut td ty tv) δ w ⟨nx, rt, bk, ct, rz⟩ :=
  fun σ H s Dn ke => h σ H s _ (fun v H1 d w1 e1 c1 r1 h1 => h1 σ H1 (s.next e1 c1) _ (fun x H2 dx w2 e2 c2 r2 h2 => h2 σ H2 (s.next (e1.trans e2) c2) _ (fun y H3 dy w3 e3 c3 r3 ⟨l, kvs, k, ex, hw, ey, hz, hn⟩ => by
    subst ex; subst ey
    cases r2
    obtain ⟨ks, g1, g2⟩ := c3 l _ hw
    have r1' := (r1.mono e2).mono e3
    obtain ⟨e4, c4⟩ := putK_ok (o := .dK ks) c3 hw (rpk_put r1' g2 (k := k))
    refine ⟨l, _, rfl, .inl ⟨ks, k, g1, rp_kD r3, by rw [rpk_len g2]; exact hz, rfl⟩, ?_⟩
    exact ke.nx σ _ δ _ (((e1.trans e2).trans e3).trans e4) (s.next (((e1.trans e2).trans e3).trans e4) c4) hn) (ke.rz.next (e1.trans e2))) (ke.rz.next e1)) ke.rz
end
end DL
set_option Elab.async false
set_option linter.all false
set_option autoImplicit false
set_option maxRecDepth 100000
set_option maxHeartbeats 4000000
/-! DL13: sorted(d.items()), d with texts as keys and ints as values. -/
namespace KS
open PySem PySem.W PySem.Calls PyProof.Rows PyProof.V PySem.Spec DT
section
variable {prog : Program} {w : World} {A : Around} {E : Value → Shared → Prop} {s : Shared}
def textAt (h : Heap) (v : Value) : Str := txOf (seqAt0 h (refOf (some v)))
/-- v is a pair of the text y and the int m -/
def SI (h : Heap) (v : Value) (y : Str) (m : Int) : Prop := ∃ (a : Addr) (t u : Tok), v = .ref a ∧ IsTup h a #[.str y t, .int m u]
theorem SI.tx {h : Heap} {v : Value} {y : Str} {m : Int} (x : SI h v y m) : textAt h v = y := by
  obtain ⟨a, t, u, rfl, g⟩ := x
  show txOf (seqAt0 h a) = y
  rw [seqAt0_of g]
  rfl
theorem heads {h : Heap} {M : Str → Int} : ∀ us : List Value, (∀ v ∈ us, ∃ y, SI h v y (M y)) → ∃ fs : List Value, KatTups h us fs ∧ fs.length = us.length ∧ ∀ f ∈ fs, ∃ (y : Str) (t : Tok), f = Value.str y t
  | [], _ => ⟨[], .nil, rfl, fun f z => nomatch z⟩
  | v :: us, x => by
    obtain ⟨fs, g1, g2, g3⟩ := heads us fun u hu => x u (List.mem_cons_of_mem _ hu)
    obtain ⟨y, a, t, u, rfl, o, ho, hc, n, hd⟩ := x v (List.mem_cons_self ..)
    refine ⟨.str y t :: fs, .cons ho hc hd rfl g1, by simp [g2], fun f hf => ?_⟩
    cases hf with
    | head => exact ⟨y, t, rfl⟩
    | tail _ hf => exact g3 f hf
theorem kind_si {us : List Value} {rk : Str → Int} {M : Str → Int} (two : 2 ≤ us.length) (x : ∀ v ∈ us, ∃ y, SI s.heap v y (M y))
    (hrk : ∀ v ∈ us, ∀ u ∈ us, decide ((textAt s.heap v).cps.toList < (textAt s.heap u).cps.toList) = decide (rk (textAt s.heap v) < rk (textAt s.heap u))) (Q : SortKind → Shared → Prop)
    (h : ∀ κ, TS.Cmp prog w A s κ (pairsOf us) (fun v => rk (textAt s.heap v)) → Q κ s) : wpAny (model prog w) A (keyKind' us.toArray) Q E s := by
  obtain ⟨fs, g1, g2, g3⟩ := heads us x
  refine kat_kind (T := .type "str") g1 (by omega) (fun f hf => ?_) rfl (h _ ?_)
  · obtain ⟨y, t, rfl⟩ := g3 f hf
    exact Looks.of_pure rfl
  · have notTup : (Value.type "str" != Value.type "tuple") = true := by first | rfl | decide
    rw [notTup]
    intro p q hp hq Q' E' done
    rw [pairsOf_toList] at hp hq
    have inP := (mem_zip_self hp).2
    have inQ := (mem_zip_self hq).2
    obtain ⟨y, py⟩ := x _ inP
    obtain ⟨z, pz⟩ := x _ inQ
    have same := hrk _ inP _ inQ
    rw [py.tx, pz.tx] at same
    have done2 : Q' (decide (rk (textAt s.heap p.1) < rk (textAt s.heap q.1))) s := done
    rw [py.tx, pz.tx, ← same] at done2
    obtain ⟨a, t, u, e1, o, ho, _, n, hd⟩ := py
    obtain ⟨b, t', u', e2, o', ho', _, n', hd'⟩ := pz
    rw [e1, e2]
    refine kat_lt ho hd ho' hd' ?_
    show KatLex prog w A true false Q' [(Value.str y t, Value.str z t'), (Value.int (M y) u, Value.int (M z) u')] 0 s
    by_cases eq : y = z
    · subst eq
      have irr : decide (y.cps.toList < y.cps.toList) = false := decide_eq_false (List.lt_irrefl _)
      rw [irr] at done2
      refine kat_cons (wpAny_eqBool_str (kat_go (fun _ => kat_yes ?_) fun no => absurd rfl (of_decide_eq_false no)))
      refine kat_cons (wpAny_eqBool_int (kat_go (fun _ => kat_yes (kat_nil done2)) fun no => absurd no (by simp)))
    · refine kat_cons (wpAny_eqBool_str (kat_go (fun yes => absurd (of_decide_eq_true yes) eq) fun _ => kat_no ?_))
      exact oneLt_str done2
end
/-! the rank of a text among others -/
def rank (ts : List Str) (y : Str) : Int := ((ts.filter fun e => decide (e.cps.toList < y.cps.toList)).length : Int)
theorem filt_sub {p q : Str → Bool} (ts : List Str) (h : ∀ e, p e = true → q e = true) : (ts.filter p).Sublist (ts.filter q) := by
  have e : ts.filter p = (ts.filter q).filter p := by
    rw [List.filter_filter]
    refine List.filter_congr fun x _ => ?_
    cases hp : p x with
    | true => rw [h x hp]; rfl
    | false => rfl
  rw [e]
  exact List.filter_sublist
theorem rank_lt {ts : List Str} {a b : Str} (ha : a ∈ ts) : decide (a.cps.toList < b.cps.toList) = decide (rank ts a < rank ts b) := by
  by_cases h : a.cps.toList < b.cps.toList
  · rw [decide_eq_true h]
    refine (decide_eq_true ?_).symm
    have sub := filt_sub (p := fun e : Str => decide (e.cps.toList < a.cps.toList)) (q := fun e : Str => decide (e.cps.toList < b.cps.toList)) ts fun e he => decide_eq_true (List.lt_trans (of_decide_eq_true he) h)
    unfold rank
    have le := sub.length_le
    rcases Nat.lt_or_eq_of_le le with z | z
    · exact_mod_cast z
    · exfalso
      have eq := sub.eq_of_length z
      have inB : a ∈ ts.filter fun e : Str => decide (e.cps.toList < b.cps.toList) := List.mem_filter.mpr ⟨ha, decide_eq_true h⟩
      rw [← eq] at inB
      exact List.lt_irrefl _ (of_decide_eq_true (List.mem_filter.mp inB).2)
  · rw [decide_eq_false h]
    refine (decide_eq_false ?_).symm
    have ba : b.cps.toList ≤ a.cps.toList := List.not_lt.mp h
    have sub := filt_sub (p := fun e : Str => decide (e.cps.toList < b.cps.toList)) (q := fun e : Str => decide (e.cps.toList < a.cps.toList)) ts fun e he => by
      have lt := of_decide_eq_true he
      rcases List.le_iff_lt_or_eq.mp ba with z | z
      · exact decide_eq_true (List.lt_trans lt z)
      · exact decide_eq_true (z ▸ lt)
    unfold rank
    have le := sub.length_le
    omega

/-! ### the rules -/
abbrev entK (e : Str × Int) : L2.Key × L2.V := (Sum.inr e.1, L2.V.int e.2)
open L2 in
def rItemsK : V → List V → Hp → VK → Prop := fun x xs H Q => ∃ (a : Addr) (kvs : List (Key × V)), x = .ref a ∧ xs = [] ∧ H a = some (.dK kvs) ∧ ∀ p, H p = none → Q (.ref p) (upd H p (DX.itemsO p a))
open L2 in
theorem mt_itemsK {X : Cx} : MtR X "dict.items" rItemsK := by
  intro pins s σ H x xs v us Q I rx rxs h
  obtain ⟨a, kvs, rfl, rfl, ha, q⟩ := h
  cases rx
  cases rxs
  obtain ⟨_, notMods, vs, rel, o, es, ep, ho, hx, hdat, _⟩ := dk_of I.hok ha
  refine DT.callItems (es := es) (ep := ep) notMods ⟨o, ho, hx, hdat⟩ ?_
  exact ⟨.ref s.heap.objs.size, upd H s.heap.objs.size (DX.itemsO s.heap.objs.size a), I.laid (t' := s.toks) (fun b u e => Heap.get?_push_of_some _ e) (Nat.le_refl _) (DX.itemsO_ok (Heap.get?_push_size _ rfl)), rfl, q _ (I.hok.fresh (Nat.le_refl _))⟩
open L2 in
/-- sorted(d.items()): at most 63 entries; the pairs are new, ascending by their texts -/
def rSortK : List V → Hp → VK → Prop := fun vs H Q => ∃ (p a : Addr) (ks : List (Str × Int)), vs = [.ref p] ∧ H p = some (DX.itemsO p a) ∧ H a = some (.dK (ks.map entK)) ∧ ks.length < 64 ∧
  ∀ (H' : Hp) (l : Addr) (ps : List (Addr × Str × Int)), (∀ b o, H b = some o → H' b = some o) → (ps.map (·.2)).Perm ks → (ks.map (·.1)).Nodup → (ps.map (·.2)).Pairwise (fun e f => ¬ f.1.cps.toList < e.1.cps.toList) → H l = none → (∀ z ∈ ps, H z.1 = none) → H' l = some (.lst (ps.map fun z => V.ref z.1)) →
    (∀ z ∈ ps, H' z.1 = some (.tup [.str z.2.1, .int z.2.2])) → Q (.ref l) H'
open L2 in
theorem ent_get {ks : List (Str × Int)} {vs : List (Key × Value)} : KV (ks.map entK) vs → (ks.length = vs.length ∧ vs.map (·.1) = ks.map (fun e => (Sum.inr e.1 : Key)) ∧ ∀ (j : Nat) (kv : Key × Value), vs[j]? = some kv → ∃ e, ks[j]? = some e ∧ kv.1 = Sum.inr e.1 ∧ RelV (.int e.2) kv.2) := by
  induction ks generalizing vs with
  | nil => intro h; cases h; exact ⟨rfl, rfl, fun j kv z => by simp at z⟩
  | cons e ks ih =>
    intro h
    cases h with
    | cons r t =>
      obtain ⟨g1, g2, g3⟩ := ih t
      refine ⟨by rw [List.length_cons, List.length_cons, g1], ?_, fun j kv z => ?_⟩
      · rw [List.map_cons, List.map_cons, g2, ← r.1]
      · cases j with
        | zero =>
          simp only [List.getElem?_cons_zero] at z
          cases z
          exact ⟨e, rfl, r.1.symm, r.2⟩
        | succ j =>
          simp only [List.getElem?_cons_succ] at z ⊢
          exact g3 j kv z
theorem pairs_get {K : Type} [DecidableEq K] {prog : Program} {w : World} {knd : PySem.KeyKind prog w K} {es : List DictEntry} {kvs : List (K × Value)} (h : Pairs knd es kvs) : ∀ {j : Nat} {en : DictEntry}, es[j]? = some en → ∃ kv, kvs[j]? = some kv ∧ knd.is kv.1 en.key = true ∧ en.val = kv.2 := by
  induction h with
  | nil => intro j en z; simp at z
  | cons a b _ ih =>
    intro j en z
    cases j with
    | zero =>
      simp only [List.getElem?_cons_zero] at z
      cases z
      exact ⟨_, rfl, a, b⟩
    | succ j =>
      simp only [List.getElem?_cons_succ] at z ⊢
      exact ih z
def numOf (ks : List (Str × Int)) (y : Str) : Int := ((ks.find? fun e => decide (e.1 = y)).map (·.2)).getD 0
theorem numOf_mem : ∀ {ks : List (Str × Int)}, (ks.map (·.1)).Nodup → ∀ e ∈ ks, numOf ks e.1 = e.2
  | [], _, e, h => nomatch h
  | a :: ks, nd, e, h => by
    rw [List.map_cons] at nd
    obtain ⟨n1, n2⟩ := List.nodup_cons.mp nd
    unfold numOf
    rw [List.find?_cons]
    rcases List.mem_cons.mp h with rfl | h
    · rw [decide_eq_true rfl]; rfl
    · have ne : a.1 ≠ e.1 := fun z => n1 (z ▸ List.mem_map.mpr ⟨e, h, rfl⟩)
      rw [decide_eq_false ne]
      exact numOf_mem n2 e h

open L2 in
theorem cr_sortK {X : Cx} (hc : X.calm = true) : CallR X (.builtin "sorted") rSortK := by
  intro pins s σ H xs us Q I r h
  obtain ⟨p, a, ks, rfl, hp, ha, few, q⟩ := h
  obtain rfl := Vals.ref1 r
  have view : s.heap.IsItemsView p a := (show ObjOk X.prog X.w H s.heap p (DX.itemsO p a) from I.hok p _ hp).1
  obtain ⟨_, _, vs, rel, o, es, ep, ho, hx, hdat, _, prs, nodK⟩ := dk_of I.hok ha
  obtain ⟨len1, keys, getE⟩ := ent_get rel
  have lenE : es.size = ks.length := by rw [← Array.length_toList, prs.length, len1]
  have nodN : (ks.map (·.1)).Nodup := by
    rw [keys] at nodK
    have e : ks.map (fun e => (Sum.inr e.1 : Key)) = (ks.map (·.1)).map Sum.inr := by rw [List.map_map]; rfl
    rw [e] at nodK
    exact (List.pairwise_map.mp nodK).imp fun {x y} ne z => ne (congrArg Sum.inr z)
  refine DT.sortedI (es := es) (ep := ep) (I.ok.hd hc) view ⟨o, ho, hx, hdat⟩ (by rw [sizeLine_eq]; omega) fun h' tk as old larger lenA made => ?_
  have lenAK : as.length = ks.length := by omega
  have nodA : as.Nodup := List.Pairwise.imp (fun z => Nat.ne_of_lt z) made.rise
  -- what was collected
  have coll : ∀ (j : Nat) (b : Addr), as[j]? = some b → ∃ (e : Str × Int) (k x : Value), ks[j]? = some e ∧ RelV (.str e.1) k ∧ RelV (.int e.2) x ∧ h'.get? b = some { cls := .type "tuple", data := .seq #[k, x] } := by
    intro j b hj
    obtain ⟨en, he, hg⟩ := made.pairs j b hj
    obtain ⟨kv, k1, k2, k3⟩ := pairs_get prs (j := j) (en := en) (by rw [Array.getElem?_toList]; exact he)
    obtain ⟨e, e1, e2, e3⟩ := getE j kv k1
    rw [← k3] at e3
    have rk : RelV (kV kv.1) en.key := relV_key (show keyIs kv.1 en.key = true from k2)
    rw [e2] at rk
    exact ⟨e, en.key, en.val, e1, rk, e3, hg⟩
  have list0 : (h'.push { cls := .type "list", data := .seq (as.map Value.ref).toArray }).get? h'.objs.size = some (seqObj "list" (as.map Value.ref).toArray 0) := Heap.get?_push_size _ rfl
  have apart : ∀ b o, h'.get? b = some o → b ≠ h'.objs.size := fun b o e => Nat.ne_of_lt (Heap.lt_size e)
  have kept1 : ∀ b o, h'.get? b = some o → (h'.push { cls := .type "list", data := .seq (as.map Value.ref).toArray }).get? b = some o := fun b o e => Heap.get?_push_of_some _ e
  generalize h'.push { cls := .type "list", data := .seq (as.map Value.ref).toArray } = h2 at list0 kept1 ⊢
  have isSI : ∀ (j : Nat) (b : Addr), as[j]? = some b → ∃ e : Str × Int, ks[j]? = some e ∧ SI (TS.midHeap h2 h'.objs.size (as.map Value.ref)) (.ref b) e.1 e.2 := by
    intro j b hj
    obtain ⟨e, k, x, e1, ⟨t, rfl⟩, ⟨u, rfl⟩, hg⟩ := coll j b hj
    exact ⟨e, e1, b, t, u, rfl, _, TS.midHeap_old (apart _ _ hg) (kept1 _ _ hg), rfl, 0, rfl⟩
  have ofV : ∀ v ∈ as.map Value.ref, ∃ (j : Nat) (b : Addr) (e : Str × Int), v = .ref b ∧ as[j]? = some b ∧ ks[j]? = some e ∧ SI (TS.midHeap h2 h'.objs.size (as.map Value.ref)) (.ref b) e.1 e.2 := by
    intro v hv
    obtain ⟨b, hb, rfl⟩ := List.mem_map.mp hv
    obtain ⟨j, hj⟩ := List.mem_iff_getElem?.mp hb
    obtain ⟨e, e1, e2⟩ := isSI j b hj
    exact ⟨j, b, e, rfl, hj, e1, e2⟩
  let names := ks.map (·.1)
  have inN : ∀ {j : Nat} {e : Str × Int}, ks[j]? = some e → e.1 ∈ names := fun z => List.mem_map.mpr ⟨_, List.mem_of_getElem? z, rfl⟩
  refine wpAny_call_entry PyProof.Rows.slot_list_sort ⟨_, list0, rfl⟩ PyProof.Rows.entry_list_sort
    (SK.plain_sort (s := { s with heap := h2, toks := tk }) (r := fun v => rank names (textAt (TS.midHeap h2 h'.objs.size (as.map Value.ref)) v)) list0 (by rw [List.length_map]; omega) (fun two Qk hQk => ?_) fun sp out o1 o2 o3 => ⟨.none, rfl, ?_⟩) (PyProof.Rows.args_list_sort _)
  · refine kind_si (s := { s with heap := TS.midHeap h2 h'.objs.size (as.map Value.ref), toks := tk }) (rk := rank names) (M := numOf ks) two (fun v hv => ?_) (fun v hv u hu => ?_) Qk hQk
    · obtain ⟨j, b, e, rfl, _, e1, e2⟩ := ofV v hv
      refine ⟨e.1, ?_⟩
      rw [numOf_mem nodN e (List.mem_of_getElem? e1)]
      exact e2
    · obtain ⟨j, b, e, rfl, _, e1, e2⟩ := ofV v hv
      obtain ⟨i, c, f, rfl, _, f1, f2⟩ := ofV u hu
      show decide ((textAt (TS.midHeap h2 h'.objs.size (as.map Value.ref)) (.ref b)).cps.toList < (textAt (TS.midHeap h2 h'.objs.size (as.map Value.ref)) (.ref c)).cps.toList) = _
      rw [e2.tx, f2.tx]
      exact rank_lt (inN e1)
  · show EP X pins σ Q (.ref h'.objs.size) { s with heap := sortedHeap h2 h'.objs.size (as.map Value.ref) out, toks := tk }
    obtain ⟨zs, pz, ez⟩ := perm_lift (fun z : Addr × Str × Int => (Value.ref z.1, Value.ref z.1)) o2 (as.zip ks) (DX.zip_self Value.ref as ks lenAK)
    have at_ : ∀ z ∈ zs, ∃ j : Nat, as[j]? = some z.1 ∧ ks[j]? = some z.2 := fun z hz => by
      obtain ⟨j, hj⟩ := List.mem_iff_getElem?.mp (pz.mem_iff.mp hz)
      exact ⟨j, List.getElem?_zip_eq_some.mp hj⟩
    have outs : out.toList = zs.map fun z => Value.ref z.1 := by
      rw [o1, ← ez, List.map_map]
      rfl
    have permK : (zs.map (·.2)).Perm ks := by
      have e := pz.map (·.2)
      rw [show (as.zip ks).map (·.2) = ks from List.map_snd_zip (Nat.le_of_eq lenAK.symm)] at e
      exact e
    have tx : ∀ z ∈ zs, textAt (TS.midHeap h2 h'.objs.size (as.map Value.ref)) (.ref z.1) = z.2.1 ∧ z.2.1 ∈ names := fun z hz => by
      obtain ⟨j, j1, j2⟩ := at_ z hz
      obtain ⟨e, e1, e2⟩ := isSI j _ j1
      have ee : e = z.2 := Option.some.inj (e1.symm.trans j2)
      exact ⟨by rw [e2.tx, ee], inN j2⟩
    have order : (zs.map (·.2)).Pairwise fun e f => ¬ f.1.cps.toList < e.1.cps.toList := by
      rw [← ez, List.pairwise_map] at o3
      rw [List.pairwise_map]
      refine List.Pairwise.imp_of_mem (fun {x y} hx hy le lt => ?_) o3
      have le2 : rank names (textAt (TS.midHeap h2 h'.objs.size (as.map Value.ref)) (.ref x.1)) ≤ rank names (textAt (TS.midHeap h2 h'.objs.size (as.map Value.ref)) (.ref y.1)) := le
      rw [(tx x hx).1, (tx y hy).1] at le2
      have lt2 := rank_lt (b := x.2.1) (tx y hy).2
      rw [decide_eq_true lt] at lt2
      have := of_decide_eq_true lt2.symm
      omega
    have kept2 : ∀ b o, b ≠ h'.objs.size → h2.get? b = some o → (sortedHeap h2 h'.objs.size (as.map Value.ref) out).get? b = some o := fun b o ne e => (PyProof.Rows.sortedHeap_old ne (Heap.lt_size e)).trans e
    have kept3 : ∀ b o, s.heap.get? b = some o → (sortedHeap h2 h'.objs.size (as.map Value.ref) out).get? b = some o := fun b o e => kept2 b o (apart _ _ (old b o e)) (kept1 _ _ (old b o e))
    obtain ⟨cap, heF⟩ := PyProof.Rows.sortedHeap_at (vs := as.map Value.ref) (out := out) list0
    have J1 : Inv X pins σ H { s with heap := sortedHeap h2 h'.objs.size (as.map Value.ref) out, toks := tk } := I.kept (t' := tk) kept3
    have free0 : H h'.objs.size = none := I.hok.fresh (Nat.le_of_lt larger)
    have short : (zs.map fun z => V.ref z.1).length ≤ sizeLine := by
      have e := permK.length_eq
      rw [List.length_map] at e
      rw [List.length_map, sizeLine_eq]
      omega
    have outV : Vals (zs.map fun z => V.ref z.1) out.toList := by
      rw [outs]
      exact vals_maps (fun z : Addr × Str × Int => V.ref z.1) (fun z => Value.ref z.1) zs fun _ _ => rfl
    have J2 : Inv X pins σ (upd H h'.objs.size (.lst (zs.map fun z => V.ref z.1))) { s with heap := sortedHeap h2 h'.objs.size (as.map Value.ref) out, toks := tk } :=
      J1.take (h' := sortedHeap h2 h'.objs.size (as.map Value.ref) out) (t' := tk) (fun b ob _ e => e) (I.fpOk (Nat.le_of_lt larger) free0) ⟨short, out.toList, cap, outV, heF⟩
    obtain ⟨H2, J3, grow, tups⟩ := DX.takeT (P := fun b ws => ∃ (j : Nat) (e : Str × Int), as[j]? = some b ∧ ks[j]? = some e ∧ ws = [V.str e.1, V.int e.2]) I as _ J2 nodA fun b hb => by
      obtain ⟨j, hj⟩ := List.mem_iff_getElem?.mp hb
      obtain ⟨e, k, x, e1, rk, rx, hg⟩ := coll j b hj
      have up : s.heap.objs.size ≤ b := Nat.le_of_lt (made.above b hb)
      refine ⟨up, ?_, [.str e.1, .int e.2], ⟨j, e, hj, e1, rfl⟩, fun H3 => ⟨by rw [sizeLine_eq]; show 2 ≤ 16777216; omega, [k, x], .cons rk (.cons rx .nil), ⟨_, kept2 _ _ (apart _ _ hg) (kept1 _ _ hg), rfl, 0, rfl⟩⟩⟩
      rw [upd_ne (apart _ _ hg)]
      exact I.hok.fresh up
    have grow2 : ∀ b o, H b = some o → H2 b = some o := fun b o e => grow b o (by rw [upd_ne (ne_of_none e free0)]; exact e)
    refine ⟨.ref h'.objs.size, H2, J3, rfl, q H2 h'.objs.size zs grow2 permK nodN order free0 (fun z hz => ?_) (grow _ _ upd_same) fun z hz => ?_⟩
    · obtain ⟨j, j1, _⟩ := at_ z hz
      exact I.hok.fresh (Nat.le_of_lt (made.above _ (List.mem_of_getElem? j1)))
    · obtain ⟨i, i1, i2⟩ := at_ z hz
      obtain ⟨ws, ⟨j, e, j1, j2, ew⟩, hH⟩ := tups z.1 (List.mem_of_getElem? i1)
      have eij : i = j := (List.getElem?_inj (List.getElem?_eq_some_iff.mp i1).1 nodA).mp (i1.trans j1.symm)
      subst eij
      have ee : e = z.2 := Option.some.inj (j2.symm.trans i2)
      rw [ew, ee] at hH
      exact hH
end KS
set_option Elab.async false
set_option linter.all false
set_option autoImplicit false
set_option maxRecDepth 100000
set_option maxHeartbeats 4000000
/-! DL14: sorted(d.items()) on data; len and truth of dicts. -/
namespace DL
open PySem PySem.Spec PyProof.Rows L2
section
variable {K : PySem.W.Frag} {W : XK} {δ : Dlt} {w : Wl} {P : PD} {Z : ZD} {te : TE} {ta : TA}
abbrev entD (e : Str × Int) : Key × D := (Sum.inr e.1, D.int e.2)
abbrev prD (e : Str × Int) : D := .tup [.str e.1, .int e.2]
theorem rpk_ents {G : Hp} : ∀ {vs : List (Key × V)} {ks : List (Str × Int)}, RpK K G vs (ks.map entD) → vs = ks.map KS.entK
  | [], [], _ => rfl
  | (a, v) :: vs, e :: ks, h => by
    obtain ⟨h1, h2, h3⟩ := h
    subst h1
    cases h2
    rw [List.map_cons, ← rpk_ents h3]
  | [], _ :: _, h => h.elim
  | _ :: _, [], h => h.elim
theorem rpa_prs {G : Hp} : ∀ {ps : List (Addr × Str × Int)}, (∀ z ∈ ps, G z.1 = some (.tup [.str z.2.1, .int z.2.2])) → RpA K G (ps.map fun z => V.ref z.1) ((ps.map (·.2)).map prD)
  | [], _ => .nil
  | z :: ps, h => .cons (.tup (.inl (.inl (h z (List.mem_cons_self ..)))) (.cons (.str _) (.cons (.int _) .nil))) (rpa_prs fun y hy => h y (List.mem_cons_of_mem _ hy))
/-- sorted(d.items()) -/
def tSortItems (K : PySem.W.Frag) (te : TE) : TE := tCB KS.rSortK (tCons (tBM0 K "dict" KS.rItemsK te) tNil)
theorem ev_sortItems (h : Ev K W te δ w (fun x w1 => ∃ (l : Addr) (ks : List (Str × Int)), x = .ptr l ∧ w1 l = some (.dK (ks.map entD)) ∧ ks.length < 64 ∧ ∀ ys : List (Str × Int), ys.Perm ks → (ks.map (·.1)).Nodup → ys.Pairwise (fun e f => ¬ f.1.cps.toList < e.1.cps.toList) → P (.lst (ys.map prD)) w1) Z) :
    Ev K W (tSortItems K te) δ w P Z :=
  fun σ H s Q q z => h σ H s _ (fun v H1 d w1 e1 c1 r1 ⟨l, ks, ex, hw, few, hp⟩ => by
    subst ex
    cases r1
    obtain ⟨vs, g1, g2⟩ := c1 l _ hw
    rw [rpk_ents g2] at g1
    refine ⟨?_, l, _, rfl, rfl, g1, fun p np => ⟨p, l, ks, rfl, upd_same, ?_, few, fun H' m ps grow perm nod ord nm nt hm ht => ?_⟩⟩
    · exact .inr (.inr (.inl ⟨rfl, .inl ⟨_, g1⟩⟩))
    · rw [upd_ne (ne_of_none g1 np)]; exact g1
    · have big : Ex H1 H' := fun b o e => grow b o (by rw [upd_ne (ne_of_none e np)]; exact e)
      obtain ⟨c2, e2⟩ := Cells.grow c1 big
      have nmH : H1 m = none := by
        cases e : H1 m with
        | none => rfl
        | some o =>
          have : upd H1 p (L2.DX.itemsO p l) m = some o := by rw [upd_ne (ne_of_none e np)]; exact e
          rw [nm] at this; cases this
      have off : ∀ {b : Addr}, upd H1 p (L2.DX.itemsO p l) b = none → H1 b = none := fun {b} e => by
        cases e2 : H1 b with
        | none => rfl
        | some o =>
          have : upd H1 p (L2.DX.itemsO p l) b = some o := by rw [upd_ne (ne_of_none e2 np)]; exact e2
          rw [e] at this; cases this
      have tups : ∀ z ∈ ps, msk w1 H' z.1 = some (.tup [.str z.2.1, .int z.2.2]) := fun z hz => msk_of (c1.free (off (nt z hz))) (ht z hz)
      exact q _ H' _ w1 (e1.trans e2) c2 (.lst (msk_of (c1.free nmH) hm) (rpa_prs tups)) (hp _ perm nod ord)) z
def rLenK : List V → Hp → VK → Prop := fun xs H Q => ∃ (a : Addr) (kvs : List (Key × V)), xs = [.ref a] ∧ H a = some (.dK kvs) ∧ Q (.int kvs.length) H
theorem cr_lenK {X : Cx} : CallR X (.builtin "len") rLenK := by
  intro pins s σ H xs us Q I r h
  obtain ⟨a, kvs, rfl, ha, q⟩ := h
  obtain rfl := Vals.ref1 r
  exact d_len I (.inl ha) fun t s' I' => ⟨.int kvs.length, H, I', ⟨t, rfl⟩, q⟩
theorem ol_lenD {l : Addr} {kvs : List (Key × D)} (hl : w l = some (.dK kvs)) (k : P (.int kvs.length) w) : OpL K rLenK [.ptr l] w P := by
  intro vs H h1 c Q q
  cases h1 with
  | cons r t =>
    cases t; cases r
    obtain ⟨ks, g1, g2⟩ := c l _ hl
    refine ⟨l, ks, rfl, g1, ?_⟩
    rw [rpk_len g2]
    exact q _ H _ w (Ex.refl _) c (.int _) k
end
section
variable {X : Cx} {K : PySem.W.Frag} {o e f i value : Expr} {to td ty tv tx : TE} {p pos pos' apos cpos : Pos}
theorem q_sortItems (hK : X.K = K) (hc : X.calm = true) (m : X.mg "sorted" = none) (hg : Gl X "sorted") (ho : PE X o to) (hbase : attributeBase o "items" X.env (eval o X.env) = eval o X.env := by rfl) (hline : (apos.endLine == cpos.line) = true := by rfl)
    (he : starEach (.Call (.Attribute o "items" apos) [] [] cpos :: []) X.env = (false, eval (.Call (.Attribute o "items" apos) [] [] cpos) X.env) :: starEach [] X.env := by rfl) (hpl : (backTo pos (starEach [] X.env)).any (·.1) = false := by rfl) :
    PE X (.Call (.Name "sorted" p) [.Call (.Attribute o "items" apos) [] [] cpos] [] pos) (tSortItems K to) := by
  subst hK
  exact pe_callB (KS.cr_sortK hc) hg m (by decide +kernel) (pa_cons (pe_bm0 PySem.F.plainAttrs_dict PySem.F.slot_dict_items PySem.F.type_dict_items KS.mt_itemsK ho hbase hline) pa_nil) (he := he) (hpl := hpl)
theorem q_lenD {es : List Expr} {t : TA} (m : X.mg "len" = none) (hg : Gl X "len") (ha : PA X (e :: es) t) (he : starEach (e :: es) X.env = (false, eval e X.env) :: starEach es X.env := by rfl) (hpl : (backTo pos (starEach es X.env)).any (·.1) = false := by rfl) :
    PE X (.Call (.Name "len" p) (e :: es) [] pos) (tCB rLenK t) := pe_callB cr_lenK hg m (by decide +kernel) ha (he := he) (hpl := hpl)
theorem q_dget (hu : X.A.units + 64 < cLine) (ho : PE X o td) (hi : PE X i ty) (hs : NoSl i) : PE X (.Subscript o i pos) (tDGet td ty) := pe_dget (by omega) ho hi hs
theorem q_dget2 (hu : X.A.units + 64 < cLine) (ho : PE X o td) (he : PE X e ty) (hf : PE X f tx) (m : M2 X o "get" apos e f cpos) : PE X (.Call (.Attribute o "get" apos) [e, f] [] cpos) (tDGet2 td ty tx) := pe_dget2 (by omega) ho he hf m
theorem q_dput (hu : X.A.units + 64 < cLine) (ho : PE X o td) (hi : PE X i ty) (hv : PE X value tv) (hs : swapsWith value (some (.Subscript o i pos')) pos.line X.env = pure false) : PS X (.Assign [.Subscript o i pos'] value pos) (sDPut td ty tv) := ps_dput (by omega) ho hi hv hs
end
end DL
set_option Elab.async false
set_option linter.all false
set_option autoImplicit false
set_option maxRecDepth 100000
set_option maxHeartbeats 4000000
/-! BH: tables of counts, runs. -/
namespace LW
open PySem PySem.Spec PyProof.Rows L2 DL
/-! ### a table of texts and ints -/
def putS (kvs : List (Str × Int)) (n : Str) (c : Int) : List (Str × Int) := if (kvs.any fun kv => decide (kv.1 = n)) = true then kvs.map (fun kv => if kv.1 = n then (kv.1, c) else kv) else kvs ++ [(n, c)]
def getS (kvs : List (Str × Int)) (n : Str) : Int := ((kvs.find? fun kv => decide (kv.1 = n)).map (·.2)).getD 0
theorem key_eq {a n : Str} : decide ((Sum.inr a : Key) = Sum.inr n) = decide (a = n) := by
  by_cases h : a = n
  · rw [decide_eq_true h, decide_eq_true (congrArg Sum.inr h)]
  · rw [decide_eq_false h, decide_eq_false fun z => h (Sum.inr.inj z)]
theorem any_ent {n : Str} : ∀ kvs : List (Str × Int), ((kvs.map entD).any fun kv => decide (kv.1 = Sum.inr n)) = kvs.any fun kv => decide (kv.1 = n)
  | [] => rfl
  | e :: r => by
    rw [List.map_cons, List.any_cons, List.any_cons, any_ent r]
    rw [show decide ((entD e).1 = Sum.inr n) = decide (e.1 = n) from key_eq]
theorem putD_ent {n : Str} {c : Int} {kvs : List (Str × Int)} : putD (kvs.map entD) (.inr n) (.int c) = (putS kvs n c).map entD := by
  unfold putD putS
  rw [any_ent]
  split
  · rw [List.map_map, List.map_map]
    refine List.map_congr_left fun e _ => ?_
    show (if (Sum.inr e.1 : Key) = Sum.inr n then ((Sum.inr e.1 : Key), D.int c) else entD e) = entD (if e.1 = n then (e.1, c) else e)
    by_cases h : e.1 = n
    · rw [if_pos h, if_pos (congrArg Sum.inr h)]
    · rw [if_neg h, if_neg fun z => h (Sum.inr.inj z)]
  · rw [List.map_append]; rfl
theorem valD_ent {n : Str} : ∀ kvs : List (Str × Int), (valD (kvs.map entD) (.inr n)).getD (.int 0) = .int (getS kvs n)
  | [] => rfl
  | e :: r => by
    have ih := valD_ent (n := n) r
    unfold valD getS at ih ⊢
    rw [List.map_cons, List.find?_cons, List.find?_cons, show decide ((entD e).1 = Sum.inr n) = decide (e.1 = n) from key_eq]
    cases decide (e.1 = n) with
    | true => rfl
    | false => exact ih
def addS (kvs : List (Str × Int)) (e : Str × Int) : List (Str × Int) := putS kvs e.1 (getS kvs e.1 + e.2)
def accS (prs : List (Str × Int)) : List (Str × Int) := prs.foldl addS []
theorem putS_len (kvs : List (Str × Int)) (n : Str) (c : Int) : kvs.length ≤ (putS kvs n c).length := by
  unfold putS
  split
  · rw [List.length_map]; exact Nat.le_refl _
  · rw [List.length_append]; omega
theorem fold_len : ∀ (prs kvs : List (Str × Int)), kvs.length ≤ (prs.foldl addS kvs).length
  | [], kvs => Nat.le_refl _
  | e :: prs, kvs => Nat.le_trans (putS_len ..) (fold_len prs _)
theorem acc_take {prs : List (Str × Int)} {i : Nat} {e : Str × Int} (h : prs[i]? = some e) : accS (prs.take (i + 1)) = addS (accS (prs.take i)) e := by
  unfold accS
  rw [List.take_add_one, h, List.foldl_append]
  rfl
theorem acc_le {prs : List (Str × Int)} (i : Nat) : (accS (prs.take i)).length ≤ (accS prs).length := by
  have e : accS prs = (prs.drop i).foldl addS (accS (prs.take i)) := by
    unfold accS
    rw [← List.foldl_append, List.take_append_drop]
  rw [e]
  exact fold_len ..
/-! ### a set of texts -/
abbrev entB (x : Str) : Key × D := (Sum.inr x, D.bl true)
def insS (ns : List Str) (n : Str) : List Str := if n ∈ ns then ns else ns ++ [n]
theorem any_entB {n : Str} : ∀ ns : List Str, ((ns.map entB).any fun kv => decide (kv.1 = Sum.inr n)) = decide (n ∈ ns)
  | [] => by simp
  | e :: r => by
    rw [List.map_cons, List.any_cons, any_entB r, show decide ((entB e).1 = Sum.inr n) = decide (e = n) from key_eq]
    by_cases h : e = n
    · subst h; simp
    · rw [decide_eq_false h, Bool.false_or]
      by_cases g : n ∈ r
      · rw [decide_eq_true g, decide_eq_true (List.mem_cons_of_mem _ g)]
      · rw [decide_eq_false g, decide_eq_false fun z => (List.mem_cons.mp z).elim (fun q => h q.symm) g]
theorem putD_entB {n : Str} {ns : List Str} : putD (ns.map entB) (.inr n) (.bl true) = (insS ns n).map entB := by
  unfold putD insS
  rw [any_entB]
  by_cases h : n ∈ ns
  · rw [if_pos (decide_eq_true h), if_pos h, List.map_map]
    refine List.map_congr_left fun e _ => ?_
    show (if (Sum.inr e : Key) = Sum.inr n then ((Sum.inr e : Key), D.bl true) else entB e) = entB e
    split <;> rfl
  · rw [if_neg (by simpa using h), if_neg h, List.map_append]; rfl
theorem insS_len (ns : List Str) (n : Str) : (insS ns n).length ≤ ns.length + 1 := by
  unfold insS
  split
  · omega
  · rw [List.length_append]; exact Nat.le_refl _
/-! ### orders -/
def goodRGo : Nat → List Str → List D → Option Nat
  | _, _, [] => none
  | i, ns, d :: ds => if i = 1000 ∨ pairD d = false then some i else if 12 < (insS ns (nmD d)).length then some i else goodRGo (i + 1) (insS ns (nmD d)) ds
def goodR (ds : List D) : Nat := (goodRGo 0 [] ds).getD ds.length
def okFineT : List D → Prop | [.tup ds] => fineA ds = true | _ => False
/-- all that was owned stays -/
def Keep (w w' : Wl) : Prop := ∀ q, w q ≠ none → w' q = w q
theorem Keep.refl (w : Wl) : Keep w w := fun _ _ => rfl
theorem Keep.trans {w w1 w2 : Wl} (h : Keep w w1) (g : Keep w1 w2) : Keep w w2 := fun q n => by
  have e := h q n
  rw [g q (by rw [e]; exact n), e]
theorem Keep.put {w w1 : Wl} {p : Addr} {c : DL.Cl} (h : Keep w w1) (f : w p = none) : Keep w (DL.put w1 p c) := fun q n => by
  have ne : q ≠ p := fun z => n (z ▸ f)
  rw [put_ne ne]
  exact h q n
def postRuns (ds : List D) (w : Wl) (d : D) (w' : Wl) : Prop := ∀ xs, ds = [.tup xs] → d = .int (goodR xs) ∧ Keep w w'
def okOrd : List D → Prop | [.tup ds] => fineA ds = true ∧ goodR ds = ds.length | _ => False
def postKeep (r : List D → D) (ds : List D) (w : Wl) (d : D) (w' : Wl) : Prop := d = r ds ∧ Keep w w'
def isOrderD : D → Bool | .tup ds => decide (goodR ds = ds.length) | _ => false
def fIsOrder : List D → D | [d] => .bl (isOrderD d) | _ => .non
/-- the pairs of a tuple of pairs -/
def prsOf (ds : List D) : List (Str × Int) := ds.map fun d => (nmD d, cntD d)
theorem prs_ent {ds : List D} (h : ∀ d ∈ ds, pairD d = true) {i : Nat} {d : D} (e : ds[i]? = some d) : ∃ n c, d = .tup [.str n, .int c] ∧ nameS n = true ∧ c ≥ 1 ∧ (prsOf ds)[i]? = some (n, c) := by
  obtain ⟨n, c, rfl, hn, hc⟩ := pairD_shape (h d (List.mem_of_getElem? e))
  refine ⟨n, c, rfl, hn, hc, ?_⟩
  unfold prsOf
  rw [List.getElem?_map, e]
  rfl
def okSum (ds : List D) (_ : Wl) : Prop := ∃ xs, ds = [.tup xs] ∧ (∀ d ∈ xs, pairD d = true) ∧ (accS (prsOf xs)).length < 64
/-- strictly ascending sums -/
def Sums (prs ys : List (Str × Int)) : Prop := ys.Perm (accS prs) ∧ asc (ys.map (·.1))
def postSum (ds : List D) (w : Wl) (d : D) (w' : Wl) : Prop := ∀ xs, ds = [.tup xs] → Keep w w' ∧ ∃ ys, d = .tup (ys.map prD) ∧ Sums (prsOf xs) ys
theorem sums_of {prs ys : List (Str × Int)} (h : ys.Perm (accS prs)) (n : ((accS prs).map (·.1)).Nodup) (o : ys.Pairwise (fun e f => ¬ f.1.cps.toList < e.1.cps.toList)) : Sums prs ys := by
  refine ⟨h, ?_⟩
  have ny : (ys.map (·.1)).Nodup := (h.map (·.1)).nodup_iff.mpr n
  unfold asc
  rw [List.pairwise_map]
  have ny' := List.pairwise_map.mp ny
  refine List.Pairwise.imp₂ (R := fun e f => ¬ f.1.cps.toList < e.1.cps.toList) (S := fun e f => e.1 ≠ f.1) ?_ o ny'
  intro a b h1 h2
  exact str_lt_of h1 fun z => h2 (str_ext z)
theorem goodRGo_pairs : ∀ {ds : List D} {i : Nat} {ns : List Str}, goodRGo i ns ds = none → ∀ d ∈ ds, pairD d = true
  | [], _, _, _, d, h => nomatch h
  | x :: ds, i, ns, h, d, hd => by
    unfold goodRGo at h
    split at h
    · cases h
    · rename_i c
      split at h
      · cases h
      · rcases List.mem_cons.mp hd with rfl | hd
        · cases e : pairD d with
          | true => rfl
          | false => exact absurd (.inr e) c
        · exact goodRGo_pairs h d hd
theorem goodRGo_le : ∀ {ds : List D} {i j : Nat} {ns : List Str}, goodRGo i ns ds = some j → i ≤ j ∧ j < i + ds.length
  | [], _, _, _, h => by cases h
  | x :: ds, i, j, ns, h => by
    unfold goodRGo at h
    split at h
    · cases h; simp
    · split at h
      · cases h; simp
      · have := goodRGo_le h
        simp only [List.length_cons]
        omega
theorem goodR_none {ds : List D} (h : goodR ds = ds.length) : goodRGo 0 [] ds = none := by
  unfold goodR at h
  cases e : goodRGo 0 [] ds with
  | none => rfl
  | some j =>
    rw [e] at h
    have := goodRGo_le e
    have h' : j = ds.length := h
    omega
theorem ord_pairs {ds : List D} (h : goodR ds = ds.length) : ∀ d ∈ ds, pairD d = true := goodRGo_pairs (goodR_none h)
theorem goodRGo_room : ∀ {ds : List D} {i : Nat} {ns : List Str}, goodRGo i ns ds = none → i ≤ 1000 → i + ds.length ≤ 1000
  | [], _, _, _, h => by simpa using h
  | x :: ds, i, ns, h, hi => by
    unfold goodRGo at h
    split at h
    · cases h
    · rename_i c
      split at h
      · cases h
      · have h1 : i ≠ 1000 := fun z => c (.inl z)
        have := goodRGo_room h (by omega)
        simp only [List.length_cons]
        omega
theorem ord_len {ds : List D} (h : goodR ds = ds.length) : ds.length ≤ 1000 := by
  have := goodRGo_room (goodR_none h) (Nat.zero_le _)
  omega
/-! neighbours joined -/
def addJ (acc : List (Str × Int)) (e : Str × Int) : List (Str × Int) := match acc.getLast? with
  | some l => if l.1 = e.1 then acc.dropLast ++ [(e.1, l.2 + e.2)] else acc ++ [e]
  | none => acc ++ [e]
def joinS (prs : List (Str × Int)) : List (Str × Int) := prs.foldl addJ []
theorem addJ_len (acc : List (Str × Int)) (e : Str × Int) : (addJ acc e).length ≤ acc.length + 1 := by
  unfold addJ
  split
  · split
    · rw [List.length_append, List.length_dropLast]; simp
    · rw [List.length_append]; exact Nat.le_refl _
  · rw [List.length_append]; exact Nat.le_refl _
theorem foldJ_len : ∀ (prs acc : List (Str × Int)), (prs.foldl addJ acc).length ≤ acc.length + prs.length
  | [], acc => Nat.le_refl _
  | e :: prs, acc => by
    have h1 := foldJ_len prs (addJ acc e)
    have h2 := addJ_len acc e
    simp only [List.foldl_cons, List.length_cons]
    omega
theorem join_take {prs : List (Str × Int)} {i : Nat} {e : Str × Int} (h : prs[i]? = some e) : joinS (prs.take (i + 1)) = addJ (joinS (prs.take i)) e := by
  unfold joinS
  rw [List.take_add_one, h, List.foldl_append]
  rfl
theorem addJ_new {acc : List (Str × Int)} {e : Str × Int} (h : ∀ l, acc.getLast? = some l → l.1 ≠ e.1) : addJ acc e = acc ++ [e] := by
  unfold addJ
  split
  · rename_i l hl
    rw [if_neg (h l hl)]
  · rfl
theorem addJ_old {acc : List (Str × Int)} {n : Str} {k c : Int} (h : acc.getLast? = some (n, k)) : addJ acc (n, c) = acc.dropLast ++ [(n, k + c)] := by
  unfold addJ
  rw [h]
  exact if_pos rfl
theorem at_last {α : Type} {xs : List α} {x : α} (h : xs.getLast? = some x) : atI xs (-1) = some x ∧ ixN xs.length (-1) = some (xs.length - 1) := by
  have ne : xs ≠ [] := fun z => by rw [z] at h; cases h
  have pos : 0 < xs.length := List.length_pos_iff.mpr ne
  have e : ixN xs.length (-1) = some (xs.length - 1) := by
    unfold ixN
    rw [if_neg (by decide), if_pos (by omega)]
    congr 1
    omega
  refine ⟨?_, e⟩
  unfold atI
  rw [e]
  simp only [Option.bind_some]
  rw [← List.getLast?_eq_getElem?]
  exact h
def fShort : List D → D | [.tup ds] => .tup ((joinS (prsOf ds)).map prD) | _ => .non
theorem set_last {α β : Type} {f : α → β} {xs : List α} {y : β} (h : xs ≠ []) : (xs.map f).set (xs.length - 1) y = xs.dropLast.map f ++ [y] := by
  obtain ⟨r, x, rfl⟩ : ∃ r x, xs = r ++ [x] := ⟨xs.dropLast, xs.getLast h, (List.dropLast_concat_getLast h).symm⟩
  rw [List.dropLast_concat, List.map_append, List.length_append]
  have e : r.length + [x].length - 1 = (r.map f).length := by simp
  rw [e, List.set_append_right _ _ (Nat.le_refl _), Nat.sub_self]
  rfl
/-! ### what the laws build: paths, tables -/
/-- runs of some words -/
def Runs (xs : List Str) (prs : List (Str × Int)) : Prop := ∀ pr ∈ prs, pr.1 ∈ xs ∧ nameS pr.1 = true ∧ 1 ≤ pr.2 ∧ pr.2 ≤ 10 ^ 30
def prePath (ds : List D) (w : Wl) : Prop := ∃ (p : Addr) (xs : List Str) (k m : Int), ds = [.ptr p, .lst (xs.map D.str), .int k, .int m] ∧ (∀ x ∈ xs, nameS x = true) ∧ 0 < xs.length ∧ xs.length ≤ 64 ∧ 0 ≤ k ∧ k ≤ 1000 ∧ 0 ≤ m ∧ m ≤ 10 ^ 30 ∧ Pl w p w
def postPath (ds : List D) (w : Wl) (d : D) (w' : Wl) : Prop := ∀ p xs k m, ds = [.ptr p, .lst (xs.map D.str), .int k, .int m] → Pm w p w' ∧ ∃ prs : List (Str × Int), d = .tup (prs.map prD) ∧ Runs xs prs ∧ (prs.length : Int) ≤ k
theorem log2_1000 {n : Int} (h0 : 0 ≤ n) (h1 : n ≤ 10000) : n.natAbs.log2 < 9000 := by
  have p30 : (10000 : Int) ≤ 10 ^ 30 := by decide +kernel
  exact log2_le30 h0 (by omega)
theorem str_inj {xs ys : List Str} (h : xs.map D.str = ys.map D.str) : xs = ys := by
  induction xs generalizing ys with
  | nil => cases ys with
    | nil => rfl
    | cons _ _ => cases h
  | cons x xs ih => cases ys with
    | nil => cases h
    | cons y ys =>
      rw [List.map_cons, List.map_cons] at h
      injection h with h1 h2
      injection h1 with h1
      rw [h1, ih h2]
def preFlat (ds : List D) (w : Wl) : Prop := ∃ (l : Addr) (kvs : List (Str × Int)), ds = [.ptr l] ∧ w l = some (.dK (kvs.map entD)) ∧ kvs.length < 64 ∧ (kvs.map (·.1)).Nodup
def postFlat (ds : List D) (w : Wl) (d : D) (w' : Wl) : Prop := w' = w ∧ ∀ (l : Addr) (kvs : List (Str × Int)), ds = [.ptr l] → w l = some (.dK (kvs.map entD)) → ∃ ys : List (Str × Int), d = .tup (ys.map prD) ∧ ys.Perm kvs ∧ asc (ys.map (·.1))
theorem getS_mem : ∀ {kvs : List (Str × Int)}, (kvs.map (·.1)).Nodup → ∀ e ∈ kvs, getS kvs e.1 = e.2
  | [], _, e, h => nomatch h
  | a :: kvs, nd, e, h => by
    rw [List.map_cons] at nd
    obtain ⟨n1, n2⟩ := List.nodup_cons.mp nd
    unfold getS
    rw [List.find?_cons]
    rcases List.mem_cons.mp h with rfl | h
    · rw [decide_eq_true rfl]; rfl
    · have ne : a.1 ≠ e.1 := fun z => n1 (z ▸ List.mem_map.mpr ⟨e, h, rfl⟩)
      rw [decide_eq_false ne]
      exact getS_mem n2 e h
theorem keys_get {kvs : List (Str × Int)} (nd : (kvs.map (·.1)).Nodup) : (kvs.map (·.1)).map (fun n => (n, getS kvs n)) = kvs := by
  rw [List.map_map]
  conv => rhs; rw [← List.map_id kvs]
  refine List.map_congr_left fun e he => ?_
  show (e.1, getS kvs e.1) = e
  rw [getS_mem nd e he]
theorem ents_inj {xs ys : List (Str × Int)} (h : xs.map entD = ys.map entD) : xs = ys := by
  induction xs generalizing ys with
  | nil => cases ys with
    | nil => rfl
    | cons _ _ => cases h
  | cons x xs ih => cases ys with
    | nil => cases h
    | cons y ys =>
      rw [List.map_cons, List.map_cons] at h
      injection h with h1 h2
      have e1 : x.1 = y.1 := Sum.inr.inj (congrArg Prod.fst h1)
      have e2 : x.2 = y.2 := by
        have := congrArg Prod.snd h1
        injection this
      rw [ih h2, show x = y from Prod.ext e1 e2]
theorem valD_mem {n : Str} : ∀ {kvs : List (Str × Int)}, n ∈ kvs.map (·.1) → valD (kvs.map entD) (.inr n) = some (.int (getS kvs n))
  | [], h => nomatch h
  | e :: r, h => by
    unfold valD getS
    rw [List.map_cons, List.find?_cons, List.find?_cons, show decide ((entD e).1 = Sum.inr n) = decide (e.1 = n) from key_eq]
    by_cases q : e.1 = n
    · rw [decide_eq_true q]; rfl
    · rw [decide_eq_false q]
      rw [List.map_cons] at h
      exact valD_mem ((List.mem_cons.mp h).resolve_left fun z => q z.symm)
end LW
set_option Elab.async false
set_option linter.all false
set_option autoImplicit false
set_option maxRecDepth 100000
set_option maxHeartbeats 4000000
/-! DL15: sorted(d); t[::-1] of a tuple. -/
namespace DL
open PySem PySem.Spec PyProof.Rows L2
section
variable {K : PySem.W.Frag} {W : XK} {δ : Dlt} {w : Wl} {P : PD} {Z : ZD} {te : TE} {ta : TA}
def rSortDK : List V → Hp → VK → Prop := fun xs H Q => ∃ (a : Addr) (kvs : List (Key × V)) (ks : List Str), xs = [.ref a] ∧ Rd H a (.dK kvs) ∧ kvs.map (·.1) = ks.map Sum.inr ∧ ks.length < 64 ∧
    ∀ ys p, ys.Perm ks → sortedS ys = true → H p = none → Q (.ref p) (upd H p (.lst (ys.map V.str)))
theorem rpk_keys {G : Hp} : ∀ {vs : List (Key × V)} {kvs : List (Key × D)}, RpK K G vs kvs → vs.map (·.1) = kvs.map (·.1)
  | [], [], _ => rfl
  | (a, _) :: vs, (b, _) :: ks, h => by
    obtain ⟨h1, _, h3⟩ := h
    subst h1
    rw [List.map_cons, List.map_cons, rpk_keys h3]
  | [], _ :: _, h => h.elim
  | _ :: _, [], h => h.elim
theorem ol_sortDK {l : Addr} {kvs : List (Key × D)} {ks : List Str} (hl : w l = some (.dK kvs)) (hk : kvs.map (·.1) = ks.map Sum.inr) (few : ks.length < 64) (k : ∀ ys : List Str, ys.Perm ks → sortedS ys = true → P (.lst (ys.map D.str)) w) : OpL K rSortDK [.ptr l] w P := by
  intro vs H h1 c Q q
  cases h1 with
  | cons r t =>
    cases t; cases r
    obtain ⟨xs, g1, g2⟩ := c l _ hl
    exact ⟨l, xs, ks, rfl, .inl g1, (rpk_keys g2).trans hk, few, fun ys p perm ord hp => kq_lst q c (rpa_ofstrs ys) (k ys perm ord) hp⟩
end
section
variable {X : Cx} {K : PySem.W.Frag} {e : Expr} {es : List Expr} {t : TA} {p pos : Pos}
theorem q_sortDK (hc : X.calm = true) (m : X.mg "sorted" = none) (hg : Gl X "sorted") (ha : PA X (e :: es) t) (he : starEach (e :: es) X.env = (false, eval e X.env) :: starEach es X.env := by rfl) (hpl : (backTo pos (starEach es X.env)).any (·.1) = false := by rfl) :
    PE X (.Call (.Name "sorted" p) (e :: es) [] pos) (tCB rSortDK t) := pe_callB (call_sortedD hc) hg m (by decide +kernel) ha (he := he) (hpl := hpl)
end
end DL
namespace TR
open PySem PySem.W PySem.Calls PyProof.Rows PyProof.V PySem.Spec HT
section
variable {prog : Program} {w : World} {A : Around} {E : Value → Shared → Prop} {s : Shared}
theorem adjust_back (n : Nat) : Builtin.Slice.sliceAdjust none none (-1) (n : Int) = ((n : Int) - 1, -1) := rfl
theorem places_back (n : Nat) : Builtin.Slice.slicePlaces ((n : Int) - 1) (-1) (-1) = n := by
  unfold Builtin.Slice.slicePlaces
  rw [if_neg (by decide)]
  by_cases h : (n : Int) - 1 > -1
  · rw [if_pos h, show (-(-1 : Int)) = 1 from rfl, Int.ediv_one]; omega
  · rw [if_neg h]; omega
theorem applied_back {sl : Addr} {vs : Value} {n : Nat} {Q : Int × Int × Nat → Shared → Prop} (hs : s.heap.IsSliceOf sl .none .none vs) (ps : IsPart vs (some (-1)))
    (h : Q ((n : Int) - 1, -1, n) s) : wpAny (model prog w) A (Builtin.Slice.sliceApplied (.ref sl) (pure (n : Int))) Q E s := by
  obtain ⟨os, ho, _, hd⟩ := id hs
  unfold Builtin.Slice.sliceApplied Builtin.Slice.sliceFields
  refine wpAny_bind (wpAny_bind (wpAny_field ho hd (x := Value.none) rfl (wpAny_bind (wpAny_field ho hd (x := Value.none) rfl (wpAny_bind (wpAny_field ho hd (x := vs) rfl (wpAny_pure ?_)))))))
  refine wpAny_bind (slicePart_ ps ?_)
  show wpAny _ _ (if ((-1 : Int) == 0) = true then _ else _) _ _ s
  rw [if_neg (by decide)]
  refine wpAny_bind (slicePart_none (wpAny_bind (slicePart_none (wpAny_bind (wpAny_pure ?_)))))
  show wpAny _ _ (match Builtin.Slice.sliceAdjust none none (-1) (n : Int) with | (lo, hi) => pure (lo, (-1 : Int), Builtin.Slice.slicePlaces lo hi (-1))) _ _ s
  rw [adjust_back]
  show wpAny _ _ (pure ((n : Int) - 1, (-1 : Int), Builtin.Slice.slicePlaces ((n : Int) - 1) (-1) (-1))) _ _ s
  rw [places_back]
  exact wpAny_pure h
theorem fm_congr {α β : Type} {f g : α → Option β} : ∀ l : List α, (∀ m ∈ l, f m = g m) → l.filterMap f = l.filterMap g
  | [], _ => rfl
  | a :: l, h => by
    rw [List.filterMap_cons, List.filterMap_cons, h a (List.mem_cons_self ..), fm_congr l fun m hm => h m (List.mem_cons_of_mem _ hm)]
theorem pick_back (xs : Array Value) : ((List.range xs.size).filterMap fun (m : Nat) => xs[((xs.size : Int) - 1 + (m : Int) * (-1)).toNat]?).toArray = xs.toList.reverse.toArray := by
  congr 1
  have e : ((List.range xs.size).filterMap fun (m : Nat) => xs[((xs.size : Int) - 1 + (m : Int) * (-1)).toNat]?) = ((List.range xs.size).map fun m => xs.size - 1 - m).filterMap (xs[·]?) := by
    rw [List.filterMap_map]
    refine fm_congr _ fun m hm => ?_
    have lt := List.mem_range.mp hm
    show xs[((xs.size : Int) - 1 + (m : Int) * (-1)).toNat]? = xs[xs.size - 1 - m]?
    have q : ((xs.size : Int) - 1 + (m : Int) * (-1)).toNat = xs.size - 1 - m := by omega
    rw [q]
  rw [e, krv_range, List.filterMap_reverse, krv_all]
theorem getItem_back {t sl : Addr} {items : Array Value} {vs : Value} {Q : Value → Shared → Prop} (ht : IsTup s.heap t items) (hs : s.heap.IsSliceOf sl .none .none vs) (ps : IsPart vs (some (-1)))
    (h : Q (.ref s.heap.objs.size) { s with heap := s.heap.push { cls := .type "tuple", data := .seq items.toList.reverse.toArray } }) (fits : items.size ≤ sizeLine) : wpAny (model prog w) A (getItem (.ref t) (.ref sl)) Q E s := by
  have ok : sizeOk (.seq items.toList.reverse.toArray) := by
    show items.toList.reverse.toArray.size ≤ sizeLine
    rw [List.size_toArray, List.length_reverse, Array.length_toList]
    exact fits
  obtain ⟨os, ho, hc, hd⟩ := id hs
  have isSlice : s.TypeIs (.ref sl) "slice" := ⟨os, ho, hc⟩
  unfold getItem
  try with_reducible refine wpAny_holding ?_
  first | refine wpAny_bind (wpAny_pure ?_) | skip
  refine wpAny_bind (wpAny_sequenceKey ht.typeIs (by decide) ?_)
  refine wpAny_bind (wpAny_callSpecial?_slot (name := Str.ofString "__getitem__") ht.typeIs PyProof.Rows.slot_tuple_getitem (wpAny_call_entry PyProof.Rows.slot_tuple_getitem ht.typeIs entry_tuple_getitem ?_ (args_tuple_getitem _ _)))
  show wpAny _ _ (Builtin.Tuple.tupleItemsOf (.ref t) >>= _) _ _ s
  refine wpAny_bind (tupleItemsOf_ ht ?_)
  refine wpAny_bind (wpAny_typeOf isSlice ?_)
  rw [if_pos (by decide)]
  refine wpAny_bind (applied_back hs ps ?_)
  have no : ¬ (((items.size : Int) - 1 == 0 && (-1 : Int) == 1 && items.size == items.size) = true) := by
    rw [Bool.and_eq_true, Bool.and_eq_true]
    rintro ⟨⟨_, z⟩, _⟩
    exact absurd z (by decide)
  show wpAny _ _ (if ((items.size : Int) - 1 == 0 && (-1 : Int) == 1 && items.size == items.size) = true then _ else _) _ _ s
  rw [if_neg no, pick_back]
  first
    | exact wpAny_bind (m := Builtin.Tuple.tupleExact _) (wpAny_newObj_type (wpAny_pure ⟨_, rfl, wpAny_pure h⟩) ok)
    | exact wpAny_bind (m := Builtin.Tuple.tupleExact _) (wpAny_newObj_type (wpAny_bind (wpAny_pure (wpAny_pure ⟨_, rfl, wpAny_pure h⟩))) ok)
    | exact wpAny_bind (wpAny_bind (m := Builtin.Tuple.tupleExact _) (wpAny_newObj_type (wpAny_pure (wpAny_pure ⟨_, rfl, wpAny_pure h⟩)) ok))
    | exact wpAny_bind (wpAny_bind (m := Builtin.Tuple.tupleExact _) (wpAny_newObj_type (wpAny_pure ⟨_, rfl, wpAny_pure h⟩) ok))
end
end TR
namespace DL
open PySem PySem.Spec PyProof.Rows L2
/-- t[::-1] of a tuple: a new one -/
def tRevT (K : PySem.W.Frag) (te : TE) : TE := fun σ H Q => te σ H fun x H1 => ∃ a xs, x = .ref a ∧ SqT K H1 a xs ∧ ∀ p, H1 p = none → Q (.ref p) (upd H1 p (.tup xs.reverse))
theorem q_revT {X : Cx} {K : PySem.W.Frag} {e : Expr} {te : TE} {k : Nat} {p1 p2 p3 pos : Pos} (hK : X.K = K) (he : PE X e te) : PE X (.Subscript e (.Slice none none (some (.UnaryOp .USub (.Constant (.int 1) k p1) p2)) p3) pos) (tRevT K te) := by
  subst hK
  refine ⟨fun pins s σ H Q I h => ?_⟩
  refine Subscript_ (thn (he.run pins s σ H _ I h) fun v s1 ⟨x, H1, I1, r1, a, xs, ex, hx, q⟩ => ?_)
  subst ex
  cases r1
  have minus : PO X (some (.UnaryOp .USub (.Constant (.int 1) k p1) p2)) (tPart (tUn (rU fun i => .int (-i)) (tC (.int 1)))) := po_some (pe_un un_neg pe_int)
  have left1 := po_none (X := X)
  refine wpAny_Slice ?_
  rw [evalPart_none]
  refine wpAny_pure ?_
  refine wpAny_pure ?_
  refine thn (minus.run pins s1 σ H1 (fun o H4 => o = some (-1) ∧ H4 = H1) I1 ⟨1, rfl, -1, rfl, rfl, rfl⟩) fun vs s4 ⟨o, H4, I4, ps, eo, e4⟩ => ?_
  subst eo e4
  have I5 : Inv X pins σ H4 { s4 with heap := s4.heap.push { cls := .type "slice", data := .fields #[.none, .none, vs] } } := I4.kept (t' := s4.toks) fun b ob q => Heap.get?_push_of_some _ q
  obtain ⟨its, r, ht, hz⟩ := I5.tuple hx
  have hlen := r.length
  show wpAny (model X.prog X.w) X.A (subscriptTail e (.Slice none none (some (.UnaryOp .USub (.Constant (.int 1) k p1) p2)) p3) (.ref a) (.ref s4.heap.objs.size)) (EP X pins σ Q) X.xe { s4 with heap := s4.heap.push { cls := .type "slice", data := .fields #[.none, .none, vs] } }
  refine tail_any (ops := [.ref a, .ref s4.heap.objs.size]) ht.typeIs (PyProof.Rows.slot_tuple_getitem.lookup) ?_ (by with_unfolding_all rfl)
  refine TR.getItem_back ht (Heap.IsSliceOf.new _ .none .none vs) ps ?_ (by rw [List.size_toArray, ← hlen]; exact hz)
  refine ⟨.ref _, _, I5.laid (t' := s4.toks) (o := .tup xs.reverse) (fun b ob q => Heap.get?_push_of_some _ q) (Nat.le_refl _) ?_, rfl, q _ (I5.hok.fresh (Nat.le_refl _))⟩
  exact ⟨by rw [List.length_reverse]; exact hz, _, r.reverse, IsTup.new _ _⟩
section
variable {K : PySem.W.Frag} {W : XK} {δ : Dlt} {w : Wl} {P : PD} {Z : ZD} {te : TE}
theorem ev_revT (h : Ev K W te δ w (fun x w1 => ∃ ds, x = .tup ds ∧ P (.tup ds.reverse) w1) Z) : Ev K W (tRevT K te) δ w P Z :=
  fun σ H s Q q z => h σ H s _ (fun v H1 d w1 e1 c1 r1 ⟨ds, ex, hp⟩ => by
    subst ex
    cases r1 with
    | tup ht hr => exact ⟨_, _, rfl, ex_t Ex.msk ht, fun p np => kq_tup (KqG.next q e1) c1 hr.reverse hp np⟩) z
end
section
variable {K : PySem.W.Frag} {w : Wl} {P : PD} {x y : D} {p : Addr}
theorem isI {C : Int → Int → Prop} {f : Int → Int → V} (h : Op2 K (rI C f) x y w P) : Op2 K (rI C f) x y w P := h
theorem isIxLo (h : Op2 K (rIxL K) (.ptr p) y w P) : Op2 K (rIxL K) (.ptr p) y w P := h
theorem isTupO (h : OpL K (rTupOf K) [.ptr p] w P) : OpL K (rTupOf K) [.ptr p] w P := h
theorem isLenD (h : OpL K rLenK [.ptr p] w P) : OpL K rLenK [.ptr p] w P := h
theorem isIxT {ds : List D} (h : Op2 K (rIxT K) (.tup ds) y w P) : Op2 K (rIxT K) (.tup ds) y w P := h
theorem isIxL {ds : List D} (h : Op2 K (rIxL K) (.lst ds) y w P) : Op2 K (rIxL K) (.lst ds) y w P := h
end
end DL
set_option Elab.async false
set_option linter.all false
set_option autoImplicit false
set_option maxRecDepth 100000
set_option maxHeartbeats 4000000
/-! BI: sums and joined neighbours, their laws. -/
namespace LW
open PySem PySem.Spec PyProof.Rows L2 DL
/-! ### tables -/
theorem getS_put (kvs : List (Str × Int)) (n : Str) (c : Int) : getS (putS kvs n c) n = c := by
  have hm : ∀ kvs : List (Str × Int), (kvs.any fun kv => decide (kv.1 = n)) = true → getS (kvs.map (fun kv => if kv.1 = n then (kv.1, c) else kv)) n = c := by
    intro kvs
    induction kvs with
    | nil => intro h; cases h
    | cons e r ih =>
      intro h
      unfold getS at ih ⊢
      rw [List.map_cons, List.find?_cons]
      by_cases q : e.1 = n
      · rw [if_pos q, decide_eq_true (show (e.1, c).1 = n from q)]; rfl
      · rw [if_neg q, decide_eq_false q]
        rw [List.any_cons, decide_eq_false q, Bool.false_or] at h
        exact ih h
  have ha : ∀ kvs : List (Str × Int), (kvs.any fun kv => decide (kv.1 = n)) = false → getS (kvs ++ [(n, c)]) n = c := by
    intro kvs
    induction kvs with
    | nil => intro h; unfold getS; rw [List.nil_append, List.find?_cons, decide_eq_true rfl]; rfl
    | cons e r ih =>
      intro h
      rw [List.any_cons, Bool.or_eq_false_iff] at h
      unfold getS at ih ⊢
      rw [List.cons_append, List.find?_cons, h.1]
      exact ih h.2
  unfold putS
  split
  · rename_i h; exact hm kvs h
  · rename_i h; exact ha kvs (Bool.eq_false_iff.mpr h)
theorem putS_any (kvs : List (Str × Int)) (n : Str) (c : Int) : ((putS kvs n c).any fun kv => decide (kv.1 = n)) = true := by
  unfold putS
  split
  · rename_i h
    obtain ⟨e, he, q⟩ := List.any_eq_true.mp h
    refine List.any_eq_true.mpr ⟨(e.1, c), List.mem_map.mpr ⟨e, he, ?_⟩, q⟩
    rw [if_pos (of_decide_eq_true q)]
  · rw [List.any_append]; simp
theorem putS_putS (kvs : List (Str × Int)) (n : Str) (c d : Int) : putS (putS kvs n c) n d = putS kvs n d := by
  have h1 := putS_any kvs n c
  have e : putS (putS kvs n c) n d = (putS kvs n c).map (fun kv => if kv.1 = n then (kv.1, d) else kv) := if_pos h1
  rw [e]
  unfold putS
  split
  · rw [List.map_map]
    refine List.map_congr_left fun e _ => ?_
    show (if (if e.1 = n then (e.1, c) else e).1 = n then ((if e.1 = n then (e.1, c) else e).1, d) else (if e.1 = n then (e.1, c) else e)) = (if e.1 = n then (e.1, d) else e)
    by_cases q : e.1 = n
    · rw [if_pos q, if_pos (show (e.1, c).1 = n from q), if_pos q]
    · rw [if_neg q, if_neg q]
  · rename_i h
    rw [List.map_append]
    congr 1
    · conv => rhs; rw [← List.map_id kvs]
      refine List.map_congr_left fun e he => ?_
      have q : e.1 ≠ n := fun z => h (List.any_eq_true.mpr ⟨e, he, decide_eq_true z⟩)
      exact if_neg q
    · show [if n = n then (n, d) else (n, c)] = [(n, d)]
      rw [if_pos rfl]
theorem addS_addS (kvs : List (Str × Int)) (n : Str) (c d : Int) : addS (addS kvs (n, c)) (n, d) = addS kvs (n, c + d) := by
  unfold addS
  show putS (putS kvs n (getS kvs n + c)) n (getS (putS kvs n (getS kvs n + c)) n + d) = putS kvs n (getS kvs n + (c + d))
  rw [putS_putS, getS_put, Int.add_assoc]
theorem acc_snoc (prs : List (Str × Int)) (e : Str × Int) : accS (prs ++ [e]) = addS (accS prs) e := by
  unfold accS
  rw [List.foldl_append]; rfl
theorem join_snoc (prs : List (Str × Int)) (e : Str × Int) : joinS (prs ++ [e]) = addJ (joinS prs) e := by
  unfold joinS
  rw [List.foldl_append]; rfl
theorem snoc_of_last {α : Type} {xs : List α} {x : α} (h : xs.getLast? = some x) : xs = xs.dropLast ++ [x] := by
  have ne : xs ≠ [] := fun z => by rw [z] at h; cases h
  have := List.dropLast_concat_getLast ne
  have e : xs.getLast? = some (xs.getLast ne) := List.getLast?_eq_some_getLast ne
  rw [e] at h
  cases h
  exact this.symm
theorem acc_addJ (acc : List (Str × Int)) (e : Str × Int) : accS (addJ acc e) = addS (accS acc) e := by
  cases hl : acc.getLast? with
  | none => rw [addJ_new fun l h => by rw [hl] at h; cases h]; exact acc_snoc ..
  | some l =>
    obtain ⟨m, k⟩ := l
    obtain ⟨n, c⟩ := e
    by_cases q : m = n
    · subst q
      rw [addJ_old hl, acc_snoc]
      conv => rhs; rw [snoc_of_last hl, acc_snoc]
      rw [addS_addS]
    · rw [addJ_new fun l h => by rw [hl] at h; cases h; exact q]; exact acc_snoc ..
theorem snoc_ind {α : Type} {P : List α → Prop} (h0 : P []) (h1 : ∀ r x, P r → P (r ++ [x])) : ∀ xs, P xs := by
  intro xs
  have : ∀ ys : List α, P ys.reverse := by
    intro ys
    induction ys with
    | nil => exact h0
    | cons y ys ih => rw [List.reverse_cons]; exact h1 _ _ ih
  have z := this xs.reverse
  rwa [List.reverse_reverse] at z
theorem acc_join (prs : List (Str × Int)) : accS (joinS prs) = accS prs := by
  refine snoc_ind (P := fun prs => accS (joinS prs) = accS prs) rfl (fun r x ih => ?_) prs
  rw [join_snoc, acc_addJ, acc_snoc, ih]
/-! neighbours of unlike names -/
inductive Nb : List (Str × Int) → Prop
  | nil : Nb []
  | snoc {r : List (Str × Int)} {e : Str × Int} : Nb r → (∀ l, r.getLast? = some l → l.1 ≠ e.1) → Nb (r ++ [e])
theorem Nb.inv {xs : List (Str × Int)} (h : Nb xs) : ∀ {r : List (Str × Int)} {e : Str × Int}, xs = r ++ [e] → Nb r ∧ ∀ l, r.getLast? = some l → l.1 ≠ e.1 := by
  cases h with
  | nil => intro r e q; exact absurd (congrArg List.length q) (by simp)
  | snoc h1 h2 =>
    intro r e q
    obtain ⟨q1, q2⟩ := List.append_inj' q rfl
    subst q1
    cases q2
    exact ⟨h1, h2⟩
theorem Nb.add {acc : List (Str × Int)} (h : Nb acc) (e : Str × Int) : Nb (addJ acc e) := by
  cases hl : acc.getLast? with
  | none =>
    have g : ∀ l, acc.getLast? = some l → l.1 ≠ e.1 := fun l h => by rw [hl] at h; cases h
    rw [addJ_new g]; exact .snoc h g
  | some l =>
    obtain ⟨m, k⟩ := l
    obtain ⟨n, c⟩ := e
    by_cases q : m = n
    · subst q
      rw [addJ_old hl]
      obtain ⟨h1, h2⟩ := h.inv (snoc_of_last hl)
      exact .snoc h1 h2
    · have g : ∀ l, acc.getLast? = some l → l.1 ≠ (n, c).1 := fun l h => by rw [hl] at h; cases h; exact q
      rw [addJ_new g]; exact .snoc h g
theorem nb_join (prs : List (Str × Int)) : Nb (joinS prs) := snoc_ind (P := fun prs => Nb (joinS prs)) .nil (fun r x ih => by rw [join_snoc]; exact ih.add x) prs
theorem Nb.join {xs : List (Str × Int)} (h : Nb xs) : joinS xs = xs := by
  induction h with
  | nil => rfl
  | snoc h g ih => rw [join_snoc, ih, addJ_new g]
theorem join_join (prs : List (Str × Int)) : joinS (joinS prs) = joinS prs := (nb_join prs).join
/-! keys -/
theorem putS_keys (kvs : List (Str × Int)) (n : Str) (c : Int) : (putS kvs n c).map (·.1) = insS (kvs.map (·.1)) n := by
  unfold putS insS
  have e : (kvs.any fun kv => decide (kv.1 = n)) = decide (n ∈ kvs.map (·.1)) := by
    rw [Bool.eq_iff_iff]
    rw [List.any_eq_true, decide_eq_true_iff, List.mem_map]
    constructor
    · rintro ⟨x, h1, h2⟩; exact ⟨x, h1, of_decide_eq_true h2⟩
    · rintro ⟨x, h1, h2⟩; exact ⟨x, h1, decide_eq_true h2⟩
  rw [e]
  by_cases h : n ∈ kvs.map (·.1)
  · rw [if_pos (decide_eq_true h), if_pos h, List.map_map]
    refine List.map_congr_left fun x _ => ?_
    show (if x.1 = n then (x.1, c) else x).1 = x.1
    split <;> rfl
  · rw [if_neg (by simpa using h), if_neg h, List.map_append]; rfl
theorem insS_nodup {ns : List Str} (h : ns.Nodup) (n : Str) : (insS ns n).Nodup := by
  unfold insS
  split
  · exact h
  · rename_i q
    rw [List.nodup_append]
    refine ⟨h, List.nodup_cons.mpr ⟨by simp, List.nodup_nil⟩, fun a ha b hb z => ?_⟩
    rw [List.mem_singleton] at hb
    exact q (by rw [← hb, ← z]; exact ha)
theorem insS_sub {ns xs : List Str} {n : Str} (h : ∀ a ∈ ns, a ∈ xs) (hn : n ∈ xs) : ∀ a ∈ insS ns n, a ∈ xs := by
  intro a ha
  unfold insS at ha
  split at ha
  · exact h a ha
  · rcases List.mem_append.mp ha with ha | ha
    · exact h a ha
    · rw [List.mem_singleton.mp ha]; exact hn
theorem acc_keys {xs : List Str} (prs : List (Str × Int)) (h : ∀ pr ∈ prs, pr.1 ∈ xs) : ((accS prs).map (·.1)).Nodup ∧ ∀ a ∈ (accS prs).map (·.1), a ∈ xs := by
  revert h
  refine snoc_ind (P := fun prs => (∀ pr ∈ prs, pr.1 ∈ xs) → ((accS prs).map (·.1)).Nodup ∧ ∀ a ∈ (accS prs).map (·.1), a ∈ xs) ?_ (fun r x ih => ?_) prs
  · intro _; exact ⟨List.nodup_nil, fun a h => nomatch h⟩
  · intro h
    obtain ⟨h1, h2⟩ := ih fun pr hp => h pr (List.mem_append_left _ hp)
    rw [acc_snoc]
    unfold addS
    rw [putS_keys]
    exact ⟨insS_nodup h1 _, insS_sub h2 (h x (List.mem_append_right _ (List.mem_singleton.mpr rfl)))⟩
theorem nodup_len {ns xs : List Str} (h : ns.Nodup) (s : ∀ a ∈ ns, a ∈ xs) : ns.length ≤ xs.length := by
  induction ns generalizing xs with
  | nil => exact Nat.zero_le _
  | cons n ns ih =>
    obtain ⟨h1, h2⟩ := List.nodup_cons.mp h
    have hn : n ∈ xs := s n (List.mem_cons_self ..)
    have := ih (xs := xs.erase n) h2 fun a ha => by
      have na : a ≠ n := fun z => by rw [z] at ha; exact h1 ha
      exact (List.mem_erase_of_ne na).mpr (s a (List.mem_cons_of_mem _ ha))
    rw [List.length_erase_of_mem hn] at this
    have pos : 0 < xs.length := List.length_pos_of_mem hn
    simp only [List.length_cons]
    omega
theorem acc_few {xs : List Str} {prs : List (Str × Int)} (h : ∀ pr ∈ prs, pr.1 ∈ xs) : (accS prs).length ≤ xs.length := by
  obtain ⟨h1, h2⟩ := acc_keys prs h
  have := nodup_len h1 h2
  rwa [List.length_map] at this
/-! two ascending arrangements -/
theorem asc_eq {ys zs : List (Str × Int)} (p : ys.Perm zs) (h1 : asc (ys.map (·.1))) (h2 : asc (zs.map (·.1))) : ys = zs := by
  unfold asc at h1 h2
  rw [List.pairwise_map] at h1 h2
  refine List.Perm.eq_of_pairwise (fun a b ha hb g1 g2 => ?_) h1 h2 p
  exact absurd (str_lt_trans g1 g2) (List.lt_irrefl _)
/-! ### a path is an order -/
theorem goodRGo_runs {xs : List Str} (hx : xs.length ≤ 12) : ∀ (prs : List (Str × Int)) (i : Nat) (ns : List Str), (∀ pr ∈ prs, pr.1 ∈ xs ∧ nameS pr.1 = true ∧ 1 ≤ pr.2) → ns.Nodup → (∀ a ∈ ns, a ∈ xs) → i + prs.length ≤ 1000 → goodRGo i ns (prs.map prD) = none
  | [], _, _, _, _, _, _ => rfl
  | (n, c) :: prs, i, ns, h, hn, hs, hl => by
    obtain ⟨g1, g2, g3⟩ := h (n, c) (List.mem_cons_self ..)
    have hp : pairD (prD (n, c)) = true := by
      show (nameS n && decide (c ≥ 1)) = true
      rw [g2, decide_eq_true g3]; rfl
    have hm : nmD (prD (n, c)) = n := rfl
    rw [List.map_cons, goodRGo, hp, hm]
    simp only [List.length_cons] at hl
    have n1 := insS_nodup hn n
    have n2 := insS_sub hs g1
    have n3 := nodup_len n1 n2
    rw [if_neg (by rintro (z | z); · omega
                   · cases z), if_neg (by omega)]
    exact goodRGo_runs hx prs (i + 1) _ (fun pr hp => h pr (List.mem_cons_of_mem _ hp)) n1 n2 (by omega)
/-- runs with sums -/
def RunsB (b : Int) (xs : List Str) (prs : List (Str × Int)) : Prop := ∀ pr ∈ prs, pr.1 ∈ xs ∧ nameS pr.1 = true ∧ 1 ≤ pr.2 ∧ pr.2 ≤ b
theorem prs_good {b : Int} {xs : List Str} {prs : List (Str × Int)} (h : RunsB b xs prs) (hx : xs.length ≤ 12) (hl : prs.length ≤ 1000) : goodR (prs.map prD) = (prs.map prD).length := by
  unfold goodR
  rw [goodRGo_runs hx prs 0 [] (fun pr hp => ⟨(h pr hp).1, (h pr hp).2.1, (h pr hp).2.2.1⟩) List.nodup_nil (fun a h => nomatch h) (by omega)]
  rfl
theorem prs_fine {b : Int} {xs : List Str} {prs : List (Str × Int)} (h : RunsB b xs prs) : fineA (prs.map prD) = true := by
  refine fineA_of fun d hd => ?_
  obtain ⟨pr, hp, rfl⟩ := List.mem_map.mp hd
  have := nameS_fine (h pr hp).2.1
  simp [prD, fine, fineA] at this ⊢
  exact this
theorem prsOf_prD (prs : List (Str × Int)) : prsOf (prs.map prD) = prs := by
  unfold prsOf
  rw [List.map_map]
  conv => rhs; rw [← List.map_id prs]
  rfl
theorem runsB_ord {b : Int} {xs : List Str} {prs : List (Str × Int)} (h : RunsB b xs prs) (hx : xs.length ≤ 12) (hl : prs.length ≤ 1000) : okOrd [.tup (prs.map prD)] := ⟨prs_fine h, prs_good h hx hl⟩
/-- sums stay below: total -/
def totS (prs : List (Str × Int)) : Int := (prs.map (·.2)).sum
theorem wr_prs {xs : List Str} {prs : List (Str × Int)} (h : RunsB (10 ^ 40) xs prs) (hl : prs.length ≤ 1000) : DL.wr (.tup (prs.map prD)) := by
  have each : ∀ d ∈ prs.map prD, small d = true ∧ deepD d ≤ 1 ∧ costD d ≤ 4000 := by
    intro d hd
    obtain ⟨pr, hp, rfl⟩ := List.mem_map.mp hd
    obtain ⟨_, h1, h2, h3⟩ := h pr hp
    have low := nameS_low h1
    have len : pr.1.length ≤ 8 := by
      unfold nameS at h1
      simp at h1
      exact h1.1
    have lg : pr.2.natAbs.log2 < 1900 := by
      have : pr.2.natAbs ≤ 10 ^ 40 := by omega
      rcases Nat.eq_zero_or_pos pr.2.natAbs with z | z
      · rw [z]; decide
      · refine (Nat.log2_lt (by omega)).mpr (Nat.lt_of_le_of_lt this (by decide +kernel))
    refine ⟨?_, ?_, ?_⟩
    · simp only [prD, small, smallA, Bool.and_true, Bool.and_eq_true, decide_eq_true_eq]
      exact ⟨by simpa using low, lg⟩
    · simp [prD, deepD, deepA]
    · simp only [prD, costD, costA]
      omega
  have h1 := smallA_of fun d hd => (each d hd).1
  have h2 := deepA_of (n := 1) fun d hd => (each d hd).2.1
  have h3 := costA_of (n := 4000) fun d hd => (each d hd).2.2
  rw [List.length_map] at h3
  refine ⟨by simp only [small]; exact h1, by simp only [deepD]; omega, ?_⟩
  simp only [costD]
  rw [sizeLine_eq]
  omega
end LW
set_option Elab.async false
set_option linter.all false
set_option autoImplicit false
set_option maxRecDepth 100000
set_option maxHeartbeats 4000000
/-! DL16: instances of own classes: made, their fields, their methods; sorted(.., reverse=True). -/
namespace DL
open PySem PySem.Spec PyProof.Rows L2

/-! ### fields on data -/
def putFD (f : Str) (d : D) : List (Str × D) → List (Str × D)
  | [] => [(f, d)]
  | (g, x) :: r => if g = f then (g, d) :: r else (g, x) :: putFD f d r
section
variable {K : PySem.W.Frag} {G : Hp}
theorem RpF.put {f : Str} {v : V} {d : D} (r : Rp K G v d) : ∀ {fs : List (Str × V)} {ds : List (Str × D)}, RpF K G fs ds → RpF K G (putF f v fs) (putFD f d ds)
  | _, _, .nil => .cons f r .nil
  | _, _, .cons n q t => by
    by_cases h : n = f
    · simp only [putF, putFD, if_pos h]; exact .cons n r t
    · simp only [putF, putFD, if_neg h]; exact .cons n q (RpF.put r t)
theorem RpF.look {f : Str} {d : D} : ∀ {fs : List (Str × V)} {ds : List (Str × D)}, RpF K G fs ds → ds.lookup f = some d → ∃ v, fs.lookup f = some v ∧ Rp K G v d
  | _, _, .nil, e => by cases e
  | _, _, .cons n q t, e => by
    simp only [List.lookup] at e ⊢
    cases h : (f == n) with
    | true => rw [h] at e; cases e; exact ⟨_, rfl, q⟩
    | false => rw [h] at e; exact RpF.look t e
theorem RpF.lookN {f : Str} : ∀ {fs : List (Str × V)} {ds : List (Str × D)}, RpF K G fs ds → ds.lookup f = none → fs.lookup f = none
  | _, _, .nil, _ => rfl
  | _, _, .cons n q t, e => by
    simp only [List.lookup] at e ⊢
    cases h : (f == n) with
    | true => rw [h] at e; cases e
    | false => rw [h] at e; exact RpF.lookN t e
theorem RpF.length : ∀ {fs : List (Str × V)} {ds : List (Str × D)}, RpF K G fs ds → fs.length = ds.length
  | _, _, .nil => rfl
  | _, _, .cons _ _ t => by simp [RpF.length t]
end
section
variable {K : PySem.W.Frag} {W : XK} {δ : Dlt} {w : Wl} {P : PD} {Z : ZD} {ta tb te tv : TE} {f : Str}
/-- x.f of an instance that stands -/
theorem ev_fld (h : Ev K W te δ w (fun x w1 => ∃ C fs d, x = .ins C fs ∧ Cls K C ∧ NoAttr K C f ∧ fs.lookup f = some d ∧ P d w1) Z) : Ev K W (tFld K te f) δ w P Z :=
  fun σ H s Q q z => h σ H s _ (fun v H1 d w1 e1 c1 r1 ⟨C, fs, d', ex, c, n, l, p⟩ => by
    subst ex
    cases r1 with
    | ins ha hf =>
      obtain ⟨u, hu, ru⟩ := hf.look l
      exact ⟨_, _, _, _, u, rfl, (msk_some ha).2, c, n, hu, q u H1 d' w1 e1 c1 ru p⟩) z
/-- an owned instance changes -/
theorem putI_ok {H : Hp} {l C dx : Addr} {gs : List (Str × V)} {fs : List (Str × D)} {cl : Cl} (c : Cells K w H) (hl : w l = some cl) (r : RpF K (msk w H) gs fs) : Ex (msk w H) (msk (put w l (.ins C fs)) (upd H l (.ins C dx gs))) ∧ Cells K (put w l (.ins C fs)) (upd H l (.ins C dx gs)) := by
  have e : Ex (msk w H) (msk (put w l (.ins C fs)) (upd H l (.ins C dx gs))) := fun a o h => by
    obtain ⟨h1, h2⟩ := msk_some h
    have n : a ≠ l := fun z => by rw [z, hl] at h1; cases h1
    exact msk_of (by rw [put_ne n]; exact h1) (by rw [upd_ne n]; exact h2)
  refine ⟨e, fun a x q => ?_⟩
  by_cases n : a = l
  · subst n
    rw [put_same] at q
    cases q
    exact ⟨dx, gs, upd_same, r.mono e⟩
  · rw [put_ne n] at q
    exact ClAt.mono e (c a x q) fun o h => by rw [upd_ne n]; exact h
/-- x.f = e, x being made -/
theorem sd_fld {nx : Dlt → Wl → Prop} {rt : PD} {bk ct : Dlt → Wl → Prop} {rz : ZD} (h : Ev K W tv δ w (fun y w1 => Ev K W ta δ w1 (fun x w2 => ∃ a C fs, x = .ptr a ∧ w2 a = some (.ins C fs) ∧ Cls K C ∧ NoAttr K C f ∧ fs.length < 1000 ∧ nx δ (put w2 a (.ins C (putFD f y fs)))) rz) rz) : Sd K W (sFld K ta tv f) δ w ⟨nx, rt, bk, ct, rz⟩ :=
  fun σ H s Dn ke => h σ H s _ (fun v H1 d w1 e1 c1 r1 h1 => h1 σ H1 (s.next e1 c1) _ (fun x H2 dx w2 e2 c2 r2 ⟨a, C, fs, ex, hw, c, n, hl, hn⟩ => by
    subst ex
    cases r2
    obtain ⟨dd, gs, g1, g2⟩ := c2 a _ hw
    obtain ⟨e4, c4⟩ := putI_ok (C := C) (dx := dd) c2 hw (RpF.put (f := f) (r1.mono e2) g2)
    refine ⟨a, C, dd, gs, rfl, g1, c, n, by rw [g2.length]; exact hl, ?_⟩
    exact ke.nx σ _ δ _ ((e1.trans e2).trans e4) (s.next ((e1.trans e2).trans e4) c4) hn) (ke.rz.next e1)) ke.rz
end

/-! ### a method, a class, by its promise -/
structure Mt0 (P : Program) (wo : World) (K : PySem.W.Frag) (mg : Str → Option Value) (base : Heap) (CX : CXT) (k : Nat) (C : Addr) (m : Str) (ps : List Str) (sp : Sp) (f : Addr) (fd : FuncData) : Prop where
  gn : Gn P wo K mg base CX k f fd ps sp
  me : Meth K C m f
  bd : Binds K fd ps []
  un : ∀ {oc : Value} {od : Option Addr} {fd2 : FuncData} {osl : Array (Option Value)}, K.lookup f = some ⟨oc, od, .func fd2, osl⟩ → fd = fd2
def Mt (P : Program) (wo : World) (K : PySem.W.Frag) (mg : Str → Option Value) (base : Heap) (CX : CXT) (k : Nat) (C : Addr) (m : Str) (ps : List Str) (sp : Sp) : Prop := ∃ f fd, Mt0 P wo K mg base CX k C m ps sp f fd
/-- where a method's def stands -/
structure MD0 (K : PySem.W.Frag) (C : Addr) (m qual : Str) (st : Stmt) (f : Addr) (fd : FuncData) : Prop where
  ex : ∃ (oc : Value) (od : Option Addr) (kV doc pm : Value) (an : Option Addr) (cdv ct : Value) (osl : Array (Option Value)),
    fd = PySem.W.fnOf m qual (defArgs st) (defBody st) (defScope st) .none kV doc pm an cdv ct ∧ K.lookup f = some ⟨oc, od, .func fd, osl⟩ ∧ PySem.W.codeIn K cdv qual = true
  me : Meth K C m f
def MD (K : PySem.W.Frag) (C : Addr) (m qual : Str) (st : Stmt) : Prop := ∃ f fd, MD0 K C m qual st f fd
abbrev BindPM (name qual : Str) (st : Stmt) (ps : List Str) : Prop := ∀ (kV doc pm : Value) (an : Option Addr) (cdv ct : Value) (us : List Value), us.length = ps.length → bindArgs (PySem.W.fnOf name qual (defArgs st) (defBody st) (defScope st) .none kV doc pm an cdv ct) ⟨us, []⟩ = pure (ps.zip us)
abbrev BindKM (name qual : Str) (st : Stmt) (ps ks : List Str) : Prop := ∀ (kV doc pm : Value) (an : Option Addr) (cdv ct : Value) (us ws : List Value), (us ++ ws).length = ps.length → us.length = 1 →
  bindArgs (PySem.W.fnOf name qual (defArgs st) (defBody st) (defScope st) .none kV doc pm an cdv ct) ⟨us, ks.zip ws⟩ = pure (ps.zip (us ++ ws))
section
variable {P : Program} {wo : World} {K : PySem.W.Frag} {mg : Str → Option Value} {base : Heap} {pre : List D → Wl → Prop} {post : List D → Wl → D → Wl → Prop}
theorem mt_ok {C : Addr} {m qual : Str} {st : Stmt} {N ps : List Str} {k : Nat} (d : MD K C m qual st) (S : FnScope N ps (defScope st)) (hb : BindPM m qual st ps) (hlen : ∀ ds w, pre ds w → ds.length = ps.length)
    (body : ∀ (f : Addr) (cdv : Value) (A : Around) (fr : List Env) (s : Shared) (H : Hp) (E : XK), A.guards = some [] → Room k (A.deeper (envOfC qual (defScope st) s.heap.objs.size f cdv)) →
      ∃ t, PSs (cxOf CX0 P wo K mg base N qual (defScope st) f cdv A fr s H E).nox (defBody st) t ∧ ∀ ds w, pre ds w → Sd K E0 t (startD N ds) w (endD post zN ds w)) : Mt P wo K mg base CX0 (k + 1) C m ps (SpD K pre post zN) := by
  obtain ⟨f, fd, F⟩ := d
  obtain ⟨oc, od, kV, doc, pm, an, cdv, ct, osl, rfl, lk, hcd⟩ := F.ex
  refine ⟨f, _, ⟨?_, F.me, .all fun us hl => hb kV doc pm an cdv ct us hl, fun {_ _ _ _} e => by
    rw [lk] at e
    injection e with e; injection e with _ _ e3; injection e3⟩⟩
  refine gn_of lk hcd S (fn_len hlen) fun A fr s H vs Q E hg hr h => ?_
  obtain ⟨ds, w, r, c, p, q, z⟩ := h
  obtain ⟨t, ht, hs⟩ := body f cdv A fr s H E hg hr
  exact ⟨t, ht.nox, hs ds w p _ H (sat_start r c) _ (ke_of q kz_none)⟩
end
/-- what of a class the makers ask: here __init__ is the method of that name -/
structure CMk (K : PySem.W.Frag) (C : Addr) : Prop where
  makes : PySem.W.makesIn K C = true
  kp : PySem.W.keepIn K (.ref C) = true
/-- o.m(k = e, ..) -/
def tMethK (C : Addr) (m : Str) (sp : Sp) (E : XK) (ta : TE) (tk : TA) : TE := fun σ H Q => ta σ H fun x H1 => ∃ a dx fs, x = .ref a ∧ H1 a = some (.ins C dx fs) ∧ fs.lookup m = none ∧ tk σ H1 fun vs H2 => sp (x :: vs) H2 Q E
section
variable {X : Cx} {CX : CXT} {k : Nat} {C : Addr} {x m : Str} {ps ks : List Str} {sp : Sp} {E : XK} {p pos apos : Pos} {e o : Expr} {es : List Expr} {kws : List Keyword} {ta : TE} {t tk : TA}
theorem guards_make {A : Around} {C : Addr} {us : List Value} {kw : List (Str × Value)} (h : A.guards = some []) : (A.under (.builtin "type.__call__" ⟨.ref C :: us, kw⟩)).guards = some [] := by
  first | exact h | (simpa [Around.under, Code.weight, Code.isCreation, Code.isGuard, Code.isCaller, Code.frames, Code.isFrame, guardIds] using h)
/-- o.m(e, ..) -/
theorem pe_mt {pl : Sem Bool} (F : Mt X.prog X.w X.K X.mg X.base CX k C m ps sp) (c : Cls X.K C) (hg : X.A.guards = some []) (hr : Room k X.A) (hx : Passes CX X E) (he : PE X o ta) (ha : PA X (e :: es) t)
    (hst : starEach (e :: es) X.env = (false, eval e X.env) :: starEach es X.env := by rfl) (hpl : (backTo pos (starEach es X.env)).any (·.1) = false := by rfl)
    (ht : eval (.Call (.Attribute o m apos) (e :: es) [] pos) X.env = (do
      let ov ← eval o X.env
      standAt apos.atName
      let (f, first) ← holding [ov] (getMethod ov m pl)
      callWith pos f first (backTo pos (starEach (e :: es) X.env)) (backToKw pos (keywordEach [] X.env))) := by rfl) :
    PE X (.Call (.Attribute o m apos) (e :: es) [] pos) (tMeth C m sp [] E ta t) := by
  obtain ⟨f, fd, F⟩ := F
  refine ⟨fun pins s σ H Q I h => ?_⟩
  refine PySem.W.methodCall_KW (pl := pl) (thn (he.run pins s σ H _ I h) fun u s1 ⟨x, H1, I1, rx, a, dx, fs, ex, ea, l, q⟩ => ?_) ht
  subst ex
  obtain rfl : u = Value.ref a := rx
  refine getmeth_ok I1 ea c F.me l ?_
  refine PySem.W.callWith_K (first := [.ref a]) (h₀ := X.base) I.ok.mod.kin F.me.kp (thn (ha.run pos pins s1 σ H1 _ I1 q) fun us s2 ⟨vs, H2, I2, r, q2⟩ => ⟨I2.kIn, ?_⟩) hst hpl
  have q' : sp (.ref a :: vs) H2 Q E := by simpa using q2
  have l : (Value.ref a :: us).length = ps.length := by
    rw [List.length_cons, ← r.length, ← List.length_cons (a := V.ref a)]; exact F.gn.ln _ _ _ _ q'
  have b := F.bd s2 (.ref a :: us) I2.kIn (by simpa using l)
  rw [List.append_nil] at b
  have rr : Vals (V.ref a :: vs) (Value.ref a :: us) := .cons rfl r
  exact gn_run (ar := ⟨.ref a :: us, []⟩) F.gn hg hr hx I2 b rr q'
/-- o.m() -/
theorem pe_mt0 {pl : Sem Bool} (F : Mt X.prog X.w X.K X.mg X.base CX k C m ps sp) (c : Cls X.K C) (hg : X.A.guards = some []) (hr : Room k X.A) (hx : Passes CX X E) (he : PE X o ta)
    (ht : eval (.Call (.Attribute o m apos) [] [] pos) X.env = (do
      let ov ← eval o X.env
      standAt apos.atName
      let (f, first) ← holding [ov] (getMethod ov m pl)
      callWith pos f first (backTo pos (starEach [] X.env)) (backToKw pos (keywordEach [] X.env))) := by rfl) :
    PE X (.Call (.Attribute o m apos) [] [] pos) (tMeth C m sp [] E ta tNil) := by
  obtain ⟨f, fd, F⟩ := F
  refine ⟨fun pins s σ H Q I h => ?_⟩
  refine PySem.W.methodCall_KW (pl := pl) (thn (he.run pins s σ H _ I h) fun u s1 ⟨x, H1, I1, rx, a, dx, fs, ex, ea, l, q⟩ => ?_) ht
  subst ex
  obtain rfl : u = Value.ref a := rx
  refine getmeth_ok I1 ea c F.me l ?_
  have q' : sp [.ref a] H1 Q E := q
  have rr : Vals [V.ref a] [Value.ref a] := .cons rfl .nil
  have l : [Value.ref a].length = ps.length := F.gn.ln _ _ _ _ q'
  have b := F.bd s1 [.ref a] I1.kIn (by simpa using l)
  rw [List.append_nil] at b
  exact PySem.W.callWith_K0 (first := [.ref a]) I1.kIn F.me.kp (gn_run (ar := ⟨[.ref a], []⟩) F.gn hg hr hx I1 b rr q')
/-- o.m(k = e) -/
theorem pe_mtk {pl : Sem Bool} {qual : Str} {st : Stmt} (F : Mt X.prog X.w X.K X.mg X.base CX k C m ps sp) (D0 : MD X.K C m qual st) (hb : BindKM m qual st ps ks) (c : Cls X.K C) (hg : X.A.guards = some []) (hr : Room k X.A) (hx : Passes CX X E) (he : PE X o ta) (hkw : PK X kws tk)
    (hall : (backToKw pos (keywordEach kws X.env)).all (·.1.isSome) = true := by rfl) (hks : (backToKw pos (keywordEach kws X.env)).filterMap (·.1) = ks := by rfl)
    (hpl : ((backTo pos (starEach [] X.env)).any (·.1) || (backToKw pos (keywordEach kws X.env)).any (·.1.isNone)) = false := by rfl)
    (ht : eval (.Call (.Attribute o m apos) [] kws pos) X.env = (do
      let ov ← eval o X.env
      standAt apos.atName
      let (f, first) ← holding [ov] (getMethod ov m pl)
      callWith pos f first (backTo pos (starEach [] X.env)) (backToKw pos (keywordEach kws X.env))) := by rfl) :
    PE X (.Call (.Attribute o m apos) [] kws pos) (tMethK C m sp E ta tk) := by
  obtain ⟨f, fd, F⟩ := F
  obtain ⟨f2, fd2, D0⟩ := D0
  have ef : f = f2 := by
    have e := F.me.at_.symm.trans D0.me.at_
    injection e with e; injection e with e; injection e
  subst ef
  refine ⟨fun pins s σ H Q I h => ?_⟩
  refine PySem.W.methodCall_KW (pl := pl) (thn (he.run pins s σ H _ I h) fun u s1 ⟨x, H1, I1, rx, a, dx, fs, ex, ea, l, q⟩ => ?_) ht
  subst ex
  obtain rfl : u = Value.ref a := rx
  refine getmeth_ok I1 ea c F.me l ?_
  refine PySem.W.callWith_KW0 (first := [.ref a]) (h₀ := X.base) I.ok.mod.kin F.me.kp hall (thn (hkw.run pos pins s1 σ H1 _ I1 q) fun ws s2 ⟨zs, H2, I2, rz, q2⟩ => ⟨I2.kIn, ?_⟩) hpl
  have rr : Vals (V.ref a :: zs) (Value.ref a :: ws) := .cons rfl rz
  have l : (Value.ref a :: ws).length = ps.length := by rw [← rr.length]; exact F.gn.ln _ _ _ _ q2
  rw [hks]
  obtain ⟨oc, od, kV, doc, pm, an, cdv, ct, osl, hfd, hlk, _⟩ := D0.ex
  have b : BindsTo s2 fd2 ⟨[.ref a], ks.zip ws⟩ (ps.zip (.ref a :: ws)) := by
    rw [hfd]
    exact .of_eq (hb kV doc pm an cdv ct [.ref a] ws l rfl)
  have efd : fd = fd2 := F.un hlk
  subst efd
  exact gn_run (ar := ⟨[.ref a], ks.zip ws⟩) F.gn hg hr hx I2 b rr q2
/-- the maker runs -/
theorem gn_make {pins : List (Addr × Obj)} {σ : L2.St} {H : Hp} {s : Shared} {Q : VK} {us : List Value} {vs : List V} (M : CMk X.K C) (F : Mt X.prog X.w X.K X.mg X.base CX k C "__init__" ps sp) (hg : X.A.guards = some []) (hr : Room (k + 1) X.A)
    (hx : Passes CX X E) (I : Inv X pins σ H s) {ar : Args} (hb : ∀ (f : Addr) (fd : FuncData) (x : Addr) (s1 : Shared), Mt0 X.prog X.w X.K X.mg X.base CX k C "__init__" ps sp f fd → X.K.In s1.heap → (Value.ref x :: us).length = ps.length → BindsTo s1 fd ⟨.ref x :: ar.pos, ar.kw⟩ (ps.zip (.ref x :: us)))
    (r : Vals vs us) (h : ∀ x dx, H x = none → H dx = none → dx ≠ x → sp (.ref x :: vs) (upd (upd H dx (.own x)) x (.ins C dx [])) (fun v H2 => v = .non ∧ Q (.ref x) H2) E) :
    wpAny (model X.prog X.w) X.A (PySem.call (.ref C) ar.pos ar.kw) (EP X pins σ Q) X.xe s := by
  obtain ⟨f, fd, F⟩ := F
  have hq := h (s.heap.objs.size + 1) s.heap.objs.size (I.hok.fresh (Nat.le_succ _)) (I.hok.fresh (Nat.le_refl _)) (Nat.ne_of_lt (Nat.lt_succ_self _))
  have I2 := Inv.made (C := C) I
  have r2 : Vals (V.ref (s.heap.objs.size + 1) :: vs) (Value.ref (s.heap.objs.size + 1) :: us) := .cons rfl r
  have hl : (Value.ref (s.heap.objs.size + 1) :: us).length = ps.length := by
    rw [← r2.length]; exact F.gn.ln _ _ _ _ hq
  refine wpAny_call (make_map (f := f) I.kIn M.makes F.me.at_ (beq_iff_eq.mp F.me.fn) (codeAny_mono (F.gn.go _ X.stack _ _ ⟨Value.ref (s.heap.objs.size + 1) :: ar.pos, ar.kw⟩ (Value.ref (s.heap.objs.size + 1) :: us) _ _ E (guards_make hg) (hr.make C ar.pos ar.kw)
    (I2.env0.make C ar.pos ar.kw) (hb f fd _ _ F I2.kIn hl) r2 hq) fun r s' hq' => ?_))
  cases r with
  | error e => exact hx pins σ _ _ e s' I2 hq'
  | ok fl =>
    cases fl with
    | ret u =>
      obtain ⟨v, H', I3, rv, ev, q3⟩ := I2.after hq'
      subst ev
      exact ⟨rv, ⟨V.ref (s.heap.objs.size + 1), H', I3, rfl, q3⟩⟩
    | next => exact False.elim hq'
    | brk => exact False.elim hq'
    | cont => exact False.elim hq'
/-- C(e, ..), every parameter given -/
theorem pe_mk (F : Mt X.prog X.w X.K X.mg X.base CX k C "__init__" ps sp) (M : CMk X.K C) (hg : X.A.guards = some []) (hr : Room (k + 1) X.A) (hgl : Gl X x) (hm : X.mg x = some (.ref C)) (hx : Passes CX X E)
    (ha : PA X (e :: es) t) (hdb : (x == ("__debug__" : Str)) = false := by decide) (he : starEach (e :: es) X.env = (false, eval e X.env) :: starEach es X.env := by rfl) (hpl : (backTo pos (starEach es X.env)).any (·.1) = false := by rfl) :
    PE X (.Call (.Name x p) (e :: es) [] pos) (tMake C sp [] E t) := by
  refine ⟨fun pins s σ H Q I h => ?_⟩
  refine wpAny_Call_Name_kw (ld_glob I hgl hm ?_ hdb)
  refine PySem.W.callWith_K (h₀ := X.base) I.ok.mod.kin M.kp (thn (ha.run pos pins s σ H _ I h) fun us s1 ⟨vs, H1, I1, r, q⟩ => ⟨I1.kIn, ?_⟩) he hpl
  refine gn_make (us := us) (vs := vs) (ar := ⟨us, []⟩) M F hg hr hx I1 (fun f fd x s1 F hk hl => ?_) r (fun x dx n1 n2 n3 => by simpa using q x dx n1 n2 n3)
  have b := F.bd s1 (.ref x :: us) hk (by simpa using hl)
  rwa [List.append_nil] at b
end
section
variable {K : PySem.W.Frag} {W : XK} {δ : Dlt} {w : Wl} {P : PD} {Z : ZD} {ta te : TE} {m : Str} {C : Addr}
theorem ev_mt {pre : List D → Wl → Prop} {post : List D → Wl → D → Wl → Prop} {E' : XK} {t : TA} (h : Ev K W te δ w (fun x w1 => ∃ fs, x = .ins C fs ∧ fs.lookup m = none ∧ EvA K W t δ w1 (fun ds w2 => pre (x :: ds) w2 ∧ ∀ d w3, post (x :: ds) w2 d w3 → P d w3) Z) Z) :
    Ev K W (tMeth C m (SpD K pre post zN) [] E' te t) δ w P Z :=
  fun σ H s Q q z => h σ H s _ (fun v H1 d w1 e1 c1 r1 ⟨fs, ex, hl, h1⟩ => by
    subst ex
    have r0 := r1
    cases r1 with
    | ins ha hf =>
      refine ⟨_, _, _, rfl, (msk_some ha).2, hf.lookN hl, ?_⟩
      refine h1 σ H1 (s.next e1 c1) _ (fun vs H2 ds w2 e2 c2 r2 ⟨h2, h3⟩ => ?_) (z.next e1)
      rw [List.append_nil]
      exact ⟨_, w2, .cons (r0.mono e2) r2, c2, h2, fun v H3 d w3 e3 c3 r3 p3 => q v H3 d w3 ((e1.trans e2).trans e3) c3 r3 (h3 d w3 p3), kz_none⟩) z
theorem ev_mtk {pre : List D → Wl → Prop} {post : List D → Wl → D → Wl → Prop} {E' : XK} {t : TA} (h : Ev K W te δ w (fun x w1 => ∃ fs, x = .ins C fs ∧ fs.lookup m = none ∧ EvA K W t δ w1 (fun ds w2 => pre (x :: ds) w2 ∧ ∀ d w3, post (x :: ds) w2 d w3 → P d w3) Z) Z) :
    Ev K W (tMethK C m (SpD K pre post zN) E' te t) δ w P Z :=
  fun σ H s Q q z => h σ H s _ (fun v H1 d w1 e1 c1 r1 ⟨fs, ex, hl, h1⟩ => by
    subst ex
    have r0 := r1
    cases r1 with
    | ins ha hf =>
      refine ⟨_, _, _, rfl, (msk_some ha).2, hf.lookN hl, ?_⟩
      refine h1 σ H1 (s.next e1 c1) _ (fun vs H2 ds w2 e2 c2 r2 ⟨h2, h3⟩ => ?_) (z.next e1)
      exact ⟨_, w2, .cons (r0.mono e2) r2, c2, h2, fun v H3 d w3 e3 c3 r3 p3 => q v H3 d w3 ((e1.trans e2).trans e3) c3 r3 (h3 d w3 p3), kz_none⟩) z
/-- an owned instance is let go: it stands from now on -/
theorem free_ins {H : Hp} {a : Addr} {fs : List (Str × D)} (c : Cells K w H) (hw : w a = some (.ins C fs)) : Ex (msk w H) (msk (cut w a) H) ∧ Cells K (cut w a) H ∧ Rp K (msk (cut w a) H) (.ref a) (.ins C fs) := by
  have e : Ex (msk w H) (msk (cut w a) H) := fun b o h => by
    obtain ⟨h1, h2⟩ := msk_some h
    refine msk_of ?_ h2
    unfold cut
    split
    · rfl
    · exact h1
  obtain ⟨dx, gs, g1, g2⟩ := c a _ hw
  refine ⟨e, fun b x q => ?_, .ins (msk_of (by unfold cut; rw [if_pos rfl]) g1) (g2.mono e)⟩
  unfold cut at q
  by_cases n : b = a
  · rw [if_pos n] at q; cases q
  · rw [if_neg n] at q
    exact ClAt.mono e (c b x q) fun o h => h
/-- a new instance, owned while __init__ runs -/
theorem new_ins {H : Hp} {x dx : Addr} (c : Cells K w H) (n1 : H x = none) (n2 : H dx = none) (n3 : dx ≠ x) : Ex (msk w H) (msk (put w x (.ins C [])) (upd (upd H dx (.own x)) x (.ins C dx []))) ∧ Cells K (put w x (.ins C [])) (upd (upd H dx (.own x)) x (.ins C dx [])) := by
  have keep : ∀ {a : Addr} {o : HO}, H a = some o → upd (upd H dx (.own x)) x (.ins C dx []) a = some o := fun {a o} h => by
    have na : a ≠ x := fun z => by rw [z, n1] at h; cases h
    have nd : a ≠ dx := fun z => by rw [z, n2] at h; cases h
    rw [upd_ne na, upd_ne nd]; exact h
  have e : Ex (msk w H) (msk (put w x (.ins C [])) (upd (upd H dx (.own x)) x (.ins C dx []))) := fun a o h => by
    obtain ⟨h1, h2⟩ := msk_some h
    have na : a ≠ x := fun z => by rw [z, n1] at h2; cases h2
    exact msk_of (by rw [put_ne na]; exact h1) (keep h2)
  refine ⟨e, fun a y q => ?_⟩
  by_cases n : a = x
  · subst n
    rw [put_same] at q
    cases q
    exact ⟨dx, [], upd_same, .nil⟩
  · rw [put_ne n] at q
    exact ClAt.mono e (c a y q) fun o h => keep h
theorem ev_mk {pre : List D → Wl → Prop} {post : List D → Wl → D → Wl → Prop} {E' : XK} {t : TA}
    (h : EvA K W t δ w (fun ds w1 => ∀ x, w1 x = none → pre (.ptr x :: ds) (put w1 x (.ins C [])) ∧ ∀ d w2, post (.ptr x :: ds) (put w1 x (.ins C [])) d w2 → d = .non ∧ ∃ fs, w2 x = some (.ins C fs) ∧ P (.ins C fs) (cut w2 x)) Z) :
    Ev K W (tMake C (SpD K pre post zN) [] E' t) δ w P Z :=
  fun σ H s Q q z => h σ H s _ (fun vs H1 ds w1 e1 c1 r1 h1 => fun x dx n1 n2 n3 => by
    obtain ⟨h2, h3⟩ := h1 x (c1.free n1)
    obtain ⟨e2, c2⟩ := new_ins (C := C) c1 n1 n2 n3
    rw [List.append_nil]
    refine ⟨.ptr x :: ds, _, .cons (.ptr x) (r1.mono e2), c2, h2, fun v H3 d w3 e3 c3 r3 p3 => ?_, kz_none⟩
    obtain ⟨rfl, fs, hw, hp⟩ := h3 d w3 p3
    obtain ⟨e4, c4, r4⟩ := free_ins c3 hw
    cases r3
    exact ⟨rfl, q _ H3 _ _ (((e1.trans e2).trans e3).trans e4) c4 r4 hp⟩) z
end
/-! ### sorted(xs, reverse=True) of ints -/
section
variable {K : PySem.W.Frag} {W : XK} {δ : Dlt} {w : Wl} {P : PD} {Z : ZD}
theorem ev_sortRev {t tk : TA} (h : EvA K W t δ w (fun xs w1 => EvA K W tk δ w1 (fun zs w2 => zs = [.bl true] ∧ ∃ ns : List Int, xs = [.lst (ns.map D.int)] ∧ ∀ ns' : List Int, ns'.Perm ns → ns'.Pairwise (· ≥ ·) → P (.lst (ns'.map D.int)) w2) Z) Z) :
    Ev K W (tCKw (rSortedKw K true [.bl true]) t tk) δ w P Z :=
  fun σ H s Q q z => h σ H s _ (fun vs H1 ds w1 e1 c1 r1 h1 => h1 σ H1 (s.next e1 c1) _ (fun zs H2 es w2 e2 c2 r2 ⟨ez, ns, ex, hp⟩ => by
    subst ez; subst ex
    cases r2 with
    | cons rb tb =>
      cases tb; cases rb
      have r1' := RpA.mono e2 r1
      cases r1' with
      | cons rl tl =>
        cases tl
        cases rl with
        | lst ht hr =>
          have e := rpa_ints hr
          subst e
          refine ⟨_, ns, rfl, rfl, SqL.of (msk_some ht).2, fun ns' p perm ord hp' => ?_⟩
          exact kq_lst (KqG.next q (e1.trans e2)) c2 (rpa_ofints ns') (hp ns' perm (by simpa [OrdB] using ord)) hp') (z.next e1)) z
theorem q_sortRev {X : Cx} {e : Expr} {es : List Expr} {kws : List Keyword} {t tk : TA} {p pos : Pos} (hK : X.K = K) (m : X.mg "sorted" = none) (hg : Gl X "sorted") (ha : PA X (e :: es) t) (hk : PK X kws tk)
    (he : backTo pos (starEach (e :: es) X.env) = (false, eval e X.env) :: backTo pos (starEach es X.env) := by rfl) (hpl : (backTo pos (starEach (e :: es) X.env)).any (·.1) = false := by rfl)
    (hall : (backToKw pos (keywordEach kws X.env)).all (·.1.isSome) = true := by rfl) (hnone : (backToKw pos (keywordEach kws X.env)).any (·.1.isNone) = false := by rfl) (hks : (backToKw pos (keywordEach kws X.env)).filterMap (·.1) = [Str.ofString "reverse"] := by rfl) :
    PE X (.Call (.Name "sorted" p) (e :: es) kws pos) (tCKw (rSortedKw K true [.bl true]) t tk) := by
  subst hK
  exact pe_callBK cr_sortedRev hg m (by kernel_rfl) ha hk (by decide) (by decide) he hpl hall hnone hks
end
section
variable {X : Cx} {K : PySem.W.Frag} {e : Expr} {ta : TE} {f : Str} {pos : Pos}
theorem q_fld (hK : X.K = K) (he : PE X e ta) (hb : attributeBase e f X.env (eval e X.env) = eval e X.env := by rfl) : PE X (.Attribute e f pos) (tFld K ta f) := by
  subst hK
  exact pe_fld he hb
end
end DL
set_option Elab.async false
set_option linter.all false
set_option autoImplicit false
set_option maxRecDepth 100000
set_option maxHeartbeats 4000000
/-! DL17: [d[k] for k in d]; a class as a value, isinstance against it. -/
namespace DL
open PySem PySem.Spec PyProof.Rows L2
section
variable {K : PySem.W.Frag} {W : XK} {δ : Dlt} {w : Wl} {P : PD} {Z : ZD}
theorem rpk_vals {G : Hp} : ∀ {ks : List (Key × V)} {kvs : List (Key × D)}, RpK K G ks kvs → RpA K G (ks.map (·.2)) (kvs.map (·.2))
  | [], [], _ => .nil
  | (_, _) :: r, (_, _) :: s, ⟨_, h, t⟩ => .cons h (rpk_vals t)
  | [], _ :: _, h => h.elim
  | _ :: _, [], h => h.elim
theorem if_yes {A B : Prop} (h : A) : (if true = true then A else B) := by rw [if_pos rfl]; exact h
theorem val_at {ks : List (Key × V)} (nd : (ks.map (·.1)).Nodup) {i : Nat} {k : Key} {v : V} (h : ks[i]? = some (k, v)) : valV ks k = some v := by
  induction ks generalizing i with
  | nil => simp at h
  | cons e r ih =>
    obtain ⟨n1, n2⟩ := List.nodup_cons.mp (by simpa using nd : (e.1 :: r.map (·.1)).Nodup)
    unfold valV at ih ⊢
    cases i with
    | zero =>
      simp at h
      subst h
      rw [List.find?_cons, decide_eq_true rfl]
      rfl
    | succ i =>
      have h' : r[i]? = some (k, v) := by simpa using h
      have ne : e.1 ≠ k := fun z => n1 (z ▸ List.mem_map.mpr ⟨(k, v), List.mem_of_getElem? h', rfl⟩)
      rw [List.find?_cons, decide_eq_false ne]
      exact ih n2 h'
theorem upd_upd_back {H : Hp} {l p : Addr} {u v a : HO} (e : H l = some u) (n : p ≠ l) : upd (upd (upd H l v) p a) l u = upd H p a := by
  funext b
  by_cases h : b = l
  · subst h; rw [upd_same, upd_ne (Ne.symm n), e]
  · rw [upd_ne h]
    by_cases g : b = p
    · subst g; rw [upd_same, upd_same]
    · rw [upd_ne g, upd_ne h, upd_ne g]
/-- [d[k] for k in d] -/
theorem ev_dvals {i j : Nat} {l : Addr} {kvs : List (Key × D)} (hv : δ[i]? = some (some (.ptr l))) (hij : i ≠ j) (hj : j < δ.length) (hw : w l = some (.dK kvs)) (nd : (kvs.map (·.1)).Nodup) (hz : kvs.length < sizeLine) (k : P (.lst (kvs.map (·.2))) w) :
    Ev K W (tLockE (tLc (iKeys (tVar i)) (gName j) tYes (tDGet (tVar i) (tVar j)) [j])) δ w P Z := by
  intro σ H s Q q z
  obtain ⟨v0, s1, s2⟩ := s.sl i _ hv
  cases s2
  obtain ⟨ks, g1, g2⟩ := s.ce l _ hw
  have nd' : (ks.map (·.1)).Nodup := by rw [rpk_keys g2]; exact nd
  refine ⟨l, .dK ks, g1, True.intro, fun od => ?_⟩
  refine ⟨.ref l, s1, l, od, rfl, .inl ⟨ks, upd_same, ?_⟩⟩
  intro D hD
  have ne : D ≠ l := fun e => by rw [e, upd_same] at hD; cases hD
  have hD' : H D = none := by rw [upd_ne ne] at hD; exact hD
  have hl : ∀ acc : List V, upd (upd H l (.frz od (.dK ks))) D (.lst acc) l = some (.frz od (.dK ks)) := fun acc => by rw [upd_ne (Ne.symm ne), upd_same]
  refine ⟨fun ix m H2 => m = ks.length - ix ∧ ix ≤ ks.length ∧ H2 = upd (upd H l (.frz od (.dK ks))) D (.lst ((ks.take ix).map (·.2))), ⟨ks.length, by simp, Nat.zero_le _, rfl⟩, ?_⟩
  rintro ix m H2 ⟨rfl, hix, rfl⟩
  by_cases hlt : ix < ks.length
  · refine .inr ⟨⟨hl _, hlt⟩, fun H3 => H3 = upd (upd H l (.frz od (.dK ks))) D (.lst ((ks.take (ix + 1)).map (·.2))), fun H3 e => ⟨ks.length - (ix + 1), by omega, rfl, hlt, e⟩, ?_⟩
    rintro x H3 ⟨rfl, k0, v, hk, rfl⟩
    have e2 : wipe ((wipe σ [j]).set j (some (kV k0))) [j] = wipe σ [j] := by rw [wipe_mem _ (List.mem_singleton.mpr rfl), wipe_idem]
    refine ⟨e2, ?_⟩
    unfold tYes
    dsimp only
    rw [if_pos rfl]
    have hi' : ((wipe σ [j]).set j (some (kV k0)))[i]? = some (some (.ref l)) := by
      rw [List.getElem?_set_ne (Ne.symm hij)]
      show (σ.set j none)[i]? = _
      rw [List.getElem?_set_ne (Ne.symm hij)]
      exact s1
    have hj' : ((wipe σ [j]).set j (some (kV k0)))[j]? = some (some (kV k0)) := by
      rw [List.getElem?_set_self]
      show j < (σ.set j none).length
      rw [List.length_set, s.len]; exact hj
    refine ⟨.ref l, hi', kV k0, hj', l, v, rfl, .inl ⟨ks, k0, .inr ⟨od, hl _⟩, rfl, (val_at nd' hk).symm⟩, ?_⟩
    refine ⟨_, upd_same, by rw [List.length_map, List.length_take, rpk_len g2]; omega, ?_⟩
    show upd (upd (upd H l _) D _) D _ = _
    funext b
    by_cases hb : b = D
    · subst hb
      rw [upd_same, upd_same, List.take_add_one, hk]
      simp
    · rw [upd_ne hb, upd_ne hb, upd_ne hb]
  · have e : ix = ks.length := by omega
    subst e
    refine .inl ⟨⟨hl _, Nat.le_refl _⟩, hl _, ?_⟩
    rw [upd_upd_back g1 ne, List.take_length]
    exact kq_lst q s.ce (rpk_vals g2) k hD'
end
/-! ### classes as values -/
/-- what is known of an own class and its plain instances -/
structure Uc (K : PySem.W.Frag) (mg : Str → Option Value) (name : Str) (C : Addr) : Prop where
  nm : mg name = some (.ref C)
  cls : Cls K C
  mkr : CMk K C
  ha : PySem.W.findIn K (.ref C) "__class__" = some (some (.builtin "object.__class__"))
  hn : PySem.W.specialIn K (.builtin "object.__class__") "__get__" = some (some (.builtin "getset_descriptor.__get__"))
  htk : PySem.W.takesIn K (.builtin "object.__class__") = some true
  hm : PySem.W.mroIn K C (.type "object") = some true
  kit : PySem.W.kitOne K (.ref C) (.ref C) = some true
section
variable {K : PySem.W.Frag} {W : XK} {δ : Dlt} {w : Wl} {P : PD} {Z : ZD} {C : Addr} {fs : List (Str × D)} {mg : Str → Option Value} {name : Str}
theorem k_cls {X : Cx} {p : Pos} (U : Uc X.K X.mg name C) (hgl : Gl X name) (hdb : (name == ("__debug__" : Str)) = false := by decide) : PE X (.Name name p) (tC (.ref C)) := pe_glob hgl U.nm rfl hdb
theorem ol_isiOwn (U : Uc K mg name C) (k : P (.bl true) w) : OpL K (rIsi K) [.ins C fs, .ptr C] w P := by
  intro vs H h1 cl Q q
  cases h1 with
  | cons h1 t1 => cases t1 with
    | cons h2 t2 =>
      cases t2; cases h2
      cases h1 with
      | ins hi hf =>
        exact ⟨_, _, .ref C, .ref C, true, rfl, .own C, .base (.ins (msk_some hi).2 U.cls U.ha U.hn U.htk U.hm), U.kit, q _ H _ w (Ex.refl _) cl (.bl _) k⟩
end
end DL
set_option Elab.async false
set_option linter.all false
set_option autoImplicit false
set_option maxRecDepth 100000
set_option maxHeartbeats 4000000
/-! DL18: methods with a default. -/
namespace DL
open PySem PySem.Spec PyProof.Rows L2
/-- a method with one default -/
structure MDD0 (K : PySem.W.Frag) (C : Addr) (m qual : Str) (st : Stmt) (f : Addr) (fd : FuncData) (u : Value) : Prop where
  ex : ∃ (oc : Value) (od : Option Addr) (T : Addr) (o : Obj) (n : Nat) (kV doc pm : Value) (an : Option Addr) (cdv ct : Value) (osl : Array (Option Value)),
    fd = PySem.W.fnOf m qual (defArgs st) (defBody st) (defScope st) (.ref T) kV doc pm an cdv ct ∧ K.lookup f = some ⟨oc, od, .func fd, osl⟩ ∧ PySem.W.codeIn K cdv qual = true ∧ K.lookup T = some o ∧ o.data = .seq #[u] n
  me : Meth K C m f
def MDD (K : PySem.W.Frag) (C : Addr) (m qual : Str) (st : Stmt) : Prop := ∃ f fd u, MDD0 K C m qual st f fd u
abbrev BindPD (name qual : Str) (st : Stmt) (ps : List Str) : Prop := ∀ (T : Addr) (u kV doc pm : Value) (an : Option Addr) (cdv ct : Value) (us : List Value), us.length = ps.length →
  ∃ k : Option (Array Value) → Sem (List (Str × Value)), bindArgs (PySem.W.fnOf name qual (defArgs st) (defBody st) (defScope st) (.ref T) kV doc pm an cdv ct) ⟨us, []⟩ = seqItems? (.ref T) >>= k ∧ k (some #[u]) = pure (ps.zip us)
section
variable {P : Program} {wo : World} {K : PySem.W.Frag} {mg : Str → Option Value} {base : Heap} {pre : List D → Wl → Prop} {post : List D → Wl → D → Wl → Prop}
theorem mt_okD {C : Addr} {m qual : Str} {st : Stmt} {N ps : List Str} {k : Nat} (d : MDD K C m qual st) (S : FnScope N ps (defScope st)) (hb : BindPD m qual st ps) (hlen : ∀ ds w, pre ds w → ds.length = ps.length)
    (body : ∀ (f : Addr) (cdv : Value) (A : Around) (fr : List Env) (s : Shared) (H : Hp) (E : XK), A.guards = some [] → Room k (A.deeper (envOfC qual (defScope st) s.heap.objs.size f cdv)) →
      ∃ t, PSs (cxOf CX0 P wo K mg base N qual (defScope st) f cdv A fr s H E).nox (defBody st) t ∧ ∀ ds w, pre ds w → Sd K E0 t (startD N ds) w (endD post zN ds w)) : Mt P wo K mg base CX0 (k + 1) C m ps (SpD K pre post zN) := by
  obtain ⟨f, fd, u, F⟩ := d
  obtain ⟨oc, od, T, o, n, kV, doc, pm, an, cdv, ct, osl, rfl, lk, hcd, lT, oT⟩ := F.ex
  refine ⟨f, _, ⟨?_, F.me, fun s us X hl => ?_, fun {_ _ _ _} e => by
    rw [lk] at e
    injection e with e; injection e with _ _ e3; injection e3⟩⟩
  · refine gn_of lk hcd S (fn_len hlen) fun A fr s H vs Q E hg hr h => ?_
    obtain ⟨ds, w, r, c, p, q, z⟩ := h
    obtain ⟨t, ht, hs⟩ := body f cdv A fr s H E hg hr
    exact ⟨t, ht.nox, hs ds w p _ H (sat_start r c) _ (ke_of q kz_none)⟩
  · rw [List.append_nil] at hl ⊢
    obtain ⟨kk, h1, h2⟩ := hb T u kV doc pm an cdv ct us hl
    exact PySem.W.binds_K X rfl lT oT h1 h2
end
end DL
set_option Elab.async false
set_option linter.all false
set_option autoImplicit false
set_option maxRecDepth 100000
set_option maxHeartbeats 4000000
/-! DL20: while; a walk over a dict that stands locked; dict(d), list(d), min of a list. -/
namespace DL
open PySem PySem.Spec PyProof.Rows L2
section
variable {K : PySem.W.Frag} {W : XK} {δ : Dlt} {w : Wl} {P : PD} {Z : ZD} {ta tb te td ty : TE} {tt : TT} {ts tu : TS} {g : TG}
/-- while -/
theorem sd_while {nx : Dlt → Wl → Prop} {rt : PD} {bk ct : Dlt → Wl → Prop} {rz : ZD} (I : Nat → Dlt → Wl → Prop) (i0 : ∃ m, I m δ w) (it : ∀ m δ' w', I m δ' w' → EvT K W tt δ' w' (fun b w1 => if b = true then Sd K W ts δ' w1 ⟨fun δ2 w2 => ∃ m', m' < m ∧ I m' δ2 w2, rt, nx, fun δ2 w2 => ∃ m', m' < m ∧ I m' δ2 w2, rz⟩ else nx δ' w1) rz) :
    Sd K W (tWhile tt ts) δ w ⟨nx, rt, bk, ct, rz⟩ := by
  intro σ H s Dn ke
  obtain ⟨m0, i0⟩ := i0
  refine ⟨fun m σ' H' => ∃ δ' w', Ex (msk w H) (msk w' H') ∧ Sat K σ' H' δ' w' ∧ I m δ' w', ⟨m0, δ, w, Ex.refl _, s, i0⟩, ?_⟩
  rintro m σ' H' ⟨δ', w', e', s', i'⟩
  refine it m δ' w' i' σ' H' s' _ (fun v H1 b w1 e1 c1 r1 h1 => ?_) (ke.rz.next e')
  subst r1
  have e01 := e'.trans e1
  cases v with
  | true =>
    rw [if_pos rfl] at h1 ⊢
    refine ⟨fun σ2 H2 => ∃ m', m' < m ∧ ∃ δ2 w2, Ex (msk w H) (msk w2 H2) ∧ Sat K σ2 H2 δ2 w2 ∧ I m' δ2 w2, fun σ2 H2 h => h, ?_⟩
    refine h1 σ' H1 (s'.next e1 c1) _ ⟨fun σ2 H2 δ2 w2 e2 s2 ⟨m', hm, i2⟩ => ⟨m', hm, δ2, w2, e01.trans e2, s2, i2⟩, KqG.next ke.rt e01, fun σ2 H2 δ2 w2 e2 s2 k => ke.nx σ2 H2 δ2 w2 (e01.trans e2) s2 k, fun σ2 H2 δ2 w2 e2 s2 ⟨m', hm, i2⟩ => ⟨m', hm, δ2, w2, e01.trans e2, s2, i2⟩, ke.rz.next e01⟩
  | false =>
    rw [if_neg (by decide)] at h1 ⊢
    exact ke.nx σ' H1 δ' w1 e01 (s'.next e1 c1) h1
/-! ### a dict that is walked -/
def IsF (c : Cl) (kvs : List (Key × D)) : Prop := ∃ o ks, c = .dF o ks kvs
theorem putF_ok {H : Hp} {l : Addr} {o : Obj} {ks : List (Key × V)} {kvs : List (Key × D)} {cl : Cl} (c : Cells K w H) (hl : w l = some cl) (r : RpK K (msk w H) ks kvs) : Ex (msk w H) (msk (put w l (.dF o ks kvs)) (upd H l (.frz o (.dK ks)))) ∧ Cells K (put w l (.dF o ks kvs)) (upd H l (.frz o (.dK ks))) := by
  have e : Ex (msk w H) (msk (put w l (.dF o ks kvs)) (upd H l (.frz o (.dK ks)))) := fun a u h => by
    obtain ⟨h1, h2⟩ := msk_some h
    have n : a ≠ l := fun z => by rw [z, hl] at h1; cases h1
    exact msk_of (by rw [put_ne n]; exact h1) (by rw [upd_ne n]; exact h2)
  refine ⟨e, fun a x q => ?_⟩
  by_cases n : a = l
  · subst n
    rw [put_same] at q
    cases q
    exact ⟨upd_same, r.mono e⟩
  · rw [put_ne n] at q
    exact ClAt.mono e (c a x q) fun o h => by rw [upd_ne n]; exact h
/-- d[k], there, d being walked -/
theorem ev_dgetF (h : Ev K W td δ w (fun x w1 => Ev K W ty δ w1 (fun y w2 => ∃ l c kvs k d, x = .ptr l ∧ w2 l = some c ∧ IsF c kvs ∧ y = kD k ∧ valD kvs k = some d ∧ P d w2) Z) Z) : Ev K W (tDGet td ty) δ w P Z :=
  fun σ H s Q q z => h σ H s _ (fun v H1 d1 w1 e1 c1 r1 h1 => h1 σ H1 (s.next e1 c1) _ (fun u H2 d2 w2 e2 c2 r2 ⟨l, c, kvs, k, d, ex, hw, hf, ey, hv, hp⟩ => by
    subst ex; subst ey
    obtain ⟨o, ks, rfl⟩ := hf
    cases r1
    obtain ⟨g1, g2⟩ := c2 l _ hw
    rcases rpk_val (k := k) g2 with ⟨_, b⟩ | ⟨v', d', a, b, r⟩
    · rw [hv] at b; cases b
    · rw [hv] at b; cases b
      refine ⟨l, v', rfl, ?_, q v' H2 _ w2 (e1.trans e2) c2 r hp⟩
      rw [rp_kD r2, ← a]
      exact .inl ⟨ks, k, .inr ⟨o, g1⟩, rfl, rfl⟩) (z.next e1)) z
/-- for k in d, d standing still -/
theorem sd_lockFor {nx : Dlt → Wl → Prop} {rt : PD} {bk ct : Dlt → Wl → Prop} {i : Nat} {l : Addr} {kvs : List (Key × D)} (hv : δ[i]? = some (some (.ptr l))) (hw : w l = some (.dK kvs))
    (h : ∀ c : Cl, IsF c kvs → ∃ I : Nat → Dlt → Wl → Prop, I 0 δ (put w l c) ∧
      (∀ (ix : Nat) (k : Key) (d : D) (δ' : Dlt) (w' : Wl), kvs[ix]? = some (k, d) → w' l = some c → I ix δ' w' → Gd K W g (kD k) δ' w' (fun δ2 w2 => Sd K W ts δ2 w2 ⟨fun δ3 w3 => w3 l = some c ∧ I (ix + 1) δ3 w3, fun d w3 => w3 l = some c ∧ rt d (put w3 l (.dK kvs)), fun δ3 w3 => w3 l = some c ∧ nx δ3 (put w3 l (.dK kvs)), fun δ3 w3 => w3 l = some c ∧ I (ix + 1) δ3 w3, z0⟩) z0) ∧
      (∀ δ' w', w' l = some c → I kvs.length δ' w' → nx δ' (put w' l (.dK kvs)))) : Sd K W (tLock (tFor (iKeys (tVar i)) g ts)) δ w ⟨nx, rt, bk, ct, z0⟩ := by
  intro σ H s Dn ke
  obtain ⟨v0, s1, s2⟩ := s.sl i _ hv
  cases s2
  obtain ⟨ks, g1, g2⟩ := s.ce l _ hw
  refine ⟨l, .dK ks, g1, True.intro, fun od => ?_⟩
  obtain ⟨I, i0, it, iN⟩ := h (.dF od ks kvs) ⟨od, ks, rfl⟩
  obtain ⟨e1, c1⟩ := putF_ok (o := od) s.ce hw g2
  have back : ∀ {σ' : L2.St} {H' : Hp} {δ' : Dlt} {w' : Wl}, w' l = some (.dF od ks kvs) → Ex (msk w H) (msk w' H') → Sat K σ' H' δ' w' → H' l = some (.frz od (.dK ks)) ∧ Ex (msk w H) (msk (put w' l (.dK kvs)) (upd H' l (.dK ks))) ∧ Sat K σ' (upd H' l (.dK ks)) δ' (put w' l (.dK kvs)) := fun {σ' H' δ' w'} hl e' s' => by
    obtain ⟨q1, q2⟩ := s'.ce l _ hl
    obtain ⟨e4, c4⟩ := putK_ok (o := .dK ks) s'.ce hl q2
    exact ⟨q1, e'.trans e4, s'.next e4 c4⟩
  have len := rpk_len g2
  refine ⟨.ref l, s1, l, od, rfl, .inl ⟨ks, upd_same, ?_⟩⟩
  refine ⟨fun ix m σ' H' => m = ks.length - ix ∧ ix ≤ ks.length ∧ ∃ δ' w', w' l = some (.dF od ks kvs) ∧ Ex (msk w H) (msk w' H') ∧ Sat K σ' H' δ' w' ∧ I ix δ' w', ⟨ks.length, by simp, Nat.zero_le _, δ, _, put_same, e1, s.next e1 c1, i0⟩, ?_⟩
  rintro ix m σ' H' ⟨rfl, hix, δ', w', hl, e', s', p⟩
  obtain ⟨q1, e2, s2⟩ := back hl e' s'
  by_cases hlt : ix < ks.length
  · refine .inr ⟨⟨q1, hlt⟩, fun σ2 H2 => ∃ δ2 w2, w2 l = some (.dF od ks kvs) ∧ Ex (msk w H) (msk w2 H2) ∧ Sat K σ2 H2 δ2 w2 ∧ I (ix + 1) δ2 w2, fun σ2 H2 h2 => ⟨ks.length - (ix + 1), by omega, rfl, hlt, h2⟩, ?_⟩
    rintro x H2 ⟨rfl, k0, v, hk, rfl⟩
    have hk' : ∃ d, kvs[ix]? = some (k0, d) := by
      have hkl : ix < kvs.length := by omega
      have e := rpk_keys g2
      have := congrArg (fun z => z[ix]?) e
      simp only [List.getElem?_map, hk, Option.map_some] at this
      rw [List.getElem?_eq_getElem hkl] at this ⊢
      simp only [Option.map_some, Option.some.injEq] at this
      exact ⟨kvs[ix].2, by rw [this]⟩
    obtain ⟨d0, hk'⟩ := hk'
    refine it ix k0 d0 δ' w' hk' hl p (kV k0) σ' _ (rp_kV k0) s' _ (fun σ3 H3 δ3 w3 e3 s3 k => ?_) Kz.zero
    refine k σ3 H3 s3 _ ⟨fun σ4 H4 δ4 w4 e4 s4 ⟨k4, k5⟩ => ⟨δ4, w4, k4, (e'.trans e3).trans e4, s4, k5⟩, fun v4 H4 d4 w4 e4 c4 r4 ⟨k4, k5⟩ => ?_, fun σ4 H4 δ4 w4 e4 s4 ⟨k4, k5⟩ => ?_, fun σ4 H4 δ4 w4 e4 s4 ⟨k4, k5⟩ => ⟨δ4, w4, k4, (e'.trans e3).trans e4, s4, k5⟩, Kz.zero⟩
    · obtain ⟨q4, q5⟩ := c4 l _ k4
      obtain ⟨e6, c6⟩ := putK_ok (o := .dK ks) c4 k4 q5
      exact ⟨q4, ke.rt v4 _ d4 _ (((e'.trans e3).trans e4).trans e6) c6 (r4.mono e6) k5⟩
    · obtain ⟨q4, e5, s5⟩ := back k4 ((e'.trans e3).trans e4) s4
      exact ⟨q4, ke.nx σ4 _ δ4 _ e5 s5 k5⟩
  · have e : ix = ks.length := by omega
    subst e
    refine .inl ⟨⟨q1, Nat.le_refl _⟩, q1, ?_⟩
    exact ke.nx σ' _ δ' _ e2 s2 (iN δ' w' hl (by rw [← len]; exact p))
end
end DL
set_option Elab.async false
set_option linter.all false
set_option autoImplicit false
set_option maxRecDepth 100000
set_option maxHeartbeats 4000000
/-! DL21: dict(d), list(d), min(xs), xs[::-1], a, b = xs, in a dict. -/
namespace DL
open PySem PySem.Spec PyProof.Rows L2
def rDictD : List V → Hp → VK → Prop := fun xs H Q => ∃ (a : Addr) (kvs : List (Key × V)), xs = [.ref a] ∧ Rd H a (.dK kvs) ∧ ∀ p, H p = none → Q (.ref p) (upd H p (.dK kvs))
def rListDK : List V → Hp → VK → Prop := fun xs H Q => ∃ (a : Addr) (kvs : List (Key × V)), xs = [.ref a] ∧ Rd H a (.dK kvs) ∧ ∀ p, H p = none → Q (.ref p) (upd H p (.lst (kvs.map fun kv => kV kv.1)))
section
variable {X : Cx} {K : PySem.W.Frag} {e o i : Expr} {es : List Expr} {t : TA} {td ty te : TE} {p pos : Pos}
theorem q_dictD (m : X.mg "dict" = none) (hg : Gl X "dict") (ha : PA X (e :: es) t) (he : starEach (e :: es) X.env = (false, eval e X.env) :: starEach es X.env := by rfl) (hpl : (backTo pos (starEach es X.env)).any (·.1) = false := by rfl) :
    PE X (.Call (.Name "dict" p) (e :: es) [] pos) (tCB rDictD t) := pe_callTy call_dictD hg m (by decide +kernel) ha (by decide) (by decide) he hpl
theorem q_listDK (hc : X.calm = true) (m : X.mg "list" = none) (hg : Gl X "list") (ha : PA X (e :: es) t) (he : starEach (e :: es) X.env = (false, eval e X.env) :: starEach es X.env := by rfl) (hpl : (backTo pos (starEach es X.env)).any (·.1) = false := by rfl) :
    PE X (.Call (.Name "list" p) (e :: es) [] pos) (tCB rListDK t) := pe_callTy (call_listD hc) hg m (by decide +kernel) ha (by decide) (by decide) he hpl
theorem q_minL (hK : X.K = K) (hc : X.calm = true) (m : X.mg "min" = none) (hg : Gl X "min") (ha : PA X (e :: es) t) (he : starEach (e :: es) X.env = (false, eval e X.env) :: starEach es X.env := by rfl) (hpl : (backTo pos (starEach es X.env)).any (·.1) = false := by rfl) :
    PE X (.Call (.Name "min" p) (e :: es) [] pos) (tCB (rMin K) t) := by subst hK; exact pe_callB (cr_min hc) hg m boot_min ha (by decide) (by decide) he hpl
theorem q_dnotin (hu : X.A.units + 64 < cLine) (hi : PE X i ty) (ho : PE X o td) (h1 : behindInMarks .NotIn o = false := by rfl) : PT X (.Compare i [.NotIn] [o] pos) (tB (tDNotIn ty td)) := pt_cmp (pc_dnotin (by omega) hi ho) h1
theorem q_din (hu : X.A.units + 64 < cLine) (hi : PE X i ty) (ho : PE X o td) (h1 : behindInMarks .In o = false := by rfl) : PT X (.Compare i [.In] [o] pos) (tB (tDIn ty td)) := pt_cmp (pc_din (by omega) hi ho) h1
theorem qg_lst {k n : Nat} {u : TGs} {es : List Expr} (hK : X.K = K) (hc : X.calm = true) (h : PGs X es u) (hn : (assignEach es X.env).length = n) (hst : (assignEach es X.env).findIdx? (·.1) = none := by rfl) : PG X (.Tuple es k pos) (gLst K n u) := by subst hK; exact pg_lst hc h hn hst
theorem q_revL {e : Expr} {te : TE} {k : Nat} {p1 p2 p3 pos : Pos} (hK : X.K = K) (he : PE X e te) : PE X (.Subscript e (.Slice none none (some (.UnaryOp .USub (.Constant (.int 1) k p1) p2)) p3) pos) (tRevL K te) := by subst hK; exact pe_revL he
end
section
variable {K : PySem.W.Frag} {W : XK} {δ : Dlt} {w : Wl} {P : PD} {Z : ZD} {te : TE}
theorem ol_dictD {l : Addr} {kvs : List (Key × D)} (hl : w l = some (.dK kvs)) (k : ∀ p, w p = none → P (.ptr p) (put w p (.dK kvs))) : OpL K rDictD [.ptr l] w P := by
  intro vs H h1 c Q q
  cases h1 with
  | cons r t =>
    cases t; cases r
    obtain ⟨ks, g1, g2⟩ := c l _ hl
    refine ⟨l, ks, rfl, .inl g1, fun p hp => ?_⟩
    obtain ⟨e, c'⟩ := ownK_ok (kvs := kvs) c g2 hp
    exact q _ _ _ _ e c' (.ptr p) (k p (c.free hp))
theorem rpa_keys {G : Hp} : ∀ {ks : List (Key × V)} {kvs : List (Key × D)}, RpK K G ks kvs → RpA K G (ks.map fun kv => kV kv.1) (kvs.map fun kv => kD kv.1)
  | [], [], _ => .nil
  | (_, _) :: r, (_, _) :: s, ⟨h, _, t⟩ => by
    have h' := h
    subst h'
    exact .cons (rp_kV _) (rpa_keys t)
  | [], _ :: _, h => h.elim
  | _ :: _, [], h => h.elim
theorem ol_listDK {l : Addr} {kvs : List (Key × D)} (hl : w l = some (.dK kvs)) (k : P (.lst (kvs.map fun kv => kD kv.1)) w) : OpL K rListDK [.ptr l] w P := by
  intro vs H h1 c Q q
  cases h1 with
  | cons r t =>
    cases t; cases r
    obtain ⟨ks, g1, g2⟩ := c l _ hl
    exact ⟨l, ks, rfl, .inl g1, fun p hp => kq_lst q c (rpa_keys g2) k hp⟩
theorem ol_minL {ns : List Int} (hn : 0 < ns.length) (k : ∀ m, m ∈ ns → (∀ y ∈ ns, m ≤ y) → P (.int m) w) : OpL K (rMin K) [.lst (ns.map D.int)] w P := by
  intro vs H h1 c Q q
  cases h1 with
  | cons r t =>
    cases t
    cases r with
    | lst ht hr =>
      have e := rpa_ints hr
      subst e
      exact ⟨_, ns, rfl, SqL.of (msk_some ht).2, hn, fun m h1 h2 => q _ H _ w (Ex.refl _) c (.int m) (k m h1 h2)⟩
theorem gd_lst {n : Nat} {t : TGs} {ds : List D} {P : Dlt → Wl → Prop} (hn : ds.length = n) (h : Gds K W t ds δ w P Z) : Gd K W (gLst K n t) (.lst ds) δ w P Z := by
  intro v σ H r s Q q z
  cases r with
  | lst ht hr => exact ⟨_, _, rfl, SqL.of (msk_some ht).2, by rw [hr.length]; exact hn, h _ σ H hr s Q q z⟩
end
def kgR {α : Type} : List α → List α → List α
  | [], [a, b, c] => [c, b, a]
  | _, _ => []
theorem kgR_ok : KwG @kgR := ⟨fun h1 h2 => by
  cases h1 with
  | nil => cases h2 with
    | nil => exact .nil
    | cons r t => cases t with
      | nil => exact .nil
      | cons r2 t2 => cases t2 with
        | nil => exact .nil
        | cons r3 t3 => cases t3 with
          | nil => exact .cons r3 (.cons r2 (.cons r .nil))
          | cons _ _ => exact .nil
  | cons _ _ => cases h2 with
    | nil => exact .nil
    | cons r t => cases t with
      | nil => exact .nil
      | cons _ t2 => cases t2 with
        | nil => exact .nil
        | cons _ t3 => cases t3 <;> exact .nil⟩
end DL
set_option Elab.async false
set_option linter.all false
set_option autoImplicit false
set_option maxRecDepth 100000
set_option maxHeartbeats 4000000
/-! BJ: the laws about orders. -/
namespace DL
open PySem PySem.Spec PyProof.Rows L2
mutual
theorem py_plain : ∀ d : D, (py d).plain = true
  | .non => by simp [py, PyData.plain]
  | .bl _ => by simp [py, PyData.plain]
  | .str _ => by simp [py, PyData.plain]
  | .int _ => by simp [py, PyData.plain]
  | .lst ds => by simp only [py, PyData.plain]; exact pyA_plain ds
  | .tup ds => by simp only [py, PyData.plain]; exact pyA_plain ds
  | .byt _ => by simp [py, PyData.plain]
  | .ty _ => by simp [py, PyData.plain]
  | .ptr _ => by simp [py, PyData.plain]
  | .btp _ => by simp [py, PyData.plain]
  | .ins _ _ => by simp [py, PyData.plain]
theorem pyA_plain : ∀ ds : List D, PyData.plainAll (pyA ds) = true
  | [] => by simp [pyA, PyData.plainAll]
  | d :: ds => by simp [pyA, PyData.plainAll, py_plain d, pyA_plain ds]
end
/-! == of any plain data, whatever their texts -/
def rEqP (K : PySem.W.Frag) : R2 := fun x y H Q => ∃ d e, Dp K H x d ∧ Dp K H y e ∧ d.plain = true ∧ e.plain = true ∧ d.depth ≤ 64 ∧ Q (.bl (PyData.eqv d e)) H
def rNeP (K : PySem.W.Frag) : R2 := fun x y H Q => ∃ d e, Dp K H x d ∧ Dp K H y e ∧ d.plain = true ∧ e.plain = true ∧ d.depth ≤ 64 ∧ Q (.bl (!PyData.eqv d e)) H
section
variable {X : Cx} {K : PySem.W.Frag}
theorem qo_eqP (hK : X.K = K) (hu : X.A.units + 64 < cLine) : OpR X (compareOp .Eq) (rEqP K) := by
  subst hK
  intro pins s σ H x y v u Q I rx ry h
  obtain ⟨d, e, hd, he, sd, se, dp, q⟩ := h
  obtain ⟨as, r1⟩ := Dp.reads I d x v hd rx
  obtain ⟨bs, r2⟩ := Dp.reads I e y u he ry
  exact SeqAt.eq_plain r1 r2 sd se (by have := Nat.min_le_left d.depth e.depth; omega) ⟨.bl _, H, I, rfl, q⟩
theorem qo_neP (hK : X.K = K) (hu : X.A.units + 64 < cLine) : OpR X (compareOp .NotEq) (rNeP K) := by
  subst hK
  intro pins s σ H x y v u Q I rx ry h
  obtain ⟨d, e, hd, he, sd, se, dp, q⟩ := h
  obtain ⟨as, r1⟩ := Dp.reads I d x v hd rx
  obtain ⟨bs, r2⟩ := Dp.reads I e y u he ry
  exact SeqAt.ne_plain r1 r2 sd se (by have := Nat.min_le_left d.depth e.depth; omega) ⟨.bl _, H, I, rfl, q⟩
end
section
variable {K : PySem.W.Frag} {W : XK} {w : Wl} {P : PD}
theorem o2_eqP {x y : D} (hx : isPy x = true) (hy : isPy y = true) (hd : deepD x ≤ 64) (k : P (.bl (PyData.eqv (py x) (py y))) w) : Op2 K (rEqP K) x y w P := by
  intro v u H h1 h2 c Q q
  exact ⟨py x, py y, Dp.mono' Ex.msk h1 hx, Dp.mono' Ex.msk h2 hy, py_plain x, py_plain y, by rw [py_depth]; exact hd, q _ H _ w (Ex.refl _) c (.bl _) k⟩
theorem o2_neP {x y : D} (hx : isPy x = true) (hy : isPy y = true) (hd : deepD x ≤ 64) (k : P (.bl (!PyData.eqv (py x) (py y))) w) : Op2 K (rNeP K) x y w P := by
  intro v u H h1 h2 c Q q
  exact ⟨py x, py y, Dp.mono' Ex.msk h1 hx, Dp.mono' Ex.msk h2 hy, py_plain x, py_plain y, by rw [py_depth]; exact hd, q _ H _ w (Ex.refl _) c (.bl _) k⟩
theorem eqv_self (d : D) : PyData.eqv (py d) (py d) = true := SeqAt.eqv_refl_plain _ (py_plain d)
/-- xs != [] of an owned list -/
theorem o2_neOP {p : Addr} {ds : List D} {y : D} (hw : w p = some (.lst ds)) (hx : isPyA ds = true) (hy : isPy y = true) (hd : deepA ds ≤ 60) (k : P (.bl (!PyData.eqv (py (.lst ds)) (py y))) w) : Op2 K (rNeP K) (.ptr p) y w P := by
  intro v u H h1 h2 c Q q
  cases h1
  obtain ⟨xs, e, r⟩ := c p _ hw
  have h1 : Rp K H (.ref p) (.lst ds) := .lst e (r.mono Ex.msk)
  exact ⟨py (.lst ds), py y, Dp.mono' (Ex.refl H) h1 (by simp only [isPy]; exact hx), Dp.mono' Ex.msk h2 hy, py_plain _, py_plain _, by rw [py_depth]; simp only [deepD]; omega, q _ H _ w (Ex.refl _) c (.bl _) k⟩
theorem o2_ne2 {a b : Str} (k : P (.bl false) w) : Op2 K (rNeP K) (.lst [.str a, .str b]) (.lst [.str a, .str b]) w P :=
  o2_neP (by simp [isPy, isPyA]) (by simp [isPy, isPyA]) (by simp [deepD, deepA]) (by rw [eqv_self]; exact k)
/-- xs != [] of an owned list -/
theorem o2_neO {p : Addr} {ds : List D} {y : D} (hw : w p = some (.lst ds)) (hx : isPyA ds = true) (hy : isPy y = true) (sx : SeqAt.shaped (py (.lst ds)) = true) (sy : SeqAt.shaped (py y) = true) (k : P (.bl (!PyData.eqv (py (.lst ds)) (py y))) w) : Op2 K (rNeD K) (.ptr p) y w P := by
  intro v u H h1 h2 c Q q
  cases h1
  obtain ⟨xs, e, r⟩ := c p _ hw
  have h1 : Rp K H (.ref p) (.lst ds) := .lst e (r.mono Ex.msk)
  exact ⟨py (.lst ds), py y, Dp.mono' (Ex.refl H) h1 (by simp only [isPy]; exact hx), Dp.mono' Ex.msk h2 hy, sx, sy, q _ H _ w (Ex.refl _) c (.bl _) k⟩
end
end DL
namespace LW
open PySem PySem.Spec PyProof.Rows L2 DL
theorem prs_py (prs : List (Str × Int)) : isPyA (prs.map prD) = true := by
  induction prs with
  | nil => simp [isPyA]
  | cons e r ih => simp [isPyA, prD, isPy, ih]
theorem nameS_strOk {n : Str} (h : nameS n = true) : PyData.strOk n = true := by
  have h1 := nameS_low h
  unfold PyData.strOk
  rw [Array.all_eq_true'] at h1 ⊢
  intro c hc
  have := of_decide_eq_true (h1 c hc)
  exact decide_eq_true (by omega)
theorem prs_lay {prs : List (Str × Int)} (h : ∀ pr ∈ prs, nameS pr.1 = true) : PyData.canLayAll0 (pyA (prs.map prD)) = true := by
  induction prs with
  | nil => simp [pyA, PyData.canLayAll0]
  | cons e r ih =>
    have h1 := nameS_strOk (h e (List.mem_cons_self ..))
    have h2 := ih fun pr hp => h pr (List.mem_cons_of_mem _ hp)
    simp only [List.map_cons, prD, pyA, py, PyData.canLayAll0, PyData.canLay0, h1, h2, Bool.and_true, Bool.and_self]
theorem prs_deep (prs : List (Str × Int)) : deepA (prs.map prD) ≤ 1 := deepA_of fun d hd => by
  obtain ⟨pr, _, rfl⟩ := List.mem_map.mp hd
  simp [prD, deepD, deepA]
theorem prs_shaped {prs : List (Str × Int)} (h : ∀ pr ∈ prs, nameS pr.1 = true) : SeqAt.shaped (py (.lst (prs.map prD))) = true := by
  unfold SeqAt.shaped
  refine Bool.and_eq_true_iff.mpr ⟨?_, decide_eq_true ?_⟩
  · simp only [py, PyData.canLay0]; exact prs_lay h
  · rw [py_depth]
    have := prs_deep prs
    simp only [deepD]
    omega
theorem ne_nilD (prs : List (Str × Int)) : (!PyData.eqv (py (.lst (prs.map prD))) (py (.lst []))) = !prs.isEmpty := by
  cases prs with
  | nil => simp [py, pyA, PyData.eqv, PyData.eqvAll]
  | cons e r => simp [py, pyA, prD, PyData.eqv, PyData.eqvAll]
theorem addS_bound {xs : List Str} {B b : Int} {kvs : List (Str × Int)} {e : Str × Int} (h : RunsB B xs kvs) (h1 : e.1 ∈ xs) (h2 : nameS e.1 = true) (h3 : 1 ≤ e.2) (h4 : e.2 ≤ b) (hB : 0 ≤ B) : RunsB (B + b) xs (addS kvs e) := by
  have hg : 0 ≤ getS kvs e.1 ∧ getS kvs e.1 ≤ B := by
    unfold getS
    cases q : kvs.find? fun kv => decide (kv.1 = e.1) with
    | none => exact ⟨Int.le_refl _, hB⟩
    | some y =>
      have := h y (List.mem_of_find?_eq_some q)
      exact ⟨by show (0 : Int) ≤ y.2; omega, this.2.2.2⟩
  have old : ∀ pr ∈ kvs, pr.1 ∈ xs ∧ nameS pr.1 = true ∧ 1 ≤ pr.2 ∧ pr.2 ≤ B + b := fun pr hp => by
    obtain ⟨g1, g2, g3, g4⟩ := h pr hp
    exact ⟨g1, g2, g3, by omega⟩
  unfold addS putS
  split
  · intro pr hp
    obtain ⟨z, hz, rfl⟩ := List.mem_map.mp hp
    by_cases q : z.1 = e.1
    · rw [if_pos q]
      exact ⟨by rw [q]; exact h1, by rw [q]; exact h2, by show 1 ≤ getS kvs e.1 + e.2; omega, by show getS kvs e.1 + e.2 ≤ B + b; omega⟩
    · rw [if_neg q]; exact old z hz
  · intro pr hp
    rcases List.mem_append.mp hp with hp | hp
    · exact old pr hp
    · rw [List.mem_singleton.mp hp]
      exact ⟨h1, h2, by show 1 ≤ getS kvs e.1 + e.2; omega, by show getS kvs e.1 + e.2 ≤ B + b; omega⟩
theorem acc_bound {xs : List Str} {b : Int} (hb : 0 ≤ b) (prs : List (Str × Int)) : RunsB b xs prs → RunsB (prs.length * b) xs (accS prs) := by
  refine snoc_ind (P := fun prs => RunsB b xs prs → RunsB (prs.length * b) xs (accS prs)) (fun _ pr h => nomatch h) (fun r x ih h => ?_) prs
  have h1 := ih fun pr hp => h pr (List.mem_append_left _ hp)
  obtain ⟨g1, g2, g3, g4⟩ := h x (List.mem_append_right _ (List.mem_singleton.mpr rfl))
  rw [acc_snoc]
  have := addS_bound h1 g1 g2 g3 g4 (Int.mul_nonneg (by omega) hb)
  have e : ((r ++ [x]).length : Int) * b = r.length * b + b := by
    rw [List.length_append]
    show ((r.length + 1 : Nat) : Int) * b = _
    rw [Int.natCast_add, Int.add_mul]; omega
  rw [e]; exact this
theorem addJ_bound {xs : List Str} {B b : Int} {acc : List (Str × Int)} {e : Str × Int} (h : RunsB B xs acc) (h1 : e.1 ∈ xs) (h2 : nameS e.1 = true) (h3 : 1 ≤ e.2) (h4 : e.2 ≤ b) (hB : 0 ≤ B) : RunsB (B + b) xs (addJ acc e) := by
  have old : ∀ pr ∈ acc, pr.1 ∈ xs ∧ nameS pr.1 = true ∧ 1 ≤ pr.2 ∧ pr.2 ≤ B + b := fun pr hp => by
    obtain ⟨g1, g2, g3, g4⟩ := h pr hp
    exact ⟨g1, g2, g3, by omega⟩
  cases hl : acc.getLast? with
  | none =>
    rw [addJ_new fun l h => by rw [hl] at h; cases h]
    intro pr hp
    rcases List.mem_append.mp hp with hp | hp
    · exact old pr hp
    · rw [List.mem_singleton.mp hp]; exact ⟨h1, h2, h3, by omega⟩
  | some l =>
    obtain ⟨m, k⟩ := l
    obtain ⟨n, c⟩ := e
    by_cases q : m = n
    · subst q
      rw [addJ_old hl]
      intro pr hp
      rcases List.mem_append.mp hp with hp | hp
      · exact old pr ((List.dropLast_sublist _).subset hp)
      · rw [List.mem_singleton.mp hp]
        obtain ⟨_, _, g3, g4⟩ := h (m, k) (List.mem_of_getLast? hl)
        exact ⟨h1, h2, by show 1 ≤ k + c; have g3 : 1 ≤ k := g3; have h3 : 1 ≤ c := h3; omega, by show k + c ≤ B + b; have g4 : k ≤ B := g4; have h4 : c ≤ b := h4; omega⟩
    · rw [addJ_new fun l h => by rw [hl] at h; cases h; exact q]
      intro pr hp
      rcases List.mem_append.mp hp with hp | hp
      · exact old pr hp
      · rw [List.mem_singleton.mp hp]
        exact ⟨h1, h2, h3, by have h4 : c ≤ b := h4; show c ≤ B + b; omega⟩
theorem join_bound {xs : List Str} {b : Int} (hb : 0 ≤ b) (prs : List (Str × Int)) : RunsB b xs prs → RunsB (prs.length * b) xs (joinS prs) := by
  refine snoc_ind (P := fun prs => RunsB b xs prs → RunsB (prs.length * b) xs (joinS prs)) (fun _ pr h => nomatch h) (fun r x ih h => ?_) prs
  have h1 := ih fun pr hp => h pr (List.mem_append_left _ hp)
  obtain ⟨g1, g2, g3, g4⟩ := h x (List.mem_append_right _ (List.mem_singleton.mpr rfl))
  rw [join_snoc]
  have := addJ_bound h1 g1 g2 g3 g4 (Int.mul_nonneg (by omega) hb)
  have e : ((r ++ [x]).length : Int) * b = r.length * b + b := by
    rw [List.length_append]
    show ((r.length + 1 : Nat) : Int) * b = _
    rw [Int.natCast_add, Int.add_mul]; omega
  rw [e]; exact this
theorem RunsB.mono {a b : Int} {xs : List Str} {prs : List (Str × Int)} (h : RunsB a xs prs) (l : a ≤ b) : RunsB b xs prs := fun pr hp => by
  obtain ⟨h1, h2, h3, h4⟩ := h pr hp
  exact ⟨h1, h2, h3, Int.le_trans h4 l⟩
theorem RunsB.perm {b : Int} {xs : List Str} {prs qs : List (Str × Int)} (h : RunsB b xs prs) (p : qs.Perm prs) : RunsB b xs qs := fun pr hp => h pr (p.subset hp)
theorem RunsB.take {b : Int} {xs : List Str} {prs : List (Str × Int)} (h : RunsB b xs prs) (i : Nat) : RunsB b xs (prs.take i) := fun pr hp => h pr (List.mem_of_mem_take hp)
theorem mul_1000 {n : Nat} (h : n ≤ 1000) : (n : Int) * 10 ^ 30 ≤ 10 ^ 34 := by
  have h1 : (n : Int) * 10 ^ 30 ≤ 1000 * 10 ^ 30 := Int.mul_le_mul_of_nonneg_right (by omega) (by decide +kernel)
  have h2 : (1000 : Int) * 10 ^ 30 ≤ 10 ^ 34 := by decide +kernel
  omega
theorem mul_1000b {n : Nat} (h : n ≤ 1000) : (n : Int) * 10 ^ 34 ≤ 10 ^ 40 := by
  have h1 : (n : Int) * 10 ^ 34 ≤ 1000 * 10 ^ 34 := Int.mul_le_mul_of_nonneg_right (by omega) (by decide +kernel)
  have h2 : (1000 : Int) * 10 ^ 34 ≤ 10 ^ 40 := by decide +kernel
  omega
/-- an order that is good, and small -/
def Path (prs : List (Str × Int)) : Prop := ∃ xs : List Str, xs.length ≤ 12 ∧ RunsB (10 ^ 30) xs prs ∧ prs.length ≤ 1000
def prePR (ds : List D) (_ : Wl) : Prop := ∃ prs, ds = [.tup (prs.map prD)] ∧ Path prs
def postPR (ds : List D) (w : Wl) (d : D) (w' : Wl) : Prop := d = .bl true ∧ Keep w w'
theorem prs_okOrd {b : Int} {xs : List Str} {prs : List (Str × Int)} (h : RunsB b xs prs) (hx : xs.length ≤ 12) (hl : prs.length ≤ 1000) : okOrd [.tup (prs.map prD)] := runsB_ord h hx hl
theorem prs_okSum {b : Int} {xs : List Str} {prs : List (Str × Int)} (h : RunsB b xs prs) (hx : xs.length ≤ 12) (hl : prs.length ≤ 1000) (w : Wl) : okSum [.tup (prs.map prD)] w := by
  refine ⟨_, rfl, ord_pairs (prs_good h hx hl), ?_⟩
  rw [prsOf_prD]
  have := acc_few fun pr hp => (h pr hp).1
  omega
theorem join_len (prs : List (Str × Int)) : (joinS prs).length ≤ prs.length := by
  have := foldJ_len prs []
  unfold joinS
  simpa using this
theorem cutD_to {xs : List D} {j : Int} (h : 0 ≤ j) : DL.cutD xs none (some j) = xs.take j.toNat := by
  obtain ⟨k, rfl⟩ := Int.eq_ofNat_of_zero_le h
  unfold DL.cutD
  rw [HT.sIx_nat, HT.sIx_none, List.drop_zero, Nat.sub_zero, Int.toNat_natCast]
  rw [List.take_eq_take_iff]
  omega
theorem cutD_from {xs : List D} {j : Int} (h : 0 ≤ j) : DL.cutD xs (some j) none = xs.drop j.toNat := by
  obtain ⟨k, rfl⟩ := Int.eq_ofNat_of_zero_le h
  unfold DL.cutD
  rw [HT.sIx_nat, HT.sIx_none, Int.toNat_natCast]
  rw [List.take_of_length_le (by rw [List.length_drop]; omega)]
  by_cases q : k ≤ xs.length
  · rw [Nat.min_eq_left q]
  · rw [Nat.min_eq_right (by omega), List.drop_eq_nil_of_le (Nat.le_refl _), List.drop_eq_nil_of_le (by omega)]
theorem Path.of {xs : List Str} {prs : List (Str × Int)} (h : Runs xs prs) (hx : xs.length ≤ 12) (hl : prs.length ≤ 1000) : Path prs := ⟨xs, hx, h, hl⟩
theorem Path.double {xs : List Str} {prs : List (Str × Int)} (h : Runs xs prs) (hx : xs.length ≤ 12) (hl : prs.length ≤ 500) : Path (prs ++ prs.reverse) :=
  ⟨xs, hx, fun pr hp => by
    rcases List.mem_append.mp hp with hp | hp
    · exact h pr hp
    · exact h pr (List.mem_reverse.mp hp), by rw [List.length_append, List.length_reverse]; omega⟩
theorem Path.nil : Path [] := ⟨[], Nat.zero_le _, (fun pr h => (List.not_mem_nil h).elim : RunsB (10 ^ 30) [] []), Nat.zero_le _⟩
def longP : List (Str × Int) := (List.range 1000).map fun i => ((⟨#[97 + (i / 3) % 12]⟩ : Str), (10 : Int) ^ 30)
theorem Path.long : Path longP := by
  refine ⟨(List.range 12).map fun i => ⟨#[97 + i]⟩, by decide, fun pr hp => ?_, by unfold longP; rw [List.length_map, List.length_range]; exact Nat.le_refl _⟩
  obtain ⟨i, hi, rfl⟩ := List.mem_map.mp hp
  have h12 : (i / 3) % 12 < 12 := Nat.mod_lt _ (by decide)
  refine ⟨List.mem_map.mpr ⟨(i / 3) % 12, List.mem_range.mpr h12, rfl⟩, ?_, (by show (1 : Int) ≤ 10 ^ 30; decide +kernel), Int.le_refl _⟩
  refine nameS_of (fun c hc => ?_) (Nat.le_refl 1) (by show 1 ≤ 8; decide)
  have : c = 97 + (i / 3) % 12 := by simpa using hc
  omega
theorem Path.four : Path [("b", 2), ("b", 3), ("a", 1), ("b", 1)] := ⟨["a", "b"], by decide, by
  intro pr hp
  simp only [List.mem_cons, List.not_mem_nil, or_false] at hp
  rcases hp with rfl | rfl | rfl | rfl <;> exact ⟨by simp, by decide +kernel, by decide, by decide +kernel⟩, by decide⟩
theorem Pm.keep {w w1 w2 : Wl} {p : Addr} (h : Pm w p w1) (k : Keep w1 w2) : Pm w p w2 := by
  obtain ⟨a, b, c, e, h1, h2, h3⟩ := h.1.at
  refine ⟨Pl.of (a := a) (b := b) (c := c) (by rw [k p (by rw [e]; simp), e]) h1 h2 h3, fun q n m => ?_⟩
  have := h.2 q n m
  rw [k q (by rw [this]; exact m), this]
theorem twelve_at {i : Int} (h0 : 0 ≤ i) (h1 : i < 12) : atI (("abcdefghijkl" : Str)).cps.toList i = some (97 + i.toNat) := by
  have e : (("abcdefghijkl" : Str)).cps.toList = (List.range 12).map (fun i => 97 + i) := by decide +kernel
  rw [e]
  unfold atI ixN
  rw [if_pos h0, if_pos (by rw [List.length_map, List.length_range]; omega)]
  have : i.toNat < 12 := by omega
  simp [this]
def longF : D → D | .int i => prD (⟨#[97 + (i / 3 % 12).toNat]⟩, 10 ^ 30) | _ => .non
theorem long_eq : (rngD 0 1000).map longF = longP.map prD := by
  rw [rng_map]
  unfold longP
  rw [List.map_map]
  refine List.map_congr_left fun i _ => ?_
  show prD (⟨#[97 + ((i : Int) / 3 % 12).toNat]⟩, 10 ^ 30) = prD (⟨#[97 + (i / 3) % 12]⟩, 10 ^ 30)
  have : ((i : Int) / 3 % 12).toNat = (i / 3) % 12 := by omega
  rw [this]
end LW
set_option Elab.async false
set_option linter.all false
set_option autoImplicit false
set_option maxRecDepth 100000
set_option maxHeartbeats 4000000
/-! BK: summaries: sums of two, the counts behind a place, what is cut. -/
namespace LW
open PySem PySem.Spec PyProof.Rows L2 DL
/-! ### the greatest counts -/
def descS (ns : List Int) : List Int := ns.mergeSort (fun a b => decide (a ≥ b))
theorem desc_ok (ns : List Int) : (descS ns).Perm ns ∧ (descS ns).Pairwise (· ≥ ·) := by
  refine ⟨List.mergeSort_perm ns _, ?_⟩
  have h := List.pairwise_mergeSort (le := fun a b : Int => decide (a ≥ b)) (fun a b c h1 h2 => by simp only [decide_eq_true_eq] at *; omega) (fun a b => by simp only [Bool.or_eq_true, decide_eq_true_eq]; omega) ns
  exact h.imp fun h => of_decide_eq_true h
theorem desc_uniq {a b : List Int} (p : a.Perm b) (h1 : a.Pairwise (· ≥ ·)) (h2 : b.Pairwise (· ≥ ·)) : a = b :=
  List.Perm.eq_of_pairwise (fun a b _ _ g1 g2 => Int.le_antisymm g2 g1) h1 h2 p
theorem desc_eq {ns ns' : List Int} (p : ns'.Perm ns) (h : ns'.Pairwise (· ≥ ·)) : ns' = descS ns := desc_uniq (p.trans (desc_ok ns).1.symm) h (desc_ok ns).2
theorem desc_perm {a b : List Int} (p : a.Perm b) : descS a = descS b := desc_eq ((desc_ok a).1.trans p) (desc_ok a).2
def kth (ns : List Int) (k : Nat) : Int := ((descS ns)[k]?).getD 0
theorem kth_perm {a b : List Int} (p : a.Perm b) (k : Nat) : kth a k = kth b k := by unfold kth; rw [desc_perm p]
theorem kth_pos {ns : List Int} (h : ∀ n ∈ ns, 0 ≤ n) (k : Nat) : 0 ≤ kth ns k := by
  unfold kth
  cases q : (descS ns)[k]? with
  | none => exact Int.le_refl _
  | some v => exact h v ((desc_ok ns).1.subset (List.mem_of_getElem? q))
theorem kth_few (ns : List Int) (k : Nat) : (ns.filter fun x => decide (x > kth ns k)).length ≤ k := by
  have e := ((desc_ok ns).1.filter fun x => decide (x > kth ns k)).length_eq
  rw [← e]
  by_cases hk : k < (descS ns).length
  · have hv : kth ns k = (descS ns)[k] := by unfold kth; rw [List.getElem?_eq_getElem hk]; rfl
    have sp : descS ns = (descS ns).take k ++ (descS ns).drop k := (List.take_append_drop k _).symm
    rw [sp, List.filter_append, List.length_append]
    have h0 : ((descS ns).drop k).filter (fun x => decide (x > kth ns k)) = [] := by
      rw [List.filter_eq_nil_iff]
      intro x hx
      have hd : (descS ns).drop k = (descS ns)[k] :: (descS ns).drop (k + 1) := List.drop_eq_getElem_cons hk
      have pw : ((descS ns).drop k).Pairwise (· ≥ ·) := (desc_ok ns).2.sublist (List.drop_sublist _ _)
      rw [hd] at hx pw
      have := (List.pairwise_cons.mp pw).1
      rw [hv]
      rcases List.mem_cons.mp hx with rfl | hx
      · simp
      · have := this x hx
        simp only [decide_eq_true_eq]
        omega
    rw [h0, List.length_nil, Nat.add_zero]
    exact Nat.le_trans (List.length_filter_le _ _) (by rw [List.length_take]; omega)
  · exact Nat.le_trans (List.length_filter_le _ _) (by omega)
/-! ### what is cut -/
def cutP (l : Int) (prs : List (Str × Int)) : List (Str × Int) := (prs.filter fun pr => decide (pr.2 > l)).map fun pr => (pr.1, pr.2 - l)
/-- counts of a summary: so many at most, each at most b -/
def SumP (b : Int) (n : Nat) (prs : List (Str × Int)) : Prop := asc (prs.map (·.1)) ∧ (∀ pr ∈ prs, nameS pr.1 = true ∧ 1 ≤ pr.2 ∧ pr.2 ≤ b) ∧ prs.length ≤ n
theorem SumP.nodup {b : Int} {n : Nat} {prs : List (Str × Int)} (h : SumP b n prs) : (prs.map (·.1)).Nodup := asc_nodup h.1
theorem SumP.runs {b : Int} {n : Nat} {prs : List (Str × Int)} (h : SumP b n prs) : RunsB b (prs.map (·.1)) prs := fun pr hp => ⟨List.mem_map.mpr ⟨pr, hp, rfl⟩, h.2.1 pr hp⟩
theorem SumP.sub {b : Int} {n m : Nat} {prs qs : List (Str × Int)} (h : SumP b n prs) (s : qs.Sublist prs) (hm : qs.length ≤ m) : SumP b m qs :=
  ⟨List.Pairwise.sublist (s.map (·.1)) h.1, fun pr hp => h.2.1 pr (s.subset hp), hm⟩
theorem prD_bagE (prs : List (Str × Int)) : prs.map prD = prs.map bagE := rfl
theorem SumP.good {b : Int} {n : Nat} {prs : List (Str × Int)} (h : SumP b n prs) {m : Int} (hm : (n : Int) ≤ m) : goodN (prs.map prD) m = (prs.map prD).length := by
  unfold goodN
  rw [prD_bagE, goodGo_bag prs "" 0 (fun pr hp => ⟨(h.2.1 pr hp).1, (h.2.1 pr hp).2.1⟩) h.1 (fun pr hp => nameS_ne (h.2.1 pr hp).1) (by have := h.2.2; omega)]
  rfl
theorem SumP.fine {b : Int} {n : Nat} {prs : List (Str × Int)} (h : SumP b n prs) : fineA (prs.map prD) = true := prs_fine h.runs
theorem cut_names (l : Int) (prs : List (Str × Int)) : ((cutP l prs).map (·.1)).Sublist (prs.map (·.1)) := by
  unfold cutP
  rw [List.map_map]
  exact (List.filter_sublist (l := prs) (p := fun pr => decide (pr.2 > l))).map (fun e : Str × Int => e.1)
theorem cutP_sum {B : Int} {prs : List (Str × Int)} {n : Nat} (h : asc (prs.map (·.1))) (h1 : ∀ pr ∈ prs, nameS pr.1 = true ∧ 1 ≤ pr.2 ∧ pr.2 ≤ B) : SumP B n (cutP (kth (prs.map (·.2)) n) prs) := by
  have l0 : 0 ≤ kth (prs.map (·.2)) n := kth_pos (fun x hx => by
    obtain ⟨pr, hp, rfl⟩ := List.mem_map.mp hx
    have := (h1 pr hp).2.1
    omega) n
  refine ⟨List.Pairwise.sublist (cut_names _ _) h, fun pr hp => ?_, ?_⟩
  · unfold cutP at hp
    obtain ⟨q, hq, rfl⟩ := List.mem_map.mp hp
    obtain ⟨hq1, hq2⟩ := List.mem_filter.mp hq
    have hq2 := of_decide_eq_true hq2
    obtain ⟨g1, g2, g3⟩ := h1 q hq1
    exact ⟨g1, by show 1 ≤ q.2 - _; omega, by show q.2 - _ ≤ B; omega⟩
  · unfold cutP
    rw [List.length_map]
    have e : (prs.filter fun pr => decide (pr.2 > kth (prs.map (·.2)) n)).length = ((prs.map (·.2)).filter fun x => decide (x > kth (prs.map (·.2)) n)).length := by
      rw [List.filter_map, List.length_map]; rfl
    rw [e]
    exact kth_few _ _
/-! ### sums of two -/
theorem getS_put_ne {n m : Str} (kvs : List (Str × Int)) (c : Int) (h : m ≠ n) : getS (putS kvs n c) m = getS kvs m := by
  have hm : ∀ kvs : List (Str × Int), getS (kvs.map (fun kv => if kv.1 = n then (kv.1, c) else kv)) m = getS kvs m := by
    intro kvs
    induction kvs with
    | nil => rfl
    | cons e r ih =>
      unfold getS at ih ⊢
      rw [List.map_cons, List.find?_cons, List.find?_cons]
      have e1 : (if e.1 = n then (e.1, c) else e).1 = e.1 := by split <;> rfl
      rw [e1]
      by_cases q : e.1 = m
      · rw [decide_eq_true q]
        have : e.1 ≠ n := fun z => h (q.symm.trans z)
        rw [if_neg this]
      · rw [decide_eq_false q]; exact ih
  have ha : ∀ kvs : List (Str × Int), getS (kvs ++ [(n, c)]) m = getS kvs m := by
    intro kvs
    induction kvs with
    | nil => unfold getS; rw [List.nil_append, List.find?_cons, decide_eq_false (fun z : n = m => h z.symm)]
    | cons e r ih =>
      unfold getS at ih ⊢
      rw [List.cons_append, List.find?_cons, List.find?_cons]
      by_cases q : e.1 = m
      · rw [decide_eq_true q]
      · rw [decide_eq_false q]; exact ih
  unfold putS
  split
  · exact hm kvs
  · exact ha kvs
def sumN (n : Str) (prs : List (Str × Int)) : Int := ((prs.filter fun pr => decide (pr.1 = n)).map (·.2)).sum
theorem sumN_app (n : Str) (p q : List (Str × Int)) : sumN n (p ++ q) = sumN n p + sumN n q := by
  unfold sumN
  rw [List.filter_append, List.map_append, List.sum_append]
theorem acc_get (n : Str) (prs : List (Str × Int)) : getS (accS prs) n = sumN n prs := by
  refine snoc_ind (P := fun prs => getS (accS prs) n = sumN n prs) rfl (fun r x ih => ?_) prs
  rw [acc_snoc, sumN_app, ← ih]
  unfold addS
  by_cases q : n = x.1
  · subst q
    rw [getS_put]
    unfold sumN
    rw [List.filter_cons, decide_eq_true rfl]
    simp
  · rw [getS_put_ne _ _ q]
    unfold sumN
    rw [List.filter_cons, decide_eq_false (fun z : x.1 = n => q z.symm)]
    simp
theorem insS_mem {ns : List Str} {n m : Str} : m ∈ insS ns n ↔ m ∈ ns ∨ m = n := by
  unfold insS
  split
  · rename_i h
    exact ⟨.inl, fun z => z.elim id fun z => z ▸ h⟩
  · rw [List.mem_append, List.mem_singleton]
theorem acc_mem (n : Str) (prs : List (Str × Int)) : n ∈ (accS prs).map (·.1) ↔ n ∈ prs.map (·.1) := by
  refine snoc_ind (P := fun prs => n ∈ (accS prs).map (·.1) ↔ n ∈ prs.map (·.1)) Iff.rfl (fun r x ih => ?_) prs
  rw [acc_snoc]
  unfold addS
  rw [putS_keys, insS_mem, ih, List.map_append, List.mem_append]
  simp
theorem acc_nodup (prs : List (Str × Int)) : ((accS prs).map (·.1)).Nodup := (acc_keys (xs := prs.map (·.1)) prs fun pr hp => List.mem_map.mpr ⟨pr, hp, rfl⟩).1
theorem nodup_of_map {prs : List (Str × Int)} (h : (prs.map (·.1)).Nodup) : prs.Nodup := by
  induction prs with
  | nil => exact List.nodup_nil
  | cons e r ih =>
    rw [List.map_cons] at h
    obtain ⟨h1, h2⟩ := List.nodup_cons.mp h
    exact List.nodup_cons.mpr ⟨fun z => h1 (List.mem_map.mpr ⟨e, z, rfl⟩), ih h2⟩
theorem mem_table {kvs : List (Str × Int)} (h : (kvs.map (·.1)).Nodup) (e : Str × Int) : e ∈ kvs ↔ e.1 ∈ kvs.map (·.1) ∧ e.2 = getS kvs e.1 := by
  constructor
  · intro he
    exact ⟨List.mem_map.mpr ⟨e, he, rfl⟩, (getS_mem h e he).symm⟩
  · rintro ⟨h1, h2⟩
    obtain ⟨f, hf, h3⟩ := List.mem_map.mp h1
    have h4 := getS_mem h f hf
    rw [h3] at h4
    have : e = f := Prod.ext h3.symm (h2.trans h4)
    rw [this]; exact hf
theorem acc_comm (p q : List (Str × Int)) : (accS (p ++ q)).Perm (accS (q ++ p)) := by
  refine (List.perm_ext_iff_of_nodup (nodup_of_map (acc_nodup _)) (nodup_of_map (acc_nodup _))).mpr fun e => ?_
  rw [mem_table (acc_nodup _), mem_table (acc_nodup _), acc_mem, acc_mem, acc_get, acc_get, sumN_app, sumN_app, Int.add_comm (sumN e.1 p)]
  simp only [List.map_append, List.mem_append]
  rw [Or.comm]
theorem sums_comm {p q ys zs : List (Str × Int)} (h : Sums (p ++ q) ys) (g : Sums (q ++ p) zs) : zs = ys :=
  asc_eq (g.1.trans ((acc_comm q p).trans h.1.symm)) g.2 h.2
theorem putS_new {kvs : List (Str × Int)} {n : Str} {c : Int} (h : n ∉ kvs.map (·.1)) : putS kvs n c = kvs ++ [(n, c)] ∧ getS kvs n = 0 := by
  have e : (kvs.any fun kv => decide (kv.1 = n)) = false := by
    rw [List.any_eq_false]
    intro x hx z
    exact h (List.mem_map.mpr ⟨x, hx, of_decide_eq_true z⟩)
  refine ⟨by unfold putS; rw [if_neg (by rw [e]; decide)], ?_⟩
  unfold getS
  rw [List.find?_eq_none.mpr]
  · rfl
  · intro x hx z
    exact h (List.mem_map.mpr ⟨x, hx, of_decide_eq_true z⟩)
theorem acc_self (prs : List (Str × Int)) : (prs.map (·.1)).Nodup → accS prs = prs := by
  refine snoc_ind (P := fun prs => (prs.map (·.1)).Nodup → accS prs = prs) (fun _ => rfl) (fun r x ih h => ?_) prs
  rw [List.map_append, List.nodup_append] at h
  have hn : x.1 ∉ r.map (·.1) := fun z => h.2.2 x.1 z x.1 (by simp) rfl
  rw [acc_snoc, ih h.1]
  unfold addS
  obtain ⟨h1, h2⟩ := putS_new (c := getS r x.1 + x.2) hn
  rw [h1, h2, Int.zero_add]
theorem acc_more {p : List (Str × Int)} (h : (p.map (·.1)).Nodup) (q : List (Str × Int)) : q.foldl addS p = accS (p ++ q) := by
  unfold accS
  rw [List.foldl_append]
  have := acc_self p h
  unfold accS at this
  rw [this]
/-- the summary of both -/
def Merg (k : Nat) (p q r : List (Str × Int)) : Prop := ∃ ys, Sums (p ++ q) ys ∧ r = cutP (kth (ys.map (·.2)) k) ys
theorem Merg.comm {k : Nat} {p q r s : List (Str × Int)} (h : Merg k p q r) (g : Merg k q p s) : s = r := by
  obtain ⟨ys, h1, rfl⟩ := h
  obtain ⟨zs, g1, rfl⟩ := g
  rw [sums_comm h1 g1]
theorem Merg.uniq {k : Nat} {p q r s : List (Str × Int)} (h : Merg k p q r) (g : Merg k p q s) : s = r := by
  obtain ⟨ys, h1, rfl⟩ := h
  obtain ⟨zs, g1, rfl⟩ := g
  rw [asc_eq (g1.1.trans h1.1.symm) g1.2 h1.2]
theorem RunsB.app {b : Int} {xs ys : List Str} {p q : List (Str × Int)} (h : RunsB b xs p) (g : RunsB b ys q) : RunsB b (xs ++ ys) (p ++ q) := fun pr hp => by
  rcases List.mem_append.mp hp with hp | hp
  · obtain ⟨a, c⟩ := h pr hp; exact ⟨List.mem_append_left _ a, c⟩
  · obtain ⟨a, c⟩ := g pr hp; exact ⟨List.mem_append_right _ a, c⟩
theorem sums_bound {b : Int} {n m : Nat} {p q ys : List (Str × Int)} (hb : 0 ≤ b) (h1 : SumP b n p) (h2 : SumP b m q) (h : Sums (p ++ q) ys) : (∀ pr ∈ ys, nameS pr.1 = true ∧ 1 ≤ pr.2 ∧ pr.2 ≤ ((n + m : Nat) : Int) * b) ∧ ys.length ≤ n + m := by
  have r := (acc_bound hb (p ++ q) (h1.runs.app h2.runs)).perm h.1
  have hl : (p ++ q).length ≤ n + m := by rw [List.length_append]; have := h1.2.2; have := h2.2.2; omega
  refine ⟨fun pr hp => ?_, ?_⟩
  · obtain ⟨_, a, c, e⟩ := r pr hp
    refine ⟨a, c, Int.le_trans e (Int.mul_le_mul_of_nonneg_right (by omega) hb)⟩
  · rw [h.1.length_eq]
    have := acc_few (xs := (p ++ q).map (·.1)) (prs := p ++ q) fun pr hp => List.mem_map.mpr ⟨pr, hp, rfl⟩
    rw [List.length_map] at this
    omega
theorem Merg.sum {b : Int} {n m k : Nat} {p q r : List (Str × Int)} (hb : 0 ≤ b) (h1 : SumP b n p) (h2 : SumP b m q) (h : Merg k p q r) : SumP (((n + m : Nat) : Int) * b) k r := by
  obtain ⟨ys, hs, rfl⟩ := h
  exact cutP_sum hs.2 (sums_bound hb h1 h2 hs).1
end LW
set_option Elab.async false
set_option linter.all false
set_option autoImplicit false
set_option maxRecDepth 100000
set_option maxHeartbeats 4000000
/-! BL: promises of the defs about summaries. -/
namespace LW
open PySem PySem.Spec PyProof.Rows L2 DL
def postBagP (ds : List D) (w : Wl) (d : D) (w' : Wl) : Prop := ∀ p xs m, ds = [.ptr p, .lst xs, .int m] → Pm w p w' ∧ ∃ prs, d = .tup (prs.map prD) ∧ SumP (10 ^ 30) xs.length prs
def okI : List D → Prop | [.int _] => True | _ => False
def okCap : List D → Prop | [.int i] => 1 ≤ i ∧ i ≤ 8 | _ => False
def fCap : List D → D | [.int i] => .bl (decide (1 ≤ i) && decide (i ≤ 8)) | _ => .non
def sumFsB (c : Int) (prs : List (Str × Int)) : List (Str × D) := [(("capacity" : Str), .int c), (("counts" : Str), .btp (prs.map prD))]
abbrev sumFs := sumFsB
def preInit (C : Addr) (ds : List D) (w : Wl) : Prop := ∃ (x : Addr) (c : Int) (prs : List (Str × Int)), ds = [.ptr x, .int c, .btp (prs.map prD)] ∧ w x = some (.ins C []) ∧ 1 ≤ c ∧ c ≤ 8 ∧ ∃ b, SumP b c.toNat prs
def postInit (C : Addr) (ds : List D) (w : Wl) (d : D) (w' : Wl) : Prop := d = .non ∧ ∀ x c prs, ds = [.ptr x, .int c, .btp (prs.map prD)] → w' = put w x (.ins C (sumFs c prs))
theorem prs_inj {p q : List (Str × Int)} (h : p.map prD = q.map prD) : p = q := by
  have e := congrArg prsOf h
  rwa [prsOf_prD, prsOf_prD] at e
abbrev fs2 (a b : D) : List (Str × D) := [(("capacity" : Str), a), (("counts" : Str), b)]
theorem look_cap {a b : D} : List.lookup ("capacity" : Str) (fs2 a b) = some a := by
  have e : (("capacity" : Str) == ("capacity" : Str)) = true := by decide +kernel
  simp only [fs2, List.lookup, e]
theorem look_cnt {a b : D} : List.lookup ("counts" : Str) (fs2 a b) = some b := by
  have e : (("counts" : Str) == ("capacity" : Str)) = false := by decide +kernel
  have e2 : (("counts" : Str) == ("counts" : Str)) = true := by decide +kernel
  simp only [fs2, List.lookup, e, e2]
theorem put_fs {a b : D} : putFD ("counts" : Str) b (putFD ("capacity" : Str) a []) = fs2 a b := by
  have e : ¬ (("capacity" : Str) = ("counts" : Str)) := by decide +kernel
  simp only [fs2, putFD, if_neg e]
def okIns (C : Addr) : List D → Prop | [.ins C' _] => C' = C | _ => False
def okPart (C : Addr) : List D → Prop | [.int c, .ins C' fs] => C' = C ∧ ∃ prs, fs = sumFs c prs | _ => False
def prePlace (ds : List D) (_ : Wl) : Prop := ∃ (prs : List (Str × Int)) (k : Nat), ds = [.tup (prs.map prD), .int k] ∧ prs.length ≤ 1000
def postPlace (ds : List D) (w : Wl) (d : D) (w' : Wl) : Prop := w' = w ∧ ∀ (prs : List (Str × Int)) (k : Nat), ds = [.tup (prs.map prD), .int k] → d = .int (kth (prs.map (·.2)) k)
def preMerg (C : Addr) (ds : List D) (_ : Wl) : Prop := ∃ (c : Int) (p q : List (Str × Int)) (b : Int), ds = [.ins C (sumFs c p), .ins C (sumFs c q)] ∧ 1 ≤ c ∧ c ≤ 8 ∧ 0 ≤ b ∧ SumP b c.toNat p ∧ SumP b c.toNat q
def postMerg (C : Addr) (ds : List D) (w : Wl) (d : D) (w' : Wl) : Prop := Keep w w' ∧ ∀ (c : Int) (p q : List (Str × Int)), ds = [.ins C (sumFs c p), .ins C (sumFs c q)] → ∃ r, d = .ins C (sumFs c r) ∧ Merg c.toNat p q r
theorem place_inj {p q : List (Str × Int)} {k j : Nat} (h : [D.tup (p.map prD), D.int k] = [.tup (q.map prD), .int j]) : p = q ∧ k = j := by
  injection h with h1 h2
  injection h2 with h2
  injection h1 with h1
  injection h2 with h2
  exact ⟨prs_inj h1, by omega⟩
theorem fs_inj {C : Addr} {c e : Int} {p q r s : List (Str × Int)} (h : [D.ins C (sumFs c p), D.ins C (sumFs c q)] = [.ins C (sumFs e r), .ins C (sumFs e s)]) : c = e ∧ p = r ∧ q = s := by
  unfold sumFs sumFsB at h
  simp only [List.cons.injEq, D.ins.injEq, Prod.mk.injEq, D.int.injEq, D.tup.injEq, D.btp.injEq, and_true, true_and] at h
  exact ⟨h.1.1, prs_inj h.1.2, prs_inj h.2.2⟩
theorem at_int {ns : List Int} {k : Nat} (h : k < ns.length) : atI (ns.map D.int) (k : Int) = some (.int ((ns[k]?).getD 0)) := by
  unfold atI ixN
  rw [if_pos (by omega), if_pos (by rw [List.length_map]; omega)]
  simp [h]
def cutF (l : Int) (d : D) : D := prD (nmD d, cntD d - l)
theorem cut_eq (l : Int) (ys : List (Str × Int)) : ((ys.map prD).filter (fun d => decide (cntD d > l))).map (cutF l) = (cutP l ys).map prD := by
  unfold cutP
  rw [List.filter_map, List.map_map, List.map_map]
  rfl
def preHeld (ds : List D) (_ : Wl) : Prop := ∃ prs : List (Str × Int), ds = [.tup (prs.map prD)] ∧ (prs.map (·.1)).Nodup ∧ prs.length ≤ 1000
def postHeld (ds : List D) (w : Wl) (d : D) (w' : Wl) : Prop := ∃ l : Addr, w l = none ∧ d = .ptr l ∧ ∀ prs : List (Str × Int), ds = [.tup (prs.map prD)] → w' = put w l (.dK (prs.map entD))
def preLM (ds : List D) (_ : Wl) : Prop := ∃ (c : Int) (p q : List (Str × Int)) (b : Int), ds = [.int c, .tup (p.map prD), .tup (q.map prD)] ∧ 0 ≤ c ∧ 0 ≤ b ∧ SumP b 12 p ∧ SumP b 12 q
def postLM (ds : List D) (w : Wl) (d : D) (w' : Wl) : Prop := Keep w w' ∧ ∀ (c : Int) (p q : List (Str × Int)), ds = [.int c, .tup (p.map prD), .tup (q.map prD)] → ∃ r, d = .tup (r.map prD) ∧ Merg c.toNat p q r
theorem keys_inr {kvs : List (Str × Int)} (h : (kvs.map (·.1)).Nodup) : ((kvs.map entD).map (·.1)).Nodup := by
  have e : (kvs.map entD).map (·.1) = (kvs.map (·.1)).map (fun n => (Sum.inr n : Key)) := by rw [List.map_map, List.map_map]; rfl
  rw [e]
  rw [List.nodup_iff_pairwise_ne, List.pairwise_map]
  exact (List.nodup_iff_pairwise_ne.mp h).imp fun h z => h (Sum.inr.inj z)
theorem ev_ite {K : PySem.W.Frag} {W : XK} {δ : Dlt} {w : Wl} {P : PD} {Z : ZD} {t1 t2 : TE} {c : Bool} (v : D) (h1 : c = true → Ev K W t1 δ w (fun d w1 => d = v ∧ w1 = w) Z) (h2 : c = false → Ev K W t2 δ w (fun d w1 => d = v ∧ w1 = w) Z) (k : P v w) : if c = true then Ev K W t1 δ w P Z else Ev K W t2 δ w P Z := by
  cases c with
  | true => rw [if_pos rfl]; exact (h1 rfl).imp fun d w1 ⟨a, b⟩ => by subst a; subst b; exact k
  | false => rw [if_neg (by decide)]; exact (h2 rfl).imp fun d w1 ⟨a, b⟩ => by subst a; subst b; exact k
def getF (kvs : List (Str × Int)) (l : Int) : D → D | .str n => prD (n, getS kvs n - l) | _ => .non
def getC (kvs : List (Str × Int)) (l : Int) : D → Bool | .str n => decide (getS kvs n > l) | _ => false
theorem get_cut (kvs : List (Str × Int)) (l : Int) (ys : List Str) : ((ys.map D.str).filter (getC kvs l)).map (getF kvs l) = (cutP l (ys.map fun n => (n, getS kvs n))).map prD := by
  unfold cutP
  rw [List.filter_map, List.map_map, List.filter_map, List.map_map, List.map_map]
  rfl
theorem get_sums {prs : List (Str × Int)} {ys : List Str} (p : ys.Perm ((accS prs).map (·.1))) (o : sortedS ys = true) : Sums prs (ys.map fun n => (n, getS (accS prs) n)) := by
  have p2 := p.map fun n => (n, getS (accS prs) n)
  rw [keys_get (acc_nodup prs)] at p2
  refine ⟨p2, ?_⟩
  rw [List.map_map]
  have e3 : ys.map ((fun e : Str × Int => e.1) ∘ fun n => (n, getS (accS prs) n)) = ys := by
    conv => rhs; rw [← List.map_id ys]
    rfl
  rw [e3]
  exact asc_of_sorted o (p.nodup_iff.mpr (acc_nodup prs))
theorem lm_inj {c e : Int} {p q r s : List (Str × Int)} (h : [D.int c, .tup (p.map prD), .tup (q.map prD)] = [.int e, .tup (r.map prD), .tup (s.map prD)]) : c = e ∧ p = r ∧ q = s := by
  simp only [List.cons.injEq, D.int.injEq, D.tup.injEq, D.btp.injEq, and_true] at h
  exact ⟨h.1, prs_inj h.2.1, prs_inj h.2.2⟩
theorem look_mer {a b : D} : List.lookup ("merged" : Str) (fs2 a b) = none := by
  have e : (("merged" : Str) == ("capacity" : Str)) = false := by decide +kernel
  have e2 : (("merged" : Str) == ("counts" : Str)) = false := by decide +kernel
  simp only [fs2, List.lookup, e, e2]
/-- small enough to be shown in a list -/
def wrS (d : D) : Prop := small d = true ∧ deepD d ≤ 10 ∧ costD d ≤ 1000000
theorem wr_two {a b : D} (ha : wrS a) (hb : wrS b) : DL.wr (.lst [a, b]) := by
  obtain ⟨a1, a2, a3⟩ := ha
  obtain ⟨b1, b2, b3⟩ := hb
  refine ⟨by simp [small, smallA, a1, b1], ?_, ?_⟩
  · simp only [deepD, deepA]; omega
  · simp only [costD, costA]; rw [sizeLine_eq]; omega
theorem wrS_int {c : Int} (h0 : 0 ≤ c) (h1 : c ≤ 10 ^ 30) : wrS (.int c) := by
  refine ⟨?_, by simp [deepD], by simp [costD]⟩
  simp only [small]
  exact decide_eq_true (log2_30 h0 h1)
theorem wrS_prs {xs : List Str} {prs : List (Str × Int)} (h : RunsB (10 ^ 40) xs prs) (hl : prs.length ≤ 100) : wrS (.tup (prs.map prD)) := by
  obtain ⟨h1, _, _⟩ := wr_prs h (by omega)
  refine ⟨h1, ?_, ?_⟩
  · have := prs_deep prs
    simp only [deepD]; omega
  · have h3 := costA_of (n := 4000) (ds := prs.map prD) fun d hd => by
      obtain ⟨pr, hp, rfl⟩ := List.mem_map.mp hd
      obtain ⟨_, g1, g2, g3⟩ := h pr hp
      have len : pr.1.length ≤ 8 := by
        unfold nameS at g1
        simp at g1
        exact g1.1
      simp only [prD, costD, costA]
      omega
    rw [List.length_map] at h3
    simp only [costD]
    omega
theorem wr_one {a : D} (ha : wrS a) (hs : isSeq a = true) : DL.wr a := ⟨ha.1, by have := ha.2.1; omega, by have := ha.2.2; rw [sizeLine_eq]; omega⟩
theorem SumP.wrS {b : Int} {n : Nat} {prs : List (Str × Int)} (h : SumP b n prs) (hb : b ≤ 10 ^ 40) (hn : n ≤ 100) : LW.wrS (.tup (prs.map prD)) := wrS_prs (h.runs.mono hb) (by have := h.2.2; omega)
def preMR (ds : List D) (_ : Wl) : Prop := ∃ (c : Int) (p q : List (Str × Int)), ds = [.int c, .btp (p.map prD), .btp (q.map prD)] ∧ 1 ≤ c ∧ c ≤ 8 ∧ SumP (10 ^ 30) c.toNat p ∧ SumP (10 ^ 30) c.toNat q
theorem SumP.more {b : Int} {n m : Nat} {prs : List (Str × Int)} (h : SumP b n prs) (l : n ≤ m) : SumP b m prs := ⟨h.1, h.2.1, Nat.le_trans h.2.2 l⟩
theorem mul_16 {n : Nat} (h : n ≤ 16) : (n : Int) * 10 ^ 30 ≤ 10 ^ 40 := by
  have h1 : (n : Int) * 10 ^ 30 ≤ 16 * 10 ^ 30 := Int.mul_le_mul_of_nonneg_right (by omega) (by decide +kernel)
  have h2 : (16 : Int) * 10 ^ 30 ≤ 10 ^ 40 := by decide +kernel
  omega
theorem lc_keep {K : PySem.W.Frag} {W : XK} {δ : Dlt} {w : Wl} {P : PD} {Z : ZD} {te : TE} {g : TG} {wi : TI} {vs : List Nat} (hg : GLoc g vs ∧ GMon g) (h : EvI K W wi δ w (fun ds w1 => ds.length ≤ sizeLine ∧
    (∀ (w2 : Wl) (i : Nat) (d : D), ds[i]? = some d → Gd K W g d (wipeD δ vs) w2 (fun δ2 w3 => w3 = w2 ∧ Ev K W te δ2 w3 (fun y w4 => y = .bl true ∧ Keep w2 w4) Z) Z) ∧ ∀ w2, Keep w1 w2 → P (.lst (List.replicate ds.length (.bl true))) w2) Z) : Ev K W (tLc wi g tYes te vs) δ w P Z := by
  refine ev_lc hg fun σ H s R q z => h σ H s R (fun J H' ds w1 e cc it ⟨hz, h1, h2⟩ => q J H' ds w1 e cc it fun l hl => ?_) z
  refine ⟨fun i acc w' => acc = List.replicate i (.bl true) ∧ Keep w1 w', ⟨rfl, (Keep.refl w1).put hl⟩, ?_, ?_⟩
  · rintro i d acc w' hd hw ⟨rfl, hk⟩
    have hi : i < ds.length := (List.getElem?_eq_some_iff.mp hd).1
    refine fun v σ H r s Q q z => h1 w' i d hd v σ H r s Q (fun σ' H' δ' w3 e s' k => q σ' H' δ' w3 e s' ?_) z
    obtain ⟨rfl, k⟩ := k
    refine et_yes ?_
    rw [if_pos rfl]
    refine k.imp fun y w4 ⟨hy, k4⟩ => ?_
    subst hy
    refine ⟨by rw [k4 l (by rw [hw]; simp), hw], by rw [List.length_replicate]; omega, by rw [List.replicate_succ'], (hk.trans k4).put hl⟩
  · rintro acc w' hw ⟨rfl, hk⟩
    refine h2 _ fun q hq => ?_
    have ne : q ≠ l := fun z => hq (z ▸ hl)
    unfold cut
    rw [if_neg ne]
    exact hk q hq
theorem cutD_last {xs : List Str} {c : Int} (h : 0 < c) : ∃ ys : List Str, DL.cutD (xs.map D.str) (some (-c)) none = ys.map D.str ∧ ys.Sublist xs ∧ (ys.length : Int) ≤ c := by
  refine ⟨(xs.drop ((-c + xs.length).toNat)).take (xs.length - (-c + xs.length).toNat), ?_, (List.take_sublist _ _).trans (List.drop_sublist _ _), ?_⟩
  · unfold DL.cutD
    have e : HT.sIx (xs.map D.str).length 0 (some (-c)) = (-c + xs.length).toNat := by
      unfold HT.sIx
      simp only [List.length_map]
      rw [if_pos (by omega)]
    rw [e, HT.sIx_none, List.length_map, List.map_take, List.map_drop]
  · rw [List.length_take, List.length_drop]
    omega
theorem wordsOk_sub {xs ys : List Str} (h : wordsOk xs) (s : ys.Sublist xs) : wordsOk ys := ⟨fun x hx => h.1 x (s.subset hx), h.2.sublist s⟩
theorem cutD_prs_to {prs : List (Str × Int)} {j : Int} (h : 0 ≤ j) : DL.cutD (prs.map prD) none (some j) = (prs.take j.toNat).map prD := by rw [cutD_to h, List.map_take]
theorem cutD_prs_from {prs : List (Str × Int)} {j : Int} (h : 0 ≤ j) : DL.cutD (prs.map prD) (some j) none = (prs.drop j.toNat).map prD := by rw [cutD_from h, List.map_drop]
theorem SumP.none {b : Int} {n : Nat} : SumP b n [] := ⟨List.Pairwise.nil, fun pr h => (List.not_mem_nil h).elim, Nat.zero_le _⟩
theorem ev_bagP {K : PySem.W.Frag} {W : XK} {δ : Dlt} {w : Wl} {Pd : PD} {Z : ZD} {E' : XK} {t : TA} (h : EvA K W t δ w (fun ds w1 => ∃ (p : Addr) (xs : List Str) (m : Int), ds = [.ptr p, .lst (xs.map D.str), .int m] ∧ wordsOk xs ∧ xs.length ≤ 12 ∧ 0 ≤ m ∧ m ≤ 10 ^ 30 ∧ Pl w1 p w1 ∧ ∀ (w2 : Wl) (prs : List (Str × Int)), Pm w1 p w2 → SumP (10 ^ 30) xs.length prs → Pd (.tup (prs.map prD)) w2) Z) : Ev K W (tCall (SpD K preBag postBagP zN) [] E' t) δ w Pd Z :=
  ev_call fun σ H s Q q z => h σ H s Q (fun v H' d w' e c r p => q v H' d w' e c r (by
    obtain ⟨p, xs, m, rfl, h3, h4, h5, h6, h7, h8⟩ := p
    exact ⟨⟨p, xs, m, rfl, h3, h4, h5, h6, h7⟩, fun d w2 pd => by
      obtain ⟨g1, prs, rfl, g2⟩ := pd p _ m rfl
      rw [List.length_map] at g2
      exact h8 w2 prs g1 g2⟩)) z
def eA : List (Str × Int) := [("a", 2), ("b", 2), ("c", 2), ("d", 2), ("e", 2), ("f", 2), ("g", 2), ("h", 2)]
def eI : List (Str × Int) := [("i", 2), ("j", 2), ("k", 2), ("l", 2), ("m", 2), ("n", 2), ("o", 2), ("p", 2)]
theorem SumP.of {n : Nat} {prs : List (Str × Int)} (h1 : asc (prs.map (·.1))) (h2 : prs.all (fun pr => nameS pr.1 && (decide (1 ≤ pr.2) && decide (pr.2 ≤ 10 ^ 30))) = true) (h3 : prs.length ≤ n) : SumP (10 ^ 30) n prs :=
  ⟨h1, fun pr hp => by
    have := List.all_eq_true.mp h2 pr hp
    simp only [Bool.and_eq_true, decide_eq_true_eq] at this
    exact this, h3⟩
theorem eA_ok : SumP (10 ^ 30) (8 : Int).toNat eA := .of (by unfold asc; decide +kernel) (by decide +kernel) (by decide)
theorem eI_ok : SumP (10 ^ 30) (8 : Int).toNat eI := .of (by unfold asc; decide +kernel) (by decide +kernel) (by decide)
theorem eightA : (chrD ("abcdefgh" : Str)).map (withC 2) = eA.map prD := by
  have e : ("abcdefgh" : Str).cps.toList = [97, 98, 99, 100, 101, 102, 103, 104] := by decide +kernel
  unfold chrD
  rw [e]
  rfl
theorem eightI : (chrD ("ijklmnop" : Str)).map (withC 2) = eI.map prD := by
  have e : ("ijklmnop" : Str).cps.toList = [105, 106, 107, 108, 109, 110, 111, 112] := by decide +kernel
  unfold chrD
  rw [e]
  rfl
end LW
set_option Elab.async false
set_option linter.all false
set_option autoImplicit false
set_option maxRecDepth 100000
set_option maxHeartbeats 4000000
/-! BM: losses. -/
namespace LW
open PySem PySem.Spec PyProof.Rows L2 DL
def negP (e : List (Str × Int)) : List (Str × Int) := e.map fun pr => (pr.1, -pr.2)
def lossL (p a e : List (Str × Int)) : List (Str × Int) := p ++ a ++ negP e
def nzP (ys : List (Str × Int)) : List (Str × Int) := ys.filter fun pr => decide (pr.2 ≠ 0)
def okQ (C : Addr) (ds : List D) : Prop := ∃ (c : Int) (p a e : List (Str × Int)) (b : Int), ds = [.ins C (sumFs c p), .tup (a.map prD), .ins C (sumFs c e)] ∧ SumP b 8 p ∧ SumP b 12 a ∧ SumP b 8 e
def okSumZ (ds : List D) (_ : Wl) : Prop := ∃ prs : List (Str × Int), ds = [.tup (prs.map prD)] ∧ (accS prs).length < 64
def postSumZ (ds : List D) (w : Wl) (d : D) (w' : Wl) : Prop := Keep w w' ∧ ∀ prs : List (Str × Int), ds = [.tup (prs.map prD)] → ∃ ys, d = .tup (ys.map prD) ∧ Sums prs ys
def postLP (C : Addr) (ds : List D) (w : Wl) (d : D) (w' : Wl) : Prop := Keep w w' ∧ ∀ (c : Int) (p a e : List (Str × Int)), ds = [.ins C (sumFs c p), .tup (a.map prD), .ins C (sumFs c e)] → ∃ ys, d = .tup (ys.map prD) ∧ Sums (lossL p a e) ys
def postLoss (C : Addr) (ds : List D) (w : Wl) (d : D) (w' : Wl) : Prop := Keep w w' ∧ ∀ (c : Int) (p a e : List (Str × Int)), ds = [.ins C (sumFs c p), .tup (a.map prD), .ins C (sumFs c e)] → ∃ ys, d = .tup ((nzP ys).map prD) ∧ Sums (lossL p a e) ys
theorem q_inj {C : Addr} {c c' : Int} {p a e p' a' e' : List (Str × Int)} (h : [D.ins C (sumFs c p), .tup (a.map prD), .ins C (sumFs c e)] = [.ins C (sumFs c' p'), .tup (a'.map prD), .ins C (sumFs c' e')]) : p = p' ∧ a = a' ∧ e = e' := by
  unfold sumFs sumFsB at h
  simp only [List.cons.injEq, D.ins.injEq, Prod.mk.injEq, D.int.injEq, D.tup.injEq, D.btp.injEq, and_true, true_and] at h
  exact ⟨prs_inj h.1.2, prs_inj h.2.1, prs_inj h.2.2.2⟩
theorem acc_len (prs : List (Str × Int)) : (accS prs).length ≤ prs.length := by
  have := acc_few (xs := prs.map (·.1)) (prs := prs) fun pr hp => List.mem_map.mpr ⟨pr, hp, rfl⟩
  rwa [List.length_map] at this
theorem loss_few {b c d : Int} {p a e : List (Str × Int)} (h1 : SumP b 8 p) (h2 : SumP c 12 a) (h3 : SumP d 8 e) : (accS (lossL p a e)).length ≤ 28 := by
  have := acc_len (lossL p a e)
  unfold lossL negP at this
  rw [List.length_append, List.length_append, List.length_map] at this
  have := h1.2.2; have := h2.2.2; have := h3.2.2
  unfold lossL negP
  omega
def negF (d : D) : D := prD (nmD d, -cntD d)
theorem neg_eq (e : List (Str × Int)) : (e.map prD).map negF = (negP e).map prD := by unfold negP; rw [List.map_map, List.map_map]; rfl
theorem nz_eq (ys : List (Str × Int)) : ((ys.map prD).filter (fun d => decide (cntD d ≠ 0))).map (fun d => prD (nmD d, cntD d)) = (nzP ys).map prD := by
  unfold nzP
  rw [List.filter_map, List.map_map]
  rfl
end LW
set_option Elab.async false
set_option linter.all false
set_option autoImplicit false
set_option maxRecDepth 100000
set_option maxHeartbeats 4000000
/-! BN: tables that are played on. -/
namespace LW
open PySem PySem.Spec PyProof.Rows L2 DL
/-- a table of so many names at most, each with a count from 1 on -/
def TabOk (n : Nat) (b : Int) (kvs : List (Str × Int)) : Prop := (kvs.map (·.1)).Nodup ∧ (∀ e ∈ kvs, nameS e.1 = true ∧ 1 ≤ e.2 ∧ e.2 ≤ b) ∧ kvs.length ≤ n
def preRun (ds : List D) (w : Wl) : Prop := ∃ (n : Int) (l : Addr) (kvs : List (Str × Int)) (x : Str) (o b : Int), ds = [.int n, .ptr l, .str x, .int o] ∧ w l = some (.dK (kvs.map entD)) ∧ TabOk n.toNat b kvs ∧ nameS x = true ∧ 1 ≤ o ∧ 1 ≤ n ∧ n ≤ 8 ∧ 0 ≤ b
def postRun (ds : List D) (w : Wl) (d : D) (w' : Wl) : Prop := Keep w w' ∧ ∀ (n : Int) (l : Addr) (kvs : List (Str × Int)) (x : Str) (o b : Int), ds = [.int n, .ptr l, .str x, .int o] → w l = some (.dK (kvs.map entD)) → TabOk n.toNat b kvs → 0 ≤ b → ∃ (l2 : Addr) (kv2 : List (Str × Int)) (z : Int), d = .tup [.ptr l2, .int z] ∧ w l2 = none ∧ w' l2 = some (.dK (kv2.map entD)) ∧ TabOk n.toNat (b + o) kv2
theorem val_some {n : Str} (kvs : List (Str × Int)) : (valD (kvs.map entD) (.inr n)).isSome = decide (n ∈ kvs.map (·.1)) := by
  by_cases h : n ∈ kvs.map (·.1)
  · rw [valD_mem h, decide_eq_true h]; rfl
  · rw [decide_eq_false h]
    unfold valD
    rw [List.find?_eq_none.mpr]
    · rfl
    · intro e he z
      obtain ⟨f, hf, rfl⟩ := List.mem_map.mp he
      exact h (List.mem_map.mpr ⟨f, hf, Sum.inr.inj (of_decide_eq_true z)⟩)
theorem TabOk.cut {n : Nat} {b s : Int} {kvs : List (Str × Int)} (h : TabOk n b kvs) (hs : 0 ≤ s) : TabOk n b (cutP s kvs) := by
  refine ⟨h.1.sublist (cut_names s kvs), fun e he => ?_, ?_⟩
  · unfold cutP at he
    obtain ⟨q, hq, rfl⟩ := List.mem_map.mp he
    obtain ⟨hq1, hq2⟩ := List.mem_filter.mp hq
    have hq2 := of_decide_eq_true hq2
    obtain ⟨g1, g2, g3⟩ := h.2.1 q hq1
    exact ⟨g1, by show 1 ≤ q.2 - s; omega, by show q.2 - s ≤ b; omega⟩
  · unfold cutP
    rw [List.length_map]
    exact Nat.le_trans (List.length_filter_le _ _) h.2.2
theorem TabOk.add {n : Nat} {b o c : Int} {x : Str} {kvs : List (Str × Int)} (h : TabOk n b kvs) (hx : nameS x = true) (h1 : 1 ≤ c) (h2 : c ≤ o) (hb : 0 ≤ b) (room : x ∈ kvs.map (·.1) ∨ kvs.length < n) : TabOk n (b + o) (putS kvs x (getS kvs x + c)) := by
  have hg : 0 ≤ getS kvs x ∧ getS kvs x ≤ b := by
    unfold getS
    cases q : kvs.find? fun kv => decide (kv.1 = x) with
    | none => exact ⟨Int.le_refl _, hb⟩
    | some y =>
      have := h.2.1 y (List.mem_of_find?_eq_some q)
      exact ⟨by show (0 : Int) ≤ y.2; omega, this.2.2⟩
  refine ⟨by rw [putS_keys]; exact insS_nodup h.1 x, fun e he => ?_, ?_⟩
  · unfold putS at he
    split at he
    · obtain ⟨z, hz, rfl⟩ := List.mem_map.mp he
      obtain ⟨g1, g2, g3⟩ := h.2.1 z hz
      by_cases q : z.1 = x
      · rw [if_pos q]
        exact ⟨g1, by show 1 ≤ getS kvs x + c; omega, by show getS kvs x + c ≤ b + o; omega⟩
      · rw [if_neg q]; exact ⟨g1, g2, by omega⟩
    · rcases List.mem_append.mp he with he | he
      · obtain ⟨g1, g2, g3⟩ := h.2.1 e he
        exact ⟨g1, g2, by omega⟩
      · rw [List.mem_singleton.mp he]
        exact ⟨hx, by show 1 ≤ getS kvs x + c; omega, by show getS kvs x + c ≤ b + o; omega⟩
  · have e : (putS kvs x (getS kvs x + c)).length = (insS (kvs.map (·.1)) x).length := by rw [← putS_keys _ _ (getS kvs x + c), List.length_map]
    rw [e]
    rcases room with h5 | h5
    · unfold insS
      rw [if_pos h5, List.length_map]; exact h.2.2
    · have := insS_len (kvs.map (·.1)) x
      rw [List.length_map] at this
      omega
theorem TabOk.mono {n : Nat} {b c : Int} {kvs : List (Str × Int)} (h : TabOk n b kvs) (l : b ≤ c) : TabOk n c kvs := ⟨h.1, fun e he => by
  obtain ⟨g1, g2, g3⟩ := h.2.1 e he
  exact ⟨g1, g2, by omega⟩, h.2.2⟩
theorem cutP_snoc (s : Int) (kvs : List (Str × Int)) (e : Str × Int) : cutP s (kvs ++ [e]) = cutP s kvs ++ (if e.2 > s then [(e.1, e.2 - s)] else []) := by
  unfold cutP
  rw [List.filter_append, List.map_append]
  congr 1
  by_cases h : e.2 > s
  · rw [if_pos h, List.filter_cons, decide_eq_true h]; rfl
  · rw [if_neg h, List.filter_cons, decide_eq_false h]; rfl
theorem cut_new {s : Int} {kvs : List (Str × Int)} {i : Nat} {n : Str} {c : Int} (nd : (kvs.map (·.1)).Nodup) (h : kvs[i]? = some (n, c)) : n ∉ (cutP s (kvs.take i)).map (·.1) := by
  intro z
  have z2 := (cut_names s (kvs.take i)).subset z
  have hi : i < kvs.length := (List.getElem?_eq_some_iff.mp h).1
  have e1 : kvs.map (·.1) = (kvs.take i).map (·.1) ++ (kvs.drop i).map (·.1) := by rw [← List.map_append, List.take_append_drop]
  rw [e1, List.nodup_append] at nd
  refine nd.2.2 n z2 n ?_ rfl
  have hd : kvs.drop i = kvs[i] :: kvs.drop (i + 1) := List.drop_eq_getElem_cons hi
  rw [hd]
  have : kvs[i] = (n, c) := (List.getElem?_eq_some_iff.mp h).2
  rw [this]
  exact List.mem_cons_self ..
theorem ent_at {kvs : List (Str × Int)} {ix : Nat} {k : Key} {d : D} (h : (kvs.map entD)[ix]? = some (k, d)) : ∃ n c, k = .inr n ∧ d = .int c ∧ kvs[ix]? = some (n, c) := by
  rw [List.getElem?_map] at h
  obtain ⟨⟨n, c⟩, h1, h2⟩ := Option.map_eq_some_iff.mp h
  injection h2 with h2 h3
  exact ⟨n, c, h2.symm, h3.symm, h1⟩
theorem getS_at {kvs : List (Str × Int)} (nd : (kvs.map (·.1)).Nodup) {ix : Nat} {n : Str} {c : Int} (h : kvs[ix]? = some (n, c)) : valD (kvs.map entD) (.inr n) = some (.int c) := by
  have hm := List.mem_of_getElem? h
  rw [valD_mem (List.mem_map.mpr ⟨(n, c), hm, rfl⟩), getS_mem nd (n, c) hm]
def prePld (ds : List D) (w : Wl) : Prop := ∃ (n : Int) (l : Addr) (kvs prs : List (Str × Int)), ds = [.int n, .ptr l, .tup (prs.map prD)] ∧ w l = some (.dK (kvs.map entD)) ∧ TabOk n.toNat (10 ^ 30) kvs ∧ 1 ≤ n ∧ n ≤ 8 ∧ ∀ pr ∈ prs, nameS pr.1 = true ∧ 1 ≤ pr.2 ∧ pr.2 ≤ 10 ^ 30
def postPld (ds : List D) (w : Wl) (d : D) (w' : Wl) : Prop := Keep w w' ∧ ∃ (l2 : Addr) (kv2 : List (Str × Int)) (z : Int), d = .tup [.ptr l2, .int z] ∧ w' l2 = some (.dK (kv2.map entD)) ∧ ∀ (n : Int) (l : Addr) (kvs prs : List (Str × Int)), ds = [.int n, .ptr l, .tup (prs.map prD)] → TabOk n.toNat (10 ^ 30 + prs.length * 10 ^ 30) kv2
def segs (p a e : List (Str × Int)) : List (List (Str × Int) × Int) := [(p, 1), (a, 1), (e, -1)]
def sgnP (s : List (Str × Int) × Int) : List (Str × Int) := s.1.map fun pr => (pr.1, s.2 * pr.2)
theorem sgnP_snoc (q : List (Str × Int)) (e : Str × Int) (s : Int) : sgnP (q ++ [e], s) = sgnP (q, s) ++ [(e.1, s * e.2)] := by unfold sgnP; rw [List.map_append]; rfl
theorem segs_at {p a e : List (Str × Int)} {i : Nat} {el : D} (h : [D.tup [.tup (p.map prD), .int 1], D.tup [.tup (a.map prD), .int 1], D.tup [.tup (e.map prD), .int (-1)]][i]? = some el) : ∃ q s, el = .tup [.tup (q.map prD), .int s] ∧ (segs p a e)[i]? = some (q, s) ∧ -1 ≤ s ∧ s ≤ 1 := by
  match i, h with
  | 0, h => cases h; exact ⟨p, 1, rfl, rfl, by decide, by decide⟩
  | 1, h => cases h; exact ⟨a, 1, rfl, rfl, by decide, by decide⟩
  | 2, h => cases h; exact ⟨e, -1, rfl, rfl, by decide, by decide⟩
  | n + 3, h => simp at h
theorem segs_take {p a e q : List (Str × Int)} {s : Int} {i : Nat} (h : (segs p a e)[i]? = some (q, s)) : ((segs p a e).take (i + 1)).flatMap sgnP = ((segs p a e).take i).flatMap sgnP ++ sgnP (q, s) := by
  rw [List.take_add_one, h, List.flatMap_append]
  simp
theorem segs_all (p a e : List (Str × Int)) : ((segs p a e).take 3).flatMap sgnP = lossL p a e := by
  unfold segs lossL negP sgnP
  simp
theorem segs_few {p a e q : List (Str × Int)} {s : Int} (hl : p.length + a.length + e.length ≤ 60) (i : Nat) (h : (segs p a e)[i]? = some (q, s)) (j : Nat) : (accS (((segs p a e).take i).flatMap sgnP ++ sgnP (q.take j, s))).length ≤ 200 := by
  have h1 := acc_len (((segs p a e).take i).flatMap sgnP ++ sgnP (q.take j, s))
  have h2 : (((segs p a e).take i).flatMap sgnP).length ≤ 60 := by
    match i, h with
    | 0, _ => simp
    | 1, _ => simp [segs, sgnP]; omega
    | 2, _ => simp [segs, sgnP]; omega
    | n + 3, h => simp [segs] at h
  have h3 : (sgnP (q.take j, s)).length ≤ 60 := by
    unfold sgnP
    rw [List.length_map, List.length_take]
    match i, h with
    | 0, h => cases h; omega
    | 1, h => cases h; omega
    | 2, h => cases h; omega
    | n + 3, h => simp [segs] at h
  rw [List.length_append] at h1
  omega
def preLo (ds : List D) (_ : Wl) : Prop := ∃ p a e : List (Str × Int), ds = [.tup (p.map prD), .tup (a.map prD), .tup (e.map prD)] ∧ p.length + a.length + e.length ≤ 60
def postLo (ds : List D) (w : Wl) (d : D) (w' : Wl) : Prop := ∃ l : Addr, w l = none ∧ d = .ptr l ∧ ∀ p a e : List (Str × Int), ds = [.tup (p.map prD), .tup (a.map prD), .tup (e.map prD)] → w' = put w l (.dK ((accS (lossL p a e)).map entD))
theorem lo_inj {p a e p' a' e' : List (Str × Int)} (h : [D.tup (p.map prD), .tup (a.map prD), .tup (e.map prD)] = [.tup (p'.map prD), .tup (a'.map prD), .tup (e'.map prD)]) : p = p' ∧ a = a' ∧ e = e' := by
  simp only [List.cons.injEq, D.tup.injEq, and_true] at h
  exact ⟨prs_inj h.1, prs_inj h.2.1, prs_inj h.2.2⟩
end LW
set_option Elab.async false
set_option linter.all false
set_option autoImplicit false
set_option maxRecDepth 100000
set_option maxHeartbeats 4000000
/-! BO: the law about losses. -/
namespace DL
open PySem PySem.Spec PyProof.Rows L2
section
variable {K : PySem.W.Frag} {W : XK} {δ : Dlt} {w : Wl} {P Q : PD} {Z : ZD} {te t1 t2 : TE} {u1 u2 : TS} {c : Bool}
theorem ev_revL (h : Ev K W te δ w (fun x w1 => ∃ ds, x = .lst ds ∧ P (.lst ds.reverse) w1) Z) : Ev K W (tRevL K te) δ w P Z :=
  fun σ H s Q q z => h σ H s _ (fun v H1 d w1 e1 c1 r1 ⟨ds, ex, hp⟩ => by
    subst ex
    cases r1 with
    | lst ht hr => exact ⟨_, _, rfl, SqL.of (msk_some ht).2, fun p hp' => kq_lst (KqG.next q e1) c1 hr.reverse hp hp'⟩) z
theorem ev_ite2 (Q : PD) (h1 : c = true → Ev K W t1 δ w Q Z) (h2 : c = false → Ev K W t2 δ w Q Z) (k : ∀ d w1, Q d w1 → P d w1) : if c = true then Ev K W t1 δ w P Z else Ev K W t2 δ w P Z := by
  cases c with
  | true => rw [if_pos rfl]; exact (h1 rfl).imp k
  | false => rw [if_neg (by decide)]; exact (h2 rfl).imp k
theorem Sd.nxt {nx R : Dlt → Wl → Prop} {rt : PD} {bk ct : Dlt → Wl → Prop} {rz : ZD} (h : Sd K W u1 δ w ⟨R, rt, bk, ct, rz⟩) (k : ∀ δ' w', R δ' w' → nx δ' w') : Sd K W u1 δ w ⟨nx, rt, bk, ct, rz⟩ :=
  fun σ H s Dn ke => h σ H s Dn ⟨fun σ' H' δ' w' e s' r => ke.nx σ' H' δ' w' e s' (k _ _ r), ke.rt, ke.bk, ke.ct, ke.rz⟩
theorem sd_ite2 {nx : Dlt → Wl → Prop} {rt : PD} {bk ct : Dlt → Wl → Prop} {rz : ZD} (R : Dlt → Wl → Prop) (h1 : c = true → Sd K W u1 δ w ⟨R, rt, bk, ct, rz⟩) (h2 : c = false → Sd K W u2 δ w ⟨R, rt, bk, ct, rz⟩) (k : ∀ δ' w', R δ' w' → nx δ' w') :
    if c = true then Sd K W u1 δ w ⟨nx, rt, bk, ct, rz⟩ else Sd K W u2 δ w ⟨nx, rt, bk, ct, rz⟩ := by
  cases c with
  | true => rw [if_pos rfl]; exact (h1 rfl).nxt k
  | false => rw [if_neg (by decide)]; exact (h2 rfl).nxt k
theorem sd_par3 {nx : Dlt → Wl → Prop} {rt : PD} {bk ct : Dlt → Wl → Prop} {rz : ZD} {i j l : Nat} {t : TA} (h : EvA K W t δ w (fun ds w1 => ∃ a b c, ds = [a, b, c] ∧ nx (((δ.set i (some a)).set j (some b)).set l (some c)) w1) rz) : Sd K W (tPar3 i j l t) δ w ⟨nx, rt, bk, ct, rz⟩ :=
  fun σ H s Dn ke => h σ H s _ (fun vs H1 ds w1 e1 c1 r1 ⟨a, b, c, hd, k⟩ => by
    subst hd
    cases r1 with
    | cons p1 q1 => cases q1 with
      | cons p2 q2 => cases q2 with
        | cons p3 q3 =>
          cases q3
          exact ⟨_, _, _, rfl, ke.nx _ H1 _ w1 e1 ((((s.next e1 c1).set i p1).set j p2).set l p3) k⟩) ke.rz
end
end DL
namespace LW
open PySem PySem.Spec PyProof.Rows L2 DL
def getN (kvs : List (Str × Int)) : D → D | .str n => prD (n, getS kvs n) | _ => .non
def getZ (kvs : List (Str × Int)) : D → Bool | .str n => decide (getS kvs n ≠ 0) | _ => false
theorem get_nz (kvs : List (Str × Int)) (ys : List Str) : ((ys.map D.str).filter (getZ kvs)).map (getN kvs) = (nzP (ys.map fun n => (n, getS kvs n))).map prD := by
  unfold nzP
  rw [List.filter_map, List.map_map, List.filter_map, List.map_map]
  rfl
def postDue (ds : List D) (w : Wl) (d : D) (w' : Wl) : Prop := Keep w w' ∧ ∀ p a e : List (Str × Int), ds = [.tup (p.map prD), .tup (a.map prD), .tup (e.map prD)] → ∃ ys, d = .tup ((nzP ys).map prD) ∧ Sums (lossL p a e) ys
def preFirst (ds : List D) (w : Wl) : Prop := ∃ (p : Addr) (n : Int) (xs : List Str) (m : Int), ds = [.ptr p, .int n, .lst (xs.map D.str), .int m] ∧ 1 ≤ n ∧ n ≤ 8 ∧ wordsOk xs ∧ xs.length ≤ 12 ∧ 0 ≤ m ∧ m ≤ 10 ^ 30 ∧ Pl w p w
def postFirst (ds : List D) (w : Wl) (d : D) (w' : Wl) : Prop := ∀ p n xs m, ds = [.ptr p, .int n, .lst xs, .int m] → Pm w p w' ∧ ∃ prs, d = .tup (prs.map prD) ∧ SumP (10 ^ 30) n.toNat prs
/-- the sizes of losses -/
theorem sumN_bound {b : Int} (n : Str) : ∀ prs : List (Str × Int), (∀ pr ∈ prs, -b ≤ pr.2 ∧ pr.2 ≤ b) → 0 ≤ b → -(prs.length * b) ≤ sumN n prs ∧ sumN n prs ≤ prs.length * b
  | [], _, _ => by unfold sumN; simp
  | e :: r, h, hb => by
    have ih := sumN_bound n r (fun pr hp => h pr (List.mem_cons_of_mem _ hp)) hb
    obtain ⟨h1, h2⟩ := h e (List.mem_cons_self ..)
    have ec : (((e :: r).length : Nat) : Int) * b = r.length * b + b := by rw [List.length_cons, Int.natCast_add, Int.add_mul]; omega
    have es : sumN n (e :: r) = (if e.1 = n then e.2 else 0) + sumN n r := by
      unfold sumN
      rw [List.filter_cons]
      by_cases q : e.1 = n
      · rw [decide_eq_true q, if_pos q]; rfl
      · rw [decide_eq_false q, if_neg q]; simp
    rw [ec, es]
    split <;> omega
def Small (b : Int) (prs : List (Str × Int)) : Prop := ∀ pr ∈ prs, nameS pr.1 = true ∧ -b ≤ pr.2 ∧ pr.2 ≤ b
theorem sums_small {b : Int} {prs ys : List (Str × Int)} (hb : 0 ≤ b) (h : Small b prs) (s : Sums prs ys) : Small (prs.length * b) ys := by
  intro e he
  have he' := s.1.subset he
  have hk : e.1 ∈ (accS prs).map (·.1) := List.mem_map.mpr ⟨e, he', rfl⟩
  have hv := getS_mem (acc_nodup prs) e he'
  rw [acc_get] at hv
  obtain ⟨f, hf, hfe⟩ := List.mem_map.mp ((acc_mem e.1 prs).mp hk)
  have bd := sumN_bound e.1 prs (fun pr hp => (h pr hp).2) hb
  rw [← hv]
  exact ⟨by rw [← hfe]; exact (h f hf).1, bd⟩
theorem wr_small {prs : List (Str × Int)} (h : Small (10 ^ 40) prs) (hl : prs.length ≤ 1000) : DL.wr (.tup (prs.map prD)) := by
  have each : ∀ d ∈ prs.map prD, small d = true ∧ deepD d ≤ 1 ∧ costD d ≤ 4000 := by
    intro d hd
    obtain ⟨pr, hp, rfl⟩ := List.mem_map.mp hd
    obtain ⟨h1, h2, h3⟩ := h pr hp
    have low := nameS_low h1
    have len : pr.1.length ≤ 8 := by
      unfold nameS at h1
      simp at h1
      exact h1.1
    have lg : pr.2.natAbs.log2 < 1900 := by
      have : pr.2.natAbs ≤ 10 ^ 40 := by omega
      rcases Nat.eq_zero_or_pos pr.2.natAbs with z | z
      · rw [z]; decide
      · refine (Nat.log2_lt (by omega)).mpr (Nat.lt_of_le_of_lt this (by decide +kernel))
    refine ⟨?_, ?_, ?_⟩
    · simp only [prD, small, smallA, Bool.and_true, Bool.and_eq_true, decide_eq_true_eq]
      exact ⟨by simpa using low, lg⟩
    · simp [prD, deepD, deepA]
    · simp only [prD, costD, costA]
      omega
  have h1 := smallA_of fun d hd => (each d hd).1
  have h2 := deepA_of (n := 1) fun d hd => (each d hd).2.1
  have h3 := costA_of (n := 4000) fun d hd => (each d hd).2.2
  rw [List.length_map] at h3
  refine ⟨by simp only [small]; exact h1, by simp only [deepD]; omega, ?_⟩
  simp only [costD]
  rw [sizeLine_eq]
  omega
theorem SumP.small {b c : Int} {n : Nat} {prs : List (Str × Int)} (h : SumP b n prs) (l : b ≤ c) : Small c prs := fun pr hp => by
  obtain ⟨h1, h2, h3⟩ := h.2.1 pr hp
  exact ⟨h1, by omega, by omega⟩
theorem Small.neg {b : Int} {prs : List (Str × Int)} (h : Small b prs) : Small b (negP prs) := fun pr hp => by
  unfold negP at hp
  obtain ⟨q, hq, rfl⟩ := List.mem_map.mp hp
  obtain ⟨h1, h2, h3⟩ := h q hq
  exact ⟨h1, by show -b ≤ -q.2; omega, by show -q.2 ≤ b; omega⟩
theorem Small.app {b : Int} {p q : List (Str × Int)} (h : Small b p) (g : Small b q) : Small b (p ++ q) := fun pr hp => (List.mem_append.mp hp).elim (h pr) (g pr)
theorem loss_wr {p a e ys : List (Str × Int)} {b : Int} (h1 : SumP b 8 p) (h2 : SumP b 12 a) (h3 : SumP b 8 e) (hb0 : 0 ≤ b) (hb : b ≤ 10 ^ 36) (s : Sums (lossL p a e) ys) : DL.wr (.tup ((nzP ys).map prD)) := by
  have hs : Small (10 ^ 36) (lossL p a e) := ((h1.small hb).app (h2.small hb)).app (h3.small hb).neg
  have hl : (lossL p a e).length ≤ 28 := by
    unfold lossL negP
    rw [List.length_append, List.length_append, List.length_map]
    have := h1.2.2; have := h2.2.2; have := h3.2.2
    omega
  have hy := sums_small (by decide +kernel) hs s
  have hyl : ys.length ≤ 28 := by rw [s.1.length_eq]; exact Nat.le_trans (acc_len _) hl
  have big : ((lossL p a e).length : Int) * 10 ^ 36 ≤ 10 ^ 40 := by
    have h1 : ((lossL p a e).length : Int) * 10 ^ 36 ≤ 28 * 10 ^ 36 := Int.mul_le_mul_of_nonneg_right (by omega) (by decide +kernel)
    have h2 : (28 : Int) * 10 ^ 36 ≤ 10 ^ 40 := by decide +kernel
    omega
  refine wr_small (fun pr hp => ?_) ?_
  · obtain ⟨g1, g2, g3⟩ := hy pr ((List.mem_filter.mp hp).1)
    exact ⟨g1, by omega, by omega⟩
  · have := List.length_filter_le (fun pr : Str × Int => decide (pr.2 ≠ 0)) ys
    unfold nzP
    omega
def idxF (xs : List Str) : D → D | .int i => .str (xs.getD i.toNat "") | _ => .non
theorem idx_take (xs : List Str) {k : Nat} (h : k ≤ xs.length) : (rngD 0 k).map (idxF xs) = (xs.take k).map D.str := by
  rw [rng_map]
  refine List.ext_getElem (by simp; omega) fun i h1 h2 => ?_
  have hi : i < xs.length := by
    rw [List.length_map, List.length_take] at h2
    omega
  simp [idxF, hi]
theorem at_str {xs : List Str} {i : Nat} (h : i < xs.length) : atI (xs.map D.str) (i : Int) = some (.str (xs.getD i "")) := by
  unfold atI ixN
  rw [if_pos (by omega), if_pos (by rw [List.length_map]; omega)]
  simp [h]
/-- a case: capacity, first counters, arrivals, last counters -/
def CaseD (d : D) : Prop := ∃ (c : Int) (p a e : List (Str × Int)), d = .tup [.int c, .tup (p.map prD), .tup (a.map prD), .tup (e.map prD)] ∧ 1 ≤ c ∧ c ≤ 8 ∧ SumP (10 ^ 36) c.toNat p ∧ SumP (10 ^ 36) 12 a ∧ SumP (10 ^ 36) c.toNat e
def postCase (ds : List D) (w : Wl) (d : D) (w' : Wl) : Prop := ∀ p, ds = [.ptr p] → Pm w p w' ∧ CaseD d
theorem SumP.bound {b c : Int} {n : Nat} {prs : List (Str × Int)} (h : SumP b n prs) (l : b ≤ c) : SumP c n prs := ⟨h.1, fun pr hp => by
  obtain ⟨h1, h2, h3⟩ := h.2.1 pr hp
  exact ⟨h1, h2, by omega⟩, h.2.2⟩
def preTold (ds : List D) (_ : Wl) : Prop := ∃ d, ds = [d] ∧ CaseD d
end LW
set_option Elab.async false
set_option linter.all false
set_option autoImplicit false
set_option maxRecDepth 100000
set_option maxHeartbeats 4000000
/-! DL19: what the top has left of a class. -/
namespace LW
open PySem PySem.Spec PyProof.Rows L2 DL
theorem kit_self {K : PySem.W.Frag} {C : Addr} : PySem.W.kitOne K (.ref C) (.ref C) = some true := by
  unfold PySem.W.kitOne
  rw [if_pos (by simp)]
theorem uc_of {K : PySem.W.Frag} {h : Heap} {mg : Str → Option Value} {name : Str} {C : Addr} (X : K.In h) (G : h.Ns mainGlobals mg) (a1 : PySem.W.nsIn K mainGlobals name = some (some (.ref C)))
    (pg : PySem.W.plainGet K C Str.empty = true) (hd : PySem.W.hasDictIn K C = true) (po : PySem.W.plainOver K C = true) (sa : PySem.W.findIn K (.ref C) "__setattr__" = some (some (.builtin "object.__setattr__")))
    (mk : PySem.W.makesIn K C = true) (kp : PySem.W.keepIn K (.ref C) = true) (ha : PySem.W.findIn K (.ref C) "__class__" = some (some (.builtin "object.__class__")))
    (hn : PySem.W.specialIn K (.builtin "object.__class__") "__get__" = some (some (.builtin "getset_descriptor.__get__"))) (htk : PySem.W.takesIn K (.builtin "object.__class__") = some true)
    (hm : PySem.W.mroIn K C (.type "object") = some true) : Uc K mg name C :=
  ⟨PySem.W.mg_of X G a1, ⟨pg, hd, po, sa⟩, ⟨mk, kp⟩, ha, hn, htk, hm, kit_self⟩
theorem md_of {K : PySem.W.Frag} {C f : Addr} {m qual : Str} {st : Stmt} {oc kV dc pm cd ct : Value} {od an : Option Addr} {sl : Array (Option Value)}
    (a1 : PySem.W.findIn K (.ref C) m = some (some (.ref f))) (a2 : K.lookup f = some ⟨oc, od, .func (PySem.W.fnOf m qual (defArgs st) (defBody st) (defScope st) .none kV dc pm an cd ct), sl⟩)
    (a3 : PySem.W.codeIn K cd qual = true) (a4 : PySem.W.isFn K (.ref f) = true) (a5 : PySem.W.keepIn K (.ref f) = true) : MD K C m qual st :=
  ⟨f, _, ⟨⟨oc, od, kV, dc, pm, an, cd, ct, sl, rfl, a2, a3⟩, ⟨a1, a4, a5⟩⟩⟩
theorem mdd_of {K : PySem.W.Frag} {C f T : Addr} {m qual : Str} {st : Stmt} {u oc kV dc pm cd ct oc2 : Value} {od an od2 : Option Addr} {n : Nat} {sl sl2 : Array (Option Value)}
    (a1 : PySem.W.findIn K (.ref C) m = some (some (.ref f))) (a2 : K.lookup f = some ⟨oc, od, .func (PySem.W.fnOf m qual (defArgs st) (defBody st) (defScope st) (.ref T) kV dc pm an cd ct), sl⟩)
    (a3 : PySem.W.codeIn K cd qual = true) (a4 : PySem.W.isFn K (.ref f) = true) (a5 : PySem.W.keepIn K (.ref f) = true) (a6 : K.lookup T = some ⟨oc2, od2, .seq #[u] n, sl2⟩) : MDD K C m qual st :=
  ⟨f, _, u, ⟨⟨oc, od, T, _, n, kV, dc, pm, an, cd, ct, sl, rfl, a2, a3, a6, rfl⟩, ⟨a1, a4, a5⟩⟩⟩
end LW
set_option Elab.async false
set_option linter.all false
set_option autoImplicit false
set_option maxRecDepth 100000
set_option maxHeartbeats 4000000
/-! DL22: an instance made with its last argument left out, an empty tuple. -/
namespace DL
open PySem PySem.Spec PyProof.Rows L2
structure ME0 (K : PySem.W.Frag) (C : Addr) (m qual : Str) (st : Stmt) (a0 f : Addr) (fd : FuncData) : Prop where
  ex : ∃ (oc : Value) (od : Option Addr) (T : Addr) (o : Obj) (n : Nat) (kV doc pm : Value) (an : Option Addr) (cdv ct : Value) (osl : Array (Option Value)),
    fd = PySem.W.fnOf m qual (defArgs st) (defBody st) (defScope st) (.ref T) kV doc pm an cdv ct ∧ K.lookup f = some ⟨oc, od, .func fd, osl⟩ ∧ K.lookup T = some o ∧ o.data = .seq #[.ref a0] n
  at_ : PySem.W.findIn K (.ref C) m = some (some (.ref f))
  emp : ∀ H : Hp, SqT K H a0 []
def ME (K : PySem.W.Frag) (C : Addr) (m qual : Str) (st : Stmt) (a0 : Addr) : Prop := ∃ f fd, ME0 K C m qual st a0 f fd
abbrev BindP1 (name qual : Str) (st : Stmt) (ps : List Str) : Prop := ∀ (T : Addr) (u kV doc pm : Value) (an : Option Addr) (cdv ct : Value) (us : List Value), (us ++ [u]).length = ps.length →
  ∃ k : Option (Array Value) → Sem (List (Str × Value)), bindArgs (PySem.W.fnOf name qual (defArgs st) (defBody st) (defScope st) (.ref T) kV doc pm an cdv ct) ⟨us, []⟩ = seqItems? (.ref T) >>= k ∧ k (some #[u]) = pure (ps.zip (us ++ [u]))
section
variable {X : Cx} {CX : CXT} {k : Nat} {C a0 : Addr} {x : Str} {ps : List Str} {sp : Sp} {E : XK} {p pos : Pos} {e : Expr} {es : List Expr} {t : TA} {qual : Str} {st : Stmt}
theorem pe_mk1 (F : Mt X.prog X.w X.K X.mg X.base CX k C "__init__" ps sp) (D0 : ME X.K C "__init__" qual st a0) (hB : BindP1 "__init__" qual st ps) (M : CMk X.K C) (hg : X.A.guards = some []) (hr : Room (k + 1) X.A) (hgl : Gl X x) (hm : X.mg x = some (.ref C)) (hx : Passes CX X E)
    (ha : PA X (e :: es) t) (hdb : (x == ("__debug__" : Str)) = false := by decide) (he : starEach (e :: es) X.env = (false, eval e X.env) :: starEach es X.env := by rfl) (hpl : (backTo pos (starEach es X.env)).any (·.1) = false := by rfl) :
    PE X (.Call (.Name x p) (e :: es) [] pos) (tMake C sp [.ref a0] E t) := by
  refine ⟨fun pins s σ H Q I h => ?_⟩
  refine wpAny_Call_Name_kw (ld_glob I hgl hm ?_ hdb)
  refine PySem.W.callWith_K (h₀ := X.base) I.ok.mod.kin M.kp (thn (ha.run pos pins s σ H _ I h) fun us s1 ⟨vs, H1, I1, r, q⟩ => ⟨I1.kIn, ?_⟩) he hpl
  have r2 : Vals (vs ++ [V.ref a0]) (us ++ [Value.ref a0]) := r.append (.cons rfl .nil)
  refine gn_make (us := us ++ [Value.ref a0]) (vs := vs ++ [V.ref a0]) (ar := ⟨us, []⟩) M F hg hr hx I1 (fun f fd x s1 F hk hl => ?_) r2 q
  obtain ⟨f2, fd2, D0⟩ := D0
  have ef : f = f2 := by
    have e := F.me.at_.symm.trans D0.at_
    injection e with e; injection e with e; injection e
  subst ef
  obtain ⟨oc, od, T, o, n, kV, doc, pm, an, cdv, ct, osl, hfd, hlk, lT, oT⟩ := D0.ex
  have efd : fd = fd2 := F.un hlk
  subst efd
  obtain ⟨kk, h1, h2⟩ := hB T (.ref a0) kV doc pm an cdv ct (.ref x :: us) (by simpa using hl)
  rw [hfd]
  exact PySem.W.binds_K hk rfl lT oT h1 h2
end
section
variable {K : PySem.W.Frag} {W : XK} {δ : Dlt} {w : Wl} {P : PD} {Z : ZD} {C a0 : Addr}
theorem ev_mk1 (hT : ∀ H : Hp, SqT K H a0 []) {pre : List D → Wl → Prop} {post : List D → Wl → D → Wl → Prop} {E' : XK} {t : TA}
    (h : EvA K W t δ w (fun ds w1 => ∀ x, w1 x = none → pre (.ptr x :: (ds ++ [.tup []])) (put w1 x (.ins C [])) ∧ ∀ d w2, post (.ptr x :: (ds ++ [.tup []])) (put w1 x (.ins C [])) d w2 → d = .non ∧ ∃ fs, w2 x = some (.ins C fs) ∧ P (.ins C fs) (cut w2 x)) Z) :
    Ev K W (tMake C (SpD K pre post zN) [.ref a0] E' t) δ w P Z :=
  fun σ H s Q q z => h σ H s _ (fun vs H1 ds w1 e1 c1 r1 h1 => fun x dx n1 n2 n3 => by
    obtain ⟨h2, h3⟩ := h1 x (c1.free n1)
    obtain ⟨e2, c2⟩ := new_ins (C := C) c1 n1 n2 n3
    have r2 : RpA K _ (vs ++ [V.ref a0]) (ds ++ [.tup []]) := (r1.mono e2).append (.cons (.tup (hT _) .nil) .nil)
    refine ⟨.ptr x :: (ds ++ [.tup []]), _, .cons (.ptr x) r2, c2, h2, fun v H3 d w3 e3 c3 r3 p3 => ?_, kz_none⟩
    obtain ⟨rfl, fs, hw, hp⟩ := h3 d w3 p3
    obtain ⟨e4, c4, r4⟩ := free_ins c3 hw
    cases r3
    exact ⟨rfl, q _ H3 _ _ (((e1.trans e2).trans e3).trans e4) c4 r4 hp⟩) z
end
end DL
set_option Elab.async false
set_option linter.all false
set_option autoImplicit false
set_option maxRecDepth 100000
set_option maxHeartbeats 4000000
/-! DL23: list(d.values()), d[k] -= n, del d[k]. -/
namespace DL
open PySem PySem.Spec PyProof.Rows L2
/-- list(e.values()) -/
def tListVals (te : TE) : TE := fun σ H Q => te σ H fun x H1 => ∃ (d : Addr) (kvs : List (Key × V)), x = .ref d ∧ H1 d = some (.dK kvs) ∧ ∀ p, H1 p = none → Q (.ref p) (upd H1 p (.lst (kvs.map (·.2))))
section
variable {X : Cx} {e o i value : Expr} {te td ty tv : TE} {p apos cpos pos tpos : Pos}
theorem q_listVals (hc : X.calm = true) (hm : X.mg "list" = none) (hg : Gl X "list") (he : PE X e te) (hbase : attributeBase e "values" X.env (eval e X.env) = eval e X.env := by rfl) (hline : (apos.endLine == cpos.line) = true := by rfl)
    (hs : starEach [.Call (.Attribute e "values" apos) [] [] cpos] X.env = (false, eval (.Call (.Attribute e "values" apos) [] [] cpos) X.env) :: starEach [] X.env := by rfl) :
    PE X (.Call (.Name "list" p) [.Call (.Attribute e "values" apos) [] [] cpos] [] pos) (tListVals te) := by
  refine ⟨fun pins s σ H Q I hq => ?_⟩
  refine wpAny_Call_Name_kw (ld_blt I hg hm boot_list ?_)
  refine PyProof.Rows.callWith_type1 ?_ hs rfl
  rw [hs]
  show wpAny _ _ (spliced ((false, eval (.Call (.Attribute e "values" apos) [] [] cpos) X.env) :: backTo pos (starEach [] X.env))) _ _ s
  refine Calls.spliced_cons ?_
  refine wpAny_Call_method (T := "dict") (id := "dict.values") hbase rfl hline F.plainAttrs_dict F.slot_dict_values F.type_dict_values (thn (he.run pins s σ H _ I hq) fun u s1 ⟨x, H1, I1, rx, d, kvs, ex, hd, q⟩ => ?_)
  subst ex
  obtain rfl : u = Value.ref d := rx
  obtain ⟨hz, hs0, vs, kv, hdo⟩ := I1.hok d _ hd
  obtain ⟨ep, hat⟩ := hdo.dictAt
  have lk : kvs.length = vs.length := Paired.length kv
  have I2 : Inv X pins σ H1 { s1 with heap := s1.heap.push { cls := .type "dict_values", data := .fields #[.ref d] } } := I1.kept (t' := s1.toks) fun b ob q => Heap.get?_push_of_some _ q
  refine ⟨hdo.typeIs, hdo.mapOf.noDict, ?_⟩
  show wpAny _ _ (callWith cpos (.builtin "dict.values") [.ref d] [] []) _ X.xe s1
  refine method_meetsIn F.slot_dict_values F.entry_dict_values rfl (PySem.evalArgs_none ⟨rfl, hdo.typeIs, F.args_dict_values_1 _, _, meets_dict_values (mixKind X.prog X.w) d hs0, ⟨vs, hdo⟩, ?_⟩)
  refine Calls.spliced_nil ?_
  refine PySem.W.kdl_call (PySem.W.kdl_values (knd := mixKind X.prog X.w) (kvs := vs) (ep := ep)) (I1.ok.hd hc) ⟨⟨_, Heap.get?_push_size _ rfl, rfl, rfl⟩, hat.push _⟩ (by omega) fun h' tk acc c hk hS hacc => ?_
  refine ⟨.ref _, _, I2.laid (t' := tk) hk (Nat.le_refl _) (show ObjOk X.prog X.w _ _ _ (.lst (kvs.map (·.2))) from ⟨by rw [List.length_map]; exact hz, acc.toList, c, ?_, by rw [Array.toArray_toList]; exact hS⟩), rfl, q _ (I2.hok.fresh (Nat.le_refl _))⟩
  have el : acc.toList.length = acc.size := by simp
  refine vals_of_at (by rw [List.length_map, el, hacc.1, lk]) fun j x v h1 h2 => ?_
  obtain ⟨k, hk2⟩ := hacc.2 j v (by rw [← Array.getElem?_toList]; exact h2)
  obtain ⟨y, g1, g2⟩ := KV.at' kv hk2
  rw [List.getElem?_map, g1] at h1
  cases h1
  exact g2
theorem q_daug (hu : X.A.units + 64 < cLine) (ho : PE X o td) (hi : PE X i ty) (hv : PE X value tv) (ha : ∀ ov iv new, augStore i ov iv new = (do holding [new, ov, iv] (setItem ov iv new); release [new, ov, iv] []; pure .next) := by intros; rfl) :
    PS X (.AugAssign (.Subscript o i tpos) .Sub value pos) (sDAug td ty tv rSub) := ps_daug (by omega) ho hi hv in_sub ha
end
section
variable {K : PySem.W.Frag} {W : XK} {δ : Dlt} {w : Wl} {P : PD} {Z : ZD} {td ty tv te : TE}
theorem rpk_valsD {G : Hp} : ∀ {ks : List (Key × V)} {kvs : List (Key × D)}, RpK K G ks kvs → RpA K G (ks.map (·.2)) (kvs.map (·.2))
  | [], [], _ => .nil
  | (_, _) :: r, (_, _) :: s, ⟨_, h, t⟩ => .cons h (rpk_valsD t)
  | [], _ :: _, h => h.elim
  | _ :: _, [], h => h.elim
theorem ev_listVals (h : Ev K W te δ w (fun x w1 => ∃ l kvs, x = .ptr l ∧ w1 l = some (.dK kvs) ∧ P (.lst (kvs.map (·.2))) w1) Z) : Ev K W (tListVals te) δ w P Z :=
  fun σ H s Q q z => h σ H s _ (fun v H1 d w1 e1 c1 r1 ⟨l, kvs, ex, hw, hp⟩ => by
    subst ex
    cases r1
    obtain ⟨ks, g1, g2⟩ := c1 l _ hw
    exact ⟨l, ks, rfl, g1, fun p np => kq_lst (KqG.next q e1) c1 (rpk_valsD g2) hp np⟩) z
/-- d[k] -= n -/
theorem sd_dsub {nx : Dlt → Wl → Prop} {rt : PD} {bk ct : Dlt → Wl → Prop} {rz : ZD} (h : Ev K W td δ w (fun x w1 => Ev K W ty δ w1 (fun y w2 => ∃ l kvs k a, x = .ptr l ∧ w2 l = some (.dK kvs) ∧ y = kD k ∧ valD kvs k = some (.int a) ∧
    Ev K W tv δ w2 (fun z w3 => ∃ b kvs3, z = .int b ∧ w3 l = some (.dK kvs3) ∧ kvs3.length < sizeLine ∧ nx δ (put w3 l (.dK (putD kvs3 k (.int (a - b)))))) rz) rz) rz) : Sd K W (sDAug td ty tv rSub) δ w ⟨nx, rt, bk, ct, rz⟩ :=
  fun σ H s Dn ke => h σ H s _ (fun v H1 d1 w1 e1 c1 r1 h1 => h1 σ H1 (s.next e1 c1) _ (fun u H2 d2 w2 e2 c2 r2 ⟨l, kvs, k, a, ex, hw, ey, hv, h2⟩ => by
    subst ex; subst ey
    cases r1
    obtain ⟨ks, g1, g2⟩ := c2 l _ hw
    rcases rpk_val (k := k) g2 with ⟨_, b⟩ | ⟨v', d', a1, b, r⟩
    · rw [hv] at b; cases b
    · rw [hv] at b; cases b
      cases r
      refine ⟨l, _, rfl, by rw [rp_kD r2, ← a1]; exact DGet.k g1, ?_⟩
      refine h2 σ H2 (s.next (e1.trans e2) c2) _ (fun z H3 d3 w3 e3 c3 r3 ⟨b, kvs3, ez, hw3, hz, hn⟩ => ?_) (ke.rz.next (e1.trans e2))
      subst ez
      cases r3
      obtain ⟨ks3, f1, f2⟩ := c3 l _ hw3
      obtain ⟨e4, c4⟩ := putK_ok (o := .dK ks3) c3 hw3 (rpk_put (k := k) (.int (a - b)) f2)
      refine ⟨a, b, rfl, rfl, _, .inl ⟨ks3, k, f1, rp_kD r2, by rw [rpk_len f2]; exact hz, rfl⟩, ?_⟩
      exact ke.nx σ _ δ _ (((e1.trans e2).trans e3).trans e4) (s.next (((e1.trans e2).trans e3).trans e4) c4) hn) (ke.rz.next e1)) ke.rz
/-- del d[k] -/
theorem sd_ddel {nx : Dlt → Wl → Prop} {rt : PD} {bk ct : Dlt → Wl → Prop} {rz : ZD} (h : Ev K W td δ w (fun x w1 => Ev K W ty δ w1 (fun y w2 => ∃ l kvs k, x = .ptr l ∧ w2 l = some (.dK kvs) ∧ y = kD k ∧ (valD kvs k).isSome = true ∧ nx δ (put w2 l (.dK (dropD kvs k)))) rz) rz) :
    Sd K W (sDDel td ty) δ w ⟨nx, rt, bk, ct, rz⟩ :=
  fun σ H s Dn ke => h σ H s _ (fun v H1 d1 w1 e1 c1 r1 h1 => h1 σ H1 (s.next e1 c1) _ (fun u H2 d2 w2 e2 c2 r2 ⟨l, kvs, k, ex, hw, ey, hv, hn⟩ => by
    subst ex; subst ey
    cases r1
    obtain ⟨ks, g1, g2⟩ := c2 l _ hw
    have e : (valV ks k).isSome = true := by
      rw [← hv]
      rcases rpk_val (k := k) g2 with ⟨a, b⟩ | ⟨v', d', a, b, _⟩ <;> rw [a, b] <;> rfl
    obtain ⟨e3, c3⟩ := putK_ok (o := .dK ks) c2 hw (rpk_drop (k := k) g2)
    refine ⟨l, ks, k, rfl, g1, rp_kD r2, e, ?_⟩
    exact ke.nx σ _ δ _ ((e1.trans e2).trans e3) (s.next ((e1.trans e2).trans e3) c3) hn) (ke.rz.next e1)) ke.rz
end
end DL
set_option Elab.async false
set_option linter.all false
set_option autoImplicit false
set_option maxRecDepth 100000
set_option maxHeartbeats 4000000
/-! BP: arrivals on a table of counters, told as a function. -/
namespace LW
open PySem PySem.Spec PyProof.Rows L2 DL
def minL : List Int → Int
  | [] => 0
  | [a] => a
  | a :: b :: r => if minL (b :: r) < a then minL (b :: r) else a
theorem minL_mem : ∀ {ns : List Int}, 0 < ns.length → minL ns ∈ ns
  | [a], _ => List.mem_singleton.mpr rfl
  | a :: b :: r, _ => by
    have ih := minL_mem (ns := b :: r) (by simp)
    unfold minL
    split
    · exact List.mem_cons_of_mem _ ih
    · exact List.mem_cons_self
theorem minL_le : ∀ {ns : List Int} {y : Int}, y ∈ ns → minL ns ≤ y
  | [a], y, h => by rw [List.mem_singleton.mp h]; exact Int.le_refl _
  | a :: b :: r, y, h => by
    have ih := fun z hz => minL_le (ns := b :: r) (y := z) hz
    unfold minL
    rcases List.mem_cons.mp h with rfl | h
    · split <;> omega
    · have := ih y h
      split <;> omega
theorem minL_eq {ns : List Int} {m : Int} (h1 : m ∈ ns) (h2 : ∀ y ∈ ns, m ≤ y) : m = minL ns := by
  have a := minL_le h1
  have b := h2 _ (minL_mem (List.length_pos_of_mem h1))
  omega
/-- how many reductions -/
def fallS (kvs : List (Str × Int)) (t : Int) : Int := if minL (kvs.map (·.2)) < t then minL (kvs.map (·.2)) else t
/-- the counters behind t arrivals of x, and how many reductions take place -/
def arrS (n : Int) (kvs : List (Str × Int)) (x : Str) (t : Int) : List (Str × Int) × Int :=
  if x ∈ kvs.map (·.1) ∨ (kvs.length : Int) < n then (putS kvs x (getS kvs x + t), 0)
  else (if fallS kvs t < t then putS (cutP (fallS kvs t) kvs) x (t - fallS kvs t) else cutP (fallS kvs t) kvs, fallS kvs t)
def preArr (ds : List D) (w : Wl) : Prop := ∃ (l : Addr) (n : Int) (x : Str) (t : Int) (kvs : List (Str × Int)) (b : Int), ds = [.ptr l, .int n, .str x, .int t] ∧ w l = some (.dK (kvs.map entD)) ∧ TabOk n.toNat b kvs ∧ 1 ≤ n ∧ n ≤ 8 ∧ 1 ≤ t
def postArr (ds : List D) (w : Wl) (d : D) (w' : Wl) : Prop := ∀ (l : Addr) (n : Int) (x : Str) (t : Int) (kvs : List (Str × Int)), ds = [.ptr l, .int n, .str x, .int t] → w l = some (.dK (kvs.map entD)) → d = .int (arrS n kvs x t).2 ∧ w' = put w l (.dK ((arrS n kvs x t).1.map entD))
theorem arr_inj {l l' : Addr} {n n' t t' : Int} {x x' : Str} (h : [D.ptr l, .int n, .str x, .int t] = [D.ptr l', .int n', .str x', .int t']) : l = l' ∧ n = n' ∧ x = x' ∧ t = t' := by
  simp only [List.cons.injEq, D.int.injEq, D.ptr.injEq, D.str.injEq, and_true] at h
  exact h
/-- an entry between others -/
theorem val_mid {A B : List (Str × Int)} {n : Str} {c : Int} (hA : n ∉ A.map (·.1)) : valD ((A ++ (n, c) :: B).map entD) (.inr n) = some (.int c) := by
  have e : getS (A ++ (n, c) :: B) n = c := by
    unfold getS
    rw [List.find?_append, List.find?_eq_none.mpr fun y hy z => hA (List.mem_map.mpr ⟨y, hy, of_decide_eq_true z⟩), List.find?_cons, decide_eq_true rfl]
    rfl
  rw [valD_mem (by rw [List.map_append, List.map_cons]; exact List.mem_append_right _ List.mem_cons_self), e]
theorem put_mid {A B : List (Str × Int)} {n : Str} {c c' : Int} (hA : n ∉ A.map (·.1)) (hB : n ∉ B.map (·.1)) : putS (A ++ (n, c) :: B) n c' = A ++ (n, c') :: B := by
  have off : ∀ {L : List (Str × Int)}, n ∉ L.map (·.1) → L.map (fun kv => if kv.1 = n then (kv.1, c') else kv) = L := fun {L} hL => by
    have e := List.map_congr_left (g := id) (f := fun kv : Str × Int => if kv.1 = n then (kv.1, c') else kv) (l := L) fun kv hk => if_neg fun z => hL (List.mem_map.mpr ⟨kv, hk, z⟩)
    rw [e, List.map_id]
  unfold putS
  rw [if_pos (List.any_eq_true.mpr ⟨(n, c), List.mem_append_right _ List.mem_cons_self, decide_eq_true rfl⟩), List.map_append, List.map_cons, off hA, off hB, if_pos rfl]
theorem drop_mid {A B : List (Str × Int)} {n : Str} {c : Int} (hA : n ∉ A.map (·.1)) (hB : n ∉ B.map (·.1)) : dropD ((A ++ (n, c) :: B).map entD) (.inr n) = (A ++ B).map entD := by
  have off : ∀ {L : List (Str × Int)}, n ∉ L.map (·.1) → (L.map entD).filter (fun kv => decide (kv.1 ≠ (Sum.inr n : Key))) = L.map entD := fun {L} hL => List.filter_eq_self.mpr fun kv hk => by
    obtain ⟨e, he, rfl⟩ := List.mem_map.mp hk
    exact decide_eq_true fun z => hL (List.mem_map.mpr ⟨e, he, Sum.inr.inj z⟩)
  unfold dropD
  rw [List.map_append, List.map_cons, List.filter_append, off hA, List.filter_cons, off hB, List.map_append]
  simp
/-- behind the first and only turn of the laws' own loop -/
structure Once (n : Int) (kvs : List (Str × Int)) (x : Str) (o : Int) (kv : List (Str × Int)) (of lo : Int) : Prop where
  new : x ∉ kvs.map (·.1)
  full : (kvs.length : Int) = n
  ekv : kv = cutP (fallS kvs o) kvs
  eof : of = o - fallS kvs o
  elo : lo = fallS kvs o
  less : 0 < of → kv.length < kvs.length
theorem Once.le {n : Int} {kvs : List (Str × Int)} {x : Str} {o : Int} {kv : List (Str × Int)} {of lo : Int} (h : Once n kvs x o kv of lo) : kv.length ≤ kvs.length := by
  rw [h.ekv]
  unfold cutP
  rw [List.length_map]
  exact List.length_filter_le _ _
theorem Once.stop {n : Int} {kvs : List (Str × Int)} {x : Str} {o : Int} {kv : List (Str × Int)} {of lo : Int} (h : Once n kvs x o kv of lo) (h1 : 0 < of) (h2 : (kv.length : Int) = n) : False := by
  have := h.less h1
  have := h.full
  omega
theorem cut_less {f : Int} {kvs : List (Str × Int)} (h : ∃ e ∈ kvs, f = e.2) : (cutP f kvs).length < kvs.length := by
  obtain ⟨e, he, hf⟩ := h
  unfold cutP
  rw [List.length_map]
  exact List.length_filter_lt_length_iff_exists.mpr ⟨e, he, by rw [hf]; simp⟩
theorem getS_new {kvs : List (Str × Int)} {x : Str} (h : x ∉ kvs.map (·.1)) : getS kvs x = 0 := by
  unfold getS
  rw [List.find?_eq_none.mpr fun y hy z => h (List.mem_map.mpr ⟨y, hy, of_decide_eq_true z⟩)]
  rfl
theorem arr_of {n : Int} {kvs : List (Str × Int)} {x : Str} {o : Int} {kv : List (Str × Int)} {of lo : Int} (h : (kv = kvs ∧ of = o ∧ lo = 0) ∨ Once n kvs x o kv of lo) (ho : 1 ≤ o) (hn : 1 ≤ n) (hl : kvs.length ≤ n.toNat) (e : 0 < of → x ∉ kv.map (·.1) → ¬ (kv.length : Int) = n) :
    (0 < of → putS kv x (getS kv x + of) = (arrS n kvs x o).1) ∧ (¬ 0 < of → kv = (arrS n kvs x o).1) ∧ lo = (arrS n kvs x o).2 := by
  rcases h with ⟨rfl, rfl, rfl⟩ | h
  · have room : x ∈ kv.map (·.1) ∨ (kv.length : Int) < n := by
      by_cases q : x ∈ kv.map (·.1)
      · exact .inl q
      · have := e (by omega) q
        exact .inr (by omega)
    unfold arrS
    rw [if_pos room]
    exact ⟨fun _ => rfl, fun z => absurd (show 0 < of by omega) z, rfl⟩
  · have room : ¬ (x ∈ kvs.map (·.1) ∨ (kvs.length : Int) < n) := fun z => z.elim h.new fun z => by have := h.full; omega
    have hnew : x ∉ kv.map (·.1) := fun z => h.new (by
      rw [h.ekv] at z
      exact (cut_names _ _).subset z)
    have hof := h.eof
    unfold arrS
    rw [if_neg room]
    refine ⟨fun z => ?_, fun z => ?_, h.elo⟩
    · rw [getS_new hnew, Int.zero_add]
      show _ = if fallS kvs o < o then _ else _
      rw [if_pos (by omega), ← h.ekv, ← hof]
    · show _ = if fallS kvs o < o then _ else _
      rw [if_neg (by omega), ← h.ekv]
def postRunX (ds : List D) (w : Wl) (d : D) (w' : Wl) : Prop := Keep w w' ∧ ∀ (n : Int) (l : Addr) (kvs : List (Str × Int)) (x : Str) (o : Int), ds = [.int n, .ptr l, .str x, .int o] → w l = some (.dK (kvs.map entD)) → ∃ l2 : Addr, d = .tup [.ptr l2, .int (arrS n kvs x o).2] ∧ w l2 = none ∧ w' l2 = some (.dK ((arrS n kvs x o).1.map entD))
end LW
set_option Elab.async false
set_option linter.all false
set_option autoImplicit false
set_option maxRecDepth 100000
set_option maxHeartbeats 4000000
/-! DL24: tuples known to be bare: made of a list, seen as tuples. -/
namespace DL
open PySem PySem.Spec PyProof.Rows L2
section
variable {K : PySem.W.Frag} {G : Hp}
theorem Rp.weak {v : V} {ds : List D} (h : Rp K G v (.btp ds)) : Rp K G v (.tup ds) := by
  cases h with
  | btp _ h r => exact .tup h r
end
section
variable {K : PySem.W.Frag} {W : XK} {δ : Dlt} {w : Wl} {P : PD} {Z : ZD} {te : TE}
/-- seen as a tuple -/
theorem ev_weak (h : Ev K W te δ w (fun d w1 => ∃ ds, d = .btp ds ∧ P (.tup ds) w1) Z) : Ev K W te δ w P Z :=
  fun σ H s Q q z => h σ H s Q (fun v H1 d w1 e1 c1 r1 ⟨ds, ed, hp⟩ => by
    subst ed
    exact q v H1 _ w1 e1 c1 r1.weak hp) z
end
def rTupB (K : PySem.W.Frag) : List V → Hp → VK → Prop := fun xs H Q => ∃ p ys, xs = [.ref p] ∧ SqL K H p ys ∧ ∀ l o, H l = none → o.dict = none → Q (.ref l) (upd H l (.frz o (.tup ys)))
section
variable {X : Cx} {K : PySem.W.Frag} {e : Expr} {es : List Expr} {t : TA} {p pos : Pos}
theorem call_tupleB : CallR X (.type "tuple") (rTupB X.K) := by
  intro pins s σ H xs us Q I r h
  obtain ⟨p, ys, rfl, hq, q⟩ := h
  obtain ⟨u, rfl, rx⟩ := vals1 r
  cases rx
  obtain ⟨its, r', pl, hz⟩ := I.list hq
  have hlen := r'.length
  refine call_tuple_list pl.isList (fun h' kp => ?_) (by simp only [List.size_toArray] <;> omega)
  have I1 : Inv X pins σ H { s with heap := h' } := I.kept (t' := s.toks) kp
  have I2 : Inv X pins σ (upd H h'.objs.size (.frz { cls := .type "tuple", data := .seq its.toArray } (.tup ys))) { s with heap := h'.push { cls := .type "tuple", data := .seq its.toArray } } :=
    I1.laid (t' := s.toks) (fun b o e => Heap.get?_push_of_some _ e) (Nat.le_refl _) (show ObjOk X.prog X.w _ _ _ (.frz _ (.tup ys)) from ⟨Heap.get?_push_size _ rfl, hz, its, r', IsTup.new _ _⟩)
  exact ⟨.ref h'.objs.size, _, I2, rfl, q _ _ (I1.hok.fresh (Nat.le_refl _)) rfl⟩
theorem q_tupleB (hK : X.K = K) (m : X.mg "tuple" = none) (hg : Gl X "tuple") (ha : PA X (e :: es) t) (he : starEach (e :: es) X.env = (false, eval e X.env) :: starEach es X.env := by rfl) (hpl : (backTo pos (starEach es X.env)).any (·.1) = false := by rfl) :
    PE X (.Call (.Name "tuple" p) (e :: es) [] pos) (tCB (rTupB K) t) := by subst hK; exact pe_callTy call_tupleB hg m boot_tuple ha (by decide) (by decide) he hpl
end
section
variable {K : PySem.W.Frag} {w : Wl} {P : PD}
theorem kq_btp {H : Hp} {vs : List V} {ds : List D} {Q : VK} {o : Obj} (q : Kq K w H P Q) (c : Cells K w H) (r : RpA K (msk w H) vs ds) (k : P (.btp ds) w) {p : Addr} (hp : H p = none) (ho : o.dict = none) : Q (.ref p) (upd H p (.frz o (.tup vs))) := by
  obtain ⟨c2, e2⟩ := Cells.grow c (H' := upd H p (.frz o (.tup vs))) fun b u e => by rw [upd_ne (ne_of_none e hp)]; exact e
  have hm : msk w (upd H p (.frz o (.tup vs))) p = some (.frz o (.tup vs)) := msk_of (c.free hp) upd_same
  exact q _ _ (.btp ds) w e2 c2 (.btp (.inl ⟨o, vs, hm, ho⟩) (.inl (.inr ⟨o, hm⟩)) (r.mono e2)) k
theorem ol_tupB {ds : List D} (k : P (.btp ds) w) : OpL K (rTupB K) [.lst ds] w P := by
  intro vs H h1 c Q q
  cases h1 with
  | cons h t => cases t; cases h with
    | lst ht hr => exact ⟨_, _, rfl, SqL.of (msk_some ht).2, fun p o hp ho => kq_btp q c hr k hp ho⟩
end
/-! dict(t) of a bare tuple of pairs -/
def rDictB (K : PySem.W.Frag) : List V → Hp → VK → Prop := fun xs H Q => ∃ (a : Addr) (ps : List Addr) (kvs : List (Key × V)), xs = [.ref a] ∧ Bare K H a ∧ SqT K H a (ps.map V.ref) ∧ Paired (fun p kv => SqT K H p [kV kv.1, kv.2]) ps kvs ∧
  ∀ p, H p = none → Q (.ref p) (upd H p (.dK (mergeK [] kvs)))
section
variable {X : Cx} {K : PySem.W.Frag} {e : Expr} {es : List Expr} {t : TA} {p pos : Pos}
theorem pairs_of2 {pins : List (Addr × Obj)} {σ : L2.St} {H : Hp} {s : Shared} (I : Inv X pins σ H s) : ∀ {ps : List Addr} {kvs : List (Key × V)}, Paired (fun p kv => SqT X.K H p [kV kv.1, kv.2]) ps kvs →
    ∃ (prs : List (Key × Value)) (zs : List (Value × Value)), KV kvs prs ∧ prs.length = ps.length ∧ zs.length = ps.length ∧ ∀ (j : Nat) (k v : Value), zs[j]? = some (k, v) → ∃ (b : Addr) (kk : Key), ps[j]? = some b ∧ IsTup s.heap b #[k, v] ∧ prs[j]? = some (kk, v) ∧ keyIs kk k = true
  | _, _, .nil => ⟨[], [], .nil, rfl, rfl, fun j k v e => by simp at e⟩
  | _, _, .cons (a := p) (b := kv) h t => by
    obtain ⟨prs, zs, r, l1, l2, hp⟩ := pairs_of2 I t
    obtain ⟨its, rv, ht, _⟩ := I.tuple h
    obtain ⟨u, y, ei, ru, ry⟩ := vals2 rv
    subst ei
    refine ⟨(kv.1, y) :: prs, (u, y) :: zs, .cons ⟨rfl, ry⟩ r, by rw [List.length_cons, List.length_cons, l1], by rw [List.length_cons, List.length_cons, l2], fun j k v e => ?_⟩
    cases j with
    | zero =>
      have e' : (u, y) = (k, v) := Option.some.inj e
      cases e'
      exact ⟨p, kv.1, rfl, ht, rfl, kV_is (P := X.prog) (w := X.w) ru⟩
    | succ j =>
      obtain ⟨b, kk, e1, e2, e3, e4⟩ := hp j k v (by simpa using e)
      exact ⟨b, kk, by simpa using e1, e2, by simpa using e3, e4⟩
theorem call_dictB (hcalm : X.calm = true) : CallR X (.type "dict") (rDictB X.K) := by
  intro pins s σ H xs us Q I r h
  obtain ⟨a, ps, kvs, rfl, hb, hq, hp, q⟩ := h
  obtain ⟨u, rfl, rx⟩ := vals1 r
  cases rx
  obtain ⟨its, rv, ht, hz⟩ := I.tuple hq
  have ei := refs_at rv
  subst ei
  rw [List.length_map] at hz
  obtain ⟨prs, zs, rel, l1, l2, hpr⟩ := pairs_of2 I hp
  have hbare : ∃ o, s.heap.get? a = some o ∧ o.dict = none := by
    rcases hb with ⟨o, xs, h1, h2⟩ | ⟨o, h1, h2⟩
    · exact ⟨o, (I.hok a _ h1).1, h2⟩
    · exact ⟨o, I.kIn a o h1, h2⟩
  obtain ⟨o, ho, hc, n, hdat⟩ := ht
  obtain ⟨o', ho', hd⟩ := hbare
  rw [ho] at ho'
  cases ho'
  refine PySem.call_dict_pairs (knd := mixKind X.prog X.w) (kvs := prs) (PySem.PairArg.tuple a (ps.map Value.ref).toArray (fun j => (ps[j]?).getD a) zs) (I.ok.hd hcalm) ⟨⟨o, n, ho, hc, hd, hdat⟩, by simp [l2], fun j k v e => ?_⟩ ⟨by rw [l1, l2], fun j k v e => ?_⟩ (by rw [l2]; exact hz) fun h' tk hd' kp => ?_
  · obtain ⟨b, kk, e1, e2, e3, e4⟩ := hpr j k v e
    refine ⟨by simp [e1], .inl ?_⟩
    show Heap.IsTuple _ ((ps[j]?).getD a) _
    rw [e1]
    exact e2
  · obtain ⟨b, kk, e1, e2, e3, e4⟩ := hpr j k v e
    exact ⟨kk, e3, e4⟩
  · have hm : (s.heap.objs.size == sysModules) = false := beq_eq_false_iff_ne.mpr (Nat.ne_of_gt I.big)
    have hlen : (mergeK [] kvs).length ≤ sizeLine := by
      refine Nat.le_trans (length_mergeK kvs []) ?_
      rw [List.length_nil, Nat.zero_add, rel.length, l1]
      exact hz
    exact ⟨.ref s.heap.objs.size, upd H s.heap.objs.size (.dK (mergeK [] kvs)), I.laid (t' := tk) (fun b o e => kp b o (by simp) e) (Nat.le_refl _) (show ObjOk X.prog X.w _ _ _ (.dK (mergeK [] kvs)) from ⟨hlen, hm, merged [] prs, KV.merge rel .nil, hd'⟩), rfl, q _ (I.hok.fresh (Nat.le_refl _))⟩
theorem q_dictB (hK : X.K = K) (hc : X.calm = true) (m : X.mg "dict" = none) (hg : Gl X "dict") (ha : PA X (e :: es) t) (he : starEach (e :: es) X.env = (false, eval e X.env) :: starEach es X.env := by rfl) (hpl : (backTo pos (starEach es X.env)).any (·.1) = false := by rfl) :
    PE X (.Call (.Name "dict" p) (e :: es) [] pos) (tCB (rDictB K) t) := by subst hK; exact pe_callTy (call_dictB hc) hg m (by decide +kernel) ha (by decide) (by decide) he hpl
end
theorem merge_fresh : ∀ (more acc : List (Key × V)), ((acc ++ more).map (·.1)).Nodup → mergeK acc more = acc ++ more
  | [], acc, _ => by rw [List.append_nil]; rfl
  | (k, v) :: r, acc, h => by
    have e : putK acc k v = acc ++ [(k, v)] := by
      unfold putK
      rw [if_neg]
      intro z
      obtain ⟨y, hy, hk⟩ := List.any_eq_true.mp z
      have hk := of_decide_eq_true hk
      rw [List.map_append, List.map_cons] at h
      exact (List.nodup_append.mp h).2.2 _ (List.mem_map.mpr ⟨y, hy, rfl⟩) _ List.mem_cons_self hk
    show mergeK (putK acc k v) r = _
    rw [e, merge_fresh r _ (by rw [List.append_assoc]; exact h), List.append_assoc]
    rfl
section
variable {K : PySem.W.Frag} {w : Wl} {P : PD}
theorem refs_prs {G : Hp} : ∀ {xs : List V} {prs : List (Str × Int)}, RpA K G xs (prs.map prD) → ∃ ps : List Addr, xs = ps.map V.ref ∧ Paired (fun p kv => SqT K G p [kV kv.1, kv.2]) ps (prs.map KS.entK)
  | [], [], _ => ⟨[], rfl, .nil⟩
  | x :: xs, pr :: prs, h => by
    cases h with
    | cons h t =>
      obtain ⟨ps, e, q⟩ := refs_prs t
      cases h with
      | @tup a ys _ hs hr =>
        cases hr with
        | cons r1 t1 => cases t1 with
          | cons r2 t2 =>
            cases t2; cases r1; cases r2
            exact ⟨a :: ps, by rw [e]; rfl, .cons hs q⟩
  | [], _ :: _, h => nomatch h
  | _ :: _, [], h => nomatch h
theorem paired_imp {α β : Type} {F G : α → β → Prop} (h : ∀ a b, F a b → G a b) : ∀ {xs : List α} {ys : List β}, Paired F xs ys → Paired G xs ys
  | _, _, .nil => .nil
  | _, _, .cons r t => .cons (h _ _ r) (paired_imp h t)
theorem rpk_of_prs {G : Hp} : ∀ prs : List (Str × Int), RpK K G (prs.map KS.entK) (prs.map entD)
  | [] => trivial
  | pr :: prs => ⟨rfl, .int _, rpk_of_prs prs⟩
theorem ol_dictB {prs : List (Str × Int)} (hn : (prs.map (·.1)).Nodup) (k : ∀ p, w p = none → P (.ptr p) (put w p (.dK (prs.map entD)))) : OpL K (rDictB K) [.btp (prs.map prD)] w P := by
  intro vs H h1 c Q q
  cases h1 with
  | cons h t =>
    cases t
    cases h with
    | @btp a xs _ hb hs hr =>
      obtain ⟨ps, rfl, hp⟩ := refs_prs hr
      have hk : ((prs.map KS.entK).map (·.1)).Nodup := by
        rw [List.map_map]
        have e : ((fun kv : Key × V => kv.1) ∘ KS.entK) = fun pr : Str × Int => (Sum.inr pr.1 : Key) := rfl
        rw [e]
        exact List.pairwise_map.mpr ((List.pairwise_map.mp hn).imp fun h z => h (Sum.inr.inj z))
      refine ⟨a, ps, prs.map KS.entK, rfl, hb.mono Ex.msk, ex_t Ex.msk hs, paired_imp (fun _ _ z => ex_t Ex.msk z) hp, fun p np => ?_⟩
      rw [merge_fresh _ [] (by simpa using hk), List.nil_append]
      obtain ⟨e, c'⟩ := ownK_ok c (rpk_of_prs prs) np
      exact q _ _ _ _ e c' (.ptr p) (k p (c.free np))
theorem ol_tupBO {l : Addr} {ds : List D} (hl : w l = some (.lst ds)) (k : P (.btp ds) w) : OpL K (rTupB K) [.ptr l] w P := by
  intro vs H h1 c Q q
  cases h1 with
  | cons h t =>
    cases t
    cases h
    obtain ⟨xs, e, r⟩ := c l _ hl
    exact ⟨_, _, rfl, SqL.of e, fun p o hp ho => kq_btp q c r k hp ho⟩
end
end DL
set_option Elab.async false
set_option linter.all false
set_option autoImplicit false
set_option maxRecDepth 100000
set_option maxHeartbeats 4000000
/-! BQ: summaries whose counts are known to be bare. -/
namespace DL
open PySem PySem.Spec PyProof.Rows L2
theorem ev_varT {K : PySem.W.Frag} {W : XK} {δ : Dlt} {w : Wl} {P : PD} {Z : ZD} {i : Nat} {ds : List D} (h : δ[i]? = some (some (.btp ds))) (k : P (.tup ds) w) : Ev K W (tVar i) δ w P Z := ev_weak (ev_var h ⟨ds, rfl, k⟩)
end DL
namespace LW
open PySem PySem.Spec PyProof.Rows L2 DL
def preInitB (C : Addr) (ds : List D) (w : Wl) : Prop := ∃ (x : Addr) (c : Int) (prs : List (Str × Int)), ds = [.ptr x, .int c, .btp (prs.map prD)] ∧ w x = some (.ins C []) ∧ 1 ≤ c ∧ c ≤ 8 ∧ ∃ b, SumP b c.toNat prs
def postInitB (C : Addr) (ds : List D) (w : Wl) (d : D) (w' : Wl) : Prop := d = .non ∧ ∀ x c prs, ds = [.ptr x, .int c, .btp (prs.map prD)] → w' = put w x (.ins C (sumFsB c prs))
def preSO (ds : List D) (w : Wl) : Prop := ∃ (c : Int) (l : Addr) (kv : List (Str × Int)) (b : Int), ds = [.int c, .ptr l] ∧ w l = some (.dK (kv.map entD)) ∧ TabOk c.toNat b kv ∧ 1 ≤ c ∧ c ≤ 8
def postSO (C : Addr) (ds : List D) (w : Wl) (d : D) (w' : Wl) : Prop := w' = w ∧ ∀ (c : Int) (l : Addr) (kv : List (Str × Int)), ds = [.int c, .ptr l] → w l = some (.dK (kv.map entD)) → ∃ ys, d = .ins C (sumFsB c ys) ∧ ys.Perm kv ∧ asc (ys.map (·.1))
theorem asc_table {ys kv : List (Str × Int)} (perm : ys.Perm kv) (nod : (kv.map (·.1)).Nodup) (ord : ys.Pairwise (fun e f => ¬ f.1.cps.toList < e.1.cps.toList)) : asc (ys.map (·.1)) := by
  have ny : (ys.map (·.1)).Nodup := (perm.map (·.1)).nodup_iff.mpr nod
  unfold asc
  rw [List.pairwise_map]
  have ny' := List.pairwise_map.mp ny
  refine List.Pairwise.imp₂ (R := fun e f => ¬ f.1.cps.toList < e.1.cps.toList) (S := fun e f => e.1 ≠ f.1) ?_ ord ny'
  intro a b h1 h2
  exact str_lt_of h1 fun z => h2 (str_ext z)
def playS (n : Int) (kvs : List (Str × Int)) (runs : List (Str × Int)) : List (Str × Int) × Int := runs.foldl (fun a r => ((arrS n a.1 r.1 r.2).1, a.2 + (arrS n a.1 r.1 r.2).2)) (kvs, 0)
theorem play_snoc {n : Int} {kvs runs : List (Str × Int)} {i : Nat} {x : Str} {t : Int} (h : runs[i]? = some (x, t)) : playS n kvs (runs.take (i + 1)) = ((arrS n (playS n kvs (runs.take i)).1 x t).1, (playS n kvs (runs.take i)).2 + (arrS n (playS n kvs (runs.take i)).1 x t).2) := by
  unfold playS
  rw [List.take_add_one, h, List.foldl_append]
  rfl
theorem arr_tab {n b t : Int} {kvs : List (Str × Int)} {x : Str} (h : TabOk n.toNat b kvs) (hx : nameS x = true) (ht : 1 ≤ t) (hn : 1 ≤ n) : ∃ b', TabOk n.toNat b' (arrS n kvs x t).1 := by
  have hm : TabOk n.toNat (if b < 0 then 0 else b) kvs := h.mono (by split <;> omega)
  have h0 : (0 : Int) ≤ (if b < 0 then 0 else b) := by split <;> omega
  unfold arrS
  by_cases room : x ∈ kvs.map (·.1) ∨ (kvs.length : Int) < n
  · rw [if_pos room]
    exact ⟨_, hm.add hx ht (Int.le_refl _) h0 (room.imp id fun z => by omega)⟩
  · rw [if_neg room]
    have hnew : x ∉ kvs.map (·.1) := fun z => room (.inl z)
    have hl : 0 < (kvs.map (·.2)).length := by
      rw [List.length_map]
      have : ¬ (kvs.length : Int) < n := fun z => room (.inr z)
      omega
    obtain ⟨e, he, hv⟩ := List.mem_map.mp (minL_mem hl)
    have h1 := (h.2.1 e he).2.1
    have hf : 0 ≤ fallS kvs t := by unfold fallS; split <;> omega
    have hc := hm.cut hf
    by_cases hlt : fallS kvs t < t
    · show ∃ b', TabOk n.toNat b' (if fallS kvs t < t then _ else _)
      rw [if_pos hlt]
      have hnew2 : x ∉ (cutP (fallS kvs t) kvs).map (·.1) := fun z => hnew ((cut_names _ _).subset z)
      have hless : (cutP (fallS kvs t) kvs).length < kvs.length := cut_less ⟨e, he, by
        rw [hv]
        unfold fallS at hlt ⊢
        split
        · rfl
        · rename_i q
          rw [if_neg q] at hlt
          omega⟩
      have ha := hc.add (o := t) hx (c := t - fallS kvs t) (by omega) (by omega) h0 (.inr (by have := h.2.2; omega))
      rw [getS_new hnew2, Int.zero_add] at ha
      exact ⟨_, ha⟩
    · show ∃ b', TabOk n.toNat b' (if fallS kvs t < t then _ else _)
      rw [if_neg hlt]
      exact ⟨_, hc⟩
theorem SumP.tab {b : Int} {n : Nat} {prs : List (Str × Int)} (h : SumP b n prs) : TabOk n b prs := ⟨h.nodup, h.2.1, h.2.2⟩
theorem play_tab {n b : Int} {kvs runs : List (Str × Int)} (h : TabOk n.toNat b kvs) (hn : 1 ≤ n) (hr : ∀ pr ∈ runs, nameS pr.1 = true ∧ 1 ≤ pr.2) : ∀ i, i ≤ runs.length → ∃ b', TabOk n.toNat b' (playS n kvs (runs.take i)).1
  | 0, _ => ⟨b, h⟩
  | i + 1, hi => by
    obtain ⟨b', h'⟩ := play_tab h hn hr i (by omega)
    have hi' : i < runs.length := by omega
    have e : runs[i]? = some (runs[i].1, runs[i].2) := List.getElem?_eq_getElem hi'
    rw [play_snoc e]
    have := hr runs[i] (List.getElem_mem _)
    exact arr_tab h' this.1 this.2 hn
def prePl (C : Addr) (ds : List D) (_ : Wl) : Prop := ∃ (c : Int) (prs runs : List (Str × Int)) (b : Int), ds = [.ins C (sumFsB c prs), .tup (runs.map prD)] ∧ SumP b c.toNat prs ∧ 1 ≤ c ∧ c ≤ 8 ∧ ∀ pr ∈ runs, nameS pr.1 = true ∧ 1 ≤ pr.2
def postPl (C : Addr) (ds : List D) (w : Wl) (d : D) (w' : Wl) : Prop := ∀ (c : Int) (prs runs : List (Str × Int)), ds = [.ins C (sumFsB c prs), .tup (runs.map prD)] → ∃ l : Addr, d = .tup [.ptr l, .int (playS c prs runs).2] ∧ w l = none ∧ w' = put w l (.dK ((playS c prs runs).1.map entD))
theorem lookB_cap {c : Int} {prs : List (Str × Int)} : (sumFsB c prs).lookup ("capacity" : Str) = some (.int c) := by
  have e : (("capacity" : Str) == ("capacity" : Str)) = true := by decide +kernel
  unfold sumFsB
  rw [List.lookup_cons, e]
theorem lookB_cnt {c : Int} {prs : List (Str × Int)} : (sumFsB c prs).lookup ("counts" : Str) = some (.btp (prs.map prD)) := by
  have e : (("counts" : Str) == ("capacity" : Str)) = false := by decide +kernel
  have e2 : (("counts" : Str) == ("counts" : Str)) = true := by decide +kernel
  unfold sumFsB
  rw [List.lookup_cons, e]
  show List.lookup _ _ = _
  rw [List.lookup_cons, e2]
def preRed (C : Addr) (ds : List D) (w : Wl) : Prop := prePl C ds w ∧ ∃ (c : Int) (prs runs : List (Str × Int)), ds = [.ins C (sumFsB c prs), .tup (runs.map prD)] ∧ okOrd [.tup (runs.map prD)]
def postRed (C : Addr) (ds : List D) (w : Wl) (d : D) (w' : Wl) : Prop := Keep w w' ∧ ∀ (c : Int) (prs runs : List (Str × Int)), ds = [.ins C (sumFsB c prs), .tup (runs.map prD)] → d = .int (playS c prs runs).2
def postPlay (C : Addr) (ds : List D) (w : Wl) (d : D) (w' : Wl) : Prop := Keep w w' ∧ ∀ (c : Int) (prs runs : List (Str × Int)), ds = [.ins C (sumFsB c prs), .tup (runs.map prD)] → ∃ ys, d = .ins C (sumFsB c ys) ∧ ys.Perm (playS c prs runs).1 ∧ asc (ys.map (·.1))
theorem play_inj {C : Addr} {c c' : Int} {p p' q q' : List (Str × Int)} (e : [D.ins C (sumFsB c p), .tup (q.map prD)] = [D.ins C (sumFsB c' p'), .tup (q'.map prD)]) : c = c' ∧ p = p' ∧ q = q' := by
  simp only [List.cons.injEq, D.ins.injEq, D.tup.injEq, sumFsB, D.int.injEq, D.btp.injEq, Prod.mk.injEq, and_true, true_and] at e
  obtain ⟨⟨rfl, e1⟩, e2⟩ := e
  exact ⟨rfl, prs_inj e1, prs_inj e2⟩
theorem TabOk.up {n : Nat} {b : Int} {kvs : List (Str × Int)} (h : TabOk n b kvs) : TabOk n (if b < 0 then 0 else b) kvs ∧ (0 : Int) ≤ (if b < 0 then 0 else b) := ⟨h.mono (by split <;> omega), by split <;> omega⟩
def prePldX (ds : List D) (w : Wl) : Prop := ∃ (n : Int) (l : Addr) (kvs prs : List (Str × Int)) (b : Int), ds = [.int n, .ptr l, .tup (prs.map prD)] ∧ w l = some (.dK (kvs.map entD)) ∧ TabOk n.toNat b kvs ∧ 1 ≤ n ∧ n ≤ 8 ∧ ∀ pr ∈ prs, nameS pr.1 = true ∧ 1 ≤ pr.2
def postPldX (ds : List D) (w : Wl) (d : D) (w' : Wl) : Prop := Keep w w' ∧ ∀ (n : Int) (l : Addr) (kvs prs : List (Str × Int)), ds = [.int n, .ptr l, .tup (prs.map prD)] → w l = some (.dK (kvs.map entD)) → ∃ l2 : Addr, d = .tup [.ptr l2, .int (playS n kvs prs).2] ∧ w' l2 = some (.dK ((playS n kvs prs).1.map entD))
end LW
set_option Elab.async false
set_option linter.all false
set_option autoImplicit false
set_option maxRecDepth 100000
set_option maxHeartbeats 4000000
/-! DL25: written tuples known to be bare; an instance made with a bare default. -/
namespace DL
open PySem PySem.Spec PyProof.Rows L2
def tTupB (t : TA) : TE := fun σ H Q => t σ H fun xs H1 => xs.length ≤ sizeLine ∧ ∀ p o, H1 p = none → o.dict = none → Q (.ref p) (upd H1 p (.frz o (.tup xs)))
section
variable {X : Cx} {es : List Expr} {t : TA} {pos : Pos}
theorem q_tupD {x1} (h : PA X es t) : PE X (.Tuple es x1 pos) (tTupB t) := by
  refine ⟨fun pins s σ H Q I hq => ?_⟩
  refine wpAny_Tuple_spliced (thn (h.run pos pins s σ H _ I hq) fun us s1 ⟨xs, H1, I1, r, z, q⟩ => ⟨by rw [← r.length]; exact z, ?_⟩)
  have hf : H1 s1.heap.objs.size = none := I1.hok.fresh (Nat.le_refl _)
  have I2 : Inv X pins σ (upd H1 s1.heap.objs.size (.frz { cls := .type "tuple", data := .seq us.toArray } (.tup xs))) { s1 with heap := s1.heap.push { cls := .type "tuple", data := .seq us.toArray } } :=
    I1.laid (t' := s1.toks) (fun b u e => Heap.get?_push_of_some _ e) (Nat.le_refl _) (show ObjOk X.prog X.w _ _ _ (.frz _ (.tup xs)) from ⟨Heap.get?_push_size _ rfl, z, us, r, IsTup.new _ _⟩)
  exact ⟨.ref s1.heap.objs.size, _, I2, rfl, q _ _ hf rfl⟩
end
section
variable {K : PySem.W.Frag} {W : XK} {δ : Dlt} {w : Wl} {P : PD} {Z : ZD}
theorem ev_tupB {ts : TA} (h : EvA K W ts δ w (fun ds w1 => ds.length ≤ sizeLine ∧ P (.btp ds) w1) Z) : Ev K W (tTupB ts) δ w P Z :=
  fun σ H s Q q z => h σ H s _ (fun vs H1 ds w1 e1 c1 r1 ⟨hz, k⟩ => ⟨by rw [r1.length]; exact hz, fun p o hp ho => kq_btp (KqG.next q e1) c1 r1 k hp ho⟩) z
end
/-- the default, known to be bare -/
structure MEB (K : PySem.W.Frag) (C : Addr) (m qual : Str) (st : Stmt) (a0 : Addr) : Prop where
  me : ME K C m qual st a0
  ba : ∃ o, K.lookup a0 = some o ∧ o.dict = none
theorem MEB.emp {K : PySem.W.Frag} {C a0 : Addr} {m qual : Str} {st : Stmt} (h : MEB K C m qual st a0) : ∀ H : Hp, SqT K H a0 [] := by
  obtain ⟨⟨_, _, h⟩, _⟩ := h
  exact h.emp
section
variable {K : PySem.W.Frag} {W : XK} {δ : Dlt} {w : Wl} {P : PD} {Z : ZD} {C a0 : Addr}
theorem ev_mk1B {m qual : Str} {st : Stmt} (hM : MEB K C m qual st a0) {pre : List D → Wl → Prop} {post : List D → Wl → D → Wl → Prop} {E' : XK} {t : TA}
    (h : EvA K W t δ w (fun ds w1 => ∀ x, w1 x = none → pre (.ptr x :: (ds ++ [.btp []])) (put w1 x (.ins C [])) ∧ ∀ d w2, post (.ptr x :: (ds ++ [.btp []])) (put w1 x (.ins C [])) d w2 → d = .non ∧ ∃ fs, w2 x = some (.ins C fs) ∧ P (.ins C fs) (cut w2 x)) Z) :
    Ev K W (tMake C (SpD K pre post zN) [.ref a0] E' t) δ w P Z :=
  fun σ H s Q q z => h σ H s _ (fun vs H1 ds w1 e1 c1 r1 h1 => fun x dx n1 n2 n3 => by
    obtain ⟨h2, h3⟩ := h1 x (c1.free n1)
    obtain ⟨e2, c2⟩ := new_ins (C := C) c1 n1 n2 n3
    have r2 : RpA K _ (vs ++ [V.ref a0]) (ds ++ [.btp []]) := (r1.mono e2).append (.cons (.btp (.inr hM.ba) (hM.emp _) .nil) .nil)
    refine ⟨.ptr x :: (ds ++ [.btp []]), _, .cons (.ptr x) r2, c2, h2, fun v H3 d w3 e3 c3 r3 p3 => ?_, kz_none⟩
    obtain ⟨rfl, fs, hw, hp⟩ := h3 d w3 p3
    obtain ⟨e4, c4, r4⟩ := free_ins c3 hw
    cases r3
    exact ⟨rfl, q _ H3 _ _ (((e1.trans e2).trans e3).trans e4) c4 r4 hp⟩) z
end
end DL
namespace DL
theorem isTupBO {K : PySem.W.Frag} {w : Wl} {P : PD} {p : PySem.Addr} (h : OpL K (rTupB K) [.ptr p] w P) : OpL K (rTupB K) [.ptr p] w P := h
end DL
namespace DL
open PySem PySem.Spec PyProof.Rows L2
def rSlB (K : PySem.W.Frag) : V → Option Int → Option Int → Hp → VK → Prop := fun x lo hi H Q => ∃ a xs, x = .ref a ∧ SqT K H a xs ∧
  (HT.sIx xs.length 0 lo = 0 ∧ HT.sIx xs.length xs.length hi = xs.length → Q (.ref a) H) ∧ (¬ (HT.sIx xs.length 0 lo = 0 ∧ HT.sIx xs.length xs.length hi = xs.length) → ∀ p o, H p = none → o.dict = none → Q (.ref p) (upd H p (.frz o (.tup (cutV xs lo hi)))))
section
variable {X : Cx} {K : PySem.W.Frag}
theorem sl_tupB : SlR X (rSlB X.K) := by
  intro pins s σ H x v vl vu lo hi sl Q I rx hs pl pu h
  obtain ⟨a, xs, rfl, hx, q1, q2⟩ := h
  cases rx
  obtain ⟨its, r, ht, hz⟩ := I.tuple hx
  have hlen : its.toArray.size = xs.length := by rw [List.size_toArray]; exact r.length.symm
  by_cases hw : HT.sIx xs.length 0 lo = 0 ∧ HT.sIx xs.length xs.length hi = xs.length
  · refine ⟨"tuple", _, PyProof.Rows.slot_tuple_getitem.lookup, ht.typeIs, ?_⟩
    exact getItem_tuple_whole ht hs pl pu (by rw [hlen]; exact hw) ⟨.ref a, H, I, rfl, q1 hw⟩
  · refine ⟨"tuple", _, PyProof.Rows.slot_tuple_getitem.lookup, ht.typeIs, ?_⟩
    refine HT.getItem_tuple_cut ht hs pl pu (by rw [hlen]; exact hw) ?_ (by rw [hlen]; exact hz)
    rw [hlen]
    have hl : (cutV xs lo hi).length ≤ sizeLine := Nat.le_trans (cutV_length xs lo hi) hz
    refine ⟨.ref s.heap.objs.size, _, I.laid (t' := s.toks) (o := .frz _ (.tup (cutV xs lo hi))) (fun b ob q => Heap.get?_push_of_some _ q) (Nat.le_refl _) (show ObjOk X.prog X.w _ _ _ (.frz _ (.tup (cutV xs lo hi))) from ⟨Heap.get?_push_size _ rfl, hl, _, (r.drop (HT.sIx xs.length 0 lo)).take (HT.sIx xs.length xs.length hi - HT.sIx xs.length 0 lo), IsTup.new _ _⟩), rfl, q2 hw _ _ (I.hok.fresh (Nat.le_refl _)) rfl⟩
theorem qs_tupB (hK : X.K = K) : SlR X (rSlB K) := by subst hK; exact sl_tupB
end
theorem os_tupB {K : PySem.W.Frag} {w : Wl} {P : PD} {ds : List D} {lo hi : Option Int} (k : P (.btp (cutD ds lo hi)) w) : OpS K (rSlB K) (.btp ds) lo hi w P := by
  intro v H h1 c Q q
  cases h1 with
  | btp hb ht hr =>
    refine ⟨_, _, rfl, ex_t Ex.msk ht, fun hw => ?_, fun _ p o hp ho => kq_btp q c (rpa_cut hr lo hi) k hp ho⟩
    have hw' := hw
    rw [hr.length] at hw'
    have e : cutD ds lo hi = ds := cutV_whole hw'
    rw [e] at k
    exact q _ H _ w (Ex.refl _) c (.btp hb ht hr) k
end DL
set_option Elab.async false
set_option linter.all false
set_option autoImplicit false
set_option maxRecDepth 100000
set_option maxHeartbeats 4000000
/-! BR: plays: the table's order does not matter, orders one behind the other, sums. -/
namespace LW
open PySem PySem.Spec PyProof.Rows L2 DL
theorem getS_perm {a b : List (Str × Int)} (p : a.Perm b) (nd : (a.map (·.1)).Nodup) (n : Str) : getS a n = getS b n := by
  have nd2 : (b.map (·.1)).Nodup := (p.map _).nodup_iff.mp nd
  by_cases h : n ∈ a.map (·.1)
  · obtain ⟨e, he, rfl⟩ := List.mem_map.mp h
    rw [getS_mem nd e he, getS_mem nd2 e (p.subset he)]
  · rw [getS_new h, getS_new (fun z => h ((p.map _).symm.subset z))]
theorem putS_perm {a b : List (Str × Int)} (p : a.Perm b) (n : Str) (c : Int) : (putS a n c).Perm (putS b n c) := by
  unfold putS
  have e : (a.any fun kv => decide (kv.1 = n)) = (b.any fun kv => decide (kv.1 = n)) := by
    rw [Bool.eq_iff_iff, List.any_eq_true, List.any_eq_true]
    exact ⟨fun ⟨x, h, z⟩ => ⟨x, p.subset h, z⟩, fun ⟨x, h, z⟩ => ⟨x, p.symm.subset h, z⟩⟩
  rw [e]
  split
  · exact p.map _
  · exact p.append_right _
theorem minL_perm {a b : List Int} (p : a.Perm b) : minL a = minL b := by
  by_cases h : 0 < a.length
  · exact minL_eq (p.subset (minL_mem h)) fun y hy => minL_le (p.symm.subset hy)
  · have e1 : a = [] := List.eq_nil_of_length_eq_zero (by omega)
    have e2 : b = [] := List.eq_nil_of_length_eq_zero (by rw [← p.length_eq]; omega)
    rw [e1, e2]
theorem cutP_perm {l : Int} {a b : List (Str × Int)} (p : a.Perm b) : (cutP l a).Perm (cutP l b) := (p.filter _).map _
theorem fall_perm {a b : List (Str × Int)} (p : a.Perm b) (t : Int) : fallS a t = fallS b t := by unfold fallS; rw [minL_perm (p.map _)]
theorem arr_perm {n : Int} {a b : List (Str × Int)} (p : a.Perm b) (nd : (a.map (·.1)).Nodup) (x : Str) (t : Int) : (arrS n a x t).1.Perm (arrS n b x t).1 ∧ (arrS n a x t).2 = (arrS n b x t).2 := by
  have e1 : (x ∈ a.map (·.1)) ↔ x ∈ b.map (·.1) := (p.map _).mem_iff
  have e2 := p.length_eq
  unfold arrS
  rw [fall_perm p t, ← e2, getS_perm p nd x]
  by_cases h : x ∈ a.map (·.1) ∨ (a.length : Int) < n
  · rw [if_pos h, if_pos (by rw [← e1]; exact h)]
    exact ⟨putS_perm p _ _, rfl⟩
  · have h' : ¬ (x ∈ b.map (·.1) ∨ (a.length : Int) < n) := by rw [← e1]; exact h
    rw [if_neg h, if_neg h']
    refine ⟨?_, rfl⟩
    show List.Perm (if fallS b t < t then putS (cutP (fallS b t) a) x (t - fallS b t) else cutP (fallS b t) a) (if fallS b t < t then putS (cutP (fallS b t) b) x (t - fallS b t) else cutP (fallS b t) b)
    by_cases h2 : fallS b t < t
    · rw [if_pos h2, if_pos h2]; exact putS_perm (cutP_perm p) _ _
    · rw [if_neg h2, if_neg h2]; exact cutP_perm p
theorem putS_nodup {a : List (Str × Int)} (nd : (a.map (·.1)).Nodup) (n : Str) (c : Int) : ((putS a n c).map (·.1)).Nodup := by
  rw [putS_keys]; exact insS_nodup nd n
theorem cutP_nodup {a : List (Str × Int)} (nd : (a.map (·.1)).Nodup) (l : Int) : ((cutP l a).map (·.1)).Nodup := (cut_names l a).nodup nd
theorem arr_nodup {n : Int} {a : List (Str × Int)} (nd : (a.map (·.1)).Nodup) (x : Str) (t : Int) : ((arrS n a x t).1.map (·.1)).Nodup := by
  unfold arrS
  split
  · exact putS_nodup nd _ _
  · show ((if fallS a t < t then _ else _ : List (Str × Int)).map _).Nodup
    split
    · exact putS_nodup (cutP_nodup nd _) _ _
    · exact cutP_nodup nd _
abbrev playF (n : Int) (a : List (Str × Int) × Int) (r : Str × Int) : List (Str × Int) × Int := ((arrS n a.1 r.1 r.2).1, a.2 + (arrS n a.1 r.1 r.2).2)
theorem play_fold {n : Int} : ∀ (runs : List (Str × Int)) (a : List (Str × Int)) (d : Int), runs.foldl (playF n) (a, d) = ((playS n a runs).1, d + (playS n a runs).2)
  | [], a, d => by unfold playS; simp
  | r :: rs, a, d => by
    have h1 := play_fold (n := n) rs (arrS n a r.1 r.2).1 (d + (arrS n a r.1 r.2).2)
    have h2 := play_fold (n := n) rs (arrS n a r.1 r.2).1 (0 + (arrS n a r.1 r.2).2)
    show rs.foldl (playF n) ((arrS n a r.1 r.2).1, d + (arrS n a r.1 r.2).2) = ((rs.foldl (playF n) ((arrS n a r.1 r.2).1, 0 + (arrS n a r.1 r.2).2)).1, d + (rs.foldl (playF n) ((arrS n a r.1 r.2).1, 0 + (arrS n a r.1 r.2).2)).2)
    rw [h1, h2]
    simp only [Prod.mk.injEq, true_and]
    omega
theorem play_cons {n : Int} (r : Str × Int) (rs a : List (Str × Int)) : playS n a (r :: rs) = ((playS n (arrS n a r.1 r.2).1 rs).1, (arrS n a r.1 r.2).2 + (playS n (arrS n a r.1 r.2).1 rs).2) := by
  have h := play_fold (n := n) rs (arrS n a r.1 r.2).1 (0 + (arrS n a r.1 r.2).2)
  show rs.foldl (playF n) ((arrS n a r.1 r.2).1, 0 + (arrS n a r.1 r.2).2) = _
  rw [h, Int.zero_add]
theorem play_nil {n : Int} (a : List (Str × Int)) : playS n a [] = (a, 0) := rfl
theorem play_app {n : Int} : ∀ (r s a : List (Str × Int)), playS n a (r ++ s) = ((playS n (playS n a r).1 s).1, (playS n a r).2 + (playS n (playS n a r).1 s).2)
  | [], s, a => by simp [play_nil]
  | e :: r, s, a => by
    rw [List.cons_append, play_cons, play_cons, play_app r s]
    simp only [Prod.mk.injEq, true_and]
    omega
theorem play_perm {n : Int} : ∀ (runs : List (Str × Int)) {a b : List (Str × Int)}, a.Perm b → (a.map (·.1)).Nodup → (playS n a runs).1.Perm (playS n b runs).1 ∧ (playS n a runs).2 = (playS n b runs).2
  | [], a, b, p, nd => ⟨p, rfl⟩
  | r :: rs, a, b, p, nd => by
    obtain ⟨p1, e1⟩ := arr_perm (n := n) p nd r.1 r.2
    obtain ⟨p2, e2⟩ := play_perm rs p1 (arr_nodup nd _ _)
    rw [play_cons, play_cons]
    exact ⟨p2, by rw [e1, e2]⟩
theorem play_nodup {n : Int} : ∀ (runs : List (Str × Int)) {a : List (Str × Int)}, (a.map (·.1)).Nodup → ((playS n a runs).1.map (·.1)).Nodup
  | [], a, nd => nd
  | r :: rs, a, nd => by rw [play_cons]; exact play_nodup rs (arr_nodup nd _ _)
/-! sums -/
theorem tot_cons (e : Str × Int) (r : List (Str × Int)) : totS (e :: r) = e.2 + totS r := by unfold totS; simp
theorem tot_app (p q : List (Str × Int)) : totS (p ++ q) = totS p + totS q := by unfold totS; simp
theorem tot_perm {p q : List (Str × Int)} (h : p.Perm q) : totS p = totS q := by
  induction h with
  | nil => rfl
  | cons x _ ih => rw [tot_cons, tot_cons, ih]
  | swap x y l => simp only [tot_cons]; omega
  | trans _ _ a b => exact a.trans b
theorem tot_map {n : Str} {c : Int} : ∀ {kvs : List (Str × Int)}, (kvs.map (·.1)).Nodup → n ∈ kvs.map (·.1) → totS (kvs.map (fun kv => if kv.1 = n then (kv.1, c) else kv)) = totS kvs + c - getS kvs n
  | [], _, h => by simp at h
  | e :: r, nd, h => by
    rw [List.map_cons] at nd
    obtain ⟨nd1, nd2⟩ := List.nodup_cons.mp nd
    rw [List.map_cons, tot_cons, tot_cons]
    by_cases he : e.1 = n
    · have hr : r.map (fun kv => if kv.1 = n then (kv.1, c) else kv) = r := by
        have := List.map_congr_left (l := r) (f := fun kv => if kv.1 = n then (kv.1, c) else kv) (g := id) fun kv hk => by
          rw [if_neg]; rfl
          intro z
          exact nd1 (by rw [he, ← z]; exact List.mem_map.mpr ⟨kv, hk, rfl⟩)
        rw [this, List.map_id]
      have hg : getS (e :: r) n = e.2 := by
        have := getS_mem (kvs := e :: r) (by rw [List.map_cons]; exact nd) e (List.mem_cons_self ..)
        rw [he] at this; exact this
      rw [hr, if_pos he, hg]
      show c + totS r = _
      omega
    · have hn : n ∈ r.map (·.1) := by
        rw [List.map_cons] at h
        rcases List.mem_cons.mp h with h | h
        · exact absurd h.symm he
        · exact h
      have hg : getS (e :: r) n = getS r n := by
        unfold getS
        rw [List.find?_cons, decide_eq_false he]
      rw [if_neg he, tot_map nd2 hn, hg]
      omega
theorem tot_put {kvs : List (Str × Int)} (nd : (kvs.map (·.1)).Nodup) (n : Str) (c : Int) : totS (putS kvs n c) = totS kvs + c - getS kvs n := by
  by_cases h : n ∈ kvs.map (·.1)
  · have e : (kvs.any fun kv => decide (kv.1 = n)) = true := by
      obtain ⟨x, hx, hn⟩ := List.mem_map.mp h
      exact List.any_eq_true.mpr ⟨x, hx, decide_eq_true hn⟩
    unfold putS
    rw [if_pos e]
    exact tot_map nd h
  · obtain ⟨e1, e2⟩ := putS_new (c := c) h
    rw [e1, e2, tot_app, tot_cons]
    show totS kvs + (c + 0) = _
    omega
theorem tot_cut {f : Int} : ∀ {kvs : List (Str × Int)}, (∀ e ∈ kvs, f ≤ e.2) → totS (cutP f kvs) = totS kvs - kvs.length * f
  | [], _ => by show (0 : Int) = 0 - 0 * f; omega
  | e :: r, h => by
    have ih := tot_cut (f := f) (kvs := r) fun x hx => h x (List.mem_cons_of_mem _ hx)
    have he := h e (List.mem_cons_self ..)
    have ec : cutP f (e :: r) = if e.2 > f then (e.1, e.2 - f) :: cutP f r else cutP f r := by
      unfold cutP
      rw [List.filter_cons]
      split <;> rename_i hh
      · rw [if_pos (of_decide_eq_true hh)]; rfl
      · rw [if_neg (fun z => hh (decide_eq_true z))]
    have el : (((e :: r).length : Nat) : Int) * f = f + (r.length : Int) * f := by
      rw [List.length_cons]
      push_cast
      rw [Int.add_mul, Int.one_mul, Int.add_comm]
    rw [ec, tot_cons, el]
    split
    · rw [tot_cons, ih]; show e.2 - f + _ = _; omega
    · rw [ih]; omega
theorem fall_le {kvs : List (Str × Int)} {t : Int} : fallS kvs t ≤ t ∧ ∀ e ∈ kvs, fallS kvs t ≤ e.2 := by
  refine ⟨by unfold fallS; split <;> omega, fun e he => ?_⟩
  have := minL_le (ns := kvs.map (·.2)) (List.mem_map.mpr ⟨e, he, rfl⟩)
  unfold fallS; split <;> omega
theorem arr_tot {n b t : Int} {kvs : List (Str × Int)} {x : Str} (h : TabOk n.toNat b kvs) (hn : 1 ≤ n) : totS (arrS n kvs x t).1 = totS kvs + t - (arrS n kvs x t).2 * (n + 1) := by
  unfold arrS
  by_cases hc : x ∈ kvs.map (·.1) ∨ (kvs.length : Int) < n
  · rw [if_pos hc]
    show totS (putS kvs x (getS kvs x + t)) = totS kvs + t - 0 * (n + 1)
    rw [tot_put h.1]; omega
  · rw [if_neg hc]
    have hl : (kvs.length : Int) = n := by
      have := h.2.2
      have := fun z => hc (Or.inr z)
      omega
    have hx : x ∉ kvs.map (·.1) := fun z => hc (.inl z)
    obtain ⟨f1, f2⟩ := fall_le (kvs := kvs) (t := t)
    have e1 := tot_cut f2
    rw [hl] at e1
    have e3 : fallS kvs t * (n + 1) = n * fallS kvs t + fallS kvs t := by rw [Int.mul_add, Int.mul_one, Int.mul_comm]
    show totS (if fallS kvs t < t then putS (cutP (fallS kvs t) kvs) x (t - fallS kvs t) else cutP (fallS kvs t) kvs) = totS kvs + t - fallS kvs t * (n + 1)
    split
    · rw [tot_put (cutP_nodup h.1 _), getS_new (fun z => hx ((cut_names _ _).subset z)), e1, e3]; omega
    · rw [e1, e3]; omega
theorem play_tot {n b : Int} (hn : 1 ≤ n) : ∀ {runs kvs : List (Str × Int)}, (∃ b, TabOk n.toNat b kvs) → (∀ pr ∈ runs, nameS pr.1 = true ∧ 1 ≤ pr.2) → totS (playS n kvs runs).1 = totS kvs + totS runs - (playS n kvs runs).2 * (n + 1)
  | [], kvs, _, _ => by show totS kvs = totS kvs + 0 - 0 * (n + 1); omega
  | r :: rs, kvs, ⟨b, h⟩, hr => by
    obtain ⟨hx, ht⟩ := hr r (List.mem_cons_self ..)
    have h2 := arr_tab h hx ht hn
    have ih := play_tot (b := b) hn h2 fun pr hp => hr pr (List.mem_cons_of_mem _ hp)
    rw [play_cons, tot_cons]
    show totS (playS n (arrS n kvs r.1 r.2).1 rs).1 = totS kvs + (r.2 + totS rs) - ((arrS n kvs r.1 r.2).2 + (playS n (arrS n kvs r.1 r.2).1 rs).2) * (n + 1)
    rw [ih, arr_tot h hn, Int.add_mul]
    omega
end LW
set_option Elab.async false
set_option linter.all false
set_option autoImplicit false
set_option maxRecDepth 100000
set_option maxHeartbeats 4000000
/-! BS: summaries with bare counts: what their methods do, as rules for a call. -/
namespace LW
open PySem PySem.Spec PyProof.Rows L2 DL
def okCounters : List D → Prop | [.tup ds, .int m] => fineA ds = true ∧ goodN ds m = ds.length | _ => False
def postBagB (ds : List D) (w : Wl) (d : D) (w' : Wl) : Prop := ∀ p xs m, ds = [.ptr p, .lst xs, .int m] → Pm w p w' ∧ ∃ prs, d = .btp (prs.map prD) ∧ SumP (10 ^ 30) xs.length prs
/-- an order -/
def PathX (prs : List (Str × Int)) : Prop := ∃ (xs : List Str) (b : Int), xs.length ≤ 12 ∧ RunsB b xs prs ∧ prs.length ≤ 1000
theorem PathX.ord {prs : List (Str × Int)} (h : PathX prs) : okOrd [.tup (prs.map prD)] := let ⟨_, _, h1, h2, h3⟩ := h; prs_okOrd h2 h1 h3
theorem PathX.all {prs : List (Str × Int)} (h : PathX prs) : ∀ pr ∈ prs, nameS pr.1 = true ∧ 1 ≤ pr.2 := let ⟨_, _, _, h2, _⟩ := h; fun pr hp => ⟨(h2 pr hp).2.1, (h2 pr hp).2.2.1⟩
theorem PathX.len {prs : List (Str × Int)} (h : PathX prs) : prs.length ≤ 1000 := let ⟨_, _, _, _, h3⟩ := h; h3
theorem PathX.sub {prs qs : List (Str × Int)} (h : PathX prs) (s : ∀ x ∈ qs, x ∈ prs) (l : qs.length ≤ 1000) : PathX qs := let ⟨xs, b, h1, h2, _⟩ := h; ⟨xs, b, h1, fun pr hp => h2 pr (s pr hp), l⟩
theorem PathX.take {prs : List (Str × Int)} (h : PathX prs) (i : Nat) : PathX (prs.take i) := h.sub (fun _ hx => List.mem_of_mem_take hx) (by rw [List.length_take]; have := h.len; omega)
theorem PathX.drop {prs : List (Str × Int)} (h : PathX prs) (i : Nat) : PathX (prs.drop i) := h.sub (fun _ hx => List.mem_of_mem_drop hx) (by rw [List.length_drop]; have := h.len; omega)
theorem PathX.of {xs : List Str} {prs : List (Str × Int)} (h : Runs xs prs) (hx : xs.length ≤ 12) (hl : prs.length ≤ 1000) : PathX prs := ⟨xs, _, hx, h, hl⟩
theorem PathX.nil : PathX [] := ⟨[], 0, by decide, (fun _ h => nomatch h), by decide⟩
/-- a summary's capacity and counts -/
def SumX (c : Int) (prs : List (Str × Int)) : Prop := 1 ≤ c ∧ c ≤ 8 ∧ ∃ b, SumP b c.toNat prs
theorem SumX.nodup {c : Int} {prs : List (Str × Int)} (h : SumX c prs) : (prs.map (·.1)).Nodup := let ⟨_, _, _, h⟩ := h; h.nodup
theorem SumX.len {c : Int} {prs : List (Str × Int)} (h : SumX c prs) : (prs.length : Int) ≤ c := by obtain ⟨h1, _, _, h⟩ := h; have := h.2.2; omega
theorem SumX.tab {c : Int} {prs : List (Str × Int)} (h : SumX c prs) : ∃ b, TabOk c.toNat b prs := let ⟨_, _, b, h⟩ := h; ⟨b, h.tab⟩
theorem SumX.none {c : Int} (h1 : 1 ≤ c) (h2 : c ≤ 8) : SumX c [] := ⟨h1, h2, 0, SumP.none⟩
theorem SumX.asc {c : Int} {prs : List (Str × Int)} (h : SumX c prs) : LW.asc (prs.map (·.1)) := let ⟨_, _, _, h⟩ := h; h.1
theorem SumX.all {c : Int} {prs : List (Str × Int)} (h : SumX c prs) : ∀ pr ∈ prs, nameS pr.1 = true ∧ 1 ≤ pr.2 := let ⟨_, _, _, h⟩ := h; fun pr hp => ⟨(h.2.1 pr hp).1, (h.2.1 pr hp).2.1⟩
theorem SumX.of_tab {c b : Int} {kv ys : List (Str × Int)} (h : TabOk c.toNat b kv) (h1 : 1 ≤ c) (h8 : c ≤ 8) (p : ys.Perm kv) (a : LW.asc (ys.map (·.1))) : SumX c ys :=
  ⟨h1, h8, b, a, fun pr hp => h.2.1 pr (p.subset hp), by rw [p.length_eq]; exact h.2.2⟩
theorem SumX.okBag {c : Int} {prs : List (Str × Int)} (h : SumX c prs) : LW.okBag [.tup (prs.map prD)] := by
  obtain ⟨h1, h8, b, h⟩ := h
  exact ⟨h.fine, h.good (m := 12) (by omega)⟩
/-- what an order makes of a summary -/
def PlayD (c : Int) (prs runs ys : List (Str × Int)) : Prop := ys.Perm (playS c prs runs).1 ∧ asc (ys.map (·.1))
theorem PlayD.sum {c : Int} {prs runs ys : List (Str × Int)} (h : PlayD c prs runs ys) (hs : SumX c prs) (hr : PathX runs) : SumX c ys := by
  obtain ⟨b, ht⟩ := hs.tab
  obtain ⟨b', ht'⟩ := play_tab ht hs.1 hr.all runs.length (Nat.le_refl _)
  rw [List.take_length] at ht'
  exact .of_tab ht' hs.1 hs.2.1 h.1 h.2
theorem PlayD.uniq {c : Int} {prs runs ys zs : List (Str × Int)} (h : PlayD c prs runs ys) (g : PlayD c prs runs zs) : ys = zs := asc_eq (h.1.trans g.1.symm) h.2 g.2
theorem PlayD.app {c : Int} {prs r s ys zs : List (Str × Int)} (hs : SumX c prs) (h : PlayD c prs r ys) (g : PlayD c ys s zs) : PlayD c prs (r ++ s) zs := by
  refine ⟨g.1.trans ?_, g.2⟩
  rw [play_app]
  have n1 : (ys.map (·.1)).Nodup := (h.1.map _).nodup_iff.mpr (play_nodup r hs.nodup)
  exact (play_perm s h.1 n1).1
theorem PlayD.red {c : Int} {prs r ys : List (Str × Int)} (hs : SumX c prs) (h : PlayD c prs r ys) (s : List (Str × Int)) : (playS c prs (r ++ s)).2 = (playS c prs r).2 + (playS c ys s).2 := by
  rw [play_app]
  have n1 : (ys.map (·.1)).Nodup := (h.1.map _).nodup_iff.mpr (play_nodup r hs.nodup)
  show _ + _ = _ + _
  rw [(play_perm s h.1 n1).2]
theorem PlayD.tot {c : Int} {prs runs ys : List (Str × Int)} (h : PlayD c prs runs ys) (hs : SumX c prs) (hr : PathX runs) : totS ys = totS prs + totS runs - (playS c prs runs).2 * (c + 1) := by
  rw [tot_perm h.1]
  exact play_tot (b := 0) hs.1 hs.tab hr.all
theorem sumB_inj {C C' : Addr} {c e : Int} {p q : List (Str × Int)} (h : D.ins C (sumFsB c p) = D.ins C' (sumFsB e q)) : C = C' ∧ c = e ∧ p = q := by
  unfold sumFsB at h
  injection h with h1 h2
  injection h2 with h2 h3
  injection h3 with h3 h4
  injection h2 with h2 h5
  injection h3 with h3 h6
  injection h5 with h5
  injection h6 with h6
  exact ⟨h1, h5, prs_inj h6⟩
theorem lookB_none {c : Int} {prs : List (Str × Int)} {f : Str} (h1 : f ≠ "capacity") (h2 : f ≠ "counts") : (sumFsB c prs).lookup f = none := by
  unfold sumFsB
  rw [List.lookup_cons, beq_eq_false_iff_ne.mpr h1, List.lookup_cons, beq_eq_false_iff_ne.mpr h2]
  rfl
/-! ### rules -/
section
variable {K : PySem.W.Frag} {W : XK} {δ : Dlt} {w : Wl} {P : PD} {Z : ZD} {te : TE} {t : TA} {C : Addr} {E' : XK}
/-- Summary(c, counts) -/
theorem ev_sum (h : EvA K W t δ w (fun ds w1 => ∃ c prs, ds = [.int c, .btp (prs.map prD)] ∧ SumX c prs ∧ P (.ins C (sumFsB c prs)) w1) Z) : Ev K W (tMake C (SpD K (preInitB C) (postInitB C) zN) [] E' t) δ w P Z := by
  refine ev_mk ?_
  refine fun σ H s Q q z => h σ H s Q (fun v H' d w' e c r ⟨cc, prs, hd, hs, k⟩ => q v H' d w' e c r fun x hx => ?_) z
  subst hd
  refine ⟨⟨x, cc, prs, rfl, put_same, hs.1, hs.2.1, hs.2.2⟩, ?_⟩
  rintro dd w2 ⟨rfl, h2⟩
  have e2 := h2 _ _ _ rfl
  subst e2
  refine ⟨rfl, _, put_same, ?_⟩
  rw [put_put, cut_put hx]
  exact k
/-- Summary(c) -/
theorem ev_sum0 {a0 : Addr} {m qual : Str} {st : Stmt} (hM : MEB K C m qual st a0) (h : EvA K W t δ w (fun ds w1 => ∃ c, ds = [.int c] ∧ 1 ≤ c ∧ c ≤ 8 ∧ P (.ins C (sumFsB c [])) w1) Z) : Ev K W (tMake C (SpD K (preInitB C) (postInitB C) zN) [.ref a0] E' t) δ w P Z := by
  refine ev_mk1B hM ?_
  refine fun σ H s Q q z => h σ H s Q (fun v H' d w' e c r ⟨cc, hd, h1, h8, k⟩ => q v H' d w' e c r fun x hx => ?_) z
  subst hd
  refine ⟨⟨x, cc, [], rfl, put_same, h1, h8, 0, SumP.none⟩, ?_⟩
  rintro dd w2 ⟨rfl, h2⟩
  have e2 := h2 x cc [] rfl
  subst e2
  refine ⟨rfl, _, put_same, ?_⟩
  rw [put_put, cut_put hx]
  exact k
/-- summary_of(c, counters) -/
theorem ev_so (h : EvA K W t δ w (fun ds w1 => ∃ c l kv b, ds = [.int c, .ptr l] ∧ w1 l = some (.dK (kv.map entD)) ∧ TabOk c.toNat b kv ∧ 1 ≤ c ∧ c ≤ 8 ∧ ∀ ys, ys.Perm kv → asc (ys.map (·.1)) → SumX c ys → P (.ins C (sumFsB c ys)) w1) Z) :
    Ev K W (tCall (SpD K preSO (postSO C) zN) [] E' t) δ w P Z := by
  refine ev_call (fun σ H s Q q z => h σ H s Q (fun v H' d w' e cc r ⟨c, l, kv, b, hd, hw, ht, h1, h8, k2⟩ => q v H' d w' e cc r ?_) z)
  subst hd
  refine ⟨⟨c, l, kv, b, rfl, hw, ht, h1, h8⟩, ?_⟩
  rintro dd w4 ⟨rfl, h4⟩
  obtain ⟨ys, rfl, p, a⟩ := h4 c l kv rfl hw
  exact k2 ys p a (SumX.of_tab ht h1 h8 p a)
/-- played(summary, runs) -/
theorem ev_played (h : EvA K W t δ w (fun ds w1 => ∃ c prs runs, ds = [.ins C (sumFsB c prs), .tup (runs.map prD)] ∧ SumX c prs ∧ (∀ pr ∈ runs, nameS pr.1 = true ∧ 1 ≤ pr.2) ∧ ∀ l, w1 l = none → P (.tup [.ptr l, .int (playS c prs runs).2]) (put w1 l (.dK ((playS c prs runs).1.map entD)))) Z) :
    Ev K W (tCall (SpD K (prePl C) (postPl C) zN) [] E' t) δ w P Z := by
  refine ev_call (fun σ H s Q q z => h σ H s Q (fun v H' d w' e cc r ⟨c, prs, runs, hd, hs, hr, k2⟩ => q v H' d w' e cc r ?_) z)
  subst hd
  refine ⟨⟨c, prs, runs, hs.2.2.choose, rfl, hs.2.2.choose_spec, hs.1, hs.2.1, hr⟩, ?_⟩
  intro dd w4 h4
  obtain ⟨l, rfl, nl, rfl⟩ := h4 c prs runs rfl
  exact k2 l nl
theorem ev_reds (h : Ev K W te δ w (fun x w1 => ∃ c prs, x = .ins C (sumFsB c prs) ∧ EvA K W t δ w1 (fun ds w2 => ∃ runs, ds = [.tup (runs.map prD)] ∧ SumX c prs ∧ PathX runs ∧ ∀ w3, Keep w2 w3 → P (.int (playS c prs runs).2) w3) Z) Z) :
    Ev K W (tMeth C "reductions" (SpD K (preRed C) (postRed C) zN) [] E' te t) δ w P Z := by
  refine ev_mt (h.imp fun d w1 ⟨c, prs, hd, k⟩ => ?_)
  subst hd
  refine ⟨_, rfl, lookB_none (by decide) (by decide), fun σ H s Q q z => k σ H s Q (fun v H' d w' e cc r ⟨runs, hd, hs, hr, k2⟩ => q v H' d w' e cc r ?_) z⟩
  subst hd
  refine ⟨⟨⟨c, prs, runs, hs.2.2.choose, rfl, hs.2.2.choose_spec, hs.1, hs.2.1, hr.all⟩, c, prs, runs, rfl, hr.ord⟩, fun dd w3 ⟨k3, e3⟩ => ?_⟩
  rw [e3 c prs runs rfl]
  exact k2 w3 k3
theorem ev_redsK (h : Ev K W te δ w (fun x w1 => ∃ c prs, x = .ins C (sumFsB c prs) ∧ EvA K W t δ w1 (fun ds w2 => ∃ runs, ds = [.tup (runs.map prD)] ∧ SumX c prs ∧ PathX runs ∧ ∀ w3, Keep w2 w3 → P (.int (playS c prs runs).2) w3) Z) Z) :
    Ev K W (tMethK C "reductions" (SpD K (preRed C) (postRed C) zN) E' te t) δ w P Z := by
  refine ev_mtk (h.imp fun d w1 ⟨c, prs, hd, k⟩ => ?_)
  subst hd
  refine ⟨_, rfl, lookB_none (by decide) (by decide), fun σ H s Q q z => k σ H s Q (fun v H' d w' e cc r ⟨runs, hd, hs, hr, k2⟩ => q v H' d w' e cc r ?_) z⟩
  subst hd
  refine ⟨⟨⟨c, prs, runs, hs.2.2.choose, rfl, hs.2.2.choose_spec, hs.1, hs.2.1, hr.all⟩, c, prs, runs, rfl, hr.ord⟩, fun dd w3 ⟨k3, e3⟩ => ?_⟩
  rw [e3 c prs runs rfl]
  exact k2 w3 k3
theorem ev_play (h : Ev K W te δ w (fun x w1 => ∃ c prs, x = .ins C (sumFsB c prs) ∧ EvA K W t δ w1 (fun ds w2 => ∃ runs, ds = [.tup (runs.map prD)] ∧ SumX c prs ∧ PathX runs ∧ ∀ w3 ys, Keep w2 w3 → PlayD c prs runs ys → SumX c ys → P (.ins C (sumFsB c ys)) w3) Z) Z) :
    Ev K W (tMeth C "play" (SpD K (preRed C) (postPlay C) zN) [] E' te t) δ w P Z := by
  refine ev_mt (h.imp fun d w1 ⟨c, prs, hd, k⟩ => ?_)
  subst hd
  refine ⟨_, rfl, lookB_none (by decide) (by decide), fun σ H s Q q z => k σ H s Q (fun v H' d w' e cc r ⟨runs, hd, hs, hr, k2⟩ => q v H' d w' e cc r ?_) z⟩
  subst hd
  refine ⟨⟨⟨c, prs, runs, hs.2.2.choose, rfl, hs.2.2.choose_spec, hs.1, hs.2.1, hr.all⟩, c, prs, runs, rfl, hr.ord⟩, fun dd w3 ⟨k3, e3⟩ => ?_⟩
  obtain ⟨ys, rfl, p1, p2⟩ := e3 c prs runs rfl
  exact k2 w3 ys k3 ⟨p1, p2⟩ (PlayD.sum (ys := ys) (runs := runs) ⟨p1, p2⟩ hs hr)
theorem ev_playK (h : Ev K W te δ w (fun x w1 => ∃ c prs, x = .ins C (sumFsB c prs) ∧ EvA K W t δ w1 (fun ds w2 => ∃ runs, ds = [.tup (runs.map prD)] ∧ SumX c prs ∧ PathX runs ∧ ∀ w3 ys, Keep w2 w3 → PlayD c prs runs ys → SumX c ys → P (.ins C (sumFsB c ys)) w3) Z) Z) :
    Ev K W (tMethK C "play" (SpD K (preRed C) (postPlay C) zN) E' te t) δ w P Z := by
  refine ev_mtk (h.imp fun d w1 ⟨c, prs, hd, k⟩ => ?_)
  subst hd
  refine ⟨_, rfl, lookB_none (by decide) (by decide), fun σ H s Q q z => k σ H s Q (fun v H' d w' e cc r ⟨runs, hd, hs, hr, k2⟩ => q v H' d w' e cc r ?_) z⟩
  subst hd
  refine ⟨⟨⟨c, prs, runs, hs.2.2.choose, rfl, hs.2.2.choose_spec, hs.1, hs.2.1, hr.all⟩, c, prs, runs, rfl, hr.ord⟩, fun dd w3 ⟨k3, e3⟩ => ?_⟩
  obtain ⟨ys, rfl, p1, p2⟩ := e3 c prs runs rfl
  exact k2 w3 ys k3 ⟨p1, p2⟩ (PlayD.sum (ys := ys) (runs := runs) ⟨p1, p2⟩ hs hr)
/-- kept -/
def preKept (C : Addr) (ds : List D) (_ : Wl) : Prop := ∃ (c : Int) (prs : List (Str × Int)), ds = [.ins C (sumFsB c prs)] ∧ SumX c prs
def postKept (C : Addr) (ds : List D) (w : Wl) (d : D) (w' : Wl) : Prop := w' = w ∧ ∀ (c : Int) (prs : List (Str × Int)), ds = [.ins C (sumFsB c prs)] → d = .int (totS prs)
theorem ev_kept (h : Ev K W te δ w (fun x w1 => ∃ c prs, x = .ins C (sumFsB c prs) ∧ SumX c prs ∧ P (.int (totS prs)) w1) Z) :
    Ev K W (tMeth C "kept" (SpD K (preKept C) (postKept C) zN) [] E' te tNil) δ w P Z := by
  refine ev_mt (h.imp fun d w1 ⟨c, prs, hd, hs, k⟩ => ?_)
  subst hd
  refine ⟨_, rfl, lookB_none (by decide) (by decide), ea_nil ⟨⟨c, prs, rfl, hs⟩, fun dd w3 ⟨k3, e3⟩ => ?_⟩⟩
  rw [e3 c prs rfl, k3]
  exact k
theorem o2_pick {ds : List D} {k : Int} (h0 : 0 ≤ k) (h1 : k < ds.length) (h : ∀ d ∈ ds, P d w) : Op2 K (rIxL K) (.lst ds) (.int k) w P := by
  have hk : k.toNat < ds.length := by omega
  refine o2_ixL (d := ds[k.toNat]) ?_ (h _ (List.getElem_mem hk))
  unfold atI ixN
  rw [if_pos h0, if_pos h1]
  simp [hk]
theorem ev_bagB (h : EvA K W t δ w (fun ds w1 => ∃ (p : Addr) (xs : List Str) (m : Int), ds = [.ptr p, .lst (xs.map D.str), .int m] ∧ wordsOk xs ∧ xs.length ≤ 12 ∧ 0 ≤ m ∧ m ≤ 10 ^ 30 ∧ Pl w1 p w1 ∧ ∀ (w2 : Wl) (prs : List (Str × Int)), Pm w1 p w2 → SumP (10 ^ 30) xs.length prs → P (.btp (prs.map prD)) w2) Z) : Ev K W (tCall (SpD K preBag postBagB zN) [] E' t) δ w P Z := by
  refine ev_call (fun σ H s Q q z => h σ H s Q (fun v H' d w' e cc r ⟨p, xs, m, hd, h1, h2, h3, h4, h5, k2⟩ => q v H' d w' e cc r ?_) z)
  subst hd
  refine ⟨⟨p, xs, m, rfl, h1, h2, h3, h4, h5⟩, fun dd w4 h4 => ?_⟩
  obtain ⟨hm, prs, rfl, hp⟩ := h4 p _ m rfl
  rw [List.length_map] at hp
  exact k2 w4 prs hm hp
theorem ev_path (h : EvA K W t δ w (fun ds w1 => ∃ (p : Addr) (xs : List Str) (k m : Int), ds = [.ptr p, .lst (xs.map D.str), .int k, .int m] ∧ wordsOk xs ∧ 0 < xs.length ∧ xs.length ≤ 12 ∧ 0 ≤ k ∧ k ≤ 1000 ∧ 0 ≤ m ∧ m ≤ 10 ^ 30 ∧ Pl w1 p w1 ∧ ∀ (w2 : Wl) (prs : List (Str × Int)), Pm w1 p w2 → Runs xs prs → (prs.length : Int) ≤ k → PathX prs → P (.tup (prs.map prD)) w2) Z) : Ev K W (tCall (SpD K prePath postPath zN) [] E' t) δ w P Z := by
  refine ev_call (fun σ H s Q q z => h σ H s Q (fun v H' d w' e cc r ⟨p, xs, kk, m, hd, h1, h2, h3, h4, h5, h6, h7, h8, k2⟩ => q v H' d w' e cc r ?_) z)
  subst hd
  refine ⟨⟨p, xs, kk, m, rfl, h1.1, h2, by omega, h4, h5, h6, h7, h8⟩, fun dd w4 h4 => ?_⟩
  obtain ⟨hm, prs, rfl, hr, hl⟩ := h4 p xs kk m rfl
  exact k2 w4 prs hm hr hl (.of hr (by omega) (by omega))
end
theorem cutD_str_to {xs : List Str} {j : Int} (h : 0 ≤ j) : DL.cutD (xs.map D.str) none (some j) = (xs.take j.toNat).map D.str := by
  rw [cutD_to h, List.map_take]
theorem SumP.more' {b : Int} {n : Nat} {c : Int} {prs : List (Str × Int)} (h : SumP b n prs) (h1 : 1 ≤ c) (h8 : c ≤ 8) (l : n ≤ c.toNat) : SumX c prs := ⟨h1, h8, b, h.more l⟩
theorem sumC_prs : ∀ prs : List (Str × Int), sumC (prs.map prD) = totS prs
  | [] => rfl
  | e :: r => by
    rw [tot_cons, ← sumC_prs r]
    show (((e :: r).map prD).map cntD).sum = _
    rw [List.map_cons, List.map_cons, List.sum_cons]
    rfl
/-- sum of pairs' numbers -/
def preSum (ds : List D) (_ : Wl) : Prop := ∃ prs : List (Str × Int), ds = [.tup (prs.map prD)] ∧ prs.length ≤ 5000
def postSumT (ds : List D) (w : Wl) (d : D) (w' : Wl) : Prop := w' = w ∧ ∀ prs : List (Str × Int), ds = [.tup (prs.map prD)] → d = .int (totS prs)
end LW
set_option Elab.async false
set_option linter.all false
set_option autoImplicit false
set_option maxRecDepth 100000
set_option maxHeartbeats 4000000
/-! DL26: methods with one default, an int: called with it left out, called by keywords. -/
namespace DL
open PySem PySem.Spec PyProof.Rows L2
def MDI (K : PySem.W.Frag) (C : Addr) (m qual : Str) (st : Stmt) (i : Int) : Prop := ∃ f fd tk, MDD0 K C m qual st f fd (.int i tk)
theorem MDI.mdd {K : PySem.W.Frag} {C : Addr} {m qual : Str} {st : Stmt} {i : Int} (h : MDI K C m qual st i) : MDD K C m qual st := let ⟨f, fd, _, h⟩ := h; ⟨f, fd, _, h⟩
structure KwD (g : {α : Type} → List α → α → List α) : Prop where
  rel : ∀ {α β : Type} {R : α → β → Prop} {us : List α} {vs : List β} {a : α} {b : β}, Paired R us vs → R a b → Paired R (g us a) (g vs b)
def kdA {α : Type} : List α → α → List α
  | [n], d => [n, d]
  | _, _ => []
def kdB {α : Type} : List α → α → List α
  | [t, n], _ => [n, t]
  | _, _ => []
def kdC {α : Type} : List α → α → List α
  | [n, t], _ => [n, t]
  | _, _ => []
def kdI {α : Type} : List α → α → List α
  | [i, n], d => [i, n, d]
  | _, _ => []
theorem kdA_ok : KwD @kdA := ⟨fun h r => by
  cases h with
  | nil => exact .nil
  | cons a t => cases t with
    | nil => exact .cons a (.cons r .nil)
    | cons b t => exact .nil⟩
theorem kdB_ok : KwD @kdB := ⟨fun h r => by
  cases h with
  | nil => exact .nil
  | cons a t => cases t with
    | nil => exact .nil
    | cons b t => cases t with
      | nil => exact .cons b (.cons a .nil)
      | cons _ _ => exact .nil⟩
theorem kdC_ok : KwD @kdC := ⟨fun h r => by
  cases h with
  | nil => exact .nil
  | cons a t => cases t with
    | nil => exact .nil
    | cons b t => cases t with
      | nil => exact .cons a (.cons b .nil)
      | cons _ _ => exact .nil⟩
theorem kdI_ok : KwD @kdI := ⟨fun h r => by
  cases h with
  | nil => exact .nil
  | cons a t => cases t with
    | nil => exact .nil
    | cons b t => cases t with
      | nil => exact .cons a (.cons b (.cons r .nil))
      | cons _ _ => exact .nil⟩
abbrev BindKD (name qual : Str) (st : Stmt) (ps ks : List Str) (g : {α : Type} → List α → α → List α) : Prop := ∀ (T : Addr) (a u kV doc pm : Value) (an : Option Addr) (cdv ct : Value) (ws : List Value), (a :: g ws u).length = ps.length →
  ∃ k : Option (Array Value) → Sem (List (Str × Value)), bindArgs (PySem.W.fnOf name qual (defArgs st) (defBody st) (defScope st) (.ref T) kV doc pm an cdv ct) ⟨[a], ks.zip ws⟩ = seqItems? (.ref T) >>= k ∧ k (some #[u]) = pure (ps.zip (a :: g ws u))
def tMethD (C : Addr) (m : Str) (sp : Sp) (g : {α : Type} → List α → α → List α) (i : Int) (E : XK) (ta : TE) (tk : TA) : TE := fun σ H Q => ta σ H fun x H1 => ∃ a dx fs, x = .ref a ∧ H1 a = some (.ins C dx fs) ∧ fs.lookup m = none ∧ tk σ H1 fun vs H2 => sp (x :: g vs (.int i)) H2 Q E
section
variable {X : Cx} {CX : CXT} {k : Nat} {C : Addr} {x m : Str} {ps ks : List Str} {sp : Sp} {E : XK} {p pos apos : Pos} {e o : Expr} {es : List Expr} {kws : List Keyword} {ta : TE} {t tk : TA} {qual : Str} {st : Stmt} {i : Int}
/-- o.m(e, ..), the default left out -/
theorem pe_mtD {pl : Sem Bool} (F : Mt X.prog X.w X.K X.mg X.base CX k C m ps sp) (D0 : MDI X.K C m qual st i) (hB : BindP1 m qual st ps) (c : Cls X.K C) (hg : X.A.guards = some []) (hr : Room k X.A) (hx : Passes CX X E) (he : PE X o ta) (ha : PA X (e :: es) t)
    (hst : starEach (e :: es) X.env = (false, eval e X.env) :: starEach es X.env := by rfl) (hpl : (backTo pos (starEach es X.env)).any (·.1) = false := by rfl)
    (ht : eval (.Call (.Attribute o m apos) (e :: es) [] pos) X.env = (do
      let ov ← eval o X.env
      standAt apos.atName
      let (f, first) ← holding [ov] (getMethod ov m pl)
      callWith pos f first (backTo pos (starEach (e :: es) X.env)) (backToKw pos (keywordEach [] X.env))) := by rfl) :
    PE X (.Call (.Attribute o m apos) (e :: es) [] pos) (tMeth C m sp [.int i] E ta t) := by
  obtain ⟨f, fd, F⟩ := F
  obtain ⟨f2, fd2, tok, D0⟩ := D0
  have ef : f = f2 := by
    have e := F.me.at_.symm.trans D0.me.at_
    injection e with e; injection e with e; injection e
  subst ef
  refine ⟨fun pins s σ H Q I h => ?_⟩
  refine PySem.W.methodCall_KW (pl := pl) (thn (he.run pins s σ H _ I h) fun u s1 ⟨x, H1, I1, rx, a, dx, fs, ex, ea, l, q⟩ => ?_) ht
  subst ex
  obtain rfl : u = Value.ref a := rx
  refine getmeth_ok I1 ea c F.me l ?_
  refine PySem.W.callWith_K (first := [.ref a]) (h₀ := X.base) I.ok.mod.kin F.me.kp (thn (ha.run pos pins s1 σ H1 _ I1 q) fun us s2 ⟨vs, H2, I2, r, q2⟩ => ⟨I2.kIn, ?_⟩) hst hpl
  have rr : Vals (V.ref a :: (vs ++ [V.int i])) (Value.ref a :: (us ++ [Value.int i tok])) := .cons rfl (r.append (.cons ⟨_, rfl⟩ .nil))
  have l : (Value.ref a :: (us ++ [Value.int i tok])).length = ps.length := by rw [← rr.length]; exact F.gn.ln _ _ _ _ q2
  obtain ⟨oc, od, T, o2, n, kV, doc, pm, an, cdv, ct, osl, hfd, hlk, _, lT, oT⟩ := D0.ex
  have efd : fd = fd2 := F.un hlk
  subst efd
  obtain ⟨kk, h1, h2⟩ := hB T (Value.int i tok) kV doc pm an cdv ct (.ref a :: us) (by simpa using l)
  have b : BindsTo s2 fd ⟨.ref a :: us, []⟩ (ps.zip (.ref a :: (us ++ [Value.int i tok]))) := by
    rw [hfd]
    exact PySem.W.binds_K I2.kIn rfl lT oT h1 h2
  exact gn_run (ar := ⟨.ref a :: us, []⟩) F.gn hg hr hx I2 b rr q2
/-- o.m(k = e, ..) -/
theorem pe_mtkD {pl : Sem Bool} {g : {α : Type} → List α → α → List α} (F : Mt X.prog X.w X.K X.mg X.base CX k C m ps sp) (D0 : MDI X.K C m qual st i) (G : KwD g) (hb : BindKD m qual st ps ks g) (c : Cls X.K C) (hg : X.A.guards = some []) (hr : Room k X.A) (hx : Passes CX X E) (he : PE X o ta) (hkw : PK X kws tk)
    (hall : (backToKw pos (keywordEach kws X.env)).all (·.1.isSome) = true := by rfl) (hks : (backToKw pos (keywordEach kws X.env)).filterMap (·.1) = ks := by rfl)
    (hpl : ((backTo pos (starEach [] X.env)).any (·.1) || (backToKw pos (keywordEach kws X.env)).any (·.1.isNone)) = false := by rfl)
    (ht : eval (.Call (.Attribute o m apos) [] kws pos) X.env = (do
      let ov ← eval o X.env
      standAt apos.atName
      let (f, first) ← holding [ov] (getMethod ov m pl)
      callWith pos f first (backTo pos (starEach [] X.env)) (backToKw pos (keywordEach kws X.env))) := by rfl) :
    PE X (.Call (.Attribute o m apos) [] kws pos) (tMethD C m sp g i E ta tk) := by
  obtain ⟨f, fd, F⟩ := F
  obtain ⟨f2, fd2, tok, D0⟩ := D0
  have ef : f = f2 := by
    have e := F.me.at_.symm.trans D0.me.at_
    injection e with e; injection e with e; injection e
  subst ef
  refine ⟨fun pins s σ H Q I h => ?_⟩
  refine PySem.W.methodCall_KW (pl := pl) (thn (he.run pins s σ H _ I h) fun u s1 ⟨x, H1, I1, rx, a, dx, fs, ex, ea, l, q⟩ => ?_) ht
  subst ex
  obtain rfl : u = Value.ref a := rx
  refine getmeth_ok I1 ea c F.me l ?_
  refine PySem.W.callWith_KW0 (first := [.ref a]) (h₀ := X.base) I.ok.mod.kin F.me.kp hall (thn (hkw.run pos pins s1 σ H1 _ I1 q) fun ws s2 ⟨zs, H2, I2, rz, q2⟩ => ⟨I2.kIn, ?_⟩) hpl
  have rr : Vals (V.ref a :: g zs (.int i)) (Value.ref a :: g ws (.int i tok)) := .cons rfl (G.rel rz ⟨_, rfl⟩)
  have l : (Value.ref a :: g ws (.int i tok)).length = ps.length := by rw [← rr.length]; exact F.gn.ln _ _ _ _ q2
  rw [hks]
  obtain ⟨oc, od, T, o2, n, kV, doc, pm, an, cdv, ct, osl, hfd, hlk, _, lT, oT⟩ := D0.ex
  obtain ⟨kk, h1, h2⟩ := hb T (.ref a) (Value.int i tok) kV doc pm an cdv ct ws l
  have b : BindsTo s2 fd2 ⟨[.ref a], ks.zip ws⟩ (ps.zip (.ref a :: g ws (.int i tok))) := by
    rw [hfd]
    exact PySem.W.binds_K I2.kIn rfl lT oT h1 h2
  have efd : fd = fd2 := F.un hlk
  subst efd
  exact gn_run (ar := ⟨[.ref a], ks.zip ws⟩) F.gn hg hr hx I2 b rr q2
end
section
variable {K : PySem.W.Frag} {W : XK} {δ : Dlt} {w : Wl} {P : PD} {Z : ZD} {ta te : TE} {m : Str} {C : Addr} {i : Int}
theorem ev_mtD {pre : List D → Wl → Prop} {post : List D → Wl → D → Wl → Prop} {E' : XK} {t : TA} (h : Ev K W te δ w (fun x w1 => ∃ fs, x = .ins C fs ∧ fs.lookup m = none ∧ EvA K W t δ w1 (fun ds w2 => pre (x :: (ds ++ [.int i])) w2 ∧ ∀ d w3, post (x :: (ds ++ [.int i])) w2 d w3 → P d w3) Z) Z) :
    Ev K W (tMeth C m (SpD K pre post zN) [.int i] E' te t) δ w P Z :=
  fun σ H s Q q z => h σ H s _ (fun v H1 d w1 e1 c1 r1 ⟨fs, ex, hl, h1⟩ => by
    subst ex
    have r0 := r1
    cases r1 with
    | ins ha hf =>
      refine ⟨_, _, _, rfl, (msk_some ha).2, hf.lookN hl, ?_⟩
      refine h1 σ H1 (s.next e1 c1) _ (fun vs H2 ds w2 e2 c2 r2 ⟨h2, h3⟩ => ?_) (z.next e1)
      exact ⟨_, w2, .cons (r0.mono e2) (r2.append (.cons (.int i) .nil)), c2, h2, fun v H3 d w3 e3 c3 r3 p3 => q v H3 d w3 ((e1.trans e2).trans e3) c3 r3 (h3 d w3 p3), kz_none⟩) z
theorem ev_mtkD {g : {α : Type} → List α → α → List α} (G : KwD g) {pre : List D → Wl → Prop} {post : List D → Wl → D → Wl → Prop} {E' : XK} {t : TA} (h : Ev K W te δ w (fun x w1 => ∃ fs, x = .ins C fs ∧ fs.lookup m = none ∧ EvA K W t δ w1 (fun ds w2 => pre (x :: g ds (.int i)) w2 ∧ ∀ d w3, post (x :: g ds (.int i)) w2 d w3 → P d w3) Z) Z) :
    Ev K W (tMethD C m (SpD K pre post zN) g i E' te t) δ w P Z :=
  fun σ H s Q q z => h σ H s _ (fun v H1 d w1 e1 c1 r1 ⟨fs, ex, hl, h1⟩ => by
    subst ex
    have r0 := r1
    cases r1 with
    | ins ha hf =>
      refine ⟨_, _, _, rfl, (msk_some ha).2, hf.lookN hl, ?_⟩
      refine h1 σ H1 (s.next e1 c1) _ (fun vs H2 ds w2 e2 c2 r2 ⟨h2, h3⟩ => ?_) (z.next e1)
      have r3 : RpA K (msk w2 H2) (g vs (.int i)) (g ds (.int i)) := paired_rpa (G.rel (rpa_paired r2) (.int i))
      exact ⟨_, w2, .cons (r0.mono e2) r3, c2, h2, fun v H3 d w3 e3 c3 r3 p3 => q v H3 d w3 ((e1.trans e2).trans e3) c3 r3 (h3 d w3 p3), kz_none⟩) z
end
end DL
namespace LW
open PySem PySem.Spec PyProof.Rows L2 DL
theorem mdi_of {K : PySem.W.Frag} {C f T : Addr} {m qual : Str} {st : Stmt} {i : Int} {tk : Tok} {oc kV dc pm cd ct oc2 : Value} {od an od2 : Option Addr} {n : Nat} {sl sl2 : Array (Option Value)}
    (a1 : PySem.W.findIn K (.ref C) m = some (some (.ref f))) (a2 : K.lookup f = some ⟨oc, od, .func (PySem.W.fnOf m qual (defArgs st) (defBody st) (defScope st) (.ref T) kV dc pm an cd ct), sl⟩)
    (a3 : PySem.W.codeIn K cd qual = true) (a4 : PySem.W.isFn K (.ref f) = true) (a5 : PySem.W.keepIn K (.ref f) = true) (a6 : K.lookup T = some ⟨oc2, od2, .seq #[.int i tk] n, sl2⟩) : MDI K C m qual st i :=
  ⟨f, _, tk, ⟨oc, od, T, _, n, kV, dc, pm, an, cd, ct, sl, rfl, a2, a3, a6, rfl⟩, ⟨a1, a4, a5⟩⟩
end LW
set_option Elab.async false
set_option linter.all false
set_option autoImplicit false
set_option maxRecDepth 100000
set_option maxHeartbeats 4000000
/-! BT: arrive; bounds of what is played; steps of one arrival. -/
namespace LW
open PySem PySem.Spec PyProof.Rows L2 DL
theorem ten40 : (10 : Int) ^ 30 + 100000 ≤ 10 ^ 40 := by decide +kernel
theorem ten30 : (100000 : Int) ≤ 10 ^ 30 := by decide +kernel
def okRun : List D → Prop | [.str n, .int t] => nameS n = true ∧ 1 ≤ t | _ => False
def preArv (C : Addr) (ds : List D) (_ : Wl) : Prop := ∃ (c : Int) (prs : List (Str × Int)) (n : Str) (t : Int), ds = [.ins C (sumFsB c prs), .str n, .int t] ∧ SumX c prs ∧ nameS n = true ∧ 1 ≤ t
def postArv (C : Addr) (ds : List D) (w : Wl) (d : D) (w' : Wl) : Prop := Keep w w' ∧ ∀ (c : Int) (prs : List (Str × Int)) (n : Str) (t : Int), ds = [.ins C (sumFsB c prs), .str n, .int t] → ∃ ys, d = .ins C (sumFsB c ys) ∧ PlayD c prs [(n, t)] ys
theorem PlayD.sumE {c : Int} {prs runs ys : List (Str × Int)} (h : PlayD c prs runs ys) (hs : SumX c prs) (hr : ∀ pr ∈ runs, nameS pr.1 = true ∧ 1 ≤ pr.2) : SumX c ys := by
  obtain ⟨b, ht⟩ := hs.tab
  obtain ⟨b', ht'⟩ := play_tab ht hs.1 hr runs.length (Nat.le_refl _)
  rw [List.take_length] at ht'
  exact .of_tab ht' hs.1 hs.2.1 h.1 h.2
section
variable {K : PySem.W.Frag} {W : XK} {δ : Dlt} {w : Wl} {P : PD} {Z : ZD} {te : TE} {t : TA} {C : Addr} {E' : XK}
theorem one_all {n : Str} {t : Int} (h1 : nameS n = true) (h2 : 1 ≤ t) : ∀ pr ∈ [(n, t)], nameS pr.1 = true ∧ 1 ≤ pr.2 := fun pr h => by
  rw [List.mem_singleton.mp h]; exact ⟨h1, h2⟩
theorem arv_use {c : Int} {prs : List (Str × Int)} {n : Str} {m : Int} {w2 : Wl} {ds : List D} (hd : ds = [.str n, .int m]) (hs : SumX c prs) (hn : nameS n = true) (hm : 1 ≤ m)
    (k2 : ∀ w3 ys, Keep w2 w3 → PlayD c prs [(n, m)] ys → SumX c ys → P (.ins C (sumFsB c ys)) w3) : preArv C (.ins C (sumFsB c prs) :: ds) w2 ∧ ∀ d w3, postArv C (.ins C (sumFsB c prs) :: ds) w2 d w3 → P d w3 := by
  subst hd
  refine ⟨⟨c, prs, n, m, rfl, hs, hn, hm⟩, fun dd w3 ⟨k3, e3⟩ => ?_⟩
  obtain ⟨ys, rfl, hp⟩ := e3 c prs n m rfl
  exact k2 w3 ys k3 hp (hp.sumE hs (one_all hn hm))
theorem ev_arv (h : Ev K W te δ w (fun x w1 => ∃ c prs, x = .ins C (sumFsB c prs) ∧ EvA K W t δ w1 (fun ds w2 => ∃ n m, ds = [.str n, .int m] ∧ SumX c prs ∧ nameS n = true ∧ 1 ≤ m ∧ ∀ w3 ys, Keep w2 w3 → PlayD c prs [(n, m)] ys → SumX c ys → P (.ins C (sumFsB c ys)) w3) Z) Z) :
    Ev K W (tMeth C "arrive" (SpD K (preArv C) (postArv C) zN) [] E' te t) δ w P Z := by
  refine ev_mt (h.imp fun d w1 ⟨c, prs, hd, k⟩ => ?_)
  subst hd
  exact ⟨_, rfl, lookB_none (by decide) (by decide), fun σ H s Q q z => k σ H s Q (fun v H' d w' e cc r ⟨n, m, hd, hs, hn, hm, k2⟩ => q v H' d w' e cc r (arv_use hd hs hn hm k2)) z⟩
theorem ev_arv1 (h : Ev K W te δ w (fun x w1 => ∃ c prs, x = .ins C (sumFsB c prs) ∧ EvA K W t δ w1 (fun ds w2 => ∃ n, ds = [.str n] ∧ SumX c prs ∧ nameS n = true ∧ ∀ w3 ys, Keep w2 w3 → PlayD c prs [(n, 1)] ys → SumX c ys → P (.ins C (sumFsB c ys)) w3) Z) Z) :
    Ev K W (tMeth C "arrive" (SpD K (preArv C) (postArv C) zN) [.int 1] E' te t) δ w P Z := by
  refine ev_mtD (h.imp fun d w1 ⟨c, prs, hd, k⟩ => ?_)
  subst hd
  exact ⟨_, rfl, lookB_none (by decide) (by decide), fun σ H s Q q z => k σ H s Q (fun v H' d w' e cc r ⟨n, hd, hs, hn, k2⟩ => q v H' d w' e cc r (arv_use (by rw [hd]; rfl) hs hn (by decide) k2)) z⟩
theorem ev_arvK {g : {α : Type} → List α → α → List α} (G : KwD g) (h : Ev K W te δ w (fun x w1 => ∃ c prs, x = .ins C (sumFsB c prs) ∧ EvA K W t δ w1 (fun ds w2 => ∃ n m, g ds (.int 1) = [.str n, .int m] ∧ SumX c prs ∧ nameS n = true ∧ 1 ≤ m ∧ ∀ w3 ys, Keep w2 w3 → PlayD c prs [(n, m)] ys → SumX c ys → P (.ins C (sumFsB c ys)) w3) Z) Z) :
    Ev K W (tMethD C "arrive" (SpD K (preArv C) (postArv C) zN) g 1 E' te t) δ w P Z := by
  refine ev_mtkD G (h.imp fun d w1 ⟨c, prs, hd, k⟩ => ?_)
  subst hd
  exact ⟨_, rfl, lookB_none (by decide) (by decide), fun σ H s Q q z => k σ H s Q (fun v H' d w' e cc r ⟨n, m, hd, hs, hn, hm, k2⟩ => q v H' d w' e cc r (arv_use hd hs hn hm k2)) z⟩
end
theorem Pl.nn {w w1 : Wl} {p l : Addr} (h : Pl w p w1) (n : w1 l = none) : l ≠ p := fun z => by
  obtain ⟨a, b, c, e, _⟩ := h.at
  rw [z, e] at n; cases n
theorem Pm.dict {w w1 : Wl} {p l : Addr} {kvs : List (Key × D)} (h : Pm w p w1) (e : w1 l = some (.dK kvs)) : l ≠ p := fun z => by
  obtain ⟨a, b, c, e2, _⟩ := h.1.at
  rw [z, e2] at e; cases e
theorem Pm.free {w w1 : Wl} {p q : Addr} (h : Pm w p w1) (f : w1 q = none) : w q = none := by
  cases hz : w q with
  | none => rfl
  | some v => rw [h.2 q (h.1.nn f) (by rw [hz]; simp), hz] at f; cases f
theorem Pm.put' {w w1 : Wl} {p q : Addr} {c : DL.Cl} (h : Pm w p w1) (f : w1 q = none) : Pm w p (DL.put w1 q c) := h.put (h.1.nn f) (h.free f)
/-! bounds -/
theorem arr_tabB {n b t : Int} {kvs : List (Str × Int)} {x : Str} (h : TabOk n.toNat b kvs) (hx : nameS x = true) (ht : 1 ≤ t) (hn : 1 ≤ n) (hb : 0 ≤ b) : TabOk n.toNat (b + t) (arrS n kvs x t).1 := by
  unfold arrS
  by_cases hc : x ∈ kvs.map (·.1) ∨ (kvs.length : Int) < n
  · rw [if_pos hc]
    exact h.add hx ht (Int.le_refl _) hb (hc.imp id fun z => by omega)
  · rw [if_neg hc]
    obtain ⟨f1, f2⟩ := fall_le (kvs := kvs) (t := t)
    have hx' : x ∉ kvs.map (·.1) := fun z => hc (.inl z)
    have f0 : 0 ≤ fallS kvs t := by
      unfold fallS
      have hl : 0 < kvs.length := by
        have := fun z => hc (.inr z)
        omega
      have := minL_mem (ns := kvs.map (·.2)) (by rw [List.length_map]; exact hl)
      obtain ⟨e, he, hm⟩ := List.mem_map.mp this
      have := (h.2.1 e he).2.1
      split <;> omega
    show TabOk n.toNat (b + t) (if fallS kvs t < t then putS (cutP (fallS kvs t) kvs) x (t - fallS kvs t) else cutP (fallS kvs t) kvs)
    split
    · have hl : (cutP (fallS kvs t) kvs).length < n.toNat := by
        have hl0 := h.2.2
        have hc2 := fun z => hc (.inr z)
        have hmn : ∃ e ∈ kvs, fallS kvs t = e.2 := by
          unfold fallS
          have hl : 0 < kvs.length := by omega
          have := minL_mem (ns := kvs.map (·.2)) (by rw [List.length_map]; exact hl)
          obtain ⟨e, he, hm⟩ := List.mem_map.mp this
          refine ⟨e, he, ?_⟩
          unfold fallS at *
          split
          · exact hm.symm
          · rename_i h1 h2
            rw [if_neg h2] at h1
            omega
        have := cut_less hmn
        omega
      have h2 := (h.cut f0).add (x := x) (o := t) (c := t - fallS kvs t) hx (by omega) (by omega) hb (.inr hl)
      rwa [getS_new (fun z => hx' ((cut_names _ _).subset z)), Int.zero_add] at h2
    · exact (h.cut f0).mono (by omega)
theorem play_tabB {n : Int} (hn : 1 ≤ n) : ∀ {runs kvs : List (Str × Int)} {b : Int}, TabOk n.toNat b kvs → 0 ≤ b → (∀ pr ∈ runs, nameS pr.1 = true ∧ 1 ≤ pr.2) → TabOk n.toNat (b + totS runs) (playS n kvs runs).1
  | [], kvs, b, h, hb, _ => by
    have e : b + totS [] = b := by unfold totS; simp
    rw [e]; exact h
  | r :: rs, kvs, b, h, hb, hr => by
    obtain ⟨hx, ht⟩ := hr r (List.mem_cons_self ..)
    have h2 := play_tabB hn (runs := rs) (arr_tabB h hx ht hn hb) (by omega) fun pr hp => hr pr (List.mem_cons_of_mem _ hp)
    rw [play_cons, tot_cons, ← Int.add_assoc]
    exact h2
theorem PlayD.sumB {c b : Int} {prs runs ys : List (Str × Int)} (h : PlayD c prs runs ys) (hc : 1 ≤ c) (hs : SumP b c.toNat prs) (hb : 0 ≤ b) (hr : ∀ pr ∈ runs, nameS pr.1 = true ∧ 1 ≤ pr.2) : SumP (b + totS runs) c.toNat ys := by
  have ht := play_tabB hc hs.tab hb hr
  exact ⟨h.2, fun pr hp => ht.2.1 pr (h.1.subset hp), by rw [h.1.length_eq]; exact ht.2.2⟩
/-! one arrival -/
def stepS (n : Int) (kvs : List (Str × Int)) (x : Str) : List (Str × Int) := if x ∈ kvs.map (·.1) ∨ (kvs.length : Int) < n then putS kvs x (getS kvs x + 1) else cutP 1 kvs
theorem step_arr {n b : Int} {kvs : List (Str × Int)} {x : Str} (h : TabOk n.toNat b kvs) (hn : 1 ≤ n) : stepS n kvs x = (arrS n kvs x 1).1 ∧ (arrS n kvs x 1).2 = (if x ∈ kvs.map (·.1) ∨ (kvs.length : Int) < n then 0 else 1) := by
  unfold stepS arrS
  by_cases hc : x ∈ kvs.map (·.1) ∨ (kvs.length : Int) < n
  · rw [if_pos hc, if_pos hc, if_pos hc]; exact ⟨rfl, rfl⟩
  · rw [if_neg hc, if_neg hc, if_neg hc]
    have hl : 0 < kvs.length := by
      have := fun z => hc (.inr z)
      omega
    have f1 : fallS kvs 1 = 1 := by
      unfold fallS
      have := minL_mem (ns := kvs.map (·.2)) (by rw [List.length_map]; exact hl)
      obtain ⟨e, he, hm⟩ := List.mem_map.mp this
      have := (h.2.1 e he).2.1
      rw [if_neg (by omega)]
    rw [f1, if_neg (by decide)]
    exact ⟨rfl, rfl⟩
def preStep (ds : List D) (w : Wl) : Prop := ∃ (n : Int) (l : Addr) (kvs : List (Str × Int)) (x : Str) (b : Int), ds = [.int n, .ptr l, .str x] ∧ w l = some (.dK (kvs.map entD)) ∧ TabOk n.toNat b kvs ∧ 1 ≤ n ∧ n ≤ 8
def postStep (ds : List D) (w : Wl) (d : D) (w' : Wl) : Prop := Keep w w' ∧ ∀ (n : Int) (l : Addr) (kvs : List (Str × Int)) (x : Str), ds = [.int n, .ptr l, .str x] → w l = some (.dK (kvs.map entD)) → ∃ (l2 : Addr) (b : Bool), d = .tup [.ptr l2, .bl b] ∧ b = !decide (x ∈ kvs.map (·.1) ∨ (kvs.length : Int) < n) ∧ w l2 = none ∧ w' l2 = some (.dK ((stepS n kvs x).map entD))
/-- what repr([s.capacity, s.counts]) shows -/
def shS (c : Int) (ys : List (Str × Int)) : Str := (py (.lst [.int c, .tup (ys.map prD)])).shown
theorem sh_wr {c b : Int} {n : Nat} {ys : List (Str × Int)} (h1 : 1 ≤ c) (h8 : c ≤ 8) (h : SumP b n ys) (hb : b ≤ 10 ^ 40) (hn : n ≤ 100) : DL.wr (.lst [.int c, .tup (ys.map prD)]) :=
  wr_two (wrS_int (by omega) (by have := ten30; omega)) (h.wrS hb hn)
section
variable {K : PySem.W.Frag} {W : XK} {δ : Dlt} {w : Wl} {P : PD} {Z : ZD} {ta tb : TE} {C : Addr} {mg : Str → Option Value}
theorem ev_shown {c b : Int} {n : Nat} {ys : List (Str × Int)} (U : Uc K mg "Summary" C) (NA : NoAttr K C "capacity") (NB : NoAttr K C "counts") (h1 : 1 ≤ c) (h8 : c ≤ 8) (h : SumP b n ys) (hb : b ≤ 10 ^ 40) (hn : n ≤ 100)
    (ha : ∀ Q : PD, Q (.ins C (sumFsB c ys)) w → Ev K W ta δ w Q Z) (hb' : ∀ Q : PD, Q (.ins C (sumFsB c ys)) w → Ev K W tb δ w Q Z) (k : P (.str (shS c ys)) w) :
    Ev K W (tCB (rReprD K) (tCons (tLst (tCons (tFld K ta "capacity") (tCons (tFld K tb "counts") tNil))) tNil)) δ w P Z := by
  refine ev_cb (ea_cons (ev_lst (ea_cons (ev_fld (ha _ ⟨_, _, _, rfl, U.cls, NA, lookB_cap, ?_⟩)))))
  refine ea_cons (ev_weak (ev_fld (hb' _ ⟨_, _, _, rfl, U.cls, NB, lookB_cnt, _, rfl, ?_⟩)))
  refine ea_nil ⟨by show 2 ≤ _; rw [sizeLine_eq]; decide, ea_nil ?_⟩
  exact ol_repr rfl (sh_wr h1 h8 h hb hn) k
end
theorem SumP.sumX {c b : Int} {ys : List (Str × Int)} (h : SumP b c.toNat ys) (h1 : 1 ≤ c) (h8 : c ≤ 8) : SumX c ys := ⟨h1, h8, b, h⟩
theorem PlayD.tabU {c : Int} {kv ys zs : List (Str × Int)} {x : Str} {t : Int} (hp : ys.Perm kv) (nd : (kv.map (·.1)).Nodup) (h : PlayD c ys [(x, t)] zs) : zs.Perm (arrS c kv x t).1 := by
  refine h.1.trans ?_
  rw [play_cons, play_nil]
  exact (arr_perm hp ((hp.map _).nodup_iff.mpr nd) x t).1
end LW
set_option Elab.async false
set_option linter.all false
set_option autoImplicit false
set_option maxRecDepth 100000
set_option maxHeartbeats 4000000
/-! DL27: len(o), repr(o), str(o) of instances with own __len__, __repr__, __str__. -/
namespace DL
open PySem PySem.Spec PyProof.Rows L2
section
variable {X : Cx} {C : CXT} {k : Nat} {f : Addr} {fd : FuncData} {ps : List Str} {sp : Sp} {E : XK}
theorem gn_runA {A1 : Around} {pins : List (Addr × Obj)} {σ : L2.St} {H : Hp} {s : Shared} {Q : VK} {ar : Args} {us : List Value} {vs : List V} (hfr : A1.frames = X.A.frames) (F : Gn X.prog X.w X.K X.mg X.base C k f fd ps sp) (hg : A1.guards = some []) (hr : Room k A1) (hx : Passes C X E)
    (I : Inv X pins σ H s) (hb : BindsTo s fd ar (ps.zip us)) (r : Vals vs us) (h : sp vs H Q E) : wpAny (model X.prog X.w) A1 (PySem.call (.ref f) ar.pos ar.kw) (EP X pins σ Q) X.xe s := by
  have e0 : Env0 X.prog X.w X.K X.mg X.base A1 X.stack s H := by
    have e := I.env0
    exact ⟨by rw [hfr]; exact e.frames, e.mod, e.bs, e.bsz, e.funs, e.frf, e.hok, e.bare⟩
  refine wpAny_call (codeAny_mono (F.go A1 X.stack s H ar us vs Q E hg hr e0 hb r h) fun rs s' hq => ?_)
  match rs, hq with
  | .error e, hq => exact hx pins σ H s e s' I hq
  | .ok (.ret u), hq => exact I.after hq
  | .ok .next, hq => exact hq.elim
  | .ok .brk, hq => exact hq.elim
  | .ok .cont, hq => exact hq.elim
theorem guards_in1 {A : Around} (h : A.guards = some []) : A.in1.guards = some [] := h
theorem frames_in1 {A : Around} : A.in1.frames = A.frames := rfl
end
def rLenO (C : Addr) (sp : Sp) (E : XK) : List V → Hp → VK → Prop := fun xs H Q => ∃ a dx fs, xs = [.ref a] ∧ H a = some (.ins C dx fs) ∧ sp [.ref a] H (fun v H2 => ∃ n : Int, v = .int n ∧ 0 ≤ n ∧ n < 2 ^ 63 ∧ Q v H2) E
def rStrO (C : Addr) (sp : Sp) (E : XK) : List V → Hp → VK → Prop := fun xs H Q => ∃ a dx fs, xs = [.ref a] ∧ H a = some (.ins C dx fs) ∧ sp [.ref a] H (fun v H2 => ∃ y : Str, v = .str y ∧ Q v H2) E
section
variable {X : Cx} {CX : CXT} {k : Nat} {C : Addr} {ps : List Str} {sp : Sp} {E : XK}
theorem mt_runA {A1 : Around} {m : Str} {pins : List (Addr × Obj)} {σ : L2.St} {H : Hp} {s : Shared} {Q : VK} {f : Addr} {fd : FuncData} {a : Addr} (hfr : A1.frames = X.A.frames) (F : Mt0 X.prog X.w X.K X.mg X.base CX k C m ps sp f fd) (hg : A1.guards = some []) (hr : Room k A1) (hx : Passes CX X E)
    (I : Inv X pins σ H s) (h : sp [.ref a] H Q E) : wpAny (model X.prog X.w) A1 (PySem.call (.ref f) [.ref a]) (EP X pins σ Q) X.xe s := by
  have l : [Value.ref a].length = ps.length := F.gn.ln _ _ _ _ h
  have b := F.bd s [.ref a] I.kIn (by simpa using l)
  rw [List.append_nil] at b
  have rr : Vals [V.ref a] [Value.ref a] := .cons rfl .nil
  exact gn_runA (ar := ⟨[.ref a], []⟩) hfr F.gn hg hr hx I b rr h
theorem call_lenO (F : Mt X.prog X.w X.K X.mg X.base CX k C "__len__" ps sp) (hg : X.A.guards = some []) (hr : Room (k + 1) X.A) (hx : Passes CX X E) : CallR X (.builtin "len") (rLenO C sp E) := by
  intro pins s σ H xs us Q I r h
  obtain ⟨f, fd, F⟩ := F
  obtain ⟨a, dx, fs, rfl, ha, q⟩ := h
  obtain ⟨u, rfl, ru⟩ := vals1 r
  obtain rfl : u = Value.ref a := ru
  obtain ⟨mA, J, _⟩ := ins_get I.hok ha
  obtain ⟨od, J, _⟩ := J.look
  obtain ⟨m, hF⟩ := I.fr
  refine PySem.W.len_K hF I.ok.mod.kin J F.me.at_ F.me.fn (wpAny_mono (mt_runA frames_in1 F (guards_in1 hg) hr.in1 hx I q) (fun u s' hu => ?_) fun _ _ e => e)
  obtain ⟨v, H', I', rv, n, rfl, h0, h1, hq⟩ := hu
  obtain ⟨tk, rfl⟩ := rv
  exact ⟨⟨h0, h1⟩, ⟨.int n, H', I'.tok _, ⟨_, rfl⟩, hq⟩⟩
theorem call_reprO (F : Mt X.prog X.w X.K X.mg X.base CX k C "__repr__" ps sp) (hg : X.A.guards = some []) (hr : Room (k + 1) X.A) (hx : Passes CX X E) : CallR X (.builtin "repr") (rStrO C sp E) := by
  intro pins s σ H xs us Q I r h
  obtain ⟨f, fd, F⟩ := F
  obtain ⟨a, dx, fs, rfl, ha, q⟩ := h
  obtain ⟨u, rfl, ru⟩ := vals1 r
  obtain rfl : u = Value.ref a := ru
  obtain ⟨mA, J, _⟩ := ins_get I.hok ha
  obtain ⟨od, J, _⟩ := J.look
  obtain ⟨m, hF⟩ := I.fr
  refine PySem.W.repr_K hr.in1.units0 hF I.ok.mod.kin J F.me.at_ F.me.fn (wpAny_mono (mt_runA frames_in1 F (guards_in1 hg) hr.in1 hx I q) (fun u s' hu => ?_) fun _ _ e => e)
  obtain ⟨v, H', I', rv, y, rfl, hq⟩ := hu
  obtain ⟨tk, rfl⟩ := rv
  exact ⟨.str y, H', I', ⟨_, rfl⟩, hq⟩
open Builtin Builtin.Str PySem.W in
theorem call_strK {prog : Program} {w : World} {A : Around} {E : Value → Shared → Prop} {s : Shared} {K : PySem.W.Frag} {x C f : Addr} {ox : Obj} {od : Option Obj} {Q : Value → Shared → Prop} (hu : A.in1.in1.units < cLine) (X : K.In s.heap) (I : PySem.W.InstAt s.heap x ox C od) (hs : PySem.W.findIn K (.ref C) "__str__" = some (some (.ref f))) (hf : PySem.W.isFn K (.ref f) = true)
    (h : wpAny (model prog w) A.in1.in1 (call (.ref f) [.ref x]) (PySem.W.StrBack Q) E s) : wpAny (model prog w) A (call (.type "str") [.ref x]) Q E s := by
  refine callType_codes (T := "str") (Bi := Builtin.«object.__init__») (Q₁ := fun r s₁ => ∃ y u, r = .str y u ∧ Q r s₁) PySem.F.called_str (PySem.F.typeCall_str_1 _) PySem.F.entry_object_init ?_ ?_
  · refine codeAny_of_tree ?_
    show wpAny _ A.in1.in1 (do checkBuiltinCall "str.__new__" ⟨[.type "str", .ref x], []⟩; again (.builtin "str.__new__" ⟨[.type "str", .ref x], []⟩)) _ _ s
    refine wpAny_bind (wpAny_of_eq (PySem.F.newCall_str_1 _) (wpAny_pure ⟨plainId_quiet (by decide +kernel) _, codeAny_builtin PySem.F.entry_str_new ?_⟩))
    rw [Around.under_plainId (by decide +kernel) _]
    rw [str_new_tree]
    refine wpAny_bind (wpAny_pure ?_)
    refine wpAny_bind (wpAny_of_eq isSubtype_str_str ?_)
    have key : wpAny (model prog w) A.in1.in1 (PySem.Builtin.Str.strOf (.ref x)) (fun r s₁ => ∃ y u, r = .str y u ∧ Q r s₁) E s := by
      unfold PySem.Builtin.Str.strOf
      rw [show isExactStr (.ref x) = false from rfl]
      refine wpAny_bind (m := cRoomFor _ _) (wpAny_cRoomFor hu ?_)
      refine wpAny_bind (m := callSpecial? (.ref x) (Str.ofString "__str__")) (special_fn X I hs (beq_iff_eq.mp hf) (wpAny_mono h (fun r s' z => ?_) fun _ _ y => y))
      cases r <;> first | exact z.elim | exact wpAny_pure ⟨_, _, rfl, z⟩
    exact wpAny_bind (wpAny_mono key (fun r s₁ hr => wpAny_pure hr) fun _ _ y => y)
  · rintro obj s₁ ⟨y, u, rfl, hq⟩
    exact ⟨typeIs_str _ _ _, PySem.F.args_object_init_2 _ _, object_init_meets PySem.F.called_str.init.lookup PySem.F.called_str.made (by decide) prog w A.in1 _ s₁ ⟨typeIs_str _ _ _, rfl, hq⟩⟩
theorem call_strO (F : Mt X.prog X.w X.K X.mg X.base CX k C "__str__" ps sp) (hg : X.A.guards = some []) (hr : Room (k + 2) X.A) (hx : Passes CX X E) : CallR X (.type "str") (rStrO C sp E) := by
  intro pins s σ H xs us Q I r h
  obtain ⟨f, fd, F⟩ := F
  obtain ⟨a, dx, fs, rfl, ha, q⟩ := h
  obtain ⟨u, rfl, ru⟩ := vals1 r
  obtain rfl : u = Value.ref a := ru
  obtain ⟨mA, J, _⟩ := ins_get I.hok ha
  obtain ⟨od, J, _⟩ := J.look
  have hr2 : Room k X.A.in1.in1 := Room.in1 (Room.in1 hr)
  refine call_strK hr2.units0 I.kIn J F.me.at_ F.me.fn (wpAny_mono (mt_runA (A1 := X.A.in1.in1) rfl F (guards_in1 (guards_in1 hg)) hr2 hx I q) (fun u s' hu => ?_) fun _ _ e => e)
  obtain ⟨v, H', I', rv, y, rfl, hq⟩ := hu
  obtain ⟨tk, rfl⟩ := rv
  exact ⟨.str y, H', I', ⟨_, rfl⟩, hq⟩
end
section
variable {X : Cx} {CX : CXT} {k : Nat} {C : Addr} {ps : List Str} {sp : Sp} {E : XK} {e : Expr} {t : TE} {p pos : Pos}
theorem q_lenO (F : Mt X.prog X.w X.K X.mg X.base CX k C "__len__" ps sp) (m : X.mg "len" = none) (hgd : X.A.guards = some []) (hr : Room (k + 1) X.A) (hg : Gl X "len") (hx : Passes CX X E) (he : PE X e t) (hs : starEach [e] X.env = (false, eval e X.env) :: starEach [] X.env := by rfl) :
    PE X (.Call (.Name "len" p) [e] [] pos) (tCB (rLenO C sp E) (tCons t tNil)) := pe_callB (call_lenO F hgd hr hx) hg m boot_len (pa_cons he pa_nil hs) (by decide) (by decide) hs
theorem q_reprO (F : Mt X.prog X.w X.K X.mg X.base CX k C "__repr__" ps sp) (m : X.mg "repr" = none) (hgd : X.A.guards = some []) (hr : Room (k + 1) X.A) (hg : Gl X "repr") (hx : Passes CX X E) (he : PE X e t) (hs : starEach [e] X.env = (false, eval e X.env) :: starEach [] X.env := by rfl) :
    PE X (.Call (.Name "repr" p) [e] [] pos) (tCB (rStrO C sp E) (tCons t tNil)) := pe_callB (call_reprO F hgd hr hx) hg m boot_repr (pa_cons he pa_nil hs) (by decide) (by decide) hs
theorem q_strO (F : Mt X.prog X.w X.K X.mg X.base CX k C "__str__" ps sp) (m : X.mg "str" = none) (hgd : X.A.guards = some []) (hr : Room (k + 2) X.A) (hg : Gl X "str") (hx : Passes CX X E) (he : PE X e t) (hs : starEach [e] X.env = (false, eval e X.env) :: starEach [] X.env := by rfl) :
    PE X (.Call (.Name "str" p) [e] [] pos) (tCB (rStrO C sp E) (tCons t tNil)) := pe_callTy (call_strO F hgd hr hx) hg m boot_str (pa_cons he pa_nil hs) (by decide) (by decide) hs
end
section
variable {K : PySem.W.Frag} {w : Wl} {P : PD} {C : Addr} {fs : List (Str × D)} {pre : List D → Wl → Prop} {post : List D → Wl → D → Wl → Prop} {E' : XK}
theorem ol_lenO' (h : pre [.ins C fs] w ∧ ∀ d w3, post [.ins C fs] w d w3 → ∃ n : Int, d = .int n ∧ 0 ≤ n ∧ n < 2 ^ 63 ∧ P (.int n) w3) : OpL K (rLenO C (SpD K pre post zN) E') [.ins C fs] w P := by
  intro vs H r c Q q
  cases r with
  | cons r0 t =>
    cases t
    have r1 := r0
    cases r0 with
    | ins ha hf =>
      refine ⟨_, _, _, rfl, (msk_some ha).2, ⟨[.ins C fs], w, .cons r1 .nil, c, h.1, fun v H2 d w2 e2 c2 r2 p2 => ?_, kz_none⟩⟩
      obtain ⟨n, rfl, h0, h1, k⟩ := h.2 d w2 p2
      cases r2
      exact ⟨n, rfl, h0, h1, q _ H2 (.int n) w2 e2 c2 (.int n) k⟩
theorem ol_strO' (h : pre [.ins C fs] w ∧ ∀ d w3, post [.ins C fs] w d w3 → ∃ y : Str, d = .str y ∧ P (.str y) w3) : OpL K (rStrO C (SpD K pre post zN) E') [.ins C fs] w P := by
  intro vs H r c Q q
  cases r with
  | cons r0 t =>
    cases t
    have r1 := r0
    cases r0 with
    | ins ha hf =>
      refine ⟨_, _, _, rfl, (msk_some ha).2, ⟨[.ins C fs], w, .cons r1 .nil, c, h.1, fun v H2 d w2 e2 c2 r2 p2 => ?_, kz_none⟩⟩
      obtain ⟨y, rfl, k⟩ := h.2 d w2 p2
      cases r2
      exact ⟨y, rfl, q _ H2 (.str y) w2 e2 c2 (.str y) k⟩
end
end DL
namespace DL
open PySem PySem.Spec PyProof.Rows L2
section
variable {K : PySem.W.Frag} {W : XK} {δ : Dlt} {w : Wl} {P : PD} {Z : ZD} {ta tb tc : TE}
theorem ev_chain {r r' : R2} (h : Ev K W ta δ w (fun x w1 => Ev K W tb δ w1 (fun y w2 => Op2 K r x y w2 (fun d w3 => ∃ b, d = .bl b ∧ if b = true then Ev K W tc δ w3 (fun u w4 => Op2 K r' y u w4 P) Z else P (.bl false) w3)) Z) Z) : Ev K W (tChain r r' ta tb tc) δ w P Z :=
  fun σ H s Q q z => h σ H s _ (fun v H1 x w1 e1 c1 r1 h1 => h1 σ H1 (s.next e1 c1) _ (fun u H2 y w2 e2 c2 r2 h2 => h2 v u H2 (r1.mono e2) r2 c2 _ (fun d H3 d' w3 e3 c3 r3 ⟨b, hd, h3⟩ => by
    subst hd
    cases r3
    refine ⟨b, rfl, ?_⟩
    cases b with
    | true => exact h3 σ H3 (((s.next e1 c1).next e2 c2).next e3 c3) _ (fun u' H4 y' w4 e4 c4 r4 h4 => h4 u u' H4 ((r2.mono e3).mono e4) r4 c4 Q (KqG.next q (((e1.trans e2).trans e3).trans e4))) (z.next ((e1.trans e2).trans e3))
    | false => exact q _ H3 _ w3 ((e1.trans e2).trans e3) c3 (.bl false) h3)) (z.next e1)) z
end
end DL
set_option Elab.async false
set_option linter.all false
set_option autoImplicit false
set_option maxRecDepth 100000
set_option maxHeartbeats 4000000
/-! BU: losses of names; merging loses; counts by name. -/
namespace LW
open PySem PySem.Spec PyProof.Rows L2 DL
theorem cof_get {n : Str} : ∀ prs : List (Str × Int), cofD n (prs.map prD) = getS prs n
  | [] => rfl
  | e :: r => by
    show (if e.1 = n then e.2 else cofD n (r.map prD)) = _
    rw [cof_get r]
    unfold getS
    rw [List.find?_cons]
    by_cases h : e.1 = n
    · rw [if_pos h, decide_eq_true h]; rfl
    · rw [if_neg h, decide_eq_false h]
theorem getS_nil (n : Str) : getS [] n = 0 := rfl
theorem getS_nn {prs : List (Str × Int)} (h : ∀ pr ∈ prs, 0 ≤ pr.2) (n : Str) : 0 ≤ getS prs n := by
  unfold getS
  cases hf : prs.find? (fun kv => decide (kv.1 = n)) with
  | none => decide
  | some e => exact h e (List.mem_of_find?_eq_some hf)
theorem getS_cut {f : Int} {kvs : List (Str × Int)} (nd : (kvs.map (·.1)).Nodup) (n : Str) : getS (cutP f kvs) n = if n ∈ kvs.map (·.1) ∧ getS kvs n > f then getS kvs n - f else 0 := by
  by_cases h : n ∈ kvs.map (·.1)
  · obtain ⟨e, he, rfl⟩ := List.mem_map.mp h
    have hg := getS_mem nd e he
    by_cases hf : e.2 > f
    · rw [if_pos ⟨h, by rw [hg]; exact hf⟩, hg]
      exact getS_mem (cutP_nodup nd f) (e.1, e.2 - f) (List.mem_map.mpr ⟨e, List.mem_filter.mpr ⟨he, decide_eq_true hf⟩, rfl⟩)
    · rw [if_neg (fun z => hf (by rw [hg] at z; exact z.2))]
      refine getS_new fun z => ?_
      obtain ⟨y, hy, hn⟩ := List.mem_map.mp z
      obtain ⟨x, hx, rfl⟩ := List.mem_map.mp hy
      obtain ⟨hx1, hx2⟩ := List.mem_filter.mp hx
      have hx2 := of_decide_eq_true hx2
      have e1 : x.1 = e.1 := hn
      have := getS_mem nd x hx1
      rw [e1, hg] at this
      omega
  · rw [if_neg (fun z => h z.1)]
    exact getS_new fun z => h ((cut_names _ _).subset z)
theorem arr_loss {n b t : Int} {kvs : List (Str × Int)} {x : Str} (h : TabOk n.toNat b kvs) (hn : 1 ≤ n) (ht : 1 ≤ t) (y : Str) :
    0 ≤ getS kvs y + (if x = y then t else 0) - getS (arrS n kvs x t).1 y ∧ getS kvs y + (if x = y then t else 0) - getS (arrS n kvs x t).1 y ≤ (arrS n kvs x t).2 := by
  have hnn := getS_nn (prs := kvs) (fun pr hp => by have := (h.2.1 pr hp).2.1; omega) y
  unfold arrS
  by_cases hc : x ∈ kvs.map (·.1) ∨ (kvs.length : Int) < n
  · rw [if_pos hc]
    show 0 ≤ getS kvs y + (if x = y then t else 0) - getS (putS kvs x (getS kvs x + t)) y ∧ getS kvs y + (if x = y then t else 0) - getS (putS kvs x (getS kvs x + t)) y ≤ 0
    by_cases he : x = y
    · subst he
      rw [getS_put, if_pos rfl]; omega
    · rw [getS_put_ne kvs _ (Ne.symm he), if_neg he]; omega
  · rw [if_neg hc]
    have hx : x ∉ kvs.map (·.1) := fun z => hc (.inl z)
    obtain ⟨f1, f2⟩ := fall_le (kvs := kvs) (t := t)
    have f0 : 0 ≤ fallS kvs t := by
      unfold fallS
      have hl : 0 < kvs.length := by
        have := fun z => hc (.inr z)
        omega
      have := minL_mem (ns := kvs.map (·.2)) (by rw [List.length_map]; exact hl)
      obtain ⟨e, he, hm⟩ := List.mem_map.mp this
      have := (h.2.1 e he).2.1
      split <;> omega
    have hcut := getS_cut (f := fallS kvs t) h.1 y
    have hge : y ∈ kvs.map (·.1) → fallS kvs t ≤ getS kvs y := fun hy => by
      obtain ⟨e, he, rfl⟩ := List.mem_map.mp hy
      rw [getS_mem h.1 e he]; exact f2 e he
    show 0 ≤ getS kvs y + (if x = y then t else 0) - getS (if fallS kvs t < t then putS (cutP (fallS kvs t) kvs) x (t - fallS kvs t) else cutP (fallS kvs t) kvs) y ∧ getS kvs y + (if x = y then t else 0) - getS (if fallS kvs t < t then putS (cutP (fallS kvs t) kvs) x (t - fallS kvs t) else cutP (fallS kvs t) kvs) y ≤ fallS kvs t
    have hy0 : y ∉ kvs.map (·.1) → getS kvs y = 0 := fun z => getS_new z
    by_cases he : x = y
    · subst he
      rw [if_pos rfl, hy0 hx]
      have hcx : getS (cutP (fallS kvs t) kvs) x = 0 := getS_new fun z => hx ((cut_names _ _).subset z)
      split
      · rw [getS_put]; omega
      · rw [hcx]; omega
    · rw [if_neg he]
      have hk : getS (if fallS kvs t < t then putS (cutP (fallS kvs t) kvs) x (t - fallS kvs t) else cutP (fallS kvs t) kvs) y = getS (cutP (fallS kvs t) kvs) y := by
        split
        · exact getS_put_ne _ _ (Ne.symm he)
        · rfl
      rw [hk, hcut]
      by_cases hy : y ∈ kvs.map (·.1)
      · have := hge hy
        split
        · omega
        · rename_i hn
          have : ¬ getS kvs y > fallS kvs t := fun z => hn ⟨hy, z⟩
          omega
      · rw [if_neg (fun z => hy z.1), hy0 hy]; omega
theorem sumN_cons (y : Str) (e : Str × Int) (r : List (Str × Int)) : sumN y (e :: r) = (if e.1 = y then e.2 else 0) + sumN y r := by
  have := sumN_app y [e] r
  rw [List.singleton_append] at this
  rw [this]
  congr 1
  unfold sumN
  rw [List.filter_cons]
  by_cases h : e.1 = y
  · rw [decide_eq_true h, if_pos h]; simp
  · rw [decide_eq_false h, if_neg h]; simp
theorem play_loss {n : Int} (hn : 1 ≤ n) (y : Str) : ∀ {runs kvs : List (Str × Int)}, (∃ b, TabOk n.toNat b kvs) → (∀ pr ∈ runs, nameS pr.1 = true ∧ 1 ≤ pr.2) →
    0 ≤ getS kvs y + sumN y runs - getS (playS n kvs runs).1 y ∧ getS kvs y + sumN y runs - getS (playS n kvs runs).1 y ≤ (playS n kvs runs).2
  | [], kvs, _, _ => by
    have e : sumN y [] = 0 := rfl
    rw [e, play_nil]
    show 0 ≤ getS kvs y + 0 - getS kvs y ∧ getS kvs y + 0 - getS kvs y ≤ 0
    omega
  | r :: rs, kvs, ⟨b, h⟩, hr => by
    obtain ⟨hx, ht⟩ := hr r (List.mem_cons_self ..)
    have h2 := arr_tab h hx ht hn
    obtain ⟨i1, i2⟩ := play_loss hn y (runs := rs) h2 fun pr hp => hr pr (List.mem_cons_of_mem _ hp)
    obtain ⟨a1, a2⟩ := arr_loss (x := r.1) h hn ht y
    rw [play_cons, sumN_cons]
    show 0 ≤ getS kvs y + ((if r.1 = y then r.2 else 0) + sumN y rs) - getS (playS n (arrS n kvs r.1 r.2).1 rs).1 y ∧ getS kvs y + ((if r.1 = y then r.2 else 0) + sumN y rs) - getS (playS n (arrS n kvs r.1 r.2).1 rs).1 y ≤ (arrS n kvs r.1 r.2).2 + (playS n (arrS n kvs r.1 r.2).1 rs).2
    omega
theorem play_nn {n : Int} (hn : 1 ≤ n) {runs kvs : List (Str × Int)} (h : ∃ b, TabOk n.toNat b kvs) (hr : ∀ pr ∈ runs, nameS pr.1 = true ∧ 1 ≤ pr.2) : 0 ≤ (playS n kvs runs).2 := by
  have := play_loss hn ("" : Str) h hr
  omega
theorem PlayD.loss {c : Int} {prs runs ys : List (Str × Int)} (h : PlayD c prs runs ys) (hs : SumX c prs) (hr : ∀ pr ∈ runs, nameS pr.1 = true ∧ 1 ≤ pr.2) (y : Str) :
    0 ≤ getS prs y + sumN y runs - getS ys y ∧ getS prs y + sumN y runs - getS ys y ≤ (playS c prs runs).2 := by
  rw [getS_perm h.1 ((h.1.map _).nodup_iff.mpr (play_nodup runs hs.nodup)) y]
  exact play_loss hs.1 y hs.tab hr
theorem PlayD.nn {c : Int} {prs runs : List (Str × Int)} (hs : SumX c prs) (hr : ∀ pr ∈ runs, nameS pr.1 = true ∧ 1 ≤ pr.2) : 0 ≤ (playS c prs runs).2 := play_nn hs.1 hs.tab hr
theorem PlayD.totE {c : Int} {prs runs ys : List (Str × Int)} (h : PlayD c prs runs ys) (hs : SumX c prs) (hr : ∀ pr ∈ runs, nameS pr.1 = true ∧ 1 ≤ pr.2) : totS ys = totS prs + totS runs - (playS c prs runs).2 * (c + 1) := by
  rw [tot_perm h.1]
  exact play_tot (b := 0) hs.1 hs.tab hr
/-! merging -/
theorem sum_perm {a b : List Int} (h : a.Perm b) : a.sum = b.sum := by
  induction h with
  | nil => rfl
  | cons x _ ih => rw [List.sum_cons, List.sum_cons, ih]
  | swap x y l => simp only [List.sum_cons]; omega
  | trans _ _ a b => exact a.trans b
def minC (c : Int) (ns : List Int) : Int := (ns.map fun x => if x > c then c else x).sum
theorem minC_perm {c : Int} {a b : List Int} (p : a.Perm b) : minC c a = minC c b := by
  unfold minC
  have := p.map fun x => if x > c then c else x
  exact sum_perm this
theorem minC_app (c : Int) (a b : List Int) : minC c (a ++ b) = minC c a + minC c b := by unfold minC; rw [List.map_append, List.sum_append]
theorem minC_nn {c : Int} (hc : 0 ≤ c) : ∀ {ns : List Int}, (∀ n ∈ ns, 0 ≤ n) → 0 ≤ minC c ns
  | [], _ => by unfold minC; simp
  | n :: r, h => by
    have i := minC_nn hc (ns := r) fun m hm => h m (List.mem_cons_of_mem _ hm)
    have h0 := h n (List.mem_cons_self ..)
    unfold minC at *
    rw [List.map_cons, List.sum_cons]
    split <;> omega
theorem minC_all {c : Int} : ∀ {ns : List Int}, (∀ n ∈ ns, c ≤ n) → minC c ns = ns.length * c
  | [], _ => by unfold minC; simp
  | n :: r, h => by
    have i := minC_all (c := c) (ns := r) fun m hm => h m (List.mem_cons_of_mem _ hm)
    have h0 := h n (List.mem_cons_self ..)
    unfold minC at *
    rw [List.map_cons, List.sum_cons, i, List.length_cons]
    push_cast
    rw [Int.add_mul]
    split <;> omega
theorem kth_cols {ns : List Int} (h : ∀ n ∈ ns, 0 ≤ n) (k : Nat) : ((k : Int) + 1) * kth ns k ≤ minC (kth ns k) ns := by
  have hp := kth_pos h k
  obtain ⟨dp, ds⟩ := desc_ok ns
  rw [← minC_perm dp]
  by_cases hk : k < (descS ns).length
  · have ek : (descS ns)[k]? = some (kth ns k) := by
      unfold kth
      rw [List.getElem?_eq_getElem hk]; rfl
    rw [← List.take_append_drop (k + 1) (descS ns), minC_app]
    have hl : ((descS ns).take (k + 1)).length = k + 1 := by rw [List.length_take]; omega
    have ha : ∀ n ∈ (descS ns).take (k + 1), kth ns k ≤ n := fun n hn => by
      obtain ⟨i, hi, rfl⟩ := List.mem_iff_getElem.mp hn
      rw [hl] at hi
      rw [List.getElem_take]
      have e2 : (descS ns)[k] = kth ns k := by
        rw [List.getElem?_eq_getElem hk] at ek; injection ek
      rw [← e2]
      rcases Nat.lt_or_ge i k with h1 | h1
      · exact (List.pairwise_iff_getElem.mp ds) i k (by omega) hk h1
      · have : i = k := by omega
        subst this; exact Int.le_refl _
    rw [minC_all ha, hl]
    have := minC_nn hp (ns := (descS ns).drop (k + 1)) fun n hn => h n (dp.subset (List.mem_of_mem_drop hn))
    push_cast
    omega
  · have e0 : kth ns k = 0 := by
      unfold kth
      rw [List.getElem?_eq_none (by omega)]; rfl
    rw [e0, Int.mul_zero]
    exact minC_nn (Int.le_refl 0) fun n hn => h n (dp.subset hn)
theorem tot_nn : ∀ {prs : List (Str × Int)}, (∀ pr ∈ prs, 0 ≤ pr.2) → 0 ≤ totS prs
  | [], _ => by unfold totS; simp
  | e :: r, h => by
    have i := tot_nn (prs := r) fun x hx => h x (List.mem_cons_of_mem _ hx)
    have := h e (List.mem_cons_self ..)
    rw [tot_cons]; omega
theorem tot_cutP {c : Int} : ∀ kvs : List (Str × Int), totS (cutP c kvs) = totS kvs - minC c (kvs.map (·.2))
  | [] => rfl
  | e :: r => by
    have i := tot_cutP (c := c) r
    have ec : cutP c (e :: r) = if e.2 > c then (e.1, e.2 - c) :: cutP c r else cutP c r := by
      unfold cutP
      rw [List.filter_cons]
      split <;> rename_i hh
      · rw [if_pos (of_decide_eq_true hh)]; rfl
      · rw [if_neg (fun z => hh (decide_eq_true z))]
    have em : minC c ((e :: r).map (·.2)) = (if e.2 > c then c else e.2) + minC c (r.map (·.2)) := by unfold minC; rw [List.map_cons, List.map_cons, List.sum_cons]
    rw [ec, em, tot_cons]
    split
    · rw [tot_cons, i]; show e.2 - c + _ = _; omega
    · rw [i]; omega
theorem sums_get {prs ys : List (Str × Int)} (h : Sums prs ys) (y : Str) : getS ys y = sumN y prs := by
  rw [getS_perm h.1 (h.1.map _ |>.nodup_iff.mpr (acc_nodup prs)) y]
  exact acc_get y prs
theorem sumN_get {prs : List (Str × Int)} (nd : (prs.map (·.1)).Nodup) (y : Str) : sumN y prs = getS prs y := by
  rw [← acc_get, acc_self prs nd]
theorem tot_acc : ∀ (prs acc : List (Str × Int)), (acc.map (·.1)).Nodup → totS (prs.foldl addS acc) = totS acc + totS prs
  | [], acc, _ => by
    show totS acc = totS acc + totS []
    unfold totS; simp
  | e :: r, acc, nd => by
    have h : totS (addS acc e) = totS acc + e.2 := by
      unfold addS
      rw [tot_put nd]; omega
    rw [List.foldl_cons, tot_acc r _ (by unfold addS; exact putS_nodup nd _ _), h, tot_cons]
    omega
theorem sums_tot {prs ys : List (Str × Int)} (h : Sums prs ys) : totS ys = totS prs := by
  rw [tot_perm h.1]
  have := tot_acc prs [] (by simp)
  have e0 : totS [] = 0 := rfl
  rw [e0, Int.zero_add] at this
  exact this
/-- merging takes the same, c, at most from each name, and at least k + 1 times c -/
theorem Merg.loss {k : Nat} {p q r : List (Str × Int)} (h : Merg k p q r) (hp : (p.map (·.1)).Nodup) (hq : (q.map (·.1)).Nodup) (p0 : ∀ pr ∈ p, 0 ≤ pr.2) (q0 : ∀ pr ∈ q, 0 ≤ pr.2) :
    ∃ c : Int, 0 ≤ c ∧ (∀ y, 0 ≤ getS p y + getS q y - getS r y ∧ getS p y + getS q y - getS r y ≤ c) ∧ ((k : Int) + 1) * c ≤ totS p + totS q - totS r := by
  obtain ⟨ys, hs, rfl⟩ := h
  have ynd : (ys.map (·.1)).Nodup := hs.1.map _ |>.nodup_iff.mpr (acc_nodup _)
  have yg : ∀ y, getS ys y = getS p y + getS q y := fun y => by
    rw [sums_get hs, sumN_app, sumN_get hp, sumN_get hq]
  have yn : ∀ n ∈ ys.map (·.2), 0 ≤ n := fun n hn => by
    obtain ⟨e, he, rfl⟩ := List.mem_map.mp hn
    have := yg e.1
    rw [getS_mem ynd e he] at this
    have a := getS_nn p0 e.1
    have b := getS_nn q0 e.1
    omega
  refine ⟨_, kth_pos yn k, fun y => ?_, ?_⟩
  · have hk := kth_pos yn k
    have hg := getS_cut (f := kth (ys.map (·.2)) k) ynd y
    have a := getS_nn p0 y
    have b := getS_nn q0 y
    have := yg y
    rw [hg]
    split
    · omega
    · rename_i hn
      by_cases hy : y ∈ ys.map (·.1)
      · have : ¬ getS ys y > kth (ys.map (·.2)) k := fun z => hn ⟨hy, z⟩
        omega
      · have := getS_new hy
        omega
  · rw [tot_cutP, sums_tot hs, tot_app]
    have := kth_cols yn k
    omega
end LW
set_option Elab.async false
set_option linter.all false
set_option autoImplicit false
set_option maxRecDepth 100000
set_option maxHeartbeats 4000000
/-! DL28: comprehensions over a dict that is locked meanwhile. -/
namespace DL
open PySem PySem.Spec PyProof.Rows L2
section
variable {K : PySem.W.Frag} {W : XK} {δ : Dlt} {w : Wl} {P : PD} {te : TE} {tt : TT} {g : TG}
theorem ev_lockLc {i : Nat} {l : Addr} {kvs : List (Key × D)} {vs : List Nat} (hg : GLoc g vs ∧ GMon g) (hv : δ[i]? = some (some (.ptr l))) (hw : w l = some (.dK kvs))
    (h : ∀ c : Cl, IsF c kvs → ∀ q : Addr, q ≠ l → w q = none → ∃ I : Nat → List D → Wl → Prop, I 0 [] (put (put w l c) q (.lst [])) ∧
      (∀ (ix : Nat) (k : Key) (d : D) (acc : List D) (w' : Wl), kvs[ix]? = some (k, d) → w' l = some c → w' q = some (.lst acc) → I ix acc w' → Gd K W g (kD k) (wipeD δ vs) w' (fun δ2 w2 => EvT K W tt δ2 w2 (fun b w3 =>
        if b = true then Ev K W te δ2 w3 (fun y w4 => w4 l = some c ∧ w4 q = some (.lst acc) ∧ acc.length < sizeLine ∧ I (ix + 1) (acc ++ [y]) (put w4 q (.lst (acc ++ [y])))) z0 else w3 l = some c ∧ w3 q = some (.lst acc) ∧ I (ix + 1) acc w3) z0) z0) ∧
      (∀ acc w', w' l = some c → w' q = some (.lst acc) → I kvs.length acc w' → P (.lst acc) (cut (put w' l (.dK kvs)) q))) : Ev K W (tLockE (tLc (iKeys (tVar i)) g tt te vs)) δ w P z0 := by
  intro σ H s Q q z
  obtain ⟨v0, s1, s2⟩ := s.sl i _ hv
  cases s2
  obtain ⟨ks, g1, g2⟩ := s.ce l _ hw
  refine ⟨l, .dK ks, g1, True.intro, fun od => ?_⟩
  obtain ⟨e1, c1⟩ := putF_ok (o := od) s.ce hw g2
  have len := rpk_len g2
  refine ⟨.ref l, s1, l, od, rfl, .inl ⟨ks, upd_same, ?_⟩⟩
  intro D hD
  have ne : D ≠ l := fun e => by rw [e, upd_same] at hD; cases hD
  have hwD : w D = none := by
    have := c1.free hD
    rwa [put_ne ne] at this
  obtain ⟨I, i0, it, iN⟩ := h (.dF od ks kvs) ⟨od, ks, rfl⟩ D ne hwD
  obtain ⟨eo, co⟩ := own_ok (w := put w l (.dF od ks kvs)) (vs := []) (ds := []) c1 .nil hD
  refine ⟨fun ix m H' => m = ks.length - ix ∧ ix ≤ ks.length ∧ ∃ acc w', w' l = some (.dF od ks kvs) ∧ w' D = some (.lst acc) ∧ Ex (msk w H) (msk w' H') ∧ Cells K w' H' ∧ I ix acc w', ⟨ks.length, by simp, Nat.zero_le _, [], _, by rw [put_ne (Ne.symm ne), put_same], put_same, e1.trans eo, co, i0⟩, ?_⟩
  rintro ix m H' ⟨rfl, hix, acc, w', hl, hq, e', c', p⟩
  obtain ⟨q1, q2⟩ := c' l _ hl
  by_cases hlt : ix < ks.length
  · refine .inr ⟨⟨q1, hlt⟩, fun H2 => ∃ acc2 w2, w2 l = some (.dF od ks kvs) ∧ w2 D = some (.lst acc2) ∧ Ex (msk w H) (msk w2 H2) ∧ Cells K w2 H2 ∧ I (ix + 1) acc2 w2, fun H2 h2 => ⟨ks.length - (ix + 1), by omega, rfl, hlt, h2⟩, ?_⟩
    rintro x H2 ⟨rfl, k0, v, hk, rfl⟩
    have hk' : ∃ d, kvs[ix]? = some (k0, d) := by
      have hkl : ix < kvs.length := by omega
      have e := rpk_keys g2
      have := congrArg (fun z => z[ix]?) e
      simp only [List.getElem?_map, hk, Option.map_some] at this
      rw [List.getElem?_eq_getElem hkl] at this ⊢
      simp only [Option.map_some, Option.some.injEq] at this
      exact ⟨kvs[ix].2, by rw [this]⟩
    obtain ⟨d0, hk'⟩ := hk'
    have s2 : Sat K (wipe σ vs) H2 (wipeD δ vs) w' := (s.wipe vs).next e' c'
    refine hg.2 _ _ H2 _ _ (fun σ3 H3 (q3 : _ ∧ _) => ⟨q3.2.trans (wipe_idem σ vs), q3.1⟩) (hg.1 _ _ H2 _ ?_)
    refine it ix k0 d0 acc w' hk' hl hq p (kV k0) _ H2 (rp_kV k0) s2 _ (fun σ3 H3 δ3 w3 e3 s3 k => ?_) Kz.zero
    refine k σ3 H3 s3 _ (fun b H4 b' w4 e4 c4 r4 k4 => ?_) Kz.zero
    subst r4
    cases b with
    | true =>
      refine k4 σ3 H4 (s3.next e4 c4) _ (fun y H5 dy w5 e5 c5 r5 ⟨k5, k6, k7, k8⟩ => ?_) Kz.zero
      obtain ⟨xs, h5, r6⟩ := c5 D _ k6
      obtain ⟨e6, c6⟩ := put_ok c5 k6 h5 (r6.append (.cons r5 .nil))
      exact ⟨xs, h5, by rw [r6.length]; exact k7, _, _, by rw [put_ne (Ne.symm ne)]; exact k5, put_same, (((e'.trans e3).trans e4).trans e5).trans e6, c6, k8⟩
    | false => exact ⟨acc, w4, k4.1, k4.2.1, (e'.trans e3).trans e4, c4, k4.2.2⟩
  · have e : ix = ks.length := by omega
    subst e
    refine .inl ⟨⟨q1, Nat.le_refl _⟩, q1, ?_⟩
    obtain ⟨e4, c4⟩ := putK_ok (o := .dK ks) c' hl q2
    have hq4 : put w' l (.dK kvs) D = some (.lst acc) := by rw [put_ne ne]; exact hq
    obtain ⟨e5, c5, r5⟩ := frz_ok hq4 c4
    exact q _ _ _ _ ((e'.trans e4).trans e5) c5 r5 (iN acc w' hl hq (by rw [← len]; exact p))
/-- each entry's element known -/
theorem ev_lockMap {f : Key → D → D} {i j : Nat} {l : Addr} {kvs : List (Key × D)} (hv : δ[i]? = some (some (.ptr l))) (hw : w l = some (.dK kvs)) (hg : GLoc (gName j) [j] ∧ GMon (gName j)) (hz : kvs.length < sizeLine)
    (h : ∀ c : Cl, IsF c kvs → ∀ (w' : Wl) (ix : Nat) (k : Key) (d : D), kvs[ix]? = some (k, d) → w' l = some c → Ev K W te ((wipeD δ [j]).set j (some (kD k))) w' (fun y w4 => w4 = w' ∧ y = f k d) z0)
    (k : P (.lst (kvs.map fun e => f e.1 e.2)) w) : Ev K W (tLockE (tLc (iKeys (tVar i)) (gName j) tYes te [j])) δ w P z0 := by
  refine ev_lockLc hg hv hw fun c hc q nq hq => ⟨fun ix acc w' => acc = (kvs.take ix).map (fun e => f e.1 e.2) ∧ w' = put (put w l c) q (.lst acc), ⟨by simp, rfl⟩, ?_, ?_⟩
  · rintro ix k0 d0 acc w' hk hl hwq ⟨ha, rfl⟩
    refine gd_name (et_yes ?_)
    rw [if_pos rfl]
    refine (h c hc _ ix k0 d0 hk hl).imp fun y w4 ⟨hw4, hy⟩ => ?_
    subst hw4; subst hy
    have hi : ix < kvs.length := (List.getElem?_eq_some_iff.mp hk).1
    refine ⟨hl, hwq, by rw [ha]; simp; omega, ?_, put_put⟩
    rw [ha, List.take_add_one, hk]
    simp
  · rintro acc w' hl hwq ⟨ha, rfl⟩
    have e : cut (put (put (put w l c) q (.lst acc)) l (.dK kvs)) q = w := by
      funext b
      unfold cut put
      by_cases hb : b = q
      · rw [if_pos hb, hb]; exact hq.symm
      · rw [if_neg hb]
        by_cases hbl : b = l
        · rw [if_pos hbl, hbl]; exact hw.symm
        · rw [if_neg hbl, if_neg hb, if_neg hbl]
    rw [e, ha, List.take_length]
    exact k
end
end DL
set_option Elab.async false
set_option linter.all false
set_option autoImplicit false
set_option maxRecDepth 100000
set_option maxHeartbeats 4000000
/-! BV: tally, len, merged as rules for a call. -/
namespace LW
open PySem PySem.Spec PyProof.Rows L2 DL
def preTal (C : Addr) (ds : List D) (_ : Wl) : Prop := ∃ (c : Int) (prs : List (Str × Int)) (n : Str), ds = [.ins C (sumFsB c prs), .str n] ∧ SumX c prs ∧ nameS n = true
def postTal (C : Addr) (ds : List D) (w : Wl) (d : D) (w' : Wl) : Prop := w' = w ∧ ∀ (c : Int) (prs : List (Str × Int)) (n : Str), ds = [.ins C (sumFsB c prs), .str n] → d = .int (getS prs n)
def preLen (C : Addr) (ds : List D) (_ : Wl) : Prop := ∃ (c : Int) (prs : List (Str × Int)), ds = [.ins C (sumFsB c prs)] ∧ prs.length ≤ 1000
def postLen (C : Addr) (ds : List D) (w : Wl) (d : D) (w' : Wl) : Prop := w' = w ∧ ∀ (c : Int) (prs : List (Str × Int)), ds = [.ins C (sumFsB c prs)] → d = .int prs.length
theorem SumX.merg {c : Int} {p q r : List (Str × Int)} (hp : SumX c p) (hq : SumX c q) (h : Merg c.toNat p q r) : SumX c r := by
  obtain ⟨h1, h8, b1, p1⟩ := hp
  obtain ⟨_, _, b2, p2⟩ := hq
  have z : ∀ {b : Int} {s : List (Str × Int)}, SumP b c.toNat s → SumP ((if b1 < 0 then 0 else b1) + (if b2 < 0 then 0 else b2) + (if b < 0 then 0 else b)) c.toNat s := fun {b s} h => h.bound (by split <;> split <;> split <;> omega)
  have q1 : SumP ((if b1 < 0 then 0 else b1) + (if b2 < 0 then 0 else b2)) c.toNat p := p1.bound (by split <;> split <;> omega)
  have q2 : SumP ((if b1 < 0 then 0 else b1) + (if b2 < 0 then 0 else b2)) c.toNat q := p2.bound (by split <;> split <;> omega)
  exact ⟨h1, h8, _, h.sum (by split <;> split <;> omega) q1 q2⟩
section
variable {K : PySem.W.Frag} {W : XK} {δ : Dlt} {w : Wl} {P : PD} {Z : ZD} {te : TE} {t : TA} {C : Addr} {E' : XK}
theorem ev_tally (h : Ev K W te δ w (fun x w1 => ∃ c prs, x = .ins C (sumFsB c prs) ∧ EvA K W t δ w1 (fun ds w2 => ∃ n, ds = [.str n] ∧ SumX c prs ∧ nameS n = true ∧ P (.int (getS prs n)) w2) Z) Z) :
    Ev K W (tMeth C "tally" (SpD K (preTal C) (postTal C) zN) [] E' te t) δ w P Z := by
  refine ev_mt (h.imp fun d w1 ⟨c, prs, hd, k⟩ => ?_)
  subst hd
  refine ⟨_, rfl, lookB_none (by decide) (by decide), fun σ H s Q q z => k σ H s Q (fun v H' d w' e cc r ⟨n, hd, hs, hn, k2⟩ => q v H' d w' e cc r ?_) z⟩
  subst hd
  refine ⟨⟨c, prs, n, rfl, hs, hn⟩, fun dd w3 ⟨k3, e3⟩ => ?_⟩
  rw [e3 c prs n rfl, k3]
  exact k2
theorem ev_tallyK (h : Ev K W te δ w (fun x w1 => ∃ c prs, x = .ins C (sumFsB c prs) ∧ EvA K W t δ w1 (fun ds w2 => ∃ n, ds = [.str n] ∧ SumX c prs ∧ nameS n = true ∧ P (.int (getS prs n)) w2) Z) Z) :
    Ev K W (tMethK C "tally" (SpD K (preTal C) (postTal C) zN) E' te t) δ w P Z := by
  refine ev_mtk (h.imp fun d w1 ⟨c, prs, hd, k⟩ => ?_)
  subst hd
  refine ⟨_, rfl, lookB_none (by decide) (by decide), fun σ H s Q q z => k σ H s Q (fun v H' d w' e cc r ⟨n, hd, hs, hn, k2⟩ => q v H' d w' e cc r ?_) z⟩
  subst hd
  refine ⟨⟨c, prs, n, rfl, hs, hn⟩, fun dd w3 ⟨k3, e3⟩ => ?_⟩
  rw [e3 c prs n rfl, k3]
  exact k2
theorem ol_lenI {c : Int} {prs : List (Str × Int)} (hl : prs.length ≤ 1000) (k : P (.int prs.length) w) : OpL K (rLenO C (SpD K (preLen C) (postLen C) zN) E') [.ins C (sumFsB c prs)] w P := by
  refine ol_lenO' ⟨⟨c, prs, rfl, hl⟩, fun d w3 ⟨h1, h2⟩ => ?_⟩
  rw [h1, h2 c prs rfl]
  exact ⟨_, rfl, by omega, by omega, k⟩
theorem ev_merg (h : Ev K W te δ w (fun x w1 => ∃ c p, x = .ins C (sumFsB c p) ∧ EvA K W t δ w1 (fun ds w2 => ∃ q, ds = [.ins C (sumFsB c q)] ∧ SumX c p ∧ SumX c q ∧ ∀ w3 r, Keep w2 w3 → Merg c.toNat p q r → SumX c r → P (.ins C (sumFsB c r)) w3) Z) Z) :
    Ev K W (tMeth C "merged" (SpD K (preMerg C) (postMerg C) zN) [] E' te t) δ w P Z := by
  refine ev_mt (h.imp fun d w1 ⟨c, p, hd, k⟩ => ?_)
  subst hd
  refine ⟨_, rfl, lookB_none (by decide) (by decide), fun σ H s Q q z => k σ H s Q (fun v H' d w' e cc r ⟨q', hd, hp, hq, k2⟩ => q v H' d w' e cc r ?_) z⟩
  subst hd
  obtain ⟨b1, p1⟩ := hp.2.2
  obtain ⟨b2, p2⟩ := hq.2.2
  have q1 : SumP ((if b1 < 0 then 0 else b1) + (if b2 < 0 then 0 else b2)) c.toNat p := p1.bound (by split <;> split <;> omega)
  have q2 : SumP ((if b1 < 0 then 0 else b1) + (if b2 < 0 then 0 else b2)) c.toNat q' := p2.bound (by split <;> split <;> omega)
  refine ⟨⟨c, p, q', _, rfl, hp.1, hp.2.1, by split <;> split <;> omega, q1, q2⟩, fun dd w3 ⟨k3, e3⟩ => ?_⟩
  obtain ⟨r, rfl, hm⟩ := e3 c p q' rfl
  exact k2 w3 r k3 hm (hp.merg hq hm)
end
/-- sums by name, flat -/
def preFP (ds : List D) (_ : Wl) : Prop := ∃ prs : List (Str × Int), ds = [.tup (prs.map prD)] ∧ (accS prs).length < 64 ∧ prs.length ≤ 5000
def postFP (ds : List D) (w : Wl) (d : D) (w' : Wl) : Prop := Keep w w' ∧ ∀ prs : List (Str × Int), ds = [.tup (prs.map prD)] → ∃ ys, d = .tup (ys.map prD) ∧ Sums prs ys
theorem PathX.few {prs : List (Str × Int)} (h : PathX prs) : (accS prs).length ≤ 12 := by
  obtain ⟨xs, b, h1, h2, _⟩ := h
  have := acc_few (xs := xs) (prs := prs) fun pr hp => (h2 pr hp).1
  omega
theorem mul_le_div {a b n : Int} (hn : 0 < n) (h : a * n ≤ b) : a ≤ b / n := (Int.le_ediv_iff_mul_le hn).mpr h
theorem tot_neg : ∀ e : List (Str × Int), totS (negP e) = -totS e
  | [] => rfl
  | e :: r => by
    show totS ((e.1, -e.2) :: negP r) = _
    rw [tot_cons, tot_cons, tot_neg r]
    show -e.2 + -totS r = _
    omega
theorem sumN_neg (y : Str) : ∀ e : List (Str × Int), sumN y (negP e) = -sumN y e
  | [] => rfl
  | e :: r => by
    show sumN y ((e.1, -e.2) :: negP r) = _
    rw [sumN_cons, sumN_cons, sumN_neg y r]
    show (if e.1 = y then -e.2 else 0) + -sumN y r = _
    split <;> omega
theorem acc_tot (prs : List (Str × Int)) : totS (accS prs) = totS prs := by
  have := tot_acc prs [] (by simp)
  have e0 : totS [] = 0 := rfl
  rw [e0, Int.zero_add] at this
  exact this
theorem lossL_tot (p a e : List (Str × Int)) : totS (accS (lossL p a e)) = totS p + totS a - totS e := by
  rw [acc_tot]
  unfold lossL
  rw [tot_app, tot_app, tot_neg]; omega
theorem lossL_get {p a e : List (Str × Int)} (hp : (p.map (·.1)).Nodup) (ha : (a.map (·.1)).Nodup) (he : (e.map (·.1)).Nodup) (y : Str) : getS (accS (lossL p a e)) y = getS p y + getS a y - getS e y := by
  rw [acc_get]
  unfold lossL
  rw [sumN_app, sumN_app, sumN_neg, sumN_get hp, sumN_get ha, sumN_get he]; omega
theorem trues {α : Type} (xs : List α) : (xs.map fun _ => D.bl true) = (xs.map fun _ => true).map D.bl := by rw [List.map_map]; rfl
theorem all_trues {α : Type} (xs : List α) : (xs.map fun _ => true).all id = true := by simp
theorem Keep.free {w w1 : Wl} {q : Addr} (h : Keep w w1) (f : w1 q = none) : w q = none := by
  cases hz : w q with
  | none => rfl
  | some v => rw [h q (by rw [hz]; simp), hz] at f; cases f
theorem Keep.put' {w w1 : Wl} {q : Addr} {c : DL.Cl} (h : Keep w w1) (f : w1 q = none) : Keep w (DL.put w1 q c) := h.put (h.free f)
end LW
set_option Elab.async false
set_option linter.all false
set_option autoImplicit false
set_option maxRecDepth 100000
set_option maxHeartbeats 4000000
/-! BW: arrivals one by one; a late arrival. -/
namespace LW
open PySem PySem.Spec PyProof.Rows L2 DL
/-- tables by their counts -/
theorem mem_pos {n : Nat} {b : Int} {a : List (Str × Int)} (h : TabOk n b a) (z : Str) : z ∈ a.map (·.1) ↔ 0 < getS a z := by
  refine ⟨fun hz => ?_, fun hz => ?_⟩
  · obtain ⟨e, he, rfl⟩ := List.mem_map.mp hz
    rw [getS_mem h.1 e he]
    have := (h.2.1 e he).2.1
    omega
  · by_cases hm : z ∈ a.map (·.1)
    · exact hm
    · rw [getS_new hm] at hz; omega
theorem perm_of_get {n m : Nat} {b c : Int} {x y : List (Str × Int)} (hx : TabOk n b x) (hy : TabOk m c y) (h : ∀ z, getS x z = getS y z) : x.Perm y := by
  have nx := nodup_of_map hx.1
  have ny := nodup_of_map hy.1
  refine (List.perm_ext_iff_of_nodup nx ny).mpr fun e => ?_
  rw [mem_table hx.1, mem_table hy.1, mem_pos hx, mem_pos hy, h e.1]
theorem get_step {n b : Int} {a : List (Str × Int)} {x : Str} (h : TabOk n.toNat b a) (z : Str) :
    getS (stepS n a x) z = if x ∈ a.map (·.1) ∨ (a.length : Int) < n then getS a z + (if x = z then 1 else 0) else if 0 < getS a z then getS a z - 1 else 0 := by
  unfold stepS
  by_cases hc : x ∈ a.map (·.1) ∨ (a.length : Int) < n
  · rw [if_pos hc, if_pos hc]
    by_cases hz : x = z
    · subst hz
      rw [getS_put, if_pos rfl]
    · rw [getS_put_ne a _ (Ne.symm hz), if_neg hz]; omega
  · rw [if_neg hc, if_neg hc, getS_cut h.1]
    by_cases hz : z ∈ a.map (·.1)
    · have hp := (mem_pos h z).mp hz
      rw [if_pos hp]
      split
      · rfl
      · rename_i hn
        have : ¬ getS a z > 1 := fun q => hn ⟨hz, q⟩
        omega
    · have hp : ¬ 0 < getS a z := fun q => hz ((mem_pos h z).mpr q)
      rw [if_neg hp, if_neg (fun q => hz q.1)]
theorem step_tab {n b : Int} {a : List (Str × Int)} {x : Str} (h : TabOk n.toNat b a) (hx : nameS x = true) (hn : 1 ≤ n) : ∃ b', TabOk n.toNat b' (stepS n a x) := by
  rw [(step_arr h hn).1]
  exact arr_tab h hx (Int.le_refl 1) hn
theorem put_len {a : List (Str × Int)} (x : Str) (c : Int) : (putS a x c).length = if x ∈ a.map (·.1) then a.length else a.length + 1 := by
  by_cases h : x ∈ a.map (·.1)
  · rw [if_pos h]
    have e : (a.any fun kv => decide (kv.1 = x)) = true := by
      obtain ⟨y, hy, hn⟩ := List.mem_map.mp h
      exact List.any_eq_true.mpr ⟨y, hy, decide_eq_true hn⟩
    unfold putS
    rw [if_pos e, List.length_map]
  · rw [if_neg h, (putS_new h).1, List.length_append]; rfl
/-! a run is its arrivals one by one -/
theorem cut_cut {f g : Int} (hg : 0 ≤ g) : ∀ a : List (Str × Int), cutP g (cutP f a) = cutP (f + g) a
  | [] => rfl
  | e :: r => by
    have ih := cut_cut (f := f) hg r
    have ec : ∀ (k : Int) (e : Str × Int) (r : List (Str × Int)), cutP k (e :: r) = if e.2 > k then (e.1, e.2 - k) :: cutP k r else cutP k r := fun k e r => by
      unfold cutP
      rw [List.filter_cons]
      split <;> rename_i hh
      · rw [if_pos (of_decide_eq_true hh)]; rfl
      · rw [if_neg (fun z => hh (decide_eq_true z))]
    rw [ec f, ec (f + g)]
    by_cases h1 : e.2 > f
    · rw [if_pos h1, ec g]
      by_cases h2 : e.2 > f + g
      · rw [if_pos h2, if_pos (by show e.2 - f > g; omega), ih]
        show (e.1, e.2 - f - g) :: _ = (e.1, e.2 - (f + g)) :: _
        rw [Int.sub_sub]
      · rw [if_neg h2, if_neg (by show ¬ e.2 - f > g; omega), ih]
    · rw [if_neg h1, if_neg (by omega), ih]
theorem minL_cut {f : Int} {a : List (Str × Int)} (hl : 0 < a.length) (h : f < minL (a.map (·.2))) : minL ((cutP f a).map (·.2)) = minL (a.map (·.2)) - f ∧ (cutP f a).length = a.length ∧ (cutP f a).map (·.1) = a.map (·.1) := by
  have hall : ∀ e ∈ a, e.2 > f := fun e he => by
    have := minL_le (ns := a.map (·.2)) (List.mem_map.mpr ⟨e, he, rfl⟩)
    omega
  have e1 : cutP f a = a.map fun pr => (pr.1, pr.2 - f) := by
    unfold cutP
    rw [List.filter_eq_self.mpr fun e he => decide_eq_true (hall e he)]
  have hm := minL_mem (ns := a.map (·.2)) (by rw [List.length_map]; exact hl)
  obtain ⟨e0, he0, hm0⟩ := List.mem_map.mp hm
  refine ⟨?_, by rw [e1, List.length_map], by rw [e1, List.map_map]; rfl⟩
  refine (minL_eq (m := minL (a.map (·.2)) - f) ?_ fun y hy => ?_).symm
  · rw [e1, List.map_map]
    exact List.mem_map.mpr ⟨e0, he0, by show e0.2 - f = _; rw [hm0]⟩
  · rw [e1, List.map_map] at hy
    obtain ⟨e, he, rfl⟩ := List.mem_map.mp hy
    have := minL_le (ns := a.map (·.2)) (List.mem_map.mpr ⟨e, he, rfl⟩)
    show _ ≤ e.2 - f
    omega
theorem arr_add {n b s t : Int} {a : List (Str × Int)} {x : Str} (h : TabOk n.toNat b a) (hn : 1 ≤ n) (hs : 1 ≤ s) (ht : 1 ≤ t) :
    arrS n a x (s + t) = ((arrS n (arrS n a x s).1 x t).1, (arrS n a x s).2 + (arrS n (arrS n a x s).1 x t).2) := by
  by_cases hc : x ∈ a.map (·.1) ∨ (a.length : Int) < n
  · have e1 : arrS n a x s = (putS a x (getS a x + s), 0) := by unfold arrS; rw [if_pos hc]
    have hin : x ∈ (putS a x (getS a x + s)).map (·.1) := by
      rw [putS_keys]; exact insS_mem.mpr (.inr rfl)
    have e2 : arrS n (putS a x (getS a x + s)) x t = (putS a x (getS a x + s + t), 0) := by
      unfold arrS; rw [if_pos (.inl hin), getS_put, putS_putS]
    have e3 : arrS n a x (s + t) = (putS a x (getS a x + (s + t)), 0) := by unfold arrS; rw [if_pos hc]
    rw [e1, e3]
    show _ = ((arrS n (putS a x (getS a x + s)) x t).1, 0 + (arrS n (putS a x (getS a x + s)) x t).2)
    rw [e2, Int.add_assoc]
    rfl
  · have hx : x ∉ a.map (·.1) := fun z => hc (.inl z)
    have hfull : (a.length : Int) = n := by
      have := h.2.2
      have := fun z => hc (Or.inr z)
      omega
    have hl : 0 < a.length := by omega
    have hm := minL_mem (ns := a.map (·.2)) (by rw [List.length_map]; exact hl)
    obtain ⟨e0, he0, hm0⟩ := List.mem_map.mp hm
    have hm1 : 1 ≤ minL (a.map (·.2)) := by
      have := (h.2.1 e0 he0).2.1
      omega
    have A : ∀ t : Int, arrS n a x t = (if fallS a t < t then putS (cutP (fallS a t) a) x (t - fallS a t) else cutP (fallS a t) a, fallS a t) := fun t => by
      unfold arrS; rw [if_neg hc]
    have F : ∀ t : Int, fallS a t = if minL (a.map (·.2)) < t then minL (a.map (·.2)) else t := fun t => rfl
    by_cases h1 : minL (a.map (·.2)) < s
    · -- it has a counter already
      have fs : fallS a s = minL (a.map (·.2)) := by rw [F, if_pos h1]
      have fst : fallS a (s + t) = minL (a.map (·.2)) := by rw [F, if_pos (by omega)]
      rw [A s, A (s + t), fs, fst, if_pos h1, if_pos (by omega)]
      have hin : x ∈ (putS (cutP (minL (a.map (·.2))) a) x (s - minL (a.map (·.2)))).map (·.1) := by rw [putS_keys]; exact insS_mem.mpr (.inr rfl)
      have e2 : arrS n (putS (cutP (minL (a.map (·.2))) a) x (s - minL (a.map (·.2)))) x t = (putS (cutP (minL (a.map (·.2))) a) x (s - minL (a.map (·.2)) + t), 0) := by
        unfold arrS; rw [if_pos (.inl hin), getS_put, putS_putS]
      show _ = ((arrS n (putS (cutP (minL (a.map (·.2))) a) x (s - minL (a.map (·.2)))) x t).1, minL (a.map (·.2)) + (arrS n (putS (cutP (minL (a.map (·.2))) a) x (s - minL (a.map (·.2)))) x t).2)
      rw [e2]
      have : s + t - minL (a.map (·.2)) = s - minL (a.map (·.2)) + t := by omega
      rw [this]
      show (_, _) = (_, minL (a.map (·.2)) + 0)
      rw [Int.add_zero]
    · have fs : fallS a s = s := by rw [F, if_neg h1]
      rw [A s, fs, if_neg (Int.lt_irrefl s)]
      show _ = ((arrS n (cutP s a) x t).1, s + (arrS n (cutP s a) x t).2)
      have hxc : x ∉ (cutP s a).map (·.1) := fun z => hx ((cut_names _ _).subset z)
      by_cases h2 : s < minL (a.map (·.2))
      · -- still full
        obtain ⟨m1, m2, m3⟩ := minL_cut hl h2
        have hc2 : ¬ (x ∈ (cutP s a).map (·.1) ∨ ((cutP s a).length : Int) < n) := fun z => z.elim hxc (by rw [m2, hfull]; omega)
        have A2 : arrS n (cutP s a) x t = (if fallS (cutP s a) t < t then putS (cutP (fallS (cutP s a) t) (cutP s a)) x (t - fallS (cutP s a) t) else cutP (fallS (cutP s a) t) (cutP s a), fallS (cutP s a) t) := by
          unfold arrS; rw [if_neg hc2]
        have F2 : fallS (cutP s a) t = if minL (a.map (·.2)) - s < t then minL (a.map (·.2)) - s else t := by unfold fallS; rw [m1]
        have fst : fallS a (s + t) = s + fallS (cutP s a) t := by rw [F, F2]; split <;> split <;> omega
        have f0 : 0 ≤ fallS (cutP s a) t := by rw [F2]; split <;> omega
        rw [A (s + t), A2, fst, cut_cut f0]
        have e1 : (s + fallS (cutP s a) t < s + t) ↔ (fallS (cutP s a) t < t) := by omega
        have e2 : s + t - (s + fallS (cutP s a) t) = t - fallS (cutP s a) t := by omega
        rw [e2]
        by_cases h3 : fallS (cutP s a) t < t
        · rw [if_pos (e1.mpr h3), if_pos h3]
        · rw [if_neg (fun z => h3 (e1.mp z)), if_neg h3]
      · -- a counter becomes free
        have hms : minL (a.map (·.2)) = s := by omega
        have hlt : ((cutP s a).length : Int) < n := by
          have := cut_less (f := s) (kvs := a) ⟨e0, he0, by rw [hm0, hms]⟩
          omega
        have e2 : arrS n (cutP s a) x t = (putS (cutP s a) x t, 0) := by
          unfold arrS; rw [if_pos (.inr hlt), getS_new hxc, Int.zero_add]
        have fst : fallS a (s + t) = s := by rw [F, hms, if_pos (by omega)]
        rw [A (s + t), e2, fst, if_pos (by omega)]
        have : s + t - s = t := by omega
        rw [this]
        show (_, _) = (_, s + 0)
        rw [Int.add_zero]
/-- single arrivals -/
def stepsS (n : Int) : List (Str × Int) → List Str → List (Str × Int) × Int
  | a, [] => (a, 0)
  | a, x :: xs => ((stepsS n (arrS n a x 1).1 xs).1, (arrS n a x 1).2 + (stepsS n (arrS n a x 1).1 xs).2)
theorem steps_app {n : Int} : ∀ (xs ys : List Str) (a : List (Str × Int)), stepsS n a (xs ++ ys) = ((stepsS n (stepsS n a xs).1 ys).1, (stepsS n a xs).2 + (stepsS n (stepsS n a xs).1 ys).2)
  | [], ys, a => by simp [stepsS]
  | x :: xs, ys, a => by
    have ih := steps_app (n := n) xs ys (arrS n a x 1).1
    show ((stepsS n (arrS n a x 1).1 (xs ++ ys)).1, (arrS n a x 1).2 + (stepsS n (arrS n a x 1).1 (xs ++ ys)).2) = ((stepsS n (stepsS n (arrS n a x 1).1 xs).1 ys).1, ((arrS n a x 1).2 + (stepsS n (arrS n a x 1).1 xs).2) + (stepsS n (stepsS n (arrS n a x 1).1 xs).1 ys).2)
    rw [ih, Int.add_assoc]
theorem arr_steps {n b : Int} {x : Str} (hn : 1 ≤ n) (hx : nameS x = true) : ∀ (t : Nat) {a : List (Str × Int)} {b : Int}, TabOk n.toNat b a → 1 ≤ t → arrS n a x t = stepsS n a (List.replicate t x)
  | 0, _, _, _, h => by omega
  | 1, a, b, h, _ => by
    show arrS n a x 1 = stepsS n a [x]
    unfold stepsS stepsS
    simp
  | t + 2, a, b, h, _ => by
    obtain ⟨b', h'⟩ := arr_tab h hx (Int.le_refl 1) hn
    have ih := arr_steps (b := b) hn hx (t + 1) h' (by omega)
    have e := arr_add (s := 1) (t := ((t + 1 : Nat) : Int)) (x := x) h hn (Int.le_refl 1) (by omega)
    have ec : ((t + 2 : Nat) : Int) = 1 + ((t + 1 : Nat) : Int) := by omega
    rw [ec, e, ih]
    rfl
def singles (runs : List (Str × Int)) : List Str := runs.flatMap fun r => List.replicate r.2.toNat r.1
theorem play_steps {n : Int} (hn : 1 ≤ n) : ∀ {runs : List (Str × Int)} {a : List (Str × Int)}, (∃ b, TabOk n.toNat b a) → (∀ pr ∈ runs, nameS pr.1 = true ∧ 1 ≤ pr.2) → playS n a runs = stepsS n a (singles runs)
  | [], a, _, _ => rfl
  | r :: rs, a, ⟨b, h⟩, hr => by
    obtain ⟨hx, ht⟩ := hr r (List.mem_cons_self ..)
    have ih := play_steps hn (runs := rs) (arr_tab h hx ht hn) fun pr hp => hr pr (List.mem_cons_of_mem _ hp)
    have e := arr_steps (b := b) hn hx r.2.toNat h (by omega)
    have ec : ((r.2.toNat : Nat) : Int) = r.2 := by omega
    rw [ec] at e
    rw [play_cons, ih, e]
    show _ = stepsS n a (List.replicate r.2.toNat r.1 ++ singles rs)
    rw [steps_app]
/-! a late arrival -/
/-- B is A with one more at y -/
def MoreR (n : Int) (y : Str) (a b : List (Str × Int)) : Prop := (∀ z, getS b z = getS a z + (if y = z then 1 else 0)) ∧ (y ∈ a.map (·.1) ∨ (a.length : Int) < n)
/-- A is full, B is A with each count lower by one -/
def LessR (n : Int) (a b : List (Str × Int)) : Prop := (a.length : Int) = n ∧ ∀ z, getS b z = if 0 < getS a z then getS a z - 1 else 0
theorem MoreR.len {n : Int} {y : Str} {a b : List (Str × Int)} {p q : Int} (h : MoreR n y a b) (ha : TabOk n.toNat p a) (hb : TabOk n.toNat q b) (hy : nameS y = true) (hn : 1 ≤ n) : b.length = if y ∈ a.map (·.1) then a.length else a.length + 1 := by
  have e : b.Perm (stepS n a y) := by
    obtain ⟨b', hs⟩ := step_tab ha hy hn
    refine perm_of_get hb hs fun z => ?_
    rw [h.1 z, get_step ha, if_pos h.2]
  rw [e.length_eq]
  unfold stepS
  rw [if_pos h.2, put_len]
def LateR (n d : Int) (a b : List (Str × Int)) : Prop := (∃ y, nameS y = true ∧ MoreR n y a b ∧ d = 0) ∨ (LessR n a b ∧ d = 1)
theorem get_nn {n : Nat} {b : Int} {a : List (Str × Int)} (h : TabOk n b a) (z : Str) : 0 ≤ getS a z := getS_nn (fun pr hp => by have := (h.2.1 pr hp).2.1; omega) z
theorem late_step {n d p q : Int} {a b : List (Str × Int)} {z : Str} (hn : 1 ≤ n) (ha : TabOk n.toNat p a) (hb : TabOk n.toNat q b) (hz : nameS z = true) (h : LateR n d a b) :
    LateR n (d + (arrS n b z 1).2 - (arrS n a z 1).2) (stepS n a z) (stepS n b z) := by
  obtain ⟨sa, ra⟩ := step_arr (x := z) ha hn
  obtain ⟨sb, rb⟩ := step_arr (x := z) hb hn
  rw [ra, rb]
  have ga := get_step (x := z) ha
  have gb := get_step (x := z) hb
  have la := ha.2.2
  have lb := hb.2.2
  have na := get_nn ha
  have nb := get_nn hb
  rcases h with ⟨y, hy, hm, rfl⟩ | ⟨hl, rfl⟩
  · have hlen := hm.len ha hb hy hn
    have mb : ∀ w, w ∈ b.map (·.1) ↔ (w ∈ a.map (·.1) ∨ w = y) := fun w => by
      rw [mem_pos hb, mem_pos ha, hm.1 w]
      have := na w
      constructor
      · intro g
        by_cases e : w = y
        · exact .inr e
        · rw [if_neg (fun z => e z.symm)] at g; exact .inl (by omega)
      · rintro (g | g)
        · split <;> omega
        · rw [if_pos g.symm]; omega
    by_cases hza : z ∈ a.map (·.1)
    · -- both count it
      have hzb := (mb z).mpr (.inl hza)
      rw [if_pos (Or.inl hza), if_pos (Or.inl hzb)]
      refine .inl ⟨y, hy, ⟨fun w => ?_, ?_⟩, by omega⟩
      · rw [gb, ga, if_pos (Or.inl hza), if_pos (Or.inl hzb), hm.1 w]; omega
      · rcases hm.2 with g | g
        · left
          obtain ⟨b', ht⟩ := step_tab ha hz hn
          rw [mem_pos ht, ga, if_pos (Or.inl hza)]
          have := (mem_pos ha y).mp g
          split <;> omega
        · right
          unfold stepS
          rw [if_pos (Or.inl hza), put_len, if_pos hza]; exact g
    · by_cases hfa : (a.length : Int) < n
      · rw [if_pos (Or.inr hfa)]
        by_cases hzy : z = y
        · subst hzy
          have hzb := (mb z).mpr (.inr rfl)
          rw [if_pos (Or.inl hzb)]
          refine .inl ⟨z, hy, ⟨fun w => ?_, ?_⟩, by omega⟩
          · rw [gb, ga, if_pos (Or.inr hfa), if_pos (Or.inl hzb), hm.1 w]
          · left
            obtain ⟨b', ht⟩ := step_tab ha hz hn
            rw [mem_pos ht, ga, if_pos (Or.inr hfa), if_pos rfl]
            have := na z
            omega
        · have hzb : z ∉ b.map (·.1) := fun g => ((mb z).mp g).elim hza hzy
          by_cases hfb : (b.length : Int) < n
          · rw [if_pos (Or.inr hfb)]
            refine .inl ⟨y, hy, ⟨fun w => ?_, ?_⟩, by omega⟩
            · rw [gb, ga, if_pos (Or.inr hfa), if_pos (Or.inr hfb), hm.1 w]; omega
            · by_cases hya : y ∈ a.map (·.1)
              · left
                obtain ⟨b', ht⟩ := step_tab ha hz hn
                rw [mem_pos ht, ga, if_pos (Or.inr hfa)]
                have := (mem_pos ha y).mp hya
                split <;> omega
              · right
                rw [if_neg hya] at hlen
                unfold stepS
                rw [if_pos (Or.inr hfa), put_len, if_neg hza]
                push_cast
                omega
          · -- the late one falls with the reduction
            rw [if_neg (not_or.mpr ⟨hzb, hfb⟩)]
            have hya : y ∉ a.map (·.1) := fun g => by rw [if_pos g] at hlen; omega
            rw [if_neg hya] at hlen
            have hy0 : getS a y = 0 := getS_new hya
            refine .inr ⟨⟨?_, fun w => ?_⟩, by omega⟩
            · unfold stepS
              rw [if_pos (Or.inr hfa), put_len, if_neg hza]
              push_cast
              omega
            · rw [gb, ga, if_pos (Or.inr hfa), if_neg (not_or.mpr ⟨hzb, hfb⟩), hm.1 w]
              have := na w
              have hz0 : getS a z = 0 := getS_new hza
              by_cases hwy : y = w
              · subst hwy
                rw [if_pos rfl, if_neg hzy, hy0]; decide
              · rw [if_neg hwy]
                by_cases hwz : z = w
                · subst hwz
                  rw [if_pos rfl, hz0]; decide
                · rw [if_neg hwz, Int.add_zero]
      · -- full: both are reduced
        have hya : y ∈ a.map (·.1) := hm.2.resolve_right hfa
        rw [if_pos hya] at hlen
        have hzy : z ≠ y := fun e => hza (e ▸ hya)
        have hzb : z ∉ b.map (·.1) := fun g => ((mb z).mp g).elim hza hzy
        have hfb : ¬ (b.length : Int) < n := by omega
        rw [if_neg (not_or.mpr ⟨hza, hfa⟩), if_neg (not_or.mpr ⟨hzb, hfb⟩)]
        have hy1 := (mem_pos ha y).mp hya
        refine .inl ⟨y, hy, ⟨fun w => ?_, ?_⟩, by omega⟩
        · rw [gb, ga, if_neg (not_or.mpr ⟨hza, hfa⟩), if_neg (not_or.mpr ⟨hzb, hfb⟩), hm.1 w]
          have := na w
          by_cases hwy : y = w
          · subst hwy
            rw [if_pos rfl]
            (repeat' split) <;> omega
          · rw [if_neg hwy, Int.add_zero]; omega
        · by_cases h1 : getS a y = 1
          · right
            have hcl : (stepS n a z).length < a.length := by
              unfold stepS
              rw [if_neg (not_or.mpr ⟨hza, hfa⟩)]
              obtain ⟨e, he, hey⟩ := List.mem_map.mp hya
              refine cut_less ⟨e, he, ?_⟩
              rw [← getS_mem ha.1 e he, hey, h1]
            omega
          · left
            obtain ⟨b', ht⟩ := step_tab ha hz hn
            rw [mem_pos ht, ga, if_neg (not_or.mpr ⟨hza, hfa⟩), if_pos hy1]
            omega
  · obtain ⟨hfull, hg⟩ := hl
    have hbc : b.Perm (cutP 1 a) := by
      refine perm_of_get hb (ha.cut (by decide : (0 : Int) ≤ 1)) fun w => ?_
      rw [hg w, getS_cut ha.1]
      by_cases hw : w ∈ a.map (·.1)
      · have := (mem_pos ha w).mp hw
        rw [if_pos this]
        split
        · rfl
        · rename_i g
          have : ¬ getS a w > 1 := fun q => g ⟨hw, q⟩
          omega
      · rw [if_neg (fun g => hw ((mem_pos ha w).mpr g)), if_neg (fun g => hw g.1)]
    have hfa : ¬ (a.length : Int) < n := by omega
    by_cases hza : z ∈ a.map (·.1)
    · rw [if_pos (Or.inl hza)]
      have hz1 := (mem_pos ha z).mp hza
      have hroom : z ∈ b.map (·.1) ∨ (b.length : Int) < n := by
        by_cases h1 : getS a z = 1
        · right
          obtain ⟨e, he, hez⟩ := List.mem_map.mp hza
          have := cut_less (f := 1) (kvs := a) ⟨e, he, by rw [← getS_mem ha.1 e he, hez, h1]⟩
          rw [hbc.length_eq]
          omega
        · left
          rw [mem_pos hb, hg z, if_pos hz1]
          omega
      rw [if_pos hroom]
      refine .inr ⟨⟨?_, fun w => ?_⟩, by omega⟩
      · unfold stepS
        rw [if_pos (Or.inl hza), put_len, if_pos hza]; exact hfull
      · rw [gb, ga, if_pos (Or.inl hza), if_pos hroom, hg w]
        have := na w
        by_cases hwz : z = w
        · subst hwz
          rw [if_pos rfl, if_pos hz1, if_pos (by omega)]; omega
        · rw [if_neg hwz, Int.add_zero, Int.add_zero]
    · rw [if_neg (not_or.mpr ⟨hza, hfa⟩)]
      have hz0 : getS a z = 0 := getS_new hza
      have hzb : z ∉ b.map (·.1) := fun g => by
        have := (mem_pos hb z).mp g
        rw [hg z, hz0] at this
        simp at this
      have hsa : (stepS n a z).length = b.length := by
        unfold stepS
        rw [if_neg (not_or.mpr ⟨hza, hfa⟩), hbc.length_eq]
      have ga' : ∀ w, getS (stepS n a z) w = getS b w := fun w => by
        rw [ga, if_neg (not_or.mpr ⟨hza, hfa⟩), hg w]
      by_cases hfb : (b.length : Int) < n
      · rw [if_pos (Or.inr hfb)]
        refine .inl ⟨z, hz, ⟨fun w => ?_, ?_⟩, by omega⟩
        · rw [gb, ga' w, if_pos (Or.inr hfb)]
        · right; rw [hsa]; exact hfb
      · rw [if_neg (not_or.mpr ⟨hzb, hfb⟩)]
        refine .inr ⟨⟨by rw [hsa]; omega, fun w => ?_⟩, by omega⟩
        rw [gb, ga' w, if_neg (not_or.mpr ⟨hzb, hfb⟩)]
theorem late_steps {n : Int} (hn : 1 ≤ n) : ∀ {xs : List Str} {a b : List (Str × Int)} {d p q : Int}, TabOk n.toNat p a → TabOk n.toNat q b → (∀ x ∈ xs, nameS x = true) → LateR n d a b →
    LateR n (d + (stepsS n b xs).2 - (stepsS n a xs).2) (stepsS n a xs).1 (stepsS n b xs).1
  | [], a, b, d, p, q, _, _, _, h => by
    show LateR n (d + 0 - 0) a b
    have : d + 0 - 0 = d := by omega
    rw [this]; exact h
  | x :: xs, a, b, d, p, q, ha, hb, hx, h => by
    have h1 := late_step (z := x) hn ha hb (hx x (List.mem_cons_self ..)) h
    rw [(step_arr ha hn).1, (step_arr hb hn).1] at h1
    obtain ⟨p', ha'⟩ := arr_tab ha (hx x (List.mem_cons_self ..)) (Int.le_refl 1) hn
    obtain ⟨q', hb'⟩ := arr_tab hb (hx x (List.mem_cons_self ..)) (Int.le_refl 1) hn
    have h2 := late_steps hn ha' hb' (fun y hy => hx y (List.mem_cons_of_mem _ hy)) h1
    show LateR n (d + ((arrS n b x 1).2 + (stepsS n (arrS n b x 1).1 xs).2) - ((arrS n a x 1).2 + (stepsS n (arrS n a x 1).1 xs).2)) _ _
    have e : d + ((arrS n b x 1).2 + (stepsS n (arrS n b x 1).1 xs).2) - ((arrS n a x 1).2 + (stepsS n (arrS n a x 1).1 xs).2) = d + (arrS n b x 1).2 - (arrS n a x 1).2 + (stepsS n (arrS n b x 1).1 xs).2 - (stepsS n (arrS n a x 1).1 xs).2 := by omega
    rw [e]
    exact h2
theorem late_begin {n p : Int} {a : List (Str × Int)} {x : Str} (hn : 1 ≤ n) (ha : TabOk n.toNat p a) (hx : nameS x = true) : LateR n (arrS n a x 1).2 a (arrS n a x 1).1 := by
  obtain ⟨sa, ra⟩ := step_arr (x := x) ha hn
  have ga := get_step (x := x) ha
  rw [← sa, ra]
  by_cases hc : x ∈ a.map (·.1) ∨ (a.length : Int) < n
  · rw [if_pos hc]
    exact .inl ⟨x, hx, ⟨fun w => by rw [ga, if_pos hc], hc⟩, rfl⟩
  · rw [if_neg hc]
    refine .inr ⟨⟨?_, fun w => by rw [ga, if_neg hc]⟩, rfl⟩
    have := ha.2.2
    have := fun g => hc (.inr g)
    omega
/-- an order with one arrival more, at any place -/
theorem late_play {n p : Int} {a r s : List (Str × Int)} {x : Str} (hn : 1 ≤ n) (ha : TabOk n.toNat p a) (hx : nameS x = true) (hr : ∀ pr ∈ r, nameS pr.1 = true ∧ 1 ≤ pr.2) (hs : ∀ pr ∈ s, nameS pr.1 = true ∧ 1 ≤ pr.2) :
    LateR n ((playS n a (r ++ (x, 1) :: s)).2 - (playS n a (r ++ s)).2) (playS n a (r ++ s)).1 (playS n a (r ++ (x, 1) :: s)).1 := by
  obtain ⟨p', ha'⟩ := play_tab ha hn hr r.length (Nat.le_refl _)
  rw [List.take_length] at ha'
  obtain ⟨p2, hb'⟩ := arr_tab ha' hx (Int.le_refl 1) hn
  rw [play_app, play_app, play_cons]
  have h0 := late_begin hn ha' hx
  have hxs : ∀ y ∈ singles s, nameS y = true := fun y hy => by
    obtain ⟨pr, hp, hy⟩ := List.mem_flatMap.mp hy
    rw [(List.mem_replicate.mp hy).2]; exact (hs pr hp).1
  have h1 := late_steps hn ha' hb' hxs h0
  rw [← play_steps hn ⟨_, ha'⟩ hs, ← play_steps hn ⟨_, hb'⟩ hs] at h1
  show LateR n (((playS n a r).2 + ((arrS n (playS n a r).1 x 1).2 + (playS n (arrS n (playS n a r).1 x 1).1 s).2)) - ((playS n a r).2 + (playS n (playS n a r).1 s).2)) _ _
  have e : ((playS n a r).2 + ((arrS n (playS n a r).1 x 1).2 + (playS n (arrS n (playS n a r).1 x 1).1 s).2)) - ((playS n a r).2 + (playS n (playS n a r).1 s).2) = (arrS n (playS n a r).1 x 1).2 + (playS n (arrS n (playS n a r).1 x 1).1 s).2 - (playS n (playS n a r).1 s).2 := by omega
  rw [e]
  exact h1
end LW
set_option Elab.async false
set_option linter.all false
set_option autoImplicit false
set_option maxRecDepth 100000
set_option maxHeartbeats 4000000
/-! DL29: for k, v in d.items(), d standing still. -/
namespace DL
open PySem PySem.Spec PyProof.Rows L2
theorem rpk_at {K : PySem.W.Frag} {G : Hp} : ∀ {ks : List (Key × V)} {kvs : List (Key × D)} {i : Nat} {k : Key} {v : V}, RpK K G ks kvs → ks[i]? = some (k, v) → ∃ d, kvs[i]? = some (k, d) ∧ Rp K G v d
  | [], [], i, k, v, _, h => by simp at h
  | (a, x) :: r, (b, y) :: s, 0, k, v, ⟨e, hr, _⟩, h => by
    simp only [List.getElem?_cons_zero, Option.some.injEq, Prod.mk.injEq] at h
    obtain ⟨rfl, rfl⟩ := h
    subst e
    exact ⟨y, rfl, hr⟩
  | (a, x) :: r, (b, y) :: s, i + 1, k, v, ⟨_, _, t⟩, h => by
    obtain ⟨d, h1, h2⟩ := rpk_at (i := i) (k := k) (v := v) t (by simpa using h)
    exact ⟨d, by simpa using h1, h2⟩
  | [], _ :: _, _, _, _, h, _ => h.elim
  | _ :: _, [], _, _, _, h, _ => h.elim
section
variable {K : PySem.W.Frag} {W : XK} {δ : Dlt} {w : Wl} {P : PD} {Z : ZD} {ta tb te td ty : TE} {tt : TT} {ts tu : TS} {g : TG}
theorem sd_lockItems {nx : Dlt → Wl → Prop} {rt : PD} {bk ct : Dlt → Wl → Prop} {i : Nat} {l : Addr} {kvs : List (Key × D)} (hv : δ[i]? = some (some (.ptr l))) (hw : w l = some (.dK kvs))
    (h : ∀ c : Cl, IsF c kvs → ∃ I : Nat → Dlt → Wl → Prop, I 0 δ (put w l c) ∧
      (∀ (ix : Nat) (k : Key) (d : D) (δ' : Dlt) (w' : Wl), kvs[ix]? = some (k, d) → w' l = some c → I ix δ' w' → Gd K W g (.tup [kD k, d]) δ' w' (fun δ2 w2 => Sd K W ts δ2 w2 ⟨fun δ3 w3 => w3 l = some c ∧ I (ix + 1) δ3 w3, fun d w3 => w3 l = some c ∧ rt d (put w3 l (.dK kvs)), fun δ3 w3 => w3 l = some c ∧ nx δ3 (put w3 l (.dK kvs)), fun δ3 w3 => w3 l = some c ∧ I (ix + 1) δ3 w3, z0⟩) z0) ∧
      (∀ δ' w', w' l = some c → I kvs.length δ' w' → nx δ' (put w' l (.dK kvs)))) : Sd K W (tLock (tFor (iItems (tVar i)) g ts)) δ w ⟨nx, rt, bk, ct, z0⟩ := by
  intro σ H s Dn ke
  obtain ⟨v0, s1, s2⟩ := s.sl i _ hv
  cases s2
  obtain ⟨ks, g1, g2⟩ := s.ce l _ hw
  refine ⟨l, .dK ks, g1, True.intro, fun od => ?_⟩
  obtain ⟨I, i0, it, iN⟩ := h (.dF od ks kvs) ⟨od, ks, rfl⟩
  obtain ⟨e1, c1⟩ := putF_ok (o := od) s.ce hw g2
  have back : ∀ {σ' : L2.St} {H' : Hp} {δ' : Dlt} {w' : Wl}, w' l = some (.dF od ks kvs) → Ex (msk w H) (msk w' H') → Sat K σ' H' δ' w' → H' l = some (.frz od (.dK ks)) ∧ Ex (msk w H) (msk (put w' l (.dK kvs)) (upd H' l (.dK ks))) ∧ Sat K σ' (upd H' l (.dK ks)) δ' (put w' l (.dK kvs)) := fun {σ' H' δ' w'} hl e' s' => by
    obtain ⟨q1, q2⟩ := s'.ce l _ hl
    obtain ⟨e4, c4⟩ := putK_ok (o := .dK ks) s'.ce hl q2
    exact ⟨q1, e'.trans e4, s'.next e4 c4⟩
  have len := rpk_len g2
  refine ⟨.ref l, s1, l, od, ks, rfl, upd_same, ?_⟩
  refine ⟨fun ix m σ' H' => m = ks.length - ix ∧ ix ≤ ks.length ∧ ∃ δ' w', w' l = some (.dF od ks kvs) ∧ Ex (msk w H) (msk w' H') ∧ Sat K σ' H' δ' w' ∧ I ix δ' w', ⟨ks.length, by simp, Nat.zero_le _, δ, _, put_same, e1, s.next e1 c1, i0⟩, ?_⟩
  rintro ix m σ' H' ⟨rfl, hix, δ', w', hl, e', s', p⟩
  obtain ⟨q1, e2, s2⟩ := back hl e' s'
  by_cases hlt : ix < ks.length
  · refine .inr ⟨⟨q1, hlt⟩, fun σ2 H2 => ∃ δ2 w2, w2 l = some (.dF od ks kvs) ∧ Ex (msk w H) (msk w2 H2) ∧ Sat K σ2 H2 δ2 w2 ∧ I (ix + 1) δ2 w2, fun σ2 H2 h2 => ⟨ks.length - (ix + 1), by omega, rfl, hlt, h2⟩, ?_⟩
    rintro x H2 ⟨T, k0, v, hk, rfl, hT, rfl⟩
    obtain ⟨q1, q2⟩ := s'.ce l _ hl
    obtain ⟨d0, hk', rv⟩ := rpk_at q2 hk
    obtain ⟨en, cn, hn⟩ := mk_new (o := .tup [kV k0, v]) s'.ce hT
    have r0 : Rp K (msk w' (upd H' T (.tup [kV k0, v]))) (.ref T) (.tup [kD k0, d0]) := .tup (.inl (.inl hn)) (.cons (rp_kV k0) (.cons (rv.mono en) .nil))
    refine it ix k0 d0 δ' w' hk' hl p (.ref T) σ' _ r0 (s'.next en cn) _ (fun σ3 H3 δ3 w3 e3 s3 k => ?_) Kz.zero
    have e'' := (e'.trans en).trans e3
    refine k σ3 H3 s3 _ ⟨fun σ4 H4 δ4 w4 e4 s4 ⟨k4, k5⟩ => ⟨δ4, w4, k4, e''.trans e4, s4, k5⟩, fun v4 H4 d4 w4 e4 c4 r4 ⟨k4, k5⟩ => ?_, fun σ4 H4 δ4 w4 e4 s4 ⟨k4, k5⟩ => ?_, fun σ4 H4 δ4 w4 e4 s4 ⟨k4, k5⟩ => ⟨δ4, w4, k4, e''.trans e4, s4, k5⟩, Kz.zero⟩
    · obtain ⟨q4, q5⟩ := c4 l _ k4
      obtain ⟨e6, c6⟩ := putK_ok (o := .dK ks) c4 k4 q5
      exact ⟨q4, ke.rt v4 _ d4 _ ((e''.trans e4).trans e6) c6 (r4.mono e6) k5⟩
    · obtain ⟨q4, e5, s5⟩ := back k4 (e''.trans e4) s4
      exact ⟨q4, ke.nx σ4 _ δ4 _ e5 s5 k5⟩
  · have e : ix = ks.length := by omega
    subst e
    refine .inl ⟨⟨q1, Nat.le_refl _⟩, ?_⟩
    exact ⟨q1, ke.nx σ' _ δ' _ e2 s2 (iN δ' w' hl (by rw [← len]; exact p))⟩
end
end DL
set_option Elab.async false
set_option linter.all false
set_option autoImplicit false
set_option maxRecDepth 100000
set_option maxHeartbeats 4000000
/-! BX: what late_change tells. -/
namespace LW
open PySem PySem.Spec PyProof.Rows L2 DL
def okIdx : List D → Prop | [.int i, .int m] => 0 ≤ i ∧ i ≤ m | _ => False
def lateR (runs : List (Str × Int)) (k : Int) (nm : Str) : List (Str × Int) := runs.take k.toNat ++ (nm, 1) :: runs.drop k.toNat
def LateD (c : Int) (A B : List (Str × Int)) (dl : Int) (d : D) : Prop :=
  (∃ y, nameS y = true ∧ d = .tup [.str ("more" : Str), .str y] ∧ MoreR c y A B ∧ dl = 0) ∨ (d = .tup [.str ("less" : Str)] ∧ LessR c A B ∧ dl = 1)
def preLate (C : Addr) (ds : List D) (_ : Wl) : Prop := ∃ (c : Int) (prs runs : List (Str × Int)) (k : Int) (nm : Str), ds = [.ins C (sumFsB c prs), .tup (runs.map prD), .int k, .str nm] ∧ SumX c prs ∧ PathX runs ∧ 0 ≤ k ∧ k ≤ runs.length ∧ nameS nm = true
def postLate (C : Addr) (ds : List D) (w : Wl) (d : D) (w' : Wl) : Prop := Keep w w' ∧ ∀ (c : Int) (prs runs : List (Str × Int)) (k : Int) (nm : Str), ds = [.ins C (sumFsB c prs), .tup (runs.map prD), .int k, .str nm] →
  LateD c (playS c prs runs).1 (playS c prs (lateR runs k nm)).1 ((playS c prs (lateR runs k nm)).2 - (playS c prs runs).2) d
theorem late_inj {C : Addr} {c c' k k' : Int} {p p' q q' : List (Str × Int)} {n n' : Str} (e : [D.ins C (sumFsB c p), .tup (q.map prD), .int k, .str n] = [D.ins C (sumFsB c' p'), .tup (q'.map prD), .int k', .str n']) : c = c' ∧ p = p' ∧ q = q' ∧ k = k' ∧ n = n' := by
  injection e with e1 e
  injection e with e2 e
  injection e with e3 e
  injection e with e4 e
  injection e3 with e3
  injection e4 with e4
  obtain ⟨h1, h2, h3⟩ := play_inj (C := C) (c := c) (c' := c') (p := p) (p' := p') (q := q) (q' := q') (by rw [e1, e2])
  exact ⟨h1, h2, h3, e3, e4⟩
theorem lateR_all {runs : List (Str × Int)} {k : Int} {nm : Str} (h : ∀ pr ∈ runs, nameS pr.1 = true ∧ 1 ≤ pr.2) (hn : nameS nm = true) : ∀ pr ∈ lateR runs k nm, nameS pr.1 = true ∧ 1 ≤ pr.2 := fun pr hp => by
  unfold lateR at hp
  rcases List.mem_append.mp hp with hp | hp
  · exact h pr (List.mem_of_mem_take hp)
  · rcases List.mem_cons.mp hp with rfl | hp
    · exact ⟨hn, Int.le_refl 1⟩
    · exact h pr (List.mem_of_mem_drop hp)
theorem late_ok {c : Int} {prs runs : List (Str × Int)} {k : Int} {nm : Str} (hs : SumX c prs) (h : ∀ pr ∈ runs, nameS pr.1 = true ∧ 1 ≤ pr.2) (hn : nameS nm = true) :
    LateR c ((playS c prs (lateR runs k nm)).2 - (playS c prs runs).2) (playS c prs runs).1 (playS c prs (lateR runs k nm)).1 := by
  obtain ⟨b, ht⟩ := hs.tab
  have e := late_play (r := runs.take k.toNat) (s := runs.drop k.toNat) hs.1 ht hn (fun pr hp => h pr (List.mem_of_mem_take hp)) (fun pr hp => h pr (List.mem_of_mem_drop hp))
  rw [List.take_append_drop] at e
  exact e
/-- one entry of the later table stands above the earlier one -/
theorem late_hit {n d p q cnt : Int} {a b : List (Str × Int)} {z : Str} (ha : TabOk n.toNat p a) (hb : TabOk n.toNat q b) (h : LateR n d a b) (hz : (z, cnt) ∈ b) (hg : cnt > getS a z) : LateD n a b d (.tup [.str ("more" : Str), .str z]) := by
  have e := getS_mem hb.1 _ hz
  have nn := get_nn ha z
  rcases h with ⟨y, hy, hm, hd⟩ | ⟨hl, hd⟩
  · by_cases hyz : y = z
    · subst hyz; exact .inl ⟨y, hy, rfl, hm, hd⟩
    · have := hm.1 z
      rw [if_neg hyz, e] at this
      change cnt = _ at this
      omega
  · have := hl.2 z
    rw [e] at this
    change cnt = _ at this
    split at this <;> omega
theorem late_miss {n d p q : Int} {a b : List (Str × Int)} (ha : TabOk n.toNat p a) (hb : TabOk n.toNat q b) (h : LateR n d a b) (hg : ∀ e ∈ b, ¬ e.2 > getS a e.1) : LateD n a b d (.tup [.str ("less" : Str)]) := by
  rcases h with ⟨y, hy, hm, hd⟩ | ⟨hl, hd⟩
  · have e := hm.1 y
    rw [if_pos rfl] at e
    have nn := get_nn ha y
    have hin := (mem_pos hb y).mpr (by omega)
    obtain ⟨x, hx, hxy⟩ := List.mem_map.mp hin
    have := getS_mem hb.1 x hx
    rw [hxy] at this
    have := hg x hx
    rw [hxy] at this
    omega
  · exact .inr ⟨rfl, hl, hd⟩
theorem play_tabX {c : Int} {prs runs : List (Str × Int)} (hs : SumX c prs) (h : ∀ pr ∈ runs, nameS pr.1 = true ∧ 1 ≤ pr.2) : ∃ b, TabOk c.toNat b (playS c prs runs).1 := by
  obtain ⟨b, ht⟩ := hs.tab
  obtain ⟨b', h'⟩ := play_tab ht hs.1 h runs.length (Nat.le_refl _)
  rw [List.take_length] at h'
  exact ⟨b', h'⟩
theorem lateR_map {runs : List (Str × Int)} {k : Int} {nm : Str} : (runs.map prD).take k.toNat ++ D.tup [.str nm, .int 1] :: (runs.map prD).drop k.toNat = (lateR runs k nm).map prD := by
  unfold lateR
  rw [List.map_append, List.map_take, List.map_cons, List.map_drop]
/-- with one more name the order stays one -/
theorem PathX.late {xs : List Str} {b : Int} {runs : List (Str × Int)} {k : Int} {nm : Str} (h : RunsB b xs runs) (hx : xs.length ≤ 12) (hl : runs.length < 1000) (hn : nameS nm = true) (hm : nm ∈ xs) (hb : 1 ≤ b) : RunsB b xs (lateR runs k nm) ∧ PathX (lateR runs k nm) := by
  have h2 : RunsB b xs (lateR runs k nm) := fun pr hp => by
    unfold lateR at hp
    rcases List.mem_append.mp hp with hp | hp
    · exact h pr (List.mem_of_mem_take hp)
    · rcases List.mem_cons.mp hp with rfl | hp
      · exact ⟨hm, hn, Int.le_refl 1, hb⟩
      · exact h pr (List.mem_of_mem_drop hp)
  refine ⟨h2, xs, b, hx, h2, ?_⟩
  unfold lateR
  rw [List.length_append, List.length_cons, List.length_take, List.length_drop]
  omega
end LW
set_option Elab.async false
set_option linter.all false
set_option autoImplicit false
set_option maxRecDepth 100000
set_option maxHeartbeats 4000000
/-! DL30: dict of a list of pairs; [f(k) for k in d if b(k)], d standing still. -/
namespace DL
open PySem PySem.Spec PyProof.Rows L2
def rDictL (K : PySem.W.Frag) : List V → Hp → VK → Prop := fun xs H Q => ∃ (a : Addr) (ps : List Addr) (kvs : List (Key × V)), xs = [.ref a] ∧ SqL K H a (ps.map V.ref) ∧ Paired (fun p kv => SqT K H p [kV kv.1, kv.2]) ps kvs ∧
  ∀ p, H p = none → Q (.ref p) (upd H p (.dK (mergeK [] kvs)))
section
variable {X : Cx} {K : PySem.W.Frag} {e : Expr} {es : List Expr} {t : TA} {p pos : Pos}
theorem q_dictL (hK : X.K = K) (hc : X.calm = true) (m : X.mg "dict" = none) (hg : Gl X "dict") (ha : PA X (e :: es) t) (he : starEach (e :: es) X.env = (false, eval e X.env) :: starEach es X.env := by rfl) (hpl : (backTo pos (starEach es X.env)).any (·.1) = false := by rfl) :
    PE X (.Call (.Name "dict" p) (e :: es) [] pos) (tCB (rDictL K) t) := by subst hK; exact pe_callTy (call_dictP hc) hg m (by decide +kernel) ha (by decide) (by decide) he hpl
end
section
variable {K : PySem.W.Frag} {W : XK} {δ : Dlt} {w : Wl} {P : PD} {Z : ZD} {ta tb te td ty : TE} {tt : TT} {ts tu : TS} {g : TG}
theorem ol_dictL {prs : List (Str × Int)} (hn : (prs.map (·.1)).Nodup) (k : ∀ p, w p = none → P (.ptr p) (put w p (.dK (prs.map entD)))) : OpL K (rDictL K) [.lst (prs.map prD)] w P := by
  intro vs H h1 c Q q
  cases h1 with
  | cons h t =>
    cases t
    cases h with
    | @lst a xs _ hs hr =>
      obtain ⟨ps, rfl, hp⟩ := refs_prs hr
      have hk : ((prs.map KS.entK).map (·.1)).Nodup := by
        rw [List.map_map]
        have e : ((fun kv : Key × V => kv.1) ∘ KS.entK) = fun pr : Str × Int => (Sum.inr pr.1 : Key) := rfl
        rw [e]
        exact List.pairwise_map.mpr ((List.pairwise_map.mp hn).imp fun h z => h (Sum.inr.inj z))
      refine ⟨a, ps, prs.map KS.entK, rfl, SqL.of (msk_some hs).2, paired_imp (fun _ _ z => ex_t Ex.msk z) hp, fun p np => ?_⟩
      rw [merge_fresh _ [] (by simpa using hk), List.nil_append]
      obtain ⟨e, c'⟩ := ownK_ok c (rpk_of_prs prs) np
      exact q _ _ _ _ e c' (.ptr p) (k p (c.free np))
/-- each entry's test and element known -/
theorem ev_lockFil {f : Key → D → D} {b : Key → D → Bool} {i j : Nat} {l : Addr} {kvs : List (Key × D)} (hv : δ[i]? = some (some (.ptr l))) (hw : w l = some (.dK kvs)) (hg : GLoc (gName j) [j] ∧ GMon (gName j)) (hz : kvs.length < sizeLine)
    (h : ∀ c : Cl, IsF c kvs → ∀ (w' : Wl) (ix : Nat) (k : Key) (d : D), kvs[ix]? = some (k, d) → w' l = some c → EvT K W tt ((wipeD δ [j]).set j (some (kD k))) w' (fun bb w3 => bb = b k d ∧ w3 = w') z0)
    (h2 : ∀ c : Cl, IsF c kvs → ∀ (w' : Wl) (ix : Nat) (k : Key) (d : D), kvs[ix]? = some (k, d) → w' l = some c → b k d = true → Ev K W te ((wipeD δ [j]).set j (some (kD k))) w' (fun y w4 => w4 = w' ∧ y = f k d) z0)
    (k : P (.lst ((kvs.filter fun e => b e.1 e.2).map fun e => f e.1 e.2)) w) : Ev K W (tLockE (tLc (iKeys (tVar i)) (gName j) tt te [j])) δ w P z0 := by
  refine ev_lockLc hg hv hw fun c hc q nq hq => ⟨fun ix acc w' => acc = ((kvs.take ix).filter fun e => b e.1 e.2).map (fun e => f e.1 e.2) ∧ w' = put (put w l c) q (.lst acc), ⟨by simp, rfl⟩, ?_, ?_⟩
  · rintro ix k0 d0 acc w' hk hl hwq ⟨ha, rfl⟩
    have hi : ix < kvs.length := (List.getElem?_eq_some_iff.mp hk).1
    refine gd_name ((h c hc _ ix k0 d0 hk hl).imp fun bb w3 ⟨hb, hw3⟩ => ?_)
    subst hb; subst hw3
    cases hbb : b k0 d0 with
    | true =>
      rw [if_pos rfl]
      refine (h2 c hc _ ix k0 d0 hk hl hbb).imp fun y w4 ⟨hw4, hy⟩ => ?_
      subst hw4; subst hy
      refine ⟨hl, hwq, ?_, ?_, put_put⟩
      · rw [ha, List.length_map]
        refine Nat.lt_of_le_of_lt (List.length_filter_le ..) ?_
        rw [List.length_take]; omega
      · rw [ha, List.take_add_one, hk]
        simp [List.filter_append, hbb]
    | false =>
      rw [if_neg (by decide)]
      refine ⟨hl, hwq, ?_, ?_⟩
      · rw [ha, List.take_add_one, hk]
        simp [List.filter_append, hbb]
      · rfl
  · rintro acc w' hl hwq ⟨ha, rfl⟩
    have e : cut (put (put (put w l c) q (.lst acc)) l (.dK kvs)) q = w := by
      funext b
      unfold cut put
      by_cases hb : b = q
      · rw [if_pos hb, hb]; exact hq.symm
      · rw [if_neg hb]
        by_cases hbl : b = l
        · rw [if_pos hbl, hbl]; exact hw.symm
        · rw [if_neg hbl, if_neg hb, if_neg hbl]
    rw [e, ha, List.take_length]
    exact k
end
end DL
set_option Elab.async false
set_option linter.all false
set_option autoImplicit false
set_option maxRecDepth 100000
set_option maxHeartbeats 4000000
/-! BY: late arrivals in turn. -/
namespace LW
open PySem PySem.Spec PyProof.Rows L2 DL
/-- a path with its bound -/
def postPathM (ds : List D) (w : Wl) (d : D) (w' : Wl) : Prop := ∀ p xs k m, ds = [.ptr p, .lst (xs.map D.str), .int k, .int m] → Pm w p w' ∧ ∃ prs : List (Str × Int), d = .tup (prs.map prD) ∧ RunsB (if m = 0 then 10 ^ 30 else m) xs prs ∧ (prs.length : Int) ≤ k
section
variable {K : PySem.W.Frag} {W : XK} {δ : Dlt} {w : Wl} {P : PD} {Z : ZD} {E' : XK} {t : TA}
theorem ev_pathM (h : EvA K W t δ w (fun ds w1 => ∃ (p : Addr) (xs : List Str) (k m : Int), ds = [.ptr p, .lst (xs.map D.str), .int k, .int m] ∧ wordsOk xs ∧ 0 < xs.length ∧ xs.length ≤ 12 ∧ 0 ≤ k ∧ k ≤ 1000 ∧ 0 ≤ m ∧ m ≤ 10 ^ 30 ∧ Pl w1 p w1 ∧ ∀ (w2 : Wl) (prs : List (Str × Int)), Pm w1 p w2 → RunsB (if m = 0 then 10 ^ 30 else m) xs prs → (prs.length : Int) ≤ k → P (.tup (prs.map prD)) w2) Z) : Ev K W (tCall (SpD K prePath postPathM zN) [] E' t) δ w P Z := by
  refine ev_call (fun σ H s Q q z => h σ H s Q (fun v H' d w' e cc r ⟨p, xs, kk, m, hd, h1, h2, h3, h4, h5, h6, h7, h8, k2⟩ => q v H' d w' e cc r ?_) z)
  subst hd
  refine ⟨⟨p, xs, kk, m, rfl, h1.1, h2, by omega, h4, h5, h6, h7, h8⟩, fun dd w4 h4 => ?_⟩
  obtain ⟨hm, prs, rfl, hr, hl⟩ := h4 p xs kk m rfl
  exact k2 w4 prs hm hr hl
end
theorem ol_intB {K : PySem.W.Frag} {w : Wl} {P : PD} {b : Bool} (k : P (.int (if b then 1 else 0)) w) : OpL K rInt1 [.bl b] w P := by
  intro vs H h1 c Q q
  cases h1 with
  | cons h t =>
    cases t
    cases h
    exact .inr ⟨b, rfl, q _ _ _ _ (Ex.refl _) c (.int _) k⟩
theorem om_ext {K : PySem.W.Frag} {w : Wl} {P : PD} {l : Addr} {ds es : List D} (hl : w l = some (.lst ds)) (hz : ds.length + es.length ≤ sizeLine) (k : P .non (put w l (.lst (ds ++ es)))) : OpM K rExtend (.ptr l) [.lst es] w P := by
  intro v vs H h1 h2 c Q q
  cases h1
  cases h2 with
  | cons r t =>
    cases t
    cases r with
    | @lst b ys _ hb hr =>
      obtain ⟨xs, e1, e2⟩ := c l _ hl
      obtain ⟨e, c'⟩ := put_ok c hl e1 (e2.append hr)
      exact ⟨l, b, xs, ys, rfl, rfl, e1, (msk_some hb).2, by rw [e2.length, hr.length]; exact hz, q _ _ _ _ e c' .non k⟩
theorem os_lstO {K : PySem.W.Frag} {w : Wl} {P : PD} {l : Addr} {ds : List D} {lo hi : Option Int} (hl : w l = some (.lst ds)) (k : P (.lst (cutD ds lo hi)) w) : OpS K (rSlL K) (.ptr l) lo hi w P := by
  intro v H h1 c Q q
  cases h1
  obtain ⟨xs, e1, e2⟩ := c l _ hl
  exact ⟨_, _, rfl, SqL.of e1, fun p hp => kq_lst q c (rpa_cut e2 lo hi) k hp⟩
/-! the change told, made on a table -/
def lessD : D := .tup [.str ("less" : Str)]
def moreD (y : Str) : D := .tup [.str ("more" : Str), .str y]
def preChg (ds : List D) (w : Wl) : Prop := ∃ (l : Addr) (kvs : List (Str × Int)) (d : D), ds = [.ptr l, d] ∧ w l = some (.dK (kvs.map entD)) ∧ (kvs.map (·.1)).Nodup ∧ kvs.length ≤ 60 ∧ (d = lessD ∨ ∃ y, d = moreD y)
def postChg (ds : List D) (w : Wl) (d' : D) (w' : Wl) : Prop := Keep w w' ∧ ∀ (l : Addr) (kvs : List (Str × Int)) (d : D), ds = [.ptr l, d] → w l = some (.dK (kvs.map entD)) →
  ∃ (l' : Addr) (kvs' : List (Str × Int)), d' = .ptr l' ∧ w l' = none ∧ w' l' = some (.dK (kvs'.map entD)) ∧ (d = lessD → kvs' = cutP 1 kvs) ∧ ∀ y, d = moreD y → kvs' = putS kvs y (getS kvs y + 1)
def lowF : Key → D → D | .inr n, .int c => .tup [.str n, .int (c - 1)] | _, _ => .non
def lowB : Key → D → Bool | _, .int c => decide (c > 1) | _, _ => false
theorem cut_ents : ∀ kvs : List (Str × Int), ((kvs.map entD).filter fun e => lowB e.1 e.2).map (fun e => lowF e.1 e.2) = (cutP 1 kvs).map prD
  | [] => rfl
  | e :: r => by
    have ih := cut_ents r
    unfold cutP at ih ⊢
    rw [List.map_cons, List.filter_cons, List.filter_cons]
    by_cases h : e.2 > 1
    · have h1 : lowB (entD e).1 (entD e).2 = true := decide_eq_true h
      rw [if_pos h1, if_pos (decide_eq_true h), List.map_cons, List.map_cons, List.map_cons, ih]
      rfl
    · have h1 : ¬ lowB (entD e).1 (entD e).2 = true := fun z => h (of_decide_eq_true z)
      rw [if_neg h1, if_neg (fun z => h (of_decide_eq_true z)), ih]
theorem chg_perm {c p q : Int} {A B kv kv' : List (Str × Int)} {dl : Int} {d : D} (hc : 1 ≤ c) (hA : TabOk c.toNat p A) (hB : TabOk c.toNat q B) (hk : kv.Perm A) (h : LateD c A B dl d)
    (h1 : d = lessD → kv' = cutP 1 kv) (h2 : ∀ y, d = moreD y → kv' = putS kv y (getS kv y + 1)) : kv'.Perm B ∧ ((d = lessD ∧ dl = 1) ∨ ∃ y, d = moreD y ∧ dl = 0) := by
  have hkn : (kv.map (·.1)).Nodup := (hk.map _).nodup_iff.mpr hA.1
  have hkt : TabOk c.toNat p kv := ⟨hkn, fun e he => hA.2.1 e (hk.subset he), by rw [hk.length_eq]; exact hA.2.2⟩
  have gk : ∀ z, getS kv z = getS A z := fun z => getS_perm hk hkn z
  rcases h with ⟨y, hy, rfl, hm, rfl⟩ | ⟨rfl, hl, rfl⟩
  · refine ⟨?_, .inr ⟨y, rfl, rfl⟩⟩
    rw [h2 y rfl]
    have room : y ∈ kv.map (·.1) ∨ (kv.length : Int) < c := by
      rw [mem_pos hkt, gk, hk.length_eq, ← mem_pos hA]; exact hm.2
    have hst : stepS c kv y = putS kv y (getS kv y + 1) := by unfold stepS; rw [if_pos room]
    obtain ⟨b', ht⟩ := step_tab hkt hy hc
    rw [hst] at ht
    refine perm_of_get ht hB fun z => ?_
    rw [← hst, get_step hkt, if_pos room, gk, hm.1 z]
  · refine ⟨?_, .inl ⟨rfl, rfl⟩⟩
    rw [h1 rfl]
    refine perm_of_get (hkt.cut (by decide : (0 : Int) ≤ 1)) hB fun z => ?_
    rw [hl.2 z, getS_cut hkn, ← gk z]
    by_cases hz : z ∈ kv.map (·.1)
    · have := (mem_pos hkt z).mp hz
      rw [if_pos this]
      split
      · rfl
      · rename_i g
        have : ¬ getS kv z > 1 := fun q => g ⟨hz, q⟩
        omega
    · rw [if_neg (fun q => hz q.1), if_neg (fun g => hz ((mem_pos hkt z).mpr g))]
theorem less_more (y : Str) : lessD ≠ moreD y := fun z => by
  unfold lessD moreD at z
  injection z with z
  injection z with z1 z2
  cases z2
theorem deep_more (y : Str) : deepD (moreD y) ≤ 64 := by
  have e : deepD (moreD y) = deepD (moreD ("" : Str)) := rfl
  rw [e]; decide +kernel
theorem more_less (y : Str) : (py (moreD y)).eqv (py lessD) = false := by
  unfold moreD lessD
  rfl
theorem free_put {w : Wl} {p q : Addr} {c : DL.Cl} (h : put w p c q = none) : w q = none := by
  by_cases e : q = p
  · rw [e, put_same] at h; cases h
  · rw [put_ne e] at h; exact h
theorem chg_fact {d : D} {dl : Int} (h : (d = lessD ∧ dl = 1) ∨ ∃ y, d = moreD y ∧ dl = 0) : isPy d = true ∧ deepD d ≤ 64 ∧ (if (py d).eqv (py lessD) then (1 : Int) else 0) = dl := by
  rcases h with ⟨rfl, rfl⟩ | ⟨y, rfl, rfl⟩
  · exact ⟨by decide +kernel, by decide +kernel, by decide +kernel⟩
  · exact ⟨rfl, deep_more y, by rw [more_less]; rfl⟩
theorem late_two {c : Int} {A B : List (Str × Int)} {dl : Int} {d : D} (h : LateD c A B dl d) : d = lessD ∨ ∃ y, d = moreD y := by
  rcases h with ⟨y, _, rfl, _⟩ | ⟨rfl, _⟩
  · exact .inr ⟨y, rfl⟩
  · exact .inl rfl
theorem tot_le30 {xs : List Str} : ∀ {r : List (Str × Int)}, Runs xs r → totS r ≤ r.length * 10 ^ 30
  | [], _ => by decide
  | e :: r, h => by
    have ih := tot_le30 (r := r) fun pr hp => h pr (List.mem_cons_of_mem _ hp)
    have he := (h e (List.mem_cons_self ..)).2.2.2
    show e.2 + totS r ≤ _
    rw [List.length_cons, Int.natCast_add, Int.add_mul]
    omega
theorem turn_wr {c : Int} {prs r zs : List (Str × Int)} {xs : List Str} (h1 : 1 ≤ c) (h8 : c ≤ 8) (hs : SumP (10 ^ 30) c.toNat prs) (hr : Runs xs r) (hl : r.length ≤ 1000) (hz : PlayD c prs r zs) : DL.wr (.tup (zs.map prD)) := by
  have h := hz.sumB h1 hs (by decide +kernel) fun pr hp => ⟨(hr pr hp).2.1, (hr pr hp).2.2.1⟩
  have ht := tot_le30 hr
  have hm : (r.length : Int) * 10 ^ 30 ≤ 1000 * 10 ^ 30 := Int.mul_le_mul_of_nonneg_right (by omega) (by decide +kernel)
  have hk : (10 : Int) ^ 30 + 1000 * 10 ^ 30 ≤ 10 ^ 40 := by decide +kernel
  exact wr_one (h.wrS (by omega) (by omega)) rfl
theorem lateR_len {runs : List (Str × Int)} {k : Int} {nm : Str} : (lateR runs k nm).length = runs.length + 1 := by
  unfold lateR
  rw [List.length_append, List.length_cons, List.length_take, List.length_drop]
  omega
/-! all late arrivals of a law's case -/
def ltD (e : Int × Str) : D := .tup [.int e.1, .str e.2]
def preTurn (C : Addr) (ds : List D) (_ : Wl) : Prop := ∃ (c : Int) (prs runs : List (Str × Int)) (lts : List (Int × Str)) (xs : List Str), ds = [.ins C (sumFsB c prs), .tup (runs.map prD), .lst (lts.map ltD)] ∧ 1 ≤ c ∧ c ≤ 8 ∧ SumP (10 ^ 30) c.toNat prs ∧ xs.length ≤ 12 ∧ Runs xs runs ∧ runs.length + lts.length ≤ 1000 ∧ ∀ lt ∈ lts, 0 ≤ lt.1 ∧ lt.1 ≤ 1000 ∧ nameS lt.2 = true ∧ lt.2 ∈ xs
theorem lts_of : ∀ {ds : List D}, (∀ d ∈ ds, ∃ e : Int × Str, d = ltD e) → ∃ lts : List (Int × Str), ds = lts.map ltD
  | [], _ => ⟨[], rfl⟩
  | d :: ds, h => by
    obtain ⟨lts, rfl⟩ := lts_of fun d hd => h d (List.mem_cons_of_mem _ hd)
    obtain ⟨e, rfl⟩ := h d (List.mem_cons_self ..)
    exact ⟨e :: lts, rfl⟩
theorem lts_all {Q : Int × Str → Prop} {ds : List D} (h : ∀ d ∈ ds, ∃ e : Int × Str, d = ltD e ∧ Q e) : ∃ lts : List (Int × Str), ds = lts.map ltD ∧ ∀ e ∈ lts, Q e := by
  obtain ⟨lts, rfl⟩ := lts_of fun d hd => let ⟨e, he, _⟩ := h d hd; ⟨e, he⟩
  refine ⟨lts, rfl, fun e he => ?_⟩
  obtain ⟨e', h1, h2⟩ := h _ (List.mem_map.mpr ⟨e, he, rfl⟩)
  unfold ltD at h1
  injection h1 with h1
  injection h1 with a1 h1
  injection h1 with a2 _
  injection a1 with a1
  injection a2 with a2
  have : e = e' := Prod.ext a1 a2
  rw [this]; exact h2
theorem SumP.takeX {b : Int} {n : Nat} {prs : List (Str × Int)} {c : Int} (h : SumP b n prs) : SumP b c.toNat (prs.take c.toNat) := h.sub (List.take_sublist ..) (by rw [List.length_take]; omega)
end LW
set_option Elab.async false
set_option linter.all false
set_option autoImplicit false
set_option maxRecDepth 100000
set_option maxHeartbeats 4000000
/-! BZ: one late arrival (the texts of what is told). -/
namespace LW
open PySem PySem.Spec PyProof.Rows L2 DL
theorem more_shown (y : Str) : (py (moreD y)).shown ≠ (py lessD).shown := fun h => by
  have h2 := congrArg (fun s : Str => s.cps.toList.take 3) h
  have e1 : (reprText ("more" : Str)).cps.toList = [39, 109, 111, 114, 101, 39] := by decide +kernel
  have e2 : (py lessD).shown.cps.toList.take 3 = [40, 39, 108] := by decide +kernel
  have e3 : (py (moreD y)).shown = ("(" : Str) ++ (reprText ("more" : Str) ++ (", " : Str) ++ reprText y) ++ (")" : Str) := rfl
  have e4 : (("(" : Str)).cps.toList = [40] := by decide +kernel
  change (py (moreD y)).shown.cps.toList.take 3 = (py lessD).shown.cps.toList.take 3 at h2
  rw [e2, e3] at h2
  simp only [Str.cps_append, Array.toList_append, e1, e4] at h2
  simp at h2
theorem deep_ints (a b : Int) : deepD (.lst [.int a, .int b]) ≤ 64 := by
  have e : deepD (.lst [.int a, .int b]) = deepD (.lst [.int 0, .int 0]) := rfl
  rw [e]; decide +kernel
theorem less_wr : DL.wr lessD := wr_one ⟨by decide +kernel, by decide +kernel, by decide +kernel⟩ rfl
theorem more_wr {y : Str} (h : nameS y = true) : DL.wr (moreD y) := by
  have len : y.length ≤ 8 := by
    unfold nameS at h
    simp at h
    exact h.1
  have low := nameS_low h
  refine wr_one ⟨?_, by rw [show deepD (moreD y) = deepD (moreD ("" : Str)) from rfl]; decide +kernel, ?_⟩ rfl
  · simp only [moreD, small, smallA, Bool.and_true, Bool.and_eq_true]
    exact ⟨by decide +kernel, by simpa using low⟩
  · have em : ("more" : Str).length = 4 := rfl
    simp only [moreD, costD, costA]
    omega
theorem lateR_tot {runs : List (Str × Int)} {k : Int} {nm : Str} : totS (lateR runs k nm) = totS runs + 1 := by
  unfold lateR
  have e : totS runs = totS (runs.take k.toNat) + totS (runs.drop k.toNat) := by rw [← tot_app, List.take_append_drop]
  rw [tot_app, tot_cons, e]
  show _ + (1 + _) = _
  omega
def preFull (C : Addr) (ds : List D) (_ : Wl) : Prop := ∃ (c : Int) (prs : List (Str × Int)), ds = [.ins C (sumFsB c prs)] ∧ prs.length ≤ 1000
def postFull (C : Addr) (ds : List D) (w : Wl) (d : D) (w' : Wl) : Prop := w' = w ∧ ∀ (c : Int) (prs : List (Str × Int)), ds = [.ins C (sumFsB c prs)] → d = .bl (decide ((prs.length : Int) = c))
section
variable {K : PySem.W.Frag} {W : XK} {δ : Dlt} {w : Wl} {P : PD} {Z : ZD} {te : TE} {C : Addr} {E' : XK}
theorem ev_full (h : Ev K W te δ w (fun x w1 => ∃ c prs, x = .ins C (sumFsB c prs) ∧ prs.length ≤ 1000 ∧ P (.bl (decide ((prs.length : Int) = c))) w1) Z) :
    Ev K W (tMeth C "is_full" (SpD K (preFull C) (postFull C) zN) [] E' te tNil) δ w P Z := by
  refine ev_mt (h.imp fun d w1 ⟨c, prs, hd, hs, k⟩ => ?_)
  subst hd
  refine ⟨_, rfl, lookB_none (by decide) (by decide), ea_nil ⟨⟨c, prs, rfl, hs⟩, fun dd w3 ⟨k3, e3⟩ => ?_⟩⟩
  rw [e3 c prs rfl, k3]
  exact k
end
def preCR (C : Addr) (ds : List D) (_ : Wl) : Prop := ∃ (c : Int) (prs runs : List (Str × Int)) (k : Int) (nm : Str) (xs : List Str), ds = [.ins C (sumFsB c prs), .tup (runs.map prD), .int k, .str nm] ∧ 1 ≤ c ∧ c ≤ 8 ∧ SumP (10 ^ 30) c.toNat prs ∧ xs.length ≤ 12 ∧ Runs xs runs ∧ runs.length ≤ 900 ∧ 0 ≤ k ∧ k ≤ runs.length ∧ nameS nm = true ∧ nm ∈ xs
end LW
set_option Elab.async false
set_option linter.all false
set_option autoImplicit false
set_option maxRecDepth 100000
set_option maxHeartbeats 4000000
/-! DL31: x (not) in a list of texts; a list times an int. -/
namespace DL
open PySem PySem.Spec PyProof.Rows L2
theorem qo_inL {X : Cx} {K : PySem.W.Frag} (hK : X.K = K) : OpR X (compareOp .In) (rIn K false) := by subst hK; exact op_in_seq
theorem qo_notInL {X : Cx} {K : PySem.W.Frag} (hK : X.K = K) : OpR X (compareOp .NotIn) (rIn K true) := by subst hK; exact op_notIn_seq
section
variable {K : PySem.W.Frag} {w : Wl} {P : PD}
theorem strs_of {G : Hp} : ∀ {vs : List V} {xs : List Str}, RpA K G vs (xs.map D.str) → vs = xs.map V.str
  | _, [], h => by cases h; rfl
  | _, x :: xs, h => by
    cases h with
    | cons h t => cases h; rw [strs_of t]; rfl
theorem inV_strs (x : Str) : ∀ xs : List Str, inV (.str x) (xs.map V.str) = decide (x ∈ xs)
  | [] => by simp [inV]
  | y :: ys => by
    have ih := inV_strs x ys
    unfold inV at ih ⊢
    rw [List.map_cons, List.any_cons, ih]
    have e : eqV (.str y) (.str x) = decide (y = x) := by
      unfold eqV
      rfl
    rw [e]
    by_cases h : y = x
    · subst h; simp
    · have h' : ¬ x = y := fun z => h z.symm
      simp [h, h']
theorem o2_inL {neg : Bool} {x : Str} {xs : List Str} (k : P (.bl (if neg then !decide (x ∈ xs) else decide (x ∈ xs))) w) : Op2 K (rIn K neg) (.str x) (.lst (xs.map D.str)) w P := by
  intro v u H h1 h2 c Q q
  cases h1
  cases h2 with
  | lst ht hr =>
    obtain rfl := strs_of hr
    refine ⟨_, _, rfl, .inl (SqL.of (msk_some ht).2), rfl, ?_, ?_⟩
    · rw [List.all_map]; exact List.all_eq_true.mpr fun _ _ => rfl
    · rw [inV_strs]
      exact q _ _ _ _ (Ex.refl _) c (.bl _) k
theorem o2_rep {ds : List D} {n : Int} (h0 : 0 ≤ n) (h1 : n ≤ 1000) (hz : ds.length ≤ 1000) (k : P (.lst (List.replicate n.toNat ds).flatten) w) : Op2 K rRep (.lst ds) (.int n) w P := by
  intro v u H r1 r2 c Q q
  cases r2
  cases r1 with
  | @lst a xs _ ht hr =>
    have hb : ∀ m : Nat, RpA K (msk w H) (List.replicate m xs).flatten (List.replicate m ds).flatten := fun m => by
      induction m with
      | zero => exact .nil
      | succ m ih => rw [List.replicate_succ, List.replicate_succ, List.flatten_cons, List.flatten_cons]; exact hr.append ih
    refine ⟨_, n, xs, rfl, rfl, (msk_some ht).2, by omega, by omega, ?_, fun p hp => kq_lst q c (hb n.toNat) k hp⟩
    rw [hr.length, sizeLine_eq]
    have : ds.length * n.toNat ≤ 1000 * 1000 := Nat.mul_le_mul hz (by omega)
    omega
end
end DL
set_option Elab.async false
set_option linter.all false
set_option autoImplicit false
set_option maxRecDepth 100000
set_option maxHeartbeats 4000000
/-! DL32: sorted of a list of pairs (text, int), any number of them. -/
namespace DL
open PySem PySem.Spec PyProof.Rows L2
def siLe (p q : Str × Int) : Prop := ¬ (q.1.cps.toList < p.1.cps.toList ∨ (q.1 = p.1 ∧ q.2 < p.2))
theorem dataLt_si (x x' : Str) (y y' : Int) : PySem.W.dataLt (.tuple [.str x, .int y]) (.tuple [.str x', .int y']) = decide (x.cps.toList < x'.cps.toList ∨ (x = x' ∧ y < y')) := by
  rw [PySem.W.dataLt_pair (by simp [PySem.W.alike]) (by simp [PySem.W.alike]), PySem.W.dataLt_str, PySem.W.dataLt_int]
  simp only [PyData.eqv, beq_iff_eq]
  by_cases h1 : x = x'
  · subst h1
    have := List.lt_irrefl x.cps.toList
    by_cases h2 : y = y' <;> simp [h2, this]
  · simp [h1]
def encB (b : V × Str × Int) : PyData := .tuple [.str b.2.1, .int b.2.2]
theorem dataLe_si (p q : V × Str × Int) : PySem.W.dataLe false encB p q = true ↔ siLe p.2 q.2 := by
  have e : PySem.W.dataLe false encB p q = !PySem.W.dataLt (encB q) (encB p) := by rw [PySem.W.dataLe_eq]; rfl
  rw [e]
  unfold encB
  rw [dataLt_si]
  unfold siLe
  rw [Bool.not_eq_true', decide_eq_false_iff_not]
theorem str_ext {x y : Str} (h : x.cps.toList = y.cps.toList) : x = y := by
  obtain ⟨⟨a⟩⟩ := x
  obtain ⟨⟨b⟩⟩ := y
  simp at h
  rw [h]
theorem siLe_total (p q : Str × Int) : siLe p q ∨ siLe q p := by
  unfold siLe
  by_cases h : q.1.cps.toList < p.1.cps.toList ∨ (q.1 = p.1 ∧ q.2 < p.2)
  · right
    rintro (g | ⟨g1, g2⟩)
    · rcases h with h | ⟨h1, h2⟩
      · exact List.lt_irrefl _ (List.lt_trans h g)
      · rw [h1] at g; exact List.lt_irrefl _ g
    · rcases h with h | ⟨h1, h2⟩
      · rw [g1] at h; exact List.lt_irrefl _ h
      · omega
  · left; exact h
theorem siLe_trans {p q r : Str × Int} (h : siLe p q) (g : siLe q r) : siLe p r := by
  unfold siLe at *
  have a1 : ¬ q.1.cps.toList < p.1.cps.toList := fun z => h (.inl z)
  have a2 : ¬ r.1.cps.toList < q.1.cps.toList := fun z => g (.inl z)
  have b1 := List.not_lt.mp a1
  have b2 := List.not_lt.mp a2
  rintro (z | ⟨z1, z2⟩)
  · exact List.not_lt.mpr (List.le_trans b1 b2) z
  · have e : p.1.cps.toList = q.1.cps.toList := by
      rw [z1] at b2
      exact List.le_antisymm b1 b2
    have e1 := str_ext e
    have e2 : r.1 = q.1 := by rw [z1, e1]
    have h2 : ¬ q.2 < p.2 := fun z => h (.inr ⟨e1.symm, z⟩)
    have g2 : ¬ r.2 < q.2 := fun z => g (.inr ⟨e2, z⟩)
    omega
def rSortPr (K : PySem.W.Frag) : List V → Hp → VK → Prop := fun vs H Q => ∃ (a : Addr) (bs : List (V × Str × Int)), vs = [V.ref a] ∧ SqL K H a (bs.map (·.1)) ∧ (∀ b ∈ bs, Dp K H b.1 (encB b)) ∧
  ∀ (bs' : List (V × Str × Int)) (p : Addr), bs'.Perm bs → (bs'.Pairwise fun x y => siLe x.2 y.2) → H p = none → Q (.ref p) (upd H p (.lst (bs'.map (·.1))))
theorem each_vals : ∀ {bs : List (V × Str × Int)} {us : List Value}, Vals (bs.map (·.1)) us → PySem.W.EachIs (fun v b => RelV b.1 v) us bs
  | [], _, .nil => .nil
  | _ :: _, _ :: _, .cons h t => .cons h (each_vals t)
theorem vals_each : ∀ {bs : List (V × Str × Int)} {us : List Value}, PySem.W.EachIs (fun v b => RelV b.1 v) us bs → Vals (bs.map (·.1)) us
  | _, _, .nil => .nil
  | _, _, .cons h t => .cons h (vals_each t)
theorem each_reads {X : Cx} {pins : List (Addr × Obj)} {σ : L2.St} {H : Hp} {s : Shared} (I : Inv X pins σ H s) : ∀ {bs : List (V × Str × Int)} {us : List Value}, (∀ b ∈ bs, Dp X.K H b.1 (encB b)) → Vals (bs.map (·.1)) us → PySem.W.EachIs (fun v b => ∃ as, Reads s.heap v (encB b) as) us bs
  | [], _, _, .nil => .nil
  | b :: _, _ :: _, hd, .cons h t => .cons (Dp.reads I _ _ _ (hd b (List.mem_cons_self ..)) h) (each_reads I (fun c hc => hd c (List.mem_cons_of_mem _ hc)) t)
theorem cr_sortPr {X : Cx} (hu : X.A.units + 64 < cLine) : CallR X (.builtin "sorted") (rSortPr X.K) := by
  intro pins s σ H vs us Q I r h
  obtain ⟨a, bs, rfl, hs, hd, q⟩ := h
  obtain ⟨its, rv, hl, hz⟩ := I.list hs
  rw [Vals.ref1 r]
  refine PySem.W.sorted_data (enc := encB) hl.isList (each_vals rv) (each_reads I hd rv) (.of fun b b' => by simp [encB, PySem.W.alike, PySem.W.alikeAll]) (.tuples fun b => ⟨_, _, rfl⟩) (by rw [List.length_map] at hz; exact hz) (fun b _ => ?_) fun out ho eo => ?_
  · have e : (encB b).depth = 1 := by simp [encB, PyData.depth, PyData.depthAll]
    rw [e]; omega
  · obtain ⟨ep, he'⟩ := PyProof.Rows.sortedAll_at s.heap its out.toArray
    have hp := List.mergeSort_perm bs (PySem.W.dataLe false encB)
    have hsrt := List.pairwise_mergeSort (le := PySem.W.dataLe false encB) (fun x y z h1 h2 => (dataLe_si _ _).mpr (siLe_trans ((dataLe_si _ _).mp h1) ((dataLe_si _ _).mp h2))) (fun x y => by
      rcases siLe_total x.2 y.2 with h | h
      · rw [(dataLe_si _ _).mpr h]; rfl
      · rw [(dataLe_si _ _).mpr h]; simp) bs
    have hlen : ((bs.mergeSort (PySem.W.dataLe false encB)).map (·.1)).length ≤ sizeLine := by
      rw [List.length_map, hp.length_eq]
      rw [List.length_map] at hz
      exact hz
    exact ⟨.ref _, upd H (s.heap.objs.size + 1) (.lst ((bs.mergeSort (PySem.W.dataLe false encB)).map (·.1))), I.laid (t' := s.toks) (fun _ _ => PyProof.Rows.sortedAll_old) (Nat.le_succ _) ⟨hlen, out, ep, vals_each eo, he'⟩, rfl, q _ _ hp (hsrt.imp fun h => (dataLe_si _ _).mp h) (I.hok.fresh (Nat.le_succ _))⟩
section
variable {X : Cx} {K : PySem.W.Frag} {e : Expr} {es : List Expr} {t : TA} {p pos : Pos}
theorem q_sortPr (hK : X.K = K) (m : X.mg "sorted" = none) (hg : Gl X "sorted") (hu : X.A.units + 64 < cLine) (ha : PA X (e :: es) t) (he : starEach (e :: es) X.env = (false, eval e X.env) :: starEach es X.env := by rfl) (hpl : (backTo pos (starEach es X.env)).any (·.1) = false := by rfl) :
    PE X (.Call (.Name "sorted" p) (e :: es) [] pos) (tCB (rSortPr K) t) := by subst hK; exact pe_callB (cr_sortPr hu) hg m boot_sorted ha (by decide) (by decide) he hpl
end
theorem refs_prB {K : PySem.W.Frag} {G : Hp} : ∀ {xs : List V} {prs : List (Str × Int)}, RpA K G xs (prs.map prD) → ∃ bs : List (V × Str × Int), xs = bs.map (·.1) ∧ prs = bs.map (·.2) ∧ (∀ b ∈ bs, Rp K G b.1 (prD b.2))
  | [], [], _ => ⟨[], rfl, rfl, fun b h => nomatch h⟩
  | x :: xs, pr :: prs, h => by
    cases h with
    | cons h t =>
      obtain ⟨bs, e1, e2, hb⟩ := refs_prB t
      refine ⟨(x, pr) :: bs, by rw [List.map_cons, e1], by rw [List.map_cons, e2], fun b hm => ?_⟩
      rcases List.mem_cons.mp hm with rfl | hm
      · exact h
      · exact hb b hm
  | [], _ :: _, h => nomatch h
  | _ :: _, [], h => nomatch h
theorem prB_rpa {K : PySem.W.Frag} {G : Hp} : ∀ {bs : List (V × Str × Int)}, (∀ b ∈ bs, Rp K G b.1 (prD b.2)) → RpA K G (bs.map (·.1)) ((bs.map (·.2)).map prD)
  | [], _ => .nil
  | b :: bs, h => .cons (h b (List.mem_cons_self ..)) (prB_rpa fun c hc => h c (List.mem_cons_of_mem _ hc))
theorem ol_sortPr {K : PySem.W.Frag} {w : Wl} {P : PD} {prs : List (Str × Int)} (k : ∀ ys : List (Str × Int), ys.Perm prs → ys.Pairwise siLe → P (.lst (ys.map prD)) w) : OpL K (rSortPr K) [.lst (prs.map prD)] w P := by
  intro vs H h1 c Q q
  cases h1 with
  | cons h t =>
    cases t
    cases h with
    | @lst a xs _ ht hr =>
      obtain ⟨bs, rfl, rfl, hb⟩ := refs_prB hr
      refine ⟨a, bs, rfl, SqL.of (msk_some ht).2, fun b hm => ?_, fun bs' p hp ho hn => ?_⟩
      · have := Dp.mono' Ex.msk (hb b hm) (by simp [isPy, isPyA, prD])
        unfold encB
        simpa [prD, py, pyA] using this
      · exact kq_lst q c (prB_rpa fun b hm => hb b (hp.subset hm)) (k _ (hp.map _) (List.pairwise_map.mpr ho)) hn
end DL
set_option Elab.async false
set_option linter.all false
set_option autoImplicit false
set_option maxRecDepth 100000
set_option maxHeartbeats 4000000
/-! CA: how many reductions a size tells; the cases of the laws on truth. -/
namespace LW
open PySem PySem.Spec PyProof.Rows L2 DL
def postFlatB (ds : List D) (w : Wl) (d : D) (w' : Wl) : Prop := w' = w ∧ ∀ (l : Addr) (kvs : List (Str × Int)), ds = [.ptr l] → w l = some (.dK (kvs.map entD)) → ∃ ys : List (Str × Int), d = .btp (ys.map prD) ∧ ys.Perm kvs ∧ asc (ys.map (·.1))
def preRC (C : Addr) (ds : List D) (_ : Wl) : Prop := ∃ (c : Int) (prs : List (Str × Int)) (n : Int), ds = [.ins C (sumFsB c prs), .int (totS prs + n * (c + 1))] ∧ SumX c prs ∧ 0 ≤ n ∧ n ≤ 10 ^ 60
def postRC (C : Addr) (ds : List D) (w : Wl) (d : D) (w' : Wl) : Prop := w' = w ∧ ∀ (c : Int) (prs : List (Str × Int)) (n : Int), ds = [.ins C (sumFsB c prs), .int (totS prs + n * (c + 1))] → 1 ≤ c → d = .int n
section
variable {K : PySem.W.Frag} {W : XK} {δ : Dlt} {w : Wl} {P : PD} {Z : ZD} {E' : XK} {t tk : TA} {C : Addr}
theorem rc_post {ds : List D} {w1 : Wl} {c : Int} {prs : List (Str × Int)} {n : Int} (e : ds = [.ins C (sumFsB c prs), .int (totS prs + n * (c + 1))]) (hs : SumX c prs) (h0 : 0 ≤ n) (h1 : n ≤ 10 ^ 60) (k : P (.int n) w1) : preRC C ds w1 ∧ ∀ d w3, postRC C ds w1 d w3 → P d w3 := by
  refine ⟨⟨c, prs, n, e, hs, h0, h1⟩, fun d w3 ⟨k3, e3⟩ => ?_⟩
  rw [e3 c prs n e hs.1, k3]
  exact k
theorem ev_rc (h : EvA K W t δ w (fun ds w1 => ∃ c prs n, ds = [.ins C (sumFsB c prs), .int (totS prs + n * (c + 1))] ∧ SumX c prs ∧ 0 ≤ n ∧ n ≤ 10 ^ 60 ∧ P (.int n) w1) Z) : Ev K W (tCall (SpD K (preRC C) (postRC C) zN) [] E' t) δ w P Z :=
  ev_call (fun σ H s Q q z => h σ H s Q (fun v H' d w' e cc r ⟨c, prs, n, hd, hs, h0, h1, k⟩ => q v H' d w' e cc r (rc_post hd hs h0 h1 k)) z)
theorem ev_rcK {g : {α : Type} → List α → List α → List α} (hg : KwG g) (h : EvA K W t δ w (fun us w1 => EvA K W tk δ w1 (fun zs w2 => ∃ c prs n, g us zs = [.ins C (sumFsB c prs), .int (totS prs + n * (c + 1))] ∧ SumX c prs ∧ 0 ≤ n ∧ n ≤ 10 ^ 60 ∧ P (.int n) w2) Z) Z) : Ev K W (tCallK (SpD K (preRC C) (postRC C) zN) g E' t tk) δ w P Z :=
  ev_callK hg (fun σ H s Q q z => h σ H s Q (fun v H' d w' e cc r h2 => q v H' d w' e cc r (fun σ H s Q q z => h2 σ H s Q (fun v H' d w' e cc r ⟨c, prs, n, hd, hs, h0, h1, k⟩ => q v H' d w' e cc r (rc_post hd hs h0 h1 k)) z)) z)
theorem ev_lsum (h : EvA K W t δ w (fun ds w1 => ∃ prs : List (Str × Int), ds = [.tup (prs.map prD)] ∧ prs.length ≤ 5000 ∧ P (.int (totS prs)) w1) Z) : Ev K W (tCall (SpD K preSum postSumT zN) [] E' t) δ w P Z := by
  refine ev_call (fun σ H s Q q z => h σ H s Q (fun v H' d w' e cc r ⟨prs, hd, hl, k⟩ => q v H' d w' e cc r ⟨⟨prs, hd, hl⟩, fun dd w3 ⟨k3, e3⟩ => ?_⟩) z)
  rw [e3 prs hd, k3]
  exact k
end
theorem divp60 {n c : Int} (h0 : 0 ≤ n) (h1 : n ≤ 10 ^ 60) (c1 : 1 ≤ c) (c8 : c ≤ 8) : CDivP (n * (c + 1)) (c + 1) := by
  refine divp_ok (by omega) ?_
  have hm : n * (c + 1) ≤ 10 ^ 60 * 9 := Int.mul_le_mul h1 (by omega) (by omega) (by decide +kernel)
  have h2 : 0 ≤ n * (c + 1) := Int.mul_nonneg h0 (by omega)
  have h3 : (10 : Int) ^ 60 * 9 < 2 ^ 210 := by decide +kernel
  have b := PyProof.Rows.intBits_le (a := n * (c + 1)) (k := 210) (by
    have : ((n * (c + 1)).natAbs : Int) < ((2 ^ 210 : Nat) : Int) := by
      rw [Int.natAbs_of_nonneg h2]
      exact Int.lt_of_le_of_lt hm h3
    omega)
  omega
theorem log2_le40 {n : Int} (h0 : 0 ≤ n) (h1 : n ≤ 10 ^ 40) : n.natAbs.log2 < 9000 := by
  rcases Nat.eq_zero_or_pos n.natAbs with z | z
  · rw [z]; decide
  · have h2 : n.natAbs ≤ 10 ^ 40 := by omega
    have h3 : (10 : Nat) ^ 40 < 2 ^ 140 := by decide +kernel
    have h4 := (Nat.log2_lt (n := n.natAbs) (k := 140) (by omega)).mpr (Nat.lt_of_le_of_lt h2 h3)
    omega
theorem asc_of_si {ys : List (Str × Int)} (h : ys.Pairwise siLe) (nd : (ys.map (·.1)).Nodup) : asc (ys.map (·.1)) := by
  unfold asc
  rw [List.pairwise_map]
  rw [List.nodup_iff_pairwise_ne, List.pairwise_map] at nd
  refine (h.and nd).imp fun {a b} ⟨h1, h2⟩ => ?_
  have h3 : ¬ b.1.cps.toList < a.1.cps.toList := fun z => h1 (.inl z)
  rcases List.le_iff_lt_or_eq.mp (List.not_lt.mp h3) with z | z
  · exact z
  · exact absurd (str_ext z) h2
theorem zip_prs {Q : Int → Prop} : ∀ {xs : List Str} {acc : List D}, acc.length = xs.length → (∀ (i : Nat) (d y : D), (xs.map D.str)[i]? = some d → acc[i]? = some y → ∃ x c, d = .str x ∧ y = prD (x, c) ∧ Q c) →
    ∃ prs : List (Str × Int), acc = prs.map prD ∧ prs.map (·.1) = xs ∧ ∀ pr ∈ prs, Q pr.2
  | [], [], _, _ => ⟨[], rfl, rfl, fun _ h => nomatch h⟩
  | x :: xs, y :: acc, hl, h => by
    obtain ⟨prs, e1, e2, e3⟩ := zip_prs (xs := xs) (acc := acc) (by simpa using hl) fun i d y hd hy => h (i + 1) d y (by simpa using hd) (by simpa using hy)
    obtain ⟨x', c, hx, hy, hq⟩ := h 0 (.str x) y rfl rfl
    injection hx with hx
    subst hx; subst hy
    refine ⟨(x, c) :: prs, by rw [e1]; rfl, by rw [List.map_cons, e2], fun pr hp => ?_⟩
    rcases List.mem_cons.mp hp with rfl | hp
    · exact hq
    · exact e3 pr hp
  | [], _ :: _, hl, _ => by simp at hl
  | _ :: _, [], hl, _ => by simp at hl
/-- a case: width, counts kept, reductions, true counts -/
def CaseOk (c n : Int) (prs bag : List (Str × Int)) : Prop := 1 ≤ c ∧ c ≤ 8 ∧ SumP (10 ^ 30) c.toNat prs ∧ 0 ≤ n ∧ n ≤ 10 ^ 30 ∧ SumP (2 * 10 ^ 30) 12 bag ∧ (∀ y, 0 ≤ getS bag y - getS prs y ∧ getS bag y - getS prs y ≤ n) ∧ totS bag = totS prs + n * (c + 1)
def postCaseT (ds : List D) (w : Wl) (d : D) (w' : Wl) : Prop := ∀ p, ds = [.ptr p] → Pm w p w' ∧ ∃ (c n : Int) (prs bag : List (Str × Int)), d = .lst [.int c, .btp (prs.map prD), .int n, .tup (bag.map prD)] ∧ CaseOk c n prs bag
def posB : D → Bool | .tup [_, .int c] => decide (c > 0) | _ => false
def posP (kv : List (Str × Int)) : List (Str × Int) := kv.filter fun e => decide (e.2 > 0)
theorem pos_prs : ∀ kv : List (Str × Int), ((kv.map prD).filter posB).map (fun d => d) = (posP kv).map prD
  | [] => rfl
  | e :: r => by
    have ih := pos_prs r
    unfold posP at ih ⊢
    rw [List.map_cons, List.filter_cons, List.filter_cons]
    by_cases h : e.2 > 0
    · have h1 : posB (prD e) = true := decide_eq_true h
      rw [if_pos h1, if_pos (decide_eq_true h), List.map_cons, List.map_cons, ih]
    · have h1 : ¬ posB (prD e) = true := fun z => h (of_decide_eq_true z)
      rw [if_neg h1, if_neg (fun z => h (of_decide_eq_true z)), ih]
theorem pos_get {kv : List (Str × Int)} (nd : (kv.map (·.1)).Nodup) (hn : ∀ y, 0 ≤ getS kv y) (z : Str) : getS (posP kv) z = getS kv z := by
  have nd2 : ((posP kv).map (·.1)).Nodup := nd.sublist (List.filter_sublist.map _)
  by_cases h : z ∈ (posP kv).map (·.1)
  · obtain ⟨e, he, rfl⟩ := List.mem_map.mp h
    rw [getS_mem nd2 e he, getS_mem nd e (List.mem_filter.mp he).1]
  · rw [getS_new h]
    by_cases h2 : z ∈ kv.map (·.1)
    · obtain ⟨e, he, rfl⟩ := List.mem_map.mp h2
      have := hn e.1
      rw [getS_mem nd e he] at this ⊢
      have h3 : ¬ e.2 > 0 := fun q => h (List.mem_map.mpr ⟨e, List.mem_filter.mpr ⟨he, decide_eq_true q⟩, rfl⟩)
      omega
    · rw [getS_new h2]
theorem pos_tot : ∀ {kv : List (Str × Int)}, (∀ e ∈ kv, 0 ≤ e.2) → totS (posP kv) = totS kv
  | [], _ => rfl
  | e :: r, h => by
    have ih := pos_tot (kv := r) fun x hx => h x (List.mem_cons_of_mem _ hx)
    have he := h e (List.mem_cons_self ..)
    unfold posP at ih ⊢
    rw [List.filter_cons, tot_cons]
    by_cases q : e.2 > 0
    · rw [if_pos (decide_eq_true q), tot_cons, ih]
    · rw [if_neg (fun z => q (of_decide_eq_true z)), ih]; omega
/-- what the loop leaves is a case -/
theorem case_end {c n : Int} {xs : List Str} {prs kv ys : List (Str × Int)} (c1 : 1 ≤ c) (c8 : c ≤ 8) (hs : SumP (10 ^ 30) c.toNat prs) (n0 : 0 ≤ n) (n1 : n ≤ 10 ^ 30) (hx : ∀ x ∈ xs, nameS x = true) (hxl : xs.length ≤ 12)
    (hkn : (kv.map (·.1)).Nodup) (hkx : ∀ y ∈ kv.map (·.1), y ∈ xs) (hky : ∀ y, getS prs y ≤ getS kv y ∧ getS kv y ≤ getS prs y + n) (ht : totS kv = totS prs + n * (c + 1)) (hp : ys.Perm kv) (ha : asc (ys.map (·.1))) : CaseOk c n prs (posP ys) := by
  have hyn : (ys.map (·.1)).Nodup := (hp.map _).nodup_iff.mpr hkn
  have gy : ∀ z, getS ys z = getS kv z := fun z => getS_perm hp hyn z
  have pn : ∀ z, 0 ≤ getS prs z := fun z => getS_nn (fun pr hp => by have := (hs.2.1 pr hp).2.1; omega) z
  have pb : ∀ z, getS prs z ≤ 10 ^ 30 := fun z => by
    by_cases h : z ∈ prs.map (·.1)
    · obtain ⟨e, he, rfl⟩ := List.mem_map.mp h
      rw [getS_mem hs.nodup e he]; exact (hs.2.1 e he).2.2
    · rw [getS_new h]; decide +kernel
  have yn : ∀ z, 0 ≤ getS ys z := fun z => by rw [gy]; have := hky z; have := pn z; omega
  have ye : ∀ e ∈ ys, 0 ≤ e.2 := fun e he => by have := yn e.1; rw [getS_mem hyn e he] at this; exact this
  have sub : (posP ys).Sublist ys := List.filter_sublist
  refine ⟨c1, c8, hs, n0, n1, ⟨ha.sublist (sub.map _), fun pr hpr => ?_, ?_⟩, fun z => ?_, ?_⟩
  · have hin := sub.subset hpr
    have hpos : pr.2 > 0 := of_decide_eq_true (List.mem_filter.mp hpr).2
    have h1 := getS_mem hyn pr hin
    have h2 := hky pr.1
    have h3 := pb pr.1
    rw [← gy, h1] at h2
    exact ⟨hx _ (hkx _ ((hp.map _).subset (List.mem_map.mpr ⟨pr, hin, rfl⟩))), by omega, by omega⟩
  · have h1 := nodup_len hkn hkx
    rw [List.length_map] at h1
    have h2 := sub.length_le
    have h3 := hp.length_eq
    omega
  · rw [pos_get hyn yn, gy]
    have := hky z
    omega
  · rw [pos_tot ye, tot_perm hp, ht]
def preSM (C : Addr) (ds : List D) (_ : Wl) : Prop := ∃ (c : Int) (prs : List (Str × Int)) (n : Int) (x y : Str), ds = [.ins C (sumFsB c prs), .int (totS prs + n * (c + 1)), .str x, .str y] ∧ SumX c prs ∧ 0 ≤ n ∧ n ≤ 10 ^ 60 ∧ nameS x = true ∧ nameS y = true
def postSM (C : Addr) (ds : List D) (w : Wl) (d : D) (w' : Wl) : Prop := w' = w ∧ ∀ (c : Int) (prs : List (Str × Int)) (n : Int) (x y : Str), ds = [.ins C (sumFsB c prs), .int (totS prs + n * (c + 1)), .str x, .str y] → 1 ≤ c → d = .bl (decide (getS prs x > getS prs y + n))
def preDeps (ds : List D) (w : Wl) : Prop := ∃ (p : Addr) (prs : List (Str × Int)) (n : Int), ds = [.ptr p, .tup (prs.map prD), .int n] ∧ prs.length ≤ 100 ∧ 0 ≤ n ∧ n ≤ 10 ^ 30 ∧ (∀ pr ∈ prs, 0 ≤ pr.2 ∧ pr.2 ≤ 10 ^ 30) ∧ Pl w p w
def postDeps (ds : List D) (w : Wl) (d : D) (w' : Wl) : Prop := ∀ p a b, ds = [.ptr p, a, b] → Pl w p w' ∧ ∃ ns : List Int, d = .lst (ns.map D.int) ∧ ns.length ≤ 10 ∧ ∀ n ∈ ns, 0 ≤ n ∧ n ≤ 10 ^ 31
end LW
set_option Elab.async false
set_option linter.all false
set_option autoImplicit false
set_option maxRecDepth 100000
set_option maxHeartbeats 4000000
/-! DL33: f(d=, c=, b=, a=). -/
namespace DL
open PySem PySem.Spec PyProof.Rows L2
theorem o2_pickT {K : PySem.W.Frag} {w : Wl} {P : PD} {ds : List D} {k : Int} (h0 : 0 ≤ k) (h1 : k < ds.length) (h : ∀ d ∈ ds, P d w) : Op2 K (rIxT K) (.tup ds) (.int k) w P := by
  have hk : k.toNat < ds.length := by omega
  refine o2_ixT (d := ds[k.toNat]) ?_ (h _ (List.getElem_mem hk))
  unfold atI ixN
  rw [if_pos h0, if_pos (by omega)]
  simp [hk]
theorem ol_reprP {K : PySem.W.Frag} {w : Wl} {P : PD} {p : Addr} {ds : List D} (hl : w p = some (.lst ds)) (hw : wr (.lst ds)) (k : P (.str (py (.lst ds)).shown) w) : OpL K (rReprD K) [.ptr p] w P := by
  intro vs H h1 c Q q
  cases h1 with
  | cons h t =>
    cases t
    cases h
    obtain ⟨xs, e, r⟩ := c p _ hl
    have h1 : Rp K H (.ref p) (.lst ds) := .lst e (r.mono Ex.msk)
    have dp := Dp.mono' (Ex.refl H) h1 (small_py (.lst ds) hw.1)
    exact ⟨p, py (.lst ds), rfl, dp, small_show _ hw.1, py_noDict _, by rw [py_depth]; exact hw.2.1, Nat.le_trans (small_cost _ hw.1) hw.2.2, q _ H _ w (Ex.refl _) c (.str _) k⟩
def kgR4 {α : Type} : List α → List α → List α
  | [], [a, b, c, d] => [d, c, b, a]
  | _, _ => []
theorem kgR4_ok : KwG @kgR4 := ⟨fun h1 h2 => by
  cases h1 with
  | nil => cases h2 with
    | nil => exact .nil
    | cons r t => cases t with
      | nil => exact .nil
      | cons r2 t2 => cases t2 with
        | nil => exact .nil
        | cons r3 t3 => cases t3 with
          | nil => exact .nil
          | cons r4 t4 => cases t4 with
            | nil => exact .cons r4 (.cons r3 (.cons r2 (.cons r .nil)))
            | cons _ _ => exact .nil
  | cons _ _ => cases h2 with
    | nil => exact .nil
    | cons r t => cases t with
      | nil => exact .nil
      | cons _ t2 => cases t2 with
        | nil => exact .nil
        | cons _ t3 => cases t3 with
          | nil => exact .nil
          | cons _ t4 => cases t4 <;> exact .nil⟩
end DL
namespace LW
open PySem PySem.Spec PyProof.Rows L2 DL
section
variable {K : PySem.W.Frag} {W : XK} {δ : Dlt} {w : Wl} {P : PD} {Z : ZD} {E' : XK} {t tk : TA} {te : TE} {C : Addr}
theorem ev_andv {c v : Bool} (h1 : c = true → Ev K W te δ w (fun d w1 => d = .bl v ∧ w1 = w) Z) (h2 : c = false → v = false) (k : P (.bl v) w) : if c = true then Ev K W te δ w P Z else P (.bl false) w := by
  cases c with
  | true => rw [if_pos rfl]; exact (h1 rfl).imp fun d w1 ⟨a, b⟩ => by subst a; subst b; exact k
  | false => rw [if_neg (by decide)]; rw [h2 rfl] at k; exact k
theorem sm_post {ds : List D} {w1 : Wl} {c : Int} {prs : List (Str × Int)} {n : Int} {x y : Str} (e : ds = [.ins C (sumFsB c prs), .int (totS prs + n * (c + 1)), .str x, .str y]) (hs : SumX c prs) (h0 : 0 ≤ n) (h1 : n ≤ 10 ^ 60) (hx : nameS x = true) (hy : nameS y = true) (k : P (.bl (decide (getS prs x > getS prs y + n))) w1) : preSM C ds w1 ∧ ∀ d w3, postSM C ds w1 d w3 → P d w3 := by
  refine ⟨⟨c, prs, n, x, y, e, hs, h0, h1, hx, hy⟩, fun d w3 ⟨k3, e3⟩ => ?_⟩
  rw [e3 c prs n x y e hs.1, k3]
  exact k
theorem ev_sm (h : EvA K W t δ w (fun ds w1 => ∃ c prs n x y, ds = [.ins C (sumFsB c prs), .int (totS prs + n * (c + 1)), .str x, .str y] ∧ SumX c prs ∧ 0 ≤ n ∧ n ≤ 10 ^ 60 ∧ nameS x = true ∧ nameS y = true ∧ P (.bl (decide (getS prs x > getS prs y + n))) w1) Z) : Ev K W (tCall (SpD K (preSM C) (postSM C) zN) [] E' t) δ w P Z :=
  ev_call (fun σ H s Q q z => h σ H s Q (fun v H' d w' e cc r ⟨c, prs, n, x, y, hd, hs, h0, h1, hx, hy, k⟩ => q v H' d w' e cc r (sm_post hd hs h0 h1 hx hy k)) z)
theorem ev_smK {g : {α : Type} → List α → List α → List α} (hg : KwG g) (h : EvA K W t δ w (fun us w1 => EvA K W tk δ w1 (fun zs w2 => ∃ c prs n x y, g us zs = [.ins C (sumFsB c prs), .int (totS prs + n * (c + 1)), .str x, .str y] ∧ SumX c prs ∧ 0 ≤ n ∧ n ≤ 10 ^ 60 ∧ nameS x = true ∧ nameS y = true ∧ P (.bl (decide (getS prs x > getS prs y + n))) w2) Z) Z) : Ev K W (tCallK (SpD K (preSM C) (postSM C) zN) g E' t tk) δ w P Z :=
  ev_callK hg (fun σ H s Q q z => h σ H s Q (fun v H' d w' e cc r h2 => q v H' d w' e cc r (fun σ H s Q q z => h2 σ H s Q (fun v H' d w' e cc r ⟨c, prs, n, x, y, hd, hs, h0, h1, hx, hy, k⟩ => q v H' d w' e cc r (sm_post hd hs h0 h1 hx hy k)) z)) z)
theorem wr_bl2 (a b : Bool) : DL.wr (.lst [.bl a, .bl b]) := by cases a <;> cases b <;> exact ⟨by decide +kernel, by decide +kernel, by rw [sizeLine_eq]; decide +kernel⟩
end
def firstF : D → D | .tup [d, _] => d | _ => .non
theorem first_prs (prs : List (Str × Int)) : (prs.map prD).map firstF = (prs.map (·.1)).map D.str := by
  rw [List.map_map, List.map_map]; rfl
def freshB (ns : List Str) : D → Bool | .str s => !decide (s ∈ ns) | _ => false
theorem fresh_strs (ns xs : List Str) : ((xs.map D.str).filter (freshB ns)).map (fun d => d) = (xs.filter fun s => !decide (s ∈ ns)).map D.str := by
  rw [List.filter_map, List.map_map]; rfl
def depF (g : Int) : D → D | .int s => .int (if g + s > 0 then g + s else 0) | _ => .non
theorem dep_end {n g : Int} (h0 : 0 ≤ n) (h1 : n ≤ 10 ^ 30) (g0 : 0 ≤ g) (g1 : g ≤ 10 ^ 30) : ∃ ns : List Int, [D.int n] ++ [D.int (-1), .int 0, .int 1].map (depF g) = ns.map D.int ∧ ns.length ≤ 10 ∧ ∀ x ∈ ns, 0 ≤ x ∧ x ≤ 10 ^ 31 := by
  refine ⟨[n, if g + -1 > 0 then g + -1 else 0, if g + 0 > 0 then g + 0 else 0, if g + 1 > 0 then g + 1 else 0], rfl, by simp, fun x hx => ?_⟩
  have p31 : (10 : Int) ^ 30 + 1 ≤ 10 ^ 31 := by decide +kernel
  simp only [List.mem_cons, List.not_mem_nil, or_false] at hx
  rcases hx with rfl | rfl | rfl | rfl
  · omega
  · split <;> omega
  · split <;> omega
  · split <;> omega
end LW
set_option Elab.async false
set_option linter.all false
set_option autoImplicit false
set_option maxRecDepth 100000
set_option maxHeartbeats 4000000
/-! DL34: repr of a bool. -/
namespace DL
open PySem PySem.Spec PyProof.Rows L2
def boolS (b : Bool) : Str := if b then "True" else "False"
def rReprB : List V → Hp → VK → Prop := fun vs H Q => ∃ b, vs = [.bl b] ∧ Q (.str (boolS b)) H
theorem call_reprB {X : Cx} : CallR X (.builtin "repr") rReprB := by
  intro pins s σ H xs us Q I r h
  obtain ⟨b, rfl, q⟩ := h
  obtain ⟨u, rfl, rx⟩ := vals1 r
  cases rx
  refine PySem.P.repr_of_bool ⟨.str (boolS b), H, I.tok _, ⟨s.toks, ?_⟩, q⟩
  cases b <;> rfl
section
variable {X : Cx} {K : PySem.W.Frag} {e : Expr} {es : List Expr} {t : TA} {p pos : Pos}
theorem q_reprB (m : X.mg "repr" = none) (hg : Gl X "repr") (ha : PA X (e :: es) t) (he : starEach (e :: es) X.env = (false, eval e X.env) :: starEach es X.env := by rfl) (hpl : (backTo pos (starEach es X.env)).any (·.1) = false := by rfl) :
    PE X (.Call (.Name "repr" p) (e :: es) [] pos) (tCB rReprB t) := pe_callB call_reprB hg m boot_repr ha (by decide) (by decide) he hpl
end
theorem ol_reprB {K : PySem.W.Frag} {w : Wl} {P : PD} {b : Bool} (k : P (.str (boolS b)) w) : OpL K rReprB [.bl b] w P := by
  intro vs H h1 c Q q
  cases h1 with
  | cons h t =>
    cases t
    cases h
    exact ⟨b, rfl, q _ H _ w (Ex.refl _) c (.str _) k⟩
end DL
set_option Elab.async false
set_option linter.all false
set_option autoImplicit false
set_option maxRecDepth 100000
set_option maxHeartbeats 4000000
/-! CB: which true counts fit. -/
namespace LW
open PySem PySem.Spec PyProof.Rows L2 DL
def okLoss (n : Int) (v : Int) : Bool := decide (0 ≤ v) && decide (v ≤ n)
def fitB (c n : Int) (prs a : List (Str × Int)) : Bool := (accS (lossL [] a prs)).all (fun e => okLoss n e.2) && decide (totS a = totS prs + n * (c + 1))
def preFit (C : Addr) (ds : List D) (_ : Wl) : Prop := ∃ (c : Int) (prs a : List (Str × Int)) (n b : Int), ds = [.ins C (sumFsB c prs), .int (totS prs + n * (c + 1)), .tup (a.map prD)] ∧ 1 ≤ c ∧ c ≤ 8 ∧ SumP b c.toNat prs ∧ SumP b 12 a ∧ 0 ≤ n ∧ n ≤ 10 ^ 60
def postFit (C : Addr) (ds : List D) (w : Wl) (d : D) (w' : Wl) : Prop := Keep w w' ∧ ∀ (c : Int) (prs a : List (Str × Int)) (n : Int), ds = [.ins C (sumFsB c prs), .int (totS prs + n * (c + 1)), .tup (a.map prD)] → 1 ≤ c → d = .bl (fitB c n prs a)
def secF : D → D | .tup [_, d] => d | _ => .non
theorem sec_prs (ys : List (Str × Int)) : (ys.map prD).map secF = (ys.map (·.2)).map D.int := by
  rw [List.map_map, List.map_map]; rfl
def chkF (n : Int) : D → D | .int v => .bl (okLoss n v) | _ => .non
theorem chk_ints (n : Int) (vs : List Int) : (vs.map D.int).map (chkF n) = (vs.map (okLoss n)).map D.bl := by
  rw [List.map_map, List.map_map]; rfl
theorem all_perm {α : Type} {f : α → Bool} {a b : List α} (h : a.Perm b) : a.all f = b.all f := by
  rw [Bool.eq_iff_iff, List.all_eq_true, List.all_eq_true]
  exact ⟨fun g x hx => g x (h.mem_iff.mpr hx), fun g x hx => g x (h.mem_iff.mp hx)⟩
theorem fit_of {c n : Int} {prs a ys : List (Str × Int)} (h : Sums (lossL [] a prs) ys) : ((ys.map (·.2)).map (okLoss n)).all id = (accS (lossL [] a prs)).all (fun e => okLoss n e.2) ∧ (ys.map (·.2)).sum = totS a - totS prs := by
  constructor
  · rw [List.all_map, List.all_map]
    exact all_perm h.1
  · have e : (ys.map (·.2)).sum = totS ys := rfl
    rw [e, tot_perm h.1, lossL_tot]
    have e0 : totS [] = 0 := rfl
    omega
def preIsF (ds : List D) (_ : Wl) : Prop := ∃ (prs a : List (Str × Int)) (n g b c : Int), ds = [.tup (prs.map prD), .int n, .int g, .tup (a.map prD)] ∧ c ≤ 8 ∧ SumP b c.toNat prs ∧ SumP b 12 a
def postIsF (ds : List D) (w : Wl) (d : D) (w' : Wl) : Prop := Keep w w' ∧ ∀ (prs a : List (Str × Int)) (n g : Int), ds = [.tup (prs.map prD), .int n, .int g, .tup (a.map prD)] → d = .bl (decide (totS a = g) && (accS (lossL [] a prs)).all (fun e => okLoss n e.2))
def preMov (ds : List D) (w : Wl) : Prop := ∃ (p : Addr) (a : List (Str × Int)) (b : Int), ds = [.ptr p, .tup (a.map prD)] ∧ SumP b 12 a ∧ 0 < a.length ∧ b ≤ 10 ^ 40 ∧ Pl w p w
def postMov (ds : List D) (w : Wl) (d : D) (w' : Wl) : Prop := ∀ p a b, ds = [.ptr p, .tup (a.map prD)] → SumP b 12 a → Pm w p w' ∧ ∃ e : List (Str × Int), d = .tup (e.map prD) ∧ SumP (2 * b) 12 e
theorem pos_sum {b : Int} {xs : List Str} {kv ys : List (Str × Int)} (hx : ∀ x ∈ xs, nameS x = true) (hxl : xs.length ≤ 12) (hkn : (kv.map (·.1)).Nodup) (hkx : ∀ y ∈ kv.map (·.1), y ∈ xs) (hky : ∀ y, 0 ≤ getS kv y ∧ getS kv y ≤ b) (hp : ys.Perm kv) (ha : asc (ys.map (·.1))) : SumP b 12 (posP ys) := by
  have hyn : (ys.map (·.1)).Nodup := (hp.map _).nodup_iff.mpr hkn
  have sub : (posP ys).Sublist ys := List.filter_sublist
  refine ⟨ha.sublist (sub.map _), fun pr hpr => ?_, ?_⟩
  · have hin := sub.subset hpr
    have hpos : pr.2 > 0 := of_decide_eq_true (List.mem_filter.mp hpr).2
    have h1 := getS_mem hyn pr hin
    have h2 := hky pr.1
    rw [← getS_perm hp hyn, h1] at h2
    exact ⟨hx _ (hkx _ ((hp.map _).subset (List.mem_map.mpr ⟨pr, hin, rfl⟩))), by omega, h2.2⟩
  · have h1 := nodup_len hkn hkx
    rw [List.length_map] at h1
    have h2 := sub.length_le
    have h3 := hp.length_eq
    omega
def movS (a : List (Str × Int)) (f g : Str) (s : Int) : List (Str × Int) := putS (putS a f (getS a f - s)) g (getS (putS a f (getS a f - s)) g + s)
theorem mov_nodup {a : List (Str × Int)} {f g : Str} {s : Int} (nd : (a.map (·.1)).Nodup) : ((movS a f g s).map (·.1)).Nodup := putS_nodup (putS_nodup nd _ _) _ _
theorem mov_keys {a : List (Str × Int)} {f g : Str} {s : Int} (hf : f ∈ a.map (·.1)) (hg : g ∈ a.map (·.1)) : ∀ y ∈ (movS a f g s).map (·.1), y ∈ a.map (·.1) := fun y hy => by
  unfold movS at hy
  rw [putS_keys] at hy
  rcases insS_mem.mp hy with h | h
  · rw [putS_keys] at h
    rcases insS_mem.mp h with h | h
    · exact h
    · rw [h]; exact hf
  · rw [h]; exact hg
theorem mov_get {b : Int} {a : List (Str × Int)} {f g : Str} {s : Int} (ha : SumP b 12 a) (h1 : 1 ≤ s) (h2 : s ≤ getS a f) (y : Str) : 0 ≤ getS (movS a f g s) y ∧ getS (movS a f g s) y ≤ 2 * b := by
  have nn : ∀ z, 0 ≤ getS a z := fun z => getS_nn (fun pr hp => by have := (ha.2.1 pr hp).2.1; omega) z
  have bb : ∀ z, z ∈ a.map (·.1) → getS a z ≤ b := fun z hz => by
    obtain ⟨e, he, rfl⟩ := List.mem_map.mp hz
    rw [getS_mem ha.nodup e he]; exact (ha.2.1 e he).2.2
  have fin : f ∈ a.map (·.1) := by
    by_cases h : f ∈ a.map (·.1)
    · exact h
    · rw [getS_new h] at h2; omega
  have hb := bb f fin
  have bz : ∀ z, getS a z ≤ b := fun z => by
    by_cases h : z ∈ a.map (·.1)
    · exact bb z h
    · rw [getS_new h]; omega
  unfold movS
  by_cases hyg : y = g
  · subst hyg
    rw [getS_put]
    by_cases hyf : y = f
    · subst hyf
      rw [getS_put]; have := nn y; have := bz y; omega
    · rw [getS_put_ne _ _ hyf]; have := nn y; have := bz y; omega
  · rw [getS_put_ne _ _ hyg]
    by_cases hyf : y = f
    · subst hyf
      rw [getS_put]; omega
    · rw [getS_put_ne _ _ hyf]; have := nn y; have := bz y; omega
end LW
set_option Elab.async false
set_option linter.all false
set_option autoImplicit false
set_option maxRecDepth 100000
set_option maxHeartbeats 4000000
/-! DL35: branches that join; an owned list seen as plain data from here on; a sum of lists that is owned. -/
namespace DL
open PySem PySem.Spec PyProof.Rows L2
section
variable {K : PySem.W.Frag} {W : XK} {δ : Dlt} {w : Wl} {P : PD} {Z : ZD} {ts tu : TS}
theorem sd_join (J : Dlt → Wl → Prop) {nx : Dlt → Wl → Prop} {rt : PD} {bk ct : Dlt → Wl → Prop} {rz : ZD} (h : Sd K W ts δ w ⟨J, rt, bk, ct, rz⟩) (k : ∀ δ' w', J δ' w' → Sd K W tu δ' w' ⟨nx, rt, bk, ct, rz⟩) : Sd K W (tSeq ts tu) δ w ⟨nx, rt, bk, ct, rz⟩ :=
  fun σ H s Dn ke => h σ H s { Dn with nx := tu Dn } ⟨fun σ' H' δ' w' e s' j => k δ' w' j σ' H' s' Dn (ke.next e), ke.rt, ke.bk, ke.ct, ke.rz⟩
theorem sd_frz {E : EndD} {i : Nat} {q : Addr} {ds : List D} (hv : δ[i]? = some (some (.ptr q))) (hq : w q = some (.lst ds)) (h : Sd K W ts (δ.set i (some (.lst ds))) (cut w q) E) : Sd K W ts δ w E := by
  intro σ H s Dn ke
  obtain ⟨e, c, r⟩ := frz_ok hq s.ce
  obtain ⟨v, hv1, hv2⟩ := s.sl i _ hv
  cases hv2
  refine h σ H ⟨by rw [List.length_set]; exact s.len, fun j d hj => ?_, c⟩ Dn (ke.next e)
  by_cases hji : j = i
  · subst hji
    have hlt : j < δ.length := (List.getElem?_eq_some_iff.mp hv).1
    rw [List.getElem?_set_self hlt] at hj
    cases hj
    exact ⟨_, hv1, r⟩
  · rw [List.getElem?_set_ne (fun z => hji z.symm)] at hj
    obtain ⟨v', h1, h2⟩ := s.sl j d hj
    exact ⟨v', h1, h2.mono e⟩
theorem o2_catOwn {xs ys : List D} (hz : xs.length + ys.length ≤ sizeLine) (k : ∀ p, w p = none → P (.ptr p) (put w p (.lst (xs ++ ys)))) : Op2 K rCat (.lst xs) (.lst ys) w P := by
  intro v u H h1 h2 c Q q
  cases h1 with
  | lst ha ra =>
    cases h2 with
    | lst hb rb =>
      refine ⟨_, _, _, _, rfl, rfl, (msk_some ha).2, (msk_some hb).2, by rw [ra.length, rb.length]; exact hz, fun p hp => ?_⟩
      obtain ⟨e, c'⟩ := own_ok c (ra.append rb) hp
      exact q _ _ _ _ e c' (.ptr p) (k p (c.free hp))
end
end DL
namespace LW
open PySem PySem.Spec PyProof.Rows L2 DL
theorem Pm.cut {w w' : Wl} {p q : Addr} (h : Pm w p w') (n : q ≠ p) (f : w q = none) : Pm w p (DL.cut w' q) := by
  refine ⟨?_, fun r hr e => ?_⟩
  · obtain ⟨a, b, c, e, h1, h2, h3⟩ := h.1.at
    exact Pl.of (by unfold DL.cut; rw [if_neg (Ne.symm n)]; exact e) h1 h2 h3
  · unfold DL.cut
    have ne : r ≠ q := fun z => e (z ▸ f)
    rw [if_neg ne]
    exact h.2 r hr e
end LW
set_option Elab.async false
set_option linter.all false
set_option autoImplicit false
set_option maxRecDepth 100000
set_option maxHeartbeats 4000000
/-! CC: lists of counts, seen as plain tuples; true counts of a case fit. -/
namespace DL
open PySem PySem.Spec PyProof.Rows L2
def wkD : D → D | .btp ds => .tup ds | d => d
section
variable {K : PySem.W.Frag} {G : Hp}
theorem Rp.wk {v : V} {d : D} (h : Rp K G v d) : Rp K G v (wkD d) := by
  unfold wkD
  split
  · exact h.weak
  · exact h
theorem RpA.wk : ∀ {vs : List V} {ds : List D}, RpA K G vs ds → RpA K G vs (ds.map wkD)
  | _, _, .nil => .nil
  | _, _, .cons h r => .cons h.wk r.wk
end
section
variable {K : PySem.W.Frag} {W : XK} {δ : Dlt} {w : Wl} {P : PD} {Z : ZD} {te : TE}
theorem Rp.wkL {G : Hp} {v : V} {ds : List D} (h : Rp K G v (.lst ds)) : Rp K G v (.lst (ds.map wkD)) := by
  cases h with
  | lst h r => exact .lst h r.wk
/-- a list whose tuples are seen as tuples -/
theorem ev_weakL (h : Ev K W te δ w (fun d w1 => ∃ ds, d = .lst ds ∧ P (.lst (ds.map wkD)) w1) Z) : Ev K W te δ w P Z :=
  fun σ H s Q q z => h σ H s Q (fun v H1 d w1 e1 c1 r1 ⟨ds, ed, hp⟩ => by
    subst ed
    exact q v H1 _ w1 e1 c1 r1.wkL hp) z
end
end DL
namespace LW
open PySem PySem.Spec PyProof.Rows L2 DL
def Cand (a : List (Str × Int)) : Prop := SumP (10 ^ 32) 12 a
theorem SumP.up {b b' : Int} {n n' : Nat} {prs : List (Str × Int)} (h : SumP b n prs) (hb : b ≤ b') (hn : n ≤ n') : SumP b' n' prs := (h.bound hb).more hn
theorem case_fits {c n : Int} {prs bag : List (Str × Int)} (h : CaseOk c n prs bag) : fitB c n prs bag = true := by
  obtain ⟨c1, c8, hs, n0, n1, hb, hby, hbt⟩ := h
  unfold fitB
  rw [Bool.and_eq_true]
  refine ⟨List.all_eq_true.mpr fun e he => ?_, decide_eq_true hbt⟩
  have nod := acc_nodup (lossL [] bag prs)
  have e1 := getS_mem nod e he
  rw [lossL_get (p := []) List.nodup_nil hb.nodup hs.nodup, show getS [] e.1 = 0 from rfl] at e1
  have := hby e.1
  unfold okLoss
  rw [Bool.and_eq_true]
  exact ⟨decide_eq_true (by omega), decide_eq_true (by omega)⟩
/-- a list of candidates -/
def Cands (ds : List D) : Prop := ∀ d ∈ ds, ∃ a, d = D.tup (a.map prD) ∧ Cand a
theorem Cands.nil : Cands [] := fun _ h => (List.not_mem_nil h).elim
theorem Cands.cons {a : List (Str × Int)} {ds : List D} (h : Cand a) (t : Cands ds) : Cands (.tup (a.map prD) :: ds) := fun d hd => by
  rcases List.mem_cons.mp hd with rfl | hd
  · exact ⟨a, rfl, h⟩
  · exact t d hd
theorem Cands.app {ds es : List D} (h : Cands ds) (t : Cands es) : Cands (ds ++ es) := fun d hd => by
  rcases List.mem_append.mp hd with hd | hd
  · exact h d hd
  · exact t d hd
theorem Cand.drop {a : List (Str × Int)} (h : Cand a) (i : Nat) : Cand (a.take i ++ a.drop (i + 1)) := by
  have s : (a.take i ++ a.drop (i + 1)).Sublist a := by
    conv => rhs; rw [← List.take_append_drop i a]
    refine List.Sublist.append (List.Sublist.refl _) ?_
    rw [show i + 1 = i + 1 from rfl, ← List.drop_drop]
    exact List.drop_sublist ..
  exact h.sub s (Nat.le_trans s.length_le h.2.2)
theorem Cand.swap {a : List (Str × Int)} {i : Nat} {x : Str} {v u : Int} (h : Cand a) (e : a[i]? = some (x, v)) (h1 : 1 ≤ u) (h2 : u ≤ 10 ^ 32) : Cand (a.take i ++ [(x, u)] ++ a.drop (i + 1)) := by
  have hi : i < a.length := (List.getElem?_eq_some_iff.mp e).1
  have ea : a = a.take i ++ (x, v) :: a.drop (i + 1) := by
    conv => lhs; rw [← List.take_append_drop i a]
    rw [List.drop_eq_getElem_cons hi, (List.getElem?_eq_some_iff.mp e).2]
  refine ⟨?_, fun pr hp => ?_, ?_⟩
  · have h3 := h.1
    rw [ea] at h3
    rw [List.append_assoc, List.singleton_append]
    rw [List.map_append, List.map_cons] at h3 ⊢
    exact h3
  · rw [List.append_assoc, List.singleton_append] at hp
    rcases List.mem_append.mp hp with hp | hp
    · exact h.2.1 pr (List.mem_of_mem_take hp)
    · rcases List.mem_cons.mp hp with rfl | hp
      · exact ⟨(h.2.1 (x, v) (List.mem_of_getElem? e)).1, h1, h2⟩
      · exact h.2.1 pr (List.mem_of_mem_drop hp)
  · have h3 := h.2.2
    rw [ea] at h3
    rw [List.append_assoc, List.singleton_append]
    rw [List.length_append, List.length_cons] at h3 ⊢
    exact h3
theorem at_prD {a : List (Str × Int)} {i : Int} {e : Str × Int} (h : 0 ≤ i) (g : a[i.toNat]? = some e) : atI (a.map prD) i = some (prD e) := by
  have hl := (List.getElem?_eq_some_iff.mp g).1
  unfold atI ixN
  rw [if_pos h, if_pos (by rw [List.length_map]; omega)]
  show (a.map prD)[i.toNat]? = _
  rw [List.getElem?_map, g]
  rfl
theorem sd_lo {K : PySem.W.Frag} {W : XK} {δ : Dlt} {w : Wl} {ts : TS} {E : EndD} {i : Nat} {d6 : D} {ds : List D} (G : Wl → Prop) (hv : δ[i]? = some (some d6)) (h6 : (d6 = .lst ds ∧ G w) ∨ ∃ q, d6 = .ptr q ∧ w q = some (.lst ds) ∧ G (DL.cut w q)) (h : ∀ w2, G w2 → Sd K W ts (δ.set i (some (.lst ds))) w2 E) : Sd K W ts δ w E := by
  rcases h6 with ⟨rfl, g⟩ | ⟨q, rfl, hq, g⟩
  · have e : δ.set i (some (.lst ds)) = δ := by
      refine List.ext_getElem? fun j => ?_
      by_cases hj : j = i
      · subst hj
        rw [List.getElem?_set_self (List.getElem?_eq_some_iff.mp hv).1, hv]
      · rw [List.getElem?_set_ne (fun z => hj z.symm)]
    have := h w g
    rw [e] at this
    exact this
  · exact sd_frz hv hq (h _ g)
section
variable {K : PySem.W.Frag} {W : XK} {δ : Dlt} {w : Wl} {P : PD} {Z : ZD} {E' : XK} {t tk : TA} {te : TE} {C : Addr}
theorem fit_post {ds : List D} {w1 : Wl} {c : Int} {prs a : List (Str × Int)} {n b : Int} (e : ds = [.ins C (sumFsB c prs), .int (totS prs + n * (c + 1)), .tup (a.map prD)]) (c1 : 1 ≤ c) (c8 : c ≤ 8) (hs : SumP b c.toNat prs) (ha : SumP b 12 a) (h0 : 0 ≤ n) (h1 : n ≤ 10 ^ 60) (k : ∀ w2, Keep w1 w2 → P (.bl (fitB c n prs a)) w2) : preFit C ds w1 ∧ ∀ d w3, postFit C ds w1 d w3 → P d w3 := by
  refine ⟨⟨c, prs, a, n, b, e, c1, c8, hs, ha, h0, h1⟩, fun d w3 ⟨k3, e3⟩ => ?_⟩
  rw [e3 c prs a n e c1]
  exact k _ k3
theorem ev_fit (h : EvA K W t δ w (fun ds w1 => ∃ c prs n a b, ds = [.ins C (sumFsB c prs), .int (totS prs + n * (c + 1)), .tup (a.map prD)] ∧ 1 ≤ c ∧ c ≤ 8 ∧ SumP b c.toNat prs ∧ SumP b 12 a ∧ 0 ≤ n ∧ n ≤ 10 ^ 60 ∧ ∀ w2, Keep w1 w2 → P (.bl (fitB c n prs a)) w2) Z) : Ev K W (tCall (SpD K (preFit C) (postFit C) zN) [] E' t) δ w P Z :=
  ev_call (fun σ H s Q q z => h σ H s Q (fun v H' d w' e cc r ⟨c, prs, n, a, b, hd, c1, c8, hs, ha, h0, h1, k⟩ => q v H' d w' e cc r (fit_post hd c1 c8 hs ha h0 h1 k)) z)
theorem ev_fitK {g : {α : Type} → List α → List α → List α} (hg : KwG g) (h : EvA K W t δ w (fun us w1 => EvA K W tk δ w1 (fun zs w2 => ∃ c prs n a b, g us zs = [.ins C (sumFsB c prs), .int (totS prs + n * (c + 1)), .tup (a.map prD)] ∧ 1 ≤ c ∧ c ≤ 8 ∧ SumP b c.toNat prs ∧ SumP b 12 a ∧ 0 ≤ n ∧ n ≤ 10 ^ 60 ∧ ∀ w3, Keep w2 w3 → P (.bl (fitB c n prs a)) w3) Z) Z) : Ev K W (tCallK (SpD K (preFit C) (postFit C) zN) g E' t tk) δ w P Z :=
  ev_callK hg (fun σ H s Q q z => h σ H s Q (fun v H' d w' e cc r h2 => q v H' d w' e cc r (fun σ H s Q q z => h2 σ H s Q (fun v H' d w' e cc r ⟨c, prs, n, a, b, hd, c1, c8, hs, ha, h0, h1, k⟩ => q v H' d w' e cc r (fit_post hd c1 c8 hs ha h0 h1 k)) z)) z)
end
theorem wr_bl1 (a : Bool) : DL.wr (.bl a) := by cases a <;> exact ⟨by decide +kernel, by decide +kernel, by rw [sizeLine_eq]; decide +kernel⟩
theorem fit_is {c n : Int} {prs a : List (Str × Int)} : (decide (totS a = totS prs + n * (c + 1)) && (accS (lossL [] a prs)).all (fun e => okLoss n e.2)) = fitB c n prs a := Bool.and_comm ..
end LW
set_option Elab.async false
set_option linter.all false
set_option autoImplicit false
set_option maxRecDepth 100000
set_option maxHeartbeats 4000000
/-! CD: ranges of true counts. -/
namespace LW
open PySem PySem.Spec PyProof.Rows L2 DL
def preTR (C : Addr) (ds : List D) (_ : Wl) : Prop := ∃ (c : Int) (prs : List (Str × Int)) (n : Int) (x : Str), ds = [.ins C (sumFsB c prs), .int (totS prs + n * (c + 1)), .str x] ∧ SumX c prs ∧ 0 ≤ n ∧ n ≤ 10 ^ 60 ∧ nameS x = true
def postTR (C : Addr) (ds : List D) (w : Wl) (d : D) (w' : Wl) : Prop := w' = w ∧ ∀ (c : Int) (prs : List (Str × Int)) (n : Int) (x : Str), ds = [.ins C (sumFsB c prs), .int (totS prs + n * (c + 1)), .str x] → 1 ≤ c → d = .tup [.int (getS prs x), .int (getS prs x + n)]
section
variable {K : PySem.W.Frag} {W : XK} {δ : Dlt} {w : Wl} {P : PD} {Z : ZD} {E' : XK} {t tk : TA} {te : TE} {C : Addr}
theorem tr_post {ds : List D} {w1 : Wl} {c : Int} {prs : List (Str × Int)} {n : Int} {x : Str} (e : ds = [.ins C (sumFsB c prs), .int (totS prs + n * (c + 1)), .str x]) (hs : SumX c prs) (h0 : 0 ≤ n) (h1 : n ≤ 10 ^ 60) (hx : nameS x = true) (k : P (.tup [.int (getS prs x), .int (getS prs x + n)]) w1) : preTR C ds w1 ∧ ∀ d w3, postTR C ds w1 d w3 → P d w3 := by
  refine ⟨⟨c, prs, n, x, e, hs, h0, h1, hx⟩, fun d w3 ⟨k3, e3⟩ => ?_⟩
  rw [e3 c prs n x e hs.1, k3]
  exact k
theorem ev_tr (h : EvA K W t δ w (fun ds w1 => ∃ c prs n x, ds = [.ins C (sumFsB c prs), .int (totS prs + n * (c + 1)), .str x] ∧ SumX c prs ∧ 0 ≤ n ∧ n ≤ 10 ^ 60 ∧ nameS x = true ∧ P (.tup [.int (getS prs x), .int (getS prs x + n)]) w1) Z) : Ev K W (tCall (SpD K (preTR C) (postTR C) zN) [] E' t) δ w P Z :=
  ev_call (fun σ H s Q q z => h σ H s Q (fun v H' d w' e cc r ⟨c, prs, n, x, hd, hs, h0, h1, hx, k⟩ => q v H' d w' e cc r (tr_post hd hs h0 h1 hx k)) z)
theorem ev_trK {g : {α : Type} → List α → List α → List α} (hg : KwG g) (h : EvA K W t δ w (fun us w1 => EvA K W tk δ w1 (fun zs w2 => ∃ c prs n x, g us zs = [.ins C (sumFsB c prs), .int (totS prs + n * (c + 1)), .str x] ∧ SumX c prs ∧ 0 ≤ n ∧ n ≤ 10 ^ 60 ∧ nameS x = true ∧ P (.tup [.int (getS prs x), .int (getS prs x + n)]) w2) Z) Z) : Ev K W (tCallK (SpD K (preTR C) (postTR C) zN) g E' t tk) δ w P Z :=
  ev_callK hg (fun σ H s Q q z => h σ H s Q (fun v H' d w' e cc r h2 => q v H' d w' e cc r (fun σ H s Q q z => h2 σ H s Q (fun v H' d w' e cc r ⟨c, prs, n, x, hd, hs, h0, h1, hx, k⟩ => q v H' d w' e cc r (tr_post hd hs h0 h1 hx k)) z)) z)
end
/-- so many units on each of these names -/
def layS (prs : List (Str × Int)) (xs : List Str) (n : Int) : List (Str × Int) := accS (prs ++ xs.map fun x => (x, n))
theorem lay_nil {prs : List (Str × Int)} (nd : (prs.map (·.1)).Nodup) {n : Int} : layS prs [] n = prs := by
  unfold layS
  rw [List.map_nil, List.append_nil]
  exact acc_self prs nd
theorem lay_snoc (prs : List (Str × Int)) (xs : List Str) (n : Int) (x : Str) : layS prs (xs ++ [x]) n = putS (layS prs xs n) x (getS (layS prs xs n) x + n) := by
  unfold layS
  rw [List.map_append, ← List.append_assoc]
  exact acc_snoc _ _
theorem lay_get {prs : List (Str × Int)} (nd : (prs.map (·.1)).Nodup) {xs : List Str} (hx : xs.Nodup) (n : Int) (y : Str) : getS (layS prs xs n) y = getS prs y + if y ∈ xs then n else 0 := by
  unfold layS
  rw [acc_get, sumN_app, sumN_get nd]
  have e : ((xs.map fun x => (x, n)).map (·.1)) = xs := by rw [List.map_map]; exact List.map_id' _
  rw [sumN_get (by rw [e]; exact hx)]
  split
  · rename_i h
    rw [getS_mem (kvs := xs.map fun x => (x, n)) (by rw [e]; exact hx) (y, n) (List.mem_map.mpr ⟨y, h, rfl⟩)]
  · rename_i h
    rw [getS_new (kvs := xs.map fun x => (x, n)) (by rw [e]; exact h)]
theorem lay_nodup (prs : List (Str × Int)) (xs : List Str) (n : Int) : ((layS prs xs n).map (·.1)).Nodup := acc_nodup _
theorem lay_keys {prs : List (Str × Int)} {xs : List Str} {n : Int} {y : Str} (h : y ∈ (layS prs xs n).map (·.1)) : y ∈ prs.map (·.1) ∨ y ∈ xs := by
  have h2 := (acc_mem y _).mp h
  rw [List.map_append] at h2
  rcases List.mem_append.mp h2 with h2 | h2
  · exact .inl h2
  · rw [List.map_map] at h2
    obtain ⟨x, hx, rfl⟩ := List.mem_map.mp h2
    exact .inr hx
theorem tot_same (xs : List Str) (n : Int) : totS (xs.map fun x => (x, n)) = n * xs.length := by
  induction xs with
  | nil => simp [totS]
  | cons x xs ih =>
    unfold totS at ih ⊢
    rw [List.map_cons, List.map_cons, List.sum_cons, ih, List.length_cons]
    push_cast
    rw [Int.mul_add, Int.mul_one]; omega
theorem lay_tot (prs : List (Str × Int)) (xs : List Str) (n : Int) : totS (layS prs xs n) = totS prs + n * xs.length := by
  unfold layS
  rw [acc_tot, tot_app, tot_same]
theorem lay_len (prs : List (Str × Int)) (xs : List Str) (n : Int) : (layS prs xs n).length ≤ prs.length + xs.length := by
  refine Nat.le_trans (acc_len _) ?_
  rw [List.length_append, List.length_map]
  exact Nat.le_refl _
def preSpr (ds : List D) (_ : Wl) : Prop := ∃ (prs : List (Str × Int)) (xs : List Str) (k n : Int), ds = [.tup (prs.map prD), .lst (xs.map D.str), .int (n * k), .int n] ∧ SumP (10 ^ 30) 8 prs ∧ xs.Nodup ∧ (∀ x ∈ xs, nameS x = true) ∧ (xs.length : Int) ≤ k ∧ k ≤ 9 ∧ 0 ≤ n ∧ n ≤ 10 ^ 30
def SprOk (prs : List (Str × Int)) (xs : List Str) (n : Int) (e : List (Str × Int)) : Prop := SumP (2 * 10 ^ 30) 20 e ∧ (∀ y, getS e y = getS prs y + if y ∈ xs then n else 0) ∧ totS e = totS prs + n * xs.length
def postSpr (ds : List D) (w : Wl) (d : D) (w' : Wl) : Prop := Keep w w' ∧ ∀ (prs : List (Str × Int)) (xs : List Str) (k n : Int), ds = [.tup (prs.map prD), .lst (xs.map D.str), .int (n * k), .int n] → ∃ e : List (Str × Int), d = .lst [.tup (e.map prD), .int (n * k - n * xs.length)] ∧ SprOk prs xs n e
theorem spr_ok {prs : List (Str × Int)} {xs : List Str} {n : Int} {ys : List (Str × Int)} (hs : SumP (10 ^ 30) 8 prs) (hx : xs.Nodup) (hxn : ∀ x ∈ xs, nameS x = true) (hl : xs.length ≤ 9) (n0 : 0 ≤ n) (n1 : n ≤ 10 ^ 30) (hp : ys.Perm (layS prs xs n)) (ha : asc (ys.map (·.1))) : SprOk prs xs n (posP ys) := by
  have nd := lay_nodup prs xs n
  have yn : (ys.map (·.1)).Nodup := (hp.map _).nodup_iff.mpr nd
  have gp : ∀ y, 0 ≤ getS prs y ∧ getS prs y ≤ 10 ^ 30 := fun y => by
    by_cases h : y ∈ prs.map (·.1)
    · obtain ⟨e, he, rfl⟩ := List.mem_map.mp h
      rw [getS_mem hs.nodup e he]; have := hs.2.1 e he; omega
    · rw [getS_new h]; exact ⟨by decide, by decide⟩
  have gy : ∀ y, getS ys y = getS prs y + if y ∈ xs then n else 0 := fun y => by rw [getS_perm hp yn, lay_get hs.nodup hx]
  have g0 : ∀ y, 0 ≤ getS ys y ∧ getS ys y ≤ 2 * 10 ^ 30 := fun y => by rw [gy]; have := gp y; split <;> omega
  have ye : ∀ e ∈ ys, 0 ≤ e.2 := fun e he => by have := (g0 e.1).1; rw [getS_mem yn e he] at this; exact this
  have sub : (posP ys).Sublist ys := List.filter_sublist
  refine ⟨⟨ha.sublist (sub.map _), fun pr hpr => ?_, ?_⟩, fun y => ?_, ?_⟩
  · have hin := sub.subset hpr
    have hpos : pr.2 > 0 := of_decide_eq_true (List.mem_filter.mp hpr).2
    have h1 := getS_mem yn pr hin
    have h2 := g0 pr.1
    rw [h1] at h2
    refine ⟨?_, by omega, h2.2⟩
    rcases lay_keys ((hp.map _).subset (List.mem_map.mpr ⟨pr, hin, rfl⟩)) with h | h
    · obtain ⟨e, he, hee⟩ := List.mem_map.mp h
      rw [← hee]; exact (hs.2.1 e he).1
    · exact hxn _ h
  · have h1 := sub.length_le
    have h2 := hp.length_eq
    have h3 := lay_len prs xs n
    have h4 := hs.2.2
    omega
  · rw [pos_get yn (fun y => (g0 y).1), gy]
  · rw [pos_tot ye, tot_perm hp, lay_tot]
theorem SprOk.fits {prs e : List (Str × Int)} {xs : List Str} {n c : Int} (h : SprOk prs xs n e) (hs : (prs.map (·.1)).Nodup) (n0 : 0 ≤ n) (hl : (xs.length : Int) = c + 1) : fitB c n prs e = true := by
  unfold fitB
  rw [Bool.and_eq_true]
  refine ⟨List.all_eq_true.mpr fun f hf => ?_, decide_eq_true (by rw [h.2.2, hl])⟩
  have nod := acc_nodup (lossL [] e prs)
  have e1 := getS_mem nod f hf
  rw [lossL_get (p := []) List.nodup_nil h.1.nodup hs, show getS [] f.1 = 0 from rfl, h.2.1] at e1
  unfold okLoss
  rw [Bool.and_eq_true]
  split at e1
  · exact ⟨decide_eq_true (by omega), decide_eq_true (by omega)⟩
  · exact ⟨decide_eq_true (by omega), decide_eq_true (by omega)⟩
end LW
set_option Elab.async false
set_option linter.all false
set_option autoImplicit false
set_option maxRecDepth 100000
set_option maxHeartbeats 4000000
/-! CE: other names; pairs shown. -/
namespace LW
open PySem PySem.Spec PyProof.Rows L2 DL
def neB (x : Str) : D → Bool | .str s => !decide (s = x) | _ => false
theorem ne_strs (x : Str) (xs : List Str) : ((xs.map D.str).filter (neB x)).map (fun d => d) = (xs.filter fun s => !decide (s = x)).map D.str := by
  rw [List.filter_map, List.map_map]; rfl
def neFreshB (x : Str) (ns : List Str) : D → Bool | .str s => !decide (s = x) && !decide (s ∈ ns) | _ => false
theorem neFresh_strs (x : Str) (ns xs : List Str) : ((xs.map D.str).filter (neFreshB x ns)).map (fun d => d) = (xs.filter fun s => !decide (s = x) && !decide (s ∈ ns)).map D.str := by
  rw [List.filter_map, List.map_map]; rfl
def fresh10 : List Str := ["qa", "qb", "qc", "qd", "qe", "qf", "qg", "qh", "qi", "qj"]
def othS (ns : List Str) (x : Str) : List Str := (ns.filter fun s => !decide (s = x)) ++ (fresh10.filter fun s => !decide (s = x) && !decide (s ∈ ns))
theorem fresh_nodup : fresh10.Nodup := by decide +kernel
theorem oth_nodup {ns : List Str} (h : ns.Nodup) (x : Str) : (othS ns x).Nodup := by
  unfold othS
  rw [List.nodup_append]
  refine ⟨h.sublist List.filter_sublist, fresh_nodup.sublist List.filter_sublist, fun a ha b hb e => ?_⟩
  subst e
  have h1 := (List.mem_filter.mp ha).1
  have h2 := (List.mem_filter.mp hb).2
  simp [h1] at h2
theorem oth_ne {ns : List Str} {x y : Str} (h : y ∈ othS ns x) : y ≠ x := by
  unfold othS at h
  rcases List.mem_append.mp h with h | h
  · have := (List.mem_filter.mp h).2; simpa using this
  · have := (List.mem_filter.mp h).2
    simp at this
    exact this.1
theorem oth_name {ns : List Str} {x : Str} (hn : ∀ y ∈ ns, nameS y = true) : ∀ y ∈ othS ns x, nameS y = true := fun y h => by
  unfold othS at h
  rcases List.mem_append.mp h with h | h
  · exact hn y (List.mem_filter.mp h).1
  · have h1 := (List.mem_filter.mp h).1
    have : ∀ y ∈ fresh10, nameS y = true := by decide +kernel
    exact this y h1
theorem oth_len (ns : List Str) (x : Str) : 9 ≤ (othS ns x).length := by
  have h : fresh10.length ≤ (x :: othS ns x).length := nodup_len fresh_nodup fun f hf => by
    by_cases e : f = x
    · rw [e]; exact List.mem_cons_self ..
    · refine List.mem_cons_of_mem _ ?_
      unfold othS
      by_cases g : f ∈ ns
      · exact List.mem_append.mpr (.inl (List.mem_filter.mpr ⟨g, by simp [e]⟩))
      · exact List.mem_append.mpr (.inr (List.mem_filter.mpr ⟨hf, by simp [e, g]⟩))
  have h10 : fresh10.length = 10 := rfl
  rw [List.length_cons, h10] at h
  omega
theorem oth_few {ns : List Str} (x : Str) : (othS ns x).length ≤ ns.length + 10 := by
  unfold othS
  rw [List.length_append]
  have h1 := List.length_filter_le (fun s => !decide (s = x)) ns
  have h2 := List.length_filter_le (fun s => !decide (s = x) && !decide (s ∈ ns)) fresh10
  have h10 : fresh10.length = 10 := rfl
  omega
theorem small_int {i : Int} (h0 : 0 ≤ i) (h1 : i ≤ 10 ^ 40) : small (.int i) = true := by
  simp only [small]
  exact decide_eq_true (by
    rcases Nat.eq_zero_or_pos i.natAbs with z | z
    · rw [z]; decide
    · refine (Nat.log2_lt (by omega)).mpr (Nat.lt_of_le_of_lt (m := 10 ^ 40) (by omega) (by decide +kernel)))
theorem wr_ii4 {a b c d e f g h : Int} (ha : 0 ≤ a ∧ a ≤ 10 ^ 40) (hb : 0 ≤ b ∧ b ≤ 10 ^ 40) (hc : 0 ≤ c ∧ c ≤ 10 ^ 40) (hd : 0 ≤ d ∧ d ≤ 10 ^ 40) (he : 0 ≤ e ∧ e ≤ 10 ^ 40) (hf : 0 ≤ f ∧ f ≤ 10 ^ 40) (hg : 0 ≤ g ∧ g ≤ 10 ^ 40) (hh : 0 ≤ h ∧ h ≤ 10 ^ 40) :
    DL.wr (.lst [.tup [.int a, .int b], .tup [.int c, .int d], .tup [.int e, .int f], .tup [.int g, .int h]]) := by
  have s := fun (i : Int) (z : 0 ≤ i ∧ i ≤ 10 ^ 40) => small_int z.1 z.2
  refine ⟨?_, ?_, ?_⟩
  · simp only [small.eq_3, small.eq_4, smallA, s a ha, s b hb, s c hc, s d hd, s e he, s f hf, s g hg, s h hh, Bool.and_self]
  · simp [deepD, deepA]
  · simp only [costD, costA]
    rw [sizeLine_eq]
    omega
theorem spr_get {prs e : List (Str × Int)} {xs : List Str} {n : Int} (h : SprOk prs xs n e) {x : Str} (hx : x ∉ xs) : getS e x = getS prs x := by
  rw [h.2.1, if_neg hx, Int.add_zero]
theorem spr_get2 {prs e : List (Str × Int)} {xs : List Str} {n : Int} (h : SprOk prs xs n e) {x : Str} (hx : x ∈ xs) : getS e x = getS prs x + n := by
  rw [h.2.1, if_pos hx]
theorem get_range {b : Int} {k : Nat} {prs : List (Str × Int)} (h : SumP b k prs) (hb : 0 ≤ b) (y : Str) : 0 ≤ getS prs y ∧ getS prs y ≤ b := by
  by_cases q : y ∈ prs.map (·.1)
  · obtain ⟨e, he, rfl⟩ := List.mem_map.mp q
    rw [getS_mem h.nodup e he]; have := h.2.1 e he; omega
  · rw [getS_new q]; exact ⟨by decide, hb⟩
end LW
set_option Elab.async false
set_option linter.all false
set_option autoImplicit false
set_option maxRecDepth 100000
set_option maxHeartbeats 4000000
/-! CF: names ahead. -/
namespace LW
open PySem PySem.Spec PyProof.Rows L2 DL
def missV (g v : Int) : Int := if g - v > 0 then g - v else 0
def nearS (prs : List (Str × Int)) (x : Str) (n g : Int) : List Int := ((prs.filter fun e => !decide (e.1 = x)).map fun e => missV g e.2).filter fun u => decide (u ≤ n)
def mostS (c n : Int) (prs : List (Str × Int)) (x : Str) : Int :=
  if getS prs x + 1 > n then (nearS prs x n (getS prs x + 1)).length else (nearS prs x n (getS prs x + 1)).length + (n * (c + 1) - (nearS prs x n (getS prs x + 1)).sum) / (getS prs x + 1)
/-! choices -/
def chS (L : List Int) : List (Int × Int) := L.foldl (fun f v => f ++ f.map fun e => (e.1 + 1, e.2 + v)) [(0, 0)]
theorem ch_snoc (L : List Int) (v : Int) : chS (L ++ [v]) = chS L ++ (chS L).map fun e => (e.1 + 1, e.2 + v) := by
  unfold chS
  rw [List.foldl_append]; rfl
theorem ch_len (L : List Int) : (chS L).length = 2 ^ L.length := by
  refine snoc_ind (P := fun L => (chS L).length = 2 ^ L.length) rfl (fun L v ih => ?_) L
  rw [ch_snoc, List.length_append, List.length_map, ih, List.length_append]
  show _ = 2 ^ (_ + 1)
  rw [Nat.pow_succ]; omega
theorem ch_full (L : List Int) : ((L.length : Int), L.sum) ∈ chS L := by
  refine snoc_ind (P := fun L => ((L.length : Int), L.sum) ∈ chS L) (by decide) (fun L v ih => ?_) L
  rw [ch_snoc]
  refine List.mem_append.mpr (.inr (List.mem_map.mpr ⟨_, ih, ?_⟩))
  rw [List.length_append, List.sum_append]
  simp
theorem ch_ok {g : Int} (L : List Int) : (∀ v ∈ L, 0 ≤ v ∧ v ≤ g) → ∀ e ∈ chS L, 0 ≤ e.1 ∧ e.1 ≤ L.length ∧ 0 ≤ e.2 ∧ e.2 ≤ L.sum ∧ L.sum - e.2 ≤ g * (L.length - e.1) := by
  refine snoc_ind (P := fun L => (∀ v ∈ L, 0 ≤ v ∧ v ≤ g) → ∀ e ∈ chS L, 0 ≤ e.1 ∧ e.1 ≤ L.length ∧ 0 ≤ e.2 ∧ e.2 ≤ L.sum ∧ L.sum - e.2 ≤ g * (L.length - e.1)) (fun _ e he => ?_) (fun L v ih h e he => ?_) L
  · have : e = (0, 0) := by simpa [chS] using he
    subst this
    simp
  · have ih := ih fun u hu => h u (List.mem_append.mpr (.inl hu))
    have hv := h v (List.mem_append.mpr (.inr (List.mem_singleton.mpr rfl)))
    have hl : ((L ++ [v]).length : Int) = L.length + 1 := by rw [List.length_append]; simp
    have hs : (L ++ [v]).sum = L.sum + v := by rw [List.sum_append]; simp
    rw [hl, hs]
    rw [ch_snoc] at he
    rcases List.mem_append.mp he with he | he
    · obtain ⟨h1, h2, h3, h4, h5⟩ := ih e he
      refine ⟨h1, by omega, h3, by omega, ?_⟩
      rw [show (L.length : Int) + 1 - e.1 = (L.length : Int) - e.1 + 1 by omega, Int.mul_add, Int.mul_one]
      omega
    · obtain ⟨f, hf, rfl⟩ := List.mem_map.mp he
      obtain ⟨h1, h2, h3, h4, h5⟩ := ih f hf
      refine ⟨by show 0 ≤ f.1 + 1; omega, by show f.1 + 1 ≤ _; omega, by show 0 ≤ f.2 + v; omega, by show f.2 + v ≤ _; omega, ?_⟩
      show L.sum + v - (f.2 + v) ≤ g * ((L.length : Int) + 1 - (f.1 + 1))
      rw [show (L.length : Int) + 1 - (f.1 + 1) = (L.length : Int) - f.1 by omega]
      omega
def valS (U g n : Int) (e : Int × Int) : Int := e.1 + if g ≤ n then (U - e.2) / g else 0
def topS (U g n : Int) (L : List Int) : Int := if g > n then (L.length : Int) else (L.length : Int) + (U - L.sum) / g
theorem val_full (U g n : Int) (L : List Int) : valS U g n ((L.length : Int), L.sum) = topS U g n L := by
  unfold valS topS
  by_cases h : g ≤ n
  · rw [if_pos h, if_neg (by omega)]
  · rw [if_neg h, if_pos (by omega)]; omega
theorem val_le {U g n : Int} {L : List Int} (g1 : 1 ≤ g) (hL : ∀ v ∈ L, 0 ≤ v ∧ v ≤ g) {e : Int × Int} (he : e ∈ chS L) : valS U g n e ≤ topS U g n L := by
  obtain ⟨h1, h2, h3, h4, h5⟩ := ch_ok L hL e he
  unfold valS topS
  by_cases h : g ≤ n
  · rw [if_pos h, if_neg (by omega)]
    have q : U - e.2 ≤ (U - L.sum) + g * ((L.length : Int) - e.1) := by omega
    have q2 := Int.ediv_le_ediv (c := g) (by omega) q
    rw [Int.add_mul_ediv_left _ _ (by omega)] at q2
    omega
  · rw [if_neg h, if_pos (by omega)]; omega
theorem near_ok {prs : List (Str × Int)} {x : Str} {n g : Int} : ∀ v ∈ nearS prs x n g, 0 ≤ v ∧ v ≤ n := fun v hv => by
  unfold nearS at hv
  obtain ⟨h1, h2⟩ := List.mem_filter.mp hv
  obtain ⟨e, he, rfl⟩ := List.mem_map.mp h1
  refine ⟨?_, of_decide_eq_true h2⟩
  unfold missV
  split <;> omega
theorem near_g {b : Int} {k : Nat} {prs : List (Str × Int)} {x : Str} {n g : Int} (hs : SumP b k prs) (g1 : 1 ≤ g) : ∀ v ∈ nearS prs x n g, 0 ≤ v ∧ v ≤ g := fun v hv => by
  refine ⟨(near_ok v hv).1, ?_⟩
  unfold nearS at hv
  obtain ⟨h1, h2⟩ := List.mem_filter.mp hv
  obtain ⟨e, he, rfl⟩ := List.mem_map.mp h1
  have := hs.2.1 e (List.mem_filter.mp he).1
  unfold missV
  split <;> omega
theorem near_len (prs : List (Str × Int)) (x : Str) (n g : Int) : (nearS prs x n g).length ≤ prs.length := by
  unfold nearS
  refine Nat.le_trans (List.length_filter_le ..) ?_
  rw [List.length_map]
  exact List.length_filter_le ..
theorem sum_le {n : Int} : ∀ {L : List Int}, (∀ v ∈ L, 0 ≤ v ∧ v ≤ n) → 0 ≤ L.sum ∧ L.sum ≤ n * L.length
  | [], _ => by simp
  | v :: L, h => by
    have h1 := h v (List.mem_cons_self ..)
    obtain ⟨h2, h3⟩ := sum_le (L := L) fun u hu => h u (List.mem_cons_of_mem _ hu)
    rw [List.sum_cons, List.length_cons]
    push_cast
    rw [Int.mul_add, Int.mul_one]
    omega
theorem near_sum {b c : Int} {prs : List (Str × Int)} {x : Str} {n g : Int} (hs : SumP b c.toNat prs) (c1 : 1 ≤ c) (n0 : 0 ≤ n) : 0 ≤ (nearS prs x n g).sum ∧ (nearS prs x n g).sum ≤ n * (c + 1) := by
  obtain ⟨h1, h2⟩ := sum_le (near_ok (prs := prs) (x := x) (n := n) (g := g))
  refine ⟨h1, Int.le_trans h2 (Int.mul_le_mul_of_nonneg_left ?_ n0)⟩
  have := near_len prs x n g
  have := hs.2.2
  omega
theorem most_top (c n : Int) (prs : List (Str × Int)) (x : Str) : mostS c n prs x = topS (n * (c + 1)) (getS prs x + 1) n (nearS prs x n (getS prs x + 1)) := rfl
theorem most_nn {b c : Int} {prs : List (Str × Int)} {x : Str} {n : Int} (hs : SumP b c.toNat prs) (c1 : 1 ≤ c) (b0 : 0 ≤ b) (n0 : 0 ≤ n) : 0 ≤ mostS c n prs x ∧ mostS c n prs x ≤ 8 + n * (c + 1) + c := by
  have h2 := near_sum (x := x) (g := getS prs x + 1) hs c1 n0
  have h3 := near_len prs x n (getS prs x + 1)
  have h4 := hs.2.2
  have h5 := (get_range hs b0 x).1
  have h6 : 0 ≤ n * (c + 1) := Int.mul_nonneg n0 (by omega)
  unfold mostS
  split
  · omega
  · have q0 : 0 ≤ (n * (c + 1) - (nearS prs x n (getS prs x + 1)).sum) / (getS prs x + 1) := Int.ediv_nonneg (by omega) (by omega)
    have q1 : (n * (c + 1) - (nearS prs x n (getS prs x + 1)).sum) / (getS prs x + 1) ≤ n * (c + 1) - (nearS prs x n (getS prs x + 1)).sum := Int.ediv_le_self _ (by omega)
    omega
/-! data -/
def chD (e : Int × Int) : D := .tup [.int e.1, .int e.2]
def missF (g : Int) : D → D | .tup [_, .int v] => .int (missV g v) | _ => .non
def neKeyB (x : Str) : D → Bool | .tup [.str s, _] => !decide (s = x) | _ => false
def leB (n : Int) : D → Bool | .int v => decide (v ≤ n) | _ => false
theorem miss_data (prs : List (Str × Int)) (x : Str) (g : Int) : ((prs.map prD).filter (neKeyB x)).map (missF g) = ((prs.filter fun e => !decide (e.1 = x)).map fun e => missV g e.2).map D.int := by
  rw [List.filter_map, List.map_map, List.map_map]; rfl
theorem near_data (n : Int) (L : List Int) : ((L.map D.int).filter (leB n)).map (fun d => d) = (L.filter fun u => decide (u ≤ n)).map D.int := by
  rw [List.filter_map, List.map_map]; rfl
def chF (v : Int) : D → D | .tup [.int a, .int b] => .tup [.int (a + 1), .int (b + v)] | _ => .non
theorem ch_data (v : Int) (f : List (Int × Int)) : (f.map chD).map (chF v) = (f.map fun e => (e.1 + 1, e.2 + v)).map chD := by
  rw [List.map_map, List.map_map]; rfl
def preMA (C : Addr) (ds : List D) (_ : Wl) : Prop := ∃ (c : Int) (prs : List (Str × Int)) (n : Int) (x : Str), ds = [.ins C (sumFsB c prs), .int (totS prs + n * (c + 1)), .str x] ∧ 1 ≤ c ∧ c ≤ 8 ∧ SumP (10 ^ 30) c.toNat prs ∧ 0 ≤ n ∧ n ≤ 10 ^ 31 ∧ nameS x = true
def postMA (C : Addr) (ds : List D) (w : Wl) (d : D) (w' : Wl) : Prop := w' = w ∧ ∀ (c : Int) (prs : List (Str × Int)) (n : Int) (x : Str), ds = [.ins C (sumFsB c prs), .int (totS prs + n * (c + 1)), .str x] → 1 ≤ c → d = .int (mostS c n prs x)
def preSA (C : Addr) (ds : List D) (_ : Wl) : Prop := ∃ (c : Int) (prs : List (Str × Int)) (n : Int) (x : Str) (k : Int), ds = [.ins C (sumFsB c prs), .int (totS prs + n * (c + 1)), .str x, .int k] ∧ 1 ≤ c ∧ c ≤ 8 ∧ SumP (10 ^ 30) c.toNat prs ∧ 0 ≤ n ∧ n ≤ 10 ^ 31 ∧ nameS x = true ∧ 1 ≤ k
def postSA (C : Addr) (ds : List D) (w : Wl) (d : D) (w' : Wl) : Prop := w' = w ∧ ∀ (c : Int) (prs : List (Str × Int)) (n : Int) (x : Str) (k : Int), ds = [.ins C (sumFsB c prs), .int (totS prs + n * (c + 1)), .str x, .int k] → 1 ≤ c → d = .bl (decide (mostS c n prs x < k))
section
variable {K : PySem.W.Frag} {W : XK} {δ : Dlt} {w : Wl} {P : PD} {Z : ZD} {E' : XK} {t tk : TA} {te : TE} {C : Addr}
def MaOk (C : Addr) (P : PD) (ds : List D) (w1 : Wl) : Prop := ∃ c prs n x, ds = [.ins C (sumFsB c prs), .int (totS prs + n * (c + 1)), .str x] ∧ 1 ≤ c ∧ c ≤ 8 ∧ SumP (10 ^ 30) c.toNat prs ∧ 0 ≤ n ∧ n ≤ 10 ^ 31 ∧ nameS x = true ∧ P (.int (mostS c n prs x)) w1
theorem ma_post {ds : List D} {w1 : Wl} (h : MaOk C P ds w1) : preMA C ds w1 ∧ ∀ d w3, postMA C ds w1 d w3 → P d w3 := by
  obtain ⟨c, prs, n, x, e, c1, c8, hs, h0, h1, hx, k⟩ := h
  refine ⟨⟨c, prs, n, x, e, c1, c8, hs, h0, h1, hx⟩, fun d w3 ⟨k3, e3⟩ => ?_⟩
  rw [e3 c prs n x e c1, k3]
  exact k
theorem ev_ma (h : EvA K W t δ w (MaOk C P) Z) : Ev K W (tCall (SpD K (preMA C) (postMA C) zN) [] E' t) δ w P Z :=
  ev_call (fun σ H s Q q z => h σ H s Q (fun v H' d w' e cc r h => q v H' d w' e cc r (ma_post h)) z)
theorem ev_maK {g : {α : Type} → List α → List α → List α} (hg : KwG g) (h : EvA K W t δ w (fun us w1 => EvA K W tk δ w1 (fun zs w2 => MaOk C P (g us zs) w2) Z) Z) : Ev K W (tCallK (SpD K (preMA C) (postMA C) zN) g E' t tk) δ w P Z :=
  ev_callK hg (fun σ H s Q q z => h σ H s Q (fun v H' d w' e cc r h2 => q v H' d w' e cc r (fun σ H s Q q z => h2 σ H s Q (fun v H' d w' e cc r h => q v H' d w' e cc r (ma_post h)) z)) z)
def SaOk (C : Addr) (P : PD) (ds : List D) (w1 : Wl) : Prop := ∃ c prs n x k, ds = [.ins C (sumFsB c prs), .int (totS prs + n * (c + 1)), .str x, .int k] ∧ 1 ≤ c ∧ c ≤ 8 ∧ SumP (10 ^ 30) c.toNat prs ∧ 0 ≤ n ∧ n ≤ 10 ^ 31 ∧ nameS x = true ∧ 1 ≤ k ∧ P (.bl (decide (mostS c n prs x < k))) w1
theorem sa_post {ds : List D} {w1 : Wl} (h : SaOk C P ds w1) : preSA C ds w1 ∧ ∀ d w3, postSA C ds w1 d w3 → P d w3 := by
  obtain ⟨c, prs, n, x, k, e, c1, c8, hs, h0, h1, hx, hk, q⟩ := h
  refine ⟨⟨c, prs, n, x, k, e, c1, c8, hs, h0, h1, hx, hk⟩, fun d w3 ⟨k3, e3⟩ => ?_⟩
  rw [e3 c prs n x k e c1, k3]
  exact q
theorem ev_sa (h : EvA K W t δ w (SaOk C P) Z) : Ev K W (tCall (SpD K (preSA C) (postSA C) zN) [] E' t) δ w P Z :=
  ev_call (fun σ H s Q q z => h σ H s Q (fun v H' d w' e cc r h => q v H' d w' e cc r (sa_post h)) z)
theorem ev_saK {g : {α : Type} → List α → List α → List α} (hg : KwG g) (h : EvA K W t δ w (fun us w1 => EvA K W tk δ w1 (fun zs w2 => SaOk C P (g us zs) w2) Z) Z) : Ev K W (tCallK (SpD K (preSA C) (postSA C) zN) g E' t tk) δ w P Z :=
  ev_callK hg (fun σ H s Q q z => h σ H s Q (fun v H' d w' e cc r h2 => q v H' d w' e cc r (fun σ H s Q q z => h2 σ H s Q (fun v H' d w' e cc r h => q v H' d w' e cc r (sa_post h)) z)) z)
end
/-! the law's defs -/
def preCh (ds : List D) (_ : Wl) : Prop := ∃ L : List Int, ds = [.lst (L.map D.int)] ∧ L.length ≤ 8
def postCh (ds : List D) (w : Wl) (d : D) (w' : Wl) : Prop := w' = w ∧ ∀ L : List Int, ds = [.lst (L.map D.int)] → d = .lst ((chS L).map chD)
def preAhd (ds : List D) (_ : Wl) : Prop := ∃ (c : Int) (prs : List (Str × Int)) (n : Int) (x : Str), ds = [.int c, .tup (prs.map prD), .int n, .str x] ∧ 1 ≤ c ∧ c ≤ 8 ∧ SumP (10 ^ 30) c.toNat prs ∧ 0 ≤ n ∧ n ≤ 10 ^ 31 ∧ nameS x = true
def postAhd (ds : List D) (w : Wl) (d : D) (w' : Wl) : Prop := Keep w w' ∧ ∀ (c : Int) (prs : List (Str × Int)) (n : Int) (x : Str), ds = [.int c, .tup (prs.map prD), .int n, .str x] → d = .int (mostS c n prs x)
def preDR (C : Addr) (ds : List D) (_ : Wl) : Prop := ∃ (c : Int) (prs : List (Str × Int)) (n : Int), ds = [.ins C (sumFsB c prs), .tup (prs.map prD), .int n] ∧ 1 ≤ c ∧ c ≤ 8 ∧ SumP (10 ^ 30) c.toNat prs ∧ 0 ≤ n ∧ n ≤ 10 ^ 31
def postTru (ds : List D) (w : Wl) (d : D) (w' : Wl) : Prop := d = .bl true ∧ Keep w w'
def preAR (ds : List D) (_ : Wl) : Prop := ∃ (c : Int) (prs : List (Str × Int)) (n : Int), ds = [.int c, .btp (prs.map prD), .int n] ∧ 1 ≤ c ∧ c ≤ 8 ∧ SumP (10 ^ 30) c.toNat prs ∧ 0 ≤ n ∧ n ≤ 10 ^ 30
def okNum : List D → Prop
  | [.int i, .int m] => m ≤ i
  | _ => False
theorem dint_inj : ∀ {xs ys : List Int}, xs.map D.int = ys.map D.int → xs = ys
  | [], [], _ => rfl
  | [], _ :: _, h => by cases h
  | _ :: _, [], h => by cases h
  | x :: xs, y :: ys, h => by
    rw [List.map_cons, List.map_cons] at h
    injection h with h1 h2
    injection h1 with h1
    rw [h1, dint_inj h2]
end LW
set_option Elab.async false
set_option linter.all false
set_option autoImplicit false
set_option maxRecDepth 100000
set_option maxHeartbeats 4000000
/-! DL36: sep.join(reversed(xs)), xs a list. -/
namespace RT
open PySem PySem.Spec PyProof.Rows PySem.Builtin PySem.Builtin.Str PySem.W MpR
section
variable {prog : Program} {w : World} {A : Around} {E : Value → Shared → Prop} {s : Shared}
theorem join_rev {x : Str} {t : Tok} {ys : List Str} {it l : Addr} {items : Array Value} {Q : Value → Shared → Prop} (hh : A.handled = none) (hit : s.heap.IsRevIter it l ((items.size : Int) - 1)) (hl : s.heap.IsList l items) (hne : l ≠ it) (hn : items.size ≤ sizeLine)
    (hP : ∀ acc : Array Value, ItemsOf (fun i v => items[items.size - 1 - i]? = some v) acc items.size → StrsAre acc.toList ys) (hok : (ys.map (·.length)).sum + ys.length * x.length ≤ 16777216)
    (hq : ∀ h' tk, (∀ b o, b ≠ it → s.heap.get? b = some o → h'.get? b = some o) → ∀ t', Q (.str (Txt.join x ys) t') { s with heap := h', toks := tk }) :
    wpAny (model prog w) A (call (.builtin "str.join") [.str x t, .ref it]) Q E s := by
  refine wpAny_call (codeAny_call_builtin F.slot_str_join.plain F.entry_str_join (F.slot_str_join.check _ _ _ _ _ _ _ _ (typeIs_str _ _ _) (F.args_str_join_2 _ _) ?_))
  rw [join_tree_other]
  refine wpAny_bind (wpAny_typeOf hit.typeIs ?_)
  show wpAny _ A.in1 ((pyIter (.ref it)).tryCatch _ >>= fun it => collect it >>= fun items => joinTail x items) _ _ s
  refine wpAny_bind (wpAny_tryCatch (wpAny_pyIter_revIter hit ?_))
  have hh1 : A.in1.handled = none := hh
  refine wpAny_bind (collect_rev hh1 hit hl hne hn fun h' tk acc hk hacc => ?_)
  obtain ⟨l, hl, ht⟩ := strsAre_values (hP acc hacc)
  subst ht
  rw [hl]
  have hok' := joinOk_of hok
  unfold JoinOk at hok'
  rw [Bool.not_eq_true'] at hok'
  have g : Gives (joinTail x (strValues l)) (joinMade x l) := by
    have g0 := gives_joinTail x l hok'
    cases l with
    | nil => exact g0
    | cons p r => cases r with
      | nil => exact g0
      | cons q r' => exact g0
  exact g prog w A (wants Q E) _ (post_join l ⟨joinFit_length hok', fun t' k => hq h' k hk t'⟩)
end
end RT
namespace DL
open PySem PySem.Spec PyProof.Rows L2
/-- sep.join(reversed(xs)), xs a list: sep first -/
def tJoinRev (K : PySem.W.Frag) (to te : TE) : TE := fun σ H Q => to σ H fun x H1 => (∃ a, x = .str a) ∧ te σ H1 fun v H2 => ∃ (a : Str) (q : Addr) (ys : List Str), x = .str a ∧ v = .ref q ∧ SqL K H2 q (ys.map V.str) ∧ (ys.reverse.map (·.length)).sum + ys.reverse.length * a.length ≤ 16777216 ∧ Q (.str (Txt.join a ys.reverse)) H2
theorem strs_vals : ∀ {ys : List Str} {us : List Value}, Vals (ys.map V.str) us → StrsAre us ys
  | [], us, h => by cases h; exact .nil
  | y :: ys, us, h => by
    cases h with
    | cons r t =>
      obtain ⟨tk, rfl⟩ := r
      exact .cons y tk (strs_vals t)
section
variable {X : Cx} {K : PySem.W.Frag} {o e : Expr} {to te : TE} {apos pos p pos2 : Pos}
theorem q_joinRev (hK : X.K = K) (hc : X.calm = true) (hm : X.mg "reversed" = none) (hg : Gl X "reversed") (ho : PE X o to) (he : PE X e te)
    (hs1 : starEach [.Call (.Name "reversed" p) [e] [] pos2] X.env = [(false, eval (.Call (.Name "reversed" p) [e] [] pos2) X.env)] := by rfl)
    (hs : starEach [e] X.env = (false, eval e X.env) :: starEach [] X.env := by rfl)
    (hbase : attributeBase o "join" X.env (eval o X.env) = eval o X.env := by rfl) (hline : (apos.endLine == pos.line) = true := by rfl) :
    PE X (.Call (.Attribute o "join" apos) [.Call (.Name "reversed" p) [e] [] pos2] [] pos) (tJoinRev K to te) := by
  subst hK
  refine ⟨fun pins s σ H Q I h => ?_⟩
  refine PySem.Call_method1 hbase hs1 hline (thn (ho.run pins s σ H _ I h) fun v s1 ⟨x, H1, I1, r1, q1⟩ => ?_)
  obtain ⟨⟨a, rfl⟩, q1⟩ := q1
  obtain ⟨t, rfl⟩ := _root_.id r1
  refine ⟨"str", _, F.plainAttrs_str, F.slot_str_join, F.type_str_join, typeIs_str _ _ _, (fun _ e => nomatch e), Calls.callWith_builtin rfl (Calls.evalArgs_plain (Calls.spliced_cons ?_))⟩
  refine Call_ (ld_blt I1 hg hm PyProof.Rows.boot_reversed (PyProof.Rows.callWith_type1 (args_cons (thn (he.run pins s1 σ H1 _ I1 q1) fun u s2 ⟨v2, H2, I2, r2, q2⟩ => args_nil ?_) hs) hs rfl))
  obtain ⟨a', q, ys, ea, rfl, hq, hz, q3⟩ := q2
  cases ea
  obtain rfl : u = Value.ref q := r2
  obtain ⟨its, rv, p', hsz⟩ := I2.list hq
  refine call_reversed_list p'.isList ?_
  refine Calls.spliced_nil ?_
  have k0 : ∀ b o, s2.heap.get? b = some o → (s2.heap.push (revObj q ((its.toArray.size : Int) - 1))).get? b = some o := fun b o e => Heap.get?_push_of_some _ e
  have I3 : Inv X pins σ H2 { s2 with heap := s2.heap.push (revObj q ((its.toArray.size : Int) - 1)) } := I2.kept (t' := s2.toks) k0
  obtain ⟨f0, f1, f2, f3, f4, f5⟩ := I2.fpOk (H' := H2) (b := s2.heap.objs.size) (Nat.le_refl _) (I2.hok.fresh (Nat.le_refl _))
  have hl := p'.isList
  obtain ⟨ol, hol, _⟩ := _root_.id hl
  have hne : q ≠ s2.heap.objs.size := Nat.ne_of_lt (Heap.lt_size hol)
  have hn : its.toArray.size ≤ sizeLine := by rw [List.size_toArray, ← rv.length]; exact hsz
  refine RT.join_rev (s := { s2 with heap := s2.heap.push (revObj q ((its.toArray.size : Int) - 1)) }) (ys := ys.reverse) (I2.ok.hd hc) ⟨_, Heap.get?_push_size _ rfl, rfl, rfl⟩ (hl.push _) hne hn (fun acc hacc => ?_) hz fun h' tk hk t' => ?_
  · have rr := RT.vals_rev rv hacc
    rw [← List.map_reverse] at rr
    exact strs_vals rr
  · have I4 : Inv X pins σ H2 { s2 with heap := h', toks := tk } := I3.turned (t' := tk) (fun b o hb e => hk b o hb e) f0 f1 f3 f4 f5
    exact ⟨.str _, H2, I4, ⟨t', rfl⟩, q3⟩
end
section
variable {K : PySem.W.Frag} {W : XK} {δ : Dlt} {w : Wl} {P : PD} {Z : ZD} {to te : TE}
theorem ev_joinRev (h : Ev K W to δ w (fun x w1 => ∃ a, x = .str a ∧ Ev K W te δ w1 (fun y w2 => ∃ (l : Addr) (ys : List Str), y = .ptr l ∧ w2 l = some (.lst (ys.map D.str)) ∧ (ys.reverse.map (·.length)).sum + ys.reverse.length * a.length ≤ 16777216 ∧ P (.str (Txt.join a ys.reverse)) w2) Z) Z) : Ev K W (tJoinRev K to te) δ w P Z :=
  fun σ H s Q q z => h σ H s _ (fun v H1 d w1 e1 c1 r1 ⟨a, ha, h2⟩ => by
    subst ha
    cases r1
    refine ⟨⟨a, rfl⟩, h2 σ H1 (s.next e1 c1) _ (fun u H2 d2 w2 e2 c2 r2 ⟨l, ys, hd, hl, hz, hp⟩ => ?_) (z.next e1)⟩
    subst hd
    cases r2
    obtain ⟨xs, ex, rx⟩ := c2 l _ hl
    have e := rpa_strs rx
    subst e
    exact ⟨a, l, ys, rfl, rfl, SqL.of ex, hz, q _ H2 _ w2 (e1.trans e2) c2 (.str _) hp⟩) z
end
end DL
set_option Elab.async false
set_option linter.all false
set_option autoImplicit false
set_option maxRecDepth 100000
set_option maxHeartbeats 4000000
/-! DL37: != of two dicts that are equal; str of an int, of a text; f-strings. -/
namespace PySem.W
open Lean Elab Tactic Meta PySem PySem.Calls PyProof.Rows PyProof.V PySem.Spec
section
variable {prog : Program} {w : World} {K : Type} [DecidableEq K] {knd : KeyKind prog w K} {A : Around} {E : Value → Shared → Prop} {s : Shared}
theorem ncP_dicts {a b : Addr} {ka kb : List (K × Value)} {r : Bool} (ha : (a == sysModules) = false) (hb : (b == sysModules) = false)
    (da : s.heap.DictOf knd a ka) (db : s.heap.DictOf knd b kb) (hu : A.units < cLine) (hits : ka.length = kb.length → KeqHitsP prog w A.in1 s kb ka r) (E Q : Value → Shared → Prop) (h : Q (.bool (!(ka.length == kb.length && r))) s) : wpAny (model prog w) A (compareOp .NotEq (.ref a) (.ref b)) Q E s := by
  refine wpAny_richCompare_same_room (op := .NotEq) da.typeIs db.typeIs PySem.F.slot_dict_ne (wpAny_call_entry PySem.F.slot_dict_ne da.typeIs PySem.F.entry_dict_ne ?_ (PySem.F.args_dict_ne_2 _ _)) hu
  show wpAny _ _ (Builtin.Dict.dictSlotArgs "__ne__" ⟨[.ref a, .ref b], []⟩ >>= _) _ _ s
  refine wpAny_bind ?_
  unfold Builtin.Dict.dictSlotArgs
  refine wpAny_bind (wpAny_notOrdered_dict da.typeIs ?_)
  show wpAny _ _ (pure (Value.ref a, Value.ref b)) _ _ s
  refine wpAny_pure ?_
  refine wpAny_bind (wpAny_isInstance (T := "dict") db.typeIs PySem.F.sub_dict_dict ?_)
  simp only [Bool.not_true, Bool.false_eq_true, if_false]
  refine wpAny_bind (wpAny_pure (wpAny_bind (wpAny_pure ?_)))
  refine wpAny_bind (samePairsP ha hb da db hits ?_)
  refine wpAny_pure ⟨_, rfl, ?_, ?_⟩
  · exact fun x => nomatch x
  · simpa using h
end
end PySem.W
namespace DL
open PySem PySem.Spec PyProof.Rows L2
theorem rpk_mem {K : PySem.W.Frag} {G : Hp} {k : Key} {v : V} : ∀ {ks : List (Key × V)} {kvs : List (Key × D)}, RpK K G ks kvs → (k, v) ∈ ks → ∃ d, (k, d) ∈ kvs ∧ Rp K G v d
  | [], [], _, h => (List.not_mem_nil h).elim
  | (k1, v1) :: ks, (k2, d2) :: kvs, ⟨a, b, c⟩, h => by
    rcases List.mem_cons.mp h with h | h
    · injection h with h1 h2
      subst h1
      subst h2
      have a' : k = k2 := a
      exact ⟨d2, by rw [a']; exact List.mem_cons_self .., b⟩
    · obtain ⟨d, h1, h2⟩ := rpk_mem c h
      exact ⟨d, List.mem_cons_of_mem _ h1, h2⟩
  | [], _ :: _, h, _ => h.elim
  | _ :: _, [], h, _ => h.elim
/-- a != b, two dicts of the same keys with the same flat values -/
def rNeDD : R2 := fun x y H Q => ∃ a b ks ls, x = .ref a ∧ y = .ref b ∧ H a = some (.dK ks) ∧ H b = some (.dK ls) ∧ ks.length = ls.length ∧ (∀ p ∈ ks, ∃ u, valV ls p.1 = some u ∧ p.2 = u ∧ flatB u = true) ∧ Q (.bl false) H
theorem op_neDD {X : Cx} (hu : X.A.units + 64 < cLine) : OpR X (compareOp .NotEq) rNeDD := by
  intro pins s σ H x y v u Q I rx ry h
  obtain ⟨a, b, ks, ls, rfl, rfl, ha, hb, hl, hp, q⟩ := h
  cases (show v = Value.ref a from rx)
  cases (show u = Value.ref b from ry)
  obtain ⟨_, ya, va, ra, da⟩ := (show ObjOk X.prog X.w H s.heap a (.dK ks) from I.hok a _ ha)
  obtain ⟨_, yb, vb, rb, db⟩ := (show ObjOk X.prog X.w H s.heap b (.dK ls) from I.hok b _ hb)
  refine PySem.W.ncP_dicts (knd := mixKind X.prog X.w) (r := true) ya yb da db (by omega) (fun _ => hits_run (F := fun x y => x = y ∧ flatB y = true) (fun x y v u hf r1 r2 => ?_) rb ra hp) _ _ ?_
  · obtain ⟨rfl, hf⟩ := hf
    exact (eqAt_same r1 r2 hf).eqP
  · have e : va.length = vb.length := by rw [← ra.length, ← rb.length]; exact hl
    rw [show (!(va.length == vb.length && true)) = false from by rw [e]; simp]
    exact ⟨.bl false, H, I, rfl, q⟩
section
variable {K : PySem.W.Frag} {W : XK} {δ : Dlt} {w : Wl} {P : PD} {Z : ZD}
theorem o2_neDD {p q : Addr} {ks ls : List (Str × Int)} (h1 : w p = some (.dK (ks.map entD))) (h2 : w q = some (.dK (ls.map entD))) (nk : (ks.map (·.1)).Nodup) (hp : ks.Perm ls) (k : P (.bl false) w) : Op2 K rNeDD (.ptr p) (.ptr q) w P := by
  intro v u H r1 r2 c Q q'
  cases r1
  cases r2
  obtain ⟨xs, ex, rx⟩ := c p _ h1
  obtain ⟨ys, ey, ry⟩ := c q _ h2
  refine ⟨p, q, xs, ys, rfl, rfl, ex, ey, by rw [rpk_len rx, rpk_len ry, List.length_map, List.length_map, hp.length_eq], fun e he => ?_, q' _ H _ w (Ex.refl _) c (.bl _) k⟩
  obtain ⟨kk, vv⟩ := e
  obtain ⟨d, hd, rd⟩ := rpk_mem rx he
  obtain ⟨⟨nm, cv⟩, hm, hme⟩ := List.mem_map.mp hd
  injection hme with e1 e2
  subst e1
  subst e2
  cases rd
  have hl : (nm, cv) ∈ ls := hp.subset hm
  have nl : (ls.map (·.1)).Nodup := (hp.map _).nodup_iff.mp nk
  have hv := LW.valD_mem (kvs := ls) (List.mem_map.mpr ⟨_, hl, rfl⟩)
  rw [LW.getS_mem nl _ hl] at hv
  rcases rpk_val (k := .inr nm) ry with ⟨_, h⟩ | ⟨v', d', h3, h4, h5⟩
  · rw [hv] at h; cases h
  · rw [hv] at h4
    injection h4 with h4
    subst h4
    cases h5
    exact ⟨_, h3, rfl, rfl⟩
/-- str(i), str(x) -/
def rStrI : List V → Hp → VK → Prop := fun xs H Q => (∃ i, xs = [.int i] ∧ i.natAbs.log2 < 1920 ∧ Q (.str (toString i)) H) ∨ ∃ a, xs = [.str a] ∧ Q (.str a) H
theorem call_strI {X : Cx} : CallR X (.type "str") rStrI := by
  intro pins s σ H xs us Q I r h
  rcases h with h | h
  · exact call_str_int pins s σ H xs us Q I r h
  · exact SkE.call_str_str pins s σ H xs us Q I r h
theorem b_str {X : Cx} {e : Expr} {es : List Expr} {t : TA} {p pos : Pos} (m : X.mg "str" = none) (hg : Gl X "str") (ha : PA X (e :: es) t) (he : starEach (e :: es) X.env = (false, eval e X.env) :: starEach es X.env := by rfl) (hpl : (backTo pos (starEach es X.env)).any (·.1) = false := by rfl) :
    PE X (.Call (.Name "str" p) (e :: es) [] pos) (tCB rStrI t) := pe_callTy call_strI hg m boot_str ha (by decide) (by decide) he hpl
theorem ol_strI {i : Int} (h : i.natAbs.log2 < 1920) (k : P (.str (toString i)) w) : OpL K rStrI [.int i] w P := by
  intro vs H r c Q q
  cases r with
  | cons r t =>
    cases t
    cases r
    exact .inl ⟨i, rfl, h, q _ H _ w (Ex.refl _) c (.str _) k⟩
theorem ol_strS {a : Str} (k : P (.str a) w) : OpL K rStrI [.str a] w P := by
  intro vs H r c Q q
  cases r with
  | cons r t =>
    cases t
    cases r
    exact .inr ⟨a, rfl, q _ H _ w (Ex.refl _) c (.str _) k⟩
/-! f-strings -/
def tFj (ts : List TE) : TE := fun σ H Q => tJs ts Str.empty σ H fun out H1 => Q (.str out) H1
def jsD (K : PySem.W.Frag) (W : XK) (δ : Dlt) (Z : ZD) (P : PD) : List TE → Str → Wl → Prop
  | [], acc, w => P (.str acc) w
  | t :: ts, acc, w => Ev K W t δ w (fun d w1 => ∃ y, d = .str y ∧ (acc ++ y).length ≤ sizeLine ∧ jsD K W δ Z P ts (acc ++ y) w1) Z
theorem js_run {ts : List TE} : ∀ {acc : Str} {w : Wl}, jsD K W δ Z P ts acc w → ∀ σ H, Sat K σ H δ w → ∀ Q : VK, Kq K w H P Q → Kz K w H Z W → tJs ts acc σ H fun out H1 => Q (.str out) H1 := by
  induction ts with
  | nil => exact fun h σ H s Q q z => q _ H _ _ (Ex.refl _) s.ce (.str _) h
  | cons t ts ih =>
    intro acc w h σ H s Q q z
    refine h σ H s _ (fun v H1 d w1 e1 c1 r1 ⟨y, hd, hz, h2⟩ => ?_) z
    subst hd
    cases r1
    exact ⟨y, rfl, hz, ih h2 σ H1 (s.next e1 c1) Q (KqG.next q e1) (z.next e1)⟩
theorem ev_joined {ts : List TE} (h : jsD K W δ Z P ts Str.empty w) : Ev K W (tFj ts) δ w P Z := fun σ H s Q q z => js_run h σ H s Q q z
theorem pe_fj {X : Cx} {v1 v2 : Expr} {rest : List Expr} {ts : List TE} {pos : Pos} (h : PJ X (v1 :: v2 :: rest) ts) : PE X (.JoinedStr (v1 :: v2 :: rest) pos) (tFj ts) := pe_joined h
theorem ev_fmt {te : TE} (h : Ev K W te δ w (fun d w1 => (∃ y : Str, d = .str y ∧ y.length ≤ sizeLine ∧ P (.str y) w1) ∨ ∃ i : Int, d = .int i ∧ i.natAbs.log2 < 1920 ∧ P (.str (toString i)) w1) Z) : Ev K W (tFmt te) δ w P Z :=
  fun σ H s Q q z => h σ H s _ (fun v H1 d w1 e1 c1 r1 hd => by
    rcases hd with ⟨y, rfl, hz, hp⟩ | ⟨i, rfl, hz, hp⟩
    · cases r1; exact .inl ⟨y, rfl, hz, q _ H1 _ w1 e1 c1 (.str _) hp⟩
    · cases r1; exact .inr ⟨i, rfl, hz, q _ H1 _ w1 e1 c1 (.str _) hp⟩) z
end
end DL
set_option Elab.async false
set_option linter.all false
set_option autoImplicit false
set_option maxRecDepth 100000
set_option maxHeartbeats 4000000
/-! CG: numbers and counts as texts. -/
namespace LW
open PySem PySem.Spec PyProof.Rows L2 DL
def preFN (ds : List D) (_ : Wl) : Prop := ∃ n : Int, ds = [.int n] ∧ 0 ≤ n ∧ n < 10 ^ 60
def postFN (ds : List D) (w : Wl) (d : D) (w' : Wl) : Prop := Keep w w' ∧ ∀ n : Int, ds = [.int n] → d = .str (toString n)
theorem log2_60' {n : Int} (h0 : 0 ≤ n) (h1 : n < 10 ^ 60) : n.natAbs.log2 < 300 := by
  rcases Nat.eq_zero_or_pos n.natAbs with z | z
  · rw [z]; decide
  · exact (Nat.log2_lt (by omega)).mpr (Nat.lt_of_lt_of_le (m := 10 ^ 60) (by omega) (by decide +kernel))
theorem log2_60 {n : Int} (h0 : 0 ≤ n) (h1 : n < 10 ^ 60) : n.natAbs.log2 < 1920 := by
  rcases Nat.eq_zero_or_pos n.natAbs with z | z
  · rw [z]; decide
  · exact (Nat.log2_lt (by omega)).mpr (Nat.lt_of_lt_of_le (m := 10 ^ 60) (by omega) (by decide +kernel))
theorem num_len {n : Int} (h0 : 0 ≤ n) (h1 : n < 10 ^ 60) : (Str.ofString (toString n)).length ≤ 2000 := by
  have h := small_cost (.int n) (by simp only [small]; exact decide_eq_true (Nat.lt_trans (log2_60' h0 h1) (by decide)))
  have e : (py (.int n)).shown = Str.ofString (toString n) := by simp [py, PyData.shown]
  rw [e] at h
  exact Nat.le_trans h (by simp [costD])
def pairS (e : Str × Int) : Str := e.1 ++ ":" ++ (toString e.2 : Str)
def textS (prs : List (Str × Int)) : Str := if prs.isEmpty then "-" else Txt.join " " (prs.map pairS)
def preCT (ds : List D) (_ : Wl) : Prop := ∃ (prs : List (Str × Int)) (b : Int) (k : Nat), ds = [.tup (prs.map prD)] ∧ SumP b k prs ∧ k ≤ 100 ∧ b < 10 ^ 60
def postCT (ds : List D) (w : Wl) (d : D) (w' : Wl) : Prop := Keep w w' ∧ ∀ prs : List (Str × Int), ds = [.tup (prs.map prD)] → d = .str (textS prs)
def preStr (C : Addr) (ds : List D) (_ : Wl) : Prop := ∃ (c : Int) (prs : List (Str × Int)) (b : Int), ds = [.ins C (sumFsB c prs)] ∧ SumP b c.toNat prs ∧ 1 ≤ c ∧ c ≤ 8 ∧ b < 10 ^ 60
def postStr (C : Addr) (ds : List D) (w : Wl) (d : D) (w' : Wl) : Prop := Keep w w' ∧ ∀ (c : Int) (prs : List (Str × Int)), ds = [.ins C (sumFsB c prs)] → d = .str (textS prs)
theorem nameS_len {x : Str} (h : nameS x = true) : x.length ≤ 8 := by
  unfold nameS at h
  simp at h
  exact h.1
theorem sum_lens {n : Nat} : ∀ ys : List Str, (∀ y ∈ ys, y.length ≤ n) → (ys.map (·.length)).sum ≤ ys.length * n
  | [], _ => by simp
  | y :: ys, h => by
    have h1 := h y (List.mem_cons_self ..)
    have h2 := sum_lens ys fun z hz => h z (List.mem_cons_of_mem _ hz)
    rw [List.map_cons, List.sum_cons, List.length_cons, Nat.succ_mul]
    omega
def preSam (C : Addr) (ds : List D) (w : Wl) : Prop := ∃ (c : Int) (prs kv : List (Str × Int)) (l : Addr) (b : Int), ds = [.ins C (sumFsB c prs), .int c, .ptr l] ∧ SumP b c.toNat prs ∧ 1 ≤ c ∧ c ≤ 8 ∧ b ≤ 10 ^ 40 ∧ w l = some (.dK (kv.map entD)) ∧ prs.Perm kv
def postSam (ds : List D) (w : Wl) (d : D) (w' : Wl) : Prop := d = .bl true ∧ w' = w
def preSgl (ds : List D) (w : Wl) : Prop := ∃ (n : Int) (l : Addr) (kv : List (Str × Int)) (x : Str) (t b : Int), ds = [.int n, .ptr l, .str x, .int t] ∧ w l = some (.dK (kv.map entD)) ∧ TabOk n.toNat b kv ∧ nameS x = true ∧ 1 ≤ n ∧ n ≤ 8 ∧ 1 ≤ t ∧ t ≤ 1000 ∧ 0 ≤ b
def postSgl (ds : List D) (w : Wl) (d : D) (w' : Wl) : Prop := Keep w w' ∧ ∀ (n : Int) (l : Addr) (kv : List (Str × Int)) (x : Str) (t : Int), ds = [.int n, .ptr l, .str x, .int t] → w l = some (.dK (kv.map entD)) → ∃ l2 : Addr, d = .ptr l2 ∧ w' l2 = some (.dK ((arrS n kv x t).1.map entD))
theorem one_run (c : Int) (prs : List (Str × Int)) (x : Str) (t : Int) : playS c prs [(x, t)] = ((arrS c prs x t).1, (arrS c prs x t).2) := by
  simp [playS]
end LW
namespace LW
open PySem PySem.Spec PyProof.Rows L2 DL
/-- c and a test that fails: what stands behind it -/
theorem and_join {K : PySem.W.Frag} {W : XK} {tt : TT} {δ : Dlt} {w : Wl} {Z : ZD} {c : Bool} {A B : Wl → Prop} (hB : ∀ w', Keep w w' → B w') (h : c = true → EvT K W tt δ w (fun b w1 => b = false ∧ Keep w w1) Z) :
    if c = true then EvT K W tt δ w (fun b w1 => if b = true then A w1 else B w1) Z else (if false = true then A w else B w) := by
  cases c with
  | true =>
    rw [if_pos rfl]
    exact fun σ H s Q q z => h rfl σ H s Q (fun b H1 dd w1 e1 c1 r1 ⟨hb, hk⟩ => q b H1 dd w1 e1 c1 r1 (by subst hb; show (if false = true then A w1 else B w1); rw [if_neg Bool.false_ne_true]; exact hB w1 hk)) z
  | false => rw [if_neg Bool.false_ne_true, if_neg Bool.false_ne_true]; exact hB w (Keep.refl w)
end LW
namespace LW
open PySem PySem.Spec PyProof.Rows L2 DL
section
variable {K : PySem.W.Frag} {w : Wl} {P : PD} {C : Addr} {E' : XK}
theorem ol_strSum {c b : Int} {prs : List (Str × Int)} (hs : SumP b c.toNat prs) (c1 : 1 ≤ c) (c8 : c ≤ 8) (hb : b < 10 ^ 60) (k : ∀ w2, Keep w w2 → P (.str (textS prs)) w2) : OpL K (rStrO C (SpD K (preStr C) (postStr C) zN) E') [.ins C (sumFsB c prs)] w P :=
  ol_strO' ⟨⟨c, prs, b, rfl, hs, c1, c8, hb⟩, fun d w3 h => ⟨_, h.2 c prs rfl, k w3 h.1⟩⟩
end
theorem PlayD.sumP {c b t : Int} {ys us : List (Str × Int)} {x : Str} (hs : SumP b c.toNat ys) (b0 : 0 ≤ b) (c1 : 1 ≤ c) (hx : nameS x = true) (t0 : 1 ≤ t) (h : PlayD c ys [(x, t)] us) : SumP (b + t) c.toNat us := by
  have hp := h.tabU (.refl _) hs.nodup
  have ht := arr_tabB hs.tab hx t0 c1 b0
  exact ⟨h.2, fun pr hpr => ht.2.1 pr (hp.subset hpr), by rw [hp.length_eq]; exact ht.2.2⟩
/-- what a play leads to, read off -/
theorem PlayD.is {c t : Int} {ys us zs : List (Str × Int)} {x : Str} (nd : (ys.map (·.1)).Nodup) (h : PlayD c ys [(x, t)] us) (hz : zs.Perm (arrS c ys x t).1) (ha : asc (zs.map (·.1))) : us = zs :=
  asc_eq ((h.tabU (.refl _) nd).trans hz.symm) h.2 ha
end LW
set_option Elab.async false
set_option linter.all false
set_option autoImplicit false
set_option maxRecDepth 100000
set_option maxHeartbeats 4000000
/-! DL38: bool(o) of an own instance with an own __len__ and no __bool__. -/
namespace PySem.W
open PySem PySem.Calls PyProof.Rows Builtin
section
variable {prog : Program} {w : World} {A : Around} {E : Value → Shared → Prop} {s : Shared} {K : Frag} {x C L f : Addr} {h₀ : Heap} {m : Str → Option Value} {ox : Obj} {od : Option Obj}
theorem truthy_lenK {Q : Bool → Shared → Prop} (F : Fr h₀ L s.heap m) (X₀ : K.In h₀) (I : InstAt s.heap x ox C od) (hb : findIn K (.ref C) "__bool__" = some none) (hs : findIn K (.ref C) "__len__" = some (some (.ref f))) (hf : isFn K (.ref f) = true)
    (h : wpAny (model prog w) A.in1 (call (.ref f) [.ref x]) (LenBack fun v s' => ∃ n t, v = .int n t ∧ Q (n != 0) s') E s) : wpAny (model prog w) A (truthy (.ref x)) Q E s := by
  have X := X₀.keeps F.keep
  unfold truthy
  refine wpAny_bind (m := callSpecial? (.ref x) (Str.ofString "__bool__")) (wpAny_bind (wpAny_bind (I.type.here ((looks_findIn X hb).here (wpAny_pure ?_)))))
  refine wpAny_bind (wpAny_bind (I.type.here ((looks_findIn X hs).here ?_)))
  show wpAny _ _ (if (some (Value.ref f)).isNone = true then _ else _) _ _ _
  rw [if_neg (by simp)]
  refine wpAny_bind (wpAny_runValue (codeAny_builtin entry_len ?_))
  rw [Around.under_plainId plain_len _]
  unfold Builtin.«len»
  refine wpAny_bind (m := oneArg "len" _) (wpAny_pure ?_)
  refine wpAny_bind (m := callSpecial? (.ref x) (Str.ofString "__len__")) (special_fn X I hs (beq_iff_eq.mp hf) (wpAny_mono h (fun r s' hr => ?_) fun _ _ y => y))
  cases r <;> first | exact hr.elim | skip
  rename_i n u
  obtain ⟨⟨h0, h1⟩, hq⟩ := hr
  refine wpAny_bind (wpAny_holding (wpAny_pure ?_))
  refine wpAny_bind (wpAny_letGo ?_)
  show wpAny _ _ (if n < 0 then _ else _) _ _ _
  rw [if_neg (by omega)]
  show wpAny _ _ (if n ≥ 2 ^ 63 then _ else _) _ _ _
  rw [if_neg (by omega)]
  refine wpAny_bind (wpAny_mkInt (wpAny_pure ?_))
  obtain ⟨n', t', e, hq⟩ := hq
  cases e
  exact wpAny_pure hq
theorem call_boolK {Q : Value → Shared → Prop} (h : wpAny (model prog w) A.in1.in1 (truthy (.ref x)) (fun b s' => Q (.bool b) s') E s) : wpAny (model prog w) A (call (.type "bool") [.ref x]) Q E s := by
  refine callType_codes (T := "bool") (Bi := Builtin.«object.__init__») (Q₁ := fun r s₁ => ∃ b, r = .bool b ∧ Q r s₁) PySem.F.called_bool (PySem.F.typeCall_bool_1 _) PySem.F.entry_object_init ?_ ?_
  · refine codeAny_call_builtin PySem.F.called_bool.plain PySem.F.entry_bool_new (wpAny_of_eq (PySem.F.newCall_bool_1 _) ?_)
    have f1 := PySem.F.conv_sub_bool
    unfold Builtin.«bool.__new__»
    repeat (any_goals (first
      | assumption
      | (refine wpAny_bind (m := truthy (.ref x)) (wpAny_mono h (fun b s' hb => ?_) fun _ _ y => y); exact wpAny_pure ⟨b, rfl, hb⟩)
      | wp_step))
  · rintro obj s₁ ⟨b, rfl, hq⟩
    exact ⟨typeIs_bool _ _, PySem.F.args_object_init_2 _ _, object_init_meets PySem.F.called_bool.init.lookup PySem.F.called_bool.made (by decide) prog w A.in1 _ s₁ ⟨typeIs_bool _ _, rfl, hq⟩⟩
end
end PySem.W
namespace DL
open PySem PySem.Spec PyProof.Rows L2
def rBoolO (C : Addr) (sp : Sp) (E : XK) : List V → Hp → VK → Prop := fun xs H Q => ∃ a dx fs, xs = [.ref a] ∧ H a = some (.ins C dx fs) ∧ sp [.ref a] H (fun v H2 => ∃ n : Int, v = .int n ∧ 0 ≤ n ∧ n < 2 ^ 63 ∧ Q (.bl (n != 0)) H2) E
section
variable {X : Cx} {CX : CXT} {k : Nat} {C : Addr} {ps : List Str} {sp : Sp} {E : XK}
theorem call_boolO (F : Mt X.prog X.w X.K X.mg X.base CX k C "__len__" ps sp) (nb : NoAttr X.K C "__bool__") (hg : X.A.guards = some []) (hr : Room (k + 3) X.A) (hx : Passes CX X E) : CallR X (.type "bool") (rBoolO C sp E) := by
  intro pins s σ H xs us Q I r h
  obtain ⟨f, fd, F⟩ := F
  obtain ⟨a, dx, fs, rfl, ha, q⟩ := h
  obtain ⟨u, rfl, ru⟩ := vals1 r
  obtain rfl : u = Value.ref a := ru
  obtain ⟨mA, J, _⟩ := ins_get I.hok ha
  obtain ⟨od, J, _⟩ := J.look
  obtain ⟨m, hF⟩ := I.fr
  have hr3 : Room k X.A.in1.in1.in1 := Room.in1 (Room.in1 (Room.in1 hr))
  refine PySem.W.call_boolK (PySem.W.truthy_lenK hF I.ok.mod.kin J nb F.me.at_ F.me.fn (wpAny_mono (mt_runA (A1 := X.A.in1.in1.in1) rfl F (guards_in1 (guards_in1 (guards_in1 hg))) hr3 hx I q) (fun u s' hu => ?_) fun _ _ e => e))
  obtain ⟨v, H', I', rv, n, rfl, h0, h1, hq⟩ := hu
  obtain ⟨tk, rfl⟩ := rv
  exact ⟨⟨h0, h1⟩, n, _, rfl, .bl (n != 0), H', I'.tok _, rfl, hq⟩
end
section
variable {X : Cx} {CX : CXT} {k : Nat} {C : Addr} {ps : List Str} {sp : Sp} {E : XK} {e : Expr} {t : TE} {p pos : Pos}
theorem q_boolO (F : Mt X.prog X.w X.K X.mg X.base CX k C "__len__" ps sp) (nb : NoAttr X.K C "__bool__") (m : X.mg "bool" = none) (hgd : X.A.guards = some []) (hr : Room (k + 3) X.A) (hg : Gl X "bool") (hx : Passes CX X E) (he : PE X e t) (hs : starEach [e] X.env = (false, eval e X.env) :: starEach [] X.env := by rfl) :
    PE X (.Call (.Name "bool" p) [e] [] pos) (tCB (rBoolO C sp E) (tCons t tNil)) := pe_callTy (call_boolO F nb hgd hr hx) hg m (by decide +kernel) (pa_cons he pa_nil hs) (by decide) (by decide) hs
end
section
variable {K : PySem.W.Frag} {w : Wl} {P : PD} {C : Addr} {fs : List (Str × D)} {pre : List D → Wl → Prop} {post : List D → Wl → D → Wl → Prop} {E' : XK}
theorem ol_boolO' (h : pre [.ins C fs] w ∧ ∀ d w3, post [.ins C fs] w d w3 → ∃ n : Int, d = .int n ∧ 0 ≤ n ∧ n < 2 ^ 63 ∧ P (.bl (n != 0)) w3) : OpL K (rBoolO C (SpD K pre post zN) E') [.ins C fs] w P := by
  intro vs H r c Q q
  cases r with
  | cons r0 t =>
    cases t
    have r1 := r0
    cases r0 with
    | ins ha hf =>
      refine ⟨_, _, _, rfl, (msk_some ha).2, ⟨[.ins C fs], w, .cons r1 .nil, c, h.1, fun v H2 d w2 e2 c2 r2 p2 => ?_, kz_none⟩⟩
      obtain ⟨n, rfl, h0, h1, k⟩ := h.2 d w2 p2
      cases r2
      exact ⟨n, rfl, h0, h1, q _ H2 (.bl _) w2 e2 c2 (.bl _) k⟩
end
end DL
set_option Elab.async false
set_option linter.all false
set_option autoImplicit false
set_option maxRecDepth 100000
set_option maxHeartbeats 4000000
/-! DL39: own instances made by keywords. -/
namespace DL
open PySem PySem.Spec PyProof.Rows L2
def tMakeK (C : Addr) (sp : Sp) (g : {α : Type} → List α → α → List α) (dv : V) (E : XK) (tk : TA) : TE := fun σ H Q => tk σ H fun zs H1 => ∀ x dx, H1 x = none → H1 dx = none → dx ≠ x → sp (.ref x :: g zs dv) (upd (upd H1 dx (.own x)) x (.ins C dx [])) (fun v H2 => v = .non ∧ Q (.ref x) H2) E
def kdD {α : Type} : List α → α → List α
  | [t], d => [t, d]
  | _, _ => []
section
variable {X : Cx} {CX : CXT} {k : Nat} {C a0 : Addr} {x : Str} {ps ks : List Str} {sp : Sp} {E : XK} {p pos : Pos} {kws : List Keyword} {tk : TA} {qual : Str} {st : Stmt}
theorem pe_mkK {g : {α : Type} → List α → α → List α} (F : Mt X.prog X.w X.K X.mg X.base CX k C "__init__" ps sp) (D0 : ME X.K C "__init__" qual st a0) (G : KwD g) (hb : BindKD "__init__" qual st ps ks g) (M : CMk X.K C) (hg : X.A.guards = some []) (hr : Room (k + 1) X.A) (hgl : Gl X x) (hm : X.mg x = some (.ref C)) (hx : Passes CX X E)
    (hkw : PK X kws tk) (hall : (backToKw pos (keywordEach kws X.env)).all (·.1.isSome) = true := by rfl) (hks : (backToKw pos (keywordEach kws X.env)).filterMap (·.1) = ks := by rfl) (hdb : (x == ("__debug__" : Str)) = false := by decide)
    (hpl : ((backTo pos (starEach [] X.env)).any (·.1) || (backToKw pos (keywordEach kws X.env)).any (·.1.isNone)) = false := by rfl) :
    PE X (.Call (.Name x p) [] kws pos) (tMakeK C sp g (.ref a0) E tk) := by
  refine ⟨fun pins s σ H Q I h => ?_⟩
  refine wpAny_Call_Name_kw (ld_glob I hgl hm ?_ hdb)
  refine PySem.W.callWith_KW0 (h₀ := X.base) I.ok.mod.kin M.kp hall (thn (hkw.run pos pins s σ H _ I h) fun ws s1 ⟨zs, H1, I1, rz, q⟩ => ⟨I1.kIn, ?_⟩) hpl
  rw [hks]
  refine gn_make (us := g ws (.ref a0)) (vs := g zs (.ref a0)) (ar := ⟨[], ks.zip ws⟩) M F hg hr hx I1 (fun f fd x s1 F hk hl => ?_) (G.rel rz rfl) q
  obtain ⟨f2, fd2, D0⟩ := D0
  have ef : f = f2 := by
    have e := F.me.at_.symm.trans D0.at_
    injection e with e; injection e with e; injection e
  subst ef
  obtain ⟨oc, od, T, o, n, kV, doc, pm, an, cdv, ct, osl, hfd, hlk, lT, oT⟩ := D0.ex
  have efd : fd = fd2 := F.un hlk
  subst efd
  obtain ⟨kk, h1, h2⟩ := hb T (.ref x) (.ref a0) kV doc pm an cdv ct ws hl
  rw [hfd]
  exact PySem.W.binds_K hk rfl lT oT h1 h2
end
section
variable {K : PySem.W.Frag} {W : XK} {δ : Dlt} {w : Wl} {P : PD} {Z : ZD} {C a0 : Addr}
theorem ev_mkK {g : {α : Type} → List α → α → List α} (G : KwD g) {m qual : Str} {st : Stmt} (hM : MEB K C m qual st a0) {pre : List D → Wl → Prop} {post : List D → Wl → D → Wl → Prop} {E' : XK} {tk : TA}
    (h : EvA K W tk δ w (fun ds w1 => ∀ x, w1 x = none → pre (.ptr x :: g ds (.btp [])) (put w1 x (.ins C [])) ∧ ∀ d w2, post (.ptr x :: g ds (.btp [])) (put w1 x (.ins C [])) d w2 → d = .non ∧ ∃ fs, w2 x = some (.ins C fs) ∧ P (.ins C fs) (cut w2 x)) Z) :
    Ev K W (tMakeK C (SpD K pre post zN) g (.ref a0) E' tk) δ w P Z :=
  fun σ H s Q q z => h σ H s _ (fun vs H1 ds w1 e1 c1 r1 h1 => fun x dx n1 n2 n3 => by
    obtain ⟨h2, h3⟩ := h1 x (c1.free n1)
    obtain ⟨e2, c2⟩ := new_ins (C := C) c1 n1 n2 n3
    have r2 : RpA K _ (g vs (V.ref a0)) (g ds (.btp [])) := paired_rpa (G.rel (rpa_paired (r1.mono e2)) (.btp (.inr hM.ba) (hM.emp _) .nil))
    refine ⟨.ptr x :: g ds (.btp []), _, .cons (.ptr x) r2, c2, h2, fun v H3 d w3 e3 c3 r3 p3 => ?_, kz_none⟩
    obtain ⟨rfl, fs, hw, hp⟩ := h3 d w3 p3
    obtain ⟨e4, c4, r4⟩ := free_ins c3 hw
    cases r3
    exact ⟨rfl, q _ H3 _ _ (((e1.trans e2).trans e3).trans e4) c4 r4 hp⟩) z
end
end DL
namespace LW
open PySem PySem.Spec PyProof.Rows L2 DL
section
variable {K : PySem.W.Frag} {W : XK} {δ : Dlt} {w : Wl} {P : PD} {Z : ZD} {C a0 : Addr}
theorem ev_sumK {g : {α : Type} → List α → α → List α} (G : KwD g) {m qual : Str} {st : Stmt} (hM : MEB K C m qual st a0) {E' : XK} {tk : TA} (h : EvA K W tk δ w (fun ds w1 => ∃ c prs, g ds (.btp []) = [.int c, .btp (prs.map prD)] ∧ SumX c prs ∧ P (.ins C (sumFsB c prs)) w1) Z) : Ev K W (tMakeK C (SpD K (preInitB C) (postInitB C) zN) g (.ref a0) E' tk) δ w P Z := by
  refine ev_mkK G hM ?_
  refine fun σ H s Q q z => h σ H s Q (fun v H' d w' e c r ⟨cc, prs, hd, hs, k⟩ => q v H' d w' e c r fun x hx => ?_) z
  rw [hd]
  refine ⟨⟨x, cc, prs, rfl, put_same, hs.1, hs.2.1, hs.2.2⟩, ?_⟩
  rintro dd w2 ⟨rfl, h2⟩
  have e2 := h2 _ _ _ rfl
  subst e2
  refine ⟨rfl, _, put_same, ?_⟩
  rw [put_put, cut_put hx]
  exact k
end
end LW
namespace DL
open PySem PySem.Spec PyProof.Rows L2
/-- a builtin type is not below an own class -/
abbrev KitF (K : PySem.W.Frag) (C : Addr) (T : String) : Prop := PySem.W.kitOne K (.type T) (.ref C) = some false
section
variable {K : PySem.W.Frag} {w : Wl} {P : PD} {C : Addr}
theorem ol_isiNo {x : D} {t : String} (e : tyD x = some t) (kf : KitF K C t) (k : P (.bl false) w) : OpL K (rIsi K) [x, .ptr C] w P := by
  intro vs H h1 c Q q
  cases h1 with
  | cons h1 t1 => cases t1 with
    | cons h2 t2 =>
      cases t2; cases h2
      exact ⟨_, _, .type t, .ref C, false, rfl, .own C, ty_of h1 e, kf, q _ H _ w (Ex.refl _) c (.bl _) k⟩
end
end DL
namespace LW
open PySem PySem.Spec PyProof.Rows L2 DL
theorem kitF_of {K : PySem.W.Frag} {C : Addr} {T : String} (a : PySem.W.typeIn K (.ref C) = some (.type "type")) (b : PySem.W.isClsIn K C = true) (c : PySem.W.subIn K (.type T) (.ref C) = some false) : KitF K C T := by
  show PySem.W.kitOne K (.type T) (.ref C) = some false
  unfold PySem.W.kitOne
  rw [if_neg (by simp)]
  show (if ((PySem.W.clsIn K C).isSome && PySem.W.typeIn K (.ref C) == some (.type "type")) = true then PySem.W.subIn K (.type T) (.ref C) else none) = some false
  have b' : (PySem.W.clsIn K C).isSome = true := b
  rw [if_pos (by rw [a, b']; simp)]
  exact c
end LW
set_option Elab.async false
set_option linter.all false
set_option autoImplicit false
set_option maxRecDepth 100000
set_option maxHeartbeats 4000000
/-! CH: what a summary tells of itself. -/
namespace LW
open PySem PySem.Spec PyProof.Rows L2 DL
def postRpr (C : Addr) (ds : List D) (w : Wl) (d : D) (w' : Wl) : Prop := Keep w w' ∧ ∀ (c : Int) (prs : List (Str × Int)), ds = [.ins C (sumFsB c prs)] → d = .str (Str.empty ++ "Summary(" ++ (toString c : Str) ++ ", '" ++ textS prs ++ "')")
theorem pair_len {b : Int} {e : Str × Int} (h : nameS e.1 = true ∧ 1 ≤ e.2 ∧ e.2 ≤ b) (hb : b < 10 ^ 60) : (pairS e).length ≤ 3000 := by
  have hnl : e.1.length ≤ 8 := nameS_len h.1
  have hcl := num_len (n := e.2) (Int.le_trans (by decide) h.2.1) (Int.lt_of_le_of_lt h.2.2 hb)
  have h1 : (Str.ofString ":").length = 1 := by decide +kernel
  unfold pairS
  rw [app_len, app_len, h1]
  show e.1.length + 1 + (Str.ofString (toString e.2)).length ≤ 3000
  omega
theorem text_len {b : Int} {k : Nat} {prs : List (Str × Int)} (h : SumP b k prs) (hk : k ≤ 100) (hb : b < 10 ^ 60) : (textS prs).length ≤ 1000000 := by
  have h1 : (Str.ofString "-").length = 1 := by decide +kernel
  have h2 : (Str.ofString " ").length = 1 := by decide +kernel
  unfold textS
  split
  · rw [h1]; decide
  · show (PySem.Builtin.Str.glued " " (prs.map pairS)).length ≤ _
    rw [StrLaws.glued_eq_join]
    have h3 := StrLaws.join_length_le " " (prs.map pairS)
    have h4 := sum_lens (n := 3000) (prs.map pairS) fun y hy => by
      obtain ⟨e, he, rfl⟩ := List.mem_map.mp hy
      exact pair_len (h.2.1 e he) hb
    have h5 := h.2.2
    rw [h2] at h3
    rw [List.length_map] at h3 h4
    omega
def postShn (ds : List D) (w : Wl) (d : D) (w' : Wl) : Prop := w' = w ∧ ∀ prs : List (Str × Int), ds = [.tup (prs.map prD)] → d = .str (textS prs)
def pairF : D → D | .tup [.str x, .int v] => .str (pairS (x, v)) | _ => .non
theorem pair_data (prs : List (Str × Int)) : (prs.map prD).map pairF = (prs.map pairS).map D.str := by
  rw [List.map_map, List.map_map]; rfl
theorem sum_textlens {b : Int} {k : Nat} {prs : List (Str × Int)} (hs : SumP b k prs) (hk : k ≤ 100) (hb : b < 10 ^ 60) : ((prs.map pairS).map (·.length)).sum + (prs.map pairS).length * (Str.ofString " ").length ≤ 16777216 := by
  have h2 := sum_lens (n := 3000) (prs.map pairS) fun y hy => by
    obtain ⟨e, he, rfl⟩ := List.mem_map.mp hy
    exact pair_len (hs.2.1 e he) hb
  have h1 : (Str.ofString " ").length = 1 := by decide +kernel
  have h3 := hs.2.2
  rw [List.length_map] at h2 ⊢
  rw [h1]
  omega
def okIsS (C : Addr) : List D → Prop
  | [.ins D _] => D = C
  | [.tup _] => True
  | _ => False
def fIsS : List D → D
  | [.ins _ _] => .bl true
  | _ => .bl false
def preOne (C : Addr) (ds : List D) (_ : Wl) : Prop := ∃ (c : Int) (prs : List (Str × Int)) (xs : List Str), ds = [.ins C (sumFsB c prs), .int c, .tup (prs.map prD), .lst (xs.map D.str)] ∧ 1 ≤ c ∧ c ≤ 8 ∧ SumP (10 ^ 30) c.toNat prs ∧ (∀ x ∈ xs, nameS x = true)
def preMade (ds : List D) (_ : Wl) : Prop := ∃ (c : Int) (prs : List (Str × Int)) (xs : List Str), ds = [.int c, .btp (prs.map prD), .lst (xs.map D.str)] ∧ 1 ≤ c ∧ c ≤ 8 ∧ SumP (10 ^ 30) c.toNat prs ∧ (∀ x ∈ xs, nameS x = true)
section
variable {K : PySem.W.Frag} {w : Wl} {P : PD} {C : Addr} {E' : XK}
theorem ol_lenSum {c : Int} {prs : List (Str × Int)} (h : prs.length ≤ 1000) (k : P (.int prs.length) w) : OpL K (rLenO C (SpD K (preLen C) (postLen C) zN) E') [.ins C (sumFsB c prs)] w P :=
  ol_lenO' ⟨⟨c, prs, rfl, h⟩, fun d w3 h3 => ⟨(prs.length : Int), h3.2 c prs rfl, by omega, by omega, by rw [h3.1]; exact k⟩⟩
theorem ol_boolSum {c : Int} {prs : List (Str × Int)} (h : prs.length ≤ 1000) (k : P (.bl ((prs.length : Int) != 0)) w) : OpL K (rBoolO C (SpD K (preLen C) (postLen C) zN) E') [.ins C (sumFsB c prs)] w P :=
  ol_boolO' ⟨⟨c, prs, rfl, h⟩, fun d w3 h3 => ⟨(prs.length : Int), h3.2 c prs rfl, by omega, by omega, by rw [h3.1]; exact k⟩⟩
def rprS (c : Int) (prs : List (Str × Int)) : Str := Str.empty ++ "Summary(" ++ (toString c : Str) ++ ", '" ++ textS prs ++ "')"
theorem ol_rprSum {c b : Int} {prs : List (Str × Int)} (hs : SumP b c.toNat prs) (c1 : 1 ≤ c) (c8 : c ≤ 8) (hb : b < 10 ^ 60) (k : ∀ w2, Keep w w2 → P (.str (rprS c prs)) w2) : OpL K (rStrO C (SpD K (preStr C) (postRpr C) zN) E') [.ins C (sumFsB c prs)] w P :=
  ol_strO' ⟨⟨c, prs, b, rfl, hs, c1, c8, hb⟩, fun d w3 h => ⟨_, h.2 c prs rfl, k w3 h.1⟩⟩
end
end LW
namespace LW
open PySem PySem.Spec PyProof.Rows L2 DL
def eqKeyB (x : Str) : D → Bool | .tup [.str s, _] => decide (s = x) | _ => false
theorem eqKey_data (prs : List (Str × Int)) (x : Str) : ((prs.map prD).filter (eqKeyB x)).map secF = ((prs.filter fun e => decide (e.1 = x)).map (·.2)).map D.int := by
  rw [List.filter_map, List.map_map, List.map_map]; rfl
theorem ne_empty (prs : List (Str × Int)) : (!(py (D.tup (prs.map prD))).eqv (py (D.tup []))) = ((prs.length : Int) != 0) := by
  rcases prs with _ | ⟨e, r⟩
  · decide +kernel
  · have h1 : (((e :: r).length : Int) != 0) = true := by
      rw [bne_iff_ne]
      rw [List.length_cons]; omega
    rw [h1]
    simp [py, pyA, PyData.eqv, PyData.eqvAll]
end LW
namespace LW
open PySem PySem.Spec PyProof.Rows L2 DL
theorem emp_app (x : Str) : Str.empty ++ x = x := by
  apply str_ext
  rw [app_list]
  rfl
end LW
set_option Elab.async false
set_option linter.all false
set_option autoImplicit false
set_option maxRecDepth 100000
set_option maxHeartbeats 4000000
namespace LW
open PySem PySem.Spec PyProof.Rows L2 DL
def top (i : Nat) : Stmt := PySem.Challenge.pw_tallyplans_k04_summaries_made.main.body.getD i (.Pass ⟨0, 0, 0, 0⟩)
def clsBody : Stmt → List Stmt | .ClassDef _ _ _ b _ _ _ _ _ _ _ => b | _ => []
def meth (i j : Nat) : Stmt := (clsBody (top i)).getD j (.Pass ⟨0, 0, 0, 0⟩)
structure Tx (mg : Str → Option Value) : Prop where
  b_abs : mg "abs" = none
  b_all : mg "all" = none
  b_bool : mg "bool" = none
  b_divmod : mg "divmod" = none
  b_enumerate : mg "enumerate" = none
  b_int : mg "int" = none
  b_isinstance : mg "isinstance" = none
  b_len : mg "len" = none
  b_max : mg "max" = none
  b_min : mg "min" = none
  b_range : mg "range" = none
  b_repr : mg "repr" = none
  b_reversed : mg "reversed" = none
  b_sorted : mg "sorted" = none
  b_str : mg "str" = none
  b_sum : mg "sum" = none
  b_tuple : mg "tuple" = none
  k_BLOCK : ∃ u, mg "BLOCK" = some (.int 1000000000000000000000000000000000000000000000000000000000000 u)
  k_BLOCK_DIGITS : ∃ u, mg "BLOCK_DIGITS" = some (.int 60 u)
  k_LONGEST_NAME : ∃ u, mg "LONGEST_NAME" = some (.int 8 u)
  k_MAX_CAPACITY : ∃ u, mg "MAX_CAPACITY" = some (.int 8 u)
  k_MAX_NAMES : ∃ u, mg "MAX_NAMES" = some (.int 12 u)
end LW
set_option Elab.async false
set_option linter.all false
set_option autoImplicit false
set_option maxRecDepth 100000
set_option maxHeartbeats 4000000
namespace LW
open PySem PySem.Spec PyProof.Rows L2 DL
/-- one step of a reading on data -/
local macro_rules | `(tactic| walk_at "st") => `(tactic| first
  | with_reducible refine sd_seq ?_
  | with_reducible refine sd_ret ?_
  | with_reducible refine sd_asg ?_
  | with_reducible refine sd_if ?_
  | with_reducible refine sd_drop ?_
  | with_reducible refine sd_par ?_
  | with_reducible refine sd_nx ?_
  | with_reducible refine sd_retN ?_
  | with_reducible refine ev_op ?_
  | with_reducible refine ev_cint ?_
  | with_reducible refine ev_cstr ?_
  | with_reducible refine ev_cbl ?_
  | with_reducible refine ev_cnon ?_
  | with_reducible refine ev_cty ?_
  | refine ev_var (by exact rfl) ?_
  | with_reducible refine ev_cb ?_
  | with_reducible refine ea_cons ?_
  | with_reducible refine ea_nil ?_
  | with_reducible refine ev_tup ?_
  | with_reducible refine ev_un ?_
  | with_reducible refine o1_U ?_
  | with_reducible refine ev_andV ?_
  | with_reducible refine ev_orV ?_
  | with_reducible refine ev_notV ?_
  | with_reducible refine ev_if ?_
  | with_reducible refine et_B ?_
  | with_reducible refine et_test ?_
  | with_reducible refine et_not ?_
  | with_reducible refine et_and ?_
  | with_reducible refine et_or ?_
  | with_reducible refine et_tru ?_
  | with_reducible refine ev_bm0 ?_
  | with_reducible refine ev_bm ?_
  | with_reducible refine ev_chain ?_
  | with_reducible refine gd_name ?_
  | with_reducible refine gd_sub ?_
  | ((with_reducible refine isIxLo ?_); refine o2_ixLo (by first | assumption | exact put_same) (by exact rfl) ?_)
  | ((with_reducible refine isI ?_); refine o2_I (by first | (show (0 : Int) < _; decide) | exact ⟨by decide, by decide⟩ | exact ⟨by decide, by decide, by decide⟩ | exact ⟨by omega, by omega⟩ | exact Or.inl ⟨by omega, by omega⟩ | exact Or.inr ⟨by decide, by decide⟩ | exact Or.inr ⟨by omega, by omega⟩) ?_)
  | refine ⟨_, _, _, _, rfl, rfl, (by first | assumption | exact put_same), (by exact rfl), ?_⟩
  | ((with_reducible refine isTupO ?_); refine ol_tupO (by first | assumption | exact put_same) ?_)
  | ((with_reducible refine isTupBO ?_); refine ol_tupBO (by first | assumption | exact put_same) ?_)
  | with_reducible refine ol_abs ?_
  | with_reducible refine ol_max2 ?_
  | with_reducible refine ol_min2 ?_
  | with_reducible refine gs_nil ?_
  | with_reducible refine gs_cons ?_
  | with_reducible refine gd_tup rfl ?_
  | with_reducible refine o2_I0 ?_
  | with_reducible refine o2_B0 ?_
  | with_reducible refine o2_eqI ?_
  | with_reducible refine o2_neI ?_
  | with_reducible refine o2_eqS ?_
  | with_reducible refine o2_neS ?_
  | with_reducible refine o2_SS ?_
  | with_reducible refine o2_isB ?_
  | with_reducible refine o2_notB ?_
  | with_reducible refine om_S0 trivial ?_
  | with_reducible refine ol_isiInt (by first | assumption | rfl) ?_
  | with_reducible refine ol_isiBool (by first | assumption | rfl) ?_
  | with_reducible refine ol_isiStr (by first | assumption | rfl) ?_
  | with_reducible refine ol_isiTup (by first | assumption | rfl) ?_
  | refine Exists.intro _ (And.intro rfl ?_)
  | with_reducible refine And.intro ty_str ?_
  | ((with_reducible refine isIxT ?_); refine o2_ixT rfl ?_)
  | ((with_reducible refine isIxL ?_); refine o2_ixL rfl ?_)
  | with_reducible refine ev_f ?_
  | with_reducible refine ev_fk kg1_ok ?_
  | with_reducible refine ev_fk kgS_ok ?_
  | refine And.intro (by first | assumption | exact Nat.le_of_ble_eq_true rfl) ?_
  | with_reducible refine ev_sl ?_
  | with_reducible refine eo_none ?_
  | with_reducible refine eo_some ?_
  | with_reducible refine ol_lenS (by rw [sizeLine_eq]; omega) ?_
  | with_reducible refine os_str (by rw [sizeLine_eq]; omega) ?_
  | ((with_reducible refine isLenD ?_); refine ol_lenD (by first | assumption | exact put_same) ?_)
  | with_reducible refine sd_dput ?_
  | with_reducible refine ev_sortItems ?_
  | with_reducible refine ev_revT ?_
  | with_reducible refine ev_dget2 ?_
  | with_reducible refine ol_lenT ?_
  | with_reducible refine ol_lenL ?_
  | with_reducible refine ol_int1 ?_
  | with_reducible refine ol_tupL ?_
  | with_reducible refine ol_tupB ?_
  | with_reducible refine ev_tupB ?_
  | with_reducible refine ol_tupT ?_
  | with_reducible refine ol_lstL ?_
  | with_reducible refine ol_lstT ?_
  | with_reducible refine os_lst ?_
  | with_reducible refine os_tupA ?_
  | with_reducible refine os_tupB ?_)
local macro_rules | `(tactic| walk_at "stn") => `(tactic| repeat walk_at "st")
local macro_rules | `(tactic| walk_at "sts") => `(tactic| repeat first | walk_at "st" | with_reducible refine ev_lst ?_)

section
variable {P : Program} {wo : World} {K : PySem.W.Frag} {mg : Str → Option Value} {base : Heap}
abbrev s_is_integer : Stmt := top 9
theorem sc_is_integer : FnScope ["thing"] ["thing"] (defScope s_is_integer) := ⟨rfl, rfl, rfl, by decide +kernel, rfl, by decide +kernel, by decide +kernel⟩
theorem bp_is_integer : BindP "is_integer" s_is_integer ["thing"] := fun _ _ _ _ _ _ us hl => match us, hl with | [_], _ => rfl

theorem ok_is_integer (T : Tx mg) (d : Dn K mg "is_integer" s_is_integer) : Fk P wo K mg base CX0 1 "is_integer" s_is_integer ["thing"] (SpF K okKn fIsInt) := by
  refine fk_ok d sc_is_integer bp_is_integer (fun ds w h => ?_) fun f cdv A fr s H E hg hr => ⟨_, (pss_one (ps_ret (pe_and (q_isi (K := K) rfl T.b_isinstance rfl (pa_cons (pv 0) (pa_cons (c_int T.b_int rfl) pa_nil))) (pe_one (pe_not (q_isi (K := K) rfl T.b_isinstance rfl (pa_cons (pv 0) (pa_cons (c_bool T.b_bool rfl) pa_nil)))))))), fun ds w hp => ?_⟩
  · match ds, h with | [d], _ => rfl
  · match ds, hp with
    | [d], hp =>
      replace hp : kn d := hp
      walk_at "sts"
      refine if_2 (fun e => ?_) (fun e => ?_)
      · walk_at "sts"
        refine rt_f ?_
        cases d <;> first | rfl | cases e
      · refine rt_f ?_
        cases d <;> first | rfl | cases e
end
end LW
set_option Elab.async false
set_option linter.all false
set_option autoImplicit false
set_option maxRecDepth 100000
set_option maxHeartbeats 4000000
namespace LW
open PySem PySem.Spec PyProof.Rows L2 DL
/-- one step of a reading on data -/
local macro_rules | `(tactic| walk_at "st") => `(tactic| first
  | with_reducible refine sd_seq ?_
  | with_reducible refine sd_ret ?_
  | with_reducible refine sd_asg ?_
  | with_reducible refine sd_if ?_
  | with_reducible refine sd_drop ?_
  | with_reducible refine sd_par ?_
  | with_reducible refine sd_nx ?_
  | with_reducible refine sd_retN ?_
  | with_reducible refine ev_op ?_
  | with_reducible refine ev_cint ?_
  | with_reducible refine ev_cstr ?_
  | with_reducible refine ev_cbl ?_
  | with_reducible refine ev_cnon ?_
  | with_reducible refine ev_cty ?_
  | refine ev_var (by exact rfl) ?_
  | with_reducible refine ev_cb ?_
  | with_reducible refine ea_cons ?_
  | with_reducible refine ea_nil ?_
  | with_reducible refine ev_tup ?_
  | with_reducible refine ev_un ?_
  | with_reducible refine o1_U ?_
  | with_reducible refine ev_andV ?_
  | with_reducible refine ev_orV ?_
  | with_reducible refine ev_notV ?_
  | with_reducible refine ev_if ?_
  | with_reducible refine et_B ?_
  | with_reducible refine et_test ?_
  | with_reducible refine et_not ?_
  | with_reducible refine et_and ?_
  | with_reducible refine et_or ?_
  | with_reducible refine et_tru ?_
  | with_reducible refine ev_bm0 ?_
  | with_reducible refine ev_bm ?_
  | with_reducible refine ev_chain ?_
  | with_reducible refine gd_name ?_
  | with_reducible refine gd_sub ?_
  | ((with_reducible refine isIxLo ?_); refine o2_ixLo (by first | assumption | exact put_same) (by exact rfl) ?_)
  | ((with_reducible refine isI ?_); refine o2_I (by first | (show (0 : Int) < _; decide) | exact ⟨by decide, by decide⟩ | exact ⟨by decide, by decide, by decide⟩ | exact ⟨by omega, by omega⟩ | exact Or.inl ⟨by omega, by omega⟩ | exact Or.inr ⟨by decide, by decide⟩ | exact Or.inr ⟨by omega, by omega⟩) ?_)
  | refine ⟨_, _, _, _, rfl, rfl, (by first | assumption | exact put_same), (by exact rfl), ?_⟩
  | ((with_reducible refine isTupO ?_); refine ol_tupO (by first | assumption | exact put_same) ?_)
  | ((with_reducible refine isTupBO ?_); refine ol_tupBO (by first | assumption | exact put_same) ?_)
  | with_reducible refine ol_abs ?_
  | with_reducible refine ol_max2 ?_
  | with_reducible refine ol_min2 ?_
  | with_reducible refine gs_nil ?_
  | with_reducible refine gs_cons ?_
  | with_reducible refine gd_tup rfl ?_
  | with_reducible refine o2_I0 ?_
  | with_reducible refine o2_B0 ?_
  | with_reducible refine o2_eqI ?_
  | with_reducible refine o2_neI ?_
  | with_reducible refine o2_eqS ?_
  | with_reducible refine o2_neS ?_
  | with_reducible refine o2_SS ?_
  | with_reducible refine o2_isB ?_
  | with_reducible refine o2_notB ?_
  | with_reducible refine om_S0 trivial ?_
  | with_reducible refine ol_isiInt (by first | assumption | rfl) ?_
  | with_reducible refine ol_isiBool (by first | assumption | rfl) ?_
  | with_reducible refine ol_isiStr (by first | assumption | rfl) ?_
  | with_reducible refine ol_isiTup (by first | assumption | rfl) ?_
  | refine Exists.intro _ (And.intro rfl ?_)
  | with_reducible refine And.intro ty_str ?_
  | ((with_reducible refine isIxT ?_); refine o2_ixT rfl ?_)
  | ((with_reducible refine isIxL ?_); refine o2_ixL rfl ?_)
  | with_reducible refine ev_f ?_
  | with_reducible refine ev_fk kg1_ok ?_
  | with_reducible refine ev_fk kgS_ok ?_
  | refine And.intro (by first | assumption | exact Nat.le_of_ble_eq_true rfl) ?_
  | with_reducible refine ev_sl ?_
  | with_reducible refine eo_none ?_
  | with_reducible refine eo_some ?_
  | with_reducible refine ol_lenS (by rw [sizeLine_eq]; omega) ?_
  | with_reducible refine os_str (by rw [sizeLine_eq]; omega) ?_
  | ((with_reducible refine isLenD ?_); refine ol_lenD (by first | assumption | exact put_same) ?_)
  | with_reducible refine sd_dput ?_
  | with_reducible refine ev_sortItems ?_
  | with_reducible refine ev_revT ?_
  | with_reducible refine ev_dget2 ?_
  | with_reducible refine ol_lenT ?_
  | with_reducible refine ol_lenL ?_
  | with_reducible refine ol_int1 ?_
  | with_reducible refine ol_tupL ?_
  | with_reducible refine ol_tupB ?_
  | with_reducible refine ev_tupB ?_
  | with_reducible refine ol_tupT ?_
  | with_reducible refine ol_lstL ?_
  | with_reducible refine ol_lstT ?_
  | with_reducible refine os_lst ?_
  | with_reducible refine os_tupA ?_
  | with_reducible refine os_tupB ?_)
local macro_rules | `(tactic| walk_at "stn") => `(tactic| repeat walk_at "st")
local macro_rules | `(tactic| walk_at "sts") => `(tactic| repeat first | walk_at "st" | with_reducible refine ev_lst ?_)

section
variable {P : Program} {wo : World} {K : PySem.W.Frag} {mg : Str → Option Value} {base : Heap}
abbrev s_is_integer_from : Stmt := top 10
theorem sc_is_integer_from : FnScope ["thing", "least"] ["thing", "least"] (defScope s_is_integer_from) := ⟨rfl, rfl, rfl, by decide +kernel, rfl, by decide +kernel, by decide +kernel⟩
theorem bp_is_integer_from : BindP "is_integer_from" s_is_integer_from ["thing", "least"] := fun _ _ _ _ _ _ us hl => match us, hl with | [_, _], _ => rfl

theorem ok_is_integer_from (T : Tx mg) (d : Dn K mg "is_integer_from" s_is_integer_from) (F_is_integer : Fk P wo K mg base CX0 1 "is_integer" s_is_integer ["thing"] (SpF K okKn fIsInt)) :
    Fk P wo K mg base CX0 2 "is_integer_from" s_is_integer_from ["thing", "least"] (SpF K okIF fIF) := by
  refine fk_ok d sc_is_integer_from bp_is_integer_from (fun ds w h => ?_) fun f cdv A fr s H E hg hr => ⟨_, (pss_one (ps_ret (pe_and (pe_f F_is_integer hg (hr.mono (by decide)) rfl pass0 (pa_cons (pv 0) pa_nil)) (pe_one (pe_cmpR op_ge (pv 0) (pv 1) (nomark _)))))), fun ds w hp => ?_⟩
  · match ds, h with | [_, .int _], _ => rfl
  · match ds, hp with
    | [d, .int m], hp =>
      have hk : okKn [d] := hp
      walk_at "sts"
      refine if_2 (fun e => ?_) (fun e => ?_)
      · cases d with
        | int i =>
          walk_at "sts"
          exact rt_f rfl
        | _ => cases e
      · refine rt_f ?_
        cases d with
        | int i => cases e
        | _ => rfl
end
end LW
set_option Elab.async false
set_option linter.all false
set_option autoImplicit false
set_option maxRecDepth 100000
set_option maxHeartbeats 4000000
namespace LW
open PySem PySem.Spec PyProof.Rows L2 DL
/-- one step of a reading on data -/
local macro_rules | `(tactic| walk_at "st") => `(tactic| first
  | with_reducible refine sd_seq ?_
  | with_reducible refine sd_ret ?_
  | with_reducible refine sd_asg ?_
  | with_reducible refine sd_if ?_
  | with_reducible refine sd_drop ?_
  | with_reducible refine sd_par ?_
  | with_reducible refine sd_nx ?_
  | with_reducible refine sd_retN ?_
  | with_reducible refine ev_op ?_
  | with_reducible refine ev_cint ?_
  | with_reducible refine ev_cstr ?_
  | with_reducible refine ev_cbl ?_
  | with_reducible refine ev_cnon ?_
  | with_reducible refine ev_cty ?_
  | refine ev_var (by exact rfl) ?_
  | with_reducible refine ev_cb ?_
  | with_reducible refine ea_cons ?_
  | with_reducible refine ea_nil ?_
  | with_reducible refine ev_tup ?_
  | with_reducible refine ev_un ?_
  | with_reducible refine o1_U ?_
  | with_reducible refine ev_andV ?_
  | with_reducible refine ev_orV ?_
  | with_reducible refine ev_notV ?_
  | with_reducible refine ev_if ?_
  | with_reducible refine et_B ?_
  | with_reducible refine et_test ?_
  | with_reducible refine et_not ?_
  | with_reducible refine et_and ?_
  | with_reducible refine et_or ?_
  | with_reducible refine et_tru ?_
  | with_reducible refine ev_bm0 ?_
  | with_reducible refine ev_bm ?_
  | with_reducible refine ev_chain ?_
  | with_reducible refine gd_name ?_
  | with_reducible refine gd_sub ?_
  | ((with_reducible refine isIxLo ?_); refine o2_ixLo (by first | assumption | exact put_same) (by exact rfl) ?_)
  | ((with_reducible refine isI ?_); refine o2_I (by first | (show (0 : Int) < _; decide) | exact ⟨by decide, by decide⟩ | exact ⟨by decide, by decide, by decide⟩ | exact ⟨by omega, by omega⟩ | exact Or.inl ⟨by omega, by omega⟩ | exact Or.inr ⟨by decide, by decide⟩ | exact Or.inr ⟨by omega, by omega⟩) ?_)
  | refine ⟨_, _, _, _, rfl, rfl, (by first | assumption | exact put_same), (by exact rfl), ?_⟩
  | ((with_reducible refine isTupO ?_); refine ol_tupO (by first | assumption | exact put_same) ?_)
  | ((with_reducible refine isTupBO ?_); refine ol_tupBO (by first | assumption | exact put_same) ?_)
  | with_reducible refine ol_abs ?_
  | with_reducible refine ol_max2 ?_
  | with_reducible refine ol_min2 ?_
  | with_reducible refine gs_nil ?_
  | with_reducible refine gs_cons ?_
  | with_reducible refine gd_tup rfl ?_
  | with_reducible refine o2_I0 ?_
  | with_reducible refine o2_B0 ?_
  | with_reducible refine o2_eqI ?_
  | with_reducible refine o2_neI ?_
  | with_reducible refine o2_eqS ?_
  | with_reducible refine o2_neS ?_
  | with_reducible refine o2_SS ?_
  | with_reducible refine o2_isB ?_
  | with_reducible refine o2_notB ?_
  | with_reducible refine om_S0 trivial ?_
  | with_reducible refine ol_isiInt (by first | assumption | rfl) ?_
  | with_reducible refine ol_isiBool (by first | assumption | rfl) ?_
  | with_reducible refine ol_isiStr (by first | assumption | rfl) ?_
  | with_reducible refine ol_isiTup (by first | assumption | rfl) ?_
  | refine Exists.intro _ (And.intro rfl ?_)
  | with_reducible refine And.intro ty_str ?_
  | ((with_reducible refine isIxT ?_); refine o2_ixT rfl ?_)
  | ((with_reducible refine isIxL ?_); refine o2_ixL rfl ?_)
  | with_reducible refine ev_f ?_
  | with_reducible refine ev_fk kg1_ok ?_
  | with_reducible refine ev_fk kgS_ok ?_
  | refine And.intro (by first | assumption | exact Nat.le_of_ble_eq_true rfl) ?_
  | with_reducible refine ev_sl ?_
  | with_reducible refine eo_none ?_
  | with_reducible refine eo_some ?_
  | with_reducible refine ol_lenS (by rw [sizeLine_eq]; omega) ?_
  | with_reducible refine os_str (by rw [sizeLine_eq]; omega) ?_
  | ((with_reducible refine isLenD ?_); refine ol_lenD (by first | assumption | exact put_same) ?_)
  | with_reducible refine sd_dput ?_
  | with_reducible refine ev_sortItems ?_
  | with_reducible refine ev_revT ?_
  | with_reducible refine ev_dget2 ?_
  | with_reducible refine ol_lenT ?_
  | with_reducible refine ol_lenL ?_
  | with_reducible refine ol_int1 ?_
  | with_reducible refine ol_tupL ?_
  | with_reducible refine ol_tupB ?_
  | with_reducible refine ev_tupB ?_
  | with_reducible refine ol_tupT ?_
  | with_reducible refine ol_lstL ?_
  | with_reducible refine ol_lstT ?_
  | with_reducible refine os_lst ?_
  | with_reducible refine os_tupA ?_
  | with_reducible refine os_tupB ?_)
local macro_rules | `(tactic| walk_at "stn") => `(tactic| repeat walk_at "st")
local macro_rules | `(tactic| walk_at "sts") => `(tactic| repeat first | walk_at "st" | with_reducible refine ev_lst ?_)

section
variable {P : Program} {wo : World} {K : PySem.W.Frag} {mg : Str → Option Value} {base : Heap}
abbrev s_is_name : Stmt := top 11
theorem sc_is_name : FnScope ["thing"] ["thing"] (defScope s_is_name) := ⟨rfl, rfl, rfl, by decide +kernel, rfl, by decide +kernel, by decide +kernel⟩
theorem bp_is_name : BindP "is_name" s_is_name ["thing"] := fun _ _ _ _ _ _ us hl => match us, hl with | [_], _ => rfl

theorem ok_is_name (T : Tx mg) (d : Dn K mg "is_name" s_is_name) : Fk P wo K mg base CX0 1 "is_name" s_is_name ["thing"] (SpF K okFine fIsName) := by
  refine fk_ok d sc_is_name bp_is_name (fun ds w h => ?_) fun f cdv A fr s H E hg hr => ⟨_, (pss_cons (ps_if (PW.pt (pw_or (pt_not (pt_val (q_isi (K := K) rfl T.b_isinstance rfl (pa_cons (pv 0) (pa_cons (c_str T.b_str rfl) pa_nil))))) (pw_or1 (pt_cmpR op_gt (q_len (K := K) rfl T.b_len rfl (pa_cons (pv 0) pa_nil)) (k_int T.k_LONGEST_NAME rfl) (nomark _))))) (pss_one (ps_ret pe_bl)) pss_nil) (pss_one (ps_ret (pe_and (q_bm0 (K := K) rfl PySem.F.plainAttrs_str PySem.F.slot_str_isascii PySem.F.type_str_isascii mt_isascii (pv 0)) (pe_and (q_bm0 (K := K) rfl PySem.F.plainAttrs_str PySem.F.slot_str_isalpha PySem.F.type_str_isalpha mt_isalpha (pv 0)) (pe_one (q_bm0 (K := K) rfl PySem.F.plainAttrs_str PySem.F.slot_str_islower PySem.F.type_str_islower mt_islower (pv 0)))))))), fun ds w hp => ?_⟩
  · match ds, h with | [d], _ => rfl
  · match ds, hp with
    | [d], hp =>
      replace hp : fine d = true := hp
      have hk : kn d := fine_kn hp
      walk_at "sts"
      refine if_2 (fun e => ?_) (fun e => ?_)
      · refine if_t rfl ?_
        walk_at "sts"
        refine rt_f ?_
        cases d <;> first | rfl | cases e
      · cases d with
        | str x =>
          walk_at "sts"
          refine ol_lenS (fine_str hp) ?_
          walk_at "sts"
          refine if_2 (fun e => ?_) (fun e => ?_)
          · walk_at "sts"
            refine rt_f ?_
            have e' : ¬ x.length ≤ 8 := by
              have := of_decide_eq_true e
              omega
            show _ = D.bl (nameS x)
            unfold nameS
            rw [decide_eq_false e']
            rfl
          · have e' : x.length ≤ 8 := by
              have := of_decide_eq_false e
              omega
            walk_at "sts"
            have fin : ∀ b : Bool, b = (Txt.isascii x && (Txt.isalpha x && Txt.islower x)) → D.bl b = fIsName [.str x] := fun b hb => by
              show _ = D.bl (nameS x)
              unfold nameS
              rw [hb, decide_eq_true e']
              rfl
            refine if_2 (fun e1 => ?_) (fun e1 => rt_f (fin _ (by rw [e1]; rfl)))
            walk_at "sts"
            refine if_2 (fun e2 => ?_) (fun e2 => rt_f (fin _ (by rw [e1, e2]; rfl)))
            walk_at "sts"
            exact rt_f (fin _ (by rw [e1, e2]; rfl))
        | _ => cases e
end
end LW
set_option Elab.async false
set_option linter.all false
set_option autoImplicit false
set_option maxRecDepth 100000
set_option maxHeartbeats 4000000
namespace LW
open PySem PySem.Spec PyProof.Rows L2 DL
/-- one step of a reading on data -/
local macro_rules | `(tactic| walk_at "st") => `(tactic| first
  | with_reducible refine sd_seq ?_
  | with_reducible refine sd_ret ?_
  | with_reducible refine sd_asg ?_
  | with_reducible refine sd_if ?_
  | with_reducible refine sd_drop ?_
  | with_reducible refine sd_par ?_
  | with_reducible refine sd_nx ?_
  | with_reducible refine sd_retN ?_
  | with_reducible refine ev_op ?_
  | with_reducible refine ev_cint ?_
  | with_reducible refine ev_cstr ?_
  | with_reducible refine ev_cbl ?_
  | with_reducible refine ev_cnon ?_
  | with_reducible refine ev_cty ?_
  | refine ev_var (by exact rfl) ?_
  | with_reducible refine ev_cb ?_
  | with_reducible refine ea_cons ?_
  | with_reducible refine ea_nil ?_
  | with_reducible refine ev_tup ?_
  | with_reducible refine ev_un ?_
  | with_reducible refine o1_U ?_
  | with_reducible refine ev_andV ?_
  | with_reducible refine ev_orV ?_
  | with_reducible refine ev_notV ?_
  | with_reducible refine ev_if ?_
  | with_reducible refine et_B ?_
  | with_reducible refine et_test ?_
  | with_reducible refine et_not ?_
  | with_reducible refine et_and ?_
  | with_reducible refine et_or ?_
  | with_reducible refine et_tru ?_
  | with_reducible refine ev_bm0 ?_
  | with_reducible refine ev_bm ?_
  | with_reducible refine ev_chain ?_
  | with_reducible refine gd_name ?_
  | with_reducible refine gd_sub ?_
  | ((with_reducible refine isIxLo ?_); refine o2_ixLo (by first | assumption | exact put_same) (by exact rfl) ?_)
  | ((with_reducible refine isI ?_); refine o2_I (by first | (show (0 : Int) < _; decide) | exact ⟨by decide, by decide⟩ | exact ⟨by decide, by decide, by decide⟩ | exact ⟨by omega, by omega⟩ | exact Or.inl ⟨by omega, by omega⟩ | exact Or.inr ⟨by decide, by decide⟩ | exact Or.inr ⟨by omega, by omega⟩) ?_)
  | refine ⟨_, _, _, _, rfl, rfl, (by first | assumption | exact put_same), (by exact rfl), ?_⟩
  | ((with_reducible refine isTupO ?_); refine ol_tupO (by first | assumption | exact put_same) ?_)
  | ((with_reducible refine isTupBO ?_); refine ol_tupBO (by first | assumption | exact put_same) ?_)
  | with_reducible refine ol_abs ?_
  | with_reducible refine ol_max2 ?_
  | with_reducible refine ol_min2 ?_
  | with_reducible refine gs_nil ?_
  | with_reducible refine gs_cons ?_
  | with_reducible refine gd_tup rfl ?_
  | with_reducible refine o2_I0 ?_
  | with_reducible refine o2_B0 ?_
  | with_reducible refine o2_eqI ?_
  | with_reducible refine o2_neI ?_
  | with_reducible refine o2_eqS ?_
  | with_reducible refine o2_neS ?_
  | with_reducible refine o2_SS ?_
  | with_reducible refine o2_isB ?_
  | with_reducible refine o2_notB ?_
  | with_reducible refine om_S0 trivial ?_
  | with_reducible refine ol_isiInt (by first | assumption | rfl) ?_
  | with_reducible refine ol_isiBool (by first | assumption | rfl) ?_
  | with_reducible refine ol_isiStr (by first | assumption | rfl) ?_
  | with_reducible refine ol_isiTup (by first | assumption | rfl) ?_
  | refine Exists.intro _ (And.intro rfl ?_)
  | with_reducible refine And.intro ty_str ?_
  | ((with_reducible refine isIxT ?_); refine o2_ixT rfl ?_)
  | ((with_reducible refine isIxL ?_); refine o2_ixL rfl ?_)
  | with_reducible refine ev_f ?_
  | with_reducible refine ev_fk kg1_ok ?_
  | with_reducible refine ev_fk kgS_ok ?_
  | refine And.intro (by first | assumption | exact Nat.le_of_ble_eq_true rfl) ?_
  | with_reducible refine ev_sl ?_
  | with_reducible refine eo_none ?_
  | with_reducible refine eo_some ?_
  | with_reducible refine ol_lenS (by rw [sizeLine_eq]; omega) ?_
  | with_reducible refine os_str (by rw [sizeLine_eq]; omega) ?_
  | ((with_reducible refine isLenD ?_); refine ol_lenD (by first | assumption | exact put_same) ?_)
  | with_reducible refine sd_dput ?_
  | with_reducible refine ev_sortItems ?_
  | with_reducible refine ev_revT ?_
  | with_reducible refine ev_dget2 ?_
  | with_reducible refine ol_lenT ?_
  | with_reducible refine ol_lenL ?_
  | with_reducible refine ol_int1 ?_
  | with_reducible refine ol_tupL ?_
  | with_reducible refine ol_tupB ?_
  | with_reducible refine ev_tupB ?_
  | with_reducible refine ol_tupT ?_
  | with_reducible refine ol_lstL ?_
  | with_reducible refine ol_lstT ?_
  | with_reducible refine os_lst ?_
  | with_reducible refine os_tupA ?_
  | with_reducible refine os_tupB ?_)
local macro_rules | `(tactic| walk_at "stn") => `(tactic| repeat walk_at "st")
local macro_rules | `(tactic| walk_at "sts") => `(tactic| repeat first | walk_at "st" | with_reducible refine ev_lst ?_)

section
variable {P : Program} {wo : World} {K : PySem.W.Frag} {mg : Str → Option Value} {base : Heap}
abbrev s_is_pair : Stmt := top 12
theorem sc_is_pair : FnScope ["thing", "name", "number"] ["thing"] (defScope s_is_pair) := ⟨rfl, rfl, rfl, by decide +kernel, rfl, by decide +kernel, by decide +kernel⟩
theorem bp_is_pair : BindP "is_pair" s_is_pair ["thing"] := fun _ _ _ _ _ _ us hl => match us, hl with | [_], _ => rfl

theorem ok_is_pair (T : Tx mg) (d : Dn K mg "is_pair" s_is_pair) (F_is_name : Fk P wo K mg base CX0 1 "is_name" s_is_name ["thing"] (SpF K okFine fIsName)) (F_is_integer_from : Fk P wo K mg base CX0 2 "is_integer_from" s_is_integer_from ["thing", "least"] (SpF K okIF fIF)) :
    Fk P wo K mg base CX0 3 "is_pair" s_is_pair ["thing"] (SpF K okFine fIsPair) := by
  refine fk_ok d sc_is_pair bp_is_pair (fun ds w h => ?_) fun f cdv A fr s H E hg hr => ⟨_, (pss_cons (ps_if (PW.pt (pw_or (pt_not (pt_val (q_isi (K := K) rfl T.b_isinstance rfl (pa_cons (pv 0) (pa_cons (c_tuple T.b_tuple rfl) pa_nil))))) (pw_or1 (pt_cmpR op_ne (q_len (K := K) rfl T.b_len rfl (pa_cons (pv 0) pa_nil)) pe_int (nomark _))))) (pss_one (ps_ret pe_bl)) pss_nil) (pss_cons (ps_asg (pv 0) (qg_tup (K := K) (n := 2) rfl rfl (pgs_cons (pg_name (i := 1) sc_is_pair.nd rfl (Or.inl rfl) (hf := Or.inl rfl)) (pgs_cons (pg_name (i := 2) sc_is_pair.nd rfl (Or.inl rfl) (hf := Or.inl rfl)) pgs_nil)) rfl)) (pss_one (ps_ret (pe_and (pe_f F_is_name hg (hr.mono (by decide)) rfl pass0 (pa_cons (pv 1) pa_nil)) (pe_one (pe_f F_is_integer_from hg (hr.mono (by decide)) rfl pass0 (pa_cons (pv 2) (pa_cons pe_int pa_nil))))))))), fun ds w hp => ?_⟩
  · match ds, h with | [d], _ => rfl
  · match ds, hp with
    | [d], hp =>
      replace hp : fine d = true := hp
      have hk : kn d := fine_kn hp
      walk_at "sts"
      refine if_2 (fun e => ?_) (fun e => ?_)
      · refine if_t rfl ?_
        walk_at "sts"
        refine rt_f ?_
        cases d <;> first | rfl | cases e
      · cases d with
        | tup ds =>
          walk_at "sts"
          refine if_2 (fun e1 => ?_) (fun e1 => ?_)
          · walk_at "sts"
            refine rt_f ?_
            show _ = D.bl (pairD (.tup ds))
            rw [pairD_len]
            intro h
            rw [h] at e1
            exact absurd e1 (by decide)
          · match ds, e1 with
            | [n, c], _ =>
              have h1 : fine n = true := (fineA_cons (fine_tup hp)).1
              have h2 : fine c = true := (fineA_cons (fineA_cons (fine_tup hp)).2).1
              have h3 : okFine [n] := h1
              have h4 : okIF [c, .int 1] := fine_kn h2
              walk_at "sts"
              have fin : ∀ b : Bool, (b = pairD (.tup [n, c])) → D.bl b = fIsPair [.tup [n, c]] := fun b hb => by rw [hb]; rfl
              refine if_2 (fun e2 => ?_) (fun e2 => ?_)
              · walk_at "sts"
                refine rt_f ?_
                have e2' : nameD n = true := e2
                show fIF [c, .int 1] = D.bl (nameD n && posD c)
                rw [e2']
                cases c <;> rfl
              · refine rt_f (fin _ ?_)
                show _ = (nameD n && posD c)
                rw [e2]
                rfl
            | [], e1 => exact absurd e1 (by decide)
            | [_], e1 => exact absurd e1 (by simp)
            | _ :: _ :: _ :: _, e1 =>
              exfalso
              simp only [List.length_cons, Bool.not_eq_false', decide_eq_true_eq] at e1
              omega
        | _ => cases e
end
end LW
set_option Elab.async false
set_option linter.all false
set_option autoImplicit false
set_option maxRecDepth 100000
set_option maxHeartbeats 4000000
namespace LW
open PySem PySem.Spec PyProof.Rows L2 DL
/-- one step of a reading on data -/
local macro_rules | `(tactic| walk_at "st") => `(tactic| first
  | with_reducible refine sd_seq ?_
  | with_reducible refine sd_ret ?_
  | with_reducible refine sd_asg ?_
  | with_reducible refine sd_if ?_
  | with_reducible refine sd_drop ?_
  | with_reducible refine sd_par ?_
  | with_reducible refine sd_nx ?_
  | with_reducible refine sd_retN ?_
  | with_reducible refine ev_op ?_
  | with_reducible refine ev_cint ?_
  | with_reducible refine ev_cstr ?_
  | with_reducible refine ev_cbl ?_
  | with_reducible refine ev_cnon ?_
  | with_reducible refine ev_cty ?_
  | refine ev_var (by exact rfl) ?_
  | with_reducible refine ev_cb ?_
  | with_reducible refine ea_cons ?_
  | with_reducible refine ea_nil ?_
  | with_reducible refine ev_tup ?_
  | with_reducible refine ev_un ?_
  | with_reducible refine o1_U ?_
  | with_reducible refine ev_andV ?_
  | with_reducible refine ev_orV ?_
  | with_reducible refine ev_notV ?_
  | with_reducible refine ev_if ?_
  | with_reducible refine et_B ?_
  | with_reducible refine et_test ?_
  | with_reducible refine et_not ?_
  | with_reducible refine et_and ?_
  | with_reducible refine et_or ?_
  | with_reducible refine et_tru ?_
  | with_reducible refine ev_bm0 ?_
  | with_reducible refine ev_bm ?_
  | with_reducible refine ev_chain ?_
  | with_reducible refine gd_name ?_
  | with_reducible refine gd_sub ?_
  | ((with_reducible refine isIxLo ?_); refine o2_ixLo (by first | assumption | exact put_same) (by exact rfl) ?_)
  | ((with_reducible refine isI ?_); refine o2_I (by first | (show (0 : Int) < _; decide) | exact ⟨by decide, by decide⟩ | exact ⟨by decide, by decide, by decide⟩ | exact ⟨by omega, by omega⟩ | exact Or.inl ⟨by omega, by omega⟩ | exact Or.inr ⟨by decide, by decide⟩ | exact Or.inr ⟨by omega, by omega⟩) ?_)
  | refine ⟨_, _, _, _, rfl, rfl, (by first | assumption | exact put_same), (by exact rfl), ?_⟩
  | ((with_reducible refine isTupO ?_); refine ol_tupO (by first | assumption | exact put_same) ?_)
  | ((with_reducible refine isTupBO ?_); refine ol_tupBO (by first | assumption | exact put_same) ?_)
  | with_reducible refine ol_abs ?_
  | with_reducible refine ol_max2 ?_
  | with_reducible refine ol_min2 ?_
  | with_reducible refine gs_nil ?_
  | with_reducible refine gs_cons ?_
  | with_reducible refine gd_tup rfl ?_
  | with_reducible refine o2_I0 ?_
  | with_reducible refine o2_B0 ?_
  | with_reducible refine o2_eqI ?_
  | with_reducible refine o2_neI ?_
  | with_reducible refine o2_eqS ?_
  | with_reducible refine o2_neS ?_
  | with_reducible refine o2_SS ?_
  | with_reducible refine o2_isB ?_
  | with_reducible refine o2_notB ?_
  | with_reducible refine om_S0 trivial ?_
  | with_reducible refine ol_isiInt (by first | assumption | rfl) ?_
  | with_reducible refine ol_isiBool (by first | assumption | rfl) ?_
  | with_reducible refine ol_isiStr (by first | assumption | rfl) ?_
  | with_reducible refine ol_isiTup (by first | assumption | rfl) ?_
  | refine Exists.intro _ (And.intro rfl ?_)
  | with_reducible refine And.intro ty_str ?_
  | ((with_reducible refine isIxT ?_); refine o2_ixT rfl ?_)
  | ((with_reducible refine isIxL ?_); refine o2_ixL rfl ?_)
  | with_reducible refine ev_f ?_
  | with_reducible refine ev_fk kg1_ok ?_
  | with_reducible refine ev_fk kgS_ok ?_
  | refine And.intro (by first | assumption | exact Nat.le_of_ble_eq_true rfl) ?_
  | with_reducible refine ev_sl ?_
  | with_reducible refine eo_none ?_
  | with_reducible refine eo_some ?_
  | with_reducible refine ol_lenS (by rw [sizeLine_eq]; omega) ?_
  | with_reducible refine os_str (by rw [sizeLine_eq]; omega) ?_
  | ((with_reducible refine isLenD ?_); refine ol_lenD (by first | assumption | exact put_same) ?_)
  | with_reducible refine sd_dput ?_
  | with_reducible refine ev_sortItems ?_
  | with_reducible refine ev_revT ?_
  | with_reducible refine ev_dget2 ?_
  | with_reducible refine ol_lenT ?_
  | with_reducible refine ol_lenL ?_
  | with_reducible refine ol_int1 ?_
  | with_reducible refine ol_tupL ?_
  | with_reducible refine ol_tupB ?_
  | with_reducible refine ev_tupB ?_
  | with_reducible refine ol_tupT ?_
  | with_reducible refine ol_lstL ?_
  | with_reducible refine ol_lstT ?_
  | with_reducible refine os_lst ?_
  | with_reducible refine os_tupA ?_
  | with_reducible refine os_tupB ?_)
local macro_rules | `(tactic| walk_at "stn") => `(tactic| repeat walk_at "st")
local macro_rules | `(tactic| walk_at "sts") => `(tactic| repeat first | walk_at "st" | with_reducible refine ev_lst ?_)

section
variable {P : Program} {wo : World} {K : PySem.W.Frag} {mg : Str → Option Value} {base : Heap}
abbrev s_check_name : Stmt := top 14
theorem sc_check_name : FnScope ["thing"] ["thing"] (defScope s_check_name) := ⟨rfl, rfl, rfl, by decide +kernel, rfl, by decide +kernel, by decide +kernel⟩
theorem bp_check_name : BindP "check_name" s_check_name ["thing"] := fun _ _ _ _ _ _ us hl => match us, hl with | [_], _ => rfl

theorem ok_check_name (T : Tx mg) (d : Dn K mg "check_name" s_check_name) (F_is_name : Fk P wo K mg base CX0 1 "is_name" s_is_name ["thing"] (SpF K okFine fIsName)) :
    Fk P wo K mg base CX0 2 "check_name" s_check_name ["thing"] (SpF K okNm fNon) := by
  refine fk_ok d sc_check_name bp_check_name (fun ds w h => ?_) fun f cdv A fr s H E hg hr => ⟨_, (pss_one (ps_if (pt_not (pt_val (pe_f F_is_name hg (hr.mono (by decide)) rfl pass0 (pa_cons (pv 0) pa_nil)))) (pss_one ps_never) pss_nil)), fun ds w hp => ?_⟩
  · match ds, h with | [.str _], _ => rfl
  · match ds, hp with
    | [.str n], hp =>
      have hn : nameS n = true := hp
      have hf : okFine [.str n] := nameS_fine hn
      walk_at "sts"
      refine if_f (show (!nameS n) = false by rw [hn]; rfl) ?_
      walk_at "sts"
      exact rt_f rfl
end
end LW
set_option Elab.async false
set_option linter.all false
set_option autoImplicit false
set_option maxRecDepth 100000
set_option maxHeartbeats 4000000
namespace LW
open PySem PySem.Spec PyProof.Rows L2 DL
/-- one step of a reading on data -/
local macro_rules | `(tactic| walk_at "st") => `(tactic| first
  | with_reducible refine sd_seq ?_
  | with_reducible refine sd_ret ?_
  | with_reducible refine sd_asg ?_
  | with_reducible refine sd_if ?_
  | with_reducible refine sd_drop ?_
  | with_reducible refine sd_par ?_
  | with_reducible refine sd_nx ?_
  | with_reducible refine sd_retN ?_
  | with_reducible refine ev_op ?_
  | with_reducible refine ev_cint ?_
  | with_reducible refine ev_cstr ?_
  | with_reducible refine ev_cbl ?_
  | with_reducible refine ev_cnon ?_
  | with_reducible refine ev_cty ?_
  | refine ev_var (by exact rfl) ?_
  | with_reducible refine ev_cb ?_
  | with_reducible refine ea_cons ?_
  | with_reducible refine ea_nil ?_
  | with_reducible refine ev_tup ?_
  | with_reducible refine ev_un ?_
  | with_reducible refine o1_U ?_
  | with_reducible refine ev_andV ?_
  | with_reducible refine ev_orV ?_
  | with_reducible refine ev_notV ?_
  | with_reducible refine ev_if ?_
  | with_reducible refine et_B ?_
  | with_reducible refine et_test ?_
  | with_reducible refine et_not ?_
  | with_reducible refine et_and ?_
  | with_reducible refine et_or ?_
  | with_reducible refine et_tru ?_
  | with_reducible refine ev_bm0 ?_
  | with_reducible refine ev_bm ?_
  | with_reducible refine ev_chain ?_
  | with_reducible refine gd_name ?_
  | with_reducible refine gd_sub ?_
  | ((with_reducible refine isIxLo ?_); refine o2_ixLo (by first | assumption | exact put_same) (by exact rfl) ?_)
  | ((with_reducible refine isI ?_); refine o2_I (by first | (show (0 : Int) < _; decide) | exact ⟨by decide, by decide⟩ | exact ⟨by decide, by decide, by decide⟩ | exact ⟨by omega, by omega⟩ | exact Or.inl ⟨by omega, by omega⟩ | exact Or.inr ⟨by decide, by decide⟩ | exact Or.inr ⟨by omega, by omega⟩) ?_)
  | refine ⟨_, _, _, _, rfl, rfl, (by first | assumption | exact put_same), (by exact rfl), ?_⟩
  | ((with_reducible refine isTupO ?_); refine ol_tupO (by first | assumption | exact put_same) ?_)
  | ((with_reducible refine isTupBO ?_); refine ol_tupBO (by first | assumption | exact put_same) ?_)
  | with_reducible refine ol_abs ?_
  | with_reducible refine ol_max2 ?_
  | with_reducible refine ol_min2 ?_
  | with_reducible refine gs_nil ?_
  | with_reducible refine gs_cons ?_
  | with_reducible refine gd_tup rfl ?_
  | with_reducible refine o2_I0 ?_
  | with_reducible refine o2_B0 ?_
  | with_reducible refine o2_eqI ?_
  | with_reducible refine o2_neI ?_
  | with_reducible refine o2_eqS ?_
  | with_reducible refine o2_neS ?_
  | with_reducible refine o2_SS ?_
  | with_reducible refine o2_isB ?_
  | with_reducible refine o2_notB ?_
  | with_reducible refine om_S0 trivial ?_
  | with_reducible refine ol_isiInt (by first | assumption | rfl) ?_
  | with_reducible refine ol_isiBool (by first | assumption | rfl) ?_
  | with_reducible refine ol_isiStr (by first | assumption | rfl) ?_
  | with_reducible refine ol_isiTup (by first | assumption | rfl) ?_
  | refine Exists.intro _ (And.intro rfl ?_)
  | with_reducible refine And.intro ty_str ?_
  | ((with_reducible refine isIxT ?_); refine o2_ixT rfl ?_)
  | ((with_reducible refine isIxL ?_); refine o2_ixL rfl ?_)
  | with_reducible refine ev_f ?_
  | with_reducible refine ev_fk kg1_ok ?_
  | with_reducible refine ev_fk kgS_ok ?_
  | refine And.intro (by first | assumption | exact Nat.le_of_ble_eq_true rfl) ?_
  | with_reducible refine ev_sl ?_
  | with_reducible refine eo_none ?_
  | with_reducible refine eo_some ?_
  | with_reducible refine ol_lenS (by rw [sizeLine_eq]; omega) ?_
  | with_reducible refine os_str (by rw [sizeLine_eq]; omega) ?_
  | ((with_reducible refine isLenD ?_); refine ol_lenD (by first | assumption | exact put_same) ?_)
  | with_reducible refine sd_dput ?_
  | with_reducible refine ev_sortItems ?_
  | with_reducible refine ev_revT ?_
  | with_reducible refine ev_dget2 ?_
  | with_reducible refine ol_lenT ?_
  | with_reducible refine ol_lenL ?_
  | with_reducible refine ol_int1 ?_
  | with_reducible refine ol_tupL ?_
  | with_reducible refine ol_tupB ?_
  | with_reducible refine ev_tupB ?_
  | with_reducible refine ol_tupT ?_
  | with_reducible refine ol_lstL ?_
  | with_reducible refine ol_lstT ?_
  | with_reducible refine os_lst ?_
  | with_reducible refine os_tupA ?_
  | with_reducible refine os_tupB ?_)
local macro_rules | `(tactic| walk_at "stn") => `(tactic| repeat walk_at "st")
local macro_rules | `(tactic| walk_at "sts") => `(tactic| repeat first | walk_at "st" | with_reducible refine ev_lst ?_)

section
variable {P : Program} {wo : World} {K : PySem.W.Frag} {mg : Str → Option Value} {base : Heap}
abbrev s_format_number : Stmt := top 18
theorem sc_format_number : FnScope ["number", "blocks", "rest", "low"] ["number"] (defScope s_format_number) := ⟨rfl, rfl, rfl, by decide +kernel, rfl, by decide +kernel, by decide +kernel⟩
theorem bp_format_number : BindP "format_number" s_format_number ["number"] := fun _ _ _ _ _ _ us hl => match us, hl with | [_], _ => rfl


theorem ok_format_number (T : Tx mg) (d : Dn K mg "format_number" s_format_number) :
    Fk P wo K mg base CX0 1 "format_number" s_format_number ["number"] (SpD K preFN postFN zN) := by
  refine fk_ok d sc_format_number bp_format_number (fun ds w h => by first | (unfold preFN at h; (repeat (first | (obtain ⟨rfl, _⟩ := h; rfl) | (obtain ⟨_, h⟩ := h))); done) | (unfold preFN at h; split at h <;> first | rfl | exact h.elim) | (dsimp only at h; unfold preFN at h; split at h <;> first | rfl | exact h.elim)) fun f cdv A fr s H E hg hr => ⟨_, (pss_cons (ps_set (i := 1) sc_format_number.nd rfl (Or.inl rfl) (pe_lst pa_nil)) (pss_cons (ps_set (i := 2) sc_format_number.nd rfl (Or.inl rfl) (pv 0)) (pss_cons (ps_while PassesOwn.never (pt_cmpR op_ge (pv 2) (k_int T.k_BLOCK rfl) (nomark _)) (pss_cons (ps_asg (b_divmod T.b_divmod rfl (pa_cons (pv 2) (pa_cons (k_int T.k_BLOCK rfl) pa_nil))) (qg_tup (K := K) (n := 2) rfl rfl (pgs_cons (pg_name (i := 2) sc_format_number.nd rfl (Or.inl rfl) (hf := Or.inl rfl)) (pgs_cons (pg_name (i := 3) sc_format_number.nd rfl (Or.inl rfl) (hf := Or.inl rfl)) pgs_nil)) rfl)) (pss_one (ps_expr (q_bm (K := K) rfl PySem.F.plainAttrs_list PySem.F.slot_list_append PySem.F.type_list_append mt_append (pv 1) (pa_cons (q_bm (K := K) rfl PySem.F.plainAttrs_str PySem.F.slot_str_zfill PySem.F.type_str_zfill mt_zfill (b_str T.b_str rfl (pa_cons (pv 3) pa_nil)) (pa_cons (k_int T.k_BLOCK_DIGITS rfl) pa_nil)) pa_nil)))))) (pss_cons (ps_expr (q_bm (K := K) rfl PySem.F.plainAttrs_list PySem.F.slot_list_append PySem.F.type_list_append mt_append (pv 1) (pa_cons (b_str T.b_str rfl (pa_cons (pv 2) pa_nil)) pa_nil))) (pss_one (ps_ret (q_joinRev (K := K) rfl rfl T.b_reversed rfl pe_str (pv 1)))))))), fun ds w hp => ?_⟩
  · obtain ⟨n, rfl, h0, h1⟩ := hp
    walk_at "stn"
    refine ev_lstOwn ?_
    walk_at "stn"
    intro q nq
    walk_at "stn"
    refine sd_while (fun m δ' w' => δ' = [some (.int n), some (.ptr q), some (.int n), none] ∧ w' = put w q (.lst [])) ⟨0, rfl, rfl⟩ fun m δ' w' h => ?_
    obtain ⟨rfl, rfl⟩ := h
    walk_at "stn"
    refine if_f (decide_eq_false (by omega)) ?_
    walk_at "stn"
    refine ⟨ty_lstO put_same, ?_⟩
    walk_at "stn"
    refine ol_strI (log2_60 h0 h1) ?_
    walk_at "stn"
    refine om_app put_same (by rw [sizeLine_eq]; simp) ?_
    rw [put_put]
    walk_at "stn"
    refine ev_joinRev ?_
    walk_at "stn"
    have hl := num_len h0 h1
    refine ⟨q, [Str.ofString (toString n)], rfl, put_same, ?_, (Keep.refl w).put nq, fun m e => ?_⟩
    · show (Str.ofString (toString n)).length + 0 + (0 + 1) * 0 ≤ 16777216
      omega
    injection e with e _
    injection e with e
    subst e
    exact rfl
end
end LW
set_option Elab.async false
set_option linter.all false
set_option autoImplicit false
set_option maxRecDepth 100000
set_option maxHeartbeats 4000000
namespace LW
open PySem PySem.Spec PyProof.Rows L2 DL
/-- one step of a reading on data -/
local macro_rules | `(tactic| walk_at "st") => `(tactic| first
  | with_reducible refine sd_seq ?_
  | with_reducible refine sd_ret ?_
  | with_reducible refine sd_asg ?_
  | with_reducible refine sd_if ?_
  | with_reducible refine sd_drop ?_
  | with_reducible refine sd_par ?_
  | with_reducible refine sd_nx ?_
  | with_reducible refine sd_retN ?_
  | with_reducible refine ev_op ?_
  | with_reducible refine ev_cint ?_
  | with_reducible refine ev_cstr ?_
  | with_reducible refine ev_cbl ?_
  | with_reducible refine ev_cnon ?_
  | with_reducible refine ev_cty ?_
  | refine ev_var (by exact rfl) ?_
  | with_reducible refine ev_cb ?_
  | with_reducible refine ea_cons ?_
  | with_reducible refine ea_nil ?_
  | with_reducible refine ev_tup ?_
  | with_reducible refine ev_un ?_
  | with_reducible refine o1_U ?_
  | with_reducible refine ev_andV ?_
  | with_reducible refine ev_orV ?_
  | with_reducible refine ev_notV ?_
  | with_reducible refine ev_if ?_
  | with_reducible refine et_B ?_
  | with_reducible refine et_test ?_
  | with_reducible refine et_not ?_
  | with_reducible refine et_and ?_
  | with_reducible refine et_or ?_
  | with_reducible refine et_tru ?_
  | with_reducible refine ev_bm0 ?_
  | with_reducible refine ev_bm ?_
  | with_reducible refine ev_chain ?_
  | with_reducible refine gd_name ?_
  | with_reducible refine gd_sub ?_
  | ((with_reducible refine isIxLo ?_); refine o2_ixLo (by first | assumption | exact put_same) (by exact rfl) ?_)
  | ((with_reducible refine isI ?_); refine o2_I (by first | (show (0 : Int) < _; decide) | exact ⟨by decide, by decide⟩ | exact ⟨by decide, by decide, by decide⟩ | exact ⟨by omega, by omega⟩ | exact Or.inl ⟨by omega, by omega⟩ | exact Or.inr ⟨by decide, by decide⟩ | exact Or.inr ⟨by omega, by omega⟩) ?_)
  | refine ⟨_, _, _, _, rfl, rfl, (by first | assumption | exact put_same), (by exact rfl), ?_⟩
  | ((with_reducible refine isTupO ?_); refine ol_tupO (by first | assumption | exact put_same) ?_)
  | ((with_reducible refine isTupBO ?_); refine ol_tupBO (by first | assumption | exact put_same) ?_)
  | with_reducible refine ol_abs ?_
  | with_reducible refine ol_max2 ?_
  | with_reducible refine ol_min2 ?_
  | with_reducible refine gs_nil ?_
  | with_reducible refine gs_cons ?_
  | with_reducible refine gd_tup rfl ?_
  | with_reducible refine o2_I0 ?_
  | with_reducible refine o2_B0 ?_
  | with_reducible refine o2_eqI ?_
  | with_reducible refine o2_neI ?_
  | with_reducible refine o2_eqS ?_
  | with_reducible refine o2_neS ?_
  | with_reducible refine o2_SS ?_
  | with_reducible refine o2_isB ?_
  | with_reducible refine o2_notB ?_
  | with_reducible refine om_S0 trivial ?_
  | with_reducible refine ol_isiInt (by first | assumption | rfl) ?_
  | with_reducible refine ol_isiBool (by first | assumption | rfl) ?_
  | with_reducible refine ol_isiStr (by first | assumption | rfl) ?_
  | with_reducible refine ol_isiTup (by first | assumption | rfl) ?_
  | refine Exists.intro _ (And.intro rfl ?_)
  | with_reducible refine And.intro ty_str ?_
  | ((with_reducible refine isIxT ?_); refine o2_ixT rfl ?_)
  | ((with_reducible refine isIxL ?_); refine o2_ixL rfl ?_)
  | with_reducible refine ev_f ?_
  | with_reducible refine ev_fk kg1_ok ?_
  | with_reducible refine ev_fk kgS_ok ?_
  | refine And.intro (by first | assumption | exact Nat.le_of_ble_eq_true rfl) ?_
  | with_reducible refine ev_sl ?_
  | with_reducible refine eo_none ?_
  | with_reducible refine eo_some ?_
  | with_reducible refine ol_lenS (by rw [sizeLine_eq]; omega) ?_
  | with_reducible refine os_str (by rw [sizeLine_eq]; omega) ?_
  | ((with_reducible refine isLenD ?_); refine ol_lenD (by first | assumption | exact put_same) ?_)
  | with_reducible refine sd_dput ?_
  | with_reducible refine ev_sortItems ?_
  | with_reducible refine ev_revT ?_
  | with_reducible refine ev_dget2 ?_
  | with_reducible refine ol_lenT ?_
  | with_reducible refine ol_lenL ?_
  | with_reducible refine ol_int1 ?_
  | with_reducible refine ol_tupL ?_
  | with_reducible refine ol_tupB ?_
  | with_reducible refine ev_tupB ?_
  | with_reducible refine ol_tupT ?_
  | with_reducible refine ol_lstL ?_
  | with_reducible refine ol_lstT ?_
  | with_reducible refine os_lst ?_
  | with_reducible refine os_tupA ?_
  | with_reducible refine os_tupB ?_)
local macro_rules | `(tactic| walk_at "stn") => `(tactic| repeat walk_at "st")
local macro_rules | `(tactic| walk_at "sts") => `(tactic| repeat first | walk_at "st" | with_reducible refine ev_lst ?_)

section
variable {P : Program} {wo : World} {K : PySem.W.Frag} {mg : Str → Option Value} {base : Heap}
abbrev s_good_pairs : Stmt := top 22
theorem sc_good_pairs : FnScope ["things", "most", "before", "index", "thing"] ["things", "most"] (defScope s_good_pairs) := ⟨rfl, rfl, rfl, by decide +kernel, rfl, by decide +kernel, by decide +kernel⟩
theorem bp_good_pairs : BindP "good_pairs" s_good_pairs ["things", "most"] := fun _ _ _ _ _ _ us hl => match us, hl with | [_, _], _ => rfl

theorem ok_good_pairs (T : Tx mg) (d : Dn K mg "good_pairs" s_good_pairs) (F_is_pair : Fk P wo K mg base CX0 3 "is_pair" s_is_pair ["thing"] (SpF K okFine fIsPair)) :
    Fk P wo K mg base CX0 4 "good_pairs" s_good_pairs ["things", "most"] (SpF K okGood fGood) := by
  refine fk_ok d sc_good_pairs bp_good_pairs (fun ds w h => ?_) fun f cdv A fr s H E hg hr => ⟨_, (pss_cons (ps_set (i := 2) sc_good_pairs.nd rfl (Or.inl rfl) pe_str) (pss_cons (ps_for PassesOwn.never rfl (qi_enT (K := K) rfl rfl T.b_enumerate (pa_cons (pv 0) pa_nil)) (qg_tup (K := K) (n := 2) rfl rfl (pgs_cons (pg_name (i := 3) sc_good_pairs.nd rfl (Or.inl rfl) (hf := Or.inl rfl)) (pgs_cons (pg_name (i := 4) sc_good_pairs.nd rfl (Or.inl rfl) (hf := Or.inl rfl)) pgs_nil)) rfl) (pss_cons (ps_if (PW.pt (pw_or (pt_cmpR op_eq (pv 3) (pv 1) (nomark _)) (pw_or (pt_not (pt_val (pe_f F_is_pair hg (hr.mono (by decide)) rfl pass0 (pa_cons (pv 4) pa_nil)))) (pw_or1 (pt_cmpR op_le_str (pe_ix (qx_tup (K := K) rfl) (pv 4) pe_int (fun _ _ => rfl)) (pv 2) (nomark _)))))) (pss_one (ps_ret (pv 3))) pss_nil) (pss_one (ps_set (i := 2) sc_good_pairs.nd rfl (Or.inl rfl) (pe_ix (qx_tup (K := K) rfl) (pv 4) pe_int (fun _ _ => rfl)))))) (pss_one (ps_ret (q_len (K := K) rfl T.b_len rfl (pa_cons (pv 0) pa_nil)))))), fun ds w hp => ?_⟩
  · match ds, h with | [.tup _, .int _], _ => rfl
  · match ds, hp with
    | [.tup ds, .int m], hp =>
      replace hp : fineA ds = true := hp
      walk_at "sts"
      refine sd_for (ei_enT ?_)
      walk_at "sts"
      refine ⟨fun i δ' w' => w' = w ∧ ∃ b x y, δ' = [some (.tup ds), some (.int m), some (.str b), x, y] ∧ goodGo m "" 0 ds = goodGo m b i (ds.drop i), ⟨rfl, _, _, _, rfl, rfl⟩, ?_, ?_⟩
      · rintro i e δ' w' he ⟨rfl, b, x, y, rfl, hgo⟩
        obtain ⟨dd, hdd, rfl⟩ := enD_get he
        have hi : i < ds.length := (List.getElem?_eq_some_iff.mp hdd).1
        have hdrop : ds.drop i = dd :: ds.drop (i + 1) := by
          rw [List.drop_eq_getElem_cons hi]
          congr 1
          exact (List.getElem?_eq_some_iff.mp hdd).2
        have hf : okFine [dd] := fineA_get hp hdd
        rw [hdrop] at hgo
        have out : ((i : Int) = m ∨ pairD dd = false ∨ ¬ b.cps.toList < (nmD dd).cps.toList) → D.int i = fGood [.tup ds, .int m] := fun h => by
          show D.int i = D.int (goodN ds m)
          unfold goodN
          rw [hgo, goodGo, if_pos h]
          rfl
        walk_at "sts"
        refine if_2 (fun e1 => if_t rfl ?_) (fun e1 => ?_)
        · walk_at "sts"
          exact rt_f (out (.inl (of_decide_eq_true e1)))
        · walk_at "sts"
          refine if_2 (fun e2 => if_t rfl ?_) (fun e2 => ?_)
          · walk_at "sts"
            exact rt_f (out (.inr (.inl (by simpa using e2))))
          · obtain ⟨n, c, rfl, hn, hc⟩ := pairD_shape (by simpa using e2)
            walk_at "sts"
            refine if_2 (fun e3 => ?_) (fun e3 => ?_)
            · walk_at "sts"
              exact rt_f (out (.inr (.inr (by simpa [nmD] using e3))))
            · walk_at "sts"
              refine ⟨rfl, n, _, _, rfl, ?_⟩
              rw [hgo, goodGo, if_neg]
              · rfl
              · rintro (h | h | h)
                · exact (of_decide_eq_false e1) h
                · rw [h] at e2; exact absurd e2 (by decide)
                · exact h (by simpa [nmD] using e3)
      · rintro δ' w' ⟨rfl, b, x, y, rfl, hgo⟩
        walk_at "sts"
        refine rt_f ?_
        rw [enD_len, List.drop_length] at hgo
        show D.int ds.length = D.int (goodN ds m)
        unfold goodN
        rw [hgo]
        rfl
end
end LW
set_option Elab.async false
set_option linter.all false
set_option autoImplicit false
set_option maxRecDepth 100000
set_option maxHeartbeats 4000000
namespace LW
open PySem PySem.Spec PyProof.Rows L2 DL
/-- one step of a reading on data -/
local macro_rules | `(tactic| walk_at "st") => `(tactic| first
  | with_reducible refine sd_seq ?_
  | with_reducible refine sd_ret ?_
  | with_reducible refine sd_asg ?_
  | with_reducible refine sd_if ?_
  | with_reducible refine sd_drop ?_
  | with_reducible refine sd_par ?_
  | with_reducible refine sd_nx ?_
  | with_reducible refine sd_retN ?_
  | with_reducible refine ev_op ?_
  | with_reducible refine ev_cint ?_
  | with_reducible refine ev_cstr ?_
  | with_reducible refine ev_cbl ?_
  | with_reducible refine ev_cnon ?_
  | with_reducible refine ev_cty ?_
  | refine ev_var (by exact rfl) ?_
  | with_reducible refine ev_cb ?_
  | with_reducible refine ea_cons ?_
  | with_reducible refine ea_nil ?_
  | with_reducible refine ev_tup ?_
  | with_reducible refine ev_un ?_
  | with_reducible refine o1_U ?_
  | with_reducible refine ev_andV ?_
  | with_reducible refine ev_orV ?_
  | with_reducible refine ev_notV ?_
  | with_reducible refine ev_if ?_
  | with_reducible refine et_B ?_
  | with_reducible refine et_test ?_
  | with_reducible refine et_not ?_
  | with_reducible refine et_and ?_
  | with_reducible refine et_or ?_
  | with_reducible refine et_tru ?_
  | with_reducible refine ev_bm0 ?_
  | with_reducible refine ev_bm ?_
  | with_reducible refine ev_chain ?_
  | with_reducible refine gd_name ?_
  | with_reducible refine gd_sub ?_
  | ((with_reducible refine isIxLo ?_); refine o2_ixLo (by first | assumption | exact put_same) (by exact rfl) ?_)
  | ((with_reducible refine isI ?_); refine o2_I (by first | (show (0 : Int) < _; decide) | exact ⟨by decide, by decide⟩ | exact ⟨by decide, by decide, by decide⟩ | exact ⟨by omega, by omega⟩ | exact Or.inl ⟨by omega, by omega⟩ | exact Or.inr ⟨by decide, by decide⟩ | exact Or.inr ⟨by omega, by omega⟩) ?_)
  | refine ⟨_, _, _, _, rfl, rfl, (by first | assumption | exact put_same), (by exact rfl), ?_⟩
  | ((with_reducible refine isTupO ?_); refine ol_tupO (by first | assumption | exact put_same) ?_)
  | ((with_reducible refine isTupBO ?_); refine ol_tupBO (by first | assumption | exact put_same) ?_)
  | with_reducible refine ol_abs ?_
  | with_reducible refine ol_max2 ?_
  | with_reducible refine ol_min2 ?_
  | with_reducible refine gs_nil ?_
  | with_reducible refine gs_cons ?_
  | with_reducible refine gd_tup rfl ?_
  | with_reducible refine o2_I0 ?_
  | with_reducible refine o2_B0 ?_
  | with_reducible refine o2_eqI ?_
  | with_reducible refine o2_neI ?_
  | with_reducible refine o2_eqS ?_
  | with_reducible refine o2_neS ?_
  | with_reducible refine o2_SS ?_
  | with_reducible refine o2_isB ?_
  | with_reducible refine o2_notB ?_
  | with_reducible refine om_S0 trivial ?_
  | with_reducible refine ol_isiInt (by first | assumption | rfl) ?_
  | with_reducible refine ol_isiBool (by first | assumption | rfl) ?_
  | with_reducible refine ol_isiStr (by first | assumption | rfl) ?_
  | with_reducible refine ol_isiTup (by first | assumption | rfl) ?_
  | refine Exists.intro _ (And.intro rfl ?_)
  | with_reducible refine And.intro ty_str ?_
  | ((with_reducible refine isIxT ?_); refine o2_ixT rfl ?_)
  | ((with_reducible refine isIxL ?_); refine o2_ixL rfl ?_)
  | with_reducible refine ev_f ?_
  | with_reducible refine ev_fk kg1_ok ?_
  | with_reducible refine ev_fk kgS_ok ?_
  | refine And.intro (by first | assumption | exact Nat.le_of_ble_eq_true rfl) ?_
  | with_reducible refine ev_sl ?_
  | with_reducible refine eo_none ?_
  | with_reducible refine eo_some ?_
  | with_reducible refine ol_lenS (by rw [sizeLine_eq]; omega) ?_
  | with_reducible refine os_str (by rw [sizeLine_eq]; omega) ?_
  | ((with_reducible refine isLenD ?_); refine ol_lenD (by first | assumption | exact put_same) ?_)
  | with_reducible refine sd_dput ?_
  | with_reducible refine ev_sortItems ?_
  | with_reducible refine ev_revT ?_
  | with_reducible refine ev_dget2 ?_
  | with_reducible refine ol_lenT ?_
  | with_reducible refine ol_lenL ?_
  | with_reducible refine ol_int1 ?_
  | with_reducible refine ol_tupL ?_
  | with_reducible refine ol_tupB ?_
  | with_reducible refine ev_tupB ?_
  | with_reducible refine ol_tupT ?_
  | with_reducible refine ol_lstL ?_
  | with_reducible refine ol_lstT ?_
  | with_reducible refine os_lst ?_
  | with_reducible refine os_tupA ?_
  | with_reducible refine os_tupB ?_)
local macro_rules | `(tactic| walk_at "stn") => `(tactic| repeat walk_at "st")
local macro_rules | `(tactic| walk_at "sts") => `(tactic| repeat first | walk_at "st" | with_reducible refine ev_lst ?_)

section
variable {P : Program} {wo : World} {K : PySem.W.Frag} {mg : Str → Option Value} {base : Heap}
abbrev s_check_counts : Stmt := top 23
theorem sc_check_counts : FnScope ["thing", "good"] ["thing"] (defScope s_check_counts) := ⟨rfl, rfl, rfl, by decide +kernel, rfl, by decide +kernel, by decide +kernel⟩
theorem bp_check_counts : BindP "check_counts" s_check_counts ["thing"] := fun _ _ _ _ _ _ us hl => match us, hl with | [_], _ => rfl

theorem ok_check_counts (T : Tx mg) (d : Dn K mg "check_counts" s_check_counts) (F_good_pairs : Fk P wo K mg base CX0 4 "good_pairs" s_good_pairs ["things", "most"] (SpF K okGood fGood)) :
    Fk P wo K mg base CX0 5 "check_counts" s_check_counts ["thing"] (SpF K okBag fNon) := by
  refine fk_ok d sc_check_counts bp_check_counts (fun ds w h => ?_) fun f cdv A fr s H E hg hr => ⟨_, (pss_cons (ps_if (pt_not (pt_val (q_isi (K := K) rfl T.b_isinstance rfl (pa_cons (pv 0) (pa_cons (c_tuple T.b_tuple rfl) pa_nil))))) (pss_one ps_never) pss_nil) (pss_cons (ps_set (i := 1) sc_check_counts.nd rfl (Or.inl rfl) (pe_f F_good_pairs hg (hr.mono (by decide)) rfl pass0 (pa_cons (pv 0) (pa_cons (k_int T.k_MAX_NAMES rfl) pa_nil)))) (pss_one (ps_if (pt_cmpR op_lt (pv 1) (q_len (K := K) rfl T.b_len rfl (pa_cons (pv 0) pa_nil)) (nomark _)) (pss_one ps_never) pss_nil)))), fun ds w hp => ?_⟩
  · match ds, h with | [.tup _], _ => rfl
  · match ds, hp with
    | [.tup ds], hp =>
      obtain ⟨h1, h2⟩ : fineA ds = true ∧ goodN ds 12 = ds.length := hp
      have hk : kn (.tup ds) := rfl
      have hok : okGood [.tup ds, .int 12] := h1
      walk_at "sts"
      refine if_f rfl ?_
      walk_at "sts"
      have hg12 : fGood [.tup ds, .int 12] = .int ds.length := by
        show D.int (goodN ds 12) = _
        rw [h2]
      rw [hg12]
      walk_at "sts"
      refine if_f (decide_eq_false (Int.lt_irrefl _)) ?_
      walk_at "sts"
      exact rt_f rfl
end
end LW
set_option Elab.async false
set_option linter.all false
set_option autoImplicit false
set_option maxRecDepth 100000
set_option maxHeartbeats 4000000
namespace LW
open PySem PySem.Spec PyProof.Rows L2 DL
/-- one step of a reading on data -/
local macro_rules | `(tactic| walk_at "st") => `(tactic| first
  | with_reducible refine sd_seq ?_
  | with_reducible refine sd_ret ?_
  | with_reducible refine sd_asg ?_
  | with_reducible refine sd_if ?_
  | with_reducible refine sd_drop ?_
  | with_reducible refine sd_par ?_
  | with_reducible refine sd_nx ?_
  | with_reducible refine sd_retN ?_
  | with_reducible refine ev_op ?_
  | with_reducible refine ev_cint ?_
  | with_reducible refine ev_cstr ?_
  | with_reducible refine ev_cbl ?_
  | with_reducible refine ev_cnon ?_
  | with_reducible refine ev_cty ?_
  | refine ev_var (by exact rfl) ?_
  | with_reducible refine ev_cb ?_
  | with_reducible refine ea_cons ?_
  | with_reducible refine ea_nil ?_
  | with_reducible refine ev_tup ?_
  | with_reducible refine ev_un ?_
  | with_reducible refine o1_U ?_
  | with_reducible refine ev_andV ?_
  | with_reducible refine ev_orV ?_
  | with_reducible refine ev_notV ?_
  | with_reducible refine ev_if ?_
  | with_reducible refine et_B ?_
  | with_reducible refine et_test ?_
  | with_reducible refine et_not ?_
  | with_reducible refine et_and ?_
  | with_reducible refine et_or ?_
  | with_reducible refine et_tru ?_
  | with_reducible refine ev_bm0 ?_
  | with_reducible refine ev_bm ?_
  | with_reducible refine ev_chain ?_
  | with_reducible refine gd_name ?_
  | with_reducible refine gd_sub ?_
  | ((with_reducible refine isIxLo ?_); refine o2_ixLo (by first | assumption | exact put_same) (by exact rfl) ?_)
  | ((with_reducible refine isI ?_); refine o2_I (by first | (show (0 : Int) < _; decide) | exact ⟨by decide, by decide⟩ | exact ⟨by decide, by decide, by decide⟩ | exact ⟨by omega, by omega⟩ | exact Or.inl ⟨by omega, by omega⟩ | exact Or.inr ⟨by decide, by decide⟩ | exact Or.inr ⟨by omega, by omega⟩) ?_)
  | refine ⟨_, _, _, _, rfl, rfl, (by first | assumption | exact put_same), (by exact rfl), ?_⟩
  | ((with_reducible refine isTupO ?_); refine ol_tupO (by first | assumption | exact put_same) ?_)
  | ((with_reducible refine isTupBO ?_); refine ol_tupBO (by first | assumption | exact put_same) ?_)
  | with_reducible refine ol_abs ?_
  | with_reducible refine ol_max2 ?_
  | with_reducible refine ol_min2 ?_
  | with_reducible refine gs_nil ?_
  | with_reducible refine gs_cons ?_
  | with_reducible refine gd_tup rfl ?_
  | with_reducible refine o2_I0 ?_
  | with_reducible refine o2_B0 ?_
  | with_reducible refine o2_eqI ?_
  | with_reducible refine o2_neI ?_
  | with_reducible refine o2_eqS ?_
  | with_reducible refine o2_neS ?_
  | with_reducible refine o2_SS ?_
  | with_reducible refine o2_isB ?_
  | with_reducible refine o2_notB ?_
  | with_reducible refine om_S0 trivial ?_
  | with_reducible refine ol_isiInt (by first | assumption | rfl) ?_
  | with_reducible refine ol_isiBool (by first | assumption | rfl) ?_
  | with_reducible refine ol_isiStr (by first | assumption | rfl) ?_
  | with_reducible refine ol_isiTup (by first | assumption | rfl) ?_
  | refine Exists.intro _ (And.intro rfl ?_)
  | with_reducible refine And.intro ty_str ?_
  | ((with_reducible refine isIxT ?_); refine o2_ixT rfl ?_)
  | ((with_reducible refine isIxL ?_); refine o2_ixL rfl ?_)
  | with_reducible refine ev_f ?_
  | with_reducible refine ev_fk kg1_ok ?_
  | with_reducible refine ev_fk kgS_ok ?_
  | refine And.intro (by first | assumption | exact Nat.le_of_ble_eq_true rfl) ?_
  | with_reducible refine ev_sl ?_
  | with_reducible refine eo_none ?_
  | with_reducible refine eo_some ?_
  | with_reducible refine ol_lenS (by rw [sizeLine_eq]; omega) ?_
  | with_reducible refine os_str (by rw [sizeLine_eq]; omega) ?_
  | ((with_reducible refine isLenD ?_); refine ol_lenD (by first | assumption | exact put_same) ?_)
  | with_reducible refine sd_dput ?_
  | with_reducible refine ev_sortItems ?_
  | with_reducible refine ev_revT ?_
  | with_reducible refine ev_dget2 ?_
  | with_reducible refine ol_lenT ?_
  | with_reducible refine ol_lenL ?_
  | with_reducible refine ol_int1 ?_
  | with_reducible refine ol_tupL ?_
  | with_reducible refine ol_tupB ?_
  | with_reducible refine ev_tupB ?_
  | with_reducible refine ol_tupT ?_
  | with_reducible refine ol_lstL ?_
  | with_reducible refine ol_lstT ?_
  | with_reducible refine os_lst ?_
  | with_reducible refine os_tupA ?_
  | with_reducible refine os_tupB ?_)
local macro_rules | `(tactic| walk_at "stn") => `(tactic| repeat walk_at "st")
local macro_rules | `(tactic| walk_at "sts") => `(tactic| repeat first | walk_at "st" | with_reducible refine ev_lst ?_)

section
variable {P : Program} {wo : World} {K : PySem.W.Frag} {mg : Str → Option Value} {base : Heap}
abbrev s_total : Stmt := top 24
theorem sc_total : FnScope ["counts", "_", "count"] ["counts"] (defScope s_total) := ⟨rfl, rfl, rfl, by decide +kernel, rfl, by decide +kernel, by decide +kernel⟩
theorem bp_total : BindP "total" s_total ["counts"] := fun _ _ _ _ _ _ us hl => match us, hl with | [_], _ => rfl

theorem ok_total (T : Tx mg) (d : Dn K mg "total" s_total) (F_check_counts : Fk P wo K mg base CX0 5 "check_counts" s_check_counts ["thing"] (SpF K okBag fNon)) :
    Fk P wo K mg base CX0 6 "total" s_total ["counts"] (SpF K okBag fTotal) := by
  refine fk_ok d sc_total bp_total (fun ds w h => ?_) fun f cdv A fr s H E hg hr => ⟨_, (pss_cons (ps_expr (pe_f F_check_counts hg (hr.mono (by decide)) rfl pass0 (pa_cons (pv 0) pa_nil))) (pss_one (ps_ret (q_sum (K := K) rfl rfl T.b_sum rfl (pa_cons (pe_lc (own := [("_", 1), ("count", 2)]) rfl sc_total.nd (qi_tup (K := K) rfl (pv 0)) (blkOk_by (N := ["counts", "_", "count"]) (sc := defScope s_total) (by decide +kernel)) (fun _ _ _ _ _ => (qg_tup (K := K) (n := 2) rfl rfl (pgs_cons (pg_name (i := 1) sc_total.nd rfl (Or.inl rfl) (hf := Or.inr rfl)) (pgs_cons (pg_name (i := 2) sc_total.nd rfl (Or.inl rfl) (hf := Or.inr rfl)) pgs_nil)) rfl)) (fun _ _ _ _ _ => pts_nil) (fun _ _ _ _ _ => (pv 2))) pa_nil))))), fun ds w hp => ?_⟩
  · match ds, h with | [.tup _], _ => rfl
  · match ds, hp with
    | [.tup ds], hp =>
      have hb : okBag [.tup ds] := hp
      obtain ⟨h1, h2⟩ : fineA ds = true ∧ goodN ds 12 = ds.length := hp
      walk_at "sts"
      refine lc_map (f := fun d => .int (cntD d)) (gl_tup (gls_cons (gl_name (by decide)) (gls_cons (gl_name (by decide)) gls_nil))) (ei_tupT ?_)
      walk_at "sts"
      refine ⟨Nat.le_trans (bag_len h2) (by decide), fun l c i dd hl hd => ?_, ?_⟩
      · obtain ⟨n, k, rfl, hn, hk⟩ := bag_pair h2 (List.mem_of_getElem? hd)
        walk_at "sts"
        exact ⟨rfl, rfl⟩
      · walk_at "sts"
        have e : ds.map (fun d => D.int (cntD d)) = (ds.map cntD).map D.int := by rw [List.map_map]; rfl
        rw [e]
        refine ol_sum ?_
        exact rt_f rfl
end
end LW
set_option Elab.async false
set_option linter.all false
set_option autoImplicit false
set_option maxRecDepth 100000
set_option maxHeartbeats 4000000
namespace LW
open PySem PySem.Spec PyProof.Rows L2 DL
/-- one step of a reading on data -/
local macro_rules | `(tactic| walk_at "st") => `(tactic| first
  | with_reducible refine sd_seq ?_
  | with_reducible refine sd_ret ?_
  | with_reducible refine sd_asg ?_
  | with_reducible refine sd_if ?_
  | with_reducible refine sd_drop ?_
  | with_reducible refine sd_par ?_
  | with_reducible refine sd_nx ?_
  | with_reducible refine sd_retN ?_
  | with_reducible refine ev_op ?_
  | with_reducible refine ev_cint ?_
  | with_reducible refine ev_cstr ?_
  | with_reducible refine ev_cbl ?_
  | with_reducible refine ev_cnon ?_
  | with_reducible refine ev_cty ?_
  | refine ev_var (by exact rfl) ?_
  | with_reducible refine ev_cb ?_
  | with_reducible refine ea_cons ?_
  | with_reducible refine ea_nil ?_
  | with_reducible refine ev_tup ?_
  | with_reducible refine ev_un ?_
  | with_reducible refine o1_U ?_
  | with_reducible refine ev_andV ?_
  | with_reducible refine ev_orV ?_
  | with_reducible refine ev_notV ?_
  | with_reducible refine ev_if ?_
  | with_reducible refine et_B ?_
  | with_reducible refine et_test ?_
  | with_reducible refine et_not ?_
  | with_reducible refine et_and ?_
  | with_reducible refine et_or ?_
  | with_reducible refine et_tru ?_
  | with_reducible refine ev_bm0 ?_
  | with_reducible refine ev_bm ?_
  | with_reducible refine ev_chain ?_
  | with_reducible refine gd_name ?_
  | with_reducible refine gd_sub ?_
  | ((with_reducible refine isIxLo ?_); refine o2_ixLo (by first | assumption | exact put_same) (by exact rfl) ?_)
  | ((with_reducible refine isI ?_); refine o2_I (by first | (show (0 : Int) < _; decide) | exact ⟨by decide, by decide⟩ | exact ⟨by decide, by decide, by decide⟩ | exact ⟨by omega, by omega⟩ | exact Or.inl ⟨by omega, by omega⟩ | exact Or.inr ⟨by decide, by decide⟩ | exact Or.inr ⟨by omega, by omega⟩) ?_)
  | refine ⟨_, _, _, _, rfl, rfl, (by first | assumption | exact put_same), (by exact rfl), ?_⟩
  | ((with_reducible refine isTupO ?_); refine ol_tupO (by first | assumption | exact put_same) ?_)
  | ((with_reducible refine isTupBO ?_); refine ol_tupBO (by first | assumption | exact put_same) ?_)
  | with_reducible refine ol_abs ?_
  | with_reducible refine ol_max2 ?_
  | with_reducible refine ol_min2 ?_
  | with_reducible refine gs_nil ?_
  | with_reducible refine gs_cons ?_
  | with_reducible refine gd_tup rfl ?_
  | with_reducible refine o2_I0 ?_
  | with_reducible refine o2_B0 ?_
  | with_reducible refine o2_eqI ?_
  | with_reducible refine o2_neI ?_
  | with_reducible refine o2_eqS ?_
  | with_reducible refine o2_neS ?_
  | with_reducible refine o2_SS ?_
  | with_reducible refine o2_isB ?_
  | with_reducible refine o2_notB ?_
  | with_reducible refine om_S0 trivial ?_
  | with_reducible refine ol_isiInt (by first | assumption | rfl) ?_
  | with_reducible refine ol_isiBool (by first | assumption | rfl) ?_
  | with_reducible refine ol_isiStr (by first | assumption | rfl) ?_
  | with_reducible refine ol_isiTup (by first | assumption | rfl) ?_
  | refine Exists.intro _ (And.intro rfl ?_)
  | with_reducible refine And.intro ty_str ?_
  | ((with_reducible refine isIxT ?_); refine o2_ixT rfl ?_)
  | ((with_reducible refine isIxL ?_); refine o2_ixL rfl ?_)
  | with_reducible refine ev_f ?_
  | with_reducible refine ev_fk kg1_ok ?_
  | with_reducible refine ev_fk kgS_ok ?_
  | refine And.intro (by first | assumption | exact Nat.le_of_ble_eq_true rfl) ?_
  | with_reducible refine ev_sl ?_
  | with_reducible refine eo_none ?_
  | with_reducible refine eo_some ?_
  | with_reducible refine ol_lenS (by rw [sizeLine_eq]; omega) ?_
  | with_reducible refine os_str (by rw [sizeLine_eq]; omega) ?_
  | ((with_reducible refine isLenD ?_); refine ol_lenD (by first | assumption | exact put_same) ?_)
  | with_reducible refine sd_dput ?_
  | with_reducible refine ev_sortItems ?_
  | with_reducible refine ev_revT ?_
  | with_reducible refine ev_dget2 ?_
  | with_reducible refine ol_lenT ?_
  | with_reducible refine ol_lenL ?_
  | with_reducible refine ol_int1 ?_
  | with_reducible refine ol_tupL ?_
  | with_reducible refine ol_tupB ?_
  | with_reducible refine ev_tupB ?_
  | with_reducible refine ol_tupT ?_
  | with_reducible refine ol_lstL ?_
  | with_reducible refine ol_lstT ?_
  | with_reducible refine os_lst ?_
  | with_reducible refine os_tupA ?_
  | with_reducible refine os_tupB ?_)
local macro_rules | `(tactic| walk_at "stn") => `(tactic| repeat walk_at "st")
local macro_rules | `(tactic| walk_at "sts") => `(tactic| repeat first | walk_at "st" | with_reducible refine ev_lst ?_)

section
variable {P : Program} {wo : World} {K : PySem.W.Frag} {mg : Str → Option Value} {base : Heap}
abbrev s_count_of : Stmt := top 25
theorem sc_count_of : FnScope ["counts", "name", "item", "count"] ["counts", "name"] (defScope s_count_of) := ⟨rfl, rfl, rfl, by decide +kernel, rfl, by decide +kernel, by decide +kernel⟩
theorem bp_count_of : BindP "count_of" s_count_of ["counts", "name"] := fun _ _ _ _ _ _ us hl => match us, hl with | [_, _], _ => rfl

theorem ok_count_of (T : Tx mg) (d : Dn K mg "count_of" s_count_of) (F_check_counts : Fk P wo K mg base CX0 5 "check_counts" s_check_counts ["thing"] (SpF K okBag fNon)) (F_check_name : Fk P wo K mg base CX0 2 "check_name" s_check_name ["thing"] (SpF K okNm fNon)) :
    Fk P wo K mg base CX0 6 "count_of" s_count_of ["counts", "name"] (SpF K okCof fCof) := by
  refine fk_ok d sc_count_of bp_count_of (fun ds w h => ?_) fun f cdv A fr s H E hg hr => ⟨_, (pss_cons (ps_expr (pe_f F_check_counts hg (hr.mono (by decide)) rfl pass0 (pa_cons (pv 0) pa_nil))) (pss_cons (ps_expr (pe_f F_check_name hg (hr.mono (by decide)) rfl pass0 (pa_cons (pv 1) pa_nil))) (pss_cons (ps_for PassesOwn.never rfl (qi_tup (K := K) rfl (pv 0)) (qg_tup (K := K) (n := 2) rfl rfl (pgs_cons (pg_name (i := 2) sc_count_of.nd rfl (Or.inl rfl) (hf := Or.inl rfl)) (pgs_cons (pg_name (i := 3) sc_count_of.nd rfl (Or.inl rfl) (hf := Or.inl rfl)) pgs_nil)) rfl) (pss_one (ps_if (pt_cmpR op_eq (pv 2) (pv 1) (nomark _)) (pss_one (ps_ret (pv 3))) pss_nil))) (pss_one (ps_ret pe_int))))), fun ds w hp => ?_⟩
  · match ds, h with | [.tup _, .str _], _ => rfl
  · match ds, hp with
    | [.tup ds, .str n], hp =>
      obtain ⟨hb, hn⟩ : (fineA ds = true ∧ goodN ds 12 = ds.length) ∧ nameS n = true := hp
      have hb' : okBag [.tup ds] := hb
      have hf : okNm [.str n] := hn
      walk_at "sts"
      refine sd_for (ei_tupT ?_)
      walk_at "sts"
      refine ⟨fun i δ' w' => w' = w ∧ ∃ x y, δ' = [some (.tup ds), some (.str n), x, y] ∧ cofD n ds = cofD n (ds.drop i), ⟨rfl, _, _, rfl, rfl⟩, ?_, ?_⟩
      · rintro i e δ' w' he ⟨rfl, x, y, rfl, hgo⟩
        have hi : i < ds.length := (List.getElem?_eq_some_iff.mp he).1
        have hdrop : ds.drop i = e :: ds.drop (i + 1) := by
          rw [List.drop_eq_getElem_cons hi]
          congr 1
          exact (List.getElem?_eq_some_iff.mp he).2
        obtain ⟨m, k, rfl, hm, hk⟩ := bag_pair hb.2 (List.mem_of_getElem? he)
        rw [hdrop] at hgo
        walk_at "sts"
        refine if_2 (fun e2 => ?_) (fun e2 => ?_)
        · walk_at "sts"
          refine rt_f ?_
          show _ = D.int (cofD n ds)
          rw [hgo, cofD, if_pos (of_decide_eq_true e2)]
        · walk_at "sts"
          refine ⟨rfl, _, _, rfl, ?_⟩
          rw [hgo, cofD, if_neg (of_decide_eq_false e2)]
      · rintro δ' w' ⟨rfl, x, y, rfl, hgo⟩
        walk_at "sts"
        refine rt_f ?_
        rw [List.drop_length] at hgo
        show _ = D.int (cofD n ds)
        rw [hgo]
        rfl
end
end LW
set_option Elab.async false
set_option linter.all false
set_option autoImplicit false
set_option maxRecDepth 100000
set_option maxHeartbeats 4000000
namespace LW
open PySem PySem.Spec PyProof.Rows L2 DL
/-- one step of a reading on data -/
local macro_rules | `(tactic| walk_at "st") => `(tactic| first
  | with_reducible refine sd_seq ?_
  | with_reducible refine sd_ret ?_
  | with_reducible refine sd_asg ?_
  | with_reducible refine sd_if ?_
  | with_reducible refine sd_drop ?_
  | with_reducible refine sd_par ?_
  | with_reducible refine sd_nx ?_
  | with_reducible refine sd_retN ?_
  | with_reducible refine ev_op ?_
  | with_reducible refine ev_cint ?_
  | with_reducible refine ev_cstr ?_
  | with_reducible refine ev_cbl ?_
  | with_reducible refine ev_cnon ?_
  | with_reducible refine ev_cty ?_
  | refine ev_var (by exact rfl) ?_
  | with_reducible refine ev_cb ?_
  | with_reducible refine ea_cons ?_
  | with_reducible refine ea_nil ?_
  | with_reducible refine ev_tup ?_
  | with_reducible refine ev_un ?_
  | with_reducible refine o1_U ?_
  | with_reducible refine ev_andV ?_
  | with_reducible refine ev_orV ?_
  | with_reducible refine ev_notV ?_
  | with_reducible refine ev_if ?_
  | with_reducible refine et_B ?_
  | with_reducible refine et_test ?_
  | with_reducible refine et_not ?_
  | with_reducible refine et_and ?_
  | with_reducible refine et_or ?_
  | with_reducible refine et_tru ?_
  | with_reducible refine ev_bm0 ?_
  | with_reducible refine ev_bm ?_
  | with_reducible refine ev_chain ?_
  | with_reducible refine gd_name ?_
  | with_reducible refine gd_sub ?_
  | ((with_reducible refine isIxLo ?_); refine o2_ixLo (by first | assumption | exact put_same) (by exact rfl) ?_)
  | ((with_reducible refine isI ?_); refine o2_I (by first | (show (0 : Int) < _; decide) | exact ⟨by decide, by decide⟩ | exact ⟨by decide, by decide, by decide⟩ | exact ⟨by omega, by omega⟩ | exact Or.inl ⟨by omega, by omega⟩ | exact Or.inr ⟨by decide, by decide⟩ | exact Or.inr ⟨by omega, by omega⟩) ?_)
  | refine ⟨_, _, _, _, rfl, rfl, (by first | assumption | exact put_same), (by exact rfl), ?_⟩
  | ((with_reducible refine isTupO ?_); refine ol_tupO (by first | assumption | exact put_same) ?_)
  | ((with_reducible refine isTupBO ?_); refine ol_tupBO (by first | assumption | exact put_same) ?_)
  | with_reducible refine ol_abs ?_
  | with_reducible refine ol_max2 ?_
  | with_reducible refine ol_min2 ?_
  | with_reducible refine gs_nil ?_
  | with_reducible refine gs_cons ?_
  | with_reducible refine gd_tup rfl ?_
  | with_reducible refine o2_I0 ?_
  | with_reducible refine o2_B0 ?_
  | with_reducible refine o2_eqI ?_
  | with_reducible refine o2_neI ?_
  | with_reducible refine o2_eqS ?_
  | with_reducible refine o2_neS ?_
  | with_reducible refine o2_SS ?_
  | with_reducible refine o2_isB ?_
  | with_reducible refine o2_notB ?_
  | with_reducible refine om_S0 trivial ?_
  | with_reducible refine ol_isiInt (by first | assumption | rfl) ?_
  | with_reducible refine ol_isiBool (by first | assumption | rfl) ?_
  | with_reducible refine ol_isiStr (by first | assumption | rfl) ?_
  | with_reducible refine ol_isiTup (by first | assumption | rfl) ?_
  | refine Exists.intro _ (And.intro rfl ?_)
  | with_reducible refine And.intro ty_str ?_
  | ((with_reducible refine isIxT ?_); refine o2_ixT rfl ?_)
  | ((with_reducible refine isIxL ?_); refine o2_ixL rfl ?_)
  | with_reducible refine ev_f ?_
  | with_reducible refine ev_fk kg1_ok ?_
  | with_reducible refine ev_fk kgS_ok ?_
  | refine And.intro (by first | assumption | exact Nat.le_of_ble_eq_true rfl) ?_
  | with_reducible refine ev_sl ?_
  | with_reducible refine eo_none ?_
  | with_reducible refine eo_some ?_
  | with_reducible refine ol_lenS (by rw [sizeLine_eq]; omega) ?_
  | with_reducible refine os_str (by rw [sizeLine_eq]; omega) ?_
  | ((with_reducible refine isLenD ?_); refine ol_lenD (by first | assumption | exact put_same) ?_)
  | with_reducible refine sd_dput ?_
  | with_reducible refine ev_sortItems ?_
  | with_reducible refine ev_revT ?_
  | with_reducible refine ev_dget2 ?_
  | with_reducible refine ol_lenT ?_
  | with_reducible refine ol_lenL ?_
  | with_reducible refine ol_int1 ?_
  | with_reducible refine ol_tupL ?_
  | with_reducible refine ol_tupB ?_
  | with_reducible refine ev_tupB ?_
  | with_reducible refine ol_tupT ?_
  | with_reducible refine ol_lstL ?_
  | with_reducible refine ol_lstT ?_
  | with_reducible refine os_lst ?_
  | with_reducible refine os_tupA ?_
  | with_reducible refine os_tupB ?_)
local macro_rules | `(tactic| walk_at "stn") => `(tactic| repeat walk_at "st")
local macro_rules | `(tactic| walk_at "sts") => `(tactic| repeat first | walk_at "st" | with_reducible refine ev_lst ?_)

section
variable {P : Program} {wo : World} {K : PySem.W.Frag} {mg : Str → Option Value} {base : Heap}
abbrev s_counts_text : Stmt := top 26
theorem sc_counts_text : FnScope ["pairs", "name", "count"] ["pairs"] (defScope s_counts_text) := ⟨rfl, rfl, rfl, by decide +kernel, rfl, by decide +kernel, by decide +kernel⟩
theorem bp_counts_text : BindP "counts_text" s_counts_text ["pairs"] := fun _ _ _ _ _ _ us hl => match us, hl with | [_], _ => rfl


theorem ok_counts_text (T : Tx mg) (d : Dn K mg "counts_text" s_counts_text)
    (F_format_number : Fk P wo K mg base CX0 1 "format_number" s_format_number ["number"] (SpD K preFN postFN zN)) :
    Fk P wo K mg base CX0 2 "counts_text" s_counts_text ["pairs"] (SpD K preCT postCT zN) := by
  refine fk_ok d sc_counts_text bp_counts_text (fun ds w h => by first | (unfold preCT at h; (repeat (first | (obtain ⟨rfl, _⟩ := h; rfl) | (obtain ⟨_, h⟩ := h))); done) | (unfold preCT at h; split at h <;> first | rfl | exact h.elim) | (dsimp only at h; unfold preCT at h; split at h <;> first | rfl | exact h.elim)) fun f cdv A fr s H E hg hr => ⟨_, (pss_cons (ps_if (pt_not (qt_tru (K := K) rfl (pv 0))) (pss_one (ps_ret pe_str)) pss_nil) (pss_one (ps_ret (q_join (K := K) rfl pe_str (pe_lc (own := [("name", 1), ("count", 2)]) rfl sc_counts_text.nd (qi_tup (K := K) rfl (pv 0)) (blkOk_by (N := ["pairs", "name", "count"]) (sc := defScope s_counts_text) (by decide +kernel)) (fun _ _ _ _ _ => (qg_tup (K := K) (n := 2) rfl rfl (pgs_cons (pg_name (i := 1) sc_counts_text.nd rfl (Or.inl rfl) (hf := Or.inr rfl)) (pgs_cons (pg_name (i := 2) sc_counts_text.nd rfl (Or.inl rfl) (hf := Or.inr rfl)) pgs_nil)) rfl)) (fun _ _ _ _ _ => pts_nil) (fun _ _ _ _ _ => (pe_op op_add_str (pe_op op_add_str (pv 1) pe_str) (pe_f F_format_number hg (hr.mono (by decide)) rfl pass0 (pa_cons (pv 2) pa_nil))))))))), fun ds w hp => ?_⟩
  · obtain ⟨prs, b, k, rfl, hs, hk, hb⟩ := hp
    have hpl := hs.2.2
    have fin : ∀ t, t = textS prs → ∀ w', Keep w w' → postCT [.tup (prs.map prD)] w (.str t) w' := fun t ht w' k => ⟨k, fun p e => by
      injection e with e _
      injection e with e
      rw [ht, prs_inj e]⟩
    walk_at "sts"
    refine if_2 (fun e5 => ?_) (fun e5 => ?_)
    · walk_at "sts"
      refine fin _ ?_ _ (Keep.refl w)
      unfold textS
      have : prs.isEmpty = true := by rw [Bool.not_not, List.isEmpty_map] at e5; exact e5
      rw [if_pos this]
    · have hne : prs.isEmpty = false := by rw [Bool.not_not, List.isEmpty_map] at e5; exact e5
      walk_at "sts"
      refine ev_m1 ?_
      walk_at "sts"
      refine ⟨⟨_, rfl⟩, ?_⟩
      refine ev_lc (gl_tup (gls_cons (gl_name (by decide)) (gls_cons (gl_name (by decide)) gls_nil))) (ei_tupT ?_)
      walk_at "sts"
      intro l hl
      refine ⟨fun i acc w' => acc = ((prs.take i).map pairS).map D.str ∧ w' l = some (.lst acc) ∧ Keep w w', ⟨rfl, put_same, (Keep.refl w).put hl⟩, ?_, ?_⟩
      · rintro i e acc w' he hacc ⟨rfl, _, hkp⟩
        have hi := (List.getElem?_eq_some_iff.mp he).1
        rw [List.length_map] at hi
        rw [List.getElem?_map] at he
        obtain ⟨⟨nm, cv⟩, hpr, rfl⟩ := Option.map_eq_some_iff.mp he
        have hin := hs.2.1 _ (List.mem_of_getElem? hpr)
        have hnl : nm.length ≤ 8 := nameS_len hin.1
        have hcl := num_len (n := cv) (by have := hin.2.1; exact Int.le_trans (by decide) this) (Int.lt_of_le_of_lt hin.2.2 hb)
        rw [show prD (nm, cv) = D.tup [.str nm, .int cv] from rfl]
        walk_at "sts"
        refine et_yes ?_
        rw [if_pos rfl]
        walk_at "sts"
        have h1 : (Str.ofString ":").length = 1 := by decide +kernel
        refine o2_catS (by rw [h1, sizeLine_eq]; omega) ?_
        refine ev_call ?_
        walk_at "sts"
        refine ⟨⟨cv, rfl, Int.le_trans (by decide) hin.2.1, Int.lt_of_le_of_lt hin.2.2 hb⟩, ?_⟩
        rintro dd w3 ⟨k3, h3⟩
        have h3 := h3 cv rfl
        subst h3
        refine o2_catS (by rw [Str.length_append, h1, sizeLine_eq]; omega) ?_
        have hl3 : w3 l = w' l := k3 l (by rw [hacc]; simp)
        refine ⟨by rw [hl3, hacc], by rw [List.length_map, List.length_map, List.length_take, sizeLine_eq]; omega, ?_, put_same, (hkp.trans k3).put hl⟩
        rw [List.take_succ, hpr, List.map_append, List.map_append]
        rfl
      · rintro acc w' hacc ⟨rfl, _, hkp⟩
        rw [List.length_map, List.take_length]
        refine om_join ?_ ?_
        · have h2 := sum_lens (n := 3000) (prs.map pairS) fun y hy => by
            obtain ⟨⟨nm, cv⟩, he, rfl⟩ := List.mem_map.mp hy
            have hin := hs.2.1 _ he
            have hnl : nm.length ≤ 8 := nameS_len hin.1
            have hcl := num_len (n := cv) (Int.le_trans (by decide) hin.2.1) (Int.lt_of_le_of_lt hin.2.2 hb)
            have h1 : (Str.ofString ":").length = 1 := by decide +kernel
            unfold pairS
            rw [Str.length_append, Str.length_append, h1]
            show nm.length + 1 + (Str.ofString (toString cv)).length ≤ 3000
            omega
          have h1 : (Str.ofString " ").length = 1 := by decide +kernel
          rw [List.length_map] at h2 ⊢
          rw [h1]
          omega
        · refine fin _ ?_ _ ?_
          · unfold textS
            rw [if_neg (by rw [hne]; exact Bool.false_ne_true)]
          · intro q hq
            show (if q = l then none else w' q) = _
            rw [if_neg (show q ≠ l from fun z => hq (by rw [z]; exact hl))]
            exact hkp q hq
end
end LW
set_option Elab.async false
set_option linter.all false
set_option autoImplicit false
set_option maxRecDepth 100000
set_option maxHeartbeats 4000000
namespace LW
open PySem PySem.Spec PyProof.Rows L2 DL
/-- one step of a reading on data -/
local macro_rules | `(tactic| walk_at "st") => `(tactic| first
  | with_reducible refine sd_seq ?_
  | with_reducible refine sd_ret ?_
  | with_reducible refine sd_asg ?_
  | with_reducible refine sd_if ?_
  | with_reducible refine sd_drop ?_
  | with_reducible refine sd_par ?_
  | with_reducible refine sd_nx ?_
  | with_reducible refine sd_retN ?_
  | with_reducible refine ev_op ?_
  | with_reducible refine ev_cint ?_
  | with_reducible refine ev_cstr ?_
  | with_reducible refine ev_cbl ?_
  | with_reducible refine ev_cnon ?_
  | with_reducible refine ev_cty ?_
  | refine ev_var (by exact rfl) ?_
  | with_reducible refine ev_cb ?_
  | with_reducible refine ea_cons ?_
  | with_reducible refine ea_nil ?_
  | with_reducible refine ev_tup ?_
  | with_reducible refine ev_un ?_
  | with_reducible refine o1_U ?_
  | with_reducible refine ev_andV ?_
  | with_reducible refine ev_orV ?_
  | with_reducible refine ev_notV ?_
  | with_reducible refine ev_if ?_
  | with_reducible refine et_B ?_
  | with_reducible refine et_test ?_
  | with_reducible refine et_not ?_
  | with_reducible refine et_and ?_
  | with_reducible refine et_or ?_
  | with_reducible refine et_tru ?_
  | with_reducible refine ev_bm0 ?_
  | with_reducible refine ev_bm ?_
  | with_reducible refine ev_chain ?_
  | with_reducible refine gd_name ?_
  | with_reducible refine gd_sub ?_
  | ((with_reducible refine isIxLo ?_); refine o2_ixLo (by first | assumption | exact put_same) (by exact rfl) ?_)
  | ((with_reducible refine isI ?_); refine o2_I (by first | (show (0 : Int) < _; decide) | exact ⟨by decide, by decide⟩ | exact ⟨by decide, by decide, by decide⟩ | exact ⟨by omega, by omega⟩ | exact Or.inl ⟨by omega, by omega⟩ | exact Or.inr ⟨by decide, by decide⟩ | exact Or.inr ⟨by omega, by omega⟩) ?_)
  | refine ⟨_, _, _, _, rfl, rfl, (by first | assumption | exact put_same), (by exact rfl), ?_⟩
  | ((with_reducible refine isTupO ?_); refine ol_tupO (by first | assumption | exact put_same) ?_)
  | ((with_reducible refine isTupBO ?_); refine ol_tupBO (by first | assumption | exact put_same) ?_)
  | with_reducible refine ol_abs ?_
  | with_reducible refine ol_max2 ?_
  | with_reducible refine ol_min2 ?_
  | with_reducible refine gs_nil ?_
  | with_reducible refine gs_cons ?_
  | with_reducible refine gd_tup rfl ?_
  | with_reducible refine o2_I0 ?_
  | with_reducible refine o2_B0 ?_
  | with_reducible refine o2_eqI ?_
  | with_reducible refine o2_neI ?_
  | with_reducible refine o2_eqS ?_
  | with_reducible refine o2_neS ?_
  | with_reducible refine o2_SS ?_
  | with_reducible refine o2_isB ?_
  | with_reducible refine o2_notB ?_
  | with_reducible refine om_S0 trivial ?_
  | with_reducible refine ol_isiInt (by first | assumption | rfl) ?_
  | with_reducible refine ol_isiBool (by first | assumption | rfl) ?_
  | with_reducible refine ol_isiStr (by first | assumption | rfl) ?_
  | with_reducible refine ol_isiTup (by first | assumption | rfl) ?_
  | refine Exists.intro _ (And.intro rfl ?_)
  | with_reducible refine And.intro ty_str ?_
  | ((with_reducible refine isIxT ?_); refine o2_ixT rfl ?_)
  | ((with_reducible refine isIxL ?_); refine o2_ixL rfl ?_)
  | with_reducible refine ev_f ?_
  | with_reducible refine ev_fk kg1_ok ?_
  | with_reducible refine ev_fk kgS_ok ?_
  | refine And.intro (by first | assumption | exact Nat.le_of_ble_eq_true rfl) ?_
  | with_reducible refine ev_sl ?_
  | with_reducible refine eo_none ?_
  | with_reducible refine eo_some ?_
  | with_reducible refine ol_lenS (by rw [sizeLine_eq]; omega) ?_
  | with_reducible refine os_str (by rw [sizeLine_eq]; omega) ?_
  | ((with_reducible refine isLenD ?_); refine ol_lenD (by first | assumption | exact put_same) ?_)
  | with_reducible refine sd_dput ?_
  | with_reducible refine ev_sortItems ?_
  | with_reducible refine ev_revT ?_
  | with_reducible refine ev_dget2 ?_
  | with_reducible refine ol_lenT ?_
  | with_reducible refine ol_lenL ?_
  | with_reducible refine ol_int1 ?_
  | with_reducible refine ol_tupL ?_
  | with_reducible refine ol_tupB ?_
  | with_reducible refine ev_tupB ?_
  | with_reducible refine ol_tupT ?_
  | with_reducible refine ol_lstL ?_
  | with_reducible refine ol_lstT ?_
  | with_reducible refine os_lst ?_
  | with_reducible refine os_tupA ?_
  | with_reducible refine os_tupB ?_)
local macro_rules | `(tactic| walk_at "stn") => `(tactic| repeat walk_at "st")
local macro_rules | `(tactic| walk_at "sts") => `(tactic| repeat first | walk_at "st" | with_reducible refine ev_lst ?_)

section
variable {P : Program} {wo : World} {K : PySem.W.Frag} {mg : Str → Option Value} {base : Heap}
abbrev s_is_capacity : Stmt := top 28
theorem sc_is_capacity : FnScope ["thing"] ["thing"] (defScope s_is_capacity) := ⟨rfl, rfl, rfl, by decide +kernel, rfl, by decide +kernel, by decide +kernel⟩
theorem bp_is_capacity : BindP "is_capacity" s_is_capacity ["thing"] := fun _ _ _ _ _ _ us hl => match us, hl with | [_], _ => rfl

theorem ok_is_capacity (T : Tx mg) (d : Dn K mg "is_capacity" s_is_capacity) (F_is_integer_from : Fk P wo K mg base CX0 2 "is_integer_from" s_is_integer_from ["thing", "least"] (SpF K okIF fIF)) :
    Fk P wo K mg base CX0 3 "is_capacity" s_is_capacity ["thing"] (SpF K okI fCap) := by
  refine fk_ok d sc_is_capacity bp_is_capacity (fun ds w h => ?_) fun f cdv A fr s H E hg hr => ⟨_, (pss_one (ps_ret (pe_and (pe_f F_is_integer_from hg (hr.mono (by decide)) rfl pass0 (pa_cons (pv 0) (pa_cons pe_int pa_nil))) (pe_one (pe_cmpR op_le (pv 0) (k_int T.k_MAX_CAPACITY rfl) (nomark _)))))), fun ds w hp => ?_⟩
  · match ds, h with | [.int _], _ => rfl
  · match ds, hp with
    | [.int i], hp =>
      have hk : okIF [.int i, .int 1] := rfl
      walk_at "sts"
      refine if_2 (fun e => ?_) (fun e => ?_)
      · walk_at "sts"
        refine rt_f ?_
        show D.bl (decide (i ≤ 8)) = D.bl (decide (1 ≤ i) && decide (i ≤ 8))
        rw [decide_eq_true (show 1 ≤ i from of_decide_eq_true e)]
        rfl
      · refine rt_f ?_
        show D.bl false = D.bl (decide (1 ≤ i) && decide (i ≤ 8))
        have e' : decide (i ≥ 1) = false := e
        rw [show decide (1 ≤ i) = false from e']
        rfl
end
end LW
set_option Elab.async false
set_option linter.all false
set_option autoImplicit false
set_option maxRecDepth 100000
set_option maxHeartbeats 4000000
namespace LW
open PySem PySem.Spec PyProof.Rows L2 DL
/-- one step of a reading on data -/
local macro_rules | `(tactic| walk_at "st") => `(tactic| first
  | with_reducible refine sd_seq ?_
  | with_reducible refine sd_ret ?_
  | with_reducible refine sd_asg ?_
  | with_reducible refine sd_if ?_
  | with_reducible refine sd_drop ?_
  | with_reducible refine sd_par ?_
  | with_reducible refine sd_nx ?_
  | with_reducible refine sd_retN ?_
  | with_reducible refine ev_op ?_
  | with_reducible refine ev_cint ?_
  | with_reducible refine ev_cstr ?_
  | with_reducible refine ev_cbl ?_
  | with_reducible refine ev_cnon ?_
  | with_reducible refine ev_cty ?_
  | refine ev_var (by exact rfl) ?_
  | with_reducible refine ev_cb ?_
  | with_reducible refine ea_cons ?_
  | with_reducible refine ea_nil ?_
  | with_reducible refine ev_tup ?_
  | with_reducible refine ev_un ?_
  | with_reducible refine o1_U ?_
  | with_reducible refine ev_andV ?_
  | with_reducible refine ev_orV ?_
  | with_reducible refine ev_notV ?_
  | with_reducible refine ev_if ?_
  | with_reducible refine et_B ?_
  | with_reducible refine et_test ?_
  | with_reducible refine et_not ?_
  | with_reducible refine et_and ?_
  | with_reducible refine et_or ?_
  | with_reducible refine et_tru ?_
  | with_reducible refine ev_bm0 ?_
  | with_reducible refine ev_bm ?_
  | with_reducible refine ev_chain ?_
  | with_reducible refine gd_name ?_
  | with_reducible refine gd_sub ?_
  | ((with_reducible refine isIxLo ?_); refine o2_ixLo (by first | assumption | exact put_same) (by exact rfl) ?_)
  | ((with_reducible refine isI ?_); refine o2_I (by first | (show (0 : Int) < _; decide) | exact ⟨by decide, by decide⟩ | exact ⟨by decide, by decide, by decide⟩ | exact ⟨by omega, by omega⟩ | exact Or.inl ⟨by omega, by omega⟩ | exact Or.inr ⟨by decide, by decide⟩ | exact Or.inr ⟨by omega, by omega⟩) ?_)
  | refine ⟨_, _, _, _, rfl, rfl, (by first | assumption | exact put_same), (by exact rfl), ?_⟩
  | ((with_reducible refine isTupO ?_); refine ol_tupO (by first | assumption | exact put_same) ?_)
  | ((with_reducible refine isTupBO ?_); refine ol_tupBO (by first | assumption | exact put_same) ?_)
  | with_reducible refine ol_abs ?_
  | with_reducible refine ol_max2 ?_
  | with_reducible refine ol_min2 ?_
  | with_reducible refine gs_nil ?_
  | with_reducible refine gs_cons ?_
  | with_reducible refine gd_tup rfl ?_
  | with_reducible refine o2_I0 ?_
  | with_reducible refine o2_B0 ?_
  | with_reducible refine o2_eqI ?_
  | with_reducible refine o2_neI ?_
  | with_reducible refine o2_eqS ?_
  | with_reducible refine o2_neS ?_
  | with_reducible refine o2_SS ?_
  | with_reducible refine o2_isB ?_
  | with_reducible refine o2_notB ?_
  | with_reducible refine om_S0 trivial ?_
  | with_reducible refine ol_isiInt (by first | assumption | rfl) ?_
  | with_reducible refine ol_isiBool (by first | assumption | rfl) ?_
  | with_reducible refine ol_isiStr (by first | assumption | rfl) ?_
  | with_reducible refine ol_isiTup (by first | assumption | rfl) ?_
  | refine Exists.intro _ (And.intro rfl ?_)
  | with_reducible refine And.intro ty_str ?_
  | ((with_reducible refine isIxT ?_); refine o2_ixT rfl ?_)
  | ((with_reducible refine isIxL ?_); refine o2_ixL rfl ?_)
  | with_reducible refine ev_f ?_
  | with_reducible refine ev_fk kg1_ok ?_
  | with_reducible refine ev_fk kgS_ok ?_
  | refine And.intro (by first | assumption | exact Nat.le_of_ble_eq_true rfl) ?_
  | with_reducible refine ev_sl ?_
  | with_reducible refine eo_none ?_
  | with_reducible refine eo_some ?_
  | with_reducible refine ol_lenS (by rw [sizeLine_eq]; omega) ?_
  | with_reducible refine os_str (by rw [sizeLine_eq]; omega) ?_
  | ((with_reducible refine isLenD ?_); refine ol_lenD (by first | assumption | exact put_same) ?_)
  | with_reducible refine sd_dput ?_
  | with_reducible refine ev_sortItems ?_
  | with_reducible refine ev_revT ?_
  | with_reducible refine ev_dget2 ?_
  | with_reducible refine ol_lenT ?_
  | with_reducible refine ol_lenL ?_
  | with_reducible refine ol_int1 ?_
  | with_reducible refine ol_tupL ?_
  | with_reducible refine ol_tupB ?_
  | with_reducible refine ev_tupB ?_
  | with_reducible refine ol_tupT ?_
  | with_reducible refine ol_lstL ?_
  | with_reducible refine ol_lstT ?_
  | with_reducible refine os_lst ?_
  | with_reducible refine os_tupA ?_
  | with_reducible refine os_tupB ?_)
local macro_rules | `(tactic| walk_at "stn") => `(tactic| repeat walk_at "st")
local macro_rules | `(tactic| walk_at "sts") => `(tactic| repeat first | walk_at "st" | with_reducible refine ev_lst ?_)

section
variable {P : Program} {wo : World} {K : PySem.W.Frag} {mg : Str → Option Value} {base : Heap}
abbrev s_check_capacity : Stmt := top 29
theorem sc_check_capacity : FnScope ["thing"] ["thing"] (defScope s_check_capacity) := ⟨rfl, rfl, rfl, by decide +kernel, rfl, by decide +kernel, by decide +kernel⟩
theorem bp_check_capacity : BindP "check_capacity" s_check_capacity ["thing"] := fun _ _ _ _ _ _ us hl => match us, hl with | [_], _ => rfl

theorem ok_check_capacity (T : Tx mg) (d : Dn K mg "check_capacity" s_check_capacity) (F_is_capacity : Fk P wo K mg base CX0 3 "is_capacity" s_is_capacity ["thing"] (SpF K okI fCap)) :
    Fk P wo K mg base CX0 4 "check_capacity" s_check_capacity ["thing"] (SpF K okCap fNon) := by
  refine fk_ok d sc_check_capacity bp_check_capacity (fun ds w h => ?_) fun f cdv A fr s H E hg hr => ⟨_, (pss_one (ps_if (pt_not (pt_val (pe_f F_is_capacity hg (hr.mono (by decide)) rfl pass0 (pa_cons (pv 0) pa_nil)))) (pss_one ps_never) pss_nil)), fun ds w hp => ?_⟩
  · match ds, h with | [.int _], _ => rfl
  · match ds, hp with
    | [.int i], hp =>
      obtain ⟨h1, h2⟩ : 1 ≤ i ∧ i ≤ 8 := hp
      have hk : okI [.int i] := trivial
      have hc : fCap [.int i] = .bl true := by
        show D.bl (decide (1 ≤ i) && decide (i ≤ 8)) = _
        rw [decide_eq_true h1, decide_eq_true h2]; rfl
      walk_at "sts"
      refine if_f (by rw [decide_eq_true h1, decide_eq_true h2]; rfl) ?_
      walk_at "sts"
      exact rt_f rfl
end
end LW
set_option Elab.async false
set_option linter.all false
set_option autoImplicit false
set_option maxRecDepth 100000
set_option maxHeartbeats 4000000
namespace LW
open PySem PySem.Spec PyProof.Rows L2 DL
/-- one step of a reading on data -/
local macro_rules | `(tactic| walk_at "st") => `(tactic| first
  | with_reducible refine sd_seq ?_
  | with_reducible refine sd_ret ?_
  | with_reducible refine sd_asg ?_
  | with_reducible refine sd_if ?_
  | with_reducible refine sd_drop ?_
  | with_reducible refine sd_par ?_
  | with_reducible refine sd_nx ?_
  | with_reducible refine sd_retN ?_
  | with_reducible refine ev_op ?_
  | with_reducible refine ev_cint ?_
  | with_reducible refine ev_cstr ?_
  | with_reducible refine ev_cbl ?_
  | with_reducible refine ev_cnon ?_
  | with_reducible refine ev_cty ?_
  | refine ev_var (by exact rfl) ?_
  | with_reducible refine ev_cb ?_
  | with_reducible refine ea_cons ?_
  | with_reducible refine ea_nil ?_
  | with_reducible refine ev_tup ?_
  | with_reducible refine ev_un ?_
  | with_reducible refine o1_U ?_
  | with_reducible refine ev_andV ?_
  | with_reducible refine ev_orV ?_
  | with_reducible refine ev_notV ?_
  | with_reducible refine ev_if ?_
  | with_reducible refine et_B ?_
  | with_reducible refine et_test ?_
  | with_reducible refine et_not ?_
  | with_reducible refine et_and ?_
  | with_reducible refine et_or ?_
  | with_reducible refine et_tru ?_
  | with_reducible refine ev_bm0 ?_
  | with_reducible refine ev_bm ?_
  | with_reducible refine ev_chain ?_
  | with_reducible refine gd_name ?_
  | with_reducible refine gd_sub ?_
  | ((with_reducible refine isIxLo ?_); refine o2_ixLo (by first | assumption | exact put_same) (by exact rfl) ?_)
  | ((with_reducible refine isI ?_); refine o2_I (by first | (show (0 : Int) < _; decide) | exact ⟨by decide, by decide⟩ | exact ⟨by decide, by decide, by decide⟩ | exact ⟨by omega, by omega⟩ | exact Or.inl ⟨by omega, by omega⟩ | exact Or.inr ⟨by decide, by decide⟩ | exact Or.inr ⟨by omega, by omega⟩) ?_)
  | refine ⟨_, _, _, _, rfl, rfl, (by first | assumption | exact put_same), (by exact rfl), ?_⟩
  | ((with_reducible refine isTupO ?_); refine ol_tupO (by first | assumption | exact put_same) ?_)
  | ((with_reducible refine isTupBO ?_); refine ol_tupBO (by first | assumption | exact put_same) ?_)
  | with_reducible refine ol_abs ?_
  | with_reducible refine ol_max2 ?_
  | with_reducible refine ol_min2 ?_
  | with_reducible refine gs_nil ?_
  | with_reducible refine gs_cons ?_
  | with_reducible refine gd_tup rfl ?_
  | with_reducible refine o2_I0 ?_
  | with_reducible refine o2_B0 ?_
  | with_reducible refine o2_eqI ?_
  | with_reducible refine o2_neI ?_
  | with_reducible refine o2_eqS ?_
  | with_reducible refine o2_neS ?_
  | with_reducible refine o2_SS ?_
  | with_reducible refine o2_isB ?_
  | with_reducible refine o2_notB ?_
  | with_reducible refine om_S0 trivial ?_
  | with_reducible refine ol_isiInt (by first | assumption | rfl) ?_
  | with_reducible refine ol_isiBool (by first | assumption | rfl) ?_
  | with_reducible refine ol_isiStr (by first | assumption | rfl) ?_
  | with_reducible refine ol_isiTup (by first | assumption | rfl) ?_
  | refine Exists.intro _ (And.intro rfl ?_)
  | with_reducible refine And.intro ty_str ?_
  | ((with_reducible refine isIxT ?_); refine o2_ixT rfl ?_)
  | ((with_reducible refine isIxL ?_); refine o2_ixL rfl ?_)
  | with_reducible refine ev_f ?_
  | with_reducible refine ev_fk kg1_ok ?_
  | with_reducible refine ev_fk kgS_ok ?_
  | refine And.intro (by first | assumption | exact Nat.le_of_ble_eq_true rfl) ?_
  | with_reducible refine ev_sl ?_
  | with_reducible refine eo_none ?_
  | with_reducible refine eo_some ?_
  | with_reducible refine ol_lenS (by rw [sizeLine_eq]; omega) ?_
  | with_reducible refine os_str (by rw [sizeLine_eq]; omega) ?_
  | ((with_reducible refine isLenD ?_); refine ol_lenD (by first | assumption | exact put_same) ?_)
  | with_reducible refine sd_dput ?_
  | with_reducible refine ev_sortItems ?_
  | with_reducible refine ev_revT ?_
  | with_reducible refine ev_dget2 ?_
  | with_reducible refine ol_lenT ?_
  | with_reducible refine ol_lenL ?_
  | with_reducible refine ol_int1 ?_
  | with_reducible refine ol_tupL ?_
  | with_reducible refine ol_tupB ?_
  | with_reducible refine ev_tupB ?_
  | with_reducible refine ol_tupT ?_
  | with_reducible refine ol_lstL ?_
  | with_reducible refine ol_lstT ?_
  | with_reducible refine os_lst ?_
  | with_reducible refine os_tupA ?_
  | with_reducible refine os_tupB ?_)
local macro_rules | `(tactic| walk_at "stn") => `(tactic| repeat walk_at "st")
local macro_rules | `(tactic| walk_at "sts") => `(tactic| repeat first | walk_at "st" | with_reducible refine ev_lst ?_)

section
variable {P : Program} {wo : World} {K : PySem.W.Frag} {mg : Str → Option Value} {base : Heap}
abbrev s_check_counters : Stmt := top 30
theorem sc_check_counters : FnScope ["thing", "most", "good"] ["thing", "most"] (defScope s_check_counters) := ⟨rfl, rfl, rfl, by decide +kernel, rfl, by decide +kernel, by decide +kernel⟩
theorem bp_check_counters : BindP "check_counters" s_check_counters ["thing", "most"] := fun _ _ _ _ _ _ us hl => match us, hl with | [_, _], _ => rfl


theorem ok_check_counters (T : Tx mg) (d : Dn K mg "check_counters" s_check_counters)
    (F_good_pairs : Fk P wo K mg base CX0 4 "good_pairs" s_good_pairs ["things", "most"] (SpF K okGood fGood)) :
    Fk P wo K mg base CX0 5 "check_counters" s_check_counters ["thing", "most"] (SpF K okCounters fNon) := by
  refine fk_ok d sc_check_counters bp_check_counters (fun ds w h => by first | (unfold okCounters at h; (repeat (first | (obtain ⟨rfl, _⟩ := h; rfl) | (obtain ⟨_, h⟩ := h))); done) | (unfold okCounters at h; split at h <;> first | rfl | exact h.elim) | (dsimp only at h; unfold okCounters at h; split at h <;> first | rfl | exact h.elim)) fun f cdv A fr s H E hg hr => ⟨_, (pss_cons (ps_if (pt_not (pt_val (q_isi (K := K) rfl T.b_isinstance rfl (pa_cons (pv 0) (pa_cons (c_tuple T.b_tuple rfl) pa_nil))))) (pss_one ps_never) pss_nil) (pss_cons (ps_set (i := 2) sc_check_counters.nd rfl (Or.inl rfl) (pe_f F_good_pairs hg (hr.mono (by decide)) rfl pass0 (pa_cons (pv 0) (pa_cons (pv 1) pa_nil)))) (pss_one (ps_if (pt_cmpR op_lt (pv 2) (q_len (K := K) rfl T.b_len rfl (pa_cons (pv 0) pa_nil)) (nomark _)) (pss_one ps_never) pss_nil)))), fun ds w hp => ?_⟩
  · match ds, hp with
    | [.tup ds, .int m], hp =>
      obtain ⟨h1, h2⟩ := hp
      have hgd : okGood [.tup ds, .int m] := h1
      have hk : kn (.tup ds) := rfl
      walk_at "sts"
      refine if_f rfl ?_
      walk_at "sts"
      have hfg : fGood [.tup ds, .int m] = .int ds.length := by
        show D.int (goodN ds m) = _
        rw [h2]
      rw [hfg]
      walk_at "sts"
      refine if_f (decide_eq_false (Int.lt_irrefl _)) ?_
      walk_at "sts"
      exact rt_f rfl
end
end LW
set_option Elab.async false
set_option linter.all false
set_option autoImplicit false
set_option maxRecDepth 100000
set_option maxHeartbeats 4000000
namespace LW
open PySem PySem.Spec PyProof.Rows L2 DL
/-- one step of a reading on data -/
local macro_rules | `(tactic| walk_at "st") => `(tactic| first
  | with_reducible refine sd_seq ?_
  | with_reducible refine sd_ret ?_
  | with_reducible refine sd_asg ?_
  | with_reducible refine sd_if ?_
  | with_reducible refine sd_drop ?_
  | with_reducible refine sd_par ?_
  | with_reducible refine sd_nx ?_
  | with_reducible refine sd_retN ?_
  | with_reducible refine ev_op ?_
  | with_reducible refine ev_cint ?_
  | with_reducible refine ev_cstr ?_
  | with_reducible refine ev_cbl ?_
  | with_reducible refine ev_cnon ?_
  | with_reducible refine ev_cty ?_
  | refine ev_var (by exact rfl) ?_
  | with_reducible refine ev_cb ?_
  | with_reducible refine ea_cons ?_
  | with_reducible refine ea_nil ?_
  | with_reducible refine ev_tup ?_
  | with_reducible refine ev_un ?_
  | with_reducible refine o1_U ?_
  | with_reducible refine ev_andV ?_
  | with_reducible refine ev_orV ?_
  | with_reducible refine ev_notV ?_
  | with_reducible refine ev_if ?_
  | with_reducible refine et_B ?_
  | with_reducible refine et_test ?_
  | with_reducible refine et_not ?_
  | with_reducible refine et_and ?_
  | with_reducible refine et_or ?_
  | with_reducible refine et_tru ?_
  | with_reducible refine ev_bm0 ?_
  | with_reducible refine ev_bm ?_
  | with_reducible refine ev_chain ?_
  | with_reducible refine gd_name ?_
  | with_reducible refine gd_sub ?_
  | ((with_reducible refine isIxLo ?_); refine o2_ixLo (by first | assumption | exact put_same) (by exact rfl) ?_)
  | ((with_reducible refine isI ?_); refine o2_I (by first | (show (0 : Int) < _; decide) | exact ⟨by decide, by decide⟩ | exact ⟨by decide, by decide, by decide⟩ | exact ⟨by omega, by omega⟩ | exact Or.inl ⟨by omega, by omega⟩ | exact Or.inr ⟨by decide, by decide⟩ | exact Or.inr ⟨by omega, by omega⟩) ?_)
  | refine ⟨_, _, _, _, rfl, rfl, (by first | assumption | exact put_same), (by exact rfl), ?_⟩
  | ((with_reducible refine isTupO ?_); refine ol_tupO (by first | assumption | exact put_same) ?_)
  | ((with_reducible refine isTupBO ?_); refine ol_tupBO (by first | assumption | exact put_same) ?_)
  | with_reducible refine ol_abs ?_
  | with_reducible refine ol_max2 ?_
  | with_reducible refine ol_min2 ?_
  | with_reducible refine gs_nil ?_
  | with_reducible refine gs_cons ?_
  | with_reducible refine gd_tup rfl ?_
  | with_reducible refine o2_I0 ?_
  | with_reducible refine o2_B0 ?_
  | with_reducible refine o2_eqI ?_
  | with_reducible refine o2_neI ?_
  | with_reducible refine o2_eqS ?_
  | with_reducible refine o2_neS ?_
  | with_reducible refine o2_SS ?_
  | with_reducible refine o2_isB ?_
  | with_reducible refine o2_notB ?_
  | with_reducible refine om_S0 trivial ?_
  | with_reducible refine ol_isiInt (by first | assumption | rfl) ?_
  | with_reducible refine ol_isiBool (by first | assumption | rfl) ?_
  | with_reducible refine ol_isiStr (by first | assumption | rfl) ?_
  | with_reducible refine ol_isiTup (by first | assumption | rfl) ?_
  | refine Exists.intro _ (And.intro rfl ?_)
  | with_reducible refine And.intro ty_str ?_
  | ((with_reducible refine isIxT ?_); refine o2_ixT rfl ?_)
  | ((with_reducible refine isIxL ?_); refine o2_ixL rfl ?_)
  | with_reducible refine ev_f ?_
  | with_reducible refine ev_fk kg1_ok ?_
  | with_reducible refine ev_fk kgS_ok ?_
  | refine And.intro (by first | assumption | exact Nat.le_of_ble_eq_true rfl) ?_
  | with_reducible refine ev_sl ?_
  | with_reducible refine eo_none ?_
  | with_reducible refine eo_some ?_
  | with_reducible refine ol_lenS (by rw [sizeLine_eq]; omega) ?_
  | with_reducible refine os_str (by rw [sizeLine_eq]; omega) ?_
  | ((with_reducible refine isLenD ?_); refine ol_lenD (by first | assumption | exact put_same) ?_)
  | with_reducible refine sd_dput ?_
  | with_reducible refine ev_sortItems ?_
  | with_reducible refine ev_revT ?_
  | with_reducible refine ev_dget2 ?_
  | with_reducible refine ol_lenT ?_
  | with_reducible refine ol_lenL ?_
  | with_reducible refine ol_int1 ?_
  | with_reducible refine ol_tupL ?_
  | with_reducible refine ol_tupB ?_
  | with_reducible refine ev_tupB ?_
  | with_reducible refine ol_tupT ?_
  | with_reducible refine ol_lstL ?_
  | with_reducible refine ol_lstT ?_
  | with_reducible refine os_lst ?_
  | with_reducible refine os_tupA ?_
  | with_reducible refine os_tupB ?_)
local macro_rules | `(tactic| walk_at "stn") => `(tactic| repeat walk_at "st")
local macro_rules | `(tactic| walk_at "sts") => `(tactic| repeat first | walk_at "st" | with_reducible refine ev_lst ?_)

section
variable {P : Program} {wo : World} {K : PySem.W.Frag} {mg : Str → Option Value} {base : Heap}
abbrev s_Summary___init__ : Stmt := meth 31 0
theorem sc_Summary___init__ : FnScope ["self", "capacity", "counts"] ["self", "capacity", "counts"] (defScope s_Summary___init__) := ⟨rfl, rfl, rfl, by decide +kernel, rfl, by decide +kernel, by decide +kernel⟩
theorem bp_Summary___init__ : BindPD "__init__" "Summary.__init__" s_Summary___init__ ["self", "capacity", "counts"] := fun _ _ _ _ _ _ _ _ us hl => match us, hl with | [_, _, _], _ => ⟨_, rfl, rfl⟩

local macro_rules | `(tactic| walk_at "st") => `(tactic| refine ev_varT (by exact rfl) ?_)
theorem ok_Summary___init__ {CS : Addr} (T : Tx mg) (d : MDD K CS "__init__" "Summary.__init__" s_Summary___init__) (U_Summary : Uc K mg "Summary" CS) (NA : NoAttr K CS "capacity") (NB : NoAttr K CS "counts")
    (F_check_capacity : Fk P wo K mg base CX0 4 "check_capacity" s_check_capacity ["thing"] (SpF K okCap fNon))
    (F_check_counters : Fk P wo K mg base CX0 5 "check_counters" s_check_counters ["thing", "most"] (SpF K okCounters fNon)) :
    Mt P wo K mg base CX0 6 CS "__init__" ["self", "capacity", "counts"] (SpD K (preInitB CS) (postInitB CS) zN) := by
  refine mt_okD d sc_Summary___init__ bp_Summary___init__ (fun ds w h => by first | (unfold preInitB at h; (repeat (first | (obtain ⟨rfl, _⟩ := h; rfl) | (obtain ⟨_, h⟩ := h))); done) | (unfold preInitB at h; split at h <;> first | rfl | exact h.elim) | (dsimp only at h; unfold preInitB at h; split at h <;> first | rfl | exact h.elim)) fun f cdv A fr s H E hg hr => ⟨_, (pss_cons (ps_expr (pe_f F_check_capacity hg (hr.mono (by decide)) rfl pass0 (pa_cons (pv 1) pa_nil))) (pss_cons (ps_expr (pe_f F_check_counters hg (hr.mono (by decide)) rfl pass0 (pa_cons (pv 2) (pa_cons (pv 1) pa_nil)))) (pss_cons (ps_fld (pv 0) (pv 1) rfl) (pss_one (ps_fld (pv 0) (pv 2) rfl))))), fun ds w hp => ?_⟩
  · obtain ⟨x, c, prs, rfl, hw, h1, h8, b, hs⟩ := hp
    have hcap : okCap [.int c] := ⟨h1, h8⟩
    have hcn : okCounters [.tup (prs.map prD), .int c] := ⟨hs.fine, hs.good (m := c) (by omega)⟩
    walk_at "sts"
    refine sd_fld ?_
    walk_at "sts"
    refine ⟨x, CS, [], rfl, hw, U_Summary.cls, NA, by decide, ?_⟩
    walk_at "sts"
    refine sd_fld ?_
    refine ev_var rfl ?_
    refine ev_var rfl ?_
    refine ⟨x, CS, _, rfl, put_same, U_Summary.cls, NB, by show 1 < 1000; decide, ?_⟩
    refine ⟨rfl, fun x' c' prs' e => ?_⟩
    injection e with e1 e2
    injection e2 with e2 e3
    injection e3 with e3 e4
    injection e1 with e1
    injection e2 with e2
    injection e3 with e3
    subst e1; subst e2
    rw [prs_inj e3, put_put, put_fs]
    rfl
theorem bd1_Summary___init__ : BindP1 "__init__" "Summary.__init__" s_Summary___init__ ["self", "capacity", "counts"] := fun _ _ _ _ _ _ _ _ us hl => by
  have h2 : us.length = 2 := by simpa using hl
  match us, h2 with | [_, _], _ => exact ⟨_, rfl, rfl⟩
theorem ck_Summary___init___kdA : BindKD "__init__" "Summary.__init__" s_Summary___init__ ["self", "capacity", "counts"] ["capacity"] @kdA := fun _ _ _ _ _ _ _ _ _ ws hl => by
  rcases ws with _ | ⟨w1, _ | ⟨w2, _ | ⟨w3, ws⟩⟩⟩ <;> first | exact ⟨_, rfl, rfl⟩ | (exfalso; simp [kdA] at hl)

theorem ck_Summary___init___kdC : BindKD "__init__" "Summary.__init__" s_Summary___init__ ["self", "capacity", "counts"] ["capacity", "counts"] @kdC := fun _ _ _ _ _ _ _ _ _ ws hl => by
  rcases ws with _ | ⟨w1, _ | ⟨w2, _ | ⟨w3, ws⟩⟩⟩ <;> first | exact ⟨_, rfl, rfl⟩ | (exfalso; simp [kdC] at hl)

theorem ck_Summary___init___kdB : BindKD "__init__" "Summary.__init__" s_Summary___init__ ["self", "capacity", "counts"] ["counts", "capacity"] @kdB := fun _ _ _ _ _ _ _ _ _ ws hl => by
  rcases ws with _ | ⟨w1, _ | ⟨w2, _ | ⟨w3, ws⟩⟩⟩ <;> first | exact ⟨_, rfl, rfl⟩ | (exfalso; simp [kdB] at hl)

end
end LW
set_option Elab.async false
set_option linter.all false
set_option autoImplicit false
set_option maxRecDepth 100000
set_option maxHeartbeats 4000000
namespace LW
open PySem PySem.Spec PyProof.Rows L2 DL
/-- one step of a reading on data -/
local macro_rules | `(tactic| walk_at "st") => `(tactic| first
  | with_reducible refine sd_seq ?_
  | with_reducible refine sd_ret ?_
  | with_reducible refine sd_asg ?_
  | with_reducible refine sd_if ?_
  | with_reducible refine sd_drop ?_
  | with_reducible refine sd_par ?_
  | with_reducible refine sd_nx ?_
  | with_reducible refine sd_retN ?_
  | with_reducible refine ev_op ?_
  | with_reducible refine ev_cint ?_
  | with_reducible refine ev_cstr ?_
  | with_reducible refine ev_cbl ?_
  | with_reducible refine ev_cnon ?_
  | with_reducible refine ev_cty ?_
  | refine ev_var (by exact rfl) ?_
  | with_reducible refine ev_cb ?_
  | with_reducible refine ea_cons ?_
  | with_reducible refine ea_nil ?_
  | with_reducible refine ev_tup ?_
  | with_reducible refine ev_un ?_
  | with_reducible refine o1_U ?_
  | with_reducible refine ev_andV ?_
  | with_reducible refine ev_orV ?_
  | with_reducible refine ev_notV ?_
  | with_reducible refine ev_if ?_
  | with_reducible refine et_B ?_
  | with_reducible refine et_test ?_
  | with_reducible refine et_not ?_
  | with_reducible refine et_and ?_
  | with_reducible refine et_or ?_
  | with_reducible refine et_tru ?_
  | with_reducible refine ev_bm0 ?_
  | with_reducible refine ev_bm ?_
  | with_reducible refine ev_chain ?_
  | with_reducible refine gd_name ?_
  | with_reducible refine gd_sub ?_
  | ((with_reducible refine isIxLo ?_); refine o2_ixLo (by first | assumption | exact put_same) (by exact rfl) ?_)
  | ((with_reducible refine isI ?_); refine o2_I (by first | (show (0 : Int) < _; decide) | exact ⟨by decide, by decide⟩ | exact ⟨by decide, by decide, by decide⟩ | exact ⟨by omega, by omega⟩ | exact Or.inl ⟨by omega, by omega⟩ | exact Or.inr ⟨by decide, by decide⟩ | exact Or.inr ⟨by omega, by omega⟩) ?_)
  | refine ⟨_, _, _, _, rfl, rfl, (by first | assumption | exact put_same), (by exact rfl), ?_⟩
  | ((with_reducible refine isTupO ?_); refine ol_tupO (by first | assumption | exact put_same) ?_)
  | ((with_reducible refine isTupBO ?_); refine ol_tupBO (by first | assumption | exact put_same) ?_)
  | with_reducible refine ol_abs ?_
  | with_reducible refine ol_max2 ?_
  | with_reducible refine ol_min2 ?_
  | with_reducible refine gs_nil ?_
  | with_reducible refine gs_cons ?_
  | with_reducible refine gd_tup rfl ?_
  | with_reducible refine o2_I0 ?_
  | with_reducible refine o2_B0 ?_
  | with_reducible refine o2_eqI ?_
  | with_reducible refine o2_neI ?_
  | with_reducible refine o2_eqS ?_
  | with_reducible refine o2_neS ?_
  | with_reducible refine o2_SS ?_
  | with_reducible refine o2_isB ?_
  | with_reducible refine o2_notB ?_
  | with_reducible refine om_S0 trivial ?_
  | with_reducible refine ol_isiInt (by first | assumption | rfl) ?_
  | with_reducible refine ol_isiBool (by first | assumption | rfl) ?_
  | with_reducible refine ol_isiStr (by first | assumption | rfl) ?_
  | with_reducible refine ol_isiTup (by first | assumption | rfl) ?_
  | refine Exists.intro _ (And.intro rfl ?_)
  | with_reducible refine And.intro ty_str ?_
  | ((with_reducible refine isIxT ?_); refine o2_ixT rfl ?_)
  | ((with_reducible refine isIxL ?_); refine o2_ixL rfl ?_)
  | with_reducible refine ev_f ?_
  | with_reducible refine ev_fk kg1_ok ?_
  | with_reducible refine ev_fk kgS_ok ?_
  | refine And.intro (by first | assumption | exact Nat.le_of_ble_eq_true rfl) ?_
  | with_reducible refine ev_sl ?_
  | with_reducible refine eo_none ?_
  | with_reducible refine eo_some ?_
  | with_reducible refine ol_lenS (by rw [sizeLine_eq]; omega) ?_
  | with_reducible refine os_str (by rw [sizeLine_eq]; omega) ?_
  | ((with_reducible refine isLenD ?_); refine ol_lenD (by first | assumption | exact put_same) ?_)
  | with_reducible refine sd_dput ?_
  | with_reducible refine ev_sortItems ?_
  | with_reducible refine ev_revT ?_
  | with_reducible refine ev_dget2 ?_
  | with_reducible refine ol_lenT ?_
  | with_reducible refine ol_lenL ?_
  | with_reducible refine ol_int1 ?_
  | with_reducible refine ol_tupL ?_
  | with_reducible refine ol_tupB ?_
  | with_reducible refine ev_tupB ?_
  | with_reducible refine ol_tupT ?_
  | with_reducible refine ol_lstL ?_
  | with_reducible refine ol_lstT ?_
  | with_reducible refine os_lst ?_
  | with_reducible refine os_tupA ?_
  | with_reducible refine os_tupB ?_)
local macro_rules | `(tactic| walk_at "stn") => `(tactic| repeat walk_at "st")
local macro_rules | `(tactic| walk_at "sts") => `(tactic| repeat first | walk_at "st" | with_reducible refine ev_lst ?_)

section
variable {P : Program} {wo : World} {K : PySem.W.Frag} {mg : Str → Option Value} {base : Heap}
abbrev s_Summary___len__ : Stmt := meth 31 2
theorem sc_Summary___len__ : FnScope ["self"] ["self"] (defScope s_Summary___len__) := ⟨rfl, rfl, rfl, by decide +kernel, rfl, by decide +kernel, by decide +kernel⟩
theorem bp_Summary___len__ : BindPM "__len__" "Summary.__len__" s_Summary___len__ ["self"] := fun _ _ _ _ _ _ us hl => match us, hl with | [_], _ => rfl


theorem ok_Summary___len__ {CS : Addr} (T : Tx mg) (d : MD K CS "__len__" "Summary.__len__" s_Summary___len__) (U_Summary : Uc K mg "Summary" CS) (NB : NoAttr K CS "counts") :
    Mt P wo K mg base CX0 1 CS "__len__" ["self"] (SpD K (preLen CS) (postLen CS) zN) := by
  refine mt_ok d sc_Summary___len__ bp_Summary___len__ (fun ds w h => by first | (unfold preLen at h; (repeat (first | (obtain ⟨rfl, _⟩ := h; rfl) | (obtain ⟨_, h⟩ := h))); done) | (unfold preLen at h; split at h <;> first | rfl | exact h.elim) | (dsimp only at h; unfold preLen at h; split at h <;> first | rfl | exact h.elim)) fun f cdv A fr s H E hg hr => ⟨_, (pss_one (ps_ret (q_len (K := K) rfl T.b_len rfl (pa_cons (q_fld (K := K) rfl (pv 0)) pa_nil)))), fun ds w hp => ?_⟩
  · obtain ⟨c, prs, rfl, hl⟩ := hp
    walk_at "sts"
    refine ev_weak (ev_fld ?_)
    walk_at "sts"
    refine ⟨_, _, _, rfl, U_Summary.cls, NB, lookB_cnt, _, rfl, ?_⟩
    walk_at "sts"
    refine ⟨rfl, fun c' prs' e => ?_⟩
    obtain ⟨_, rfl, rfl⟩ := sumB_inj (by injection e)
    rw [List.length_map]
end
end LW
set_option Elab.async false
set_option linter.all false
set_option autoImplicit false
set_option maxRecDepth 100000
set_option maxHeartbeats 4000000
namespace LW
open PySem PySem.Spec PyProof.Rows L2 DL
/-- one step of a reading on data -/
local macro_rules | `(tactic| walk_at "st") => `(tactic| first
  | with_reducible refine sd_seq ?_
  | with_reducible refine sd_ret ?_
  | with_reducible refine sd_asg ?_
  | with_reducible refine sd_if ?_
  | with_reducible refine sd_drop ?_
  | with_reducible refine sd_par ?_
  | with_reducible refine sd_nx ?_
  | with_reducible refine sd_retN ?_
  | with_reducible refine ev_op ?_
  | with_reducible refine ev_cint ?_
  | with_reducible refine ev_cstr ?_
  | with_reducible refine ev_cbl ?_
  | with_reducible refine ev_cnon ?_
  | with_reducible refine ev_cty ?_
  | refine ev_var (by exact rfl) ?_
  | with_reducible refine ev_cb ?_
  | with_reducible refine ea_cons ?_
  | with_reducible refine ea_nil ?_
  | with_reducible refine ev_tup ?_
  | with_reducible refine ev_un ?_
  | with_reducible refine o1_U ?_
  | with_reducible refine ev_andV ?_
  | with_reducible refine ev_orV ?_
  | with_reducible refine ev_notV ?_
  | with_reducible refine ev_if ?_
  | with_reducible refine et_B ?_
  | with_reducible refine et_test ?_
  | with_reducible refine et_not ?_
  | with_reducible refine et_and ?_
  | with_reducible refine et_or ?_
  | with_reducible refine et_tru ?_
  | with_reducible refine ev_bm0 ?_
  | with_reducible refine ev_bm ?_
  | with_reducible refine ev_chain ?_
  | with_reducible refine gd_name ?_
  | with_reducible refine gd_sub ?_
  | ((with_reducible refine isIxLo ?_); refine o2_ixLo (by first | assumption | exact put_same) (by exact rfl) ?_)
  | ((with_reducible refine isI ?_); refine o2_I (by first | (show (0 : Int) < _; decide) | exact ⟨by decide, by decide⟩ | exact ⟨by decide, by decide, by decide⟩ | exact ⟨by omega, by omega⟩ | exact Or.inl ⟨by omega, by omega⟩ | exact Or.inr ⟨by decide, by decide⟩ | exact Or.inr ⟨by omega, by omega⟩) ?_)
  | refine ⟨_, _, _, _, rfl, rfl, (by first | assumption | exact put_same), (by exact rfl), ?_⟩
  | ((with_reducible refine isTupO ?_); refine ol_tupO (by first | assumption | exact put_same) ?_)
  | ((with_reducible refine isTupBO ?_); refine ol_tupBO (by first | assumption | exact put_same) ?_)
  | with_reducible refine ol_abs ?_
  | with_reducible refine ol_max2 ?_
  | with_reducible refine ol_min2 ?_
  | with_reducible refine gs_nil ?_
  | with_reducible refine gs_cons ?_
  | with_reducible refine gd_tup rfl ?_
  | with_reducible refine o2_I0 ?_
  | with_reducible refine o2_B0 ?_
  | with_reducible refine o2_eqI ?_
  | with_reducible refine o2_neI ?_
  | with_reducible refine o2_eqS ?_
  | with_reducible refine o2_neS ?_
  | with_reducible refine o2_SS ?_
  | with_reducible refine o2_isB ?_
  | with_reducible refine o2_notB ?_
  | with_reducible refine om_S0 trivial ?_
  | with_reducible refine ol_isiInt (by first | assumption | rfl) ?_
  | with_reducible refine ol_isiBool (by first | assumption | rfl) ?_
  | with_reducible refine ol_isiStr (by first | assumption | rfl) ?_
  | with_reducible refine ol_isiTup (by first | assumption | rfl) ?_
  | refine Exists.intro _ (And.intro rfl ?_)
  | with_reducible refine And.intro ty_str ?_
  | ((with_reducible refine isIxT ?_); refine o2_ixT rfl ?_)
  | ((with_reducible refine isIxL ?_); refine o2_ixL rfl ?_)
  | with_reducible refine ev_f ?_
  | with_reducible refine ev_fk kg1_ok ?_
  | with_reducible refine ev_fk kgS_ok ?_
  | refine And.intro (by first | assumption | exact Nat.le_of_ble_eq_true rfl) ?_
  | with_reducible refine ev_sl ?_
  | with_reducible refine eo_none ?_
  | with_reducible refine eo_some ?_
  | with_reducible refine ol_lenS (by rw [sizeLine_eq]; omega) ?_
  | with_reducible refine os_str (by rw [sizeLine_eq]; omega) ?_
  | ((with_reducible refine isLenD ?_); refine ol_lenD (by first | assumption | exact put_same) ?_)
  | with_reducible refine sd_dput ?_
  | with_reducible refine ev_sortItems ?_
  | with_reducible refine ev_revT ?_
  | with_reducible refine ev_dget2 ?_
  | with_reducible refine ol_lenT ?_
  | with_reducible refine ol_lenL ?_
  | with_reducible refine ol_int1 ?_
  | with_reducible refine ol_tupL ?_
  | with_reducible refine ol_tupB ?_
  | with_reducible refine ev_tupB ?_
  | with_reducible refine ol_tupT ?_
  | with_reducible refine ol_lstL ?_
  | with_reducible refine ol_lstT ?_
  | with_reducible refine os_lst ?_
  | with_reducible refine os_tupA ?_
  | with_reducible refine os_tupB ?_)
local macro_rules | `(tactic| walk_at "stn") => `(tactic| repeat walk_at "st")
local macro_rules | `(tactic| walk_at "sts") => `(tactic| repeat first | walk_at "st" | with_reducible refine ev_lst ?_)

section
variable {P : Program} {wo : World} {K : PySem.W.Frag} {mg : Str → Option Value} {base : Heap}
abbrev s_Summary___str__ : Stmt := meth 31 3
theorem sc_Summary___str__ : FnScope ["self"] ["self"] (defScope s_Summary___str__) := ⟨rfl, rfl, rfl, by decide +kernel, rfl, by decide +kernel, by decide +kernel⟩
theorem bp_Summary___str__ : BindPM "__str__" "Summary.__str__" s_Summary___str__ ["self"] := fun _ _ _ _ _ _ us hl => match us, hl with | [_], _ => rfl


theorem ok_Summary___str__ {CS : Addr} (T : Tx mg) (d : MD K CS "__str__" "Summary.__str__" s_Summary___str__) (U_Summary : Uc K mg "Summary" CS) (NB : NoAttr K CS "counts")
    (F_counts_text : Fk P wo K mg base CX0 2 "counts_text" s_counts_text ["pairs"] (SpD K preCT postCT zN)) :
    Mt P wo K mg base CX0 3 CS "__str__" ["self"] (SpD K (preStr CS) (postStr CS) zN) := by
  refine mt_ok d sc_Summary___str__ bp_Summary___str__ (fun ds w h => by first | (unfold preStr at h; (repeat (first | (obtain ⟨rfl, _⟩ := h; rfl) | (obtain ⟨_, h⟩ := h))); done) | (unfold preStr at h; split at h <;> first | rfl | exact h.elim) | (dsimp only at h; unfold preStr at h; split at h <;> first | rfl | exact h.elim)) fun f cdv A fr s H E hg hr => ⟨_, (pss_one (ps_ret (b_str T.b_str rfl (pa_cons (pe_f F_counts_text hg (hr.mono (by decide)) rfl pass0 (pa_cons (q_fld (K := K) rfl (pv 0)) pa_nil)) pa_nil)))), fun ds w hp => ?_⟩
  · obtain ⟨c, prs, b, rfl, hs, c1, c8, hb⟩ := hp
    walk_at "sts"
    refine ev_call ?_
    refine ea_cons (ev_weak (ev_fld ?_))
    walk_at "sts"
    refine ⟨_, _, _, rfl, U_Summary.cls, NB, lookB_cnt, _, rfl, ?_⟩
    walk_at "sts"
    refine ⟨⟨prs, b, _, rfl, hs, by omega, hb⟩, ?_⟩
    rintro dd w1 ⟨k1, h1⟩
    have h1 := h1 prs rfl
    subst h1
    walk_at "sts"
    refine ol_strS ?_
    refine ⟨k1, fun c' prs' e => ?_⟩
    injection e with e _
    obtain ⟨_, _, rfl⟩ := sumB_inj e
    rfl
end
end LW
set_option Elab.async false
set_option linter.all false
set_option autoImplicit false
set_option maxRecDepth 100000
set_option maxHeartbeats 4000000
namespace LW
open PySem PySem.Spec PyProof.Rows L2 DL
/-- one step of a reading on data -/
local macro_rules | `(tactic| walk_at "st") => `(tactic| first
  | with_reducible refine sd_seq ?_
  | with_reducible refine sd_ret ?_
  | with_reducible refine sd_asg ?_
  | with_reducible refine sd_if ?_
  | with_reducible refine sd_drop ?_
  | with_reducible refine sd_par ?_
  | with_reducible refine sd_nx ?_
  | with_reducible refine sd_retN ?_
  | with_reducible refine ev_op ?_
  | with_reducible refine ev_cint ?_
  | with_reducible refine ev_cstr ?_
  | with_reducible refine ev_cbl ?_
  | with_reducible refine ev_cnon ?_
  | with_reducible refine ev_cty ?_
  | refine ev_var (by exact rfl) ?_
  | with_reducible refine ev_cb ?_
  | with_reducible refine ea_cons ?_
  | with_reducible refine ea_nil ?_
  | with_reducible refine ev_tup ?_
  | with_reducible refine ev_un ?_
  | with_reducible refine o1_U ?_
  | with_reducible refine ev_andV ?_
  | with_reducible refine ev_orV ?_
  | with_reducible refine ev_notV ?_
  | with_reducible refine ev_if ?_
  | with_reducible refine et_B ?_
  | with_reducible refine et_test ?_
  | with_reducible refine et_not ?_
  | with_reducible refine et_and ?_
  | with_reducible refine et_or ?_
  | with_reducible refine et_tru ?_
  | with_reducible refine ev_bm0 ?_
  | with_reducible refine ev_bm ?_
  | with_reducible refine ev_chain ?_
  | with_reducible refine gd_name ?_
  | with_reducible refine gd_sub ?_
  | ((with_reducible refine isIxLo ?_); refine o2_ixLo (by first | assumption | exact put_same) (by exact rfl) ?_)
  | ((with_reducible refine isI ?_); refine o2_I (by first | (show (0 : Int) < _; decide) | exact ⟨by decide, by decide⟩ | exact ⟨by decide, by decide, by decide⟩ | exact ⟨by omega, by omega⟩ | exact Or.inl ⟨by omega, by omega⟩ | exact Or.inr ⟨by decide, by decide⟩ | exact Or.inr ⟨by omega, by omega⟩) ?_)
  | refine ⟨_, _, _, _, rfl, rfl, (by first | assumption | exact put_same), (by exact rfl), ?_⟩
  | ((with_reducible refine isTupO ?_); refine ol_tupO (by first | assumption | exact put_same) ?_)
  | ((with_reducible refine isTupBO ?_); refine ol_tupBO (by first | assumption | exact put_same) ?_)
  | with_reducible refine ol_abs ?_
  | with_reducible refine ol_max2 ?_
  | with_reducible refine ol_min2 ?_
  | with_reducible refine gs_nil ?_
  | with_reducible refine gs_cons ?_
  | with_reducible refine gd_tup rfl ?_
  | with_reducible refine o2_I0 ?_
  | with_reducible refine o2_B0 ?_
  | with_reducible refine o2_eqI ?_
  | with_reducible refine o2_neI ?_
  | with_reducible refine o2_eqS ?_
  | with_reducible refine o2_neS ?_
  | with_reducible refine o2_SS ?_
  | with_reducible refine o2_isB ?_
  | with_reducible refine o2_notB ?_
  | with_reducible refine om_S0 trivial ?_
  | with_reducible refine ol_isiInt (by first | assumption | rfl) ?_
  | with_reducible refine ol_isiBool (by first | assumption | rfl) ?_
  | with_reducible refine ol_isiStr (by first | assumption | rfl) ?_
  | with_reducible refine ol_isiTup (by first | assumption | rfl) ?_
  | refine Exists.intro _ (And.intro rfl ?_)
  | with_reducible refine And.intro ty_str ?_
  | ((with_reducible refine isIxT ?_); refine o2_ixT rfl ?_)
  | ((with_reducible refine isIxL ?_); refine o2_ixL rfl ?_)
  | with_reducible refine ev_f ?_
  | with_reducible refine ev_fk kg1_ok ?_
  | with_reducible refine ev_fk kgS_ok ?_
  | refine And.intro (by first | assumption | exact Nat.le_of_ble_eq_true rfl) ?_
  | with_reducible refine ev_sl ?_
  | with_reducible refine eo_none ?_
  | with_reducible refine eo_some ?_
  | with_reducible refine ol_lenS (by rw [sizeLine_eq]; omega) ?_
  | with_reducible refine os_str (by rw [sizeLine_eq]; omega) ?_
  | ((with_reducible refine isLenD ?_); refine ol_lenD (by first | assumption | exact put_same) ?_)
  | with_reducible refine sd_dput ?_
  | with_reducible refine ev_sortItems ?_
  | with_reducible refine ev_revT ?_
  | with_reducible refine ev_dget2 ?_
  | with_reducible refine ol_lenT ?_
  | with_reducible refine ol_lenL ?_
  | with_reducible refine ol_int1 ?_
  | with_reducible refine ol_tupL ?_
  | with_reducible refine ol_tupB ?_
  | with_reducible refine ev_tupB ?_
  | with_reducible refine ol_tupT ?_
  | with_reducible refine ol_lstL ?_
  | with_reducible refine ol_lstT ?_
  | with_reducible refine os_lst ?_
  | with_reducible refine os_tupA ?_
  | with_reducible refine os_tupB ?_)
local macro_rules | `(tactic| walk_at "stn") => `(tactic| repeat walk_at "st")
local macro_rules | `(tactic| walk_at "sts") => `(tactic| repeat first | walk_at "st" | with_reducible refine ev_lst ?_)

section
variable {P : Program} {wo : World} {K : PySem.W.Frag} {mg : Str → Option Value} {base : Heap}
abbrev s_Summary___repr__ : Stmt := meth 31 4
theorem sc_Summary___repr__ : FnScope ["self"] ["self"] (defScope s_Summary___repr__) := ⟨rfl, rfl, rfl, by decide +kernel, rfl, by decide +kernel, by decide +kernel⟩
theorem bp_Summary___repr__ : BindPM "__repr__" "Summary.__repr__" s_Summary___repr__ ["self"] := fun _ _ _ _ _ _ us hl => match us, hl with | [_], _ => rfl


theorem ok_Summary___repr__ {CS : Addr} (T : Tx mg) (d : MD K CS "__repr__" "Summary.__repr__" s_Summary___repr__) (U_Summary : Uc K mg "Summary" CS) (NA : NoAttr K CS "capacity") (NB : NoAttr K CS "counts")
    (F_counts_text : Fk P wo K mg base CX0 2 "counts_text" s_counts_text ["pairs"] (SpD K preCT postCT zN)) :
    Mt P wo K mg base CX0 3 CS "__repr__" ["self"] (SpD K (preStr CS) (postRpr CS) zN) := by
  refine mt_ok d sc_Summary___repr__ bp_Summary___repr__ (fun ds w h => by first | (unfold preStr at h; (repeat (first | (obtain ⟨rfl, _⟩ := h; rfl) | (obtain ⟨_, h⟩ := h))); done) | (unfold preStr at h; split at h <;> first | rfl | exact h.elim) | (dsimp only at h; unfold preStr at h; split at h <;> first | rfl | exact h.elim)) fun f cdv A fr s H E hg hr => ⟨_, (pss_one (ps_ret (pe_fj (PJ.cons pe_str (PJ.cons (pe_fmt (q_fld (K := K) rfl (pv 0))) (PJ.cons pe_str (PJ.cons (pe_fmt (pe_f F_counts_text hg (hr.mono (by decide)) rfl pass0 (pa_cons (q_fld (K := K) rfl (pv 0)) pa_nil))) (PJ.cons pe_str PJ.nil)))))))), fun ds w hp => ?_⟩
  · obtain ⟨c, prs, b, rfl, hs, c1, c8, hb⟩ := hp
    have hcl := num_len (n := c) (by omega) (Int.lt_of_le_of_lt c8 (by decide +kernel))
    have htl := text_len hs (by omega) hb
    walk_at "sts"
    refine ev_joined ?_
    simp only [jsD]
    walk_at "sts"
    have z0 : Str.empty.length = 0 := rfl
    have z1 : (Str.ofString "Summary(").length = 8 := by decide +kernel
    have z2 : (Str.ofString ", '").length = 3 := by decide +kernel
    have z3 : (Str.ofString "')").length = 2 := by decide +kernel
    refine ev_fmt (ev_fld ?_)
    walk_at "sts"
    refine ⟨_, _, _, rfl, U_Summary.cls, NA, lookB_cap, ?_⟩
    refine .inr ⟨c, rfl, log2_60 (by omega) (Int.lt_of_le_of_lt c8 (by decide +kernel)), ?_⟩
    refine ⟨_, rfl, by rw [app_len, app_len, z0, z1, sizeLine_eq]; omega, ?_⟩
    walk_at "sts"
    refine ⟨by rw [app_len, app_len, app_len, z0, z1, z2, sizeLine_eq]; omega, ?_⟩
    refine ev_fmt (ev_call (ea_cons (ev_weak (ev_fld ?_))))
    walk_at "sts"
    refine ⟨_, _, _, rfl, U_Summary.cls, NB, lookB_cnt, _, rfl, ?_⟩
    walk_at "sts"
    refine ⟨⟨prs, b, _, rfl, hs, by omega, hb⟩, ?_⟩
    rintro dd w1 ⟨k1, h1⟩
    have h1 := h1 prs rfl
    subst h1
    refine .inl ⟨_, rfl, by rw [sizeLine_eq]; omega, ?_⟩
    refine ⟨_, rfl, by rw [app_len, app_len, app_len, app_len, z0, z1, z2, sizeLine_eq]; omega, ?_⟩
    walk_at "sts"
    refine ⟨by rw [app_len, app_len, app_len, app_len, app_len, z0, z1, z2, z3, sizeLine_eq]; omega, k1, fun c' prs' e => ?_⟩
    injection e with e _
    obtain ⟨_, rfl, rfl⟩ := sumB_inj e
    rfl
end
end LW
set_option Elab.async false
set_option linter.all false
set_option autoImplicit false
set_option maxRecDepth 100000
set_option maxHeartbeats 4000000
namespace LW
open PySem PySem.Spec PyProof.Rows L2 DL
/-- one step of a reading on data -/
local macro_rules | `(tactic| walk_at "st") => `(tactic| first
  | with_reducible refine sd_seq ?_
  | with_reducible refine sd_ret ?_
  | with_reducible refine sd_asg ?_
  | with_reducible refine sd_if ?_
  | with_reducible refine sd_drop ?_
  | with_reducible refine sd_par ?_
  | with_reducible refine sd_nx ?_
  | with_reducible refine sd_retN ?_
  | with_reducible refine ev_op ?_
  | with_reducible refine ev_cint ?_
  | with_reducible refine ev_cstr ?_
  | with_reducible refine ev_cbl ?_
  | with_reducible refine ev_cnon ?_
  | with_reducible refine ev_cty ?_
  | refine ev_var (by exact rfl) ?_
  | with_reducible refine ev_cb ?_
  | with_reducible refine ea_cons ?_
  | with_reducible refine ea_nil ?_
  | with_reducible refine ev_tup ?_
  | with_reducible refine ev_un ?_
  | with_reducible refine o1_U ?_
  | with_reducible refine ev_andV ?_
  | with_reducible refine ev_orV ?_
  | with_reducible refine ev_notV ?_
  | with_reducible refine ev_if ?_
  | with_reducible refine et_B ?_
  | with_reducible refine et_test ?_
  | with_reducible refine et_not ?_
  | with_reducible refine et_and ?_
  | with_reducible refine et_or ?_
  | with_reducible refine et_tru ?_
  | with_reducible refine ev_bm0 ?_
  | with_reducible refine ev_bm ?_
  | with_reducible refine ev_chain ?_
  | with_reducible refine gd_name ?_
  | with_reducible refine gd_sub ?_
  | ((with_reducible refine isIxLo ?_); refine o2_ixLo (by first | assumption | exact put_same) (by exact rfl) ?_)
  | ((with_reducible refine isI ?_); refine o2_I (by first | (show (0 : Int) < _; decide) | exact ⟨by decide, by decide⟩ | exact ⟨by decide, by decide, by decide⟩ | exact ⟨by omega, by omega⟩ | exact Or.inl ⟨by omega, by omega⟩ | exact Or.inr ⟨by decide, by decide⟩ | exact Or.inr ⟨by omega, by omega⟩) ?_)
  | refine ⟨_, _, _, _, rfl, rfl, (by first | assumption | exact put_same), (by exact rfl), ?_⟩
  | ((with_reducible refine isTupO ?_); refine ol_tupO (by first | assumption | exact put_same) ?_)
  | ((with_reducible refine isTupBO ?_); refine ol_tupBO (by first | assumption | exact put_same) ?_)
  | with_reducible refine ol_abs ?_
  | with_reducible refine ol_max2 ?_
  | with_reducible refine ol_min2 ?_
  | with_reducible refine gs_nil ?_
  | with_reducible refine gs_cons ?_
  | with_reducible refine gd_tup rfl ?_
  | with_reducible refine o2_I0 ?_
  | with_reducible refine o2_B0 ?_
  | with_reducible refine o2_eqI ?_
  | with_reducible refine o2_neI ?_
  | with_reducible refine o2_eqS ?_
  | with_reducible refine o2_neS ?_
  | with_reducible refine o2_SS ?_
  | with_reducible refine o2_isB ?_
  | with_reducible refine o2_notB ?_
  | with_reducible refine om_S0 trivial ?_
  | with_reducible refine ol_isiInt (by first | assumption | rfl) ?_
  | with_reducible refine ol_isiBool (by first | assumption | rfl) ?_
  | with_reducible refine ol_isiStr (by first | assumption | rfl) ?_
  | with_reducible refine ol_isiTup (by first | assumption | rfl) ?_
  | refine Exists.intro _ (And.intro rfl ?_)
  | with_reducible refine And.intro ty_str ?_
  | ((with_reducible refine isIxT ?_); refine o2_ixT rfl ?_)
  | ((with_reducible refine isIxL ?_); refine o2_ixL rfl ?_)
  | with_reducible refine ev_f ?_
  | with_reducible refine ev_fk kg1_ok ?_
  | with_reducible refine ev_fk kgS_ok ?_
  | refine And.intro (by first | assumption | exact Nat.le_of_ble_eq_true rfl) ?_
  | with_reducible refine ev_sl ?_
  | with_reducible refine eo_none ?_
  | with_reducible refine eo_some ?_
  | with_reducible refine ol_lenS (by rw [sizeLine_eq]; omega) ?_
  | with_reducible refine os_str (by rw [sizeLine_eq]; omega) ?_
  | ((with_reducible refine isLenD ?_); refine ol_lenD (by first | assumption | exact put_same) ?_)
  | with_reducible refine sd_dput ?_
  | with_reducible refine ev_sortItems ?_
  | with_reducible refine ev_revT ?_
  | with_reducible refine ev_dget2 ?_
  | with_reducible refine ol_lenT ?_
  | with_reducible refine ol_lenL ?_
  | with_reducible refine ol_int1 ?_
  | with_reducible refine ol_tupL ?_
  | with_reducible refine ol_tupB ?_
  | with_reducible refine ev_tupB ?_
  | with_reducible refine ol_tupT ?_
  | with_reducible refine ol_lstL ?_
  | with_reducible refine ol_lstT ?_
  | with_reducible refine os_lst ?_
  | with_reducible refine os_tupA ?_
  | with_reducible refine os_tupB ?_)
local macro_rules | `(tactic| walk_at "stn") => `(tactic| repeat walk_at "st")
local macro_rules | `(tactic| walk_at "sts") => `(tactic| repeat first | walk_at "st" | with_reducible refine ev_lst ?_)

section
variable {P : Program} {wo : World} {K : PySem.W.Frag} {mg : Str → Option Value} {base : Heap}
abbrev s_Summary_tally : Stmt := meth 31 5
theorem sc_Summary_tally : FnScope ["self", "name"] ["self", "name"] (defScope s_Summary_tally) := ⟨rfl, rfl, rfl, by decide +kernel, rfl, by decide +kernel, by decide +kernel⟩
theorem bp_Summary_tally : BindPM "tally" "Summary.tally" s_Summary_tally ["self", "name"] := fun _ _ _ _ _ _ us hl => match us, hl with | [_, _], _ => rfl
theorem bk_Summary_tally_M : BindKM "tally" "Summary.tally" s_Summary_tally ["self", "name"] ["name"] := fun _ _ _ _ _ _ us ws hl h1 => match us, ws, hl, h1 with | [_], [_], _, _ => rfl


theorem ok_Summary_tally {CS : Addr} (T : Tx mg) (d : MD K CS "tally" "Summary.tally" s_Summary_tally) (U_Summary : Uc K mg "Summary" CS) (NB : NoAttr K CS "counts")
    (F_count_of : Fk P wo K mg base CX0 6 "count_of" s_count_of ["counts", "name"] (SpF K okCof fCof)) :
    Mt P wo K mg base CX0 7 CS "tally" ["self", "name"] (SpD K (preTal CS) (postTal CS) zN) := by
  refine mt_ok d sc_Summary_tally bp_Summary_tally (fun ds w h => by first | (unfold preTal at h; (repeat (first | (obtain ⟨rfl, _⟩ := h; rfl) | (obtain ⟨_, h⟩ := h))); done) | (unfold preTal at h; split at h <;> first | rfl | exact h.elim) | (dsimp only at h; unfold preTal at h; split at h <;> first | rfl | exact h.elim)) fun f cdv A fr s H E hg hr => ⟨_, (pss_one (ps_ret (pe_f F_count_of hg (hr.mono (by decide)) rfl pass0 (pa_cons (q_fld (K := K) rfl (pv 0)) (pa_cons (pv 1) pa_nil))))), fun ds w hp => ?_⟩
  · obtain ⟨c, prs, n, rfl, hs, hn⟩ := hp
    have hb : okCof [.tup (prs.map prD), .str n] := ⟨hs.okBag, hn⟩
    walk_at "sts"
    refine ev_weak (ev_fld ?_)
    walk_at "sts"
    refine ⟨_, _, _, rfl, U_Summary.cls, NB, lookB_cnt, _, rfl, ?_⟩
    walk_at "sts"
    refine ⟨rfl, fun c' prs' n' e => ?_⟩
    injection e with e1 e2
    obtain ⟨_, rfl, rfl⟩ := sumB_inj e1
    injection e2 with e2
    injection e2 with e2
    subst e2
    show D.int (cofD n (prs.map prD)) = _
    rw [cof_get]
end
end LW
set_option Elab.async false
set_option linter.all false
set_option autoImplicit false
set_option maxRecDepth 100000
set_option maxHeartbeats 4000000
namespace LW
open PySem PySem.Spec PyProof.Rows L2 DL
/-- one step of a reading on data -/
local macro_rules | `(tactic| walk_at "st") => `(tactic| first
  | with_reducible refine sd_seq ?_
  | with_reducible refine sd_ret ?_
  | with_reducible refine sd_asg ?_
  | with_reducible refine sd_if ?_
  | with_reducible refine sd_drop ?_
  | with_reducible refine sd_par ?_
  | with_reducible refine sd_nx ?_
  | with_reducible refine sd_retN ?_
  | with_reducible refine ev_op ?_
  | with_reducible refine ev_cint ?_
  | with_reducible refine ev_cstr ?_
  | with_reducible refine ev_cbl ?_
  | with_reducible refine ev_cnon ?_
  | with_reducible refine ev_cty ?_
  | refine ev_var (by exact rfl) ?_
  | with_reducible refine ev_cb ?_
  | with_reducible refine ea_cons ?_
  | with_reducible refine ea_nil ?_
  | with_reducible refine ev_tup ?_
  | with_reducible refine ev_un ?_
  | with_reducible refine o1_U ?_
  | with_reducible refine ev_andV ?_
  | with_reducible refine ev_orV ?_
  | with_reducible refine ev_notV ?_
  | with_reducible refine ev_if ?_
  | with_reducible refine et_B ?_
  | with_reducible refine et_test ?_
  | with_reducible refine et_not ?_
  | with_reducible refine et_and ?_
  | with_reducible refine et_or ?_
  | with_reducible refine et_tru ?_
  | with_reducible refine ev_bm0 ?_
  | with_reducible refine ev_bm ?_
  | with_reducible refine ev_chain ?_
  | with_reducible refine gd_name ?_
  | with_reducible refine gd_sub ?_
  | ((with_reducible refine isIxLo ?_); refine o2_ixLo (by first | assumption | exact put_same) (by exact rfl) ?_)
  | ((with_reducible refine isI ?_); refine o2_I (by first | (show (0 : Int) < _; decide) | exact ⟨by decide, by decide⟩ | exact ⟨by decide, by decide, by decide⟩ | exact ⟨by omega, by omega⟩ | exact Or.inl ⟨by omega, by omega⟩ | exact Or.inr ⟨by decide, by decide⟩ | exact Or.inr ⟨by omega, by omega⟩) ?_)
  | refine ⟨_, _, _, _, rfl, rfl, (by first | assumption | exact put_same), (by exact rfl), ?_⟩
  | ((with_reducible refine isTupO ?_); refine ol_tupO (by first | assumption | exact put_same) ?_)
  | ((with_reducible refine isTupBO ?_); refine ol_tupBO (by first | assumption | exact put_same) ?_)
  | with_reducible refine ol_abs ?_
  | with_reducible refine ol_max2 ?_
  | with_reducible refine ol_min2 ?_
  | with_reducible refine gs_nil ?_
  | with_reducible refine gs_cons ?_
  | with_reducible refine gd_tup rfl ?_
  | with_reducible refine o2_I0 ?_
  | with_reducible refine o2_B0 ?_
  | with_reducible refine o2_eqI ?_
  | with_reducible refine o2_neI ?_
  | with_reducible refine o2_eqS ?_
  | with_reducible refine o2_neS ?_
  | with_reducible refine o2_SS ?_
  | with_reducible refine o2_isB ?_
  | with_reducible refine o2_notB ?_
  | with_reducible refine om_S0 trivial ?_
  | with_reducible refine ol_isiInt (by first | assumption | rfl) ?_
  | with_reducible refine ol_isiBool (by first | assumption | rfl) ?_
  | with_reducible refine ol_isiStr (by first | assumption | rfl) ?_
  | with_reducible refine ol_isiTup (by first | assumption | rfl) ?_
  | refine Exists.intro _ (And.intro rfl ?_)
  | with_reducible refine And.intro ty_str ?_
  | ((with_reducible refine isIxT ?_); refine o2_ixT rfl ?_)
  | ((with_reducible refine isIxL ?_); refine o2_ixL rfl ?_)
  | with_reducible refine ev_f ?_
  | with_reducible refine ev_fk kg1_ok ?_
  | with_reducible refine ev_fk kgS_ok ?_
  | refine And.intro (by first | assumption | exact Nat.le_of_ble_eq_true rfl) ?_
  | with_reducible refine ev_sl ?_
  | with_reducible refine eo_none ?_
  | with_reducible refine eo_some ?_
  | with_reducible refine ol_lenS (by rw [sizeLine_eq]; omega) ?_
  | with_reducible refine os_str (by rw [sizeLine_eq]; omega) ?_
  | ((with_reducible refine isLenD ?_); refine ol_lenD (by first | assumption | exact put_same) ?_)
  | with_reducible refine sd_dput ?_
  | with_reducible refine ev_sortItems ?_
  | with_reducible refine ev_revT ?_
  | with_reducible refine ev_dget2 ?_
  | with_reducible refine ol_lenT ?_
  | with_reducible refine ol_lenL ?_
  | with_reducible refine ol_int1 ?_
  | with_reducible refine ol_tupL ?_
  | with_reducible refine ol_tupB ?_
  | with_reducible refine ev_tupB ?_
  | with_reducible refine ol_tupT ?_
  | with_reducible refine ol_lstL ?_
  | with_reducible refine ol_lstT ?_
  | with_reducible refine os_lst ?_
  | with_reducible refine os_tupA ?_
  | with_reducible refine os_tupB ?_)
local macro_rules | `(tactic| walk_at "stn") => `(tactic| repeat walk_at "st")
local macro_rules | `(tactic| walk_at "sts") => `(tactic| repeat first | walk_at "st" | with_reducible refine ev_lst ?_)

section
variable {P : Program} {wo : World} {K : PySem.W.Frag} {mg : Str → Option Value} {base : Heap}
abbrev s_Summary_kept : Stmt := meth 31 6
theorem sc_Summary_kept : FnScope ["self"] ["self"] (defScope s_Summary_kept) := ⟨rfl, rfl, rfl, by decide +kernel, rfl, by decide +kernel, by decide +kernel⟩
theorem bp_Summary_kept : BindPM "kept" "Summary.kept" s_Summary_kept ["self"] := fun _ _ _ _ _ _ us hl => match us, hl with | [_], _ => rfl


theorem ok_Summary_kept {CS : Addr} (T : Tx mg) (d : MD K CS "kept" "Summary.kept" s_Summary_kept) (U_Summary : Uc K mg "Summary" CS) (NB : NoAttr K CS "counts")
    (F_total : Fk P wo K mg base CX0 6 "total" s_total ["counts"] (SpF K okBag fTotal)) :
    Mt P wo K mg base CX0 7 CS "kept" ["self"] (SpD K (preKept CS) (postKept CS) zN) := by
  refine mt_ok d sc_Summary_kept bp_Summary_kept (fun ds w h => by first | (unfold preKept at h; (repeat (first | (obtain ⟨rfl, _⟩ := h; rfl) | (obtain ⟨_, h⟩ := h))); done) | (unfold preKept at h; split at h <;> first | rfl | exact h.elim) | (dsimp only at h; unfold preKept at h; split at h <;> first | rfl | exact h.elim)) fun f cdv A fr s H E hg hr => ⟨_, (pss_one (ps_ret (pe_f F_total hg (hr.mono (by decide)) rfl pass0 (pa_cons (q_fld (K := K) rfl (pv 0)) pa_nil)))), fun ds w hp => ?_⟩
  · obtain ⟨c, prs, rfl, hs⟩ := hp
    have hb := hs.okBag
    walk_at "sts"
    refine ev_weak (ev_fld ?_)
    walk_at "sts"
    refine ⟨_, _, _, rfl, U_Summary.cls, NB, lookB_cnt, _, rfl, ?_⟩
    walk_at "sts"
    refine ⟨rfl, fun c' prs' e => ?_⟩
    obtain ⟨_, rfl, rfl⟩ := sumB_inj (by injection e)
    show D.int (sumC (prs.map prD)) = _
    rw [sumC_prs]
end
end LW
set_option Elab.async false
set_option linter.all false
set_option autoImplicit false
set_option maxRecDepth 100000
set_option maxHeartbeats 4000000
namespace LW
open PySem PySem.Spec PyProof.Rows L2 DL
/-- one step of a reading on data -/
local macro_rules | `(tactic| walk_at "st") => `(tactic| first
  | with_reducible refine sd_seq ?_
  | with_reducible refine sd_ret ?_
  | with_reducible refine sd_asg ?_
  | with_reducible refine sd_if ?_
  | with_reducible refine sd_drop ?_
  | with_reducible refine sd_par ?_
  | with_reducible refine sd_nx ?_
  | with_reducible refine sd_retN ?_
  | with_reducible refine ev_op ?_
  | with_reducible refine ev_cint ?_
  | with_reducible refine ev_cstr ?_
  | with_reducible refine ev_cbl ?_
  | with_reducible refine ev_cnon ?_
  | with_reducible refine ev_cty ?_
  | refine ev_var (by exact rfl) ?_
  | with_reducible refine ev_cb ?_
  | with_reducible refine ea_cons ?_
  | with_reducible refine ea_nil ?_
  | with_reducible refine ev_tup ?_
  | with_reducible refine ev_un ?_
  | with_reducible refine o1_U ?_
  | with_reducible refine ev_andV ?_
  | with_reducible refine ev_orV ?_
  | with_reducible refine ev_notV ?_
  | with_reducible refine ev_if ?_
  | with_reducible refine et_B ?_
  | with_reducible refine et_test ?_
  | with_reducible refine et_not ?_
  | with_reducible refine et_and ?_
  | with_reducible refine et_or ?_
  | with_reducible refine et_tru ?_
  | with_reducible refine ev_bm0 ?_
  | with_reducible refine ev_bm ?_
  | with_reducible refine ev_chain ?_
  | with_reducible refine gd_name ?_
  | with_reducible refine gd_sub ?_
  | ((with_reducible refine isIxLo ?_); refine o2_ixLo (by first | assumption | exact put_same) (by exact rfl) ?_)
  | ((with_reducible refine isI ?_); refine o2_I (by first | (show (0 : Int) < _; decide) | exact ⟨by decide, by decide⟩ | exact ⟨by decide, by decide, by decide⟩ | exact ⟨by omega, by omega⟩ | exact Or.inl ⟨by omega, by omega⟩ | exact Or.inr ⟨by decide, by decide⟩ | exact Or.inr ⟨by omega, by omega⟩) ?_)
  | refine ⟨_, _, _, _, rfl, rfl, (by first | assumption | exact put_same), (by exact rfl), ?_⟩
  | ((with_reducible refine isTupO ?_); refine ol_tupO (by first | assumption | exact put_same) ?_)
  | ((with_reducible refine isTupBO ?_); refine ol_tupBO (by first | assumption | exact put_same) ?_)
  | with_reducible refine ol_abs ?_
  | with_reducible refine ol_max2 ?_
  | with_reducible refine ol_min2 ?_
  | with_reducible refine gs_nil ?_
  | with_reducible refine gs_cons ?_
  | with_reducible refine gd_tup rfl ?_
  | with_reducible refine o2_I0 ?_
  | with_reducible refine o2_B0 ?_
  | with_reducible refine o2_eqI ?_
  | with_reducible refine o2_neI ?_
  | with_reducible refine o2_eqS ?_
  | with_reducible refine o2_neS ?_
  | with_reducible refine o2_SS ?_
  | with_reducible refine o2_isB ?_
  | with_reducible refine o2_notB ?_
  | with_reducible refine om_S0 trivial ?_
  | with_reducible refine ol_isiInt (by first | assumption | rfl) ?_
  | with_reducible refine ol_isiBool (by first | assumption | rfl) ?_
  | with_reducible refine ol_isiStr (by first | assumption | rfl) ?_
  | with_reducible refine ol_isiTup (by first | assumption | rfl) ?_
  | refine Exists.intro _ (And.intro rfl ?_)
  | with_reducible refine And.intro ty_str ?_
  | ((with_reducible refine isIxT ?_); refine o2_ixT rfl ?_)
  | ((with_reducible refine isIxL ?_); refine o2_ixL rfl ?_)
  | with_reducible refine ev_f ?_
  | with_reducible refine ev_fk kg1_ok ?_
  | with_reducible refine ev_fk kgS_ok ?_
  | refine And.intro (by first | assumption | exact Nat.le_of_ble_eq_true rfl) ?_
  | with_reducible refine ev_sl ?_
  | with_reducible refine eo_none ?_
  | with_reducible refine eo_some ?_
  | with_reducible refine ol_lenS (by rw [sizeLine_eq]; omega) ?_
  | with_reducible refine os_str (by rw [sizeLine_eq]; omega) ?_
  | ((with_reducible refine isLenD ?_); refine ol_lenD (by first | assumption | exact put_same) ?_)
  | with_reducible refine sd_dput ?_
  | with_reducible refine ev_sortItems ?_
  | with_reducible refine ev_revT ?_
  | with_reducible refine ev_dget2 ?_
  | with_reducible refine ol_lenT ?_
  | with_reducible refine ol_lenL ?_
  | with_reducible refine ol_int1 ?_
  | with_reducible refine ol_tupL ?_
  | with_reducible refine ol_tupB ?_
  | with_reducible refine ev_tupB ?_
  | with_reducible refine ol_tupT ?_
  | with_reducible refine ol_lstL ?_
  | with_reducible refine ol_lstT ?_
  | with_reducible refine os_lst ?_
  | with_reducible refine os_tupA ?_
  | with_reducible refine os_tupB ?_)
local macro_rules | `(tactic| walk_at "stn") => `(tactic| repeat walk_at "st")
local macro_rules | `(tactic| walk_at "sts") => `(tactic| repeat first | walk_at "st" | with_reducible refine ev_lst ?_)

section
variable {P : Program} {wo : World} {K : PySem.W.Frag} {mg : Str → Option Value} {base : Heap}
abbrev s_Summary_is_full : Stmt := meth 31 7
theorem sc_Summary_is_full : FnScope ["self"] ["self"] (defScope s_Summary_is_full) := ⟨rfl, rfl, rfl, by decide +kernel, rfl, by decide +kernel, by decide +kernel⟩
theorem bp_Summary_is_full : BindPM "is_full" "Summary.is_full" s_Summary_is_full ["self"] := fun _ _ _ _ _ _ us hl => match us, hl with | [_], _ => rfl


theorem ok_Summary_is_full {CS : Addr} (T : Tx mg) (d : MD K CS "is_full" "Summary.is_full" s_Summary_is_full) (U_Summary : Uc K mg "Summary" CS) (NA : NoAttr K CS "capacity") (NB : NoAttr K CS "counts") :
    Mt P wo K mg base CX0 1 CS "is_full" ["self"] (SpD K (preFull CS) (postFull CS) zN) := by
  refine mt_ok d sc_Summary_is_full bp_Summary_is_full (fun ds w h => by first | (unfold preFull at h; (repeat (first | (obtain ⟨rfl, _⟩ := h; rfl) | (obtain ⟨_, h⟩ := h))); done) | (unfold preFull at h; split at h <;> first | rfl | exact h.elim) | (dsimp only at h; unfold preFull at h; split at h <;> first | rfl | exact h.elim)) fun f cdv A fr s H E hg hr => ⟨_, (pss_one (ps_ret (pe_cmpR op_eq (q_len (K := K) rfl T.b_len rfl (pa_cons (q_fld (K := K) rfl (pv 0)) pa_nil)) (q_fld (K := K) rfl (pv 0)) (nomark _)))), fun ds w hp => ?_⟩
  · obtain ⟨c, prs, rfl, hl⟩ := hp
    walk_at "sts"
    refine ev_weak (ev_fld ?_)
    walk_at "sts"
    refine ⟨_, _, _, rfl, U_Summary.cls, NB, lookB_cnt, _, rfl, ?_⟩
    walk_at "sts"
    refine ev_fld ?_
    walk_at "sts"
    refine ⟨_, _, _, rfl, U_Summary.cls, NA, lookB_cap, ?_⟩
    walk_at "sts"
    refine ⟨rfl, fun c' prs' e => ?_⟩
    obtain ⟨_, rfl, rfl⟩ := sumB_inj (by injection e)
    rw [List.length_map]
end
end LW
set_option Elab.async false
set_option linter.all false
set_option autoImplicit false
set_option maxRecDepth 100000
set_option maxHeartbeats 4000000
namespace LW
open PySem PySem.Spec PyProof.Rows L2 DL
/-- one step of a reading on data -/
local macro_rules | `(tactic| walk_at "st") => `(tactic| first
  | with_reducible refine sd_seq ?_
  | with_reducible refine sd_ret ?_
  | with_reducible refine sd_asg ?_
  | with_reducible refine sd_if ?_
  | with_reducible refine sd_drop ?_
  | with_reducible refine sd_par ?_
  | with_reducible refine sd_nx ?_
  | with_reducible refine sd_retN ?_
  | with_reducible refine ev_op ?_
  | with_reducible refine ev_cint ?_
  | with_reducible refine ev_cstr ?_
  | with_reducible refine ev_cbl ?_
  | with_reducible refine ev_cnon ?_
  | with_reducible refine ev_cty ?_
  | refine ev_var (by exact rfl) ?_
  | with_reducible refine ev_cb ?_
  | with_reducible refine ea_cons ?_
  | with_reducible refine ea_nil ?_
  | with_reducible refine ev_tup ?_
  | with_reducible refine ev_un ?_
  | with_reducible refine o1_U ?_
  | with_reducible refine ev_andV ?_
  | with_reducible refine ev_orV ?_
  | with_reducible refine ev_notV ?_
  | with_reducible refine ev_if ?_
  | with_reducible refine et_B ?_
  | with_reducible refine et_test ?_
  | with_reducible refine et_not ?_
  | with_reducible refine et_and ?_
  | with_reducible refine et_or ?_
  | with_reducible refine et_tru ?_
  | with_reducible refine ev_bm0 ?_
  | with_reducible refine ev_bm ?_
  | with_reducible refine ev_chain ?_
  | with_reducible refine gd_name ?_
  | with_reducible refine gd_sub ?_
  | ((with_reducible refine isIxLo ?_); refine o2_ixLo (by first | assumption | exact put_same) (by exact rfl) ?_)
  | ((with_reducible refine isI ?_); refine o2_I (by first | (show (0 : Int) < _; decide) | exact ⟨by decide, by decide⟩ | exact ⟨by decide, by decide, by decide⟩ | exact ⟨by omega, by omega⟩ | exact Or.inl ⟨by omega, by omega⟩ | exact Or.inr ⟨by decide, by decide⟩ | exact Or.inr ⟨by omega, by omega⟩) ?_)
  | refine ⟨_, _, _, _, rfl, rfl, (by first | assumption | exact put_same), (by exact rfl), ?_⟩
  | ((with_reducible refine isTupO ?_); refine ol_tupO (by first | assumption | exact put_same) ?_)
  | ((with_reducible refine isTupBO ?_); refine ol_tupBO (by first | assumption | exact put_same) ?_)
  | with_reducible refine ol_abs ?_
  | with_reducible refine ol_max2 ?_
  | with_reducible refine ol_min2 ?_
  | with_reducible refine gs_nil ?_
  | with_reducible refine gs_cons ?_
  | with_reducible refine gd_tup rfl ?_
  | with_reducible refine o2_I0 ?_
  | with_reducible refine o2_B0 ?_
  | with_reducible refine o2_eqI ?_
  | with_reducible refine o2_neI ?_
  | with_reducible refine o2_eqS ?_
  | with_reducible refine o2_neS ?_
  | with_reducible refine o2_SS ?_
  | with_reducible refine o2_isB ?_
  | with_reducible refine o2_notB ?_
  | with_reducible refine om_S0 trivial ?_
  | with_reducible refine ol_isiInt (by first | assumption | rfl) ?_
  | with_reducible refine ol_isiBool (by first | assumption | rfl) ?_
  | with_reducible refine ol_isiStr (by first | assumption | rfl) ?_
  | with_reducible refine ol_isiTup (by first | assumption | rfl) ?_
  | refine Exists.intro _ (And.intro rfl ?_)
  | with_reducible refine And.intro ty_str ?_
  | ((with_reducible refine isIxT ?_); refine o2_ixT rfl ?_)
  | ((with_reducible refine isIxL ?_); refine o2_ixL rfl ?_)
  | with_reducible refine ev_f ?_
  | with_reducible refine ev_fk kg1_ok ?_
  | with_reducible refine ev_fk kgS_ok ?_
  | refine And.intro (by first | assumption | exact Nat.le_of_ble_eq_true rfl) ?_
  | with_reducible refine ev_sl ?_
  | with_reducible refine eo_none ?_
  | with_reducible refine eo_some ?_
  | with_reducible refine ol_lenS (by rw [sizeLine_eq]; omega) ?_
  | with_reducible refine os_str (by rw [sizeLine_eq]; omega) ?_
  | ((with_reducible refine isLenD ?_); refine ol_lenD (by first | assumption | exact put_same) ?_)
  | with_reducible refine sd_dput ?_
  | with_reducible refine ev_sortItems ?_
  | with_reducible refine ev_revT ?_
  | with_reducible refine ev_dget2 ?_
  | with_reducible refine ol_lenT ?_
  | with_reducible refine ol_lenL ?_
  | with_reducible refine ol_int1 ?_
  | with_reducible refine ol_tupL ?_
  | with_reducible refine ol_tupB ?_
  | with_reducible refine ev_tupB ?_
  | with_reducible refine ol_tupT ?_
  | with_reducible refine ol_lstL ?_
  | with_reducible refine ol_lstT ?_
  | with_reducible refine os_lst ?_
  | with_reducible refine os_tupA ?_
  | with_reducible refine os_tupB ?_)
local macro_rules | `(tactic| walk_at "stn") => `(tactic| repeat walk_at "st")
local macro_rules | `(tactic| walk_at "sts") => `(tactic| repeat first | walk_at "st" | with_reducible refine ev_lst ?_)

section
variable {P : Program} {wo : World} {K : PySem.W.Frag} {mg : Str → Option Value} {base : Heap}
abbrev s_is_summary : Stmt := top 32
theorem sc_is_summary : FnScope ["thing"] ["thing"] (defScope s_is_summary) := ⟨rfl, rfl, rfl, by decide +kernel, rfl, by decide +kernel, by decide +kernel⟩
theorem bp_is_summary : BindP "is_summary" s_is_summary ["thing"] := fun _ _ _ _ _ _ us hl => match us, hl with | [_], _ => rfl


theorem ok_is_summary {CS : Addr} (T : Tx mg) (d : Dn K mg "is_summary" s_is_summary) (U_Summary : Uc K mg "Summary" CS) (K_Summary_tuple : KitF K CS "tuple") :
    Fk P wo K mg base CX0 1 "is_summary" s_is_summary ["thing"] (SpF K (okIsS CS) fIsS) := by
  refine fk_ok d sc_is_summary bp_is_summary (fun ds w h => by first | (unfold okIsS at h; (repeat (first | (obtain ⟨rfl, _⟩ := h; rfl) | (obtain ⟨_, h⟩ := h))); done) | (unfold okIsS at h; split at h <;> first | rfl | exact h.elim) | (dsimp only at h; unfold okIsS at h; split at h <;> first | rfl | exact h.elim)) fun f cdv A fr s H E hg hr => ⟨_, (pss_one (ps_ret (q_isi (K := K) rfl T.b_isinstance rfl (pa_cons (pv 0) (pa_cons (k_cls U_Summary rfl) pa_nil))))), fun ds w hp => ?_⟩
  · match ds, hp with
    | [.ins C fs], hp =>
      obtain rfl : C = CS := hp
      walk_at "sts"
      refine ev_cref ?_
      walk_at "sts"
      refine ol_isiOwn U_Summary ?_
      exact rt_f rfl
    | [.tup ds], hp =>
      walk_at "sts"
      refine ev_cref ?_
      walk_at "sts"
      refine ol_isiNo rfl K_Summary_tuple ?_
      exact rt_f rfl
end
end LW
set_option Elab.async false
set_option linter.all false
set_option autoImplicit false
set_option maxRecDepth 100000
set_option maxHeartbeats 4000000
namespace LW
open PySem PySem.Spec PyProof.Rows L2 DL
/-- one step of a reading on data -/
local macro_rules | `(tactic| walk_at "st") => `(tactic| first
  | with_reducible refine sd_seq ?_
  | with_reducible refine sd_ret ?_
  | with_reducible refine sd_asg ?_
  | with_reducible refine sd_if ?_
  | with_reducible refine sd_drop ?_
  | with_reducible refine sd_par ?_
  | with_reducible refine sd_nx ?_
  | with_reducible refine sd_retN ?_
  | with_reducible refine ev_op ?_
  | with_reducible refine ev_cint ?_
  | with_reducible refine ev_cstr ?_
  | with_reducible refine ev_cbl ?_
  | with_reducible refine ev_cnon ?_
  | with_reducible refine ev_cty ?_
  | refine ev_var (by exact rfl) ?_
  | with_reducible refine ev_cb ?_
  | with_reducible refine ea_cons ?_
  | with_reducible refine ea_nil ?_
  | with_reducible refine ev_tup ?_
  | with_reducible refine ev_un ?_
  | with_reducible refine o1_U ?_
  | with_reducible refine ev_andV ?_
  | with_reducible refine ev_orV ?_
  | with_reducible refine ev_notV ?_
  | with_reducible refine ev_if ?_
  | with_reducible refine et_B ?_
  | with_reducible refine et_test ?_
  | with_reducible refine et_not ?_
  | with_reducible refine et_and ?_
  | with_reducible refine et_or ?_
  | with_reducible refine et_tru ?_
  | with_reducible refine ev_bm0 ?_
  | with_reducible refine ev_bm ?_
  | with_reducible refine ev_chain ?_
  | with_reducible refine gd_name ?_
  | with_reducible refine gd_sub ?_
  | ((with_reducible refine isIxLo ?_); refine o2_ixLo (by first | assumption | exact put_same) (by exact rfl) ?_)
  | ((with_reducible refine isI ?_); refine o2_I (by first | (show (0 : Int) < _; decide) | exact ⟨by decide, by decide⟩ | exact ⟨by decide, by decide, by decide⟩ | exact ⟨by omega, by omega⟩ | exact Or.inl ⟨by omega, by omega⟩ | exact Or.inr ⟨by decide, by decide⟩ | exact Or.inr ⟨by omega, by omega⟩) ?_)
  | refine ⟨_, _, _, _, rfl, rfl, (by first | assumption | exact put_same), (by exact rfl), ?_⟩
  | ((with_reducible refine isTupO ?_); refine ol_tupO (by first | assumption | exact put_same) ?_)
  | ((with_reducible refine isTupBO ?_); refine ol_tupBO (by first | assumption | exact put_same) ?_)
  | with_reducible refine ol_abs ?_
  | with_reducible refine ol_max2 ?_
  | with_reducible refine ol_min2 ?_
  | with_reducible refine gs_nil ?_
  | with_reducible refine gs_cons ?_
  | with_reducible refine gd_tup rfl ?_
  | with_reducible refine o2_I0 ?_
  | with_reducible refine o2_B0 ?_
  | with_reducible refine o2_eqI ?_
  | with_reducible refine o2_neI ?_
  | with_reducible refine o2_eqS ?_
  | with_reducible refine o2_neS ?_
  | with_reducible refine o2_SS ?_
  | with_reducible refine o2_isB ?_
  | with_reducible refine o2_notB ?_
  | with_reducible refine om_S0 trivial ?_
  | with_reducible refine ol_isiInt (by first | assumption | rfl) ?_
  | with_reducible refine ol_isiBool (by first | assumption | rfl) ?_
  | with_reducible refine ol_isiStr (by first | assumption | rfl) ?_
  | with_reducible refine ol_isiTup (by first | assumption | rfl) ?_
  | refine Exists.intro _ (And.intro rfl ?_)
  | with_reducible refine And.intro ty_str ?_
  | ((with_reducible refine isIxT ?_); refine o2_ixT rfl ?_)
  | ((with_reducible refine isIxL ?_); refine o2_ixL rfl ?_)
  | with_reducible refine ev_f ?_
  | with_reducible refine ev_fk kg1_ok ?_
  | with_reducible refine ev_fk kgS_ok ?_
  | refine And.intro (by first | assumption | exact Nat.le_of_ble_eq_true rfl) ?_
  | with_reducible refine ev_sl ?_
  | with_reducible refine eo_none ?_
  | with_reducible refine eo_some ?_
  | with_reducible refine ol_lenS (by rw [sizeLine_eq]; omega) ?_
  | with_reducible refine os_str (by rw [sizeLine_eq]; omega) ?_
  | ((with_reducible refine isLenD ?_); refine ol_lenD (by first | assumption | exact put_same) ?_)
  | with_reducible refine sd_dput ?_
  | with_reducible refine ev_sortItems ?_
  | with_reducible refine ev_revT ?_
  | with_reducible refine ev_dget2 ?_
  | with_reducible refine ol_lenT ?_
  | with_reducible refine ol_lenL ?_
  | with_reducible refine ol_int1 ?_
  | with_reducible refine ol_tupL ?_
  | with_reducible refine ol_tupB ?_
  | with_reducible refine ev_tupB ?_
  | with_reducible refine ol_tupT ?_
  | with_reducible refine ol_lstL ?_
  | with_reducible refine ol_lstT ?_
  | with_reducible refine os_lst ?_
  | with_reducible refine os_tupA ?_
  | with_reducible refine os_tupB ?_)
local macro_rules | `(tactic| walk_at "stn") => `(tactic| repeat walk_at "st")
local macro_rules | `(tactic| walk_at "sts") => `(tactic| repeat first | walk_at "st" | with_reducible refine ev_lst ?_)

section
variable {P : Program} {wo : World} {K : PySem.W.Frag} {mg : Str → Option Value} {base : Heap}
abbrev s__law_cell : Stmt := top 34
theorem sc__law_cell : FnScope ["_law_script", "_law_k", "_law_state", "_law_cell_here"] ["_law_script", "_law_k"] (defScope s__law_cell) := ⟨rfl, rfl, rfl, by decide +kernel, rfl, by decide +kernel, by decide +kernel⟩
theorem bp__law_cell : BindP "_law_cell" s__law_cell ["_law_script", "_law_k"] := fun _ _ _ _ _ _ us hl => match us, hl with | [_, _], _ => rfl

theorem ok__law_cell (T : Tx mg) (d : Dn K mg "_law_cell" s__law_cell) : Fk P wo K mg base CX0 1 "_law_cell" s__law_cell ["_law_script", "_law_k"] (SpD K (preCell K) postInt zN) := by
  refine fk_ok d sc__law_cell bp__law_cell (fun ds w h => ?_) fun f cdv A fr s H E hg hr => ⟨_, (pss_cons (ps_if (pt_cmpR op_lt (pv 1) (q_len (K := K) rfl T.b_len rfl (pa_cons (pv 0) pa_nil)) (nomark _)) (pss_one (ps_ret (pe_ix (qx_list (K := K) rfl) (pv 0) (pv 1) (fun _ _ => rfl)))) pss_nil) (pss_cons (ps_set (i := 2) sc__law_cell.nd rfl (Or.inl rfl) (pe_op op_mod (pe_op op_mul pe_int (pe_op op_add (pe_op op_add (pe_op op_mul (pv 1) (pv 1)) (pe_op op_mul pe_int (pv 1))) pe_int)) pe_int)) (pss_cons (ps_for PassesOwn.never rfl (qi_list (K := K) rfl (pe_slice (qs_list (K := K) rfl) (pv 0) po_none (po_some pe_int))) (pg_name (i := 3) sc__law_cell.nd rfl (Or.inl rfl) (hf := Or.inl rfl)) (pss_one (ps_set (i := 2) sc__law_cell.nd rfl (Or.inl rfl) (pe_op op_mod (pe_op op_add (pe_op op_mul (pv 2) pe_int) (pv 3)) pe_int)))) (pss_one (ps_ret (pv 2)))))), fun ds w hp => ?_⟩
  · obtain ⟨a, ns, k, rfl, _⟩ := h; rfl
  · obtain ⟨a, ns, k, rfl, hk, hn, hS⟩ := hp
    walk_at "sts"
    refine ol_lenK hS ?_
    walk_at "sts"
    refine if_2 (fun e => ?_) (fun e => ?_)
    · have hkl : k < ns.length := by
        have := of_decide_eq_true e
        omega
      have hat : atI ns (k : Int) = some ns[k] := by
        unfold atI ixN
        rw [if_pos (Int.natCast_nonneg k), if_pos (by omega)]
        simp [hkl]
      walk_at "sts"
      refine o2_ixK hS hat ?_
      exact ⟨rfl, _, rfl⟩
    · walk_at "sts"
      refine sd_for (ei_lst ?_)
      walk_at "sts"
      refine os_K hS ?_
      walk_at "sts"
      refine ⟨fun i δ' w' => w' = w ∧ ∃ (z : Int) (x : Option D), δ' = [some (.ptr a), some (.int k), some (.int z), x], ⟨rfl, _, _, rfl⟩, ?_, ?_⟩
      · rintro i e δ' w' he ⟨rfl, z, x, rfl⟩
        rw [List.getElem?_map] at he
        obtain ⟨y, hy, rfl⟩ := Option.map_eq_some_iff.mp he
        walk_at "sts"
        exact ⟨rfl, _, _, rfl⟩
      · rintro δ' w' ⟨rfl, z, x, rfl⟩
        walk_at "sts"
        exact ⟨rfl, _, rfl⟩
end
end LW
set_option Elab.async false
set_option linter.all false
set_option autoImplicit false
set_option maxRecDepth 100000
set_option maxHeartbeats 4000000
namespace LW
open PySem PySem.Spec PyProof.Rows L2 DL
/-- one step of a reading on data -/
local macro_rules | `(tactic| walk_at "st") => `(tactic| first
  | with_reducible refine sd_seq ?_
  | with_reducible refine sd_ret ?_
  | with_reducible refine sd_asg ?_
  | with_reducible refine sd_if ?_
  | with_reducible refine sd_drop ?_
  | with_reducible refine sd_par ?_
  | with_reducible refine sd_nx ?_
  | with_reducible refine sd_retN ?_
  | with_reducible refine ev_op ?_
  | with_reducible refine ev_cint ?_
  | with_reducible refine ev_cstr ?_
  | with_reducible refine ev_cbl ?_
  | with_reducible refine ev_cnon ?_
  | with_reducible refine ev_cty ?_
  | refine ev_var (by exact rfl) ?_
  | with_reducible refine ev_cb ?_
  | with_reducible refine ea_cons ?_
  | with_reducible refine ea_nil ?_
  | with_reducible refine ev_tup ?_
  | with_reducible refine ev_un ?_
  | with_reducible refine o1_U ?_
  | with_reducible refine ev_andV ?_
  | with_reducible refine ev_orV ?_
  | with_reducible refine ev_notV ?_
  | with_reducible refine ev_if ?_
  | with_reducible refine et_B ?_
  | with_reducible refine et_test ?_
  | with_reducible refine et_not ?_
  | with_reducible refine et_and ?_
  | with_reducible refine et_or ?_
  | with_reducible refine et_tru ?_
  | with_reducible refine ev_bm0 ?_
  | with_reducible refine ev_bm ?_
  | with_reducible refine ev_chain ?_
  | with_reducible refine gd_name ?_
  | with_reducible refine gd_sub ?_
  | ((with_reducible refine isIxLo ?_); refine o2_ixLo (by first | assumption | exact put_same) (by exact rfl) ?_)
  | ((with_reducible refine isI ?_); refine o2_I (by first | (show (0 : Int) < _; decide) | exact ⟨by decide, by decide⟩ | exact ⟨by decide, by decide, by decide⟩ | exact ⟨by omega, by omega⟩ | exact Or.inl ⟨by omega, by omega⟩ | exact Or.inr ⟨by decide, by decide⟩ | exact Or.inr ⟨by omega, by omega⟩) ?_)
  | refine ⟨_, _, _, _, rfl, rfl, (by first | assumption | exact put_same), (by exact rfl), ?_⟩
  | ((with_reducible refine isTupO ?_); refine ol_tupO (by first | assumption | exact put_same) ?_)
  | ((with_reducible refine isTupBO ?_); refine ol_tupBO (by first | assumption | exact put_same) ?_)
  | with_reducible refine ol_abs ?_
  | with_reducible refine ol_max2 ?_
  | with_reducible refine ol_min2 ?_
  | with_reducible refine gs_nil ?_
  | with_reducible refine gs_cons ?_
  | with_reducible refine gd_tup rfl ?_
  | with_reducible refine o2_I0 ?_
  | with_reducible refine o2_B0 ?_
  | with_reducible refine o2_eqI ?_
  | with_reducible refine o2_neI ?_
  | with_reducible refine o2_eqS ?_
  | with_reducible refine o2_neS ?_
  | with_reducible refine o2_SS ?_
  | with_reducible refine o2_isB ?_
  | with_reducible refine o2_notB ?_
  | with_reducible refine om_S0 trivial ?_
  | with_reducible refine ol_isiInt (by first | assumption | rfl) ?_
  | with_reducible refine ol_isiBool (by first | assumption | rfl) ?_
  | with_reducible refine ol_isiStr (by first | assumption | rfl) ?_
  | with_reducible refine ol_isiTup (by first | assumption | rfl) ?_
  | refine Exists.intro _ (And.intro rfl ?_)
  | with_reducible refine And.intro ty_str ?_
  | ((with_reducible refine isIxT ?_); refine o2_ixT rfl ?_)
  | ((with_reducible refine isIxL ?_); refine o2_ixL rfl ?_)
  | with_reducible refine ev_f ?_
  | with_reducible refine ev_fk kg1_ok ?_
  | with_reducible refine ev_fk kgS_ok ?_
  | refine And.intro (by first | assumption | exact Nat.le_of_ble_eq_true rfl) ?_
  | with_reducible refine ev_sl ?_
  | with_reducible refine eo_none ?_
  | with_reducible refine eo_some ?_
  | with_reducible refine ol_lenS (by rw [sizeLine_eq]; omega) ?_
  | with_reducible refine os_str (by rw [sizeLine_eq]; omega) ?_
  | ((with_reducible refine isLenD ?_); refine ol_lenD (by first | assumption | exact put_same) ?_)
  | with_reducible refine sd_dput ?_
  | with_reducible refine ev_sortItems ?_
  | with_reducible refine ev_revT ?_
  | with_reducible refine ev_dget2 ?_
  | with_reducible refine ol_lenT ?_
  | with_reducible refine ol_lenL ?_
  | with_reducible refine ol_int1 ?_
  | with_reducible refine ol_tupL ?_
  | with_reducible refine ol_tupB ?_
  | with_reducible refine ev_tupB ?_
  | with_reducible refine ol_tupT ?_
  | with_reducible refine ol_lstL ?_
  | with_reducible refine ol_lstT ?_
  | with_reducible refine os_lst ?_
  | with_reducible refine os_tupA ?_
  | with_reducible refine os_tupB ?_)
local macro_rules | `(tactic| walk_at "stn") => `(tactic| repeat walk_at "st")
local macro_rules | `(tactic| walk_at "sts") => `(tactic| repeat first | walk_at "st" | with_reducible refine ev_lst ?_)

section
variable {P : Program} {wo : World} {K : PySem.W.Frag} {mg : Str → Option Value} {base : Heap}
abbrev s__law_pool : Stmt := top 35
theorem sc__law_pool : FnScope ["_law_cell_here", "_law_digits"] ["_law_cell_here"] (defScope s__law_pool) := ⟨rfl, rfl, rfl, by decide +kernel, rfl, by decide +kernel, by decide +kernel⟩
theorem bp__law_pool : BindP "_law_pool" s__law_pool ["_law_cell_here"] := fun _ _ _ _ _ _ us hl => match us, hl with | [_], _ => rfl

theorem ok__law_pool (T : Tx mg) (d : Dn K mg "_law_pool" s__law_pool) : Fk P wo K mg base CX0 1 "_law_pool" s__law_pool ["_law_cell_here"] (SpD K preInt postPool zN) := by
  refine fk_ok d sc__law_pool bp__law_pool (fun ds w h => ?_) fun f cdv A fr s H E hg hr => ⟨_, (pss_cons (ps_set (i := 1) sc__law_pool.nd rfl (Or.inl rfl) pe_int) (pss_cons (ps_if (PW.pt (pw_or (pt_cmpR op_lt (pv 0) pe_int (nomark _)) (pw_or1 (pt_cmpR op_ge (pv 0) (pe_op op_pow pe_int pe_int) (nomark _))))) (pss_one (ps_set (i := 1) sc__law_pool.nd rfl (Or.inl rfl) (b_abs T.b_abs rfl (pa_cons (pv 0) pa_nil)))) pss_nil) (pss_one (ps_ret (pe_lst (pa_cons (pe_op op_mod (pv 0) pe_int) (pa_cons (pv 1) (pa_cons pe_int pa_nil)))))))), fun ds w hp => ?_⟩
  · obtain ⟨i, rfl⟩ := h; rfl
  · obtain ⟨i, rfl⟩ := hp
    have fin : ∀ j : Int, 0 ≤ j → Ev K E0 (tLst (tCons (tOp (rI (fun x j => 0 < j) fun i j => V.int (i % j)) (tVar 0) (tC (V.int 1000000007))) (tCons (tVar 1) (tCons (tC (V.int 0)) tNil)))) [some (.int i), some (.int j)] w (endD postPool zN [D.int i] w).rt (endD postPool zN [D.int i] w).rz := fun j hj => by
      refine ev_lstOwn ?_
      walk_at "stn"
      exact fun p hp => ⟨p, hp, rfl, _, _, _, rfl, Int.emod_nonneg _ (by decide), Int.emod_lt_of_pos _ (by decide), hj⟩
    walk_at "stn"
    have abs0 : (0 : Int) ≤ (if i < 0 then -i else i) := by split <;> omega
    refine if_2 (fun e => if_t rfl ?_) (fun e => ?_)
    · walk_at "stn"
      exact fin _ abs0
    · walk_at "stn"
      refine if_2 (fun e2 => ?_) (fun e2 => ?_)
      · walk_at "stn"
        exact fin _ abs0
      · walk_at "stn"
        exact fin 0 (Int.le_refl 0)
end
end LW
set_option Elab.async false
set_option linter.all false
set_option autoImplicit false
set_option maxRecDepth 100000
set_option maxHeartbeats 4000000
namespace LW
open PySem PySem.Spec PyProof.Rows L2 DL
/-- one step of a reading on data -/
local macro_rules | `(tactic| walk_at "st") => `(tactic| first
  | with_reducible refine sd_seq ?_
  | with_reducible refine sd_ret ?_
  | with_reducible refine sd_asg ?_
  | with_reducible refine sd_if ?_
  | with_reducible refine sd_drop ?_
  | with_reducible refine sd_par ?_
  | with_reducible refine sd_nx ?_
  | with_reducible refine sd_retN ?_
  | with_reducible refine ev_op ?_
  | with_reducible refine ev_cint ?_
  | with_reducible refine ev_cstr ?_
  | with_reducible refine ev_cbl ?_
  | with_reducible refine ev_cnon ?_
  | with_reducible refine ev_cty ?_
  | refine ev_var (by exact rfl) ?_
  | with_reducible refine ev_cb ?_
  | with_reducible refine ea_cons ?_
  | with_reducible refine ea_nil ?_
  | with_reducible refine ev_tup ?_
  | with_reducible refine ev_un ?_
  | with_reducible refine o1_U ?_
  | with_reducible refine ev_andV ?_
  | with_reducible refine ev_orV ?_
  | with_reducible refine ev_notV ?_
  | with_reducible refine ev_if ?_
  | with_reducible refine et_B ?_
  | with_reducible refine et_test ?_
  | with_reducible refine et_not ?_
  | with_reducible refine et_and ?_
  | with_reducible refine et_or ?_
  | with_reducible refine et_tru ?_
  | with_reducible refine ev_bm0 ?_
  | with_reducible refine ev_bm ?_
  | with_reducible refine ev_chain ?_
  | with_reducible refine gd_name ?_
  | with_reducible refine gd_sub ?_
  | ((with_reducible refine isIxLo ?_); refine o2_ixLo (by first | assumption | exact put_same) (by exact rfl) ?_)
  | ((with_reducible refine isI ?_); refine o2_I (by first | (show (0 : Int) < _; decide) | exact ⟨by decide, by decide⟩ | exact ⟨by decide, by decide, by decide⟩ | exact ⟨by omega, by omega⟩ | exact Or.inl ⟨by omega, by omega⟩ | exact Or.inr ⟨by decide, by decide⟩ | exact Or.inr ⟨by omega, by omega⟩) ?_)
  | refine ⟨_, _, _, _, rfl, rfl, (by first | assumption | exact put_same), (by exact rfl), ?_⟩
  | ((with_reducible refine isTupO ?_); refine ol_tupO (by first | assumption | exact put_same) ?_)
  | ((with_reducible refine isTupBO ?_); refine ol_tupBO (by first | assumption | exact put_same) ?_)
  | with_reducible refine ol_abs ?_
  | with_reducible refine ol_max2 ?_
  | with_reducible refine ol_min2 ?_
  | with_reducible refine gs_nil ?_
  | with_reducible refine gs_cons ?_
  | with_reducible refine gd_tup rfl ?_
  | with_reducible refine o2_I0 ?_
  | with_reducible refine o2_B0 ?_
  | with_reducible refine o2_eqI ?_
  | with_reducible refine o2_neI ?_
  | with_reducible refine o2_eqS ?_
  | with_reducible refine o2_neS ?_
  | with_reducible refine o2_SS ?_
  | with_reducible refine o2_isB ?_
  | with_reducible refine o2_notB ?_
  | with_reducible refine om_S0 trivial ?_
  | with_reducible refine ol_isiInt (by first | assumption | rfl) ?_
  | with_reducible refine ol_isiBool (by first | assumption | rfl) ?_
  | with_reducible refine ol_isiStr (by first | assumption | rfl) ?_
  | with_reducible refine ol_isiTup (by first | assumption | rfl) ?_
  | refine Exists.intro _ (And.intro rfl ?_)
  | with_reducible refine And.intro ty_str ?_
  | ((with_reducible refine isIxT ?_); refine o2_ixT rfl ?_)
  | ((with_reducible refine isIxL ?_); refine o2_ixL rfl ?_)
  | with_reducible refine ev_f ?_
  | with_reducible refine ev_fk kg1_ok ?_
  | with_reducible refine ev_fk kgS_ok ?_
  | refine And.intro (by first | assumption | exact Nat.le_of_ble_eq_true rfl) ?_
  | with_reducible refine ev_sl ?_
  | with_reducible refine eo_none ?_
  | with_reducible refine eo_some ?_
  | with_reducible refine ol_lenS (by rw [sizeLine_eq]; omega) ?_
  | with_reducible refine os_str (by rw [sizeLine_eq]; omega) ?_
  | ((with_reducible refine isLenD ?_); refine ol_lenD (by first | assumption | exact put_same) ?_)
  | with_reducible refine sd_dput ?_
  | with_reducible refine ev_sortItems ?_
  | with_reducible refine ev_revT ?_
  | with_reducible refine ev_dget2 ?_
  | with_reducible refine ol_lenT ?_
  | with_reducible refine ol_lenL ?_
  | with_reducible refine ol_int1 ?_
  | with_reducible refine ol_tupL ?_
  | with_reducible refine ol_tupB ?_
  | with_reducible refine ev_tupB ?_
  | with_reducible refine ol_tupT ?_
  | with_reducible refine ol_lstL ?_
  | with_reducible refine ol_lstT ?_
  | with_reducible refine os_lst ?_
  | with_reducible refine os_tupA ?_
  | with_reducible refine os_tupB ?_)
local macro_rules | `(tactic| walk_at "stn") => `(tactic| repeat walk_at "st")
local macro_rules | `(tactic| walk_at "sts") => `(tactic| repeat first | walk_at "st" | with_reducible refine ev_lst ?_)

section
variable {P : Program} {wo : World} {K : PySem.W.Frag} {mg : Str → Option Value} {base : Heap}
abbrev s__law_draw : Stmt := top 36
theorem sc__law_draw : FnScope ["_law_pool_here", "_law_many", "_law_state", "_law_digit"] ["_law_pool_here", "_law_many"] (defScope s__law_draw) := ⟨rfl, rfl, rfl, by decide +kernel, rfl, by decide +kernel, by decide +kernel⟩
theorem bp__law_draw : BindP "_law_draw" s__law_draw ["_law_pool_here", "_law_many"] := fun _ _ _ _ _ _ us hl => match us, hl with | [_, _], _ => rfl

theorem ok__law_draw (T : Tx mg) (d : Dn K mg "_law_draw" s__law_draw) : Fk P wo K mg base CX0 1 "_law_draw" s__law_draw ["_law_pool_here", "_law_many"] (SpD K preDraw postDraw zN) := by
  refine fk_ok d sc__law_draw bp__law_draw (fun ds w h => ?_) fun f cdv A fr s H E hg hr => ⟨_, (pss_cons (ps_asg (pe_op op_add (pe_ix (qx_list (K := K) rfl) (pv 0) pe_int (fun _ _ => rfl)) pe_int) (pg_sub (pv 0) pe_int set_list)) (pss_cons (ps_set (i := 2) sc__law_draw.nd rfl (Or.inl rfl) (pe_ix (qx_list (K := K) rfl) (pv 0) pe_int (fun _ _ => rfl))) (pss_cons (ps_asg (pe_op op_mod (b_int T.b_int rfl (pa_cons (pe_op op_add (pe_op op_add (pe_op op_mul (pv 2) (pe_op op_add (pe_op op_mod (b_int T.b_int rfl (pa_cons (pv 2) pa_nil)) pe_int) pe_int)) (pe_op op_mul pe_int (pe_ix (qx_list (K := K) rfl) (pv 0) pe_int (fun _ _ => rfl)))) pe_int) pa_nil)) pe_int) (pg_sub (pv 0) pe_int set_list)) (pss_cons (ps_if (pt_cmpR op_gt (pe_ix (qx_list (K := K) rfl) (pv 0) pe_int (fun _ _ => rfl)) pe_int (nomark _)) (pss_cons (ps_asg (b_divmod T.b_divmod rfl (pa_cons (pe_ix (qx_list (K := K) rfl) (pv 0) pe_int (fun _ _ => rfl)) (pa_cons (pv 1) pa_nil))) (qg_tup (K := K) (n := 2) rfl rfl (pgs_cons (pg_sub (pv 0) pe_int set_list) (pgs_cons (pg_name (i := 3) sc__law_draw.nd rfl (Or.inl rfl) (hf := Or.inl rfl)) pgs_nil)) rfl)) (pss_one (ps_ret (pv 3)))) pss_nil) (pss_one (ps_ret (pe_op op_mod (pe_op op_fdiv (pe_ix (qx_list (K := K) rfl) (pv 0) pe_int (fun _ _ => rfl)) pe_int) (pv 1)))))))), fun ds w hp => ?_⟩
  · obtain ⟨p, n, rfl, _⟩ := h; rfl
  · obtain ⟨p, n, rfl, hn, hl, hP⟩ := hp
    obtain ⟨a, b, c, hw, ha, ha2, hb⟩ := hP.at
    walk_at "stn"
    have hA0 := Int.emod_nonneg (a * (a % 46007 + 20011) + 60013 * (c + 1) + 5) (b := 1000000007) (by decide)
    have hA1 := Int.emod_lt_of_pos (a * (a % 46007 + 20011) + 60013 * (c + 1) + 5) (b := 1000000007) (by decide)
    refine if_2 (fun e => ?_) (fun e => ?_)
    · walk_at "stn"
      refine ol_divmodW ⟨hn, PyProof.noPylong_of_log2 hl⟩ ?_
      walk_at "stn"
      intro p' n' e'
      cases e'
      exact ⟨⟨_, b / n, c + 1, by rw [put_put, put_put]; rfl, hA0, hA1, Int.ediv_nonneg hb (Int.le_of_lt hn)⟩, _, rfl, Int.emod_nonneg _ (Int.ne_of_gt hn), Int.emod_lt_of_pos _ hn⟩
    · walk_at "stn"
      refine o2_I hn ?_
      intro p' n' e'
      cases e'
      exact ⟨⟨_, b, c + 1, by rw [put_put]; rfl, hA0, hA1, hb⟩, _, rfl, Int.emod_nonneg _ (Int.ne_of_gt hn), Int.emod_lt_of_pos _ hn⟩
end
end LW
set_option Elab.async false
set_option linter.all false
set_option autoImplicit false
set_option maxRecDepth 100000
set_option maxHeartbeats 4000000
namespace LW
open PySem PySem.Spec PyProof.Rows L2 DL
/-- one step of a reading on data -/
local macro_rules | `(tactic| walk_at "st") => `(tactic| first
  | with_reducible refine sd_seq ?_
  | with_reducible refine sd_ret ?_
  | with_reducible refine sd_asg ?_
  | with_reducible refine sd_if ?_
  | with_reducible refine sd_drop ?_
  | with_reducible refine sd_par ?_
  | with_reducible refine sd_nx ?_
  | with_reducible refine sd_retN ?_
  | with_reducible refine ev_op ?_
  | with_reducible refine ev_cint ?_
  | with_reducible refine ev_cstr ?_
  | with_reducible refine ev_cbl ?_
  | with_reducible refine ev_cnon ?_
  | with_reducible refine ev_cty ?_
  | refine ev_var (by exact rfl) ?_
  | with_reducible refine ev_cb ?_
  | with_reducible refine ea_cons ?_
  | with_reducible refine ea_nil ?_
  | with_reducible refine ev_tup ?_
  | with_reducible refine ev_un ?_
  | with_reducible refine o1_U ?_
  | with_reducible refine ev_andV ?_
  | with_reducible refine ev_orV ?_
  | with_reducible refine ev_notV ?_
  | with_reducible refine ev_if ?_
  | with_reducible refine et_B ?_
  | with_reducible refine et_test ?_
  | with_reducible refine et_not ?_
  | with_reducible refine et_and ?_
  | with_reducible refine et_or ?_
  | with_reducible refine et_tru ?_
  | with_reducible refine ev_bm0 ?_
  | with_reducible refine ev_bm ?_
  | with_reducible refine ev_chain ?_
  | with_reducible refine gd_name ?_
  | with_reducible refine gd_sub ?_
  | ((with_reducible refine isIxLo ?_); refine o2_ixLo (by first | assumption | exact put_same) (by exact rfl) ?_)
  | ((with_reducible refine isI ?_); refine o2_I (by first | (show (0 : Int) < _; decide) | exact ⟨by decide, by decide⟩ | exact ⟨by decide, by decide, by decide⟩ | exact ⟨by omega, by omega⟩ | exact Or.inl ⟨by omega, by omega⟩ | exact Or.inr ⟨by decide, by decide⟩ | exact Or.inr ⟨by omega, by omega⟩) ?_)
  | refine ⟨_, _, _, _, rfl, rfl, (by first | assumption | exact put_same), (by exact rfl), ?_⟩
  | ((with_reducible refine isTupO ?_); refine ol_tupO (by first | assumption | exact put_same) ?_)
  | ((with_reducible refine isTupBO ?_); refine ol_tupBO (by first | assumption | exact put_same) ?_)
  | with_reducible refine ol_abs ?_
  | with_reducible refine ol_max2 ?_
  | with_reducible refine ol_min2 ?_
  | with_reducible refine gs_nil ?_
  | with_reducible refine gs_cons ?_
  | with_reducible refine gd_tup rfl ?_
  | with_reducible refine o2_I0 ?_
  | with_reducible refine o2_B0 ?_
  | with_reducible refine o2_eqI ?_
  | with_reducible refine o2_neI ?_
  | with_reducible refine o2_eqS ?_
  | with_reducible refine o2_neS ?_
  | with_reducible refine o2_SS ?_
  | with_reducible refine o2_isB ?_
  | with_reducible refine o2_notB ?_
  | with_reducible refine om_S0 trivial ?_
  | with_reducible refine ol_isiInt (by first | assumption | rfl) ?_
  | with_reducible refine ol_isiBool (by first | assumption | rfl) ?_
  | with_reducible refine ol_isiStr (by first | assumption | rfl) ?_
  | with_reducible refine ol_isiTup (by first | assumption | rfl) ?_
  | refine Exists.intro _ (And.intro rfl ?_)
  | with_reducible refine And.intro ty_str ?_
  | ((with_reducible refine isIxT ?_); refine o2_ixT rfl ?_)
  | ((with_reducible refine isIxL ?_); refine o2_ixL rfl ?_)
  | with_reducible refine ev_f ?_
  | with_reducible refine ev_fk kg1_ok ?_
  | with_reducible refine ev_fk kgS_ok ?_
  | refine And.intro (by first | assumption | exact Nat.le_of_ble_eq_true rfl) ?_
  | with_reducible refine ev_sl ?_
  | with_reducible refine eo_none ?_
  | with_reducible refine eo_some ?_
  | with_reducible refine ol_lenS (by rw [sizeLine_eq]; omega) ?_
  | with_reducible refine os_str (by rw [sizeLine_eq]; omega) ?_
  | ((with_reducible refine isLenD ?_); refine ol_lenD (by first | assumption | exact put_same) ?_)
  | with_reducible refine sd_dput ?_
  | with_reducible refine ev_sortItems ?_
  | with_reducible refine ev_revT ?_
  | with_reducible refine ev_dget2 ?_
  | with_reducible refine ol_lenT ?_
  | with_reducible refine ol_lenL ?_
  | with_reducible refine ol_int1 ?_
  | with_reducible refine ol_tupL ?_
  | with_reducible refine ol_tupB ?_
  | with_reducible refine ev_tupB ?_
  | with_reducible refine ol_tupT ?_
  | with_reducible refine ol_lstL ?_
  | with_reducible refine ol_lstT ?_
  | with_reducible refine os_lst ?_
  | with_reducible refine os_tupA ?_
  | with_reducible refine os_tupB ?_)
local macro_rules | `(tactic| walk_at "stn") => `(tactic| repeat walk_at "st")
local macro_rules | `(tactic| walk_at "sts") => `(tactic| repeat first | walk_at "st" | with_reducible refine ev_lst ?_)

section
variable {P : Program} {wo : World} {K : PySem.W.Frag} {mg : Str → Option Value} {base : Heap}
abbrev s__law_words : Stmt := top 37
theorem sc__law_words : FnScope ["_law_pool_here", "_law_many", "_law_letters", "_law_menu", "_law_way", "_law_begin", "_law_k", "_law_stem", "_law_at"] ["_law_pool_here", "_law_many"] (defScope s__law_words) := ⟨rfl, rfl, rfl, by decide +kernel, rfl, by decide +kernel, by decide +kernel⟩
theorem bp__law_words : BindP "_law_words" s__law_words ["_law_pool_here", "_law_many"] := fun _ _ _ _ _ _ us hl => match us, hl with | [_, _], _ => rfl

theorem ok__law_words (T : Tx mg) (d : Dn K mg "_law_words" s__law_words) (F__law_draw : Fk P wo K mg base CX0 1 "_law_draw" s__law_draw ["_law_pool_here", "_law_many"] (SpD K preDraw postDraw zN)) :
    Fk P wo K mg base CX0 2 "_law_words" s__law_words ["_law_pool_here", "_law_many"] (SpD K preWords postWords zN) := by
  refine fk_ok d sc__law_words bp__law_words (fun ds w h => ?_) fun f cdv A fr s H E hg hr => ⟨_, (pss_cons (ps_set (i := 2) sc__law_words.nd rfl (Or.inr rfl) pe_str) (pss_cons (ps_set (i := 3) sc__law_words.nd rfl (Or.inr rfl) (pe_lst (pa_cons pe_str (pa_cons pe_str (pa_cons pe_str (pa_cons pe_str (pa_cons pe_str (pa_cons pe_str (pa_cons pe_str (pa_cons pe_str (pa_cons pe_str (pa_cons pe_str (pa_cons pe_str (pa_cons pe_str (pa_cons pe_str (pa_cons pe_str (pa_cons pe_str pa_nil))))))))))))))))) (pss_cons (ps_asg (pe_tup (pa_cons (pe_f F__law_draw hg (hr.mono (by decide)) rfl pass0 (pa_cons (pv 0) (pa_cons pe_int pa_nil))) (pa_cons (pe_f F__law_draw hg (hr.mono (by decide)) rfl pass0 (pa_cons (pv 0) (pa_cons pe_int pa_nil))) pa_nil))) (qg_tup (K := K) (n := 2) rfl rfl (pgs_cons (pg_name (i := 4) sc__law_words.nd rfl (Or.inl rfl) (hf := Or.inl rfl)) (pgs_cons (pg_name (i := 5) sc__law_words.nd rfl (Or.inr rfl) (hf := Or.inl rfl)) pgs_nil)) rfl)) (pss_cons (ps_if (pt_cmpR op_eq (pv 4) pe_int (nomark _)) (pss_one (ps_ret (pe_lc (own := [("_law_k", 6)]) rfl sc__law_words.nd (pi_range1 rfl T.b_range (pa_cons (pv 1) pa_nil)) (blkOk_by (N := ["_law_pool_here", "_law_many", "_law_letters", "_law_menu", "_law_way", "_law_begin", "_law_k", "_law_stem", "_law_at"]) (sc := defScope s__law_words) (by decide +kernel)) (fun _ _ _ _ _ => (pg_name (i := 6) sc__law_words.nd rfl (Or.inl rfl) (hf := Or.inr rfl))) (fun _ _ _ _ _ => pts_nil) (fun _ _ _ _ _ => (pe_ix (qx_list (K := K) rfl) (pv 3) (pe_op op_mod (pe_op op_add (pv 5) (pe_op op_mul pe_int (pv 6))) pe_int) (fun _ _ => rfl)))))) pss_nil) (pss_cons (ps_if (pt_cmpR op_eq (pv 4) pe_int (nomark _)) (pss_one (ps_ret (pe_lc (own := [("_law_k", 6)]) rfl sc__law_words.nd (pi_range1 rfl T.b_range (pa_cons (pv 1) pa_nil)) (blkOk_by (N := ["_law_pool_here", "_law_many", "_law_letters", "_law_menu", "_law_way", "_law_begin", "_law_k", "_law_stem", "_law_at"]) (sc := defScope s__law_words) (by decide +kernel)) (fun _ _ _ _ _ => (pg_name (i := 6) sc__law_words.nd rfl (Or.inl rfl) (hf := Or.inr rfl))) (fun _ _ _ _ _ => pts_nil) (fun _ _ _ _ _ => (pe_op op_mulS (pe_ix ix_str (pv 2) (pe_op op_mod (pe_op op_add (pv 5) (pe_op op_mul pe_int (pv 6))) pe_int) (fun _ _ => rfl)) (pe_op op_add pe_int (pe_op op_mod (pv 6) pe_int))))))) pss_nil) (pss_cons (ps_set (i := 7) sc__law_words.nd rfl (Or.inr rfl) (q_join (K := K) rfl pe_str (pe_lc (own := [("_law_k", 6)]) rfl sc__law_words.nd (pi_range1 rfl T.b_range (pa_cons (pe_f F__law_draw hg (hr.mono (by decide)) rfl pass0 (pa_cons (pv 0) (pa_cons pe_int pa_nil))) pa_nil)) (blkOk_by (N := ["_law_pool_here", "_law_many", "_law_letters", "_law_menu", "_law_way", "_law_begin", "_law_k", "_law_stem", "_law_at"]) (sc := defScope s__law_words) (by decide +kernel)) (fun _ _ _ _ _ => (pg_name (i := 6) sc__law_words.nd rfl (Or.inl rfl) (hf := Or.inr rfl))) (fun _ _ _ _ _ => pts_nil) (fun _ _ _ _ _ => (pe_ix ix_str (pv 2) (pe_f F__law_draw hg (hr.mono (by decide)) rfl pass0 (pa_cons (pv 0) (pa_cons pe_int pa_nil))) (fun _ _ => rfl)))))) (pss_cons (ps_set (i := 8) sc__law_words.nd rfl (Or.inr rfl) (pe_f F__law_draw hg (hr.mono (by decide)) rfl pass0 (pa_cons (pv 0) (pa_cons (pe_op op_add (q_len (K := K) rfl T.b_len rfl (pa_cons (pv 7) pa_nil)) pe_int) pa_nil)))) (pss_one (ps_ret (pe_lc (own := [("_law_k", 6)]) rfl sc__law_words.nd (pi_range1 rfl T.b_range (pa_cons (pv 1) pa_nil)) (blkOk_by (N := ["_law_pool_here", "_law_many", "_law_letters", "_law_menu", "_law_way", "_law_begin", "_law_k", "_law_stem", "_law_at"]) (sc := defScope s__law_words) (by decide +kernel)) (fun _ _ _ _ _ => (pg_name (i := 6) sc__law_words.nd rfl (Or.inl rfl) (hf := Or.inr rfl))) (fun _ _ _ _ _ => pts_nil) (fun _ _ _ _ _ => (pe_op op_add_str (pe_op op_add_str (pe_slice sl_str (pv 7) po_none (po_some (pv 8))) (pe_ix ix_str (pv 2) (pe_op op_mod (pe_op op_add (pv 5) (pe_op op_mul pe_int (pv 6))) pe_int) (fun _ _ => rfl))) (pe_slice sl_str (pv 7) (po_some (pv 8)) po_none))))))))))))), fun ds w hp => ?_⟩
  · obtain ⟨p, n, rfl, _⟩ := h; rfl
  · obtain ⟨p, n, rfl, h0, h1, hP⟩ := hp
    walk_at "sts"
    refine ev_draw ?_
    walk_at "sts"
    refine ⟨p, 3, rfl, by decide, by decide +kernel, hP, fun w1 way hP1 hw0 hw1 => ?_⟩
    walk_at "sts"
    refine ev_draw ?_
    walk_at "sts"
    refine ⟨p, 15, rfl, by decide, by decide +kernel, hP1.self, fun w2 b hP2 hb0 hb1 => ?_⟩
    have hP02 : Pl w p w2 := hP1.trans hP2
    have hn : n.toNat ≤ 12 := by omega
    have fin : ∀ (w3 : Wl) (g : Nat → Str), Pl w p w3 → wordsOk ((List.range n.toNat).map g) → (endD postWords zN [D.ptr p, D.int n] w).rt (.lst ((rngD 0 n.toNat).map fun d => match d with | .int i => .str (g i.toNat) | _ => .non)) w3 := fun w3 g hp3 hw => by
      intro p' n' e'
      cases e'
      refine ⟨hp3, (List.range n.toNat).map g, ?_, by rw [List.length_map, List.length_range]; omega, hw⟩
      rw [rng_map, List.map_map]
      rfl
    walk_at "sts"
    refine if_2 (fun e => ?_) (fun e => ?_)
    · walk_at "sts"
      refine lc_map (gl_name (by decide)) (ei_rng1 ?_) (f := fun d => match d with | .int i => .str (menu.getD ((b + 4 * ((i.toNat : Nat) : Int)) % 15).toNat "") | _ => .non)
      walk_at "sts"
      refine ⟨⟨by omega, by omega⟩, by rw [rngD_len, sizeLine_eq]; omega, fun l c i d hl hd => ?_, fin w2 _ hP02 (words0 hb0 hb1 hn)⟩
      obtain ⟨rfl, hi⟩ := rngD_get hd
      rw [Int.zero_add]
      walk_at "sts"
      refine o2_ixL (menu_at (Int.emod_nonneg _ (by decide)) (Int.emod_lt_of_pos _ (by decide))) ?_
      exact ⟨rfl, rfl⟩
    · walk_at "sts"
      refine if_2 (fun e => ?_) (fun e => ?_)
      · walk_at "sts"
        refine lc_map (gl_name (by decide)) (ei_rng1 ?_) (f := fun d => match d with | .int i => .str (rep b i.toNat) | _ => .non)
        walk_at "sts"
        refine ⟨⟨by omega, by omega⟩, by rw [rngD_len, sizeLine_eq]; omega, fun l c i d hl hd => ?_, fin w2 _ hP02 (words1 hb0 hb1 hn)⟩
        obtain ⟨rfl, hi⟩ := rngD_get hd
        rw [Int.zero_add]
        walk_at "sts"
        refine o2_ixS (z := letters) (by rw [letters_len, sizeLine_eq]; omega) (letters_at (Int.emod_nonneg _ (by decide)) (Int.emod_lt_of_pos _ (by decide))) ?_
        walk_at "sts"
        have e8 : (1 + (i : Int) % 8).toNat = 1 + i % 8 := by omega
        refine o2_mulS (by omega) (by omega) (by rw [e8]; show 1 * _ ≤ 1000; omega) fun r hr => ⟨rfl, ?_⟩
        have er : r = rep b i := str_ext (by
          rw [hr, e8]
          show (List.replicate (1 + i % 8) [97 + ((b + 7 * (i : Int)) % 26).toNat]).flatten = _
          rw [flat_rep]
          rfl)
        rw [er]
        rfl
      · walk_at "sts"
        refine ev_m1 ?_
        walk_at "sts"
        refine ⟨⟨_, rfl⟩, ?_⟩
        refine lc_pool (p := p) (gl_name (by decide)) (ei_rng1 ?_) (R := fun _ _ y => ∃ c : Nat, (97 ≤ c ∧ c ≤ 122) ∧ y = .str ⟨#[c]⟩)
        walk_at "sts"
        refine ev_draw ?_
        walk_at "sts"
        refine ⟨p, 8, rfl, by decide, by decide +kernel, hP2.self, fun w3 m hP3 hm0 hm1 => ?_⟩
        walk_at "sts"
        refine ⟨⟨by omega, by omega⟩, by rw [rngD_len, sizeLine_eq]; omega, hP3.self, fun w4 i d hP4 hd => ?_, fun acc w4 hP4 hl hR => ?_⟩
        · obtain ⟨rfl, hi⟩ := rngD_get hd
          walk_at "sts"
          refine ev_draw ?_
          walk_at "sts"
          refine ⟨p, 26, rfl, by decide, by decide +kernel, hP4.self, fun w5 k hP5 hk0 hk1 => ?_⟩
          walk_at "sts"
          refine o2_ixS (z := letters) (by rw [letters_len, sizeLine_eq]; omega) (letters_at hk0 hk1) ?_
          exact ⟨hP4.trans hP5, _, ⟨by omega, by omega⟩, rfl⟩
        · rw [rngD_len] at hl
          obtain ⟨ys, rfl, g1, g2, g3, g4⟩ := stem_of (acc := acc) fun y hy => by
            obtain ⟨i, hi, e⟩ := List.mem_iff_getElem.mp hy
            have hi' : i < (rngD 0 m.toNat).length := by rw [rngD_len]; omega
            exact hR i _ y (List.getElem?_eq_getElem hi') (e ▸ List.getElem?_eq_getElem hi)
          refine om_join (by rw [g1, g4, hl]; show _ + _ * 0 ≤ _; omega) ?_
          walk_at "sts"
          refine ev_draw ?_
          walk_at "sts"
          rw [List.length_map] at g1 g3 hl
          refine ⟨p, (Txt.join ("" : Str) ys).length + 1, rfl, by omega, log2_small (by omega) (by omega), hP4.self, fun w5 k hP5 hk0 hk1 => ?_⟩
          obtain ⟨kn, rfl⟩ := Int.eq_ofNat_of_zero_le hk0
          have hkn : kn ≤ (Txt.join ("" : Str) ys).length := by omega
          have ct := cut_to hkn
          have cf := cut_from hkn
          have lt : (cutS (Txt.join ("" : Str) ys) none (some (kn : Int))).length ≤ 7 := by rw [len_toList, ct, List.length_take, ← len_toList]; omega
          have lf : (cutS (Txt.join ("" : Str) ys) (some (kn : Int)) none).length ≤ 7 := by rw [len_toList, cf, List.length_drop, ← len_toList]; omega
          walk_at "sts"
          have hp5 : Pl w p w5 := hP02.trans (hP3.trans (hP4.trans hP5))
          refine lc_map (gl_name (by decide)) (ei_rng1 ?_) (f := fun d => match d with | .int i => .str (stemW (Txt.join ("" : Str) ys).cps.toList kn b i.toNat) | _ => .non)
          walk_at "sts"
          refine ⟨⟨by omega, by omega⟩, by rw [rngD_len, sizeLine_eq]; omega, fun l c i d hl hd => ?_, fin w5 _ hp5 (words2 g2 (by rw [← len_toList]; omega) (by rw [← len_toList]; omega) hb0 hb1 hn)⟩
          obtain ⟨rfl, hi⟩ := rngD_get hd
          rw [Int.zero_add]
          walk_at "sts"
          refine o2_ixS (z := letters) (by rw [letters_len, sizeLine_eq]; omega) (letters_at (Int.emod_nonneg _ (by decide)) (Int.emod_lt_of_pos _ (by decide))) ?_
          refine o2_catS (by rw [sizeLine_eq]; show _ + 1 ≤ _; omega) ?_
          walk_at "sts"
          refine o2_catS (by rw [sizeLine_eq, app_len]; show _ + 1 + _ ≤ _; omega) ⟨rfl, ?_⟩
          refine congrArg D.str (str_ext ?_)
          rw [app_list, app_list, ct, cf]
          show _ = (stemW _ _ _ _).cps.toList
          show _ = List.take _ _ ++ _ :: List.drop _ _
          rw [List.append_assoc]
          rfl
end
end LW
set_option Elab.async false
set_option linter.all false
set_option autoImplicit false
set_option maxRecDepth 100000
set_option maxHeartbeats 4000000
namespace LW
open PySem PySem.Spec PyProof.Rows L2 DL
/-- one step of a reading on data -/
local macro_rules | `(tactic| walk_at "st") => `(tactic| first
  | with_reducible refine sd_seq ?_
  | with_reducible refine sd_ret ?_
  | with_reducible refine sd_asg ?_
  | with_reducible refine sd_if ?_
  | with_reducible refine sd_drop ?_
  | with_reducible refine sd_par ?_
  | with_reducible refine sd_nx ?_
  | with_reducible refine sd_retN ?_
  | with_reducible refine ev_op ?_
  | with_reducible refine ev_cint ?_
  | with_reducible refine ev_cstr ?_
  | with_reducible refine ev_cbl ?_
  | with_reducible refine ev_cnon ?_
  | with_reducible refine ev_cty ?_
  | refine ev_var (by exact rfl) ?_
  | with_reducible refine ev_cb ?_
  | with_reducible refine ea_cons ?_
  | with_reducible refine ea_nil ?_
  | with_reducible refine ev_tup ?_
  | with_reducible refine ev_un ?_
  | with_reducible refine o1_U ?_
  | with_reducible refine ev_andV ?_
  | with_reducible refine ev_orV ?_
  | with_reducible refine ev_notV ?_
  | with_reducible refine ev_if ?_
  | with_reducible refine et_B ?_
  | with_reducible refine et_test ?_
  | with_reducible refine et_not ?_
  | with_reducible refine et_and ?_
  | with_reducible refine et_or ?_
  | with_reducible refine et_tru ?_
  | with_reducible refine ev_bm0 ?_
  | with_reducible refine ev_bm ?_
  | with_reducible refine ev_chain ?_
  | with_reducible refine gd_name ?_
  | with_reducible refine gd_sub ?_
  | ((with_reducible refine isIxLo ?_); refine o2_ixLo (by first | assumption | exact put_same) (by exact rfl) ?_)
  | ((with_reducible refine isI ?_); refine o2_I (by first | (show (0 : Int) < _; decide) | exact ⟨by decide, by decide⟩ | exact ⟨by decide, by decide, by decide⟩ | exact ⟨by omega, by omega⟩ | exact Or.inl ⟨by omega, by omega⟩ | exact Or.inr ⟨by decide, by decide⟩ | exact Or.inr ⟨by omega, by omega⟩) ?_)
  | refine ⟨_, _, _, _, rfl, rfl, (by first | assumption | exact put_same), (by exact rfl), ?_⟩
  | ((with_reducible refine isTupO ?_); refine ol_tupO (by first | assumption | exact put_same) ?_)
  | ((with_reducible refine isTupBO ?_); refine ol_tupBO (by first | assumption | exact put_same) ?_)
  | with_reducible refine ol_abs ?_
  | with_reducible refine ol_max2 ?_
  | with_reducible refine ol_min2 ?_
  | with_reducible refine gs_nil ?_
  | with_reducible refine gs_cons ?_
  | with_reducible refine gd_tup rfl ?_
  | with_reducible refine o2_I0 ?_
  | with_reducible refine o2_B0 ?_
  | with_reducible refine o2_eqI ?_
  | with_reducible refine o2_neI ?_
  | with_reducible refine o2_eqS ?_
  | with_reducible refine o2_neS ?_
  | with_reducible refine o2_SS ?_
  | with_reducible refine o2_isB ?_
  | with_reducible refine o2_notB ?_
  | with_reducible refine om_S0 trivial ?_
  | with_reducible refine ol_isiInt (by first | assumption | rfl) ?_
  | with_reducible refine ol_isiBool (by first | assumption | rfl) ?_
  | with_reducible refine ol_isiStr (by first | assumption | rfl) ?_
  | with_reducible refine ol_isiTup (by first | assumption | rfl) ?_
  | refine Exists.intro _ (And.intro rfl ?_)
  | with_reducible refine And.intro ty_str ?_
  | ((with_reducible refine isIxT ?_); refine o2_ixT rfl ?_)
  | ((with_reducible refine isIxL ?_); refine o2_ixL rfl ?_)
  | with_reducible refine ev_f ?_
  | with_reducible refine ev_fk kg1_ok ?_
  | with_reducible refine ev_fk kgS_ok ?_
  | refine And.intro (by first | assumption | exact Nat.le_of_ble_eq_true rfl) ?_
  | with_reducible refine ev_sl ?_
  | with_reducible refine eo_none ?_
  | with_reducible refine eo_some ?_
  | with_reducible refine ol_lenS (by rw [sizeLine_eq]; omega) ?_
  | with_reducible refine os_str (by rw [sizeLine_eq]; omega) ?_
  | ((with_reducible refine isLenD ?_); refine ol_lenD (by first | assumption | exact put_same) ?_)
  | with_reducible refine sd_dput ?_
  | with_reducible refine ev_sortItems ?_
  | with_reducible refine ev_revT ?_
  | with_reducible refine ev_dget2 ?_
  | with_reducible refine ol_lenT ?_
  | with_reducible refine ol_lenL ?_
  | with_reducible refine ol_int1 ?_
  | with_reducible refine ol_tupL ?_
  | with_reducible refine ol_tupB ?_
  | with_reducible refine ev_tupB ?_
  | with_reducible refine ol_tupT ?_
  | with_reducible refine ol_lstL ?_
  | with_reducible refine ol_lstT ?_
  | with_reducible refine os_lst ?_
  | with_reducible refine os_tupA ?_
  | with_reducible refine os_tupB ?_)
local macro_rules | `(tactic| walk_at "stn") => `(tactic| repeat walk_at "st")
local macro_rules | `(tactic| walk_at "sts") => `(tactic| repeat first | walk_at "st" | with_reducible refine ev_lst ?_)

section
variable {P : Program} {wo : World} {K : PySem.W.Frag} {mg : Str → Option Value} {base : Heap}
abbrev s__law_often : Stmt := top 38
theorem sc__law_often : FnScope ["_law_pool_here", "_law_way"] ["_law_pool_here"] (defScope s__law_often) := ⟨rfl, rfl, rfl, by decide +kernel, rfl, by decide +kernel, by decide +kernel⟩
theorem bp__law_often : BindP "_law_often" s__law_often ["_law_pool_here"] := fun _ _ _ _ _ _ us hl => match us, hl with | [_], _ => rfl

theorem ok__law_often (T : Tx mg) (d : Dn K mg "_law_often" s__law_often) (F__law_draw : Fk P wo K mg base CX0 1 "_law_draw" s__law_draw ["_law_pool_here", "_law_many"] (SpD K preDraw postDraw zN)) :
    Fk P wo K mg base CX0 2 "_law_often" s__law_often ["_law_pool_here"] (SpD K preP1 postOften zN) := by
  refine fk_ok d sc__law_often bp__law_often (fun ds w h => ?_) fun f cdv A fr s H E hg hr => ⟨_, (pss_cons (ps_set (i := 1) sc__law_often.nd rfl (Or.inl rfl) (pe_f F__law_draw hg (hr.mono (by decide)) rfl pass0 (pa_cons (pv 0) (pa_cons pe_int pa_nil)))) (pss_one (ps_ret (pe_ix (qx_list (K := K) rfl) (pe_lst (pa_cons pe_int (pa_cons pe_int (pa_cons pe_int (pa_cons (pe_op op_add pe_int (pe_f F__law_draw hg (hr.mono (by decide)) rfl pass0 (pa_cons (pv 0) (pa_cons pe_int pa_nil)))) (pa_cons (pe_op op_add pe_int (pe_f F__law_draw hg (hr.mono (by decide)) rfl pass0 (pa_cons (pv 0) (pa_cons (pe_op op_pow pe_int pe_int) pa_nil)))) (pa_cons (pe_op op_pow pe_int pe_int) pa_nil))))))) (pv 1) (fun _ _ => rfl))))), fun ds w hp => ?_⟩
  · obtain ⟨p, rfl, _⟩ := h; rfl
  · obtain ⟨p, rfl, hP⟩ := hp
    walk_at "sts"
    refine ev_draw ?_
    walk_at "sts"
    refine ⟨p, 6, rfl, by decide, by decide +kernel, hP, fun w1 way hP1 hw0 hw1 => ?_⟩
    walk_at "sts"
    refine ev_draw ?_
    walk_at "sts"
    refine ⟨p, 30, rfl, by decide, by decide +kernel, hP1.self, fun w2 a hP2 ha0 ha1 => ?_⟩
    walk_at "sts"
    refine ev_draw ?_
    walk_at "sts"
    refine ⟨p, 10 ^ 30, rfl, by decide +kernel, by decide +kernel, hP2.self, fun w3 b hP3 hb0 hb1 => ?_⟩
    walk_at "sts"
    have fin : ∀ k : Int, 1 ≤ k ∧ k ≤ 10 ^ 30 → (endD postOften zN [D.ptr p] w).rt (.int k) w3 := fun k hk p' e' => by
      cases e'
      exact ⟨hP1.trans (hP2.trans hP3), k, rfl, hk⟩
    have p30 : (100 : Int) ≤ 10 ^ 30 := by decide +kernel
    have hw : way = 0 ∨ way = 1 ∨ way = 2 ∨ way = 3 ∨ way = 4 ∨ way = 5 := by omega
    rcases hw with rfl | rfl | rfl | rfl | rfl | rfl
    all_goals refine o2_ixL (by exact rfl) (fin _ ?_)
    · exact ⟨by decide, by omega⟩
    · exact ⟨by decide, by omega⟩
    · exact ⟨by decide, by omega⟩
    · exact ⟨by omega, by omega⟩
    · exact ⟨by omega, by omega⟩
    · exact ⟨by decide +kernel, Int.le_refl _⟩
end
end LW
set_option Elab.async false
set_option linter.all false
set_option autoImplicit false
set_option maxRecDepth 100000
set_option maxHeartbeats 4000000
namespace LW
open PySem PySem.Spec PyProof.Rows L2 DL
/-- one step of a reading on data -/
local macro_rules | `(tactic| walk_at "st") => `(tactic| first
  | with_reducible refine sd_seq ?_
  | with_reducible refine sd_ret ?_
  | with_reducible refine sd_asg ?_
  | with_reducible refine sd_if ?_
  | with_reducible refine sd_drop ?_
  | with_reducible refine sd_par ?_
  | with_reducible refine sd_nx ?_
  | with_reducible refine sd_retN ?_
  | with_reducible refine ev_op ?_
  | with_reducible refine ev_cint ?_
  | with_reducible refine ev_cstr ?_
  | with_reducible refine ev_cbl ?_
  | with_reducible refine ev_cnon ?_
  | with_reducible refine ev_cty ?_
  | refine ev_var (by exact rfl) ?_
  | with_reducible refine ev_cb ?_
  | with_reducible refine ea_cons ?_
  | with_reducible refine ea_nil ?_
  | with_reducible refine ev_tup ?_
  | with_reducible refine ev_un ?_
  | with_reducible refine o1_U ?_
  | with_reducible refine ev_andV ?_
  | with_reducible refine ev_orV ?_
  | with_reducible refine ev_notV ?_
  | with_reducible refine ev_if ?_
  | with_reducible refine et_B ?_
  | with_reducible refine et_test ?_
  | with_reducible refine et_not ?_
  | with_reducible refine et_and ?_
  | with_reducible refine et_or ?_
  | with_reducible refine et_tru ?_
  | with_reducible refine ev_bm0 ?_
  | with_reducible refine ev_bm ?_
  | with_reducible refine ev_chain ?_
  | with_reducible refine gd_name ?_
  | with_reducible refine gd_sub ?_
  | ((with_reducible refine isIxLo ?_); refine o2_ixLo (by first | assumption | exact put_same) (by exact rfl) ?_)
  | ((with_reducible refine isI ?_); refine o2_I (by first | (show (0 : Int) < _; decide) | exact ⟨by decide, by decide⟩ | exact ⟨by decide, by decide, by decide⟩ | exact ⟨by omega, by omega⟩ | exact Or.inl ⟨by omega, by omega⟩ | exact Or.inr ⟨by decide, by decide⟩ | exact Or.inr ⟨by omega, by omega⟩) ?_)
  | refine ⟨_, _, _, _, rfl, rfl, (by first | assumption | exact put_same), (by exact rfl), ?_⟩
  | ((with_reducible refine isTupO ?_); refine ol_tupO (by first | assumption | exact put_same) ?_)
  | ((with_reducible refine isTupBO ?_); refine ol_tupBO (by first | assumption | exact put_same) ?_)
  | with_reducible refine ol_abs ?_
  | with_reducible refine ol_max2 ?_
  | with_reducible refine ol_min2 ?_
  | with_reducible refine gs_nil ?_
  | with_reducible refine gs_cons ?_
  | with_reducible refine gd_tup rfl ?_
  | with_reducible refine o2_I0 ?_
  | with_reducible refine o2_B0 ?_
  | with_reducible refine o2_eqI ?_
  | with_reducible refine o2_neI ?_
  | with_reducible refine o2_eqS ?_
  | with_reducible refine o2_neS ?_
  | with_reducible refine o2_SS ?_
  | with_reducible refine o2_isB ?_
  | with_reducible refine o2_notB ?_
  | with_reducible refine om_S0 trivial ?_
  | with_reducible refine ol_isiInt (by first | assumption | rfl) ?_
  | with_reducible refine ol_isiBool (by first | assumption | rfl) ?_
  | with_reducible refine ol_isiStr (by first | assumption | rfl) ?_
  | with_reducible refine ol_isiTup (by first | assumption | rfl) ?_
  | refine Exists.intro _ (And.intro rfl ?_)
  | with_reducible refine And.intro ty_str ?_
  | ((with_reducible refine isIxT ?_); refine o2_ixT rfl ?_)
  | ((with_reducible refine isIxL ?_); refine o2_ixL rfl ?_)
  | with_reducible refine ev_f ?_
  | with_reducible refine ev_fk kg1_ok ?_
  | with_reducible refine ev_fk kgS_ok ?_
  | refine And.intro (by first | assumption | exact Nat.le_of_ble_eq_true rfl) ?_
  | with_reducible refine ev_sl ?_
  | with_reducible refine eo_none ?_
  | with_reducible refine eo_some ?_
  | with_reducible refine ol_lenS (by rw [sizeLine_eq]; omega) ?_
  | with_reducible refine os_str (by rw [sizeLine_eq]; omega) ?_
  | ((with_reducible refine isLenD ?_); refine ol_lenD (by first | assumption | exact put_same) ?_)
  | with_reducible refine sd_dput ?_
  | with_reducible refine ev_sortItems ?_
  | with_reducible refine ev_revT ?_
  | with_reducible refine ev_dget2 ?_
  | with_reducible refine ol_lenT ?_
  | with_reducible refine ol_lenL ?_
  | with_reducible refine ol_int1 ?_
  | with_reducible refine ol_tupL ?_
  | with_reducible refine ol_tupB ?_
  | with_reducible refine ev_tupB ?_
  | with_reducible refine ol_tupT ?_
  | with_reducible refine ol_lstL ?_
  | with_reducible refine ol_lstT ?_
  | with_reducible refine os_lst ?_
  | with_reducible refine os_tupA ?_
  | with_reducible refine os_tupB ?_)
local macro_rules | `(tactic| walk_at "stn") => `(tactic| repeat walk_at "st")
local macro_rules | `(tactic| walk_at "sts") => `(tactic| repeat first | walk_at "st" | with_reducible refine ev_lst ?_)

section
variable {P : Program} {wo : World} {K : PySem.W.Frag} {mg : Str → Option Value} {base : Heap}
abbrev s__law_bag : Stmt := top 39
theorem sc__law_bag : FnScope ["_law_pool_here", "_law_words_here", "_law_most", "_law_found", "_law_word"] ["_law_pool_here", "_law_words_here", "_law_most"] (defScope s__law_bag) := ⟨rfl, rfl, rfl, by decide +kernel, rfl, by decide +kernel, by decide +kernel⟩
theorem bp__law_bag : BindP "_law_bag" s__law_bag ["_law_pool_here", "_law_words_here", "_law_most"] := fun _ _ _ _ _ _ us hl => match us, hl with | [_, _, _], _ => rfl

theorem ok__law_bag (T : Tx mg) (d : Dn K mg "_law_bag" s__law_bag) (F__law_draw : Fk P wo K mg base CX0 1 "_law_draw" s__law_draw ["_law_pool_here", "_law_many"] (SpD K preDraw postDraw zN))
    (F__law_often : Fk P wo K mg base CX0 2 "_law_often" s__law_often ["_law_pool_here"] (SpD K preP1 postOften zN)) :
    Fk P wo K mg base CX0 3 "_law_bag" s__law_bag ["_law_pool_here", "_law_words_here", "_law_most"] (SpD K preBag postBagB zN) := by
  refine fk_ok d sc__law_bag bp__law_bag (fun ds w h => ?_) fun f cdv A fr s H E hg hr => ⟨_, (pss_cons (ps_set (i := 3) sc__law_bag.nd rfl (Or.inl rfl) (pe_lst pa_nil)) (pss_cons (ps_for PassesOwn.never rfl (qi_list (K := K) rfl (q_sortedS (K := K) rfl T.b_sorted rfl (pa_cons (pv 1) pa_nil))) (pg_name (i := 4) sc__law_bag.nd rfl (Or.inl rfl) (hf := Or.inl rfl)) (pss_one (ps_if (pt_cmpR op_gt (pe_f F__law_draw hg (hr.mono (by decide)) rfl pass0 (pa_cons (pv 0) (pa_cons pe_int pa_nil))) pe_int (nomark _)) (pss_one (ps_expr (q_bm (K := K) rfl PySem.F.plainAttrs_list PySem.F.slot_list_append PySem.F.type_list_append mt_append (pv 3) (pa_cons (pe_tup (pa_cons (pv 4) (pa_cons (pe_ifExp (pt_cmpR op_eq (pv 2) pe_int (nomark _)) (pe_f F__law_often hg (hr.mono (by decide)) rfl pass0 (pa_cons (pv 0) pa_nil)) (pe_op op_add pe_int (pe_f F__law_draw hg (hr.mono (by decide)) rfl pass0 (pa_cons (pv 0) (pa_cons (pv 2) pa_nil))))) pa_nil))) pa_nil)))) pss_nil))) (pss_one (ps_ret (q_tupleB (K := K) rfl T.b_tuple rfl (pa_cons (pv 3) pa_nil)))))), fun ds w hp => ?_⟩
  · obtain ⟨p, xs, m, rfl, _⟩ := h; rfl
  · obtain ⟨p, xs, m, rfl, hx, hl, hm0, hm1, hP⟩ := hp
    walk_at "stn"
    refine ev_lstOwn ?_
    walk_at "stn"
    intro q hq
    have nqp : q ≠ p := by
      rintro rfl
      obtain ⟨a, b, c, e, _⟩ := hP.at
      rw [hq] at e; cases e
    walk_at "stn"
    refine sd_for (ei_lst ?_)
    walk_at "stn"
    refine ol_sortedS (by omega) fun ys hperm hsort => ?_
    walk_at "stn"
    have hyl : ys.length ≤ 12 := by rw [hperm.length_eq]; exact hl
    have hya : asc ys := asc_of_sorted hsort (hperm.nodup_iff.mpr hx.2)
    refine ⟨fun i δ' w' => ∃ (prs : List (Str × Int)) (x : Option D), δ' = [some (.ptr p), some (.lst (xs.map D.str)), some (.int m), some (.ptr q), x] ∧ (prs.map (·.1)).Sublist (ys.take i) ∧ (∀ pr ∈ prs, nameS pr.1 = true ∧ 1 ≤ pr.2 ∧ pr.2 ≤ 10 ^ 30) ∧ Pm w p w' ∧ w' q = some (.lst (prs.map prD)), ⟨[], _, rfl, List.Sublist.refl _, fun _ h => (nomatch h), (Pm.of hP).put nqp hq, put_same⟩, ?_, ?_⟩
    · rintro i e δ' w' he ⟨prs, x, rfl, hsub, hpr, hw, hwq⟩
      rw [List.getElem?_map] at he
      obtain ⟨y, hy, rfl⟩ := Option.map_eq_some_iff.mp he
      have hy1 : i < ys.length := (List.getElem?_eq_some_iff.mp hy).1
      have htk : ys.take (i + 1) = ys.take i ++ [y] := by rw [List.take_succ, hy]; rfl
      have hlen : prs.length ≤ 12 := by
        have := hsub.length_le
        rw [List.length_map, List.length_take] at this
        omega
      have hyn : nameS y = true := hx.1 y (hperm.subset (List.mem_of_getElem? hy))
      walk_at "stn"
      refine ev_draw ?_
      walk_at "stn"
      refine ⟨p, 4, rfl, by decide, by decide +kernel, hw.1, fun w1 k hP1 hk0 hk1 => ?_⟩
      walk_at "stn"
      refine if_2 (fun e1 => ?_) (fun e1 => ?_)
      · walk_at "stn"
        refine ⟨ty_lstO (by rw [hP1.ne nqp]; exact hwq), ?_⟩
        walk_at "stn"
        have app : ∀ (w2 : Wl) (c : Int), 1 ≤ c → c ≤ 10 ^ 30 → Pl w1 p w2 → OpM K rAppend (.ptr q) [.tup [.str y, .int c]] w2 fun _ w3 => ∃ (prs : List (Str × Int)) (x : Option D), [some (D.ptr p), some (.lst (xs.map D.str)), some (.int m), some (.ptr q), some (.str y)] = [some (D.ptr p), some (.lst (xs.map D.str)), some (.int m), some (.ptr q), x] ∧ (prs.map (·.1)).Sublist (ys.take (i + 1)) ∧ (∀ pr ∈ prs, nameS pr.1 = true ∧ 1 ≤ pr.2 ∧ pr.2 ≤ 10 ^ 30) ∧ Pm w p w3 ∧ w3 q = some (.lst (prs.map prD)) := fun w2 c hc0 hc1 hP2 => by
          have hq2 : w2 q = some (.lst (prs.map prD)) := by rw [hP2.ne nqp, hP1.ne nqp]; exact hwq
          refine om_app hq2 (by rw [List.length_map, sizeLine_eq]; omega) ?_
          refine ⟨prs ++ [(y, c)], _, rfl, ?_, ?_, (hw.trans ((Pm.of hP1).trans (Pm.of hP2))).put nqp hq, by rw [List.map_append]; exact put_same⟩
          · rw [htk, List.map_append]
            exact hsub.append (List.Sublist.refl _)
          · intro pr h
            rcases List.mem_append.mp h with h | h
            · exact hpr pr h
            · rw [List.mem_singleton.mp h]
              exact ⟨hyn, hc0, hc1⟩
        refine if_2 (fun e2 => ?_) (fun e2 => ?_)
        · refine ev_often ?_
          walk_at "stn"
          refine ⟨hP1.self, fun w2 c hP2 hc0 hc1 => ?_⟩
          walk_at "stn"
          exact app w2 c hc0 hc1 hP2
        · walk_at "stn"
          refine ev_draw ?_
          walk_at "stn"
          have hm2 : 0 < m := by
            have := of_decide_eq_false e2
            omega
          refine ⟨p, m, rfl, hm2, log2_le30 hm0 hm1, hP1.self, fun w2 c hP2 hc0 hc1 => ?_⟩
          walk_at "stn"
          exact app w2 (1 + c) (by omega) (by omega) hP2
      · walk_at "stn"
        exact ⟨prs, _, rfl, hsub.trans (List.take_sublist_take_left (Nat.le_succ i)), hpr, hw.trans (Pm.of hP1), by rw [hP1.ne nqp]; exact hwq⟩
    · rintro δ' w' ⟨prs, x, rfl, hsub, hpr, hw, hwq⟩
      walk_at "stn"
      rw [List.length_map, List.take_length] at hsub
      intro p' xs' m' e'
      cases e'
      refine ⟨hw, prs, rfl, List.Pairwise.sublist hsub hya, hpr, ?_⟩
      have := hsub.length_le
      rw [List.length_map, hperm.length_eq] at this
      rw [List.length_map]
      exact this
end
end LW
set_option Elab.async false
set_option linter.all false
set_option autoImplicit false
set_option maxRecDepth 100000
set_option maxHeartbeats 4000000
namespace LW
open PySem PySem.Spec PyProof.Rows L2 DL
/-- one step of a reading on data -/
local macro_rules | `(tactic| walk_at "st") => `(tactic| first
  | with_reducible refine sd_seq ?_
  | with_reducible refine sd_ret ?_
  | with_reducible refine sd_asg ?_
  | with_reducible refine sd_if ?_
  | with_reducible refine sd_drop ?_
  | with_reducible refine sd_par ?_
  | with_reducible refine sd_nx ?_
  | with_reducible refine sd_retN ?_
  | with_reducible refine ev_op ?_
  | with_reducible refine ev_cint ?_
  | with_reducible refine ev_cstr ?_
  | with_reducible refine ev_cbl ?_
  | with_reducible refine ev_cnon ?_
  | with_reducible refine ev_cty ?_
  | refine ev_var (by exact rfl) ?_
  | with_reducible refine ev_cb ?_
  | with_reducible refine ea_cons ?_
  | with_reducible refine ea_nil ?_
  | with_reducible refine ev_tup ?_
  | with_reducible refine ev_un ?_
  | with_reducible refine o1_U ?_
  | with_reducible refine ev_andV ?_
  | with_reducible refine ev_orV ?_
  | with_reducible refine ev_notV ?_
  | with_reducible refine ev_if ?_
  | with_reducible refine et_B ?_
  | with_reducible refine et_test ?_
  | with_reducible refine et_not ?_
  | with_reducible refine et_and ?_
  | with_reducible refine et_or ?_
  | with_reducible refine et_tru ?_
  | with_reducible refine ev_bm0 ?_
  | with_reducible refine ev_bm ?_
  | with_reducible refine ev_chain ?_
  | with_reducible refine gd_name ?_
  | with_reducible refine gd_sub ?_
  | ((with_reducible refine isIxLo ?_); refine o2_ixLo (by first | assumption | exact put_same) (by exact rfl) ?_)
  | ((with_reducible refine isI ?_); refine o2_I (by first | (show (0 : Int) < _; decide) | exact ⟨by decide, by decide⟩ | exact ⟨by decide, by decide, by decide⟩ | exact ⟨by omega, by omega⟩ | exact Or.inl ⟨by omega, by omega⟩ | exact Or.inr ⟨by decide, by decide⟩ | exact Or.inr ⟨by omega, by omega⟩) ?_)
  | refine ⟨_, _, _, _, rfl, rfl, (by first | assumption | exact put_same), (by exact rfl), ?_⟩
  | ((with_reducible refine isTupO ?_); refine ol_tupO (by first | assumption | exact put_same) ?_)
  | ((with_reducible refine isTupBO ?_); refine ol_tupBO (by first | assumption | exact put_same) ?_)
  | with_reducible refine ol_abs ?_
  | with_reducible refine ol_max2 ?_
  | with_reducible refine ol_min2 ?_
  | with_reducible refine gs_nil ?_
  | with_reducible refine gs_cons ?_
  | with_reducible refine gd_tup rfl ?_
  | with_reducible refine o2_I0 ?_
  | with_reducible refine o2_B0 ?_
  | with_reducible refine o2_eqI ?_
  | with_reducible refine o2_neI ?_
  | with_reducible refine o2_eqS ?_
  | with_reducible refine o2_neS ?_
  | with_reducible refine o2_SS ?_
  | with_reducible refine o2_isB ?_
  | with_reducible refine o2_notB ?_
  | with_reducible refine om_S0 trivial ?_
  | with_reducible refine ol_isiInt (by first | assumption | rfl) ?_
  | with_reducible refine ol_isiBool (by first | assumption | rfl) ?_
  | with_reducible refine ol_isiStr (by first | assumption | rfl) ?_
  | with_reducible refine ol_isiTup (by first | assumption | rfl) ?_
  | refine Exists.intro _ (And.intro rfl ?_)
  | with_reducible refine And.intro ty_str ?_
  | ((with_reducible refine isIxT ?_); refine o2_ixT rfl ?_)
  | ((with_reducible refine isIxL ?_); refine o2_ixL rfl ?_)
  | with_reducible refine ev_f ?_
  | with_reducible refine ev_fk kg1_ok ?_
  | with_reducible refine ev_fk kgS_ok ?_
  | refine And.intro (by first | assumption | exact Nat.le_of_ble_eq_true rfl) ?_
  | with_reducible refine ev_sl ?_
  | with_reducible refine eo_none ?_
  | with_reducible refine eo_some ?_
  | with_reducible refine ol_lenS (by rw [sizeLine_eq]; omega) ?_
  | with_reducible refine os_str (by rw [sizeLine_eq]; omega) ?_
  | ((with_reducible refine isLenD ?_); refine ol_lenD (by first | assumption | exact put_same) ?_)
  | with_reducible refine sd_dput ?_
  | with_reducible refine ev_sortItems ?_
  | with_reducible refine ev_revT ?_
  | with_reducible refine ev_dget2 ?_
  | with_reducible refine ol_lenT ?_
  | with_reducible refine ol_lenL ?_
  | with_reducible refine ol_int1 ?_
  | with_reducible refine ol_tupL ?_
  | with_reducible refine ol_tupB ?_
  | with_reducible refine ev_tupB ?_
  | with_reducible refine ol_tupT ?_
  | with_reducible refine ol_lstL ?_
  | with_reducible refine ol_lstT ?_
  | with_reducible refine os_lst ?_
  | with_reducible refine os_tupA ?_
  | with_reducible refine os_tupB ?_)
local macro_rules | `(tactic| walk_at "stn") => `(tactic| repeat walk_at "st")
local macro_rules | `(tactic| walk_at "sts") => `(tactic| repeat first | walk_at "st" | with_reducible refine ev_lst ?_)

section
variable {P : Program} {wo : World} {K : PySem.W.Frag} {mg : Str → Option Value} {base : Heap}
abbrev s__law_sum : Stmt := top 40
theorem sc__law_sum : FnScope ["_law_bag_here", "_law_pair"] ["_law_bag_here"] (defScope s__law_sum) := ⟨rfl, rfl, rfl, by decide +kernel, rfl, by decide +kernel, by decide +kernel⟩
theorem bp__law_sum : BindP "_law_sum" s__law_sum ["_law_bag_here"] := fun _ _ _ _ _ _ us hl => match us, hl with | [_], _ => rfl


theorem ok__law_sum (T : Tx mg) (d : Dn K mg "_law_sum" s__law_sum) :
    Fk P wo K mg base CX0 1 "_law_sum" s__law_sum ["_law_bag_here"] (SpD K preSum postSumT zN) := by
  refine fk_ok d sc__law_sum bp__law_sum (fun ds w h => by first | (unfold preSum at h; (repeat (first | (obtain ⟨rfl, _⟩ := h; rfl) | (obtain ⟨_, h⟩ := h))); done) | (unfold preSum at h; split at h <;> first | rfl | exact h.elim) | (dsimp only at h; unfold preSum at h; split at h <;> first | rfl | exact h.elim)) fun f cdv A fr s H E hg hr => ⟨_, (pss_one (ps_ret (q_sum (K := K) rfl rfl T.b_sum rfl (pa_cons (pe_lc (own := [("_law_pair", 1)]) rfl sc__law_sum.nd (qi_tup (K := K) rfl (pv 0)) (blkOk_by (N := ["_law_bag_here", "_law_pair"]) (sc := defScope s__law_sum) (by decide +kernel)) (fun _ _ _ _ _ => (pg_name (i := 1) sc__law_sum.nd rfl (Or.inl rfl) (hf := Or.inr rfl))) (fun _ _ _ _ _ => pts_nil) (fun _ _ _ _ _ => (pe_ix (qx_tup (K := K) rfl) (pv 1) pe_int (fun _ _ => rfl)))) pa_nil)))), fun ds w hp => ?_⟩
  · obtain ⟨prs, rfl, hl⟩ := hp
    walk_at "sts"
    refine lc_map (f := fun d => .int (cntD d)) (gl_name (by decide)) (ei_tupT ?_)
    walk_at "sts"
    refine ⟨by rw [List.length_map, sizeLine_eq]; omega, fun l c i dd hl hd => ?_, ?_⟩
    · rw [List.getElem?_map] at hd
      obtain ⟨⟨n, k⟩, _, rfl⟩ := Option.map_eq_some_iff.mp hd
      walk_at "sts"
      exact ⟨rfl, rfl⟩
    · walk_at "sts"
      have e : (prs.map prD).map (fun d => D.int (cntD d)) = (prs.map (·.2)).map D.int := by rw [List.map_map, List.map_map]; rfl
      rw [e]
      refine ol_sum ?_
      refine ⟨rfl, fun prs' e' => ?_⟩
      injection e' with e'
      injection e' with e'
      rw [← prs_inj e']
      rfl
end
end LW
set_option Elab.async false
set_option linter.all false
set_option autoImplicit false
set_option maxRecDepth 100000
set_option maxHeartbeats 4000000
namespace LW
open PySem PySem.Spec PyProof.Rows L2 DL
/-- one step of a reading on data -/
local macro_rules | `(tactic| walk_at "st") => `(tactic| first
  | with_reducible refine sd_seq ?_
  | with_reducible refine sd_ret ?_
  | with_reducible refine sd_asg ?_
  | with_reducible refine sd_if ?_
  | with_reducible refine sd_drop ?_
  | with_reducible refine sd_par ?_
  | with_reducible refine sd_nx ?_
  | with_reducible refine sd_retN ?_
  | with_reducible refine ev_op ?_
  | with_reducible refine ev_cint ?_
  | with_reducible refine ev_cstr ?_
  | with_reducible refine ev_cbl ?_
  | with_reducible refine ev_cnon ?_
  | with_reducible refine ev_cty ?_
  | refine ev_var (by exact rfl) ?_
  | with_reducible refine ev_cb ?_
  | with_reducible refine ea_cons ?_
  | with_reducible refine ea_nil ?_
  | with_reducible refine ev_tup ?_
  | with_reducible refine ev_un ?_
  | with_reducible refine o1_U ?_
  | with_reducible refine ev_andV ?_
  | with_reducible refine ev_orV ?_
  | with_reducible refine ev_notV ?_
  | with_reducible refine ev_if ?_
  | with_reducible refine et_B ?_
  | with_reducible refine et_test ?_
  | with_reducible refine et_not ?_
  | with_reducible refine et_and ?_
  | with_reducible refine et_or ?_
  | with_reducible refine et_tru ?_
  | with_reducible refine ev_bm0 ?_
  | with_reducible refine ev_bm ?_
  | with_reducible refine ev_chain ?_
  | with_reducible refine gd_name ?_
  | with_reducible refine gd_sub ?_
  | ((with_reducible refine isIxLo ?_); refine o2_ixLo (by first | assumption | exact put_same) (by exact rfl) ?_)
  | ((with_reducible refine isI ?_); refine o2_I (by first | (show (0 : Int) < _; decide) | exact ⟨by decide, by decide⟩ | exact ⟨by decide, by decide, by decide⟩ | exact ⟨by omega, by omega⟩ | exact Or.inl ⟨by omega, by omega⟩ | exact Or.inr ⟨by decide, by decide⟩ | exact Or.inr ⟨by omega, by omega⟩) ?_)
  | refine ⟨_, _, _, _, rfl, rfl, (by first | assumption | exact put_same), (by exact rfl), ?_⟩
  | ((with_reducible refine isTupO ?_); refine ol_tupO (by first | assumption | exact put_same) ?_)
  | ((with_reducible refine isTupBO ?_); refine ol_tupBO (by first | assumption | exact put_same) ?_)
  | with_reducible refine ol_abs ?_
  | with_reducible refine ol_max2 ?_
  | with_reducible refine ol_min2 ?_
  | with_reducible refine gs_nil ?_
  | with_reducible refine gs_cons ?_
  | with_reducible refine gd_tup rfl ?_
  | with_reducible refine o2_I0 ?_
  | with_reducible refine o2_B0 ?_
  | with_reducible refine o2_eqI ?_
  | with_reducible refine o2_neI ?_
  | with_reducible refine o2_eqS ?_
  | with_reducible refine o2_neS ?_
  | with_reducible refine o2_SS ?_
  | with_reducible refine o2_isB ?_
  | with_reducible refine o2_notB ?_
  | with_reducible refine om_S0 trivial ?_
  | with_reducible refine ol_isiInt (by first | assumption | rfl) ?_
  | with_reducible refine ol_isiBool (by first | assumption | rfl) ?_
  | with_reducible refine ol_isiStr (by first | assumption | rfl) ?_
  | with_reducible refine ol_isiTup (by first | assumption | rfl) ?_
  | refine Exists.intro _ (And.intro rfl ?_)
  | with_reducible refine And.intro ty_str ?_
  | ((with_reducible refine isIxT ?_); refine o2_ixT rfl ?_)
  | ((with_reducible refine isIxL ?_); refine o2_ixL rfl ?_)
  | with_reducible refine ev_f ?_
  | with_reducible refine ev_fk kg1_ok ?_
  | with_reducible refine ev_fk kgS_ok ?_
  | refine And.intro (by first | assumption | exact Nat.le_of_ble_eq_true rfl) ?_
  | with_reducible refine ev_sl ?_
  | with_reducible refine eo_none ?_
  | with_reducible refine eo_some ?_
  | with_reducible refine ol_lenS (by rw [sizeLine_eq]; omega) ?_
  | with_reducible refine os_str (by rw [sizeLine_eq]; omega) ?_
  | ((with_reducible refine isLenD ?_); refine ol_lenD (by first | assumption | exact put_same) ?_)
  | with_reducible refine sd_dput ?_
  | with_reducible refine ev_sortItems ?_
  | with_reducible refine ev_revT ?_
  | with_reducible refine ev_dget2 ?_
  | with_reducible refine ol_lenT ?_
  | with_reducible refine ol_lenL ?_
  | with_reducible refine ol_int1 ?_
  | with_reducible refine ol_tupL ?_
  | with_reducible refine ol_tupB ?_
  | with_reducible refine ev_tupB ?_
  | with_reducible refine ol_tupT ?_
  | with_reducible refine ol_lstL ?_
  | with_reducible refine ol_lstT ?_
  | with_reducible refine os_lst ?_
  | with_reducible refine os_tupA ?_
  | with_reducible refine os_tupB ?_)
local macro_rules | `(tactic| walk_at "stn") => `(tactic| repeat walk_at "st")
local macro_rules | `(tactic| walk_at "sts") => `(tactic| repeat first | walk_at "st" | with_reducible refine ev_lst ?_)

section
variable {P : Program} {wo : World} {K : PySem.W.Frag} {mg : Str → Option Value} {base : Heap}
abbrev s__law_whole : Stmt := top 41
theorem sc__law_whole : FnScope ["_law_told", "_law_due"] ["_law_told", "_law_due"] (defScope s__law_whole) := ⟨rfl, rfl, rfl, by decide +kernel, rfl, by decide +kernel, by decide +kernel⟩
theorem bp__law_whole : BindP "_law_whole" s__law_whole ["_law_told", "_law_due"] := fun _ _ _ _ _ _ us hl => match us, hl with | [_, _], _ => rfl

theorem ok__law_whole (T : Tx mg) (d : Dn K mg "_law_whole" s__law_whole) : Fk P wo K mg base CX0 1 "_law_whole" s__law_whole ["_law_told", "_law_due"] (SpF K okWhole fWhole) := by
  refine fk_ok d sc__law_whole bp__law_whole (fun ds w h => ?_) fun f cdv A fr s H E hg hr => ⟨_, (pss_one (ps_ret (pe_and (q_isi (K := K) rfl T.b_isinstance rfl (pa_cons (pv 0) (pa_cons (c_int T.b_int rfl) pa_nil))) (pe_and (pe_not (q_isi (K := K) rfl T.b_isinstance rfl (pa_cons (pv 0) (pa_cons (c_bool T.b_bool rfl) pa_nil)))) (pe_one (pe_cmpR op_eq (pv 0) (pv 1) (nomark _))))))), fun ds w hp => ?_⟩
  · match ds, h with | [.int _, .int _], _ => rfl
  · match ds, hp with
    | [.int a, .int b], _ =>
      have hk : kn (.int a) := rfl
      walk_at "sts"
      refine if_t rfl ?_
      walk_at "sts"
      refine if_t rfl ?_
      walk_at "sts"
      exact rt_f rfl
end
end LW
set_option Elab.async false
set_option linter.all false
set_option autoImplicit false
set_option maxRecDepth 100000
set_option maxHeartbeats 4000000
namespace LW
open PySem PySem.Spec PyProof.Rows L2 DL
/-- one step of a reading on data -/
local macro_rules | `(tactic| walk_at "st") => `(tactic| first
  | with_reducible refine sd_seq ?_
  | with_reducible refine sd_ret ?_
  | with_reducible refine sd_asg ?_
  | with_reducible refine sd_if ?_
  | with_reducible refine sd_drop ?_
  | with_reducible refine sd_par ?_
  | with_reducible refine sd_nx ?_
  | with_reducible refine sd_retN ?_
  | with_reducible refine ev_op ?_
  | with_reducible refine ev_cint ?_
  | with_reducible refine ev_cstr ?_
  | with_reducible refine ev_cbl ?_
  | with_reducible refine ev_cnon ?_
  | with_reducible refine ev_cty ?_
  | refine ev_var (by exact rfl) ?_
  | with_reducible refine ev_cb ?_
  | with_reducible refine ea_cons ?_
  | with_reducible refine ea_nil ?_
  | with_reducible refine ev_tup ?_
  | with_reducible refine ev_un ?_
  | with_reducible refine o1_U ?_
  | with_reducible refine ev_andV ?_
  | with_reducible refine ev_orV ?_
  | with_reducible refine ev_notV ?_
  | with_reducible refine ev_if ?_
  | with_reducible refine et_B ?_
  | with_reducible refine et_test ?_
  | with_reducible refine et_not ?_
  | with_reducible refine et_and ?_
  | with_reducible refine et_or ?_
  | with_reducible refine et_tru ?_
  | with_reducible refine ev_bm0 ?_
  | with_reducible refine ev_bm ?_
  | with_reducible refine ev_chain ?_
  | with_reducible refine gd_name ?_
  | with_reducible refine gd_sub ?_
  | ((with_reducible refine isIxLo ?_); refine o2_ixLo (by first | assumption | exact put_same) (by exact rfl) ?_)
  | ((with_reducible refine isI ?_); refine o2_I (by first | (show (0 : Int) < _; decide) | exact ⟨by decide, by decide⟩ | exact ⟨by decide, by decide, by decide⟩ | exact ⟨by omega, by omega⟩ | exact Or.inl ⟨by omega, by omega⟩ | exact Or.inr ⟨by decide, by decide⟩ | exact Or.inr ⟨by omega, by omega⟩) ?_)
  | refine ⟨_, _, _, _, rfl, rfl, (by first | assumption | exact put_same), (by exact rfl), ?_⟩
  | ((with_reducible refine isTupO ?_); refine ol_tupO (by first | assumption | exact put_same) ?_)
  | ((with_reducible refine isTupBO ?_); refine ol_tupBO (by first | assumption | exact put_same) ?_)
  | with_reducible refine ol_abs ?_
  | with_reducible refine ol_max2 ?_
  | with_reducible refine ol_min2 ?_
  | with_reducible refine gs_nil ?_
  | with_reducible refine gs_cons ?_
  | with_reducible refine gd_tup rfl ?_
  | with_reducible refine o2_I0 ?_
  | with_reducible refine o2_B0 ?_
  | with_reducible refine o2_eqI ?_
  | with_reducible refine o2_neI ?_
  | with_reducible refine o2_eqS ?_
  | with_reducible refine o2_neS ?_
  | with_reducible refine o2_SS ?_
  | with_reducible refine o2_isB ?_
  | with_reducible refine o2_notB ?_
  | with_reducible refine om_S0 trivial ?_
  | with_reducible refine ol_isiInt (by first | assumption | rfl) ?_
  | with_reducible refine ol_isiBool (by first | assumption | rfl) ?_
  | with_reducible refine ol_isiStr (by first | assumption | rfl) ?_
  | with_reducible refine ol_isiTup (by first | assumption | rfl) ?_
  | refine Exists.intro _ (And.intro rfl ?_)
  | with_reducible refine And.intro ty_str ?_
  | ((with_reducible refine isIxT ?_); refine o2_ixT rfl ?_)
  | ((with_reducible refine isIxL ?_); refine o2_ixL rfl ?_)
  | with_reducible refine ev_f ?_
  | with_reducible refine ev_fk kg1_ok ?_
  | with_reducible refine ev_fk kgS_ok ?_
  | refine And.intro (by first | assumption | exact Nat.le_of_ble_eq_true rfl) ?_
  | with_reducible refine ev_sl ?_
  | with_reducible refine eo_none ?_
  | with_reducible refine eo_some ?_
  | with_reducible refine ol_lenS (by rw [sizeLine_eq]; omega) ?_
  | with_reducible refine os_str (by rw [sizeLine_eq]; omega) ?_
  | ((with_reducible refine isLenD ?_); refine ol_lenD (by first | assumption | exact put_same) ?_)
  | with_reducible refine sd_dput ?_
  | with_reducible refine ev_sortItems ?_
  | with_reducible refine ev_revT ?_
  | with_reducible refine ev_dget2 ?_
  | with_reducible refine ol_lenT ?_
  | with_reducible refine ol_lenL ?_
  | with_reducible refine ol_int1 ?_
  | with_reducible refine ol_tupL ?_
  | with_reducible refine ol_tupB ?_
  | with_reducible refine ev_tupB ?_
  | with_reducible refine ol_tupT ?_
  | with_reducible refine ol_lstL ?_
  | with_reducible refine ol_lstT ?_
  | with_reducible refine os_lst ?_
  | with_reducible refine os_tupA ?_
  | with_reducible refine os_tupB ?_)
local macro_rules | `(tactic| walk_at "stn") => `(tactic| repeat walk_at "st")
local macro_rules | `(tactic| walk_at "sts") => `(tactic| repeat first | walk_at "st" | with_reducible refine ev_lst ?_)

section
variable {P : Program} {wo : World} {K : PySem.W.Frag} {mg : Str → Option Value} {base : Heap}
abbrev s__law_shown : Stmt := top 42
theorem sc__law_shown : FnScope ["_law_bag_here", "_law_word", "_law_many"] ["_law_bag_here"] (defScope s__law_shown) := ⟨rfl, rfl, rfl, by decide +kernel, rfl, by decide +kernel, by decide +kernel⟩
theorem bp__law_shown : BindP "_law_shown" s__law_shown ["_law_bag_here"] := fun _ _ _ _ _ _ us hl => match us, hl with | [_], _ => rfl


theorem ok__law_shown (T : Tx mg) (d : Dn K mg "_law_shown" s__law_shown) :
    Fk P wo K mg base CX0 1 "_law_shown" s__law_shown ["_law_bag_here"] (SpD K preCT postShn zN) := by
  refine fk_ok d sc__law_shown bp__law_shown (fun ds w h => by first | (unfold preCT at h; (repeat (first | (obtain ⟨rfl, _⟩ := h; rfl) | (obtain ⟨_, h⟩ := h))); done) | (unfold preCT at h; split at h <;> first | rfl | exact h.elim) | (dsimp only at h; unfold preCT at h; split at h <;> first | rfl | exact h.elim)) fun f cdv A fr s H E hg hr => ⟨_, (pss_one (ps_ret (pe_ifExp (pt_cmpR (qo_neP (K := K) rfl hr.units) (pv 0) (pe_tup pa_nil) (nomark _)) (q_join (K := K) rfl pe_str (pe_lc (own := [("_law_word", 1), ("_law_many", 2)]) rfl sc__law_shown.nd (qi_tup (K := K) rfl (pv 0)) (blkOk_by (N := ["_law_bag_here", "_law_word", "_law_many"]) (sc := defScope s__law_shown) (by decide +kernel)) (fun _ _ _ _ _ => (qg_tup (K := K) (n := 2) rfl rfl (pgs_cons (pg_name (i := 1) sc__law_shown.nd rfl (Or.inl rfl) (hf := Or.inr rfl)) (pgs_cons (pg_name (i := 2) sc__law_shown.nd rfl (Or.inl rfl) (hf := Or.inr rfl)) pgs_nil)) rfl)) (fun _ _ _ _ _ => pts_nil) (fun _ _ _ _ _ => (pe_op op_add_str (pe_op op_add_str (pv 1) pe_str) (b_str T.b_str rfl (pa_cons (pv 2) pa_nil)))))) pe_str))), fun ds w hp => ?_⟩
  · obtain ⟨prs, b, k, rfl, hs, hk, hb⟩ := hp
    have hpl := hs.2.2
    have fin : ∀ t, t = textS prs → postShn [.tup (prs.map prD)] w (.str t) w := fun t ht => ⟨rfl, fun p e => by
      injection e with e _
      injection e with e
      rw [ht, prs_inj e]⟩
    walk_at "sts"
    refine o2_neP (by simp only [isPy]; exact prs_py _) (by simp only [isPy]; exact prs_py []) (by have := prs_deep prs; simp only [deepD]; omega) ?_
    walk_at "sts"
    refine if_2 (fun e5 => ?_) (fun e5 => ?_)
    · have hne : prs.isEmpty = false := by
        rcases prs with _ | ⟨_, _⟩
        · exact absurd e5 (by decide +kernel)
        · rfl
      walk_at "sts"
      refine ev_m1 ?_
      walk_at "sts"
      refine ⟨⟨_, rfl⟩, ?_⟩
      refine lc_map (f := pairF) (gl_tup (gls_cons (gl_name (by decide)) (gls_cons (gl_name (by decide)) gls_nil))) (ei_tupT ?_)
      walk_at "sts"
      rw [pair_data]
      refine ⟨by rw [List.length_map, sizeLine_eq]; omega, fun l2 cc i d hl2 hd => ?_, ?_⟩
      · rw [List.getElem?_map] at hd
        obtain ⟨⟨nm, cv⟩, hpr, rfl⟩ := Option.map_eq_some_iff.mp hd
        have hin := hs.2.1 _ (List.mem_of_getElem? hpr)
        have hnl : nm.length ≤ 8 := nameS_len hin.1
        have h0 : 0 ≤ cv := Int.le_trans (by decide) hin.2.1
        have hl : cv < 10 ^ 60 := Int.lt_of_le_of_lt hin.2.2 hb
        have hcl := num_len h0 hl
        have h1 : (Str.ofString ":").length = 1 := by decide +kernel
        rw [show prD (nm, cv) = D.tup [.str nm, .int cv] from rfl]
        walk_at "sts"
        refine o2_catS (by rw [h1, sizeLine_eq]; omega) ?_
        walk_at "sts"
        refine ol_strI (log2_60 h0 hl) ?_
        refine o2_catS (by rw [app_len, h1, sizeLine_eq]; omega) ?_
        exact ⟨rfl, rfl⟩
      · refine om_join (sum_textlens hs hk hb) ?_
        refine fin _ ?_
        unfold textS
        rw [if_neg (by rw [hne]; exact Bool.false_ne_true)]
    · walk_at "sts"
      refine fin _ ?_
      rcases prs with _ | ⟨e, r⟩
      · rfl
      · exact absurd e5 (by rw [show py (D.tup []) = py (D.tup (([] : List (Str × Int)).map prD)) from rfl]; simp [py, pyA, PyData.eqv, PyData.eqvAll])
end
end LW
set_option Elab.async false
set_option linter.all false
set_option autoImplicit false
set_option maxRecDepth 100000
set_option maxHeartbeats 4000000
namespace LW
open PySem PySem.Spec PyProof.Rows L2 DL
/-- one step of a reading on data -/
local macro_rules | `(tactic| walk_at "st") => `(tactic| first
  | with_reducible refine sd_seq ?_
  | with_reducible refine sd_ret ?_
  | with_reducible refine sd_asg ?_
  | with_reducible refine sd_if ?_
  | with_reducible refine sd_drop ?_
  | with_reducible refine sd_par ?_
  | with_reducible refine sd_nx ?_
  | with_reducible refine sd_retN ?_
  | with_reducible refine ev_op ?_
  | with_reducible refine ev_cint ?_
  | with_reducible refine ev_cstr ?_
  | with_reducible refine ev_cbl ?_
  | with_reducible refine ev_cnon ?_
  | with_reducible refine ev_cty ?_
  | refine ev_var (by exact rfl) ?_
  | with_reducible refine ev_cb ?_
  | with_reducible refine ea_cons ?_
  | with_reducible refine ea_nil ?_
  | with_reducible refine ev_tup ?_
  | with_reducible refine ev_un ?_
  | with_reducible refine o1_U ?_
  | with_reducible refine ev_andV ?_
  | with_reducible refine ev_orV ?_
  | with_reducible refine ev_notV ?_
  | with_reducible refine ev_if ?_
  | with_reducible refine et_B ?_
  | with_reducible refine et_test ?_
  | with_reducible refine et_not ?_
  | with_reducible refine et_and ?_
  | with_reducible refine et_or ?_
  | with_reducible refine et_tru ?_
  | with_reducible refine ev_bm0 ?_
  | with_reducible refine ev_bm ?_
  | with_reducible refine ev_chain ?_
  | with_reducible refine gd_name ?_
  | with_reducible refine gd_sub ?_
  | ((with_reducible refine isIxLo ?_); refine o2_ixLo (by first | assumption | exact put_same) (by exact rfl) ?_)
  | ((with_reducible refine isI ?_); refine o2_I (by first | (show (0 : Int) < _; decide) | exact ⟨by decide, by decide⟩ | exact ⟨by decide, by decide, by decide⟩ | exact ⟨by omega, by omega⟩ | exact Or.inl ⟨by omega, by omega⟩ | exact Or.inr ⟨by decide, by decide⟩ | exact Or.inr ⟨by omega, by omega⟩) ?_)
  | refine ⟨_, _, _, _, rfl, rfl, (by first | assumption | exact put_same), (by exact rfl), ?_⟩
  | ((with_reducible refine isTupO ?_); refine ol_tupO (by first | assumption | exact put_same) ?_)
  | ((with_reducible refine isTupBO ?_); refine ol_tupBO (by first | assumption | exact put_same) ?_)
  | with_reducible refine ol_abs ?_
  | with_reducible refine ol_max2 ?_
  | with_reducible refine ol_min2 ?_
  | with_reducible refine gs_nil ?_
  | with_reducible refine gs_cons ?_
  | with_reducible refine gd_tup rfl ?_
  | with_reducible refine o2_I0 ?_
  | with_reducible refine o2_B0 ?_
  | with_reducible refine o2_eqI ?_
  | with_reducible refine o2_neI ?_
  | with_reducible refine o2_eqS ?_
  | with_reducible refine o2_neS ?_
  | with_reducible refine o2_SS ?_
  | with_reducible refine o2_isB ?_
  | with_reducible refine o2_notB ?_
  | with_reducible refine om_S0 trivial ?_
  | with_reducible refine ol_isiInt (by first | assumption | rfl) ?_
  | with_reducible refine ol_isiBool (by first | assumption | rfl) ?_
  | with_reducible refine ol_isiStr (by first | assumption | rfl) ?_
  | with_reducible refine ol_isiTup (by first | assumption | rfl) ?_
  | refine Exists.intro _ (And.intro rfl ?_)
  | with_reducible refine And.intro ty_str ?_
  | ((with_reducible refine isIxT ?_); refine o2_ixT rfl ?_)
  | ((with_reducible refine isIxL ?_); refine o2_ixL rfl ?_)
  | with_reducible refine ev_f ?_
  | with_reducible refine ev_fk kg1_ok ?_
  | with_reducible refine ev_fk kgS_ok ?_
  | refine And.intro (by first | assumption | exact Nat.le_of_ble_eq_true rfl) ?_
  | with_reducible refine ev_sl ?_
  | with_reducible refine eo_none ?_
  | with_reducible refine eo_some ?_
  | with_reducible refine ol_lenS (by rw [sizeLine_eq]; omega) ?_
  | with_reducible refine os_str (by rw [sizeLine_eq]; omega) ?_
  | ((with_reducible refine isLenD ?_); refine ol_lenD (by first | assumption | exact put_same) ?_)
  | with_reducible refine sd_dput ?_
  | with_reducible refine ev_sortItems ?_
  | with_reducible refine ev_revT ?_
  | with_reducible refine ev_dget2 ?_
  | with_reducible refine ol_lenT ?_
  | with_reducible refine ol_lenL ?_
  | with_reducible refine ol_int1 ?_
  | with_reducible refine ol_tupL ?_
  | with_reducible refine ol_tupB ?_
  | with_reducible refine ev_tupB ?_
  | with_reducible refine ol_tupT ?_
  | with_reducible refine ol_lstL ?_
  | with_reducible refine ol_lstT ?_
  | with_reducible refine os_lst ?_
  | with_reducible refine os_tupA ?_
  | with_reducible refine os_tupB ?_)
local macro_rules | `(tactic| walk_at "stn") => `(tactic| repeat walk_at "st")
local macro_rules | `(tactic| walk_at "sts") => `(tactic| repeat first | walk_at "st" | with_reducible refine ev_lst ?_)

section
variable {P : Program} {wo : World} {K : PySem.W.Frag} {mg : Str → Option Value} {base : Heap}
abbrev s__law_one_right : Stmt := top 43
theorem sc__law_one_right : FnScope ["_law_made", "_law_width", "_law_bag_here", "_law_words_here", "_law_word", "_law_due", "_law_each", "_law_many"] ["_law_made", "_law_width", "_law_bag_here", "_law_words_here"] (defScope s__law_one_right) := ⟨rfl, rfl, rfl, by decide +kernel, rfl, by decide +kernel, by decide +kernel⟩
theorem bp__law_one_right : BindP "_law_one_right" s__law_one_right ["_law_made", "_law_width", "_law_bag_here", "_law_words_here"] := fun _ _ _ _ _ _ us hl => match us, hl with | [_, _, _, _], _ => rfl


theorem ok__law_one_right {CS : Addr} (T : Tx mg) (d : Dn K mg "_law_one_right" s__law_one_right) (U_Summary : Uc K mg "Summary" CS) (NA : NoAttr K CS "capacity") (NB : NoAttr K CS "counts") (N_Summary___bool__ : NoAttr K CS "__bool__")
    (F_Summary___len__ : Mt P wo K mg base CX0 1 CS "__len__" ["self"] (SpD K (preLen CS) (postLen CS) zN))
    (F_Summary___repr__ : Mt P wo K mg base CX0 3 CS "__repr__" ["self"] (SpD K (preStr CS) (postRpr CS) zN))
    (F_Summary___str__ : Mt P wo K mg base CX0 3 CS "__str__" ["self"] (SpD K (preStr CS) (postStr CS) zN))
    (F_Summary_is_full : Mt P wo K mg base CX0 1 CS "is_full" ["self"] (SpD K (preFull CS) (postFull CS) zN))
    (F_Summary_kept : Mt P wo K mg base CX0 7 CS "kept" ["self"] (SpD K (preKept CS) (postKept CS) zN))
    (F_Summary_tally : Mt P wo K mg base CX0 7 CS "tally" ["self", "name"] (SpD K (preTal CS) (postTal CS) zN))
    (F__law_shown : Fk P wo K mg base CX0 1 "_law_shown" s__law_shown ["_law_bag_here"] (SpD K preCT postShn zN))
    (F__law_sum : Fk P wo K mg base CX0 1 "_law_sum" s__law_sum ["_law_bag_here"] (SpD K preSum postSumT zN))
    (F__law_whole : Fk P wo K mg base CX0 1 "_law_whole" s__law_whole ["_law_told", "_law_due"] (SpF K okWhole fWhole))
    (F_is_summary : Fk P wo K mg base CX0 1 "is_summary" s_is_summary ["thing"] (SpF K (okIsS CS) fIsS))
    (D_Summary_tally : MD K CS "tally" "Summary.tally" s_Summary_tally) :
    Fk P wo K mg base CX0 8 "_law_one_right" s__law_one_right ["_law_made", "_law_width", "_law_bag_here", "_law_words_here"] (SpD K (preOne CS) postTru zN) := by
  refine fk_ok d sc__law_one_right bp__law_one_right (fun ds w h => by first | (unfold preOne at h; (repeat (first | (obtain ⟨rfl, _⟩ := h; rfl) | (obtain ⟨_, h⟩ := h))); done) | (unfold preOne at h; split at h <;> first | rfl | exact h.elim) | (dsimp only at h; unfold preOne at h; split at h <;> first | rfl | exact h.elim)) fun f cdv A fr s H E hg hr => ⟨_, (pss_cons (ps_if (PW.pt (pw_or (pt_cmpR op_ne (q_repr (K := K) rfl T.b_repr hg hr.units rfl (pa_cons (pe_lst (pa_cons (q_fld (K := K) rfl (pv 0)) (pa_cons (q_fld (K := K) rfl (pv 0)) pa_nil))) pa_nil)) (q_repr (K := K) rfl T.b_repr hg hr.units rfl (pa_cons (pe_lst (pa_cons (pv 1) (pa_cons (pv 2) pa_nil))) pa_nil)) (nomark _)) (pw_or1 (pt_cmpR op_ne (q_lenO F_Summary___len__ T.b_len hg (hr.mono (by decide)) rfl pass0 (pv 0)) (q_len (K := K) rfl T.b_len rfl (pa_cons (pv 2) pa_nil)) (nomark _))))) (pss_one (ps_ret pe_bl)) pss_nil) (pss_cons (ps_if (PW.pt (pw_or (pt_cmpR op_ne (q_boolO F_Summary___len__ N_Summary___bool__ T.b_bool hg (hr.mono (by decide)) rfl pass0 (pv 0)) (pe_cmpR (qo_neP (K := K) rfl hr.units) (pv 2) (pe_tup pa_nil) (nomark _)) (nomark _)) (pw_or1 (pt_cmpR op_ne (q_reprB T.b_repr rfl (pa_cons (pe_mt0 F_Summary_is_full U_Summary.cls hg (hr.mono (by decide)) pass0 (pv 0)) pa_nil)) (q_reprB T.b_repr rfl (pa_cons (pe_cmpR op_eq (q_len (K := K) rfl T.b_len rfl (pa_cons (pv 2) pa_nil)) (pv 1) (nomark _)) pa_nil)) (nomark _))))) (pss_one (ps_ret pe_bl)) pss_nil) (pss_cons (ps_for PassesOwn.never rfl (qi_list (K := K) rfl (pv 3)) (pg_name (i := 4) sc__law_one_right.nd rfl (Or.inr rfl) (hf := Or.inl rfl)) (pss_cons (ps_set (i := 5) sc__law_one_right.nd rfl (Or.inl rfl) (q_sum (K := K) rfl rfl T.b_sum rfl (pa_cons (pe_lc (own := [("_law_each", 6), ("_law_many", 7)]) rfl sc__law_one_right.nd (qi_tup (K := K) rfl (pv 2)) (blkOk_by (N := ["_law_made", "_law_width", "_law_bag_here", "_law_words_here", "_law_word", "_law_due", "_law_each", "_law_many"]) (sc := defScope s__law_one_right) (by decide +kernel)) (fun _ _ _ _ _ => (qg_tup (K := K) (n := 2) rfl rfl (pgs_cons (pg_name (i := 6) sc__law_one_right.nd rfl (Or.inl rfl) (hf := Or.inr rfl)) (pgs_cons (pg_name (i := 7) sc__law_one_right.nd rfl (Or.inl rfl) (hf := Or.inr rfl)) pgs_nil)) rfl)) (fun _ _ _ _ _ => (pts_one (pt_cmpR op_eq (pv 6) (pv 4) (nomark _)))) (fun _ _ _ _ _ => (pv 7))) pa_nil))) (pss_one (ps_if (PW.pt (pw_or (pt_not (pt_val (pe_f F__law_whole hg (hr.mono (by decide)) rfl pass0 (pa_cons (pe_mt F_Summary_tally U_Summary.cls hg (hr.mono (by decide)) pass0 (pv 0) (pa_cons (pv 4) pa_nil)) (pa_cons (pv 5) pa_nil))))) (pw_or1 (pt_not (pt_val (pe_f F__law_whole hg (hr.mono (by decide)) rfl pass0 (pa_cons (pe_mtk F_Summary_tally D_Summary_tally bk_Summary_tally_M U_Summary.cls hg (hr.mono (by decide)) pass0 (pv 0) (pk_cons (pv 4) pk_nil)) (pa_cons (pv 5) pa_nil)))))))) (pss_one (ps_ret pe_bl)) pss_nil)))) (pss_cons (ps_if (PW.pt (pw_or (pt_not (pt_val (pe_f F__law_whole hg (hr.mono (by decide)) rfl pass0 (pa_cons (pe_mt0 F_Summary_kept U_Summary.cls hg (hr.mono (by decide)) pass0 (pv 0)) (pa_cons (pe_f F__law_sum hg (hr.mono (by decide)) rfl pass0 (pa_cons (pv 2) pa_nil)) pa_nil))))) (pw_or (pt_cmpR op_notBl (pe_f F_is_summary hg (hr.mono (by decide)) rfl pass0 (pa_cons (pv 0) pa_nil)) pe_bl (nomark _)) (pw_or1 (pt_cmpR op_notBl (pe_f F_is_summary hg (hr.mono (by decide)) rfl pass0 (pa_cons (pv 2) pa_nil)) pe_bl (nomark _)))))) (pss_one (ps_ret pe_bl)) pss_nil) (pss_one (ps_ret (pe_and (pe_cmpR op_eq (q_strO F_Summary___str__ T.b_str hg (hr.mono (by decide)) rfl pass0 (pv 0)) (pe_f F__law_shown hg (hr.mono (by decide)) rfl pass0 (pa_cons (pv 2) pa_nil)) (nomark _)) (pe_one (pe_cmpR op_eq (q_reprO F_Summary___repr__ T.b_repr hg (hr.mono (by decide)) rfl pass0 (pv 0)) (pe_op op_add_str (pe_op op_add_str (pe_op op_add_str (pe_op op_add_str pe_str (b_str T.b_str rfl (pa_cons (pv 1) pa_nil))) pe_str) (pe_f F__law_shown hg (hr.mono (by decide)) rfl pass0 (pa_cons (pv 2) pa_nil))) pe_str) (nomark _)))))))))), fun ds w hp => ?_⟩
  · obtain ⟨c, prs, xs, rfl, c1, c8, hs, hx⟩ := hp
    have hpl := hs.2.2
    have hsx : SumX c prs := hs.sumX c1 c8
    walk_at "sts"
    refine ev_fld ?_
    refine ev_var (by exact rfl) ?_
    refine ⟨_, _, _, rfl, U_Summary.cls, NA, lookB_cap, ?_⟩
    refine ea_cons ?_
    refine ev_weak ?_
    refine ev_fld ?_
    refine ev_var (by exact rfl) ?_
    refine ⟨_, _, _, rfl, U_Summary.cls, NB, lookB_cnt, _, rfl, ?_⟩
    walk_at "sts"
    refine ol_repr rfl (sh_wr c1 c8 hs (by decide +kernel) (by omega)) ?_
    walk_at "sts"
    refine ol_repr rfl (sh_wr c1 c8 hs (by decide +kernel) (by omega)) ?_
    walk_at "sts"
    refine if_f (by simp) ?_
    walk_at "sts"
    refine ol_lenSum (by omega) ?_
    walk_at "sts"
    refine if_f (by simp) ?_
    walk_at "sts"
    refine ol_boolSum (by omega) ?_
    walk_at "sts"
    refine o2_neP (by simp only [isPy]; exact prs_py _) (by simp only [isPy]; exact prs_py []) (by have := prs_deep prs; simp only [deepD]; omega) ?_
    rw [ne_empty]
    walk_at "sts"
    refine o2_neB ?_
    walk_at "sts"
    refine if_f (by simp) ?_
    walk_at "sts"
    refine ev_full ?_
    walk_at "sts"
    refine ⟨_, _, rfl, by omega, ?_⟩
    walk_at "sts"
    refine ol_reprB ?_
    walk_at "sts"
    refine ol_reprB ?_
    walk_at "sts"
    refine if_f (by simp) ?_
    walk_at "sts"
    refine sd_for (ei_lst ?_)
    walk_at "sts"
    refine ⟨fun i δ' w' => ∃ x4 x5 x6 x7 : Option D, δ' = [some (.ins CS (sumFsB c prs)), some (.int c), some (.tup (prs.map prD)), some (.lst (xs.map D.str)), x4, x5, x6, x7] ∧ w' = w, ⟨_, _, _, _, rfl, rfl⟩, ?_, ?_⟩
    · rintro i e δ' w' he ⟨x4, x5, x6, x7, rfl, rfl⟩
      rw [List.getElem?_map] at he
      obtain ⟨x, hxi, rfl⟩ := Option.map_eq_some_iff.mp he
      have hxm := hx x (List.mem_of_getElem? hxi)
      walk_at "sts"
      refine lc_filt (f := secF) (c := eqKeyB x) (gl_tup (gls_cons (gl_name (by decide)) (gls_cons (gl_name (by decide)) gls_nil))) (ei_tupT ?_)
      walk_at "sts"
      rw [eqKey_data]
      refine ⟨by rw [List.length_map, sizeLine_eq]; omega, fun l cc i d hl hd => ?_, ?_⟩
      · rw [List.getElem?_map] at hd
        obtain ⟨⟨nm, cv⟩, hpr, rfl⟩ := Option.map_eq_some_iff.mp hd
        rw [show prD (nm, cv) = D.tup [.str nm, .int cv] from rfl]
        walk_at "sts"
        refine if_2 (fun e5 => ?_) (fun e5 => ?_)
        · refine ⟨e5, ?_⟩
          walk_at "sts"
          exact ⟨rfl, rfl⟩
        · exact ⟨e5, rfl⟩
      · walk_at "sts"
        refine ol_sum ?_
        rw [show ((prs.filter fun e => decide (e.1 = x)).map (·.2)).sum = getS prs x from sumN_get hsx.nodup x]
        walk_at "sts"
        refine ev_tally ?_
        walk_at "sts"
        refine ⟨_, _, rfl, ?_⟩
        walk_at "sts"
        refine ⟨trivial, ?_⟩
        walk_at "sts"
        refine if_f (by rw [decide_eq_true rfl]; rfl) ?_
        walk_at "sts"
        refine ev_tallyK ?_
        walk_at "sts"
        refine ⟨_, _, rfl, ?_⟩
        walk_at "sts"
        refine ⟨trivial, ?_⟩
        walk_at "sts"
        refine if_f (by rw [decide_eq_true rfl]; rfl) ?_
        walk_at "sts"
        exact ⟨_, _, _, _, rfl, rfl⟩
    · rintro δ' w' ⟨x4, x5, x6, x7, rfl, rfl⟩
      walk_at "sts"
      refine ev_kept ?_
      walk_at "sts"
      refine ⟨_, _, rfl, hsx, ?_⟩
      refine ea_cons ?_
      refine ev_lsum ?_
      walk_at "sts"
      refine ⟨by omega, ?_⟩
      walk_at "sts"
      refine ⟨trivial, ?_⟩
      walk_at "sts"
      refine if_f (by rw [decide_eq_true rfl]; rfl) ?_
      walk_at "sts"
      refine ⟨rfl, ?_⟩
      rw [show fIsS [D.ins CS (sumFsB c prs)] = D.bl true from rfl]
      walk_at "sts"
      refine if_f rfl ?_
      walk_at "sts"
      refine ⟨trivial, ?_⟩
      rw [show fIsS [D.tup (prs.map prD)] = D.bl false from rfl]
      walk_at "sts"
      refine if_f rfl ?_
      walk_at "sts"
      refine ol_strSum hs c1 c8 (by decide +kernel) fun w2 k2 => ?_
      refine ev_call ?_
      walk_at "sts"
      refine ⟨⟨prs, _, _, rfl, hs, by omega, by decide +kernel⟩, ?_⟩
      rintro dd w3 ⟨rfl, h3⟩
      have h3 := h3 prs rfl
      subst h3
      walk_at "sts"
      refine if_t (decide_eq_true rfl) ?_
      walk_at "sts"
      refine ol_rprSum hs c1 c8 (by decide +kernel) fun w4 k4 => ?_
      walk_at "sts"
      have hcl := num_len (n := c) (by omega) (Int.lt_of_le_of_lt c8 (by decide +kernel))
      have htl := text_len hs (by omega) (by decide +kernel)
      have z1 : (Str.ofString "Summary(").length = 8 := by decide +kernel
      have z2 : (Str.ofString ", '").length = 3 := by decide +kernel
      have z3 : (Str.ofString "')").length = 2 := by decide +kernel
      refine ol_strI (log2_60 (by omega) (Int.lt_of_le_of_lt c8 (by decide +kernel))) ?_
      refine o2_catS (by rw [z1, sizeLine_eq]; omega) ?_
      walk_at "sts"
      refine o2_catS (by rw [app_len, z1, z2, sizeLine_eq]; omega) ?_
      refine ev_call ?_
      walk_at "sts"
      refine ⟨⟨prs, _, _, rfl, hs, by omega, by decide +kernel⟩, ?_⟩
      rintro dd w5 ⟨rfl, h5⟩
      have h5 := h5 prs rfl
      subst h5
      refine o2_catS (by rw [app_len, app_len, z1, z2, sizeLine_eq]; omega) ?_
      walk_at "sts"
      refine o2_catS (by rw [app_len, app_len, app_len, z1, z2, z3, sizeLine_eq]; omega) ?_
      walk_at "sts"
      refine ⟨?_, k2.trans k4⟩
      rw [show rprS c prs = Str.ofString "Summary(" ++ Str.ofString (toString c) ++ Str.ofString ", '" ++ textS prs ++ Str.ofString "')" by unfold rprS; rw [emp_app]]
      simp
end
end LW
set_option Elab.async false
set_option linter.all false
set_option autoImplicit false
set_option maxRecDepth 100000
set_option maxHeartbeats 4000000
namespace LW
open PySem PySem.Spec PyProof.Rows L2 DL
/-- one step of a reading on data -/
local macro_rules | `(tactic| walk_at "st") => `(tactic| first
  | with_reducible refine sd_seq ?_
  | with_reducible refine sd_ret ?_
  | with_reducible refine sd_asg ?_
  | with_reducible refine sd_if ?_
  | with_reducible refine sd_drop ?_
  | with_reducible refine sd_par ?_
  | with_reducible refine sd_nx ?_
  | with_reducible refine sd_retN ?_
  | with_reducible refine ev_op ?_
  | with_reducible refine ev_cint ?_
  | with_reducible refine ev_cstr ?_
  | with_reducible refine ev_cbl ?_
  | with_reducible refine ev_cnon ?_
  | with_reducible refine ev_cty ?_
  | refine ev_var (by exact rfl) ?_
  | with_reducible refine ev_cb ?_
  | with_reducible refine ea_cons ?_
  | with_reducible refine ea_nil ?_
  | with_reducible refine ev_tup ?_
  | with_reducible refine ev_un ?_
  | with_reducible refine o1_U ?_
  | with_reducible refine ev_andV ?_
  | with_reducible refine ev_orV ?_
  | with_reducible refine ev_notV ?_
  | with_reducible refine ev_if ?_
  | with_reducible refine et_B ?_
  | with_reducible refine et_test ?_
  | with_reducible refine et_not ?_
  | with_reducible refine et_and ?_
  | with_reducible refine et_or ?_
  | with_reducible refine et_tru ?_
  | with_reducible refine ev_bm0 ?_
  | with_reducible refine ev_bm ?_
  | with_reducible refine ev_chain ?_
  | with_reducible refine gd_name ?_
  | with_reducible refine gd_sub ?_
  | ((with_reducible refine isIxLo ?_); refine o2_ixLo (by first | assumption | exact put_same) (by exact rfl) ?_)
  | ((with_reducible refine isI ?_); refine o2_I (by first | (show (0 : Int) < _; decide) | exact ⟨by decide, by decide⟩ | exact ⟨by decide, by decide, by decide⟩ | exact ⟨by omega, by omega⟩ | exact Or.inl ⟨by omega, by omega⟩ | exact Or.inr ⟨by decide, by decide⟩ | exact Or.inr ⟨by omega, by omega⟩) ?_)
  | refine ⟨_, _, _, _, rfl, rfl, (by first | assumption | exact put_same), (by exact rfl), ?_⟩
  | ((with_reducible refine isTupO ?_); refine ol_tupO (by first | assumption | exact put_same) ?_)
  | ((with_reducible refine isTupBO ?_); refine ol_tupBO (by first | assumption | exact put_same) ?_)
  | with_reducible refine ol_abs ?_
  | with_reducible refine ol_max2 ?_
  | with_reducible refine ol_min2 ?_
  | with_reducible refine gs_nil ?_
  | with_reducible refine gs_cons ?_
  | with_reducible refine gd_tup rfl ?_
  | with_reducible refine o2_I0 ?_
  | with_reducible refine o2_B0 ?_
  | with_reducible refine o2_eqI ?_
  | with_reducible refine o2_neI ?_
  | with_reducible refine o2_eqS ?_
  | with_reducible refine o2_neS ?_
  | with_reducible refine o2_SS ?_
  | with_reducible refine o2_isB ?_
  | with_reducible refine o2_notB ?_
  | with_reducible refine om_S0 trivial ?_
  | with_reducible refine ol_isiInt (by first | assumption | rfl) ?_
  | with_reducible refine ol_isiBool (by first | assumption | rfl) ?_
  | with_reducible refine ol_isiStr (by first | assumption | rfl) ?_
  | with_reducible refine ol_isiTup (by first | assumption | rfl) ?_
  | refine Exists.intro _ (And.intro rfl ?_)
  | with_reducible refine And.intro ty_str ?_
  | ((with_reducible refine isIxT ?_); refine o2_ixT rfl ?_)
  | ((with_reducible refine isIxL ?_); refine o2_ixL rfl ?_)
  | with_reducible refine ev_f ?_
  | with_reducible refine ev_fk kg1_ok ?_
  | with_reducible refine ev_fk kgS_ok ?_
  | refine And.intro (by first | assumption | exact Nat.le_of_ble_eq_true rfl) ?_
  | with_reducible refine ev_sl ?_
  | with_reducible refine eo_none ?_
  | with_reducible refine eo_some ?_
  | with_reducible refine ol_lenS (by rw [sizeLine_eq]; omega) ?_
  | with_reducible refine os_str (by rw [sizeLine_eq]; omega) ?_
  | ((with_reducible refine isLenD ?_); refine ol_lenD (by first | assumption | exact put_same) ?_)
  | with_reducible refine sd_dput ?_
  | with_reducible refine ev_sortItems ?_
  | with_reducible refine ev_revT ?_
  | with_reducible refine ev_dget2 ?_
  | with_reducible refine ol_lenT ?_
  | with_reducible refine ol_lenL ?_
  | with_reducible refine ol_int1 ?_
  | with_reducible refine ol_tupL ?_
  | with_reducible refine ol_tupB ?_
  | with_reducible refine ev_tupB ?_
  | with_reducible refine ol_tupT ?_
  | with_reducible refine ol_lstL ?_
  | with_reducible refine ol_lstT ?_
  | with_reducible refine os_lst ?_
  | with_reducible refine os_tupA ?_
  | with_reducible refine os_tupB ?_)
local macro_rules | `(tactic| walk_at "stn") => `(tactic| repeat walk_at "st")
local macro_rules | `(tactic| walk_at "sts") => `(tactic| repeat first | walk_at "st" | with_reducible refine ev_lst ?_)

section
variable {P : Program} {wo : World} {K : PySem.W.Frag} {mg : Str → Option Value} {base : Heap}
abbrev s__law_made_right : Stmt := top 44
theorem sc__law_made_right : FnScope ["_law_width", "_law_bag_here", "_law_words_here", "_law_shown_here", "_law_made", "_law_turn", "_law_each"] ["_law_width", "_law_bag_here", "_law_words_here"] (defScope s__law_made_right) := ⟨rfl, rfl, rfl, by decide +kernel, rfl, by decide +kernel, by decide +kernel⟩
theorem bp__law_made_right : BindP "_law_made_right" s__law_made_right ["_law_width", "_law_bag_here", "_law_words_here"] := fun _ _ _ _ _ _ us hl => match us, hl with | [_, _, _], _ => rfl


theorem ok__law_made_right {CS a0 : Addr} (T : Tx mg) (d : Dn K mg "_law_made_right" s__law_made_right) (U_Summary : Uc K mg "Summary" CS) (NA : NoAttr K CS "capacity") (NB : NoAttr K CS "counts") (E_Summary : MEB K CS "__init__" "Summary.__init__" s_Summary___init__ a0)
    (F_Summary___init__ : Mt P wo K mg base CX0 6 CS "__init__" ["self", "capacity", "counts"] (SpD K (preInitB CS) (postInitB CS) zN))
    (F__law_one_right : Fk P wo K mg base CX0 8 "_law_one_right" s__law_one_right ["_law_made", "_law_width", "_law_bag_here", "_law_words_here"] (SpD K (preOne CS) postTru zN)) :
    Fk P wo K mg base CX0 9 "_law_made_right" s__law_made_right ["_law_width", "_law_bag_here", "_law_words_here"] (SpD K preMade postTru zN) := by
  refine fk_ok d sc__law_made_right bp__law_made_right (fun ds w h => by first | (unfold preMade at h; (repeat (first | (obtain ⟨rfl, _⟩ := h; rfl) | (obtain ⟨_, h⟩ := h))); done) | (unfold preMade at h; split at h <;> first | rfl | exact h.elim) | (dsimp only at h; unfold preMade at h; split at h <;> first | rfl | exact h.elim)) fun f cdv A fr s H E hg hr => ⟨_, (pss_cons (ps_set (i := 3) sc__law_made_right.nd rfl (Or.inl rfl) (q_repr (K := K) rfl T.b_repr hg hr.units rfl (pa_cons (pv 1) pa_nil))) (pss_cons (ps_set (i := 4) sc__law_made_right.nd rfl (Or.inl rfl) (pe_lst (pa_cons (pe_mk F_Summary___init__ U_Summary.mkr hg (hr.mono (by decide)) rfl U_Summary.nm pass0 (pa_cons (pv 0) (pa_cons (pv 1) pa_nil))) (pa_cons (pe_mkK F_Summary___init__ E_Summary.me kdC_ok ck_Summary___init___kdC U_Summary.mkr hg (hr.mono (by decide)) rfl U_Summary.nm pass0 (pk_cons (pv 0) (pk_cons (pv 1) pk_nil))) (pa_cons (pe_mkK F_Summary___init__ E_Summary.me kdB_ok ck_Summary___init___kdB U_Summary.mkr hg (hr.mono (by decide)) rfl U_Summary.nm pass0 (pk_cons (pv 1) (pk_cons (pv 0) pk_nil))) pa_nil))))) (pss_cons (ps_if (pt_cmpR (qo_eqP (K := K) rfl hr.units) (pv 1) (pe_tup pa_nil) (nomark _)) (pss_one (ps_set (i := 4) sc__law_made_right.nd rfl (Or.inl rfl) (pe_op op_cat (pv 4) (pe_lst (pa_cons (pe_mk1 F_Summary___init__ E_Summary.me bd1_Summary___init__ U_Summary.mkr hg (hr.mono (by decide)) rfl U_Summary.nm pass0 (pa_cons (pv 0) pa_nil)) (pa_cons (pe_mkK F_Summary___init__ E_Summary.me kdA_ok ck_Summary___init___kdA U_Summary.mkr hg (hr.mono (by decide)) rfl U_Summary.nm pass0 (pk_cons (pv 0) pk_nil)) pa_nil)))))) pss_nil) (pss_cons (ps_for PassesOwn.never rfl (pi_range1 rfl T.b_range (pa_cons pe_int pa_nil)) (pg_name (i := 5) sc__law_made_right.nd rfl (Or.inl rfl) (hf := Or.inl rfl)) (pss_one (ps_if (pt_not (pt_val (q_all (K := K) rfl rfl T.b_all rfl (pa_cons (pe_lc (own := [("_law_each", 6)]) rfl sc__law_made_right.nd (qi_list (K := K) rfl (pv 4)) (blkOk_by (N := ["_law_width", "_law_bag_here", "_law_words_here", "_law_shown_here", "_law_made", "_law_turn", "_law_each"]) (sc := defScope s__law_made_right) (by decide +kernel)) (fun _ _ _ _ _ => (pg_name (i := 6) sc__law_made_right.nd rfl (Or.inl rfl) (hf := Or.inr rfl))) (fun _ _ _ _ _ => pts_nil) (fun _ _ _ _ _ => (pe_f F__law_one_right hg (hr.mono (by decide)) rfl pass0 (pa_cons (pv 6) (pa_cons (pv 0) (pa_cons (pv 1) (pa_cons (pv 2) pa_nil))))))) pa_nil)))) (pss_one (ps_ret pe_bl)) pss_nil))) (pss_one (ps_ret (pe_cmpR op_eq (q_repr (K := K) rfl T.b_repr hg hr.units rfl (pa_cons (pv 1) pa_nil)) (pv 3) (nomark _)))))))), fun ds w hp => ?_⟩
  · obtain ⟨c, prs, xs, rfl, c1, c8, hs, hx⟩ := hp
    have hpl := hs.2.2
    have hsx : SumX c prs := hs.sumX c1 c8
    have hwr : DL.wr (.tup (prs.map prD)) := wr_one (hs.wrS (by decide +kernel) (by omega)) rfl
    refine sd_seq (sd_asg (ev_cb (ea_cons (ev_varT (by exact rfl) ?_))))
    walk_at "sts"
    refine ol_repr rfl hwr ?_
    walk_at "sts"
    refine ev_sum ?_
    walk_at "sts"
    refine ⟨_, _, rfl, hsx, ?_⟩
    walk_at "sts"
    refine ev_sumK kdC_ok E_Summary ?_
    walk_at "sts"
    refine ⟨_, _, rfl, hsx, ?_⟩
    walk_at "sts"
    refine ev_sumK kdB_ok E_Summary ?_
    walk_at "sts"
    refine ⟨_, _, rfl, hsx, ?_⟩
    refine ea_nil ?_
    refine ⟨by rw [sizeLine_eq]; simp, ?_⟩
    refine gd_name ?_
    refine sd_join (fun δ' w' => ∃ (ds : List D) (x5 x6 : Option D), δ' = [some (.int c), some (.btp (prs.map prD)), some (.lst (xs.map D.str)), some (.str (py (.tup (prs.map prD))).shown), some (.lst ds), x5, x6] ∧ (∀ d ∈ ds, d = .ins CS (sumFsB c prs)) ∧ ds.length ≤ 5 ∧ w' = w) ?_ ?_
    · refine sd_if (et_test (ev_op (ev_varT (by exact rfl) ?_)))
      walk_at "sts"
      refine o2_eqP (by simp only [isPy]; exact prs_py _) (by simp only [isPy]; exact prs_py []) (by have := prs_deep prs; simp only [deepD]; omega) ?_
      walk_at "sts"
      refine if_2 (fun e5 => ?_) (fun e5 => ?_)
      · have he : prs = [] := by
          rcases prs with _ | ⟨e, r⟩
          · rfl
          · have h := ne_empty (e :: r)
            rw [e5] at h
            have h1 : (((e :: r).length : Int) != 0) = true := by
              rw [bne_iff_ne]
              rw [List.length_cons]; omega
            rw [h1] at h
            cases h
        walk_at "sts"
        refine ev_sum0 E_Summary ?_
        walk_at "sts"
        refine ev_sumK kdA_ok E_Summary ?_
        walk_at "sts"
        refine ⟨c, [], rfl, .none c1 c8, ?_⟩
        walk_at "sts"
        refine o2_catL (by rw [sizeLine_eq]; simp) ?_
        walk_at "sts"
        refine ⟨_, _, _, rfl, fun d hd => ?_, by simp, rfl⟩
        rw [he]
        rw [he] at hd
        simp only [List.mem_append, List.mem_cons, List.not_mem_nil, or_false] at hd
        rcases hd with (h | h | h) | h | h <;> exact h
      · walk_at "sts"
        refine ⟨_, _, _, rfl, fun d hd => ?_, by simp, rfl⟩
        simp only [List.mem_cons, List.not_mem_nil, or_false] at hd
        rcases hd with h | h | h <;> exact h
    · rintro δ' w' ⟨ds, x5, x6, rfl, hds, hdl, rfl⟩
      walk_at "sts"
      refine sd_for (ei_rng1 ?_)
      walk_at "sts"
      refine ⟨⟨by decide, by decide⟩, fun i δ' w2 => ∃ x5 x6 : Option D, δ' = [some (.int c), some (.btp (prs.map prD)), some (.lst (xs.map D.str)), some (.str (py (.tup (prs.map prD))).shown), some (.lst ds), x5, x6] ∧ Keep w' w2, ⟨_, _, rfl, Keep.refl _⟩, ?_, ?_⟩
      · rintro i e δ' w2 he ⟨x5, x6, rfl, hk⟩
        walk_at "sts"
        refine ev_lc (gl_name (by decide)) (ei_lst ?_)
        walk_at "sts"
        refine fun l hl => ⟨fun i acc w3 => acc = List.replicate i (.bl true) ∧ w3 l = some (.lst acc) ∧ Keep w2 w3, ⟨rfl, put_same, (Keep.refl w2).put hl⟩, ?_, ?_⟩
        · rintro i e acc w3 he hacc ⟨rfl, _, hk3⟩
          have hi := (List.getElem?_eq_some_iff.mp he).1
          have := hds e (List.mem_of_getElem? he)
          subst this
          walk_at "sts"
          refine et_yes ?_
          rw [if_pos rfl]
          refine ev_call (ea_cons (ev_var (by exact rfl) (ea_cons (ev_var (by exact rfl) (ea_cons (ev_varT (by exact rfl) ?_))))))
          walk_at "sts"
          refine ⟨⟨c, prs, xs, rfl, c1, c8, hs, hx⟩, ?_⟩
          rintro dd w4 ⟨rfl, k4⟩
          have e1 : w4 l = w3 l := k4 l (by rw [hacc]; simp)
          refine ⟨by rw [e1, hacc], by rw [List.length_replicate, sizeLine_eq]; omega, by rw [List.replicate_succ'], put_same, (hk3.trans k4).put hl⟩
        · rintro acc w3 hacc ⟨rfl, _, hk3⟩
          walk_at "sts"
          rw [show List.replicate ds.length (D.bl true) = (List.replicate ds.length true).map D.bl by rw [List.map_replicate]]
          refine ol_all ?_
          walk_at "sts"
          refine if_f (by rw [List.all_replicate]; simp) ?_
          walk_at "sts"
          refine ⟨_, _, rfl, hk.trans fun q hq => ?_⟩
          show (if q = l then none else w3 q) = _
          rw [if_neg (show q ≠ l from fun z => hq (by rw [z]; exact hl))]
          exact hk3 q hq
      · rintro δ' w2 ⟨x5, x6, rfl, hk⟩
        refine sd_ret (ev_op (ev_cb (ea_cons (ev_varT (by exact rfl) ?_))))
        walk_at "sts"
        refine ol_repr rfl hwr ?_
        walk_at "sts"
        exact ⟨by simp, hk⟩
end
end LW
set_option Elab.async false
set_option linter.all false
set_option autoImplicit false
set_option maxRecDepth 100000
set_option maxHeartbeats 4000000
namespace LW
open PySem PySem.Spec PyProof.Rows L2 DL
/-- one step of a reading on data -/
local macro_rules | `(tactic| walk_at "st") => `(tactic| first
  | with_reducible refine sd_seq ?_
  | with_reducible refine sd_ret ?_
  | with_reducible refine sd_asg ?_
  | with_reducible refine sd_if ?_
  | with_reducible refine sd_drop ?_
  | with_reducible refine sd_par ?_
  | with_reducible refine sd_nx ?_
  | with_reducible refine sd_retN ?_
  | with_reducible refine ev_op ?_
  | with_reducible refine ev_cint ?_
  | with_reducible refine ev_cstr ?_
  | with_reducible refine ev_cbl ?_
  | with_reducible refine ev_cnon ?_
  | with_reducible refine ev_cty ?_
  | refine ev_var (by exact rfl) ?_
  | with_reducible refine ev_cb ?_
  | with_reducible refine ea_cons ?_
  | with_reducible refine ea_nil ?_
  | with_reducible refine ev_tup ?_
  | with_reducible refine ev_un ?_
  | with_reducible refine o1_U ?_
  | with_reducible refine ev_andV ?_
  | with_reducible refine ev_orV ?_
  | with_reducible refine ev_notV ?_
  | with_reducible refine ev_if ?_
  | with_reducible refine et_B ?_
  | with_reducible refine et_test ?_
  | with_reducible refine et_not ?_
  | with_reducible refine et_and ?_
  | with_reducible refine et_or ?_
  | with_reducible refine et_tru ?_
  | with_reducible refine ev_bm0 ?_
  | with_reducible refine ev_bm ?_
  | with_reducible refine ev_chain ?_
  | with_reducible refine gd_name ?_
  | with_reducible refine gd_sub ?_
  | ((with_reducible refine isIxLo ?_); refine o2_ixLo (by first | assumption | exact put_same) (by exact rfl) ?_)
  | ((with_reducible refine isI ?_); refine o2_I (by first | (show (0 : Int) < _; decide) | exact ⟨by decide, by decide⟩ | exact ⟨by decide, by decide, by decide⟩ | exact ⟨by omega, by omega⟩ | exact Or.inl ⟨by omega, by omega⟩ | exact Or.inr ⟨by decide, by decide⟩ | exact Or.inr ⟨by omega, by omega⟩) ?_)
  | refine ⟨_, _, _, _, rfl, rfl, (by first | assumption | exact put_same), (by exact rfl), ?_⟩
  | ((with_reducible refine isTupO ?_); refine ol_tupO (by first | assumption | exact put_same) ?_)
  | ((with_reducible refine isTupBO ?_); refine ol_tupBO (by first | assumption | exact put_same) ?_)
  | with_reducible refine ol_abs ?_
  | with_reducible refine ol_max2 ?_
  | with_reducible refine ol_min2 ?_
  | with_reducible refine gs_nil ?_
  | with_reducible refine gs_cons ?_
  | with_reducible refine gd_tup rfl ?_
  | with_reducible refine o2_I0 ?_
  | with_reducible refine o2_B0 ?_
  | with_reducible refine o2_eqI ?_
  | with_reducible refine o2_neI ?_
  | with_reducible refine o2_eqS ?_
  | with_reducible refine o2_neS ?_
  | with_reducible refine o2_SS ?_
  | with_reducible refine o2_isB ?_
  | with_reducible refine o2_notB ?_
  | with_reducible refine om_S0 trivial ?_
  | with_reducible refine ol_isiInt (by first | assumption | rfl) ?_
  | with_reducible refine ol_isiBool (by first | assumption | rfl) ?_
  | with_reducible refine ol_isiStr (by first | assumption | rfl) ?_
  | with_reducible refine ol_isiTup (by first | assumption | rfl) ?_
  | refine Exists.intro _ (And.intro rfl ?_)
  | with_reducible refine And.intro ty_str ?_
  | ((with_reducible refine isIxT ?_); refine o2_ixT rfl ?_)
  | ((with_reducible refine isIxL ?_); refine o2_ixL rfl ?_)
  | with_reducible refine ev_f ?_
  | with_reducible refine ev_fk kg1_ok ?_
  | with_reducible refine ev_fk kgS_ok ?_
  | refine And.intro (by first | assumption | exact Nat.le_of_ble_eq_true rfl) ?_
  | with_reducible refine ev_sl ?_
  | with_reducible refine eo_none ?_
  | with_reducible refine eo_some ?_
  | with_reducible refine ol_lenS (by rw [sizeLine_eq]; omega) ?_
  | with_reducible refine os_str (by rw [sizeLine_eq]; omega) ?_
  | ((with_reducible refine isLenD ?_); refine ol_lenD (by first | assumption | exact put_same) ?_)
  | with_reducible refine sd_dput ?_
  | with_reducible refine ev_sortItems ?_
  | with_reducible refine ev_revT ?_
  | with_reducible refine ev_dget2 ?_
  | with_reducible refine ol_lenT ?_
  | with_reducible refine ol_lenL ?_
  | with_reducible refine ol_int1 ?_
  | with_reducible refine ol_tupL ?_
  | with_reducible refine ol_tupB ?_
  | with_reducible refine ev_tupB ?_
  | with_reducible refine ol_tupT ?_
  | with_reducible refine ol_lstL ?_
  | with_reducible refine ol_lstT ?_
  | with_reducible refine os_lst ?_
  | with_reducible refine os_tupA ?_
  | with_reducible refine os_tupB ?_)
local macro_rules | `(tactic| walk_at "stn") => `(tactic| repeat walk_at "st")
local macro_rules | `(tactic| walk_at "sts") => `(tactic| repeat first | walk_at "st" | with_reducible refine ev_lst ?_)

section
variable {P : Program} {wo : World} {K : PySem.W.Frag} {mg : Str → Option Value} {base : Heap}
abbrev s__law_right : Stmt := top 45
theorem sc__law_right : FnScope ["_law_pool_here", "_law_width", "_law_words_here", "_law_bag_here"] ["_law_pool_here"] (defScope s__law_right) := ⟨rfl, rfl, rfl, by decide +kernel, rfl, by decide +kernel, by decide +kernel⟩
theorem bp__law_right : BindP "_law_right" s__law_right ["_law_pool_here"] := fun _ _ _ _ _ _ us hl => match us, hl with | [_], _ => rfl


theorem ok__law_right (T : Tx mg) (d : Dn K mg "_law_right" s__law_right)
    (F__law_bag : Fk P wo K mg base CX0 3 "_law_bag" s__law_bag ["_law_pool_here", "_law_words_here", "_law_most"] (SpD K preBag postBagB zN))
    (F__law_draw : Fk P wo K mg base CX0 1 "_law_draw" s__law_draw ["_law_pool_here", "_law_many"] (SpD K preDraw postDraw zN))
    (F__law_made_right : Fk P wo K mg base CX0 9 "_law_made_right" s__law_made_right ["_law_width", "_law_bag_here", "_law_words_here"] (SpD K preMade postTru zN))
    (F__law_words : Fk P wo K mg base CX0 2 "_law_words" s__law_words ["_law_pool_here", "_law_many"] (SpD K preWords postWords zN)) :
    Fk P wo K mg base CX0 10 "_law_right" s__law_right ["_law_pool_here"] (SpD K preRight postRight zN) := by
  refine fk_ok d sc__law_right bp__law_right (fun ds w h => by first | (unfold preRight at h; (repeat (first | (obtain ⟨rfl, _⟩ := h; rfl) | (obtain ⟨_, h⟩ := h))); done) | (unfold preRight at h; split at h <;> first | rfl | exact h.elim) | (dsimp only at h; unfold preRight at h; split at h <;> first | rfl | exact h.elim)) fun f cdv A fr s H E hg hr => ⟨_, (pss_cons (ps_set (i := 1) sc__law_right.nd rfl (Or.inl rfl) (pe_op op_add pe_int (pe_f F__law_draw hg (hr.mono (by decide)) rfl pass0 (pa_cons (pv 0) (pa_cons pe_int pa_nil))))) (pss_cons (ps_set (i := 2) sc__law_right.nd rfl (Or.inl rfl) (pe_f F__law_words hg (hr.mono (by decide)) rfl pass0 (pa_cons (pv 0) (pa_cons (pv 1) pa_nil)))) (pss_cons (ps_set (i := 3) sc__law_right.nd rfl (Or.inl rfl) (pe_f F__law_bag hg (hr.mono (by decide)) rfl pass0 (pa_cons (pv 0) (pa_cons (pv 2) (pa_cons (pe_ix (qx_list (K := K) rfl) (pe_lst (pa_cons pe_int (pa_cons pe_int (pa_cons pe_int pa_nil)))) (pe_f F__law_draw hg (hr.mono (by decide)) rfl pass0 (pa_cons (pv 0) (pa_cons pe_int pa_nil))) (fun _ _ => rfl)) pa_nil))))) (pss_one (ps_ret (pe_and (pe_f F__law_made_right hg (hr.mono (by decide)) rfl pass0 (pa_cons (pv 1) (pa_cons (pv 3) (pa_cons (pe_op op_cat (pv 2) (pe_lst (pa_cons pe_str (pa_cons pe_str pa_nil)))) pa_nil)))) (pe_one (pe_f F__law_made_right hg (hr.mono (by decide)) rfl pass0 (pa_cons (pv 1) (pa_cons (q_tupD pa_nil) (pa_cons (pv 2) pa_nil))))))))))), fun ds w hp => ?_⟩
  · obtain ⟨p, rfl, hP⟩ := hp
    walk_at "sts"
    refine ev_draw ?_
    walk_at "sts"
    refine ⟨p, 8, rfl, by first | decide | omega, by first | decide +kernel | exact log2_1000 (by omega) (by omega), hP, fun w1 c hP1 hc0 hc1 => ?_⟩
    walk_at "sts"
    refine ev_words ?_
    walk_at "sts"
    refine ⟨p, 1 + c, rfl, by omega, by omega, hP1.self, fun w3 xs hP3 hx hxl => ?_⟩
    walk_at "sts"
    have hP3 := Pm.of (hP1.trans hP3)
    refine ev_bagB ?_
    walk_at "sts"
    refine ev_draw ?_
    walk_at "sts"
    refine ⟨p, 3, rfl, by first | decide | omega, by first | decide +kernel | exact log2_1000 (by omega) (by omega), hP3.1, fun w4 j hP4 hj0 hj1 => ?_⟩
    walk_at "sts"
    refine o2_pick hj0 hj1 fun d0 hd0 => ?_
    obtain ⟨m, hm_, m0, m1⟩ : ∃ m : Int, d0 = .int m ∧ 0 ≤ m ∧ m ≤ 10 ^ 30 := by
      simp only [List.mem_cons, List.not_mem_nil, or_false] at hd0
      (repeat (rcases hd0 with h | hd0; · exact ⟨_, h, by decide, by decide +kernel⟩))
      exact ⟨_, hd0, by decide, by decide +kernel⟩
    subst hm_
    walk_at "sts"
    refine ⟨p, xs, m, rfl, hx, by omega, m0, m1, hP4.self, fun w5 prs hP5 hprs => ?_⟩
    walk_at "sts"
    have hP5 := (hP3.trans (Pm.of hP4)).trans hP5
    have hprs : SumP (10 ^ 30) (1 + c).toNat prs := hprs.more (by omega)
    refine ev_call ?_
    walk_at "sts"
    have hzl : ([D.str ("z" : Str), D.str ("less" : Str)]) = [("z" : Str), ("less" : Str)].map D.str := rfl
    rw [hzl]
    refine o2_catL (by rw [List.length_map, List.length_map, sizeLine_eq]; simp only [List.length_cons, List.length_nil]; omega) ?_
    rw [← List.map_append]
    walk_at "sts"
    refine ⟨⟨1 + c, prs, xs ++ [("z" : Str), ("less" : Str)], rfl, by omega, by omega, hprs, fun x hxm => ?_⟩, ?_⟩
    · rcases List.mem_append.mp hxm with h | h
      · exact hx.1 x h
      · simp only [List.mem_cons, List.not_mem_nil, or_false] at h
        rcases h with rfl | rfl <;> decide +kernel
    rintro dd w6 ⟨rfl, k6⟩
    walk_at "sts"
    rw [if_pos rfl]
    refine ev_call ?_
    walk_at "sts"
    refine ⟨⟨1 + c, [], xs, rfl, by omega, by omega, .none, hx.1⟩, ?_⟩
    rintro dd w7 ⟨rfl, k7⟩
    exact ⟨rfl, fun p' e => by cases e; exact hP5.keep (k6.trans k7)⟩
end
end LW
set_option Elab.async false
set_option linter.all false
set_option autoImplicit false
set_option maxRecDepth 100000
set_option maxHeartbeats 4000000
namespace LW
open PySem PySem.Spec PyProof.Rows L2 DL
/-- one step of a reading on data -/
local macro_rules | `(tactic| walk_at "st") => `(tactic| first
  | with_reducible refine sd_seq ?_
  | with_reducible refine sd_ret ?_
  | with_reducible refine sd_asg ?_
  | with_reducible refine sd_if ?_
  | with_reducible refine sd_drop ?_
  | with_reducible refine sd_par ?_
  | with_reducible refine sd_nx ?_
  | with_reducible refine sd_retN ?_
  | with_reducible refine ev_op ?_
  | with_reducible refine ev_cint ?_
  | with_reducible refine ev_cstr ?_
  | with_reducible refine ev_cbl ?_
  | with_reducible refine ev_cnon ?_
  | with_reducible refine ev_cty ?_
  | refine ev_var (by exact rfl) ?_
  | with_reducible refine ev_cb ?_
  | with_reducible refine ea_cons ?_
  | with_reducible refine ea_nil ?_
  | with_reducible refine ev_tup ?_
  | with_reducible refine ev_un ?_
  | with_reducible refine o1_U ?_
  | with_reducible refine ev_andV ?_
  | with_reducible refine ev_orV ?_
  | with_reducible refine ev_notV ?_
  | with_reducible refine ev_if ?_
  | with_reducible refine et_B ?_
  | with_reducible refine et_test ?_
  | with_reducible refine et_not ?_
  | with_reducible refine et_and ?_
  | with_reducible refine et_or ?_
  | with_reducible refine et_tru ?_
  | with_reducible refine ev_bm0 ?_
  | with_reducible refine ev_bm ?_
  | with_reducible refine ev_chain ?_
  | with_reducible refine gd_name ?_
  | with_reducible refine gd_sub ?_
  | ((with_reducible refine isIxLo ?_); refine o2_ixLo (by first | assumption | exact put_same) (by exact rfl) ?_)
  | ((with_reducible refine isI ?_); refine o2_I (by first | (show (0 : Int) < _; decide) | exact ⟨by decide, by decide⟩ | exact ⟨by decide, by decide, by decide⟩ | exact ⟨by omega, by omega⟩ | exact Or.inl ⟨by omega, by omega⟩ | exact Or.inr ⟨by decide, by decide⟩ | exact Or.inr ⟨by omega, by omega⟩) ?_)
  | refine ⟨_, _, _, _, rfl, rfl, (by first | assumption | exact put_same), (by exact rfl), ?_⟩
  | ((with_reducible refine isTupO ?_); refine ol_tupO (by first | assumption | exact put_same) ?_)
  | ((with_reducible refine isTupBO ?_); refine ol_tupBO (by first | assumption | exact put_same) ?_)
  | with_reducible refine ol_abs ?_
  | with_reducible refine ol_max2 ?_
  | with_reducible refine ol_min2 ?_
  | with_reducible refine gs_nil ?_
  | with_reducible refine gs_cons ?_
  | with_reducible refine gd_tup rfl ?_
  | with_reducible refine o2_I0 ?_
  | with_reducible refine o2_B0 ?_
  | with_reducible refine o2_eqI ?_
  | with_reducible refine o2_neI ?_
  | with_reducible refine o2_eqS ?_
  | with_reducible refine o2_neS ?_
  | with_reducible refine o2_SS ?_
  | with_reducible refine o2_isB ?_
  | with_reducible refine o2_notB ?_
  | with_reducible refine om_S0 trivial ?_
  | with_reducible refine ol_isiInt (by first | assumption | rfl) ?_
  | with_reducible refine ol_isiBool (by first | assumption | rfl) ?_
  | with_reducible refine ol_isiStr (by first | assumption | rfl) ?_
  | with_reducible refine ol_isiTup (by first | assumption | rfl) ?_
  | refine Exists.intro _ (And.intro rfl ?_)
  | with_reducible refine And.intro ty_str ?_
  | ((with_reducible refine isIxT ?_); refine o2_ixT rfl ?_)
  | ((with_reducible refine isIxL ?_); refine o2_ixL rfl ?_)
  | with_reducible refine ev_f ?_
  | with_reducible refine ev_fk kg1_ok ?_
  | with_reducible refine ev_fk kgS_ok ?_
  | refine And.intro (by first | assumption | exact Nat.le_of_ble_eq_true rfl) ?_
  | with_reducible refine ev_sl ?_
  | with_reducible refine eo_none ?_
  | with_reducible refine eo_some ?_
  | with_reducible refine ol_lenS (by rw [sizeLine_eq]; omega) ?_
  | with_reducible refine os_str (by rw [sizeLine_eq]; omega) ?_
  | ((with_reducible refine isLenD ?_); refine ol_lenD (by first | assumption | exact put_same) ?_)
  | with_reducible refine sd_dput ?_
  | with_reducible refine ev_sortItems ?_
  | with_reducible refine ev_revT ?_
  | with_reducible refine ev_dget2 ?_
  | with_reducible refine ol_lenT ?_
  | with_reducible refine ol_lenL ?_
  | with_reducible refine ol_int1 ?_
  | with_reducible refine ol_tupL ?_
  | with_reducible refine ol_tupB ?_
  | with_reducible refine ev_tupB ?_
  | with_reducible refine ol_tupT ?_
  | with_reducible refine ol_lstL ?_
  | with_reducible refine ol_lstT ?_
  | with_reducible refine os_lst ?_
  | with_reducible refine os_tupA ?_
  | with_reducible refine os_tupB ?_)
local macro_rules | `(tactic| walk_at "stn") => `(tactic| repeat walk_at "st")
local macro_rules | `(tactic| walk_at "sts") => `(tactic| repeat first | walk_at "st" | with_reducible refine ev_lst ?_)

section
variable {P : Program} {wo : World} {K : PySem.W.Frag} {mg : Str → Option Value} {base : Heap}
abbrev s_law : Stmt := top 46
theorem sc_law : FnScope ["_law_script", "_law_eight", "_law_word", "_law_k"] ["_law_script"] (defScope s_law) := ⟨rfl, rfl, rfl, by decide +kernel, rfl, by decide +kernel, by decide +kernel⟩
theorem bp_law : BindP "law" s_law ["_law_script"] := fun _ _ _ _ _ _ us hl => match us, hl with | [_], _ => rfl


theorem ok_law (T : Tx mg) (d : Dn K mg "law" s_law)
    (F__law_cell : Fk P wo K mg base CX0 1 "_law_cell" s__law_cell ["_law_script", "_law_k"] (SpD K (preCell K) postInt zN))
    (F__law_made_right : Fk P wo K mg base CX0 9 "_law_made_right" s__law_made_right ["_law_width", "_law_bag_here", "_law_words_here"] (SpD K preMade postTru zN))
    (F__law_pool : Fk P wo K mg base CX0 1 "_law_pool" s__law_pool ["_law_cell_here"] (SpD K preInt postPool zN))
    (F__law_right : Fk P wo K mg base CX0 10 "_law_right" s__law_right ["_law_pool_here"] (SpD K preRight postRight zN)) :
    Fk P wo K mg base CX0 11 "law" s_law ["_law_script"] (SpD K (preLaw K) postLaw zN) := by
  refine fk_ok d sc_law bp_law (fun ds w h => by first | (unfold preLaw at h; (repeat (first | (obtain ⟨rfl, _⟩ := h; rfl) | (obtain ⟨_, h⟩ := h))); done) | (unfold preLaw at h; split at h <;> first | rfl | exact h.elim) | (dsimp only at h; unfold preLaw at h; split at h <;> first | rfl | exact h.elim)) fun f cdv A fr s H E hg hr => ⟨_, (pss_cons (ps_set (i := 1) sc_law.nd rfl (Or.inl rfl) (q_tupleB (K := K) rfl T.b_tuple rfl (pa_cons (pe_lc (own := [("_law_word", 2)]) rfl sc_law.nd (pi_str pe_str) (blkOk_by (N := ["_law_script", "_law_eight", "_law_word", "_law_k"]) (sc := defScope s_law) (by decide +kernel)) (fun _ _ _ _ _ => (pg_name (i := 2) sc_law.nd rfl (Or.inl rfl) (hf := Or.inr rfl))) (fun _ _ _ _ _ => pts_nil) (fun _ _ _ _ _ => (pe_tup (pa_cons (pv 2) (pa_cons (pe_op op_pow pe_int pe_int) pa_nil))))) pa_nil))) (pss_cons (ps_if (PW.pt (pw_or (pt_not (pt_val (pe_f F__law_made_right hg (hr.mono (by decide)) rfl pass0 (pa_cons pe_int (pa_cons (pv 1) (pa_cons (pe_lst (pa_cons pe_str (pa_cons pe_str (pa_cons pe_str pa_nil)))) pa_nil)))))) (pw_or1 (pt_not (pt_val (pe_f F__law_made_right hg (hr.mono (by decide)) rfl pass0 (pa_cons pe_int (pa_cons (q_tupD (pa_cons (pe_tup (pa_cons pe_str (pa_cons pe_int pa_nil))) pa_nil)) (pa_cons (pe_lst (pa_cons pe_str pa_nil)) pa_nil))))))))) (pss_one (ps_ret pe_bl)) pss_nil) (pss_one (ps_ret (q_all (K := K) rfl rfl T.b_all rfl (pa_cons (pe_lc (own := [("_law_k", 3)]) rfl sc_law.nd (pi_range1 rfl T.b_range (pa_cons (b_max2 rfl T.b_max rfl (pa_cons pe_int (pa_cons (b_min2 rfl T.b_min rfl (pa_cons (q_len (K := K) rfl T.b_len rfl (pa_cons (pv 0) pa_nil)) (pa_cons pe_int pa_nil))) pa_nil))) pa_nil)) (blkOk_by (N := ["_law_script", "_law_eight", "_law_word", "_law_k"]) (sc := defScope s_law) (by decide +kernel)) (fun _ _ _ _ _ => (pg_name (i := 3) sc_law.nd rfl (Or.inl rfl) (hf := Or.inr rfl))) (fun _ _ _ _ _ => pts_nil) (fun _ _ _ _ _ => (pe_f F__law_right hg (hr.mono (by decide)) rfl pass0 (pa_cons (pe_f F__law_pool hg (hr.mono (by decide)) rfl pass0 (pa_cons (pe_f F__law_cell hg (hr.mono (by decide)) rfl pass0 (pa_cons (pv 0) (pa_cons (pv 3) pa_nil))) pa_nil)) pa_nil)))) pa_nil)))))), fun ds w hp => ?_⟩
  · obtain ⟨a, ns, rfl, hn, hS⟩ := hp
    walk_at "sts"
    have e8 : (chrD (Str.ofString "abcdefgh")).map (fun d => D.tup [d, .int (10 ^ Int.toNat 30)]) = ([("a" : Str), ("b" : Str), ("c" : Str), ("d" : Str), ("e" : Str), ("f" : Str), ("g" : Str), ("h" : Str)].map fun x => (x, (10 ^ 30 : Int))).map prD := by rfl
    have h8 : SumP (10 ^ 30) (8 : Int).toNat ([("a" : Str), ("b" : Str), ("c" : Str), ("d" : Str), ("e" : Str), ("f" : Str), ("g" : Str), ("h" : Str)].map fun x => (x, (10 ^ 30 : Int))) := ⟨by unfold asc; decide +kernel, by decide +kernel, by decide⟩
    have hz : SumP (10 ^ 30) (1 : Int).toNat [(("zzzzzzzz" : Str), (1 : Int))] := ⟨by unfold asc; decide +kernel, by decide +kernel, by decide⟩
    refine lc_map (f := fun d => D.tup [d, .int (10 ^ Int.toNat 30)]) (gl_name (by decide)) (ei_str ?_)
    walk_at "sts"
    rw [e8]
    refine ⟨fun l cc i d hl hd => ?_, ?_⟩
    · walk_at "sts"
      exact ⟨rfl, rfl⟩
    · walk_at "sts"
      refine ev_call ?_
      walk_at "sts"
      rw [show [D.str ("a" : Str), .str ("h" : Str), .str ("i" : Str)] = [("a" : Str), ("h" : Str), ("i" : Str)].map D.str from rfl]
      refine ⟨⟨8, _, _, rfl, by decide, by decide, h8, by decide +kernel⟩, ?_⟩
      rintro dd w6 ⟨rfl, k6⟩
      walk_at "sts"
      refine if_f rfl ?_
      walk_at "sts"
      refine ev_call ?_
      walk_at "sts"
      rw [show [D.str ("z" : Str)] = [("z" : Str)].map D.str from rfl]
      refine ⟨⟨1, [(("zzzzzzzz" : Str), (1 : Int))], _, rfl, by decide, by decide, hz, by decide +kernel⟩, ?_⟩
      rintro dd w7 ⟨rfl, k7⟩
      walk_at "sts"
      refine if_f rfl ?_
      walk_at "sts"
      have hS := hS.next ((k6.trans k7) a)
      refine ev_lc (gl_name (by decide)) (ei_rng1 ?_)
      walk_at "sts"
      refine ol_lenK hS ?_
      walk_at "sts"
      obtain ⟨q, hqe, hq0, hq8⟩ : ∃ q : Int, q = (if (if 8 < (ns.length : Int) then 8 else (ns.length : Int)) > 2 then if 8 < (ns.length : Int) then 8 else (ns.length : Int) else 2) ∧ 0 ≤ q ∧ q ≤ 8 := ⟨_, rfl, by split <;> split <;> omega, by split <;> split <;> omega⟩
      rw [← hqe]
      refine ⟨⟨by omega, by omega⟩, fun l hl => ⟨fun i acc w' => acc = List.replicate i (.bl true) ∧ w' l = some (.lst acc) ∧ Scr K w' a ns, ⟨rfl, put_same, Scr.next hS fun e => put_ne fun z => e (z ▸ hl)⟩, ?_, ?_⟩⟩
      · rintro i e acc w' he hacc ⟨rfl, _, hS'⟩
        obtain ⟨rfl, hi⟩ := rngD_get he
        rw [Int.zero_add]
        walk_at "sts"
        refine et_yes ?_
        rw [if_pos rfl]
        refine ev_call ?_
        walk_at "sts"
        refine ev_call ?_
        walk_at "sts"
        refine ev_call ?_
        walk_at "sts"
        refine ⟨⟨a, ns, i, rfl, by omega, hn, hS'⟩, ?_⟩
        rintro _ w2 ⟨hw2, c, rfl⟩
        rw [hw2]
        walk_at "sts"
        refine ⟨⟨c, rfl⟩, ?_⟩
        rintro _ w3 ⟨p, hp, rfl, hP⟩
        walk_at "sts"
        refine ⟨⟨p, rfl, hP.self⟩, ?_⟩
        rintro _ w4 ⟨rfl, hPm⟩
        have hPm := hPm p rfl
        have fr : ∀ b, w' b ≠ none → w4 b = w' b := fun b hb => by
          have nb : b ≠ p := fun z => hb (z ▸ hp)
          have e1 : w3 b = w' b := hP.ne nb
          rw [hPm.2 b nb (by rw [e1]; exact hb), e1]
        have hl4 : w4 l = some (.lst (List.replicate i (.bl true))) := by rw [fr l (by rw [hacc]; simp), hacc]
        refine ⟨hl4, by rw [List.length_replicate, sizeLine_eq]; omega, ?_, put_same, ?_⟩
        · rw [List.replicate_succ']
        · rcases hS' with h | h
          · exact .inl h
          · have na : a ≠ l := fun z => by
              rw [z, hacc] at h
              cases h
            exact .inr (by rw [put_ne na, fr a (by rw [h]; simp)]; exact h)
      · rintro acc w' hacc ⟨rfl, _, hS'⟩
        walk_at "sts"
        rw [rngD_len]
        have e : List.replicate q.toNat (D.bl true) = (List.replicate q.toNat true).map D.bl := by rw [List.map_replicate]
        rw [e]
        refine ol_all ?_
        show D.bl _ = D.bl true
        rw [List.all_replicate]
        simp
end
end LW
set_option Elab.async false
set_option linter.all false
set_option autoImplicit false
set_option maxRecDepth 100000
set_option maxHeartbeats 4000000
namespace LW
open PySem PySem.Spec PyProof.Rows L2 DL
theorem meb_of {K : PySem.W.Frag} {C f T a0 : Addr} {m qual : Str} {st : Stmt} {oc kV dc pm cd ct oc2 : Value} {od an od2 : Option Addr} {n n3 : Nat} {sl sl2 sl3 : Array (Option Value)}
    (a1 : PySem.W.findIn K (.ref C) m = some (some (.ref f))) (a2 : K.lookup f = some ⟨oc, od, .func (PySem.W.fnOf m qual (defArgs st) (defBody st) (defScope st) (.ref T) kV dc pm an cd ct), sl⟩)
    (a3 : K.lookup T = some ⟨oc2, od2, .seq #[.ref a0] n, sl2⟩) (a4 : K.lookup a0 = some ⟨.type "tuple", none, .seq #[] n3, sl3⟩) : MEB K C m qual st a0 :=
  ⟨⟨f, _, ⟨oc, od, T, _, n, kV, dc, pm, an, cd, ct, sl, rfl, a2, a3, rfl⟩, a1, fun H => .inr ⟨_, #[], n3, a4, rfl, rfl, Nat.zero_le _, .nil⟩⟩, _, a4, rfl⟩
section
variable {P : Program} {wo : World} {K : PySem.W.Frag} {mg : Str → Option Value}
/-- all defs, from what the top has written -/
theorem all_ok {CS a0 : Addr} (T : Tx mg) (E_Summary : MEB K CS "__init__" "Summary.__init__" s_Summary___init__ a0) (K_Summary_tuple : KitF K CS "tuple") (NA : NoAttr K CS "capacity") (NB : NoAttr K CS "counts") (N_Summary___bool__ : NoAttr K CS "__bool__") (U_Summary : Uc K mg "Summary" CS) (d_Summary___init__ : MDD K CS "__init__" "Summary.__init__" s_Summary___init__) (d_Summary___len__ : MD K CS "__len__" "Summary.__len__" s_Summary___len__) (d_Summary___str__ : MD K CS "__str__" "Summary.__str__" s_Summary___str__) (d_Summary___repr__ : MD K CS "__repr__" "Summary.__repr__" s_Summary___repr__) (d_Summary_tally : MD K CS "tally" "Summary.tally" s_Summary_tally) (d_Summary_kept : MD K CS "kept" "Summary.kept" s_Summary_kept) (d_Summary_is_full : MD K CS "is_full" "Summary.is_full" s_Summary_is_full) (d_is_integer : Dn K mg "is_integer" s_is_integer) (d_is_integer_from : Dn K mg "is_integer_from" s_is_integer_from) (d_is_name : Dn K mg "is_name" s_is_name) (d_is_pair : Dn K mg "is_pair" s_is_pair) (d_check_name : Dn K mg "check_name" s_check_name) (d_format_number : Dn K mg "format_number" s_format_number) (d_good_pairs : Dn K mg "good_pairs" s_good_pairs) (d_check_counts : Dn K mg "check_counts" s_check_counts) (d_total : Dn K mg "total" s_total) (d_count_of : Dn K mg "count_of" s_count_of) (d_counts_text : Dn K mg "counts_text" s_counts_text) (d_is_capacity : Dn K mg "is_capacity" s_is_capacity) (d_check_capacity : Dn K mg "check_capacity" s_check_capacity) (d_check_counters : Dn K mg "check_counters" s_check_counters) (d_is_summary : Dn K mg "is_summary" s_is_summary) (d__law_cell : Dn K mg "_law_cell" s__law_cell) (d__law_pool : Dn K mg "_law_pool" s__law_pool) (d__law_draw : Dn K mg "_law_draw" s__law_draw) (d__law_words : Dn K mg "_law_words" s__law_words) (d__law_often : Dn K mg "_law_often" s__law_often) (d__law_bag : Dn K mg "_law_bag" s__law_bag) (d__law_sum : Dn K mg "_law_sum" s__law_sum) (d__law_whole : Dn K mg "_law_whole" s__law_whole) (d__law_shown : Dn K mg "_law_shown" s__law_shown) (d__law_one_right : Dn K mg "_law_one_right" s__law_one_right) (d__law_made_right : Dn K mg "_law_made_right" s__law_made_right) (d__law_right : Dn K mg "_law_right" s__law_right) (d_law : Dn K mg "law" s_law) {fa : Addr} (e : mg "law" = some (.ref fa)) :
    ∃ fd : FuncData, Binds K fd ["_law_script"] [] ∧ ∀ base : Heap, K.In base ∧ base.Ns mainGlobals mg → Gn P wo K mg base CX0 11 fa fd ["_law_script"] (SpD K (preLaw K) postLaw zN) := by
  refine gn_end (fun base _ => ?_) d_law bp_law e
  have F_is_integer := ok_is_integer (P := P) (wo := wo) (base := base) T d_is_integer 
  have F_is_integer_from := ok_is_integer_from (P := P) (wo := wo) (base := base) T d_is_integer_from F_is_integer
  have F_is_name := ok_is_name (P := P) (wo := wo) (base := base) T d_is_name 
  have F_is_pair := ok_is_pair (P := P) (wo := wo) (base := base) T d_is_pair F_is_name F_is_integer_from
  have F_check_name := ok_check_name (P := P) (wo := wo) (base := base) T d_check_name F_is_name
  have F_format_number := ok_format_number (P := P) (wo := wo) (base := base) T d_format_number 
  have F_good_pairs := ok_good_pairs (P := P) (wo := wo) (base := base) T d_good_pairs F_is_pair
  have F_check_counts := ok_check_counts (P := P) (wo := wo) (base := base) T d_check_counts F_good_pairs
  have F_total := ok_total (P := P) (wo := wo) (base := base) T d_total F_check_counts
  have F_count_of := ok_count_of (P := P) (wo := wo) (base := base) T d_count_of F_check_counts F_check_name
  have F_counts_text := ok_counts_text (P := P) (wo := wo) (base := base) T d_counts_text F_format_number
  have F_is_capacity := ok_is_capacity (P := P) (wo := wo) (base := base) T d_is_capacity F_is_integer_from
  have F_check_capacity := ok_check_capacity (P := P) (wo := wo) (base := base) T d_check_capacity F_is_capacity
  have F_check_counters := ok_check_counters (P := P) (wo := wo) (base := base) T d_check_counters F_good_pairs
  have F_Summary___init__ := ok_Summary___init__ (P := P) (wo := wo) (base := base) T d_Summary___init__ U_Summary NA NB F_check_capacity F_check_counters
  have F_Summary___len__ := ok_Summary___len__ (P := P) (wo := wo) (base := base) T d_Summary___len__ U_Summary NB
  have F_Summary___str__ := ok_Summary___str__ (P := P) (wo := wo) (base := base) T d_Summary___str__ U_Summary NB F_counts_text
  have F_Summary___repr__ := ok_Summary___repr__ (P := P) (wo := wo) (base := base) T d_Summary___repr__ U_Summary NA NB F_counts_text
  have F_Summary_tally := ok_Summary_tally (P := P) (wo := wo) (base := base) T d_Summary_tally U_Summary NB F_count_of
  have F_Summary_kept := ok_Summary_kept (P := P) (wo := wo) (base := base) T d_Summary_kept U_Summary NB F_total
  have F_Summary_is_full := ok_Summary_is_full (P := P) (wo := wo) (base := base) T d_Summary_is_full U_Summary NA NB
  have F_is_summary := ok_is_summary (P := P) (wo := wo) (base := base) T d_is_summary U_Summary K_Summary_tuple
  have F__law_cell := ok__law_cell (P := P) (wo := wo) (base := base) T d__law_cell 
  have F__law_pool := ok__law_pool (P := P) (wo := wo) (base := base) T d__law_pool 
  have F__law_draw := ok__law_draw (P := P) (wo := wo) (base := base) T d__law_draw 
  have F__law_words := ok__law_words (P := P) (wo := wo) (base := base) T d__law_words F__law_draw
  have F__law_often := ok__law_often (P := P) (wo := wo) (base := base) T d__law_often F__law_draw
  have F__law_bag := ok__law_bag (P := P) (wo := wo) (base := base) T d__law_bag F__law_draw F__law_often
  have F__law_sum := ok__law_sum (P := P) (wo := wo) (base := base) T d__law_sum 
  have F__law_whole := ok__law_whole (P := P) (wo := wo) (base := base) T d__law_whole 
  have F__law_shown := ok__law_shown (P := P) (wo := wo) (base := base) T d__law_shown 
  have F__law_one_right := ok__law_one_right (P := P) (wo := wo) (base := base) T d__law_one_right U_Summary NA NB N_Summary___bool__ F_Summary___len__ F_Summary___repr__ F_Summary___str__ F_Summary_is_full F_Summary_kept F_Summary_tally F__law_shown F__law_sum F__law_whole F_is_summary d_Summary_tally
  have F__law_made_right := ok__law_made_right (P := P) (wo := wo) (base := base) T d__law_made_right U_Summary NA NB E_Summary F_Summary___init__ F__law_one_right
  have F__law_right := ok__law_right (P := P) (wo := wo) (base := base) T d__law_right F__law_bag F__law_draw F__law_made_right F__law_words
  have F_law := ok_law (P := P) (wo := wo) (base := base) T d_law F__law_cell F__law_made_right F__law_pool F__law_right
  exact F_law
theorem us_Summary {CS a0 : Addr} (u_ : Uc K mg "Summary" CS) (n_kit_tuple : KitF K CS "tuple") (n_capacity : PySem.W.findIn K (.ref CS) "capacity" = some none) (n_counts : PySem.W.findIn K (.ref CS) "counts" = some none) (n___bool__ : PySem.W.findIn K (.ref CS) "__bool__" = some none) (d_Summary___init__ : MDD K CS "__init__" "Summary.__init__" s_Summary___init__) (d_Summary___len__ : MD K CS "__len__" "Summary.__len__" s_Summary___len__) (d_Summary___str__ : MD K CS "__str__" "Summary.__str__" s_Summary___str__) (d_Summary___repr__ : MD K CS "__repr__" "Summary.__repr__" s_Summary___repr__) (d_Summary_tally : MD K CS "tally" "Summary.tally" s_Summary_tally) (d_Summary_kept : MD K CS "kept" "Summary.kept" s_Summary_kept) (d_Summary_is_full : MD K CS "is_full" "Summary.is_full" s_Summary_is_full) (e_E_Summary : MEB K CS "__init__" "Summary.__init__" s_Summary___init__ a0) :
    ∃ CS : Addr, ∃ a0 : Addr, Uc K mg "Summary" CS ∧ KitF K CS "tuple" ∧ NoAttr K CS "capacity" ∧ NoAttr K CS "counts" ∧ NoAttr K CS "__bool__" ∧ MDD K CS "__init__" "Summary.__init__" s_Summary___init__ ∧ MD K CS "__len__" "Summary.__len__" s_Summary___len__ ∧ MD K CS "__str__" "Summary.__str__" s_Summary___str__ ∧ MD K CS "__repr__" "Summary.__repr__" s_Summary___repr__ ∧ MD K CS "tally" "Summary.tally" s_Summary_tally ∧ MD K CS "kept" "Summary.kept" s_Summary_kept ∧ MD K CS "is_full" "Summary.is_full" s_Summary_is_full ∧ MEB K CS "__init__" "Summary.__init__" s_Summary___init__ a0 := ⟨CS, a0, u_, n_kit_tuple, n_capacity, n_counts, n___bool__, d_Summary___init__, d_Summary___len__, d_Summary___str__, d_Summary___repr__, d_Summary_tally, d_Summary_kept, d_Summary_is_full, e_E_Summary⟩
end
end LW
open PySem PySem.W PyProof.Rows in
set_option maxRecDepth 100000 in
set_option maxHeartbeats 0 in
theorem PySem.Challenge.cw_tallyplans_k04_summaries_made_holds : PySem.Challenge.rw_tallyplans_k04_summaries_made.Holds := by
  w_on; o_law; k_head; (case hw => w_witness2)
  k_fill
  refine LW.walk_end (l := PySem.Challenge.rw_tallyplans_k04_summaries_made) (k := 11) (x := "_law_script") rfl (by decide) rfl ⟨rfl, by decide, by decide⟩ (fun w h Y => PySem.W.kIn_of Y) ?F
  case F =>
    intro wo mg fa h KX G hmg
    have T : LW.Tx mg := by
      refine' ⟨PySem.W.mg_none_of KX G ?b_abs, PySem.W.mg_none_of KX G ?b_all, PySem.W.mg_none_of KX G ?b_bool, PySem.W.mg_none_of KX G ?b_divmod, PySem.W.mg_none_of KX G ?b_enumerate, PySem.W.mg_none_of KX G ?b_int, PySem.W.mg_none_of KX G ?b_isinstance, PySem.W.mg_none_of KX G ?b_len, PySem.W.mg_none_of KX G ?b_max, PySem.W.mg_none_of KX G ?b_min, PySem.W.mg_none_of KX G ?b_range, PySem.W.mg_none_of KX G ?b_repr, PySem.W.mg_none_of KX G ?b_reversed, PySem.W.mg_none_of KX G ?b_sorted, PySem.W.mg_none_of KX G ?b_str, PySem.W.mg_none_of KX G ?b_sum, PySem.W.mg_none_of KX G ?b_tuple, LW.ki_of KX G ?k_BLOCK, LW.ki_of KX G ?k_BLOCK_DIGITS, LW.ki_of KX G ?k_LONGEST_NAME, LW.ki_of KX G ?k_MAX_CAPACITY, LW.ki_of KX G ?k_MAX_NAMES⟩
      (case b_abs => k_is)
      (case b_all => k_is)
      (case b_bool => k_is)
      (case b_divmod => k_is)
      (case b_enumerate => k_is)
      (case b_int => k_is)
      (case b_isinstance => k_is)
      (case b_len => k_is)
      (case b_max => k_is)
      (case b_min => k_is)
      (case b_range => k_is)
      (case b_repr => k_is)
      (case b_reversed => k_is)
      (case b_sorted => k_is)
      (case b_str => k_is)
      (case b_sum => k_is)
      (case b_tuple => k_is)
      (case k_BLOCK => k_is)
      (case k_BLOCK_DIGITS => k_is)
      (case k_LONGEST_NAME => k_is)
      (case k_MAX_CAPACITY => k_is)
      (case k_MAX_NAMES => k_is)
    have US_Summary := by
      refine' LW.us_Summary (LW.uc_of (name := "Summary") KX G ?u0 ?u1 ?u2 ?u3 ?u4 ?u5 ?u6 ?u7 ?u8 ?u9 ?u10) (LW.kitF_of (T := "tuple") ?kit_tuple_0 ?kit_tuple_1 ?kit_tuple_2) ?n_capacity ?n_counts ?n___bool__ (LW.mdd_of (st := LW.s_Summary___init__) ?Summary___init___0 ?Summary___init___1 ?Summary___init___2 ?Summary___init___3 ?Summary___init___4 ?Summary___init___5) (LW.md_of (st := LW.s_Summary___len__) ?Summary___len___0 ?Summary___len___1 ?Summary___len___2 ?Summary___len___3 ?Summary___len___4) (LW.md_of (st := LW.s_Summary___str__) ?Summary___str___0 ?Summary___str___1 ?Summary___str___2 ?Summary___str___3 ?Summary___str___4) (LW.md_of (st := LW.s_Summary___repr__) ?Summary___repr___0 ?Summary___repr___1 ?Summary___repr___2 ?Summary___repr___3 ?Summary___repr___4) (LW.md_of (st := LW.s_Summary_tally) ?Summary_tally_0 ?Summary_tally_1 ?Summary_tally_2 ?Summary_tally_3 ?Summary_tally_4) (LW.md_of (st := LW.s_Summary_kept) ?Summary_kept_0 ?Summary_kept_1 ?Summary_kept_2 ?Summary_kept_3 ?Summary_kept_4) (LW.md_of (st := LW.s_Summary_is_full) ?Summary_is_full_0 ?Summary_is_full_1 ?Summary_is_full_2 ?Summary_is_full_3 ?Summary_is_full_4) (LW.meb_of (st := LW.s_Summary___init__) ?me_0 ?me_1 ?me_2 ?me_3)
      (case u0 => k_is)
      (case u1 => k_is)
      (case u2 => k_is)
      (case u3 => k_is)
      (case u4 => k_is)
      (case u5 => k_is)
      (case u6 => k_is)
      (case u7 => k_is)
      (case u8 => k_is)
      (case u9 => k_is)
      (case u10 => k_is)
      (case kit_tuple_0 => k_is)
      (case kit_tuple_1 => k_is)
      (case kit_tuple_2 => k_is)
      (case n_capacity => k_is)
      (case n_counts => k_is)
      (case n___bool__ => k_is)
      (case Summary___init___0 => k_is)
      (case Summary___init___1 => k_is)
      (case Summary___init___2 => k_is)
      (case Summary___init___3 => k_is)
      (case Summary___init___4 => k_is)
      (case Summary___init___5 => k_is)
      (case Summary___len___0 => k_is)
      (case Summary___len___1 => k_is)
      (case Summary___len___2 => k_is)
      (case Summary___len___3 => k_is)
      (case Summary___len___4 => k_is)
      (case Summary___str___0 => k_is)
      (case Summary___str___1 => k_is)
      (case Summary___str___2 => k_is)
      (case Summary___str___3 => k_is)
      (case Summary___str___4 => k_is)
      (case Summary___repr___0 => k_is)
      (case Summary___repr___1 => k_is)
      (case Summary___repr___2 => k_is)
      (case Summary___repr___3 => k_is)
      (case Summary___repr___4 => k_is)
      (case Summary_tally_0 => k_is)
      (case Summary_tally_1 => k_is)
      (case Summary_tally_2 => k_is)
      (case Summary_tally_3 => k_is)
      (case Summary_tally_4 => k_is)
      (case Summary_kept_0 => k_is)
      (case Summary_kept_1 => k_is)
      (case Summary_kept_2 => k_is)
      (case Summary_kept_3 => k_is)
      (case Summary_kept_4 => k_is)
      (case Summary_is_full_0 => k_is)
      (case Summary_is_full_1 => k_is)
      (case Summary_is_full_2 => k_is)
      (case Summary_is_full_3 => k_is)
      (case Summary_is_full_4 => k_is)
      (case me_0 => k_is)
      (case me_1 => k_is)
      (case me_2 => k_is)
      (case me_3 => k_is)
    obtain ⟨CS, a0, U_Summary, K_Summary_tuple, NA, NB, N_Summary___bool__, d_Summary___init__, d_Summary___len__, d_Summary___str__, d_Summary___repr__, d_Summary_tally, d_Summary_kept, d_Summary_is_full, E_Summary⟩ := US_Summary
    have d_is_integer := by
      refine' LW.dn_of (name := "is_integer") (st := LW.s_is_integer) KX G ?a1 ?a2 ?a3 ?a4
      (case a1 => k_is)
      (case a2 => k_is)
      (case a3 => k_is)
      (case a4 => k_is)
    have d_is_integer_from := by
      refine' LW.dn_of (name := "is_integer_from") (st := LW.s_is_integer_from) KX G ?a1 ?a2 ?a3 ?a4
      (case a1 => k_is)
      (case a2 => k_is)
      (case a3 => k_is)
      (case a4 => k_is)
    have d_is_name := by
      refine' LW.dn_of (name := "is_name") (st := LW.s_is_name) KX G ?a1 ?a2 ?a3 ?a4
      (case a1 => k_is)
      (case a2 => k_is)
      (case a3 => k_is)
      (case a4 => k_is)
    have d_is_pair := by
      refine' LW.dn_of (name := "is_pair") (st := LW.s_is_pair) KX G ?a1 ?a2 ?a3 ?a4
      (case a1 => k_is)
      (case a2 => k_is)
      (case a3 => k_is)
      (case a4 => k_is)
    have d_check_name := by
      refine' LW.dn_of (name := "check_name") (st := LW.s_check_name) KX G ?a1 ?a2 ?a3 ?a4
      (case a1 => k_is)
      (case a2 => k_is)
      (case a3 => k_is)
      (case a4 => k_is)
    have d_format_number := by
      refine' LW.dn_of (name := "format_number") (st := LW.s_format_number) KX G ?a1 ?a2 ?a3 ?a4
      (case a1 => k_is)
      (case a2 => k_is)
      (case a3 => k_is)
      (case a4 => k_is)
    have d_good_pairs := by
      refine' LW.dn_of (name := "good_pairs") (st := LW.s_good_pairs) KX G ?a1 ?a2 ?a3 ?a4
      (case a1 => k_is)
      (case a2 => k_is)
      (case a3 => k_is)
      (case a4 => k_is)
    have d_check_counts := by
      refine' LW.dn_of (name := "check_counts") (st := LW.s_check_counts) KX G ?a1 ?a2 ?a3 ?a4
      (case a1 => k_is)
      (case a2 => k_is)
      (case a3 => k_is)
      (case a4 => k_is)
    have d_total := by
      refine' LW.dn_of (name := "total") (st := LW.s_total) KX G ?a1 ?a2 ?a3 ?a4
      (case a1 => k_is)
      (case a2 => k_is)
      (case a3 => k_is)
      (case a4 => k_is)
    have d_count_of := by
      refine' LW.dn_of (name := "count_of") (st := LW.s_count_of) KX G ?a1 ?a2 ?a3 ?a4
      (case a1 => k_is)
      (case a2 => k_is)
      (case a3 => k_is)
      (case a4 => k_is)
    have d_counts_text := by
      refine' LW.dn_of (name := "counts_text") (st := LW.s_counts_text) KX G ?a1 ?a2 ?a3 ?a4
      (case a1 => k_is)
      (case a2 => k_is)
      (case a3 => k_is)
      (case a4 => k_is)
    have d_is_capacity := by
      refine' LW.dn_of (name := "is_capacity") (st := LW.s_is_capacity) KX G ?a1 ?a2 ?a3 ?a4
      (case a1 => k_is)
      (case a2 => k_is)
      (case a3 => k_is)
      (case a4 => k_is)
    have d_check_capacity := by
      refine' LW.dn_of (name := "check_capacity") (st := LW.s_check_capacity) KX G ?a1 ?a2 ?a3 ?a4
      (case a1 => k_is)
      (case a2 => k_is)
      (case a3 => k_is)
      (case a4 => k_is)
    have d_check_counters := by
      refine' LW.dn_of (name := "check_counters") (st := LW.s_check_counters) KX G ?a1 ?a2 ?a3 ?a4
      (case a1 => k_is)
      (case a2 => k_is)
      (case a3 => k_is)
      (case a4 => k_is)
    have d_is_summary := by
      refine' LW.dn_of (name := "is_summary") (st := LW.s_is_summary) KX G ?a1 ?a2 ?a3 ?a4
      (case a1 => k_is)
      (case a2 => k_is)
      (case a3 => k_is)
      (case a4 => k_is)
    have d__law_cell := by
      refine' LW.dn_of (name := "_law_cell") (st := LW.s__law_cell) KX G ?a1 ?a2 ?a3 ?a4
      (case a1 => k_is)
      (case a2 => k_is)
      (case a3 => k_is)
      (case a4 => k_is)
    have d__law_pool := by
      refine' LW.dn_of (name := "_law_pool") (st := LW.s__law_pool) KX G ?a1 ?a2 ?a3 ?a4
      (case a1 => k_is)
      (case a2 => k_is)
      (case a3 => k_is)
      (case a4 => k_is)
    have d__law_draw := by
      refine' LW.dn_of (name := "_law_draw") (st := LW.s__law_draw) KX G ?a1 ?a2 ?a3 ?a4
      (case a1 => k_is)
      (case a2 => k_is)
      (case a3 => k_is)
      (case a4 => k_is)
    have d__law_words := by
      refine' LW.dn_of (name := "_law_words") (st := LW.s__law_words) KX G ?a1 ?a2 ?a3 ?a4
      (case a1 => k_is)
      (case a2 => k_is)
      (case a3 => k_is)
      (case a4 => k_is)
    have d__law_often := by
      refine' LW.dn_of (name := "_law_often") (st := LW.s__law_often) KX G ?a1 ?a2 ?a3 ?a4
      (case a1 => k_is)
      (case a2 => k_is)
      (case a3 => k_is)
      (case a4 => k_is)
    have d__law_bag := by
      refine' LW.dn_of (name := "_law_bag") (st := LW.s__law_bag) KX G ?a1 ?a2 ?a3 ?a4
      (case a1 => k_is)
      (case a2 => k_is)
      (case a3 => k_is)
      (case a4 => k_is)
    have d__law_sum := by
      refine' LW.dn_of (name := "_law_sum") (st := LW.s__law_sum) KX G ?a1 ?a2 ?a3 ?a4
      (case a1 => k_is)
      (case a2 => k_is)
      (case a3 => k_is)
      (case a4 => k_is)
    have d__law_whole := by
      refine' LW.dn_of (name := "_law_whole") (st := LW.s__law_whole) KX G ?a1 ?a2 ?a3 ?a4
      (case a1 => k_is)
      (case a2 => k_is)
      (case a3 => k_is)
      (case a4 => k_is)
    have d__law_shown := by
      refine' LW.dn_of (name := "_law_shown") (st := LW.s__law_shown) KX G ?a1 ?a2 ?a3 ?a4
      (case a1 => k_is)
      (case a2 => k_is)
      (case a3 => k_is)
      (case a4 => k_is)
    have d__law_one_right := by
      refine' LW.dn_of (name := "_law_one_right") (st := LW.s__law_one_right) KX G ?a1 ?a2 ?a3 ?a4
      (case a1 => k_is)
      (case a2 => k_is)
      (case a3 => k_is)
      (case a4 => k_is)
    have d__law_made_right := by
      refine' LW.dn_of (name := "_law_made_right") (st := LW.s__law_made_right) KX G ?a1 ?a2 ?a3 ?a4
      (case a1 => k_is)
      (case a2 => k_is)
      (case a3 => k_is)
      (case a4 => k_is)
    have d__law_right := by
      refine' LW.dn_of (name := "_law_right") (st := LW.s__law_right) KX G ?a1 ?a2 ?a3 ?a4
      (case a1 => k_is)
      (case a2 => k_is)
      (case a3 => k_is)
      (case a4 => k_is)
    have d_law := by
      refine' LW.dn_of (name := "law") (st := LW.s_law) KX G ?a1 ?a2 ?a3 ?a4
      (case a1 => k_is)
      (case a2 => k_is)
      (case a3 => k_is)
      (case a4 => k_is)
    obtain ⟨fd, h1, h2⟩ := LW.all_ok (P := (PySem.Challenge.rw_tallyplans_k04_summaries_made).prog) (wo := wo) T E_Summary K_Summary_tuple NA NB N_Summary___bool__ U_Summary d_Summary___init__ d_Summary___len__ d_Summary___str__ d_Summary___repr__ d_Summary_tally d_Summary_kept d_Summary_is_full d_is_integer d_is_integer_from d_is_name d_is_pair d_check_name d_format_number d_good_pairs d_check_counts d_total d_count_of d_counts_text d_is_capacity d_check_capacity d_check_counters d_is_summary d__law_cell d__law_pool d__law_draw d__law_words d__law_often d__law_bag d__law_sum d__law_whole d__law_shown d__law_one_right d__law_made_right d__law_right d_law hmg
    exact ⟨fd, h1, fun base z1 z2 => h2 base ⟨z1, z2⟩⟩
