import PyProof.Rows.All
import Wide.All
import OpenK.AllK
import Wide.FinOn
import HandS.ForMost
import HandS.SetKeys
import HandS.DictComp
import HandS.TupAny
import HandS.Flow
import HandS.IsInst
import HandS.Defaults
import HandS.ExcInit
import HandS.ExcValue
import HandS.Walk
import HandS.Zip
import HandS.HeadHook2
import HandS.ExcField
import HandS.MakeKw
import HandS.ExcIs
import KE.KExcIs
import HandS.More
import KE.GoesEnum
import KE.DataMinMax
import KE.SortData
import KE.KDictPairs
import HandS.SortRule
import PyProof.Rows.SortKeyStr
import HandS.TryMany
import HandS.ExcOwn
import HandS.Star
import HandS.SetTxt0
import HandS.Strs
import HandS.SetBool
import HandS.WordsExc
import KE.KStateDown
import HandS.Head0
import HandS.Head1
import HandS.Head2
import HandS.HeadEnd
import HandS.HeadHook1
import HandS.HeadHook3
import PySem.Challenge.RW_giveways_k02_parts_of_houses
set_option Elab.async false
set_option linter.all false
set_option maxRecDepth 100000
set_option maxHeartbeats 4000000
set_option autoImplicit false
/-! The tree layer: values as trees, our own mutable objects by numbers, each construct as a function that can be reckoned. -/
namespace Tw
open PySem PySem.Spec PyProof.Rows L2

/-- a value as a tree -/
inductive D where
  | non | bl (b : Bool) | int (i : Int) | str (x : Str)
  | tup (xs : List D) | lst (xs : List D) | scr (xs : List D)
  | dct (kvs : List (Key × D)) | set (ks : List Key)
  | ref (n : Nat) | glo (a : Addr) | ty (n : String)
  | cls (c : Str) | exc (c : Str) | exf (c f : Str) (x : D)
  | dcl (kvs : List (Key × D))
  | tpn (xs : List D)
  deriving Inhabited
/-- what the values stand in -/
structure Pm where
  K : PySem.W.Frag
  P : Program
  w : World
  mg : Str → Option Value
/-- a mutable object of ours -/
inductive O where
  | lst (xs : List D) | dct (kvs : List (Key × D)) | dlk (kvs : List (Key × D)) | gone
  deriving Inhabited

/-- the law's script: a list that nobody writes, where no object of ours stands; or a list of the written part -/
def Scr (K : Pm) (L : Addr → Prop) (H : Hp) (a : Addr) (vs : List V) : Prop := (¬ L a ∧ ∃ o, H a = some (.frz o (.lst vs))) ∨ ∃ (o : Obj) (its : Array Value) (n : Nat), K.K.lookup a = some o ∧ o.cls = .type "list" ∧ o.dict = none ∧ o.data = .seq its n ∧ its.size ≤ sizeLine ∧ Vals vs its.toList
theorem Scr.sq {K : Pm} {L : Addr → Prop} {H : Hp} {a : Addr} {vs : List V} (h : Scr K L H a vs) : SqL K.K H a vs := by
  rcases h with ⟨_, h⟩ | h
  · exact .inl (.inr h)
  · exact .inr h
section
variable (K : Pm) (L : Addr → Prop) (α : List Addr) (H : Hp)
mutual
inductive Dr : V → D → Prop
  | non : Dr .non .non
  | bl (b : Bool) : Dr (.bl b) (.bl b)
  | int (i : Int) : Dr (.int i) (.int i)
  | str (x : Str) : Dr (.str x) (.str x)
  | tup {a : Addr} {vs : List V} {ds : List D} (h : SqT K.K H a vs) (r : Drs vs ds) : Dr (.ref a) (.tup ds)
  | lst {a : Addr} {vs : List V} {ds : List D} (h : H a = some (.lst vs)) (n : ¬ L a) (r : Drs vs ds) : Dr (.ref a) (.lst ds)
  | scr {a : Addr} {vs : List V} {ds : List D} (h : Scr K L H a vs) (r : Drs vs ds) : Dr (.ref a) (.scr ds)
  | dct {a : Addr} {ps : List (Key × V)} {kvs : List (Key × D)} (h : Rd H a (.dK ps)) (n : ¬ L a) (r : Drk ps kvs) : Dr (.ref a) (.dct kvs)
  | set {a : Addr} {S : Key → Bool} {ks : List Key} (h : H a = some (SetK K.P K.w a S ks.length)) (n : ¬ L a) (nd : ks.Nodup) (e : ∀ k, S k = true ↔ k ∈ ks) : Dr (.ref a) (.set ks)
  | ref {a : Addr} {n : Nat} (h : α[n]? = some a) : Dr (.ref a) (.ref n)
  | glo (a : Addr) : Dr (.ref a) (.glo a)
  | ty (n : String) : Dr (.ty n) (.ty n)
  | cls {a : Addr} {c : Str} (h : K.mg c = some (.ref a)) : Dr (.ref a) (.cls c)
  | dcl {a : Addr} {ps : List (Key × V)} {kvs : List (Key × D)} (h : ∃ o, H a = some (.frz o (.dK ps))) (n : ¬ L a) (r : Drk ps kvs) : Dr (.ref a) (.dcl kvs)
  | tpn {a : Addr} {vs : List V} {ds : List D} (h : ∃ o, H a = some (.frz o (.tup vs)) ∧ o.dict = none) (r : Drs vs ds) : Dr (.ref a) (.tpn ds)
  | exc {a C : Addr} {c : Str} (h : K.mg c = some (.ref C)) (e : H a = some (ExO (.ref C) a)) (n : ¬ L a) : Dr (.ref a) (.exc c)
  | exf {a C dx : Addr} {c f : Str} {v : V} {x : D} (h : K.mg c = some (.ref C)) (e : H a = some (exo a C (some dx))) (n : ¬ L a) (e2 : H dx = some (exd dx [(f, v)])) (n2 : ¬ L dx) (r : Dr v x) : Dr (.ref a) (.exf c f x)
inductive Drs : List V → List D → Prop
  | nil : Drs [] []
  | cons {v : V} {d : D} {vs : List V} {ds : List D} (h : Dr v d) (r : Drs vs ds) : Drs (v :: vs) (d :: ds)
inductive Drk : List (Key × V) → List (Key × D) → Prop
  | nil : Drk [] []
  | cons {k : Key} {v : V} {d : D} {ps : List (Key × V)} {kvs : List (Key × D)} (h : Dr v d) (r : Drk ps kvs) : Drk ((k, v) :: ps) ((k, d) :: kvs)
end
end
/-- where our objects stand, what they are, and where no tree may look -/
structure Wd where
  α : List Addr
  G : List O
  B : List Addr
def live (W : Wd) (a : Addr) : Prop := ∃ (n : Nat) (o : O), W.α[n]? = some a ∧ W.G[n]? = some o ∧ o ≠ O.gone
def L (W : Wd) (a : Addr) : Prop := live W a ∨ a ∈ W.B
abbrev Rv (K : Pm) (W : Wd) (H : Hp) (v : V) (d : D) : Prop := Dr K (L W) W.α H v d
abbrev Rvs (K : Pm) (W : Wd) (H : Hp) (vs : List V) (ds : List D) : Prop := Drs K (L W) W.α H vs ds
abbrev Rkv (K : Pm) (W : Wd) (H : Hp) (ps : List (Key × V)) (kvs : List (Key × D)) : Prop := Drk K (L W) W.α H ps kvs
def Ob (K : Pm) (W : Wd) (H : Hp) (a : Addr) : O → Prop
  | .lst ds => ∃ vs, H a = some (.lst vs) ∧ Rvs K W H vs ds
  | .dct kvs => ∃ ps, H a = some (.dK ps) ∧ Rkv K W H ps kvs
  | .dlk kvs => ∃ o ps, H a = some (.frz o (.dK ps)) ∧ Rkv K W H ps kvs
  | .gone => True
structure Gr (K : Pm) (W : Wd) (H : Hp) : Prop where
  len : W.α.length = W.G.length
  nd : W.α.Nodup
  dis : ∀ a ∈ W.B, a ∉ W.α
  thA : ∀ a ∈ W.α, ∃ o, H a = some o
  thB : ∀ a ∈ W.B, ∃ o, H a = some o
  obj : ∀ (n : Nat) (a : Addr) (o : O), W.α[n]? = some a → W.G[n]? = some o → Ob K W H a o
structure Ext (W : Wd) (H : Hp) (W' : Wd) (H' : Hp) : Prop where
  b : ∀ a ∈ W.B, a ∈ W'.B
  b' : ∀ a ∈ W'.B, a ∈ W.B ∨ H a = none
  th : ∀ a, (∃ o, H a = some o) → ∃ o, H' a = some o
  pre : ∃ t, W'.α = W.α ++ t
  keep : ∀ (a : Addr) (o : HO), H a = some o → ¬ live W a → H' a = some o ∧ ¬ live W' a
  tup : ∀ (a : Addr) (vs : List V), H a = some (.tup vs) → H' a = some (.tup vs)

/-- .. where what stands at a banned address may have changed -/
structure ExtW (W : Wd) (H : Hp) (W' : Wd) (H' : Hp) : Prop where
  b' : ∀ a ∈ W'.B, a ∈ W.B ∨ H a = none
  th : ∀ a, (∃ o, H a = some o) → ∃ o, H' a = some o
  pre : ∃ t, W'.α = W.α ++ t
  keep : ∀ (a : Addr) (o : HO), H a = some o → ¬ live W a → (a ∉ W.B ∨ ∃ q u, o = .frz q u) → H' a = some o ∧ ¬ live W' a
  tup : ∀ (a : Addr) (vs : List V), H a = some (.tup vs) → H' a = some (.tup vs)
theorem Ext.w {W W' : Wd} {H H' : Hp} (x : Ext W H W' H') : ExtW W H W' H' := ⟨x.b', x.th, x.pre, fun a o h l _ => x.keep a o h l, x.tup⟩
theorem ExtW.refl {W : Wd} {H : Hp} : ExtW W H W H := ⟨fun _ h => .inl h, fun _ h => h, ⟨[], by simp⟩, fun _ _ h n _ => ⟨h, n⟩, fun _ _ h => h⟩
theorem ExtW.step {W1 W2 W3 : Wd} {H1 H2 H3 : Hp} (x : ExtW W1 H1 W2 H2) (y : Ext W2 H2 W3 H3) : ExtW W1 H1 W3 H3 := by
  obtain ⟨t, ht⟩ := x.pre
  obtain ⟨u, hu⟩ := y.pre
  refine ⟨fun a h => ?_, fun a h => y.th a (x.th a h), ⟨t ++ u, by rw [hu, ht, List.append_assoc]⟩, fun a o h n c => let ⟨p, q⟩ := x.keep a o h n c; y.keep a o p q, fun a vs h => y.tup a vs (x.tup a vs h)⟩
  rcases y.b' a h with h | h
  · exact x.b' a h
  · cases e : H1 a with
    | none => exact .inr rfl
    | some o =>
      obtain ⟨o', e'⟩ := x.th a ⟨o, e⟩
      rw [h] at e'; cases e'
theorem ExtW.off {W W' : Wd} {H H' : Hp} {p : Addr} {u : HO} (x : ExtW W H W' H') (hp : p ∈ W.B) (nt : ∀ vs, H' p ≠ some (.tup vs)) (nf : ∀ o w, H' p ≠ some (.frz o w)) : ExtW W H W' (upd H' p u) := by
  refine ⟨x.b', fun a h => ?_, x.pre, fun a o h n c => ?_, fun a vs h => ?_⟩
  · by_cases e : a = p
    · exact ⟨u, by rw [e]; exact upd_same⟩
    · rw [upd_ne e]; exact x.th a h
  · obtain ⟨k1, k2⟩ := x.keep a o h n c
    refine ⟨?_, k2⟩
    by_cases e : a = p
    · rcases c with c | ⟨q, w, rfl⟩
      · exact absurd (by rw [e]; exact hp) c
      · rw [e] at k1; exact absurd k1 (nf q w)
    · rw [upd_ne e]; exact k1
  · have k := x.tup a vs h
    by_cases e : a = p
    · rw [e] at k; exact absurd k (nt vs)
    · rw [upd_ne e]; exact k
theorem Ext.refl {W : Wd} {H : Hp} : Ext W H W H := ⟨fun _ h => h, fun _ h => .inl h, fun _ h => h, ⟨[], by simp⟩, fun _ _ h n => ⟨h, n⟩, fun _ _ h => h⟩
theorem Ext.trans {W1 W2 W3 : Wd} {H1 H2 H3 : Hp} (a : Ext W1 H1 W2 H2) (b : Ext W2 H2 W3 H3) : Ext W1 H1 W3 H3 := by
  obtain ⟨t, ht⟩ := a.pre
  obtain ⟨u, hu⟩ := b.pre
  refine ⟨fun x h => b.b x (a.b x h), fun x h => ?_, fun x h => b.th x (a.th x h), ⟨t ++ u, by rw [hu, ht, List.append_assoc]⟩, fun x o h n => let ⟨p, q⟩ := a.keep x o h n; b.keep x o p q, fun x vs h => b.tup x vs (a.tup x vs h)⟩
  rcases b.b' x h with h | h
  · exact a.b' x h
  · cases e : H1 x with
    | none => exact .inr rfl
    | some o =>
      obtain ⟨o', e'⟩ := a.th x ⟨o, e⟩
      rw [h] at e'; cases e'
/-- what stands where we may write -/
def Ours : HO → Prop
  | .lst _ => True
  | .dK _ => True
  | .frz _ (.dK _) => True
  | _ => False
theorem Gr.lv {K : Pm} {W : Wd} {H : Hp} (g : Gr K W H) {a : Addr} (l : live W a) : ∃ u, H a = some u ∧ Ours u := by
  obtain ⟨n, o, e1, e2, ne⟩ := l
  have q := g.obj n a o e1 e2
  cases o with
  | lst ds => obtain ⟨vs, h, _⟩ := q; exact ⟨_, h, True.intro⟩
  | dct kvs => obtain ⟨ps, h, _⟩ := q; exact ⟨_, h, True.intro⟩
  | dlk kvs => obtain ⟨o, ps, h, _⟩ := q; exact ⟨_, h, True.intro⟩
  | gone => exact absurd rfl ne
theorem Gr.nlv {K : Pm} {W : Wd} {H : Hp} (g : Gr K W H) {a : Addr} {u : HO} (h : H a = some u) (n : ¬ Ours u) : ¬ live W a := fun l => by
  obtain ⟨v, e, p⟩ := g.lv l
  rw [h] at e
  cases e
  exact n p
theorem SqT.keepW {K : Pm} {W W' : Wd} {H H' : Hp} (g : Gr K W H) (x : ExtW W H W' H') {a : Addr} {vs : List V} (h : SqT K.K H a vs) : SqT K.K H' a vs := by
  rcases h with (h | ⟨o, h⟩) | h
  · exact .inl (.inl (x.tup a vs h))
  · exact .inl (.inr ⟨o, (x.keep a _ h (g.nlv h fun z => z) (.inr ⟨_, _, rfl⟩)).1⟩)
  · exact .inr h
section
variable {K : Pm} {W W' : Wd} {H H' : Hp}
theorem L.keepW (x : ExtW W H W' H') {a : Addr} {o : HO} (h : H a = some o) (n : ¬ L W a) : H' a = some o ∧ ¬ L W' a := by
  obtain ⟨p, q⟩ := x.keep a o h (fun l => n (.inl l)) (.inl fun l => n (.inr l))
  refine ⟨p, fun l => ?_⟩
  rcases l with l | l
  · exact q l
  · rcases x.b' a l with l | l
    · exact n (.inr l)
    · rw [l] at h; cases h
theorem L.keepD (x : ExtW W H W' H') {a : Addr} {ps : List (Key × V)} (h : Rd H a (.dK ps)) (n : ¬ L W a) : Rd H' a (.dK ps) ∧ ¬ L W' a := by
  rcases h with h | ⟨o, h⟩
  · obtain ⟨p, q⟩ := L.keepW x h n
    exact ⟨.inl p, q⟩
  · obtain ⟨p, q⟩ := L.keepW x h n
    exact ⟨.inr ⟨o, p⟩, q⟩
theorem Scr.keepW (x : ExtW W H W' H') {a : Addr} {vs : List V} (h : Scr K (L W) H a vs) : Scr K (L W') H' a vs := by
  rcases h with ⟨n, o, h⟩ | h
  · exact .inl ⟨(L.keepW x h n).2, o, (L.keepW x h n).1⟩
  · exact .inr h
mutual
theorem Dr.keepW (g : Gr K W H) (x : ExtW W H W' H') : ∀ {v : V} {d : D}, Rv K W H v d → Rv K W' H' v d
  | _, _, .non => .non
  | _, _, .bl b => .bl b
  | _, _, .int i => .int i
  | _, _, .str z => .str z
  | _, _, .tup h r => .tup (SqT.keepW g x h) (Drs.keepW g x r)
  | _, _, .lst h n r => .lst (L.keepW x h n).1 (L.keepW x h n).2 (Drs.keepW g x r)
  | _, _, .scr h r => .scr (Scr.keepW x h) (Drs.keepW g x r)
  | _, _, .dct h n r => .dct (L.keepD x h n).1 (L.keepD x h n).2 (Drk.keepW g x r)
  | _, _, .set h n nd e => .set (L.keepW x h n).1 (L.keepW x h n).2 nd e
  | _, _, .ref h => by
    obtain ⟨t, e⟩ := x.pre
    refine .ref ?_
    rw [e, List.getElem?_append_left (List.getElem?_eq_some_iff.mp h).1]
    exact h
  | _, _, .glo a => .glo a
  | _, _, .ty n => .ty n
  | _, _, .dcl h n r => by
    obtain ⟨o, h⟩ := h
    exact .dcl ⟨o, (L.keepW x h n).1⟩ (L.keepW x h n).2 (Drk.keepW g x r)
  | _, _, .tpn h r => by
    obtain ⟨o, h, z⟩ := h
    exact .tpn ⟨o, (x.keep _ _ h (g.nlv h fun z => z) (.inr ⟨_, _, rfl⟩)).1, z⟩ (Drs.keepW g x r)
  | _, _, .cls h => .cls h
  | _, _, .exc h e n => .exc h (L.keepW x e n).1 (L.keepW x e n).2
  | _, _, .exf h e n e2 n2 r => .exf h (L.keepW x e n).1 (L.keepW x e n).2 (L.keepW x e2 n2).1 (L.keepW x e2 n2).2 (Dr.keepW g x r)
theorem Drs.keepW (g : Gr K W H) (x : ExtW W H W' H') : ∀ {vs : List V} {ds : List D}, Rvs K W H vs ds → Rvs K W' H' vs ds
  | _, _, .nil => .nil
  | _, _, .cons h r => .cons (Dr.keepW g x h) (Drs.keepW g x r)
theorem Drk.keepW (g : Gr K W H) (x : ExtW W H W' H') : ∀ {ps : List (Key × V)} {kvs : List (Key × D)}, Rkv K W H ps kvs → Rkv K W' H' ps kvs
  | _, _, .nil => .nil
  | _, _, .cons h r => .cons (Dr.keepW g x h) (Drk.keepW g x r)
end
theorem L.keep (x : Ext W H W' H') {a : Addr} {o : HO} (h : H a = some o) (n : ¬ L W a) : H' a = some o ∧ ¬ L W' a := L.keepW x.w h n
theorem Scr.keep (x : Ext W H W' H') {a : Addr} {vs : List V} (h : Scr K (L W) H a vs) : Scr K (L W') H' a vs := Scr.keepW x.w h
theorem SqT.keep (g : Gr K W H) (x : Ext W H W' H') {a : Addr} {vs : List V} (h : SqT K.K H a vs) : SqT K.K H' a vs := SqT.keepW g x.w h
theorem Dr.keep (g : Gr K W H) (x : Ext W H W' H') {v : V} {d : D} (h : Rv K W H v d) : Rv K W' H' v d := Dr.keepW g x.w h
theorem Drs.keep (g : Gr K W H) (x : Ext W H W' H') {vs : List V} {ds : List D} (h : Rvs K W H vs ds) : Rvs K W' H' vs ds := Drs.keepW g x.w h
theorem Drk.keep (g : Gr K W H) (x : Ext W H W' H') {vs : List (Key × V)} {ds : List (Key × D)} (h : Rkv K W H vs ds) : Rkv K W' H' vs ds := Drk.keepW g x.w h
theorem Ob.keep (g : Gr K W H) (x : Ext W H W' H') {a : Addr} {o : O} (h : Ob K W H a o) (e : H' a = H a) : Ob K W' H' a o := by
  cases o with
  | lst ds => obtain ⟨vs, q, r⟩ := h; exact ⟨vs, e.trans q, Drs.keep g x r⟩
  | dct kvs => obtain ⟨ps, q, r⟩ := h; exact ⟨ps, e.trans q, Drk.keep g x r⟩
  | dlk kvs => obtain ⟨o, ps, q, r⟩ := h; exact ⟨o, ps, e.trans q, Drk.keep g x r⟩
  | gone => exact True.intro
end
theorem rd_keep {H : Hp} {p a : Addr} {o u : HO} (h : Rd H a u) (n : a ≠ p) : Rd (upd H p o) a u := by
  rcases h with h | ⟨b, h⟩
  · exact .inl (by rw [upd_ne n]; exact h)
  · exact .inr ⟨b, by rw [upd_ne n]; exact h⟩
theorem rd_ne {H : Hp} {p a : Addr} {u : HO} (h : Rd H a u) (n : H p = none) : a ≠ p := by
  rcases h with h | ⟨b, h⟩
  · exact ne_of_none h n
  · exact ne_of_none h n

/-! ### steps of the world -/
section
variable {K : Pm} {W : Wd} {H : Hp}
theorem not_there {a p : Addr} {o : HO} (h : H a = some o) (n : H p = none) : a ≠ p := ne_of_none h n
theorem th_upd {p : Addr} {o : HO} : ∀ a, (∃ u, H a = some u) → ∃ u, upd H p o a = some u := fun a ⟨u, h⟩ => by
  by_cases e : a = p
  · exact ⟨o, by rw [e]; exact upd_same⟩
  · exact ⟨u, by rw [upd_ne e]; exact h⟩
/-- an object is laid that no number tells -/
theorem Ext.laid {p : Addr} {o : HO} (n : H p = none) : Ext W H W (upd H p o) :=
  ⟨fun _ h => h, fun _ h => .inl h, th_upd, ⟨[], by simp⟩, fun a u h l => ⟨by rw [upd_ne (not_there h n)]; exact h, l⟩, fun a vs h => by rw [upd_ne (not_there h n)]; exact h⟩
theorem Gr.laid {p : Addr} {o : HO} (g : Gr K W H) (n : H p = none) : Gr K W (upd H p o) := by
  have th : ∀ a, (∃ u, H a = some u) → a ≠ p := fun a ⟨u, h⟩ => not_there h n
  refine ⟨g.len, g.nd, g.dis, fun a h => ?_, fun a h => ?_, fun m a u h1 h2 => ?_⟩
  · rw [upd_ne (th a (g.thA a h))]; exact g.thA a h
  · rw [upd_ne (th a (g.thB a h))]; exact g.thB a h
  · exact (g.obj m a u h1 h2).keep g (Ext.laid n) (upd_ne (th a (g.thA a (List.mem_of_getElem? h1))))
theorem fresh_L {p : Addr} (g : Gr K W H) (n : H p = none) : ¬ L W p := fun l => by
  have : ∃ o, H p = some o := by
    rcases l with ⟨m, o, h, _⟩ | h
    · exact g.thA p (List.mem_of_getElem? h)
    · exact g.thB p h
  obtain ⟨o, e⟩ := this
  rw [n] at e; cases e
theorem fresh_α {p : Addr} (g : Gr K W H) (n : H p = none) : p ∉ W.α := fun h => by
  obtain ⟨o, e⟩ := g.thA p h
  rw [n] at e; cases e
/-- the number of an address is one -/
theorem Gr.one (g : Gr K W H) {n m : Nat} {a : Addr} (h : W.α[n]? = some a) (h' : W.α[m]? = some a) : n = m := by
  obtain ⟨l1, e1⟩ := List.getElem?_eq_some_iff.mp h
  obtain ⟨l2, e2⟩ := List.getElem?_eq_some_iff.mp h'
  exact (List.getElem_inj g.nd).mp (e1.trans e2.symm)
/-- a new object of ours -/
def Wd.new (W : Wd) (p : Addr) (o : O) : Wd := ⟨W.α ++ [p], W.G ++ [o], W.B⟩
theorem live_new {p a : Addr} {o : O} (hl : W.α.length = W.G.length) (l : live (W.new p o) a) : live W a ∨ a = p := by
  obtain ⟨n, u, h1, h2, ne⟩ := l
  by_cases h : n < W.α.length
  · refine .inl ⟨n, u, ?_, ?_, ne⟩
    · rw [← h1]; exact (List.getElem?_append_left h).symm
    · rw [← h2]; exact (List.getElem?_append_left (by omega)).symm
  · have h1' : (W.α ++ [p])[n]? = some a := h1
    rw [List.getElem?_append_right (by omega)] at h1'
    cases hm : n - W.α.length with
    | zero => rw [hm] at h1'; simp at h1'; exact .inr h1'.symm
    | succ m => rw [hm] at h1'; simp at h1'
theorem Ext.new {p : Addr} {o : O} {u : HO} (g : Gr K W H) (n : H p = none) : Ext W H (W.new p o) (upd H p u) :=
  ⟨fun _ h => h, fun _ h => .inl h, th_upd, ⟨[p], rfl⟩, fun a v h l => ⟨by rw [upd_ne (not_there h n)]; exact h, fun q => (live_new g.len q).elim l (not_there h n)⟩, fun a vs h => by rw [upd_ne (not_there h n)]; exact h⟩
theorem Gr.new {p : Addr} {o : O} {u : HO} (g : Gr K W H) (n : H p = none) (ho : Ob K (W.new p o) (upd H p u) p o) : Gr K (W.new p o) (upd H p u) := by
  have th : ∀ a, (∃ u, H a = some u) → a ≠ p := fun a ⟨u, h⟩ => not_there h n
  have pα := fresh_α g n
  refine ⟨by simp [Wd.new, g.len], ?_, fun a h => ?_, fun a h => ?_, fun a h => ?_, fun m a v h1 h2 => ?_⟩
  · show (W.α ++ [p]).Nodup
    rw [List.nodup_append]
    refine ⟨g.nd, by simp, fun a ha b hb => ?_⟩
    have : b = p := by simpa using hb
    rw [this]; rintro rfl; exact pα ha
  · have hb : a ∈ W.B := h
    have q := th a (g.thB a hb)
    show a ∉ W.α ++ [p]
    simp only [List.mem_append, List.mem_singleton, not_or]
    exact ⟨g.dis a hb, q⟩
  · have h' : a ∈ W.α ++ [p] := h
    rcases List.mem_append.mp h' with h' | h'
    · rw [upd_ne (th a (g.thA a h'))]; exact g.thA a h'
    · have : a = p := by simpa using h'
      rw [this]; exact ⟨u, upd_same⟩
  · have hb : a ∈ W.B := h
    rw [upd_ne (th a (g.thB a hb))]; exact g.thB a hb
  · have h1' : (W.α ++ [p])[m]? = some a := h1
    have h2' : (W.G ++ [o])[m]? = some v := h2
    have hl := g.len
    by_cases h : m < W.α.length
    · rw [List.getElem?_append_left h] at h1'
      rw [List.getElem?_append_left (by omega)] at h2'
      exact (g.obj m a v h1' h2').keep g (Ext.new g n) (upd_ne (th a (g.thA a (List.mem_of_getElem? h1'))))
    · rw [List.getElem?_append_right (by omega)] at h1'
      rw [List.getElem?_append_right (by omega)] at h2'
      have e : m - W.α.length = m - W.G.length := by omega
      rw [e] at h1'
      cases hm : m - W.G.length with
      | zero =>
        rw [hm] at h1' h2'; simp at h1' h2'
        subst h1' h2'
        exact ho
      | succ j => rw [hm] at h1'; simp at h1'
/-- an object of ours written, or given up -/
def Wd.put (W : Wd) (n : Nat) (o : O) : Wd := ⟨W.α, W.G.set n o, W.B⟩
theorem live_put {n : Nat} {a : Addr} {o o' : O} (hn : W.G[n]? = some o) (hg : o ≠ .gone) (l : live (W.put n o') a) : live W a := by
  obtain ⟨m, u, h1, h2, ne⟩ := l
  have h2' : (W.G.set n o')[m]? = some u := h2
  by_cases e : n = m
  · subst e
    exact ⟨n, o, h1, hn, hg⟩
  · rw [List.getElem?_set_ne e] at h2'
    exact ⟨m, u, h1, h2', ne⟩
theorem Ext.put {n : Nat} {a : Addr} {o o' : O} {u : HO} (g : Gr K W H) (ha : W.α[n]? = some a) (hn : W.G[n]? = some o) (hg : o ≠ .gone) : Ext W H (W.put n o') (upd H a u) := by
  have la : live W a := ⟨n, o, ha, hn, hg⟩
  have nb : ∀ b, ¬ live W b → b ≠ a := fun b l e => l (by rw [e]; exact la)
  refine ⟨fun _ h => h, fun _ h => .inl h, th_upd, ⟨[], by simp [Wd.put]⟩, fun b v h l => ⟨by rw [upd_ne (nb b l)]; exact h, fun q => l (live_put hn hg q)⟩, fun b vs h => ?_⟩
  rw [upd_ne (nb b (g.nlv h fun z => z))]; exact h
theorem Gr.put {n : Nat} {a : Addr} {o o' : O} {u : HO} (g : Gr K W H) (ha : W.α[n]? = some a) (hn : W.G[n]? = some o) (hg : o ≠ .gone) (ho : Ob K (W.put n o') (upd H a u) a o') : Gr K (W.put n o') (upd H a u) := by
  refine ⟨by simp [Wd.put, g.len], g.nd, g.dis, fun b h => ?_, fun b h => ?_, fun m b v h1 h2 => ?_⟩
  · by_cases e : b = a
    · rw [e]; exact ⟨u, upd_same⟩
    · rw [upd_ne e]; exact g.thA b h
  · have e : b ≠ a := fun e => g.dis b h (by rw [e]; exact List.mem_of_getElem? ha)
    rw [upd_ne e]; exact g.thB b h
  · have h1' : W.α[m]? = some b := h1
    have h2' : (W.G.set n o')[m]? = some v := h2
    by_cases e : n = m
    · subst e
      rw [ha] at h1'; cases h1'
      rw [List.getElem?_set_self (List.getElem?_eq_some_iff.mp hn).1] at h2'; cases h2'
      exact ho
    · rw [List.getElem?_set_ne e] at h2'
      have nb : b ≠ a := fun q => e (g.one ha (by rw [← q]; exact h1'))
      exact (g.obj m b v h1' h2').keep g (Ext.put g ha hn hg) (upd_ne nb)
theorem Ext.drop {n : Nat} {o : O} (hn : W.G[n]? = some o) (hg : o ≠ .gone) : Ext W H (W.put n .gone) H :=
  ⟨fun _ h => h, fun _ h => .inl h, fun _ h => h, ⟨[], by simp [Wd.put]⟩, fun b v h l => ⟨h, fun q => l (live_put hn hg q)⟩, fun _ _ h => h⟩
theorem Gr.drop {n : Nat} {o : O} (g : Gr K W H) (hn : W.G[n]? = some o) (hg : o ≠ .gone) : Gr K (W.put n .gone) H := by
  refine ⟨by simp [Wd.put, g.len], g.nd, g.dis, g.thA, g.thB, fun m b v h1 h2 => ?_⟩
  have h1' : W.α[m]? = some b := h1
  have h2' : (W.G.set n .gone)[m]? = some v := h2
  by_cases e : n = m
  · subst e
    rw [List.getElem?_set_self (List.getElem?_eq_some_iff.mp hn).1] at h2'; cases h2'
    exact True.intro
  · rw [List.getElem?_set_ne e] at h2'
    exact (g.obj m b v h1' h2').keep g (Ext.drop hn hg) rfl
theorem not_L_drop {n : Nat} {a : Addr} (g : Gr K W H) (ha : W.α[n]? = some a) : ¬ L (W.put n .gone) a := fun l => by
  rcases l with ⟨m, u, h1, h2, ne⟩ | l
  · have h1' : W.α[m]? = some a := h1
    have e := g.one ha h1'
    subst e
    have h2' : (W.G.set n .gone)[n]? = some u := h2
    have lt : n < W.G.length := by rw [← g.len]; exact (List.getElem?_eq_some_iff.mp ha).1
    rw [List.getElem?_set_self lt] at h2'
    exact ne (Option.some.inj h2').symm
  · exact g.dis a l (List.mem_of_getElem? ha)
/-- an address where no tree may look from here on -/
def Wd.ban (W : Wd) (p : Addr) : Wd := ⟨W.α, W.G, p :: W.B⟩
theorem live_ban {p a : Addr} : live (W.ban p) a ↔ live W a := Iff.rfl
theorem Ext.ban {p : Addr} {u : HO} (n : H p = none) : Ext W H (W.ban p) (upd H p u) := by
  have x : Ext W H W (upd H p u) := Ext.laid n
  exact ⟨fun a h => List.mem_cons_of_mem _ h, fun a h => by
    rcases List.mem_cons.mp h with rfl | h
    · exact .inr n
    · exact .inl h, x.th, x.pre, x.keep, x.tup⟩
theorem Gr.ban {p : Addr} {u : HO} (g : Gr K W H) (n : H p = none) : Gr K (W.ban p) (upd H p u) := by
  have th : ∀ a, (∃ u, H a = some u) → a ≠ p := fun a ⟨u, h⟩ => not_there h n
  have g' : Gr K W (upd H p u) := g.laid n
  refine ⟨g.len, g.nd, fun a h => ?_, g'.thA, fun a h => ?_, fun m a v h1 h2 => ?_⟩
  · rcases List.mem_cons.mp h with rfl | h
    · have q : a ∉ W.α := fresh_α g n
      exact q
    · exact g.dis a h
  · rcases List.mem_cons.mp h with rfl | h
    · exact ⟨u, upd_same⟩
    · exact g'.thB a h
  · exact (g.obj m a v h1 h2).keep g (Ext.ban n) (upd_ne (th a (g.thA a (List.mem_of_getElem? h1))))
/-- a banned object changes -/
theorem ban_ne {p : Addr} (g : Gr K W H) (hp : p ∈ W.B) {a : Addr} (h : live W a) : a ≠ p := fun e => by
  obtain ⟨m, o, h1, _⟩ := h
  exact g.dis p hp (by rw [← e]; exact List.mem_of_getElem? h1)
mutual
theorem Dr.off {p : Addr} {u : HO} (hp : p ∈ W.B) (nt : ∀ vs, H p ≠ some (.tup vs)) (nf : ∀ o w, H p ≠ some (.frz o w)) : ∀ {v : V} {d : D}, Rv K W H v d → Rv K W (upd H p u) v d
  | _, _, .non => .non
  | _, _, .bl b => .bl b
  | _, _, .int i => .int i
  | _, _, .str z => .str z
  | _, _, .tup (a := a) h r => by
    refine .tup ?_ (Drs.off hp nt nf r)
    rcases h with (h | ⟨o, h⟩) | h
    · exact .inl (.inl (by rw [upd_ne (fun e => nt _ (by rw [← e]; exact h))]; exact h))
    · exact .inl (.inr ⟨o, by rw [upd_ne (fun e => nf _ _ (by rw [← e]; exact h))]; exact h⟩)
    · exact .inr h
  | _, _, .lst (a := a) h n r => .lst (by rw [upd_ne (fun e => n (.inr (by rw [e]; exact hp)))]; exact h) n (Drs.off hp nt nf r)
  | _, _, .scr (a := a) h r => by
    refine .scr ?_ (Drs.off hp nt nf r)
    rcases h with ⟨n, o, h⟩ | h
    · exact .inl ⟨n, o, by rw [upd_ne (fun e => n (.inr (by rw [e]; exact hp)))]; exact h⟩
    · exact .inr h
  | _, _, .dct (a := a) h n r => .dct (rd_keep h (fun e => n (.inr (by rw [e]; exact hp)))) n (Drk.off hp nt nf r)
  | _, _, .set (a := a) h n nd e => .set (by rw [upd_ne (fun e => n (.inr (by rw [e]; exact hp)))]; exact h) n nd e
  | _, _, .ref h => .ref h
  | _, _, .glo a => .glo a
  | _, _, .ty n => .ty n
  | _, _, .dcl h n r => by
    obtain ⟨o, h⟩ := h
    exact .dcl ⟨o, by rw [upd_ne (fun z => n (.inr (by rw [z]; exact hp)))]; exact h⟩ n (Drk.off hp nt nf r)
  | _, _, .tpn h r => by
    obtain ⟨o, h, z⟩ := h
    exact .tpn ⟨o, by rw [upd_ne (fun e => nf _ _ (by rw [← e]; exact h))]; exact h, z⟩ (Drs.off hp nt nf r)
  | _, _, .cls h => .cls h
  | _, _, .exc h e n => .exc h (by rw [upd_ne (fun z => n (.inr (by rw [z]; exact hp)))]; exact e) n
  | _, _, .exf h e n e2 n2 r => .exf h (by rw [upd_ne (fun z => n (.inr (by rw [z]; exact hp)))]; exact e) n (by rw [upd_ne (fun z => n2 (.inr (by rw [z]; exact hp)))]; exact e2) n2 (Dr.off hp nt nf r)
theorem Drs.off {p : Addr} {u : HO} (hp : p ∈ W.B) (nt : ∀ vs, H p ≠ some (.tup vs)) (nf : ∀ o w, H p ≠ some (.frz o w)) : ∀ {vs : List V} {ds : List D}, Rvs K W H vs ds → Rvs K W (upd H p u) vs ds
  | _, _, .nil => .nil
  | _, _, .cons h r => .cons (Dr.off hp nt nf h) (Drs.off hp nt nf r)
theorem Drk.off {p : Addr} {u : HO} (hp : p ∈ W.B) (nt : ∀ vs, H p ≠ some (.tup vs)) (nf : ∀ o w, H p ≠ some (.frz o w)) : ∀ {ps : List (Key × V)} {kvs : List (Key × D)}, Rkv K W H ps kvs → Rkv K W (upd H p u) ps kvs
  | _, _, .nil => .nil
  | _, _, .cons h r => .cons (Dr.off hp nt nf h) (Drk.off hp nt nf r)
end
theorem Ob.off {p a : Addr} {u : HO} {o : O} (hp : p ∈ W.B) (nt : ∀ vs, H p ≠ some (.tup vs)) (nf : ∀ o w, H p ≠ some (.frz o w)) (na : a ≠ p) (h : Ob K W H a o) : Ob K W (upd H p u) a o := by
  cases o with
  | lst ds => obtain ⟨vs, q, r⟩ := h; exact ⟨vs, by rw [upd_ne na]; exact q, Drs.off hp nt nf r⟩
  | dct kvs => obtain ⟨ps, q, r⟩ := h; exact ⟨ps, by rw [upd_ne na]; exact q, Drk.off hp nt nf r⟩
  | dlk kvs => obtain ⟨o, ps, q, r⟩ := h; exact ⟨o, ps, by rw [upd_ne na]; exact q, Drk.off hp nt nf r⟩
  | gone => exact True.intro
theorem Gr.off {p : Addr} {u : HO} (g : Gr K W H) (hp : p ∈ W.B) (nt : ∀ vs, H p ≠ some (.tup vs)) (nf : ∀ o w, H p ≠ some (.frz o w)) : Gr K W (upd H p u) :=
  ⟨g.len, g.nd, g.dis, fun a h => th_upd a (g.thA a h), fun a h => th_upd a (g.thB a h), fun m a v h1 h2 => Ob.off hp nt nf (fun e => g.dis p hp (by rw [← e]; exact List.mem_of_getElem? h1)) (g.obj m a v h1 h2)⟩
mutual
theorem Dr.less {L' : Addr → Prop} {α : List Addr} {L : Addr → Prop} (le : ∀ a, L' a → L a) : ∀ {v : V} {d : D}, Dr K L α H v d → Dr K L' α H v d
  | _, _, .non => .non
  | _, _, .bl b => .bl b
  | _, _, .int i => .int i
  | _, _, .str z => .str z
  | _, _, .tup h r => .tup h (Drs.less le r)
  | _, _, .lst h n r => .lst h (fun l => n (le _ l)) (Drs.less le r)
  | _, _, .scr h r => .scr (h.imp (fun z => ⟨fun l => z.1 (le _ l), z.2⟩) id) (Drs.less le r)
  | _, _, .dct h n r => .dct h (fun l => n (le _ l)) (Drk.less le r)
  | _, _, .set h n nd e => .set h (fun l => n (le _ l)) nd e
  | _, _, .ref h => .ref h
  | _, _, .glo a => .glo a
  | _, _, .ty n => .ty n
  | _, _, .dcl h n r => .dcl h (fun l => n (le _ l)) (Drk.less le r)
  | _, _, .tpn h r => .tpn h (Drs.less le r)
  | _, _, .cls h => .cls h
  | _, _, .exc h e n => .exc h e (fun l => n (le _ l))
  | _, _, .exf h e n e2 n2 r => .exf h e (fun l => n (le _ l)) e2 (fun l => n2 (le _ l)) (Dr.less le r)
theorem Drs.less {L' : Addr → Prop} {α : List Addr} {L : Addr → Prop} (le : ∀ a, L' a → L a) : ∀ {vs : List V} {ds : List D}, Drs K L α H vs ds → Drs K L' α H vs ds
  | _, _, .nil => .nil
  | _, _, .cons h r => .cons (Dr.less le h) (Drs.less le r)
theorem Drk.less {L' : Addr → Prop} {α : List Addr} {L : Addr → Prop} (le : ∀ a, L' a → L a) : ∀ {ps : List (Key × V)} {kvs : List (Key × D)}, Drk K L α H ps kvs → Drk K L' α H ps kvs
  | _, _, .nil => .nil
  | _, _, .cons h r => .cons (Dr.less le h) (Drk.less le r)
end
/-- the bans taken back -/
def Wd.bans (W : Wd) (B : List Addr) : Wd := ⟨W.α, W.G, B⟩
theorem L_bans {B : List Addr} (s : ∀ a ∈ B, a ∈ W.B) : ∀ a, L (W.bans B) a → L W a := fun a l => l.elim .inl fun h => .inr (s a h)
theorem Gr.bans {B : List Addr} (g : Gr K W H) (s : ∀ a ∈ B, a ∈ W.B) : Gr K (W.bans B) H := by
  refine ⟨g.len, g.nd, fun a h => g.dis a (s a h), g.thA, fun a h => g.thB a (s a h), fun m a v h1 h2 => ?_⟩
  have q := g.obj m a v h1 h2
  cases v with
  | lst ds => obtain ⟨vs, h, r⟩ := q; exact ⟨vs, h, Drs.less (L_bans s) r⟩
  | dct kvs => obtain ⟨ps, h, r⟩ := q; exact ⟨ps, h, Drk.less (L_bans s) r⟩
  | dlk kvs => obtain ⟨o, ps, h, r⟩ := q; exact ⟨o, ps, h, Drk.less (L_bans s) r⟩
  | gone => exact True.intro
theorem Ext.bans {W0 : Wd} {H0 : Hp} {B : List Addr} (x : Ext W0 H0 W H) (s : ∀ a ∈ B, a ∈ W.B) (s0 : ∀ a ∈ W0.B, a ∈ B) : Ext W0 H0 (W.bans B) H :=
  ⟨s0, fun a h => x.b' a (s a h), x.th, x.pre, x.keep, x.tup⟩
end
end Tw

namespace Tw
open PySem PySem.Spec PyProof.Rows L2

/-! ### what is reckoned -/
/-- an error of the program's own: its class by name, its one field -/
structure Er where
  cls : Str
  fld : Option (Str × D)
abbrev M (A : Type) := List O → Option (Sum Er A × List O)
abbrev P1 (A : Type) := List O → Option (A × List O)
def ret {A : Type} (a : A) : M A := fun G => some (.inr a, G)
def bnd {A B : Type} (m : M A) (k : A → M B) : M B := fun G => match m G with
  | some (.inr a, G1) => k a G1
  | some (.inl e, G1) => some (.inl e, G1)
  | none => none
def lft {A : Type} (f : P1 A) : M A := fun G => match f G with
  | some (a, G1) => some (.inr a, G1)
  | none => none
/-- nothing is changed -/
def pur {A : Type} (o : Option A) : P1 A := fun G => match o with
  | some a => some (a, G)
  | none => none
abbrev En := List (Option D)

def Cxp (X : Cx) : Pm := ⟨X.K, X.prog, X.w, X.mg⟩
/-- what is wanted where an error leaves -/
abbrev WE' := Er → Wd → L2.St → Hp → Prop
structure Rs (K : Pm) (W : Wd) (ρ : En) (σ : L2.St) (H : Hp) : Prop where
  gr : Gr K W H
  len : ρ.length = σ.length
  var : ∀ (i : Nat) (d : D), ρ[i]? = some (some d) → ∃ v, σ[i]? = some (some v) ∧ Rv K W H v d
theorem Rs.keep {K : Pm} {W W' : Wd} {ρ : En} {σ : L2.St} {H H' : Hp} (r : Rs K W ρ σ H) (g : Gr K W' H') (x : Ext W H W' H') : Rs K W' ρ σ H' :=
  ⟨g, r.len, fun i d e => let ⟨v, h, q⟩ := r.var i d e; ⟨v, h, q.keep r.gr x⟩⟩
/-- the end of what was reckoned -/
def Post {A B : Type} (K : Pm) (We : WE') (R : Wd → Hp → B → A → Prop) (W : Wd) (H : Hp) (σ : L2.St) (r : Sum Er A) (G' : List O) (Q : B → Hp → Prop) : Prop :=
  match r with
  | .inr d => ∀ (W' : Wd) (v : B) (H' : Hp), W'.G = G' → Ext W H W' H' → Gr K W' H' → R W' H' v d → Q v H'
  | .inl e => ∀ (W' : Wd) (H' : Hp), W'.G = G' → Ext W H W' H' → Gr K W' H' → We e W' σ H'
def up {A B : Type} (K : Pm) (We : WE') (R : Wd → Hp → B → A → Prop) (de : En → M A) : L2.St → Hp → (B → Hp → Prop) → Prop := fun σ H Q =>
  ∃ (W : Wd) (ρ : En) (r : Sum Er A) (G' : List O), Rs K W ρ σ H ∧ de ρ W.G = some (r, G') ∧ Post K We R W H σ r G' Q
abbrev upE (K : Pm) (We : WE') (de : En → M D) : TE := up K We (Rv K) de
abbrev upA (K : Pm) (We : WE') (de : En → M (List D)) : TA := up K We (Rvs K) de
abbrev Rb (W : Wd) (H : Hp) (b c : Bool) : Prop := b = c
abbrev upT (K : Pm) (We : WE') (de : En → M Bool) : TT := up K We Rb de

section
variable {A B A' B' : Type} {K : Pm} {We : WE'} {R : Wd → Hp → B → A → Prop} {R' : Wd → Hp → B' → A' → Prop} {W W1 : Wd} {H H1 : Hp} {σ : L2.St} {ρ : En} {G' : List O}
theorem Post.mono {r : Sum Er A} {Q : B → Hp → Prop} (p : Post K We R W H σ r G' Q) (x : Ext W H W1 H1) : Post K We R W1 H1 σ r G' Q := by
  cases r with
  | inr d => exact fun W' v H' e x' g q => p W' v H' e (x.trans x') g q
  | inl e => exact fun W' H' e x' g => p W' H' e (x.trans x') g
theorem up_bnd {da : En → M A} {k : A → M A'} {r : Sum Er A'} {Q : B' → Hp → Prop} {T : B → Hp → Prop} (hR : Rs K W ρ σ H) (e : bnd (da ρ) k W.G = some (r, G')) (p : Post K We R' W H σ r G' Q)
    (h : ∀ (d : A) (W1 : Wd) (v : B) (H1 : Hp), Ext W H W1 H1 → Rs K W1 ρ σ H1 → R W1 H1 v d → k d W1.G = some (r, G') → Post K We R' W1 H1 σ r G' Q → T v H1) : up K We R da σ H T := by
  unfold bnd at e
  split at e
  · rename_i a G1 he
    exact ⟨W, ρ, .inr a, G1, hR, he, fun W' v H' eg x g q => h a W' v H' x (hR.keep g x) q (by rw [eg]; exact e) (p.mono x)⟩
  · rename_i er G1 he
    cases e
    exact ⟨W, ρ, .inl er, _, hR, he, p⟩
  · cases e
theorem up_lft {f : P1 A} {r : Sum Er A} {Q : B → Hp → Prop} (e : lft f W.G = some (r, G')) (p : Post K We R W H σ r G' Q) :
    ∃ d, f W.G = some (d, G') ∧ ∀ (W' : Wd) (v : B) (H' : Hp), W'.G = G' → Ext W H W' H' → Gr K W' H' → R W' H' v d → Q v H' := by
  unfold lft at e
  split at e
  · rename_i a G1 he
    cases e
    exact ⟨a, he, p⟩
  · cases e
theorem up_ret {a : A} {r : Sum Er A} {Q : B → Hp → Prop} (e : ret a W.G = some (r, G')) (p : Post K We R W H σ r G' Q) :
    ∀ (W' : Wd) (v : B) (H' : Hp), W'.G = W.G → Ext W H W' H' → Gr K W' H' → R W' H' v a → Q v H' := by
  cases e
  exact p
theorem pur_eq {o : Option A} {a : A} {G G1 : List O} (e : pur o G = some (a, G1)) : o = some a ∧ G1 = G := by
  unfold pur at e
  split at e
  · cases e; exact ⟨rfl, rfl⟩
  · cases e
end

section
variable {X : Cx} {e : Expr} {es : List Expr} {st : Stmt} {sts : List Stmt}
theorem PE.imp {t t' : TE} (h : PE X e t) (i : ∀ σ H Q, t' σ H Q → t σ H Q) : PE X e t' := ⟨fun pins s σ H Q I q => h.run pins s σ H Q I (i σ H Q q)⟩
theorem PT.imp {t t' : TT} (h : PT X e t) (i : ∀ σ H Q, t' σ H Q → t σ H Q) : PT X e t' := ⟨fun pins s σ H Q I q => h.run pins s σ H Q I (i σ H Q q)⟩
theorem PW.imp {t t' : TT} (h : PW X e t) (i : ∀ σ H Q, t' σ H Q → t σ H Q) : PW X e t' := ⟨fun wh pins s σ H Q I q => h.run wh pins s σ H Q I (i σ H Q q)⟩
theorem PA.imp {t t' : TA} (h : PA X es t) (i : ∀ σ H Q, t' σ H Q → t σ H Q) : PA X es t' := ⟨fun pos pins s σ H Q I q => h.run pos pins s σ H Q I (i σ H Q q)⟩
theorem PS.imp {t t' : TS} (h : PS X st t) (i : ∀ D σ H, t' D σ H → t D σ H) : PS X st t' := ⟨fun pins s σ H D I q => h.run pins s σ H D I (i D σ H q)⟩
theorem PSs.imp {t t' : TS} (h : PSs X sts t) (i : ∀ D σ H, t' D σ H → t D σ H) : PSs X sts t' := ⟨fun pins s σ H D I q => h.run pins s σ H D I (i D σ H q)⟩
end

/-! ### names, constants -/
def dC (d : D) : En → M D := fun _ => ret d
def dV (i : Nat) : En → M D := fun ρ => lft (pur (match ρ[i]? with | some (some d) => some d | _ => none))
section
variable {X : Cx} {We : WE'}
theorem up_const {σ : L2.St} {H : Hp} {Q : VK} {v : V} {d : D} (hv : ∀ (W : Wd) (H : Hp), Rv (Cxp X) W H v d) (h : upE (Cxp X) We (dC d) σ H Q) : Q v H := by
  obtain ⟨W, ρ, r, G', hR, e, p⟩ := h
  exact up_ret e p W v H rfl Ext.refl hR.gr (hv W H)
theorem te_int {i : Int} {j pos} : PE X (.Constant (.int i) j pos) (upE (Cxp X) We (dC (.int i))) := PE.imp pe_int fun _ _ _ h => up_const (fun _ _ => .int i) h
theorem te_bl {b : Bool} {j pos} : PE X (.Constant (.bool b) j pos) (upE (Cxp X) We (dC (.bl b))) := PE.imp pe_bl fun _ _ _ h => up_const (fun _ _ => .bl b) h
theorem te_non {j pos} : PE X (.Constant .none j pos) (upE (Cxp X) We (dC .non)) := PE.imp pe_non fun _ _ _ h => up_const (fun _ _ => .non) h
theorem te_str {x : Str} {j pos} : PE X (.Constant (.str x) j pos) (upE (Cxp X) We (dC (.str x))) := PE.imp pe_str fun _ _ _ h => up_const (fun _ _ => .str x) h
theorem te_v (i : Nat) {x : Str} {pos : Pos} (hN : X.N[i]? = some x := by rfl) (hv : Vis X.env.scope x := by first | exact Or.inl rfl | exact Or.inr (Or.inl rfl) | exact Or.inr (Or.inr rfl)) (hd : (x == ("__debug__" : Str)) = false := by decide)
    (hcd : (x == ("__classdict__" : Str)) = false := by decide) : PE X (.Name x pos) (upE (Cxp X) We (dV i)) := PE.imp (pe_var (i := i) hN hv hd hcd) fun σ H Q h => by
  obtain ⟨W, ρ, r, G', hR, e, p⟩ := h
  obtain ⟨d, e, p⟩ := up_lft e p
  obtain ⟨e, eg⟩ := pur_eq e
  have e' : ρ[i]? = some (some d) := by
    revert e
    split
    · rename_i d' he
      intro z; cases z; exact he
    · intro z; cases z
  obtain ⟨v, hv, rv⟩ := hR.var i d e'
  exact ⟨v, hv, p W v H eg.symm Ext.refl hR.gr rv⟩
/-- a def, a class, an int of the module -/
theorem te_glo {x : Str} {a : Addr} {pos : Pos} (hg : Gl X x) (hm : X.mg x = some (.ref a)) (hd : (x == ("__debug__" : Str)) = false := by decide) : PE X (.Name x pos) (upE (Cxp X) We (dC (.glo a))) :=
  PE.imp (pe_glob (v := .ref a) hg hm rfl hd) fun _ _ _ h => up_const (fun _ _ => .glo a) h
theorem te_gint {x : Str} {i : Int} {t : Tok} {pos : Pos} (hg : Gl X x) (hm : X.mg x = some (.int i t)) (hd : (x == ("__debug__" : Str)) = false := by decide) : PE X (.Name x pos) (upE (Cxp X) We (dC (.int i))) :=
  PE.imp (pe_glob (v := .int i) hg hm ⟨_, rfl⟩ hd) fun _ _ _ h => up_const (fun _ _ => .int i) h
/-- a tuple of the module -/
theorem te_gtup {x : Str} {a : Addr} {d : D} {pos : Pos} (hg : Gl X x) (hm : X.mg x = some (.ref a)) (hk : ∀ (W : Wd) (H : Hp), Rv (Cxp X) W H (.ref a) d) (hd : (x == ("__debug__" : Str)) = false := by decide) : PE X (.Name x pos) (upE (Cxp X) We (dC d)) :=
  PE.imp (pe_glob (v := .ref a) hg hm rfl hd) fun _ _ _ h => up_const hk h
end

/-! ### argument lists, displays -/
def dNil : En → M (List D) := fun _ => ret []
def dCons (a : En → M D) (r : En → M (List D)) : En → M (List D) := fun ρ => bnd (a ρ) fun x => bnd (r ρ) fun xs => ret (x :: xs)
def mx : Nat := 1000000
theorem mx_line {n : Nat} (h : n ≤ mx) : n ≤ sizeLine := Nat.le_trans h (by rw [sizeLine_eq]; decide)
theorem mx_lt {n : Nat} (h : n ≤ mx) : n < sizeLine := Nat.lt_of_le_of_lt h (by rw [sizeLine_eq]; decide)
theorem mx_2 {n : Nat} (h : n ≤ mx) : n ≤ 16777216 := Nat.le_trans h (by decide)
def tupO (xs : List D) : Option D := if xs.length ≤ mx then some (.tup xs) else none
def lstO (xs : List D) : Option D := if xs.length ≤ mx then some (.lst xs) else none
def dTup (a : En → M (List D)) : En → M D := fun ρ => bnd (a ρ) fun xs => lft (pur (tupO xs))
def dLst (a : En → M (List D)) : En → M D := fun ρ => bnd (a ρ) fun xs => lft (pur (lstO xs))
/-- a list that will be changed -/
def newL (xs : List D) : P1 D := fun G => if xs.length ≤ mx then some (.ref G.length, G ++ [.lst xs]) else none
def dLstM (a : En → M (List D)) : En → M D := fun ρ => bnd (a ρ) fun xs => lft (newL xs)
theorem Drs.length {K : Pm} {L : Addr → Prop} {α : List Addr} {H : Hp} : ∀ {vs : List V} {ds : List D}, Drs K L α H vs ds → vs.length = ds.length
  | _, _, .nil => rfl
  | _, _, .cons _ r => by simp [Drs.length r]
section
variable {X : Cx} {We : WE'} {K : Pm}
/-- a new tuple, a new list that nobody changes -/
theorem tup_new {W : Wd} {H : Hp} {vs : List V} {ds : List D} {p : Addr} (g : Gr K W H) (r : Rvs K W H vs ds) (n : H p = none) : Gr K W (upd H p (.tup vs)) ∧ Ext W H W (upd H p (.tup vs)) ∧ Rv K W (upd H p (.tup vs)) (.ref p) (.tup ds) :=
  have x : Ext W H W (upd H p (.tup vs)) := Ext.laid n
  ⟨g.laid n, x, .tup (.inl (.inl upd_same)) (r.keep g x)⟩
theorem lst_new {W : Wd} {H : Hp} {vs : List V} {ds : List D} {p : Addr} (g : Gr K W H) (r : Rvs K W H vs ds) (n : H p = none) : Gr K W (upd H p (.lst vs)) ∧ Ext W H W (upd H p (.lst vs)) ∧ Rv K W (upd H p (.lst vs)) (.ref p) (.lst ds) :=
  have x : Ext W H W (upd H p (.lst vs)) := Ext.laid n
  ⟨g.laid n, x, .lst upd_same (fresh_L g n) (r.keep g x)⟩
theorem mut_new {W : Wd} {H : Hp} {vs : List V} {ds : List D} {p : Addr} (g : Gr K W H) (r : Rvs K W H vs ds) (n : H p = none) :
    Gr K (W.new p (.lst ds)) (upd H p (.lst vs)) ∧ Ext W H (W.new p (.lst ds)) (upd H p (.lst vs)) ∧ Rv K (W.new p (.lst ds)) (upd H p (.lst vs)) (.ref p) (.ref W.G.length) := by
  have x : Ext W H (W.new p (.lst ds)) (upd H p (.lst vs)) := Ext.new g n
  refine ⟨g.new n ⟨vs, upd_same, r.keep g x⟩, x, .ref ?_⟩
  show (W.α ++ [p])[W.G.length]? = some p
  rw [← g.len]
  simp
theorem ta_nil : PA X [] (upA (Cxp X) We dNil) := PA.imp pa_nil fun σ H Q h => by
  obtain ⟨W, ρ, r, G', hR, e, p⟩ := h
  exact up_ret e p W [] H rfl Ext.refl hR.gr .nil
theorem ta_cons {e : Expr} {es : List Expr} {da : En → M D} {dr : En → M (List D)} (ha : PE X e (upE (Cxp X) We da)) (hr : PA X es (upA (Cxp X) We dr)) (hs : starEach (e :: es) X.env = (false, eval e X.env) :: starEach es X.env := by rfl) :
    PA X (e :: es) (upA (Cxp X) We (dCons da dr)) := PA.imp (pa_cons ha hr hs) fun σ H Q h => by
  obtain ⟨W, ρ, r, G', hR, e, p⟩ := h
  refine up_bnd hR e p fun d W1 v H1 x1 R1 r1 e1 p1 => ?_
  refine up_bnd R1 e1 p1 fun ds W2 vs H2 x2 R2 r2 e2 p2 => ?_
  exact up_ret e2 p2 W2 _ H2 rfl Ext.refl R2.gr (.cons (r1.keep R1.gr x2) r2)
theorem tupO_eq {xs : List D} {d : D} (h : tupO xs = some d) : xs.length ≤ mx ∧ d = .tup xs := by
  unfold tupO at h
  split at h
  · rename_i z; cases h; exact ⟨z, rfl⟩
  · cases h
theorem lstO_eq {xs : List D} {d : D} (h : lstO xs = some d) : xs.length ≤ mx ∧ d = .lst xs := by
  unfold lstO at h
  split at h
  · rename_i z; cases h; exact ⟨z, rfl⟩
  · cases h
theorem newL_eq {xs : List D} {d : D} {G G1 : List O} (h : newL xs G = some (d, G1)) : xs.length ≤ mx ∧ d = .ref G.length ∧ G1 = G ++ [.lst xs] := by
  unfold newL at h
  split at h
  · rename_i z; cases h; exact ⟨z, rfl, rfl⟩
  · cases h
theorem te_tup {es : List Expr} {x1 pos} {da : En → M (List D)} (h : PA X es (upA (Cxp X) We da)) : PE X (.Tuple es x1 pos) (upE (Cxp X) We (dTup da)) := PE.imp (pe_tup h) fun σ H Q q => by
  obtain ⟨W, ρ, r, G', hR, e, p⟩ := q
  refine up_bnd hR e p fun ds W1 vs H1 x1 R1 r1 e1 p1 => ?_
  obtain ⟨d, e2, p2⟩ := up_lft e1 p1
  obtain ⟨e2, eg⟩ := pur_eq e2
  obtain ⟨z, rfl⟩ := tupO_eq e2
  refine ⟨by rw [r1.length]; exact mx_line z, fun a n => ?_⟩
  obtain ⟨g, x, rv⟩ := tup_new R1.gr r1 n
  exact p2 W1 _ _ eg.symm x g rv
theorem te_lst {es : List Expr} {pos} {da : En → M (List D)} (h : PA X es (upA (Cxp X) We da)) : PE X (.List es pos) (upE (Cxp X) We (dLst da)) := PE.imp (pe_lst h) fun σ H Q q => by
  obtain ⟨W, ρ, r, G', hR, e, p⟩ := q
  refine up_bnd hR e p fun ds W1 vs H1 x1 R1 r1 e1 p1 => ?_
  obtain ⟨d, e2, p2⟩ := up_lft e1 p1
  obtain ⟨e2, eg⟩ := pur_eq e2
  obtain ⟨z, rfl⟩ := lstO_eq e2
  refine ⟨by rw [r1.length]; exact mx_line z, fun a n => ?_⟩
  obtain ⟨g, x, rv⟩ := lst_new R1.gr r1 n
  exact p2 W1 _ _ eg.symm x g rv
theorem te_lstM {es : List Expr} {pos} {da : En → M (List D)} (h : PA X es (upA (Cxp X) We da)) : PE X (.List es pos) (upE (Cxp X) We (dLstM da)) := PE.imp (pe_lst h) fun σ H Q q => by
  obtain ⟨W, ρ, r, G', hR, e, p⟩ := q
  refine up_bnd hR e p fun ds W1 vs H1 x1 R1 r1 e1 p1 => ?_
  obtain ⟨d, e2, p2⟩ := up_lft e1 p1
  obtain ⟨z, rfl, rfl⟩ := newL_eq e2
  refine ⟨by rw [r1.length]; exact mx_line z, fun a n => ?_⟩
  obtain ⟨g, x, rv⟩ := mut_new R1.gr r1 n
  exact p2 (W1.new a (.lst ds)) _ _ rfl x g rv
end

/-! ### operators by values -/
/-- f tells what the reading r asks -/
def OpD (K : Pm) (r : R2) (f : D → D → P1 D) : Prop := ∀ (W : Wd) (H : Hp) (x y : V) (a b d : D) (G' : List O) (Q : VK), Gr K W H → Rv K W H x a → Rv K W H y b → f a b W.G = some (d, G') →
  (∀ (W' : Wd) (v : V) (H' : Hp), W'.G = G' → Ext W H W' H' → Gr K W' H' → Rv K W' H' v d → Q v H') → r x y H Q
def d2 (f : D → D → P1 D) (a b : En → M D) : En → M D := fun ρ => bnd (a ρ) fun x => bnd (b ρ) fun y => lft (f x y)
def pur2 (f : D → D → Option D) : D → D → P1 D := fun a b => pur (f a b)
section
variable {X : Cx} {We : WE'} {a b : Expr} {da db : En → M D} {pos : Pos} {r : R2} {f : D → D → P1 D}
theorem op_up (hd : OpD (Cxp X) r f) {σ : L2.St} {H : Hp} {Q : VK} (h : upE (Cxp X) We (d2 f da db) σ H Q) : tOp r (upE (Cxp X) We da) (upE (Cxp X) We db) σ H Q := by
  obtain ⟨W, ρ, r, G', hR, e, p⟩ := h
  refine up_bnd hR e p fun d W1 v H1 x1 R1 r1 e1 p1 => ?_
  refine up_bnd R1 e1 p1 fun d' W2 v' H2 x2 R2 r2 e2 p2 => ?_
  obtain ⟨d3, e3, p3⟩ := up_lft e2 p2
  exact hd W2 H2 v v' d d' d3 G' Q R2.gr (r1.keep R1.gr x2) r2 e3 p3
theorem te_op {op : Operator} (ho : OpR X (binaryOp op) r) (hd : OpD (Cxp X) r f) (ha : PE X a (upE (Cxp X) We da)) (hb : PE X b (upE (Cxp X) We db)) : PE X (.BinOp a op b pos) (upE (Cxp X) We (d2 f da db)) :=
  PE.imp (pe_op ho ha hb) fun _ _ _ h => op_up hd h
theorem te_cmp {op : CmpOp} (ho : OpR X (compareOp op) r) (hd : OpD (Cxp X) r f) (ha : PE X a (upE (Cxp X) We da)) (hb : PE X b (upE (Cxp X) We db)) (hm : behindInMarks op b = false) : PE X (.Compare a [op] [b] pos) (upE (Cxp X) We (d2 f da db)) :=
  PE.imp (pe_cmpR ho ha hb hm) fun _ _ _ h => op_up hd h
theorem te_ix (ho : IxR X r) (hd : OpD (Cxp X) r f) (ha : PE X a (upE (Cxp X) We da)) (hb : PE X b (upE (Cxp X) We db)) (hs : PlainIx b) : PE X (.Subscript a b pos) (upE (Cxp X) We (d2 f da db)) :=
  PE.imp (pe_ix ho ha hb hs) fun _ _ _ h => op_up hd h
end
section
variable {K : Pm}
theorem OpD.or1 {r r' : R2} {f : D → D → P1 D} (h : OpD K r f) : OpD K (fun x y H Q => r x y H Q ∨ r' x y H Q) f := fun W H x y a b d G' Q g r1 r2 e p => .inl (h W H x y a b d G' Q g r1 r2 e p)
theorem OpD.or2 {r r' : R2} {f : D → D → P1 D} (h : OpD K r' f) : OpD K (fun x y H Q => r x y H Q ∨ r' x y H Q) f := fun W H x y a b d G' Q g r1 r2 e p => .inr (h W H x y a b d G' Q g r1 r2 e p)
/-- ints to one value -/
def i2 (g : Int → Int → D) : D → D → Option D
  | .int i, .int j => some (g i j)
  | _, _ => none
/-- ints that keep to a bound -/
def i2c (c : Int → Int → Bool) (g : Int → Int → D) : D → D → Option D
  | .int i, .int j => if c i j = true then some (g i j) else none
  | _, _ => none
theorem i2_eq {g : Int → Int → D} {a b d : D} (h : i2 g a b = some d) : ∃ i j, a = .int i ∧ b = .int j ∧ d = g i j := by
  unfold i2 at h
  split at h
  · cases h; exact ⟨_, _, rfl, rfl, rfl⟩
  · cases h
theorem i2c_eq {c : Int → Int → Bool} {g : Int → Int → D} {a b d : D} (h : i2c c g a b = some d) : ∃ i j, a = .int i ∧ b = .int j ∧ c i j = true ∧ d = g i j := by
  unfold i2c at h
  split at h
  · split at h
    · rename_i q; cases h; exact ⟨_, _, rfl, rfl, q, rfl⟩
    · cases h
  · cases h
/-- a value that no heap tells otherwise -/
def Pln (v : V) (d : D) : Prop := ∀ (K : Pm) (W : Wd) (H : Hp), Rv K W H v d
theorem opd_i0 {gv : Int → Int → V} {g : Int → Int → D} (hp : ∀ i j, Pln (gv i j) (g i j)) : OpD K (rI0 gv) (pur2 (i2 g)) := fun W H x y a b d G' Q gr r1 r2 e p => by
  obtain ⟨e, eg⟩ := pur_eq e
  obtain ⟨i, j, rfl, rfl, rfl⟩ := i2_eq e
  cases r1; cases r2
  exact ⟨i, j, rfl, rfl, p W _ H eg.symm Ext.refl gr (hp i j K W H)⟩
theorem opd_ic {C : Int → Int → Prop} {gv : Int → Int → V} {g : Int → Int → D} {c : Int → Int → Bool} (hc : ∀ i j, c i j = true → C i j) (hp : ∀ i j, Pln (gv i j) (g i j)) : OpD K (rI C gv) (pur2 (i2c c g)) := fun W H x y a b d G' Q gr r1 r2 e p => by
  obtain ⟨e, eg⟩ := pur_eq e
  obtain ⟨i, j, rfl, rfl, q, rfl⟩ := i2c_eq e
  cases r1; cases r2
  exact ⟨i, j, rfl, rfl, hc i j q, p W _ H eg.symm Ext.refl gr (hp i j K W H)⟩
theorem pln_int (i : Int) : Pln (.int i) (.int i) := fun _ _ _ => .int i
theorem pln_bl (i : Bool) : Pln (.bl i) (.bl i) := fun _ _ _ => .bl i
theorem pln_str (i : Str) : Pln (.str i) (.str i) := fun _ _ _ => .str i
end
end Tw

namespace Tw
open PySem PySem.Spec PyProof.Rows L2

/-! ### data compared -/
mutual
def toP : D → Option PyData
  | .non => some .none
  | .bl b => some (.bool b)
  | .int i => some (.int i)
  | .str x => some (.str x)
  | .tup xs => (toPs xs).map .tuple
  | .lst xs => (toPs xs).map .list
  | .scr xs => (toPs xs).map .list
  | .dct _ => none
  | .set _ => none
  | .ref _ => none
  | .glo _ => none
  | .ty _ => none
  | .dcl _ => none
  | .tpn _ => none
  | .cls _ => none
  | .exc _ => none
  | .exf _ _ _ => none
def toPs : List D → Option (List PyData)
  | [] => some []
  | x :: xs => (toP x).bind fun p => (toPs xs).map fun ps => p :: ps
end
section
variable {K : Pm} {L : Addr → Prop} {α : List Addr} {H : Hp}
mutual
theorem Dr.dp : ∀ {v : V} {d : D} {p : PyData}, Dr K L α H v d → toP d = some p → Dp K.K H v p
  | _, _, _, .non, e => by cases e; exact .non
  | _, _, _, .bl b, e => by cases e; exact .bl b
  | _, _, _, .int i, e => by cases e; exact .int i
  | _, _, _, .str x, e => by cases e; exact .str x
  | _, _, _, .tup (ds := ds) h r, e => by
    rw [toP] at e
    cases q : toPs ds with
    | none => rw [q] at e; cases e
    | some ps => rw [q] at e; cases e; exact .tup h (Drs.dp r q)
  | _, _, _, .lst (ds := ds) h n r, e => by
    rw [toP] at e
    cases q : toPs ds with
    | none => rw [q] at e; cases e
    | some ps => rw [q] at e; cases e; exact .lst (SqL.of h) (Drs.dp r q)
  | _, _, _, .scr (ds := ds) h r, e => by
    rw [toP] at e
    cases q : toPs ds with
    | none => rw [q] at e; cases e
    | some ps => rw [q] at e; cases e; exact .lst h.sq (Drs.dp r q)
  | _, _, _, .dct _ _ _, e => by cases e
  | _, _, _, .set _ _ _ _, e => by cases e
  | _, _, _, .ref _, e => by cases e
  | _, _, _, .glo _, e => by cases e
  | _, _, _, .ty _, e => by cases e
  | _, _, _, .dcl _ _ _, e => by cases e
  | _, _, _, .tpn _ _, e => by cases e
  | _, _, _, .cls _, e => by cases e
  | _, _, _, .exc _ _ _, e => by cases e
  | _, _, _, .exf _ _ _ _ _ _, e => by cases e
theorem Drs.dp : ∀ {vs : List V} {ds : List D} {ps : List PyData}, Drs K L α H vs ds → toPs ds = some ps → DpAll K.K H vs ps
  | _, _, _, .nil, e => by cases e; exact .nil
  | _, _, _, .cons (d := d) (ds := ds) h r, e => by
    rw [toPs] at e
    cases q : toP d with
    | none => rw [q] at e; cases e
    | some p =>
      cases q2 : toPs ds with
      | none => rw [q, q2] at e; cases e
      | some ps => rw [q, q2] at e; cases e; exact .cons (Dr.dp h q) (Drs.dp r q2)
end
end
def eqO (neg : Bool) (a b : D) : Option D :=
  match toP a, toP b with
  | some p, some q => if SeqAt.shaped p && SeqAt.shaped q then some (.bl (if neg then !PyData.eqv p q else PyData.eqv p q)) else none
  | _, _ => none
theorem eqO_eq {neg : Bool} {a b d : D} (h : eqO neg a b = some d) : ∃ p q, toP a = some p ∧ toP b = some q ∧ SeqAt.shaped p = true ∧ SeqAt.shaped q = true ∧ d = .bl (if neg then !PyData.eqv p q else PyData.eqv p q) := by
  unfold eqO at h
  split at h
  · rename_i p q h1 h2
    split at h
    · rename_i hs
      cases h
      obtain ⟨s1, s2⟩ := Bool.and_eq_true_iff.mp hs
      exact ⟨p, q, h1, h2, s1, s2, rfl⟩
    · cases h
  · cases h
section
variable {K : Pm}
theorem opd_eq : OpD K (rEqD K.K) (pur2 (eqO false)) := fun W H x y a b d G' Q gr r1 r2 e p => by
  obtain ⟨e, eg⟩ := pur_eq e
  obtain ⟨u, v, h1, h2, s1, s2, rfl⟩ := eqO_eq e
  exact ⟨u, v, r1.dp h1, r2.dp h2, s1, s2, p W _ H eg.symm Ext.refl gr (.bl _)⟩
theorem opd_ne : OpD K (rNeD K.K) (pur2 (eqO true)) := fun W H x y a b d G' Q gr r1 r2 e p => by
  obtain ⟨e, eg⟩ := pur_eq e
  obtain ⟨u, v, h1, h2, s1, s2, rfl⟩ := eqO_eq e
  exact ⟨u, v, r1.dp h1, r2.dp h2, s1, s2, p W _ H eg.symm Ext.refl gr (.bl _)⟩
end

/-! ### + -/
def addO : D → D → Option D
  | .int i, .int j => some (.int (i + j))
  | .str x, .str y => if x.length + y.length ≤ mx then some (.str (x ++ y)) else none
  | .tup x, .tup y => if x.length + y.length ≤ mx then some (.tup (x ++ y)) else none
  | .lst x, .lst y => if x.length + y.length ≤ mx then some (.lst (x ++ y)) else none
  | _, _ => none
abbrev rAddI : R2 := rI0 fun i j => .int (i + j)
abbrev rAddS : R2 := fun x y H Q => ∃ i j, x = .str i ∧ y = .str j ∧ i.length + j.length ≤ sizeLine ∧ Q (.str (i ++ j)) H
abbrev rAddA (K : PySem.W.Frag) : R2 := fun x y H Q => rAddI x y H Q ∨ (rAddS x y H Q ∨ (rCatA K x y H Q ∨ rCat x y H Q))
theorem op_addA {X : Cx} : OpR X (binaryOp .Add) (rAddA X.K) := op_add.or (op_add_str.or (op_catA.or op_cat))
theorem Drs.app {K : Pm} {L : Addr → Prop} {α : List Addr} {H : Hp} : ∀ {vs ws : List V} {ds es : List D}, Drs K L α H vs ds → Drs K L α H ws es → Drs K L α H (vs ++ ws) (ds ++ es)
  | _, _, _, _, .nil, s => s
  | _, _, _, _, .cons h r, s => .cons h (Drs.app r s)
theorem opd_add {K : Pm} : OpD K (rAddA K.K) (pur2 addO) := fun W H x y a b d G' Q gr r1 r2 e p => by
  obtain ⟨e, eg⟩ := pur_eq e
  unfold addO at e
  split at e
  · cases e; cases r1; cases r2
    exact .inl ⟨_, _, rfl, rfl, p W _ H eg.symm Ext.refl gr (.int _)⟩
  · split at e
    · rename_i z
      cases e; cases r1; cases r2
      exact .inr (.inl ⟨_, _, rfl, rfl, mx_line z, p W _ H eg.symm Ext.refl gr (.str _)⟩)
    · cases e
  · split at e
    · rename_i z
      cases e
      cases r1 with
      | tup h1 q1 =>
        cases r2 with
        | tup h2 q2 =>
          rename_i a1 v1 a2 v2
          refine .inr (.inr (.inl ⟨_, _, v1, v2, rfl, rfl, h1, h2, mx_line (by rw [q1.length, q2.length]; exact z), fun hn => ?_, fun _ hn => ?_, fun _ _ pa n => ?_⟩))
          · subst hn
            cases q1
            exact p W _ H eg.symm Ext.refl gr (.tup h2 q2)
          · subst hn
            cases q2
            rw [List.append_nil] at p
            exact p W _ H eg.symm Ext.refl gr (.tup h1 q1)
          · obtain ⟨g, xx, rv⟩ := tup_new gr (q1.app q2) n
            exact p W _ _ eg.symm xx g rv
    · cases e
  · split at e
    · rename_i z
      cases e
      cases r1 with
      | lst h1 n1 q1 =>
        cases r2 with
        | lst h2 n2 q2 =>
          rename_i a1 v1 a2 v2
          refine .inr (.inr (.inr ⟨_, _, v1, v2, rfl, rfl, h1, h2, mx_line (by rw [q1.length, q2.length]; exact z), fun pa n => ?_⟩))
          obtain ⟨g, xx, rv⟩ := lst_new gr (q1.app q2) n
          exact p W _ _ eg.symm xx g rv
    · cases e
  · cases e

/-! ### - * // % ** and order of ints, of texts -/
section
variable {K : Pm}
def subO := i2 fun i j => .int (i - j)
theorem opd_sub : OpD K (rI0 fun i j => .int (i - j)) (pur2 subO) := opd_i0 fun _ _ => pln_int _
/-- one factor below 2^64 -/
def mulC (i j : Int) : Bool := (decide (-(2 ^ 64) < i) && decide (i < 2 ^ 64)) || (decide (-(2 ^ 64) < j) && decide (j < 2 ^ 64))
def mulO := i2c mulC fun i j => .int (i * j)
theorem opd_mul : OpD K (rI CMul fun i j => .int (i * j)) (pur2 mulO) := opd_ic (fun i j h => by
  rcases Bool.or_eq_true_iff.mp h with h | h
  · obtain ⟨h1, h2⟩ := Bool.and_eq_true_iff.mp h
    exact .inl ⟨of_decide_eq_true h1, of_decide_eq_true h2⟩
  · obtain ⟨h1, h2⟩ := Bool.and_eq_true_iff.mp h
    exact .inr ⟨of_decide_eq_true h1, of_decide_eq_true h2⟩) fun _ _ => pln_int _
def divO := i2c (fun _ j => decide (0 < j) && decide (j < 1073741824)) fun i j => .int (i / j)
theorem opd_div : OpD K (rI CDiv fun i j => .int (i / j)) (pur2 divO) := opd_ic (fun i j h => by
  obtain ⟨h1, h2⟩ := Bool.and_eq_true_iff.mp h
  exact ⟨of_decide_eq_true h1, of_decide_eq_true h2⟩) fun _ _ => pln_int _
def modO := i2c (fun _ j => decide (0 < j)) fun i j => .int (i % j)
theorem opd_mod : OpD K (rI (fun _ j => 0 < j) fun i j => .int (i % j)) (pur2 modO) := opd_ic (fun i j h => of_decide_eq_true h) fun _ _ => pln_int _
def powO := i2c (fun i j => decide (0 ≤ j) && decide (j ≤ 1000) && decide (i.natAbs < 2 ^ 64)) fun i j => .int (i ^ j.toNat)
theorem opd_pow : OpD K (rI CPow fun i j => .int (i ^ j.toNat)) (pur2 powO) := opd_ic (fun i j h => by
  obtain ⟨h, h3⟩ := Bool.and_eq_true_iff.mp h
  obtain ⟨h1, h2⟩ := Bool.and_eq_true_iff.mp h
  have h2 := of_decide_eq_true h2
  exact ⟨of_decide_eq_true h1, by omega, of_decide_eq_true h3⟩) fun _ _ => pln_int _
/-- order: of ints, of texts -/
def ordO (pi : Int → Int → Bool) (ps : List Nat → List Nat → Bool) : D → D → Option D
  | .int i, .int j => some (.bl (pi i j))
  | .str x, .str y => some (.bl (ps x.cps.toList y.cps.toList))
  | _, _ => none
abbrev rOrd (pi : Int → Int → Bool) (ps : List Nat → List Nat → Bool) : R2 := fun x y H Q => (rI0 fun i j => .bl (pi i j)) x y H Q ∨ ∃ i j, x = .str i ∧ y = .str j ∧ Q (.bl (ps i.cps.toList j.cps.toList)) H
theorem opd_ord {pi : Int → Int → Bool} {ps : List Nat → List Nat → Bool} : OpD K (rOrd pi ps) (pur2 (ordO pi ps)) := fun W H x y a b d G' Q gr r1 r2 e p => by
  obtain ⟨e, eg⟩ := pur_eq e
  unfold ordO at e
  split at e
  · cases e; cases r1; cases r2
    exact .inl ⟨_, _, rfl, rfl, p W _ H eg.symm Ext.refl gr (.bl _)⟩
  · cases e; cases r1; cases r2
    exact .inr ⟨_, _, rfl, rfl, p W _ H eg.symm Ext.refl gr (.bl _)⟩
  · cases e
abbrev ltI : Int → Int → Bool := fun i j => decide (i < j)
abbrev ltS : List Nat → List Nat → Bool := fun x y => decide (x < y)
abbrev leI : Int → Int → Bool := fun i j => decide (i ≤ j)
abbrev leS : List Nat → List Nat → Bool := fun x y => !decide (y < x)
abbrev gtI : Int → Int → Bool := fun i j => decide (j < i)
abbrev gtS : List Nat → List Nat → Bool := fun x y => decide (y < x)
abbrev geI : Int → Int → Bool := fun i j => decide (j ≤ i)
abbrev geS : List Nat → List Nat → Bool := fun x y => !decide (x < y)
variable {X : Cx}
theorem op_ltA : OpR X (compareOp .Lt) (rOrd ltI ltS) := op_lt.or op_lt_str
theorem op_leA : OpR X (compareOp .LtE) (rOrd leI leS) := op_le.or op_le_str
theorem op_gtA : OpR X (compareOp .Gt) (rOrd gtI gtS) := op_gt.or op_gt_str
theorem op_geA : OpR X (compareOp .GtE) (rOrd geI geS) := op_ge.or op_ge_str
end
/-! ### in, not in: flat items of a list, a tuple; keys of a dict, of a set -/
def flatD : D → Bool
  | .non => true
  | .bl _ => true
  | .int _ => true
  | .str _ => true
  | _ => false
def eqFl : D → D → Bool
  | .non, .non => true
  | .bl a, .bl b => a == b
  | .bl a, .int b => (if a then 1 else 0) == b
  | .int a, .bl b => a == (if b then 1 else 0)
  | .int a, .int b => a == b
  | .str a, .str b => a == b
  | _, _ => false
def inO (neg : Bool) : D → D → Option D := fun x y => match y with
  | .lst xs => if flatD x && xs.all flatD then some (.bl (if neg then !(xs.any fun z => eqFl z x) else xs.any fun z => eqFl z x)) else none
  | .tup xs => if flatD x && xs.all flatD then some (.bl (if neg then !(xs.any fun z => eqFl z x) else xs.any fun z => eqFl z x)) else none
  | _ => none
section
variable {K : Pm} {L : Addr → Prop} {α : List Addr} {H : Hp}
theorem flat_v {v : V} {d : D} (r : Dr K L α H v d) (f : flatD d = true) : flatV v = true ∧ ∀ {u : V} {e : D}, Dr K L α H u e → flatD e = true → eqV u v = eqFl e d := by
  cases r <;> first
    | (refine ⟨rfl, fun {u e} q g => ?_⟩
       cases q <;> first | rfl | (exfalso; revert g; simp [flatD]))
    | (exfalso; revert f; simp [flatD])
theorem flat_all : ∀ {vs : List V} {ds : List D}, Drs K L α H vs ds → ds.all flatD = true → vs.all flatV = true
  | _, _, .nil, _ => rfl
  | _, _, .cons h r, f => by
    obtain ⟨f1, f2⟩ := Bool.and_eq_true_iff.mp (by rw [List.all_cons] at f; exact f)
    rw [List.all_cons, (flat_v h f1).1, flat_all r f2]; rfl
theorem in_any {v : V} {d : D} (q : Dr K L α H v d) (f : flatD d = true) : ∀ {vs : List V} {ds : List D}, Drs K L α H vs ds → ds.all flatD = true → inV v vs = ds.any fun z => eqFl z d
  | _, _, .nil, _ => rfl
  | _, _, .cons (v := u) (vs := us) h r, g => by
    obtain ⟨g1, g2⟩ := Bool.and_eq_true_iff.mp (by rw [List.all_cons] at g; exact g)
    have ih := in_any q f r g2
    unfold inV at ih ⊢
    rw [List.any_cons, List.any_cons, (flat_v q f).2 h g1, ih]
end
theorem opd_in {K : Pm} {neg : Bool} : OpD K (rIn K.K neg) (pur2 (inO neg)) := fun W H x y a b d G' Q gr r1 r2 e p => by
  obtain ⟨e, eg⟩ := pur_eq e
  unfold inO at e
  split at e
  · split at e
    · rename_i z
      obtain ⟨f1, f2⟩ := Bool.and_eq_true_iff.mp z
      cases e
      cases r2 with
      | lst h n r =>
        refine ⟨_, _, rfl, .inl (SqL.of h), (flat_v r1 f1).1, flat_all r f2, ?_⟩
        rw [in_any r1 f1 r f2]
        exact p W _ H eg.symm Ext.refl gr (.bl _)
    · cases e
  · split at e
    · rename_i z
      obtain ⟨f1, f2⟩ := Bool.and_eq_true_iff.mp z
      cases e
      cases r2 with
      | tup h r =>
        refine ⟨_, _, rfl, .inr h, (flat_v r1 f1).1, flat_all r f2, ?_⟩
        rw [in_any r1 f1 r f2]
        exact p W _ H eg.symm Ext.refl gr (.bl _)
    · cases e
  · cases e

/-! ### items -/
def ixO : D → D → P1 D := fun x y G => match x, y with
  | .lst xs, .int i => pur (atI xs i) G
  | .scr xs, .int i => pur (atI xs i) G
  | .tup xs, .int i => pur (atI xs i) G
  | .str z, .int i => pur (if z.length ≤ mx then (atI z.cps.toList i).map fun c => .str ⟨#[c]⟩ else none) G
  | .ref n, .int i => pur (match G[n]? with | some (.lst xs) => atI xs i | _ => none) G
  | _, _ => none
theorem Drs.at {K : Pm} {L : Addr → Prop} {α : List Addr} {H : Hp} : ∀ {vs : List V} {ds : List D} {j : Nat} {d : D}, Drs K L α H vs ds → ds[j]? = some d → ∃ v, vs[j]? = some v ∧ Dr K L α H v d
  | _, _, _, _, .nil, e => by simp at e
  | _, _, 0, _, .cons h r, e => by simp at e; subst e; exact ⟨_, rfl, h⟩
  | _, _, j + 1, d, .cons h r, e => by
    obtain ⟨v, h1, h2⟩ := Drs.at (j := j) r (by simpa using e)
    exact ⟨v, by simpa using h1, h2⟩
theorem Drs.atI {K : Pm} {L : Addr → Prop} {α : List Addr} {H : Hp} {vs : List V} {ds : List D} {i : Int} {d : D} (r : Drs K L α H vs ds) (e : L2.atI ds i = some d) : ∃ v, L2.atI vs i = some v ∧ Dr K L α H v d := by
  unfold L2.atI at e ⊢
  rw [r.length]
  cases q : ixN ds.length i with
  | none => rw [q] at e; cases e
  | some j => rw [q] at e; exact r.at e
theorem opd_ix {K : Pm} : OpD K (rIx K.K) ixO := fun W H x y a b d G' Q gr r1 r2 e p => by
  unfold ixO at e
  split at e
  · obtain ⟨e, eg⟩ := pur_eq e
    cases r2
    cases r1 with
    | lst h n r =>
      obtain ⟨v, h1, h2⟩ := r.atI e
      exact .inl ⟨_, _, _, _, rfl, rfl, SqL.of h, h1, p W _ H eg.symm Ext.refl gr h2⟩
  · obtain ⟨e, eg⟩ := pur_eq e
    cases r2
    cases r1 with
    | scr h r =>
      obtain ⟨v, h1, h2⟩ := r.atI e
      exact .inl ⟨_, _, _, _, rfl, rfl, h.sq, h1, p W _ H eg.symm Ext.refl gr h2⟩
  · obtain ⟨e, eg⟩ := pur_eq e
    cases r2
    cases r1 with
    | tup h r =>
      obtain ⟨v, h1, h2⟩ := r.atI e
      exact .inr (.inl ⟨_, _, _, _, rfl, rfl, h, h1, p W _ H eg.symm Ext.refl gr h2⟩)
  · obtain ⟨e, eg⟩ := pur_eq e
    cases r2
    cases r1
    split at e
    · rename_i hz
      obtain ⟨c, q, rfl⟩ := Option.map_eq_some_iff.mp e
      exact .inr (.inr ⟨_, _, _, rfl, rfl, mx_line hz, q, p W _ H eg.symm Ext.refl gr (.str _)⟩)
    · cases e
  · obtain ⟨e, eg⟩ := pur_eq e
    split at e
    · rename_i xs hn
      cases r2
      cases r1 with
      | ref ha =>
        obtain ⟨vs, hh, r⟩ := gr.obj _ _ _ ha hn
        obtain ⟨v, h1, h2⟩ := r.atI e
        exact .inl ⟨_, _, _, _, rfl, rfl, SqL.of hh, h1, p W _ H eg.symm Ext.refl gr h2⟩
    · cases e
  · cases e
end Tw

namespace Tw
open PySem PySem.Spec PyProof.Rows L2

/-! ### truth -/
def truD (d : D) (G : List O) : Option Bool := match d with
  | .non => some false
  | .bl b => some b
  | .int i => some (i != 0)
  | .str x => if x.length ≤ mx then some ((x.length : Int) != 0) else none
  | .tup xs => some (!xs.isEmpty)
  | .lst xs => some (!xs.isEmpty)
  | .scr xs => some (!xs.isEmpty)
  | .ref n => match G[n]? with
    | some (.lst xs) => some (!xs.isEmpty)
    | some (.dct kvs) => some (!kvs.isEmpty)
    | _ => none
  | _ => none
def truP (d : D) : P1 Bool := fun G => match truD d G with
  | some b => some (b, G)
  | none => none
theorem truP_eq {d : D} {G G1 : List O} {b : Bool} (h : truP d G = some (b, G1)) : truD d G = some b ∧ G1 = G := by
  unfold truP at h
  split at h
  · cases h; rename_i z; exact ⟨z, rfl⟩
  · cases h
theorem Drs.emp {K : Pm} {L : Addr → Prop} {α : List Addr} {H : Hp} {vs : List V} {ds : List D} (r : Drs K L α H vs ds) : vs.isEmpty = ds.isEmpty := by cases r <;> rfl
theorem Drk.emp {K : Pm} {L : Addr → Prop} {α : List Addr} {H : Hp} {vs : List (Key × V)} {ds : List (Key × D)} (r : Drk K L α H vs ds) : vs.isEmpty = ds.isEmpty := by cases r <;> rfl
theorem truV_of {K : Pm} {W : Wd} {H : Hp} {v : V} {d : D} {b : Bool} (g : Gr K W H) (r : Rv K W H v d) (h : truD d W.G = some b) : TruV K.K v H b := by
  unfold truD at h
  split at h
  · cases h; cases r; rfl
  · cases h; cases r; rfl
  · cases h; cases r; rfl
  · split at h
    · rename_i z; cases h; cases r; exact ⟨mx_line z, rfl⟩
    · cases h
  · cases h; cases r with
    | tup h q => exact .inr (.inl ⟨_, h, by rw [q.emp]⟩)
  · cases h; cases r with
    | lst h n q => exact .inl ⟨_, SqL.of h, by rw [q.emp]⟩
  · cases h; cases r with
    | scr h q => exact .inl ⟨_, h.sq, by rw [q.emp]⟩
  · split at h
    · rename_i hn
      cases h
      cases r with
      | ref ha =>
        obtain ⟨vs, hh, q⟩ := g.obj _ _ _ ha hn
        exact .inl ⟨vs, SqL.of hh, by rw [q.emp]⟩
    · rename_i hn
      cases h
      cases r with
      | ref ha =>
        obtain ⟨vs, hh, q⟩ := g.obj _ _ _ ha hn
        exact .inr (.inr ⟨vs, hh, by rw [q.emp]⟩)
    · cases h
  · cases h

/-! ### tests -/
def blO : D → Option Bool
  | .bl c => some c
  | _ => none
def dTest (a : En → M D) : En → M Bool := fun ρ => bnd (a ρ) fun d => lft (pur (blO d))
def dTru (a : En → M D) : En → M Bool := fun ρ => bnd (a ρ) fun d => lft (truP d)
def dNotT (a : En → M Bool) : En → M Bool := fun ρ => bnd (a ρ) fun c => ret (!c)
def dAndT (a b : En → M Bool) : En → M Bool := fun ρ => bnd (a ρ) fun c => if c = true then b ρ else ret false
def dOrT (a b : En → M Bool) : En → M Bool := fun ρ => bnd (a ρ) fun c => if c = true then ret true else b ρ
theorem blO_eq {d : D} {c : Bool} (h : blO d = some c) : d = .bl c := by
  unfold blO at h
  split at h
  · cases h; rfl
  · cases h
section
variable {X : Cx} {We : WE'} {a b c : Expr} {da db dc : En → M D} {ta tb : En → M Bool} {pos : Pos} {rest : List Expr}
theorem up_test {σ : L2.St} {H : Hp} {Q : Bool → Hp → Prop} (h : upT (Cxp X) We (dTest da) σ H Q) : upE (Cxp X) We da σ H (fun x H1 => ∃ k, x = .bl k ∧ Q k H1) := by
  obtain ⟨W, ρ, r, G', hR, e, p⟩ := h
  refine up_bnd hR e p fun d W1 v H1 x1 R1 r1 e1 p1 => ?_
  obtain ⟨c, e2, p2⟩ := up_lft e1 p1
  obtain ⟨e2, eg⟩ := pur_eq e2
  cases blO_eq e2
  cases r1
  exact ⟨c, rfl, p2 W1 c H1 eg.symm Ext.refl R1.gr rfl⟩
/-- an expression whose value is a bool, as a test -/
theorem tt_val (ha : PE X a (upE (Cxp X) We da)) (he : ∀ whole, isTrue a X.env whole = (do let v ← whole; standAt a.pos; holding [v] (truthy v)) := by intro _; rfl) : PT X a (upT (Cxp X) We (dTest da)) :=
  PT.imp (pt_val ha he) fun σ H Q h => up_test h
theorem tt_cmp {op : CmpOp} {r : R2} {f : D → D → P1 D} (ho : OpR X (compareOp op) r) (hd : OpD (Cxp X) r f) (ha : PE X a (upE (Cxp X) We da)) (hb : PE X b (upE (Cxp X) We db)) (hm : behindInMarks op b = false) :
    PT X (.Compare a [op] [b] pos) (upT (Cxp X) We (dTest (d2 f da db))) := PT.imp (pt_cmpR ho ha hb hm) fun σ H Q h => op_up hd (up_test h)
theorem tt_tru (ha : PE X a (upE (Cxp X) We da)) (he : ∀ whole, isTrue a X.env whole = (do let v ← whole; standAt a.pos; holding [v] (truthy v)) := by intro _; rfl) : PT X a (upT (Cxp X) We (dTru da)) :=
  PT.imp (pt_truth ha he) fun σ H Q h => by
    obtain ⟨W, ρ, r, G', hR, e, p⟩ := h
    refine up_bnd hR e p fun d W1 v H1 x1 R1 r1 e1 p1 => ?_
    obtain ⟨c, e2, p2⟩ := up_lft e1 p1
    obtain ⟨e2, eg⟩ := truP_eq e2
    exact ⟨c, truV_of R1.gr r1 e2, p2 W1 c H1 eg.symm Ext.refl R1.gr rfl⟩
theorem tt_not (ha : PT X a (upT (Cxp X) We ta)) : PT X (.UnaryOp .Not a pos) (upT (Cxp X) We (dNotT ta)) := PT.imp (pt_not ha) fun σ H Q h => by
  obtain ⟨W, ρ, r, G', hR, e, p⟩ := h
  refine up_bnd hR e p fun d W1 v H1 x1 R1 r1 e1 p1 => ?_
  cases r1
  exact up_ret e1 p1 W1 _ H1 rfl Ext.refl R1.gr rfl
theorem tw_and1 (ha : PT X a (upT (Cxp X) We ta)) : PW X (.BoolOp .And [a] pos) (upT (Cxp X) We ta) := pw_and1 ha
theorem tw_or1 (ha : PT X a (upT (Cxp X) We ta)) : PW X (.BoolOp .Or [a] pos) (upT (Cxp X) We ta) := pw_or1 ha
theorem tw_and (ha : PT X a (upT (Cxp X) We ta)) (hb : PW X (.BoolOp .And (b :: rest) pos) (upT (Cxp X) We tb)) : PW X (.BoolOp .And (a :: b :: rest) pos) (upT (Cxp X) We (dAndT ta tb)) := PW.imp (pw_and ha hb) fun σ H Q h => by
  obtain ⟨W, ρ, r, G', hR, e, p⟩ := h
  refine up_bnd hR e p fun d W1 v H1 x1 R1 r1 e1 p1 => ?_
  cases r1
  cases d with
  | true => exact ⟨W1, ρ, r, G', R1, e1, p1⟩
  | false => exact up_ret e1 p1 W1 _ H1 rfl Ext.refl R1.gr rfl
theorem tw_or (ha : PT X a (upT (Cxp X) We ta)) (hb : PW X (.BoolOp .Or (b :: rest) pos) (upT (Cxp X) We tb)) : PW X (.BoolOp .Or (a :: b :: rest) pos) (upT (Cxp X) We (dOrT ta tb)) := PW.imp (pw_or ha hb) fun σ H Q h => by
  obtain ⟨W, ρ, r, G', hR, e, p⟩ := h
  refine up_bnd hR e p fun d W1 v H1 x1 R1 r1 e1 p1 => ?_
  cases r1
  cases d with
  | false => exact ⟨W1, ρ, r, G', R1, e1, p1⟩
  | true => exact up_ret e1 p1 W1 _ H1 rfl Ext.refl R1.gr rfl
/-! as values -/
def dAnd (a b : En → M D) : En → M D := fun ρ => bnd (a ρ) fun d => bnd (lft (truP d)) fun c => if c = true then b ρ else ret d
def dOr (a b : En → M D) : En → M D := fun ρ => bnd (a ρ) fun d => bnd (lft (truP d)) fun c => if c = true then ret d else b ρ
theorem bnd_tru {A B : Type} {R : Wd → Hp → B → A → Prop} {K : Pm} {W : Wd} {H : Hp} {σ : L2.St} {d : D} {k : Bool → M A} {r : Sum Er A} {G' : List O} {Q : B → Hp → Prop} (e : bnd (lft (truP d)) k W.G = some (r, G')) : ∃ c, truD d W.G = some c ∧ k c W.G = some (r, G') := by
  unfold bnd lft truP at e
  cases q : truD d W.G with
  | none => rw [q] at e; cases e
  | some c => rw [q] at e; exact ⟨c, rfl, e⟩
theorem te_one {op} (h : PE X a (upE (Cxp X) We da)) : PE X (.BoolOp op [a] pos) (upE (Cxp X) We da) := pe_one h
theorem te_and (ha : PE X a (upE (Cxp X) We da)) (hb : PE X (.BoolOp .And (b :: rest) pos) (upE (Cxp X) We db)) : PE X (.BoolOp .And (a :: b :: rest) pos) (upE (Cxp X) We (dAnd da db)) := PE.imp (pe_andT ha hb) fun σ H Q h => by
  obtain ⟨W, ρ, r, G', hR, e, p⟩ := h
  refine up_bnd hR e p fun d W1 v H1 x1 R1 r1 e1 p1 => ?_
  obtain ⟨c, ec, e2⟩ := bnd_tru (A := D) (B := V) (R := Rv (Cxp X)) (K := Cxp X) (H := H1) (σ := σ) (Q := Q) e1
  refine ⟨c, truV_of R1.gr r1 ec, ?_⟩
  cases c with
  | true => exact iteT ⟨W1, ρ, r, G', R1, e2, p1⟩
  | false => exact iteF (up_ret e2 p1 W1 _ H1 rfl Ext.refl R1.gr r1)
theorem te_or (ha : PE X a (upE (Cxp X) We da)) (hb : PE X (.BoolOp .Or (b :: rest) pos) (upE (Cxp X) We db)) : PE X (.BoolOp .Or (a :: b :: rest) pos) (upE (Cxp X) We (dOr da db)) := PE.imp (pe_orT ha hb) fun σ H Q h => by
  obtain ⟨W, ρ, r, G', hR, e, p⟩ := h
  refine up_bnd hR e p fun d W1 v H1 x1 R1 r1 e1 p1 => ?_
  obtain ⟨c, ec, e2⟩ := bnd_tru (A := D) (B := V) (R := Rv (Cxp X)) (K := Cxp X) (H := H1) (σ := σ) (Q := Q) e1
  refine ⟨c, truV_of R1.gr r1 ec, ?_⟩
  cases c with
  | false => exact iteF ⟨W1, ρ, r, G', R1, e2, p1⟩
  | true => exact iteT (up_ret e2 p1 W1 _ H1 rfl Ext.refl R1.gr r1)
def dNot (a : En → M D) : En → M D := fun ρ => bnd (a ρ) fun d => bnd (lft (truP d)) fun c => ret (.bl (!c))
theorem te_not (ha : PE X a (upE (Cxp X) We da)) : PE X (.UnaryOp .Not a pos) (upE (Cxp X) We (dNot da)) := PE.imp (pe_notT ha) fun σ H Q h => by
  obtain ⟨W, ρ, r, G', hR, e, p⟩ := h
  refine up_bnd hR e p fun d W1 v H1 x1 R1 r1 e1 p1 => ?_
  obtain ⟨c, ec, e2⟩ := bnd_tru (A := D) (B := V) (R := Rv (Cxp X)) (K := Cxp X) (H := H1) (σ := σ) (Q := Q) e1
  exact ⟨c, truV_of R1.gr r1 ec, up_ret e2 p1 W1 _ H1 rfl Ext.refl R1.gr (.bl _)⟩
def dIf (t : En → M Bool) (a b : En → M D) : En → M D := fun ρ => bnd (t ρ) fun c => if c = true then a ρ else b ρ
theorem te_if (hc : PT X c (upT (Cxp X) We ta)) (ha : PE X a (upE (Cxp X) We da)) (hb : PE X b (upE (Cxp X) We db)) : PE X (.IfExp c a b pos) (upE (Cxp X) We (dIf ta da db)) := PE.imp (pe_ifExp hc ha hb) fun σ H Q h => by
  obtain ⟨W, ρ, r, G', hR, e, p⟩ := h
  refine up_bnd hR e p fun d W1 v H1 x1 R1 r1 e1 p1 => ?_
  cases r1
  cases d with
  | true => exact iteT ⟨W1, ρ, r, G', R1, e1, p1⟩
  | false => exact iteF ⟨W1, ρ, r, G', R1, e1, p1⟩
/-! is None -/
def isNO (neg : Bool) : D → D → Option D := fun x y => match y with
  | .non => some (.bl (match x with | .non => !neg | _ => neg))
  | _ => none
theorem opd_isN {K : Pm} : OpD K (fun x y H Q => y = .non ∧ Q (.bl (decide (x = .non))) H) (pur2 (isNO false)) := fun W H x y a b d G' Q gr r1 r2 e p => by
  obtain ⟨e, eg⟩ := pur_eq e
  unfold isNO at e
  split at e
  · cases e
    cases r2
    refine ⟨rfl, p W _ H eg.symm Ext.refl gr ?_⟩
    cases r1 <;> exact .bl _
  · cases e
theorem opd_notN {K : Pm} : OpD K (fun x y H Q => y = .non ∧ Q (.bl (!decide (x = .non))) H) (pur2 (isNO true)) := fun W H x y a b d G' Q gr r1 r2 e p => by
  obtain ⟨e, eg⟩ := pur_eq e
  unfold isNO at e
  split at e
  · cases e
    cases r2
    refine ⟨rfl, p W _ H eg.symm Ext.refl gr ?_⟩
    cases r1 <;> exact .bl _
  · cases e
/-! a op1 b op2 c -/
def dChain (f f' : D → D → P1 D) (a b c : En → M D) : En → M D := fun ρ => bnd (a ρ) fun x => bnd (b ρ) fun y => bnd (lft (f x y)) fun z => bnd (lft (pur (blO z))) fun k => if k = true then bnd (c ρ) fun w => lft (f' y w) else ret (.bl false)
theorem bnd_lft {A B : Type} {f : P1 A} {k : A → M B} {G G' : List O} {r : Sum Er B} (e : bnd (lft f) k G = some (r, G')) : ∃ a G1, f G = some (a, G1) ∧ k a G1 = some (r, G') := by
  unfold bnd lft at e
  cases q : f G with
  | none => rw [q] at e; cases e
  | some p => obtain ⟨a, G1⟩ := p; rw [q] at e; exact ⟨a, G1, rfl, e⟩
theorem chain_up {r1 r2 : R2} {f f' : D → D → P1 D} (h1 : OpD (Cxp X) r1 f) (h2 : OpD (Cxp X) r2 f') {σ : L2.St} {H : Hp} {Q : VK} (h : upE (Cxp X) We (dChain f f' da db dc) σ H Q) : tChain r1 r2 (upE (Cxp X) We da) (upE (Cxp X) We db) (upE (Cxp X) We dc) σ H Q := by
  obtain ⟨W, ρ, r, G', hR, e, p⟩ := h
  refine up_bnd hR e p fun d W1 v H1 x1 R1 q1 e1 p1 => ?_
  refine up_bnd R1 e1 p1 fun d' W2 v' H2 x2 R2 q2 e2 p2 => ?_
  obtain ⟨z, G3, ez, e3⟩ := bnd_lft e2
  obtain ⟨k, G4, ek, e4⟩ := bnd_lft e3
  obtain ⟨ek, eg⟩ := pur_eq ek
  cases blO_eq ek
  subst eg
  refine h1 W2 H2 v v' d d' (.bl k) _ _ R2.gr (q1.keep R1.gr x2) q2 ez fun W5 v5 H5 eg5 x5 g5 r5 => ?_
  cases r5
  have R5 := R2.keep g5 x5
  refine ⟨k, rfl, ?_⟩
  rw [← eg5] at e4
  cases k with
  | true =>
    refine iteT (up_bnd R5 e4 (p2.mono x5) fun d6 W6 v6 H6 x6 R6 q6 e6 p6 => ?_)
    obtain ⟨d7, e7, p7⟩ := up_lft e6 p6
    exact h2 W6 H6 v' v6 d' d6 d7 G' Q R6.gr ((q2.keep R2.gr x5).keep R5.gr x6) q6 e7 p7
  | false => exact iteF (up_ret e4 (p2.mono x5) W5 _ H5 rfl Ext.refl g5 (.bl _))
theorem te_chain {op op' : CmpOp} {r1 r2 : R2} {f f' : D → D → P1 D} (ho : OpR X (compareOp op) r1) (ho' : OpR X (compareOp op') r2) (h1 : OpD (Cxp X) r1 f) (h2 : OpD (Cxp X) r2 f') (ha : PE X a (upE (Cxp X) We da)) (hb : PE X b (upE (Cxp X) We db)) (hc : PE X c (upE (Cxp X) We dc))
    (hm : lastMarks [op, op'] [b, c] = false := by with_unfolding_all rfl) : PE X (.Compare a [op, op'] [b, c] pos) (upE (Cxp X) We (dChain f f' da db dc)) := PE.imp (pe_chain ho ho' ha hb hc hm) fun σ H Q h => chain_up h1 h2 h
theorem tt_chain {op op' : CmpOp} {r1 r2 : R2} {f f' : D → D → P1 D} (ho : OpR X (compareOp op) r1) (ho' : OpR X (compareOp op') r2) (h1 : OpD (Cxp X) r1 f) (h2 : OpD (Cxp X) r2 f') (ha : PE X a (upE (Cxp X) We da)) (hb : PE X b (upE (Cxp X) We db)) (hc : PE X c (upE (Cxp X) We dc))
    (hm : lastMarks [op, op'] [b, c] = false := by with_unfolding_all rfl) : PT X (.Compare a [op, op'] [b, c] pos) (upT (Cxp X) We (dTest (dChain f f' da db dc))) := PT.imp (pt_chain ho ho' ha hb hc hm) fun σ H Q h => chain_up h1 h2 (up_test h)
end

/-! ### slices -/
def cutD (xs : List D) (lo hi : Option Int) : List D := (xs.drop (HT.sIx xs.length 0 lo)).take (HT.sIx xs.length xs.length hi - HT.sIx xs.length 0 lo)
def intO : D → Option Int
  | .int i => some i
  | _ => none
def dNoP : En → M (Option Int) := fun _ => ret none
def dP (a : En → M D) : En → M (Option Int) := fun ρ => bnd (a ρ) fun d => bnd (lft (pur (intO d))) fun i => ret (some i)
def slO (d : D) (lo hi : Option Int) (G : List O) : Option D := match d with
  | .tup xs => some (.tup (cutD xs lo hi))
  | .lst xs => some (.lst (cutD xs lo hi))
  | .scr xs => some (.lst (cutD xs lo hi))
  | .ref n => match G[n]? with
    | some (.lst xs) => some (.lst (cutD xs lo hi))
    | _ => none
  | _ => none
def slP (d : D) (lo hi : Option Int) : P1 D := fun G => match slO d lo hi G with
  | some a => some (a, G)
  | none => none
def dSl (a : En → M D) (lo hi : En → M (Option Int)) : En → M D := fun ρ => bnd (a ρ) fun d => bnd (lo ρ) fun l => bnd (hi ρ) fun h => lft (slP d l h)
abbrev Ro (W : Wd) (H : Hp) (a b : Option Int) : Prop := a = b
abbrev upO (K : Pm) (We : WE') (de : En → M (Option Int)) : TO := up K We Ro de
theorem Drs.drop {K : Pm} {L : Addr → Prop} {α : List Addr} {H : Hp} : ∀ {vs : List V} {ds : List D} (n : Nat), Drs K L α H vs ds → Drs K L α H (vs.drop n) (ds.drop n)
  | _, _, 0, r => r
  | _, _, _ + 1, .nil => .nil
  | _, _, n + 1, .cons _ t => Drs.drop n t
theorem Drs.take {K : Pm} {L : Addr → Prop} {α : List Addr} {H : Hp} : ∀ {vs : List V} {ds : List D} (n : Nat), Drs K L α H vs ds → Drs K L α H (vs.take n) (ds.take n)
  | _, _, 0, _ => .nil
  | _, _, _ + 1, .nil => .nil
  | _, _, n + 1, .cons r t => .cons r (Drs.take n t)
theorem Drs.cut {K : Pm} {L : Addr → Prop} {α : List Addr} {H : Hp} {vs : List V} {ds : List D} (r : Drs K L α H vs ds) (lo hi : Option Int) : Drs K L α H (cutV vs lo hi) (cutD ds lo hi) := by
  unfold cutV cutD
  rw [r.length]
  exact (r.drop _).take _
theorem cut_whole {xs : List D} {lo hi : Option Int} (h : HT.sIx xs.length 0 lo = 0 ∧ HT.sIx xs.length xs.length hi = xs.length) : cutD xs lo hi = xs := by
  unfold cutD
  rw [h.1, h.2]
  simp
section
variable {X : Cx} {We : WE'} {a : Expr} {lo hi : Option Expr} {da : En → M D} {dl dh : En → M (Option Int)} {pos p2 : Pos}
theorem to_none : PO X none (upO (Cxp X) We dNoP) := ⟨fun pins s σ H Q I h => po_none.run pins s σ H Q I (by
  obtain ⟨W, ρ, r, G', hR, e, p⟩ := h
  exact up_ret e p W none H rfl Ext.refl hR.gr rfl)⟩
theorem to_some (ha : PE X a (upE (Cxp X) We da)) : PO X (some a) (upO (Cxp X) We (dP da)) := ⟨fun pins s σ H Q I h => (po_some ha).run pins s σ H Q I (by
  obtain ⟨W, ρ, r, G', hR, e, p⟩ := h
  refine up_bnd hR e p fun d W1 v H1 x1 R1 r1 e1 p1 => ?_
  obtain ⟨i, G3, ei, e3⟩ := bnd_lft e1
  obtain ⟨ei, eg⟩ := pur_eq ei
  subst eg
  unfold intO at ei
  split at ei
  · cases ei
    cases r1
    exact ⟨_, rfl, up_ret e3 p1 W1 _ H1 rfl Ext.refl R1.gr rfl⟩
  · cases ei)⟩
abbrev rSl (K : PySem.W.Frag) : V → Option Int → Option Int → Hp → VK → Prop := fun x lo hi H Q => rSlA K x lo hi H Q ∨ rSlL K x lo hi H Q
theorem sl_A : SlR X (rSl X.K) := sl_tupA.or sl_list
theorem te_sl (ha : PE X a (upE (Cxp X) We da)) (hl : PO X lo (upO (Cxp X) We dl)) (hh : PO X hi (upO (Cxp X) We dh)) : PE X (.Subscript a (.Slice lo hi none p2) pos) (upE (Cxp X) We (dSl da dl dh)) := PE.imp (pe_slice sl_A ha hl hh) fun σ H Q h => by
  obtain ⟨W, ρ, r, G', hR, e, p⟩ := h
  refine up_bnd hR e p fun d W1 v H1 x1 R1 r1 e1 p1 => ?_
  refine up_bnd R1 e1 p1 fun l W2 l' H2 x2 R2 r2 e2 p2 => ?_
  cases r2
  refine up_bnd R2 e2 p2 fun u W3 u' H3 x3 R3 r3 e3 p3 => ?_
  cases r3
  obtain ⟨c, e4, p4⟩ := up_lft e3 p3
  have rv := (r1.keep R1.gr x2).keep R2.gr x3
  unfold slP at e4
  split at e4
  · rename_i c' hc
    cases e4
    unfold slO at hc
    split at hc
    · cases hc
      cases rv with
      | tup h q =>
        rename_i vs
        refine .inl ⟨_, vs, rfl, h, fun hw => ?_, fun hw pa n => ?_⟩
        · refine p4 W3 _ H3 rfl Ext.refl R3.gr ?_
          rw [q.length] at hw
          rw [cut_whole hw]
          exact .tup h q
        · obtain ⟨g, xx, rr⟩ := tup_new R3.gr (q.cut l u) n
          exact p4 W3 _ _ rfl xx g rr
    · cases hc
      cases rv with
      | lst h nl q =>
        refine .inr ⟨_, _, rfl, SqL.of h, fun pa n => ?_⟩
        obtain ⟨g, xx, rr⟩ := lst_new R3.gr (q.cut l u) n
        exact p4 W3 _ _ rfl xx g rr
    · cases hc
      cases rv with
      | scr h q =>
        refine .inr ⟨_, _, rfl, h.sq, fun pa n => ?_⟩
        obtain ⟨g, xx, rr⟩ := lst_new R3.gr (q.cut l u) n
        exact p4 W3 _ _ rfl xx g rr
    · split at hc
      · rename_i hn
        cases hc
        cases rv with
        | ref hα =>
          obtain ⟨vs, hh, q⟩ := R3.gr.obj _ _ _ hα hn
          refine .inr ⟨_, vs, rfl, SqL.of hh, fun pa n => ?_⟩
          obtain ⟨g, xx, rr⟩ := lst_new R3.gr (q.cut l u) n
          exact p4 W3 _ _ rfl xx g rr
      · cases hc
    · cases hc
  · cases e4
end
end Tw

namespace Tw
open PySem PySem.Spec PyProof.Rows L2

/-! ### statements -/
inductive Out where
  | nx (ρ : En) | rt (d : D) | bk (ρ : En) | ct (ρ : En)
def PostS (K : Pm) (We : WE') (W : Wd) (H : Hp) (r : Sum Er Out) (G' : List O) (D0 : Ends) : Prop := match r with
  | .inr (.nx ρ) => ∀ (W' : Wd) (σ' : L2.St) (H' : Hp), W'.G = G' → Ext W H W' H' → Rs K W' ρ σ' H' → D0.nx σ' H'
  | .inr (.rt d) => ∀ (W' : Wd) (v : V) (H' : Hp), W'.G = G' → Ext W H W' H' → Gr K W' H' → Rv K W' H' v d → D0.rt v H'
  | .inr (.bk ρ) => ∀ (W' : Wd) (σ' : L2.St) (H' : Hp), W'.G = G' → Ext W H W' H' → Rs K W' ρ σ' H' → D0.bk σ' H'
  | .inr (.ct ρ) => ∀ (W' : Wd) (σ' : L2.St) (H' : Hp), W'.G = G' → Ext W H W' H' → Rs K W' ρ σ' H' → D0.ct σ' H'
  | .inl e => ∀ (W' : Wd) (σ' : L2.St) (H' : Hp), W'.G = G' → Ext W H W' H' → Gr K W' H' → We e W' σ' H'
def ups (K : Pm) (We : WE') (ds : En → M Out) : TS := fun D0 σ H => ∃ (W : Wd) (ρ : En) (r : Sum Er Out) (G' : List O), Rs K W ρ σ H ∧ ds ρ W.G = some (r, G') ∧ PostS K We W H r G' D0
theorem PostS.mono {K : Pm} {We : WE'} {W W1 : Wd} {H H1 : Hp} {r : Sum Er Out} {G' : List O} {D0 : Ends} (p : PostS K We W H r G' D0) (x : Ext W H W1 H1) : PostS K We W1 H1 r G' D0 := by
  match r with
  | .inr (.nx ρ) => exact fun W' σ' H' e x' g => p W' σ' H' e (x.trans x') g
  | .inr (.rt d) => exact fun W' v H' e x' g q => p W' v H' e (x.trans x') g q
  | .inr (.bk ρ) => exact fun W' σ' H' e x' g => p W' σ' H' e (x.trans x') g
  | .inr (.ct ρ) => exact fun W' σ' H' e x' g => p W' σ' H' e (x.trans x') g
  | .inl e => exact fun W' σ' H' e x' g => p W' σ' H' e (x.trans x') g
/-- an expression first, then what the statement does -/
theorem ups_bnd {A B : Type} {K : Pm} {We : WE'} {R : Wd → Hp → B → A → Prop} {W : Wd} {H : Hp} {σ : L2.St} {ρ : En} {G' : List O} {da : En → M A} {k : A → M Out} {r : Sum Er Out} {D0 : Ends} {T : B → Hp → Prop}
    (hR : Rs K W ρ σ H) (e : bnd (da ρ) k W.G = some (r, G')) (p : PostS K We W H r G' D0)
    (h : ∀ (d : A) (W1 : Wd) (v : B) (H1 : Hp), Ext W H W1 H1 → Rs K W1 ρ σ H1 → R W1 H1 v d → k d W1.G = some (r, G') → PostS K We W1 H1 r G' D0 → T v H1) : up K We R da σ H T := by
  unfold bnd at e
  split at e
  · rename_i a G1 he
    exact ⟨W, ρ, .inr a, G1, hR, he, fun W' v H' eg x g q => h a W' v H' x (hR.keep g x) q (by rw [eg]; exact e) (p.mono x)⟩
  · rename_i er G1 he
    cases e
    exact ⟨W, ρ, .inl er, _, hR, he, fun W' H' eg x g => p W' σ H' eg x g⟩
  · cases e
def dNext : En → M Out := fun ρ => ret (.nx ρ)
def dSeq (a b : En → M Out) : En → M Out := fun ρ => bnd (a ρ) fun o => match o with
  | .nx ρ' => b ρ'
  | o => ret o
def dIfS (t : En → M Bool) (a b : En → M Out) : En → M Out := fun ρ => bnd (t ρ) fun c => if c = true then a ρ else b ρ
def dRet (a : En → M D) : En → M Out := fun ρ => bnd (a ρ) fun d => ret (.rt d)
def dRetN : En → M Out := fun _ => ret (.rt .non)
def dExpr (a : En → M D) : En → M Out := fun ρ => bnd (a ρ) fun _ => ret (.nx ρ)
def dBrk : En → M Out := fun ρ => ret (.bk ρ)
def dCnt : En → M Out := fun ρ => ret (.ct ρ)
section
variable {X : Cx} {We : WE'} {st : Stmt} {sts sts' : List Stmt} {e : Expr} {da : En → M D} {ta : En → M Bool} {s1 s2 : En → M Out} {pos : Pos}
theorem nx_end {K : Pm} {W : Wd} {H : Hp} {ρ : En} {σ : L2.St} {r : Sum Er Out} {G' : List O} {D0 : Ends} (e : ret (Out.nx ρ) W.G = some (r, G')) (p : PostS K We W H r G' D0) {W' : Wd} {H' : Hp} (eg : W'.G = W.G) (x : Ext W H W' H') (hR : Rs K W' ρ σ H') : D0.nx σ H' := by
  cases e
  exact p W' σ H' eg x hR
theorem ts_nil : PSs X [] (ups (Cxp X) We dNext) := PSs.imp pss_nil fun D0 σ H h => by
  obtain ⟨W, ρ, r, G', hR, e, p⟩ := h
  exact nx_end e p rfl Ext.refl hR
theorem seq_up {D0 : Ends} {σ : L2.St} {H : Hp} (h : ups (Cxp X) We (dSeq s1 s2) D0 σ H) : tSeq (ups (Cxp X) We s1) (ups (Cxp X) We s2) D0 σ H := by
  obtain ⟨W, ρ, r, G', hR, e, p⟩ := h
  unfold dSeq bnd at e
  split at e
  · rename_i a G1 he
    cases a with
    | nx ρ' => exact ⟨W, ρ, .inr (.nx ρ'), G1, hR, he, fun W' σ' H' eg x R' => ⟨W', ρ', r, G', R', by rw [eg]; exact e, p.mono x⟩⟩
    | rt d => cases e; exact ⟨W, ρ, .inr (.rt d), _, hR, he, p⟩
    | bk ρ' => cases e; exact ⟨W, ρ, .inr (.bk ρ'), _, hR, he, p⟩
    | ct ρ' => cases e; exact ⟨W, ρ, .inr (.ct ρ'), _, hR, he, p⟩
  · rename_i er G1 he
    cases e
    exact ⟨W, ρ, .inl er, _, hR, he, p⟩
  · cases e
theorem ts_cons (h1 : PS X st (ups (Cxp X) We s1)) (h2 : PSs X sts (ups (Cxp X) We s2)) : PSs X (st :: sts) (ups (Cxp X) We (dSeq s1 s2)) := PSs.imp (pss_cons h1 h2) fun _ _ _ h => seq_up h
theorem ts_one (h1 : PS X st (ups (Cxp X) We s1)) : PSs X [st] (ups (Cxp X) We s1) := pss_one h1
theorem tS_if {c : Expr} (hc : PT X c (upT (Cxp X) We ta)) (ha : PSs X sts (ups (Cxp X) We s1)) (hb : PSs X sts' (ups (Cxp X) We s2)) : PS X (.If c sts sts' pos) (ups (Cxp X) We (dIfS ta s1 s2)) := PS.imp (ps_if hc ha hb) fun D0 σ H h => by
  obtain ⟨W, ρ, r, G', hR, e, p⟩ := h
  refine ups_bnd hR e p fun d W1 v H1 x1 R1 r1 e1 p1 => ?_
  cases r1
  cases d with
  | true => exact iteT ⟨W1, ρ, r, G', R1, e1, p1⟩
  | false => exact iteF ⟨W1, ρ, r, G', R1, e1, p1⟩
theorem tS_ret (he : PE X e (upE (Cxp X) We da)) : PS X (.Return (some e) pos) (ups (Cxp X) We (dRet da)) := PS.imp (ps_ret he) fun D0 σ H h => by
  obtain ⟨W, ρ, r, G', hR, e, p⟩ := h
  refine ups_bnd hR e p fun d W1 v H1 x1 R1 r1 e1 p1 => ?_
  cases e1
  exact p1 W1 v H1 rfl Ext.refl R1.gr r1
theorem tS_retN : PS X (.Return none pos) (ups (Cxp X) We dRetN) := PS.imp ps_retN fun D0 σ H h => by
  obtain ⟨W, ρ, r, G', hR, e, p⟩ := h
  cases e
  exact p W .non H rfl Ext.refl hR.gr .non
theorem tS_expr (he : PE X e (upE (Cxp X) We da)) (hs : swapsWith e none pos.line X.env = pure false := by rfl) : PS X (.Expr e pos) (ups (Cxp X) We (dExpr da)) := PS.imp (ps_expr he hs) fun D0 σ H h => by
  obtain ⟨W, ρ, r, G', hR, e, p⟩ := h
  refine ups_bnd hR e p fun d W1 v H1 x1 R1 r1 e1 p1 => ?_
  exact nx_end e1 p1 rfl Ext.refl R1
theorem tS_pass : PS X (.Pass pos) (ups (Cxp X) We dNext) := PS.imp ps_pass fun D0 σ H h => by
  obtain ⟨W, ρ, r, G', hR, e, p⟩ := h
  exact nx_end e p rfl Ext.refl hR
theorem tS_brk : PS X (.Break pos) (ups (Cxp X) We dBrk) := PS.imp ps_break fun D0 σ H h => by
  obtain ⟨W, ρ, r, G', hR, e, p⟩ := h
  cases e
  exact p W σ H rfl Ext.refl hR
theorem tS_cnt : PS X (.Continue pos) (ups (Cxp X) We dCnt) := PS.imp ps_continue fun D0 σ H h => by
  obtain ⟨W, ρ, r, G', hR, e, p⟩ := h
  cases e
  exact p W σ H rfl Ext.refl hR
end

/-! ### targets -/
def upG (K : Pm) (dg : D → En → P1 En) : TG := fun v σ H Q => ∃ (W : Wd) (ρ : En) (d : D) (ρ' : En) (G' : List O), Rs K W ρ σ H ∧ Rv K W H v d ∧ dg d ρ W.G = some (ρ', G') ∧ ∀ (W' : Wd) (σ' : L2.St) (H' : Hp), W'.G = G' → Ext W H W' H' → Rs K W' ρ' σ' H' → Q σ' H'
def upGs (K : Pm) (dg : List D → En → P1 En) : TGs := fun vs σ H Q => ∃ (W : Wd) (ρ : En) (ds : List D) (ρ' : En) (G' : List O), Rs K W ρ σ H ∧ Rvs K W H vs ds ∧ dg ds ρ W.G = some (ρ', G') ∧ ∀ (W' : Wd) (σ' : L2.St) (H' : Hp), W'.G = G' → Ext W H W' H' → Rs K W' ρ' σ' H' → Q σ' H'
def gN (i : Nat) : D → En → P1 En := fun d ρ G => some (ρ.set i (some d), G)
def gsNil : List D → En → P1 En := fun ds ρ G => match ds with
  | [] => some (ρ, G)
  | _ => none
def gsCons (a : D → En → P1 En) (b : List D → En → P1 En) : List D → En → P1 En := fun ds ρ G => match ds with
  | [] => none
  | d :: r => match a d ρ G with
    | some (ρ1, G1) => b r ρ1 G1
    | none => none
def gT (n : Nat) (b : List D → En → P1 En) : D → En → P1 En := fun d ρ G => match d with
  | .tup xs => if xs.length = n then b xs ρ G else none
  | _ => none
theorem Rs.set {K : Pm} {W : Wd} {ρ : En} {σ : L2.St} {H : Hp} {v : V} {d : D} (r : Rs K W ρ σ H) (q : Rv K W H v d) (i : Nat) : Rs K W (ρ.set i (some d)) (σ.set i (some v)) H := by
  refine ⟨r.gr, by simp [r.len], fun j d' e => ?_⟩
  by_cases h : i = j
  · subst h
    by_cases hi : i < ρ.length
    · rw [List.getElem?_set_self hi] at e
      cases e
      exact ⟨v, List.getElem?_set_self (by rw [← r.len]; exact hi), q⟩
    · rw [List.getElem?_eq_none_iff.mpr (by simpa using Nat.le_of_not_lt hi)] at e
      cases e
  · rw [List.getElem?_set_ne h] at e ⊢
    exact r.var j d' e
section
variable {X : Cx} {We : WE'} {pos : Pos} {t : Expr} {ts : List Expr} {ga : D → En → P1 En} {gb : List D → En → P1 En} {e : Expr} {da : En → M D}
theorem PG.imp {t t' : TG} {tg : Expr} (h : PG X tg t) (i : ∀ v σ H Q, t' v σ H Q → t v σ H Q) : PG X tg t' := ⟨fun pins s σ H v u Q I r q => h.run pins s σ H v u Q I r (i v σ H Q q)⟩
theorem PGs.imp {t t' : TGs} {tg : List Expr} (h : PGs X tg t) (i : ∀ v σ H Q, t' v σ H Q → t v σ H Q) : PGs X tg t' := ⟨fun pins s σ H v u Q I r q => h.run pins s σ H v u Q I r (i v σ H Q q)⟩
theorem tg_n {i : Nat} {x : Str} (hN : X.N.Nodup) (hi : X.N[i]? = some x := by rfl) (hx : Loc X.env.scope x := by first | exact Or.inl rfl | exact Or.inr rfl) (hf : X.fn x = true ∨ X.env.scope.names.lookup x = some .local := by first | exact .inl rfl | exact .inr rfl | assumption) :
    PG X (.Name x pos) (upG (Cxp X) (gN i)) := PG.imp (pg_name (i := i) hN hi hx hf) fun v σ H Q h => by
  obtain ⟨W, ρ, d, ρ', G', hR, rv, e, p⟩ := h
  cases e
  exact p W _ H rfl Ext.refl (hR.set rv i)
theorem tgs_nil : PGs X [] (upGs (Cxp X) gsNil) := PGs.imp pgs_nil fun vs σ H Q h => by
  obtain ⟨W, ρ, ds, ρ', G', hR, rv, e, p⟩ := h
  cases rv with
  | nil => cases e; exact ⟨rfl, p W σ H rfl Ext.refl hR⟩
  | cons _ _ => cases e
theorem tgs_cons (h1 : PG X t (upG (Cxp X) ga)) (h2 : PGs X ts (upGs (Cxp X) gb)) (hs : (assignEach (t :: ts) X.env).map (·.2) = assign t X.env :: (assignEach ts X.env).map (·.2) := by rfl) : PGs X (t :: ts) (upGs (Cxp X) (gsCons ga gb)) := PGs.imp (pgs_cons h1 h2 hs) fun vs σ H Q h => by
  obtain ⟨W, ρ, ds, ρ', G', hR, rv, e, p⟩ := h
  cases rv with
  | nil => cases e
  | cons h r =>
    unfold gsCons at e
    split at e
    · cases e
    · rename_i d r' heq
      cases heq
      split at e
      · rename_i ρ1 G1 he
        exact ⟨_, _, rfl, W, ρ, _, ρ1, G1, hR, h, he, fun W1 σ1 H1 eg x R1 => ⟨W1, ρ1, _, ρ', G', R1, r.keep hR.gr x, by rw [eg]; exact e, fun W2 σ2 H2 eg2 x2 R2 => p W2 σ2 H2 eg2 (x.trans x2) R2⟩⟩
      · cases e
theorem tg_t {k : Nat} {n : Nat} (hc : X.calm = true) (h : PGs X ts (upGs (Cxp X) gb)) (hn : (assignEach ts X.env).length = n := by rfl) (hst : (assignEach ts X.env).findIdx? (·.1) = none := by rfl) : PG X (.Tuple ts k pos) (upG (Cxp X) (gT n gb)) :=
  PG.imp (pg_tup hc h hn hst) fun v σ H Q h => by
    obtain ⟨W, ρ, d, ρ', G', hR, rv, e, p⟩ := h
    unfold gT at e
    split at e
    · split at e
      · rename_i z
        cases rv with
        | tup ha r => exact ⟨_, _, rfl, ha, by rw [r.length]; exact z, W, ρ, _, ρ', G', hR, r, e, p⟩
      · cases e
    · cases e
def dAsg (a : En → M D) (g : D → En → P1 En) : En → M Out := fun ρ => bnd (a ρ) fun d => bnd (lft (g d ρ)) fun ρ' => ret (.nx ρ')
theorem tS_asg (he : PE X e (upE (Cxp X) We da)) (hg : PG X t (upG (Cxp X) ga)) (hs : swapsWithSole [t] e pos.line X.env = pure false := by rfl) (hw : swappedStores [t] e X.env = pure none := by rfl) (h1 : (assignEach [t] X.env).map (·.2) = [assign t X.env] := by rfl) : PS X (.Assign [t] e pos) (ups (Cxp X) We (dAsg da ga)) :=
  PS.imp (ps_asg he hg hs hw h1) fun D0 σ H h => by
    obtain ⟨W, ρ, r, G', hR, e, p⟩ := h
    refine ups_bnd hR e p fun d W1 v H1 x1 R1 r1 e1 p1 => ?_
    obtain ⟨ρ', G2, e2, e3⟩ := bnd_lft e1
    exact ⟨W1, ρ, d, ρ', G2, R1, r1, e2, fun W2 σ2 H2 eg x R2 => nx_end (by rw [← eg] at e3; exact e3) (p1.mono x) rfl Ext.refl R2⟩
/-- a, b = x, y, both names -/
def par2 (i j : Nat) (ds : List D) (ρ : En) : Option En := match ds with
  | [x, y] => some ((ρ.set i (some x)).set j (some y))
  | _ => none
def dPar (i j : Nat) (a : En → M (List D)) : En → M Out := fun ρ => bnd (a ρ) fun ds => bnd (lft (pur (par2 i j ds ρ))) fun ρ' => ret (.nx ρ')
theorem par_up {i j : Nat} {da : En → M (List D)} {D0 : Ends} {σ : L2.St} {H : Hp} (h : ups (Cxp X) We (dPar i j da) D0 σ H) : tPar i j (upA (Cxp X) We da) D0 σ H := by
  obtain ⟨W, ρ, r, G', hR, e, p⟩ := h
  refine ups_bnd hR e p fun d W1 v H1 x1 R1 r1 e1 p1 => ?_
  obtain ⟨ρ', G2, e2, e3⟩ := bnd_lft e1
  obtain ⟨e2, eg⟩ := pur_eq e2
  subst eg
  unfold par2 at e2
  split at e2
  · cases e2
    cases r1 with
    | cons h1 r1 => cases r1 with
      | cons h2 r1 =>
        cases r1
        exact ⟨_, _, rfl, nx_end e3 p1 rfl Ext.refl ((R1.set h1 i).set h2 j)⟩
  · cases e2
theorem tS_par {i j : Nat} {x y : Str} {a b : Expr} {da : En → M (List D)} {px py pt : Pos} {kt k2 : Nat} {pt2 : Pos} (hc : X.calm = true) (hN : X.N.Nodup) (hi : X.N[i]? = some x) (hj : X.N[j]? = some y) (hij : i ≠ j) (hx : X.env.scope.names.lookup x = some .local) (hy : X.env.scope.names.lookup y = some .local)
    (ha : PA X [a, b] (upA (Cxp X) We da)) (hw : swappedStores [.Tuple [.Name x px, .Name y py] kt pt] (.Tuple [a, b] k2 pt2) X.env = pure (some [x, y])) (hs : swapsWithSole [.Tuple [.Name x px, .Name y py] kt pt] (.Tuple [a, b] k2 pt2) pos.line X.env = pure false := by rfl) :
    PS X (.Assign [.Tuple [.Name x px, .Name y py] kt pt] (.Tuple [a, b] k2 pt2) pos) (ups (Cxp X) We (dPar i j da)) := PS.imp (ps_par hc hN hi hj hij hx hy ha hw hs) fun D0 σ H h => par_up h
/-- x op= e, x a name; the operator by values -/
def dAug (i : Nat) (f : D → D → P1 D) (a : En → M D) : En → M Out := fun ρ => bnd (dV i ρ) fun x => bnd (a ρ) fun y => bnd (lft (f x y)) fun z => ret (.nx (ρ.set i (some z)))
theorem tS_aug {i : Nat} {x : Str} {op : Operator} {ti : TIp} {f : D → D → P1 D} {pos' : Pos} (hN : X.N.Nodup) (hi : X.N[i]? = some x) (hx : Loc X.env.scope x) (he : PE X e (upE (Cxp X) We da)) (ho : PIp X op ti) (hd : OpD (Cxp X) ti f)
    (hf : X.fn x = true ∨ X.env.scope.names.lookup x = some .local := by first | exact .inl rfl | exact .inr rfl | assumption) : PS X (.AugAssign (.Name x pos') op e pos) (ups (Cxp X) We (dAug i f da)) := PS.imp (ps_aug (i := i) hN hi hx he ho hf) fun D0 σ H h => by
  obtain ⟨W, ρ, r, G', hR, e, p⟩ := h
  unfold dAug dV at e
  obtain ⟨d, G2, e2, e3⟩ := bnd_lft e
  obtain ⟨e2, eg⟩ := pur_eq e2
  subst eg
  have e' : ρ[i]? = some (some d) := by
    revert e2
    split
    · rename_i d' he
      intro z; cases z; exact he
    · intro z; cases z
  obtain ⟨v, hv, rv⟩ := hR.var i d e'
  refine ⟨v, hv, ups_bnd hR e3 p fun d1 W1 v1 H1 x1 R1 r1 e4 p1 => ?_⟩
  obtain ⟨z, G5, ez, e5⟩ := bnd_lft e4
  refine hd W1 H1 v v1 d d1 z G5 _ R1.gr (rv.keep hR.gr x1) r1 ez fun W6 v6 H6 eg6 x6 g6 r6 => ?_
  exact nx_end (by rw [← eg6] at e5; exact e5) (p1.mono x6) rfl Ext.refl ((R1.keep g6 x6).set r6 i)
end

/-! ### what a loop walks -/
structure WalkD (K : Pm) (W : Wd) (H : Hp) (J : It) (ds : List D) : Prop where
  ex : ∃ (Gd : Hp → Prop) (Y : Nat → Hp → V → Hp → Prop), Walk J ds.length Gd Y ∧ (∀ (W' : Wd) (H' : Hp), ExtW W H W' H' → Gr K W' H' → Gd H') ∧
    ∀ (i : Nat) (W' : Wd) (H' : Hp) (x : V) (H'' : Hp), i < ds.length → ExtW W H W' H' → Gr K W' H' → Y i H' x H'' → ∃ d, ds[i]? = some d ∧ Gr K W' H'' ∧ Ext W' H' W' H'' ∧ Rv K W' H'' x d
def upI (K : Pm) (We : WE') (di : En → M (List D)) : TI := fun σ H R => ∃ (W : Wd) (ρ : En) (r : Sum Er (List D)) (G' : List O), Rs K W ρ σ H ∧ di ρ W.G = some (r, G') ∧ match r with
  | .inr ds => ∀ (W' : Wd) (H' : Hp), W'.G = G' → Ext W H W' H' → Gr K W' H' → ∀ J, WalkD K W' H' J ds → R J H'
  | .inl e => ∀ (W' : Wd) (H' : Hp), W'.G = G' → Ext W H W' H' → Gr K W' H' → We e W' σ H'
def bodyL (g : D → En → P1 En) (b : En → M Out) : List D → En → M Out
  | [], ρ => ret (.nx ρ)
  | d :: r, ρ => bnd (lft (g d ρ)) fun ρ1 => bnd (b ρ1) fun o => match o with
    | .nx ρ2 => bodyL g b r ρ2
    | .ct ρ2 => bodyL g b r ρ2
    | .bk ρ2 => ret (.nx ρ2)
    | .rt v => ret (.rt v)
def dFor (di : En → M (List D)) (g : D → En → P1 En) (b : En → M Out) : En → M Out := fun ρ => bnd (di ρ) fun ds => bodyL g b ds ρ
section
variable {X : Cx} {We : WE'} {pos : Pos} {tg iter : Expr} {body : List Stmt} {di : En → M (List D)} {g : D → En → P1 En} {b : En → M Out}
theorem tS_for (hp : PassesOwn (model X.prog X.w) X.A X.env X.xe) (hc : X.calm = true) (hi : PI X tg iter (upI (Cxp X) We di)) (hg : PG X tg (upG (Cxp X) g)) (hb : PSs X body (ups (Cxp X) We b))
    (hs : ∀ x, foldedSetIterable iter X.env x = pure x := by intro _; rfl) : PS X (.For tg iter body [] pos) (ups (Cxp X) We (dFor di g b)) := PS.imp (ps_for hp hc hi hg hb hs) fun D0 σ H h => by
  obtain ⟨W, ρ, r, G', hR, e, p⟩ := h
  unfold dFor bnd at e
  split at e
  · rename_i ds G1 he
    refine ⟨W, ρ, .inr ds, G1, hR, he, fun W0 H0 eg0 x0 g0 J wd => ?_⟩
    obtain ⟨Gd, Y, wk, st, yl⟩ := wd.ex
    rw [← eg0] at e
    refine for_it wk (fun i σ1 H1 => ∃ (W1 : Wd) (ρ1 : En), Ext W0 H0 W1 H1 ∧ Rs (Cxp X) W1 ρ1 σ1 H1 ∧ bodyL g b (ds.drop i) ρ1 W1.G = some (r, G') ∧ PostS (Cxp X) We W1 H1 r G' D0) ⟨W0, ρ, Ext.refl, hR.keep g0 x0, by simpa using e, p.mono x0⟩
      (fun i σ1 H1 _ ⟨W1, ρ1, x1, R1, _⟩ => st W1 H1 x1.w R1.gr) (fun i v σ1 H1 H2 hi ⟨W1, ρ1, x1, R1, e1, p1⟩ y => ?_) fun σ1 H1 ⟨W1, ρ1, x1, R1, e1, p1⟩ => ?_
    · obtain ⟨d, hd, g2, x2, rv⟩ := yl i W1 H1 v H2 hi x1.w R1.gr y
      have ed : ds.drop i = d :: ds.drop (i + 1) := by
        obtain ⟨hl, hv⟩ := List.getElem?_eq_some_iff.mp hd
        rw [List.drop_eq_getElem_cons hl, hv]
      rw [ed] at e1
      unfold bodyL at e1
      obtain ⟨ρ2, G2, e2, e3⟩ := bnd_lft e1
      have R2 := R1.keep g2 x2
      refine ⟨W1, ρ1, d, ρ2, G2, R2, rv, e2, fun W3 σ3 H3 eg3 x3 R3 => ?_⟩
      rw [← eg3] at e3
      have x13 := x2.trans x3
      have x03 := x1.trans x13
      unfold bnd at e3
      split at e3
      · rename_i o G4 ho
        cases o with
        | nx ρ4 => exact ⟨W3, ρ2, .inr (.nx ρ4), G4, R3, ho, fun W5 σ5 H5 eg5 x5 R5 => ⟨W5, ρ4, x03.trans x5, R5, by rw [eg5]; exact e3, (p1.mono x13).mono x5⟩⟩
        | ct ρ4 => exact ⟨W3, ρ2, .inr (.ct ρ4), G4, R3, ho, fun W5 σ5 H5 eg5 x5 R5 => ⟨W5, ρ4, x03.trans x5, R5, by rw [eg5]; exact e3, (p1.mono x13).mono x5⟩⟩
        | bk ρ4 => exact ⟨W3, ρ2, .inr (.bk ρ4), G4, R3, ho, fun W5 σ5 H5 eg5 x5 R5 => nx_end (by rw [← eg5] at e3; exact e3) ((p1.mono x13).mono x5) rfl Ext.refl R5⟩
        | rt w =>
          cases e3
          exact ⟨W3, ρ2, .inr (.rt w), _, R3, ho, p1.mono x13⟩
      · rename_i er G4 ho
        cases e3
        exact ⟨W3, ρ2, .inl er, _, R3, ho, p1.mono x13⟩
      · cases e3
    · rw [List.drop_length] at e1
      unfold bodyL at e1
      exact nx_end e1 p1 rfl Ext.refl R1
  · rename_i er G1 he
    cases e
    exact ⟨W, ρ, .inl er, _, hR, he, fun W' H' eg x g' => p W' σ H' eg x g'⟩
  · cases e
/-! ### while, at most so many turns -/
def whileL (t : En → M Bool) (b : En → M Out) : Nat → En → M Out
  | 0, _ => fun _ => none
  | n + 1, ρ => bnd (t ρ) fun c => if c = true then bnd (b ρ) fun o => match o with
    | .nx ρ2 => whileL t b n ρ2
    | .ct ρ2 => whileL t b n ρ2
    | .bk ρ2 => ret (.nx ρ2)
    | .rt v => ret (.rt v)
    else ret (.nx ρ)
theorem tS_while {n : Nat} {c : Expr} {t : En → M Bool} (hp : PassesOwn (model X.prog X.w) X.A X.env X.xe) (hc : PT X c (upT (Cxp X) We t)) (hb : PSs X body (ups (Cxp X) We b)) : PS X (.While c body [] pos) (ups (Cxp X) We (whileL t b n)) := PS.imp (ps_while hp hc hb) fun D0 σ H h => by
  obtain ⟨W, ρ, r, G', hR, e, p⟩ := h
  refine ⟨fun m σ1 H1 => ∃ (W1 : Wd) (ρ1 : En), Rs (Cxp X) W1 ρ1 σ1 H1 ∧ whileL t b m ρ1 W1.G = some (r, G') ∧ PostS (Cxp X) We W1 H1 r G' D0, ⟨n, W, ρ, hR, e, p⟩, fun m σ1 H1 ⟨W1, ρ1, R1, e1, p1⟩ => ?_⟩
  cases m with
  | zero => cases e1
  | succ m =>
    unfold whileL at e1
    refine ups_bnd R1 e1 p1 fun c W2 c' H2 x2 R2 r2 e2 p2 => ?_
    cases r2
    cases c with
    | false => exact iteF (nx_end e2 p2 rfl Ext.refl R2)
    | true =>
      refine iteT ⟨fun σ3 H3 => ∃ (W3 : Wd) (ρ3 : En), Rs (Cxp X) W3 ρ3 σ3 H3 ∧ whileL t b m ρ3 W3.G = some (r, G') ∧ PostS (Cxp X) We W3 H3 r G' D0, fun σ3 H3 q => ⟨m, Nat.lt_succ_self m, q⟩, ?_⟩
      rw [if_pos rfl] at e2
      unfold bnd at e2
      split at e2
      · rename_i o G4 ho
        cases o with
        | nx ρ4 => exact ⟨W2, ρ1, .inr (.nx ρ4), G4, R2, ho, fun W5 σ5 H5 eg5 x5 R5 => ⟨W5, ρ4, R5, by rw [eg5]; exact e2, p2.mono x5⟩⟩
        | ct ρ4 => exact ⟨W2, ρ1, .inr (.ct ρ4), G4, R2, ho, fun W5 σ5 H5 eg5 x5 R5 => ⟨W5, ρ4, R5, by rw [eg5]; exact e2, p2.mono x5⟩⟩
        | bk ρ4 => exact ⟨W2, ρ1, .inr (.bk ρ4), G4, R2, ho, fun W5 σ5 H5 eg5 x5 R5 => nx_end (by rw [← eg5] at e2; exact e2) (p2.mono x5) rfl Ext.refl R5⟩
        | rt w =>
          cases e2
          exact ⟨W2, ρ1, .inr (.rt w), _, R2, ho, p2⟩
      · rename_i er G4 ho
        cases e2
        exact ⟨W2, ρ1, .inl er, _, R2, ho, p2⟩
      · cases e2
end
end Tw

namespace Tw
open PySem PySem.Spec PyProof.Rows L2

theorem PI.imp {X : Cx} {tg e : Expr} {t t' : TI} (h : PI X tg e t) (i : ∀ σ H R, t' σ H R → t σ H R) : PI X tg e t' := ⟨fun pins s σ H R I q => h.run pins s σ H R I (i σ H R q)⟩
/-- an expression first, then what is walked -/
theorem upi_bnd {A B : Type} {K : Pm} {We : WE'} {R : Wd → Hp → B → A → Prop} {W : Wd} {H : Hp} {σ : L2.St} {ρ : En} {G' : List O} {da : En → M A} {k : A → M (List D)} {r : Sum Er (List D)} {R0 : It → Hp → Prop} {T : B → Hp → Prop}
    (hR : Rs K W ρ σ H) (e : bnd (da ρ) k W.G = some (r, G')) (p : match (generalizing := false) r with
      | .inr ds => ∀ (W' : Wd) (H' : Hp), W'.G = G' → Ext W H W' H' → Gr K W' H' → ∀ J, WalkD K W' H' J ds → R0 J H'
      | .inl e => ∀ (W' : Wd) (H' : Hp), W'.G = G' → Ext W H W' H' → Gr K W' H' → We e W' σ H')
    (h : ∀ (d : A) (W1 : Wd) (v : B) (H1 : Hp), Ext W H W1 H1 → Rs K W1 ρ σ H1 → R W1 H1 v d → k d W1.G = some (r, G') → (match (generalizing := false) r with
      | .inr ds => ∀ (W' : Wd) (H' : Hp), W'.G = G' → Ext W1 H1 W' H' → Gr K W' H' → ∀ J, WalkD K W' H' J ds → R0 J H'
      | .inl e => ∀ (W' : Wd) (H' : Hp), W'.G = G' → Ext W1 H1 W' H' → Gr K W' H' → We e W' σ H') → T v H1) : up K We R da σ H T := by
  unfold bnd at e
  split at e
  · rename_i a G1 he
    refine ⟨W, ρ, .inr a, G1, hR, he, fun W' v H' eg x g q => h a W' v H' x (hR.keep g x) q (by rw [eg]; exact e) ?_⟩
    cases r with
    | inr ds => exact fun W2 H2 e2 x2 g2 J w => p W2 H2 e2 (x.trans x2) g2 J w
    | inl er => exact fun W2 H2 e2 x2 g2 => p W2 H2 e2 (x.trans x2) g2
  · rename_i er G1 he
    cases e
    exact ⟨W, ρ, .inl er, _, hR, he, p⟩
  · cases e
theorem upi_lft {K : Pm} {We : WE'} {W : Wd} {H : Hp} {σ : L2.St} {G' : List O} {f : P1 (List D)} {r : Sum Er (List D)} {R0 : It → Hp → Prop} (e : lft f W.G = some (r, G')) (p : match (generalizing := false) r with
      | .inr ds => ∀ (W' : Wd) (H' : Hp), W'.G = G' → Ext W H W' H' → Gr K W' H' → ∀ J, WalkD K W' H' J ds → R0 J H'
      | .inl e => ∀ (W' : Wd) (H' : Hp), W'.G = G' → Ext W H W' H' → Gr K W' H' → We e W' σ H') :
    ∃ ds, f W.G = some (ds, G') ∧ ∀ (W' : Wd) (H' : Hp), W'.G = G' → Ext W H W' H' → Gr K W' H' → ∀ J, WalkD K W' H' J ds → R0 J H' := by
  unfold lft at e
  split at e
  · rename_i a G1 he
    cases e
    exact ⟨_, he, p⟩
  · cases e

theorem Drs.at2 {K : Pm} {L : Addr → Prop} {α : List Addr} {H : Hp} {vs : List V} {ds : List D} (r : Drs K L α H vs ds) {i : Nat} {v : V} (h : vs[i]? = some v) : ∃ d, ds[i]? = some d ∧ Dr K L α H v d := by
  obtain ⟨hl, hv⟩ := List.getElem?_eq_some_iff.mp h
  have hl2 : i < ds.length := by rw [← r.length]; exact hl
  obtain ⟨v', h1, h2⟩ := r.at (List.getElem?_eq_getElem hl2)
  rw [h] at h1
  cases h1
  exact ⟨_, List.getElem?_eq_getElem hl2, h2⟩

/-! ### lists, tuples -/
def itL : D → Option (List D)
  | .lst xs => some xs
  | .scr xs => some xs
  | _ => none
def itT : D → Option (List D)
  | .tup xs => some xs
  | _ => none
def dItL (a : En → M D) : En → M (List D) := fun ρ => bnd (a ρ) fun d => lft (pur (itL d))
def dItT (a : En → M D) : En → M (List D) := fun ρ => bnd (a ρ) fun d => lft (pur (itT d))
section
variable {K : Pm} {W : Wd} {H : Hp} {v : V} {d : D} {xs : List D}
/-- what a list holds, and goes on to hold -/
theorem itL_sq (g : Gr K W H) (r : Rv K W H v d) (e : itL d = some xs) : ∃ a vs, v = .ref a ∧ vs.length = xs.length ∧ SqL K.K H a vs ∧ ∀ (W' : Wd) (H' : Hp), ExtW W H W' H' → SqL K.K H' a vs ∧ Rvs K W' H' vs xs := by
  unfold itL at e
  split at e
  · cases e
    cases r with
    | lst h n q => exact ⟨_, _, rfl, q.length, SqL.of h, fun W' H' x => ⟨SqL.of (L.keepW x h n).1, q.keepW g x⟩⟩
  · cases e
    cases r with
    | scr h q => exact ⟨_, _, rfl, q.length, h.sq, fun W' H' x => ⟨(Scr.keepW x h).sq, q.keepW g x⟩⟩
  · cases e
theorem itT_sq (g : Gr K W H) (r : Rv K W H v d) (e : itT d = some xs) : ∃ a vs, v = .ref a ∧ vs.length = xs.length ∧ SqT K.K H a vs ∧ ∀ (W' : Wd) (H' : Hp), ExtW W H W' H' → SqT K.K H' a vs ∧ Rvs K W' H' vs xs := by
  unfold itT at e
  split at e
  · cases e
    cases r with
    | tup h q => exact ⟨_, _, rfl, q.length, h, fun W' H' x => ⟨SqT.keepW g x h, q.keepW g x⟩⟩
  · cases e
theorem walkD_list {a : Addr} {vs : List V} (l : vs.length = xs.length) (st : ∀ (W' : Wd) (H' : Hp), ExtW W H W' H' → SqL K.K H' a vs ∧ Rvs K W' H' vs xs) : WalkD K W H (Itl K.K a) xs :=
  ⟨_, _, by rw [← l]; exact walk_list (xs := vs), fun W' H' x _ => (st W' H' x).1, fun i W' H' y H'' hi x g q => by
    obtain ⟨rfl, q⟩ := q
    obtain ⟨d, h1, h2⟩ := (st W' _ x).2.at2 q
    exact ⟨d, h1, g, Ext.refl, h2⟩⟩
theorem walkD_tup {a : Addr} {vs : List V} (l : vs.length = xs.length) (st : ∀ (W' : Wd) (H' : Hp), ExtW W H W' H' → SqT K.K H' a vs ∧ Rvs K W' H' vs xs) : WalkD K W H (Itt K.K a) xs :=
  ⟨_, _, by rw [← l]; exact walk_tup (xs := vs), fun W' H' x _ => (st W' H' x).1, fun i W' H' y H'' hi x g q => by
    obtain ⟨rfl, q⟩ := q
    obtain ⟨d, h1, h2⟩ := (st W' _ x).2.at2 q
    exact ⟨d, h1, g, Ext.refl, h2⟩⟩
end
def rngD (lo : Int) (n : Nat) : List D := (List.range n).map fun (i : Nat) => .int (lo + i)
def enumD (xs : List D) : List D := xs.zipIdx.map fun p => .tup [.int (p.2 : Nat), p.1]
def zipD (xs ys : List D) : List D := (xs.zip ys).map fun p => .tup [p.1, p.2]
theorem rngD_at {lo : Int} {n i : Nat} (h : i < n) : (rngD lo n)[i]? = some (.int (lo + i)) := by
  unfold rngD
  rw [List.getElem?_map, List.getElem?_range h]; rfl
theorem enumD_at {xs : List D} {i : Nat} {d : D} (h : xs[i]? = some d) : (enumD xs)[i]? = some (.tup [.int (i : Nat), d]) := by
  unfold enumD
  rw [List.getElem?_map, List.getElem?_zipIdx, h]; simp
theorem zipD_at {xs ys : List D} {i : Nat} {d e : D} (h : xs[i]? = some d) (h' : ys[i]? = some e) : (zipD xs ys)[i]? = some (.tup [d, e]) := by
  unfold zipD
  rw [List.getElem?_map, List.getElem?_zip_eq_some (z := (d, e)) |>.mpr ⟨h, h'⟩]; rfl
theorem enumD_len (xs : List D) : (enumD xs).length = xs.length := by simp [enumD]
theorem zipD_len (xs ys : List D) : (zipD xs ys).length = min xs.length ys.length := by simp [zipD]
theorem rngD_len (lo : Int) (n : Nat) : (rngD lo n).length = n := by simp [rngD]
/-- small enough for range -/
def smallI (i : Int) : Bool := decide (-(2 ^ 62) ≤ i) && decide (i < 2 ^ 62)
def rng1 : List D → Option (List D)
  | [.int j] => if smallI j = true then some (rngD 0 j.toNat) else none
  | _ => none
def rng2 : List D → Option (List D)
  | [.int i, .int j] => if (smallI i && smallI j) = true then some (rngD i (j - i).toNat) else none
  | _ => none
def dRng (f : List D → Option (List D)) (a : En → M (List D)) : En → M (List D) := fun ρ => bnd (a ρ) fun ds => lft (pur (f ds))
def enum1 : List D → Option (List D)
  | [x] => (itL x).map enumD
  | _ => none
def zip2 : List D → Option (List D)
  | [x, y] => match itL x, itL y with
    | some xs, some ys => some (zipD xs ys)
    | _, _ => none
  | _ => none
def zipT2 : List D → Option (List D)
  | [x, y] => match itT x, itT y with
    | some xs, some ys => if xs.length = ys.length then some (zipD xs ys) else none
    | _, _ => none
  | _ => none
theorem smallI_eq {i : Int} (h : smallI i = true) : -(2 ^ 62) ≤ i ∧ i < 2 ^ 62 := by
  obtain ⟨h1, h2⟩ := Bool.and_eq_true_iff.mp h
  exact ⟨of_decide_eq_true h1, of_decide_eq_true h2⟩
theorem walkD_rng {K : Pm} {W : Wd} {H : Hp} {lo : Int} {n : Nat} : WalkD K W H (Itr lo n) (rngD lo n) :=
  ⟨_, _, by rw [rngD_len]; exact walk_range, fun _ _ _ _ => True.intro, fun i W' H' y H'' hi x g q => by
    obtain ⟨rfl, rfl⟩ := q
    exact ⟨_, rngD_at (by rw [rngD_len] at hi; exact hi), g, Ext.refl, .int _⟩⟩
section
variable {X : Cx} {We : WE'} {tg e : Expr} {da : En → M D}
theorem ti_list (he : PE X e (upE (Cxp X) We da)) : PI X tg e (upI (Cxp X) We (dItL da)) := PI.imp (pi_list he) fun σ H R0 h => by
  obtain ⟨W, ρ, r, G', hR, e, p⟩ := h
  refine upi_bnd hR e p fun d W1 v H1 x1 R1 r1 e1 p1 => ?_
  obtain ⟨ds, e2, p2⟩ := upi_lft e1 p1
  obtain ⟨e2, eg⟩ := pur_eq e2
  obtain ⟨a, vs, rfl, l, sq, st⟩ := itL_sq R1.gr r1 e2
  exact ⟨a, rfl, ⟨vs, sq⟩, p2 W1 H1 eg.symm Ext.refl R1.gr _ (walkD_list l st)⟩
theorem ti_tup (he : PE X e (upE (Cxp X) We da)) : PI X tg e (upI (Cxp X) We (dItT da)) := PI.imp (pi_tup he) fun σ H R0 h => by
  obtain ⟨W, ρ, r, G', hR, e, p⟩ := h
  refine upi_bnd hR e p fun d W1 v H1 x1 R1 r1 e1 p1 => ?_
  obtain ⟨ds, e2, p2⟩ := upi_lft e1 p1
  obtain ⟨e2, eg⟩ := pur_eq e2
  obtain ⟨a, vs, rfl, l, sq, st⟩ := itT_sq R1.gr r1 e2
  exact ⟨a, rfl, ⟨vs, sq⟩, p2 W1 H1 eg.symm Ext.refl R1.gr _ (walkD_tup l st)⟩
theorem ti_rng1 {a : Expr} {ta : En → M (List D)} {p pos : Pos} (hg : Gl X "range") (hm : X.mg "range" = none) (ha : PA X [a] (upA (Cxp X) We ta)) (hs : starEach [a] X.env = [(false, eval a X.env)] := by rfl) :
    PI X tg (.Call (.Name "range" p) [a] [] pos) (upI (Cxp X) We (dRng rng1 ta)) := PI.imp (pi_range1 hg hm ha hs) fun σ H R0 h => by
  obtain ⟨W, ρ, r, G', hR, e, p⟩ := h
  refine upi_bnd hR e p fun d W1 v H1 x1 R1 r1 e1 p1 => ?_
  obtain ⟨ds, e2, p2⟩ := upi_lft e1 p1
  obtain ⟨e2, eg⟩ := pur_eq e2
  unfold rng1 at e2
  split at e2
  · split at e2
    · rename_i z
      cases e2
      cases r1 with
      | cons h1 r1 =>
        cases r1; cases h1
        exact ⟨_, rfl, (smallI_eq z).1, (smallI_eq z).2, p2 W1 H1 eg.symm Ext.refl R1.gr _ walkD_rng⟩
    · cases e2
  · cases e2
theorem ti_rng2 {a b : Expr} {ta : En → M (List D)} {p pos : Pos} (hg : Gl X "range") (hm : X.mg "range" = none) (ha : PA X [a, b] (upA (Cxp X) We ta)) (hs : starEach [a, b] X.env = [(false, eval a X.env), (false, eval b X.env)] := by rfl) (hs2 : starEach [b] X.env = [(false, eval b X.env)] := by rfl) :
    PI X tg (.Call (.Name "range" p) [a, b] [] pos) (upI (Cxp X) We (dRng rng2 ta)) := PI.imp (pi_range2 hg hm ha hs hs2) fun σ H R0 h => by
  obtain ⟨W, ρ, r, G', hR, e, p⟩ := h
  refine upi_bnd hR e p fun d W1 v H1 x1 R1 r1 e1 p1 => ?_
  obtain ⟨ds, e2, p2⟩ := upi_lft e1 p1
  obtain ⟨e2, eg⟩ := pur_eq e2
  unfold rng2 at e2
  split at e2
  · split at e2
    · rename_i z
      obtain ⟨z1, z2⟩ := Bool.and_eq_true_iff.mp z
      cases e2
      cases r1 with
      | cons h1 r1 => cases r1 with
        | cons h2 r1 =>
          cases r1; cases h1; cases h2
          exact ⟨_, _, rfl, ⟨(smallI_eq z1).1, (smallI_eq z1).2, (smallI_eq z2).1, (smallI_eq z2).2⟩, p2 W1 H1 eg.symm Ext.refl R1.gr _ walkD_rng⟩
    · cases e2
  · cases e2
/-- pairs made at each turn -/
theorem pair_new {K : Pm} {W : Wd} {H : Hp} {x y : V} {d e : D} {p : Addr} (g : Gr K W H) (r1 : Rv K W H x d) (r2 : Rv K W H y e) (n : H p = none) : Gr K W (upd H p (.tup [x, y])) ∧ Ext W H W (upd H p (.tup [x, y])) ∧ Rv K W (upd H p (.tup [x, y])) (.ref p) (.tup [d, e]) :=
  tup_new g (.cons r1 (.cons r2 .nil)) n
theorem ti_enum {a : Expr} {ta : En → M (List D)} {p pos tpos : Pos} {elts : List Expr} {kk : Nat} (hg : Gl X "enumerate") (hm : X.mg "enumerate" = none) (ha : PA X [a] (upA (Cxp X) We ta)) (hs : starEach [a] X.env = [(false, eval a X.env)] := by rfl) :
    PI X (.Tuple elts kk tpos) (.Call (.Name "enumerate" p) [a] [] pos) (upI (Cxp X) We (dRng enum1 ta)) := PI.imp (pi_enum hg hm ha hs) fun σ H R0 h => by
  obtain ⟨W, ρ, r, G', hR, e, p⟩ := h
  refine upi_bnd hR e p fun d W1 v H1 x1 R1 r1 e1 p1 => ?_
  obtain ⟨ds, e2, p2⟩ := upi_lft e1 p1
  obtain ⟨e2, eg⟩ := pur_eq e2
  unfold enum1 at e2
  split at e2
  · obtain ⟨xs, q, rfl⟩ := Option.map_eq_some_iff.mp e2
    cases r1 with
    | cons h1 r1 =>
      cases r1
      obtain ⟨ad, vs, rfl, l, sq, st⟩ := itL_sq R1.gr h1 q
      refine ⟨ad, vs, rfl, sq, p2 W1 H1 eg.symm Ext.refl R1.gr _ ⟨_, _, by rw [enumD_len, ← l]; exact walk_enum (xs := vs), fun W' H' x _ => (st W' H' x).1, fun i W' H' y H'' hi x g q => ?_⟩⟩
      obtain ⟨T, x0, y0, rfl, n, rfl, q1, q2⟩ := q
      cases q1
      obtain ⟨d0, h1, h2⟩ := (st W' _ x).2.at2 q2
      obtain ⟨g', x', rv⟩ := pair_new g (.int _) h2 n
      exact ⟨_, enumD_at h1, g', x', rv⟩
  · cases e2
theorem ti_zip {a b : Expr} {ta : En → M (List D)} {p pos tpos : Pos} {elts : List Expr} {kk : Nat} (hg : Gl X "zip") (hm : X.mg "zip" = none) (ha : PA X [a, b] (upA (Cxp X) We ta))
    (hs : starEach [a, b] X.env = (false, eval a X.env) :: starEach [b] X.env := by rfl) (hpl : (backTo pos (starEach [b] X.env)).any (·.1) = false := by rfl) :
    PI X (.Tuple elts kk tpos) (.Call (.Name "zip" p) [a, b] [] pos) (upI (Cxp X) We (dRng zip2 ta)) := PI.imp (pi_zip hg hm ha hs hpl) fun σ H R0 h => by
  obtain ⟨W, ρ, r, G', hR, e, p⟩ := h
  refine upi_bnd hR e p fun d W1 v H1 x1 R1 r1 e1 p1 => ?_
  obtain ⟨ds, e2, p2⟩ := upi_lft e1 p1
  obtain ⟨e2, eg⟩ := pur_eq e2
  unfold zip2 at e2
  split at e2
  · split at e2
    · rename_i xs ys hx hy
      cases e2
      cases r1 with
      | cons h1 r1 => cases r1 with
        | cons h2 r1 =>
          cases r1
          obtain ⟨a1, vs, rfl, l1, sq1, st1⟩ := itL_sq R1.gr h1 hx
          obtain ⟨a2, ws, rfl, l2, sq2, st2⟩ := itL_sq R1.gr h2 hy
          refine ⟨a1, a2, vs, ws, rfl, sq1, sq2, p2 W1 H1 eg.symm Ext.refl R1.gr _ ⟨_, _, walk_zip (xs := vs) (ys := ws) (by rw [zipD_len, l1, l2]), fun W' H' x _ => ⟨(st1 W' H' x).1, (st2 W' H' x).1⟩, fun i W' H' y H'' hi x g q => ?_⟩⟩
          obtain ⟨T, x0, y0, rfl, n, rfl, q1, q2⟩ := q
          obtain ⟨d1, h1, r1⟩ := (st1 W' _ x).2.at2 q1
          obtain ⟨d2, h2, r2⟩ := (st2 W' _ x).2.at2 q2
          obtain ⟨g', x', rv⟩ := pair_new g r1 r2 n
          exact ⟨_, zipD_at h1 h2, g', x', rv⟩
    · cases e2
  · cases e2
end

/-! ### list comprehensions, one for -/
abbrev WeF : WE' := fun _ _ _ _ => False
def wipeD (ρ : En) : List Nat → En
  | [] => ρ
  | v :: vs => (wipeD ρ vs).set v none
/-- no error leaves -/
def bndN {A B : Type} (m : M A) (k : A → M B) : M B := fun G => match m G with
  | some (.inr a, G1) => k a G1
  | _ => none
theorem bndN_eq {A B : Type} {m : M A} {k : A → M B} {G G' : List O} {r : Sum Er B} (e : bndN m k G = some (r, G')) : ∃ a G1, m G = some (.inr a, G1) ∧ k a G1 = some (r, G') := by
  unfold bndN at e
  split at e
  · rename_i a G1 he
    exact ⟨a, G1, he, e⟩
  · cases e
def lcL (g : D → En → P1 En) (t : En → M Bool) (a : En → M D) (ρ : En) : List D → M (List D)
  | [] => ret []
  | d :: r => bndN (lft (g d ρ)) fun ρ1 => bndN (t ρ1) fun b => if b = true then bndN (a ρ1) fun y => bndN (lcL g t a ρ r) fun ys => ret (y :: ys) else lcL g t a ρ r
def okL (xs : List D) : P1 D := pur (lstO xs)
def dLc (di : En → M (List D)) (g : D → En → P1 En) (t : En → M Bool) (a : En → M D) (own : List Nat) : En → M D := fun ρ => bnd (di ρ) fun ds => bndN (lcL g t a (wipeD ρ own) ds) fun ys => lft (okL ys)
def dYes : En → M Bool := fun _ => ret true
theorem Rs.wipe {K : Pm} {W : Wd} {ρ : En} {σ : L2.St} {H : Hp} (r : Rs K W ρ σ H) : ∀ own, Rs K W (wipeD ρ own) (wipe σ own) H
  | [] => r
  | v :: vs => by
    have ih := Rs.wipe r vs
    refine ⟨ih.gr, by simp [wipeD, L2.wipe, ih.len], fun i d e => ?_⟩
    have e' : ((wipeD ρ vs).set v none)[i]? = some (some d) := e
    show ∃ u, ((L2.wipe σ vs).set v none)[i]? = some (some u) ∧ _
    by_cases h : v = i
    · subst h
      by_cases hl : v < (wipeD ρ vs).length
      · rw [List.getElem?_set_self hl] at e'; cases e'
      · rw [List.getElem?_eq_none_iff.mpr (by simpa using Nat.le_of_not_lt hl)] at e'; cases e'
    · rw [List.getElem?_set_ne h] at e' ⊢
      exact ih.var i d e'
theorem wipe_at (σ : L2.St) (i : Nat) : ∀ vs : List Nat, (L2.wipe σ vs)[i]? = if i ∈ vs then (σ[i]?).map fun _ => none else σ[i]?
  | [] => by simp [L2.wipe]
  | v :: vs => by
    show ((L2.wipe σ vs).set v none)[i]? = _
    have ih := wipe_at σ i vs
    by_cases h : v = i
    · subst h
      rw [List.getElem?_set]
      have hl : (L2.wipe σ vs).length = σ.length := wipe_length σ vs
      by_cases hv : v < σ.length
      · simp [hl, hv]
      · simp [hl, hv, List.getElem?_eq_none_iff.mpr (Nat.le_of_not_lt hv)]
    · rw [List.getElem?_set_ne h, ih]
      have hi : ¬ i = v := fun e => h e.symm
      by_cases hm : i ∈ vs
      · rw [if_pos hm, if_pos (List.mem_cons_of_mem _ hm)]
      · rw [if_neg hm, if_neg (by simp [hi, hm])]
theorem wipe_wipe (σ : L2.St) (vs : List Nat) : L2.wipe (L2.wipe σ vs) vs = L2.wipe σ vs := by
  apply List.ext_getElem?
  intro i
  rw [wipe_at, wipe_at]
  by_cases h : i ∈ vs
  · simp only [if_pos h]; cases σ[i]? <;> rfl
  · simp only [if_neg h]
theorem wipe_set (σ : L2.St) (vs : List Nat) {i : Nat} (x : Option V) (h : i ∈ vs) : L2.wipe (σ.set i x) vs = L2.wipe σ vs := by
  apply List.ext_getElem?
  intro j
  rw [wipe_at, wipe_at]
  by_cases hj : j ∈ vs
  · simp only [if_pos hj]
    by_cases e : i = j
    · subst e
      rw [List.getElem?_set]
      by_cases hl : i < σ.length
      · simp [hl]
      · simp [hl]
    · rw [List.getElem?_set_ne e]
  · simp only [if_neg hj]
    rw [List.getElem?_set_ne fun e => hj (by rw [← e]; exact h)]
/-- a target within a comprehension's block, by its own reading -/
def GRaw (K : Pm) (tg : TG) (g : D → En → P1 En) (own : List Nat) : Prop := ∀ (W : Wd) (ρ : En) (σ : L2.St) (H : Hp) (v : V) (d : D) (ρ' : En) (G' : List O) (Q : L2.St → Hp → Prop), Rs K W ρ σ H → Rv K W H v d → g d ρ W.G = some (ρ', G') →
  (∀ σ', G' = W.G → Rs K W ρ' σ' H → L2.wipe σ' own = L2.wipe σ own → Q σ' H) → tg v σ H Q
def GsRaw (K : Pm) (tg : TGs) (g : List D → En → P1 En) (own : List Nat) : Prop := ∀ (W : Wd) (ρ : En) (σ : L2.St) (H : Hp) (vs : List V) (ds : List D) (ρ' : En) (G' : List O) (Q : L2.St → Hp → Prop), Rs K W ρ σ H → Rvs K W H vs ds → g ds ρ W.G = some (ρ', G') →
  (∀ σ', G' = W.G → Rs K W ρ' σ' H → L2.wipe σ' own = L2.wipe σ own → Q σ' H) → tg vs σ H Q
section
variable {K : Pm} {own : List Nat}
theorem raw_n {i : Nat} (h : i ∈ own) : GRaw K (gName i) (gN i) own := fun W ρ σ H v d ρ' G' Q hR rv e p => by
  cases e
  exact p _ rfl (hR.set rv i) (wipe_set σ own _ h)
theorem raws_nil : GsRaw K gNil gsNil own := fun W ρ σ H vs ds ρ' G' Q hR rv e p => by
  cases rv with
  | nil => cases e; exact ⟨rfl, p σ rfl hR rfl⟩
  | cons _ _ => cases e
theorem raws_cons {t : TG} {ts : TGs} {ga : D → En → P1 En} {gb : List D → En → P1 En} (h1 : GRaw K t ga own) (h2 : GsRaw K ts gb own) : GsRaw K (gCons t ts) (gsCons ga gb) own := fun W ρ σ H vs ds ρ' G' Q hR rv e p => by
  cases rv with
  | nil => cases e
  | cons h r =>
    unfold gsCons at e
    split at e
    · cases e
    · rename_i d r' heq
      cases heq
      split at e
      · rename_i ρ1 G1 he
        refine ⟨_, _, rfl, h1 W ρ σ H _ _ ρ1 G1 _ hR h he fun σ1 eg1 R1 w1 => h2 W ρ1 σ1 H _ _ ρ' G' _ R1 r (by rw [← eg1]; exact e) fun σ2 eg2 R2 w2 => p σ2 eg2 R2 (w2.trans w1)⟩
      · cases e
theorem raw_t {n : Nat} {ts : TGs} {gb : List D → En → P1 En} (h : GsRaw K ts gb own) : GRaw K (gTup K.K n ts) (gT n gb) own := fun W ρ σ H v d ρ' G' Q hR rv e p => by
  unfold gT at e
  split at e
  · split at e
    · rename_i z
      cases rv with
      | tup ha r => exact ⟨_, _, rfl, ha, by rw [r.length]; exact z, h W ρ σ H _ _ ρ' G' Q hR r e p⟩
    · cases e
  · cases e
end
theorem Ext.off {W0 W1 : Wd} {H0 H1 : Hp} {p : Addr} {u : HO} (x : Ext W0 H0 W1 H1) (n : H0 p = none) : Ext W0 H0 W1 (upd H1 p u) := by
  refine ⟨x.b, x.b', fun a h => th_upd a (x.th a h), x.pre, fun a o h l => ?_, fun a vs h => ?_⟩
  · obtain ⟨p1, p2⟩ := x.keep a o h l
    exact ⟨by rw [upd_ne (not_there h n)]; exact p1, p2⟩
  · rw [upd_ne (not_there h n)]; exact x.tup a vs h
/-- what a comprehension holds between two turns -/
structure LcI (K : Pm) (W0 : Wd) (H0 : Hp) (Da : Addr) (W1 : Wd) (H1 : Hp) (acc : List D) : Prop where
  x : Ext W0 H0 W1 H1
  g : Gr K W1 H1
  b : Da ∈ W1.B
  v : ∃ vs, H1 Da = some (.lst vs) ∧ Rvs K W1 H1 vs acc
theorem LcI.step {K : Pm} {W0 W1 W2 : Wd} {H0 H1 H2 : Hp} {Da : Addr} {acc : List D} (i : LcI K W0 H0 Da W1 H1 acc) (x : Ext W1 H1 W2 H2) (g : Gr K W2 H2) : LcI K W0 H0 Da W2 H2 acc := by
  obtain ⟨vs, h, r⟩ := i.v
  refine ⟨i.x.trans x, g, x.b _ i.b, vs, (x.keep Da _ h fun l => ?_).1, r.keep i.g x⟩
  obtain ⟨m, o, h1, _⟩ := l
  exact i.g.dis Da i.b (List.mem_of_getElem? h1)
theorem LcI.more {K : Pm} {W0 W1 : Wd} {H0 H1 : Hp} {Da : Addr} {acc : List D} {y : D} {w : V} (i : LcI K W0 H0 Da W1 H1 acc) (n : H0 Da = none) (r : Rv K W1 H1 w y) :
    ∃ vs, H1 Da = some (.lst vs) ∧ vs.length = acc.length ∧ LcI K W0 H0 Da W1 (upd H1 Da (.lst (vs ++ [w]))) (acc ++ [y]) := by
  obtain ⟨vs, h, q⟩ := i.v
  have nt : ∀ ws, H1 Da ≠ some (.tup ws) := fun ws e => by rw [h] at e; cases e
  have nf : ∀ o u, H1 Da ≠ some (.frz o u) := fun o u e => by rw [h] at e; cases e
  exact ⟨vs, h, q.length, i.x.off n, i.g.off i.b nt nf, i.b, _, upd_same, Drs.off i.b nt nf (q.app (.cons r .nil))⟩
theorem LcI.start {K : Pm} {W0 : Wd} {H0 : Hp} {Da : Addr} (g : Gr K W0 H0) (n : H0 Da = none) : LcI K W0 H0 Da (W0.ban Da) (upd H0 Da (.lst [])) [] :=
  ⟨Ext.ban n, g.ban n, List.mem_cons_self, [], upd_same, .nil⟩
theorem LcI.done {K : Pm} {W0 W1 : Wd} {H0 H1 : Hp} {Da : Addr} {acc : List D} (i : LcI K W0 H0 Da W1 H1 acc) (g0 : Gr K W0 H0) (n : H0 Da = none) :
    Ext W0 H0 (W1.bans W0.B) H1 ∧ Gr K (W1.bans W0.B) H1 ∧ Rv K (W1.bans W0.B) H1 (.ref Da) (.lst acc) := by
  obtain ⟨vs, h, q⟩ := i.v
  refine ⟨i.x.bans i.x.b fun _ h => h, i.g.bans i.x.b, .lst h (fun l => ?_) (Drs.less (L_bans i.x.b) q)⟩
  rcases l with ⟨m, o, h1, _⟩ | l
  · exact i.g.dis Da i.b (List.mem_of_getElem? h1)
  · obtain ⟨o, e⟩ := g0.thB Da l
    rw [n] at e; cases e
section
variable {X : Cx} {We : WE'}
theorem lc_up {wi : TI} {tgr : TG} {di : En → M (List D)} {g : D → En → P1 En} {t : En → M Bool} {a : En → M D} {own : List Nat} (hgr : GRaw (Cxp X) tgr g own) {σ : L2.St} {H : Hp} {Q : VK} (h : upE (Cxp X) We (dLc di g t a own) σ H Q) :
    tLc (upI (Cxp X) We di) tgr (upT (Cxp X) WeF t) (upE (Cxp X) WeF a) own σ H Q := by
  obtain ⟨W, ρ, r, G', hR, e, p⟩ := h
  unfold dLc bnd at e
  split at e
  · rename_i ds G1 he
    refine ⟨W, ρ, .inr ds, G1, hR, he, fun W0 H0 eg0 x0 g0 J wd Da nD => ?_⟩
    obtain ⟨Gd, Y, wk, st, yl⟩ := wd.ex
    rw [← eg0] at e
    obtain ⟨ys, Gx, e1, e2⟩ := bndN_eq e
    obtain ⟨dl, e3, e4⟩ : ∃ dl, okL ys Gx = some (dl, G') ∧ r = .inr dl := by
      unfold lft at e2
      split at e2
      · rename_i dl G2 hk; cases e2; exact ⟨dl, hk, rfl⟩
      · cases e2
    subst e4
    obtain ⟨e3, eg⟩ := pur_eq e3
    obtain ⟨hz, rfl⟩ := lstO_eq e3
    have R0 := (hR.keep g0 x0).wipe own
    refine lc_it wk (fun i H1 => ∃ (W1 : Wd) (acc rest : List D), LcI (Cxp X) W0 H0 Da W1 H1 acc ∧ lcL g t a (wipeD ρ own) (ds.drop i) W1.G = some (.inr rest, Gx) ∧ ys = acc ++ rest) ⟨W0.ban Da, [], ys, LcI.start g0 nD, (show lcL g t a (wipeD ρ own) (ds.drop 0) W0.G = _ by rw [List.drop_zero]; exact e1), rfl⟩
      (fun i H1 _ ⟨W1, acc, rest, I, _⟩ => st W1 H1 I.x.w I.g) (fun i v H1 H2 hi ⟨W1, acc, rest, I, e5, e6⟩ y => ?_) fun H1 ⟨W1, acc, rest, I, e5, e6⟩ => ?_
    · obtain ⟨d, hd, g2, x2, rv⟩ := yl i W1 H1 v H2 hi I.x.w I.g y
      have ed : ds.drop i = d :: ds.drop (i + 1) := by
        obtain ⟨hl, hv⟩ := List.getElem?_eq_some_iff.mp hd
        rw [List.drop_eq_getElem_cons hl, hv]
      rw [ed] at e5
      unfold lcL at e5
      obtain ⟨ρ1, G2, e7, e8⟩ := bndN_eq e5
      have e7' : g d (wipeD ρ own) W1.G = some (ρ1, G2) := by
        unfold lft at e7
        split at e7
        · rename_i a1 G3 hk; cases e7; exact hk
        · cases e7
      have I2 := I.step x2 g2
      refine hgr W1 _ _ H2 v d ρ1 G2 _ (R0.keep g2 I2.x) rv e7' fun σ2 eg2 R2 hw => ⟨hw.trans (wipe_wipe σ own), ?_⟩
      subst eg2
      obtain ⟨b, G3, e9, e10⟩ := bndN_eq e8
      refine ⟨W1, ρ1, .inr b, G3, R2, e9, fun W4 b' H4 eg4 x4 g4 hb => ?_⟩
      cases hb
      rw [← eg4] at e10
      have I4 := I2.step x4 g4
      cases b with
      | false => exact iteF ⟨W4, acc, rest, I4, e10, e6⟩
      | true =>
        rw [if_pos rfl] at e10
        obtain ⟨y1, G5, e11, e12⟩ := bndN_eq e10
        refine iteT ⟨W4, ρ1, .inr y1, G5, R2.keep g4 x4, e11, fun W6 v6 H6 eg6 x6 g6 r6 => ?_⟩
        rw [← eg6] at e12
        obtain ⟨rest', G7, e13, e14⟩ := bndN_eq e12
        cases e14
        have I6 := I4.step x6 g6
        obtain ⟨vs, hv, hlv, I7⟩ := I6.more nD r6
        refine ⟨vs, hv, ?_, W6, acc ++ [y1], rest', I7, e13, by rw [e6]; simp⟩
        have : ys.length = acc.length + (rest'.length + 1) := by rw [e6]; simp
        exact mx_lt (by omega)
    · rw [List.drop_length] at e5
      unfold lcL at e5
      cases e5
      obtain ⟨xe, ge, re⟩ := I.done g0 nD
      rw [List.append_nil] at e6
      subst e6
      exact p (W1.bans W0.B) _ H1 eg.symm (x0.trans xe) ge re
  · rename_i er G1 he
    cases e
    exact ⟨W, ρ, .inl er, _, hR, he, p⟩
  · cases e
theorem te_lc {elt tg iter : Expr} {ifs : List Expr} {scope : Scope} {own : List (Str × Nat)} {pos : Pos} {tgr : TG} {di : En → M (List D)} {g : D → En → P1 En} {t : En → M Bool} {a : En → M D} (hc : X.calm = true) (hN : X.N.Nodup) (hi : PI X tg iter (upI (Cxp X) We di)) (ok : BlkOk X.N X.env.scope scope own)
    (hgr : GRaw (Cxp X) tgr g (own.map (·.2))) (hg : ∀ (s : Shared) (H : Hp) (C : Addr) (cl : List (Str × Addr)) (fp : List Addr), PG (X.blk s H scope (compEnvC scope cl C X.env) fp) tg tgr)
    (ht : ∀ (s : Shared) (H : Hp) (C : Addr) (cl : List (Str × Addr)) (fp : List Addr), PTs (X.blk s H scope (compEnvC scope cl C X.env) fp) ifs (upT (Cxp X) WeF t))
    (he : ∀ (s : Shared) (H : Hp) (C : Addr) (cl : List (Str × Addr)) (fp : List Addr), PE (X.blk s H scope (compEnvC scope cl C X.env) fp) elt (upE (Cxp X) WeF a)) (hs : ∀ x, foldedSetIterable iter X.env x = pure x := by intro _; rfl) :
    PE X (.ListComp elt [⟨tg, iter, ifs, 0⟩] scope pos) (upE (Cxp X) We (dLc di g t a (own.map (·.2)))) := PE.imp (pe_lc hc hN hi ok hg ht he hs) fun σ H Q h => lc_up (wi := upI (Cxp X) We di) hgr h
theorem tts_nil : PTs X [] (upT (Cxp X) We dYes) := ⟨fun pins s σ H Q I h => pts_nil.run pins s σ H Q I (by
  obtain ⟨W, ρ, r, G', hR, e, p⟩ := h
  exact up_ret e p W true H rfl Ext.refl hR.gr rfl)⟩
theorem tts_one {c : Expr} {t : En → M Bool} (h : PT X c (upT (Cxp X) We t)) : PTs X [c] (upT (Cxp X) We t) := pts_one h
/-- name = [..] -/
theorem tS_setLc {i : Nat} {y : Str} {py : Pos} {elt tg iter : Expr} {ifs : List Expr} {scope : Scope} {own : List (Str × Nat)} {pos spos : Pos} {tgr : TG} {di : En → M (List D)} {g : D → En → P1 En} {t : En → M Bool} {a : En → M D} (hc : X.calm = true) (hN : X.N.Nodup) (hy : X.N[i]? = some y) (hyl : X.env.scope.names.lookup y = some .local)
    (hsw : swapsWith (.ListComp elt [⟨tg, iter, ifs, 0⟩] scope pos) (some (.Name y py)) spos.line X.env = pure true) (hi : PI X tg iter (upI (Cxp X) We di)) (ok : BlkOk X.N X.env.scope scope own)
    (hgr : GRaw (Cxp X) tgr g (own.map (·.2))) (hg : ∀ (s : Shared) (H : Hp) (C : Addr) (cl : List (Str × Addr)) (fp : List Addr), PG (X.blk s H scope (compEnvC scope cl C X.env) fp) tg tgr)
    (ht : ∀ (s : Shared) (H : Hp) (C : Addr) (cl : List (Str × Addr)) (fp : List Addr), PTs (X.blk s H scope (compEnvC scope cl C X.env) fp) ifs (upT (Cxp X) WeF t))
    (he : ∀ (s : Shared) (H : Hp) (C : Addr) (cl : List (Str × Addr)) (fp : List Addr), PE (X.blk s H scope (compEnvC scope cl C X.env) fp) elt (upE (Cxp X) WeF a)) (hs : ∀ x, foldedSetIterable iter X.env x = pure x := by intro _; rfl) :
    PS X (.Assign [.Name y py] (.ListComp elt [⟨tg, iter, ifs, 0⟩] scope pos) spos) (ups (Cxp X) We (dAsg (dLc di g t a (own.map (·.2))) (gN i))) := PS.imp (ps_setLc hc hN hy hyl hsw hi ok hg ht he hs) fun D0 σ H h => by
  obtain ⟨W, ρ, r, G', hR, e, p⟩ := h
  refine lc_up (We := We) (wi := upI (Cxp X) We di) hgr (ups_bnd hR e p fun d W1 v H1 x1 R1 r1 e1 p1 => ?_)
  obtain ⟨ρ', G2, e2, e3⟩ := bnd_lft e1
  cases e2
  exact nx_end e3 p1 rfl Ext.refl (R1.set r1 i)
end
end Tw

namespace Tw
open PySem PySem.Spec PyProof.Rows L2

/-! ### built-ins by values -/
def CallD (K : Pm) (r : List V → Hp → VK → Prop) (f : List D → P1 D) : Prop := ∀ (W : Wd) (H : Hp) (vs : List V) (ds : List D) (d : D) (G' : List O) (Q : VK), Gr K W H → Rvs K W H vs ds → f ds W.G = some (d, G') →
  (∀ (W' : Wd) (v : V) (H' : Hp), W'.G = G' → Ext W H W' H' → Gr K W' H' → Rv K W' H' v d → Q v H') → r vs H Q
def dCall (f : List D → P1 D) (a : En → M (List D)) : En → M D := fun ρ => bnd (a ρ) fun ds => lft (f ds)
def pur1 (f : D → Option D) : List D → P1 D := fun ds => pur (match ds with | [x] => f x | _ => none)
def purL (f : List D → Option D) : List D → P1 D := fun ds => pur (f ds)
section
variable {X : Cx} {We : WE'} {x : Str} {p pos : Pos} {e : Expr} {es : List Expr} {da : En → M (List D)} {r : List V → Hp → VK → Prop} {f : List D → P1 D}
theorem call_up (hd : CallD (Cxp X) r f) {σ : L2.St} {H : Hp} {Q : VK} (h : upE (Cxp X) We (dCall f da) σ H Q) : upA (Cxp X) We da σ H (fun vs H1 => r vs H1 Q) := by
  obtain ⟨W, ρ, r, G', hR, e, p⟩ := h
  refine up_bnd hR e p fun d W1 v H1 x1 R1 r1 e1 p1 => ?_
  obtain ⟨d2, e2, p2⟩ := up_lft e1 p1
  exact hd W1 H1 v d d2 G' Q R1.gr r1 e2 p2
theorem te_blt {id : String} (hc : CallR X (.builtin id) r) (hd : CallD (Cxp X) r f) (hg : Gl X x) (hm : X.mg x = none) (hv : bootBuiltins x = some (.builtin id)) (ha : PA X (e :: es) (upA (Cxp X) We da)) (hn : x ≠ "__name__" := by decide) (hdb : (x == ("__debug__" : Str)) = false := by decide)
    (he : starEach (e :: es) X.env = (false, eval e X.env) :: starEach es X.env := by rfl) (hpl : (backTo pos (starEach es X.env)).any (·.1) = false := by rfl) :
    PE X (.Call (.Name x p) (e :: es) [] pos) (upE (Cxp X) We (dCall f da)) := PE.imp (pe_callB hc hg hm hv ha hn hdb he hpl) fun σ H Q h => call_up hd h
theorem te_ty {T : String} (hc : CallR X (.type T) r) (hd : CallD (Cxp X) r f) (hg : Gl X x) (hm : X.mg x = none) (hv : bootBuiltins x = some (.type T)) (ha : PA X (e :: es) (upA (Cxp X) We da)) (hn : x ≠ "__name__" := by decide) (hdb : (x == ("__debug__" : Str)) = false := by decide)
    (he : starEach (e :: es) X.env = (false, eval e X.env) :: starEach es X.env := by rfl) (hpl : (backTo pos (starEach es X.env)).any (·.1) = false := by rfl) :
    PE X (.Call (.Name x p) (e :: es) [] pos) (upE (Cxp X) We (dCall f da)) := PE.imp (pe_callTy hc hg hm hv ha hn hdb he hpl) fun σ H Q h => call_up hd h
end
section
variable {K : Pm}
theorem pur1_eq {f : D → Option D} {ds : List D} {d : D} {G G' : List O} (h : pur1 f ds G = some (d, G')) : ∃ x, ds = [x] ∧ f x = some d ∧ G' = G := by
  obtain ⟨e, eg⟩ := pur_eq h
  split at e
  · exact ⟨_, rfl, e, eg⟩
  · cases e
/-- len -/
def lenP : List D → P1 D := fun ds G => match ds with
  | [.str x] => if x.length ≤ mx then some (.int x.length, G) else none
  | [.tup xs] => some (.int xs.length, G)
  | [.lst xs] => some (.int xs.length, G)
  | [.scr xs] => some (.int xs.length, G)
  | [.ref n] => match G[n]? with
    | some (.lst xs) => some (.int xs.length, G)
    | _ => none
  | _ => none
theorem cd_len : CallD K (fun xs H Q => ∃ x n, xs = [x] ∧ LenV K.K x H n ∧ Q (.int n) H) lenP := fun W H vs ds d G' Q g r e p => by
  unfold lenP at e
  split at e
  · split at e
    · rename_i z
      cases e
      cases r with
      | cons h r => cases r; cases h; exact ⟨_, _, rfl, ⟨mx_line z, rfl⟩, p W _ H rfl Ext.refl g (.int _)⟩
    · cases e
  · cases e
    cases r with
    | cons h r => cases r; cases h with
      | tup h q => exact ⟨_, _, rfl, .inr ⟨_, h, rfl⟩, p W _ H rfl Ext.refl g (by rw [q.length]; exact .int _)⟩
  · cases e
    cases r with
    | cons h r => cases r; cases h with
      | lst h n q => exact ⟨_, _, rfl, .inl ⟨_, SqL.of h, rfl⟩, p W _ H rfl Ext.refl g (by rw [q.length]; exact .int _)⟩
  · cases e
    cases r with
    | cons h r => cases r; cases h with
      | scr h q => exact ⟨_, _, rfl, .inl ⟨_, h.sq, rfl⟩, p W _ H rfl Ext.refl g (by rw [q.length]; exact .int _)⟩
  · split at e
    · rename_i hn
      cases e
      cases r with
      | cons h r => cases r; cases h with
        | ref ha =>
          obtain ⟨ws, hh, q⟩ := g.obj _ _ _ ha hn
          exact ⟨_, _, rfl, .inl ⟨_, SqL.of hh, rfl⟩, p W _ H rfl Ext.refl g (by rw [q.length]; exact .int _)⟩
    · cases e
  · cases e
/-- int(n), int(flag); abs; min, max of two ints -/
def intF : D → Option D
  | .int i => some (.int i)
  | .bl k => some (.int (if k then 1 else 0))
  | _ => none
theorem cd_int : CallD K (fun xs H Q => (∃ i, xs = [.int i] ∧ Q (.int i) H) ∨ ∃ k, xs = [.bl k] ∧ Q (.int (if k then 1 else 0)) H) (pur1 intF) := fun W H vs ds d G' Q g r e p => by
  obtain ⟨x, rfl, e0, rfl⟩ := pur1_eq e
  unfold intF at e0
  split at e0
  · cases e0
    cases r with
    | cons h r => cases r; cases h; exact .inl ⟨_, rfl, p W _ H rfl Ext.refl g (.int _)⟩
  · cases e0
    cases r with
    | cons h r => cases r; cases h; exact .inr ⟨_, rfl, p W _ H rfl Ext.refl g (.int _)⟩
  · cases e0
def absF : D → Option D
  | .int i => some (.int (if i < 0 then -i else i))
  | _ => none
theorem cd_abs : CallD K (fun xs H Q => ∃ i, xs = [.int i] ∧ Q (.int (if i < 0 then -i else i)) H) (pur1 absF) := fun W H vs ds d G' Q g r e p => by
  obtain ⟨x, rfl, e0, rfl⟩ := pur1_eq e
  unfold absF at e0
  split at e0
  · cases e0
    cases r with
    | cons h r => cases r; cases h; exact ⟨_, rfl, p W _ H rfl Ext.refl g (.int _)⟩
  · cases e0
def ii (f : Int → Int → Int) : List D → Option D
  | [.int i, .int j] => some (.int (f i j))
  | _ => none
theorem cd_ii {f : Int → Int → Int} : CallD K (fun xs H Q => ∃ i j, xs = [.int i, .int j] ∧ Q (.int (f i j)) H) (purL (ii f)) := fun W H vs ds d G' Q g r e p => by
  obtain ⟨e0, rfl⟩ := pur_eq e
  unfold ii at e0
  split at e0
  · cases e0
    cases r with
    | cons h r => cases r with
      | cons h2 r => cases r; cases h; cases h2; exact ⟨_, _, rfl, p W _ H rfl Ext.refl g (.int _)⟩
  · cases e0
abbrev min2 : Int → Int → Int := fun i j => if j < i then j else i
abbrev max2 : Int → Int → Int := fun i j => if j > i then j else i
/-- all, any of a list of bools; sum of a list of ints -/
def blsO : List D → Option (List Bool)
  | [] => some []
  | .bl b :: r => (blsO r).map fun bs => b :: bs
  | _ :: _ => none
def intsO : List D → Option (List Int)
  | [] => some []
  | .int b :: r => (intsO r).map fun bs => b :: bs
  | _ :: _ => none
def strsO : List D → Option (List Str)
  | [] => some []
  | .str b :: r => (strsO r).map fun bs => b :: bs
  | _ :: _ => none
section
variable {L : Addr → Prop} {α : List Addr} {H : Hp}
theorem bls_v : ∀ {vs : List V} {ds : List D} {bs : List Bool}, Drs K L α H vs ds → blsO ds = some bs → vs = bs.map V.bl
  | _, _, _, .nil, e => by cases e; rfl
  | _, _, _, .cons (d := d) h r, e => by
    cases d with
    | bl b =>
      obtain ⟨q, h1, rfl⟩ := Option.map_eq_some_iff.mp (by simpa [blsO] using e)
      cases h
      rw [List.map_cons, bls_v r h1]
    | _ => cases e
theorem ints_v : ∀ {vs : List V} {ds : List D} {bs : List Int}, Drs K L α H vs ds → intsO ds = some bs → vs = bs.map V.int
  | _, _, _, .nil, e => by cases e; rfl
  | _, _, _, .cons (d := d) h r, e => by
    cases d with
    | int b =>
      obtain ⟨q, h1, rfl⟩ := Option.map_eq_some_iff.mp (by simpa [intsO] using e)
      cases h
      rw [List.map_cons, ints_v r h1]
    | _ => cases e
theorem strs_v : ∀ {vs : List V} {ds : List D} {bs : List Str}, Drs K L α H vs ds → strsO ds = some bs → vs = bs.map V.str
  | _, _, _, .nil, e => by cases e; rfl
  | _, _, _, .cons (d := d) h r, e => by
    cases d with
    | str b =>
      obtain ⟨q, h1, rfl⟩ := Option.map_eq_some_iff.mp (by simpa [strsO] using e)
      cases h
      rw [List.map_cons, strs_v r h1]
    | _ => cases e
theorem drs_strs : ∀ xs : List Str, Drs K L α H (xs.map V.str) (xs.map D.str)
  | [] => .nil
  | x :: xs => .cons (.str x) (drs_strs xs)
end
/-- what stands in a list, ours or not -/
def inL (d : D) (G : List O) : Option (List D) := match d with
  | .lst xs => some xs
  | .scr xs => some xs
  | .ref n => match G[n]? with
    | some (.lst xs) => some xs
    | _ => none
  | _ => none
theorem inL_sq {W : Wd} {H : Hp} {v : V} {d : D} {xs : List D} (g : Gr K W H) (r : Rv K W H v d) (e : inL d W.G = some xs) : ∃ a vs, v = .ref a ∧ SqL K.K H a vs ∧ Rvs K W H vs xs := by
  unfold inL at e
  split at e
  · cases e; cases r with
    | lst h n q => exact ⟨_, _, rfl, SqL.of h, q⟩
  · cases e; cases r with
    | scr h q => exact ⟨_, _, rfl, h.sq, q⟩
  · split at e
    · rename_i hn
      cases e; cases r with
      | ref ha =>
        obtain ⟨vs, hh, q⟩ := g.obj _ _ _ ha hn
        exact ⟨_, vs, rfl, SqL.of hh, q⟩
    · cases e
  · cases e
def lP (f : List D → Option D) : List D → P1 D := fun ds G => match ds with
  | [x] => match inL x G with
    | some xs => match f xs with
      | some d => some (d, G)
      | none => none
    | none => none
  | _ => none
theorem lP_eq {f : List D → Option D} {ds : List D} {d : D} {G G' : List O} (h : lP f ds G = some (d, G')) : ∃ x xs, ds = [x] ∧ inL x G = some xs ∧ f xs = some d ∧ G' = G := by
  unfold lP at h
  split at h
  · split at h
    · split at h
      · rename_i h1 _ _ h2
        cases h
        exact ⟨_, _, rfl, h1, h2, rfl⟩
      · cases h
    · cases h
  · cases h
def allF (xs : List D) : Option D := (blsO xs).map fun bs => .bl (bs.all id)
def anyF (xs : List D) : Option D := (blsO xs).map fun bs => .bl (bs.any id)
def sumF (xs : List D) : Option D := (intsO xs).map fun bs => .int bs.sum
theorem cd_all : CallD K (rAll K.K) (lP allF) := fun W H vs ds d G' Q g r e p => by
  obtain ⟨x, xs, rfl, h1, h2, rfl⟩ := lP_eq e
  obtain ⟨bs, h3, rfl⟩ := Option.map_eq_some_iff.mp h2
  cases r with
  | cons h r =>
    cases r
    obtain ⟨a, ws, rfl, sq, q⟩ := inL_sq g h h1
    cases bls_v q h3
    exact ⟨a, bs, rfl, sq, p W _ H rfl Ext.refl g (.bl _)⟩
theorem cd_any : CallD K (rAny K.K) (lP anyF) := fun W H vs ds d G' Q g r e p => by
  obtain ⟨x, xs, rfl, h1, h2, rfl⟩ := lP_eq e
  obtain ⟨bs, h3, rfl⟩ := Option.map_eq_some_iff.mp h2
  cases r with
  | cons h r =>
    cases r
    obtain ⟨a, ws, rfl, sq, q⟩ := inL_sq g h h1
    cases bls_v q h3
    exact ⟨a, bs, rfl, sq, p W _ H rfl Ext.refl g (.bl _)⟩
theorem cd_sum : CallD K (rSum K.K) (lP sumF) := fun W H vs ds d G' Q g r e p => by
  obtain ⟨x, xs, rfl, h1, h2, rfl⟩ := lP_eq e
  obtain ⟨bs, h3, rfl⟩ := Option.map_eq_some_iff.mp h2
  cases r with
  | cons h r =>
    cases r
    obtain ⟨a, ws, rfl, sq, q⟩ := inL_sq g h h1
    cases ints_v q h3
    exact ⟨a, bs, rfl, sq, p W _ H rfl Ext.refl g (.int _)⟩
/-- list(x), tuple(x): of a list, a tuple -/
def inS (d : D) (G : List O) : Option (List D) := match d with
  | .tup xs => some xs
  | d => inL d G
def listP (f : List D → P1 D) : List D → P1 D := fun ds G => match ds with
  | [x] => match inS x G with
    | some xs => f xs G
    | none => none
  | _ => none
theorem inS_sq {W : Wd} {H : Hp} {v : V} {d : D} {xs : List D} (g : Gr K W H) (r : Rv K W H v d) (e : inS d W.G = some xs) : ∃ a vs, v = .ref a ∧ ((SqL K.K H a vs ∧ ∀ zs, d ≠ .tup zs) ∨ (SqT K.K H a vs ∧ d = .tup xs)) ∧ Rvs K W H vs xs := by
  unfold inS at e
  split at e
  · cases e; cases r with
    | tup h q => exact ⟨_, _, rfl, .inr ⟨h, rfl⟩, q⟩
  · rename_i hne
    obtain ⟨a, vs, rfl, sq, q⟩ := inL_sq g r e
    exact ⟨a, vs, rfl, .inl ⟨sq, fun zs h => hne zs h⟩, q⟩
theorem listP_eq {f : List D → P1 D} {ds : List D} {d : D} {G G' : List O} (h : listP f ds G = some (d, G')) : ∃ x xs, ds = [x] ∧ inS x G = some xs ∧ f xs G = some (d, G') := by
  unfold listP at h
  split at h
  · split at h
    · exact ⟨_, _, rfl, by assumption, h⟩
    · cases h
  · cases h
abbrev rListOf (K : PySem.W.Frag) : List V → Hp → VK → Prop := fun xs H Q => ∃ p ys, xs = [.ref p] ∧ (SqL K H p ys ∨ SqT K H p ys) ∧ ∀ l, H l = none → Q (.ref l) (upd H l (.lst ys))
theorem cd_list : CallD K (rListOf K.K) (listP okL) := fun W H vs ds d G' Q g r e p => by
  obtain ⟨x, xs, rfl, h1, h2⟩ := listP_eq e
  obtain ⟨h3, rfl⟩ := pur_eq h2
  obtain ⟨z, rfl⟩ := lstO_eq h3
  cases r with
  | cons h r =>
    cases r
    obtain ⟨a, ws, rfl, sq, q⟩ := inS_sq g h h1
    refine ⟨a, ws, rfl, sq.elim (fun z => .inl z.1) fun z => .inr z.1, fun l n => ?_⟩
    obtain ⟨g', x', rv⟩ := lst_new g q n
    exact p W _ _ rfl x' g' rv
theorem cd_listM : CallD K (rListOf K.K) (listP newL) := fun W H vs ds d G' Q g r e p => by
  obtain ⟨x, xs, rfl, h1, h2⟩ := listP_eq e
  obtain ⟨z, rfl, rfl⟩ := newL_eq h2
  cases r with
  | cons h r =>
    cases r
    obtain ⟨a, ws, rfl, sq, q⟩ := inS_sq g h h1
    refine ⟨a, ws, rfl, sq.elim (fun z => .inl z.1) fun z => .inr z.1, fun l n => ?_⟩
    obtain ⟨g', x', rv⟩ := mut_new g q n
    exact p (W.new l (.lst xs)) _ _ rfl x' g' rv
abbrev rTupOf (K : PySem.W.Frag) : List V → Hp → VK → Prop := fun xs H Q => ∃ p ys, xs = [.ref p] ∧ ((SqL K H p ys ∧ ∀ l, H l = none → Q (.ref l) (upd H l (.tup ys))) ∨ (SqT K H p ys ∧ Q (.ref p) H))
theorem cd_tup : CallD K (rTupOf K.K) (listP fun xs => pur (some (.tup xs))) := fun W H vs ds d G' Q g r e p => by
  obtain ⟨x, xs, rfl, h1, h2⟩ := listP_eq e
  obtain ⟨h3, rfl⟩ := pur_eq h2
  cases h3
  cases r with
  | cons h r =>
    cases r
    obtain ⟨a, ws, rfl, sq, q⟩ := inS_sq g h h1
    rcases sq with ⟨sq, _⟩ | ⟨sq, rfl⟩
    · refine ⟨a, ws, rfl, .inl ⟨sq, fun l n => ?_⟩⟩
      obtain ⟨g', x', rv⟩ := tup_new g q n
      exact p W _ _ rfl x' g' rv
    · exact ⟨a, ws, rfl, .inr ⟨sq, p W _ H rfl Ext.refl g h⟩⟩
end
end Tw

namespace Tw
open PySem PySem.Spec PyProof.Rows L2

/-! ### methods of our lists -/
def MethD (K : Pm) (r : V → List V → Hp → VK → Prop) (f : D → List D → P1 D) : Prop := ∀ (W : Wd) (H : Hp) (x : V) (vs : List V) (o : D) (ds : List D) (d : D) (G' : List O) (Q : VK), Gr K W H → Rv K W H x o → Rvs K W H vs ds → f o ds W.G = some (d, G') →
  (∀ (W' : Wd) (v : V) (H' : Hp), W'.G = G' → Ext W H W' H' → Gr K W' H' → Rv K W' H' v d → Q v H') → r x vs H Q
def isLs (d : D) : P1 Unit := fun G => match inL d G with
  | some _ => some ((), G)
  | none => none
def dMeth (f : D → List D → P1 D) (o : En → M D) (a : En → M (List D)) : En → M D := fun ρ => bnd (o ρ) fun x => bnd (lft (isLs x)) fun _ => bnd (a ρ) fun ds => lft (f x ds)
def dMeth0 (f : D → List D → P1 D) (o : En → M D) : En → M D := fun ρ => bnd (o ρ) fun x => bnd (lft (isLs x)) fun _ => lft (f x [])
theorem isLs_eq {d : D} {G G' : List O} {u : Unit} (h : isLs d G = some (u, G')) : ∃ xs, inL d G = some xs ∧ G' = G := by
  unfold isLs at h
  split at h
  · cases h; exact ⟨_, by assumption, rfl⟩
  · cases h
section
variable {X : Cx} {We : WE'} {o e : Expr} {es : List Expr} {name : Str} {apos cpos : Pos} {id : String} {r : V → List V → Hp → VK → Prop} {f : D → List D → P1 D} {dO : En → M D} {da : En → M (List D)}
theorem te_lm (slot : Slot "list" name id) (hty : typeOf (.builtin id) = pure (.type "method_descriptor")) (hm : MtR X id r) (hd : MethD (Cxp X) r f) (ho : PE X o (upE (Cxp X) We dO)) (ha : PA X (e :: es) (upA (Cxp X) We da))
    (h1 : attributeBase o name X.env (eval o X.env) = eval o X.env := by rfl)
    (h2 : (((backTo cpos (starEach (e :: es) X.env)).all fun x => !x.1) && ((backToKw cpos (keywordEach [] X.env)).all fun x => x.1.isSome) && decide ((e :: es).length + ([] : List Keyword).length + (if ([] : List Keyword).isEmpty then 0 else 1) < 30)) = true := by rfl)
    (h3 : (apos.endLine == cpos.line) = true := by rfl) (h4 : starEach (e :: es) X.env = (false, eval e X.env) :: starEach es X.env := by rfl) (h5 : (backTo cpos (starEach es X.env)).any (·.1) = false := by rfl) :
    PE X (.Call (.Attribute o name apos) (e :: es) [] cpos) (upE (Cxp X) We (dMeth f dO da)) := PE.imp (pe_bm PySem.F.plainAttrs_list slot hty hm ho ha h1 h2 h3 h4 h5) fun σ H Q h => by
  obtain ⟨W, ρ, r, G', hR, e, p⟩ := h
  refine up_bnd hR e p fun d W1 v H1 x1 R1 r1 e1 p1 => ?_
  obtain ⟨u, G2, e2, e3⟩ := bnd_lft e1
  obtain ⟨xs, hx, rfl⟩ := isLs_eq e2
  obtain ⟨a, vs, rfl, sq, _⟩ := inL_sq R1.gr r1 hx
  refine ⟨.inl ⟨rfl, vs, sq⟩, up_bnd R1 e3 p1 fun ds W4 ws H4 x4 R4 r4 e4 p4 => ?_⟩
  obtain ⟨d5, e5, p5⟩ := up_lft e4 p4
  exact hd W4 H4 _ ws d ds d5 G' Q R4.gr (r1.keep R1.gr x4) r4 e5 p5
theorem te_lm0 (slot : Slot "list" name id) (hty : typeOf (.builtin id) = pure (.type "method_descriptor")) (hm : MtR X id r) (hd : MethD (Cxp X) r f) (ho : PE X o (upE (Cxp X) We dO)) {t : PE X (.Call (.Attribute o name apos) [] [] cpos) (tBM0 X.K "list" r (upE (Cxp X) We dO))} :
    PE X (.Call (.Attribute o name apos) [] [] cpos) (upE (Cxp X) We (dMeth0 f dO)) := PE.imp t fun σ H Q h => by
  obtain ⟨W, ρ, r, G', hR, e, p⟩ := h
  refine up_bnd hR e p fun d W1 v H1 x1 R1 r1 e1 p1 => ?_
  obtain ⟨u, G2, e2, e3⟩ := bnd_lft e1
  obtain ⟨xs, hx, rfl⟩ := isLs_eq e2
  obtain ⟨a, vs, rfl, sq, _⟩ := inL_sq R1.gr r1 hx
  obtain ⟨d5, e5, p5⟩ := up_lft e3 p1
  exact ⟨.inl ⟨rfl, vs, sq⟩, hd W1 H1 _ [] d [] d5 G' Q R1.gr r1 .nil e5 p5⟩
end
section
variable {K : Pm}
theorem put_list {W : Wd} {H : Hp} {n : Nat} {a : Addr} {xs ys : List D} {vs ws : List V} (g : Gr K W H) (ha : W.α[n]? = some a) (hn : W.G[n]? = some (.lst xs)) (r : Rvs K W H ws ys) :
    Gr K (W.put n (.lst ys)) (upd H a (.lst ws)) ∧ Ext W H (W.put n (.lst ys)) (upd H a (.lst ws)) := by
  have x : Ext W H (W.put n (.lst ys)) (upd H a (.lst ws)) := Ext.put g ha hn (fun z => nomatch z)
  exact ⟨g.put ha hn (fun z => nomatch z) ⟨ws, upd_same, r.keep g x⟩, x⟩
def appF : D → List D → P1 D := fun o ds G => match o, ds with
  | .ref n, [y] => match G[n]? with
    | some (.lst xs) => if xs.length + 1 ≤ mx then some (.non, G.set n (.lst (xs ++ [y]))) else none
    | _ => none
  | _, _ => none
theorem md_app : MethD K rAppend appF := fun W H x vs o ds d G' Q g r1 r2 e p => by
  unfold appF at e
  split at e
  · split at e
    · rename_i hn
      split at e
      · rename_i z
        cases e
        cases r1 with
        | ref ha =>
          cases r2 with
          | cons h r2 =>
            cases r2
            obtain ⟨ws, hh, q⟩ := g.obj _ _ _ ha hn
            obtain ⟨g', x'⟩ := put_list (vs := ws) g ha hn (q.app (.cons h .nil))
            exact ⟨_, ws, _, rfl, rfl, hh, mx_lt (by rw [q.length]; omega), p (W.put _ _) _ _ rfl x' g' .non⟩
      · cases e
    · cases e
  · cases e
def popF : D → List D → P1 D := fun o ds G => match o, ds with
  | .ref n, [] => match G[n]? with
    | some (.lst xs) => match xs[xs.length - 1]? with
      | some y => some (y, G.set n (.lst xs.dropLast))
      | none => none
    | _ => none
  | _, _ => none
theorem Drs.dropLast {L : Addr → Prop} {α : List Addr} {H : Hp} : ∀ {vs : List V} {ds : List D}, Drs K L α H vs ds → Drs K L α H vs.dropLast ds.dropLast
  | _, _, .nil => .nil
  | _, _, .cons h .nil => .nil
  | _, _, .cons h (.cons h2 r) => .cons h (Drs.dropLast (.cons h2 r))
theorem Drs.erase {L : Addr → Prop} {α : List Addr} {H : Hp} : ∀ {vs : List V} {ds : List D} (i : Nat), Drs K L α H vs ds → Drs K L α H (vs.eraseIdx i) (ds.eraseIdx i)
  | _, _, _, .nil => .nil
  | _, _, 0, .cons h r => r
  | _, _, i + 1, .cons h r => .cons h (Drs.erase i r)
theorem Drs.set {L : Addr → Prop} {α : List Addr} {H : Hp} {v : V} {d : D} (q : Dr K L α H v d) : ∀ {vs : List V} {ds : List D} (i : Nat), Drs K L α H vs ds → Drs K L α H (vs.set i v) (ds.set i d)
  | _, _, _, .nil => .nil
  | _, _, 0, .cons h r => .cons q r
  | _, _, i + 1, .cons h r => .cons h (Drs.set q i r)
theorem md_pop : MethD K rPop popF := fun W H x vs o ds d G' Q g r1 r2 e p => by
  unfold popF at e
  split at e
  · split at e
    · rename_i hn
      split at e
      · rename_i y hy
        cases e
        cases r1 with
        | ref ha =>
          cases r2
          obtain ⟨ws, hh, q⟩ := g.obj _ _ _ ha hn
          obtain ⟨g', x'⟩ := put_list (vs := ws) g ha hn q.dropLast
          obtain ⟨v, h1, h2⟩ := q.at hy
          exact ⟨_, ws, v, rfl, rfl, hh, by rw [q.length]; exact h1, p (W.put _ _) _ _ rfl x' g' (h2.keep g x')⟩
      · cases e
    · cases e
  · cases e
def popAtF : D → List D → P1 D := fun o ds G => match o, ds with
  | .ref n, [.int i] => match G[n]? with
    | some (.lst xs) => if (smallI i) = true then match seqIndex? i xs.length with
      | some k => match xs[k]? with
        | some y => some (y, G.set n (.lst (xs.eraseIdx k)))
        | none => none
      | none => none
      else none
    | _ => none
  | _, _ => none
theorem md_popAt : MethD K rPopAt popAtF := fun W H x vs o ds d G' Q g r1 r2 e p => by
  unfold popAtF at e
  split at e
  · split at e
    · rename_i hn
      split at e
      · rename_i hs
        split at e
        · rename_i k hk
          split at e
          · rename_i y hy
            cases e
            cases r1 with
            | ref ha =>
              cases r2 with
              | cons h r2 =>
                cases r2; cases h
                obtain ⟨ws, hh, q⟩ := g.obj _ _ _ ha hn
                obtain ⟨g', x'⟩ := put_list (vs := ws) g ha hn (q.erase k)
                obtain ⟨v, h1, h2⟩ := q.at hy
                obtain ⟨s1, s2⟩ := smallI_eq hs
                exact ⟨_, ws, _, k, v, rfl, rfl, hh, by omega, by omega, by rw [q.length]; exact hk, h1, p (W.put _ _) _ _ rfl x' g' (h2.keep g x')⟩
          · cases e
        · cases e
      · cases e
    · cases e
  · cases e
def extF : D → List D → P1 D := fun o ds G => match o, ds with
  | .ref n, [.lst ys] => match G[n]? with
    | some (.lst xs) => if xs.length + ys.length ≤ mx then some (.non, G.set n (.lst (xs ++ ys))) else none
    | _ => none
  | _, _ => none
theorem md_ext : MethD K rExtend extF := fun W H x vs o ds d G' Q g r1 r2 e p => by
  unfold extF at e
  split at e
  · split at e
    · rename_i hn
      split at e
      · rename_i z
        cases e
        cases r1 with
        | ref ha =>
          cases r2 with
          | cons h r2 =>
            cases r2
            cases h with
            | lst hl nl ql =>
              obtain ⟨ws, hh, q⟩ := g.obj _ _ _ ha hn
              obtain ⟨g', x'⟩ := put_list (vs := ws) g ha hn (q.app ql)
              exact ⟨_, _, ws, _, rfl, rfl, hh, hl, mx_line (by rw [q.length, ql.length]; exact z), p (W.put _ _) _ _ rfl x' g' .non⟩
      · cases e
    · cases e
  · cases e
end

/-! ### xs[i] = e -/
def gSubD (o i : En → M D) (f : D → D → D → P1 Unit) : D → En → P1 En := fun d ρ G => match o ρ G with
  | some (.inr x, G1) => match i ρ G1 with
    | some (.inr j, G2) => match f x j d G2 with
      | some (_, G3) => some (ρ, G3)
      | none => none
    | _ => none
  | _ => none
def setF : D → D → D → P1 Unit := fun o i v G => match o, i with
  | .ref n, .int k => match G[n]? with
    | some (.lst xs) => match ixN xs.length k with
      | some j => some ((), G.set n (.lst (xs.set j v)))
      | none => none
    | _ => none
  | _, _ => none
theorem tg_set {X : Cx} {o i : Expr} {dO di : En → M D} {pos : Pos} (ho : PE X o (upE (Cxp X) WeF dO)) (hi : PE X i (upE (Cxp X) WeF di)) {t : PG X (.Subscript o i pos) (gSub (upE (Cxp X) WeF dO) (upE (Cxp X) WeF di) rSetL)} :
    PG X (.Subscript o i pos) (upG (Cxp X) (gSubD dO di setF)) := PG.imp t fun v σ H Q h => by
  obtain ⟨W, ρ, d, ρ', G', hR, rv, e, p⟩ := h
  unfold gSubD at e
  split at e
  · rename_i x G1 e1
    split at e
    · rename_i j G2 e2
      split at e
      · rename_i u G3 e3
        cases e
        refine ⟨W, ρ, .inr x, G1, hR, e1, fun W1 vx H1 eg1 x1 g1 r1 => ?_⟩
        refine ⟨W1, ρ, .inr j, G2, hR.keep g1 x1, by rw [eg1]; exact e2, fun W2 vj H2 eg2 x2 g2 r2 => ?_⟩
        have rv' := (rv.keep hR.gr x1).keep g1 x2
        have r1' := r1.keep g1 x2
        rw [← eg2] at e3
        unfold setF at e3
        split at e3
        · split at e3
          · rename_i hn
            split at e3
            · rename_i jj hj
              cases e3
              cases r1' with
              | ref ha =>
                cases r2
                obtain ⟨ws, hh, q⟩ := g2.obj _ _ _ ha hn
                obtain ⟨g', x'⟩ := put_list (vs := ws) g2 ha hn (Drs.set rv' jj q)
                exact ⟨_, ws, _, jj, rfl, rfl, hh, by rw [q.length]; exact hj, p (W2.put _ _) σ _ rfl (x1.trans (x2.trans x')) (hR.keep g' (x1.trans (x2.trans x')))⟩
            · cases e3
          · cases e3
        · cases e3
      · cases e
    · cases e
  · cases e

/-! ### sorted, of texts -/
def leC (a b : Str) : Bool := !ltCps b.cps.toList a.cps.toList
def insS (a : Str) : List Str → List Str
  | [] => [a]
  | b :: r => if leC a b = true then a :: b :: r else b :: insS a r
def sortS : List Str → List Str
  | [] => []
  | a :: r => insS a (sortS r)
theorem ltCps_asym : ∀ (a b : List Nat), ltCps a b = true → ltCps b a = false
  | [], [], h => by cases h
  | [], _ :: _, _ => rfl
  | _ :: _, [], h => by cases h
  | a :: r, b :: t, h => by
    simp only [ltCps, Bool.or_eq_true, Bool.and_eq_true, decide_eq_true_eq, beq_iff_eq] at h
    simp only [ltCps, Bool.or_eq_false_iff, Bool.and_eq_false_iff, decide_eq_false_iff_not, beq_eq_false_iff_ne]
    rcases h with h | ⟨rfl, h⟩
    · exact ⟨by omega, .inl (by omega)⟩
    · exact ⟨by omega, .inr (ltCps_asym r t h)⟩
theorem ltCps_tri : ∀ (a b : List Nat), ltCps a b = false → ltCps b a = false → a = b
  | [], [], _, _ => rfl
  | [], _ :: _, h, _ => by cases h
  | _ :: _, [], _, h => by cases h
  | a :: r, b :: t, h, h' => by
    simp only [ltCps, Bool.or_eq_false_iff, Bool.and_eq_false_iff, decide_eq_false_iff_not, beq_eq_false_iff_ne] at h h'
    have e : a = b := by omega
    subst e
    have h1 : ltCps r t = false := by rcases h.2 with q | q <;> first | exact absurd rfl q | exact q
    have h2 : ltCps t r = false := by rcases h'.2 with q | q <;> first | exact absurd rfl q | exact q
    rw [ltCps_tri r t h1 h2]
theorem ltCps_tr : ∀ (a b c : List Nat), ltCps b a = false → ltCps c b = false → ltCps c a = false
  | [], _, [], _, _ => rfl
  | [], _, _ :: _, _, _ => rfl
  | _ :: _, [], _, h, _ => by cases h
  | _ :: _, _ :: _, [], _, h => by cases h
  | x :: r, y :: s, z :: t, h, h' => by
    simp only [ltCps, Bool.or_eq_false_iff, Bool.and_eq_false_iff, decide_eq_false_iff_not, beq_eq_false_iff_ne] at h h' ⊢
    refine ⟨by omega, ?_⟩
    by_cases e : z = x
    · have e1 : y = x := by omega
      have e2 : z = y := by omega
      subst e1 e2
      right
      have h1 : ltCps s r = false := by rcases h.2 with q | q <;> first | exact absurd rfl q | exact q
      have h2 : ltCps t s = false := by rcases h'.2 with q | q <;> first | exact absurd rfl q | exact q
      exact ltCps_tr r s t h1 h2
    · exact .inl e
abbrev SrtS (l : List Str) : Prop := l.Pairwise fun a b => leC a b = true
theorem leC_tr {a b c : Str} (h : leC a b = true) (h' : leC b c = true) : leC a c = true := by
  unfold leC at *
  simp only [Bool.not_eq_true'] at *
  exact ltCps_tr _ _ _ h h'
theorem leC_tot {a b : Str} (h : leC a b = false) : leC b a = true := by
  unfold leC at *
  simp only [Bool.not_eq_false', Bool.not_eq_true'] at *
  exact ltCps_asym _ _ h
theorem ins_mem {a x : Str} : ∀ {l : List Str}, x ∈ insS a l ↔ x = a ∨ x ∈ l
  | [] => by simp [insS]
  | b :: r => by
    unfold insS
    split
    · simp
    · simp only [List.mem_cons, ins_mem (l := r)]
      constructor
      · rintro (h | h | h)
        · exact .inr (.inl h)
        · exact .inl h
        · exact .inr (.inr h)
      · rintro (h | h | h)
        · exact .inr (.inl h)
        · exact .inl h
        · exact .inr (.inr h)
theorem ins_srt {a : Str} : ∀ {l : List Str}, SrtS l → SrtS (insS a l)
  | [], _ => List.pairwise_singleton _ _
  | b :: r, h => by
    have hb := List.pairwise_cons.mp h
    unfold insS
    split
    · rename_i q
      refine List.pairwise_cons.mpr ⟨fun x hx => ?_, h⟩
      rcases List.mem_cons.mp hx with rfl | hx
      · exact q
      · exact leC_tr q (hb.1 x hx)
    · rename_i q
      refine List.pairwise_cons.mpr ⟨fun x hx => ?_, ins_srt hb.2⟩
      rcases ins_mem.mp hx with rfl | hx
      · exact leC_tot (by simpa using q)
      · exact hb.1 x hx
theorem ins_perm {a : Str} : ∀ {l : List Str}, (insS a l).Perm (a :: l)
  | [] => List.Perm.refl _
  | b :: r => by
    unfold insS
    split
    · exact List.Perm.refl _
    · exact (List.Perm.cons b (ins_perm (l := r))).trans (List.Perm.swap a b r)
theorem sortS_srt : ∀ l : List Str, SrtS (sortS l)
  | [] => .nil
  | a :: r => ins_srt (sortS_srt r)
theorem sortS_perm : ∀ l : List Str, (sortS l).Perm l
  | [] => List.Perm.refl _
  | a :: r => ins_perm.trans (List.Perm.cons a (sortS_perm r))
theorem rising_srt : ∀ (l : List Str) (p : Str), risingS p l = true → SrtS (p :: l)
  | [], p, _ => List.pairwise_singleton _ _
  | x :: r, p, h => by
    simp only [risingS, Bool.and_eq_true, Bool.not_eq_true'] at h
    have ih := rising_srt r x h.2
    have px : leC p x = true := by unfold leC; rw [h.1]; rfl
    refine List.pairwise_cons.mpr ⟨fun y hy => ?_, ih⟩
    rcases List.mem_cons.mp hy with rfl | hy
    · exact px
    · exact leC_tr px ((List.pairwise_cons.mp ih).1 y hy)
theorem str_of_tri {a b : Str} (h1 : leC a b = true) (h2 : leC b a = true) : a = b := by
  unfold leC at *
  simp only [Bool.not_eq_true'] at *
  have e := ltCps_tri _ _ h2 h1
  obtain ⟨⟨a⟩⟩ := a
  obtain ⟨⟨b⟩⟩ := b
  have e' : a = b := e
  rw [e']
theorem sortS_one {l m : List Str} (h : m.Perm l) (s : sortedS m = true) : m = sortS l := by
  have sm : SrtS m := by
    cases m with
    | nil => exact .nil
    | cons p r => exact rising_srt r p s
  exact List.Perm.eq_of_pairwise (fun x y _ _ h1 h2 => str_of_tri h1 h2) sm (sortS_srt l) (h.trans (sortS_perm l).symm)
def sortF (xs : List D) : Option D := match strsO xs with
  | some ss => if ss.length < 64 then some (.lst ((sortS ss).map .str)) else none
  | none => none
theorem cd_sortS {K : Pm} : CallD K (rSortedS K.K) (lP sortF) := fun W H vs ds d G' Q g r e p => by
  obtain ⟨x, xs, rfl, h1, h2, rfl⟩ := lP_eq e
  unfold sortF at h2
  split at h2
  · rename_i ss hs
    split at h2
    · rename_i hz
      cases h2
      cases r with
      | cons h r =>
        cases r
        obtain ⟨a, ws, rfl, sq, q⟩ := inL_sq g h h1
        cases strs_v q hs
        refine ⟨a, ss, rfl, sq, hz, fun ys b hp hsr n => ?_⟩
        cases sortS_one hp hsr
        obtain ⟨g', x', rv⟩ := lst_new g (drs_strs (K := K) (L := L W) (α := W.α) (H := H) (sortS ss)) n
        exact p W _ _ rfl x' g' rv
    · cases h2
  · cases h2

/-! ### isinstance of built-in classes -/
def tyN (d : D) (G : List O) : Option String := match d with
  | .non => some "NoneType"
  | .bl _ => some "bool"
  | .int _ => some "int"
  | .str _ => some "str"
  | .tup _ => some "tuple"
  | .lst _ => some "list"
  | .scr _ => some "list"
  | .ref n => match G[n]? with
    | some (.lst _) => some "list"
    | _ => none
  | _ => none
def isT (t c : String) : Bool := t == c || (t == "bool" && c == "int")
def knownC (c : String) : Bool := c == "int" || c == "bool" || c == "str" || c == "list" || c == "tuple"
def knownT (t : String) : Bool := t == "NoneType" || t == "bool" || t == "int" || t == "str" || t == "tuple" || t == "list"
theorem kit_isT {t c : String} (ht : knownT t = true) (hc : knownC c = true) : kitB t c = some (isT t c) := by
  unfold knownT at ht
  unfold knownC at hc
  simp only [Bool.or_eq_true, beq_iff_eq] at ht hc
  rcases ht with ((((rfl | rfl) | rfl) | rfl) | rfl) | rfl <;> rcases hc with (((rfl | rfl) | rfl) | rfl) | rfl <;> decide +kernel
theorem tyX_of {K : Pm} {W : Wd} {H : Hp} {v : V} {d : D} {t : String} (g : Gr K W H) (r : Rv K W H v d) (h : tyN d W.G = some t) : TyX K.K H v (.type t) ∧ knownT t = true := by
  unfold tyN at h
  split at h
  · cases h; cases r; exact ⟨.base .non, rfl⟩
  · cases h; cases r; exact ⟨.base (.bl _), rfl⟩
  · cases h; cases r; exact ⟨.base (.int _), rfl⟩
  · cases h; cases r; exact ⟨.base (.str _), rfl⟩
  · cases h; cases r with
    | tup h q =>
      refine ⟨?_, rfl⟩
      rcases h with (h | ⟨o, h⟩) | ⟨o, its, n, h1, h2, _⟩
      · exact .base (.tup h)
      · exact .fTuple h
      · exact .kTuple h1 h2
  · cases h; cases r with
    | lst h n q => exact ⟨.base (.lst h), rfl⟩
  · cases h; cases r with
    | scr h q =>
      rcases h with ⟨_, o, h⟩ | ⟨o, its, m, h1, h2, _⟩
      · exact ⟨.base (.frz h), rfl⟩
      · exact ⟨.kList h1 h2, rfl⟩
  · split at h
    · rename_i hn
      cases h; cases r with
      | ref ha => obtain ⟨vs, hh, q⟩ := g.obj _ _ _ ha hn; exact ⟨.base (.lst hh), rfl⟩
    · cases h
  · cases h
def isiF : List D → P1 D := fun ds G => match ds with
  | [x, .ty c] => match tyN x G with
    | some t => if knownC c = true then some (.bl (isT t c), G) else none
    | none => none
  | _ => none
theorem cd_isi {K : Pm} : CallD K (rIsi K.K) isiF := fun W H vs ds d G' Q g r e p => by
  unfold isiF at e
  split at e
  · split at e
    · rename_i t ht
      split at e
      · rename_i hc
        cases e
        cases r with
        | cons h r => cases r with
          | cons h2 r =>
            cases r; cases h2
            obtain ⟨ty, kt⟩ := tyX_of g h ht
            exact ⟨_, _, _, _, _, rfl, .ty _, ty, kit_ty (kit_isT kt hc), p W _ H rfl Ext.refl g (.bl _)⟩
      · cases e
    · cases e
  · cases e
def tysO : List D → Option (List String)
  | [] => some []
  | .ty c :: r => if knownC c = true then (tysO r).map fun cs => c :: cs else none
  | _ :: _ => none
def isiTF : List D → P1 D := fun ds G => match ds with
  | [x, .tup cs] => match tyN x G, tysO cs with
    | some t, some cs => some (.bl (cs.any fun c => isT t c), G)
    | _, _ => none
  | _ => none
theorem kitAny_T {K : PySem.W.Frag} {t : String} (ht : knownT t = true) : ∀ {ds : List D} {cs : List String}, tysO ds = some cs → PySem.W.kitAny K (.type t) (cs.map .type) = some (cs.any fun c => isT t c)
  | [], _, e => by cases e; exact kitAny_nil
  | d :: r, cs, e => by
    cases d with
    | ty c =>
      have e' : (if knownC c = true then (tysO r).map fun cs => c :: cs else none) = some cs := e
      split at e'
      · rename_i hc
        obtain ⟨q, h1, rfl⟩ := Option.map_eq_some_iff.mp e'
        have ih := kitAny_T (K := K) ht h1
        rw [List.map_cons, List.any_cons]
        cases hb : isT t c with
        | true => exact kitAny_cons (b := true) (by rw [← hb]; exact kit_ty (kit_isT ht hc)) (fun z => nomatch z) fun _ => by simp
        | false => exact kitAny_cons (b := false) (by rw [← hb]; exact kit_ty (kit_isT ht hc)) (fun _ => by rw [ih]; simp) fun z => nomatch z
      · cases e'
    | _ => cases e
theorem tys_v {K : Pm} {L : Addr → Prop} {α : List Addr} {H : Hp} : ∀ {vs : List V} {ds : List D} {cs : List String}, Drs K L α H vs ds → tysO ds = some cs → vs = cs.map V.ty
  | _, _, _, .nil, e => by cases e; rfl
  | _, _, cs, .cons (d := d) (ds := ds) h r, e => by
    cases d with
    | ty c =>
      have e' : (if knownC c = true then (tysO ds).map fun cs => c :: cs else none) = some cs := e
      split at e'
      · obtain ⟨q, h1, rfl⟩ := Option.map_eq_some_iff.mp e'
        cases h
        rw [List.map_cons, tys_v r h1]
      · cases e'
    | _ => cases e
theorem cls_pair : ∀ cs : List String, Paired ClsV (cs.map V.ty) (cs.map Value.type)
  | [] => .nil
  | c :: cs => .cons (.ty c) (cls_pair cs)
/-- isinstance(x, (c1, ..)), the tuple wherever it stands -/
def rIsiA (K : PySem.W.Frag) : List V → Hp → VK → Prop := fun xs H Q => ∃ (x : V) (tp : Addr) (cs : List V) (t : Value) (us : List Value) (b : Bool), xs = [x, .ref tp] ∧ SqT K H tp cs ∧ Paired ClsV cs us ∧ TyX K H x t ∧ PySem.W.kitAny K t us = some b ∧ Q (.bl b) H
theorem call_isiA {X : Cx} : CallR X (.builtin "isinstance") (rIsiA X.K) := by
  intro pins s σ H xs us Q I rv hw
  obtain ⟨x, tp, cs, t, ws, b, rfl, hT, kc, ty, hk, q⟩ := hw
  obtain ⟨u1, u2, rfl, r1, r2⟩ := vals2 rv
  cases (show u2 = Value.ref tp from r2)
  obtain ⟨φ, Z, hφ, hne⟩ := kit_of I r1 ty
  obtain ⟨its, rvs, ⟨ob, hob, hcl, m, hdat⟩, _⟩ := I.tuple hT
  have es := ClsV.all kc rvs
  subst es
  obtain ⟨oc, od, dt, sl⟩ := ob
  simp only at hcl hdat
  subst hcl hdat
  exact PySem.W.kia_tup Z I.kIn hφ hob hk hne fun tk => ⟨.bl b, H, I.tok tk, rfl, q⟩
theorem cd_isiT {K : Pm} : CallD K (rIsiA K.K) isiTF := fun W H vs ds d G' Q g r e p => by
  unfold isiTF at e
  split at e
  · split at e
    · rename_i t cs ht hc
      cases e
      cases r with
      | cons h r => cases r with
        | cons h2 r =>
          cases r
          cases h2 with
          | tup hq q =>
            obtain ⟨ty, kt⟩ := tyX_of g h ht
            cases tys_v (K := K) q hc
            exact ⟨_, _, _, _, _, _, rfl, hq, cls_pair cs, ty, kitAny_T kt hc, p W _ H rfl Ext.refl g (.bl _)⟩
    · cases e
  · cases e
end Tw

namespace Tw
open PySem PySem.Spec PyProof.Rows L2

/-! ### what holds no number of ours -/
mutual
def noR : D → Bool
  | .tup xs => noRs xs
  | .lst xs => noRs xs
  | .scr xs => noRs xs
  | .dct kvs => noRk kvs
  | .ref _ => false
  | .exf _ _ x => noR x
  | .dcl kvs => noRk kvs
  | .tpn xs => noRs xs
  | _ => true
def noRs : List D → Bool
  | [] => true
  | x :: xs => noR x && noRs xs
def noRk : List (Key × D) → Bool
  | [] => true
  | (_, x) :: xs => noR x && noRk xs
end
section
variable {K : Pm} {L L' : Addr → Prop} {α α' : List Addr} {H : Hp}
mutual
theorem Dr.nr (le : ∀ a, L' a → L a) : ∀ {v : V} {d : D}, noR d = true → Dr K L α H v d → Dr K L' α' H v d
  | _, _, _, .non => .non
  | _, _, _, .bl b => .bl b
  | _, _, _, .int i => .int i
  | _, _, _, .str z => .str z
  | _, _, n, .tup h r => .tup h (Drs.nr le (by simpa [noR] using n) r)
  | _, _, n, .lst h nl r => .lst h (fun l => nl (le _ l)) (Drs.nr le (by simpa [noR] using n) r)
  | _, _, n, .scr h r => .scr (h.imp (fun z => ⟨fun l => z.1 (le _ l), z.2⟩) id) (Drs.nr le (by simpa [noR] using n) r)
  | _, _, n, .dct h nl r => .dct h (fun l => nl (le _ l)) (Drk.nr le (by simpa [noR] using n) r)
  | _, _, _, .set h nl nd e => .set h (fun l => nl (le _ l)) nd e
  | _, _, n, .ref h => by simp [noR] at n
  | _, _, _, .glo a => .glo a
  | _, _, _, .ty c => .ty c
  | _, _, n, .dcl h nl r => .dcl h (fun l => nl (le _ l)) (Drk.nr le (by simpa [noR] using n) r)
  | _, _, n, .tpn h r => .tpn h (Drs.nr le (by simpa [noR] using n) r)
  | _, _, _, .cls h => .cls h
  | _, _, _, .exc h e nl => .exc h e (fun l => nl (le _ l))
  | _, _, n, .exf h e nl e2 nl2 r => .exf h e (fun l => nl (le _ l)) e2 (fun l => nl2 (le _ l)) (Dr.nr le (by simpa [noR] using n) r)
theorem Drs.nr (le : ∀ a, L' a → L a) : ∀ {vs : List V} {ds : List D}, noRs ds = true → Drs K L α H vs ds → Drs K L' α' H vs ds
  | _, _, _, .nil => .nil
  | _, _, n, .cons h r => by
    obtain ⟨n1, n2⟩ := Bool.and_eq_true_iff.mp (by simpa [noRs] using n)
    exact .cons (Dr.nr le n1 h) (Drs.nr le n2 r)
theorem Drk.nr (le : ∀ a, L' a → L a) : ∀ {vs : List (Key × V)} {ds : List (Key × D)}, noRk ds = true → Drk K L α H vs ds → Drk K L' α' H vs ds
  | _, _, _, .nil => .nil
  | _, _, n, .cons h r => by
    obtain ⟨n1, n2⟩ := Bool.and_eq_true_iff.mp (by simpa [noRk] using n)
    exact .cons (Dr.nr le n1 h) (Drk.nr le n2 r)
end
end
def noRO : O → Bool
  | .lst xs => noRs xs
  | .dct kvs => noRk kvs
  | .dlk kvs => noRk kvs
  | .gone => true

/-! ### what a def promises: what its reckoning gives -/
abbrev XO := Er → Wd → Hp → XK → Prop
abbrev Xo0 : XO := fun _ _ _ _ => False
def PostF (K : Pm) (Xo : XO) (W : Wd) (H : Hp) (r : Sum Er D) (G' : List O) (Q : VK) (E : XK) : Prop := match r with
  | .inr d => ∀ (W' : Wd) (v : V) (H' : Hp), W'.G = G' → Ext W H W' H' → Gr K W' H' → Rv K W' H' v d → Q v H'
  | .inl e => ∀ (W' : Wd) (H' : Hp), W'.G = G' → Ext W H W' H' → Gr K W' H' → Xo e W' H' E
def spF (K : Pm) (Xo : XO) (n : Nat) (F : List D → M D) : Sp := fun vs H Q E => vs.length = n ∧ ∃ (W : Wd) (ds : List D) (r : Sum Er D) (G' : List O), Gr K W H ∧ Rvs K W H vs ds ∧ F ds W.G = some (r, G') ∧ PostF K Xo W H r G' Q E
def start0 (n : Nat) (args : List D) : En := args.map some ++ List.replicate (n - args.length) none
def outD : Out → M D
  | .rt d => ret d
  | .nx _ => ret .non
  | _ => fun _ => none
def runD (n : Nat) (ds : En → M Out) : List D → M D := fun args => bnd (ds (start0 n args)) outD
theorem Drs.get1 {K : Pm} {L : Addr → Prop} {α : List Addr} {H : Hp} {vs : List V} {ds : List D} (r : Drs K L α H vs ds) {i : Nat} {d : D} (h : ds[i]? = some d) : ∃ v, vs[i]? = some v ∧ Dr K L α H v d := r.at h
theorem rs_start {K : Pm} {W : Wd} {H : Hp} {vs : List V} {ds : List D} {N : List Str} (g : Gr K W H) (r : Rvs K W H vs ds) : Rs K W (start0 N.length ds) (L2.start N vs) H := by
  refine ⟨g, by simp [start0, L2.start, r.length], fun i d e => ?_⟩
  unfold start0 at e
  by_cases hi : i < (ds.map some).length
  · rw [List.getElem?_append_left hi, List.getElem?_map] at e
    cases q : ds[i]? with
    | none => rw [q] at e; cases e
    | some d' =>
      rw [q] at e
      cases e
      obtain ⟨v, h1, h2⟩ := r.at q
      refine ⟨v, ?_, h2⟩
      unfold L2.start
      have hl : i < (vs.map some).length := by simpa [r.length] using hi
      rw [List.getElem?_append_left hl, List.getElem?_map, h1]; rfl
  · rw [List.getElem?_append_right (Nat.le_of_not_lt hi)] at e
    have := List.mem_of_getElem? e
    rw [List.mem_replicate] at this
    cases this.2
section
variable {P : Program} {w : World} {K : PySem.W.Frag} {mg : Str → Option Value} {base : Heap} {x qual : Str} {params : Arguments} {body : List Stmt} {scope : Scope} {f : Addr} {fd : FuncData}
/-- a def that lets no error out -/
theorem fn_tw {N ps : List Str} {k : Nat} {ds : En → M Out} (F : FunD K x qual params body scope [] [] f fd) (S : FnScope N ps scope)
    (hb : ∀ (cdv : Value) (A : Around) (outer : List Env) (s : Shared) (H : Hp) (E : XK), Room k (A.deeper (envOfC qual scope s.heap.objs.size f cdv)) → PSs (cxOf CX0 P w K mg base N qual scope f cdv A outer s H E).nox body (ups ⟨K, P, w, mg⟩ WeF ds)) :
    FnOk P w K mg base CX0 (k + 1) f fd ps (spF ⟨K, P, w, mg⟩ Xo0 ps.length (runD N.length ds)) := by
  refine F.ok S (fun vs H Q E h => h.1) fun cdv A outer s H vs Q E hr h => ⟨_, PSs.nox (hb cdv A outer s H E hr), ?_⟩
  obtain ⟨_, W, dv, r, G', g, rv, e, p⟩ := h
  unfold runD bnd at e
  split at e
  · rename_i o G1 he
    refine ⟨W, _, .inr o, G1, rs_start g rv, he, ?_⟩
    cases o with
    | rt d => cases e; exact p
    | nx ρ => cases e; exact fun W' σ' H' eg xx R' => p W' .non H' eg xx R'.gr .non
    | bk ρ => cases e
    | ct ρ => cases e
  · rename_i er G1 he
    cases e
    exact ⟨W, _, .inl er, _, rs_start g rv, he, fun W' σ' H' eg xx g' => p W' H' eg xx g'⟩
  · cases e
end
/-! ### calls of such a def -/
def noX {A : Type} (m : M A) : M A := fun G => match m G with
  | some (.inr a, G1) => some (.inr a, G1)
  | _ => none
theorem noX_eq {A : Type} {m : M A} {G G' : List O} {r : Sum Er A} (h : noX m G = some (r, G')) : ∃ a, r = .inr a ∧ m G = some (.inr a, G') := by
  unfold noX at h
  split at h
  · rename_i a G1 he; cases h; exact ⟨a, rfl, he⟩
  · cases h
/-- the callee sees our objects -/
def dF (F : List D → M D) (a : En → M (List D)) : En → M D := fun ρ => bnd (a ρ) fun ds => noX (F ds)
/-- the callee is handed no object of ours, and hands none back -/
def pureF (F : List D → M D) (ds : List D) : M D := fun G => if noRs ds = true then match F ds [] with
  | some (.inr d, _) => if noR d = true then some (.inr d, G) else none
  | _ => none
  else none
def dFp (F : List D → M D) (a : En → M (List D)) : En → M D := fun ρ => bnd (a ρ) fun ds => pureF F ds
/-- the callee sees our objects; what it laid itself is forgotten -/
def cutF (F : List D → M D) (ds : List D) : M D := fun G => match F ds G with
  | some (.inr d, G1) => if (noR d && (G1.take G.length).all noRO && decide (G.length ≤ G1.length)) = true then some (.inr d, G1.take G.length) else none
  | _ => none
def dFc (F : List D → M D) (a : En → M (List D)) : En → M D := fun ρ => bnd (a ρ) fun ds => cutF F ds
open Classical in
/-- what is seen by a callee that is handed none of our objects -/
noncomputable def Wd.alone (W : Wd) : Wd := ⟨[], [], W.B ++ W.α.filter fun a => decide (live W a)⟩
section
variable {K : Pm} {W : Wd} {H : Hp}
theorem live_α {a : Addr} (l : live W a) : a ∈ W.α := by
  obtain ⟨n, o, h, _⟩ := l
  exact List.mem_of_getElem? h
theorem alone_B {a : Addr} : a ∈ W.alone.B ↔ L W a := by
  unfold Wd.alone L
  simp only [List.mem_append, List.mem_filter, decide_eq_true_eq]
  constructor
  · rintro (h | ⟨_, h⟩)
    · exact .inr h
    · exact .inl h
  · rintro (h | h)
    · exact .inr ⟨live_α h, h⟩
    · exact .inl h
theorem alone_live {a : Addr} : ¬ live W.alone a := fun ⟨n, o, h, _⟩ => by simp [Wd.alone] at h
theorem alone_L {a : Addr} : L W.alone a ↔ L W a := ⟨fun l => l.elim (fun h => absurd h alone_live) fun h => alone_B.mp h, fun l => .inr (alone_B.mpr l)⟩
theorem Gr.alone (g : Gr K W H) : Gr K W.alone H := by
  refine ⟨rfl, by simp [Wd.alone], fun a _ => by simp [Wd.alone], fun a h => by simp [Wd.alone] at h, fun a h => ?_, fun n a o h _ => by simp [Wd.alone] at h⟩
  rcases alone_B.mp h with l | l
  · exact g.thA a (live_α l)
  · exact g.thB a l
theorem Ext.unalone {W' : Wd} {H' : Hp} (x : Ext W.alone H W' H') : Ext W H W H' := by
  refine ⟨fun _ h => h, fun _ h => .inl h, x.th, ⟨[], by simp⟩, fun a o h l => ⟨(x.keep a o h alone_live).1, l⟩, x.tup⟩
theorem Gr.unalone {W' : Wd} {H' : Hp} (g : Gr K W H) (x : Ext W.alone H W' H') : Gr K W H' :=
  ⟨g.len, g.nd, g.dis, fun a h => x.th a (g.thA a h), fun a h => x.th a (g.thB a h), fun n a o h1 h2 => by
    have q := g.obj n a o h1 h2
    cases o with
    | gone => exact True.intro
    | _ =>
      obtain ⟨u, hu, _⟩ := g.lv ⟨n, _, h1, h2, fun z => nomatch z⟩
      exact q.keep g x.unalone (by rw [hu]; exact (x.keep a u hu alone_live).1)⟩
theorem alone_le {W' : Wd} {H' : Hp} (x : Ext W.alone H W' H') : ∀ a, L W a → L W' a := fun a l => .inr (x.b a (alone_B.mpr l))
/-- the world of the first n of our objects -/
def Wd.cut (W : Wd) (n : Nat) : Wd := ⟨W.α.take n, W.G.take n, W.B⟩
theorem live_cut {n : Nat} {a : Addr} (l : live (W.cut n) a) : live W a := by
  obtain ⟨m, o, h1, h2, ne⟩ := l
  have h1' : (W.α.take n)[m]? = some a := h1
  have h2' : (W.G.take n)[m]? = some o := h2
  have lt : m < n := by
    have := (List.getElem?_eq_some_iff.mp h1').1
    rw [List.length_take] at this
    omega
  rw [List.getElem?_take_of_lt lt] at h1' h2'
  exact ⟨m, o, h1', h2', ne⟩
theorem L_cut {n : Nat} : ∀ a, L (W.cut n) a → L W a := fun a l => l.elim (fun h => .inl (live_cut h)) .inr
theorem Gr.cut {n : Nat} (g : Gr K W H) (hn : (W.G.take n).all noRO = true) : Gr K (W.cut n) H := by
  refine ⟨by simp [Wd.cut, g.len], (List.take_sublist _ _).nodup g.nd, fun a h1 h2 => g.dis a h1 (List.mem_of_mem_take h2), fun a h => g.thA a (List.mem_of_mem_take h), g.thB, fun m a o h1 h2 => ?_⟩
  have h1' : (W.α.take n)[m]? = some a := h1
  have h2' : (W.G.take n)[m]? = some o := h2
  have nr : noRO o = true := List.all_eq_true.mp hn o (List.mem_of_getElem? h2')
  have lt : m < n := by
    have := (List.getElem?_eq_some_iff.mp h1').1
    rw [List.length_take] at this
    omega
  rw [List.getElem?_take_of_lt lt] at h1' h2'
  have q := g.obj m a o h1' h2'
  cases o with
  | lst ds => obtain ⟨vs, h, r⟩ := q; exact ⟨vs, h, Drs.nr L_cut nr r⟩
  | dct kvs => obtain ⟨ps, h, r⟩ := q; exact ⟨ps, h, Drk.nr L_cut nr r⟩
  | dlk kvs => obtain ⟨o, ps, h, r⟩ := q; exact ⟨o, ps, h, Drk.nr L_cut nr r⟩
  | gone => exact True.intro
theorem Ext.cut {W0 : Wd} {H0 : Hp} (x : Ext W0 H0 W H) : Ext W0 H0 (W.cut W0.α.length) H := by
  obtain ⟨t, ht⟩ := x.pre
  refine ⟨x.b, x.b', x.th, ⟨[], ?_⟩, fun a o h l => ⟨(x.keep a o h l).1, fun q => (x.keep a o h l).2 (live_cut q)⟩, x.tup⟩
  show W.α.take W0.α.length = W0.α ++ []
  rw [ht, List.take_left', List.append_nil]
  rfl
end
/-- as many values as expressions -/
def LenA (n : Nat) (da : En → M (List D)) : Prop := ∀ (ρ : En) (G G' : List O) (ds : List D), da ρ G = some (.inr ds, G') → ds.length = n
theorem lenA_nil : LenA 0 dNil := fun ρ G G' ds h => by cases h; rfl
theorem lenA_cons {n : Nat} {a : En → M D} {r : En → M (List D)} (h : LenA n r) : LenA (n + 1) (dCons a r) := fun ρ G G' ds e => by
  unfold dCons bnd at e
  split at e
  · rename_i x G1 e1
    dsimp only at e
    split at e
    · rename_i xs G2 e2
      cases e
      rw [List.length_cons, h ρ G1 _ xs e2]
    · cases e
    · cases e
  · cases e
  · cases e
section
variable {K : Pm} {We : WE'} {n : Nat} {F : List D → M D} {da : En → M (List D)} {σ : L2.St} {H : Hp} {Q : VK}
/-- the three ways to call -/
theorem dF_up (hl : LenA n da) (h : upE K We (dF F da) σ H Q) : upA K We da σ H (fun vs H1 => spF K Xo0 n F vs H1 Q E0) := by
  obtain ⟨W, ρ, r, G', hR, e, p⟩ := h
  unfold dF bnd at e
  split at e
  · rename_i ds G1 he
    refine ⟨W, ρ, .inr ds, G1, hR, he, fun W1 vs H1 eg x1 g1 r1 => ?_⟩
    obtain ⟨a, rfl, e2⟩ := noX_eq e
    exact ⟨by rw [r1.length]; exact hl ρ _ _ _ he, W1, ds, .inr a, G', g1, r1, by rw [eg]; exact e2, p.mono x1⟩
  · rename_i er G1 he
    cases e
    exact ⟨W, ρ, .inl er, _, hR, he, p⟩
  · cases e
theorem dFp_up (hl : LenA n da) (h : upE K We (dFp F da) σ H Q) : upA K We da σ H (fun vs H1 => spF K Xo0 n F vs H1 Q E0) := by
  obtain ⟨W, ρ, r, G', hR, e, p⟩ := h
  unfold dFp bnd at e
  split at e
  · rename_i ds G1 he
    refine ⟨W, ρ, .inr ds, G1, hR, he, fun W1 vs H1 eg x1 g1 r1 => ?_⟩
    unfold pureF at e
    dsimp only at e
    split at e
    · rename_i hnr
      split at e
      · rename_i d J hf
        split at e
        · rename_i hd
          cases e
          refine ⟨by rw [r1.length]; exact hl ρ _ _ _ he, W1.alone, ds, .inr d, J, g1.alone, Drs.nr (fun a l => alone_L.mp l) hnr r1, hf, fun W' v H' _ x' g' r' => ?_⟩
          exact p W1 v H' eg (x1.trans x'.unalone) (g1.unalone x') (Dr.nr (alone_le x') hd r')
        · cases e
      · cases e
    · cases e
  · rename_i er G1 he
    cases e
    exact ⟨W, ρ, .inl er, _, hR, he, p⟩
  · cases e
theorem dFc_up (hl : LenA n da) (h : upE K We (dFc F da) σ H Q) : upA K We da σ H (fun vs H1 => spF K Xo0 n F vs H1 Q E0) := by
  obtain ⟨W, ρ, r, G', hR, e, p⟩ := h
  unfold dFc bnd at e
  split at e
  · rename_i ds G1 he
    refine ⟨W, ρ, .inr ds, G1, hR, he, fun W1 vs H1 eg x1 g1 r1 => ?_⟩
    unfold cutF at e
    dsimp only at e
    split at e
    · rename_i d J hf
      split at e
      · rename_i hd
        obtain ⟨hd, hlen⟩ := Bool.and_eq_true_iff.mp hd
        obtain ⟨hd, hall⟩ := Bool.and_eq_true_iff.mp hd
        cases e
        refine ⟨by rw [r1.length]; exact hl ρ _ _ _ he, W1, ds, .inr d, J, g1, r1, by rw [eg]; exact hf, fun W' v H' eg' x' g' r' => ?_⟩
        have en : W1.α.length = G1.length := by rw [← eg]; exact g1.len
        refine p (W'.cut W1.α.length) v H' ?_ (x1.trans x'.cut) (g'.cut ?_) (Dr.nr L_cut hd r')
        · show W'.G.take _ = _
          rw [eg', en]
        · rw [eg', en]; exact hall
      · cases e
    · cases e
  · rename_i er G1 he
    cases e
    exact ⟨W, ρ, .inl er, _, hR, he, p⟩
  · cases e
end
section
variable {X : Cx} {We : WE'} {CX : CXT} {k n : Nat} {f : Addr} {fd : FuncData} {ps : List Str} {F : List D → M D} {x : Str} {p pos : Pos} {e : Expr} {es : List Expr} {da : En → M (List D)} {dF' : En → M D}
/-- f(e, ..); up: dF_up, dFp_up or dFc_up -/
theorem te_f (up : ∀ {σ : L2.St} {H : Hp} {Q : VK}, upE (Cxp X) We dF' σ H Q → upA (Cxp X) We da σ H (fun vs H1 => spF (Cxp X) Xo0 n F vs H1 Q E0)) (G : FnOk X.prog X.w X.K X.mg X.base CX0 k f fd ps (spF (Cxp X) Xo0 n F)) (hr : Room k X.A) (hg : Gl X x) (hm : X.mg x = some (.ref f))
    (hk : PySem.W.keepIn X.K (.ref f) = true) (hb : Binds X.K fd ps []) (ha : PA X (e :: es) (upA (Cxp X) We da)) (hdb : (x == ("__debug__" : Str)) = false := by decide)
    (he : starEach (e :: es) X.env = (false, eval e X.env) :: starEach es X.env := by rfl) (hpl : (backTo pos (starEach es X.env)).any (·.1) = false := by rfl) : PE X (.Call (.Name x p) (e :: es) [] pos) (upE (Cxp X) We dF') :=
  PE.imp (pe_call (dvs := []) G hr hg hm hk hb .nil pass0 ha hdb he hpl) fun σ H Q h => by
    obtain ⟨W, ρ, r, G', hR, e1, p1⟩ := up h
    refine ⟨W, ρ, r, G', hR, e1, ?_⟩
    cases r with
    | inr ds =>
      exact fun W' v H' eg x' g' r' => (show spF (Cxp X) Xo0 n F (v ++ []) H' Q E0 by rw [List.append_nil]; exact p1 W' v H' eg x' g' r')
    | inl er => exact p1
theorem te_f0 (up : ∀ {σ : L2.St} {H : Hp} {Q : VK}, upE (Cxp X) We dF' σ H Q → upA (Cxp X) We dNil σ H (fun vs H1 => spF (Cxp X) Xo0 0 F vs H1 Q E0)) (G : FnOk X.prog X.w X.K X.mg X.base CX0 k f fd ps (spF (Cxp X) Xo0 0 F)) (hr : Room k X.A) (hg : Gl X x) (hm : X.mg x = some (.ref f))
    (hk : PySem.W.keepIn X.K (.ref f) = true) (hb : Binds X.K fd ps []) (hdb : (x == ("__debug__" : Str)) = false := by decide) : PE X (.Call (.Name x p) [] [] pos) (upE (Cxp X) We dF') :=
  PE.imp (pe_call0 (dvs := []) G hr hg hm hk hb .nil pass0 hdb) fun σ H Q h => by
    obtain ⟨W, ρ, r, G', hR, e1, p1⟩ := up h
    cases e1
    exact p1 W [] H rfl Ext.refl hR.gr .nil
end

/-! ### a list of ours is never changed again -/
def frzO : O → Option D
  | .lst xs => some (.lst xs)
  | .dct kvs => some (.dct kvs)
  | _ => none
def frzD (d : D) : P1 D := fun G => match d with
  | .ref n => match G[n]? with
    | some o => match frzO o with
      | some t => some (t, G.set n .gone)
      | none => none
    | none => none
  | _ => none
theorem frz_ok {K : Pm} {W : Wd} {H : Hp} {v : V} {d t : D} {G' : List O} (g : Gr K W H) (r : Rv K W H v d) (e : frzD d W.G = some (t, G')) : ∃ W', W'.G = G' ∧ Ext W H W' H ∧ Gr K W' H ∧ Rv K W' H v t := by
  unfold frzD at e
  split at e
  · split at e
    · rename_i o hn
      split at e
      · rename_i t' ht
        cases e
        cases r with
        | ref ha =>
          have ng : o ≠ .gone := fun z => by rw [z] at ht; cases ht
          refine ⟨W.put _ .gone, rfl, Ext.drop hn ng, g.drop hn ng, ?_⟩
          have q := g.obj _ _ _ ha hn
          cases o with
          | lst xs =>
            cases ht
            obtain ⟨vs, hh, qs⟩ := q
            exact .lst hh (not_L_drop g ha) (qs.keep g (Ext.drop hn ng))
          | dct kvs =>
            cases ht
            obtain ⟨ps, hh, qs⟩ := q
            exact .dct (.inl hh) (not_L_drop g ha) (qs.keep g (Ext.drop hn ng))
          | _ => cases ht
      · cases e
    · cases e
  · cases e
def dFrz (a : En → M D) : En → M D := fun ρ => bnd (a ρ) fun d => lft (frzD d)
theorem te_frz {X : Cx} {We : WE'} {e : Expr} {da : En → M D} (h : PE X e (upE (Cxp X) We da)) : PE X e (upE (Cxp X) We (dFrz da)) := PE.imp h fun σ H Q q => by
  obtain ⟨W, ρ, r, G', hR, e1, p⟩ := q
  refine up_bnd hR e1 p fun d W1 v H1 x1 R1 r1 e2 p1 => ?_
  obtain ⟨t, e3, p3⟩ := up_lft e2 p1
  obtain ⟨W', eg, x', g', r'⟩ := frz_ok R1.gr r1 e3
  exact p3 W' v H1 eg x' g' r'
/-- .. the one in slot i, ahead of a statement -/
def sFrz (i : Nat) (s : En → M Out) : En → M Out := fun ρ => bnd (dV i ρ) fun d => bnd (lft (frzD d)) fun t => s (ρ.set i (some t))
theorem ts_frz {X : Cx} {We : WE'} {sts : List Stmt} {s : En → M Out} (i : Nat) (h : PSs X sts (ups (Cxp X) We s)) : PSs X sts (ups (Cxp X) We (sFrz i s)) := PSs.imp h fun D0 σ H q => by
  obtain ⟨W, ρ, r, G', hR, e1, p⟩ := q
  unfold sFrz dV at e1
  obtain ⟨d, G2, e2, e3⟩ := bnd_lft e1
  obtain ⟨e2, eg⟩ := pur_eq e2
  subst eg
  have e' : ρ[i]? = some (some d) := by
    revert e2
    split
    · rename_i d' he
      intro z; cases z; exact he
    · intro z; cases z
  obtain ⟨v, hv, rv⟩ := hR.var i d e'
  obtain ⟨t, G3, e4, e5⟩ := bnd_lft e3
  obtain ⟨W', eg', x', g', r'⟩ := frz_ok hR.gr rv e4
  have R' := (hR.keep g' x').set r' i
  have es : σ.set i (some v) = σ := by
    apply List.ext_getElem?
    intro j
    by_cases h : i = j
    · subst h
      rw [List.getElem?_set_self (List.getElem?_eq_some_iff.mp hv).1, hv]
    · rw [List.getElem?_set_ne h]
  rw [es] at R'
  exact ⟨W', _, r, G', R', by rw [eg']; exact e5, p.mono x'⟩
end Tw

namespace Tw
open PySem PySem.Spec PyProof.Rows L2 PySem.W PySem.Calls PySem.HandSPX
/-! ### a class of the program over ValueError, called with keywords -/
section
variable {M : Model} {prog : Program} {w : World} {A : Around} {E : Value → Shared → Prop} {R : Result → Shared → Prop} {hp : Heap} {ge : Array GenState} {dr : Drawn} {tk : Nat} {os : OsState}
variable {nm qn : Str} {C N : Addr} {bs tl : List Value} {sn : List Str} {sub : List Value} {ab : Bool} {col : Option Bool} {dd : Option Addr} {k0 k1 k2 k3 k5 : Option Value} {us : List Value} {kw : List (Str × Value)}
/-- the class's own line and its row of bases -/
abbrev XClass (hp : Heap) (nm qn : Str) (C N : Addr) (bs tl : List Value) (sn : List Str) (sub : List Value) (ab : Bool) (col : Option Bool) (dd : Option Addr) (k0 k1 k2 k3 k5 : Option Value) : Prop :=
  hp.get? C = some (excClassObj nm qn C N bs tl true sn sub ab col dd k0 k1 k2 k3 k5 "ValueError.__new__")
theorem xHas (r : refsVE tl = true) (c : String) (b : Bool) (e : veTail.contains (.type c) = b) : (Value.ref C :: tl).contains (.type c) = b := by
  rw [List.contains_cons, refsVE_contains c tl r, e]
  cases b <;> rfl
theorem xNewOk {Q : Unit → Shared → Prop} (r : refsVE tl = true) (o : XClass hp nm qn C N bs tl sn sub ab col dd k0 k1 k2 k3 k5) (q : Q () ⟨hp, ge, dr, tk, os⟩) :
    wpAny M A (checkBuiltinCall "ValueError.__new__" ⟨.ref C :: us, kw⟩) Q E ⟨hp, ge, dr, tk, os⟩ := by
  have fb := F.excBase_ValueError
  have z := xHas (C := C) r "ValueError" true (by decide +kernel)
  have st := fb.noStar
  simp only [checkBuiltinCall, fb.newKind, fb.newSplit, fb.newRow]
  repeat (first | refine wpAny_staticBase_exc o ?_ | refine wpAny_madeBy_exc o ?_ | refine wpAny_loadPart_at o ?_ | (refine wpAny_isSubtype_exc o ?_; rw [z]) | simp only [if_false, bne_self_eq_false, Bool.false_eq_true] | wp_step)
  exact q
/-- BaseException.__new__ looks at no keyword -/
theorem xNew (r : refsVE tl = true) (o : XClass hp nm qn C N bs tl sn sub ab col dd k0 k1 k2 k3 k5) (hl : us.length ≤ sizeLine)
    (q : R (.ok (.ret (.ref (hp.objs.size + 1)))) ⟨(hp.push (kdv_tup us)).push (excO C hp.objs.size), ge, dr, tk, os⟩) :
    codeAny (model prog w) A (.builtin "ValueError.__new__" ⟨.ref C :: us, kw⟩) R ⟨hp, ge, dr, tk, os⟩ := by
  have fb := F.excBase_ValueError
  have en := fb.ends
  have z1 := xHas (C := C) r "ValueError" true (by decide +kernel)
  have z2 := xHas (C := C) r "AttributeError" false (by decide +kernel)
  have z3 := xHas (C := C) r "NameError" false (by decide +kernel)
  apply codeAny_builtinAt fb.entry
  unfold Builtin.«BaseException.__new__»
  refine PySem.wpAt_bind ?_
  show PySem.wpAt _ _ _ (stack >>= _) _ _ _
  refine PySem.wpAt_bind (PySem.wpAt_stack fun below p => ?_)
  apply PySem.wpAt_of_wpAny
  wp_walk
  apply PySem.wpAt_of_wpAny
  rw [fb.owner]
  repeat (first | with_reducible refine wpAny_loadPart_at o ?_ | with_reducible refine wpAny_madeHere_exc fb.canon o ?_ | (with_reducible refine wpAny_isSubtype_exc o ?_; first | rw [z1] | rw [z2] | rw [z3]) | wp_step)
  show R _ _
  rw [Heap.size_push]
  exact q
theorem xType {fI : Addr} {Q : Fin → Shared → Prop} (r : refsVE tl = true) (o : XClass hp nm qn C N bs tl sn sub ab col dd k0 k1 k2 k3 k5) (hl : us.length ≤ sizeLine)
    (li : Looks (model prog w) hp (typeLookup (.ref C) "__init__") (some (.ref fI))) (lb : ∀ self, Looks (model prog w) hp (bindSpecial (.ref fI) self) (.ref fI, [self]))
    (q : codeAny (model prog w) A (.call (.ref fI) ⟨.ref (hp.objs.size + 1) :: us, kw⟩)
      (fun r s' => match r with | .error e => E e s' | .ok (.ret v) => v = .none ∧ Q (.done (.ret (.ref (hp.objs.size + 1)))) s' | .ok _ => False)
      ⟨(hp.push (kdv_tup us)).push (excO C hp.objs.size), ge, dr, tk, os⟩) :
    wpAny (model prog w) A (Builtin.«type.__call__» ⟨.ref C :: us, kw⟩) Q E ⟨hp, ge, dr, tk, os⟩ := by
  have fb := F.excBase_ValueError
  repeat (first | with_reducible refine wpAny_madeBy_exc o ?_ | with_reducible refine wpAny_loadPart_at o ?_ | wp_step)
  apply codeAny_call_builtin_code (Code.quiet_builtin _ fb.quiet)
  apply xNewOk r o
  apply xNew r o hl
  show wpAny _ _ _ _ _ _
  have kk : ∀ b u, hp.get? b = some u → ((hp.push (kdv_tup us)).push (excO C hp.objs.size)).get? b = some u := fun b u e =>
    Heap.get?_push_of_some _ (Heap.get?_push_of_some _ e)
  have o1 := kk _ _ o
  have eg : ((hp.push (kdv_tup us)).push (excO C hp.objs.size)).get? (hp.objs.size + 1) = some (excO C hp.objs.size) := by
    heap_get
  have me : (Value.ref C :: tl).contains (.ref C) = true := by simp
  unfold isInstance
  repeat (first | with_reducible refine wpAny_loadPart_at eg ?_ | (with_reducible refine wpAny_isSubtype_exc o1 ?_; rw [me]) | wp_step)
  show wpAny _ _ (typeLookup (.ref C) _) _ _ _
  apply (li.keeps kk).at
  apply wpAny_holding; apply wpAny_bind
  apply ((lb (.ref (hp.objs.size + 1))).keeps kk).at
  apply wpAny_bind; apply wpAny_call
  refine codeAny_mono q fun r s' y => ?_
  rcases r with e | (v | _ | _ | _) <;> first | exact y | exact y.elim | skip
  obtain ⟨rfl, y⟩ := y
  first
    | exact wpAny_pure (wpAny_pure y)
    | (wp_walk; exact y)
/-- C(.., f = ..): a fresh error, then the own __init__ -/
theorem xCall {fI : Addr} (r : refsVE tl = true) (o : XClass hp nm qn C N bs tl sn sub ab col dd k0 k1 k2 k3 k5) (hl : us.length ≤ sizeLine)
    (li : Looks (model prog w) hp (typeLookup (.ref C) "__init__") (some (.ref fI))) (lb : ∀ self, Looks (model prog w) hp (bindSpecial (.ref fI) self) (.ref fI, [self]))
    (q : codeAny (model prog w) (A.under (.builtin "type.__call__" ⟨.ref C :: us, kw⟩)) (.call (.ref fI) ⟨.ref (hp.objs.size + 1) :: us, kw⟩) (InitBack (hp.objs.size + 1) R)
      ⟨(hp.push (kdv_tup us)).push (excO C hp.objs.size), ge, dr, tk, os⟩) : codeAny (model prog w) A (.call (.ref C) ⟨us, kw⟩) R ⟨hp, ge, dr, tk, os⟩ := by
  have g1 := tc_lookup
  have g2 := tc_bind (.ref C)
  have ty : (⟨hp, ge, dr, tk, os⟩ : Shared).TypeIs (.ref C) "type" := ⟨_, o, rfl⟩
  apply codeAny_of_tree
  show wpAny _ _ (callAny (.ref C) _) _ _ _
  repeat (any_goals (first | with_reducible refine wpAny_loadPart_at o ?_ | assumption | wp_step))
  refine ⟨rfl, ?_⟩
  have ti : Looks (model prog w) hp (typeOf (.ref C)) (.type "type") := (Looks.ld o).andThen .now
  have isT : Looks (model prog w) hp (isInstance (.ref C) (.type "type")) true := ti.andThen (.of_pure tc_sub)
  apply codeAny_call_builtin_at (Code.quiet_builtin _ (by decide +kernel)) entry_typeCall
  refine check_slot tc_kind tc_split isT (tc_args _ _ _) ?_
  refine xType (E := fun e s' => R (.error e) s') r o hl li lb (codeAny_mono q fun r s' y => ?_)
  rcases r with e | (v | _ | _ | _) <;> exact y
end

/-! ### what the written part says of such a class -/
structure Xcl (K : Frag) (C : Addr) : Prop where
  o : OexC K C
  ga : findIn K (.ref C) "__getattribute__" = some (some (.builtin "BaseException.__getattribute__"))
  gg : findIn K (.ref C) "__getattr__" = some none
  hd : hasDictIn K C = true
  ha : findIn K (.ref C) "__class__" = some (some (.builtin "object.__class__"))
  hn : specialIn K (.builtin "object.__class__") "__get__" = some (some (.builtin "getset_descriptor.__get__"))
  ht : takesIn K (.builtin "object.__class__") = some true
  hm : mroIn K C (.type "object") = some true
def oexB (K : Frag) (C : Addr) : Bool := match K.lookup C with
  | some ⟨.type ty, _, .cls cd, sl⟩ => (match cd.mro, sl.toList with
    | .ref C2 :: tl, [_, _, _, _, some (.builtin mk), _] => ((decide (ty = "type") && decide (C2 = C)) && (decide (mk = "ValueError.__new__") && refsVE tl)) && (cd.hasDict && !cd.hasDel)
    | _, _ => false)
  | _ => false
theorem oexB_ok {K : Frag} {C : Addr} (q : oexB K C = true) : ∃ nm q N bs bm sn sub ab col dd k0 k1 k2 k3 k5, K.lookup C = some (excClassObj nm q C N bs bm true sn sub ab col dd k0 k1 k2 k3 k5 "ValueError.__new__") ∧ refsVE bm = true := by
  unfold oexB at q
  split at q
  · rename_i ty dd cd sl lk
    split at q
    · rename_i C2 tl a0 a1 a2 a3 mk a5 em es
      obtain ⟨q, qd⟩ := Bool.and_eq_true_iff.mp q
      obtain ⟨q1, q2⟩ := Bool.and_eq_true_iff.mp q
      obtain ⟨t1, t2⟩ := Bool.and_eq_true_iff.mp q1
      obtain ⟨t3, t4⟩ := Bool.and_eq_true_iff.mp q2
      obtain ⟨t5, t6⟩ := Bool.and_eq_true_iff.mp qd
      obtain rfl := of_decide_eq_true t1
      obtain rfl := of_decide_eq_true t2
      obtain rfl := of_decide_eq_true t3
      have dl : cd.hasDel = false := by simpa using t6
      obtain ⟨c0, c1, c2, c3, c4, c5, c6, c7, c8, c9, c10⟩ := cd
      cases dl; cases t5; cases em
      obtain ⟨sl⟩ := sl
      cases es
      exact ⟨_, _, _, _, _, _, _, _, _, _, _, _, _, _, _, lk, t4⟩
    · cases q
  · cases q
def xclB (K : Frag) (C : Addr) : Bool := [oexB K C, decide (findIn K (.ref C) "__setattr__" = some (some (.builtin "object.__setattr__"))), decide (subIn K (.ref C) (.type "BaseException") = some true), decide (typeIn K (.ref C) = some (.type "type")), keepIn K (.ref C),
  decide (findIn K (.ref C) "__getattribute__" = some (some (.builtin "BaseException.__getattribute__"))), decide (findIn K (.ref C) "__getattr__" = some none), hasDictIn K C, decide (findIn K (.ref C) "__class__" = some (some (.builtin "object.__class__"))),
  decide (specialIn K (.builtin "object.__class__") "__get__" = some (some (.builtin "getset_descriptor.__get__"))), decide (takesIn K (.builtin "object.__class__") = some true), decide (mroIn K C (.type "object") = some true)].all id
theorem xclB_ok {K : Frag} {C : Addr} (h : xclB K C = true) : Xcl K C := by
  unfold xclB at h
  simp only [List.all_cons, List.all_nil, id, Bool.and_true, Bool.and_eq_true, decide_eq_true_eq] at h
  obtain ⟨h1, h2, h3, h4, h5, h6, h7, h8, h9, h10, h11, h12⟩ := h
  exact ⟨⟨oexB_ok h1, h2, h3, h4, h5⟩, h6, h7, h8, h9, h10, h11, h12⟩

/-! ### such an error as a value, on the abstract heap -/
/-- what an __init__ that only stores its one argument promises -/
def spI (C : Addr) (f : Str) : Sp := fun vs H Q _ => ∃ (a : Addr) (v : V), vs = [.ref a, v] ∧ H a = some (exo a C none) ∧ ∀ dx, H dx = none → dx ≠ a → Q .non (upd (upd H dx (exd dx [(f, v)])) a (exo a C (some dx)))
theorem ok_init {P : Program} {w : World} {K : Frag} {mg : Str → Option Value} {base : Heap} {C fI : Addr} {fd : FuncData} {x qual f : Str} {params : Arguments} {scope : Scope} {q1 q2 q3 q4 : Pos} (T : OexC K C) (no : findIn K (.ref C) f = some none)
    (F : FunD K x qual params [.Assign [.Attribute (.Name "self" q1) f q2] (.Name f q3) q4] scope [] [] fI fd) (S : FnScope ["self", f] ["self", f] scope) (v0 : Vis scope "self") (v1 : Vis scope f) (d1 : (f == ("__debug__" : Str)) = false) (d2 : (f == ("__classdict__" : Str)) = false) :
    FnOk P w K mg base CX0 1 fI fd ["self", f] (spI C f) :=
  FunD.ok F S (fun vs H Q E ⟨a, v, e, _⟩ => by rw [e]; rfl) fun cdv A outer s H vs Q E hr h => by
    obtain ⟨a, v, rfl, ea, q⟩ := h
    refine ⟨_, pss_one (ps_ost (pe_var (i := 0) rfl v0) (pe_var (i := 1) rfl v1 d1 d2)), ?_⟩
    exact ⟨v, rfl, .ref a, rfl, a, C, rfl, T, no, .inl ⟨ea, fun dx n ne => q dx n ne⟩⟩
section
variable {X : Cx} {k n : Nat} {fI C : Addr} {fd : FuncData} {ps ks : List Str} {f c x : Str} {p pos : Pos} {e : Expr} {es : List Expr} {kws : List Keyword} {t tk : TA} {g : List Value → List Value → List Value} {gV : List V → List V → List V}
theorem run_x {sp : Sp} {pins : List (Addr × Obj)} {σ : L2.St} {H : Hp} {s : Shared} {Q : VK} {us ws : List Value} {vs zs : List V} (T : OexC X.K C) (iC : findIn X.K (.ref C) "__init__" = some (some (.ref fI))) (tI : typeIn X.K (.ref fI) = some (.type "function"))
    (F : FnOk X.prog X.w X.K X.mg X.base CX0 k fI fd ps sp) (hr : Room (k + 1) X.A) (hb : KBn X.K fd ps (n + 1) ks g gV) (I : Inv X pins σ H s) (r : Vals vs us) (rz : Vals zs ws) (l1 : vs.length = n) (l2 : zs.length = ks.length) (lm : vs.length ≤ 1000)
    (h : ∀ a, H a = none → sp (gV (.ref a :: vs) zs) (upd H a (exo a C none)) (fun v H2 => v = .non ∧ Q (.ref a) H2) (fun _ _ _ => False)) :
    wpAny (model X.prog X.w) X.A (call (.ref C) us (ks.zip ws)) (EP X pins σ Q) X.xe s := by
  obtain ⟨nm, q, N, bs, bm, sn, sub, ab, col, dd, k0, k1, k2, k3, k5, lc, rb⟩ := T.cls
  obtain ⟨hp, ge, dr, tt, os⟩ := s
  have big : hp.objs.size ≤ hp.objs.size + 1 := Nat.le_succ _
  have fresh : H (hp.objs.size + 1) = none := I.hok.fresh big
  have hq := h _ fresh
  have old : ∀ b u, hp.get? b = some u → ((hp.push (kdv_tup us)).push (excO C hp.objs.size)).get? b = some u := fun b u e =>
    Heap.get?_push_of_some _ (Heap.get?_push_of_some _ e)
  have this : ((hp.push (kdv_tup us)).push (excO C hp.objs.size)).get? (hp.objs.size + 1) = some (excO C hp.objs.size) := by
    heap_get
  have J : Inv X pins σ (upd H (hp.objs.size + 1) (exo (hp.objs.size + 1) C none)) ⟨(hp.push (kdv_tup us)).push (excO C hp.objs.size), ge, dr, tt, os⟩ :=
    I.laid (t' := tt) old big (exo_ok this)
  have ra : Vals (V.ref (hp.objs.size + 1) :: vs) (Value.ref (hp.objs.size + 1) :: us) := .cons rfl r
  have rr := hb.rel ra rz
  have lu : us.length ≤ sizeLine := by
    rw [← Paired.length r, sizeLine_eq]; omega
  have ln : (Value.ref (hp.objs.size + 1) :: us).length = n + 1 := by rw [List.length_cons, ← r.length, l1]
  refine wpAny_call (xCall rb (I.kIn _ _ lc) lu (looks_findIn I.kIn iC) (fun self => bind_fn I.kIn self tI) (codeAny_mono (F.run _ X.stack _ _ _ (g (Value.ref (hp.objs.size + 1) :: us) ws) _ _ (fun _ _ _ => False)
    (hr.make C us (ks.zip ws)) (J.env0.make C us (ks.zip ws)) (hb.to _ _ ws J.kIn ln (rz.length.symm.trans l2)) rr hq) fun r s' hq' => ?_))
  cases r with
  | error er => exact pass0 pins σ _ _ er s' J hq'
  | ok fl =>
    cases fl with
    | ret u =>
      obtain ⟨v, H2, J2, rv, ev, q2⟩ := J.after hq'
      subst ev
      exact ⟨rv, .ref (hp.objs.size + 1), H2, J2, rfl, q2⟩
    | _ => exact False.elim hq'
/-- c(e, ..) -/
def tMkX (sp : Sp) (C : Addr) (n m : Nat) (gV : List V → List V → List V) (t tk : TA) : TE := fun σ H Q => t σ H fun vs H1 => tk σ H1 fun zs H2 => vs.length = n ∧ zs.length = m ∧ n ≤ 1000 ∧ ∀ a, H2 a = none → sp (gV (.ref a :: vs) zs) (upd H2 a (exo a C none)) (fun v H3 => v = .non ∧ Q (.ref a) H3) (fun _ _ _ => False)
theorem pe_mkx {sp : Sp} (T : OexC X.K C) (iC : findIn X.K (.ref C) "__init__" = some (some (.ref fI))) (tI : typeIn X.K (.ref fI) = some (.type "function")) (F : FnOk X.prog X.w X.K X.mg X.base CX0 k fI fd ps sp) (hr : Room (k + 1) X.A) (hb : KBn X.K fd ps (n + 1) [] g gV)
    (hg : Gl X x) (hm : X.mg x = some (.ref C)) (ha : PA X (e :: es) t) (hdb : (x == ("__debug__" : Str)) = false := by decide) (he : starEach (e :: es) X.env = (false, eval e X.env) :: starEach es X.env := by rfl) (hpl : (backTo pos (starEach es X.env)).any (·.1) = false := by rfl) :
    PE X (.Call (.Name x p) (e :: es) [] pos) (tMkX sp C n 0 gV t tNil) := by
  refine ⟨fun pins s σ H Q I h => wpAny_Call_Name_kw (ld_glob I hg hm ?_ hdb)⟩
  refine callWith_K (h₀ := X.base) I.ok.mod.kin T.kC (thn (ha.run pos pins s σ H _ I h) fun us s1 hh => ?_) he hpl
  obtain ⟨vs, H1, I1, r1, l1, l2, lm, q1⟩ := hh
  exact ⟨I1.kIn, run_x (ks := []) (ws := []) (zs := []) T iC tI F hr hb I1 r1 .nil l1 l2 (by omega) q1⟩
/-- c(f = e) -/
theorem pe_mkxk {sp : Sp} (T : OexC X.K C) (iC : findIn X.K (.ref C) "__init__" = some (some (.ref fI))) (tI : typeIn X.K (.ref fI) = some (.type "function")) (F : FnOk X.prog X.w X.K X.mg X.base CX0 k fI fd ps sp) (hr : Room (k + 1) X.A) (hb : KBn X.K fd ps 1 ks g gV)
    (hg : Gl X x) (hm : X.mg x = some (.ref C)) (ha : PK X kws tk) (hall : (backToKw pos (keywordEach kws X.env)).all (·.1.isSome) = true := by rfl) (hks : (backToKw pos (keywordEach kws X.env)).filterMap (·.1) = ks := by rfl) (hdb : (x == ("__debug__" : Str)) = false := by decide)
    (hpl : ((backTo pos (starEach [] X.env)).any (·.1) || (backToKw pos (keywordEach kws X.env)).any (·.1.isNone)) = false := by rfl) :
    PE X (.Call (.Name x p) [] kws pos) (tMkX sp C 0 ks.length gV tNil tk) := by
  refine ⟨fun pins s σ H Q I h => wpAny_Call_Name_kw (ld_glob I hg hm ?_ hdb)⟩
  refine callWith_KW0 (h₀ := X.base) I.ok.mod.kin T.kC hall (thn (ha.run pos pins s σ H _ I h) fun ws s1 hh => ?_) hpl
  obtain ⟨zs, H1, I1, r1, l1, l2, lm, q1⟩ := hh
  refine ⟨I1.kIn, ?_⟩
  rw [hks]
  exact run_x (us := []) (vs := []) T iC tI F hr hb I1 .nil r1 rfl l2 (by simp) q1
/-- c(), no __init__ of its own -/
theorem pe_mkx0 (T : Xcl X.K C) (q : excIn X.K C He.veBase "ValueError.__new__" = true) (hg : Gl X x) (hm : X.mg x = some (.ref C)) (hdb : (x == ("__debug__" : Str)) = false := by decide) :
    PE X (.Call (.Name x p) [] [] pos) (fun σ H Q => ∀ a, H a = none → Q (.ref a) (upd H a (ExO (.ref C) a))) := by
  refine ⟨fun pins s σ H Q I h => wpAny_Call_Name_kw (ld_glob I hg hm ?_ hdb)⟩
  refine callWith_K0 I.kIn T.o.kC ?_
  obtain ⟨hp, ge, dr, tt, os⟩ := s
  obtain ⟨tl, N, nm, qn, bs, hdct, sn, sub, ab, col, dd, k0, k1, k2, k3, k5, mN, o, hN, no, ot⟩ := exc_obj I.kIn q
  refine wpAny_call_exc_subT F.excBase_ValueError ot o hN no (fun h' a hm => ?_) (by show 0 ≤ sizeLine; exact Nat.zero_le _)
  have fresh : H a = none := I.hok.gone hm.new
  obtain ⟨tu, there, _, _⟩ := hm.there
  exact ⟨.ref a, _, I.laidN hm.keeps hm.new fresh (exO_ok there ⟨rfl, rfl⟩ rfl rfl rfl (show 4 < 6 by decide)), rfl, h a fresh⟩
/-- e.f of such an error -/
theorem pe_atx {te : TE} {f : Str} (he : PE X e te) (hb : attributeBase e f X.env (eval e X.env) = eval e X.env := by rfl) :
    PE X (.Attribute e f pos) (fun σ H Q => te σ H fun x H1 => ∃ (a C dx : Addr) (v : V), x = .ref a ∧ Xcl X.K C ∧ findIn X.K (.ref C) f = some none ∧ H1 a = some (exo a C (some dx)) ∧ H1 dx = some (exd dx [(f, v)]) ∧ Q v H1) := by
  refine ⟨fun pins s σ H Q I h => attr_of hb (thn (he.run pins s σ H _ I h) fun u s1 hh => ?_)⟩
  obtain ⟨x, H1, I1, rx, a, C, dx, v, rfl, T, no, ea, ed, q⟩ := hh
  cases rx
  obtain ⟨t1, ho⟩ := exo_at I1.hok ea
  obtain ⟨mA, ns, rl⟩ := exd_at I1.hok ed
  obtain ⟨od, hd, lk⟩ := lookIn_ns ns
  have l1 : List.lookup f [(f, v)] = some v := by simp [List.lookup]
  obtain ⟨u, eu, ru⟩ := RelO.some_of (v := v) (o := mA f) (by rw [← l1]; exact rl f)
  have J : InstAt s1.heap a _ C (some od) := ⟨ho, rfl, rfl, hd⟩
  exact exc_get I1.kIn J T.ga T.gg T.o.exC (findObj_own T.hd no rfl (by rw [lk, eu])) (handed_of ru) ⟨v, H1, I1.tok _, ru, q⟩
/-- isinstance(x, c), x such an error -/
def rIsX (K : Frag) : List V → Hp → VK → Prop := fun xs H Q => ∃ (a C : Addr) (c : V) (u : Value) (b : Bool), xs = [.ref a, c] ∧ ClsV c u ∧ Xcl K C ∧ (H a = some (ExO (.ref C) a) ∨ ∃ dx fs, H a = some (exo a C (some dx)) ∧ H dx = some (exd dx fs)) ∧ kitOne K (.ref C) u = some b ∧ Q (.bl b) H
theorem call_isX : CallR X (.builtin "isinstance") (rIsX X.K) := by
  intro pins s σ H xs us Q I r h
  obtain ⟨a, C, c, u, b, rfl, cv, T, obj, ek, q⟩ := h
  obtain ⟨u1, u2, rfl, r1, r2⟩ := vals2 r
  obtain rfl := cv.eq r2
  cases r1
  have J : ∃ o od, InstAt s.heap a o C od := by
    rcases obj with z | ⟨dx, fs, z, zd⟩
    · obtain ⟨⟨oe, vs, ho, hz, hd, _⟩, _⟩ := I.hok a _ z
      obtain ⟨oc, od, oda, osl⟩ := oe
      obtain ⟨z1, z2⟩ := hz
      dsimp only at z1 z2 hd
      subst z1 z2 hd
      exact ⟨_, none, ho, rfl, rfl, trivial⟩
    · obtain ⟨t1, ho⟩ := exo_at I.hok z
      obtain ⟨mA, ns, rl⟩ := exd_at I.hok zd
      obtain ⟨od, hd, lk⟩ := lookIn_ns ns
      exact ⟨_, some od, ho, rfl, rfl, hd⟩
  obtain ⟨o, od, J⟩ := J
  have cl : (clsIn X.K C).isSome = true := by
    obtain ⟨cd, hc, _⟩ := any_some T.hd
    rw [hc]; rfl
  exact kia_one (kitx_exc (od := od) cl T.ga T.gg T.o.exC T.ha T.hn T.ht T.hm) I.kIn J ek (fun z => nomatch z) fun tk => ⟨.bl b, H, I.tok tk, rfl, q⟩
end
end Tw

namespace Tw
open PySem PySem.Spec PyProof.Rows L2

/-! ### binding of self and one more -/
section
variable {K : PySem.W.Frag} {x qual f : Str} {params : Arguments} {body : List Stmt} {scope : Scope} {fI : Addr} {fd : FuncData}
theorem kb_pos (F : FunD K x qual params body scope [] [] fI fd) (h : ∀ (kV doc pm : Value) (an : Option Addr) (cdv ct a b : Value), bindArgs (PySem.W.fnOf x qual params body scope .none kV doc pm an cdv ct) ⟨[a, b], []⟩ = pure [(("self" : Str), a), (f, b)]) :
    KBn K fd ["self", f] 2 [] (fun us _ => us) (fun vs _ => vs) :=
  ⟨fun s us ws X l1 l2 => FunD.bindsA (ps := ["self", f]) F (fun kV doc pm an cdv ct us hl => match us, hl with | [a, b], _ => h kV doc pm an cdv ct a b) s us l1, fun r _ => r⟩
theorem kb_kw (F : FunD K x qual params body scope [] [] fI fd) (h : ∀ (kV doc pm : Value) (an : Option Addr) (cdv ct a b : Value), bindArgs (PySem.W.fnOf x qual params body scope .none kV doc pm an cdv ct) ⟨[a], [(f, b)]⟩ = pure [(("self" : Str), a), (f, b)]) :
    KBn K fd ["self", f] 1 [f] (fun us ws => us ++ ws) (fun vs zs => vs ++ zs) := by
  refine ⟨fun s us ws X l1 l2 => ?_, fun r1 r2 => r1.append r2⟩
  obtain ⟨oc, od, dV, kV, doc, pm, an, cdv, ct, osl, rfl, lk, hcd, hD, hK⟩ := F.ex
  rcases hD with ⟨_, rfl⟩ | ⟨e, _⟩
  · match us, ws, l1, l2 with
    | [a], [b], _, _ => exact BindsTo.of_looks fun M => .of_pure (h kV doc pm an cdv ct a b)
  · exact absurd rfl e
end
/-- what is needed to make c(e), c(f = e) -/
structure XM (P : Program) (w : World) (K : PySem.W.Frag) (mg : Str → Option Value) (base : Heap) (c f : Str) : Prop where
  ex : ∃ (C fI : Addr) (fd : FuncData), mg c = some (.ref C) ∧ OexC K C ∧ PySem.W.findIn K (.ref C) "__init__" = some (some (.ref fI)) ∧ PySem.W.typeIn K (.ref fI) = some (.type "function") ∧ FnOk P w K mg base CX0 1 fI fd ["self", f] (spI C f) ∧
    KBn K fd ["self", f] 2 [] (fun us _ => us) (fun vs _ => vs) ∧ KBn K fd ["self", f] 1 [f] (fun us ws => us ++ ws) (fun vs zs => vs ++ zs)
def dX1 (c f : Str) (a : En → M D) : En → M D := fun ρ => bnd (a ρ) fun d => ret (.exf c f d)
def dX0 (c : Str) : En → M D := fun _ => ret (.exc c)
section
variable {X : Cx} {We : WE'} {c f : Str} {p pos kpos : Pos} {e : Expr} {da : En → M D}
theorem x1_new {W : Wd} {H : Hp} {v : V} {d : D} {a C dx : Addr} (hm : X.mg c = some (.ref C)) (g : Gr (Cxp X) W H) (r : Rv (Cxp X) W H v d) (n : H a = none) (nd : upd H a (exo a C none) dx = none) (ne : dx ≠ a) :
    ∃ H', upd (upd (upd H a (exo a C none)) dx (exd dx [(f, v)])) a (exo a C (some dx)) = H' ∧ Gr (Cxp X) W H' ∧ Ext W H W H' ∧ Rv (Cxp X) W H' (.ref a) (.exf c f d) := by
  rw [upd_ne ne] at nd
  have na : upd H dx (exd dx [(f, v)]) a = none := by rw [upd_ne (Ne.symm ne)]; exact n
  refine ⟨upd (upd H dx (exd dx [(f, v)])) a (exo a C (some dx)), ?_, (g.laid nd).laid na, (Ext.laid nd).trans (Ext.laid na), ?_⟩
  · funext b
    by_cases e : b = a
    · rw [e, upd_same, upd_same]
    · rw [upd_ne e, upd_ne e]
      by_cases e2 : b = dx
      · rw [e2, upd_same, upd_same]
      · rw [upd_ne e2, upd_ne e2, upd_ne e]
  · exact .exf hm upd_same (fresh_L g n) (by rw [upd_ne ne]; exact upd_same) (fresh_L g nd) ((r.keep g (Ext.laid nd)).keep (g.laid nd) (Ext.laid na))
theorem x1_up {C : Addr} (hm : X.mg c = some (.ref C)) {σ : L2.St} {H : Hp} {Q : VK} (h : upE (Cxp X) We (dX1 c f da) σ H Q) :
    upE (Cxp X) We da σ H fun v H1 => ∀ a, H1 a = none → spI C f [.ref a, v] (upd H1 a (exo a C none)) (fun v H3 => v = .non ∧ Q (.ref a) H3) (fun _ _ _ => False) := by
  obtain ⟨W, ρ, r, G', hR, e, p⟩ := h
  refine up_bnd hR e p fun d W1 v H1 x1 R1 r1 e1 p1 => ?_
  refine fun a n => ⟨a, v, rfl, upd_same, fun dx nd ne => ⟨rfl, ?_⟩⟩
  obtain ⟨H', eh, g, x, rv⟩ := x1_new (f := f) hm R1.gr r1 n nd ne
  rw [eh]
  exact up_ret e1 p1 W1 _ H' rfl x g rv
theorem te_x1 (T : XM X.prog X.w X.K X.mg X.base c f) (hr : Room 2 X.A) (hg : Gl X c) (ha : PE X e (upE (Cxp X) We da)) (hdb : (c == ("__debug__" : Str)) = false := by decide) (he : starEach (e :: []) X.env = (false, eval e X.env) :: starEach [] X.env := by rfl) (hpl : (backTo pos (starEach [] X.env)).any (·.1) = false := by rfl) :
    PE X (.Call (.Name c p) [e] [] pos) (upE (Cxp X) We (dX1 c f da)) := by
  obtain ⟨C, fI, fd, hm, O, iC, tI, F, b1, b2⟩ := T.ex
  refine PE.imp (pe_mkx (n := 1) O iC tI F hr b1 hg hm (pa_cons ha pa_nil he) hdb he hpl) fun σ H Q h => ?_
  obtain ⟨W, ρ, r, G', hR, e1, p1⟩ := x1_up (f := f) hm h
  refine ⟨W, ρ, r, G', hR, e1, ?_⟩
  cases r with
  | inr d => exact fun W' v H' eg x g rv => ⟨rfl, rfl, by decide, p1 W' v H' eg x g rv⟩
  | inl er => exact p1
theorem te_xk (T : XM X.prog X.w X.K X.mg X.base c f) (hr : Room 2 X.A) (hg : Gl X c) (ha : PE X e (upE (Cxp X) We da)) (hdb : (c == ("__debug__" : Str)) = false := by decide) (hall : (backToKw pos (keywordEach [⟨some f, e, kpos⟩] X.env)).all (·.1.isSome) = true := by rfl) (hks : (backToKw pos (keywordEach [⟨some f, e, kpos⟩] X.env)).filterMap (·.1) = [f] := by rfl)
    (hpl : ((backTo pos (starEach [] X.env)).any (·.1) || (backToKw pos (keywordEach [⟨some f, e, kpos⟩] X.env)).any (·.1.isNone)) = false := by rfl) :
    PE X (.Call (.Name c p) [] [⟨some f, e, kpos⟩] pos) (upE (Cxp X) We (dX1 c f da)) := by
  obtain ⟨C, fI, fd, hm, O, iC, tI, F, b1, b2⟩ := T.ex
  refine PE.imp (pe_mkxk (ks := [f]) O iC tI F hr b2 hg hm (pk_cons ha pk_nil) hall hks hdb hpl) fun σ H Q h => ?_
  obtain ⟨W, ρ, r, G', hR, e1, p1⟩ := x1_up (f := f) hm h
  refine ⟨W, ρ, r, G', hR, e1, ?_⟩
  cases r with
  | inr d => exact fun W' v H' eg x g rv => ⟨rfl, rfl, by decide, p1 W' v H' eg x g rv⟩
  | inl er => exact p1
theorem te_x0 {C : Addr} (T : Xcl X.K C) (q : PySem.W.excIn X.K C He.veBase "ValueError.__new__" = true) (hg : Gl X c) (hm : X.mg c = some (.ref C)) (hdb : (c == ("__debug__" : Str)) = false := by decide) :
    PE X (.Call (.Name c p) [] [] pos) (upE (Cxp X) We (dX0 c)) := PE.imp (pe_mkx0 T q hg hm hdb) fun σ H Q h => by
  obtain ⟨W, ρ, r, G', hR, e, p⟩ := h
  intro a n
  exact up_ret e p W _ _ rfl (Ext.laid n) (hR.gr.laid n) (.exc hm upd_same (fresh_L hR.gr n))
/-- a class of the program as a value -/
theorem te_cls {C : Addr} (hg : Gl X c) (hm : X.mg c = some (.ref C)) (hd : (c == ("__debug__" : Str)) = false := by decide) : PE X (.Name c pos) (upE (Cxp X) We (dC (.cls c))) :=
  PE.imp (pe_glob (v := .ref C) hg hm rfl hd) fun _ _ _ h => up_const (fun _ _ => .cls hm) h
theorem te_bty {n : String} (hg : Gl X c) (hm : X.mg c = none) (hv : bootBuiltins c = some (.type n)) (hn : c ≠ "__name__" := by decide) (hd : (c == ("__debug__" : Str)) = false := by decide) : PE X (.Name c pos) (upE (Cxp X) We (dC (.ty n))) :=
  PE.imp (pe_bltn (v := .ty n) hg hm hv rfl hn hd) fun _ _ _ h => up_const (fun _ _ => .ty n) h
/-- e.f; tab: the classes whose errors may be asked -/
def attO (tab : List Str) (f : Str) : D → Option D
  | .exf c g x => if (tab.contains c && g == f) = true then some x else none
  | _ => none
def dAt (tab : List Str) (f : Str) (a : En → M D) : En → M D := fun ρ => bnd (a ρ) fun d => lft (pur (attO tab f d))
def XAt (K : PySem.W.Frag) (mg : Str → Option Value) (tab : List Str) (f : Str) : Prop := ∀ c ∈ tab, ∃ C, mg c = some (.ref C) ∧ Xcl K C ∧ PySem.W.findIn K (.ref C) f = some none
theorem te_at {tab : List Str} (T : XAt X.K X.mg tab f) (he : PE X e (upE (Cxp X) We da)) (hb : attributeBase e f X.env (eval e X.env) = eval e X.env := by rfl) : PE X (.Attribute e f pos) (upE (Cxp X) We (dAt tab f da)) := PE.imp (pe_atx he hb) fun σ H Q h => by
  obtain ⟨W, ρ, r, G', hR, e, p⟩ := h
  refine up_bnd hR e p fun d W1 v H1 x1 R1 r1 e1 p1 => ?_
  obtain ⟨d2, e2, p2⟩ := up_lft e1 p1
  obtain ⟨e2, eg⟩ := pur_eq e2
  unfold attO at e2
  split at e2
  · rename_i c2 g2 y
    split at e2
    · rename_i hc
      obtain ⟨hc, hf⟩ := Bool.and_eq_true_iff.mp hc
      have hf := beq_iff_eq.mp hf
      subst hf
      cases e2
      cases r1 with
      | exf hm ea na ed nd rv =>
        obtain ⟨C, hm2, xc, no⟩ := T _ (by simpa using hc)
        cases (hm2.symm.trans hm)
        exact ⟨_, _, _, _, rfl, xc, no, ea, ed, p2 W1 _ H1 eg.symm Ext.refl R1.gr rv⟩
    · cases e2
  · cases e2
end
/-- isinstance(x, c), x such an error; tab tells the answers -/
def isxF (tab : Str → D → Option Bool) : List D → P1 D := fun ds G => match ds with
  | [.exc c, k] => (tab c k).map fun b => (.bl b, G)
  | [.exf c _ _, k] => (tab c k).map fun b => (.bl b, G)
  | _ => none
def XIs (K : PySem.W.Frag) (mg : Str → Option Value) (tab : Str → D → Option Bool) : Prop := ∀ (c : Str) (k : D) (b : Bool), tab c k = some b → ∃ C, mg c = some (.ref C) ∧ Xcl K C ∧ match k with
  | .cls m => ∃ E, mg m = some (.ref E) ∧ PySem.W.kitOne K (.ref C) (.ref E) = some b
  | .ty n => PySem.W.kitOne K (.ref C) (.type n) = some b
  | _ => False
theorem cd_isx {K : Pm} {tab : Str → D → Option Bool} (T : XIs K.K K.mg tab) : CallD K (rIsX K.K) (isxF tab) := fun W H vs ds d G' Q g r e p => by
  have key : ∀ {c : Str} {k : D} {b : Bool} {a C : Addr} {v : V}, tab c k = some b → K.mg c = some (.ref C) → (H a = some (ExO (.ref C) a) ∨ ∃ dx fs, H a = some (exo a C (some dx)) ∧ H dx = some (exd dx fs)) → Rv K W H v k → Q (.bl b) H → rIsX K.K [.ref a, v] H Q := by
    intro c k b a C v ht hm ho rk q
    obtain ⟨C2, hm2, xc, z⟩ := T c k b ht
    rw [hm] at hm2
    cases hm2
    cases k with
    | cls m =>
      obtain ⟨E, hE, kk⟩ := z
      cases rk with
      | cls h =>
        rw [hE] at h
        cases h
        exact ⟨a, C, _, _, b, rfl, .own E, xc, ho, kk, q⟩
    | ty n =>
      cases rk
      exact ⟨a, C, _, _, b, rfl, .ty n, xc, ho, z, q⟩
    | _ => exact z.elim
  unfold isxF at e
  split at e
  · rename_i c k
    cases ht : tab c k with
    | none => rw [ht] at e; cases e
    | some b =>
      rw [ht] at e; cases e
      cases r with
      | cons h r => cases r with
        | cons h2 r =>
          cases r
          cases h with
          | exc hm ea na => exact key ht hm (.inl ea) h2 (p W _ H rfl Ext.refl g (.bl b))
  · rename_i c f x k
    cases ht : tab c k with
    | none => rw [ht] at e; cases e
    | some b =>
      rw [ht] at e; cases e
      cases r with
      | cons h r => cases r with
        | cons h2 r =>
          cases r
          cases h with
          | exf hm ea na ed nd rv => exact key ht hm (.inr ⟨_, _, ea, ed⟩) h2 (p W _ H rfl Ext.refl g (.bl b))
  · cases e
end Tw

namespace Tw
open PySem PySem.Spec PyProof.Rows L2

/-! ### an object handed over for good: the callee sees it alone -/
def mvD (n : Nat) : D → Option D
  | .ref m => if m = n then some (.ref 0) else none
  | d => if noR d = true then some d else none
def mvDs (n : Nat) : List D → Option (List D)
  | [] => some []
  | d :: r => match mvD n d, mvDs n r with
    | some e, some s => some (e :: s)
    | _, _ => none
def refN : List D → Option Nat
  | [] => none
  | .ref n :: _ => some n
  | _ :: r => refN r
def movF (F : List D → M D) (ds : List D) : M D := fun G => match refN ds with
  | some n => match G[n]?, mvDs n ds with
    | some (.lst xs), some es => if noRs xs = true then match F es [.lst xs] with
        | some (.inr d, _) => if noR d = true then some (.inr d, G.set n .gone) else none
        | _ => none
      else none
    | _, _ => none
  | none => none
def dFm (F : List D → M D) (a : En → M (List D)) : En → M D := fun ρ => bnd (a ρ) fun ds => movF F ds
open Classical in
noncomputable def Wd.solo (W : Wd) (a : Addr) (o : O) : Wd := ⟨[a], [o], W.B ++ W.α.filter fun b => decide (live W b ∧ b ≠ a)⟩
section
variable {K : Pm} {W : Wd} {H : Hp} {a : Addr} {o : O} {n : Nat}
theorem solo_live (ho : o ≠ .gone) {b : Addr} : live (W.solo a o) b ↔ b = a := by
  constructor
  · rintro ⟨m, u, h1, h2, _⟩
    have h1' : ([a] : List Addr)[m]? = some b := h1
    cases m with
    | zero => simp at h1'; exact h1'.symm
    | succ m => simp at h1'
  · rintro rfl
    exact ⟨0, o, rfl, rfl, ho⟩
theorem solo_B {b : Addr} : b ∈ (W.solo a o).B ↔ b ∈ W.B ∨ (live W b ∧ b ≠ a) := by
  unfold Wd.solo
  simp only [List.mem_append, List.mem_filter, decide_eq_true_eq]
  constructor
  · rintro (h | ⟨_, h⟩)
    · exact .inl h
    · exact .inr h
  · rintro (h | h)
    · exact .inl h
    · exact .inr ⟨live_α h.1, h⟩
theorem solo_L (ho : o ≠ .gone) (la : live W a) {b : Addr} : L (W.solo a o) b ↔ L W b := by
  unfold L
  rw [solo_live ho, solo_B]
  constructor
  · rintro (rfl | h | h)
    · exact .inl la
    · exact .inr h
    · exact .inl h.1
  · rintro (h | h)
    · by_cases e : b = a
      · exact .inl e
      · exact .inr (.inr ⟨h, e⟩)
    · exact .inr (.inl h)
theorem mv_one (ho : o ≠ .gone) (la : live W a) (ha : W.α[n]? = some a) {v : V} {d e : D} (q : mvD n d = some e) (h : Rv K W H v d) : Rv K (W.solo a o) H v e := by
  unfold mvD at q
  split at q
  · split at q
    · rename_i en
      cases q
      subst en
      cases h with
      | ref hm =>
        rw [ha] at hm
        cases hm
        exact .ref rfl
    · cases q
  · split at q
    · rename_i en
      cases q
      exact Dr.nr (fun b l => (solo_L ho la).mp l) en h
    · cases q
theorem mv_rel (ho : o ≠ .gone) (la : live W a) (ha : W.α[n]? = some a) : ∀ (ds : List D) {vs : List V} {es : List D}, mvDs n ds = some es → Rvs K W H vs ds → Rvs K (W.solo a o) H vs es
  | [], vs, es, e, h => by
    cases h
    cases e
    exact .nil
  | d :: ds, vs, es, e, h => by
    cases h with
    | cons h r =>
      rw [mvDs] at e
      cases q : mvD n d with
      | none => rw [q] at e; cases e
      | some d2 =>
        cases q2 : mvDs n ds with
        | none => rw [q, q2] at e; cases e
        | some e2 =>
          rw [q, q2] at e
          cases e
          exact .cons (mv_one ho la ha q h) (mv_rel ho la ha ds q2 r)
end
section
variable {K : Pm} {We : WE'} {n : Nat} {F : List D → M D} {da : En → M (List D)} {σ : L2.St} {H : Hp} {Q : VK}
theorem dFm_up (hl : LenA n da) (h : upE K We (dFm F da) σ H Q) : upA K We da σ H (fun vs H1 => spF K Xo0 n F vs H1 Q E0) := by
  obtain ⟨W, ρ, r, G', hR, e, p⟩ := h
  unfold dFm bnd at e
  split at e
  · rename_i ds G1 he
    refine ⟨W, ρ, .inr ds, G1, hR, he, fun W1 vs H1 eg x1 g1 r1 => ?_⟩
    unfold movF at e
    dsimp only at e
    split at e
    · rename_i m hm
      split at e
      · rename_i xs es hx hes
        split at e
        · rename_i hnr
          split at e
          · rename_i d J hf
            split at e
            · rename_i hd
              cases e
              subst eg
              obtain ⟨a, ha⟩ : ∃ a, W1.α[m]? = some a := by
                have lt : m < W1.α.length := by rw [g1.len]; exact (List.getElem?_eq_some_iff.mp hx).1
                exact ⟨_, List.getElem?_eq_getElem lt⟩
              have ng : O.lst xs ≠ .gone := fun z => nomatch z
              have la : live W1 a := ⟨m, _, ha, hx, ng⟩
              have lvS : ∀ b, live (W1.solo a (.lst xs)) b ↔ b = a := fun b => solo_live ng
              have gS : Gr K (W1.solo a (.lst xs)) H1 := by
                refine ⟨rfl, by simp [Wd.solo], fun b hb => ?_, fun b hb => ?_, fun b hb => ?_, fun j b o' h1 h2 => ?_⟩
                · have z : b ≠ a := by
                    rcases solo_B.mp hb with q | q
                    · exact fun z => g1.dis b q (by rw [z]; exact live_α la)
                    · exact q.2
                  show b ∉ [a]
                  simpa using z
                · have z : b ∈ [a] := hb
                  have z : b = a := by simpa using z
                  rw [z]; exact g1.thA a (live_α la)
                · rcases solo_B.mp hb with q | q
                  · exact g1.thB b q
                  · exact g1.thA b (live_α q.1)
                · have h1' : ([a] : List Addr)[j]? = some b := h1
                  have h2' : ([O.lst xs] : List O)[j]? = some o' := h2
                  cases j with
                  | zero =>
                    simp at h1' h2'
                    subst h1' h2'
                    obtain ⟨us, hh, rr⟩ := g1.obj m a _ ha hx
                    exact ⟨us, hh, Drs.nr (fun b l => (solo_L ng la).mp l) hnr rr⟩
                  | succ j => simp at h1'
              refine ⟨by rw [r1.length]; exact hl ρ _ _ _ he, W1.solo a (.lst xs), es, .inr d, J, gS, mv_rel ng la ha ds hes r1, hf, fun W' v H' _ x' g' r' => ?_⟩
              have xC : Ext W1 H1 (W1.put m .gone) H' := by
                refine ⟨fun _ h => h, fun _ h => .inl h, x'.th, ⟨[], by simp [Wd.put]⟩, fun b u hb nl => ⟨(x'.keep b u hb fun l => nl (by rw [(lvS b).mp l]; exact la)).1, fun l => nl (live_put hx ng l)⟩, x'.tup⟩
              have ne : ∀ b, live (W1.put m .gone) b → live W1 b ∧ b ≠ a := fun b l => ⟨live_put hx ng l, fun z => not_L_drop g1 ha (.inl (by rw [← z]; exact l))⟩
              have gC : Gr K (W1.put m .gone) H' := by
                refine ⟨by simp [Wd.put, g1.len], g1.nd, g1.dis, fun b hb => x'.th b (g1.thA b hb), fun b hb => x'.th b (g1.thB b hb), fun j b u h1 h2 => ?_⟩
                have h1' : W1.α[j]? = some b := h1
                have h2' : (W1.G.set m .gone)[j]? = some u := h2
                by_cases ej : m = j
                · subst ej
                  rw [List.getElem?_set_self (List.getElem?_eq_some_iff.mp hx).1] at h2'
                  cases h2'
                  exact True.intro
                · rw [List.getElem?_set_ne ej] at h2'
                  by_cases eu : u = .gone
                  · subst eu; exact True.intro
                  · have lb : live W1 b := ⟨j, u, h1', h2', eu⟩
                    have nb : b ≠ a := fun z => ej (g1.one ha (by rw [← z]; exact h1'))
                    obtain ⟨hb, eb, _⟩ := g1.lv lb
                    exact (g1.obj j b u h1' h2').keep g1 xC (by rw [eb]; exact (x'.keep b hb eb fun l => nb ((lvS b).mp l)).1)
              refine p (W1.put m .gone) v H' rfl (x1.trans xC) gC (Dr.nr (fun b l => ?_) hd r')
              rcases l with l | l
              · exact .inr (x'.b b (solo_B.mpr (.inr (ne b l))))
              · exact .inr (x'.b b (solo_B.mpr (.inl l)))
            · cases e
          · cases e
        · cases e
      · cases e
    · cases e
  · rename_i er G1 he
    cases e
    exact ⟨W, ρ, .inl er, _, hR, he, p⟩
  · cases e
end

/-! ### a def that is called by its name -/
structure Cal (P : Program) (w : World) (K : PySem.W.Frag) (mg : Str → Option Value) (base : Heap) (k : Nat) (x : Str) (n : Nat) (F : List D → M D) : Prop where
  ex : ∃ (f : Addr) (fd : FuncData) (ps : List Str), mg x = some (.ref f) ∧ FnOk P w K mg base CX0 k f fd ps (spF ⟨K, P, w, mg⟩ Xo0 n F) ∧ PySem.W.keepIn K (.ref f) = true ∧ Binds K fd ps []
theorem te_c {X : Cx} {We : WE'} {k n : Nat} {F : List D → M D} {x : Str} {p pos : Pos} {e : Expr} {es : List Expr} {da : En → M (List D)} {dF' : En → M D} (T : Cal X.prog X.w X.K X.mg X.base k x n F)
    (up : ∀ {σ : L2.St} {H : Hp} {Q : VK}, upE (Cxp X) We dF' σ H Q → upA (Cxp X) We da σ H (fun vs H1 => spF (Cxp X) Xo0 n F vs H1 Q E0)) (hr : Room k X.A) (hg : Gl X x) (ha : PA X (e :: es) (upA (Cxp X) We da)) (hdb : (x == ("__debug__" : Str)) = false := by decide)
    (he : starEach (e :: es) X.env = (false, eval e X.env) :: starEach es X.env := by rfl) (hpl : (backTo pos (starEach es X.env)).any (·.1) = false := by rfl) : PE X (.Call (.Name x p) (e :: es) [] pos) (upE (Cxp X) We dF') := by
  obtain ⟨f, fd, ps, hm, G, kp, b⟩ := T.ex
  exact te_f (fun h => up h) G hr hg hm kp b ha hdb he hpl
end Tw

namespace Tw
open PySem PySem.Spec PyProof.Rows L2
/-! ### reckoning, a step at a time -/
section
variable {A B : Type} {G G1 G2 : List O} {ρ ρ1 : En} {a b : En → M Out} {o : Out}
theorem seq_nx (h : a ρ G = some (.inr (.nx ρ1), G1)) : dSeq a b ρ G = b ρ1 G1 := by
  unfold dSeq bnd
  rw [h]
theorem seq_rt {d : D} (h : a ρ G = some (.inr (.rt d), G1)) : dSeq a b ρ G = some (.inr (.rt d), G1) := by
  unfold dSeq bnd
  rw [h]
  rfl
theorem for_eq {di : En → M (List D)} {g : D → En → P1 En} {es : List D} (h : di ρ G = some (.inr es, G1)) : dFor di g b ρ G = bodyL g b es ρ G1 := by
  unfold dFor bnd
  rw [h]
theorem body_nx {g : D → En → P1 En} {d : D} {es : List D} {ρ2 : En} (h : g d ρ G = some (ρ1, G1)) (h2 : b ρ1 G1 = some (.inr (.nx ρ2), G2)) : bodyL g b (d :: es) ρ G = bodyL g b es ρ2 G2 := by
  rw [bodyL]
  unfold bnd lft
  rw [h]
  dsimp only
  rw [h2]
theorem run_rt {n : Nat} {d : D} {args : List D} (h : a (start0 n args) G = some (.inr (.rt d), G1)) : runD n a args G = some (.inr d, G1) := by
  unfold runD bnd
  rw [h]
  rfl
theorem if_t {t : En → M Bool} (h : t ρ G = some (.inr true, G1)) : dIfS t a b ρ G = a ρ G1 := by
  unfold dIfS bnd
  rw [h]
  rfl
theorem if_f {t : En → M Bool} (h : t ρ G = some (.inr false, G1)) : dIfS t a b ρ G = b ρ G1 := by
  unfold dIfS bnd
  rw [h]
  rfl
theorem asg_eq {e : En → M D} {g : D → En → P1 En} {d : D} (h : e ρ G = some (.inr d, G1)) (h2 : g d ρ G1 = some (ρ1, G2)) : dAsg e g ρ G = some (.inr (.nx ρ1), G2) := by
  unfold dAsg bnd lft
  rw [h]
  dsimp only
  rw [h2]
  rfl
theorem ret_eq {e : En → M D} {d : D} (h : e ρ G = some (.inr d, G1)) : dRet e ρ G = some (.inr (.rt d), G1) := by
  unfold dRet bnd
  rw [h]
  rfl
theorem bnd_i {m : M A} {k : A → M B} {x : A} (h : m G = some (.inr x, G1)) : bnd m k G = k x G1 := by
  unfold bnd
  rw [h]
theorem bndN_i {m : M A} {k : A → M B} {x : A} (h : m G = some (.inr x, G1)) : bndN m k G = k x G1 := by
  unfold bndN
  rw [h]
theorem lft_i {f : P1 A} {x : A} (h : f G = some (x, G1)) : lft f G = some (.inr x, G1) := by
  unfold lft
  rw [h]
theorem call_eq {f : List D → P1 D} {e : En → M (List D)} {ds : List D} {d : D} (h : e ρ G = some (.inr ds, G1)) (h2 : f ds G1 = some (d, G2)) : dCall f e ρ G = some (.inr d, G2) := (bnd_i h).trans (lft_i h2)
theorem cons_eq {e : En → M D} {r : En → M (List D)} {d : D} {ds : List D} (h : e ρ G = some (.inr d, G1)) (h2 : r ρ G1 = some (.inr ds, G2)) : dCons e r ρ G = some (.inr (d :: ds), G2) := (bnd_i h).trans ((bnd_i h2).trans rfl)
theorem one_eq {e : En → M D} {d : D} (h : e ρ G = some (.inr d, G1)) : dCons e dNil ρ G = some (.inr [d], G1) := cons_eq h rfl
theorem lc_eq {di : En → M (List D)} {g : D → En → P1 En} {t : En → M Bool} {e : En → M D} {own : List Nat} {ds ys : List D} (h : di ρ G = some (.inr ds, G1)) (h2 : lcL g t e (wipeD ρ own) ds G1 = some (.inr ys, G2)) (h3 : ys.length ≤ mx) : dLc di g t e own ρ G = some (.inr (.lst ys), G2) := by
  refine (bnd_i h).trans ((bndN_i h2).trans (lft_i ?_))
  unfold okL pur lstO
  rw [if_pos h3]
theorem rng_eq {e : En → M (List D)} {j : Int} (h : e ρ G = some (.inr [.int j], G1)) (h2 : smallI j = true) : dRng rng1 e ρ G = some (.inr (rngD 0 j.toNat), G1) := by
  refine (bnd_i h).trans (lft_i ?_)
  unfold pur rng1
  dsimp only
  rw [if_pos h2]
end
end Tw

namespace Tw
open PySem PySem.Spec PyProof.Rows L2

/-! ### a text walked sign by sign; zip of tuples -/
def itS : D → Option (List D)
  | .str x => some (x.cps.toList.map fun c => .str ⟨#[c]⟩)
  | _ => none
def dItS (a : En → M D) : En → M (List D) := fun ρ => bnd (a ρ) fun d => lft (pur (itS d))
section
variable {X : Cx} {We : WE'} {tg e : Expr} {da : En → M D}
theorem ti_str (he : PE X e (upE (Cxp X) We da)) : PI X tg e (upI (Cxp X) We (dItS da)) := PI.imp (pi_str he) fun σ H R0 h => by
  obtain ⟨W, ρ, r, G', hR, e, p⟩ := h
  refine upi_bnd hR e p fun d W1 v H1 x1 R1 r1 e1 p1 => ?_
  obtain ⟨ds, e2, p2⟩ := upi_lft e1 p1
  obtain ⟨e2, eg⟩ := pur_eq e2
  unfold itS at e2
  split at e2
  · cases e2
    cases r1
    refine ⟨_, rfl, p2 W1 H1 eg.symm Ext.refl R1.gr _ ⟨_, _, by rw [List.length_map, Array.length_toList]; exact walk_str, fun _ _ _ _ => True.intro, fun i W' H' y H'' hi xx g q => ?_⟩⟩
    obtain ⟨rfl, c, hc, rfl⟩ := q
    exact ⟨.str ⟨#[c]⟩, by rw [List.getElem?_map, Array.getElem?_toList, hc]; rfl, g, Ext.refl, .str _⟩
  · cases e2
theorem ti_zipT {a b : Expr} {ta : En → M (List D)} {p pos tpos : Pos} {elts : List Expr} {kk : Nat} (hg : Gl X "zip") (hm : X.mg "zip" = none) (ha : PA X [a, b] (upA (Cxp X) We ta))
    (hs : starEach [a, b] X.env = (false, eval a X.env) :: starEach [b] X.env := by rfl) (hpl : (backTo pos (starEach [b] X.env)).any (·.1) = false := by rfl) :
    PI X (.Tuple elts kk tpos) (.Call (.Name "zip" p) [a, b] [] pos) (upI (Cxp X) We (dRng zipT2 ta)) := PI.imp (RZ.pi_zipA hg hm ha hs hpl) fun σ H R0 h => by
  obtain ⟨W, ρ, r, G', hR, e, p⟩ := h
  refine upi_bnd hR e p fun d W1 v H1 x1 R1 r1 e1 p1 => ?_
  obtain ⟨ds, e2, p2⟩ := upi_lft e1 p1
  obtain ⟨e2, eg⟩ := pur_eq e2
  unfold zipT2 at e2
  split at e2
  · split at e2
    · rename_i xs ys hx hy
      split at e2
      · rename_i hz
        cases e2
        cases r1 with
        | cons h1 r1 => cases r1 with
          | cons h2 r1 =>
            cases r1
            obtain ⟨a1, vs, rfl, l1, sq1, st1⟩ := itT_sq R1.gr h1 hx
            obtain ⟨a2, ws, rfl, l2, sq2, st2⟩ := itT_sq R1.gr h2 hy
            have hz' : vs.length = ws.length := by rw [l1, l2, hz]
            have len : (zipD xs ys).length = vs.length := by rw [zipD_len, ← l1, ← l2, ← hz', Nat.min_self]
            refine ⟨a1, a2, vs, ws, rfl, .inr ⟨sq1, sq2, p2 W1 H1 eg.symm Ext.refl R1.gr _ ⟨fun H => SqT X.K H a1 vs ∧ SqT X.K H a2 ws, fun i H v H' => ∃ T x y, v = .ref T ∧ H T = none ∧ H' = upd H T (.tup [x, y]) ∧ vs[i]? = some x ∧ ws[i]? = some y, ?_, fun W' H' x _ => ⟨(st1 W' H' x).1, (st2 W' H' x).1⟩, fun i W' H' y H'' hi x g q => ?_⟩⟩⟩
            · rw [len]
              refine ⟨fun i H hi q => ⟨vs, ws, vs[i], ws[i], q.1, q.2, by simp [hi], by simp [← hz', hi]⟩, fun H q => ⟨vs, ws, q.1, q.2, .inl (Nat.le_refl _)⟩, fun i H v H' hi q y => ?_⟩
              obtain ⟨T, x, y, h1, h2, h3, h4, h5⟩ := y
              exact ⟨T, x, y, h1, h2, h3, h4 _ q.1, h5 _ q.2⟩
            · obtain ⟨T, x0, y0, rfl, n, rfl, q1, q2⟩ := q
              obtain ⟨d1, h1, r1⟩ := (st1 W' _ x).2.at2 q1
              obtain ⟨d2, h2, r2⟩ := (st2 W' _ x).2.at2 q2
              obtain ⟨g', x', rv⟩ := pair_new g r1 r2 n
              exact ⟨_, zipD_at h1 h2, g', x', rv⟩
      · cases e2
    · cases e2
  · cases e2
end

/-! ### list + list, the sum changed later -/
def lonly (d : D) (G : List O) : Option (List D) := match d with
  | .lst xs => some xs
  | .ref n => match G[n]? with
    | some (.lst xs) => some xs
    | _ => none
  | _ => none
theorem lonly_at {K : Pm} {W : Wd} {H : Hp} {v : V} {d : D} {xs : List D} (g : Gr K W H) (r : Rv K W H v d) (e : lonly d W.G = some xs) : ∃ a vs, v = .ref a ∧ H a = some (.lst vs) ∧ Rvs K W H vs xs := by
  unfold lonly at e
  split at e
  · cases e; cases r with
    | lst h n q => exact ⟨_, _, rfl, h, q⟩
  · split at e
    · rename_i hn
      cases e; cases r with
      | ref ha =>
        obtain ⟨vs, hh, q⟩ := g.obj _ _ _ ha hn
        exact ⟨_, vs, rfl, hh, q⟩
    · cases e
  · cases e
def catP (f : List D → P1 D) : D → D → P1 D := fun x y G => match lonly x G, lonly y G with
  | some xs, some ys => if xs.length + ys.length ≤ mx then f (xs ++ ys) G else none
  | _, _ => none
theorem catP_eq {f : List D → P1 D} {x y d : D} {G G' : List O} (h : catP f x y G = some (d, G')) : ∃ xs ys, lonly x G = some xs ∧ lonly y G = some ys ∧ xs.length + ys.length ≤ mx ∧ f (xs ++ ys) G = some (d, G') := by
  unfold catP at h
  split at h
  · split at h
    · exact ⟨_, _, by assumption, by assumption, by assumption, h⟩
    · cases h
  · cases h
theorem opd_catM {K : Pm} : OpD K rCat (catP newL) := fun W H x y a b d G' Q g r1 r2 e p => by
  obtain ⟨xs, ys, h1, h2, hz, h3⟩ := catP_eq e
  obtain ⟨_, rfl, rfl⟩ := newL_eq h3
  obtain ⟨a1, vs, rfl, q1, s1⟩ := lonly_at g r1 h1
  obtain ⟨a2, ws, rfl, q2, s2⟩ := lonly_at g r2 h2
  refine ⟨a1, a2, vs, ws, rfl, rfl, q1, q2, mx_line (by rw [s1.length, s2.length]; exact hz), fun l n => ?_⟩
  obtain ⟨g', x', rv⟩ := mut_new g (s1.app s2) n
  exact p (W.new l _) _ _ rfl x' g' rv
theorem opd_cat {K : Pm} : OpD K rCat (catP okL) := fun W H x y a b d G' Q g r1 r2 e p => by
  obtain ⟨xs, ys, h1, h2, hz, h3⟩ := catP_eq e
  obtain ⟨h4, eg⟩ := pur_eq h3
  obtain ⟨_, rfl⟩ := lstO_eq h4
  obtain ⟨a1, vs, rfl, q1, s1⟩ := lonly_at g r1 h1
  obtain ⟨a2, ws, rfl, q2, s2⟩ := lonly_at g r2 h2
  refine ⟨a1, a2, vs, ws, rfl, rfl, q1, q2, mx_line (by rw [s1.length, s2.length]; exact hz), fun l n => ?_⟩
  obtain ⟨g', x', rv⟩ := lst_new g (s1.app s2) n
  exact p W _ _ eg.symm x' g' rv

/-! ### dicts -/
def keyO : D → Option Key
  | .int i => some (.inl i)
  | .str x => some (.inr x)
  | _ => none
def keyD : Key → D
  | .inl i => .int i
  | .inr x => .str x
def lookK (kvs : List (Key × D)) (k : Key) : Option D := (kvs.find? fun kv => decide (kv.1 = k)).map (·.2)
def putKD (kvs : List (Key × D)) (k : Key) (v : D) : List (Key × D) :=
  if (kvs.any fun kv => decide (kv.1 = k)) = true then kvs.map (fun kv => if kv.1 = k then (kv.1, v) else kv) else kvs ++ [(k, v)]
theorem keyO_v {K : Pm} {L : Addr → Prop} {α : List Addr} {H : Hp} {v : V} {d : D} {k : Key} (r : Dr K L α H v d) (h : keyO d = some k) : v = kV k := by
  unfold keyO at h
  split at h
  · cases h; cases r; rfl
  · cases h; cases r; rfl
  · cases h
section
variable {K : Pm} {L : Addr → Prop} {α : List Addr} {H : Hp}
theorem Drk.val (k : Key) : ∀ {ps : List (Key × V)} {kvs : List (Key × D)}, Drk K L α H ps kvs → match lookK kvs k with
    | some d => ∃ v, valV ps k = some v ∧ Dr K L α H v d
    | none => valV ps k = none
  | _, _, .nil => rfl
  | _, _, .cons (k := j) (v := v) (d := d) (ps := ps) (kvs := kvs) h r => by
    unfold lookK valV
    rw [List.find?_cons, List.find?_cons]
    by_cases e : j = k
    · simp only [e, decide_true]
      exact ⟨v, rfl, h⟩
    · simp only [e, decide_false]
      have ih := Drk.val k r
      unfold lookK valV at ih
      exact ih
theorem Drk.any (k : Key) : ∀ {ps : List (Key × V)} {kvs : List (Key × D)}, Drk K L α H ps kvs → (ps.any fun kv => decide (kv.1 = k)) = kvs.any fun kv => decide (kv.1 = k)
  | _, _, .nil => rfl
  | _, _, .cons h r => by rw [List.any_cons, List.any_cons, Drk.any k r]
theorem Drk.repl (k : Key) {v : V} {d : D} (q : Dr K L α H v d) : ∀ {ps : List (Key × V)} {kvs : List (Key × D)}, Drk K L α H ps kvs → Drk K L α H (ps.map fun kv => if kv.1 = k then (kv.1, v) else kv) (kvs.map fun kv => if kv.1 = k then (kv.1, d) else kv)
  | _, _, .nil => .nil
  | _, _, .cons (k := j) h r => by
    rw [List.map_cons, List.map_cons]
    by_cases e : j = k
    · simp only [e, if_true]
      exact .cons q (Drk.repl k q r)
    · simp only [e, if_false]
      exact .cons h (Drk.repl k q r)
theorem Drk.app : ∀ {ps qs : List (Key × V)} {kvs ls : List (Key × D)}, Drk K L α H ps kvs → Drk K L α H qs ls → Drk K L α H (ps ++ qs) (kvs ++ ls)
  | _, _, _, _, .nil, s => s
  | _, _, _, _, .cons h r, s => .cons h (Drk.app r s)
theorem Drk.put (k : Key) {v : V} {d : D} (q : Dr K L α H v d) {ps : List (Key × V)} {kvs : List (Key × D)} (r : Drk K L α H ps kvs) : Drk K L α H (putK ps k v) (putKD kvs k d) := by
  unfold putK putKD
  rw [r.any k]
  split
  · exact r.repl k q
  · exact r.app (.cons q .nil)
theorem Drk.length : ∀ {ps : List (Key × V)} {kvs : List (Key × D)}, Drk K L α H ps kvs → ps.length = kvs.length
  | _, _, .nil => rfl
  | _, _, .cons _ r => by simp [Drk.length r]
end
/-- what a dict holds, ours or not -/
def inD (d : D) (G : List O) : Option (List (Key × D)) := match d with
  | .dct kvs => some kvs
  | .dcl kvs => some kvs
  | .ref n => match G[n]? with
    | some (.dct kvs) => some kvs
    | some (.dlk kvs) => some kvs
    | _ => none
  | _ => none
theorem inD_rd {K : Pm} {W : Wd} {H : Hp} {v : V} {d : D} {kvs : List (Key × D)} (g : Gr K W H) (r : Rv K W H v d) (e : inD d W.G = some kvs) : ∃ a ps, v = .ref a ∧ Rd H a (.dK ps) ∧ Rkv K W H ps kvs := by
  unfold inD at e
  split at e
  · cases e; cases r with
    | dct h n q => exact ⟨_, _, rfl, h, q⟩
  · cases e; cases r with
    | dcl h n q => exact ⟨_, _, rfl, .inr h, q⟩
  · split at e
    · rename_i hn
      cases e; cases r with
      | ref ha =>
        obtain ⟨ps, hh, q⟩ := g.obj _ _ _ ha hn
        exact ⟨_, ps, rfl, .inl hh, q⟩
    · rename_i hn
      cases e; cases r with
      | ref ha =>
        obtain ⟨o, ps, hh, q⟩ := g.obj _ _ _ ha hn
        exact ⟨_, ps, rfl, .inr ⟨o, hh⟩, q⟩
    · cases e
  · cases e
def dgetO (x y : D) (G : List O) : Option (Option D) := match inD x G, keyO y with
  | some kvs, some k => some (lookK kvs k)
  | _, _ => none
def dgetP : D → D → P1 D := fun x y G => match dgetO x y G with
  | some (some d) => some (d, G)
  | _ => none
def dinP (neg : Bool) : D → D → P1 D := fun y x G => match dgetO x y G with
  | some o => some (.bl (if neg then !o.isSome else o.isSome), G)
  | none => none
theorem dgetO_eq {K : Pm} {W : Wd} {H : Hp} {v w : V} {x y : D} {o : Option D} (g : Gr K W H) (r1 : Rv K W H v x) (r2 : Rv K W H w y) (h : dgetO x y W.G = some o) :
    ∃ a ov, v = .ref a ∧ DGet H a w ov ∧ (match o with | some d => ∃ u, ov = some u ∧ Rv K W H u d | none => ov = none) := by
  unfold dgetO at h
  split at h
  · rename_i kvs k h1 h2
    have h := Option.some.inj h
    obtain ⟨a, ps, rfl, rd, q⟩ := inD_rd g r1 h1
    cases keyO_v r2 h2
    refine ⟨a, valV ps k, rfl, .inl ⟨ps, k, rd, rfl, rfl⟩, ?_⟩
    have z := q.val k
    rw [h] at z
    cases o <;> exact z
  · cases h
section
variable {X : Cx} {We : WE'} {a b : Expr} {da db dv : En → M D} {pos pos' : Pos}
theorem te_dget (hu : X.A.units + 1 < cLine) (ha : PE X a (upE (Cxp X) We da)) (hb : PE X b (upE (Cxp X) We db)) (hs : NoSl b) : PE X (.Subscript a b pos) (upE (Cxp X) We (d2 dgetP da db)) := PE.imp (pe_dget hu ha hb hs) fun σ H Q h => by
  obtain ⟨W, ρ, r, G', hR, e, p⟩ := h
  refine up_bnd hR e p fun d W1 v H1 x1 R1 r1 e1 p1 => ?_
  refine up_bnd R1 e1 p1 fun d' W2 v' H2 x2 R2 r2 e2 p2 => ?_
  obtain ⟨d3, e3, p3⟩ := up_lft e2 p2
  unfold dgetP at e3
  split at e3
  · rename_i o ho
    cases e3
    obtain ⟨ad, ov, rfl, hg, u, rfl, ru⟩ := dgetO_eq R2.gr (r1.keep R1.gr x2) r2 ho
    exact ⟨ad, u, rfl, hg, p3 W2 u H2 rfl Ext.refl R2.gr ru⟩
  · cases e3
theorem din_up {neg : Bool} {σ : L2.St} {H : Hp} {Q : VK} (h : upE (Cxp X) We (d2 (dinP neg) da db) σ H Q) : upE (Cxp X) We da σ H fun y H1 => upE (Cxp X) We db σ H1 fun x H2 => ∃ a o, x = .ref a ∧ DGet H2 a y o ∧ Q (.bl (if neg then !o.isSome else o.isSome)) H2 := by
  obtain ⟨W, ρ, r, G', hR, e, p⟩ := h
  refine up_bnd hR e p fun d W1 v H1 x1 R1 r1 e1 p1 => ?_
  refine up_bnd R1 e1 p1 fun d' W2 v' H2 x2 R2 r2 e2 p2 => ?_
  obtain ⟨d3, e3, p3⟩ := up_lft e2 p2
  unfold dinP at e3
  split at e3
  · rename_i o ho
    cases e3
    obtain ⟨ad, ov, rfl, hg, z⟩ := dgetO_eq R2.gr r2 (r1.keep R1.gr x2) ho
    have es : ov.isSome = o.isSome := by
      cases o with
      | some d4 => obtain ⟨u, rfl, _⟩ := z; rfl
      | none => cases z; rfl
    refine ⟨ad, ov, rfl, hg, ?_⟩
    rw [es]
    exact p3 W2 _ H2 rfl Ext.refl R2.gr (.bl _)
  · cases e3
theorem te_din (hu : X.A.units + 1 < cLine) (ha : PE X a (upE (Cxp X) We da)) (hb : PE X b (upE (Cxp X) We db)) (h1 : behindInMarks .In b = false := by rfl) : PE X (.Compare a [.In] [b] pos) (upE (Cxp X) We (d2 (dinP false) da db)) := PE.imp (pe_cmp (pc_din hu ha hb) h1) fun σ H Q h => din_up (neg := false) h
theorem te_dnin (hu : X.A.units + 1 < cLine) (ha : PE X a (upE (Cxp X) We da)) (hb : PE X b (upE (Cxp X) We db)) (h1 : behindInMarks .NotIn b = false := by rfl) : PE X (.Compare a [.NotIn] [b] pos) (upE (Cxp X) We (d2 (dinP true) da db)) := PE.imp (pe_cmp (pc_dnotin hu ha hb) h1) fun σ H Q h => din_up (neg := true) h
theorem tt_din (hu : X.A.units + 1 < cLine) (ha : PE X a (upE (Cxp X) We da)) (hb : PE X b (upE (Cxp X) We db)) (h1 : behindInMarks .In b = false := by rfl) : PT X (.Compare a [.In] [b] pos) (upT (Cxp X) We (dTest (d2 (dinP false) da db))) := PT.imp (pt_cmp (pc_din hu ha hb) h1) fun σ H Q h => din_up (neg := false) (up_test h)
theorem tt_dnin (hu : X.A.units + 1 < cLine) (ha : PE X a (upE (Cxp X) We da)) (hb : PE X b (upE (Cxp X) We db)) (h1 : behindInMarks .NotIn b = false := by rfl) : PT X (.Compare a [.NotIn] [b] pos) (upT (Cxp X) We (dTest (d2 (dinP true) da db))) := PT.imp (pt_cmp (pc_dnotin hu ha hb) h1) fun σ H Q h => din_up (neg := true) (up_test h)
/-- d[k] = v -/
def dputP : D → D → D → P1 Unit := fun o k v G => match o, keyO k with
  | .ref n, some k => match G[n]? with
    | some (.dct kvs) => if kvs.length + 1 ≤ mx then some ((), G.set n (.dct (putKD kvs k v))) else none
    | _ => none
  | _, _ => none
def dDput (o k v : En → M D) : En → M Out := fun ρ => bnd (v ρ) fun x => bnd (o ρ) fun y => bnd (k ρ) fun z => bnd (lft (dputP y z x)) fun _ => ret (.nx ρ)
theorem tS_dput (hu : X.A.units + 1 < cLine) {o i value : Expr} (ho : PE X o (upE (Cxp X) We da)) (hi : PE X i (upE (Cxp X) We db)) (hv : PE X value (upE (Cxp X) We dv)) (hs : swapsWith value (some (.Subscript o i pos')) pos.line X.env = pure false := by rfl) :
    PS X (.Assign [.Subscript o i pos'] value pos) (ups (Cxp X) We (dDput da db dv)) := PS.imp (ps_dput hu ho hi hv hs) fun D0 σ H h => by
  obtain ⟨W, ρ, r, G', hR, e, p⟩ := h
  refine ups_bnd hR e p fun x W1 v1 H1 x1 R1 r1 e1 p1 => ?_
  refine ups_bnd R1 e1 p1 fun y W2 v2 H2 x2 R2 r2 e2 p2 => ?_
  refine ups_bnd R2 e2 p2 fun z W3 v3 H3 x3 R3 r3 e3 p3 => ?_
  obtain ⟨u, G4, e4, e5⟩ := bnd_lft e3
  unfold dputP at e4
  split at e4
  · rename_i k hk
    split at e4
    · rename_i kvs hn
      split at e4
      · rename_i hz
        cases e4
        have r2' := r2.keep R2.gr x3
        have r1' := (r1.keep R1.gr x2).keep R2.gr x3
        cases keyO_v r3 hk
        cases r2' with
        | ref ha =>
          obtain ⟨ps, hh, q⟩ := R3.gr.obj _ _ _ ha hn
          have ex := Ext.put (u := .dK (putK ps k v1)) (o' := .dct (putKD kvs k x)) R3.gr ha hn (fun z => nomatch z)
          have gx := R3.gr.put (u := .dK (putK ps k v1)) (o' := .dct (putKD kvs k x)) ha hn (fun z => nomatch z) ⟨_, upd_same, (q.put k r1').keep R3.gr ex⟩
          exact ⟨_, _, rfl, DPut.k hh (mx_lt (by rw [q.length]; omega)), nx_end (W := W3.put _ (.dct (putKD kvs k x))) e5 (p3.mono ex) rfl Ext.refl (R3.keep gx ex)⟩
      · cases e4
    · cases e4
  · cases e4
/-- {} that will be changed -/
def dNewD : En → M D := fun _ => lft fun G => some (.ref G.length, G ++ [.dct []])
theorem te_newD : PE X (.Dict [] [] pos) (upE (Cxp X) We dNewD) := PE.imp pe_dnewK fun σ H Q h => by
  obtain ⟨W, ρ, r, G', hR, e, p⟩ := h
  obtain ⟨d, e2, p2⟩ := up_lft e p
  cases e2
  intro l n
  have x : Ext W H (W.new l (.dct [])) (upd H l (.dK [])) := Ext.new hR.gr n
  have g : Gr (Cxp X) (W.new l (.dct [])) (upd H l (.dK [])) := hR.gr.new n ⟨[], upd_same, .nil⟩
  refine p2 (W.new l (.dct [])) _ _ rfl x g (.ref ?_)
  show (W.α ++ [l])[W.G.length]? = some l
  rw [← hR.gr.len]
  simp
end
/-! ### a dict of the module with text keys -/
section
variable {X : Cx} {We : WE'}
/-- tab: what the dict at d holds -/
def KTab (K : PySem.W.Frag) (w : World) (Kp : Pm) (d : Addr) (tab : Str → Option D) : Prop := ∃ es n, KDict K w d es n ∧ ∀ z : Str, match tab z with
  | some t => ∃ u v, PySem.W.nsIn K d z = some (some u) ∧ RelV v u ∧ ∀ (W : Wd) (H : Hp), Rv Kp W H v t
  | none => PySem.W.nsIn K d z = some none
def kgetO (tab : Str → Option D) (neg : Bool) : D → Option D
  | .str z => some ((tab z).getD .non)
  | _ => none
def dKget (tab : Str → Option D) (a : En → M D) : En → M D := fun ρ => bnd (a ρ) fun d => lft (pur (kgetO tab false d))
theorem k_get1 {A : Around} {E : Value → Shared → Prop} {pins : List (Addr × Obj)} {σ : L2.St} {H : Hp} {s : Shared} {d : Addr} {es : Array DictEntry} {n : Nat} {z : Str} {t : Tok} {r : Option Value} {Q : Value → Shared → Prop} (D0 : KDict X.K X.w d es n) (I : Inv X pins σ H s) (e : PySem.W.nsIn X.K d z = some r)
    (h : ∀ s', Inv X pins σ H s' → Q (r.getD .none) s') : wpAny (model X.prog X.w) A (call (.builtin "dict.get") [.ref d, .str z t]) Q E s := by
  have mp := PySem.W.mapOf_K (prog := X.prog) (w := X.w) I.kIn D0.at_ D0.lit
  refine call_meetsIn PySem.F.slot_dict_get mp.typeIs PySem.F.entry_dict_get (PySem.F.args_dict_get_2 _ _) (meets_dict_get (PySem.strKind X.prog X.w) d (PySem.strKind_is X.prog X.w z t) D0.low) ⟨_, mp, ?_⟩
  rw [PySem.W.find_K D0.at_ e]
  exact h _ (I.tok _)
theorem te_kget {d : Addr} {tab : Str → Option D} {x : Str} {e : Expr} {p apos cpos : Pos} {da : En → M D} (hg : Gl X x) (hm : X.mg x = some (.ref d)) (T : KTab X.K X.w (Cxp X) d tab) (he : PE X e (upE (Cxp X) We da)) (m : M1 X (.Name x p) "get" apos e cpos) (hdb : (x == ("__debug__" : Str)) = false := by decide) :
    PE X (.Call (.Attribute (.Name x p) "get" apos) [e] [] cpos) (upE (Cxp X) We (dKget tab da)) := by
  obtain ⟨es, n, D0, ht⟩ := T
  refine ⟨fun pins s σ H Q I h => ?_⟩
  refine wpAny_Call_method m.base m.few m.line PySem.F.plainAttrs_dict PySem.F.slot_dict_get PySem.F.type_dict_get (ld_glob I hg hm ?_ hdb)
  refine ⟨kd_type D0 I, fun a ea => ?_, ?_⟩
  · cases ea
    exact ⟨_, I.kIn _ _ D0.at_, rfl⟩
  · rw [m.trees]
    obtain ⟨W, ρ, r, G', hR, e1, p1⟩ := h
    have h2 : upE (Cxp X) We da σ H (fun y H1 => ∃ z r v, y = .str z ∧ PySem.W.nsIn X.K d z = some r ∧ RelV v (r.getD .none) ∧ Q v H1) := by
      refine up_bnd hR e1 p1 fun d1 W1 v H1 x1 R1 r1 e2 p2 => ?_
      obtain ⟨d3, e3, p3⟩ := up_lft e2 p2
      obtain ⟨e3, eg⟩ := pur_eq e3
      unfold kgetO at e3
      split at e3
      · cases e3
        cases r1 with
        | str =>
          rename_i z
          have q := ht z
          cases hz : tab z with
          | none =>
            rw [hz] at q p3
            exact ⟨z, none, .non, rfl, q, rfl, p3 W1 .non H1 eg.symm Ext.refl R1.gr .non⟩
          | some t =>
            rw [hz] at q p3
            obtain ⟨u, v, q1, q2, q3⟩ := q
            exact ⟨z, some u, v, rfl, q1, q2, p3 W1 v H1 eg.symm Ext.refl R1.gr (q3 W1 H1)⟩
      · cases e3
    refine Calls.callWith_builtin rfl (Calls.evalArgs_plain (Calls.spliced_cons (thn (he.run pins s σ H _ I h2) fun iv s2 ⟨y, H2, I2, ry, z, r0, v0, ez, hz, rv, q2⟩ => Calls.spliced_nil ?_)))
    subst ez
    obtain ⟨t, rfl⟩ := ry
    exact k_get1 D0 I2 hz fun s3 I3 => ⟨v0, H2, I3, rv, q2⟩
end
end Tw

namespace Tw
open PySem PySem.Spec PyProof.Rows L2

/-! ### a walk, any body -/
theorem walk_it {J : It} {n : Nat} {G : Hp → Prop} {Y : Nat → Hp → V → Hp → Prop} (w : Walk J n G Y) {H1 : Hp} {Qd : Hp → Prop} {B : (Hp → Prop) → V → Hp → Prop} (Pv : Nat → Hp → Prop) (h0 : Pv 0 H1) (hG : ∀ i H, i ≤ n → Pv i H → G H)
    (hs : ∀ i x H H', i < n → Pv i H → Y i H x H' → B (Pv (i + 1)) x H') (hd : ∀ H, Pv n H → Qd H) :
    ∃ W : Nat → Nat → Hp → Prop, (∃ m, W 0 m H1) ∧ ∀ i m H, W i m H → (J.stop i H ∧ Qd H) ∨ (J.go i H ∧ ∃ Nx : Hp → Prop, (∀ H', Nx H' → ∃ m', m' < m ∧ W (i + 1) m' H') ∧ ∀ x H', J.yld i H x H' → B Nx x H') := by
  refine ⟨fun i m H => m = n - i ∧ i ≤ n ∧ Pv i H, ⟨n, rfl, Nat.zero_le _, h0⟩, ?_⟩
  rintro i m H ⟨rfl, hi, p⟩
  rcases Nat.lt_or_ge i n with lt | ge
  · exact .inr ⟨w.goes i H lt (hG i H hi p), Pv (i + 1), fun H' q => ⟨n - (i + 1), by omega, rfl, lt, q⟩, fun x H' y => hs i x H H' lt p (w.yields i H x H' lt (hG i H hi p) y)⟩
  · obtain rfl : i = n := Nat.le_antisymm hi ge
    exact .inl ⟨w.stops H (hG _ H hi p), hd H p⟩
theorem Rs.off {K : Pm} {W : Wd} {ρ : En} {σ : L2.St} {H : Hp} {p : Addr} {u : HO} (r : Rs K W ρ σ H) (hp : p ∈ W.B) (nt : ∀ vs, H p ≠ some (.tup vs)) (nf : ∀ o w, H p ≠ some (.frz o w)) : Rs K W ρ σ (upd H p u) :=
  ⟨r.gr.off hp nt nf, r.len, fun i d e => let ⟨v, h, q⟩ := r.var i d e; ⟨v, h, Dr.off hp nt nf q⟩⟩
/-! ### [e for x in xs if t for y in ys if t1] -/
def lc2L (g : D → En → P1 En) (t : En → M Bool) (di1 : En → M (List D)) (g1 : D → En → P1 En) (t1 : En → M Bool) (a : En → M D) (vs1 : List Nat) (ρ : En) : List D → M (List D)
  | [] => ret []
  | d :: r => bndN (lft (g d ρ)) fun ρ1 => bndN (t ρ1) fun b => if b = true then bndN (di1 ρ1) fun ds1 => bndN (lcL g1 t1 a (wipeD ρ1 vs1) ds1) fun ys => bndN (lc2L g t di1 g1 t1 a vs1 ρ r) fun zs => ret (ys ++ zs) else lc2L g t di1 g1 t1 a vs1 ρ r
def dLc2 (di : En → M (List D)) (g : D → En → P1 En) (t : En → M Bool) (di1 : En → M (List D)) (g1 : D → En → P1 En) (t1 : En → M Bool) (a : En → M D) (own vs1 : List Nat) : En → M D := fun ρ => bnd (di ρ) fun ds => bndN (lc2L g t di1 g1 t1 a vs1 (wipeD ρ own) ds) fun ys => lft (okL ys)
section
variable {X : Cx} {We : WE'}
theorem lft_eq {A : Type} {f : P1 A} {G G' : List O} {r : A} (e : lft f G = some (.inr r, G')) : f G = some (r, G') := by
  unfold lft at e
  split at e
  · rename_i hk; cases e; exact hk
  · cases e
theorem lc2_up {tgr tgr1 : TG} {di di1 : En → M (List D)} {g g1 : D → En → P1 En} {t t1 : En → M Bool} {a : En → M D} {own vs1 : List Nat} (hgr : GRaw (Cxp X) tgr g own) (hgr1 : GRaw (Cxp X) tgr1 g1 vs1) {σ : L2.St} {H : Hp} {Q : VK} (h : upE (Cxp X) We (dLc2 di g t di1 g1 t1 a own vs1) σ H Q) :
    tLc2 (upI (Cxp X) We di) tgr (upT (Cxp X) WeF t) (upI (Cxp X) WeF di1) tgr1 (upT (Cxp X) WeF t1) (upE (Cxp X) WeF a) own vs1 σ H Q := by
  obtain ⟨W, ρ, r, G', hR, e, p⟩ := h
  unfold dLc2 bnd at e
  split at e
  · rename_i ds G1 he
    refine ⟨W, ρ, .inr ds, G1, hR, he, fun W0 H0 eg0 x0 g0 J wd Da nD => ?_⟩
    obtain ⟨Gd, Y, wk, st, yl⟩ := wd.ex
    rw [← eg0] at e
    obtain ⟨ys, Gx, e1, e2⟩ := bndN_eq e
    obtain ⟨dl, e3, e4⟩ : ∃ dl, okL ys Gx = some (dl, G') ∧ r = .inr dl := by
      unfold lft at e2
      split at e2
      · rename_i dl G2 hk; cases e2; exact ⟨dl, hk, rfl⟩
      · cases e2
    subst e4
    obtain ⟨e3, eg⟩ := pur_eq e3
    obtain ⟨hz, rfl⟩ := lstO_eq e3
    have R0 := (hR.keep g0 x0).wipe own
    refine walk_it wk (fun i H1 => ∃ (W1 : Wd) (acc rest : List D), LcI (Cxp X) W0 H0 Da W1 H1 acc ∧ lc2L g t di1 g1 t1 a vs1 (wipeD ρ own) (ds.drop i) W1.G = some (.inr rest, Gx) ∧ ys = acc ++ rest) ⟨W0.ban Da, [], ys, LcI.start g0 nD, (show lc2L g t di1 g1 t1 a vs1 (wipeD ρ own) (ds.drop 0) W0.G = _ by rw [List.drop_zero]; exact e1), rfl⟩
      (fun i H1 _ ⟨W1, acc, rest, I, _⟩ => st W1 H1 I.x.w I.g) (fun i v H1 H2 hi ⟨W1, acc, rest, I, e5, e6⟩ y => ?_) fun H1 ⟨W1, acc, rest, I, e5, e6⟩ => ?_
    · obtain ⟨d, hd, g2, x2, rv⟩ := yl i W1 H1 v H2 hi I.x.w I.g y
      have ed : ds.drop i = d :: ds.drop (i + 1) := by
        obtain ⟨hl, hv⟩ := List.getElem?_eq_some_iff.mp hd
        rw [List.drop_eq_getElem_cons hl, hv]
      rw [ed] at e5
      unfold lc2L at e5
      obtain ⟨ρ1, G2, e7, e8⟩ := bndN_eq e5
      have e7' := lft_eq e7
      have I2 := I.step x2 g2
      refine hgr W1 _ _ H2 v d ρ1 G2 _ (R0.keep g2 I2.x) rv e7' fun σ2 eg2 R2 hw => ⟨hw.trans (wipe_wipe σ own), ?_⟩
      subst eg2
      obtain ⟨b, G3, e9, e10⟩ := bndN_eq e8
      refine ⟨W1, ρ1, .inr b, G3, R2, e9, fun W4 b' H4 eg4 x4 g4 hb => ?_⟩
      cases hb
      rw [← eg4] at e10
      have I4 := I2.step x4 g4
      cases b with
      | false => exact iteF ⟨W4, acc, rest, I4, e10, e6⟩
      | true =>
        rw [if_pos rfl] at e10
        obtain ⟨ds1, G5, e11, e12⟩ := bndN_eq e10
        have R4 := R2.keep g4 x4
        refine iteT ⟨W4, ρ1, .inr ds1, G5, R4, e11, fun W6 H6 eg6 x6 g6 J1 wd1 => ?_⟩
        rw [← eg6] at e12
        obtain ⟨zs, G8, e13, e14⟩ := bndN_eq e12
        obtain ⟨us, G9, e15, e16⟩ := bndN_eq e14
        cases e16
        obtain ⟨Gd1, Y1, wk1, st1, yl1⟩ := wd1.ex
        have I6 := I4.step x6 g6
        have R6 := (R4.keep g6 x6).wipe vs1
        refine walk_it wk1 (fun j H7 => ∃ (W7 : Wd) (acc7 rest7 : List D), ExtW W6 H6 W7 H7 ∧ LcI (Cxp X) W0 H0 Da W7 H7 acc7 ∧ Rs (Cxp X) W7 (wipeD ρ1 vs1) (L2.wipe σ2 vs1) H7 ∧ lcL g1 t1 a (wipeD ρ1 vs1) (ds1.drop j) W7.G = some (.inr rest7, G8) ∧ acc7 ++ rest7 = acc ++ zs)
          ⟨W6, acc, zs, ExtW.refl, I6, R6, (show lcL g1 t1 a (wipeD ρ1 vs1) (ds1.drop 0) W6.G = _ by rw [List.drop_zero]; exact e13), rfl⟩
          (fun j H7 _ ⟨W7, acc7, rest7, x7, I7, _⟩ => st1 W7 H7 x7 I7.g) (fun j v7 H7 H8 hj ⟨W7, acc7, rest7, x7, I7, R7, e17, e18⟩ y7 => ?_) fun H7 ⟨W7, acc7, rest7, x7, I7, R7, e17, e18⟩ => ?_
        · obtain ⟨d7, hd7, g8, x8, rv7⟩ := yl1 j W7 H7 v7 H8 hj x7 I7.g y7
          have ed7 : ds1.drop j = d7 :: ds1.drop (j + 1) := by
            obtain ⟨hl, hv⟩ := List.getElem?_eq_some_iff.mp hd7
            rw [List.drop_eq_getElem_cons hl, hv]
          rw [ed7] at e17
          unfold lcL at e17
          obtain ⟨ρ3, G10, e19, e20⟩ := bndN_eq e17
          have e19' := lft_eq e19
          have I8 := I7.step x8 g8
          have R8 := R7.keep g8 x8
          refine hgr1 W7 _ _ H8 v7 d7 ρ3 G10 _ R8 rv7 e19' fun σ3 eg3 R9 hw1 => ⟨hw1.trans (wipe_wipe σ2 vs1), ?_⟩
          subst eg3
          obtain ⟨b1, G11, e21, e22⟩ := bndN_eq e20
          refine ⟨W7, ρ3, .inr b1, G11, R9, e21, fun W10 b10 H10 eg10 x10 g10 hb10 => ?_⟩
          cases hb10
          rw [← eg10] at e22
          have I10 := I8.step x10 g10
          have R10 := R8.keep g10 x10
          cases b1 with
          | false => exact iteF ⟨W10, acc7, rest7, (x7.step x8).step x10, I10, R10, e22, e18⟩
          | true =>
            rw [if_pos rfl] at e22
            obtain ⟨y1, G12, e23, e24⟩ := bndN_eq e22
            refine iteT ⟨W10, ρ3, .inr y1, G12, R9.keep g10 x10, e23, fun W11 v11 H11 eg11 x11 g11 r11 => ?_⟩
            rw [← eg11] at e24
            obtain ⟨rest8, G13, e25, e26⟩ := bndN_eq e24
            cases e26
            have I11 := I10.step x11 g11
            have R11 := R10.keep g11 x11
            obtain ⟨vs, hv, hlv, I12⟩ := I11.more nD r11
            have nt : ∀ ws, H11 Da ≠ some (.tup ws) := fun ws e => by rw [hv] at e; cases e
            have nf : ∀ o u, H11 Da ≠ some (.frz o u) := fun o u e => by rw [hv] at e; cases e
            refine ⟨vs, hv, ?_, W11, acc7 ++ [y1], rest8, (((x7.step x8).step x10).step x11).off I6.b nt nf, I12, R11.off I11.b nt nf, e25, by rw [← e18]; simp⟩
            have : ys.length = acc.length + zs.length + us.length := by rw [e6]; simp [Nat.add_assoc]
            have : acc7.length + (rest8.length + 1) = acc.length + zs.length := by
              have := congrArg List.length e18
              simpa using this
            exact mx_lt (by omega)
        · rw [List.drop_length] at e17
          unfold lcL at e17
          cases e17
          rw [List.append_nil] at e18
          exact ⟨W7, acc ++ zs, us, by rw [← e18]; exact I7, e15, by rw [e6, List.append_assoc]⟩
    · rw [List.drop_length] at e5
      unfold lc2L at e5
      cases e5
      obtain ⟨xe, ge, re⟩ := I.done g0 nD
      rw [List.append_nil] at e6
      subst e6
      exact p (W1.bans W0.B) _ H1 eg.symm (x0.trans xe) ge re
  · rename_i er G1 he
    cases e
    exact ⟨W, ρ, .inl er, _, hR, he, p⟩
  · cases e
theorem te_lc2 {elt tg iter tg1 iter1 : Expr} {ifs ifs1 : List Expr} {scope : Scope} {own : List (Str × Nat)} {vs1 : List Nat} {pos : Pos} {tgr tgr1 : TG} {di di1 : En → M (List D)} {g g1 : D → En → P1 En} {t t1 : En → M Bool} {a : En → M D} (hc : X.calm = true) (hN : X.N.Nodup) (hi : PI X tg iter (upI (Cxp X) We di)) (ok : BlkOk X.N X.env.scope scope own) (hv : ∀ i ∈ vs1, i ∈ own.map (·.2))
    (hgr : GRaw (Cxp X) tgr g (own.map (·.2))) (hgr1 : GRaw (Cxp X) tgr1 g1 vs1) (hg : ∀ (s : Shared) (H : Hp) (C : Addr) (cl : List (Str × Addr)) (fp : List Addr), PG (X.blk s H scope (compEnvC scope cl C X.env) fp) tg tgr)
    (ht : ∀ (s : Shared) (H : Hp) (C : Addr) (cl : List (Str × Addr)) (fp : List Addr), PTs (X.blk s H scope (compEnvC scope cl C X.env) fp) ifs (upT (Cxp X) WeF t))
    (hi1 : ∀ (s : Shared) (H : Hp) (C : Addr) (cl : List (Str × Addr)) (fp : List Addr), PI (X.blk s H scope (compEnvC scope cl C X.env) fp) tg1 iter1 (upI (Cxp X) WeF di1))
    (hg1 : ∀ (s : Shared) (H : Hp) (C : Addr) (cl : List (Str × Addr)) (fp : List Addr), PG (X.blk s H scope (compEnvC scope cl C X.env) fp) tg1 tgr1)
    (ht1 : ∀ (s : Shared) (H : Hp) (C : Addr) (cl : List (Str × Addr)) (fp : List Addr), PTs (X.blk s H scope (compEnvC scope cl C X.env) fp) ifs1 (upT (Cxp X) WeF t1))
    (he : ∀ (s : Shared) (H : Hp) (C : Addr) (cl : List (Str × Addr)) (fp : List Addr), PE (X.blk s H scope (compEnvC scope cl C X.env) fp) elt (upE (Cxp X) WeF a)) (hs : ∀ x, foldedSetIterable iter X.env x = pure x := by intro _; rfl) (hs1 : ∀ env x, foldedSetIterable iter1 env x = pure x := by intro _ _; rfl) :
    PE X (.ListComp elt [⟨tg, iter, ifs, 0⟩, ⟨tg1, iter1, ifs1, 0⟩] scope pos) (upE (Cxp X) We (dLc2 di g t di1 g1 t1 a (own.map (·.2)) vs1)) := PE.imp (pe_lc2 hc hN hi ok hv hg ht hi1 hg1 ht1 he hs hs1) fun σ H Q h => lc2_up (We := We) hgr hgr1 h
end
end Tw

namespace Tw
open PySem PySem.Spec PyProof.Rows L2

/-! ### {k: v for x in xs if t}, a dict that nobody changes -/
structure LdI (K : Pm) (W0 : Wd) (H0 : Hp) (Da : Addr) (W1 : Wd) (H1 : Hp) (acc : List (Key × D)) : Prop where
  x : Ext W0 H0 W1 H1
  g : Gr K W1 H1
  b : Da ∈ W1.B
  v : ∃ ps, H1 Da = some (.dK ps) ∧ Rkv K W1 H1 ps acc
theorem LdI.step {K : Pm} {W0 W1 W2 : Wd} {H0 H1 H2 : Hp} {Da : Addr} {acc : List (Key × D)} (i : LdI K W0 H0 Da W1 H1 acc) (x : Ext W1 H1 W2 H2) (g : Gr K W2 H2) : LdI K W0 H0 Da W2 H2 acc := by
  obtain ⟨ps, h, r⟩ := i.v
  refine ⟨i.x.trans x, g, x.b _ i.b, ps, (x.keep Da _ h fun l => ?_).1, Drk.keep i.g x r⟩
  obtain ⟨m, o, h1, _⟩ := l
  exact i.g.dis Da i.b (List.mem_of_getElem? h1)
theorem LdI.more {K : Pm} {W0 W1 : Wd} {H0 H1 : Hp} {Da : Addr} {acc : List (Key × D)} {y : D} {w : V} (i : LdI K W0 H0 Da W1 H1 acc) (n : H0 Da = none) (k : Key) (r : Rv K W1 H1 w y) :
    ∃ ps, H1 Da = some (.dK ps) ∧ ps.length = acc.length ∧ LdI K W0 H0 Da W1 (upd H1 Da (.dK (putK ps k w))) (putKD acc k y) := by
  obtain ⟨ps, h, q⟩ := i.v
  have nt : ∀ ws, H1 Da ≠ some (.tup ws) := fun ws e => by rw [h] at e; cases e
  have nf : ∀ o u, H1 Da ≠ some (.frz o u) := fun o u e => by rw [h] at e; cases e
  exact ⟨ps, h, q.length, i.x.off n, i.g.off i.b nt nf, i.b, _, upd_same, Drk.off i.b nt nf (q.put k r)⟩
theorem LdI.start {K : Pm} {W0 : Wd} {H0 : Hp} {Da : Addr} (g : Gr K W0 H0) (n : H0 Da = none) : LdI K W0 H0 Da (W0.ban Da) (upd H0 Da (.dK [])) [] :=
  ⟨Ext.ban n, g.ban n, List.mem_cons_self, [], upd_same, .nil⟩
theorem LdI.done {K : Pm} {W0 W1 : Wd} {H0 H1 : Hp} {Da : Addr} {acc : List (Key × D)} (i : LdI K W0 H0 Da W1 H1 acc) (g0 : Gr K W0 H0) (n : H0 Da = none) :
    Ext W0 H0 (W1.bans W0.B) H1 ∧ Gr K (W1.bans W0.B) H1 ∧ Rv K (W1.bans W0.B) H1 (.ref Da) (.dct acc) := by
  obtain ⟨ps, h, q⟩ := i.v
  refine ⟨i.x.bans i.x.b fun _ h => h, i.g.bans i.x.b, .dct (.inl h) (fun l => ?_) (Drk.less (L_bans i.x.b) q)⟩
  rcases l with ⟨m, o, h1, _⟩ | l
  · exact i.g.dis Da i.b (List.mem_of_getElem? h1)
  · obtain ⟨o, e⟩ := g0.thB Da l
    rw [n] at e; cases e
def dcL (g : D → En → P1 En) (t : En → M Bool) (ka va : En → M D) (ρ : En) : List D → List (Key × D) → M (List (Key × D))
  | [], acc => ret acc
  | d :: r, acc => bndN (lft (g d ρ)) fun ρ1 => bndN (t ρ1) fun b => if b = true then bndN (ka ρ1) fun y => bndN (va ρ1) fun z => match keyO y with
      | some k => if acc.length + 1 ≤ mx then dcL g t ka va ρ r (putKD acc k z) else fun _ => none
      | none => fun _ => none
    else dcL g t ka va ρ r acc
def dDc (di : En → M (List D)) (g : D → En → P1 En) (t : En → M Bool) (ka va : En → M D) (own : List Nat) : En → M D := fun ρ => bnd (di ρ) fun ds => bndN (dcL g t ka va (wipeD ρ own) ds []) fun kvs => ret (.dct kvs)
section
variable {X : Cx} {We : WE'}
theorem dc_up {tgr : TG} {di : En → M (List D)} {g : D → En → P1 En} {t : En → M Bool} {ka va : En → M D} {own : List Nat} (hgr : GRaw (Cxp X) tgr g own) {σ : L2.St} {H : Hp} {Q : VK} (h : upE (Cxp X) We (dDc di g t ka va own) σ H Q) :
    tDc (upI (Cxp X) We di) tgr (upT (Cxp X) WeF t) (upE (Cxp X) WeF ka) (upE (Cxp X) WeF va) own σ H Q := by
  obtain ⟨W, ρ, r, G', hR, e, p⟩ := h
  unfold dDc bnd at e
  split at e
  · rename_i ds G1 he
    refine ⟨W, ρ, .inr ds, G1, hR, he, fun W0 H0 eg0 x0 g0 J wd Da nD => ?_⟩
    obtain ⟨Gd, Y, wk, st, yl⟩ := wd.ex
    rw [← eg0] at e
    obtain ⟨kvs, Gx, e1, e2⟩ := bndN_eq e
    cases e2
    have R0 := (hR.keep g0 x0).wipe own
    refine walk_it wk (fun i H1 => ∃ (W1 : Wd) (acc : List (Key × D)), LdI (Cxp X) W0 H0 Da W1 H1 acc ∧ dcL g t ka va (wipeD ρ own) (ds.drop i) acc W1.G = some (.inr kvs, G')) ⟨W0.ban Da, [], LdI.start g0 nD, (show dcL g t ka va (wipeD ρ own) (ds.drop 0) [] W0.G = _ by rw [List.drop_zero]; exact e1)⟩
      (fun i H1 _ ⟨W1, acc, I, _⟩ => st W1 H1 I.x.w I.g) (fun i v H1 H2 hi ⟨W1, acc, I, e5⟩ y => ?_) fun H1 ⟨W1, acc, I, e5⟩ => ?_
    · obtain ⟨d, hd, g2, x2, rv⟩ := yl i W1 H1 v H2 hi I.x.w I.g y
      have ed : ds.drop i = d :: ds.drop (i + 1) := by
        obtain ⟨hl, hv⟩ := List.getElem?_eq_some_iff.mp hd
        rw [List.drop_eq_getElem_cons hl, hv]
      rw [ed] at e5
      unfold dcL at e5
      obtain ⟨ρ1, G2, e7, e8⟩ := bndN_eq e5
      have e7' := lft_eq e7
      have I2 := I.step x2 g2
      refine hgr W1 _ _ H2 v d ρ1 G2 _ (R0.keep g2 I2.x) rv e7' fun σ2 eg2 R2 hw => ⟨hw.trans (wipe_wipe σ own), ?_⟩
      subst eg2
      obtain ⟨b, G3, e9, e10⟩ := bndN_eq e8
      refine ⟨W1, ρ1, .inr b, G3, R2, e9, fun W4 b' H4 eg4 x4 g4 hb => ?_⟩
      cases hb
      rw [← eg4] at e10
      have I4 := I2.step x4 g4
      cases b with
      | false => exact iteF ⟨W4, acc, I4, e10⟩
      | true =>
        rw [if_pos rfl] at e10
        obtain ⟨y1, G5, e11, e12⟩ := bndN_eq e10
        have R4 := R2.keep g4 x4
        refine iteT ⟨W4, ρ1, .inr y1, G5, R4, e11, fun W6 v6 H6 eg6 x6 g6 r6 => ?_⟩
        rw [← eg6] at e12
        obtain ⟨z1, G7, e13, e14⟩ := bndN_eq e12
        have I6 := I4.step x6 g6
        refine ⟨W6, ρ1, .inr z1, G7, R4.keep g6 x6, e13, fun W8 v8 H8 eg8 x8 g8 r8 => ?_⟩
        rw [← eg8] at e14
        have I8 := I6.step x8 g8
        cases hk : keyO y1 with
        | none =>
          rw [hk] at e14
          cases e14
        | some k =>
          rw [hk] at e14
          by_cases hm : acc.length + 1 ≤ mx
          · have e15 : (if acc.length + 1 ≤ mx then dcL g t ka va (wipeD ρ own) (ds.drop (i + 1)) (putKD acc k z1) else fun _ => none) W8.G = some (Sum.inr kvs, G') := e14
            rw [if_pos hm] at e15
            obtain ⟨ps, hv, hl, I9⟩ := I8.more nD k r8
            exact ⟨ps, k, keyO_v (r6.keep g6 x8) hk, hv, mx_lt (by omega), W8, putKD acc k z1, I9, e15⟩
          · have e15 : (if acc.length + 1 ≤ mx then dcL g t ka va (wipeD ρ own) (ds.drop (i + 1)) (putKD acc k z1) else fun _ => none) W8.G = some (Sum.inr kvs, G') := e14
            rw [if_neg hm] at e15
            cases e15
    · rw [List.drop_length] at e5
      unfold dcL at e5
      cases e5
      obtain ⟨xe, ge, re⟩ := I.done g0 nD
      exact p (W1.bans W0.B) _ H1 rfl (x0.trans xe) ge re
  · rename_i er G1 he
    cases e
    exact ⟨W, ρ, .inl er, _, hR, he, p⟩
  · cases e
theorem te_dc {kx vx tg iter : Expr} {ifs : List Expr} {scope : Scope} {own : List (Str × Nat)} {pos : Pos} {tgr : TG} {di : En → M (List D)} {g : D → En → P1 En} {t : En → M Bool} {ka va : En → M D} (hc : X.calm = true) (hN : X.N.Nodup) (hi : PI X tg iter (upI (Cxp X) We di)) (ok : BlkOk X.N X.env.scope scope own)
    (hgr : GRaw (Cxp X) tgr g (own.map (·.2))) (hg : ∀ (s : Shared) (H : Hp) (C : Addr) (cl : List (Str × Addr)) (fp : List Addr), PG (X.blk s H scope (compEnvC scope cl C X.env) fp) tg tgr)
    (ht : ∀ (s : Shared) (H : Hp) (C : Addr) (cl : List (Str × Addr)) (fp : List Addr), PTs (X.blk s H scope (compEnvC scope cl C X.env) fp) ifs (upT (Cxp X) WeF t))
    (hk : ∀ (s : Shared) (H : Hp) (C : Addr) (cl : List (Str × Addr)) (fp : List Addr), PE (X.blk s H scope (compEnvC scope cl C X.env) fp) kx (upE (Cxp X) WeF ka))
    (hv : ∀ (s : Shared) (H : Hp) (C : Addr) (cl : List (Str × Addr)) (fp : List Addr), PE (X.blk s H scope (compEnvC scope cl C X.env) fp) vx (upE (Cxp X) WeF va)) (hs : ∀ x, foldedSetIterable iter X.env x = pure x := by intro _; rfl) :
    PE X (.DictComp kx vx [⟨tg, iter, ifs, 0⟩] scope pos) (upE (Cxp X) We (dDc di g t ka va (own.map (·.2)))) := PE.imp (pe_dc hc hN hi ok hg ht hk hv hs) fun σ H Q h => dc_up (We := We) hgr h
end
end Tw

namespace PySem
open Sem (wp)
/-! ### enumerate of what begins -/
theorem tw_enumNew {v : Value} {o : Obj} {Hc : Heap → Prop} (B : Begins v o Hc) :
    Meets (Builtin.«enumerate.__new__» ⟨[.type "enumerate", v], []⟩) (fun _ R s => Hc s.heap ∧
      R (.ok (.ret (.ref (s.heap.push o).objs.size))) { s with heap := (s.heap.push o).push { cls := .type "enumerate", data := .fields #[.none, .bool false, .ref s.heap.objs.size, rawInt 0, .none, .none] } }) :=
  .of_wp fun prog w A R s h => by
    obtain ⟨hp, ge, dr, tk, os⟩ := s
    obtain ⟨hc, h⟩ := h
    have sb := sub_enumerate
    have it := fun (A' : Around) (E' : Value → Shared → Prop) (Q' : Value → Shared → Prop) => B.iter prog w A' E' ⟨hp, ge, dr, tk, os⟩ Q' hc
    wp_walk
    refine wpAny_stack_any fun st => wpAny_pure ?_
    split
    · rename_i c _ _ _ _ _
      cases (c == Value.type "enumerate")
      · wp_walk using it
        exact ⟨_, rfl, h⟩
      · wp_walk using it
        exact ⟨_, rfl, h⟩
    · wp_walk using it
      exact ⟨_, rfl, h⟩
section
variable {prog : Program} {w : World} {A : Around} {E : Value → Shared → Prop} {s : Shared}
theorem tw_enumCall {v : Value} {o : Obj} {Hc : Heap → Prop} {Q : Value → Shared → Prop} (B : Begins v o Hc) (hc : Hc s.heap)
    (h : ∀ h', IsEnum h' (s.heap.objs.size + 1) s.heap.objs.size 0 .none → h'.get? s.heap.objs.size = some o → (∀ b u, s.heap.get? b = some u → h'.get? b = some u) → Q (.ref (s.heap.objs.size + 1)) { s with heap := h' }) :
    wpAny (model prog w) A (call (.type "enumerate") [v]) Q E s := by
  refine callType_new F.called_enumerate (by decide) (F.typeCall_enumerate_1 _) (F.newCall_enumerate_1 _) (fun obj => F.args_object_init_2 obj _) F.entry_enumerate_new (tw_enumNew B) ⟨hc, ?_⟩
  have z : (s.heap.push o).objs.size = s.heap.objs.size + 1 := Heap.size_push ..
  show _ ∧ _
  rw [z]
  have e := Heap.get?_push_size (s.heap.push o) (o := { cls := .type "enumerate", data := .fields #[.none, .bool false, .ref s.heap.objs.size, rawInt 0, .none, .none] }) rfl
  rw [z] at e
  exact ⟨⟨_, e, rfl⟩, h _ e (Heap.get?_push_of_some _ (Heap.get?_push_size _ B.free)) fun b u x => Heap.get?_push_of_some _ (Heap.get?_push_of_some _ x)⟩
end
end PySem
namespace Tw
open PySem PySem.Spec PyProof.Rows L2
/-- pairs of a place and an item, the tuple at a as it stands -/
def IteT (K : PySem.W.Frag) (a : Addr) : It :=
  ⟨fun i H => ∃ (xs : List V) (x : V), SqT K H a xs ∧ xs[i]? = some x, fun i H v H' => ∃ T x, v = .ref T ∧ H T = none ∧ H' = upd H T (.tup [.int (i : Nat), x]) ∧ ∀ xs, SqT K H a xs → xs[i]? = some x, fun i H => ∃ xs : List V, SqT K H a xs ∧ xs.length = i⟩
theorem turn_enumT {P : Program} {w : World} {K : PySem.W.Frag} {elts : List Expr} {kk : Nat} {tpos : Pos} (a e it : Addr) (nt : a ≠ it) (ne : e ≠ it) (nea : e ≠ a) :
    Turn P w K (.Tuple elts kk tpos) (IteT K a) [e, it] e (fun i h => (∃ old, IsEnum h e it ((i : Nat) : Int) old) ∧ h.IsTupleIter it a i) where
  mem := by simp
  obj := by
    intro i h st b hb
    obtain ⟨⟨old, he⟩, o, ho, hc, hd⟩ := st
    have z : b = e ∨ b = it := by simpa using hb
    rcases z with rfl | rfl
    · exact ⟨_, he, fun v q => nomatch q⟩
    · exact ⟨o, ho, fun v q => by rw [hd] at q; cases q⟩
  keep := by
    intro i h h' st k
    obtain ⟨⟨old, he⟩, o, ho, r⟩ := st
    exact ⟨⟨old, k e (by simp) _ he⟩, o, k it (by simp) o ho, r⟩
  item := by
    intro X hP hw hK hcalm i pins s σ H E I hf st hg
    subst hP hw hK
    obtain ⟨⟨old, he⟩, hit⟩ := st
    obtain ⟨xs, x, hq, hx⟩ := hg
    obtain ⟨its, rv, tu, hz⟩ := I.tuple hq
    obtain ⟨u, hu, ru⟩ := rv.get hx
    have le : e < s.heap.objs.size := Heap.lt_size he
    have li : it < s.heap.objs.size := by obtain ⟨_, q, _⟩ := hit; exact Heap.lt_size q
    have lt : i < its.toArray.size := by
      have := (List.getElem?_eq_some_iff.mp hu).1
      simpa using this
    refine wpAny_pyNext_enum_itemC (Draws.tuple (A := X.A.in1) (show X.A.in1.handled = none from I.ok.hd hcalm) it a nt its.toArray) he ⟨hit, tu⟩ lt ne (by simp [ne, nea]) fun y h1 tk py out st1 ht hs1 hk => ?_
    have ey : y = u := by
      have q : its.toArray[i]? = some u := by simpa using hu
      have p : its.toArray[i]? = some y := py
      rw [q] at p
      exact (Option.some.inj p).symm
    subst ey
    refine ⟨_, rfl, wpAny_letOwnedTupleGo_enum (s := { s with heap := h1, toks := tk + 1 }) out fun h2 he2 sb => ?_⟩
    have ht2 : h2.get? s.heap.objs.size = some { cls := .type "tuple", data := .seq #[.int i tk, y] } := (sb.2 _ (Nat.ne_of_gt le)).trans ht
    have new : ObjOk X.prog X.w (upd H s.heap.objs.size (.tup [.int (i : Nat), x])) h2 s.heap.objs.size (.tup [.int (i : Nat), x]) :=
      ⟨by show 2 ≤ sizeLine; decide, [.int i tk, y], .cons ⟨_, rfl⟩ (.cons ru .nil), ⟨_, ht2, rfl, _, rfl⟩⟩
    have J : Inv X pins σ (upd H s.heap.objs.size (.tup [.int (i : Nat), x])) { s with heap := h2, toks := tk + 1 } :=
      I.turnedNew (ch := [e, it]) (fun b ob hb q => (sb.2 b (fun z => hb (by simp [z]))).trans (hk b ob (fun z => hb (by simp [z])) (fun z => hb (by simp [z])) q)) hf (Nat.le_refl _) new
    refine ⟨.ref s.heap.objs.size, _, J, rfl, ⟨_, x, rfl, I.hok.fresh (Nat.le_refl _), rfl, fun ys hy => by rw [I.tuple_inj hy hq]; exact hx⟩, ⟨⟨y, ?_⟩, st1.1.at fun o q => (sb.2 it (Ne.symm ne)).trans q⟩, fun b hb => ?_⟩
    · have e1 : ((i + 1 : Nat) : Int) = (i : Int) + 1 := by omega
      rw [e1]
      exact he2
    · have lb : b < s.heap.objs.size := by
        have z : b = e ∨ b = it := by simpa using hb
        rcases z with rfl | rfl
        · exact le
        · exact li
      rw [upd_ne (Nat.ne_of_lt lb)]
      exact (hf b hb).1
  done := by
    intro X hP hw hK hcalm i pins s σ H E I hf st hg
    subst hP hw hK
    obtain ⟨⟨old, he⟩, hit⟩ := st
    obtain ⟨xs, hq, hx⟩ := hg
    obtain ⟨its, rv, tu, hz⟩ := I.tuple hq
    obtain ⟨f0, f1, f2, f3, f4, f5⟩ := hf it (by simp)
    have en : its.toArray.size = i := by
      have := rv.length
      simp
      omega
    refine wpAny_pyNext_enum_endD (Draws.tuple (A := X.A.in1) (show X.A.in1.handled = none from I.ok.hd hcalm) it a nt its.toArray) he ⟨by rw [en]; exact hit, tu⟩ fun h1 eb => ⟨rfl, I.turned (t' := s.toks) (fun b o hb q => eb b o hb q) f0 f1 f3 f4 f5⟩
  self := fun A i s Q E st h => let ⟨⟨_, he⟩, _⟩ := st; wpAny_pyIter_enum he h
def iEnumT (K : PySem.W.Frag) (ta : TA) : TI := fun σ H R => ta σ H fun vs H1 => ∃ a xs, vs = [.ref a] ∧ SqT K H1 a xs ∧ R (IteT K a) H1
theorem pi_enumT {X : Cx} {e : Expr} {ta : TA} {p pos tpos : Pos} {elts : List Expr} {kk : Nat} (hg : Gl X "enumerate") (hm : X.mg "enumerate" = none) (ha : PA X [e] ta) (hs : starEach [e] X.env = [(false, eval e X.env)] := by rfl) :
    PI X (.Tuple elts kk tpos) (.Call (.Name "enumerate" p) [e] [] pos) (iEnumT X.K ta) := by
  refine ⟨fun pins s σ H R I h => ?_⟩
  refine Call_ (ld_blt I hg hm boot_enumerate (PyProof.Rows.callWith_type1 (thn (ha.run pos pins s σ H _ I h) fun us s1 hh => ?_) hs rfl))
  obtain ⟨vs, H1, I1, r1, a, xs, rfl, hq, q⟩ := hh
  cases r1 with
  | cons r rr =>
    cases rr
    cases r
    obtain ⟨its, rv, tu, hz⟩ := I1.tuple hq
    have la : a < s1.heap.objs.size := tu.lt
    refine tw_enumCall (begins_tuple a its.toArray) tu fun h' he hi hk => wpAny_pyIter_enum he ?_
    have I2 : Inv X pins σ H1 { s1 with heap := h' } := I1.kept (t' := s1.toks) hk
    refine ⟨s1.heap.objs.size + 1, [s1.heap.objs.size + 1, s1.heap.objs.size], _, _, H1, rfl, I2, turn_enumT a (s1.heap.objs.size + 1) s1.heap.objs.size (Nat.ne_of_lt la) (Nat.succ_ne_self _) (Nat.ne_of_gt (Nat.lt_succ_of_lt la)), ⟨⟨.none, he⟩, _, hi, rfl, rfl⟩, fun b hb => ?_, q⟩
    have le : s1.heap.objs.size ≤ b := by
      have z : b = s1.heap.objs.size + 1 ∨ b = s1.heap.objs.size := by simpa using hb
      rcases z with z | z
      · rw [z]; exact Nat.le_succ _
      · rw [z]; exact Nat.le_refl _
    exact I1.fpOk le (I1.hok.fresh le)
/-- the layer's rule -/
def enumT1 : List D → Option (List D)
  | [x] => (itT x).map enumD
  | _ => none
theorem ti_enumT {X : Cx} {We : WE'} {a : Expr} {ta : En → M (List D)} {p pos tpos : Pos} {elts : List Expr} {kk : Nat} (hg : Gl X "enumerate") (hm : X.mg "enumerate" = none) (ha : PA X [a] (upA (Cxp X) We ta)) (hs : starEach [a] X.env = [(false, eval a X.env)] := by rfl) :
    PI X (.Tuple elts kk tpos) (.Call (.Name "enumerate" p) [a] [] pos) (upI (Cxp X) We (dRng enumT1 ta)) := PI.imp (pi_enumT hg hm ha hs) fun σ H R0 h => by
  obtain ⟨W, ρ, r, G', hR, e, p⟩ := h
  refine upi_bnd hR e p fun d W1 v H1 x1 R1 r1 e1 p1 => ?_
  obtain ⟨ds, e2, p2⟩ := upi_lft e1 p1
  obtain ⟨e2, eg⟩ := pur_eq e2
  obtain ⟨x, rfl, e3⟩ : ∃ x, d = [x] ∧ (itT x).map enumD = some ds := by
    revert e2
    unfold enumT1
    split
    · intro h; exact ⟨_, rfl, h⟩
    · intro h; cases h
  · cases hx : itT x with
    | none => rw [hx] at e3; cases e3
    | some xs =>
      rw [hx] at e3
      cases e3
      cases r1 with
      | cons h r1 =>
        cases r1
        obtain ⟨b, vs, rfl, l, sq, st⟩ := itT_sq R1.gr h hx
        refine ⟨b, vs, rfl, sq, p2 W1 H1 eg.symm Ext.refl R1.gr _ ⟨fun H => SqT X.K H b vs, fun i H v H' => ∃ T x, v = .ref T ∧ H T = none ∧ H' = upd H T (.tup [.int (i : Nat), x]) ∧ vs[i]? = some x, ?_, fun W' H' x _ => (st W' H' x).1, fun i W' H' y H'' hi x g q => ?_⟩⟩
        · rw [enumD_len, ← l]
          refine ⟨fun i H hi q => ⟨vs, vs[i], q, by simp [hi]⟩, fun H q => ⟨vs, q, rfl⟩, fun i H v H' hi q y => ?_⟩
          obtain ⟨T, x0, h1, h2, h3, h4⟩ := y
          exact ⟨T, x0, h1, h2, h3, h4 _ q⟩
        · obtain ⟨T, x0, rfl, n, rfl, q1⟩ := q
          obtain ⟨d0, h1, h2⟩ := (st W' _ x).2.at2 q1
          obtain ⟨g', x', rv⟩ := pair_new g (.int _) h2 n
          exact ⟨_, enumD_at h1, g', x', rv⟩
end Tw

namespace Tw
open PySem PySem.Spec PyProof.Rows L2
/-! ### min of a tuple of ints -/
def rMinT (K : PySem.W.Frag) : List V → Hp → VK → Prop := fun vs H Q => ∃ (a : Addr) (n : Int) (ns : List Int), vs = [.ref a] ∧ SqT K H a ((n :: ns).map V.int) ∧ Q (.int (ns.foldl min n)) H
theorem reads_of_ints {h : Heap} : ∀ {ns : List Int} {us : List Value}, Vals (ns.map V.int) us → ReadsAll h us (ns.map PyData.int) []
  | [], us, r => by
    rw [List.map_nil] at r
    cases r
    exact .nil
  | n :: ns, us, r => by
    rw [List.map_cons] at r
    cases r with
    | cons a t =>
      obtain ⟨tk, rfl⟩ := a
      exact .cons (as := []) (bs := []) (.int n tk) (reads_of_ints t)
theorem cr_minT {X : Cx} (hc : X.calm = true) (hu : X.A.units + 64 < cLine) : CallR X (.builtin "min") (rMinT X.K) := by
  intro pins s σ H vs us Q I r h
  obtain ⟨a, n, ns, rfl, hs, q⟩ := h
  obtain ⟨its, rv, tu, _⟩ := I.tuple hs
  rw [Vals.ref1 r]
  have rd : ReadsAll s.heap its.toArray.toList (.int n :: ns.map PyData.int) [] := by
    have := reads_of_ints (h := s.heap) rv
    simpa using this
  have al : PySem.W.AlikeAll (.int n :: ns.map PyData.int) := by
    refine ⟨fun x hx y hy => ?_, fun x hx => ?_⟩
    · have ix : ∃ i, x = .int i := by
        rcases List.mem_cons.mp hx with z | z
        · exact ⟨n, z⟩
        · obtain ⟨i, _, e⟩ := List.mem_map.mp z; exact ⟨i, e.symm⟩
      have iy : ∃ i, y = .int i := by
        rcases List.mem_cons.mp hy with z | z
        · exact ⟨n, z⟩
        · obtain ⟨i, _, e⟩ := List.mem_map.mp z; exact ⟨i, e.symm⟩
      obtain ⟨i, rfl⟩ := ix
      obtain ⟨j, rfl⟩ := iy
      rfl
    · rcases List.mem_cons.mp hx with z | z
      · rw [z]; exact fun q => nomatch q
      · obtain ⟨i, _, e⟩ := List.mem_map.mp z
        rw [← e]; exact fun q => nomatch q
  have dp : PyData.depthAll (.int n :: ns.map PyData.int) = 0 := PySem.W.depth_ints (n :: ns)
  refine PySem.W.min_tuple_data (I.ok.hd hc) tu rd al (by rw [dp]; omega) fun i v h' tk bs hv rdv hk => ?_
  rw [PySem.W.minD_ints] at rdv
  cases rdv
  exact ⟨.int _, H, I.kept (t' := tk) hk, ⟨_, rfl⟩, q⟩
def minTF (xs : List D) : Option D := match intsO xs with
  | some (n :: ns) => some (.int (ns.foldl min n))
  | _ => none
def tP (f : List D → Option D) : List D → P1 D := fun ds G => match ds with
  | [.tup xs] => match f xs with
    | some d => some (d, G)
    | none => none
  | _ => none
theorem cd_minT {K : Pm} : CallD K (rMinT K.K) (tP minTF) := fun W H vs ds d G' Q g r e p => by
  unfold tP at e
  split at e
  · rename_i xs
    cases hx : intsO xs with
    | none => simp [minTF, hx] at e
    | some is =>
      cases is with
      | nil => simp [minTF, hx] at e
      | cons n ns =>
        simp [minTF, hx] at e
        obtain ⟨rfl, rfl⟩ := e
        cases r with
        | cons h r =>
          cases r
          cases h with
          | tup h q =>
            have ev := ints_v q hx
            subst ev
            exact ⟨_, n, ns, rfl, h, p W _ H rfl Ext.refl g (.int _)⟩
  · cases e
/-! ### -e -/
def negO : D → Option D
  | .int i => some (.int (-i))
  | _ => none
def dNeg (a : En → M D) : En → M D := fun ρ => bnd (a ρ) fun d => lft (pur (negO d))
theorem te_neg {X : Cx} {We : WE'} {a : Expr} {da : En → M D} {pos : Pos} (ha : PE X a (upE (Cxp X) We da)) : PE X (.UnaryOp .USub a pos) (upE (Cxp X) We (dNeg da)) := PE.imp (pe_un un_neg ha) fun σ H Q h => by
  obtain ⟨W, ρ, r, G', hR, e, p⟩ := h
  refine up_bnd hR e p fun d W1 v H1 x1 R1 r1 e1 p1 => ?_
  obtain ⟨d2, e2, p2⟩ := up_lft e1 p1
  obtain ⟨e2, eg⟩ := pur_eq e2
  unfold negO at e2
  split at e2
  · cases e2
    cases r1
    exact ⟨_, rfl, p2 W1 _ H1 eg.symm Ext.refl R1.gr (.int _)⟩
  · cases e2
end Tw

namespace Tw
open PySem PySem.Spec PyProof.Rows L2
/-! ### more numbers, less that is barred -/
section
variable {K : Pm} {L L' : Addr → Prop} {α : List Addr} {H : Hp}
mutual
theorem Dr.grow (le : ∀ a, L' a → L a) (t : List Addr) : ∀ {v : V} {d : D}, Dr K L α H v d → Dr K L' (α ++ t) H v d
  | _, _, .non => .non
  | _, _, .bl b => .bl b
  | _, _, .int i => .int i
  | _, _, .str z => .str z
  | _, _, .tup h r => .tup h (Drs.grow le t r)
  | _, _, .lst h n r => .lst h (fun l => n (le _ l)) (Drs.grow le t r)
  | _, _, .scr h r => .scr (h.imp (fun z => ⟨fun l => z.1 (le _ l), z.2⟩) id) (Drs.grow le t r)
  | _, _, .dct h n r => .dct h (fun l => n (le _ l)) (Drk.grow le t r)
  | _, _, .set h n nd e => .set h (fun l => n (le _ l)) nd e
  | _, _, .ref h => .ref (by rw [List.getElem?_append_left (List.getElem?_eq_some_iff.mp h).1]; exact h)
  | _, _, .glo a => .glo a
  | _, _, .ty n => .ty n
  | _, _, .dcl h n r => .dcl h (fun l => n (le _ l)) (Drk.grow le t r)
  | _, _, .tpn h r => .tpn h (Drs.grow le t r)
  | _, _, .cls h => .cls h
  | _, _, .exc h e n => .exc h e (fun l => n (le _ l))
  | _, _, .exf h e n e2 n2 r => .exf h e (fun l => n (le _ l)) e2 (fun l => n2 (le _ l)) (Dr.grow le t r)
theorem Drs.grow (le : ∀ a, L' a → L a) (t : List Addr) : ∀ {vs : List V} {ds : List D}, Drs K L α H vs ds → Drs K L' (α ++ t) H vs ds
  | _, _, .nil => .nil
  | _, _, .cons h r => .cons (Dr.grow le t h) (Drs.grow le t r)
theorem Drk.grow (le : ∀ a, L' a → L a) (t : List Addr) : ∀ {ps : List (Key × V)} {kvs : List (Key × D)}, Drk K L α H ps kvs → Drk K L' (α ++ t) H ps kvs
  | _, _, .nil => .nil
  | _, _, .cons h r => .cons (Dr.grow le t h) (Drk.grow le t r)
end
end
/-! ### a comprehension whose list is changed later -/
structure FinOk (K : Pm) (fin : List D → P1 D) : Prop where
  len : ∀ (ys : List D) (G : List O) (d : D) (G' : List O), fin ys G = some (d, G') → ys.length ≤ mx
  ok : ∀ {W0 : Wd} {H0 : Hp} {Da : Addr} {W1 : Wd} {H1 : Hp} {acc : List D} {d : D} {G' : List O}, LcI K W0 H0 Da W1 H1 acc → Gr K W0 H0 → H0 Da = none → fin acc W1.G = some (d, G') → ∃ W', W'.G = G' ∧ Ext W0 H0 W' H1 ∧ Gr K W' H1 ∧ Rv K W' H1 (.ref Da) d
theorem fin_new {K : Pm} : FinOk K newL := by
  refine ⟨fun ys G d G' h => (newL_eq h).1, fun {W0 H0 Da W1 H1 acc d G'} I g0 n h => ?_⟩
  obtain ⟨_, rfl, rfl⟩ := newL_eq h
  obtain ⟨x, g, r⟩ := I.done g0 n
  obtain ⟨vs, hv, q⟩ := I.v
  have na : Da ∉ W1.α := I.g.dis Da I.b
  have nb : Da ∉ W0.B := fun l => by
    obtain ⟨o, e⟩ := g0.thB Da l
    rw [n] at e; cases e
  have hl : W1.α.length = W1.G.length := I.g.len
  have lv : ∀ b, live ((W1.bans W0.B).new Da (.lst acc)) b → live (W1.bans W0.B) b ∨ b = Da := fun b l => live_new hl l
  have xx : Ext W0 H0 ((W1.bans W0.B).new Da (.lst acc)) H1 := by
    obtain ⟨t, ht⟩ := x.pre
    refine ⟨x.b, x.b', x.th, ⟨t ++ [Da], ?_⟩, fun c o hc l => ?_, x.tup⟩
    · show W1.α ++ [Da] = _
      have ht' : W1.α = W0.α ++ t := ht
      rw [ht', List.append_assoc]
    · obtain ⟨k1, k2⟩ := x.keep c o hc l
      refine ⟨k1, fun z => ?_⟩
      rcases lv c z with z | z
      · exact k2 z
      · rw [z, n] at hc; cases hc
  have le : ∀ c, L ((W1.bans W0.B).new Da (.lst acc)) c → L W1 c := fun c l => by
    rcases l with l | l
    · rcases lv c l with z | z
      · exact .inl z
      · exact .inr (by rw [z]; exact I.b)
    · exact .inr (I.x.b c l)
  have gg : Gr K ((W1.bans W0.B).new Da (.lst acc)) H1 := by
    refine ⟨by simp [Wd.new, Wd.bans, hl], ?_, fun c hc => ?_, fun c hc => ?_, fun c hc => I.g.thB c (I.x.b c hc), fun m c u h1 h2 => ?_⟩
    · show (W1.α ++ [Da]).Nodup
      rw [List.nodup_append]
      refine ⟨I.g.nd, by simp, fun c hc b hb => ?_⟩
      have : b = Da := by simpa using hb
      rw [this]; rintro rfl; exact na hc
    · show c ∉ W1.α ++ [Da]
      have hc' : c ∈ W0.B := hc
      simp only [List.mem_append, List.mem_singleton, not_or]
      exact ⟨I.g.dis c (I.x.b c hc'), fun z => nb (by rw [← z]; exact hc')⟩
    · have hc' : c ∈ W1.α ++ [Da] := hc
      rcases List.mem_append.mp hc' with z | z
      · exact I.g.thA c z
      · have : c = Da := by simpa using z
        rw [this]; exact ⟨_, hv⟩
    · have h1' : (W1.α ++ [Da])[m]? = some c := h1
      have h2' : (W1.G ++ [O.lst acc])[m]? = some u := h2
      by_cases hm : m < W1.α.length
      · rw [List.getElem?_append_left hm] at h1'
        rw [List.getElem?_append_left (by omega)] at h2'
        have ob := I.g.obj m c u h1' h2'
        cases u with
        | lst ds => obtain ⟨ws, e1, e2⟩ := ob; exact ⟨ws, e1, Drs.grow le [Da] e2⟩
        | dct kvs => obtain ⟨ps, e1, e2⟩ := ob; exact ⟨ps, e1, Drk.grow le [Da] e2⟩
        | dlk kvs => obtain ⟨o, ps, e1, e2⟩ := ob; exact ⟨o, ps, e1, Drk.grow le [Da] e2⟩
        | gone => exact True.intro
      · rw [List.getElem?_append_right (by omega)] at h1'
        rw [List.getElem?_append_right (by omega)] at h2'
        have em : m - W1.α.length = m - W1.G.length := by omega
        rw [em] at h1'
        cases hk : m - W1.G.length with
        | zero =>
          rw [hk] at h1' h2'
          simp at h1' h2'
          subst h1' h2'
          exact ⟨vs, hv, Drs.grow le [Da] q⟩
        | succ k => rw [hk] at h1'; simp at h1'
  refine ⟨_, rfl, xx, gg, .ref ?_⟩
  show (W1.α ++ [Da])[W1.G.length]? = some Da
  rw [← hl]
  simp
section
variable {X : Cx} {We : WE'}
def dLcF (fin : List D → P1 D) (di : En → M (List D)) (g : D → En → P1 En) (t : En → M Bool) (a : En → M D) (own : List Nat) : En → M D := fun ρ => bnd (di ρ) fun ds => bndN (lcL g t a (wipeD ρ own) ds) fun ys => lft (fin ys)
theorem lc_upF {fin : List D → P1 D} (hfin : FinOk (Cxp X) fin) {wi : TI} {tgr : TG} {di : En → M (List D)} {g : D → En → P1 En} {t : En → M Bool} {a : En → M D} {own : List Nat} (hgr : GRaw (Cxp X) tgr g own) {σ : L2.St} {H : Hp} {Q : VK} (h : upE (Cxp X) We (dLcF fin di g t a own) σ H Q) :
    tLc (upI (Cxp X) We di) tgr (upT (Cxp X) WeF t) (upE (Cxp X) WeF a) own σ H Q := by
  obtain ⟨W, ρ, r, G', hR, e, p⟩ := h
  unfold dLcF bnd at e
  split at e
  · rename_i ds G1 he
    refine ⟨W, ρ, .inr ds, G1, hR, he, fun W0 H0 eg0 x0 g0 J wd Da nD => ?_⟩
    obtain ⟨Gd, Y, wk, st, yl⟩ := wd.ex
    rw [← eg0] at e
    obtain ⟨ys, Gx, e1, e2⟩ := bndN_eq e
    obtain ⟨dl, e3, e4⟩ : ∃ dl, fin ys Gx = some (dl, G') ∧ r = .inr dl := by
      unfold lft at e2
      split at e2
      · rename_i dl G2 hk; cases e2; exact ⟨dl, hk, rfl⟩
      · cases e2
    subst e4
    have hz : ys.length ≤ mx := hfin.len _ _ _ _ e3
    have R0 := (hR.keep g0 x0).wipe own
    refine lc_it wk (fun i H1 => ∃ (W1 : Wd) (acc rest : List D), LcI (Cxp X) W0 H0 Da W1 H1 acc ∧ lcL g t a (wipeD ρ own) (ds.drop i) W1.G = some (.inr rest, Gx) ∧ ys = acc ++ rest) ⟨W0.ban Da, [], ys, LcI.start g0 nD, (show lcL g t a (wipeD ρ own) (ds.drop 0) W0.G = _ by rw [List.drop_zero]; exact e1), rfl⟩
      (fun i H1 _ ⟨W1, acc, rest, I, _⟩ => st W1 H1 I.x.w I.g) (fun i v H1 H2 hi ⟨W1, acc, rest, I, e5, e6⟩ y => ?_) fun H1 ⟨W1, acc, rest, I, e5, e6⟩ => ?_
    · obtain ⟨d, hd, g2, x2, rv⟩ := yl i W1 H1 v H2 hi I.x.w I.g y
      have ed : ds.drop i = d :: ds.drop (i + 1) := by
        obtain ⟨hl, hv⟩ := List.getElem?_eq_some_iff.mp hd
        rw [List.drop_eq_getElem_cons hl, hv]
      rw [ed] at e5
      unfold lcL at e5
      obtain ⟨ρ1, G2, e7, e8⟩ := bndN_eq e5
      have e7' : g d (wipeD ρ own) W1.G = some (ρ1, G2) := by
        unfold lft at e7
        split at e7
        · rename_i a1 G3 hk; cases e7; exact hk
        · cases e7
      have I2 := I.step x2 g2
      refine hgr W1 _ _ H2 v d ρ1 G2 _ (R0.keep g2 I2.x) rv e7' fun σ2 eg2 R2 hw => ⟨hw.trans (wipe_wipe σ own), ?_⟩
      subst eg2
      obtain ⟨b, G3, e9, e10⟩ := bndN_eq e8
      refine ⟨W1, ρ1, .inr b, G3, R2, e9, fun W4 b' H4 eg4 x4 g4 hb => ?_⟩
      cases hb
      rw [← eg4] at e10
      have I4 := I2.step x4 g4
      cases b with
      | false => exact iteF ⟨W4, acc, rest, I4, e10, e6⟩
      | true =>
        rw [if_pos rfl] at e10
        obtain ⟨y1, G5, e11, e12⟩ := bndN_eq e10
        refine iteT ⟨W4, ρ1, .inr y1, G5, R2.keep g4 x4, e11, fun W6 v6 H6 eg6 x6 g6 r6 => ?_⟩
        rw [← eg6] at e12
        obtain ⟨rest', G7, e13, e14⟩ := bndN_eq e12
        cases e14
        have I6 := I4.step x6 g6
        obtain ⟨vs, hv, hlv, I7⟩ := I6.more nD r6
        refine ⟨vs, hv, ?_, W6, acc ++ [y1], rest', I7, e13, by rw [e6]; simp⟩
        have : ys.length = acc.length + (rest'.length + 1) := by rw [e6]; simp
        exact mx_lt (by omega)
    · rw [List.drop_length] at e5
      unfold lcL at e5
      cases e5
      rw [List.append_nil] at e6
      subst e6
      obtain ⟨W', eg', xe, ge, re⟩ := hfin.ok I g0 nD e3
      exact p W' _ H1 eg' (x0.trans xe) ge re
  · rename_i er G1 he
    cases e
    exact ⟨W, ρ, .inl er, _, hR, he, p⟩
  · cases e
theorem te_lcF {fin : List D → P1 D} (hfin : ∀ {X : Cx}, FinOk (Cxp X) fin) {elt tg iter : Expr} {ifs : List Expr} {scope : Scope} {own : List (Str × Nat)} {pos : Pos} {tgr : TG} {di : En → M (List D)} {g : D → En → P1 En} {t : En → M Bool} {a : En → M D} (hc : X.calm = true) (hN : X.N.Nodup) (hi : PI X tg iter (upI (Cxp X) We di)) (ok : BlkOk X.N X.env.scope scope own)
    (hgr : GRaw (Cxp X) tgr g (own.map (·.2))) (hg : ∀ (s : Shared) (H : Hp) (C : Addr) (cl : List (Str × Addr)) (fp : List Addr), PG (X.blk s H scope (compEnvC scope cl C X.env) fp) tg tgr)
    (ht : ∀ (s : Shared) (H : Hp) (C : Addr) (cl : List (Str × Addr)) (fp : List Addr), PTs (X.blk s H scope (compEnvC scope cl C X.env) fp) ifs (upT (Cxp X) WeF t))
    (he : ∀ (s : Shared) (H : Hp) (C : Addr) (cl : List (Str × Addr)) (fp : List Addr), PE (X.blk s H scope (compEnvC scope cl C X.env) fp) elt (upE (Cxp X) WeF a)) (hs : ∀ x, foldedSetIterable iter X.env x = pure x := by intro _; rfl) :
    PE X (.ListComp elt [⟨tg, iter, ifs, 0⟩] scope pos) (upE (Cxp X) We (dLcF fin di g t a (own.map (·.2)))) := PE.imp (pe_lc hc hN hi ok hg ht he hs) fun σ H Q h => lc_upF hfin (wi := upI (Cxp X) We di) hgr h
/-- name = [..] -/
theorem tS_setLcF {fin : List D → P1 D} (hfin : ∀ {X : Cx}, FinOk (Cxp X) fin) {i : Nat} {y : Str} {py : Pos} {elt tg iter : Expr} {ifs : List Expr} {scope : Scope} {own : List (Str × Nat)} {pos spos : Pos} {tgr : TG} {di : En → M (List D)} {g : D → En → P1 En} {t : En → M Bool} {a : En → M D} (hc : X.calm = true) (hN : X.N.Nodup) (hy : X.N[i]? = some y) (hyl : X.env.scope.names.lookup y = some .local)
    (hsw : swapsWith (.ListComp elt [⟨tg, iter, ifs, 0⟩] scope pos) (some (.Name y py)) spos.line X.env = pure true) (hi : PI X tg iter (upI (Cxp X) We di)) (ok : BlkOk X.N X.env.scope scope own)
    (hgr : GRaw (Cxp X) tgr g (own.map (·.2))) (hg : ∀ (s : Shared) (H : Hp) (C : Addr) (cl : List (Str × Addr)) (fp : List Addr), PG (X.blk s H scope (compEnvC scope cl C X.env) fp) tg tgr)
    (ht : ∀ (s : Shared) (H : Hp) (C : Addr) (cl : List (Str × Addr)) (fp : List Addr), PTs (X.blk s H scope (compEnvC scope cl C X.env) fp) ifs (upT (Cxp X) WeF t))
    (he : ∀ (s : Shared) (H : Hp) (C : Addr) (cl : List (Str × Addr)) (fp : List Addr), PE (X.blk s H scope (compEnvC scope cl C X.env) fp) elt (upE (Cxp X) WeF a)) (hs : ∀ x, foldedSetIterable iter X.env x = pure x := by intro _; rfl) :
    PS X (.Assign [.Name y py] (.ListComp elt [⟨tg, iter, ifs, 0⟩] scope pos) spos) (ups (Cxp X) We (dAsg (dLcF fin di g t a (own.map (·.2))) (gN i))) := PS.imp (ps_setLc hc hN hy hyl hsw hi ok hg ht he hs) fun D0 σ H h => by
  obtain ⟨W, ρ, r, G', hR, e, p⟩ := h
  refine lc_upF hfin (We := We) (wi := upI (Cxp X) We di) hgr (ups_bnd hR e p fun d W1 v H1 x1 R1 r1 e1 p1 => ?_)
  obtain ⟨ρ', G2, e2, e3⟩ := bnd_lft e1
  cases e2
  exact nx_end e3 p1 rfl Ext.refl (R1.set r1 i)
end
end Tw

namespace Tw
open PySem PySem.Spec PyProof.Rows L2
/-! ### name = {k: v for ..} -/
section
variable {X : Cx} {We : WE'}
theorem sw_trueD {kx vx : Expr} {gs : List Comprehension} {scope : Scope} {pos py : Pos} {y : Str} {l : Nat} {env : Env} (k1 : env.scope.kind = .function) (k2 : env.scope.names.lookup y = some .local) (k3 : (py.line == pos.line) = true)
    (k4 : (scope.names.any fun (n, k) => n == y && (k == .local || k == .cell)) = false) : swapsWith (.DictComp kx vx gs scope pos) (some (.Name y py)) l env = pure true := by
  have z1 : env.kindOf y = some .local := k2
  have z2 : env.blockKind = .function := by
    unfold Env.blockKind
    rw [k1]; rfl
  unfold swapsWith
  simp only [z1, z2, k4, Expr.pos, k3]
  rfl
theorem tS_setDc {i : Nat} {y : Str} {py : Pos} {kx vx tg iter : Expr} {ifs : List Expr} {scope : Scope} {own : List (Str × Nat)} {pos spos : Pos} {tgr : TG} {di : En → M (List D)} {g : D → En → P1 En} {t : En → M Bool} {ka va : En → M D} (hc : X.calm = true) (hN : X.N.Nodup) (hy : X.N[i]? = some y) (hyl : X.env.scope.names.lookup y = some .local)
    (hsw : swapsWith (.DictComp kx vx [⟨tg, iter, ifs, 0⟩] scope pos) (some (.Name y py)) spos.line X.env = pure true) (hi : PI X tg iter (upI (Cxp X) We di)) (ok : BlkOk X.N X.env.scope scope own)
    (hgr : GRaw (Cxp X) tgr g (own.map (·.2))) (hg : ∀ (s : Shared) (H : Hp) (C : Addr) (cl : List (Str × Addr)) (fp : List Addr), PG (X.blk s H scope (compEnvC scope cl C X.env) fp) tg tgr)
    (ht : ∀ (s : Shared) (H : Hp) (C : Addr) (cl : List (Str × Addr)) (fp : List Addr), PTs (X.blk s H scope (compEnvC scope cl C X.env) fp) ifs (upT (Cxp X) WeF t))
    (hk : ∀ (s : Shared) (H : Hp) (C : Addr) (cl : List (Str × Addr)) (fp : List Addr), PE (X.blk s H scope (compEnvC scope cl C X.env) fp) kx (upE (Cxp X) WeF ka))
    (hv : ∀ (s : Shared) (H : Hp) (C : Addr) (cl : List (Str × Addr)) (fp : List Addr), PE (X.blk s H scope (compEnvC scope cl C X.env) fp) vx (upE (Cxp X) WeF va)) (hs : ∀ x, foldedSetIterable iter X.env x = pure x := by intro _; rfl) :
    PS X (.Assign [.Name y py] (.DictComp kx vx [⟨tg, iter, ifs, 0⟩] scope pos) spos) (ups (Cxp X) We (dAsg (dDc di g t ka va (own.map (·.2))) (gN i))) := by
  have core : PS X (.Assign [.Name y py] (.DictComp kx vx [⟨tg, iter, ifs, 0⟩] scope pos) spos) (tAsg (tDc (upI (Cxp X) We di) tgr (upT (Cxp X) WeF t) (upE (Cxp X) WeF ka) (upE (Cxp X) WeF va) (own.map (·.2))) (gName i)) := by
    refine ⟨fun pins s σ H D0 I h => ?_⟩
    rw [exec_Assign_Name_used _ _ _ _ hsw]
    apply wpAny_bind; apply wpAny_standAt; apply wpAny_bind
    show wpAny _ X.A (do let _ ← comprehension (.DictComp kx vx [⟨tg, iter, ifs, 0⟩] scope pos) scope X.env (firstIterPos [⟨tg, iter, ifs, 0⟩] pos) newDict false (eval iter X.env) (some (assign (.Name y py) X.env))) _ _ s
    have h1 : tDc (upI (Cxp X) We di) tgr (upT (Cxp X) WeF t) (upE (Cxp X) WeF ka) (upE (Cxp X) WeF va) (own.map (·.2)) σ H (fun x H1 => gName i x σ H1 D0.nx) := h
    apply wpAny_bind
    refine thn (dc_core (Qf := fun _ s' => SP X pins D0 .next s') hc hN I hi ok hg ht hk hv hs h1 fun Da C s' m H' J q hn f => ?_) fun _ s' hq => wpAny_pure (wpAny_pure hq)
    show wpAny _ _ (assign (.Name y py) X.env (.ref Da)) _ _ _
    apply wpAny_assign_Name
    refine store_ok2 (v := V.ref Da) J hN hy (.inl hyl) rfl (fun s2 J2 ⟨b, sb, hb⟩ => ?_) (.inr hyl)
    obtain ⟨f0, f1, f2, f3, f4, f5⟩ := f
    have ne : C ≠ b := by
      rcases hb with z | z
      · rw [z]; exact f1
      · exact fun e => f4 y b z e.symm
    exact ⟨m, hn.sameBut sb ne, fun h3 sb3 => ⟨_, H', J2.turned (t' := s2.toks) (fun c o hc2 e => (sb3.2 c hc2).trans e) f0 f1 f3 f4 f5, q⟩⟩
  refine PS.imp core fun D0 σ H h => ?_
  obtain ⟨W, ρ, r, G', hR, e, p⟩ := h
  refine dc_up (We := We) hgr (ups_bnd hR e p fun d W1 v H1 x1 R1 r1 e1 p1 => ?_)
  obtain ⟨ρ', G2, e2, e3⟩ := bnd_lft e1
  cases e2
  exact nx_end e3 p1 rfl Ext.refl (R1.set r1 i)
end
end Tw

namespace Tw
open PySem PySem.Spec PyProof.Rows L2
/-! ### a dict locked while a statement walks it -/
mutual
def noK : D → Bool
  | .tup xs => noKs xs
  | .lst xs => noKs xs
  | .scr xs => noKs xs
  | .dct kvs => noKk kvs
  | .dcl _ => false
  | .tpn xs => noKs xs
  | .exf _ _ x => noK x
  | _ => true
def noKs : List D → Bool
  | [] => true
  | x :: xs => noK x && noKs xs
def noKk : List (Key × D) → Bool
  | [] => true
  | (_, x) :: xs => noK x && noKk xs
end
def noKO : O → Bool
  | .lst xs => noKs xs
  | .dct kvs => noKk kvs
  | .dlk kvs => noKk kvs
  | .gone => true
section
variable {K : Pm} {L : Addr → Prop} {α : List Addr} {H : Hp} {p : Addr} {ps : List (Key × V)} {od : Obj}
theorem sqT_upd {u : HO} {a : Addr} {vs : List V} (ne : ∀ ws, H p ≠ some (.tup ws)) (nf : ∀ o ws, H p ≠ some (.frz o (.tup ws))) (h : SqT K.K H a vs) : SqT K.K (upd H p u) a vs := by
  rcases h with (h | ⟨o, h⟩) | h
  · exact .inl (.inl (by rw [upd_ne (fun e => ne vs (by rw [← e]; exact h))]; exact h))
  · exact .inl (.inr ⟨o, by rw [upd_ne (fun e => nf o vs (by rw [← e]; exact h))]; exact h⟩)
  · exact .inr h
mutual
theorem Dr.lock (hp : H p = some (.dK ps)) : ∀ {v : V} {d : D}, Dr K L α H v d → Dr K L α (upd H p (.frz od (.dK ps))) v d
  | _, _, .non => .non
  | _, _, .bl b => .bl b
  | _, _, .int i => .int i
  | _, _, .str z => .str z
  | _, _, .tup h r => .tup (sqT_upd (fun ws e => by rw [hp] at e; cases e) (fun o ws e => by rw [hp] at e; cases e) h) (Drs.lock hp r)
  | _, _, .lst (a := a) h n r => .lst (by rw [upd_ne (fun e => by rw [e, hp] at h; cases h)]; exact h) n (Drs.lock hp r)
  | _, _, .scr h r => by
    refine .scr ?_ (Drs.lock hp r)
    rcases h with ⟨n, o, h⟩ | h
    · exact .inl ⟨n, o, by rw [upd_ne (fun e => by rw [e, hp] at h; cases h)]; exact h⟩
    · exact .inr h
  | _, _, .dct (a := a) h n r => by
    refine .dct ?_ n (Drk.lock hp r)
    by_cases e : a = p
    · subst e
      rcases h with h | ⟨o, h⟩
      · rw [hp] at h; cases h; exact .inr ⟨od, upd_same⟩
      · rw [hp] at h; cases h
    · exact rd_keep h e
  | _, _, .set h n nd e => .set (by rw [upd_ne (fun z => by rw [z, hp] at h; cases h)]; exact h) n nd e
  | _, _, .ref h => .ref h
  | _, _, .glo a => .glo a
  | _, _, .ty n => .ty n
  | _, _, .dcl h n r => by
    obtain ⟨o, h⟩ := h
    exact .dcl ⟨o, by rw [upd_ne (fun e => by rw [e, hp] at h; cases h)]; exact h⟩ n (Drk.lock hp r)
  | _, _, .tpn h r => by
    obtain ⟨o, h, z⟩ := h
    exact .tpn ⟨o, by rw [upd_ne (fun e => by rw [e, hp] at h; cases h)]; exact h, z⟩ (Drs.lock hp r)
  | _, _, .cls h => .cls h
  | _, _, .exc h e n => .exc h (by rw [upd_ne (fun z => by rw [z, hp] at e; cases e)]; exact e) n
  | _, _, .exf h e n e2 n2 r => .exf h (by rw [upd_ne (fun z => by rw [z, hp] at e; cases e)]; exact e) n (by rw [upd_ne (fun z => by rw [z, hp] at e2; cases e2)]; exact e2) n2 (Dr.lock hp r)
theorem Drs.lock (hp : H p = some (.dK ps)) : ∀ {vs : List V} {ds : List D}, Drs K L α H vs ds → Drs K L α (upd H p (.frz od (.dK ps))) vs ds
  | _, _, .nil => .nil
  | _, _, .cons h r => .cons (Dr.lock hp h) (Drs.lock hp r)
theorem Drk.lock (hp : H p = some (.dK ps)) : ∀ {qs : List (Key × V)} {kvs : List (Key × D)}, Drk K L α H qs kvs → Drk K L α (upd H p (.frz od (.dK ps))) qs kvs
  | _, _, .nil => .nil
  | _, _, .cons h r => .cons (Dr.lock hp h) (Drk.lock hp r)
end
mutual
theorem Dr.free (hp : H p = some (.frz od (.dK ps))) : ∀ {v : V} {d : D}, noK d = true → Dr K L α H v d → Dr K L α (upd H p (.dK ps)) v d
  | _, _, _, .non => .non
  | _, _, _, .bl b => .bl b
  | _, _, _, .int i => .int i
  | _, _, _, .str z => .str z
  | _, _, k, .tup h r => .tup (sqT_upd (fun ws e => by rw [hp] at e; cases e) (fun o ws e => by rw [hp] at e; cases e) h) (Drs.free hp (by simpa [noK] using k) r)
  | _, _, k, .lst (a := a) h n r => .lst (by rw [upd_ne (fun e => by rw [e, hp] at h; cases h)]; exact h) n (Drs.free hp (by simpa [noK] using k) r)
  | _, _, k, .scr h r => by
    refine .scr ?_ (Drs.free hp (by simpa [noK] using k) r)
    rcases h with ⟨n, o, h⟩ | h
    · exact .inl ⟨n, o, by rw [upd_ne (fun e => by rw [e, hp] at h; cases h)]; exact h⟩
    · exact .inr h
  | _, _, k, .dct (a := a) h n r => by
    refine .dct ?_ n (Drk.free hp (by simpa [noK] using k) r)
    by_cases e : a = p
    · subst e
      rcases h with h | ⟨o, h⟩
      · rw [hp] at h; cases h
      · rw [hp] at h; cases h; exact .inl upd_same
    · exact rd_keep h e
  | _, _, _, .set h n nd e => .set (by rw [upd_ne (fun z => by rw [z, hp] at h; cases h)]; exact h) n nd e
  | _, _, _, .ref h => .ref h
  | _, _, _, .glo a => .glo a
  | _, _, _, .ty n => .ty n
  | _, _, k, .dcl h n r => by simp [noK] at k
  | _, _, k, .tpn h r => by
    obtain ⟨o, h, z⟩ := h
    exact .tpn ⟨o, by rw [upd_ne (fun e => by rw [e, hp] at h; cases h)]; exact h, z⟩ (Drs.free hp (by simpa [noK] using k) r)
  | _, _, _, .cls h => .cls h
  | _, _, _, .exc h e n => .exc h (by rw [upd_ne (fun z => by rw [z, hp] at e; cases e)]; exact e) n
  | _, _, k, .exf h e n e2 n2 r => .exf h (by rw [upd_ne (fun z => by rw [z, hp] at e; cases e)]; exact e) n (by rw [upd_ne (fun z => by rw [z, hp] at e2; cases e2)]; exact e2) n2 (Dr.free hp (by simpa [noK] using k) r)
theorem Drs.free (hp : H p = some (.frz od (.dK ps))) : ∀ {vs : List V} {ds : List D}, noKs ds = true → Drs K L α H vs ds → Drs K L α (upd H p (.dK ps)) vs ds
  | _, _, _, .nil => .nil
  | _, _, k, .cons h r => by
    obtain ⟨k1, k2⟩ := Bool.and_eq_true_iff.mp (by simpa [noKs] using k)
    exact .cons (Dr.free hp k1 h) (Drs.free hp k2 r)
theorem Drk.free (hp : H p = some (.frz od (.dK ps))) : ∀ {qs : List (Key × V)} {kvs : List (Key × D)}, noKk kvs = true → Drk K L α H qs kvs → Drk K L α (upd H p (.dK ps)) qs kvs
  | _, _, _, .nil => .nil
  | _, _, k, .cons h r => by
    obtain ⟨k1, k2⟩ := Bool.and_eq_true_iff.mp (by simpa [noKk] using k)
    exact .cons (Dr.free hp k1 h) (Drk.free hp k2 r)
end
end
end Tw

namespace Tw
open PySem PySem.Spec PyProof.Rows L2
/-! ### the keys of a locked dict -/
def itK : D → Option (List D)
  | .dcl kvs => some (kvs.map fun kv => keyD kv.1)
  | _ => none
def dItK (a : En → M D) : En → M (List D) := fun ρ => bnd (a ρ) fun d => lft (pur (itK d))
theorem Drk.keys {K : Pm} {L : Addr → Prop} {α : List Addr} {H : Hp} : ∀ {ps : List (Key × V)} {kvs : List (Key × D)}, Drk K L α H ps kvs → ps.map (·.1) = kvs.map (·.1)
  | _, _, .nil => rfl
  | _, _, .cons h r => by simp [Drk.keys r]
theorem key_v {K : Pm} {W : Wd} {H : Hp} (k : Key) : Rv K W H (kV k) (keyD k) := by
  cases k with
  | inl i => exact .int i
  | inr s => exact .str s
theorem ti_keys {X : Cx} {We : WE'} {tg e : Expr} {da : En → M D} (he : PE X e (upE (Cxp X) We da)) : PI X tg e (upI (Cxp X) We (dItK da)) := PI.imp (pi_keys he) fun σ H R0 h => by
  obtain ⟨W, ρ, r, G', hR, e, p⟩ := h
  refine upi_bnd hR e p fun d W1 v H1 x1 R1 r1 e1 p1 => ?_
  obtain ⟨ds, e2, p2⟩ := upi_lft e1 p1
  obtain ⟨e2, eg⟩ := pur_eq e2
  unfold itK at e2
  split at e2
  · cases e2
    cases r1 with
    | dcl h n q =>
      obtain ⟨o, h⟩ := h
      refine ⟨_, o, rfl, .inl ⟨_, h, p2 W1 H1 eg.symm Ext.refl R1.gr _ ⟨_, _, by rw [List.length_map, ← Drk.length q]; exact walk_keys, fun W' H' x _ => (L.keepW x h n).1, fun i W' H' y H'' hi xx g q2 => ?_⟩⟩⟩
      obtain ⟨rfl, k, v, hk, rfl⟩ := q2
      refine ⟨keyD k, ?_, g, Ext.refl, key_v k⟩
      have z := congrArg (fun l => l[i]?) (Drk.keys q)
      simp only [List.getElem?_map, hk] at z
      rw [List.getElem?_map]
      cases hq : (_ : List (Key × D))[i]? with
      | none => rw [hq] at z; cases z
      | some kv =>
        rw [hq] at z
        have z : k = kv.1 := by simpa using z
        rw [z]
        rfl
  · cases e2
/-! ### the statement that walks it -/
theorem PS.or {X : Cx} {st : Stmt} {t t' : TS} (h : PS X st t) (h' : PS X st t') : PS X st (fun D0 σ H => t D0 σ H ∨ t' D0 σ H) := ⟨fun pins s σ H D0 I q => q.elim (h.run pins s σ H D0 I) (h'.run pins s σ H D0 I)⟩
def envK (i : Nat) (ρ : En) : Bool := (ρ.set i none).all fun o => match o with
  | some d => noK d
  | none => true
def unl (i : Nat) : Out → M Out := fun o G => if G.all noKO = true then match o with
    | .nx ρ => match ρ[i]? with
      | some (some (.dcl kvs)) => if (envK i ρ && noKk kvs) = true then some (.inr (.nx (ρ.set i (some (.dct kvs)))), G) else none
      | _ => none
    | .rt d => if noK d = true then some (.inr (.rt d), G) else none
    | _ => none
  else none
def sLock (i : Nat) (s : En → M Out) : En → M Out := fun ρ G => match ρ[i]? with
  | some (some (.dct kvs)) => bndN (s (ρ.set i (some (.dcl kvs)))) (unl i) G
  | _ => none
section
variable {K : Pm} {W : Wd} {H : Hp} {p : Addr} {ps : List (Key × V)} {od : Obj}
theorem Gr.lock (g : Gr K W H) (hp : H p = some (.dK ps)) (np : ¬ live W p) : Gr K W (upd H p (.frz od (.dK ps))) := by
  refine ⟨g.len, g.nd, g.dis, fun a h => th_upd a (g.thA a h), fun a h => th_upd a (g.thB a h), fun m a u h1 h2 => ?_⟩
  have ob := g.obj m a u h1 h2
  by_cases eg : u = .gone
  · subst eg; exact True.intro
  · have ne : a ≠ p := fun e => np ⟨m, u, by rw [← e]; exact h1, h2, eg⟩
    cases u with
    | lst ds => obtain ⟨ws, e1, e2⟩ := ob; exact ⟨ws, by rw [upd_ne ne]; exact e1, Drs.lock hp e2⟩
    | dct kvs => obtain ⟨qs, e1, e2⟩ := ob; exact ⟨qs, by rw [upd_ne ne]; exact e1, Drk.lock hp e2⟩
    | dlk kvs => obtain ⟨o, qs, e1, e2⟩ := ob; exact ⟨o, qs, by rw [upd_ne ne]; exact e1, Drk.lock hp e2⟩
    | gone => exact True.intro
theorem Gr.free (g : Gr K W H) (hp : H p = some (.frz od (.dK ps))) (np : ¬ live W p) (nk : W.G.all noKO = true) : Gr K W (upd H p (.dK ps)) := by
  refine ⟨g.len, g.nd, g.dis, fun a h => th_upd a (g.thA a h), fun a h => th_upd a (g.thB a h), fun m a u h1 h2 => ?_⟩
  have ob := g.obj m a u h1 h2
  have ku : noKO u = true := List.all_eq_true.mp nk u (List.mem_of_getElem? h2)
  by_cases eg : u = .gone
  · subst eg; exact True.intro
  · have ne : a ≠ p := fun e => np ⟨m, u, by rw [← e]; exact h1, h2, eg⟩
    cases u with
    | lst ds => obtain ⟨ws, e1, e2⟩ := ob; exact ⟨ws, by rw [upd_ne ne]; exact e1, Drs.free hp ku e2⟩
    | dct kvs => obtain ⟨qs, e1, e2⟩ := ob; exact ⟨qs, by rw [upd_ne ne]; exact e1, Drk.free hp ku e2⟩
    | dlk kvs => obtain ⟨o, qs, e1, e2⟩ := ob; exact ⟨o, qs, by rw [upd_ne ne]; exact e1, Drk.free hp ku e2⟩
    | gone => exact True.intro
theorem Ext.free {W' : Wd} {H' : Hp} (hp : H p = some (.dK ps)) (x : Ext W (upd H p (.frz od (.dK ps))) W' H') (np : ¬ live W' p) : Ext W H W' (upd H' p (.dK ps)) := by
  refine ⟨x.b, fun c hc => ?_, fun c hc => ?_, x.pre, fun c o hc l => ?_, fun c vs hc => ?_⟩
  · rcases x.b' c hc with z | z
    · exact .inl z
    · by_cases e : c = p
      · rw [e, upd_same] at z; cases z
      · rw [upd_ne e] at z; exact .inr z
  · by_cases e : c = p
    · exact ⟨_, by rw [e]; exact upd_same⟩
    · rw [upd_ne e]
      exact x.th c (by rw [upd_ne e]; exact hc)
  · by_cases e : c = p
    · rw [e] at hc ⊢
      rw [hp] at hc
      exact ⟨by rw [upd_same]; exact hc, np⟩
    · rw [upd_ne e]
      exact x.keep c o (by rw [upd_ne e]; exact hc) l
  · have e : c ≠ p := fun e => by rw [e, hp] at hc; cases hc
    rw [upd_ne e]
    exact x.tup c vs (by rw [upd_ne e]; exact hc)
theorem envK_at {i j : Nat} {ρ : En} {d : D} (k : envK i ρ = true) (ne : i ≠ j) (h : ρ[j]? = some (some d)) : noK d = true := by
  have m : some d ∈ ρ.set i none := List.mem_of_getElem? (i := j) (by rw [List.getElem?_set_ne ne]; exact h)
  exact List.all_eq_true.mp k _ m
theorem Rs.free {σ : L2.St} {ρ : En} {i : Nat} {kvs : List (Key × D)} (R : Rs K W ρ σ H) (hp : H p = some (.frz od (.dK ps))) (np : ¬ live W p) (nk : W.G.all noKO = true) (hi : ρ[i]? = some (some (.dcl kvs))) (ek : envK i ρ = true) (kk : noKk kvs = true) : Rs K W (ρ.set i (some (.dct kvs))) σ (upd H p (.dK ps)) := by
  refine ⟨R.gr.free hp np nk, by rw [List.length_set]; exact R.len, fun j d e => ?_⟩
  by_cases ej : i = j
  · subst ej
    rw [List.getElem?_set_self (List.getElem?_eq_some_iff.mp hi).1] at e
    cases e
    obtain ⟨v, hv, rv⟩ := R.var i _ hi
    refine ⟨v, hv, ?_⟩
    cases rv with
    | dcl h n q =>
      rename_i a qs
      obtain ⟨o, h⟩ := h
      refine .dct ?_ n (Drk.free hp kk q)
      by_cases ea : a = p
      · subst ea
        rw [hp] at h
        cases h
        exact .inl upd_same
      · exact .inr ⟨o, by rw [upd_ne ea]; exact h⟩
  · rw [List.getElem?_set_ne ej] at e
    obtain ⟨v, hv, rv⟩ := R.var j d e
    exact ⟨v, hv, Dr.free hp (envK_at ek ej e) rv⟩
theorem Rs.open_ {σ : L2.St} {ρ : En} {i : Nat} {kvs : List (Key × D)} (R : Rs K W ρ σ H) (hi : ρ[i]? = some (some (.dcl kvs))) : Rs K W (ρ.set i (some (.dct kvs))) σ H := by
  refine ⟨R.gr, by rw [List.length_set]; exact R.len, fun j d e => ?_⟩
  by_cases ej : i = j
  · subst ej
    rw [List.getElem?_set_self (List.getElem?_eq_some_iff.mp hi).1] at e
    cases e
    obtain ⟨v, hv, rv⟩ := R.var i _ hi
    refine ⟨v, hv, ?_⟩
    cases rv with
    | dcl h n q => exact .dct (.inr h) n q
  · rw [List.getElem?_set_ne ej] at e
    exact R.var j d e
end
section
variable {X : Cx} {We : WE'} {st : Stmt} {s : En → M Out}
theorem tS_lock (i : Nat) (h : PS X st (ups (Cxp X) We s)) : PS X st (ups (Cxp X) We (sLock i s)) := PS.imp (PS.or (ps_lock h) h) fun D0 σ H q => by
  obtain ⟨W, ρ, r, G', hR, e, p⟩ := q
  unfold sLock at e
  split at e
  · rename_i kvs hi
    obtain ⟨out, G1, e1, e2⟩ := bndN_eq e
    obtain ⟨v, hv, rv⟩ := hR.var i _ hi
    have il : i < ρ.length := (List.getElem?_eq_some_iff.mp hi).1
    cases rv with
    | dct hrd n q0 =>
      rename_i a ps
      have np : ¬ live W a := fun l => n (.inl l)
      rcases hrd with hK | ⟨od, hF⟩
      · refine .inl ⟨a, .dK ps, hK, True.intro, fun od => ?_⟩
        have R1 : Rs (Cxp X) W (ρ.set i (some (.dcl kvs))) σ (upd H a (.frz od (.dK ps))) := by
          refine ⟨hR.gr.lock hK np, by rw [List.length_set]; exact hR.len, fun j d ej => ?_⟩
          by_cases ij : i = j
          · subst ij
            rw [List.getElem?_set_self il] at ej
            cases ej
            exact ⟨_, hv, .dcl ⟨od, upd_same⟩ n (Drk.lock hK q0)⟩
          · rw [List.getElem?_set_ne ij] at ej
            obtain ⟨u, hu, ru⟩ := hR.var j d ej
            exact ⟨u, hu, Dr.lock hK ru⟩
        refine ⟨W, _, .inr out, G1, R1, e1, ?_⟩
        unfold unl at e2
        split at e2
        · rename_i nk
          cases out with
          | nx ρ' =>
            dsimp only at e2
            split at e2
            · rename_i kvs2 hi2
              split at e2
              · rename_i ck
                obtain ⟨ck1, ck2⟩ := Bool.and_eq_true_iff.mp ck
                cases e2
                intro W' σ' H' eg x R'
                obtain ⟨ka, kb⟩ := x.keep a _ upd_same np
                exact ⟨ka, p W' σ' _ eg (Ext.free hK x kb) (R'.free ka kb (by rw [eg]; exact nk) hi2 ck1 ck2)⟩
              · cases e2
            · cases e2
          | rt d =>
            dsimp only at e2
            split at e2
            · rename_i kd
              cases e2
              intro W' u H' eg x g' ru
              obtain ⟨ka, kb⟩ := x.keep a _ upd_same np
              exact ⟨ka, p W' u _ eg (Ext.free hK x kb) (g'.free ka kb (by rw [eg]; exact nk)) (Dr.free ka kd ru)⟩
            · cases e2
          | _ => cases e2
        · cases e2
      · refine .inr ?_
        have R1 : Rs (Cxp X) W (ρ.set i (some (.dcl kvs))) σ H := by
          refine ⟨hR.gr, by rw [List.length_set]; exact hR.len, fun j d ej => ?_⟩
          by_cases ij : i = j
          · subst ij
            rw [List.getElem?_set_self il] at ej
            cases ej
            exact ⟨_, hv, .dcl ⟨od, hF⟩ n q0⟩
          · rw [List.getElem?_set_ne ij] at ej
            exact hR.var j d ej
        refine ⟨W, _, .inr out, G1, R1, e1, ?_⟩
        unfold unl at e2
        split at e2
        · rename_i nk
          cases out with
          | nx ρ' =>
            dsimp only at e2
            split at e2
            · rename_i kvs2 hi2
              split at e2
              · cases e2
                exact fun W' σ' H' eg x R' => p W' σ' H' eg x (R'.open_ hi2)
              · cases e2
            · cases e2
          | rt d =>
            dsimp only at e2
            split at e2
            · cases e2
              exact p
            · cases e2
          | _ => cases e2
        · cases e2
  · cases e
end
end Tw

namespace Tw
open PySem PySem.Spec PyProof.Rows L2
/-! ### tuples of whose object we know that it has no dict -/
def tTupN (t : TA) : TE := fun σ H Q => t σ H fun xs H1 => xs.length ≤ sizeLine ∧ ∀ (p : Addr) (o : Obj), o.dict = none → H1 p = none → Q (.ref p) (upd H1 p (.frz o (.tup xs)))
theorem pe_tupN {X : Cx} {es : List Expr} {t : TA} {pos : Pos} {x1} (h : PA X es t) : PE X (.Tuple es x1 pos) (tTupN t) := by
  refine ⟨fun pins s σ H Q I hq => ?_⟩
  refine wpAny_Tuple_spliced (thn (h.run pos pins s σ H _ I hq) fun us s1 ⟨xs, H1, I1, r, z, q⟩ => ⟨by rw [← r.length]; exact z, ?_⟩)
  have hf : H1 s1.heap.objs.size = none := I1.hok.fresh (Nat.le_refl _)
  refine ⟨.ref s1.heap.objs.size, _, I1.laid (t' := s1.toks) (o := .frz { cls := .type "tuple", data := .seq us.toArray } (.tup xs)) (fun b u e => Heap.get?_push_of_some _ e) (Nat.le_refl _) ?_, rfl, q _ _ rfl hf⟩
  exact ⟨Heap.get?_push_size _ rfl, z, us, r, ⟨_, Heap.get?_push_size _ rfl, rfl, _, rfl⟩⟩
def tpnO (xs : List D) : Option D := if xs.length ≤ mx then some (.tpn xs) else none
theorem tpnO_eq {xs : List D} {d : D} (h : tpnO xs = some d) : xs.length ≤ mx ∧ d = .tpn xs := by
  unfold tpnO at h
  split at h
  · cases h; exact ⟨by assumption, rfl⟩
  · cases h
def dTpn (a : En → M (List D)) : En → M D := fun ρ => bnd (a ρ) fun xs => lft (pur (tpnO xs))
theorem tpn_new {K : Pm} {W : Wd} {H : Hp} {vs : List V} {ds : List D} {p : Addr} {o : Obj} (ho : o.dict = none) (g : Gr K W H) (r : Rvs K W H vs ds) (n : H p = none) : Gr K W (upd H p (.frz o (.tup vs))) ∧ Ext W H W (upd H p (.frz o (.tup vs))) ∧ Rv K W (upd H p (.frz o (.tup vs))) (.ref p) (.tpn ds) :=
  have x : Ext W H W (upd H p (.frz o (.tup vs))) := Ext.laid n
  ⟨g.laid n, x, .tpn ⟨o, upd_same, ho⟩ (r.keep g x)⟩
section
variable {X : Cx} {We : WE'}
theorem te_tpn {es : List Expr} {x1 pos} {da : En → M (List D)} (h : PA X es (upA (Cxp X) We da)) : PE X (.Tuple es x1 pos) (upE (Cxp X) We (dTpn da)) := PE.imp (pe_tupN h) fun σ H Q q => by
  obtain ⟨W, ρ, r, G', hR, e, p⟩ := q
  refine up_bnd hR e p fun ds W1 vs H1 x1 R1 r1 e1 p1 => ?_
  obtain ⟨d, e2, p2⟩ := up_lft e1 p1
  obtain ⟨e2, eg⟩ := pur_eq e2
  obtain ⟨z, rfl⟩ := tpnO_eq e2
  refine ⟨by rw [r1.length]; exact mx_line z, fun a o ho n => ?_⟩
  obtain ⟨g, x, rv⟩ := tpn_new ho R1.gr r1 n
  exact p2 W1 _ _ eg.symm x g rv
/-- seen as any tuple -/
def wkD : D → D
  | .tpn xs => .tup xs
  | d => d
theorem wk_ok {K : Pm} {W : Wd} {H : Hp} {v : V} {d : D} (r : Rv K W H v d) : Rv K W H v (wkD d) := by
  cases r with
  | tpn h q => obtain ⟨o, h, _⟩ := h; exact .tup (.inl (.inr ⟨o, h⟩)) q
  | non => exact .non
  | bl b => exact .bl b
  | int i => exact .int i
  | str z => exact .str z
  | tup h q => exact .tup h q
  | lst h n q => exact .lst h n q
  | scr h q => exact .scr h q
  | dct h n q => exact .dct h n q
  | set h n nd e => exact .set h n nd e
  | ref h => exact .ref h
  | glo a => exact .glo a
  | ty n => exact .ty n
  | dcl h n q => exact .dcl h n q
  | cls h => exact .cls h
  | exc h e n => exact .exc h e n
  | exf h e n e2 n2 q => exact .exf h e n e2 n2 q
def dWk (a : En → M D) : En → M D := fun ρ => bnd (a ρ) fun d => ret (wkD d)
theorem te_wk {e : Expr} {da : En → M D} (h : PE X e (upE (Cxp X) We da)) : PE X e (upE (Cxp X) We (dWk da)) := PE.imp h fun σ H Q q => by
  obtain ⟨W, ρ, r, G', hR, e1, p⟩ := q
  refine up_bnd hR e1 p fun d W1 v H1 x1 R1 r1 e2 p1 => ?_
  exact up_ret e2 p1 W1 v H1 rfl Ext.refl R1.gr (wk_ok r1)
end
/-! ### t + u of such -/
def rCatN : R2 := fun x y H Q => ∃ a b xs ys o1 o2, x = .ref a ∧ y = .ref b ∧ H a = some (.frz o1 (.tup xs)) ∧ H b = some (.frz o2 (.tup ys)) ∧ xs.length + ys.length ≤ sizeLine ∧
  (xs = [] → Q (.ref b) H) ∧ (xs ≠ [] → ys = [] → Q (.ref a) H) ∧ (xs ≠ [] → ys ≠ [] → ∀ (p : Addr) (o : Obj), o.dict = none → H p = none → Q (.ref p) (upd H p (.frz o (.tup (xs ++ ys)))))
theorem op_catN {X : Cx} : OpR X (binaryOp .Add) rCatN := by
  intro pins s σ H x y v u Q I rx ry h
  obtain ⟨a, b, xs, ys, o1, o2, rfl, rfl, ha, hb, hz, q0, q1, q2⟩ := h
  cases rx
  cases ry
  obtain ⟨its, r1, p1, _⟩ := I.tuple (xs := xs) (.inl (.inr ⟨o1, ha⟩))
  obtain ⟨its2, r2, p2, _⟩ := I.tuple (xs := ys) (.inl (.inr ⟨o2, hb⟩))
  by_cases hx : xs = []
  · subst hx
    cases r1
    exact cat_tup0 p1 p2 ⟨.ref b, H, I, rfl, q0 rfl⟩
  · refine HT.cat_tup p1 p2 (fun z => hx (r1.nil_iff.mp z)) (fun z => ⟨.ref a, H, I, rfl, q1 hx (r2.nil_iff.mp z)⟩) (fun z => ?_) (by rw [← r1.length, ← r2.length]; exact hz)
    refine ⟨.ref s.heap.objs.size, _, I.laid (t' := s.toks) (o := .frz { cls := .type "tuple", data := .seq (its ++ its2).toArray } (.tup (xs ++ ys))) (fun b ob q => Heap.get?_push_of_some _ q) (Nat.le_refl _) ?_, rfl, q2 hx (fun w => z (r2.nil_iff.mpr w)) _ _ rfl (I.hok.fresh (Nat.le_refl _))⟩
    exact ⟨Heap.get?_push_size _ rfl, by rw [List.length_append]; exact hz, _, r1.append r2, IsTup.new _ _⟩
def catN (x y : D) : Option D := match x, y with
  | .tpn xs, .tpn ys => if xs.length + ys.length ≤ mx then some (.tpn (xs ++ ys)) else none
  | _, _ => none
theorem opd_catN {K : Pm} : OpD K rCatN (pur2 catN) := fun W H x y a b d G' Q g r1 r2 e p => by
  obtain ⟨e, eg⟩ := pur_eq e
  unfold catN at e
  split at e
  · split at e
    · rename_i z
      cases e
      cases r1 with
      | tpn h1 s1 =>
        cases r2 with
        | tpn h2 s2 =>
          obtain ⟨o1, h1, z1⟩ := h1
          obtain ⟨o2, h2, z2⟩ := h2
          refine ⟨_, _, _, _, o1, o2, rfl, rfl, h1, h2, mx_line (by rw [s1.length, s2.length]; exact z), fun n => ?_, fun _ n => ?_, fun _ _ l o ho n => ?_⟩
          · subst n
            cases s1
            exact p W _ _ eg.symm Ext.refl g (.tpn ⟨o2, h2, z2⟩ (by simpa using s2))
          · subst n
            cases s2
            exact p W _ _ eg.symm Ext.refl g (.tpn ⟨o1, h1, z1⟩ (by simpa using s1))
          · obtain ⟨g', x', rv⟩ := tpn_new ho g (s1.app s2) n
            exact p W _ _ eg.symm x' g' rv
    · cases e
  · cases e
/-! ### dict(t), t such a tuple of pairs -/
theorem pairs_list {h : Heap} : ∀ {ps : List Addr} {prs : List (Key × Value)}, prs.length = ps.length →
    (∀ (j : Nat) (q : Key × Value), prs[j]? = some q → ∃ (b : Addr) (u : Value), ps[j]? = some b ∧ IsTup h b #[u, q.2] ∧ keyIs q.1 u = true) →
    ∃ psv : List (Value × Value), psv.length = prs.length ∧ ∀ (j : Nat) (u v : Value), psv[j]? = some (u, v) → ∃ (k : Key) (b : Addr), prs[j]? = some (k, v) ∧ ps[j]? = some b ∧ IsTup h b #[u, v] ∧ keyIs k u = true
  | _, [], _, _ => ⟨[], rfl, fun j u v e => by simp at e⟩
  | [], _ :: _, hl, _ => by simp at hl
  | p :: ps, q :: prs, hl, hp => by
    obtain ⟨psv, l1, h1⟩ := pairs_list (ps := ps) (prs := prs) (by simpa using hl) fun j q' e => by
      obtain ⟨b, u, e1, e2⟩ := hp (j + 1) q' (by simpa using e)
      exact ⟨b, u, by simpa using e1, e2⟩
    obtain ⟨b, u, e1, e2, e3⟩ := hp 0 q rfl
    refine ⟨(u, q.2) :: psv, by simp [l1], fun j u' v' e => ?_⟩
    cases j with
    | zero =>
      have e := Option.some.inj e
      cases e
      exact ⟨q.1, b, rfl, e1, e2, e3⟩
    | succ j =>
      obtain ⟨k, b', z1, z2, z3⟩ := h1 j u' v' (by simpa using e)
      exact ⟨k, b', by simpa using z1, by simpa using z2, z3⟩
theorem call_dictN {X : Cx} (hcalm : X.calm = true) : CallR X (.type "dict") (fun xs H Q => ∃ (a : Addr) (o : Obj) (ps : List Addr) (kvs : List (Key × V)), xs = [.ref a] ∧ H a = some (.frz o (.tup (ps.map V.ref))) ∧ o.dict = none ∧ Paired (fun p kv => SqT X.K H p [kV kv.1, kv.2]) ps kvs ∧
    ∀ p, H p = none → Q (.ref p) (upd H p (.dK (mergeK [] kvs)))) := by
  intro pins s σ H xs us Q I r q
  obtain ⟨a, o, ps, kvs, ex, ha, hd, hp, q⟩ := q
  subst ex
  obtain ⟨u, eu, rx⟩ := vals1 r
  subst eu
  cases rx
  obtain ⟨ho, hz, its, rv, tu⟩ := I.hok _ _ ha
  have ei := refs_at rv
  subst ei
  rw [List.length_map] at hz
  obtain ⟨prs, rel, hl, hpr⟩ := pairs_of I hp
  obtain ⟨psv, hl2, hps⟩ := pairs_list hl hpr
  obtain ⟨o', ho', hc, n, hdat⟩ := tu
  cases ho.symm.trans ho'
  refine PySem.call_dict_pairs (knd := mixKind X.prog X.w) (kvs := prs) (PairArg.tuple (prog := X.prog) (w := X.w) a (ps.map Value.ref).toArray (fun j => ps.getD j 0) psv) (I.ok.hd hcalm) ⟨⟨o, n, ho, hc, hd, hdat⟩, by simp [hl2, hl], fun j u v e => ?_⟩ ⟨hl2.symm, fun j u v e => ?_⟩ (by rw [hl2, hl]; exact hz) fun h' tk hd' k => ?_
  · obtain ⟨k, b, e1, e2, e3, e4⟩ := hps j u v e
    have eb : ps.getD j 0 = b := by rw [List.getD_eq_getElem?_getD, e2]; rfl
    refine ⟨by simp [e2], .inl ?_⟩
    show s.heap.IsTuple (ps.getD j 0) _
    rw [eb]
    exact e3
  · obtain ⟨k, b, e1, e2, e3, e4⟩ := hps j u v e
    exact ⟨k, e1, e4⟩
  · have hm : (s.heap.objs.size == sysModules) = false := beq_eq_false_iff_ne.mpr (Nat.ne_of_gt I.big)
    have hlen : (mergeK [] kvs).length ≤ sizeLine := by
      refine Nat.le_trans (length_mergeK kvs []) ?_
      rw [List.length_nil, Nat.zero_add, rel.length, hl]
      exact hz
    exact ⟨.ref s.heap.objs.size, upd H s.heap.objs.size (.dK (mergeK [] kvs)), I.laid (t' := tk) (fun b o e => k b o (by simp) e) (Nat.le_refl _) (show ObjOk X.prog X.w _ _ _ (.dK (mergeK [] kvs)) from ⟨hlen, hm, merged [] prs, KV.merge rel .nil, hd'⟩), rfl, q _ (I.hok.fresh (Nat.le_refl _))⟩
/-- the pairs, their keys as keys -/
def pairsO : List D → Option (List (Key × D))
  | [] => some []
  | .tup [k, v] :: r => match keyO k, pairsO r with
    | some k, some t => some ((k, v) :: t)
    | _, _ => none
  | _ :: _ => none
def mergeD (acc kvs : List (Key × D)) : List (Key × D) := kvs.foldl (fun acc kv => putKD acc kv.1 kv.2) acc
section
variable {K : Pm} {L : Addr → Prop} {α : List Addr} {H : Hp}
theorem Drk.merge : ∀ {qs : List (Key × V)} {kvs : List (Key × D)} {ps : List (Key × V)} {acc : List (Key × D)}, Drk K L α H qs kvs → Drk K L α H ps acc → Drk K L α H (mergeK ps qs) (mergeD acc kvs)
  | _, _, _, _, .nil, r => r
  | (k, v) :: qs, (_, d) :: kvs, ps, acc, .cons h t, r => by
    have z := Drk.merge t (Drk.put k h r)
    exact z
theorem pairs_v : ∀ {vs : List V} {xs : List D} {kvs : List (Key × D)}, Drs K L α H vs xs → pairsO xs = some kvs →
    ∃ (ps : List Addr) (qs : List (Key × V)), vs = ps.map V.ref ∧ Paired (fun p kv => SqT K.K H p [kV kv.1, kv.2]) ps qs ∧ Drk K L α H qs kvs := by
  intro vs xs
  induction xs generalizing vs with
  | nil => intro kvs r e; cases r; cases e; exact ⟨[], [], rfl, .nil, .nil⟩
  | cons x xs ih =>
    intro kvs r e
    cases r with
    | cons h r =>
      unfold pairsO at e
      split at e
      · rename_i e0
        cases e0
      · rename_i k v t e0
        cases e0
        split at e
        · rename_i k' t' e1 e2
          cases e
          obtain ⟨ps, qs, rfl, pq, q⟩ := ih r e2
          cases h with
          | tup hs rs =>
            cases rs with
            | cons h1 rs => cases rs with
              | cons h2 rs =>
                cases rs
                cases keyO_v h1 e1
                exact ⟨_ :: ps, (k', _) :: qs, rfl, .cons hs pq, .cons h2 q⟩
        · cases e
      · cases e
end
def dictNF : List D → P1 D := fun ds G => match ds with
  | [.tpn xs] => match pairsO xs with
    | some kvs => some (.dct (mergeD [] kvs), G)
    | none => none
  | _ => none
theorem cd_dictN {K : Pm} : CallD K (fun xs H Q => ∃ (a : Addr) (o : Obj) (ps : List Addr) (kvs : List (Key × V)), xs = [.ref a] ∧ H a = some (.frz o (.tup (ps.map V.ref))) ∧ o.dict = none ∧ Paired (fun p kv => SqT K.K H p [kV kv.1, kv.2]) ps kvs ∧
    ∀ p, H p = none → Q (.ref p) (upd H p (.dK (mergeK [] kvs)))) dictNF := fun W H vs ds d G' Q g r e p => by
  unfold dictNF at e
  split at e
  · rename_i xs
    split at e
    · rename_i kvs hk
      cases e
      cases r with
      | cons h r =>
        cases r
        cases h with
        | tpn h q =>
          obtain ⟨o, ha, hd⟩ := h
          obtain ⟨ps, qs, rfl, pq, kq⟩ := pairs_v q hk
          refine ⟨_, o, ps, qs, rfl, ha, hd, pq, fun l n => ?_⟩
          have x : Ext W H W (upd H l (.dK (mergeK [] qs))) := Ext.laid n
          exact p W _ _ rfl x (g.laid n) (.dct (.inl upd_same) (fresh_L g n) ((Drk.merge kq .nil).keep g x))
    · cases e
  · cases e
end Tw

namespace Tw
open PySem PySem.Spec PyProof.Rows L2
/-! ### sorted(xs), xs a list of tuples whose first parts are unlike texts -/
/-- the text at the head of a tuple -/
def keyAt (h : Heap) (v : Value) : Str := match v with
  | .ref a => match h.get? a with
    | some o => match o.data with
      | .seq its _ => match its.toList[0]? with
        | some (Value.str x _) => x
        | _ => ""
      | _ => ""
    | none => ""
  | _ => ""
def IsRow (h : Heap) (v : Value) (x : Str) : Prop := ∃ (a : Addr) (o : Obj) (its : Array Value) (t : Tok) (n : Nat), v = .ref a ∧ h.get? a = some o ∧ o.cls = .type "tuple" ∧ o.data = .seq its n ∧ its[0]? = some (.str x t)
theorem IsRow.key {h : Heap} {v : Value} {x : Str} (r : IsRow h v x) : keyAt h v = x := by
  obtain ⟨a, o, its, t, n, rfl, ho, hc, hd, h0⟩ := r
  unfold keyAt
  rw [← Array.getElem?_toList] at h0
  simp only [ho, hd, h0]
abbrev ltK (k : Value → Str) (v u : Value) : Bool := ltCps (k v).cps.toList (k u).cps.toList
theorem swo_K (k : Value → Str) : SrtO.Swo (ltK k) := ⟨fun x y h => ltCps_asym _ _ h, fun x y z h1 h2 => ltCps_tr _ _ _ h1 h2⟩
section
variable {prog : Program} {w : World} {A : Around} {E : Value → Shared → Prop} {s : Shared} {b fin : Bool} {Q : Bool → Shared → Prop}
theorem kat_self : ∀ (l : List Value) (i : Nat), Q fin s → PySem.W.KatLex prog w A b fin Q (l.zip l) i s
  | [], i, h => PySem.W.kat_nil h
  | v :: l, i, h => by
    show PySem.W.KatLex prog w A b fin Q ((v, v) :: l.zip l) i s
    exact PySem.W.kat_cons (SeqAt.EqAt.same v prog w _ _ (PySem.W.kat_yes (kat_self l (i + 1) h)))
theorem row_cmp {vs : List Value} {k : Value → Str} (hp : ∀ v ∈ vs, IsRow s.heap v (k v)) (hi : ∀ v ∈ vs, ∀ u ∈ vs, k v = k u → v = u) : SrtO.Cmp prog w A s (tuples' true) (fun p => p.1 ∈ vs) (SrtO.lt2 (ltK k)) := by
  intro p q hm hm'
  have h1 := hp _ hm
  have h2 := hp _ hm'
  have h3 := hi _ hm _ hm'
  show wpAny (model prog w) A (keyLt' (tuples' true) p.1 q.1) (fun r s' => s' = s ∧ r = ltCps (k p.1).cps.toList (k q.1).cps.toList) (fun _ _ => False) s
  by_cases e : k p.1 = k q.1
  · have e' := h3 e
    rw [← e']
    generalize k p.1 = x at h1
    obtain ⟨a, o, its, t, n, ea, ho, hc, hd, h0⟩ := h1
    rw [ea]
    refine PySem.W.kat_lt ho hd ho hd (kat_self _ 0 ⟨rfl, ?_⟩)
    have z : ltCps x.cps.toList x.cps.toList = false := by
      rw [ltCps_eq]
      exact decide_eq_false (List.lt_irrefl _)
    rw [z]
    exact decide_eq_false (Nat.lt_irrefl _)
  · generalize k p.1 = x at h1 e
    generalize k q.1 = y at h2 e
    obtain ⟨a, o, its, t, n, ea, ho, hc, hd, h0⟩ := h1
    obtain ⟨a', o', its', t', n', ea', ho', hc', hd', h0'⟩ := h2
    rw [ea, ea']
    refine PySem.W.kat_lt ho hd ho' hd' ?_
    obtain ⟨l, hl⟩ : ∃ l, its.toList = Value.str x t :: l := by
      rw [← Array.getElem?_toList] at h0
      cases z : its.toList with
      | nil => rw [z] at h0; cases h0
      | cons v l => rw [z] at h0; cases h0; exact ⟨l, rfl⟩
    obtain ⟨l', hl'⟩ : ∃ l, its'.toList = Value.str y t' :: l := by
      rw [← Array.getElem?_toList] at h0'
      cases z : its'.toList with
      | nil => rw [z] at h0'; cases h0'
      | cons v l => rw [z] at h0'; cases h0'; exact ⟨l, rfl⟩
    rw [hl, hl']
    refine PySem.W.kat_cons (SeqAt.EqAt.str_str x t y t' prog w _ _ ?_)
    refine PySem.W.kat_go (fun e1 => absurd (by simpa using e1) e) (fun e2 => ?_)
    refine PySem.W.kat_no (oneLt_str ⟨rfl, ?_⟩)
    exact (ltCps_eq _ _).symm
theorem rows_sortableO {a : Addr} {vs : List Value} {k : Value → Str} (h0 : 0 < vs.length) (hp : ∀ v ∈ vs, IsRow s.heap v (k v)) (hi : ∀ v ∈ vs, ∀ u ∈ vs, k v = k u → v = u) (ha : ∀ o, s.heap.get? a = some o → o.cls ≠ .type "tuple") : SrtO.SortableO prog w A s a vs (ltK k) := by
  intro h' keep
  have hp' : ∀ v ∈ vs, IsRow h' v (k v) := fun v hm => by
    obtain ⟨b, o, its, t, n, e, ho, hc, r⟩ := hp v hm
    exact ⟨b, o, its, t, n, e, keep b o (fun z => by subst z; exact ha o ho hc) ho, hc, r⟩
  obtain ⟨fs, h1, h2, h3⟩ : ∃ fs : List Value, PySem.W.KatTups h' vs fs ∧ fs.length = vs.length ∧ ∀ f ∈ fs, ∃ x t, f = Value.str x t := by
    clear hp hi h0 ha keep
    induction vs with
    | nil => exact ⟨[], PySem.W.KatTups.nil, rfl, fun f hf => absurd hf (by simp)⟩
    | cons v vs ih =>
      obtain ⟨fs, i1, i2, i3⟩ := ih fun u hu => hp' u (List.mem_cons_of_mem _ hu)
      obtain ⟨b, o, its, t, n, rfl, ho, hc, hd, hx⟩ := hp' v List.mem_cons_self
      refine ⟨Value.str _ t :: fs, PySem.W.KatTups.cons ho hc hd hx i1, by simp [i2], fun f hf => ?_⟩
      rcases List.mem_cons.mp hf with rfl | hf
      · exact ⟨_, _, rfl⟩
      · exact i3 f hf
  refine ⟨tuples' true, fun Q E hq => ?_, row_cmp hp' hi⟩
  refine PySem.W.kat_kind (T := .type "str") h1 (by omega) (fun f hm => ?_) (by rfl) ?_
  · obtain ⟨x, t, rfl⟩ := h3 f hm
    exact PySem.W.Looks.now
  · have e : (Value.type "str" != Value.type "tuple") = true := by first | decide +kernel | rfl | decide
    rw [e]
    exact hq
theorem sorted_rowsO {l : Addr} {vs : List Value} {k : Value → Str} {Q : Value → Shared → Prop} (hl : s.heap.IsList l vs.toArray) (hz : vs.length ≤ sizeLine) (hp : ∀ v ∈ vs, IsRow s.heap v (k v)) (hi : ∀ v ∈ vs, ∀ u ∈ vs, k v = k u → v = u)
    (h : ∀ (h' : Heap) (d : Addr) (out : List Value), SrtO.Srtd (ltK k) out → SrtO.Stb (ltK k) out vs → (∀ b o, s.heap.get? b = some o → h'.get? b = some o) → s.heap.objs.size ≤ d → (∃ n, h'.get? d = some (seqObj "list" out.toArray n)) → Q (.ref d) { s with heap := h' }) :
    wpAny (model prog w) A (call (.builtin "sorted") [.ref l]) Q E s := by
  refine SrtO.sorted_ord (swo_K k) hl hz (fun h2 h₁ a ha kk => ?_) fun out hs hb => ?_
  · refine rows_sortableO (s := { s with heap := h₁ }) (by omega) (fun v hm => ?_) hi fun o e => ?_
    · obtain ⟨b, o, its, t, n, e, ho, r⟩ := hp v hm
      exact ⟨b, o, its, t, n, e, (kk b o ho).2, r⟩
    have e' : some o = some (seqObj "list" vs.toArray 0) := e.symm.trans ha
    cases e'
    intro c
    exact absurd (Value.type.inj c) (by decide)
  · exact h _ _ out hs hb (fun b o e => sortedAll_old e) (Nat.le_succ _) (sortedAll_at s.heap vs out.toArray)
end
end Tw

namespace Tw
open PySem PySem.Spec PyProof.Rows L2
/-! ### as a rule of the layer -/
abbrev SrtP (l : List (V × Str)) : Prop := l.Pairwise fun p q => leC p.2 q.2 = true
def rSortedR (K : PySem.W.Frag) : List V → Hp → VK → Prop := fun vs H Q => ∃ (a : Addr) (xs : List V) (ns : List Str), vs = [V.ref a] ∧ SqL K H a xs ∧ Paired (fun x n => ∃ t r, x = V.ref t ∧ SqT K H t (.str n :: r)) xs ns ∧ ns.Nodup ∧
  ∀ (zs : List (V × Str)) (p : Addr), zs.Perm (xs.zip ns) → SrtP zs → H p = none → Q (.ref p) (upd H p (.lst (zs.map (·.1))))
theorem paired_rows {X : Cx} {pins : List (Addr × Obj)} {σ : L2.St} {H : Hp} {s : Shared} (I : L2.Inv X pins σ H s) : ∀ {xs : List V} {ns : List Str} {us : List Value}, Paired (fun x n => ∃ t r, x = V.ref t ∧ SqT X.K H t (.str n :: r)) xs ns → Vals xs us →
    (∀ u ∈ us, IsRow s.heap u (keyAt s.heap u)) ∧ us.map (keyAt s.heap) = ns ∧ (∀ u ∈ us, ∃ a, u = Value.ref a) ∧ us.map (fun u => (backV u, keyAt s.heap u)) = xs.zip ns
  | _, _, _, .nil, .nil => ⟨fun u h => absurd h (by simp), rfl, fun u h => absurd h (by simp), rfl⟩
  | _, _, _, .cons (b := n) h t, .cons r rs => by
    obtain ⟨i1, i2, i3, i4⟩ := paired_rows I t rs
    obtain ⟨a, l, rfl, hs⟩ := h
    cases r
    obtain ⟨its, rv, tu, _⟩ := I.tuple hs
    have row : IsRow s.heap (.ref a) n := by
      obtain ⟨o, ho, hc, m, hd⟩ := tu
      cases rv with
      | cons r0 _ =>
        obtain ⟨t, rfl⟩ := r0
        exact ⟨a, o, _, t, m, rfl, ho, hc, hd, rfl⟩
    have ek := row.key
    refine ⟨fun v hv => ?_, by rw [List.map_cons, ek, i2], fun v hv => ?_, ?_⟩
    · rcases List.mem_cons.mp hv with rfl | hv
      · rw [ek]; exact row
      · exact i1 v hv
    · rcases List.mem_cons.mp hv with rfl | hv
      · exact ⟨a, rfl⟩
      · exact i3 v hv
    · rw [List.map_cons, i4, ek] <;> rfl
theorem nodup_inj {α β : Type} {f : α → β} : ∀ {l : List α}, (l.map f).Nodup → ∀ x ∈ l, ∀ y ∈ l, f x = f y → x = y
  | [], _, x, hx, _, _, _ => absurd hx (by simp)
  | a :: l, h, x, hx, y, hy, e => by
    have hh := List.nodup_cons.mp h
    rcases List.mem_cons.mp hx with hx1 | hx1
    · rcases List.mem_cons.mp hy with hy1 | hy1
      · rw [hx1, hy1]
      · exact (hh.1 (List.mem_map.mpr ⟨y, hy1, by rw [← hx1, e]⟩)).elim
    · rcases List.mem_cons.mp hy with hy1 | hy1
      · exact (hh.1 (List.mem_map.mpr ⟨x, hx1, by rw [← hy1, e]⟩)).elim
      · exact nodup_inj hh.2 x hx1 y hy1 e
theorem cr_sortedR {X : Cx} : CallR X (.builtin "sorted") (rSortedR X.K) := by
  intro pins s σ H vs us Q I r h
  obtain ⟨a, xs, ns, rfl, hs, hx, nd, q⟩ := h
  obtain ⟨its, rv, hl, hz⟩ := I.list hs
  obtain ⟨u, rfl, ru⟩ := vals1 r
  obtain rfl : u = Value.ref a := ru
  obtain ⟨i1, i2, i3, i4⟩ := paired_rows I hx rv
  have hz' : its.length ≤ sizeLine := by rw [← rv.length]; exact hz
  refine sorted_rowsO (k := keyAt s.heap) hl.isList hz' i1 (nodup_inj (by rw [i2]; exact nd)) fun h' d out h1 h2 kp hd hn => ?_
  have h3 : ∀ u ∈ out, ∃ a, u = Value.ref a := fun u hu => i3 u (h2.perm.mem_iff.mp hu)
  obtain ⟨n, hn⟩ := hn
  refine ⟨.ref d, upd H d (.lst ((out.map fun u => (backV u, keyAt s.heap u)).map (·.1))), I.laid (t' := s.toks) kp hd ⟨?_, out, n, ?_, hn⟩, rfl, q _ d ?_ ?_ (I.hok.fresh hd)⟩
  · simp only [List.length_map]
    rw [h2.perm.length_eq]
    exact hz'
  · have e : (out.map fun u => (backV u, keyAt s.heap u)).map (·.1) = out.map backV := by rw [List.map_map] <;> rfl
    rw [e]
    exact vals_back h3
  · rw [← i4]
    exact h2.perm.map _
  · refine List.pairwise_map.mpr (h1.imp fun {x y} h => ?_)
    show leC (keyAt s.heap x) (keyAt s.heap y) = true
    unfold leC
    rw [show ltCps (keyAt s.heap y).cps.toList (keyAt s.heap x).cps.toList = false from h]
    rfl
/-! ### over trees -/
section
variable {α β : Type}
def insK (f : α → Str) (a : α) : List α → List α
  | [] => [a]
  | b :: r => if leC (f a) (f b) = true then a :: b :: r else b :: insK f a r
def sortK (f : α → Str) : List α → List α
  | [] => []
  | a :: r => insK f a (sortK f r)
theorem insK_perm (f : α → Str) {a : α} : ∀ {l : List α}, (insK f a l).Perm (a :: l)
  | [] => List.Perm.refl _
  | b :: r => by
    unfold insK
    split
    · exact List.Perm.refl _
    · exact (List.Perm.cons b (insK_perm f (l := r))).trans (List.Perm.swap a b r)
theorem sortK_perm (f : α → Str) : ∀ l : List α, (sortK f l).Perm l
  | [] => List.Perm.refl _
  | a :: r => (insK_perm f).trans (List.Perm.cons a (sortK_perm f r))
theorem insK_srt (f : α → Str) {a : α} : ∀ {l : List α}, l.Pairwise (fun x y => leC (f x) (f y) = true) → (insK f a l).Pairwise fun x y => leC (f x) (f y) = true
  | [], _ => List.pairwise_singleton _ _
  | b :: r, h => by
    have hb := List.pairwise_cons.mp h
    unfold insK
    split
    · rename_i q
      refine List.pairwise_cons.mpr ⟨fun x hx => ?_, h⟩
      rcases List.mem_cons.mp hx with rfl | hx
      · exact q
      · exact leC_tr q (hb.1 x hx)
    · rename_i q
      refine List.pairwise_cons.mpr ⟨fun x hx => ?_, insK_srt f hb.2⟩
      rcases List.mem_cons.mp ((insK_perm f).mem_iff.mp hx) with rfl | hx
      · exact leC_tot (by simpa using q)
      · exact hb.1 x hx
theorem sortK_srt (f : α → Str) : ∀ l : List α, (sortK f l).Pairwise fun x y => leC (f x) (f y) = true
  | [] => .nil
  | a :: r => insK_srt f (sortK_srt f r)
theorem insK_map (f : β → Str) (g : α → β) {a : α} : ∀ {l : List α}, (insK (fun x => f (g x)) a l).map g = insK f (g a) (l.map g)
  | [] => rfl
  | b :: r => by
    unfold insK
    rw [List.map_cons]
    simp only
    split
    · rfl
    · rw [List.map_cons, insK_map f g]
theorem sortK_map (f : β → Str) (g : α → β) : ∀ l : List α, (sortK (fun x => f (g x)) l).map g = sortK f (l.map g)
  | [] => rfl
  | a :: r => by
    show (insK (fun x => f (g x)) a (sortK (fun x => f (g x)) r)).map g = insK f (g a) (sortK f (r.map g))
    rw [insK_map, sortK_map f g r]
end
def nameD : D → Str
  | .tup (.str x :: _) => x
  | _ => ""
def isRowD : D → Bool
  | .tup (.str _ :: _) => true
  | _ => false
def sortRF (xs : List D) : Option D := if (xs.all isRowD && decide ((xs.map nameD).Nodup)) && decide (xs.length ≤ mx) then some (.lst (sortK nameD xs)) else none
section
variable {K : Pm} {L : Addr → Prop} {α : List Addr} {H : Hp}
theorem drs_zip : ∀ {vs : List V} {ds : List D}, Drs K L α H vs ds → ∀ p ∈ vs.zip ds, Dr K L α H p.1 p.2
  | _, _, .nil, p, h => absurd h (by simp)
  | _, _, .cons h r, p, hp => by
    rcases List.mem_cons.mp hp with rfl | hp
    · exact h
    · exact drs_zip r p hp
theorem drs_of : ∀ {zs : List (V × D)}, (∀ p ∈ zs, Dr K L α H p.1 p.2) → Drs K L α H (zs.map (·.1)) (zs.map (·.2))
  | [], _ => .nil
  | p :: zs, h => .cons (h p List.mem_cons_self) (drs_of fun q hq => h q (List.mem_cons_of_mem _ hq))
theorem drs_rows : ∀ {vs : List V} {ds : List D}, Drs K L α H vs ds → ds.all isRowD = true → Paired (fun x n => ∃ t r, x = V.ref t ∧ SqT K.K H t (.str n :: r)) vs (ds.map nameD)
  | _, _, .nil, _ => .nil
  | _, _, .cons (d := d) h r, e => by
    simp only [List.all_cons, Bool.and_eq_true] at e
    refine .cons ?_ (drs_rows r e.2)
    unfold isRowD at e
    split at e
    · cases h with
      | tup hs rs => cases rs with
        | cons h0 rs => cases h0; exact ⟨_, _, rfl, hs⟩
    · exact absurd e.1 (by simp)
end
theorem zip_names : ∀ {vs : List V} {ds : List D}, (vs.zip ds).map (fun p => (p.1, nameD p.2)) = vs.zip (ds.map nameD)
  | [], _ => by simp
  | _ :: _, [] => rfl
  | v :: vs, d :: ds => by
    show (v, nameD d) :: (vs.zip ds).map (fun p => (p.1, nameD p.2)) = (v, nameD d) :: vs.zip (ds.map nameD)
    rw [zip_names]
theorem sortR_one {vs : List V} {ds : List D} {zs : List (V × Str)} (hl : vs.length = ds.length) (nd : (ds.map nameD).Nodup) (hp : zs.Perm (vs.zip (ds.map nameD))) (hs : SrtP zs) :
    zs.map (·.1) = (sortK (fun p : V × D => nameD p.2) (vs.zip ds)).map (·.1) := by
  have e : zs = (sortK (fun p : V × D => nameD p.2) (vs.zip ds)).map fun p => (p.1, nameD p.2) := by
    have p2 : ((sortK (fun p : V × D => nameD p.2) (vs.zip ds)).map fun p => (p.1, nameD p.2)).Perm (vs.zip (ds.map nameD)) := by
      rw [← zip_names]
      exact (sortK_perm _ _).map _
    have s2 : SrtP ((sortK (fun p : V × D => nameD p.2) (vs.zip ds)).map fun p => (p.1, nameD p.2)) := List.pairwise_map.mpr (sortK_srt _ _)
    refine List.Perm.eq_of_pairwise (fun x y hx hy h1 h2 => ?_) hs s2 (hp.trans p2.symm)
    have n2 : ((vs.zip (ds.map nameD)).map (·.2)).Nodup := by
      rw [List.map_snd_zip (by simp [hl])]
      exact nd
    exact nodup_inj n2 x (hp.mem_iff.mp hx) y (p2.mem_iff.mp hy) (str_of_tri h1 h2)
  rw [e, List.map_map] <;> rfl
theorem cd_sortR {K : Pm} : CallD K (rSortedR K.K) (lP sortRF) := fun W H vs ds d G' Q g r e p => by
  obtain ⟨x, xs, rfl, h1, h2, rfl⟩ := lP_eq e
  unfold sortRF at h2
  split at h2
  · rename_i hh
    cases h2
    simp only [Bool.and_eq_true, decide_eq_true_eq] at hh
    obtain ⟨⟨a1, a2⟩, a3⟩ := hh
    cases r with
    | cons h r =>
      cases r
      obtain ⟨a, ws, rfl, sq, q⟩ := inL_sq g h h1
      refine ⟨a, ws, xs.map nameD, rfl, sq, drs_rows q a1, a2, fun zs b hp hsr n => ?_⟩
      have hl : ws.length = xs.length := q.length
      rw [sortR_one hl a2 hp hsr]
      have rr : Rvs K W H ((sortK (fun p : V × D => nameD p.2) (ws.zip xs)).map (·.1)) (sortK nameD xs) := by
        have z := drs_of (zs := sortK (fun p : V × D => nameD p.2) (ws.zip xs)) fun p hp => drs_zip q p ((sortK_perm _ _).mem_iff.mp hp)
        have ez : (sortK (fun p : V × D => nameD p.2) (ws.zip xs)).map (·.2) = sortK nameD xs := by
          have := sortK_map nameD (fun p : V × D => p.2) (ws.zip xs)
          rw [this, List.map_snd_zip (by omega)]
        rw [ez] at z
        exact z
      obtain ⟨g', x', rv⟩ := lst_new g rr n
      exact p W _ _ rfl x' g' rv
  · cases h2
/-! ### xs * k -/
end Tw

namespace Tw
open PySem PySem.Spec PyProof.Rows L2
/-! ### sorted(t), t a tuple -/
section
variable {prog : Program} {w : World} {A : Around} {E : Value → Shared → Prop} {s : Shared}
theorem collect_tup {l : Addr} {vs : List Value} {Q : List Value → Shared → Prop} (hl : IsTup s.heap l vs.toArray)
    (h : Q vs { s with heap := (s.heap.push (seqObj "list" #[] 0)).update s.heap.objs.size (Obj.mapSeq (· ++ vs.toArray)) }) (hsz : vs.length ≤ sizeLine) :
    wpAny (model prog w) A (collect (.ref l)) Q E s := by
  obtain ⟨o, ho, hc, n, hd⟩ := id hl
  unfold collect
  refine wpAny_bind (wpAny_runValue (codeAny_builtin entry_proto_collect' ?_))
  show wpAny _ _ (do again (.builtin "list.__iadd__" ⟨[← newList [], .ref l], []⟩)) _ _ s
  refine wpAny_bind (wpAny_newList (wpAny_pure ⟨Code.quiet_builtin _ (by decide +kernel), codeAny_builtin entry_list_iadd' ?_⟩))
  show wpAny _ _ (Builtin.List.listExtendWith (.ref s.heap.objs.size) (.ref l) (.ref s.heap.objs.size)) _ _ { s with heap := s.heap.push (seqObj "list" #[] 0) }
  unfold Builtin.List.listExtendWith
  have ho' : (s.heap.push (seqObj "list" #[] 0)).get? l = some o := Heap.get?_push_of_some _ ho
  refine wpAny_bind (wpAny_typeOf (T := "tuple") ⟨o, ho', hc⟩ ?_)
  have ht : (Value.type "tuple" == Value.type "tuple") = true := by rfl
  rw [if_pos (by rw [ht]; simp)]
  refine wpAny_bind (listItems_at ho' hd ?_)
  refine wpAny_bind (listItems_at (xs := #[]) (n := 0) (Heap.get?_push_size _ rfl) rfl ?_)
  rw [if_neg (by simp)]
  refine wpAny_bind (listUpdate_at (xs := #[]) (n := 0) (Heap.get?_push_size _ rfl) rfl ?_ (Nat.zero_le _) (by show (#[] ++ vs.toArray).size ≤ sizeLine + 1; simp only [Array.size_append, List.size_toArray, List.length_nil]; omega))
  refine wpAny_pure ?_
  show wpAny (model prog w) A (do
      let o ← load s.heap.objs.size
      match o.data with
      | .seq xs _ => pure xs.toList
      | _ => unsupported "internal:collect") Q E { s with heap := (s.heap.push (seqObj "list" #[] 0)).update s.heap.objs.size (Obj.mapSeq (· ++ vs.toArray)) }
  refine wpAny_bind (wpAny_load (get?_update_seq (Heap.get?_push_size _ rfl) _) ?_)
  show wpAny _ _ (pure ((#[] : Array Value) ++ vs.toArray).toList) Q E _
  rw [show ((#[] : Array Value) ++ vs.toArray).toList = vs by simp]
  exact wpAny_pure h
theorem sorted_ordT {l : Addr} {vs : List Value} {ltv : Value → Value → Bool} {Q : Value → Shared → Prop} (O : SrtO.Swo ltv) (hl : IsTup s.heap l vs.toArray) (hz : vs.length ≤ sizeLine)
    (hS : 2 ≤ vs.length → ∀ (h₁ : Heap) (a : Addr), h₁.get? a = some (seqObj "list" vs.toArray 0) → (∀ b o, s.heap.get? b = some o → b ≠ a ∧ h₁.get? b = some o) → SrtO.SortableO prog w A.in1.in1 { s with heap := h₁ } a vs ltv)
    (h : ∀ out : List Value, SrtO.Srtd ltv out → SrtO.Stb ltv out vs → Q (.ref (s.heap.objs.size + 1)) { s with heap := sortedAll s.heap vs out.toArray }) :
    wpAny (model prog w) A (call (.builtin "sorted") [.ref l]) Q E s := by
  refine Calls.call_function_entry kind_sorted plain_sorted entry_sorted (args_sorted1 _) ?_
  unfold Builtin.«sorted»
  refine wpAny_bind (m := checkCount "sorted" 1 1 _) (wpAny_pure ?_)
  refine wpAny_bind (collect_tup hl ?_ hz)
  refine wpAny_bind (wpAny_newList ?_ hz)
  have hsz : ((s.heap.push (seqObj "list" #[] 0)).update s.heap.objs.size (Obj.mapSeq (· ++ vs.toArray))).objs.size = s.heap.objs.size + 1 := by
    rw [Heap.size_update, size_push']
  have hoL : (((s.heap.push (seqObj "list" #[] 0)).update s.heap.objs.size (Obj.mapSeq (· ++ vs.toArray))).push (seqObj "list" vs.toArray 0)).get? (s.heap.objs.size + 1) = some (seqObj "list" vs.toArray 0) := by
    rw [← hsz]; exact Heap.get?_push_size _ rfl
  have keep : ∀ b o, s.heap.get? b = some o → b ≠ s.heap.objs.size + 1 ∧ (((s.heap.push (seqObj "list" #[] 0)).update s.heap.objs.size (Obj.mapSeq (· ++ vs.toArray))).push (seqObj "list" vs.toArray 0)).get? b = some o := fun b o q => by
    have hlt : b < s.heap.objs.size := Heap.lt_size q
    refine ⟨Nat.ne_of_lt (Nat.lt_succ_of_lt hlt), Heap.get?_push_of_some _ ?_⟩
    rw [Heap.get?_update_ne _ _ _ _ (Nat.ne_of_lt hlt)]
    exact Heap.get?_push_of_some _ q
  show wpAny _ _ _ _ _ { s with heap := ((s.heap.push (seqObj "list" #[] 0)).update s.heap.objs.size (Obj.mapSeq (· ++ vs.toArray))).push (seqObj "list" vs.toArray 0) }
  rw [hsz]
  refine wpAny_bind (wpAny_holding (wpAny_call_entry slot_list_sort ⟨_, hoL, rfl⟩ entry_list_sort (SrtO.list_sort_ord O hoL hz (fun h2 => hS h2 _ _ hoL keep) fun out hs hb => ⟨_, rfl, ?_⟩) (args_list_sort _)))
  exact wpAny_pure ⟨_, rfl, h out hs hb⟩
theorem sorted_rowsT {l : Addr} {vs : List Value} {k : Value → Str} {Q : Value → Shared → Prop} (hl : IsTup s.heap l vs.toArray) (hz : vs.length ≤ sizeLine) (hp : ∀ v ∈ vs, IsRow s.heap v (k v)) (hi : ∀ v ∈ vs, ∀ u ∈ vs, k v = k u → v = u)
    (h : ∀ (h' : Heap) (d : Addr) (out : List Value), SrtO.Srtd (ltK k) out → SrtO.Stb (ltK k) out vs → (∀ b o, s.heap.get? b = some o → h'.get? b = some o) → s.heap.objs.size ≤ d → (∃ n, h'.get? d = some (seqObj "list" out.toArray n)) → Q (.ref d) { s with heap := h' }) :
    wpAny (model prog w) A (call (.builtin "sorted") [.ref l]) Q E s := by
  refine sorted_ordT (swo_K k) hl hz (fun h2 h₁ a ha kk => ?_) fun out hs hb => ?_
  · refine rows_sortableO (s := { s with heap := h₁ }) (by omega) (fun v hm => ?_) hi fun o e => ?_
    · obtain ⟨b, o, its, t, n, e, ho, r⟩ := hp v hm
      exact ⟨b, o, its, t, n, e, (kk b o ho).2, r⟩
    have e' : some o = some (seqObj "list" vs.toArray 0) := e.symm.trans ha
    cases e'
    intro c
    exact absurd (Value.type.inj c) (by decide)
  · exact h _ _ out hs hb (fun b o e => sortedAll_old e) (Nat.le_succ _) (sortedAll_at s.heap vs out.toArray)
end
def rSortedRT (K : PySem.W.Frag) : List V → Hp → VK → Prop := fun vs H Q => ∃ (a : Addr) (xs : List V) (ns : List Str), vs = [V.ref a] ∧ SqT K H a xs ∧ Paired (fun x n => ∃ t r, x = V.ref t ∧ SqT K H t (.str n :: r)) xs ns ∧ ns.Nodup ∧
  ∀ (zs : List (V × Str)) (p : Addr), zs.Perm (xs.zip ns) → SrtP zs → H p = none → Q (.ref p) (upd H p (.lst (zs.map (·.1))))
theorem cr_sortedRT {X : Cx} : CallR X (.builtin "sorted") (rSortedRT X.K) := by
  intro pins s σ H vs us Q I r h
  obtain ⟨a, xs, ns, rfl, hs, hx, nd, q⟩ := h
  obtain ⟨its, rv, hl, hz⟩ := I.tuple hs
  obtain ⟨u, rfl, ru⟩ := vals1 r
  obtain rfl : u = Value.ref a := ru
  obtain ⟨i1, i2, i3, i4⟩ := paired_rows I hx rv
  have hz' : its.length ≤ sizeLine := by rw [← rv.length]; exact hz
  refine sorted_rowsT (k := keyAt s.heap) hl hz' i1 (nodup_inj (by rw [i2]; exact nd)) fun h' d out h1 h2 kp hd hn => ?_
  have h3 : ∀ u ∈ out, ∃ a, u = Value.ref a := fun u hu => i3 u (h2.perm.mem_iff.mp hu)
  obtain ⟨n, hn⟩ := hn
  refine ⟨.ref d, upd H d (.lst ((out.map fun u => (backV u, keyAt s.heap u)).map (·.1))), I.laid (t' := s.toks) kp hd ⟨?_, out, n, ?_, hn⟩, rfl, q _ d ?_ ?_ (I.hok.fresh hd)⟩
  · simp only [List.length_map]
    rw [h2.perm.length_eq]
    exact hz'
  · have e : (out.map fun u => (backV u, keyAt s.heap u)).map (·.1) = out.map backV := by rw [List.map_map] <;> rfl
    rw [e]
    exact vals_back h3
  · rw [← i4]
    exact h2.perm.map _
  · refine List.pairwise_map.mpr (h1.imp fun {x y} h => ?_)
    show leC (keyAt s.heap x) (keyAt s.heap y) = true
    unfold leC
    rw [show ltCps (keyAt s.heap y).cps.toList (keyAt s.heap x).cps.toList = false from h]
    rfl
theorem cd_sortRT {K : Pm} : CallD K (rSortedRT K.K) (tP sortRF) := fun W H vs ds d G' Q g r e p => by
  unfold tP at e
  split at e
  · rename_i xs
    split at e
    · rename_i d' h2
      cases e
      unfold sortRF at h2
      split at h2
      · rename_i hh
        cases h2
        simp only [Bool.and_eq_true, decide_eq_true_eq] at hh
        obtain ⟨⟨a1, a2⟩, a3⟩ := hh
        cases r with
        | cons h r =>
          cases r
          cases h with
          | tup sq q =>
            rename_i a ws
            refine ⟨a, ws, xs.map nameD, rfl, sq, drs_rows q a1, a2, fun zs b hp hsr n => ?_⟩
            have hl : ws.length = xs.length := q.length
            rw [sortR_one hl a2 hp hsr]
            have rr : Rvs K W H ((sortK (fun p : V × D => nameD p.2) (ws.zip xs)).map (·.1)) (sortK nameD xs) := by
              have z := drs_of (zs := sortK (fun p : V × D => nameD p.2) (ws.zip xs)) fun p hp => drs_zip q p ((sortK_perm _ _).mem_iff.mp hp)
              have ez : (sortK (fun p : V × D => nameD p.2) (ws.zip xs)).map (·.2) = sortK nameD xs := by
                have := sortK_map nameD (fun p : V × D => p.2) (ws.zip xs)
                rw [this, List.map_snd_zip (by omega)]
              rw [ez] at z
              exact z
            obtain ⟨g', x', rv⟩ := lst_new g rr n
            exact p W _ _ rfl x' g' rv
      · cases h2
    · cases e
  · cases e
/-! ### xs * k -/
def repP : D → D → P1 D := fun x y G => match lonly x G, y with
  | some xs, .int k => if (decide (-1000000 ≤ k) && decide (k ≤ 1000000)) && decide (xs.length * k.toNat ≤ mx) then okL (List.replicate k.toNat xs).flatten G else none
  | _, _ => none
theorem Drs.rep {K : Pm} {L : Addr → Prop} {α : List Addr} {H : Hp} {vs : List V} {ds : List D} (r : Drs K L α H vs ds) : ∀ n : Nat, Drs K L α H (List.replicate n vs).flatten (List.replicate n ds).flatten
  | 0 => .nil
  | n + 1 => by
    rw [List.replicate_succ, List.replicate_succ, List.flatten_cons, List.flatten_cons]
    exact r.app (Drs.rep r n)
theorem opd_rep {K : Pm} : OpD K rRep repP := fun W H x y a b d G' Q g r1 r2 e p => by
  unfold repP at e
  split at e
  · rename_i xs k h1
    split at e
    · rename_i hh
      simp only [Bool.and_eq_true, decide_eq_true_eq] at hh
      obtain ⟨⟨k1, k2⟩, k3⟩ := hh
      obtain ⟨h4, eg⟩ := pur_eq e
      obtain ⟨_, rfl⟩ := lstO_eq h4
      obtain ⟨a1, vs, rfl, q1, s1⟩ := lonly_at g r1 h1
      cases r2
      refine ⟨a1, k, vs, rfl, rfl, q1, by omega, by omega, mx_line (by rw [s1.length]; exact k3), fun l n => ?_⟩
      obtain ⟨g', x', rv⟩ := lst_new g (s1.rep k.toNat) n
      exact p W _ _ eg.symm x' g' rv
    · cases e
  · cases e
end Tw

namespace Tw
open PySem PySem.Spec PyProof.Rows L2
/-! ### x is True, x is not False -/
section
variable {M : Model} {A : Around} {E : Value → Shared → Prop} {Q : Value → Shared → Prop} {s : Shared}
theorem is_bool_gen {v : Value} {c : Bool} (hb : ∀ i, v ≠ .builtin i) (h : Q (.bool (v == .bool c)) s) : wpAny M A (compareOp .Is v (.bool c)) Q E s := by
  cases v <;> first | exact wpAny_pure h | exact absurd rfl (hb _)
theorem isnot_bool_gen {v : Value} {c : Bool} (hb : ∀ i, v ≠ .builtin i) (h : Q (.bool (!(v == .bool c))) s) : wpAny M A (compareOp .IsNot v (.bool c)) Q E s := by
  cases v <;> first | exact wpAny_pure h | exact absurd rfl (hb _)
end
def isB (x : V) (c : Bool) : Bool := match x with
  | .bl b => b == c
  | _ => false
theorem nb_of {x : V} {u : Value} (r : RelV x u) : ∀ i, u ≠ .builtin i := by
  intro i e
  subst e
  cases x <;> first | exact nomatch r | (obtain ⟨t, e⟩ := r; cases e)
theorem bool_beq (b c : Bool) : ((Value.bool b : Value) == Value.bool c) = (b == c) := by cases b <;> cases c <;> rfl
theorem op_isB {X : Cx} : OpR X (compareOp .Is) (fun x y H Q => ∃ c, y = .bl c ∧ Q (.bl (isB x c)) H) := by
  intro pins s σ H x y v u Q I rx ry h
  obtain ⟨c, rfl, q⟩ := h
  cases ry
  refine is_bool_gen (nb_of rx) (fin_bl I q ?_)
  cases x <;> first
    | (cases rx; exact (bool_beq _ _).symm)
    | (cases rx; rfl)
    | (obtain ⟨t, rfl⟩ := rx; rfl)
theorem op_notB {X : Cx} : OpR X (compareOp .IsNot) (fun x y H Q => ∃ c, y = .bl c ∧ Q (.bl (!isB x c)) H) := by
  intro pins s σ H x y v u Q I rx ry h
  obtain ⟨c, rfl, q⟩ := h
  cases ry
  refine isnot_bool_gen (nb_of rx) (fin_bl I q ?_)
  cases x <;> first
    | (cases rx; exact congrArg (!·) (bool_beq _ _).symm)
    | (cases rx; rfl)
    | (obtain ⟨t, rfl⟩ := rx; rfl)
def isBO (neg : Bool) : D → D → Option D := fun x y => match y with
  | .bl c => some (.bl (match x with | .bl b => (if neg then !(b == c) else b == c) | _ => neg))
  | _ => none
theorem opd_isB {K : Pm} : OpD K (fun x y H Q => ∃ c, y = .bl c ∧ Q (.bl (isB x c)) H) (pur2 (isBO false)) := fun W H x y a b d G' Q gr r1 r2 e p => by
  obtain ⟨e, eg⟩ := pur_eq e
  unfold isBO at e
  split at e
  · cases e
    cases r2
    refine ⟨_, rfl, p W _ H eg.symm Ext.refl gr ?_⟩
    cases r1 <;> exact .bl _
  · cases e
theorem opd_notB {K : Pm} : OpD K (fun x y H Q => ∃ c, y = .bl c ∧ Q (.bl (!isB x c)) H) (pur2 (isBO true)) := fun W H x y a b d G' Q gr r1 r2 e p => by
  obtain ⟨e, eg⟩ := pur_eq e
  unfold isBO at e
  split at e
  · cases e
    cases r2
    refine ⟨_, rfl, p W _ H eg.symm Ext.refl gr ?_⟩
    cases r1 <;> exact .bl _
  · cases e
/-! ### f() -/
theorem te_c0 {X : Cx} {We : WE'} {k : Nat} {F : List D → M D} {x : Str} {p pos : Pos} {dF' : En → M D} (T : Cal X.prog X.w X.K X.mg X.base k x 0 F)
    (up : ∀ {σ : L2.St} {H : Hp} {Q : VK}, upE (Cxp X) We dF' σ H Q → upA (Cxp X) We dNil σ H (fun vs H1 => spF (Cxp X) Xo0 0 F vs H1 Q E0)) (hr : Room k X.A) (hg : Gl X x) (hdb : (x == ("__debug__" : Str)) = false := by decide) : PE X (.Call (.Name x p) [] [] pos) (upE (Cxp X) We dF') := by
  obtain ⟨f, fd, ps, hm, G, kp, b⟩ := T.ex
  exact te_f0 (fun h => up h) G hr hg hm kp b hdb
end Tw

namespace Tw
open PySem PySem.Spec PyProof.Rows L2
/-! ### what a reckoning comes to: no error, and Q of its end -/
def WP {A : Type} (m : M A) (G : List O) (Q : A → List O → Prop) : Prop := ∃ a G', m G = some (.inr a, G') ∧ Q a G'
section
variable {A B : Type} {m : M A} {k : A → M B} {G G1 : List O} {Q Q' : A → List O → Prop} {R : B → List O → Prop}
theorem WP.imp (h : WP m G Q) (i : ∀ a G', Q a G' → Q' a G') : WP m G Q' := let ⟨a, G', e, q⟩ := h; ⟨a, G', e, i a G' q⟩
theorem WP.of {a : A} (h : m G = some (.inr a, G1)) (q : Q a G1) : WP m G Q := ⟨a, G1, h, q⟩
theorem WP.bnd (h : WP m G fun a G1 => WP (k a) G1 R) : WP (Tw.bnd m k) G R := by
  obtain ⟨a, G1, e, b, G2, e2, q⟩ := h
  exact ⟨b, G2, (bnd_i e).trans e2, q⟩
theorem WP.bndN (h : WP m G fun a G1 => WP (k a) G1 R) : WP (Tw.bndN m k) G R := by
  obtain ⟨a, G1, e, b, G2, e2, q⟩ := h
  exact ⟨b, G2, (bndN_i e).trans e2, q⟩
theorem WP.ret {a : A} (q : Q a G) : WP (Tw.ret a) G Q := ⟨a, G, rfl, q⟩
theorem WP.lft {f : P1 A} {a : A} (h : f G = some (a, G1)) (q : Q a G1) : WP (Tw.lft f) G Q := ⟨a, G1, lft_i h, q⟩
theorem WP.pur {o : Option A} {a : A} (h : o = some a) (q : Q a G) : WP (Tw.lft (Tw.pur o)) G Q := ⟨a, G, by rw [h]; rfl, q⟩
theorem WP.noX (h : WP m G Q) : WP (Tw.noX m) G Q := by
  obtain ⟨a, G1, e, q⟩ := h
  exact ⟨a, G1, by unfold Tw.noX; rw [e], q⟩
end
section
variable {G G1 : List O} {ρ : En} {a b : En → M D} {ea : En → M (List D)} {Q : D → List O → Prop} {Ql : List D → List O → Prop} {Qb : Bool → List O → Prop} {Qo : Out → List O → Prop} {t u : En → M Bool} {s1 s2 : En → M Out}
theorem w_v {i : Nat} {d : D} (h : ρ[i]? = some (some d)) (q : Q d G) : WP (dV i ρ) G Q := by
  refine ⟨d, G, ?_, q⟩
  unfold dV lft pur
  rw [h]
theorem w_c {d : D} (q : Q d G) : WP (dC d ρ) G Q := ⟨d, G, rfl, q⟩
theorem w_d2 {f : D → D → P1 D} (h : WP (a ρ) G fun x G1 => WP (b ρ) G1 fun y G2 => ∃ d G3, f x y G2 = some (d, G3) ∧ Q d G3) : WP (d2 f a b ρ) G Q :=
  WP.bnd (h.imp fun x G1 h1 => WP.bnd (h1.imp fun y G2 ⟨d, G3, e, q⟩ => WP.lft e q))
theorem w_nil (q : Ql [] G) : WP (dNil ρ) G Ql := ⟨[], G, rfl, q⟩
theorem w_cons (h : WP (a ρ) G fun x G1 => WP (ea ρ) G1 fun xs G2 => Ql (x :: xs) G2) : WP (dCons a ea ρ) G Ql :=
  WP.bnd (h.imp fun x G1 h1 => WP.bnd (h1.imp fun xs G2 q => WP.ret q))
theorem w_call {f : List D → P1 D} (h : WP (ea ρ) G fun ds G1 => ∃ d G2, f ds G1 = some (d, G2) ∧ Q d G2) : WP (dCall f ea ρ) G Q :=
  WP.bnd (h.imp fun ds G1 ⟨d, G2, e, q⟩ => WP.lft e q)
theorem w_F {F : List D → M D} (h : WP (ea ρ) G fun ds G1 => WP (F ds) G1 Q) : WP (dF F ea ρ) G Q :=
  WP.bnd (h.imp fun ds G1 h1 => WP.noX h1)
theorem w_Fp {F : List D → M D} (h : WP (ea ρ) G fun ds G1 => noRs ds = true ∧ WP (F ds) [] fun d _ => noR d = true ∧ Q d G1) : WP (dFp F ea ρ) G Q := by
  refine WP.bnd (h.imp fun ds G1 h1 => ?_)
  obtain ⟨n, d, G2, e, n2, q⟩ := h1
  refine ⟨d, G1, ?_, q⟩
  unfold pureF
  rw [if_pos n, e]
  dsimp only
  rw [if_pos n2]
theorem w_tup (h : WP (ea ρ) G fun xs G1 => xs.length ≤ mx ∧ Q (.tup xs) G1) : WP (dTup ea ρ) G Q :=
  WP.bnd (h.imp fun xs G1 ⟨z, q⟩ => WP.pur (by unfold tupO; rw [if_pos z]) q)
theorem w_tpn (h : WP (ea ρ) G fun xs G1 => xs.length ≤ mx ∧ Q (.tpn xs) G1) : WP (dTpn ea ρ) G Q :=
  WP.bnd (h.imp fun xs G1 ⟨z, q⟩ => WP.pur (by unfold tpnO; rw [if_pos z]) q)
theorem w_lst (h : WP (ea ρ) G fun xs G1 => xs.length ≤ mx ∧ Q (.lst xs) G1) : WP (dLst ea ρ) G Q :=
  WP.bnd (h.imp fun xs G1 ⟨z, q⟩ => WP.pur (by unfold lstO; rw [if_pos z]) q)
theorem w_lstM (h : WP (ea ρ) G fun xs G1 => xs.length ≤ mx ∧ Q (.ref G1.length) (G1 ++ [.lst xs])) : WP (dLstM ea ρ) G Q :=
  WP.bnd (h.imp fun xs G1 ⟨z, q⟩ => WP.lft (by unfold newL; rw [if_pos z]) q)
theorem w_wk (h : WP (a ρ) G fun d G1 => Q (wkD d) G1) : WP (dWk a ρ) G Q := WP.bnd (h.imp fun d G1 q => WP.ret q)
theorem w_frz (h : WP (a ρ) G fun d G1 => ∃ t G2, frzD d G1 = some (t, G2) ∧ Q t G2) : WP (dFrz a ρ) G Q := WP.bnd (h.imp fun d G1 ⟨t, G2, e, q⟩ => WP.lft e q)
theorem w_meth {f : D → List D → P1 D} (h : WP (a ρ) G fun x G1 => (∃ xs, inL x G1 = some xs) ∧ WP (ea ρ) G1 fun ds G2 => ∃ d G3, f x ds G2 = some (d, G3) ∧ Q d G3) : WP (dMeth f a ea ρ) G Q := by
  refine WP.bnd (h.imp fun x G1 ⟨⟨xs, hx⟩, h1⟩ => WP.bnd (WP.lft (a := ()) (G1 := G1) ?_ (WP.bnd (h1.imp fun ds G2 ⟨d, G3, e, q⟩ => WP.lft e q))))
  unfold isLs
  rw [hx]
/-! tests -/
theorem w_test (h : WP (a ρ) G fun d G1 => ∃ c, d = .bl c ∧ Qb c G1) : WP (dTest a ρ) G Qb :=
  WP.bnd (h.imp fun d G1 ⟨c, e, q⟩ => WP.pur (a := c) (by rw [e]; rfl) q)
theorem w_notT (h : WP (t ρ) G fun c G1 => Qb (!c) G1) : WP (dNotT t ρ) G Qb := WP.bnd (h.imp fun c G1 q => WP.ret q)
theorem w_andT (h : WP (t ρ) G fun c G1 => (c = true → WP (u ρ) G1 Qb) ∧ (c = false → Qb false G1)) : WP (dAndT t u ρ) G Qb :=
  WP.bnd (h.imp fun c G1 ⟨h1, h2⟩ => by
    cases c with
    | true => exact h1 rfl
    | false => exact WP.ret (h2 rfl))
theorem w_orT (h : WP (t ρ) G fun c G1 => (c = true → Qb true G1) ∧ (c = false → WP (u ρ) G1 Qb)) : WP (dOrT t u ρ) G Qb :=
  WP.bnd (h.imp fun c G1 ⟨h1, h2⟩ => by
    cases c with
    | true => exact WP.ret (h1 rfl)
    | false => exact h2 rfl)
theorem w_yes (q : Qb true G) : WP (dYes ρ) G Qb := WP.ret q
theorem w_and (h : WP (a ρ) G fun d G1 => ∃ c, d = .bl c ∧ (c = true → WP (b ρ) G1 Q) ∧ (c = false → Q (.bl false) G1)) : WP (dAnd a b ρ) G Q :=
  WP.bnd (h.imp fun d G1 ⟨c, e, h1, h2⟩ => by
    subst e
    refine WP.bnd (WP.lft (a := c) (G1 := G1) rfl ?_)
    cases c with
    | true => exact h1 rfl
    | false => exact WP.ret (h2 rfl))
theorem w_or (h : WP (a ρ) G fun d G1 => ∃ c, d = .bl c ∧ (c = true → Q (.bl true) G1) ∧ (c = false → WP (b ρ) G1 Q)) : WP (dOr a b ρ) G Q :=
  WP.bnd (h.imp fun d G1 ⟨c, e, h1, h2⟩ => by
    subst e
    refine WP.bnd (WP.lft (a := c) (G1 := G1) rfl ?_)
    cases c with
    | true => exact WP.ret (h1 rfl)
    | false => exact h2 rfl)
theorem w_not (h : WP (a ρ) G fun d G1 => ∃ c, d = .bl c ∧ Q (.bl (!c)) G1) : WP (dNot a ρ) G Q :=
  WP.bnd (h.imp fun d G1 ⟨c, e, q⟩ => by
    subst e
    exact WP.bnd (WP.lft (a := c) (G1 := G1) rfl (WP.ret q)))
theorem w_if (h : WP (t ρ) G fun c G1 => (c = true → WP (a ρ) G1 Q) ∧ (c = false → WP (b ρ) G1 Q)) : WP (dIf t a b ρ) G Q :=
  WP.bnd (h.imp fun c G1 ⟨h1, h2⟩ => by
    cases c with
    | true => exact h1 rfl
    | false => exact h2 rfl)
/-! statements -/
theorem w_ifS (h : WP (t ρ) G fun c G1 => (c = true → WP (s1 ρ) G1 Qo) ∧ (c = false → WP (s2 ρ) G1 Qo)) : WP (dIfS t s1 s2 ρ) G Qo :=
  WP.bnd (h.imp fun c G1 ⟨h1, h2⟩ => by
    cases c with
    | true => exact h1 rfl
    | false => exact h2 rfl)
def thenS (s : En → M Out) (Q : Out → List O → Prop) : Out → List O → Prop := fun o G => match o with
  | .nx ρ => WP (s ρ) G Q
  | o => Q o G
theorem w_seq (h : WP (s1 ρ) G (thenS s2 Qo)) : WP (dSeq s1 s2 ρ) G Qo :=
  WP.bnd (h.imp fun o G1 h1 => by
    cases o with
    | nx ρ' => exact h1
    | rt d => exact WP.ret h1
    | bk ρ' => exact WP.ret h1
    | ct ρ' => exact WP.ret h1)
theorem w_next (q : Qo (.nx ρ) G) : WP (dNext ρ) G Qo := WP.ret q
theorem w_cnt (q : Qo (.ct ρ) G) : WP (dCnt ρ) G Qo := WP.ret q
theorem w_ret (h : WP (a ρ) G fun d G1 => Qo (.rt d) G1) : WP (dRet a ρ) G Qo := WP.bnd (h.imp fun d G1 q => WP.ret q)
theorem w_expr (h : WP (a ρ) G fun d G1 => Qo (.nx ρ) G1) : WP (dExpr a ρ) G Qo := WP.bnd (h.imp fun d G1 q => WP.ret q)
theorem w_asg {g : D → En → P1 En} (h : WP (a ρ) G fun d G1 => ∃ ρ1 G2, g d ρ G1 = some (ρ1, G2) ∧ Qo (.nx ρ1) G2) : WP (dAsg a g ρ) G Qo :=
  WP.bnd (h.imp fun d G1 ⟨ρ1, G2, e, q⟩ => WP.bnd (WP.lft e (WP.ret q)))
theorem w_par {i j : Nat} (h : WP (ea ρ) G fun ds G1 => ∃ ρ1, par2 i j ds ρ = some ρ1 ∧ Qo (.nx ρ1) G1) : WP (dPar i j ea ρ) G Qo :=
  WP.bnd (h.imp fun ds G1 ⟨ρ1, e, q⟩ => WP.bnd (WP.pur e (WP.ret q)))
theorem w_sFrz {i : Nat} {d : D} {t' : D} {G2 : List O} (h : ρ[i]? = some (some d)) (e : frzD d G = some (t', G2)) (k : WP (s1 (ρ.set i (some t'))) G2 Qo) : WP (sFrz i s1 ρ) G Qo :=
  WP.bnd (w_v h (WP.bnd (WP.lft e k)))
theorem w_for {di : En → M (List D)} {g : D → En → P1 En} (h : WP (di ρ) G fun ds G1 => WP (bodyL g s1 ds ρ) G1 Qo) : WP (dFor di g s1 ρ) G Qo := WP.bnd h
theorem w_itL (h : WP (a ρ) G fun d G1 => ∃ ds, itL d = some ds ∧ Ql ds G1) : WP (dItL a ρ) G Ql := WP.bnd (h.imp fun d G1 ⟨ds, e, q⟩ => WP.pur e q)
theorem w_itT (h : WP (a ρ) G fun d G1 => ∃ ds, itT d = some ds ∧ Ql ds G1) : WP (dItT a ρ) G Ql := WP.bnd (h.imp fun d G1 ⟨ds, e, q⟩ => WP.pur e q)
theorem w_itK (h : WP (a ρ) G fun d G1 => ∃ ds, itK d = some ds ∧ Ql ds G1) : WP (dItK a ρ) G Ql := WP.bnd (h.imp fun d G1 ⟨ds, e, q⟩ => WP.pur e q)
theorem w_rng {f : List D → Option (List D)} (h : WP (ea ρ) G fun ds G1 => ∃ es, f ds = some es ∧ Ql es G1) : WP (dRng f ea ρ) G Ql := WP.bnd (h.imp fun ds G1 ⟨es, e, q⟩ => WP.pur e q)
/-- a loop that always goes on: I tells what is left, the variables, the objects -/
theorem w_loop {g : D → En → P1 En} (I : List D → En → List O → Prop) (step : ∀ (d : D) (r : List D) (ρ : En) (G : List O), I (d :: r) ρ G → ∃ ρ1 G1, g d ρ G = some (ρ1, G1) ∧ WP (s1 ρ1) G1 fun o G2 => ∃ ρ2, (o = .nx ρ2 ∨ o = .ct ρ2) ∧ I r ρ2 G2) :
    ∀ (ds : List D) (ρ : En) (G : List O), I ds ρ G → (∀ ρ' G', I [] ρ' G' → Qo (.nx ρ') G') → WP (bodyL g s1 ds ρ) G Qo
  | [], ρ, G, i, q => WP.ret (q ρ G i)
  | d :: r, ρ, G, i, q => by
    obtain ⟨ρ1, G1, e, h⟩ := step d r ρ G i
    refine WP.bnd (WP.lft e (WP.bnd (h.imp fun o G2 h2 => ?_)))
    obtain ⟨ρ2, ho, i2⟩ := h2
    rcases ho with rfl | rfl
    · exact w_loop I step r ρ2 G2 i2 q
    · exact w_loop I step r ρ2 G2 i2 q
/-- a comprehension: I tells what is left, what is told, the objects -/
theorem w_lcL {g : D → En → P1 En} {own : List Nat} (I : List D → List D → List O → Prop) (step : ∀ (d : D) (r ys : List D) (G : List O), I (d :: r) ys G → ∃ ρ1 G1, g d ρ G = some (ρ1, G1) ∧ WP (t ρ1) G1 fun c G2 => (c = true → WP (a ρ1) G2 fun y G3 => I r (ys ++ [y]) G3) ∧ (c = false → I r ys G2)) :
    ∀ (ds ys : List D) (G : List O), I ds ys G → WP (lcL g t a ρ ds) G fun zs G' => I [] (ys ++ zs) G'
  | [], ys, G, i => WP.ret (by rw [List.append_nil]; exact i)
  | d :: r, ys, G, i => by
    obtain ⟨ρ1, G1, e, h⟩ := step d r ys G i
    refine WP.bndN (WP.lft e (WP.bndN (h.imp fun c G2 h2 => ?_)))
    cases c with
    | true =>
      refine WP.bndN ((h2.1 rfl).imp fun y G3 i3 => WP.bndN ((w_lcL (own := own) I step r (ys ++ [y]) G3 i3).imp fun zs G4 i4 => WP.ret ?_))
      rw [List.append_assoc] at i4
      exact i4
    | false => exact w_lcL (own := own) I step r ys G2 (h2.2 rfl)
theorem w_lc {di : En → M (List D)} {g : D → En → P1 En} {own : List Nat} (I : List D → List D → List O → Prop) (h : WP (di ρ) G fun ds G1 => I ds [] G1)
    (step : ∀ (d : D) (r ys : List D) (G : List O), I (d :: r) ys G → ∃ ρ1 G1, g d (wipeD ρ own) G = some (ρ1, G1) ∧ WP (t ρ1) G1 fun c G2 => (c = true → WP (a ρ1) G2 fun y G3 => I r (ys ++ [y]) G3) ∧ (c = false → I r ys G2))
    (q : ∀ ys G', I [] ys G' → ys.length ≤ mx ∧ Q (.lst ys) G') : WP (dLc di g t a own ρ) G Q :=
  WP.bnd (h.imp fun ds G1 i => WP.bndN ((w_lcL (own := own) I step ds [] G1 i).imp fun zs G2 i2 => by
    obtain ⟨z, q2⟩ := q zs G2 i2
    exact WP.pur (by unfold lstO; rw [if_pos z]) q2))
theorem w_run {n : Nat} {s : En → M Out} {args : List D} (h : WP (s (start0 n args)) G fun o G1 => ∃ d, o = .rt d ∧ Q d G1) : WP (runD n s args) G Q :=
  WP.bnd (h.imp fun o G1 ⟨d, e, q⟩ => by subst e; exact WP.ret q)
end
end Tw

namespace Tw
open PySem PySem.Spec PyProof.Rows L2
/-! ### one step of a reckoning -/
 section
variable {G G1 : List O} {ρ : En} {a b c : En → M D} {Q : D → List O → Prop} {Qo : Out → List O → Prop} {s1 : En → M Out}
theorem w_neg (h : WP (a ρ) G fun d G1 => ∃ e, negO d = some e ∧ Q e G1) : WP (dNeg a ρ) G Q := WP.bnd (h.imp fun d G1 ⟨e, h, q⟩ => WP.pur h q)
theorem w_dput {o k v : En → M D} (h : WP (v ρ) G fun x G1 => WP (o ρ) G1 fun y G2 => WP (k ρ) G2 fun z G3 => ∃ u G4, dputP y z x G3 = some (u, G4) ∧ Qo (.nx ρ) G4) : WP (dDput o k v ρ) G Qo :=
  WP.bnd (h.imp fun x G1 h1 => WP.bnd (h1.imp fun y G2 h2 => WP.bnd (h2.imp fun z G3 ⟨u, G4, e, q⟩ => WP.bnd (WP.lft e (WP.ret q)))))
theorem w_newD (q : Q (.ref G.length) (G ++ [.dct []])) : WP (dNewD ρ) G Q := ⟨_, _, rfl, q⟩
/-- the walk over a dict behind a lock -/
theorem w_lock {i : Nat} {kvs : List (Key × D)} (h : ρ[i]? = some (some (.dct kvs))) (k : WP (s1 (ρ.set i (some (.dcl kvs)))) G fun o G1 => WP (unl i o) G1 Qo) : WP (sLock i s1 ρ) G Qo := by
  obtain ⟨o, G1, e, b, G2, e2, q⟩ := k
  refine ⟨b, G2, ?_, q⟩
  unfold sLock
  rw [h]
  exact (bndN_i e).trans e2
theorem w_dc {di : En → M (List D)} {g : D → En → P1 En} {t : En → M Bool} {ka va : En → M D} {own : List Nat} (h : WP (di ρ) G fun ds G1 => WP (dcL g t ka va (wipeD ρ own) ds []) G1 fun kvs G2 => Q (.dct kvs) G2) : WP (dDc di g t ka va own ρ) G Q :=
  WP.bnd (h.imp fun ds G1 h1 => WP.bndN (h1.imp fun kvs G2 q => WP.ret q))
end
theorem eqO_str {x y : Str} (hx : PyData.strOk x = true) (hy : PyData.strOk y = true) (n : Bool) : eqO n (.str x) (.str y) = some (.bl (if n then !(x == y) else (x == y))) := by
  have s1 : SeqAt.shaped (.str x) = true := by simp [SeqAt.shaped, PyData.canLay0, PyData.depth, hx]
  have s2 : SeqAt.shaped (.str y) = true := by simp [SeqAt.shaped, PyData.canLay0, PyData.depth, hy]
  simp [eqO, toP, s1, s2, PyData.eqv]
theorem eqO_int {x y : Int} (n : Bool) : eqO n (.int x) (.int y) = some (.bl (if n then !(decide (x = y)) else decide (x = y))) := by
  have s1 : SeqAt.shaped (.int x) = true := by simp [SeqAt.shaped, PyData.canLay0, PyData.depth]
  have s2 : SeqAt.shaped (.int y) = true := by simp [SeqAt.shaped, PyData.canLay0, PyData.depth]
  by_cases h : x = y
  · subst h; simp [eqO, toP, s1, PyData.eqv]
  · cases n <;> simp [eqO, toP, s1, s2, PyData.eqv, h]
end Tw

namespace Tw
open PySem PySem.Spec PyProof.Rows L2

/-! ### several clauses «except c as n», one name -/
/-- behind the clause its name is gone -/
def Ends.gone (D : Ends) (i : Nat) : Ends := ⟨fun σ' H' => D.nx (σ'.set i none) H', D.rt, fun σ' H' => D.bk (σ'.set i none) H', fun σ' H' => D.ct (σ'.set i none) H'⟩
abbrev Cla := Value × (Addr → Value → Option Addr → TS)
/-- what they wish of an error; i: the name's slot, l: how many slots there are -/
def wNm (K : PySem.W.Frag) (Wo : WX) (D : Ends) (i l : Nat) : List Cla → WX
  | [] => Wo
  | (c, ts) :: r => fun cls d σ H => ∃ b, PySem.W.exmOne K cls c = some b ∧ (b = false → wNm K Wo D i l r cls d σ H) ∧
      (b = true → ∀ a, H a = none → σ.length = l → ts a cls d (Ends.gone D i) (σ.set i (some (.ref a))) H)
inductive ClsOk (X : Cx) (n : Str) : List ExceptHandler → List Cla → Prop
  | nil : ClsOk X n [] []
  | cons {x : Str} {c : Value} {ts : Addr → Value → Option Addr → TS} {b0 : Stmt} {su : List Stmt} {p1 p2 : Pos} {hs : List ExceptHandler} {l : List Cla} (hc : Names X x c)
      (ok : ∀ (a : Addr) (o : Obj) (cls : Value) (d : Option Addr) (pn : List (Addr × Obj)), Zc cls d o → (∃ fs, o.data = .fields fs) → PSs (X.suite a ((a, o) :: pn)) (b0 :: su) (ts a cls d)) (r : ClsOk X n hs l) :
      ClsOk X n (.ExceptHandler (some (.Name x p1)) (some n) (b0 :: su) p2 :: hs) ((c, ts) :: l)
section
variable {X : Cx} {n : Str} {i : Nat} {body : List Stmt} {h1 : ExceptHandler} {hs : List ExceptHandler} {l : List Cla} {pos : Pos} {tb : WX → TS} {Wo : WX}
theorem ps_try_nm (stk : X.stack = X.env :: X.outer) (frm : X.env.frame = some X.env.locals) (nd : X.N.Nodup) (at_ : X.N[i]? = some n) (kn : X.env.kindOf n = some .local) (tk : Takes X Wo)
    (hb : ∀ (W : WX) (pn : List (Addr × Obj)) (xe : Value → Shared → Prop), Takes (X.tr pn xe) W → PassesOwn (model X.prog X.w) X.A X.env xe → PSs (X.tr pn xe) body (tb W))
    (hh : ClsOk X n (h1 :: hs) l) : PS X (.Try body (h1 :: hs) [] [] pos) (fun D σ H => tb (wNm X.K Wo D i X.N.length l) D σ H) := by
  refine ⟨fun pins s0 σ0 H0 D I wish => ?_⟩
  have fine := I.ok
  have frames : X.A.frames = some (X.env :: X.outer) := by rw [fine.frames, stk]
  refine wpAny_Try_except ?_
  have bodyRuns := (hb (wNm X.K Wo D i X.N.length l) (X.pn ++ pins)
    (fun er sa => wpAny (model X.prog X.w) X.A (noteFrame er X.env) (fun _ sb => wpAny (model X.prog X.w) X.A (setFlight er none) (fun _ sc => wpAny (model X.prog X.w) X.A (handleBy er X.env (h1 :: hs)) (SP X pins D) X.xe sc) X.xe sb) X.xe sa)
    (fun u s' air => ?_) PassesOwn.looking).run [] s0 σ0 H0 D (I.toTry _) wish
  · refine wpAny_mono bodyRuns (fun f sE done => ?_) (fun _ _ z => z)
    cases f with
    | ret u =>
      obtain ⟨v, σ1, H1, J, rv, q⟩ := done
      exact ⟨v, σ1, H1, J.ofTry fine, rv, q⟩
    | next =>
      obtain ⟨σ1, H1, J, q⟩ := done
      exact wpAny_execs_nil ⟨σ1, H1, J.ofTry fine, q⟩
    | brk =>
      obtain ⟨σ1, H1, J, q⟩ := done
      exact ⟨σ1, H1, J.ofTry fine, q⟩
    | cont =>
      obtain ⟨σ1, H1, J, q⟩ := done
      exact ⟨σ1, H1, J.ofTry fine, q⟩
  · obtain ⟨a, B, sI, pinsB, σB, HB, cls, d, rfl, JB, beside, slots, sky, na, sameOs, bare, w⟩ := air
    have J : Inv X pins σB HB sI := JB.ofTry fine
    have aloft : Sky B (X.env :: X.outer) a (Zc cls d) X.env.locals s'.heap := by rw [← stk]; exact sky
    show wpAny (model X.prog X.w) X.A (noteFrame (.ref a) X.env) _ _ _
    refine Sky.land Zc.steady frames frm aloft fun hp fly slots2 => ?_
    have JL : Inv X pins σB HB { s' with heap := hp } := J.landed beside fly.1 (slots.trans slots2) sameOs bare
    obtain ⟨ob, fs, atA, zc, dat⟩ := fly.there
    have apart : a ∉ frs (X.env :: X.outer) := fun hm => by
      obtain ⟨_, ob2, at2, nf⟩ := fly.2.2.1.mem hm
      rw [atA] at at2
      cases at2
      exact nf _ dat
    have notL : a ≠ X.env.locals := fun z => apart (List.mem_filterMap.mpr ⟨X.env, List.mem_cons_self, by rw [frm, z]⟩)
    have notF : a ∉ X.fs := fun hm => by
      obtain ⟨ev, m1, m2⟩ := List.mem_filterMap.mp hm
      exact apart (List.mem_filterMap.mpr ⟨ev, List.mem_cons_of_mem _ m1, m2⟩)
    have inSuite := JL.suite atA dat na notL notF
    have go : ∀ {hs2 : List ExceptHandler} {l2 : List Cla}, ClsOk X n hs2 l2 → wNm X.K Wo D i X.N.length l2 cls d σB HB → wpAny (model X.prog X.w) X.A (handleBy (.ref a) X.env hs2) (SP X pins D) X.xe { s' with heap := hp } := by
      intro hs2 l2 ck
      induction ck with
      | nil =>
        intro w
        refine wpAny_handleBy_nil ?_
        obtain ⟨_, _, _, ob5, fs5, T, _, _, at5, _, dat5, one5, _⟩ := id fly
        unfold PySem.passOn
        refine wpAny_bind (wpAny_field at5 dat5 one5 ?_)
        rw [if_neg (show ¬ ((Value.ref T == Value.none) = true) from by simp)]
        have out : wpAny (model X.prog X.w) X.A (setFlight (.ref a) X.env.frame) (fun _ s4 => wpAny (model X.prog X.w) X.A (throw (.ref a) : Sem Flow) (SP X pins D) X.xe s4) X.xe { s' with heap := hp } := by
          rw [frm]
          exact HandSPX.setFlight_upZ fly fun hq held slots3 => wpAny_throw (tk _ _ ⟨a, B, sI, pins, σB, HB, cls, d, rfl, J, beside, (slots.trans slots2).trans slots3, .inr (.inr (by rw [stk]; exact held)), na, sameOs, bare, w⟩)
        first
          | exact wpAny_bind (wpAny_pure (wpAny_bind out))
          | exact wpAny_bind out
      | @cons x c ts b0 su p1 p2 hs3 l3 hc suOk r ih =>
        intro w
        obtain ⟨b, look, no, yes⟩ := w
        refine wpAny_handleBy_cons (codeAny_handlers_test ?_) (by intro q; cases q)
        have kind : PySem.W.Looks (model X.prog X.w) hp (typeOf (.ref a)) cls := fun A' Q' E' s2 k q => wpAny_typeOf_ref (k _ _ atA) (by rw [zc.1]; exact q)
        have answer := PySem.W.exm_one (M := model X.prog X.w) (JL.kIn) kind look
        have name : ∀ {Q' : Value → Shared → Prop} {E' : Value → Shared → Prop}, Q' c { s' with heap := hp } → wpAny (model X.prog X.w) (X.A.mark (some (.ref a))) (eval (.Name x p1) X.env) Q' E' { s' with heap := hp } := fun {Q' E'} q => by
          obtain ⟨g1, g2, g3 | ⟨g3, g4, g5⟩⟩ := hc
          · exact ld_glob (X := X.suite a ((a, ob) :: (X.pn ++ pins))) inSuite g1 g3 q g2
          · exact ld_blt (X := X.suite a ((a, ob) :: (X.pn ++ pins))) inSuite g1 g3 g4 q g5 g2
        refine name (answer.here ?_)
        cases b with
        | false =>
          show wpAny _ X.A (handleBy (.ref a) X.env hs3) _ _ _
          exact ih (no rfl)
        | true =>
          refine codeAny_handlers_suite_as (HandSPX.lands_againZ fly fun hq fly2 slots3 => ?_)
          have JM : Inv X pins σB HB { s' with heap := hq } := J.landed beside fly2.1 ((slots.trans slots2).trans slots3) sameOs bare
          obtain ⟨ob4, fs4, at4, zc4, dat4⟩ := fly2.there
          refine store_ok (X := X.suite a ((a, ob4) :: (X.pn ++ pins))) (v := .ref a) (JM.suite at4 dat4 na notL notF) nd at_ (.inl kn) rfl (fun s5 J5 => ?_) (.inr kn)
          refine wpAny_mono ((suOk a ob4 cls d (X.pn ++ pins) zc4 ⟨_, dat4⟩).run [] s5 _ HB _ J5 (yes rfl a na J.len)) (fun f s6 done => ?_) (fun _ _ z => False.elim z)
          have off : ∀ {σ6 : L2.St} {H6 : Hp} {Q' : Shared → Prop}, Inv (X.suite a ((a, ob4) :: (X.pn ++ pins))) [] σ6 H6 s6 → (∀ s7, Inv X pins (σ6.set i none) H6 s7 → Q' s7) →
              wpAny (model X.prog X.w) X.A (do bindName X.env n .none; unbindBehindTheSuite X.env n p2) (fun _ s7 => Q' s7) X.xe s6 := fun J6 q => gone_ok (J6.unsuite fine) nd at_ kn q
          cases f with
          | ret u =>
            obtain ⟨v6, σ6, H6, J6, rv, q6⟩ := done
            exact off J6 fun s7 J7 => ⟨_, _, _, J7, rv, q6⟩
          | next =>
            obtain ⟨σ6, H6, J6, q6⟩ := done
            exact off J6 fun s7 J7 => ⟨_, _, J7, q6⟩
          | brk =>
            obtain ⟨σ6, H6, J6, q6⟩ := done
            exact off J6 fun s7 J7 => ⟨_, _, J7, q6⟩
          | cont =>
            obtain ⟨σ6, H6, J6, q6⟩ := done
            exact off J6 fun s7 J7 => ⟨_, _, J7, q6⟩
    exact go hh w
end
end Tw

namespace Tw
open PySem PySem.Spec PyProof.Rows L2

/-! ### errors that leave -/
/-- how an error of the program's own lies in the heap, while it is in the air -/
def ExH (K : Pm) (W : Wd) (H : Hp) (e : Er) (cls : Value) (d : Option Addr) : Prop := match e.fld with
  | none => ∃ C, K.mg e.cls = some (.ref C) ∧ cls = .ref C ∧ d = none
  | some (f, x) => ∃ (C dx : Addr) (v : V), K.mg e.cls = some (.ref C) ∧ cls = .ref C ∧ d = some dx ∧ H dx = some (.xd [(f, v)]) ∧ ¬ L W dx ∧ Rv K W H v x
theorem ExH.cls {K : Pm} {W : Wd} {H : Hp} {e : Er} {c : Value} {d : Option Addr} (x : ExH K W H e c d) : ∃ C, K.mg e.cls = some (.ref C) ∧ c = .ref C := by
  unfold ExH at x
  split at x
  · obtain ⟨C, h1, h2, _⟩ := x
    exact ⟨C, h1, h2⟩
  · obtain ⟨C, _, _, h1, h2, _⟩ := x
    exact ⟨C, h1, h2⟩
/-- what a def's caller wants of one; what a context wants of one -/
def XoE (K : Pm) : XO := fun e W H E => ∀ (cls : Value) (d : Option Addr), ExH K W H e cls d → E cls d H
def WeW (K : Pm) (Wx : WX) : WE' := fun e W σ H => ∀ (cls : Value) (d : Option Addr), ExH K W H e cls d → Wx cls d σ H

/-! ### raise c(e) -/
def dRaise1 (c f : Str) (a : En → M D) : En → M Out := fun ρ => bnd (a ρ) fun x => fun G => some (.inl ⟨c, some (f, x)⟩, G)
section
variable {X : Cx} {Wx : WX} {c f : Str} {p pos kpos : Pos} {e : Expr} {da : En → M D}
theorem tS_raise1 (T : XM X.prog X.w X.K X.mg X.base c f) (tk : Takes X Wx) (calm : X.calm = true) (hr : Room 2 X.A) (hg : Gl X c) (ha : PE X e (upE (Cxp X) (WeW (Cxp X) Wx) da)) (hdb : (c == ("__debug__" : Str)) = false := by decide)
    (he : starEach (e :: []) X.env = (false, eval e X.env) :: starEach [] X.env := by rfl) (hpl : (backTo kpos (starEach [] X.env)).any (·.1) = false := by rfl) :
    PS X (.Raise (some (.Call (.Name c p) [e] [] kpos)) none pos) (ups (Cxp X) (WeW (Cxp X) Wx) (dRaise1 c f da)) := by
  obtain ⟨C, fI, fd, hm, O, iC, tI, F, b1, b2⟩ := T.ex
  have bb : Binds X.K fd ["self", f] [] := fun s us k hl => by
    rw [List.append_nil] at hl ⊢
    exact b1.to s us [] k hl rfl
  refine PS.imp (ps_raise calm tk (pmk_oex (k := 1) (dvs := []) O iC tI F hr bb .nil pass0 hg hm (pa_cons ha pa_nil he) hdb he hpl)) fun D0 σ H h => ?_
  obtain ⟨W, ρ, r, G', hR, e1, p1⟩ := h
  refine (ups_bnd hR e1 p1 fun d W1 v H1 x1 R1 r1 e2 p2 => ?_ : up (Cxp X) (WeW (Cxp X) Wx) (Rv (Cxp X)) da σ H _)
  refine ⟨by show 1 ≤ 1000; omega, fun a n => ⟨a, v, rfl, upd_same, fun dx nd ne => ⟨rfl, dx, [(f, v)], upd_same, ?_, ?_, ?_⟩⟩⟩
  · rw [upd_ne ne, upd_same]
  · rw [upd_ne ne] at nd
    exact nd
  · rw [upd_ne ne] at nd
    cases e2
    have eh : upd (del (upd (upd (upd H1 a (exo a C none)) dx (exd dx [(f, v)])) a (exo a C (some dx))) a) dx (.xd [(f, v)]) = upd H1 dx (.xd [(f, v)]) := by
      funext b
      by_cases q1 : b = dx
      · rw [q1, upd_same, upd_same]
      · rw [upd_ne q1, upd_ne q1]
        by_cases q2 : b = a
        · rw [q2, del_same, n]
        · rw [del_ne q2, upd_ne q2, upd_ne q1, upd_ne q2]
    rw [eh]
    exact p2 W1 σ _ rfl (Ext.laid nd) (R1.gr.laid nd) (.ref C) (some dx) ⟨C, dx, v, hm, rfl, rfl, upd_same, fresh_L R1.gr nd, r1.keep R1.gr (Ext.laid nd)⟩
end

/-! ### a def that lets errors out -/
section
variable {P : Program} {w : World} {K : PySem.W.Frag} {mg : Str → Option Value} {base : Heap} {x qual : Str} {params : Arguments} {body : List Stmt} {scope : Scope} {f : Addr} {fd : FuncData}
theorem fn_twX {N ps : List Str} {k : Nat} {ds : En → M Out} (F : FunD K x qual params body scope [] [] f fd) (S : FnScope N ps scope)
    (hb : ∀ (cdv : Value) (A : Around) (outer : List Env) (s : Shared) (H : Hp) (E : XK), Room k (A.deeper (envOfC qual scope s.heap.objs.size f cdv)) → Takes (cxOf (L2.CX P w) P w K mg base N qual scope f cdv A outer s H E) (fun cls d _ H' => E cls d H') →
      PSs (cxOf (L2.CX P w) P w K mg base N qual scope f cdv A outer s H E) body (ups ⟨K, P, w, mg⟩ (WeW ⟨K, P, w, mg⟩ fun cls d _ H' => E cls d H') ds)) :
    FnOk P w K mg base (L2.CX P w) (k + 1) f fd ps (spF ⟨K, P, w, mg⟩ (XoE ⟨K, P, w, mg⟩) ps.length (runD N.length ds)) := by
  refine F.ok S (fun vs H Q E h => h.1) fun cdv A outer s H vs Q E hr h => ⟨_, hb cdv A outer s H E hr (takes_of rfl rfl rfl rfl), ?_⟩
  obtain ⟨_, W, dv, r, G', g, rv, e, p⟩ := h
  unfold runD bnd at e
  split at e
  · rename_i o G1 he
    refine ⟨W, _, .inr o, G1, rs_start g rv, he, ?_⟩
    cases o with
    | rt d => cases e; exact p
    | nx ρ => cases e; exact fun W' σ' H' eg xx R' => p W' .non H' eg xx R'.gr .non
    | bk ρ => cases e
    | ct ρ => cases e
  · rename_i er G1 he
    cases e
    exact ⟨W, _, .inl er, _, rs_start g rv, he, fun W' σ' H' eg xx g' => p W' H' eg xx g'⟩
  · cases e
end
/-- such a def, called by its name -/
structure CalX (P : Program) (w : World) (K : PySem.W.Frag) (mg : Str → Option Value) (base : Heap) (k : Nat) (x : Str) (n : Nat) (F : List D → M D) : Prop where
  ex : ∃ (f : Addr) (fd : FuncData) (ps : List Str), mg x = some (.ref f) ∧ FnOk P w K mg base (L2.CX P w) k f fd ps (spF ⟨K, P, w, mg⟩ (XoE ⟨K, P, w, mg⟩) n F) ∧ PySem.W.keepIn K (.ref f) = true ∧ Binds K fd ps []
/-- the callee sees our objects -/
def dFX (F : List D → M D) (a : En → M (List D)) : En → M D := fun ρ => bnd (a ρ) fun ds => F ds
def noRE (e : Er) : Bool := match e.fld with
  | some (_, x) => noR x
  | none => true
/-- the callee is handed no object of ours, and hands none back -/
def pureX (F : List D → M D) (ds : List D) : M D := fun G => if noRs ds = true then match F ds [] with
  | some (.inr d, _) => if noR d = true then some (.inr d, G) else none
  | some (.inl e, _) => if noRE e = true then some (.inl e, G) else none
  | none => none
  else none
def dFpX (F : List D → M D) (a : En → M (List D)) : En → M D := fun ρ => bnd (a ρ) fun ds => pureX F ds
section
variable {K : Pm} {We : WE'} {Wx : WX} {n : Nat} {F : List D → M D} {da : En → M (List D)} {σ : L2.St} {H : Hp} {Q : VK}
theorem dFX_up (hl : LenA n da) (hW : ∀ e W H', We e W σ H' → WeW K Wx e W σ H') (h : upE K We (dFX F da) σ H Q) : upA K We da σ H (fun vs H1 => spF K (XoE K) n F vs H1 Q (WE Wx σ)) := by
  obtain ⟨W, ρ, r, G', hR, e, p⟩ := h
  unfold dFX bnd at e
  split at e
  · rename_i ds G1 he
    refine ⟨W, ρ, .inr ds, G1, hR, he, fun W1 vs H1 eg x1 g1 r1 => ?_⟩
    refine ⟨by rw [r1.length]; exact hl ρ _ _ _ he, W1, ds, r, G', g1, r1, by rw [eg]; exact e, ?_⟩
    have p2 := p.mono x1
    cases r with
    | inr d => exact p2
    | inl er => exact fun W' H' eg xx g' => hW _ _ _ (p2 W' H' eg xx g')
  · rename_i er G1 he
    cases e
    exact ⟨W, ρ, .inl er, _, hR, he, p⟩
  · cases e
theorem dFpX_up (hl : LenA n da) (hW : ∀ e W H', We e W σ H' → WeW K Wx e W σ H') (h : upE K We (dFpX F da) σ H Q) : upA K We da σ H (fun vs H1 => spF K (XoE K) n F vs H1 Q (WE Wx σ)) := by
  obtain ⟨W, ρ, r, G', hR, e, p⟩ := h
  unfold dFpX bnd at e
  split at e
  · rename_i ds G1 he
    refine ⟨W, ρ, .inr ds, G1, hR, he, fun W1 vs H1 eg x1 g1 r1 => ?_⟩
    unfold pureX at e
    dsimp only at e
    split at e
    · rename_i hnr
      have r0 : Rvs K W1.alone H1 vs ds := Drs.nr (fun a l => alone_L.mp l) hnr r1
      split at e
      · rename_i d J hf
        split at e
        · rename_i hd
          cases e
          exact ⟨by rw [r1.length]; exact hl ρ _ _ _ he, W1.alone, ds, .inr d, J, g1.alone, r0, hf, fun W' v H' _ x' g' r' => p W1 v H' eg (x1.trans x'.unalone) (g1.unalone x') (Dr.nr (alone_le x') hd r')⟩
        · cases e
      · rename_i er J hf
        split at e
        · rename_i hd
          cases e
          refine ⟨by rw [r1.length]; exact hl ρ _ _ _ he, W1.alone, ds, .inl er, J, g1.alone, r0, hf, fun W' H' _ x' g' cls d ex => ?_⟩
          refine hW _ _ _ (p W1 H' eg (x1.trans x'.unalone) (g1.unalone x')) cls d ?_
          unfold ExH at ex ⊢
          unfold noRE at hd
          cases q : er.fld with
          | none =>
            rw [q] at ex
            exact ex
          | some fx =>
            obtain ⟨ff, xx⟩ := fx
            rw [q] at ex hd
            obtain ⟨C, dx, v, h1, h2, h3, h4, h5, h6⟩ := ex
            exact ⟨C, dx, v, h1, h2, h3, h4, fun l => h5 (alone_le x' _ l), Dr.nr (alone_le x') hd h6⟩
        · cases e
      · cases e
    · cases e
  · rename_i er G1 he
    cases e
    exact ⟨W, ρ, .inl er, _, hR, he, p⟩
  · cases e
end
section
variable {X : Cx} {We : WE'} {Wx : WX} {k n : Nat} {F : List D → M D} {x : Str} {p pos : Pos} {e : Expr} {es : List Expr} {da : En → M (List D)} {dF' : En → M D}
/-- f(e, ..); up: dFX_up or dFpX_up -/
theorem te_cX (T : CalX X.prog X.w X.K X.mg X.base k x n F) (tk : Takes X Wx)
    (up : ∀ {σ : L2.St} {H : Hp} {Q : VK}, upE (Cxp X) We dF' σ H Q → upA (Cxp X) We da σ H (fun vs H1 => spF (Cxp X) (XoE (Cxp X)) n F vs H1 Q (WE Wx σ)))
    (hr : Room k X.A) (hg : Gl X x) (ha : PA X (e :: es) (upA (Cxp X) We da)) (hdb : (x == ("__debug__" : Str)) = false := by decide)
    (he : starEach (e :: es) X.env = (false, eval e X.env) :: starEach es X.env := by rfl) (hpl : (backTo pos (starEach es X.env)).any (·.1) = false := by rfl) :
    PE X (.Call (.Name x p) (e :: es) [] pos) (upE (Cxp X) We dF') := by
  obtain ⟨f, fd, ps, hm, G, kp, b⟩ := T.ex
  exact PE.imp (pe_callS G hr hg hm kp b (fun σ => passAt tk σ) ha hdb he hpl) fun σ H Q h => up h
end
end Tw

namespace Tw
open PySem PySem.Spec PyProof.Rows L2

/-! ### try: .. except c as n: .. -/
def goneO (i : Nat) : Out → Out
  | .nx ρ => .nx (ρ.set i none)
  | .bk ρ => .bk (ρ.set i none)
  | .ct ρ => .ct (ρ.set i none)
  | .rt d => .rt d
/-- a clause: the class's name, what its suite does with the error -/
abbrev Hn := Str × (Er → En → M Out)
/-- tab: does a clause of the second class take an error of the first one? -/
def tryR (tab : Str → Str → Option Bool) (i : Nat) (u : En) (e : Er) : List Hn → M Out
  | [] => fun G => some (.inl e, G)
  | (c, h) :: r => match tab e.cls c with
    | some true => fun G => match h e u G with
      | some (.inr o, G1) => some (.inr (goneO i o), G1)
      | _ => none
    | some false => tryR tab i u e r
    | none => fun _ => none
/-- behind an error nothing is known of the names -/
def dTry (tab : Str → Str → Option Bool) (i : Nat) (b : En → M Out) (hs : List Hn) : En → M Out := fun ρ G => match b ρ G with
  | some (.inl e, G1) => tryR tab i (ρ.map fun _ => none) e hs G1
  | o => o
/-- what a suite is handed -/
def tsOf (X : Cx) (i : Nat) (h : Er → En → M Out) (a : Addr) (cls : Value) (d : Option Addr) : TS := fun D σ H =>
  ∃ (W : Wd) (e : Er) (ρ : En) (o : Out) (G' : List O), ExH (Cxp X) W H e cls d ∧ Rs (Cxp X) W ρ σ H ∧ σ[i]? = some (some (.ref a)) ∧ h e ρ W.G = some (.inr o, G') ∧ PostS (Cxp X) WeF W H (.inr o) G' D
inductive HsOk (X : Cx) (n : Str) (i : Nat) : List ExceptHandler → List Hn → Prop
  | nil : HsOk X n i [] []
  | cons {x : Str} {h : Er → En → M Out} {b0 : Stmt} {su : List Stmt} {p1 p2 : Pos} {hs : List ExceptHandler} {l : List Hn} (hg : Gl X x) (hm : ∃ C, X.mg x = some (.ref C)) (hdb : (x == ("__debug__" : Str)) = false)
      (ok : ∀ (a : Addr) (o : Obj) (cls : Value) (d : Option Addr) (pn : List (Addr × Obj)), Zc cls d o → (∃ fs, o.data = .fields fs) → PSs (X.suite a ((a, o) :: pn)) (b0 :: su) (tsOf X i h a cls d)) (r : HsOk X n i hs l) :
      HsOk X n i (.ExceptHandler (some (.Name x p1)) (some n) (b0 :: su) p2 :: hs) ((x, h) :: l)
/-- the classes' table -/
def XEx (K : PySem.W.Frag) (mg : Str → Option Value) (tab : Str → Str → Option Bool) : Prop := ∀ (c c' : Str) (b : Bool), tab c c' = some b → ∃ C C' : Addr, mg c = some (.ref C) ∧ mg c' = some (.ref C') ∧ PySem.W.exmOne K (.ref C) (.ref C') = some b
abbrev Cl1 (X : Cx) (i : Nat) (p : Hn) (q : Cla) : Prop := ∃ C, X.mg p.1 = some (.ref C) ∧ q = (Value.ref C, tsOf X i p.2)
theorem HsOk.cls {X : Cx} {n : Str} {i : Nat} {hs : List ExceptHandler} {l : List Hn} (h : HsOk X n i hs l) : ∃ l' : List Cla, ClsOk X n hs l' ∧ Paired (Cl1 X i) l l' := by
  induction h with
  | nil => exact ⟨[], .nil, .nil⟩
  | cons hg hm hdb ok r ih =>
    obtain ⟨C, hm⟩ := hm
    obtain ⟨l', h1, h2⟩ := ih
    exact ⟨_, .cons ⟨hg, hdb, .inl hm⟩ ok h1, .cons ⟨C, hm, rfl⟩ h2⟩
theorem Rs.gone {K : Pm} {W : Wd} {ρ : En} {σ : L2.St} {H : Hp} (r : Rs K W ρ σ H) (i : Nat) : Rs K W (ρ.set i none) (σ.set i none) H := by
  refine ⟨r.gr, by rw [List.length_set, List.length_set]; exact r.len, fun j d e => ?_⟩
  by_cases hj : i = j
  · subst hj
    by_cases hl : i < ρ.length
    · rw [List.getElem?_set_self hl] at e
      cases e
    · rw [List.getElem?_eq_none (by rw [List.length_set]; omega)] at e
      cases e
  · rw [List.getElem?_set_ne hj] at e ⊢
    exact r.var j d e
section
variable {X : Cx} {Wx : WX} {n : Str} {i : Nat} {tab : Str → Str → Option Bool}
theorem gone_post {W : Wd} {H : Hp} {o : Out} {G' : List O} {D0 : Ends} {We : WE'} (p : PostS (Cxp X) We W H (.inr (goneO i o)) G' D0) : PostS (Cxp X) WeF W H (.inr o) G' (Ends.gone D0 i) := by
  cases o with
  | nx ρ => exact fun W' σ' H' eg x R => p W' (σ'.set i none) H' eg x (R.gone i)
  | bk ρ => exact fun W' σ' H' eg x R => p W' (σ'.set i none) H' eg x (R.gone i)
  | ct ρ => exact fun W' σ' H' eg x R => p W' (σ'.set i none) H' eg x (R.gone i)
  | rt d => exact p
theorem try_w {l : List Hn} {l' : List Cla} (pr : Paired (Cl1 X i) l l') (T : XEx X.K X.mg tab) {e : Er} {W : Wd} {σ : L2.St} {H : Hp} {cls : Value} {d : Option Addr} {u : En} {r : Sum Er Out} {G' : List O} {D0 : Ends}
    (ex : ExH (Cxp X) W H e cls d) (g : Gr (Cxp X) W H) (lu : u.length = X.N.length) (un : ∀ (j : Nat) (x : D), u[j]? ≠ some (some x)) (hi : i < X.N.length) (he : tryR tab i u e l W.G = some (r, G')) (p : PostS (Cxp X) (WeW (Cxp X) Wx) W H r G' D0) :
    wNm X.K Wx D0 i X.N.length l' cls d σ H := by
  induction pr with
  | nil =>
    cases he
    exact p W σ H rfl Ext.refl g cls d ex
  | @cons q q' ls ls' h1 h2 ih =>
    obtain ⟨c, h⟩ := q
    obtain ⟨C, hm, rfl⟩ := h1
    obtain ⟨C0, hm0, rfl⟩ := ex.cls
    have look : ∀ b, tab e.cls c = some b → PySem.W.exmOne X.K (.ref C0) (.ref C) = some b := fun b hb => by
      obtain ⟨C1, C2, m1, m2, z⟩ := T _ _ _ hb
      have e1 : X.mg e.cls = some (.ref C0) := hm0
      rw [m1] at e1
      cases e1
      have hm2 : X.mg c = some (.ref C) := hm
      rw [m2] at hm2
      cases hm2
      exact z
    cases hb : tab e.cls c with
    | none =>
      unfold tryR at he
      simp only [hb] at he
      cases he
    | some t =>
      cases t with
      | true =>
        have he2 : (match h e u W.G with
          | some (.inr o, G1) => some (Sum.inr (goneO i o), G1)
          | _ => (none : Option (Sum Er Out × List O))) = some (r, G') := by
          unfold tryR at he
          simp only [hb] at he
          exact he
        refine ⟨true, look _ hb, (fun z => by cases z), fun _ a na hl => ?_⟩
        cases q : h e u W.G with
        | none =>
          rw [q] at he2
          cases he2
        | some z =>
          obtain ⟨z, G2⟩ := z
          rw [q] at he2
          cases z with
          | inl er => cases he2
          | inr o =>
            cases he2
            exact ⟨W, e, u, o, _, ex, ⟨g, by rw [List.length_set, hl]; exact lu, fun j x z => absurd z (un j x)⟩, by rw [List.getElem?_set_self (by rw [hl]; exact hi)], q, gone_post p⟩
      | false =>
        have he2 : tryR tab i u e ls W.G = some (r, G') := by
          unfold tryR at he
          simp only [hb] at he
          exact he
        exact ⟨false, look _ hb, fun _ => ih he2, (fun z => by cases z)⟩
variable {body : List Stmt} {h1 : ExceptHandler} {hs : List ExceptHandler} {l : List Hn} {pos : Pos} {b : En → M Out}
theorem tS_try (T : XEx X.K X.mg tab) (stk : X.stack = X.env :: X.outer) (frm : X.env.frame = some X.env.locals) (nd : X.N.Nodup) (at_ : X.N[i]? = some n) (kn : X.env.kindOf n = some .local) (tk : Takes X Wx)
    (hb : ∀ (W : WX) (pn : List (Addr × Obj)) (xe : Value → Shared → Prop), Takes (X.tr pn xe) W → PassesOwn (model X.prog X.w) X.A X.env xe → PSs (X.tr pn xe) body (ups (Cxp X) (WeW (Cxp X) W) b))
    (hh : HsOk X n i (h1 :: hs) l) (ln : ∀ {W : Wd} {ρ : En} {σ : L2.St} {H : Hp} {pins : List (Addr × Obj)} {s : Shared}, Inv X pins σ H s → Rs (Cxp X) W ρ σ H → ρ.length = X.N.length := by exact fun I R => R.len.trans I.len) :
    PS X (.Try body (h1 :: hs) [] [] pos) (ups (Cxp X) (WeW (Cxp X) Wx) (dTry tab i b l)) := by
  obtain ⟨l', ck, pr⟩ := hh.cls
  have hi : i < X.N.length := (List.getElem?_eq_some_iff.mp at_).1
  have base := ps_try_nm (tb := fun W => ups (Cxp X) (WeW (Cxp X) W) b) stk frm nd at_ kn tk hb ck (pos := pos)
  refine ⟨fun pins s σ H D0 I h => base.run pins s σ H D0 I ?_⟩
  obtain ⟨W, ρ, r, G', hR, e, p⟩ := h
  have hl := ln I hR
  unfold dTry at e
  split at e
  · rename_i er G1 he
    refine ⟨W, ρ, .inl er, G1, hR, he, fun W' σ' H' eg x g cls d ex => ?_⟩
    rw [← eg] at e
    exact try_w pr T ex g (by rw [List.length_map]; exact hl) (fun j y z => by rw [List.getElem?_map] at z; cases q : ρ[j]? <;> rw [q] at z <;> cases z) hi e (p.mono x)
  · rename_i hn
    refine ⟨W, ρ, r, G', hR, e, ?_⟩
    cases r with
    | inl er => exact absurd e (hn er G')
    | inr o =>
      cases o with
      | nx ρ' => exact p
      | bk ρ' => exact p
      | ct ρ' => exact p
      | rt d => exact p
/-- .. in a context that lets nothing out -/
theorem ups_F {st : Stmt} {ds : En → M Out} (h : PS X st (ups (Cxp X) (WeW (Cxp X) fun _ _ _ _ => False) ds)) : PS X st (ups (Cxp X) WeF ds) := PS.imp h fun D0 σ H q => by
  obtain ⟨W, ρ, r, G', hR, e, p⟩ := q
  refine ⟨W, ρ, r, G', hR, e, ?_⟩
  cases r with
  | inl er => exact fun W' σ' H' eg x g _ _ _ => (p W' σ' H' eg x g : False)
  | inr o => cases o <;> exact p
end
end Tw

namespace Tw
open PySem PySem.Spec PyProof.Rows L2 PySem.W

/-! ### a suite that writes down what it caught: w = [k, e.f, isinstance(e, c)] -/
section
variable {X : Cx} {a : Addr} {o : Obj} {cls : Value} {d : Option Addr} {pn : List (Addr × Obj)}
theorem inst_of {C dx : Addr} {fs : List (Str × V)} {pins : List (Addr × Obj)} {σ : L2.St} {H : Hp} {s : Shared} (I : Inv (X.suite a ((a, o) :: pn)) pins σ H s) (hz : Zc cls d o) (hf : ∃ fs, o.data = .fields fs) (ec : cls = .ref C) (ed : d = some dx) (hx : H dx = some (.xd fs)) :
    ∃ od, InstAt s.heap a o C (some od) := by
  obtain ⟨here, _⟩ := I.pin (a, o) (List.mem_append.mpr (.inl List.mem_cons_self))
  obtain ⟨mA, ns, rl⟩ : ObjOk X.prog X.w H s.heap dx (.xd fs) := I.hok dx _ hx
  obtain ⟨od, hd, lk⟩ := lookIn_ns ns
  obtain ⟨vs, hv⟩ := hf
  exact ⟨od, here, hz.1.trans ec, by unfold notCls; rw [hv] <;> rfl, by rw [hz.2, ed]; exact hd⟩
/-- isinstance(e, c), e what the suite holds -/
def rIsS (K : Frag) (a : Addr) (cls : Value) (d : Option Addr) : List V → Hp → VK → Prop := fun xs H Q => ∃ (C dx : Addr) (fs : List (Str × V)) (c : V) (u : Value) (b : Bool), cls = .ref C ∧ d = some dx ∧ xs = [.ref a, c] ∧ ClsV c u ∧ Xcl K C ∧ H dx = some (.xd fs) ∧ kitOne K (.ref C) u = some b ∧ Q (.bl b) H
theorem call_isS (hz : Zc cls d o) (hf : ∃ fs, o.data = .fields fs) : CallR (X.suite a ((a, o) :: pn)) (.builtin "isinstance") (rIsS X.K a cls d) := by
  intro pins s σ H xs us Q I r h
  obtain ⟨C, dx, fs, c, u, b, ec, ed, rfl, cv, T, hx, ek, q⟩ := h
  obtain ⟨u1, u2, rfl, r1, r2⟩ := vals2 r
  obtain rfl := cv.eq r2
  cases r1
  obtain ⟨od, J⟩ := inst_of I hz hf ec ed hx
  have cl : (clsIn X.K C).isSome = true := by
    obtain ⟨cd, hc, _⟩ := any_some T.hd
    rw [hc]; rfl
  exact kia_one (kitx_exc (od := some od) cl T.ga T.gg T.o.exC T.ha T.hn T.ht T.hm) I.kIn J ek (fun z => nomatch z) fun tk => ⟨.bl b, H, I.tok tk, rfl, q⟩
def hSay (k f : Str) (tf : List Str) (tab : Str → D → Option Bool) (c : Str) (j : Nat) : Er → En → M Out := fun e ρ G => match e.fld with
  | some (g, x) => if (g == f && tf.contains e.cls) = true then match tab e.cls (.cls c) with
    | some b => some (.inr (.nx (ρ.set j (some (.lst [.str k, x, .bl b])))), G)
    | none => none
    else none
  | none => none
theorem pss_say {k f c w n : Str} {tf : List Str} {tab : Str → D → Option Bool} {i j : Nat} {q1 q3 q4 q5 q6 q7 q8 q9 ql qk : Pos} {uk : Nat} (TA : XAt X.K X.mg tf f) (TI : XIs X.K X.mg tab) (hz : Zc cls d o) (hf : ∃ fs, o.data = .fields fs)
    (nd : X.N.Nodup) (hi : X.N[i]? = some n) (hj : X.N[j]? = some w) (hn : Vis X.env.scope n) (hw : Loc X.env.scope w) (hw2 : X.fn w = true ∨ X.env.scope.names.lookup w = some .local)
    (g1 : Gl X "isinstance") (g2 : X.mg "isinstance" = none) (g3 : Gl X c) (n1 : (n == ("__debug__" : Str)) = false) (n2 : (n == ("__classdict__" : Str)) = false) (n3 : (c == ("__debug__" : Str)) = false)
    (at1 : attributeBase (.Name n q3) f X.env (eval (.Name n q3) X.env) = eval (.Name n q3) X.env)
    (st1 : starEach [Expr.Name n q6, .Name c q7] X.env = (false, eval (.Name n q6) X.env) :: starEach [.Name c q7] X.env) (st2 : starEach [Expr.Name c q7] X.env = (false, eval (.Name c q7) X.env) :: starEach [] X.env)
    (st3 : (backTo q8 (starEach [Expr.Name c q7] X.env)).any (·.1) = false)
    (s1 : starEach [Expr.Constant (.str k) uk qk, .Attribute (.Name n q3) f q4, .Call (.Name "isinstance" q5) [.Name n q6, .Name c q7] [] q8] X.env = (false, eval (.Constant (.str k) uk qk) X.env) :: starEach [.Attribute (.Name n q3) f q4, .Call (.Name "isinstance" q5) [.Name n q6, .Name c q7] [] q8] X.env)
    (s2 : starEach [Expr.Attribute (.Name n q3) f q4, .Call (.Name "isinstance" q5) [.Name n q6, .Name c q7] [] q8] X.env = (false, eval (.Attribute (.Name n q3) f q4) X.env) :: starEach [.Call (.Name "isinstance" q5) [.Name n q6, .Name c q7] [] q8] X.env)
    (s3 : starEach [Expr.Call (.Name "isinstance" q5) [.Name n q6, .Name c q7] [] q8] X.env = (false, eval (.Call (.Name "isinstance" q5) [.Name n q6, .Name c q7] [] q8) X.env) :: starEach [] X.env)
    (w1 : swapsWithSole [.Name w q1] (.List [.Constant (.str k) uk qk, .Attribute (.Name n q3) f q4, .Call (.Name "isinstance" q5) [.Name n q6, .Name c q7] [] q8] ql) q9.line X.env = pure false) 
    (w2 : swappedStores [.Name w q1] (.List [.Constant (.str k) uk qk, .Attribute (.Name n q3) f q4, .Call (.Name "isinstance" q5) [.Name n q6, .Name c q7] [] q8] ql) X.env = pure none) :
    PSs (X.suite a ((a, o) :: pn)) [.Assign [.Name w q1] (.List [.Constant (.str k) uk qk, .Attribute (.Name n q3) f q4, .Call (.Name "isinstance" q5) [.Name n q6, .Name c q7] [] q8] ql) q9] (tsOf X i (hSay k f tf tab c j) a cls d) := by
  refine ⟨fun pins s σ H D0 I h => ?_⟩
  obtain ⟨W, e, ρ, ot, G', ex, R, sl, he, p⟩ := h
  unfold hSay at he
  cases q : e.fld with
  | none =>
    rw [q] at he
    cases he
  | some gx =>
    obtain ⟨g, x⟩ := gx
    rw [q] at he
    dsimp only at he
    split at he
    · rename_i hc
      obtain ⟨hc1, hc2⟩ := Bool.and_eq_true_iff.mp hc
      obtain rfl : g = f := beq_iff_eq.mp hc1
      cases hb : tab e.cls (.cls c) with
      | none =>
        rw [hb] at he
        cases he
      | some b =>
        rw [hb] at he
        cases he
        unfold ExH at ex
        rw [q] at ex
        obtain ⟨C, dx, v, m1, ec, ed, hx, nl, rv⟩ := ex
        obtain ⟨C1, m2, xc, no⟩ := TA e.cls (by simpa using hc2)
        obtain ⟨C2, m3, _, E, mE, ki⟩ := TI _ _ _ hb
        have m1' : X.mg e.cls = some (.ref C) := m1
        obtain rfl : C1 = C := by rw [m2] at m1'; cases m1'; rfl
        obtain rfl : C2 = C1 := by rw [m3] at m1'; cases m1'; rfl
        have rule := pss_one (ps_asg (X := X.suite a ((a, o) :: pn)) (pos := q9) (pe_lst (pos := ql) (pa_cons (pe_str (j := uk) (pos := qk) (x := k)) (pa_cons (pe_xf (pn := pn) ⟨xc.ga, xc.gg, xc.o.exC, xc.hd⟩ no hz hf (pe_var (X := X.suite a ((a, o) :: pn)) (i := i) hi hn n1 n2) at1)
          (pa_cons (pe_callB (call_isS hz hf) g1 g2 boot_isinstance (pa_cons (pe_var (X := X.suite a ((a, o) :: pn)) (i := i) hi hn n1 n2) (pa_cons (pe_glob (X := X.suite a ((a, o) :: pn)) (v := .ref E) g3 mE rfl n3) pa_nil st2) st1) (by decide) (by decide) st1 st3) pa_nil s3) s2) s1)) (pg_name (X := X.suite a ((a, o) :: pn)) (i := j) (pos := q1) nd hj hw hw2) w1 w2 (by rfl))
        refine rule.run pins s σ H D0 I ?_
        refine ⟨_, sl, rfl, ec, dx, _, v, ed, hx, by simp [List.lookup], _, sl, _, dx, _, _, _, b, ec, ed, rfl, .own E, xc, hx, ki, by simp [sizeLine_eq], fun ad na => ?_⟩
        obtain ⟨g2, x2, r2⟩ := lst_new R.gr (.cons (.str k) (.cons rv (.cons (.bl b) .nil))) na
        exact p W _ _ rfl x2 ((R.keep g2 x2).set r2 j)
    · cases he
end
end Tw

namespace Tw
open PySem PySem.Spec PyProof.Rows L2

/-! ### over a list or a tuple -/
def itQ (d : D) : Option (List D) := match d with
  | .tup xs => some xs
  | d => itL d
def dItQ (a : En → M D) : En → M (List D) := fun ρ => bnd (a ρ) fun d => lft (pur (itQ d))
def zipQ : List D → Option (List D)
  | [.tup xs, y] => zipT2 [.tup xs, y]
  | l => zip2 l
theorem itQ_ne {d : D} (h : ¬ ∃ xs, d = .tup xs) : itQ d = itL d := by
  unfold itQ
  split
  · exact absurd ⟨_, rfl⟩ h
  · rfl
theorem zipQ_ne {ds : List D} (h : ¬ ∃ xs y, ds = [.tup xs, y]) : zipQ ds = zip2 ds := by
  unfold zipQ
  split
  · exact absurd ⟨_, _, rfl⟩ h
  · rfl
section
variable {X : Cx} {We : WE'} {tg e : Expr} {da : En → M D}
theorem pi_either {t1 t2 t : TI} (h1 : PI X tg e t1) (h2 : PI X tg e t2) (w : ∀ σ H R, t σ H R → t1 σ H R ∨ t2 σ H R) : PI X tg e t :=
  ⟨fun pins s σ H R I h => (w σ H R h).elim (h1.run pins s σ H R I) (h2.run pins s σ H R I)⟩
theorem up_alt {A B C : Type} {da : En → M A} {f f1 f2 : A → Option C} {K : Pm} {W : Wd} {ρ : En} {r : Sum Er C} {G' : List O} (e : (fun ρ => bnd (da ρ) fun d => lft (pur (f d))) ρ W.G = some (r, G')) (h : ∀ d, f d = f1 d ∨ f d = f2 d) :
    (fun ρ => bnd (da ρ) fun d => lft (pur (f1 d))) ρ W.G = some (r, G') ∨ (fun ρ => bnd (da ρ) fun d => lft (pur (f2 d))) ρ W.G = some (r, G') := by
  dsimp only at e ⊢
  unfold bnd at e ⊢
  cases q : da ρ W.G with
  | none => rw [q] at e; cases e
  | some z =>
    obtain ⟨z, G1⟩ := z
    rw [q] at e
    cases z with
    | inl er => exact .inl e
    | inr d =>
      rcases h d with k | k
      · left
        have e2 : lft (pur (f d)) G1 = some (r, G') := e
        rw [k] at e2
        exact e2
      · right
        have e2 : lft (pur (f d)) G1 = some (r, G') := e
        rw [k] at e2
        exact e2
theorem ti_q (he : PE X e (upE (Cxp X) We da)) : PI X tg e (upI (Cxp X) We (dItQ da)) := pi_either (ti_tup he) (ti_list he) fun σ H R h => by
  obtain ⟨W, ρ, r, G', hR, e1, p⟩ := h
  rcases up_alt (B := Unit) (K := Cxp X) (f1 := itT) (f2 := itL) (W := W) e1 fun d => (Classical.em (∃ xs, d = .tup xs)).elim (fun ⟨xs, k⟩ => .inl (by rw [k]; rfl)) fun k => .inr (itQ_ne k) with z | z
  · exact .inl ⟨W, ρ, r, G', hR, z, p⟩
  · exact .inr ⟨W, ρ, r, G', hR, z, p⟩
theorem ti_zipQ {a b : Expr} {ta : En → M (List D)} {p pos tpos : Pos} {elts : List Expr} {kk : Nat} (hg : Gl X "zip") (hm : X.mg "zip" = none) (ha : PA X [a, b] (upA (Cxp X) We ta))
    (hs : starEach [a, b] X.env = (false, eval a X.env) :: starEach [b] X.env := by rfl) (hpl : (backTo pos (starEach [b] X.env)).any (·.1) = false := by rfl) :
    PI X (.Tuple elts kk tpos) (.Call (.Name "zip" p) [a, b] [] pos) (upI (Cxp X) We (dRng zipQ ta)) := pi_either (ti_zipT hg hm ha hs hpl) (ti_zip hg hm ha hs hpl) fun σ H R h => by
  obtain ⟨W, ρ, r, G', hR, e1, p⟩ := h
  rcases up_alt (B := Unit) (K := Cxp X) (f1 := zipT2) (f2 := zip2) (W := W) e1 fun d => (Classical.em (∃ xs y, d = [.tup xs, y])).elim (fun ⟨xs, y, k⟩ => .inl (by rw [k]; rfl)) fun k => .inr (zipQ_ne k) with z | z
  · exact .inl ⟨W, ρ, r, G', hR, z, p⟩
  · exact .inr ⟨W, ρ, r, G', hR, z, p⟩
end
end Tw

namespace Tw
open PySem PySem.Spec PyProof.Rows L2 PySem.W

/-! ### raise c() -/
def dRaise0 (c : Str) : En → M Out := fun _ G => some (.inl ⟨c, none⟩, G)
section
variable {X : Cx} {Wx : WX} {c : Str} {p pos kpos : Pos}
theorem pmk_bare {C : Addr} (T : Xcl X.K C) (q : excIn X.K C He.veBase "ValueError.__new__" = true) (hg : Gl X c) (hm : X.mg c = some (.ref C)) (hdb : (c == ("__debug__" : Str)) = false := by decide) : PMk X (.Call (.Name c p) [] [] kpos) (fun _ H Q => Q (.ref C) none H) := by
  intro pins s σ H Q I h
  refine wpAny_Call_Name_kw (ld_glob I hg hm (callWith_K0 I.kIn T.o.kC ?_) hdb)
  obtain ⟨tl, N, nm, qn, bs, hdct, sn, sub, ab, col, dd, k0, k1, k2, k3, k5, mN, o, hN, no, ot⟩ := exc_obj I.kIn q
  exact wpAny_call_exc_subT F.excBase_ValueError ot o hN no (fun h' e made => mk_of I made (raises_own T.o.exC T.o.tyC) h (I.hok.gone made.new)) (by show 0 ≤ sizeLine; exact Nat.zero_le _)
theorem tS_raise0 {C : Addr} (T : Xcl X.K C) (q : excIn X.K C He.veBase "ValueError.__new__" = true) (tk : Takes X Wx) (calm : X.calm = true) (hg : Gl X c) (hm : X.mg c = some (.ref C)) (hdb : (c == ("__debug__" : Str)) = false := by decide) :
    PS X (.Raise (some (.Call (.Name c p) [] [] kpos)) none pos) (ups (Cxp X) (WeW (Cxp X) Wx) (dRaise0 c)) := PS.imp (ps_raise calm tk (pmk_bare T q hg hm hdb)) fun D0 σ H h => by
  obtain ⟨W, ρ, r, G', hR, e, pp⟩ := h
  cases e
  exact pp W σ H rfl Ext.refl hR.gr (.ref C) none ⟨C, hm, rfl, rfl⟩
end

/-! ### [*xs, ..] -/
def inQ (d : D) (G : List O) : Option (List D) := match d with
  | .tup xs => some xs
  | d => inL d G
def dStarA (a : En → M D) (r : En → M (List D)) : En → M (List D) := fun ρ => bnd (a ρ) fun d => bnd (lft fun G => (inQ d G).map fun xs => (xs, G)) fun xs => bnd (r ρ) fun ds => ret (xs ++ ds)
theorem inQ_sq {K : Pm} {W : Wd} {H : Hp} {v : V} {d : D} {xs : List D} (g : Gr K W H) (r : Rv K W H v d) (e : inQ d W.G = some xs) : ∃ a vs, v = .ref a ∧ (SqT K.K H a vs ∨ SqL K.K H a vs) ∧ Rvs K W H vs xs := by
  unfold inQ at e
  split at e
  · cases e
    cases r with
    | tup h q => exact ⟨_, _, rfl, .inl h, q⟩
  · obtain ⟨a, vs, h1, h2, h3⟩ := inL_sq g r e
    exact ⟨a, vs, h1, .inr h2, h3⟩
section
variable {X : Cx} {We : WE'} {p : Pos} {e : Expr} {es : List Expr} {da : En → M D} {dr : En → M (List D)}
theorem ta_star (ha : PE X e (upE (Cxp X) We da)) (hr : PA X es (upA (Cxp X) We dr)) (hs : starEach (.Starred e p :: es) X.env = (true, eval e X.env) :: starEach es X.env := by rfl) : PA X (.Starred e p :: es) (upA (Cxp X) We (dStarA da dr)) :=
  PA.imp (StX.pa_star ha hr hs) fun σ H Q h => by
    obtain ⟨W, ρ, r, G', hR, e1, p1⟩ := h
    refine up_bnd hR e1 p1 fun d W1 v H1 x1 R1 r1 e2 p2 => ?_
    obtain ⟨xs, G2, e3, e4⟩ := bnd_lft e2
    cases q : inQ d W1.G with
    | none => rw [q] at e3; cases e3
    | some ys =>
      rw [q] at e3
      cases e3
      obtain ⟨a, vs, rfl, sq, rv⟩ := inQ_sq R1.gr r1 q
      refine ⟨a, vs, rfl, sq, up_bnd R1 e4 p2 fun ds W2 ws H2 x2 R2 r2 e5 p3 => ?_⟩
      exact up_ret e5 p3 W2 _ H2 rfl Ext.refl R2.gr ((rv.keep R1.gr x2).app r2)
end

/-! ### xs.index(z), texts -/
def allS : List D → Option (List Str)
  | [] => some []
  | .str z :: r => (allS r).map (z :: ·)
  | _ => none
def findS (z : Str) : List Str → Option Nat
  | [] => none
  | x :: r => if (x == z) = true then some 0 else (findS z r).map (· + 1)
def indexF : D → List D → P1 D := fun o ds G => match ds with
  | [.str z] => match (inL o G).bind allS with
    | some ns => match findS z ns with
      | some j => some (.int j, G)
      | none => none
    | none => none
  | _ => none
theorem allS_rv {K : Pm} {W : Wd} {H : Hp} : ∀ {xs : List D} {ns : List Str} {vs : List V}, allS xs = some ns → Rvs K W H vs xs → vs = ns.map V.str
  | [], _, _, e, .nil => by cases e; rfl
  | .str z :: r, ns, _, e, .cons h q => by
    have e1 : (allS r).map (z :: ·) = some ns := e
    cases k : allS r with
    | none => rw [k] at e1; cases e1
    | some ms =>
      rw [k] at e1
      cases e1
      cases h
      rw [List.map_cons, ← allS_rv k q]
theorem findS_ok {z : Str} : ∀ {ns : List Str} {j : Nat}, findS z ns = some j → ns[j]? = some z ∧ ∀ m x, m < j → ns[m]? = some x → (x == z) = false
  | [], _, e => by cases e
  | y :: r, j, e => by
    have e1 : (if (y == z) = true then some 0 else (findS z r).map (· + 1)) = some j := e
    cases q : (y == z) with
    | true =>
      rw [q, if_pos rfl] at e1
      cases e1
      exact ⟨by rw [beq_iff_eq.mp q]; rfl, fun m x h => absurd h (Nat.not_lt_zero m)⟩
    | false =>
      rw [q, if_neg (by simp)] at e1
      cases k : findS z r with
      | none => rw [k] at e1; cases e1
      | some i =>
        rw [k] at e1
        cases e1
        obtain ⟨h1, h2⟩ := findS_ok k
        refine ⟨h1, fun m x h hx => ?_⟩
        cases m with
        | zero => cases hx; exact q
        | succ m => exact h2 m x (Nat.lt_of_succ_lt_succ h) hx
theorem md_index {K : Pm} : MethD K (rIndex K.K) indexF := fun W H x vs o ds d G' Q g r1 r2 e p => by
  unfold indexF at e
  split at e
  · rename_i z
    split at e
    · rename_i ns hn
      split at e
      · rename_i j hj
        cases e
        cases hl : inL o W.G with
        | none => rw [hl] at hn; cases hn
        | some xs =>
          rw [hl] at hn
          obtain ⟨a, ys, rfl, sq, rv⟩ := inL_sq g r1 hl
          obtain rfl := allS_rv hn rv
          cases r2 with
          | cons h t =>
            cases t
            cases h
            obtain ⟨h1, h2⟩ := findS_ok hj
            refine ⟨a, _, .str z, j, .str z, rfl, rfl, sq, rfl, by simp [flatV], by rw [List.getElem?_map, h1]; rfl, by show (z == z) = true; exact beq_self_eq_true z, fun m z' hm hz => ?_, p W _ H rfl Ext.refl g (.int _)⟩
            rw [List.getElem?_map] at hz
            cases k : ns[m]? with
            | none => rw [k] at hz; cases hz
            | some y =>
              rw [k] at hz
              cases hz
              exact h2 m y hm k
      · cases e
    · cases e
  · cases e
end Tw

namespace Tw
open PySem PySem.Spec PyProof.Rows L2

/-! ### fe(e, ..), fe gives a def of the module -/
/-- tab: the defs, by name -/
def dCallE (tab : Str → Option (List D → M D)) (f : En → M D) (a : En → M (List D)) : En → M D := fun ρ => bnd (f ρ) fun d => match d with
  | .cls c => match tab c with
    | some F => dFpX F a ρ
    | none => fun _ => none
  | _ => fun _ => none
section
variable {X : Cx} {We : WE'} {Wx : WX} {n : Nat} {fe : Expr} {pos : Pos} {e : Expr} {es : List Expr} {df : En → M D} {da : En → M (List D)} {tab : Str → Option (List D → M D)}
theorem te_callE (T : ∀ c F, tab c = some F → ∃ k, Room k X.A ∧ CalX X.prog X.w X.K X.mg X.base k c n F) (tk : Takes X Wx) (hl : LenA n da) (hW : ∀ e W σ H', We e W σ H' → WeW (Cxp X) Wx e W σ H') (hf : PE X fe (upE (Cxp X) We df)) (ha : PA X (e :: es) (upA (Cxp X) We da))
    (ht : eval (.Call fe (e :: es) [] pos) X.env = (do callWith pos (← eval fe X.env) [] (backTo pos (starEach (e :: es) X.env)) (backToKw pos (keywordEach [] X.env))) := by rfl)
    (he : starEach (e :: es) X.env = (false, eval e X.env) :: starEach es X.env := by rfl) (hpl : (backTo pos (starEach es X.env)).any (·.1) = false := by rfl) :
    PE X (.Call fe (e :: es) [] pos) (upE (Cxp X) We (dCallE tab df da)) := by
  refine ⟨fun pins s σ H Q I h => ?_⟩
  obtain ⟨W, ρ, r, G', hR, e1, p1⟩ := h
  have first : upE (Cxp X) We df σ H fun y H1 => ∃ (k : Nat) (f : Addr) (fd : FuncData) (ps : List Str) (F : List D → M D), y = .ref f ∧ Room k X.A ∧ FnOk X.prog X.w X.K X.mg X.base (L2.CX X.prog X.w) k f fd ps (spF (Cxp X) (XoE (Cxp X)) n F) ∧
      PySem.W.keepIn X.K (.ref f) = true ∧ Binds X.K fd ps [] ∧ upA (Cxp X) We da σ H1 (fun vs H2 => spF (Cxp X) (XoE (Cxp X)) n F vs H2 Q (WE Wx σ)) := by
    refine up_bnd hR e1 p1 fun d W1 v H1 x1 R1 r1 e2 p2 => ?_
    cases d with
    | cls c =>
      cases hF : tab c with
      | none =>
        simp only [hF] at e2
        cases e2
      | some F =>
        simp only [hF] at e2
        obtain ⟨k, hr, C⟩ := T c F hF
        obtain ⟨f, fd, ps, hm, G, kp, b⟩ := C.ex
        cases r1 with
        | cls hm2 =>
          have hm3 : X.mg c = some (.ref _) := hm2
          rw [hm] at hm3
          cases hm3
          exact ⟨k, f, fd, ps, F, rfl, hr, G, kp, b, dFpX_up hl (fun e W H' h => hW e W σ H' h) ⟨W1, ρ, r, G', R1, e2, p2⟩⟩
    | _ => cases e2
  refine Call_ (thn (hf.run pins s σ H _ I first) fun u s1 hh => ?_) ht
  obtain ⟨y, H1, I1, ry, k, f, fd, ps, F, rfl, hr, G, kp, b, args⟩ := hh
  obtain rfl : u = Value.ref f := ry
  exact PySem.W.callWith_K (h₀ := X.base) I1.ok.mod.kin kp (thn (ha.run pos pins s1 σ H1 _ I1 args) fun us s2 ⟨vs, H2, I2, rv, q⟩ => ⟨I2.kIn, run_fnS G hr b (passAt tk σ) I2 rv q⟩) he hpl
/-- a def of the module as a value -/
theorem te_fnv {c : Str} {C : Addr} {p : Pos} (hg : Gl X c) (hm : X.mg c = some (.ref C)) (hd : (c == ("__debug__" : Str)) = false := by decide) : PE X (.Name c p) (upE (Cxp X) We (dC (.cls c))) := te_cls hg hm hd
end
end Tw

namespace Tw
open PySem PySem.Spec PyProof.Rows L2

/-! ### x(k = e, ..), every value by its name -/
/-- the i-th parameter's value is the (ix i)-th keyword's -/
def permL {α : Type} (ix : List Nat) (l : List α) : List α := ix.filterMap fun i => l[i]?
theorem perm_vals {vs : List V} {us : List Value} (r : Vals vs us) : ∀ ix : List Nat, Vals (permL ix vs) (permL ix us)
  | [] => .nil
  | i :: ix => by
    have ih := perm_vals r ix
    unfold permL at ih ⊢
    rw [List.filterMap_cons, List.filterMap_cons]
    cases h : vs[i]? with
    | none =>
      have h2 : us[i]? = none := by
        rw [List.getElem?_eq_none_iff] at h ⊢
        rw [← r.length]
        exact h
      rw [h2]
      exact ih
    | some v =>
      obtain ⟨u, h2, h3⟩ := r.get h
      rw [h2]
      exact .cons h3 ih
theorem perm_rvs {K : Pm} {W : Wd} {H : Hp} {vs : List V} {ds : List D} (r : Rvs K W H vs ds) : ∀ ix : List Nat, Rvs K W H (permL ix vs) (permL ix ds)
  | [] => .nil
  | i :: ix => by
    have ih := perm_rvs r ix
    unfold permL at ih ⊢
    rw [List.filterMap_cons, List.filterMap_cons]
    cases h : ds[i]? with
    | none =>
      have h2 : vs[i]? = none := by
        rw [List.getElem?_eq_none_iff] at h ⊢
        rw [r.length]
        exact h
      rw [h2]
      exact ih
    | some d =>
      obtain ⟨v, h2, h3⟩ := r.at h
      rw [h2]
      exact .cons h3 ih
theorem PK.imp {X : Cx} {kws : List Keyword} {t t' : TA} (h : PK X kws t) (i : ∀ σ H Q, t' σ H Q → t σ H Q) : PK X kws t' := ⟨fun pos pins s σ H Q I q => h.run pos pins s σ H Q I (i σ H Q q)⟩
section
variable {X : Cx} {We : WE'}
theorem tk_nil : PK X [] (upA (Cxp X) We dNil) := PK.imp pk_nil fun σ H Q h => by
  obtain ⟨W, ρ, r, G', hR, e, p⟩ := h
  cases e
  exact p W [] H rfl Ext.refl hR.gr .nil
theorem tk_cons {e : Expr} {kws : List Keyword} {nm : Option Str} {kpos : Pos} {da : En → M D} {dr : En → M (List D)} (ha : PE X e (upE (Cxp X) We da)) (hr : PK X kws (upA (Cxp X) We dr)) : PK X (⟨nm, e, kpos⟩ :: kws) (upA (Cxp X) We (dCons da dr)) := PK.imp (pk_cons ha hr) fun σ H Q h => by
  obtain ⟨W, ρ, r, G', hR, e, p⟩ := h
  refine up_bnd hR e p fun d W1 v H1 x1 R1 r1 e1 p1 => ?_
  refine up_bnd R1 e1 p1 fun ds W2 vs H2 x2 R2 r2 e2 p2 => ?_
  exact up_ret e2 p2 W2 _ H2 rfl Ext.refl R2.gr (.cons (r1.keep R1.gr x2) r2)
end
/-- keywords alone -/
def onlyK {α : Type} (ix : List Nat) : List α → List α → List α
  | [], ws => permL ix ws
  | _, _ => []
theorem onlyK_vals {ix : List Nat} : ∀ {vs : List V} {us : List Value} {zs : List V} {ws : List Value}, Vals vs us → Vals zs ws → Vals (onlyK ix vs zs) (onlyK ix us ws)
  | _, _, _, _, .nil, r => perm_vals r ix
  | _, _, _, _, .cons _ _, _ => .nil
/-- a def that is called so; Xo, CX: what it may let out (here it lets nothing out) -/
structure CalK (P : Program) (w : World) (K : PySem.W.Frag) (mg : Str → Option Value) (base : Heap) (CX : CXT) (Xo : XO) (k : Nat) (x : Str) (ks : List Str) (ix : List Nat) (n : Nat) (F : List D → M D) : Prop where
  ex : ∃ (f : Addr) (fd : FuncData) (ps : List Str), mg x = some (.ref f) ∧ FnOk P w K mg base CX k f fd ps (spF ⟨K, P, w, mg⟩ Xo n F) ∧ PySem.W.keepIn K (.ref f) = true ∧ KBinds K fd ps ks (onlyK ix) (onlyK ix)
def dFpK (F : List D → M D) (ix : List Nat) (n : Nat) (a : En → M (List D)) : En → M D := fun ρ => bnd (a ρ) fun ds => if (permL ix ds).length = n then pureF F (permL ix ds) else fun _ => none
section
variable {X : Cx} {We : WE'} {CX : CXT} {Xo : XO} {k n : Nat} {x : Str} {ks : List Str} {ix : List Nat} {F : List D → M D} {kws : List Keyword} {da : En → M (List D)} {p pos : Pos}
theorem dFpK_up {σ : L2.St} {H : Hp} {Q : VK} (h : upE (Cxp X) We (dFpK F ix n da) σ H Q) : upA (Cxp X) We da σ H (fun vs H1 => spF (Cxp X) Xo n F (permL ix vs) H1 Q E0) := by
  obtain ⟨W, ρ, r, G', hR, e, p⟩ := h
  refine up_bnd hR e p fun ds W1 vs H1 x1 R1 r1 e1 p1 => ?_
  split at e1
  · rename_i hn
    have rp := perm_rvs r1 ix
    unfold pureF at e1
    split at e1
    · rename_i hnr
      split at e1
      · rename_i d J hf
        split at e1
        · rename_i hd
          cases e1
          exact ⟨by rw [rp.length]; exact hn, W1.alone, _, .inr d, J, R1.gr.alone, Drs.nr (fun a l => alone_L.mp l) hnr rp, hf, fun W' v H' _ x' g' r' => p1 W1 v H' rfl x'.unalone (R1.gr.unalone x') (Dr.nr (alone_le x') hd r')⟩
        · cases e1
      · cases e1
    · cases e1
  · cases e1
theorem te_cK (T : CalK X.prog X.w X.K X.mg X.base CX Xo k x ks ix n F) (hx : Passes CX X E0) (hr : Room k X.A) (hg : Gl X x) (hk : PK X kws (upA (Cxp X) We da))
    (hall : (backToKw pos (keywordEach kws X.env)).all (·.1.isSome) = true := by rfl) (hks : (backToKw pos (keywordEach kws X.env)).filterMap (·.1) = ks := by rfl) (hdb : (x == ("__debug__" : Str)) = false := by decide)
    (hpl : (backToKw pos (keywordEach kws X.env)).any (·.1.isNone) = false := by rfl) : PE X (.Call (.Name x p) [] kws pos) (upE (Cxp X) We (dFpK F ix n da)) := by
  obtain ⟨f, fd, ps, hm, G, kp, b⟩ := T.ex
  refine ⟨fun pins s σ H Q I h => ?_⟩
  refine wpAny_Call_Name_kw (ld_glob I hg hm ?_ hdb)
  refine PySem.W.callWith_KW0 (h₀ := X.base) I.ok.mod.kin kp hall (thn (hk.run pos pins s σ H _ I (dFpK_up (Xo := Xo) h)) fun ws s2 ⟨zs, H2, I2, rz, q2⟩ => ⟨I2.kIn, ?_⟩) (by rw [hpl] <;> rfl)
  rw [hks]
  exact run_fnk (us := []) (vs := []) G hr b hx I2 .nil rz q2
end
end Tw

namespace Tw
open PySem PySem.Spec PyProof.Rows L2 PySem.W

/-! ### a suite that writes down an error without a field: w = [k, isinstance(e, c)] -/
section
variable {X : Cx} {a : Addr} {o : Obj} {cls : Value} {d : Option Addr} {pn : List (Addr × Obj)}
def rIsS0 (K : Frag) (a : Addr) (cls : Value) (d : Option Addr) : List V → Hp → VK → Prop := fun xs H Q => ∃ (C : Addr) (c : V) (u : Value) (b : Bool), cls = .ref C ∧ d = none ∧ xs = [.ref a, c] ∧ ClsV c u ∧ Xcl K C ∧ kitOne K (.ref C) u = some b ∧ Q (.bl b) H
theorem call_isS0 (hz : Zc cls d o) (hf : ∃ fs, o.data = .fields fs) : CallR (X.suite a ((a, o) :: pn)) (.builtin "isinstance") (rIsS0 X.K a cls d) := by
  intro pins s σ H xs us Q I r h
  obtain ⟨C, c, u, b, ec, ed, rfl, cv, T, ek, q⟩ := h
  obtain ⟨u1, u2, rfl, r1, r2⟩ := vals2 r
  obtain rfl := cv.eq r2
  cases r1
  obtain ⟨here, _⟩ := I.pin (a, o) (List.mem_append.mpr (.inl List.mem_cons_self))
  have J : InstAt s.heap a o C none := by
    obtain ⟨vs, hv⟩ := hf
    exact ⟨here, hz.1.trans ec, by unfold notCls; rw [hv] <;> rfl, by rw [hz.2, ed]; exact True.intro⟩
  have cl : (clsIn X.K C).isSome = true := by
    obtain ⟨cd, hc, _⟩ := any_some T.hd
    rw [hc]; rfl
  exact kia_one (kitx_exc (od := none) cl T.ga T.gg T.o.exC T.ha T.hn T.ht T.hm) I.kIn J ek (fun z => nomatch z) fun tk => ⟨.bl b, H, I.tok tk, rfl, q⟩
def hSay0 (k : Str) (tab : Str → D → Option Bool) (c : Str) (j : Nat) : Er → En → M Out := fun e ρ G => match e.fld with
  | none => match tab e.cls (.cls c) with
    | some b => some (.inr (.nx (ρ.set j (some (.lst [.str k, .bl b])))), G)
    | none => none
  | some _ => none
theorem pss_say0 {k c w n : Str} {tab : Str → D → Option Bool} {i j : Nat} {q1 q5 q6 q7 q8 q9 ql qk : Pos} {uk : Nat} (TI : XIs X.K X.mg tab) (hz : Zc cls d o) (hf : ∃ fs, o.data = .fields fs)
    (nd : X.N.Nodup) (hi : X.N[i]? = some n) (hj : X.N[j]? = some w) (hn : Vis X.env.scope n) (hw : Loc X.env.scope w) (hw2 : X.fn w = true ∨ X.env.scope.names.lookup w = some .local)
    (g1 : Gl X "isinstance") (g2 : X.mg "isinstance" = none) (g3 : Gl X c) (n1 : (n == ("__debug__" : Str)) = false) (n2 : (n == ("__classdict__" : Str)) = false) (n3 : (c == ("__debug__" : Str)) = false)
    (st1 : starEach [Expr.Name n q6, .Name c q7] X.env = (false, eval (.Name n q6) X.env) :: starEach [.Name c q7] X.env) (st2 : starEach [Expr.Name c q7] X.env = (false, eval (.Name c q7) X.env) :: starEach [] X.env)
    (st3 : (backTo q8 (starEach [Expr.Name c q7] X.env)).any (·.1) = false)
    (s1 : starEach [Expr.Constant (.str k) uk qk, .Call (.Name "isinstance" q5) [.Name n q6, .Name c q7] [] q8] X.env = (false, eval (.Constant (.str k) uk qk) X.env) :: starEach [.Call (.Name "isinstance" q5) [.Name n q6, .Name c q7] [] q8] X.env)
    (s3 : starEach [Expr.Call (.Name "isinstance" q5) [.Name n q6, .Name c q7] [] q8] X.env = (false, eval (.Call (.Name "isinstance" q5) [.Name n q6, .Name c q7] [] q8) X.env) :: starEach [] X.env)
    (w1 : swapsWithSole [.Name w q1] (.List [.Constant (.str k) uk qk, .Call (.Name "isinstance" q5) [.Name n q6, .Name c q7] [] q8] ql) q9.line X.env = pure false) 
    (w2 : swappedStores [.Name w q1] (.List [.Constant (.str k) uk qk, .Call (.Name "isinstance" q5) [.Name n q6, .Name c q7] [] q8] ql) X.env = pure none) :
    PSs (X.suite a ((a, o) :: pn)) [.Assign [.Name w q1] (.List [.Constant (.str k) uk qk, .Call (.Name "isinstance" q5) [.Name n q6, .Name c q7] [] q8] ql) q9] (tsOf X i (hSay0 k tab c j) a cls d) := by
  refine ⟨fun pins s σ H D0 I h => ?_⟩
  obtain ⟨W, e, ρ, ot, G', ex, R, sl, he, p⟩ := h
  unfold hSay0 at he
  cases q : e.fld with
  | some gx =>
    rw [q] at he
    cases he
  | none =>
    rw [q] at he
    dsimp only at he
    cases hb : tab e.cls (.cls c) with
    | none =>
      rw [hb] at he
      cases he
    | some b =>
      rw [hb] at he
      cases he
      unfold ExH at ex
      rw [q] at ex
      obtain ⟨C, m1, ec, ed⟩ := ex
      obtain ⟨C2, m3, xc, E, mE, ki⟩ := TI _ _ _ hb
      have m1' : X.mg e.cls = some (.ref C) := m1
      obtain rfl : C2 = C := by rw [m3] at m1'; cases m1'; rfl
      have rule := pss_one (ps_asg (X := X.suite a ((a, o) :: pn)) (pos := q9) (pe_lst (pos := ql) (pa_cons (pe_str (j := uk) (pos := qk) (x := k))
        (pa_cons (pe_callB (call_isS0 hz hf) g1 g2 boot_isinstance (pa_cons (pe_var (X := X.suite a ((a, o) :: pn)) (i := i) hi hn n1 n2) (pa_cons (pe_glob (X := X.suite a ((a, o) :: pn)) (v := .ref E) g3 mE rfl n3) pa_nil st2) st1) (by decide) (by decide) st1 st3) pa_nil s3) s1)) (pg_name (X := X.suite a ((a, o) :: pn)) (i := j) (pos := q1) nd hj hw hw2) w1 w2 (by rfl))
      refine rule.run pins s σ H D0 I ?_
      refine ⟨_, sl, C2, _, _, b, ec, ed, rfl, .own E, xc, ki, by simp [sizeLine_eq], fun ad na => ?_⟩
      obtain ⟨g2, x2, r2⟩ := lst_new R.gr (.cons (.str k) (.cons (.bl b) .nil)) na
      exact p W _ _ rfl x2 ((R.keep g2 x2).set r2 j)
end
end Tw

namespace Tw
open PySem PySem.Spec PyProof.Rows L2

/-! ### at every depth seen as any tuple -/
mutual
def wkA : D → D
  | .tpn xs => .tup (wkAs xs)
  | .tup xs => .tup (wkAs xs)
  | .lst xs => .lst (wkAs xs)
  | d => d
def wkAs : List D → List D
  | [] => []
  | x :: xs => wkA x :: wkAs xs
end
section
variable {K : Pm} {L : Addr → Prop} {α : List Addr} {H : Hp}
mutual
theorem Dr.weak : ∀ {v : V} {d : D}, Dr K L α H v d → Dr K L α H v (wkA d)
  | _, _, .non => by simp only [wkA]; exact .non
  | _, _, .bl b => by simp only [wkA]; exact .bl b
  | _, _, .int i => by simp only [wkA]; exact .int i
  | _, _, .str z => by simp only [wkA]; exact .str z
  | _, _, .tup h r => by simp only [wkA]; exact .tup h (Drs.weak r)
  | _, _, .tpn h r => by
    obtain ⟨o, h, _⟩ := h
    simp only [wkA]
    exact .tup (.inl (.inr ⟨o, h⟩)) (Drs.weak r)
  | _, _, .lst h n r => by simp only [wkA]; exact .lst h n (Drs.weak r)
  | _, _, .scr h r => by simp only [wkA]; exact .scr h r
  | _, _, .dct h n r => by simp only [wkA]; exact .dct h n r
  | _, _, .set h n nd e => by simp only [wkA]; exact .set h n nd e
  | _, _, .ref h => by simp only [wkA]; exact .ref h
  | _, _, .glo a => by simp only [wkA]; exact .glo a
  | _, _, .ty n => by simp only [wkA]; exact .ty n
  | _, _, .cls h => by simp only [wkA]; exact .cls h
  | _, _, .dcl h n r => by simp only [wkA]; exact .dcl h n r
  | _, _, .exc h e n => by simp only [wkA]; exact .exc h e n
  | _, _, .exf h e n e2 n2 r => by simp only [wkA]; exact .exf h e n e2 n2 r
theorem Drs.weak : ∀ {vs : List V} {ds : List D}, Drs K L α H vs ds → Drs K L α H vs (wkAs ds)
  | _, _, .nil => by simp only [wkAs]; exact .nil
  | _, _, .cons h r => by simp only [wkAs]; exact .cons (Dr.weak h) (Drs.weak r)
end
end
/-- a house whose groups are known to have no dict of their own -/
def wkH : D → D
  | .tpn [a, .tpn gs, c] => .tup [wkA a, .tpn (wkAs gs), wkA c]
  | d => wkA d
theorem wkH_ok {K : Pm} {W : Wd} {H : Hp} {v : V} {d : D} (r : Rv K W H v d) : Rv K W H v (wkH d) := by
  unfold wkH
  split
  · rename_i a gs c
    cases r with
    | tpn h q =>
      obtain ⟨o, h, _⟩ := h
      cases q with
      | cons ra q => cases q with
        | cons rg q => cases q with
          | cons rc q =>
            cases q
            cases rg with
            | tpn hg qg => exact .tup (.inl (.inr ⟨o, h⟩)) (.cons ra.weak (.cons (.tpn hg qg.weak) (.cons rc.weak .nil)))
  · exact r.weak
def dWkA (a : En → M D) : En → M D := fun ρ => bnd (a ρ) fun d => ret (wkA d)
def dWkH (a : En → M D) : En → M D := fun ρ => bnd (a ρ) fun d => ret (wkH d)
section
variable {X : Cx} {We : WE'} {e : Expr} {da : En → M D}
theorem te_map {f : D → D} (hf : ∀ {W : Wd} {H : Hp} {v : V} {d : D}, Rv (Cxp X) W H v d → Rv (Cxp X) W H v (f d)) (h : PE X e (upE (Cxp X) We da)) : PE X e (upE (Cxp X) We (fun ρ => bnd (da ρ) fun d => ret (f d))) := PE.imp h fun σ H Q q => by
  obtain ⟨W, ρ, r, G', hR, e1, p⟩ := q
  refine up_bnd hR e1 p fun d W1 v H1 x1 R1 r1 e2 p1 => ?_
  exact up_ret e2 p1 W1 v H1 rfl Ext.refl R1.gr (hf r1)
theorem te_wkA (h : PE X e (upE (Cxp X) We da)) : PE X e (upE (Cxp X) We (dWkA da)) := te_map (fun r => r.weak) h
theorem te_wkH (h : PE X e (upE (Cxp X) We da)) : PE X e (upE (Cxp X) We (dWkH da)) := te_map wkH_ok h
end

/-! ### tuple(xs), xs a list: a new one without a dict of its own -/
def rTupOfN (K : PySem.W.Frag) : List V → Hp → VK → Prop := fun xs H Q => ∃ p ys, xs = [.ref p] ∧ SqL K H p ys ∧ ∀ (l : Addr) (o : Obj), o.dict = none → H l = none → Q (.ref l) (upd H l (.frz o (.tup ys)))
theorem call_tupleN {X : Cx} : CallR X (.type "tuple") (rTupOfN X.K) := by
  intro pins s σ H xs us Q I r h
  obtain ⟨p, ys, rfl, sq, q⟩ := h
  obtain ⟨u, rfl, ru⟩ := vals1 r
  cases ru
  obtain ⟨its, rv, pl, small⟩ := I.list sq
  have len := rv.length
  refine call_tuple_list pl.isList (fun hp kept => ?_) (by simp only [List.size_toArray] <;> omega)
  have J : Inv X pins σ H { s with heap := hp } := I.kept (t' := s.toks) kept
  refine ⟨.ref hp.objs.size, _, J.laid (t' := s.toks) (o := .frz { cls := .type "tuple", data := .seq its.toArray } (.tup ys)) (fun b ob z => Heap.get?_push_of_some _ z) (Nat.le_refl _) ?_, rfl, q _ _ rfl (J.hok.fresh (Nat.le_refl _))⟩
  exact ⟨Heap.get?_push_size _ rfl, small, _, rv, IsTup.new _ _⟩
def tupNF : List D → P1 D := fun ds G => match ds with
  | [x] => match inL x G with
    | some xs => some (.tpn xs, G)
    | none => none
  | _ => none
theorem cd_tupN {K : Pm} : CallD K (rTupOfN K.K) tupNF := fun W H vs ds d G' Q g r e p => by
  unfold tupNF at e
  split at e
  · rename_i x
    cases hx : inL x W.G with
    | none => rw [hx] at e; cases e
    | some xs =>
      rw [hx] at e
      cases e
      cases r with
      | cons h r =>
        cases r
        obtain ⟨a, ws, rfl, sq, q⟩ := inL_sq g h hx
        refine ⟨a, ws, rfl, sq, fun l o ho n => ?_⟩
        obtain ⟨g', x', rv⟩ := tpn_new ho g q n
        exact p W _ _ rfl x' g' rv
  · cases e
end Tw

namespace Tw
open PySem PySem.Spec PyProof.Rows L2 PySem.Froz
/-! ### sets of texts, with all that is asked when they are walked -/
theorem off_place (t : SetTable) : (if t.plain = true then { t with plain := false } else t).place = t.place ∧ (if t.plain = true then { t with plain := false } else t).led = t.led := by
  split <;> exact ⟨rfl, rfl⟩
theorem tail_ris {ep : Nat} {es1 : Array (Int × Value)} {t2 : SetTable} {wd : Bool} (r : Ris t2.place.toList) : Ris (tailTx ep es1 t2 wd).2.2.place.toList ∧ (tailTx ep es1 t2 wd).2.2.led = t2.led := by
  unfold tailTx
  split
  · exact ⟨relayAll_ris t2 es1 _, relayAll_led t2 es1 _⟩
  · exact ⟨r, rfl⟩
theorem add_ris {h : Int} {v : Value} {D : SD} (r : Ris D.2.2.place.toList) : Ris (addTx h v D).2.2.place.toList ∧ (addTx h v D).2.2.led = D.2.2.led := by
  have a1 := layNew_ris D.2.2 D.1 h v r
  have a2 := layNew_led D.2.2 D.1 h v
  obtain ⟨q1, q2⟩ := off_place (layNew D.2.2 D.1 h v).2.1
  obtain ⟨z1, z2⟩ := tail_ris (ep := D.2.1) (es1 := (layNew D.2.2 D.1 h v).1) (wd := (layNew D.2.2 D.1 h v).2.2.1) (by rw [q1]; exact a1)
  exact ⟨z1, z2.trans (q2.trans a2)⟩
/-- the texts l at a, each once -/
structure TxR (P : Program) (w : World) (h : Heap) (a : Addr) (l : List Str) : Prop where
  ex : ∃ D : SD, h.get? a = some (sObj "set" D) ∧ TxOk P w D l ∧ Ris D.2.2.place.toList ∧ (w.params.followText "set-order" = true ∨ D.2.2.led = true)
  nd : l.Nodup
section
variable {P : Program} {w : World} {A : Around} {E : Value → Shared → Prop} {s : Shared} {a : Addr} {l : List Str}
theorem TxR.at {h h' : Heap} (r : TxR P w h a l) (k : ∀ o, h.get? a = some o → h'.get? a = some o) : TxR P w h' a l := let ⟨⟨D, e, x⟩, n⟩ := r; ⟨⟨D, k _ e, x⟩, n⟩
theorem tx_fresh {h : Heap} (e : h.get? a = some { cls := .type "set", dict := none, data := .set #[] 0 (.fresh 0 0 (!w.params.followText "set-order")) }) : TxR P w h a [] := by
  refine ⟨⟨(#[], 0, .fresh 0 0 (!w.params.followText "set-order")), e, TxOk.nil (by kernel_rfl), List.Pairwise.nil, ?_⟩, List.nodup_nil⟩
  cases hq : w.params.followText "set-order" with
  | true => exact .inl rfl
  | false => exact .inr rfl
theorem tx_add {k : Str} {u : Tok} {Q : Bool → Shared → Prop} (r : TxR P w s.heap a l) (hb : l.length + 1 < scanBound) (q : ∀ b h', Heap.SameBut a s.heap h' → TxR P w h' a (if k ∈ l then l else k :: l) → Q b { s with heap := h' }) :
    wpAny (model P w) A (setAddHashed a (.str k u) (hashStr w k)) Q E s := by
  obtain ⟨⟨D, e, F, ri, le⟩, nd⟩ := r
  by_cases hk : k ∈ l
  · obtain ⟨es, ep, t⟩ := D
    have f1 : t.fits es.size = true := F.fit
    have el : ElemsOf (strKind P w) es.toList := F.el
    have b0 : es.size < scanBound := by have : es.size = l.length := F.sz; omega
    have key : (strKind P w).is k (.str k u) = true := is_str k u
    cases hfi : List.findIdx? (fun x => (strKind P w).is k x.2) es.toList with
    | none =>
      obtain ⟨x, hx, z⟩ := (F.mem k).mp hk
      exact absurd z (by rw [List.findIdx?_eq_none_iff.mp hfi x hx]; simp)
    | some j =>
      unfold setAddHashed setAddHashedIn; refine wpAny_holding (wpAny_bind (wpAny_setState_of e rfl f1 ?_)); dsimp only
      rw [byScan_of rfl b0 el]; simp only [↓reduceIte]; unfold setAddByScan; refine wpAny_bind (wpAny_bind (wpAny_rule (wpAny_bind (wpAny_setScan_of (knd := strKind P w) (k := k) key e rfl f1 el ?_))))
      rw [hfi]
      exact wpAny_pure (wpAny_pure (q false s.heap (.refl a s.heap) (by rw [if_pos hk]; exact ⟨⟨(es, ep, t), e, F, ri, le⟩, nd⟩)))
  · refine add_x e F hk hb (q true _ (.update s.heap a _) ?_)
    obtain ⟨z1, z2⟩ := add_ris (h := hashStr w k) (v := .str k u) ri
    rw [if_neg hk]
    exact ⟨⟨_, get_upd _ e rfl, add_ok u F, z1, le.imp id fun x => z2.trans x⟩, List.nodup_cons.mpr ⟨hk, nd⟩⟩
/-- what is found in a set: each of its texts once -/
theorem nodup_perm {l m : List Str} (h : l.Nodup) (sub : ∀ x ∈ l, x ∈ m) (le : m.length ≤ l.length) : m.Perm l := by
  induction l generalizing m with
  | nil =>
    cases m with
    | nil => exact .nil
    | cons y m => simp at le
  | cons x l ih =>
    obtain ⟨h1, h2⟩ := List.nodup_cons.mp h
    have p := List.perm_cons_erase (sub x List.mem_cons_self)
    refine p.trans (.cons x (ih h2 (fun y hy => ?_) ?_))
    · refine (List.mem_erase_of_ne fun e => ?_).mpr (sub y (List.mem_cons_of_mem _ hy))
      rw [e] at hy
      exact h1 hy
    · have := p.length_eq
      simp only [List.length_cons] at this le
      omega
theorem strs_of {l : List Value} (h : ∀ v ∈ l, ∃ x t, v = Value.str x t) : ∃ ms, StrsAre l ms := by
  induction l with
  | nil => exact ⟨[], .nil⟩
  | cons v l ih =>
    obtain ⟨ms, e⟩ := ih fun u hu => h u (List.mem_cons_of_mem _ hu)
    obtain ⟨x, t, rfl⟩ := h v List.mem_cons_self
    exact ⟨x :: ms, .cons x t e⟩
theorem strs_mem {l : List Value} {ms : List Str} (h : StrsAre l ms) (x : Str) : x ∈ ms ↔ ∃ t, Value.str x t ∈ l := by
  induction h with
  | nil => simp
  | cons y t h ih =>
    rw [List.mem_cons, ih]
    constructor
    · rintro (e | ⟨t', e⟩)
      · exact ⟨t, by rw [e]; exact List.mem_cons_self⟩
      · exact ⟨t', List.mem_cons_of_mem _ e⟩
    · rintro ⟨t', e⟩
      rcases List.mem_cons.mp e with e | e
      · cases e; exact .inl rfl
      · exact .inr ⟨t', e⟩
theorem is_shape {k : Str} {v : Value} (h : (strKind P w).is k v = true) : ∃ t, v = .str k t := by
  have h' : Value.isStrOf k v = true := h
  cases v <;> simp [Value.isStrOf] at h'
  exact ⟨_, by rw [h']⟩
theorem TxOk.strs {D : SD} (F : TxOk P w D l) (nd : l.Nodup) {vs : List Value} (pm : vs.Perm (D.1.toList.map (·.2))) : ∃ ms, StrsAre vs ms ∧ ms.Perm l := by
  obtain ⟨ms, e⟩ := strs_of (l := vs) fun v hv => by
    obtain ⟨x, hx, rfl⟩ := List.mem_map.mp (pm.mem_iff.mp hv)
    obtain ⟨⟨k, hk, _⟩, _⟩ := F.el x hx
    obtain ⟨t, z⟩ := is_shape hk
    exact ⟨k, t, z⟩
  have ln : ms.length = l.length := by
    have h1 := StrsAre.len_eq e
    rw [← h1, pm.length_eq, List.length_map, Array.length_toList]
    exact F.sz
  refine ⟨ms, e, nodup_perm nd (fun x hx => ?_) (by omega)⟩
  obtain ⟨y, hy, z⟩ := (F.mem x).mp hx
  obtain ⟨t, z⟩ := is_shape z
  exact (strs_mem e x).mpr ⟨t, by rw [← z]; exact pm.mem_iff.mpr (List.mem_map.mpr ⟨y, hy, rfl⟩)⟩
end
end Tw

namespace Tw
open PySem PySem.Spec PyProof.Rows L2 PySem.Froz
section
variable {P : Program} {w : World} {A : Around}
/-- set.update's loop over texts -/
theorem tx_loop {I : Addr} {fp wr : List Addr} {G : Array GenState → Array GenState → Prop} {n : Nat} {Pv : Nat → Value → Prop} {St : Nat → Shared → Prop} {R : Result → Shared → Prop} (W : WalksS P w A.in1 I fp wr G n Pv St) {S : Addr} (out : S ∉ fp)
    (xs : List Str) (len : xs.length = n) (few : n + 1 < scanBound) (val : ∀ i v, Pv i v → ∃ t, v = .str (xs.getD i Str.empty) t) : ∀ (k i : Nat) (l : List Str) (s : Shared), n - i = k → i ≤ n → St i s → TxR P w s.heap S l → l.length ≤ i → (∀ z, z ∈ l ↔ z ∈ xs.take i) →
      (∀ s' l', Moved (S :: wr) G s s' → TxR P w s'.heap S l' → l'.length ≤ n → (∀ z, z ∈ l' ↔ z ∈ xs) → R (.ok (.ret .none)) s') → codeAny (model P w) A (.builtin "set.update.loop" ⟨[.ref S, .ref I], []⟩) R s := by
  have ow : S ∉ wr := fun h => out (W.sub _ h)
  have up : ∀ b ∈ wr, b ∈ S :: wr := fun _ => List.mem_cons_of_mem S
  intro k
  induction k with
  | zero =>
    intro i l s hk hi st r ll mm q
    obtain rfl : i = n := by omega
    refine codeAny_builtin F.entry_set_update_loop ?_; rw [Around.under_plainId F.plain_set_update_loop _]
    refine wpAny_bind (m := pyNext (.ref I)) (W.done s _ _ st fun s' mv => wpAny_pure (q s' l (mv.mono up) (r.at fun o e => mv.heap S o ow e) ll ?_))
    rw [List.take_of_length_le (by omega)] at mm
    exact mm
  | succ k ih =>
    intro i l s hk hi st r ll mm q
    have lt : i < n := by omega
    refine codeAny_builtin F.entry_set_update_loop ?_; rw [Around.under_plainId F.plain_set_update_loop _]
    refine wpAny_bind (m := pyNext (.ref I)) (W.item i s _ _ lt st fun v s' pv st' mv => ?_)
    obtain ⟨t, rfl⟩ := val i v pv
    have r' : TxR P w s'.heap S l := r.at fun o e => mv.heap S o ow e
    refine wpAny_bind (m := holding [Value.str (xs.getD i Str.empty) t] (setAdd S (.str (xs.getD i Str.empty) t))) (wpAny_holding ?_)
    unfold setAdd; refine wpAny_holding (wpAny_bind ((strKind P w).pyHash (k := xs.getD i Str.empty) (is_str _ _) ?_))
    refine tx_add (s := { s' with toks := s'.toks + 1 }) r' (by omega) fun b h' sb r2 => ?_
    have ei : xs.take (i + 1) = xs.take i ++ [xs.getD i Str.empty] := by
      rw [List.take_succ, List.getElem?_eq_getElem (by omega)]
      simp [List.getD, List.getElem?_eq_getElem (show i < xs.length by omega)]
    refine wpAny_pure ⟨plainId_quiet F.plain_set_update_loop _, ih (i + 1) _ _ (by omega) lt (W.frame _ s' _ _ st' (Nat.le_succ _) fun c hc o e => (sb.2 c fun z => out (z ▸ hc)).trans e) r2 (by split <;> (try simp) <;> omega) (fun z => ?_) fun s'' l' mv'' r'' l2 m2 => ?_⟩
    · rw [ei, List.mem_append, List.mem_singleton, ← mm z]
      split
      · rename_i hm
        exact ⟨.inl, fun h => h.elim id fun e => e ▸ hm⟩
      · rw [List.mem_cons]
        exact ⟨fun h => h.symm, fun h => h.symm⟩
    · refine q s'' l' (Moved.trans W.gtrans ((mv.mono up).then_heap (Nat.le_succ _) fun c o hc e => (sb.2 c fun z => hc (z ▸ List.mem_cons_self)).trans e) mv'') r'' l2 m2
end
section
variable {P : Program} {w : World} {A : Around} {E : Value → Shared → Prop} {s : Shared}
theorem new_tx (a : Value) {Q : Value → Shared → Prop} (q : Q (.ref s.heap.objs.size) { s with heap := s.heap.push { cls := .type "set", dict := none, data := .set #[] 0 (.fresh 0 0 (!w.params.followText "set-order")) } }) :
    codeAny (model P w) A (.call (.builtin "set.__new__") ⟨[.type "set", a], []⟩) (wants Q E) s := by
  refine codeAny_of_tree ((wpAny_bind (m := checkBuiltinCall "set.__new__" ⟨[.type "set", a], []⟩) (wpAny_of_eq (F.newCall_set_1 a) (wpAny_pure ⟨plainId_quiet F.plain_set_new _, codeAny_builtin F.entry_set_new ?_⟩))))
  rw [Around.under_plainId F.plain_set_new _]; unfold Builtin.«set.__new__» Builtin.Frozenset.newClass
  have hsub := sub_set_self
  obtain ⟨hp, g, d, tk, os⟩ := s; dsimp only; wp_walk
  refine wpAny_askSetting (wpAny_pure ?_); dsimp only; simp only [newObj]; exact wpAny_bind (wpAny_alloc (wpAny_pure (wpAny_pure q)))
/-- set(xs), xs a list of texts -/
theorem call_tx {l : Addr} {its : Array Value} {xs : List Str} {Q : Value → Shared → Prop} (hh : A.handled = none) (hl : s.heap.IsList l its) (hi : StrsAre its.toList xs) (few : xs.length + 1 < scanBound)
    (h : ∀ (h' : Heap) (tk : Nat) (m : List Str), TxR P w h' s.heap.objs.size m → m.length ≤ xs.length → (∀ z, z ∈ m ↔ z ∈ xs) → (∀ b o, b < s.heap.objs.size → s.heap.get? b = some o → h'.get? b = some o) → Q (.ref s.heap.objs.size) { s with heap := h', toks := tk }) :
    wpAny (model P w) A (call (.type "set") [.ref l]) Q E s := by
  obtain ⟨c, tl, hmro⟩ := F.called_set.mro; have hmade := F.called_set.made; have hsub := F.called_set.sub
  refine wpAny_call (codeAny_of_tree ?_)
  show wpAny _ _ (callAny (.type "set") ⟨[.ref l], []⟩) _ _ s
  refine wpAny_pure ⟨Code.quiet_builtin _ (by decide +kernel), codeAny_builtin F.entry_type_call ?_⟩; rw [Around.under_plain (weight_type_call_type "set" [.ref l] []) rfl]
  have h1 := F.called_set.notType; have h2 := F.called_set.canCreate; have hct := F.typeCall_set_1 (.ref l)
  (repeat (any_goals (first | wp_step | assumption)))
  generalize hN : ({ cls := .type "set", dict := none, data := .set #[] 0 (.fresh 0 0 (!w.params.followText "set-order")) } : Obj) = N
  refine codeAny_mono (new_tx (.ref l) (E := E) (Q := fun u s1 => u = .ref s.heap.objs.size ∧ s1 = { s with heap := s.heap.push N }) ⟨rfl, by rw [hN]⟩) fun r s1 hr => ?_
  rcases r with e | fl
  · exact hr
  rcases fl with u | _ | _ | _
  all_goals try exact hr.elim
  obtain ⟨rfl, rfl⟩ := hr
  have new : (s.heap.push N).get? s.heap.objs.size = some N := Heap.get?_push_size _ (by rw [← hN]; rfl)
  have ty : Shared.TypeIs { s with heap := s.heap.push N } (.ref s.heap.objs.size) "set" := ⟨_, new, by rw [← hN]⟩
  have hli := F.called_set.init.lookup; have hbi := F.called_set.init.bind (.ref s.heap.objs.size)
  (repeat (any_goals (first | wp_step | assumption)))
  refine codeAny_mono (codeAny_call_builtin (R := wants (fun u s2 => u = .none ∧ ∃ h' tk m, s2 = { s with heap := h', toks := tk } ∧ TxR P w h' s.heap.objs.size m ∧ m.length ≤ xs.length ∧ (∀ z, z ∈ m ↔ z ∈ xs) ∧ ∀ b o, b < s.heap.objs.size → s.heap.get? b = some o → h'.get? b = some o) E) F.called_set.init.plain F.entry_set_init (check_set_init_1 ty ?_)) fun r2 s2 hr2 => ?_
  · obtain ⟨⟨cl, dc, da, sl⟩, ho, hc, nl, hd⟩ := hl
    simp only at hc hd
    subst hc hd
    have old : (s.heap.push N).get? l = some { cls := .type "list", dict := dc, data := .seq its nl, slots := sl } := Heap.get?_push_of_some _ ho
    have hsls := F.sub_list_set; have hslf := F.sub_list_frozenset; have hne : (Value.type "list" == Value.type "dict") = false := by decide
    have isl : (s.heap.push N).IsList l its := ⟨_, old, rfl, nl, rfl⟩
    subst hN
    unfold Builtin.«set.__init__» noKeywords Builtin.Frozenset.updateFrom; generalize hPI : pyIter = PI
    wp_walk
    subst hPI
    have small : l < s.heap.objs.size := Heap.lt_size ho
    have zz : ∀ o : Obj, (s.heap.push o).objs.size = s.heap.objs.size + 1 := fun o => Heap.size_push ..
    refine wpAny_pyIter_list isl ?_; refine wpAny_bind (wpAny_runValue ?_)
    have ln : xs.length = its.size := by rw [← StrsAre.len_eq hi, Array.length_toList]
    refine tx_loop ((Walks.list (by simp [hh]) _ l (by rw [zz]; exact Nat.ne_of_lt (Nat.lt_succ_of_lt small)) its).toS) (S := s.heap.objs.size) (by rw [zz]; intro z; simp only [List.mem_cons, List.not_mem_nil, or_false] at z; exact z.elim (Nat.ne_of_lt (Nat.lt_succ_self _)) (Nat.ne_of_gt small)) xs ln (by omega) (fun i v hv => SS.strs_at hi i v (by rw [Array.getElem?_toList]; exact hv)) its.size 0 [] _ (by omega) (Nat.zero_le _) ⟨⟨_, Heap.get?_push_size _ rfl, rfl, rfl⟩, isl.push _⟩ ?_ (Nat.le_refl _) (by simp) ?_
    · exact tx_fresh (Heap.get?_push_of_some _ new)
    · intro s' m mv r' lm mm
      obtain ⟨h', g', d', tk', os'⟩ := s'
      obtain rfl : g' = s.gens := mv.gens
      obtain rfl : d' = s.drawn := mv.drawn
      obtain rfl : os' = s.os := mv.os
      show wpAny _ _ (pure _) _ _ _
      refine wpAny_pure (wpAny_pure ⟨rfl, h', tk', m, rfl, r', by omega, mm, fun b o hb e => ?_⟩)
      exact mv.heap b o (by rw [zz]; intro z; simp only [List.mem_cons, List.not_mem_nil, or_false] at z; exact z.elim (Nat.ne_of_lt hb) (Nat.ne_of_lt (Nat.lt_succ_of_lt hb))) (Heap.get?_push_of_some _ (Heap.get?_push_of_some _ e))
  · rcases r2 with e | fl
    · exact hr2
    rcases fl with u | _ | _ | _
    all_goals try exact hr2.elim
    obtain ⟨rfl, h', tk, m, rfl, r', lm, mm, kp⟩ := hr2
    (repeat (any_goals (first | wp_step | assumption)))
    exact h h' _ m r' lm mm kp
end
end Tw

namespace Tw
open PySem PySem.Spec PyProof.Rows L2 PySem.Froz
/-- the set of texts at a -/
def TxO (P : Program) (w : World) (a : Addr) (l : List Str) : HO := .ext fun h => TxR P w h a l
section
variable {X : Cx}
theorem txO_new {w : World} {P : Program} {H : Hp} {h : Heap} {a : Addr} {l : List Str} (r : TxR P w h a l) : ObjOk P w H h a (TxO P w a l) := by
  have ⟨D, e, _⟩ := r.ex
  exact ⟨r, ⟨_, e⟩, fun h1 h2 p k => TxR.at p k⟩
theorem txO_get {pins : List (Addr × Obj)} {σ : L2.St} {H : Hp} {s : Shared} {a : Addr} {l : List Str} (I : Inv X pins σ H s) (ha : H a = some (TxO X.prog X.w a l)) : TxR X.prog X.w s.heap a l := (I.hok a _ ha).1
def rSetL (K : PySem.W.Frag) (P : Program) (w : World) : List V → Hp → VK → Prop := fun vs H Q => ∃ (a : Addr) (xs : List Str), vs = [V.ref a] ∧ SqL K H a (xs.map V.str) ∧ xs.length < 1000 ∧ ∀ (p : Addr) (m : List Str), m.length ≤ xs.length → m.Nodup → (∀ z, z ∈ m ↔ z ∈ xs) → H p = none → Q (.ref p) (upd H p (TxO P w p m))
theorem cr_setL (hc : X.calm = true) : CallR X (.type "set") (rSetL X.K X.prog X.w) := by
  intro pins s σ H vs us Q I r h
  obtain ⟨a, xs, rfl, hs, few, q⟩ := h
  obtain ⟨its, rv, hl, _⟩ := I.list hs
  rw [Vals.ref1 r]
  have bb : xs.length + 1 < scanBound := by unfold scanBound; omega
  refine call_tx (I.ok.hd hc) hl.isList (by simpa using rv.strs) bb fun h' tk m r' lm mm kp => ?_
  exact ⟨.ref _, upd H s.heap.objs.size (TxO X.prog X.w s.heap.objs.size m), I.laid (t' := tk) (fun b o e => kp b o (Heap.lt_size e) e) (Nat.le_refl _) (txO_new r'), rfl, q _ m lm r'.nd mm (I.hok.fresh (Nat.le_refl _))⟩
def rSortT (P : Program) (w : World) : List V → Hp → VK → Prop := fun vs H Q => ∃ (a : Addr) (m : List Str), vs = [V.ref a] ∧ H a = some (TxO P w a m) ∧ m.length < 64 ∧ ∀ (ys : List Str) (p : Addr), ys.Perm m → sortedS ys = true → H p = none → Q (.ref p) (upd H p (.lst (ys.map V.str)))
theorem cr_sortT (hc : X.calm = true) : CallR X (.builtin "sorted") (rSortT X.prog X.w) := by
  intro pins s σ H vs us Q I r h
  obtain ⟨a, m, rfl, ha, few, q⟩ := h
  obtain ⟨⟨D, e, F, ri, le⟩, nd⟩ := txO_get I ha
  obtain ⟨es, ep, t⟩ := D
  rw [Vals.ref1 r]
  refine Calls.call_function_entry kind_sorted plain_sorted entry_sorted (args_sorted1 _) ?_; unfold Builtin.«sorted»
  refine wpAny_bind (m := checkCount "sorted" 1 1 _) (wpAny_pure (wpAny_bind (collect_set (A := X.A.in1) (es := es) (ep := ep) (t := t) (I.ok.hd hc) ⟨_, e, rfl, rfl⟩ F.fit (by have : es.size = m.length := F.sz; unfold scanBound; omega) ri le fun s1 vs k1 hz g1 o1 pm => ?_)))
  obtain ⟨ms, sa, pp⟩ := Tw.TxOk.strs F nd pm
  have lv : vs.length = m.length := by rw [StrsAre.len_eq sa, pp.length_eq]
  refine wpAny_bind (wpAny_newList ?_ (by rw [sizeLine_eq]; omega))
  have at_ : (s1.heap.push (seqObj "list" vs.toArray 0)).get? s1.heap.objs.size = some (seqObj "list" vs.toArray 0) := Heap.get?_push_size _ rfl
  refine wpAny_bind (wpAny_holding (wpAny_call_entry slot_list_sort ⟨_, at_, rfl⟩ entry_list_sort (list_sort_treeK strKind_oneLt (s := { s1 with heap := s1.heap.push (seqObj "list" vs.toArray 0) }) at_ sa.keysOf (fun v1 v2 rest e => keyKind_strs (by rw [← e]; exact sa)) (by omega) fun st' hp hs => ⟨_, rfl, ?_⟩) (args_list_sort _)))
  obtain ⟨ys, y1, y2, y3⟩ := sorted_out_str sa hp hs
  obtain ⟨c, hc2⟩ := sortedHeap_at (vs := vs) (out := (arrOf st').map (·.2)) at_
  have keep : ∀ b o, s.heap.get? b = some o → (sortedHeap (s1.heap.push (seqObj "list" vs.toArray 0)) s1.heap.objs.size vs ((arrOf st').map (·.2))).get? b = some o := fun b o h0 => by
    have h1 := k1 b o h0
    have lt := Heap.lt_size h1
    rw [sortedHeap_old (Nat.ne_of_lt lt) (by rw [size_push']; exact Nat.lt_succ_of_lt lt)]
    exact Heap.get?_push_of_some _ h1
  have no : H s1.heap.objs.size = none := I.hok.fresh hz
  have len : (ys.map V.str).length ≤ sizeLine := by rw [List.length_map, y2.length_eq, pp.length_eq, sizeLine_eq]; omega
  refine wpAny_pure ⟨_, rfl, .ref s1.heap.objs.size, upd H s1.heap.objs.size (.lst (ys.map V.str)), ?_, rfl, q ys _ (y2.trans pp) y3 no⟩
  have J : Inv X pins σ (upd H s1.heap.objs.size (.lst (ys.map V.str))) { s with heap := sortedHeap (s1.heap.push (seqObj "list" vs.toArray 0)) s1.heap.objs.size vs ((arrOf st').map (·.2)), gens := s1.gens, drawn := s1.drawn, toks := s1.toks } :=
    I.call (ch := []) (Un.laid keep hz no) (I.hok.laid keep hz ⟨len, ((arrOf st').map (·.2)).toList, c, vals_of_strs y1, hc2⟩) (by rw [g1]; exact I.bare) (fun _ z => nomatch z)
  have e1 : ({ s1 with heap := sortedHeap (s1.heap.push (seqObj "list" vs.toArray 0)) s1.heap.objs.size vs ((arrOf st').map (·.2)) } : Shared) = { s with heap := sortedHeap (s1.heap.push (seqObj "list" vs.toArray 0)) s1.heap.objs.size vs ((arrOf st').map (·.2)), gens := s1.gens, drawn := s1.drawn, toks := s1.toks } := by
    cases s1
    cases s
    cases o1
    rfl
  rw [← e1] at J
  exact J
end
/-! ### what sorted(set(..)) comes to -/
def ddS : List Str → List Str
  | [] => []
  | x :: l => if x ∈ l then ddS l else x :: ddS l
theorem ddS_mem : ∀ (l : List Str) (z : Str), z ∈ ddS l ↔ z ∈ l
  | [], z => Iff.rfl
  | x :: l, z => by
    have ih := ddS_mem l z
    unfold ddS
    split
    · rename_i h
      rw [ih, List.mem_cons]
      exact ⟨.inr, fun q => q.elim (fun e => e ▸ h) id⟩
    · rw [List.mem_cons, List.mem_cons, ih]
theorem ddS_nd : ∀ l : List Str, (ddS l).Nodup
  | [] => List.nodup_nil
  | x :: l => by
    unfold ddS
    split
    · exact ddS_nd l
    · rename_i h
      exact List.nodup_cons.mpr ⟨fun q => h ((ddS_mem l x).mp q), ddS_nd l⟩
theorem ddS_len : ∀ l : List Str, (ddS l).length ≤ l.length
  | [] => Nat.le_refl _
  | x :: l => by
    have := ddS_len l
    unfold ddS
    split <;> simp only [List.length_cons] <;> omega
def srtU (l : List Str) : List Str := sortS (ddS l)
theorem nd_len {l m : List Str} (h : l.Nodup) (sub : ∀ x ∈ l, x ∈ m) : l.length ≤ m.length := by
  induction l generalizing m with
  | nil => exact Nat.zero_le _
  | cons x l ih =>
    obtain ⟨h1, h2⟩ := List.nodup_cons.mp h
    have p := List.perm_cons_erase (sub x List.mem_cons_self)
    have := ih h2 (m := m.erase x) fun y hy => (List.mem_erase_of_ne fun e => h1 (by rw [← e]; exact hy)).mpr (sub y (List.mem_cons_of_mem _ hy))
    have := p.length_eq
    simp only [List.length_cons] at *
    omega
theorem srtU_one {l m ys : List Str} (nd : m.Nodup) (mm : ∀ z, z ∈ m ↔ z ∈ l) (p : ys.Perm m) (s : sortedS ys = true) : ys = srtU l := by
  have q : m.Perm (ddS l) := nodup_perm (ddS_nd l) (fun x hx => (mm x).mpr ((ddS_mem l x).mp hx)) (nd_len nd fun x hx => (ddS_mem l x).mpr ((mm x).mp hx))
  exact sortS_one (p.trans q) s
def usF (xs : List D) : Option D := match allS xs with
  | some ns => if ns.length < 1000 ∧ (ddS ns).length < 64 then some (.lst ((srtU ns).map .str)) else none
  | none => none
end Tw

namespace Tw
open PySem PySem.Spec PyProof.Rows L2 PySem.Froz PpSet
section
variable {X : Cx}
/-- one text more -/
theorem addX_ok {pins : List (Addr × Obj)} {σ : L2.St} {H : Hp} {s : Shared} {E : Value → Shared → Prop} {D : Addr} {l : List Str} {k : Str} {u : Tok} {Q : Value → Shared → Prop} (I : Inv X pins σ H s) (hD : H D = some (TxO X.prog X.w D l)) (few : l.length + 1 < scanBound)
    (q : ∀ s', Inv X pins σ (upd H D (TxO X.prog X.w D (if k ∈ l then l else k :: l))) s' → Q .none s') : wpAny (model X.prog X.w) X.A (call (.builtin "set.add") [.ref D, .str k u]) Q E s := by
  have r := txO_get I hD
  have ⟨D0, e0, _⟩ := r.ex
  have ty : s.TypeIs (.ref D) "set" := ⟨_, e0, rfl⟩
  refine wpAny_call_entry F.slot_set_add ty F.entry_set_add ?_ (F.args_set_add_2 _ _); unfold Builtin.«set.add» Builtin.Frozenset.oneOther
  simp only [List.isEmpty_nil, bind_assoc]; unfold Builtin.Frozenset.addrOf setAdd; refine wpAny_bind (wpAny_pure ?_); (try dsimp only); refine wpAny_bind (wpAny_pure ?_); (try dsimp only)
  refine wpAny_bind (wpAny_holding (wpAny_bind ((strKind X.prog X.w).pyHash (k := k) (is_str _ _) ?_)))
  refine tx_add (s := { s with toks := s.toks + 1 }) r few fun b h' sb r2 => ?_
  have ⟨D1, e1, _⟩ := r2.ex
  exact wpAny_pure ⟨_, rfl, q _ (I.write (e := D) (t' := s.toks + 1) (by rw [hD]; trivial) (.inl rfl) (fun b u hb hu => (sb.2 b hb).trans hu) ⟨_, e1⟩ (txO_new r2))⟩
/-- {elt for target in iter if ..}, elt a text -/
def tScX (P : Program) (w : World) (wi : TI) (g : TG) (tt : TT) (te : TE) (vs : List Nat) : TE := fun σ H Q => wi σ H fun J H1 => ∀ D, H1 D = none → ∃ W : Nat → Nat → Hp → Prop, (∃ m, W 0 m (upd H1 D (TxO P w D []))) ∧ ∀ i m H, W i m H →
  (J.stop i H ∧ Q (.ref D) H) ∨ (J.go i H ∧ ∃ Nx : Hp → Prop, (∀ H', Nx H' → ∃ m', m' < m ∧ W (i + 1) m' H') ∧ ∀ x H', J.yld i H x H' → g x (wipe σ vs) H' fun σ2 H2 => wipe σ2 vs = wipe σ vs ∧ tt σ2 H2 fun b H3 =>
    if b = true then te σ2 H3 fun y H4 => ∃ (k : Str) (l : List Str), y = .str k ∧ H4 D = some (TxO P w D l) ∧ l.length + 1 < scanBound ∧ Nx (upd H4 D (TxO P w D (if k ∈ l then l else k :: l))) else Nx H3)
abbrev newSO (w : World) : Obj := { cls := .type "set", dict := none, data := .set #[] 0 (.fresh 0 0 (!w.params.followText "set-order")) }
theorem pe_scX {elt tg iter : Expr} {ifs : List Expr} {scope : Scope} {own : List (Str × Nat)} {pos : Pos} {wi : TI} {g : TG} {tt : TT} {te : TE} (hc : X.calm = true) (hN : X.N.Nodup) (hi : PI X tg iter wi) (ok : BlkOk X.N X.env.scope scope own)
    (hg : ∀ (s : Shared) (H : Hp) (C : Addr) (cl : List (Str × Addr)) (fp : List Addr), PG (X.blk s H scope (compEnvC scope cl C X.env) fp) tg g) (ht : ∀ (s : Shared) (H : Hp) (C : Addr) (cl : List (Str × Addr)) (fp : List Addr), PTs (X.blk s H scope (compEnvC scope cl C X.env) fp) ifs tt)
    (he : ∀ (s : Shared) (H : Hp) (C : Addr) (cl : List (Str × Addr)) (fp : List Addr), PE (X.blk s H scope (compEnvC scope cl C X.env) fp) elt te) (hs : ∀ x, foldedSetIterable iter X.env x = pure x := by intro _; rfl) : PE X (.SetComp elt [⟨tg, iter, ifs, 0⟩] scope pos) (tScX X.prog X.w wi g tt te (own.map (·.2))) := by
  refine ⟨fun pins s σ H Q I h => ?_⟩
  rw [eval_SetComp]
  have fr : ∀ y ∈ scope.names, y.2 = .free → ∃ c, X.env.cells.lookup y.1 = some c := fun y hy e => (ok.free y hy e).elim (fun k => I.ok.has _ (.inl k)) fun k => I.ok.has _ (.inr k)
  refine wpAny_comprehension_free (use := none) rfl hs (closure_ok fr) ok.kind (fun y hy e => by rw [ok.uniq y hy, e]) (thn (hi.run pins s σ H _ I h) fun xv s1 hx => thn hx fun itv s2 ⟨it, fp, tn, J, H2, e, I2, T, st2, f2, q⟩ => ?_)
  subst e
  refine newSet_ok (newEnv_comp ?_)
  have dn : H2 s2.heap.objs.size = none := I2.hok.fresh (Nat.le_refl _)
  obtain ⟨W, ⟨m0, w0⟩, turn⟩ := q _ dn
  have I3 : Inv X pins σ (upd H2 s2.heap.objs.size (TxO X.prog X.w s2.heap.objs.size [])) { s2 with heap := s2.heap.push (newSO X.w) } :=
    I2.laid (t' := s2.toks) (fun b o e => Heap.get?_push_of_some _ e) (Nat.le_refl _) (txO_new (tx_fresh (Heap.get?_push_size _ rfl)))
  have st3 : tn 0 (s2.heap.push (newSO X.w)) := T.keep _ _ _ st2 fun b _ o e => Heap.get?_push_of_some _ e
  have f3 : ∀ b ∈ fp, FpOk X pins (upd H2 s2.heap.objs.size (TxO X.prog X.w s2.heap.objs.size [])) b ∧ b < (s2.heap.push (newSO X.w)).objs.size := fun b hb => by
    obtain ⟨o, e, _⟩ := T.obj _ _ st2 b hb
    have lt := Heap.lt_size e
    exact ⟨⟨by rw [upd_ne (Nat.ne_of_lt lt)]; exact (f2 b hb).1, (f2 b hb).2⟩, by rw [Heap.size_push]; exact Nat.lt_succ_of_lt lt⟩
  generalize s2.heap.objs.size = D at dn turn w0 I3 f3 ⊢
  generalize hs3 : ({ s2 with heap := s2.heap.push (newSO X.w) } : Shared) = s3 at I3
  have h3 : s3.heap = s2.heap.push (newSO X.w) := by rw [← hs3]
  rw [← h3] at st3 f3
  generalize upd H2 D (TxO X.prog X.w D []) = H3 at w0 I3 f3
  show codeAny (model X.prog X.w) X.A (.compStart (.SetComp elt [⟨tg, iter, ifs, 0⟩] scope pos) 0 (.ref it) (.ref D) (compEnvC scope (cellsFrom (s3.heap.objs.size + 1) scope.names (cloFrom X.env.cells scope.names [])) s3.heap.objs.size X.env)) (compPost (model X.prog X.w) X.A X.xe none (EP X pins σ Q) (.ref D) s3.heap.objs.size) { s3 with heap := pushCells (s3.heap.push { cls := .type "dict", data := .dict #[] }) scope.names }
  have I4 := block_start I3 ok hN f3
  have pg := hg s3 H3 s3.heap.objs.size (cellsFrom (s3.heap.objs.size + 1) scope.names (cloFrom X.env.cells scope.names [])) fp
  have pt := ht s3 H3 s3.heap.objs.size (cellsFrom (s3.heap.objs.size + 1) scope.names (cloFrom X.env.cells scope.names [])) fp
  have pe := he s3 H3 s3.heap.objs.size (cellsFrom (s3.heap.objs.size + 1) scope.names (cloFrom X.env.cells scope.names [])) fp
  generalize hce : compEnvC scope (cellsFrom (s3.heap.objs.size + 1) scope.names (cloFrom X.env.cells scope.names [])) s3.heap.objs.size X.env = ce at I4 pg pt pe
  have cL : ce.locals = s3.heap.objs.size := by subst hce; rfl
  generalize hs4 : ({ s3 with heap := pushCells (s3.heap.push { cls := .type "dict", data := .dict #[] }) scope.names } : Shared) = s4 at I4
  have st4 : tn 0 s4.heap := T.keep _ _ _ st3 fun b _ o e => by rw [← hs4]; exact pushCells_keeps _ _ _ _ (Heap.get?_push_of_some _ e)
  have stat : ∀ {σ' : L2.St} {H' : Hp} {s' : Shared}, Inv (X.blk s3 H3 scope ce fp) [] σ' H' s' → (∀ b ∈ fp, H' b = none) → ∀ b ∈ fp, FpOk (X.blk s3 H3 scope ce fp) [] H' b := fun I' hn b hb => ⟨hn b hb, (I'.ok.exf b hb).1, I'.ok.exfs b hb, .inl hb, fun x c e => (I'.ok.exf b hb).2 x c e, fun p hp => absurd (show p ∈ ([] : List (Addr × Obj)) ++ [] from hp) (by simp)⟩
  have goal : codeAny (model X.prog X.w) X.A (.compStart (.SetComp elt [⟨tg, iter, ifs, 0⟩] scope pos) 0 (.ref it) (.ref D) ce) (compPost (model X.prog X.w) X.A X.xe none (EP X pins σ Q) (.ref D) s3.heap.objs.size) s4 := by
    have loop : codeAny (model X.prog X.w) X.A (.compLoop (.SetComp elt [⟨tg, iter, ifs, 0⟩] scope pos) 0 (.ref it) (.ref D) ce) (compPost (model X.prog X.w) X.A X.xe none (EP X pins σ Q) (.ref D) s3.heap.objs.size) s4 := by
      refine compLoopS_any (fun n s' => ∃ i H', Inv (X.blk s3 H3 scope ce fp) [] (wipe σ (own.map (·.2))) H' s' ∧ tn i s'.heap ∧ (∀ b ∈ fp, H' b = none) ∧ W i n H') ?_ m0 ⟨0, H3, I4, st4, fun b hb => (f3 b hb).1.1, w0⟩
      rintro n s5 ⟨i, H5, I5, st5, n5, w5⟩
      rcases turn i n H5 w5 with ⟨stop, qq⟩ | ⟨go, Nx, hNx, step⟩
      · refine thnF (T.done (X.blk s3 H3 scope ce fp) rfl rfl rfl hc i [] s5 _ H5 (fun _ _ => False) I5 (stat I5 n5) st5 stop) fun r s6 ⟨hr, I6⟩ => ?_
        subst hr
        have I7 : Inv X pins σ H5 s6 := I3.call' (ch := fp) I6.os I6.base I6.hok I6.bare fun b hb => ⟨(f3 b hb).1.2.2.2.1, (f3 b hb).1.2.1, (f3 b hb).1.2.2.2.2.1, (f3 b hb).1.2.2.2.2.2⟩
        have nC : H5 s3.heap.objs.size = none := by rw [← cL]; exact I6.free
        obtain ⟨m, hn, _⟩ := I6.loc
        have hn2 : s6.heap.Ns s3.heap.objs.size m := by rw [← cL]; exact hn
        obtain ⟨a0, a1, a2, a3, a4, a5⟩ := I3.fpOk (Nat.le_refl _) nC
        exact ⟨m, hn2, fun h'' sb => ⟨.ref D, H5, I7.turned (t' := s6.toks) (fun b o hb e => (sb.2 b hb).trans e) a0 a1 a3 a4 a5, rfl, qq⟩⟩
      · refine thnF (T.item (X.blk s3 H3 scope ce fp) rfl rfl rfl hc i [] s5 _ H5 (fun _ _ => False) I5 (stat I5 n5) st5 go) fun r s6 ⟨u, hr, h6⟩ => ?_
        subst hr
        refine thnF h6 fun _ s7 ⟨x, H7, I7, r7, y7, st7, n7⟩ => thnF (pg.run _ s7 _ H7 x u _ (I7.pinned (stat I7 n7) (T.obj _ _ st7)) r7 (step x H7 y7)) fun _ s8 ⟨σ8, H8, I8, hw8, q8⟩ => thnF (pt.run _ s8 σ8 H8 _ I8 q8) fun b s9 ⟨H9, I9, q9⟩ => ?_
        have fin : ∀ {s' : Shared} {H' : Hp}, Inv (X.blk s3 H3 scope ce fp) ([] ++ pinsAt fp s7.heap) σ8 H' s' → Nx H' → ∃ m, m < n ∧ ∃ i H', Inv (X.blk s3 H3 scope ce fp) [] (wipe σ (own.map (·.2))) H' s' ∧ tn i s'.heap ∧ (∀ b ∈ fp, H' b = none) ∧ W i m H' := fun {s' H'} I' nx => by
          obtain ⟨m', hm, w'⟩ := hNx H' nx
          have pin : ∀ b ∈ fp, ∀ o, s7.heap.get? b = some o → s'.heap.get? b = some o ∧ H' b = none := fun b hb o e => let z := I'.pin (b, o) (List.mem_append_right _ (List.mem_append_right _ (mem_pinsAt hb e))); ⟨z.1, z.2.1⟩
          refine ⟨m', hm, i + 1, H', (I'.unpinned (pins := [])).weak (by rw [← hw8, wipe_length]) (fun j v e => ?_), T.keep _ _ _ st7 fun b hb o e => (pin b hb o e).1, fun b hb => let ⟨o, e, _⟩ := T.obj _ _ st7 b hb; (pin b hb o e).2, w'⟩
          rw [← hw8] at e
          exact (wipe_some e).1
        cases b with
        | false => exact fin I9 q9
        | true =>
          refine thnF (pe.run _ s9 σ8 H9 _ I9 q9) fun z s10 ⟨yv, H10, I10, r10, k, l, ey, hD, few, nx⟩ => ?_
          subst ey
          obtain ⟨t, rfl⟩ := r10
          exact addX_ok (X := X.blk s3 H3 scope ce fp) I10 hD few fun s11 I11 => fin I11 nx
    exact codeAny_compStart_set loop (T.self X.A 0 _ _ _ st4 loop)
  exact goal
end
end Tw

namespace Tw
open PySem PySem.Spec PyProof.Rows L2
/-! ### sorted(set(xs)), sorted({..}): texts -/
theorem strs_rvs {K : Pm} (W : Wd) (H : Hp) : ∀ l : List Str, Rvs K W H (l.map V.str) (l.map D.str)
  | [] => .nil
  | z :: l => .cons (.str z) (strs_rvs W H l)
theorem usF_eq {xs : List D} {d : D} (h : usF xs = some d) : ∃ ns, allS xs = some ns ∧ ns.length < 1000 ∧ (ddS ns).length < 64 ∧ d = .lst ((srtU ns).map .str) := by
  unfold usF at h
  split at h
  · rename_i ns e
    split at h
    · rename_i hc
      cases h
      exact ⟨ns, e, hc.1, hc.2, rfl⟩
    · cases h
  · cases h
section
variable {X : Cx} {We : WE'}
theorem sortT_end {K : Pm} {W : Wd} {H : Hp} {Da : Addr} {l ns : List Str} {Q : VK} {d : D} {G' : List O} (hD : H Da = some (TxO K.P K.w Da l)) (nd : l.Nodup) (mm : ∀ z, z ∈ l ↔ z ∈ ns) (few : (ddS ns).length < 64) (g : Gr K W H) (eg : W.G = G') (ed : d = .lst ((srtU ns).map .str))
    (q : ∀ v H', Ext W H W H' → Gr K W H' → Rv K W H' v d → Q v H') : rSortT K.P K.w [.ref Da] H Q := by
  have le : l.length ≤ (ddS ns).length := nd_len nd fun x hx => (ddS_mem ns x).mpr ((mm x).mp hx)
  refine ⟨Da, l, rfl, hD, by omega, fun ys p pm sy np => ?_⟩
  obtain ⟨g2, x2, r2⟩ := lst_new g (strs_rvs W H ys) np
  have ey := srtU_one nd mm pm sy
  refine q _ _ x2 g2 ?_
  rw [ed, ← ey]
  exact r2
theorem cd_us : CallD (Cxp X) (fun vs H Q => rSetL X.K X.prog X.w vs H fun x H1 => rSortT X.prog X.w [x] H1 Q) (lP usF) := fun W H vs ds d G' Q g r e p => by
  obtain ⟨x, xs, rfl, h1, h2, rfl⟩ := lP_eq e
  obtain ⟨ns, e1, n1, n2, ed⟩ := usF_eq h2
  cases r with
  | cons h r =>
    cases r
    obtain ⟨a, ws, rfl, sq, q⟩ := inL_sq g h h1
    have ew := allS_rv e1 q
    subst ew
    refine ⟨a, ns, rfl, sq, n1, fun p0 m lm nd mm np => ?_⟩
    have g1 : Gr (Cxp X) W (upd H p0 (TxO X.prog X.w p0 m)) := g.laid np
    have x1 : Ext W H W (upd H p0 (TxO X.prog X.w p0 m)) := Ext.laid np
    exact sortT_end (K := Cxp X) upd_same nd mm n2 g1 rfl ed fun v H' x2 g2 r2 => p W v H' rfl (x1.trans x2) g2 r2
theorem te_us {p p2 pos pos2 : Pos} {e : Expr} {es : List Expr} {da : En → M (List D)} (hc : X.calm = true) (hg : Gl X "sorted") (hm : X.mg "sorted" = none) (hg2 : Gl X "set") (hm2 : X.mg "set" = none) (ha : PA X (e :: es) (upA (Cxp X) We da))
    (he : starEach (e :: es) X.env = (false, eval e X.env) :: starEach es X.env := by rfl) (hpl : (backTo pos2 (starEach es X.env)).any (·.1) = false := by rfl) :
    PE X (.Call (.Name "sorted" p) [.Call (.Name "set" p2) (e :: es) [] pos2] [] pos) (upE (Cxp X) We (dCall (lP usF) da)) :=
  PE.imp (pe_callB (cr_sortT hc) hg hm (by decide +kernel) (pa_cons (pe_callTy (cr_setL hc) hg2 hm2 (by decide +kernel) ha (he := he) (hpl := hpl)) pa_nil)) fun σ H Q h => call_up cd_us h
/-- .. of what a comprehension tells -/
def dSsc (di : En → M (List D)) (g : D → En → P1 En) (t : En → M Bool) (a : En → M D) (own : List Nat) : En → M D := fun ρ => bnd (di ρ) fun ds => bndN (lcL g t a (wipeD ρ own) ds) fun ys => lft (pur (usF ys))
structure LsI (K : Pm) (W0 : Wd) (H0 : Hp) (Da : Addr) (W1 : Wd) (H1 : Hp) (acc : List Str) : Prop where
  x : Ext W0 H0 W1 H1
  g : Gr K W1 H1
  b : Da ∈ W1.B
  v : ∃ l, H1 Da = some (TxO K.P K.w Da l) ∧ l.length ≤ acc.length ∧ l.Nodup ∧ ∀ z, z ∈ l ↔ z ∈ acc
theorem LsI.step {K : Pm} {W0 W1 W2 : Wd} {H0 H1 H2 : Hp} {Da : Addr} {acc : List Str} (i : LsI K W0 H0 Da W1 H1 acc) (x : Ext W1 H1 W2 H2) (g : Gr K W2 H2) : LsI K W0 H0 Da W2 H2 acc := by
  obtain ⟨l, h, r⟩ := i.v
  refine ⟨i.x.trans x, g, x.b _ i.b, l, (x.keep Da _ h fun c => ?_).1, r⟩
  obtain ⟨m, o, h1, _⟩ := c
  exact i.g.dis Da i.b (List.mem_of_getElem? h1)
theorem LsI.more {K : Pm} {W0 W1 : Wd} {H0 H1 : Hp} {Da : Addr} {acc : List Str} (i : LsI K W0 H0 Da W1 H1 acc) (n : H0 Da = none) (k : Str) :
    ∃ l, H1 Da = some (TxO K.P K.w Da l) ∧ l.length ≤ acc.length ∧ LsI K W0 H0 Da W1 (upd H1 Da (TxO K.P K.w Da (if k ∈ l then l else k :: l))) (acc ++ [k]) := by
  obtain ⟨l, h, ll, nd, mm⟩ := i.v
  have nt : ∀ ws, H1 Da ≠ some (.tup ws) := fun ws e => by rw [h] at e; cases e
  have nf : ∀ o u, H1 Da ≠ some (.frz o u) := fun o u e => by rw [h] at e; cases e
  refine ⟨l, h, ll, i.x.off n, i.g.off i.b nt nf, i.b, _, upd_same, ?_, ?_, fun z => ?_⟩
  · split <;> simp <;> omega
  · split
    · exact nd
    · rename_i hk
      exact List.nodup_cons.mpr ⟨hk, nd⟩
  · rw [List.mem_append, List.mem_singleton, ← mm z]
    split
    · rename_i hk
      exact ⟨.inl, fun q => q.elim id fun e => e ▸ hk⟩
    · rw [List.mem_cons]
      exact ⟨Or.symm, Or.symm⟩
theorem LsI.start {K : Pm} {W0 : Wd} {H0 : Hp} {Da : Addr} (g : Gr K W0 H0) (n : H0 Da = none) : LsI K W0 H0 Da (W0.ban Da) (upd H0 Da (TxO K.P K.w Da [])) [] :=
  ⟨Ext.ban n, g.ban n, List.mem_cons_self, [], upd_same, Nat.le_refl _, List.nodup_nil, fun _ => Iff.rfl⟩
theorem allS_app : ∀ {xs ys : List D} {ns : List Str}, allS (xs ++ ys) = some ns → ∃ a b, allS xs = some a ∧ allS ys = some b ∧ ns = a ++ b
  | [], ys, ns, h => ⟨[], ns, rfl, h, rfl⟩
  | .str z :: xs, ys, ns, h => by
    have h1 : (allS (xs ++ ys)).map (z :: ·) = some ns := h
    cases q : allS (xs ++ ys) with
    | none => rw [q] at h1; cases h1
    | some ms =>
      rw [q] at h1
      cases h1
      obtain ⟨a, b, e1, e2, rfl⟩ := allS_app q
      refine ⟨z :: a, b, ?_, e2, rfl⟩
      show (allS xs).map (z :: ·) = _
      rw [e1]
      rfl
theorem allS_cons {y : D} {ys : List D} {b : List Str} (h : allS (y :: ys) = some b) : ∃ z r, y = .str z ∧ allS ys = some r ∧ b = z :: r := by
  cases y with
  | str z =>
    have h1 : (allS ys).map (z :: ·) = some b := h
    cases q : allS ys with
    | none => rw [q] at h1; cases h1
    | some r =>
      rw [q] at h1
      cases h1
      exact ⟨z, r, rfl, rfl, rfl⟩
  | _ => cases h
theorem ssc_up {tgr : TG} {di : En → M (List D)} {g : D → En → P1 En} {t : En → M Bool} {a : En → M D} {own : List Nat} (hgr : GRaw (Cxp X) tgr g own) {σ : L2.St} {H : Hp} {Q : VK} (h : upE (Cxp X) We (dSsc di g t a own) σ H Q) :
    tScX X.prog X.w (upI (Cxp X) We di) tgr (upT (Cxp X) WeF t) (upE (Cxp X) WeF a) own σ H fun x H1 => rSortT X.prog X.w [x] H1 Q := by
  obtain ⟨W, ρ, r, G', hR, e, p⟩ := h
  unfold dSsc bnd at e
  split at e
  · rename_i ds G1 he
    refine ⟨W, ρ, .inr ds, G1, hR, he, fun W0 H0 eg0 x0 g0 J wd Da nD => ?_⟩
    obtain ⟨Gd, Y, wk, st, yl⟩ := wd.ex
    rw [← eg0] at e
    obtain ⟨ys, Gx, e1, e2⟩ := bndN_eq e
    obtain ⟨d, er, e3, eG⟩ : ∃ d, r = .inr d ∧ usF ys = some d ∧ Gx = G' := by
      unfold lft pur at e2
      cases q : usF ys with
      | none => rw [q] at e2; cases e2
      | some d => rw [q] at e2; cases e2; exact ⟨d, rfl, rfl, rfl⟩
    obtain ⟨ns, q1, q2, q3, q4⟩ := usF_eq e3
    have R0 := (hR.keep g0 x0).wipe own
    refine walk_it wk (fun i H1 => ∃ (W1 : Wd) (acc : List Str) (zs : List D) (b : List Str), LsI (Cxp X) W0 H0 Da W1 H1 acc ∧ lcL g t a (wipeD ρ own) (ds.drop i) W1.G = some (.inr zs, Gx) ∧ allS zs = some b ∧ ns = acc ++ b) ⟨W0.ban Da, [], ys, ns, LsI.start g0 nD, by rw [List.drop_zero]; exact e1, q1, rfl⟩
      (fun i H1 _ ⟨W1, acc, zs, b, I, _⟩ => st W1 H1 I.x.w I.g) (fun i v H1 H2 hi ⟨W1, acc, zs, bb, I, e5, qb, qn⟩ y => ?_) fun H1 ⟨W1, acc, zs, bb, I, e5, qb, qn⟩ => ?_
    · obtain ⟨d0, hd, g2, x2, rv⟩ := yl i W1 H1 v H2 hi I.x.w I.g y
      have ed : ds.drop i = d0 :: ds.drop (i + 1) := by
        obtain ⟨hl, hv⟩ := List.getElem?_eq_some_iff.mp hd
        rw [List.drop_eq_getElem_cons hl, hv]
      rw [ed] at e5
      unfold lcL at e5
      obtain ⟨ρ1, G2, e7, e8⟩ := bndN_eq e5
      have e7' := lft_eq e7
      have I2 := I.step x2 g2
      refine hgr W1 _ _ H2 v d0 ρ1 G2 _ (R0.keep g2 I2.x) rv e7' fun σ2 eg2 R2 hw => ⟨hw.trans (wipe_wipe σ own), ?_⟩
      subst eg2
      obtain ⟨b, G3, e9, e10⟩ := bndN_eq e8
      refine ⟨W1, ρ1, .inr b, G3, R2, e9, fun W4 b' H4 eg4 x4 g4 hb => ?_⟩
      cases hb
      rw [← eg4] at e10
      have I4 := I2.step x4 g4
      cases b with
      | false => exact iteF ⟨W4, acc, zs, bb, I4, e10, qb, qn⟩
      | true =>
        rw [if_pos rfl] at e10
        obtain ⟨y1, G5, e11, e12⟩ := bndN_eq e10
        have R4 := R2.keep g4 x4
        refine iteT ⟨W4, ρ1, .inr y1, G5, R4, e11, fun W6 v6 H6 eg6 x6 g6 r6 => ?_⟩
        rw [← eg6] at e12
        obtain ⟨zs1, G7, e13, e14⟩ := bndN_eq e12
        cases e14
        obtain ⟨k, r0, rfl, qr, rfl⟩ := allS_cons qb
        have I6 := I4.step x6 g6
        cases r6
        obtain ⟨l, hl, ll, I9⟩ := I6.more nD k
        have bound : l.length + 1 < scanBound := by
          have := congrArg List.length qn
          simp only [List.length_append, List.length_cons] at this
          unfold scanBound
          omega
        exact ⟨k, l, rfl, hl, bound, W6, acc ++ [k], zs1, r0, I9, e13, qr, by rw [qn]; simp⟩
    · rw [List.drop_length] at e5
      unfold lcL at e5
      cases e5
      cases qb
      rw [List.append_nil] at qn
      subst qn
      obtain ⟨l, h, ll, nd, mm⟩ := I.v
      have xe : Ext W0 H0 (W1.bans W0.B) H1 := I.x.bans I.x.b fun _ h => h
      have ge : Gr (Cxp X) (W1.bans W0.B) H1 := I.g.bans I.x.b
      cases er
      exact sortT_end (K := Cxp X) h nd mm q3 ge rfl q4 fun v H' x2 g2 r2 => p (W1.bans W0.B) v H' eG (x0.trans (xe.trans x2)) g2 r2
  · rename_i er G1 he
    cases e
    exact ⟨W, ρ, .inl er, _, hR, he, p⟩
  · cases e
theorem te_ssc {tg iter elt : Expr} {ifs : List Expr} {scope : Scope} {own : List (Str × Nat)} {p pos pos2 : Pos} {tgr : TG} {di : En → M (List D)} {g : D → En → P1 En} {t : En → M Bool} {a : En → M D} (hc : X.calm = true) (hN : X.N.Nodup) (hgl : Gl X "sorted") (hm : X.mg "sorted" = none) (hi : PI X tg iter (upI (Cxp X) We di)) (ok : BlkOk X.N X.env.scope scope own)
    (hgr : GRaw (Cxp X) tgr g (own.map (·.2))) (hg : ∀ (s : Shared) (H : Hp) (C : Addr) (cl : List (Str × Addr)) (fp : List Addr), PG (X.blk s H scope (compEnvC scope cl C X.env) fp) tg tgr)
    (ht : ∀ (s : Shared) (H : Hp) (C : Addr) (cl : List (Str × Addr)) (fp : List Addr), PTs (X.blk s H scope (compEnvC scope cl C X.env) fp) ifs (upT (Cxp X) WeF t))
    (he : ∀ (s : Shared) (H : Hp) (C : Addr) (cl : List (Str × Addr)) (fp : List Addr), PE (X.blk s H scope (compEnvC scope cl C X.env) fp) elt (upE (Cxp X) WeF a)) (hs : ∀ x, foldedSetIterable iter X.env x = pure x := by intro _; rfl) :
    PE X (.Call (.Name "sorted" p) [.SetComp elt [⟨tg, iter, ifs, 0⟩] scope pos2] [] pos) (upE (Cxp X) We (dSsc di g t a (own.map (·.2)))) :=
  PE.imp (pe_callB (cr_sortT hc) hgl hm (by decide +kernel) (pa_cons (pe_scX hc hN hi ok hg ht he hs) pa_nil)) fun σ H Q h => ssc_up (We := We) hgr h
end
end Tw

namespace Tw
open PySem PySem.Spec PyProof.Rows L2
/-! ### a list that holds objects of ours: these are frozen -/
def frzs : List D → P1 (List D)
  | [], G => some ([], G)
  | .ref n :: r, G => match frzD (.ref n) G with
    | some (t, G1) => (frzs r G1).map fun z => (t :: z.1, z.2)
    | none => none
  | d :: r, G => (frzs r G).map fun z => (d :: z.1, z.2)
def frzLD (d : D) : P1 D := fun G => match d with
  | .lst xs => (frzs xs G).map fun z => (.lst z.1, z.2)
  | _ => none
theorem frzs_ok {K : Pm} : ∀ {xs : List D} {W : Wd} {H : Hp} {vs : List V} {ys : List D} {G' : List O}, Gr K W H → Rvs K W H vs xs → frzs xs W.G = some (ys, G') → ∃ W', W'.G = G' ∧ Ext W H W' H ∧ Gr K W' H ∧ Rvs K W' H vs ys := by
  intro xs
  induction xs with
  | nil =>
    intro W H vs ys G' g r e
    cases e
    cases r
    exact ⟨W, rfl, Ext.refl, g, .nil⟩
  | cons d xs ih =>
    intro W H vs ys G' g r e
    cases r with
    | cons h r =>
      have other : (frzs xs W.G).map (fun z => (d :: z.1, z.2)) = some (ys, G') → ∃ W', W'.G = G' ∧ Ext W H W' H ∧ Gr K W' H ∧ Rvs K W' H _ ys := fun e => by
        cases q : frzs xs W.G with
        | none => rw [q] at e; cases e
        | some z =>
          obtain ⟨zs, G1⟩ := z
          rw [q] at e
          cases e
          obtain ⟨W', e1, x1, g1, r1⟩ := ih g r q
          exact ⟨W', e1, x1, g1, .cons (h.keep g x1) r1⟩
      cases d with
      | ref n =>
        unfold frzs at e
        cases q : frzD (.ref n) W.G with
        | none => rw [q] at e; cases e
        | some z =>
          obtain ⟨t, G1⟩ := z
          rw [q] at e
          dsimp only at e
          obtain ⟨W1, e1, x1, g1, r1⟩ := frz_ok g h q
          rw [← e1] at e
          cases q2 : frzs xs W1.G with
          | none => rw [q2] at e; cases e
          | some z =>
            obtain ⟨zs, G2⟩ := z
            rw [q2] at e
            cases e
            obtain ⟨W2, e2, x2, g2, r2⟩ := ih g1 (r.keep g x1) q2
            exact ⟨W2, e2, x1.trans x2, g2, .cons (r1.keep g1 x2) r2⟩
      | _ => exact other e
theorem frzLD_ok {K : Pm} {W : Wd} {H : Hp} {v : V} {d t : D} {G' : List O} (g : Gr K W H) (r : Rv K W H v d) (e : frzLD d W.G = some (t, G')) : ∃ W', W'.G = G' ∧ Ext W H W' H ∧ Gr K W' H ∧ Rv K W' H v t := by
  unfold frzLD at e
  split at e
  · rename_i xs
    cases q : frzs xs W.G with
    | none => rw [q] at e; cases e
    | some z =>
      obtain ⟨zs, G1⟩ := z
      rw [q] at e
      cases e
      cases r with
      | lst h n rs =>
        obtain ⟨W', e1, x1, g1, r1⟩ := frzs_ok g rs q
        obtain ⟨k1, k2⟩ := L.keep x1 h n
        exact ⟨W', e1, x1, g1, .lst k1 k2 r1⟩
  · cases e
def sFrzL (i : Nat) (s : En → M Out) : En → M Out := fun ρ => bnd (dV i ρ) fun d => bnd (lft (frzLD d)) fun t => s (ρ.set i (some t))
theorem ts_frzL {X : Cx} {We : WE'} {sts : List Stmt} {s : En → M Out} (i : Nat) (h : PSs X sts (ups (Cxp X) We s)) : PSs X sts (ups (Cxp X) We (sFrzL i s)) := PSs.imp h fun D0 σ H q => by
  obtain ⟨W, ρ, r, G', hR, e1, p⟩ := q
  unfold sFrzL dV at e1
  obtain ⟨d, G2, e2, e3⟩ := bnd_lft e1
  obtain ⟨e2, eg⟩ := pur_eq e2
  subst eg
  have e' : ρ[i]? = some (some d) := by
    revert e2
    split
    · rename_i d' he
      intro z; cases z; exact he
    · intro z; cases z
  obtain ⟨v, hv, rv⟩ := hR.var i d e'
  obtain ⟨t, G3, e4, e5⟩ := bnd_lft e3
  obtain ⟨W', eg', x', g', r'⟩ := frzLD_ok hR.gr rv e4
  have R' := (hR.keep g' x').set r' i
  have es : σ.set i (some v) = σ := by
    apply List.ext_getElem?
    intro j
    by_cases h : i = j
    · subst h
      rw [List.getElem?_set_self (List.getElem?_eq_some_iff.mp hv).1, hv]
    · rw [List.getElem?_set_ne h]
  rw [es] at R'
  exact ⟨W', _, r, G', R', by rw [eg']; exact e5, p.mono x'⟩
/-! ### enumerate over a list or a tuple -/
def enumQ : List D → Option (List D)
  | [.tup xs] => enumT1 [.tup xs]
  | l => enum1 l
theorem enumQ_ne {ds : List D} (h : ¬ ∃ xs, ds = [.tup xs]) : enumQ ds = enum1 ds := by
  unfold enumQ
  split
  · exact absurd ⟨_, rfl⟩ h
  · rfl
section
variable {X : Cx} {We : WE'}
theorem ti_enumQ {a : Expr} {ta : En → M (List D)} {p pos tpos : Pos} {elts : List Expr} {kk : Nat} (hg : Gl X "enumerate") (hm : X.mg "enumerate" = none) (ha : PA X [a] (upA (Cxp X) We ta)) (hs : starEach [a] X.env = [(false, eval a X.env)] := by rfl) :
    PI X (.Tuple elts kk tpos) (.Call (.Name "enumerate" p) [a] [] pos) (upI (Cxp X) We (dRng enumQ ta)) := pi_either (ti_enumT hg hm ha hs) (ti_enum hg hm ha hs) fun σ H R h => by
  obtain ⟨W, ρ, r, G', hR, e1, p⟩ := h
  rcases up_alt (B := Unit) (K := Cxp X) (f1 := enumT1) (f2 := enum1) (W := W) e1 fun d => (Classical.em (∃ xs, d = [.tup xs])).elim (fun ⟨xs, k⟩ => .inl (by rw [k]; rfl)) fun k => .inr (enumQ_ne k) with z | z
  · exact .inl ⟨W, ρ, r, G', hR, z, p⟩
  · exact .inr ⟨W, ρ, r, G', hR, z, p⟩
end
/-! ### dict(xs), xs a list of pairs -/
def dictLF : List D → P1 D := fun ds G => match ds with
  | [x] => match (inL x G).bind pairsO with
    | some kvs => some (.dct (mergeD [] kvs), G)
    | none => none
  | _ => none
theorem cd_dictL {X : Cx} : CallD (Cxp X) (fun xs H Q => ∃ (a : Addr) (ps : List Addr) (kvs : List (Key × V)), xs = [.ref a] ∧ SqL X.K H a (ps.map V.ref) ∧ Paired (fun p kv => SqT X.K H p [kV kv.1, kv.2]) ps kvs ∧ ∀ p, H p = none → Q (.ref p) (upd H p (.dK (mergeK [] kvs)))) dictLF := fun W H vs ds d G' Q g r e p => by
  unfold dictLF at e
  split at e
  · rename_i x
    cases h1 : inL x W.G with
    | none => rw [h1] at e; cases e
    | some xs =>
      rw [h1] at e
      cases h2 : pairsO xs with
      | none =>
        simp only [Option.bind_some, h2] at e
        cases e
      | some kvs =>
        simp only [Option.bind_some, h2] at e
        cases e
        cases r with
        | cons h r =>
          cases r
          obtain ⟨a, ws, rfl, sq, q⟩ := inL_sq g h h1
          obtain ⟨ps, qs, rfl, pq, kq⟩ := pairs_v q h2
          refine ⟨a, ps, qs, rfl, sq, pq, fun l n => ?_⟩
          have x : Ext W H W (upd H l (.dK (mergeK [] qs))) := Ext.laid n
          exact p W _ _ rfl x (g.laid n) (.dct (.inl upd_same) (fresh_L g n) ((Drk.merge kq .nil).keep g x))
  · cases e
end Tw

namespace K02
open PySem PySem.Spec PyProof.Rows L2 Tw
def top (i : Nat) : Stmt := PySem.Challenge.pw_giveways_k02_parts_of_houses.main.body.getD i (.Pass ⟨0, 0, 0, 0⟩)
abbrev s_l_cells : Stmt := top 33
abbrev s_l_lists : Stmt := top 37
abbrev s_l_same : Stmt := top 36
abbrev s_task_names : Stmt := top 14
abbrev s_naming_marks : Stmt := top 12
abbrev s_queue_names : Stmt := top 15
abbrev s_signal_names : Stmt := top 16
abbrev s_first_tasks : Stmt := top 17
abbrev s_tupled : Stmt := top 6
abbrev s_row_of : Stmt := top 18
abbrev s_script_of : Stmt := top 19
abbrev s_group_of : Stmt := top 20
abbrev s_starter_of : Stmt := top 24
abbrev s_host_of : Stmt := top 25
abbrev s_hosts_above : Stmt := top 28
abbrev s_tasks_in : Stmt := top 26
abbrev s_closer_of : Stmt := top 27
abbrev s_step_of : Stmt := top 21
abbrev s_depths : Stmt := top 11
abbrev s_shields_at : Stmt := top 22
abbrev s_l_heard : Stmt := top 40
abbrev s_room_of : Stmt := top 29
abbrev s_all_marks : Stmt := top 23
abbrev s_l_by_hand_right : Stmt := top 41
abbrev s_l_take : Stmt := top 32
abbrev s_l_pick : Stmt := top 35
abbrev s_l_of : Stmt := top 34
abbrev s_l_script : Stmt := top 38
abbrev s_l_house : Stmt := top 39
abbrev s_l_right : Stmt := top 42
abbrev s_l_box : Stmt := top 31
abbrev s_law : Stmt := top 43
def leaves : List Str := ["NoGroup", "NoStep", "NoTask"]
def tab_name : List Str := ["NoGroup", "NoTask"]
def tab_number : List Str := ["NoStep"]
def tab_isx (c : Str) : D → Option Bool
  | .cls m => if leaves.contains c = true then (if (m == "HouseError") = true then some true else none) else none
  | _ => none
def tab_exm (c m : Str) : Option Bool := if (leaves.contains c && leaves.contains m) = true then some (c == m) else none
structure Tx (P : Program) (w : World) (K : PySem.W.Frag) (mg : Str → Option Value) (base : Heap) : Prop where
  f_isinstance : mg "isinstance" = none
  f_list : mg "list" = none
  f_tuple : mg "tuple" = none
  f_enumerate : mg "enumerate" = none
  f_sorted : mg "sorted" = none
  f_set : mg "set" = none
  f_len : mg "len" = none
  f_range : mg "range" = none
  f_abs : mg "abs" = none
  f_int : mg "int" = none
  f_min : mg "min" = none
  f_all : mg "all" = none
  f_bool : mg "bool" = none
  f_str : mg "str" = none
  f_zip : mg "zip" = none
  f_dict : mg "dict" = none
  f_sum : mg "sum" = none
  c_NoGroup : ∃ C, mg "NoGroup" = some (.ref C)
  c_NoStep : ∃ C, mg "NoStep" = some (.ref C)
  c_NoTask : ∃ C, mg "NoTask" = some (.ref C)
  c_HouseError : ∃ C, mg "HouseError" = some (.ref C)
  a_name : XAt K mg tab_name "name"
  a_number : XAt K mg tab_number "number"
  isx : XIs K mg tab_isx
  exm : XEx K mg tab_exm
  x_NoGroup : XM P w K mg base "NoGroup" "name"
  x_NoStep : XM P w K mg base "NoStep" "number"
  x_NoTask : XM P w K mg base "NoTask" "name"
  t_QUEUE_WORDS : ∃ a, mg "QUEUE_WORDS" = some (.ref a) ∧ ∀ (W : Wd) (H : Hp), Rv ⟨K, P, w, mg⟩ W H (.ref a) (.tup [.str "put", .str "get"])
  t_SIGNAL_WORDS : ∃ a, mg "SIGNAL_WORDS" = some (.ref a) ∧ ∀ (W : Wd) (H : Hp), Rv ⟨K, P, w, mg⟩ W H (.ref a) (.tup [.str "set", .str "hear"])
  t_CLOSING_WORDS : ∃ a, mg "CLOSING_WORDS" = some (.ref a) ∧ ∀ (W : Wd) (H : Hp), Rv ⟨K, P, w, mg⟩ W H (.ref a) (.tup [.str "close", .str "catch"])
abbrev FnP (K : PySem.W.Frag) (x : Str) (st : Stmt) (f : Addr) (fd : FuncData) : Prop := FunD K x x (defArgs st) (defBody st) (defScope st) [] [] f fd
/-! ### _law_cells -/
def N_l_cells : List Str := ["_law_script_here", "_law_top_so", "_law_cells_so", "_law_k", "_law_cell", "_law_at_so"]
theorem sc_l_cells : FnScope N_l_cells ["_law_script_here", "_law_top_so"] (defScope s_l_cells) := ⟨rfl, rfl, rfl, by decide +kernel, rfl, by decide +kernel, by decide +kernel⟩
def ds_l_cells : En → M Out := (dSeq (dAsg (dOr (dCall (listP newL) (dCons (dSl (dV 0) dNoP (dP (dV 1))) dNil)) (dLstM (dCons (dC (.int 0)) dNil))) (gN 2)) (dSeq (dFor (dRng enum1 (dCons (dSl (dV 0) (dP (dV 1)) (dP (dC (.int 63)))) dNil)) (gT 2 (gsCons (gN 3) (gsCons (gN 4) gsNil))) (dSeq (dAsg (d2 (pur2 modO) (dCall (pur1 intF) (dCons (dV 3) dNil)) (dV 1)) (gN 5)) (dAsg (d2 (pur2 addO) (d2 ixO (dV 2) (dV 5)) (d2 (pur2 mulO) (dV 4) (d2 (pur2 addO) (dV 3) (dC (.int 2))))) (gSubD (dV 2) (dV 5) setF)))) (dRet (dFrz (dV 2)))))
def F_l_cells : List D → M D := runD N_l_cells.length ds_l_cells
theorem ok_l_cells {P : Program} {w : World} {K : PySem.W.Frag} {mg : Str → Option Value} {base : Heap} {f : Addr} {fd : FuncData} (T : Tx P w K mg base)  (F : FnP K "_law_cells" s_l_cells f fd) : FnOk P w K mg base CX0 1 f fd ["_law_script_here", "_law_top_so"] (spF ⟨K, P, w, mg⟩ Xo0 2 F_l_cells) := by
  refine fn_tw (k := 0) F sc_l_cells fun cdv A outer s H E hr => ?_
  have nd := sc_l_cells.nd
  exact (ts_cons (tS_asg (te_or (te_ty call_list_of cd_listM rfl T.f_list (by decide +kernel) (ta_cons (te_sl (te_v 0) to_none (to_some (te_v 1))) ta_nil)) (te_one (te_lstM (ta_cons te_int ta_nil)))) (tg_n (i := 2) nd)) (ts_cons (tS_for PassesOwn.never rfl (ti_enum rfl T.f_enumerate (ta_cons (te_sl (te_v 0) (to_some (te_v 1)) (to_some te_int)) ta_nil)) (tg_t rfl (tgs_cons (tg_n (i := 3) nd) (tgs_cons (tg_n (i := 4) nd) tgs_nil))) (ts_cons (tS_asg (te_op op_mod opd_mod (te_ty call_int1 cd_int rfl T.f_int (by decide +kernel) (ta_cons (te_v 3) ta_nil)) (te_v 1)) (tg_n (i := 5) nd)) (ts_one (tS_asg (te_op op_addA opd_add (te_ix ix_seq opd_ix (te_v 2) (te_v 5) (fun _ _ => rfl)) (te_op op_mul opd_mul (te_v 4) (te_op op_addA opd_add (te_v 3) te_int))) (tg_set (te_v 2) (te_v 5) (t := pg_sub (te_v 2) (te_v 5) set_list)))))) (ts_one (tS_ret (te_frz (te_v 2))))))
/-! ### _law_lists -/
def N_l_lists : List Str := ["_law_matter", "_law_bit"]
theorem sc_l_lists : FnScope N_l_lists ["_law_matter"] (defScope s_l_lists) := ⟨rfl, rfl, rfl, by decide +kernel, rfl, by decide +kernel, by decide +kernel⟩
def ds_l_lists (R : List D → M D) : En → M Out := (dRet (dIf (dTest (dCall isiTF (dCons (dV 0) (dCons (dTup (dCons (dC (.ty "list")) (dCons (dC (.ty "tuple")) dNil))) dNil)))) (dLc (dItQ (dV 0)) (gN 1) dYes (dFp R (dCons (dV 1) dNil)) [1]) (dV 0)))
def F_l_lists : Nat → List D → M D
  | 0 => fun _ _ => none
  | n + 1 => runD N_l_lists.length (ds_l_lists (F_l_lists n))
theorem ok_l_lists {P : Program} {w : World} {K : PySem.W.Frag} {mg : Str → Option Value} {base : Heap} {f : Addr} {fd : FuncData} (T : Tx P w K mg base) {R : List D → M D} {k : Nat} (C_R : Cal P w K mg base k "_law_lists" 1 R) (F : FnP K "_law_lists" s_l_lists f fd) : FnOk P w K mg base CX0 (k + 1) f fd ["_law_matter"] (spF ⟨K, P, w, mg⟩ Xo0 1 (runD N_l_lists.length (ds_l_lists R))) := by
  refine fn_tw (k := k) F sc_l_lists fun cdv A outer s H E hr => ?_
  have nd := sc_l_lists.nd
  exact (ts_one (tS_ret (te_if (tt_val (te_blt call_isiA cd_isiT rfl T.f_isinstance boot_isinstance (ta_cons (te_v 0) (ta_cons (te_tup (ta_cons (te_bty rfl T.f_list (by decide +kernel)) (ta_cons (te_bty rfl T.f_tuple (by decide +kernel)) ta_nil))) ta_nil)))) (by exact te_lc (own := [(("_law_bit" : Str), 1)]) rfl nd (by exact (ti_q (te_v 0))) (blkOk_by (N := N_l_lists) (sc := defScope s_l_lists) (own := [(("_law_bit" : Str), 1)]) (by decide +kernel)) (raw_n (by decide)) (fun _ _ _ _ _ => by exact (pg_name (i := 1) nd rfl (by first | exact Or.inl rfl | exact Or.inr rfl))) (fun _ _ _ _ _ => by exact tts_nil) (fun _ _ _ _ _ => by exact (te_c C_R (fun h => dFp_up (lenA_cons lenA_nil) h) (hr.mono (by first | decide | omega)) rfl (ta_cons (te_v 1) ta_nil)))) (te_v 0))))
/-! ### _law_same -/
def N_l_same : List Str := ["_law_got", "_law_due", "_law_mine", "_law_its"]
theorem sc_l_same : FnScope N_l_same ["_law_got", "_law_due"] (defScope s_l_same) := ⟨rfl, rfl, rfl, by decide +kernel, rfl, by decide +kernel, by decide +kernel⟩
def ds_l_same (R : List D → M D) : En → M Out := (dSeq (dIfS (dTest (dCall isiTF (dCons (dV 1) (dCons (dTup (dCons (dC (.ty "list")) (dCons (dC (.ty "tuple")) dNil))) dNil)))) (dSeq (dIfS (dTest (d2 (pur2 (eqO true)) (dCall isiF (dCons (dV 0) (dCons (dC (.ty "list")) dNil))) (dCall isiF (dCons (dV 1) (dCons (dC (.ty "list")) dNil))))) (dRet (dC (.bl false))) dNext) (dSeq (dIfS (dTest (d2 (pur2 (eqO true)) (dCall isiF (dCons (dV 0) (dCons (dC (.ty "tuple")) dNil))) (dCall isiF (dCons (dV 1) (dCons (dC (.ty "tuple")) dNil))))) (dRet (dC (.bl false))) dNext) (dRet (dAnd (d2 (pur2 (eqO false)) (dCall (lenP) (dCons (dV 0) dNil)) (dCall (lenP) (dCons (dV 1) dNil))) (dCall (lP allF) (dCons (dLc (dRng zipQ (dCons (dV 0) (dCons (dV 1) dNil))) (gT 2 (gsCons (gN 2) (gsCons (gN 3) gsNil))) dYes (dFp R (dCons (dV 2) (dCons (dV 3) dNil))) [2, 3]) dNil)))))) dNext) (dSeq (dIfS (dOrT (dTest (d2 (pur2 (isNO false)) (dV 1) (dC .non))) (dTest (dCall isiTF (dCons (dV 1) (dCons (dTup (dCons (dC (.ty "bool")) (dCons (dC (.ty "str")) dNil))) dNil))))) (dRet (dAnd (d2 (pur2 (eqO false)) (dV 0) (dV 1)) (dAnd (d2 (pur2 (eqO false)) (dCall isiF (dCons (dV 0) (dCons (dC (.ty "bool")) dNil))) (dCall isiF (dCons (dV 1) (dCons (dC (.ty "bool")) dNil)))) (d2 (pur2 (eqO false)) (d2 (pur2 (isNO false)) (dV 0) (dC .non)) (d2 (pur2 (isNO false)) (dV 1) (dC .non)))))) dNext) (dRet (dAnd (dCall isiF (dCons (dV 0) (dCons (dC (.ty "int")) dNil))) (dAnd (dNot (dCall isiF (dCons (dV 0) (dCons (dC (.ty "bool")) dNil)))) (d2 (pur2 (eqO false)) (dV 0) (dV 1)))))))
def F_l_same : Nat → List D → M D
  | 0 => fun _ _ => none
  | n + 1 => runD N_l_same.length (ds_l_same (F_l_same n))
theorem ok_l_same {P : Program} {w : World} {K : PySem.W.Frag} {mg : Str → Option Value} {base : Heap} {f : Addr} {fd : FuncData} (T : Tx P w K mg base) {R : List D → M D} {k : Nat} (C_R : Cal P w K mg base k "_law_same" 2 R) (F : FnP K "_law_same" s_l_same f fd) : FnOk P w K mg base CX0 (k + 1) f fd ["_law_got", "_law_due"] (spF ⟨K, P, w, mg⟩ Xo0 2 (runD N_l_same.length (ds_l_same R))) := by
  refine fn_tw (k := k) F sc_l_same fun cdv A outer s H E hr => ?_
  have nd := sc_l_same.nd
  exact (ts_cons (tS_if (tt_val (te_blt call_isiA cd_isiT rfl T.f_isinstance boot_isinstance (ta_cons (te_v 1) (ta_cons (te_tup (ta_cons (te_bty rfl T.f_list (by decide +kernel)) (ta_cons (te_bty rfl T.f_tuple (by decide +kernel)) ta_nil))) ta_nil)))) (ts_cons (tS_if (tt_cmp (op_neD hr.units) opd_ne (te_blt call_isi cd_isi rfl T.f_isinstance boot_isinstance (ta_cons (te_v 0) (ta_cons (te_bty rfl T.f_list (by decide +kernel)) ta_nil))) (te_blt call_isi cd_isi rfl T.f_isinstance boot_isinstance (ta_cons (te_v 1) (ta_cons (te_bty rfl T.f_list (by decide +kernel)) ta_nil))) (nomark _)) (ts_one (tS_ret te_bl)) ts_nil) (ts_cons (tS_if (tt_cmp (op_neD hr.units) opd_ne (te_blt call_isi cd_isi rfl T.f_isinstance boot_isinstance (ta_cons (te_v 0) (ta_cons (te_bty rfl T.f_tuple (by decide +kernel)) ta_nil))) (te_blt call_isi cd_isi rfl T.f_isinstance boot_isinstance (ta_cons (te_v 1) (ta_cons (te_bty rfl T.f_tuple (by decide +kernel)) ta_nil))) (nomark _)) (ts_one (tS_ret te_bl)) ts_nil) (ts_one (tS_ret (te_and (te_cmp (op_eqD hr.units) opd_eq (te_blt call_len cd_len rfl T.f_len (by decide +kernel) (ta_cons (te_v 0) ta_nil)) (te_blt call_len cd_len rfl T.f_len (by decide +kernel) (ta_cons (te_v 1) ta_nil)) (nomark _)) (te_one (te_blt (cr_all rfl) cd_all rfl T.f_all (by decide +kernel) (ta_cons (by exact te_lc (own := [(("_law_mine" : Str), 2), (("_law_its" : Str), 3)]) rfl nd (by exact (ti_zipQ rfl T.f_zip (ta_cons (te_v 0) (ta_cons (te_v 1) ta_nil)))) (blkOk_by (N := N_l_same) (sc := defScope s_l_same) (own := [(("_law_mine" : Str), 2), (("_law_its" : Str), 3)]) (by decide +kernel)) (raw_t (raws_cons (raw_n (by decide)) (raws_cons (raw_n (by decide)) raws_nil))) (fun _ _ _ _ _ => by exact (pg_tup rfl (pgs_cons (pg_name (i := 2) nd rfl (by first | exact Or.inl rfl | exact Or.inr rfl)) (pgs_cons (pg_name (i := 3) nd rfl (by first | exact Or.inl rfl | exact Or.inr rfl)) pgs_nil)))) (fun _ _ _ _ _ => by exact tts_nil) (fun _ _ _ _ _ => by exact (te_c C_R (fun h => dFp_up (lenA_cons (lenA_cons lenA_nil)) h) (hr.mono (by first | decide | omega)) rfl (ta_cons (te_v 2) (ta_cons (te_v 3) ta_nil))))) ta_nil)))))))) ts_nil) (ts_cons (tS_if (PW.pt (tw_or (tt_cmp op_isN opd_isN (te_v 1) te_non (nomark _)) (tw_or1 (tt_val (te_blt call_isiA cd_isiT rfl T.f_isinstance boot_isinstance (ta_cons (te_v 1) (ta_cons (te_tup (ta_cons (te_bty rfl T.f_bool (by decide +kernel)) (ta_cons (te_bty rfl T.f_str (by decide +kernel)) ta_nil))) ta_nil))))))) (ts_one (tS_ret (te_and (te_cmp (op_eqD hr.units) opd_eq (te_v 0) (te_v 1) (nomark _)) (te_and (te_cmp (op_eqD hr.units) opd_eq (te_blt call_isi cd_isi rfl T.f_isinstance boot_isinstance (ta_cons (te_v 0) (ta_cons (te_bty rfl T.f_bool (by decide +kernel)) ta_nil))) (te_blt call_isi cd_isi rfl T.f_isinstance boot_isinstance (ta_cons (te_v 1) (ta_cons (te_bty rfl T.f_bool (by decide +kernel)) ta_nil))) (nomark _)) (te_one (te_cmp (op_eqD hr.units) opd_eq (te_cmp op_isN opd_isN (te_v 0) te_non (nomark _)) (te_cmp op_isN opd_isN (te_v 1) te_non (nomark _)) (nomark _))))))) ts_nil) (ts_one (tS_ret (te_and (te_blt call_isi cd_isi rfl T.f_isinstance boot_isinstance (ta_cons (te_v 0) (ta_cons (te_bty rfl T.f_int (by decide +kernel)) ta_nil))) (te_and (te_not (te_blt call_isi cd_isi rfl T.f_isinstance boot_isinstance (ta_cons (te_v 0) (ta_cons (te_bty rfl T.f_bool (by decide +kernel)) ta_nil)))) (te_one (te_cmp (op_eqD hr.units) opd_eq (te_v 0) (te_v 1) (nomark _)))))))))
/-! ### task_names -/
def N_task_names : List Str := ["house", "row"]
theorem sc_task_names : FnScope N_task_names ["house"] (defScope s_task_names) := ⟨rfl, rfl, rfl, by decide +kernel, rfl, by decide +kernel, by decide +kernel⟩
def ds_task_names : En → M Out := (dRet (dCall (listP fun xs => pur (some (.tup xs))) (dCons (dLc (dItQ (d2 ixO (dV 0) (dC (.int 0)))) (gN 1) dYes (d2 ixO (dV 1) (dC (.int 0))) [1]) dNil)))
def F_task_names : List D → M D := runD N_task_names.length ds_task_names
theorem ok_task_names {P : Program} {w : World} {K : PySem.W.Frag} {mg : Str → Option Value} {base : Heap} {f : Addr} {fd : FuncData} (T : Tx P w K mg base)  (F : FnP K "task_names" s_task_names f fd) : FnOk P w K mg base CX0 1 f fd ["house"] (spF ⟨K, P, w, mg⟩ Xo0 1 F_task_names) := by
  refine fn_tw (k := 0) F sc_task_names fun cdv A outer s H E hr => ?_
  have nd := sc_task_names.nd
  exact (ts_one (tS_ret (te_ty call_tuple_of cd_tup rfl T.f_tuple (by decide +kernel) (ta_cons (by exact te_lc (own := [(("row" : Str), 1)]) rfl nd (by exact (ti_q (te_ix ix_seq opd_ix (te_v 0) te_int (fun _ _ => rfl)))) (blkOk_by (N := N_task_names) (sc := defScope s_task_names) (own := [(("row" : Str), 1)]) (by decide +kernel)) (raw_n (by decide)) (fun _ _ _ _ _ => by exact (pg_name (i := 1) nd rfl (by first | exact Or.inl rfl | exact Or.inr rfl))) (fun _ _ _ _ _ => by exact tts_nil) (fun _ _ _ _ _ => by exact (te_ix ix_seq opd_ix (te_v 1) te_int (fun _ _ => rfl)))) ta_nil))))
/-! ### naming_marks -/
def N_naming_marks : List Str := ["tasks", "words", "row", "number", "step"]
theorem sc_naming_marks : FnScope N_naming_marks ["tasks", "words"] (defScope s_naming_marks) := ⟨rfl, rfl, rfl, by decide +kernel, rfl, by decide +kernel, by decide +kernel⟩
def ds_naming_marks : En → M Out := (dRet (dLc2 (dItQ (dV 0)) (gN 2) dYes (dRng enumQ (dCons (d2 ixO (dV 2) (dC (.int 2))) dNil)) (gT 2 (gsCons (gN 3) (gsCons (gN 4) gsNil))) (dTest (d2 (pur2 (inO false)) (d2 ixO (dV 4) (dC (.int 0))) (dV 1))) (dTup (dCons (d2 ixO (dV 4) (dC (.int 1))) (dCons (dTup (dCons (d2 ixO (dV 2) (dC (.int 0))) (dCons (dV 3) dNil))) dNil))) [2, 3, 4] [3, 4]))
def F_naming_marks : List D → M D := runD N_naming_marks.length ds_naming_marks
theorem ok_naming_marks {P : Program} {w : World} {K : PySem.W.Frag} {mg : Str → Option Value} {base : Heap} {f : Addr} {fd : FuncData} (T : Tx P w K mg base)  (F : FnP K "naming_marks" s_naming_marks f fd) : FnOk P w K mg base CX0 1 f fd ["tasks", "words"] (spF ⟨K, P, w, mg⟩ Xo0 2 F_naming_marks) := by
  refine fn_tw (k := 0) F sc_naming_marks fun cdv A outer s H E hr => ?_
  have nd := sc_naming_marks.nd
  exact (ts_one (tS_ret (by exact te_lc2 (own := [(("row" : Str), 2), (("number" : Str), 3), (("step" : Str), 4)]) (vs1 := [3, 4]) rfl nd (by exact (ti_q (te_v 0))) (blkOk_by (N := N_naming_marks) (sc := defScope s_naming_marks) (own := [(("row" : Str), 2), (("number" : Str), 3), (("step" : Str), 4)]) (by decide +kernel)) (by decide) (raw_n (by decide)) (raw_t (raws_cons (raw_n (by decide)) (raws_cons (raw_n (by decide)) raws_nil))) (fun _ _ _ _ _ => by exact (pg_name (i := 2) nd rfl (by first | exact Or.inl rfl | exact Or.inr rfl))) (fun _ _ _ _ _ => by exact tts_nil) (fun _ _ _ _ _ => by exact (ti_enumQ rfl T.f_enumerate (ta_cons (te_ix ix_seq opd_ix (te_v 2) te_int (fun _ _ => rfl)) ta_nil))) (fun _ _ _ _ _ => by exact (pg_tup rfl (pgs_cons (pg_name (i := 3) nd rfl (by first | exact Or.inl rfl | exact Or.inr rfl)) (pgs_cons (pg_name (i := 4) nd rfl (by first | exact Or.inl rfl | exact Or.inr rfl)) pgs_nil)))) (fun _ _ _ _ _ => by exact (tts_one (tt_cmp op_in_seq opd_in (te_ix ix_seq opd_ix (te_v 4) te_int (fun _ _ => rfl)) (te_v 1) (by rfl)))) (fun _ _ _ _ _ => by exact (te_tup (ta_cons (te_ix ix_seq opd_ix (te_v 4) te_int (fun _ _ => rfl)) (ta_cons (te_tup (ta_cons (te_ix ix_seq opd_ix (te_v 2) te_int (fun _ _ => rfl)) (ta_cons (te_v 3) ta_nil))) ta_nil)))))))
/-! ### queue_names -/
def N_queue_names : List Str := ["house", "named", "name", "mark", "row"]
theorem sc_queue_names : FnScope N_queue_names ["house"] (defScope s_queue_names) := ⟨rfl, rfl, rfl, by decide +kernel, rfl, by decide +kernel, by decide +kernel⟩
def ds_queue_names : En → M Out := (dSeq (dAsg (dLcF newL (dItL (dFp F_naming_marks (dCons (d2 ixO (dV 0) (dC (.int 0))) (dCons (dC (.tup [.str "put", .str "get"])) dNil)))) (gT 2 (gsCons (gN 2) (gsCons (gN 3) gsNil))) dYes (dV 2) [2, 3]) (gN 1)) (dSeq (dExpr (dMeth extF (dV 1) (dCons (dLc (dItQ (d2 ixO (dV 0) (dC (.int 2)))) (gN 4) dYes (d2 ixO (dV 4) (dC (.int 0))) [4]) dNil))) (dRet (dCall (listP fun xs => pur (some (.tup xs))) (dCons (dCall (lP usF) (dCons (dV 1) dNil)) dNil)))))
def F_queue_names : List D → M D := runD N_queue_names.length ds_queue_names
theorem ok_queue_names {P : Program} {w : World} {K : PySem.W.Frag} {mg : Str → Option Value} {base : Heap} {f : Addr} {fd : FuncData} (T : Tx P w K mg base) (C_naming_marks : Cal P w K mg base 1 "naming_marks" 2 F_naming_marks) (F : FnP K "queue_names" s_queue_names f fd) : FnOk P w K mg base CX0 2 f fd ["house"] (spF ⟨K, P, w, mg⟩ Xo0 1 F_queue_names) := by
  refine fn_tw (k := 1) F sc_queue_names fun cdv A outer s H E hr => ?_
  have nd := sc_queue_names.nd
  exact (ts_cons (tS_setLcF fin_new (own := [(("name" : Str), 2), (("mark" : Str), 3)]) (i := 1) rfl nd rfl rfl (sw_true rfl rfl rfl (by decide +kernel)) (by exact (ti_list (te_c C_naming_marks (fun h => dFp_up (lenA_cons (lenA_cons lenA_nil)) h) (hr.mono (by first | decide | omega)) rfl (ta_cons (te_ix ix_seq opd_ix (te_v 0) te_int (fun _ _ => rfl)) (ta_cons (te_gtup rfl T.t_QUEUE_WORDS.choose_spec.1 T.t_QUEUE_WORDS.choose_spec.2) ta_nil))))) (blkOk_by (N := N_queue_names) (sc := defScope s_queue_names) (own := [(("name" : Str), 2), (("mark" : Str), 3)]) (by decide +kernel)) (raw_t (raws_cons (raw_n (by decide)) (raws_cons (raw_n (by decide)) raws_nil))) (fun _ _ _ _ _ => by exact (pg_tup rfl (pgs_cons (pg_name (i := 2) nd rfl (by first | exact Or.inl rfl | exact Or.inr rfl)) (pgs_cons (pg_name (i := 3) nd rfl (by first | exact Or.inl rfl | exact Or.inr rfl)) pgs_nil)))) (fun _ _ _ _ _ => by exact tts_nil) (fun _ _ _ _ _ => by exact (te_v 2))) (ts_cons (tS_expr (te_lm PySem.F.slot_list_extend PySem.F.type_list_extend mt_extend md_ext (te_v 1) (ta_cons (by exact te_lc (own := [(("row" : Str), 4)]) rfl nd (by exact (ti_q (te_ix ix_seq opd_ix (te_v 0) te_int (fun _ _ => rfl)))) (blkOk_by (N := N_queue_names) (sc := defScope s_queue_names) (own := [(("row" : Str), 4)]) (by decide +kernel)) (raw_n (by decide)) (fun _ _ _ _ _ => by exact (pg_name (i := 4) nd rfl (by first | exact Or.inl rfl | exact Or.inr rfl))) (fun _ _ _ _ _ => by exact tts_nil) (fun _ _ _ _ _ => by exact (te_ix ix_seq opd_ix (te_v 4) te_int (fun _ _ => rfl)))) ta_nil))) (ts_one (tS_ret (te_ty call_tuple_of cd_tup rfl T.f_tuple (by decide +kernel) (ta_cons (te_us rfl rfl T.f_sorted rfl T.f_set (ta_cons (te_v 1) ta_nil)) ta_nil))))))
/-! ### signal_names -/
def N_signal_names : List Str := ["house", "name", "mark"]
theorem sc_signal_names : FnScope N_signal_names ["house"] (defScope s_signal_names) := ⟨rfl, rfl, rfl, by decide +kernel, rfl, by decide +kernel, by decide +kernel⟩
def ds_signal_names : En → M Out := (dRet (dCall (listP fun xs => pur (some (.tup xs))) (dCons (dSsc (dItL (dFp F_naming_marks (dCons (d2 ixO (dV 0) (dC (.int 0))) (dCons (dC (.tup [.str "set", .str "hear"])) dNil)))) (gT 2 (gsCons (gN 1) (gsCons (gN 2) gsNil))) dYes (dV 1) [1, 2]) dNil)))
def F_signal_names : List D → M D := runD N_signal_names.length ds_signal_names
theorem ok_signal_names {P : Program} {w : World} {K : PySem.W.Frag} {mg : Str → Option Value} {base : Heap} {f : Addr} {fd : FuncData} (T : Tx P w K mg base) (C_naming_marks : Cal P w K mg base 1 "naming_marks" 2 F_naming_marks) (F : FnP K "signal_names" s_signal_names f fd) : FnOk P w K mg base CX0 2 f fd ["house"] (spF ⟨K, P, w, mg⟩ Xo0 1 F_signal_names) := by
  refine fn_tw (k := 1) F sc_signal_names fun cdv A outer s H E hr => ?_
  have nd := sc_signal_names.nd
  exact (ts_one (tS_ret (te_ty call_tuple_of cd_tup rfl T.f_tuple (by decide +kernel) (ta_cons (by exact te_ssc (own := [(("name" : Str), 1), (("mark" : Str), 2)]) rfl nd rfl T.f_sorted (by exact (ti_list (te_c C_naming_marks (fun h => dFp_up (lenA_cons (lenA_cons lenA_nil)) h) (hr.mono (by first | decide | omega)) rfl (ta_cons (te_ix ix_seq opd_ix (te_v 0) te_int (fun _ _ => rfl)) (ta_cons (te_gtup rfl T.t_SIGNAL_WORDS.choose_spec.1 T.t_SIGNAL_WORDS.choose_spec.2) ta_nil))))) (blkOk_by (N := N_signal_names) (sc := defScope s_signal_names) (own := [(("name" : Str), 1), (("mark" : Str), 2)]) (by decide +kernel)) (raw_t (raws_cons (raw_n (by decide)) (raws_cons (raw_n (by decide)) raws_nil))) (fun _ _ _ _ _ => by exact (pg_tup rfl (pgs_cons (pg_name (i := 1) nd rfl (by first | exact Or.inl rfl | exact Or.inr rfl)) (pgs_cons (pg_name (i := 2) nd rfl (by first | exact Or.inl rfl | exact Or.inr rfl)) pgs_nil)))) (fun _ _ _ _ _ => by exact tts_nil) (fun _ _ _ _ _ => by exact (te_v 1))) ta_nil))))
/-! ### first_tasks -/
def N_first_tasks : List Str := ["house", "started", "name", "mark"]
theorem sc_first_tasks : FnScope N_first_tasks ["house"] (defScope s_first_tasks) := ⟨rfl, rfl, rfl, by decide +kernel, rfl, by decide +kernel, by decide +kernel⟩
def ds_first_tasks : En → M Out := (dSeq (dAsg (dDc (dItL (dFp F_naming_marks (dCons (d2 ixO (dV 0) (dC (.int 0))) (dCons (dTup (dCons (dC (.str "start")) dNil)) dNil)))) (gT 2 (gsCons (gN 2) (gsCons (gN 3) gsNil))) dYes (dV 2) (dC (.bl true)) [2, 3]) (gN 1)) (dRet (dCall (listP fun xs => pur (some (.tup xs))) (dCons (dLc (dItT (dFp F_task_names (dCons (dV 0) dNil))) (gN 2) (dTest (d2 (dinP true) (dV 2) (dV 1))) (dV 2) [2]) dNil))))
def F_first_tasks : List D → M D := runD N_first_tasks.length ds_first_tasks
theorem ok_first_tasks {P : Program} {w : World} {K : PySem.W.Frag} {mg : Str → Option Value} {base : Heap} {f : Addr} {fd : FuncData} (T : Tx P w K mg base) (C_task_names : Cal P w K mg base 1 "task_names" 1 F_task_names) (C_naming_marks : Cal P w K mg base 1 "naming_marks" 2 F_naming_marks) (F : FnP K "first_tasks" s_first_tasks f fd) : FnOk P w K mg base CX0 2 f fd ["house"] (spF ⟨K, P, w, mg⟩ Xo0 1 F_first_tasks) := by
  refine fn_tw (k := 1) F sc_first_tasks fun cdv A outer s H E hr => ?_
  have nd := sc_first_tasks.nd
  exact (ts_cons (tS_asg (by exact te_dc (own := [(("name" : Str), 2), (("mark" : Str), 3)]) rfl nd (by exact (ti_list (te_c C_naming_marks (fun h => dFp_up (lenA_cons (lenA_cons lenA_nil)) h) (hr.mono (by first | decide | omega)) rfl (ta_cons (te_ix ix_seq opd_ix (te_v 0) te_int (fun _ _ => rfl)) (ta_cons (te_tup (ta_cons te_str ta_nil)) ta_nil))))) (blkOk_by (N := N_first_tasks) (sc := defScope s_first_tasks) (own := [(("name" : Str), 2), (("mark" : Str), 3)]) (by decide +kernel)) (raw_t (raws_cons (raw_n (by decide)) (raws_cons (raw_n (by decide)) raws_nil))) (fun _ _ _ _ _ => by exact (pg_tup rfl (pgs_cons (pg_name (i := 2) nd rfl (by first | exact Or.inl rfl | exact Or.inr rfl)) (pgs_cons (pg_name (i := 3) nd rfl (by first | exact Or.inl rfl | exact Or.inr rfl)) pgs_nil)))) (fun _ _ _ _ _ => by exact tts_nil) (fun _ _ _ _ _ => by exact (te_v 2)) (fun _ _ _ _ _ => by exact te_bl)) (tg_n (i := 1) nd)) (ts_one (tS_ret (te_ty call_tuple_of cd_tup rfl T.f_tuple (by decide +kernel) (ta_cons (by exact te_lc (own := [(("name" : Str), 2)]) rfl nd (by exact (ti_tup (te_c C_task_names (fun h => dFp_up (lenA_cons lenA_nil) h) (hr.mono (by first | decide | omega)) rfl (ta_cons (te_v 0) ta_nil)))) (blkOk_by (N := N_first_tasks) (sc := defScope s_first_tasks) (own := [(("name" : Str), 2)]) (by decide +kernel)) (raw_n (by decide)) (fun _ _ _ _ _ => by exact (pg_name (i := 2) nd rfl (by first | exact Or.inl rfl | exact Or.inr rfl))) (fun _ _ _ _ _ => by exact (tts_one (tt_dnin (hu_of hr) (te_v 2) (te_v 1)))) (fun _ _ _ _ _ => by exact (te_v 2))) ta_nil)))))
/-! ### tupled -/
def N_tupled : List Str := ["worth", "part"]
theorem sc_tupled : FnScope N_tupled ["worth"] (defScope s_tupled) := ⟨rfl, rfl, rfl, by decide +kernel, rfl, by decide +kernel, by decide +kernel⟩
def ds_tupled (R : List D → M D) : En → M Out := (dSeq (dIfS (dTest (dCall isiTF (dCons (dV 0) (dCons (dTup (dCons (dC (.ty "list")) (dCons (dC (.ty "tuple")) dNil))) dNil)))) (dRet (dCall tupNF (dCons (dLc (dItQ (dV 0)) (gN 1) dYes (dFp R (dCons (dV 1) dNil)) [1]) dNil))) dNext) (dRet (dV 0)))
def F_tupled : Nat → List D → M D
  | 0 => fun _ _ => none
  | n + 1 => runD N_tupled.length (ds_tupled (F_tupled n))
theorem ok_tupled {P : Program} {w : World} {K : PySem.W.Frag} {mg : Str → Option Value} {base : Heap} {f : Addr} {fd : FuncData} (T : Tx P w K mg base) {R : List D → M D} {k : Nat} (C_R : Cal P w K mg base k "tupled" 1 R) (F : FnP K "tupled" s_tupled f fd) : FnOk P w K mg base CX0 (k + 1) f fd ["worth"] (spF ⟨K, P, w, mg⟩ Xo0 1 (runD N_tupled.length (ds_tupled R))) := by
  refine fn_tw (k := k) F sc_tupled fun cdv A outer s H E hr => ?_
  have nd := sc_tupled.nd
  exact (ts_cons (tS_if (tt_val (te_blt call_isiA cd_isiT rfl T.f_isinstance boot_isinstance (ta_cons (te_v 0) (ta_cons (te_tup (ta_cons (te_bty rfl T.f_list (by decide +kernel)) (ta_cons (te_bty rfl T.f_tuple (by decide +kernel)) ta_nil))) ta_nil)))) (ts_one (tS_ret (te_ty call_tupleN cd_tupN rfl T.f_tuple (by decide +kernel) (ta_cons (by exact te_lc (own := [(("part" : Str), 1)]) rfl nd (by exact (ti_q (te_v 0))) (blkOk_by (N := N_tupled) (sc := defScope s_tupled) (own := [(("part" : Str), 1)]) (by decide +kernel)) (raw_n (by decide)) (fun _ _ _ _ _ => by exact (pg_name (i := 1) nd rfl (by first | exact Or.inl rfl | exact Or.inr rfl))) (fun _ _ _ _ _ => by exact tts_nil) (fun _ _ _ _ _ => by exact (te_c C_R (fun h => dFp_up (lenA_cons lenA_nil) h) (hr.mono (by first | decide | omega)) rfl (ta_cons (te_v 1) ta_nil)))) ta_nil)))) ts_nil) (ts_one (tS_ret (te_v 0))))
/-! ### row_of -/
def N_row_of : List Str := ["house", "task", "row"]
theorem sc_row_of : FnScope N_row_of ["house", "task"] (defScope s_row_of) := ⟨rfl, rfl, rfl, by decide +kernel, rfl, by decide +kernel, by decide +kernel⟩
def ds_row_of : En → M Out := (dSeq (dFor (dItQ (d2 ixO (dV 0) (dC (.int 0)))) (gN 2) (dIfS (dTest (d2 (pur2 (eqO false)) (d2 ixO (dV 2) (dC (.int 0))) (dV 1))) (dRet (dV 2)) dNext)) (dRaise1 "NoTask" "name" (dV 1)))
def F_row_of : List D → M D := runD N_row_of.length ds_row_of
theorem ok_row_of {P : Program} {w : World} {K : PySem.W.Frag} {mg : Str → Option Value} {base : Heap} {f : Addr} {fd : FuncData} (T : Tx P w K mg base)  (F : FnP K "row_of" s_row_of f fd) : FnOk P w K mg base (L2.CX P w) 3 f fd ["house", "task"] (spF ⟨K, P, w, mg⟩ (XoE ⟨K, P, w, mg⟩) 2 F_row_of) := by
  refine fn_twX (k := 2) F sc_row_of fun cdv A outer s H E hr tk => ?_
  have nd := sc_row_of.nd
  exact (ts_cons (tS_for (passes_of rfl) rfl (ti_q (te_ix ix_seq opd_ix (te_v 0) te_int (fun _ _ => rfl))) (tg_n (i := 2) nd) (ts_one (tS_if (tt_cmp (op_eqD hr.units) opd_eq (te_ix ix_seq opd_ix (te_v 2) te_int (fun _ _ => rfl)) (te_v 1) (nomark _)) (ts_one (tS_ret (te_v 2))) ts_nil))) (ts_one (tS_raise1 T.x_NoTask tk rfl (hr.mono (by decide)) rfl (te_v 1))))
/-! ### script_of -/
def N_script_of : List Str := ["house", "task"]
theorem sc_script_of : FnScope N_script_of ["house", "task"] (defScope s_script_of) := ⟨rfl, rfl, rfl, by decide +kernel, rfl, by decide +kernel, by decide +kernel⟩
def ds_script_of : En → M Out := (dRet (dWkA (dFp (F_tupled 8) (dCons (d2 ixO (dFpX F_row_of (dCons (dV 0) (dCons (dV 1) dNil))) (dC (.int 2))) dNil))))
def F_script_of : List D → M D := runD N_script_of.length ds_script_of
theorem ok_script_of {P : Program} {w : World} {K : PySem.W.Frag} {mg : Str → Option Value} {base : Heap} {f : Addr} {fd : FuncData} (T : Tx P w K mg base) (C_tupled : Cal P w K mg base 9 "tupled" 1 (F_tupled 8)) (C_row_of : CalX P w K mg base 3 "row_of" 2 F_row_of) (F : FnP K "script_of" s_script_of f fd) : FnOk P w K mg base (L2.CX P w) 10 f fd ["house", "task"] (spF ⟨K, P, w, mg⟩ (XoE ⟨K, P, w, mg⟩) 2 F_script_of) := by
  refine fn_twX (k := 9) F sc_script_of fun cdv A outer s H E hr tk => ?_
  have nd := sc_script_of.nd
  exact (ts_one (tS_ret (te_wkA (te_c C_tupled (fun h => dFp_up (lenA_cons lenA_nil) h) (hr.mono (by first | decide | omega)) rfl (ta_cons (te_ix ix_seq opd_ix (te_cX C_row_of tk (fun h => dFpX_up (lenA_cons (lenA_cons lenA_nil)) (fun _ _ _ h => h) h) (hr.mono (by first | decide | omega)) rfl (ta_cons (te_v 0) (ta_cons (te_v 1) ta_nil))) te_int (fun _ _ => rfl)) ta_nil)))))
/-! ### group_of -/
def N_group_of : List Str := ["house", "task"]
theorem sc_group_of : FnScope N_group_of ["house", "task"] (defScope s_group_of) := ⟨rfl, rfl, rfl, by decide +kernel, rfl, by decide +kernel, by decide +kernel⟩
def ds_group_of : En → M Out := (dRet (d2 ixO (dFpX F_row_of (dCons (dV 0) (dCons (dV 1) dNil))) (dC (.int 1))))
def F_group_of : List D → M D := runD N_group_of.length ds_group_of
theorem ok_group_of {P : Program} {w : World} {K : PySem.W.Frag} {mg : Str → Option Value} {base : Heap} {f : Addr} {fd : FuncData} (T : Tx P w K mg base) (C_row_of : CalX P w K mg base 3 "row_of" 2 F_row_of) (F : FnP K "group_of" s_group_of f fd) : FnOk P w K mg base (L2.CX P w) 4 f fd ["house", "task"] (spF ⟨K, P, w, mg⟩ (XoE ⟨K, P, w, mg⟩) 2 F_group_of) := by
  refine fn_twX (k := 3) F sc_group_of fun cdv A outer s H E hr tk => ?_
  have nd := sc_group_of.nd
  exact (ts_one (tS_ret (te_ix ix_seq opd_ix (te_cX C_row_of tk (fun h => dFpX_up (lenA_cons (lenA_cons lenA_nil)) (fun _ _ _ h => h) h) (hr.mono (by first | decide | omega)) rfl (ta_cons (te_v 0) (ta_cons (te_v 1) ta_nil))) te_int (fun _ _ => rfl))))
/-! ### starter_of -/
def N_starter_of : List Str := ["house", "task", "name", "mark"]
theorem sc_starter_of : FnScope N_starter_of ["house", "task"] (defScope s_starter_of) := ⟨rfl, rfl, rfl, by decide +kernel, rfl, by decide +kernel, by decide +kernel⟩
def ds_starter_of : En → M Out := (dSeq (dExpr (dFpX F_row_of (dCons (dV 0) (dCons (dV 1) dNil)))) (dSeq (dFor (dItL (dFp F_naming_marks (dCons (d2 ixO (dV 0) (dC (.int 0))) (dCons (dTup (dCons (dC (.str "start")) dNil)) dNil)))) (gT 2 (gsCons (gN 2) (gsCons (gN 3) gsNil))) (dIfS (dTest (d2 (pur2 (eqO false)) (dV 2) (dV 1))) (dRet (dV 3)) dNext)) (dRet (dTup dNil))))
def F_starter_of : List D → M D := runD N_starter_of.length ds_starter_of
theorem ok_starter_of {P : Program} {w : World} {K : PySem.W.Frag} {mg : Str → Option Value} {base : Heap} {f : Addr} {fd : FuncData} (T : Tx P w K mg base) (C_naming_marks : Cal P w K mg base 1 "naming_marks" 2 F_naming_marks) (C_row_of : CalX P w K mg base 3 "row_of" 2 F_row_of) (F : FnP K "starter_of" s_starter_of f fd) : FnOk P w K mg base (L2.CX P w) 4 f fd ["house", "task"] (spF ⟨K, P, w, mg⟩ (XoE ⟨K, P, w, mg⟩) 2 F_starter_of) := by
  refine fn_twX (k := 3) F sc_starter_of fun cdv A outer s H E hr tk => ?_
  have nd := sc_starter_of.nd
  exact (ts_cons (tS_expr (te_cX C_row_of tk (fun h => dFpX_up (lenA_cons (lenA_cons lenA_nil)) (fun _ _ _ h => h) h) (hr.mono (by first | decide | omega)) rfl (ta_cons (te_v 0) (ta_cons (te_v 1) ta_nil)))) (ts_cons (tS_for (passes_of rfl) rfl (ti_list (te_c C_naming_marks (fun h => dFp_up (lenA_cons (lenA_cons lenA_nil)) h) (hr.mono (by first | decide | omega)) rfl (ta_cons (te_ix ix_seq opd_ix (te_v 0) te_int (fun _ _ => rfl)) (ta_cons (te_tup (ta_cons te_str ta_nil)) ta_nil)))) (tg_t rfl (tgs_cons (tg_n (i := 2) nd) (tgs_cons (tg_n (i := 3) nd) tgs_nil))) (ts_one (tS_if (tt_cmp (op_eqD hr.units) opd_eq (te_v 2) (te_v 1) (nomark _)) (ts_one (tS_ret (te_v 3))) ts_nil))) (ts_one (tS_ret (te_tup ta_nil)))))
/-! ### host_of -/
def N_host_of : List Str := ["house", "group", "row"]
theorem sc_host_of : FnScope N_host_of ["house", "group"] (defScope s_host_of) := ⟨rfl, rfl, rfl, by decide +kernel, rfl, by decide +kernel, by decide +kernel⟩
def ds_host_of : En → M Out := (dSeq (dFor (dItQ (d2 ixO (dV 0) (dC (.int 1)))) (gN 2) (dIfS (dTest (d2 (pur2 (eqO false)) (d2 ixO (dV 2) (dC (.int 0))) (dV 1))) (dRet (d2 ixO (dV 2) (dC (.int 1)))) dNext)) (dRaise1 "NoGroup" "name" (dV 1)))
def F_host_of : List D → M D := runD N_host_of.length ds_host_of
theorem ok_host_of {P : Program} {w : World} {K : PySem.W.Frag} {mg : Str → Option Value} {base : Heap} {f : Addr} {fd : FuncData} (T : Tx P w K mg base)  (F : FnP K "host_of" s_host_of f fd) : FnOk P w K mg base (L2.CX P w) 3 f fd ["house", "group"] (spF ⟨K, P, w, mg⟩ (XoE ⟨K, P, w, mg⟩) 2 F_host_of) := by
  refine fn_twX (k := 2) F sc_host_of fun cdv A outer s H E hr tk => ?_
  have nd := sc_host_of.nd
  exact (ts_cons (tS_for (passes_of rfl) rfl (ti_q (te_ix ix_seq opd_ix (te_v 0) te_int (fun _ _ => rfl))) (tg_n (i := 2) nd) (ts_one (tS_if (tt_cmp (op_eqD hr.units) opd_eq (te_ix ix_seq opd_ix (te_v 2) te_int (fun _ _ => rfl)) (te_v 1) (nomark _)) (ts_one (tS_ret (te_ix ix_seq opd_ix (te_v 2) te_int (fun _ _ => rfl)))) ts_nil))) (ts_one (tS_raise1 T.x_NoGroup tk rfl (hr.mono (by decide)) rfl (te_v 1))))
/-! ### hosts_above -/
def N_hosts_above : List Str := ["house", "task", "above", "group"]
theorem sc_hosts_above : FnScope N_hosts_above ["house", "task"] (defScope s_hosts_above) := ⟨rfl, rfl, rfl, by decide +kernel, rfl, by decide +kernel, by decide +kernel⟩
def ds_hosts_above : En → M Out := (dSeq (dAsg (dLstM dNil) (gN 2)) (dSeq (dAsg (dFpX F_group_of (dCons (dV 0) (dCons (dV 1) dNil))) (gN 3)) (dSeq (whileL (dTest (d2 (pur2 (eqO true)) (dV 3) (dC (.str "")))) (dSeq (dExpr (dMeth appF (dV 2) (dCons (dFpX F_host_of (dCons (dV 0) (dCons (dV 3) dNil))) dNil))) (dAsg (dFpX F_group_of (dCons (dV 0) (dCons (d2 ixO (dV 2) (dNeg (dC (.int 1)))) dNil))) (gN 3))) 1000) (dRet (dCall (listP fun xs => pur (some (.tup xs))) (dCons (dV 2) dNil))))))
def F_hosts_above : List D → M D := runD N_hosts_above.length ds_hosts_above
theorem ok_hosts_above {P : Program} {w : World} {K : PySem.W.Frag} {mg : Str → Option Value} {base : Heap} {f : Addr} {fd : FuncData} (T : Tx P w K mg base) (C_group_of : CalX P w K mg base 4 "group_of" 2 F_group_of) (C_host_of : CalX P w K mg base 3 "host_of" 2 F_host_of) (F : FnP K "hosts_above" s_hosts_above f fd) : FnOk P w K mg base (L2.CX P w) 5 f fd ["house", "task"] (spF ⟨K, P, w, mg⟩ (XoE ⟨K, P, w, mg⟩) 2 F_hosts_above) := by
  refine fn_twX (k := 4) F sc_hosts_above fun cdv A outer s H E hr tk => ?_
  have nd := sc_hosts_above.nd
  exact (ts_cons (tS_asg (te_lstM ta_nil) (tg_n (i := 2) nd)) (ts_cons (tS_asg (te_cX C_group_of tk (fun h => dFpX_up (lenA_cons (lenA_cons lenA_nil)) (fun _ _ _ h => h) h) (hr.mono (by first | decide | omega)) rfl (ta_cons (te_v 0) (ta_cons (te_v 1) ta_nil))) (tg_n (i := 3) nd)) (ts_cons (tS_while (n := 1000) (passes_of rfl) (tt_cmp (op_neD hr.units) opd_ne (te_v 3) te_str (nomark _)) (ts_cons (tS_expr (te_lm PySem.F.slot_list_append PySem.F.type_list_append mt_append md_app (te_v 2) (ta_cons (te_cX C_host_of tk (fun h => dFpX_up (lenA_cons (lenA_cons lenA_nil)) (fun _ _ _ h => h) h) (hr.mono (by first | decide | omega)) rfl (ta_cons (te_v 0) (ta_cons (te_v 3) ta_nil))) ta_nil))) (ts_one (tS_asg (te_cX C_group_of tk (fun h => dFpX_up (lenA_cons (lenA_cons lenA_nil)) (fun _ _ _ h => h) h) (hr.mono (by first | decide | omega)) rfl (ta_cons (te_v 0) (ta_cons (te_ix ix_seq opd_ix (te_v 2) (te_neg te_int) (fun _ _ => rfl)) ta_nil))) (tg_n (i := 3) nd))))) (ts_one (tS_ret (te_ty call_tuple_of cd_tup rfl T.f_tuple (by decide +kernel) (ta_cons (te_v 2) ta_nil)))))))
/-! ### tasks_in -/
def N_tasks_in : List Str := ["house", "group", "row"]
theorem sc_tasks_in : FnScope N_tasks_in ["house", "group"] (defScope s_tasks_in) := ⟨rfl, rfl, rfl, by decide +kernel, rfl, by decide +kernel, by decide +kernel⟩
def ds_tasks_in : En → M Out := (dSeq (dExpr (dFpX F_host_of (dCons (dV 0) (dCons (dV 1) dNil)))) (dRet (dCall (listP fun xs => pur (some (.tup xs))) (dCons (dLc (dItQ (d2 ixO (dV 0) (dC (.int 0)))) (gN 2) (dTest (d2 (pur2 (eqO false)) (d2 ixO (dV 2) (dC (.int 1))) (dV 1))) (d2 ixO (dV 2) (dC (.int 0))) [2]) dNil))))
def F_tasks_in : List D → M D := runD N_tasks_in.length ds_tasks_in
theorem ok_tasks_in {P : Program} {w : World} {K : PySem.W.Frag} {mg : Str → Option Value} {base : Heap} {f : Addr} {fd : FuncData} (T : Tx P w K mg base) (C_host_of : CalX P w K mg base 3 "host_of" 2 F_host_of) (F : FnP K "tasks_in" s_tasks_in f fd) : FnOk P w K mg base (L2.CX P w) 4 f fd ["house", "group"] (spF ⟨K, P, w, mg⟩ (XoE ⟨K, P, w, mg⟩) 2 F_tasks_in) := by
  refine fn_twX (k := 3) F sc_tasks_in fun cdv A outer s H E hr tk => ?_
  have nd := sc_tasks_in.nd
  exact (ts_cons (tS_expr (te_cX C_host_of tk (fun h => dFpX_up (lenA_cons (lenA_cons lenA_nil)) (fun _ _ _ h => h) h) (hr.mono (by first | decide | omega)) rfl (ta_cons (te_v 0) (ta_cons (te_v 1) ta_nil)))) (ts_one (tS_ret (te_ty call_tuple_of cd_tup rfl T.f_tuple (by decide +kernel) (ta_cons (by exact te_lc (own := [(("row" : Str), 2)]) rfl nd (by exact (ti_q (te_ix ix_seq opd_ix (te_v 0) te_int (fun _ _ => rfl)))) (blkOk_by (N := N_tasks_in) (sc := defScope s_tasks_in) (own := [(("row" : Str), 2)]) (by decide +kernel)) (raw_n (by decide)) (fun _ _ _ _ _ => by exact (pg_name (i := 2) nd rfl (by first | exact Or.inl rfl | exact Or.inr rfl))) (fun _ _ _ _ _ => by exact (tts_one (tt_cmp (op_eqD hr.units) opd_eq (te_ix ix_seq opd_ix (te_v 2) te_int (fun _ _ => rfl)) (te_v 1) (nomark _)))) (fun _ _ _ _ _ => by exact (te_ix ix_seq opd_ix (te_v 2) te_int (fun _ _ => rfl)))) ta_nil)))))
/-! ### closer_of -/
def N_closer_of : List Str := ["house", "group", "name", "mark"]
theorem sc_closer_of : FnScope N_closer_of ["house", "group"] (defScope s_closer_of) := ⟨rfl, rfl, rfl, by decide +kernel, rfl, by decide +kernel, by decide +kernel⟩
def ds_closer_of : En → M Out := (dSeq (dFor (dItL (dFp F_naming_marks (dCons (d2 ixO (dV 0) (dC (.int 0))) (dCons (dC (.tup [.str "close", .str "catch"])) dNil)))) (gT 2 (gsCons (gN 2) (gsCons (gN 3) gsNil))) (dIfS (dTest (d2 (pur2 (eqO false)) (dV 2) (dV 1))) (dRet (dV 3)) dNext)) (dRaise1 "NoGroup" "name" (dV 1)))
def F_closer_of : List D → M D := runD N_closer_of.length ds_closer_of
theorem ok_closer_of {P : Program} {w : World} {K : PySem.W.Frag} {mg : Str → Option Value} {base : Heap} {f : Addr} {fd : FuncData} (T : Tx P w K mg base) (C_naming_marks : Cal P w K mg base 1 "naming_marks" 2 F_naming_marks) (F : FnP K "closer_of" s_closer_of f fd) : FnOk P w K mg base (L2.CX P w) 3 f fd ["house", "group"] (spF ⟨K, P, w, mg⟩ (XoE ⟨K, P, w, mg⟩) 2 F_closer_of) := by
  refine fn_twX (k := 2) F sc_closer_of fun cdv A outer s H E hr tk => ?_
  have nd := sc_closer_of.nd
  exact (ts_cons (tS_for (passes_of rfl) rfl (ti_list (te_c C_naming_marks (fun h => dFp_up (lenA_cons (lenA_cons lenA_nil)) h) (hr.mono (by first | decide | omega)) rfl (ta_cons (te_ix ix_seq opd_ix (te_v 0) te_int (fun _ _ => rfl)) (ta_cons (te_gtup rfl T.t_CLOSING_WORDS.choose_spec.1 T.t_CLOSING_WORDS.choose_spec.2) ta_nil)))) (tg_t rfl (tgs_cons (tg_n (i := 2) nd) (tgs_cons (tg_n (i := 3) nd) tgs_nil))) (ts_one (tS_if (tt_cmp (op_eqD hr.units) opd_eq (te_v 2) (te_v 1) (nomark _)) (ts_one (tS_ret (te_v 3))) ts_nil))) (ts_one (tS_raise1 T.x_NoGroup tk rfl (hr.mono (by decide)) rfl (te_v 1))))
/-! ### step_of -/
def N_step_of : List Str := ["house", "task", "number", "steps"]
theorem sc_step_of : FnScope N_step_of ["house", "task", "number"] (defScope s_step_of) := ⟨rfl, rfl, rfl, by decide +kernel, rfl, by decide +kernel, by decide +kernel⟩
def ds_step_of : En → M Out := (dSeq (dAsg (dFpX F_script_of (dCons (dV 0) (dCons (dV 1) dNil))) (gN 3)) (dSeq (dIfS (dNotT (dTest (dChain (pur2 (ordO leI leS)) (pur2 (ordO ltI ltS)) (dC (.int 0)) (dV 2) (dCall (lenP) (dCons (dV 3) dNil))))) (dRaise1 "NoStep" "number" (dV 2)) dNext) (dRet (d2 ixO (dV 3) (dV 2)))))
def F_step_of : List D → M D := runD N_step_of.length ds_step_of
theorem ok_step_of {P : Program} {w : World} {K : PySem.W.Frag} {mg : Str → Option Value} {base : Heap} {f : Addr} {fd : FuncData} (T : Tx P w K mg base) (C_script_of : CalX P w K mg base 10 "script_of" 2 F_script_of) (F : FnP K "step_of" s_step_of f fd) : FnOk P w K mg base (L2.CX P w) 11 f fd ["house", "task", "number"] (spF ⟨K, P, w, mg⟩ (XoE ⟨K, P, w, mg⟩) 3 F_step_of) := by
  refine fn_twX (k := 10) F sc_step_of fun cdv A outer s H E hr tk => ?_
  have nd := sc_step_of.nd
  exact (ts_cons (tS_asg (te_cX C_script_of tk (fun h => dFpX_up (lenA_cons (lenA_cons lenA_nil)) (fun _ _ _ h => h) h) (hr.mono (by first | decide | omega)) rfl (ta_cons (te_v 0) (ta_cons (te_v 1) ta_nil))) (tg_n (i := 3) nd)) (ts_cons (tS_if (tt_not (tt_chain op_leA op_ltA opd_ord opd_ord te_int (te_v 2) (te_blt call_len cd_len rfl T.f_len (by decide +kernel) (ta_cons (te_v 3) ta_nil)))) (ts_one (tS_raise1 T.x_NoStep tk rfl (hr.mono (by decide)) rfl (te_v 2))) ts_nil) (ts_one (tS_ret (te_ix ix_seq opd_ix (te_v 3) (te_v 2) (fun _ _ => rfl))))))
/-! ### depths -/
def N_depths : List Str := ["steps", "depth", "told", "step"]
theorem sc_depths : FnScope N_depths ["steps"] (defScope s_depths) := ⟨rfl, rfl, rfl, by decide +kernel, rfl, by decide +kernel, by decide +kernel⟩
def ds_depths : En → M Out := (dSeq (dAsg (dC (.int 0)) (gN 1)) (dSeq (dAsg (dLstM (dCons (dV 1) dNil)) (gN 2)) (dSeq (dFor (dItT (dV 0)) (gN 3) (dSeq (dIfS (dTest (d2 (pur2 (eqO false)) (d2 ixO (dV 3) (dC (.int 0))) (dC (.str "in")))) (dAug 1 (pur2 (i2 fun i j => .int (i + j))) (dC (.int 1))) (dIfS (dTest (d2 (pur2 (eqO false)) (d2 ixO (dV 3) (dC (.int 0))) (dC (.str "out")))) (dAug 1 (pur2 (i2 fun i j => .int (i - j))) (dC (.int 1))) dNext)) (dExpr (dMeth appF (dV 2) (dCons (dV 1) dNil))))) (dRet (dCall (listP fun xs => pur (some (.tup xs))) (dCons (dV 2) dNil))))))
def F_depths : List D → M D := runD N_depths.length ds_depths
theorem ok_depths {P : Program} {w : World} {K : PySem.W.Frag} {mg : Str → Option Value} {base : Heap} {f : Addr} {fd : FuncData} (T : Tx P w K mg base)  (F : FnP K "depths" s_depths f fd) : FnOk P w K mg base CX0 1 f fd ["steps"] (spF ⟨K, P, w, mg⟩ Xo0 1 F_depths) := by
  refine fn_tw (k := 0) F sc_depths fun cdv A outer s H E hr => ?_
  have nd := sc_depths.nd
  exact (ts_cons (tS_asg te_int (tg_n (i := 1) nd)) (ts_cons (tS_asg (te_lstM (ta_cons (te_v 1) ta_nil)) (tg_n (i := 2) nd)) (ts_cons (tS_for PassesOwn.never rfl (ti_tup (te_v 0)) (tg_n (i := 3) nd) (ts_cons (tS_if (tt_cmp (op_eqD hr.units) opd_eq (te_ix ix_seq opd_ix (te_v 3) te_int (fun _ _ => rfl)) te_str (nomark _)) (ts_one (tS_aug (i := 1) nd rfl (Or.inl rfl) te_int ip_add (opd_i0 fun _ _ => pln_int _))) (ts_one (tS_if (tt_cmp (op_eqD hr.units) opd_eq (te_ix ix_seq opd_ix (te_v 3) te_int (fun _ _ => rfl)) te_str (nomark _)) (ts_one (tS_aug (i := 1) nd rfl (Or.inl rfl) te_int ip_sub (opd_i0 fun _ _ => pln_int _))) ts_nil))) (ts_one (tS_expr (te_lm PySem.F.slot_list_append PySem.F.type_list_append mt_append md_app (te_v 2) (ta_cons (te_v 1) ta_nil)))))) (ts_one (tS_ret (te_ty call_tuple_of cd_tup rfl T.f_tuple (by decide +kernel) (ta_cons (te_v 2) ta_nil)))))))
/-! ### shields_at -/
def N_shields_at : List Str := ["house", "task", "number", "steps"]
theorem sc_shields_at : FnScope N_shields_at ["house", "task", "number"] (defScope s_shields_at) := ⟨rfl, rfl, rfl, by decide +kernel, rfl, by decide +kernel, by decide +kernel⟩
def ds_shields_at : En → M Out := (dSeq (dAsg (dFpX F_script_of (dCons (dV 0) (dCons (dV 1) dNil))) (gN 3)) (dSeq (dIfS (dNotT (dTest (dChain (pur2 (ordO leI leS)) (pur2 (ordO leI leS)) (dC (.int 0)) (dV 2) (dCall (lenP) (dCons (dV 3) dNil))))) (dRaise1 "NoStep" "number" (dV 2)) dNext) (dRet (d2 ixO (dFp F_depths (dCons (dV 3) dNil)) (dV 2)))))
def F_shields_at : List D → M D := runD N_shields_at.length ds_shields_at
theorem ok_shields_at {P : Program} {w : World} {K : PySem.W.Frag} {mg : Str → Option Value} {base : Heap} {f : Addr} {fd : FuncData} (T : Tx P w K mg base) (C_script_of : CalX P w K mg base 10 "script_of" 2 F_script_of) (C_depths : Cal P w K mg base 1 "depths" 1 F_depths) (F : FnP K "shields_at" s_shields_at f fd) : FnOk P w K mg base (L2.CX P w) 11 f fd ["house", "task", "number"] (spF ⟨K, P, w, mg⟩ (XoE ⟨K, P, w, mg⟩) 3 F_shields_at) := by
  refine fn_twX (k := 10) F sc_shields_at fun cdv A outer s H E hr tk => ?_
  have nd := sc_shields_at.nd
  exact (ts_cons (tS_asg (te_cX C_script_of tk (fun h => dFpX_up (lenA_cons (lenA_cons lenA_nil)) (fun _ _ _ h => h) h) (hr.mono (by first | decide | omega)) rfl (ta_cons (te_v 0) (ta_cons (te_v 1) ta_nil))) (tg_n (i := 3) nd)) (ts_cons (tS_if (tt_not (tt_chain op_leA op_leA opd_ord opd_ord te_int (te_v 2) (te_blt call_len cd_len rfl T.f_len (by decide +kernel) (ta_cons (te_v 3) ta_nil)))) (ts_one (tS_raise1 T.x_NoStep tk rfl (hr.mono (by decide)) rfl (te_v 2))) ts_nil) (ts_one (tS_ret (te_ix ix_seq opd_ix (te_c C_depths (fun h => dFp_up (lenA_cons lenA_nil) h) (hr.mono (by first | decide | omega)) rfl (ta_cons (te_v 3) ta_nil)) (te_v 2) (fun _ _ => rfl))))))
/-! ### _law_heard -/
def N_l_heard : List Str := ["_law_host", "_law_door", "_law_tag", "_law_many_so", "_law_found", "_law_wrong_so", "error_so"]
theorem sc_l_heard : FnScope N_l_heard ["_law_host", "_law_door", "_law_tag", "_law_many_so"] (defScope s_l_heard) := ⟨rfl, rfl, rfl, by decide +kernel, rfl, by decide +kernel, by decide +kernel⟩
def tabE_l_heard_0 (c : Str) : Option (List D → M D) := if c = "script_of" then some F_script_of else if c = "group_of" then some F_group_of else if c = "starter_of" then some F_starter_of else if c = "hosts_above" then some F_hosts_above else if c = "tasks_in" then some F_tasks_in else none
def tabE_l_heard_1 (c : Str) : Option (List D → M D) := if c = "host_of" then some F_host_of else if c = "closer_of" then some F_closer_of else none
def tabE_l_heard_2 (c : Str) : Option (List D → M D) := if c = "step_of" then some F_step_of else if c = "shields_at" then some F_shields_at else none
def ds_l_heard : En → M Out := (dSeq (dAsg (dTup (dCons (dC .non) (dCons (dC .non) dNil))) (gT 2 (gsCons (gN 4) (gsCons (gN 5) gsNil)))) (dSeq (dTry tab_exm 6 (dIfS (dTest (d2 (pur2 (ordO ltI ltS)) (dV 1) (dC (.int 5)))) (dAsg (dCallE tabE_l_heard_0 (d2 ixO (dLst (dCons (dC (.cls "script_of")) (dCons (dC (.cls "group_of")) (dCons (dC (.cls "starter_of")) (dCons (dC (.cls "hosts_above")) (dCons (dC (.cls "tasks_in")) dNil)))))) (dV 1)) (dCons (dV 0) (dCons (dV 2) dNil))) (gN 4)) (dIfS (dTest (d2 (pur2 (ordO ltI ltS)) (dV 1) (dC (.int 7)))) (dAsg (dCallE tabE_l_heard_1 (d2 ixO (dLst (dCons (dC (.cls "host_of")) (dCons (dC (.cls "closer_of")) dNil))) (d2 (pur2 subO) (dV 1) (dC (.int 5)))) (dCons (dV 0) (dCons (dV 2) dNil))) (gN 4)) (dAsg (dCallE tabE_l_heard_2 (d2 ixO (dLst (dCons (dC (.cls "step_of")) (dCons (dC (.cls "shields_at")) dNil))) (d2 (pur2 subO) (dV 1) (dC (.int 7)))) (dCons (dV 0) (dCons (dV 2) (dCons (dV 3) dNil)))) (gN 4)))) [("NoTask", (hSay "task" "name" tab_name tab_isx "HouseError" 5)), ("NoGroup", (hSay "group" "name" tab_name tab_isx "HouseError" 5)), ("NoStep", (hSay "step" "number" tab_number tab_isx "HouseError" 5))]) (dRet (dIf (dTest (d2 (pur2 (isNO false)) (dV 5) (dC .non))) (dV 4) (dV 5)))))
def F_l_heard : List D → M D := runD N_l_heard.length ds_l_heard
theorem ok_l_heard {P : Program} {w : World} {K : PySem.W.Frag} {mg : Str → Option Value} {base : Heap} {f : Addr} {fd : FuncData} (T : Tx P w K mg base) (C_script_of : CalX P w K mg base 10 "script_of" 2 F_script_of) (C_group_of : CalX P w K mg base 4 "group_of" 2 F_group_of) (C_starter_of : CalX P w K mg base 4 "starter_of" 2 F_starter_of) (C_host_of : CalX P w K mg base 3 "host_of" 2 F_host_of) (C_hosts_above : CalX P w K mg base 5 "hosts_above" 2 F_hosts_above) (C_tasks_in : CalX P w K mg base 4 "tasks_in" 2 F_tasks_in) (C_closer_of : CalX P w K mg base 3 "closer_of" 2 F_closer_of) (C_step_of : CalX P w K mg base 11 "step_of" 3 F_step_of) (C_shields_at : CalX P w K mg base 11 "shields_at" 3 F_shields_at) (F : FnP K "_law_heard" s_l_heard f fd) : FnOk P w K mg base CX0 12 f fd ["_law_host", "_law_door", "_law_tag", "_law_many_so"] (spF ⟨K, P, w, mg⟩ Xo0 4 F_l_heard) := by
  refine fn_tw (k := 11) F sc_l_heard fun cdv A outer s H E hr => ?_
  have nd := sc_l_heard.nd
  exact (ts_cons (tS_asg (te_tup (ta_cons te_non (ta_cons te_non ta_nil))) (tg_t rfl (tgs_cons (tg_n (i := 4) nd) (tgs_cons (tg_n (i := 5) nd) tgs_nil)))) (ts_cons (ups_F (tS_try T.exm rfl rfl nd rfl rfl takes_none5 (fun W pn xe tk po => by exact (ts_one (tS_if (tt_cmp op_ltA opd_ord (te_v 1) te_int (nomark _)) (ts_one (tS_asg (te_callE (by exact (fun c F h => by unfold tabE_l_heard_0 at h; (split at h; (next hc => (cases h; subst hc; exact ⟨_, hr.mono (by first | decide | omega), C_script_of⟩))); (split at h; (next hc => (cases h; subst hc; exact ⟨_, hr.mono (by first | decide | omega), C_group_of⟩))); (split at h; (next hc => (cases h; subst hc; exact ⟨_, hr.mono (by first | decide | omega), C_starter_of⟩))); (split at h; (next hc => (cases h; subst hc; exact ⟨_, hr.mono (by first | decide | omega), C_hosts_above⟩))); (split at h; (next hc => (cases h; subst hc; exact ⟨_, hr.mono (by first | decide | omega), C_tasks_in⟩))); cases h)) tk (lenA_cons (lenA_cons lenA_nil)) (fun _ _ _ _ h => h) (te_ix ix_seq opd_ix (te_lst (ta_cons (te_fnv rfl C_script_of.ex.choose_spec.choose_spec.choose_spec.1) (ta_cons (te_fnv rfl C_group_of.ex.choose_spec.choose_spec.choose_spec.1) (ta_cons (te_fnv rfl C_starter_of.ex.choose_spec.choose_spec.choose_spec.1) (ta_cons (te_fnv rfl C_hosts_above.ex.choose_spec.choose_spec.choose_spec.1) (ta_cons (te_fnv rfl C_tasks_in.ex.choose_spec.choose_spec.choose_spec.1) ta_nil)))))) (te_v 1) (fun _ _ => rfl)) (ta_cons (te_v 0) (ta_cons (te_v 2) ta_nil))) (tg_n (i := 4) nd))) (ts_one (tS_if (tt_cmp op_ltA opd_ord (te_v 1) te_int (nomark _)) (ts_one (tS_asg (te_callE (by exact (fun c F h => by unfold tabE_l_heard_1 at h; (split at h; (next hc => (cases h; subst hc; exact ⟨_, hr.mono (by first | decide | omega), C_host_of⟩))); (split at h; (next hc => (cases h; subst hc; exact ⟨_, hr.mono (by first | decide | omega), C_closer_of⟩))); cases h)) tk (lenA_cons (lenA_cons lenA_nil)) (fun _ _ _ _ h => h) (te_ix ix_seq opd_ix (te_lst (ta_cons (te_fnv rfl C_host_of.ex.choose_spec.choose_spec.choose_spec.1) (ta_cons (te_fnv rfl C_closer_of.ex.choose_spec.choose_spec.choose_spec.1) ta_nil))) (te_op op_sub opd_sub (te_v 1) te_int) (fun _ _ => rfl)) (ta_cons (te_v 0) (ta_cons (te_v 2) ta_nil))) (tg_n (i := 4) nd))) (ts_one (tS_asg (te_callE (by exact (fun c F h => by unfold tabE_l_heard_2 at h; (split at h; (next hc => (cases h; subst hc; exact ⟨_, hr.mono (by first | decide | omega), C_step_of⟩))); (split at h; (next hc => (cases h; subst hc; exact ⟨_, hr.mono (by first | decide | omega), C_shields_at⟩))); cases h)) tk (lenA_cons (lenA_cons (lenA_cons lenA_nil))) (fun _ _ _ _ h => h) (te_ix ix_seq opd_ix (te_lst (ta_cons (te_fnv rfl C_step_of.ex.choose_spec.choose_spec.choose_spec.1) (ta_cons (te_fnv rfl C_shields_at.ex.choose_spec.choose_spec.choose_spec.1) ta_nil))) (te_op op_sub opd_sub (te_v 1) te_int) (fun _ _ => rfl)) (ta_cons (te_v 0) (ta_cons (te_v 2) (ta_cons (te_v 3) ta_nil)))) (tg_n (i := 4) nd)))))))) (.cons rfl T.c_NoTask (by decide) (fun a o cls d pn hz hf => by exact (by apply pss_say <;> first | exact T.a_name | exact T.isx | exact hz | exact hf | exact nd | rfl | exact Or.inl rfl | exact T.f_isinstance | decide)) (.cons rfl T.c_NoGroup (by decide) (fun a o cls d pn hz hf => by exact (by apply pss_say <;> first | exact T.a_name | exact T.isx | exact hz | exact hf | exact nd | rfl | exact Or.inl rfl | exact T.f_isinstance | decide)) (.cons rfl T.c_NoStep (by decide) (fun a o cls d pn hz hf => by exact (by apply pss_say <;> first | exact T.a_number | exact T.isx | exact hz | exact hf | exact nd | rfl | exact Or.inl rfl | exact T.f_isinstance | decide)) .nil))))) (ts_one (tS_ret (te_if (tt_cmp op_isN opd_isN (te_v 5) te_non (nomark _)) (te_v 4) (te_v 5))))))
/-! ### room_of -/
def N_room_of : List Str := ["house", "queue", "row"]
theorem sc_room_of : FnScope N_room_of ["house", "queue"] (defScope s_room_of) := ⟨rfl, rfl, rfl, by decide +kernel, rfl, by decide +kernel, by decide +kernel⟩
def ds_room_of : En → M Out := (dSeq (dFor (dItQ (d2 ixO (dV 0) (dC (.int 2)))) (gN 2) (dIfS (dTest (d2 (pur2 (eqO false)) (d2 ixO (dV 2) (dC (.int 0))) (dV 1))) (dRet (d2 ixO (dV 2) (dC (.int 1)))) dNext)) (dRet (dC (.int 0))))
def F_room_of : List D → M D := runD N_room_of.length ds_room_of
theorem ok_room_of {P : Program} {w : World} {K : PySem.W.Frag} {mg : Str → Option Value} {base : Heap} {f : Addr} {fd : FuncData} (T : Tx P w K mg base)  (F : FnP K "room_of" s_room_of f fd) : FnOk P w K mg base CX0 1 f fd ["house", "queue"] (spF ⟨K, P, w, mg⟩ Xo0 2 F_room_of) := by
  refine fn_tw (k := 0) F sc_room_of fun cdv A outer s H E hr => ?_
  have nd := sc_room_of.nd
  exact (ts_cons (tS_for PassesOwn.never rfl (ti_q (te_ix ix_seq opd_ix (te_v 0) te_int (fun _ _ => rfl))) (tg_n (i := 2) nd) (ts_one (tS_if (tt_cmp (op_eqD hr.units) opd_eq (te_ix ix_seq opd_ix (te_v 2) te_int (fun _ _ => rfl)) (te_v 1) (nomark _)) (ts_one (tS_ret (te_ix ix_seq opd_ix (te_v 2) te_int (fun _ _ => rfl)))) ts_nil))) (ts_one (tS_ret te_int)))
/-! ### all_marks -/
def N_all_marks : List Str := ["house", "row", "number"]
theorem sc_all_marks : FnScope N_all_marks ["house"] (defScope s_all_marks) := ⟨rfl, rfl, rfl, by decide +kernel, rfl, by decide +kernel, by decide +kernel⟩
def ds_all_marks : En → M Out := (dRet (dCall (listP fun xs => pur (some (.tup xs))) (dCons (dLc2 (dItQ (d2 ixO (dV 0) (dC (.int 0)))) (gN 1) dYes (dRng rng1 (dCons (dCall (lenP) (dCons (d2 ixO (dV 1) (dC (.int 2))) dNil)) dNil)) (gN 2) dYes (dTup (dCons (d2 ixO (dV 1) (dC (.int 0))) (dCons (dV 2) dNil))) [1, 2] [2]) dNil)))
def F_all_marks : List D → M D := runD N_all_marks.length ds_all_marks
theorem ok_all_marks {P : Program} {w : World} {K : PySem.W.Frag} {mg : Str → Option Value} {base : Heap} {f : Addr} {fd : FuncData} (T : Tx P w K mg base)  (F : FnP K "all_marks" s_all_marks f fd) : FnOk P w K mg base CX0 1 f fd ["house"] (spF ⟨K, P, w, mg⟩ Xo0 1 F_all_marks) := by
  refine fn_tw (k := 0) F sc_all_marks fun cdv A outer s H E hr => ?_
  have nd := sc_all_marks.nd
  exact (ts_one (tS_ret (te_ty call_tuple_of cd_tup rfl T.f_tuple (by decide +kernel) (ta_cons (by exact te_lc2 (own := [(("row" : Str), 1), (("number" : Str), 2)]) (vs1 := [2]) rfl nd (by exact (ti_q (te_ix ix_seq opd_ix (te_v 0) te_int (fun _ _ => rfl)))) (blkOk_by (N := N_all_marks) (sc := defScope s_all_marks) (own := [(("row" : Str), 1), (("number" : Str), 2)]) (by decide +kernel)) (by decide) (raw_n (by decide)) (raw_n (by decide)) (fun _ _ _ _ _ => by exact (pg_name (i := 1) nd rfl (by first | exact Or.inl rfl | exact Or.inr rfl))) (fun _ _ _ _ _ => by exact tts_nil) (fun _ _ _ _ _ => by exact (ti_rng1 rfl T.f_range (ta_cons (te_blt call_len cd_len rfl T.f_len (by decide +kernel) (ta_cons (te_ix ix_seq opd_ix (te_v 1) te_int (fun _ _ => rfl)) ta_nil)) ta_nil))) (fun _ _ _ _ _ => by exact (pg_name (i := 2) nd rfl (by first | exact Or.inl rfl | exact Or.inr rfl))) (fun _ _ _ _ _ => by exact tts_nil) (fun _ _ _ _ _ => by exact (te_tup (ta_cons (te_ix ix_seq opd_ix (te_v 1) te_int (fun _ _ => rfl)) (ta_cons (te_v 2) ta_nil))))) ta_nil))))
/-! ### _law_by_hand_right -/
def N_l_by_hand_right : List Str := ["_law_b_so", "_law_a_so", "_law_deep", "_law_got", "_law_due", "_law_soft", "_law_k", "_law_door", "_law_own"]
theorem sc_l_by_hand_right : FnScope N_l_by_hand_right [] (defScope s_l_by_hand_right) := ⟨rfl, rfl, rfl, by decide +kernel, rfl, by decide +kernel, by decide +kernel⟩
def ds_l_by_hand_right : En → M Out := (dSeq (dAsg (dTup (dCons (dC (.str "b")) (dCons (dC (.str "g")) (dCons (dTup (dCons (dTup (dCons (dC (.str "start")) (dCons (dC (.str "c")) dNil))) (dCons (dTup (dCons (dC (.str "in")) dNil)) (dCons (dTup (dCons (dC (.str "get")) (dCons (dC (.str "q")) (dCons (dC (.int 3)) dNil)))) (dCons (dTup (dCons (dC (.str "in")) dNil)) (dCons (dTup (dCons (dC (.str "out")) dNil)) (dCons (dTup (dCons (dC (.str "out")) dNil)) (dCons (dTup (dCons (dC (.str "catch")) (dCons (dC (.str "h")) dNil))) dNil)))))))) dNil)))) (gN 0)) (dSeq (dAsg (dTup (dCons (dC (.str "a")) (dCons (dC (.str "")) (dCons (dTup (dCons (dTup (dCons (dC (.str "start")) (dCons (dC (.str "b")) dNil))) (dCons (dTup (dCons (dC (.str "set")) (dCons (dC (.str "s")) dNil))) (dCons (dTup (dCons (dC (.str "close")) (dCons (dC (.str "g")) dNil))) (dCons (dTup (dCons (dC (.str "hear")) (dCons (dC (.str "t")) (dCons (dTup dNil) dNil)))) dNil))))) dNil)))) (gN 1)) (dSeq (dAsg (dTup (dCons (dTup (dCons (dV 1) (dCons (dV 0) (dCons (dTup (dCons (dC (.str "c")) (dCons (dC (.str "h")) (dCons (dTup (dCons (dTup (dCons (dC (.str "put")) (dCons (dC (.str "p")) dNil))) dNil)) dNil)))) (dCons (dTup (dCons (dC (.str "d")) (dCons (dC (.str "")) (dCons (dTup dNil) dNil)))) dNil))))) (dCons (dTup (dCons (dTup (dCons (dC (.str "g")) (dCons (dC (.str "a")) dNil))) (dCons (dTup (dCons (dC (.str "h")) (dCons (dC (.str "b")) dNil))) dNil))) (dCons (dTup (dCons (dTup (dCons (dC (.str "x")) (dCons (dC (.int 2)) dNil))) dNil)) dNil)))) (gN 2)) (dSeq (dAsg (dLst (dCons (dFp F_task_names (dCons (dV 2) dNil)) (dCons (dFp F_queue_names (dCons (dV 2) dNil)) (dCons (dFp F_signal_names (dCons (dV 2) dNil)) dNil)))) (gN 3)) (dSeq (dAsg (d2 (catP okL) (dV 3) (dLst (dCons (dFp F_first_tasks (dCons (dV 2) dNil)) (dCons (dCall (lenP) (dCons (dFp F_all_marks (dCons (dV 2) dNil)) dNil)) (dCons (dSl (dFp F_all_marks (dCons (dV 2) dNil)) (dP (dC (.int 3))) (dP (dC (.int 6)))) dNil))))) (gN 3)) (dSeq (dAsg (dLst (dCons (dTup (dCons (dC (.str "a")) (dCons (dC (.str "b")) (dCons (dC (.str "c")) (dCons (dC (.str "d")) dNil))))) (dCons (dTup (dCons (dC (.str "p")) (dCons (dC (.str "q")) (dCons (dC (.str "x")) dNil)))) (dCons (dTup (dCons (dC (.str "s")) (dCons (dC (.str "t")) dNil))) dNil)))) (gN 4)) (dSeq (dAsg (d2 (catP okL) (dV 4) (dLst (dCons (dTup (dCons (dC (.str "a")) (dCons (dC (.str "d")) dNil))) (dCons (dC (.int 12)) (dCons (dTup (dCons (dTup (dCons (dC (.str "a")) (dCons (dC (.int 3)) dNil))) (dCons (dTup (dCons (dC (.str "b")) (dCons (dC (.int 0)) dNil))) (dCons (dTup (dCons (dC (.str "b")) (dCons (dC (.int 1)) dNil))) dNil)))) dNil))))) (gN 4)) (dSeq (dAsg (d2 (catP okL) (dV 3) (dLst (dCons (dLc (dRng rng1 (dCons (dC (.int 9)) dNil)) (gN 6) dYes (dFp F_l_heard (dCons (dV 2) (dCons (dC (.int 8)) (dCons (dC (.str "b")) (dCons (dV 6) dNil))))) [6]) dNil))) (gN 3)) (dSeq (dAsg (d2 (catP okL) (dV 3) (dLst (dCons (dLc (dItT (dTup (dCons (dC (.int 0)) (dCons (dC (.int 1)) (dCons (dNeg (dC (.int 1))) dNil))))) (gN 6) dYes (dFp F_l_heard (dCons (dV 2) (dCons (dC (.int 8)) (dCons (dC (.str "d")) (dCons (dV 6) dNil))))) [6]) dNil))) (gN 3)) (dSeq (dAsg (d2 (catP okL) (dV 4) (dLst (dCons (dLst (dCons (dC (.int 0)) (dCons (dC (.int 0)) (dCons (dC (.int 1)) (dCons (dC (.int 1)) (dCons (dC (.int 2)) (dCons (dC (.int 1)) (dCons (dC (.int 0)) (dCons (dC (.int 0)) (dCons (dLst (dCons (dC (.str "step")) (dCons (dC (.int 8)) (dCons (dC (.bl true)) dNil)))) dNil)))))))))) (dCons (dLst (dCons (dC (.int 0)) (dCons (dLst (dCons (dC (.str "step")) (dCons (dC (.int 1)) (dCons (dC (.bl true)) dNil)))) (dCons (dLst (dCons (dC (.str "step")) (dCons (dNeg (dC (.int 1))) (dCons (dC (.bl true)) dNil)))) dNil)))) dNil)))) (gN 4)) (dSeq (dAsg (d2 (catP okL) (dV 3) (dLst (dCons (dLc (dRng rng1 (dCons (dC (.int 8)) dNil)) (gN 7) dYes (dFp F_l_heard (dCons (dV 2) (dCons (dV 7) (dCons (dC (.str "c")) (dCons (dC (.int 0)) dNil))))) [7]) dNil))) (gN 3)) (dSeq (dAsg (d2 (catP okL) (dV 4) (dLst (dCons (dLstM (dCons (dTup (dCons (dTup (dCons (dC (.str "put")) (dCons (dC (.str "p")) dNil))) dNil)) (dCons (dC (.str "h")) (dCons (dTup (dCons (dC (.str "b")) (dCons (dC (.int 0)) dNil))) (dCons (dTup (dCons (dC (.str "b")) (dCons (dC (.str "a")) dNil))) (dCons (dLst (dCons (dC (.str "group")) (dCons (dC (.str "c")) (dCons (dC (.bl true)) dNil)))) (dCons (dLst (dCons (dC (.str "group")) (dCons (dC (.str "c")) (dCons (dC (.bl true)) dNil)))) (dCons (dLst (dCons (dC (.str "group")) (dCons (dC (.str "c")) (dCons (dC (.bl true)) dNil)))) dNil)))))))) dNil))) (gN 4)) (dSeq (dExpr (dMeth appF (d2 ixO (dV 4) (dNeg (dC (.int 1)))) (dCons (dTup (dCons (dC (.str "put")) (dCons (dC (.str "p")) dNil))) dNil))) (sFrzL 4 (dSeq (dAsg (d2 (catP okL) (dV 3) (dLst (dCons (dLc (dRng rng1 (dCons (dC (.int 9)) dNil)) (gN 7) dYes (dFp F_l_heard (dCons (dV 2) (dCons (dV 7) (dCons (dC (.str "h")) (dCons (dC (.int 0)) dNil))))) [7]) dNil))) (gN 3)) (dSeq (dAsg (d2 (catP okL) (dV 4) (dLst (dCons (d2 (catP okL) (d2 (repP) (dLst (dCons (dLst (dCons (dC (.str "task")) (dCons (dC (.str "h")) (dCons (dC (.bl true)) dNil)))) dNil)) (dC (.int 4))) (dLst (dCons (dTup (dCons (dC (.str "c")) dNil)) (dCons (dC (.str "b")) (dCons (dTup (dCons (dC (.str "b")) (dCons (dC (.int 6)) dNil))) (dCons (dLst (dCons (dC (.str "task")) (dCons (dC (.str "h")) (dCons (dC (.bl true)) dNil)))) (dCons (dLst (dCons (dC (.str "task")) (dCons (dC (.str "h")) (dCons (dC (.bl true)) dNil)))) dNil))))))) dNil))) (gN 4)) (dSeq (dAsg (d2 (catP okL) (dV 3) (dLst (dCons (dLc (dItS (dC (.str "ad"))) (gN 8) dYes (dFp F_l_heard (dCons (dV 2) (dCons (dC (.int 2)) (dCons (dV 8) (dCons (dC (.int 0)) dNil))))) [8]) dNil))) (gN 3)) (dSeq (dAsg (d2 (catP okL) (dV 3) (dLst (dCons (dLc (dItS (dC (.str "ab"))) (gN 8) dYes (dFp F_l_heard (dCons (dV 2) (dCons (dC (.int 3)) (dCons (dV 8) (dCons (dC (.int 0)) dNil))))) [8]) dNil))) (gN 3)) (dSeq (dAsg (d2 (catP okL) (dV 4) (dLst (dCons (dLst (dCons (dTup dNil) (dCons (dTup dNil) dNil))) (dCons (dLst (dCons (dTup dNil) (dCons (dTup (dCons (dC (.str "a")) dNil)) dNil))) dNil)))) (gN 4)) (dSeq (dAsg (d2 (catP okL) (dV 3) (dLst (dCons (dFp F_l_heard (dCons (dV 2) (dCons (dC (.int 7)) (dCons (dC (.str "a")) (dCons (dC (.int 4)) dNil))))) (dCons (dFp F_l_heard (dCons (dV 2) (dCons (dC (.int 7)) (dCons (dC (.str "nix")) (dCons (dC (.int 9)) dNil))))) dNil)))) (gN 3)) (dSeq (dAsg (d2 (catP okL) (dV 3) (dLst (dCons (dLc (dItT (dTup (dCons (dC (.str "x")) (dCons (dC (.str "q")) (dCons (dC (.str "")) (dCons (dC (.str "nix")) dNil)))))) (gN 8) dYes (dFp F_room_of (dCons (dV 2) (dCons (dV 8) dNil))) [8]) dNil))) (gN 3)) (dSeq (dAsg (d2 (catP okL) (dV 4) (dLst (dCons (dLst (dCons (dC (.str "step")) (dCons (dC (.int 4)) (dCons (dC (.bl true)) dNil)))) (dCons (dLst (dCons (dC (.str "task")) (dCons (dC (.str "nix")) (dCons (dC (.bl true)) dNil)))) (dCons (dLst (dCons (dC (.int 2)) (dCons (dC (.int 0)) (dCons (dC (.int 0)) (dCons (dC (.int 0)) dNil))))) dNil))))) (gN 4)) (dSeq (dAsg (dFp (F_l_lists 8) (dCons (dV 2) dNil)) (gN 5)) (dSeq (dAsg (d2 (catP okL) (dV 3) (dLst (dCons (dFpK F_task_names [0] 1 (dCons (dV 5) dNil)) (dCons (dFpK F_queue_names [0] 1 (dCons (dV 5) dNil)) dNil)))) (gN 3)) (dSeq (dAsg (d2 (catP okL) (dV 3) (dLst (dCons (dFpK F_signal_names [0] 1 (dCons (dV 5) dNil)) (dCons (dFpK F_first_tasks [0] 1 (dCons (dV 5) dNil)) dNil)))) (gN 3)) (dSeq (dAsg (d2 (catP okL) (dV 4) (dLst (dCons (dTup (dCons (dC (.str "a")) (dCons (dC (.str "b")) (dCons (dC (.str "c")) (dCons (dC (.str "d")) dNil))))) (dCons (dTup (dCons (dC (.str "p")) (dCons (dC (.str "q")) (dCons (dC (.str "x")) dNil)))) (dCons (dTup (dCons (dC (.str "s")) (dCons (dC (.str "t")) dNil))) (dCons (dTup (dCons (dC (.str "a")) (dCons (dC (.str "d")) dNil))) dNil)))))) (gN 4)) (dSeq (dAsg (d2 (catP okL) (dV 3) (dLst (dCons (dFpK F_script_of [1, 0] 2 (dCons (dC (.str "c")) (dCons (dV 5) dNil))) (dCons (dFpK F_group_of [1, 0] 2 (dCons (dC (.str "b")) (dCons (dV 5) dNil))) dNil)))) (gN 3)) (dSeq (dAsg (d2 (catP okL) (dV 3) (dLst (dCons (dFpK F_step_of [2, 1, 0] 3 (dCons (dC (.int 2)) (dCons (dC (.str "b")) (dCons (dV 5) dNil)))) dNil))) (gN 3)) (dSeq (dAsg (d2 (catP okL) (dV 4) (dLst (dCons (dTup (dCons (dTup (dCons (dC (.str "put")) (dCons (dC (.str "p")) dNil))) dNil)) (dCons (dC (.str "g")) (dCons (dTup (dCons (dC (.str "get")) (dCons (dC (.str "q")) (dCons (dC (.int 3)) dNil)))) dNil))))) (gN 4)) (dSeq (dAsg (d2 (catP okL) (dV 3) (dLst (dCons (dFpK F_shields_at [2, 1, 0] 3 (dCons (dC (.int 4)) (dCons (dC (.str "b")) (dCons (dV 5) dNil)))) (dCons (dCall (lenP) (dCons (dFpK F_all_marks [0] 1 (dCons (dV 5) dNil)) dNil)) dNil)))) (gN 3)) (dSeq (dAsg (d2 (catP okL) (dV 3) (dLst (dCons (dFpK F_starter_of [1, 0] 2 (dCons (dC (.str "b")) (dCons (dV 5) dNil))) dNil))) (gN 3)) (dSeq (dAsg (d2 (catP okL) (dV 3) (dLst (dCons (dFpK F_hosts_above [1, 0] 2 (dCons (dC (.str "c")) (dCons (dV 5) dNil))) (dCons (dFpK F_tasks_in [1, 0] 2 (dCons (dC (.str "g")) (dCons (dV 5) dNil))) dNil)))) (gN 3)) (dSeq (dAsg (d2 (catP okL) (dV 3) (dLst (dCons (dFpK F_host_of [1, 0] 2 (dCons (dC (.str "h")) (dCons (dV 5) dNil))) dNil))) (gN 3)) (dSeq (dAsg (d2 (catP okL) (dV 3) (dLst (dCons (dFpK F_closer_of [1, 0] 2 (dCons (dC (.str "g")) (dCons (dV 5) dNil))) (dCons (dFpK F_room_of [1, 0] 2 (dCons (dC (.str "x")) (dCons (dV 5) dNil))) dNil)))) (gN 3)) (dRet (dFp (F_l_same 8) (dCons (dWkA (dV 3)) (dCons (dWkA (d2 (catP okL) (dV 4) (dLst (dCons (dC (.int 2)) (dCons (dC (.int 12)) (dCons (dTup (dCons (dC (.str "a")) (dCons (dC (.int 0)) dNil))) (dCons (dTup (dCons (dC (.str "b")) (dCons (dC (.str "a")) dNil))) (dCons (dTup (dCons (dC (.str "b")) dNil)) (dCons (dC (.str "b")) (dCons (dTup (dCons (dC (.str "a")) (dCons (dC (.int 2)) dNil))) (dCons (dC (.int 2)) dNil))))))))))) dNil))))))))))))))))))))))))))))))))))))))
def F_l_by_hand_right : List D → M D := runD N_l_by_hand_right.length ds_l_by_hand_right
theorem ok_l_by_hand_right {P : Program} {w : World} {K : PySem.W.Frag} {mg : Str → Option Value} {base : Heap} {f : Addr} {fd : FuncData} (T : Tx P w K mg base) (C_l_lists : Cal P w K mg base 9 "_law_lists" 1 (F_l_lists 8)) (C_l_same : Cal P w K mg base 9 "_law_same" 2 (F_l_same 8)) (C_task_names : Cal P w K mg base 1 "task_names" 1 F_task_names) (C_queue_names : Cal P w K mg base 2 "queue_names" 1 F_queue_names) (C_signal_names : Cal P w K mg base 2 "signal_names" 1 F_signal_names) (C_first_tasks : Cal P w K mg base 2 "first_tasks" 1 F_first_tasks) (C_l_heard : Cal P w K mg base 12 "_law_heard" 4 F_l_heard) (C_room_of : Cal P w K mg base 1 "room_of" 2 F_room_of) (C_all_marks : Cal P w K mg base 1 "all_marks" 1 F_all_marks) (CK_task_names : CalK P w K mg base CX0 Xo0 1 "task_names" ["house"] [0] 1 F_task_names) (CK_queue_names : CalK P w K mg base CX0 Xo0 2 "queue_names" ["house"] [0] 1 F_queue_names) (CK_signal_names : CalK P w K mg base CX0 Xo0 2 "signal_names" ["house"] [0] 1 F_signal_names) (CK_first_tasks : CalK P w K mg base CX0 Xo0 2 "first_tasks" ["house"] [0] 1 F_first_tasks) (CK_script_of : CalK P w K mg base (L2.CX P w) (XoE ⟨K, P, w, mg⟩) 10 "script_of" ["task", "house"] [1, 0] 2 F_script_of) (CK_group_of : CalK P w K mg base (L2.CX P w) (XoE ⟨K, P, w, mg⟩) 4 "group_of" ["task", "house"] [1, 0] 2 F_group_of) (CK_step_of : CalK P w K mg base (L2.CX P w) (XoE ⟨K, P, w, mg⟩) 11 "step_of" ["number", "task", "house"] [2, 1, 0] 3 F_step_of) (CK_shields_at : CalK P w K mg base (L2.CX P w) (XoE ⟨K, P, w, mg⟩) 11 "shields_at" ["number", "task", "house"] [2, 1, 0] 3 F_shields_at) (CK_all_marks : CalK P w K mg base CX0 Xo0 1 "all_marks" ["house"] [0] 1 F_all_marks) (CK_starter_of : CalK P w K mg base (L2.CX P w) (XoE ⟨K, P, w, mg⟩) 4 "starter_of" ["task", "house"] [1, 0] 2 F_starter_of) (CK_hosts_above : CalK P w K mg base (L2.CX P w) (XoE ⟨K, P, w, mg⟩) 5 "hosts_above" ["task", "house"] [1, 0] 2 F_hosts_above) (CK_tasks_in : CalK P w K mg base (L2.CX P w) (XoE ⟨K, P, w, mg⟩) 4 "tasks_in" ["group", "house"] [1, 0] 2 F_tasks_in) (CK_host_of : CalK P w K mg base (L2.CX P w) (XoE ⟨K, P, w, mg⟩) 3 "host_of" ["group", "house"] [1, 0] 2 F_host_of) (CK_closer_of : CalK P w K mg base (L2.CX P w) (XoE ⟨K, P, w, mg⟩) 3 "closer_of" ["group", "house"] [1, 0] 2 F_closer_of) (CK_room_of : CalK P w K mg base CX0 Xo0 1 "room_of" ["queue", "house"] [1, 0] 2 F_room_of) (F : FnP K "_law_by_hand_right" s_l_by_hand_right f fd) : FnOk P w K mg base CX0 13 f fd [] (spF ⟨K, P, w, mg⟩ Xo0 0 F_l_by_hand_right) := by
  refine fn_tw (k := 12) F sc_l_by_hand_right fun cdv A outer s H E hr => ?_
  have nd := sc_l_by_hand_right.nd
  exact (ts_cons (tS_asg (te_tup (ta_cons te_str (ta_cons te_str (ta_cons (te_tup (ta_cons (te_tup (ta_cons te_str (ta_cons te_str ta_nil))) (ta_cons (te_tup (ta_cons te_str ta_nil)) (ta_cons (te_tup (ta_cons te_str (ta_cons te_str (ta_cons te_int ta_nil)))) (ta_cons (te_tup (ta_cons te_str ta_nil)) (ta_cons (te_tup (ta_cons te_str ta_nil)) (ta_cons (te_tup (ta_cons te_str ta_nil)) (ta_cons (te_tup (ta_cons te_str (ta_cons te_str ta_nil))) ta_nil)))))))) ta_nil)))) (tg_n (i := 0) nd)) (ts_cons (tS_asg (te_tup (ta_cons te_str (ta_cons te_str (ta_cons (te_tup (ta_cons (te_tup (ta_cons te_str (ta_cons te_str ta_nil))) (ta_cons (te_tup (ta_cons te_str (ta_cons te_str ta_nil))) (ta_cons (te_tup (ta_cons te_str (ta_cons te_str ta_nil))) (ta_cons (te_tup (ta_cons te_str (ta_cons te_str (ta_cons (te_tup ta_nil) ta_nil)))) ta_nil))))) ta_nil)))) (tg_n (i := 1) nd)) (ts_cons (tS_asg (te_tup (ta_cons (te_tup (ta_cons (te_v 1) (ta_cons (te_v 0) (ta_cons (te_tup (ta_cons te_str (ta_cons te_str (ta_cons (te_tup (ta_cons (te_tup (ta_cons te_str (ta_cons te_str ta_nil))) ta_nil)) ta_nil)))) (ta_cons (te_tup (ta_cons te_str (ta_cons te_str (ta_cons (te_tup ta_nil) ta_nil)))) ta_nil))))) (ta_cons (te_tup (ta_cons (te_tup (ta_cons te_str (ta_cons te_str ta_nil))) (ta_cons (te_tup (ta_cons te_str (ta_cons te_str ta_nil))) ta_nil))) (ta_cons (te_tup (ta_cons (te_tup (ta_cons te_str (ta_cons te_int ta_nil))) ta_nil)) ta_nil)))) (tg_n (i := 2) nd)) (ts_cons (tS_asg (te_lst (ta_cons (te_c C_task_names (fun h => dFp_up (lenA_cons lenA_nil) h) (hr.mono (by first | decide | omega)) rfl (ta_cons (te_v 2) ta_nil)) (ta_cons (te_c C_queue_names (fun h => dFp_up (lenA_cons lenA_nil) h) (hr.mono (by first | decide | omega)) rfl (ta_cons (te_v 2) ta_nil)) (ta_cons (te_c C_signal_names (fun h => dFp_up (lenA_cons lenA_nil) h) (hr.mono (by first | decide | omega)) rfl (ta_cons (te_v 2) ta_nil)) ta_nil)))) (tg_n (i := 3) nd)) (ts_cons (tS_asg (te_op op_cat opd_cat (te_v 3) (te_lst (ta_cons (te_c C_first_tasks (fun h => dFp_up (lenA_cons lenA_nil) h) (hr.mono (by first | decide | omega)) rfl (ta_cons (te_v 2) ta_nil)) (ta_cons (te_blt call_len cd_len rfl T.f_len (by decide +kernel) (ta_cons (te_c C_all_marks (fun h => dFp_up (lenA_cons lenA_nil) h) (hr.mono (by first | decide | omega)) rfl (ta_cons (te_v 2) ta_nil)) ta_nil)) (ta_cons (te_sl (te_c C_all_marks (fun h => dFp_up (lenA_cons lenA_nil) h) (hr.mono (by first | decide | omega)) rfl (ta_cons (te_v 2) ta_nil)) (to_some te_int) (to_some te_int)) ta_nil))))) (tg_n (i := 3) nd)) (ts_cons (tS_asg (te_lst (ta_cons (te_tup (ta_cons te_str (ta_cons te_str (ta_cons te_str (ta_cons te_str ta_nil))))) (ta_cons (te_tup (ta_cons te_str (ta_cons te_str (ta_cons te_str ta_nil)))) (ta_cons (te_tup (ta_cons te_str (ta_cons te_str ta_nil))) ta_nil)))) (tg_n (i := 4) nd)) (ts_cons (tS_asg (te_op op_cat opd_cat (te_v 4) (te_lst (ta_cons (te_tup (ta_cons te_str (ta_cons te_str ta_nil))) (ta_cons te_int (ta_cons (te_tup (ta_cons (te_tup (ta_cons te_str (ta_cons te_int ta_nil))) (ta_cons (te_tup (ta_cons te_str (ta_cons te_int ta_nil))) (ta_cons (te_tup (ta_cons te_str (ta_cons te_int ta_nil))) ta_nil)))) ta_nil))))) (tg_n (i := 4) nd)) (ts_cons (tS_asg (te_op op_cat opd_cat (te_v 3) (te_lst (ta_cons (by exact te_lc (own := [(("_law_k" : Str), 6)]) rfl nd (by exact (ti_rng1 rfl T.f_range (ta_cons te_int ta_nil))) (blkOk_by (N := N_l_by_hand_right) (sc := defScope s_l_by_hand_right) (own := [(("_law_k" : Str), 6)]) (by decide +kernel)) (raw_n (by decide)) (fun _ _ _ _ _ => by exact (pg_name (i := 6) nd rfl (by first | exact Or.inl rfl | exact Or.inr rfl))) (fun _ _ _ _ _ => by exact tts_nil) (fun _ _ _ _ _ => by exact (te_c C_l_heard (fun h => dFp_up (lenA_cons (lenA_cons (lenA_cons (lenA_cons lenA_nil)))) h) (hr.mono (by first | decide | omega)) rfl (ta_cons (te_v 2) (ta_cons te_int (ta_cons te_str (ta_cons (te_v 6) ta_nil))))))) ta_nil))) (tg_n (i := 3) nd)) (ts_cons (tS_asg (te_op op_cat opd_cat (te_v 3) (te_lst (ta_cons (by exact te_lc (own := [(("_law_k" : Str), 6)]) rfl nd (by exact (ti_tup (te_tup (ta_cons te_int (ta_cons te_int (ta_cons (te_neg te_int) ta_nil)))))) (blkOk_by (N := N_l_by_hand_right) (sc := defScope s_l_by_hand_right) (own := [(("_law_k" : Str), 6)]) (by decide +kernel)) (raw_n (by decide)) (fun _ _ _ _ _ => by exact (pg_name (i := 6) nd rfl (by first | exact Or.inl rfl | exact Or.inr rfl))) (fun _ _ _ _ _ => by exact tts_nil) (fun _ _ _ _ _ => by exact (te_c C_l_heard (fun h => dFp_up (lenA_cons (lenA_cons (lenA_cons (lenA_cons lenA_nil)))) h) (hr.mono (by first | decide | omega)) rfl (ta_cons (te_v 2) (ta_cons te_int (ta_cons te_str (ta_cons (te_v 6) ta_nil))))))) ta_nil))) (tg_n (i := 3) nd)) (ts_cons (tS_asg (te_op op_cat opd_cat (te_v 4) (te_lst (ta_cons (te_lst (ta_cons te_int (ta_cons te_int (ta_cons te_int (ta_cons te_int (ta_cons te_int (ta_cons te_int (ta_cons te_int (ta_cons te_int (ta_cons (te_lst (ta_cons te_str (ta_cons te_int (ta_cons te_bl ta_nil)))) ta_nil)))))))))) (ta_cons (te_lst (ta_cons te_int (ta_cons (te_lst (ta_cons te_str (ta_cons te_int (ta_cons te_bl ta_nil)))) (ta_cons (te_lst (ta_cons te_str (ta_cons (te_neg te_int) (ta_cons te_bl ta_nil)))) ta_nil)))) ta_nil)))) (tg_n (i := 4) nd)) (ts_cons (tS_asg (te_op op_cat opd_cat (te_v 3) (te_lst (ta_cons (by exact te_lc (own := [(("_law_door" : Str), 7)]) rfl nd (by exact (ti_rng1 rfl T.f_range (ta_cons te_int ta_nil))) (blkOk_by (N := N_l_by_hand_right) (sc := defScope s_l_by_hand_right) (own := [(("_law_door" : Str), 7)]) (by decide +kernel)) (raw_n (by decide)) (fun _ _ _ _ _ => by exact (pg_name (i := 7) nd rfl (by first | exact Or.inl rfl | exact Or.inr rfl))) (fun _ _ _ _ _ => by exact tts_nil) (fun _ _ _ _ _ => by exact (te_c C_l_heard (fun h => dFp_up (lenA_cons (lenA_cons (lenA_cons (lenA_cons lenA_nil)))) h) (hr.mono (by first | decide | omega)) rfl (ta_cons (te_v 2) (ta_cons (te_v 7) (ta_cons te_str (ta_cons te_int ta_nil))))))) ta_nil))) (tg_n (i := 3) nd)) (ts_cons (tS_asg (te_op op_cat opd_cat (te_v 4) (te_lst (ta_cons (te_lstM (ta_cons (te_tup (ta_cons (te_tup (ta_cons te_str (ta_cons te_str ta_nil))) ta_nil)) (ta_cons te_str (ta_cons (te_tup (ta_cons te_str (ta_cons te_int ta_nil))) (ta_cons (te_tup (ta_cons te_str (ta_cons te_str ta_nil))) (ta_cons (te_lst (ta_cons te_str (ta_cons te_str (ta_cons te_bl ta_nil)))) (ta_cons (te_lst (ta_cons te_str (ta_cons te_str (ta_cons te_bl ta_nil)))) (ta_cons (te_lst (ta_cons te_str (ta_cons te_str (ta_cons te_bl ta_nil)))) ta_nil)))))))) ta_nil))) (tg_n (i := 4) nd)) (ts_cons (tS_expr (te_lm PySem.F.slot_list_append PySem.F.type_list_append mt_append md_app (te_ix ix_seq opd_ix (te_v 4) (te_neg te_int) (fun _ _ => rfl)) (ta_cons (te_tup (ta_cons te_str (ta_cons te_str ta_nil))) ta_nil))) (ts_frzL 4 (ts_cons (tS_asg (te_op op_cat opd_cat (te_v 3) (te_lst (ta_cons (by exact te_lc (own := [(("_law_door" : Str), 7)]) rfl nd (by exact (ti_rng1 rfl T.f_range (ta_cons te_int ta_nil))) (blkOk_by (N := N_l_by_hand_right) (sc := defScope s_l_by_hand_right) (own := [(("_law_door" : Str), 7)]) (by decide +kernel)) (raw_n (by decide)) (fun _ _ _ _ _ => by exact (pg_name (i := 7) nd rfl (by first | exact Or.inl rfl | exact Or.inr rfl))) (fun _ _ _ _ _ => by exact tts_nil) (fun _ _ _ _ _ => by exact (te_c C_l_heard (fun h => dFp_up (lenA_cons (lenA_cons (lenA_cons (lenA_cons lenA_nil)))) h) (hr.mono (by first | decide | omega)) rfl (ta_cons (te_v 2) (ta_cons (te_v 7) (ta_cons te_str (ta_cons te_int ta_nil))))))) ta_nil))) (tg_n (i := 3) nd)) (ts_cons (tS_asg (te_op op_cat opd_cat (te_v 4) (te_lst (ta_cons (te_op op_cat opd_cat (te_op op_rep opd_rep (te_lst (ta_cons (te_lst (ta_cons te_str (ta_cons te_str (ta_cons te_bl ta_nil)))) ta_nil)) te_int) (te_lst (ta_cons (te_tup (ta_cons te_str ta_nil)) (ta_cons te_str (ta_cons (te_tup (ta_cons te_str (ta_cons te_int ta_nil))) (ta_cons (te_lst (ta_cons te_str (ta_cons te_str (ta_cons te_bl ta_nil)))) (ta_cons (te_lst (ta_cons te_str (ta_cons te_str (ta_cons te_bl ta_nil)))) ta_nil))))))) ta_nil))) (tg_n (i := 4) nd)) (ts_cons (tS_asg (te_op op_cat opd_cat (te_v 3) (te_lst (ta_cons (by exact te_lc (own := [(("_law_own" : Str), 8)]) rfl nd (by exact (ti_str te_str)) (blkOk_by (N := N_l_by_hand_right) (sc := defScope s_l_by_hand_right) (own := [(("_law_own" : Str), 8)]) (by decide +kernel)) (raw_n (by decide)) (fun _ _ _ _ _ => by exact (pg_name (i := 8) nd rfl (by first | exact Or.inl rfl | exact Or.inr rfl))) (fun _ _ _ _ _ => by exact tts_nil) (fun _ _ _ _ _ => by exact (te_c C_l_heard (fun h => dFp_up (lenA_cons (lenA_cons (lenA_cons (lenA_cons lenA_nil)))) h) (hr.mono (by first | decide | omega)) rfl (ta_cons (te_v 2) (ta_cons te_int (ta_cons (te_v 8) (ta_cons te_int ta_nil))))))) ta_nil))) (tg_n (i := 3) nd)) (ts_cons (tS_asg (te_op op_cat opd_cat (te_v 3) (te_lst (ta_cons (by exact te_lc (own := [(("_law_own" : Str), 8)]) rfl nd (by exact (ti_str te_str)) (blkOk_by (N := N_l_by_hand_right) (sc := defScope s_l_by_hand_right) (own := [(("_law_own" : Str), 8)]) (by decide +kernel)) (raw_n (by decide)) (fun _ _ _ _ _ => by exact (pg_name (i := 8) nd rfl (by first | exact Or.inl rfl | exact Or.inr rfl))) (fun _ _ _ _ _ => by exact tts_nil) (fun _ _ _ _ _ => by exact (te_c C_l_heard (fun h => dFp_up (lenA_cons (lenA_cons (lenA_cons (lenA_cons lenA_nil)))) h) (hr.mono (by first | decide | omega)) rfl (ta_cons (te_v 2) (ta_cons te_int (ta_cons (te_v 8) (ta_cons te_int ta_nil))))))) ta_nil))) (tg_n (i := 3) nd)) (ts_cons (tS_asg (te_op op_cat opd_cat (te_v 4) (te_lst (ta_cons (te_lst (ta_cons (te_tup ta_nil) (ta_cons (te_tup ta_nil) ta_nil))) (ta_cons (te_lst (ta_cons (te_tup ta_nil) (ta_cons (te_tup (ta_cons te_str ta_nil)) ta_nil))) ta_nil)))) (tg_n (i := 4) nd)) (ts_cons (tS_asg (te_op op_cat opd_cat (te_v 3) (te_lst (ta_cons (te_c C_l_heard (fun h => dFp_up (lenA_cons (lenA_cons (lenA_cons (lenA_cons lenA_nil)))) h) (hr.mono (by first | decide | omega)) rfl (ta_cons (te_v 2) (ta_cons te_int (ta_cons te_str (ta_cons te_int ta_nil))))) (ta_cons (te_c C_l_heard (fun h => dFp_up (lenA_cons (lenA_cons (lenA_cons (lenA_cons lenA_nil)))) h) (hr.mono (by first | decide | omega)) rfl (ta_cons (te_v 2) (ta_cons te_int (ta_cons te_str (ta_cons te_int ta_nil))))) ta_nil)))) (tg_n (i := 3) nd)) (ts_cons (tS_asg (te_op op_cat opd_cat (te_v 3) (te_lst (ta_cons (by exact te_lc (own := [(("_law_own" : Str), 8)]) rfl nd (by exact (ti_tup (te_tup (ta_cons te_str (ta_cons te_str (ta_cons te_str (ta_cons te_str ta_nil))))))) (blkOk_by (N := N_l_by_hand_right) (sc := defScope s_l_by_hand_right) (own := [(("_law_own" : Str), 8)]) (by decide +kernel)) (raw_n (by decide)) (fun _ _ _ _ _ => by exact (pg_name (i := 8) nd rfl (by first | exact Or.inl rfl | exact Or.inr rfl))) (fun _ _ _ _ _ => by exact tts_nil) (fun _ _ _ _ _ => by exact (te_c C_room_of (fun h => dFp_up (lenA_cons (lenA_cons lenA_nil)) h) (hr.mono (by first | decide | omega)) rfl (ta_cons (te_v 2) (ta_cons (te_v 8) ta_nil))))) ta_nil))) (tg_n (i := 3) nd)) (ts_cons (tS_asg (te_op op_cat opd_cat (te_v 4) (te_lst (ta_cons (te_lst (ta_cons te_str (ta_cons te_int (ta_cons te_bl ta_nil)))) (ta_cons (te_lst (ta_cons te_str (ta_cons te_str (ta_cons te_bl ta_nil)))) (ta_cons (te_lst (ta_cons te_int (ta_cons te_int (ta_cons te_int (ta_cons te_int ta_nil))))) ta_nil))))) (tg_n (i := 4) nd)) (ts_cons (tS_asg (te_c C_l_lists (fun h => dFp_up (lenA_cons lenA_nil) h) (hr.mono (by first | decide | omega)) rfl (ta_cons (te_v 2) ta_nil)) (tg_n (i := 5) nd)) (ts_cons (tS_asg (te_op op_cat opd_cat (te_v 3) (te_lst (ta_cons (te_cK CK_task_names pass0 (hr.mono (by first | decide | omega)) rfl (tk_cons (te_v 5) tk_nil)) (ta_cons (te_cK CK_queue_names pass0 (hr.mono (by first | decide | omega)) rfl (tk_cons (te_v 5) tk_nil)) ta_nil)))) (tg_n (i := 3) nd)) (ts_cons (tS_asg (te_op op_cat opd_cat (te_v 3) (te_lst (ta_cons (te_cK CK_signal_names pass0 (hr.mono (by first | decide | omega)) rfl (tk_cons (te_v 5) tk_nil)) (ta_cons (te_cK CK_first_tasks pass0 (hr.mono (by first | decide | omega)) rfl (tk_cons (te_v 5) tk_nil)) ta_nil)))) (tg_n (i := 3) nd)) (ts_cons (tS_asg (te_op op_cat opd_cat (te_v 4) (te_lst (ta_cons (te_tup (ta_cons te_str (ta_cons te_str (ta_cons te_str (ta_cons te_str ta_nil))))) (ta_cons (te_tup (ta_cons te_str (ta_cons te_str (ta_cons te_str ta_nil)))) (ta_cons (te_tup (ta_cons te_str (ta_cons te_str ta_nil))) (ta_cons (te_tup (ta_cons te_str (ta_cons te_str ta_nil))) ta_nil)))))) (tg_n (i := 4) nd)) (ts_cons (tS_asg (te_op op_cat opd_cat (te_v 3) (te_lst (ta_cons (te_cK CK_script_of passL (hr.mono (by first | decide | omega)) rfl (tk_cons te_str (tk_cons (te_v 5) tk_nil))) (ta_cons (te_cK CK_group_of passL (hr.mono (by first | decide | omega)) rfl (tk_cons te_str (tk_cons (te_v 5) tk_nil))) ta_nil)))) (tg_n (i := 3) nd)) (ts_cons (tS_asg (te_op op_cat opd_cat (te_v 3) (te_lst (ta_cons (te_cK CK_step_of passL (hr.mono (by first | decide | omega)) rfl (tk_cons te_int (tk_cons te_str (tk_cons (te_v 5) tk_nil)))) ta_nil))) (tg_n (i := 3) nd)) (ts_cons (tS_asg (te_op op_cat opd_cat (te_v 4) (te_lst (ta_cons (te_tup (ta_cons (te_tup (ta_cons te_str (ta_cons te_str ta_nil))) ta_nil)) (ta_cons te_str (ta_cons (te_tup (ta_cons te_str (ta_cons te_str (ta_cons te_int ta_nil)))) ta_nil))))) (tg_n (i := 4) nd)) (ts_cons (tS_asg (te_op op_cat opd_cat (te_v 3) (te_lst (ta_cons (te_cK CK_shields_at passL (hr.mono (by first | decide | omega)) rfl (tk_cons te_int (tk_cons te_str (tk_cons (te_v 5) tk_nil)))) (ta_cons (te_blt call_len cd_len rfl T.f_len (by decide +kernel) (ta_cons (te_cK CK_all_marks pass0 (hr.mono (by first | decide | omega)) rfl (tk_cons (te_v 5) tk_nil)) ta_nil)) ta_nil)))) (tg_n (i := 3) nd)) (ts_cons (tS_asg (te_op op_cat opd_cat (te_v 3) (te_lst (ta_cons (te_cK CK_starter_of passL (hr.mono (by first | decide | omega)) rfl (tk_cons te_str (tk_cons (te_v 5) tk_nil))) ta_nil))) (tg_n (i := 3) nd)) (ts_cons (tS_asg (te_op op_cat opd_cat (te_v 3) (te_lst (ta_cons (te_cK CK_hosts_above passL (hr.mono (by first | decide | omega)) rfl (tk_cons te_str (tk_cons (te_v 5) tk_nil))) (ta_cons (te_cK CK_tasks_in passL (hr.mono (by first | decide | omega)) rfl (tk_cons te_str (tk_cons (te_v 5) tk_nil))) ta_nil)))) (tg_n (i := 3) nd)) (ts_cons (tS_asg (te_op op_cat opd_cat (te_v 3) (te_lst (ta_cons (te_cK CK_host_of passL (hr.mono (by first | decide | omega)) rfl (tk_cons te_str (tk_cons (te_v 5) tk_nil))) ta_nil))) (tg_n (i := 3) nd)) (ts_cons (tS_asg (te_op op_cat opd_cat (te_v 3) (te_lst (ta_cons (te_cK CK_closer_of passL (hr.mono (by first | decide | omega)) rfl (tk_cons te_str (tk_cons (te_v 5) tk_nil))) (ta_cons (te_cK CK_room_of pass0 (hr.mono (by first | decide | omega)) rfl (tk_cons te_str (tk_cons (te_v 5) tk_nil))) ta_nil)))) (tg_n (i := 3) nd)) (ts_one (tS_ret (te_c C_l_same (fun h => dFp_up (lenA_cons (lenA_cons lenA_nil)) h) (hr.mono (by first | decide | omega)) rfl (ta_cons (te_wkA (te_v 3)) (ta_cons (te_wkA (te_op op_cat opd_cat (te_v 4) (te_lst (ta_cons te_int (ta_cons te_int (ta_cons (te_tup (ta_cons te_str (ta_cons te_int ta_nil))) (ta_cons (te_tup (ta_cons te_str (ta_cons te_str ta_nil))) (ta_cons (te_tup (ta_cons te_str ta_nil)) (ta_cons te_str (ta_cons (te_tup (ta_cons te_str (ta_cons te_int ta_nil))) (ta_cons te_int ta_nil))))))))))) ta_nil)))))))))))))))))))))))))))))))))))))))
/-! ### _law_take -/
def N_l_take : List Str := ["_law_box_here", "_law_size_so", "_law_some", "_law_once", "_law_far", "_law_again"]
theorem sc_l_take : FnScope N_l_take ["_law_box_here", "_law_size_so"] (defScope s_l_take) := ⟨rfl, rfl, rfl, by decide +kernel, rfl, by decide +kernel, by decide +kernel⟩
def ds_l_take : En → M Out := (dSeq (dIfS (dTest (d2 (pur2 (ordO gtI gtS)) (d2 ixO (dV 0) (dC (.int 0))) (dC (.int 0)))) (dSeq (dAsg (d2 (pur2 modO) (dCall (pur1 intF) (dCons (d2 ixO (dV 0) (dC (.int 0))) dNil)) (dV 1)) (gN 2)) (dSeq (dAsg (d2 (pur2 divO) (d2 ixO (dV 0) (dC (.int 0))) (dV 1)) (gSubD (dV 0) (dC (.int 0)) setF)) (dRet (dV 2)))) dNext) (dSeq (dAsg (d2 (pur2 addO) (d2 ixO (dV 0) (dC (.int 2))) (dC (.int 1))) (gSubD (dV 0) (dC (.int 2)) setF)) (dSeq (dAsg (d2 (pur2 modO) (dCall (pur1 intF) (dCons (d2 (pur2 mulO) (d2 (pur2 addO) (d2 ixO (dV 0) (dC (.int 1))) (d2 (pur2 mulO) (dC (.int 48271)) (d2 ixO (dV 0) (dC (.int 2))))) (d2 (pur2 addO) (dC (.int 39373)) (d2 ixO (dV 0) (dC (.int 2))))) dNil)) (dC (.int 2147483647))) (gN 3)) (dSeq (dAsg (d2 (pur2 addO) (d2 (pur2 modO) (dCall (pur1 intF) (dCons (dV 3) dNil)) (dC (.int 40009))) (dC (.int 7))) (gN 4)) (dSeq (dAsg (d2 (pur2 modO) (dCall (pur1 intF) (dCons (d2 (pur2 mulO) (d2 (pur2 addO) (d2 (pur2 addO) (dV 3) (d2 ixO (dV 0) (dC (.int 2)))) (d2 (pur2 divO) (d2 ixO (dV 0) (dC (.int 1))) (dC (.int 1000003)))) (dV 4)) dNil)) (dC (.int 2147483629))) (gN 5)) (dRet (d2 (pur2 modO) (dCall (pur1 intF) (dCons (d2 (pur2 divO) (d2 (pur2 modO) (dCall (pur1 intF) (dCons (d2 (pur2 addO) (d2 (pur2 mulO) (dV 5) (dC (.int 48271))) (dV 3)) dNil)) (dC (.int 2147483587))) (dC (.int 64))) dNil)) (dV 1))))))))
def F_l_take : List D → M D := runD N_l_take.length ds_l_take
theorem ok_l_take {P : Program} {w : World} {K : PySem.W.Frag} {mg : Str → Option Value} {base : Heap} {f : Addr} {fd : FuncData} (T : Tx P w K mg base)  (F : FnP K "_law_take" s_l_take f fd) : FnOk P w K mg base CX0 1 f fd ["_law_box_here", "_law_size_so"] (spF ⟨K, P, w, mg⟩ Xo0 2 F_l_take) := by
  refine fn_tw (k := 0) F sc_l_take fun cdv A outer s H E hr => ?_
  have nd := sc_l_take.nd
  exact (ts_cons (tS_if (tt_cmp op_gtA opd_ord (te_ix ix_seq opd_ix (te_v 0) te_int (fun _ _ => rfl)) te_int (nomark _)) (ts_cons (tS_asg (te_op op_mod opd_mod (te_ty call_int1 cd_int rfl T.f_int (by decide +kernel) (ta_cons (te_ix ix_seq opd_ix (te_v 0) te_int (fun _ _ => rfl)) ta_nil)) (te_v 1)) (tg_n (i := 2) nd)) (ts_cons (tS_asg (te_op op_fdiv opd_div (te_ix ix_seq opd_ix (te_v 0) te_int (fun _ _ => rfl)) (te_v 1)) (tg_set (te_v 0) te_int (t := pg_sub (te_v 0) te_int set_list))) (ts_one (tS_ret (te_v 2))))) ts_nil) (ts_cons (tS_asg (te_op op_addA opd_add (te_ix ix_seq opd_ix (te_v 0) te_int (fun _ _ => rfl)) te_int) (tg_set (te_v 0) te_int (t := pg_sub (te_v 0) te_int set_list))) (ts_cons (tS_asg (te_op op_mod opd_mod (te_ty call_int1 cd_int rfl T.f_int (by decide +kernel) (ta_cons (te_op op_mul opd_mul (te_op op_addA opd_add (te_ix ix_seq opd_ix (te_v 0) te_int (fun _ _ => rfl)) (te_op op_mul opd_mul te_int (te_ix ix_seq opd_ix (te_v 0) te_int (fun _ _ => rfl)))) (te_op op_addA opd_add te_int (te_ix ix_seq opd_ix (te_v 0) te_int (fun _ _ => rfl)))) ta_nil)) te_int) (tg_n (i := 3) nd)) (ts_cons (tS_asg (te_op op_addA opd_add (te_op op_mod opd_mod (te_ty call_int1 cd_int rfl T.f_int (by decide +kernel) (ta_cons (te_v 3) ta_nil)) te_int) te_int) (tg_n (i := 4) nd)) (ts_cons (tS_asg (te_op op_mod opd_mod (te_ty call_int1 cd_int rfl T.f_int (by decide +kernel) (ta_cons (te_op op_mul opd_mul (te_op op_addA opd_add (te_op op_addA opd_add (te_v 3) (te_ix ix_seq opd_ix (te_v 0) te_int (fun _ _ => rfl))) (te_op op_fdiv opd_div (te_ix ix_seq opd_ix (te_v 0) te_int (fun _ _ => rfl)) te_int)) (te_v 4)) ta_nil)) te_int) (tg_n (i := 5) nd)) (ts_one (tS_ret (te_op op_mod opd_mod (te_ty call_int1 cd_int rfl T.f_int (by decide +kernel) (ta_cons (te_op op_fdiv opd_div (te_op op_mod opd_mod (te_ty call_int1 cd_int rfl T.f_int (by decide +kernel) (ta_cons (te_op op_addA opd_add (te_op op_mul opd_mul (te_v 5) te_int) (te_v 3)) ta_nil)) te_int) te_int) ta_nil)) (te_v 1)))))))))
/-! ### _law_pick -/
def N_l_pick : List Str := ["_law_box_here", "_law_goods_so", "_law_count_so", "_law_pool_so", "_law_found", "_law_turn"]
theorem sc_l_pick : FnScope N_l_pick ["_law_box_here", "_law_goods_so", "_law_count_so"] (defScope s_l_pick) := ⟨rfl, rfl, rfl, by decide +kernel, rfl, by decide +kernel, by decide +kernel⟩
def ds_l_pick : En → M Out := (dSeq (dPar 3 4 (dCons (dCall (listP newL) (dCons (dV 1) dNil)) (dCons (dLstM dNil) dNil))) (dSeq (dFor (dRng rng1 (dCons (dCall (purL (ii min2)) (dCons (dCall (pur1 intF) (dCons (dV 2) dNil)) (dCons (dCall (lenP) (dCons (dV 3) dNil)) dNil))) dNil)) (gN 5) (dExpr (dMeth appF (dV 4) (dCons (dMeth popAtF (dV 3) (dCons (dF F_l_take (dCons (dV 0) (dCons (dCall (lenP) (dCons (dV 3) dNil)) dNil))) dNil)) dNil)))) (dRet (dFrz (dV 4)))))
def F_l_pick : List D → M D := runD N_l_pick.length ds_l_pick
theorem ok_l_pick {P : Program} {w : World} {K : PySem.W.Frag} {mg : Str → Option Value} {base : Heap} {f : Addr} {fd : FuncData} (T : Tx P w K mg base) (C_l_take : Cal P w K mg base 1 "_law_take" 2 F_l_take) (F : FnP K "_law_pick" s_l_pick f fd) : FnOk P w K mg base CX0 2 f fd ["_law_box_here", "_law_goods_so", "_law_count_so"] (spF ⟨K, P, w, mg⟩ Xo0 3 F_l_pick) := by
  refine fn_tw (k := 1) F sc_l_pick fun cdv A outer s H E hr => ?_
  have nd := sc_l_pick.nd
  exact (ts_cons (tS_par (i := 3) (j := 4) rfl nd rfl rfl (by decide) rfl rfl (ta_cons (te_ty call_list_of cd_listM rfl T.f_list (by decide +kernel) (ta_cons (te_v 1) ta_nil)) (ta_cons (te_lstM ta_nil) ta_nil)) rfl) (ts_cons (tS_for PassesOwn.never rfl (ti_rng1 rfl T.f_range (ta_cons (te_blt (call_min2 rfl) cd_ii rfl T.f_min (by decide +kernel) (ta_cons (te_ty call_int1 cd_int rfl T.f_int (by decide +kernel) (ta_cons (te_v 2) ta_nil)) (ta_cons (te_blt call_len cd_len rfl T.f_len (by decide +kernel) (ta_cons (te_v 3) ta_nil)) ta_nil))) ta_nil)) (tg_n (i := 5) nd) (ts_one (tS_expr (te_lm PySem.F.slot_list_append PySem.F.type_list_append mt_append md_app (te_v 4) (ta_cons (te_lm PySem.F.slot_list_pop PySem.F.type_list_pop mt_popAt md_popAt (te_v 3) (ta_cons (te_c C_l_take (fun h => dF_up (lenA_cons (lenA_cons lenA_nil)) h) (hr.mono (by first | decide | omega)) rfl (ta_cons (te_v 0) (ta_cons (te_blt call_len cd_len rfl T.f_len (by decide +kernel) (ta_cons (te_v 3) ta_nil)) ta_nil))) ta_nil)) ta_nil))))) (ts_one (tS_ret (te_frz (te_v 4))))))
/-! ### _law_of -/
def N_l_of : List Str := ["_law_box_here", "_law_goods_so"]
theorem sc_l_of : FnScope N_l_of ["_law_box_here", "_law_goods_so"] (defScope s_l_of) := ⟨rfl, rfl, rfl, by decide +kernel, rfl, by decide +kernel, by decide +kernel⟩
def ds_l_of : En → M Out := (dRet (d2 ixO (dV 1) (dF F_l_take (dCons (dV 0) (dCons (dCall (lenP) (dCons (dV 1) dNil)) dNil)))))
def F_l_of : List D → M D := runD N_l_of.length ds_l_of
theorem ok_l_of {P : Program} {w : World} {K : PySem.W.Frag} {mg : Str → Option Value} {base : Heap} {f : Addr} {fd : FuncData} (T : Tx P w K mg base) (C_l_take : Cal P w K mg base 1 "_law_take" 2 F_l_take) (F : FnP K "_law_of" s_l_of f fd) : FnOk P w K mg base CX0 2 f fd ["_law_box_here", "_law_goods_so"] (spF ⟨K, P, w, mg⟩ Xo0 2 F_l_of) := by
  refine fn_tw (k := 1) F sc_l_of fun cdv A outer s H E hr => ?_
  have nd := sc_l_of.nd
  exact (ts_one (tS_ret (te_ix ix_seq opd_ix (te_v 1) (te_c C_l_take (fun h => dF_up (lenA_cons (lenA_cons lenA_nil)) h) (hr.mono (by first | decide | omega)) rfl (ta_cons (te_v 0) (ta_cons (te_blt call_len cd_len rfl T.f_len (by decide +kernel) (ta_cons (te_v 1) ta_nil)) ta_nil))) (fun _ _ => rfl))))
/-! ### _law_script -/
def N_l_script : List Str := ["_law_box_here", "_law_others_so", "_law_many_so", "_law_room_so", "_law_row_so", "_law_words_so", "_law_lap", "_law_word_so", "_law_lane_so", "_law_end_so"]
theorem sc_l_script : FnScope N_l_script ["_law_box_here", "_law_others_so", "_law_many_so", "_law_room_so"] (defScope s_l_script) := ⟨rfl, rfl, rfl, by decide +kernel, rfl, by decide +kernel, by decide +kernel⟩
def ds_l_script : En → M Out := (dSeq (dPar 4 5 (dCons (dLstM dNil) (dCons (dLst (dCons (dC (.str "put")) (dCons (dC (.str "get")) (dCons (dC (.str "set")) (dCons (dC (.str "hear")) (dCons (dC (.str "join")) (dCons (dC (.str "cancel")) (dCons (dC (.str "until")) (dCons (dC (.str "give")) (dCons (dC (.str "fail")) (dCons (dC (.str "get")) (dCons (dC (.str "put")) (dCons (dC (.str "in")) dNil))))))))))))) dNil))) (dSeq (dFor (dRng rng1 (dCons (dCall (purL (ii min2)) (dCons (dV 3) (dCons (dF F_l_take (dCons (dV 0) (dCons (d2 (pur2 addO) (dV 2) (dC (.int 2))) dNil))) dNil))) dNil)) (gN 6) (dSeq (dPar 7 8 (dCons (dF F_l_of (dCons (dV 0) (dCons (dV 5) dNil))) (dCons (dF F_l_of (dCons (dV 0) (dCons (dLst (dCons (dC (.str "p")) (dCons (dC (.str "q")) dNil))) dNil))) dNil))) (dSeq (dAsg (dF F_l_of (dCons (dV 0) (dCons (dLst (dCons (dTup dNil) (dCons (dTup dNil) (dCons (dC (.int 1)) (dCons (dC (.int 2)) dNil))))) dNil))) (gN 9)) (dIfS (dTest (d2 (pur2 (inO false)) (dV 7) (dTup (dCons (dC (.str "get")) (dCons (dC (.str "hear")) dNil))))) (dExpr (dMeth appF (dV 4) (dCons (dTup (dCons (dV 7) (dCons (dV 8) (dCons (dV 9) dNil)))) dNil))) (dIfS (dTest (d2 (pur2 (inO false)) (dV 7) (dTup (dCons (dC (.str "put")) (dCons (dC (.str "set")) dNil))))) (dExpr (dMeth appF (dV 4) (dCons (dTup (dCons (dV 7) (dCons (dV 8) dNil))) dNil))) (dIfS (dAndT (dTest (d2 (pur2 (inO false)) (dV 7) (dTup (dCons (dC (.str "join")) (dCons (dC (.str "cancel")) dNil))))) (dTest (d2 (pur2 (eqO true)) (dV 1) (dLst dNil)))) (dExpr (dMeth appF (dV 4) (dCons (d2 (pur2 addO) (dTup (dCons (dV 7) (dCons (dF F_l_of (dCons (dV 0) (dCons (dV 1) dNil))) dNil))) (dIf (dTest (d2 (pur2 (eqO false)) (dV 7) (dC (.str "join")))) (dTup (dCons (dV 9) dNil)) (dTup dNil))) dNil))) (dIfS (dTest (d2 (pur2 (eqO false)) (dV 7) (dC (.str "until")))) (dExpr (dMeth appF (dV 4) (dCons (dTup (dCons (dC (.str "until")) (dCons (dF F_l_take (dCons (dV 0) (dCons (dC (.int 3)) dNil))) dNil))) dNil))) (dIfS (dTest (d2 (pur2 (eqO false)) (dV 7) (dC (.str "fail")))) (dExpr (dMeth appF (dV 4) (dCons (dTup (dCons (dC (.str "fail")) (dCons (dF F_l_of (dCons (dV 0) (dCons (dLst (dCons (dC (.str "v")) (dCons (dC (.str "w")) dNil))) dNil))) dNil))) dNil))) (dIfS (dAndT (dTest (d2 (pur2 (eqO false)) (dV 7) (dC (.str "in")))) (dTest (d2 (pur2 (ordO leI leS)) (d2 (pur2 addO) (dCall (lenP) (dCons (dV 4) dNil)) (dC (.int 3))) (dV 3)))) (dAsg (d2 (catP newL) (dV 4) (dLst (dCons (dTup (dCons (dC (.str "in")) dNil)) (dCons (dTup (dCons (dC (.str "put")) (dCons (dV 8) dNil))) (dCons (dTup (dCons (dC (.str "out")) dNil)) dNil))))) (gN 4)) (dExpr (dMeth appF (dV 4) (dCons (dTup (dCons (dC (.str "give")) dNil)) dNil)))))))))))) (dRet (dCall (listP fun xs => pur (some (.tup xs))) (dCons (dSl (dV 4) dNoP (dP (dV 3))) dNil)))))
def F_l_script : List D → M D := runD N_l_script.length ds_l_script
theorem ok_l_script {P : Program} {w : World} {K : PySem.W.Frag} {mg : Str → Option Value} {base : Heap} {f : Addr} {fd : FuncData} (T : Tx P w K mg base) (C_l_take : Cal P w K mg base 1 "_law_take" 2 F_l_take) (C_l_of : Cal P w K mg base 2 "_law_of" 2 F_l_of) (F : FnP K "_law_script" s_l_script f fd) : FnOk P w K mg base CX0 3 f fd ["_law_box_here", "_law_others_so", "_law_many_so", "_law_room_so"] (spF ⟨K, P, w, mg⟩ Xo0 4 F_l_script) := by
  refine fn_tw (k := 2) F sc_l_script fun cdv A outer s H E hr => ?_
  have nd := sc_l_script.nd
  exact (ts_cons (tS_par (i := 4) (j := 5) rfl nd rfl rfl (by decide) rfl rfl (ta_cons (te_lstM ta_nil) (ta_cons (te_lst (ta_cons te_str (ta_cons te_str (ta_cons te_str (ta_cons te_str (ta_cons te_str (ta_cons te_str (ta_cons te_str (ta_cons te_str (ta_cons te_str (ta_cons te_str (ta_cons te_str (ta_cons te_str ta_nil))))))))))))) ta_nil)) rfl) (ts_cons (tS_for PassesOwn.never rfl (ti_rng1 rfl T.f_range (ta_cons (te_blt (call_min2 rfl) cd_ii rfl T.f_min (by decide +kernel) (ta_cons (te_v 3) (ta_cons (te_c C_l_take (fun h => dF_up (lenA_cons (lenA_cons lenA_nil)) h) (hr.mono (by first | decide | omega)) rfl (ta_cons (te_v 0) (ta_cons (te_op op_addA opd_add (te_v 2) te_int) ta_nil))) ta_nil))) ta_nil)) (tg_n (i := 6) nd) (ts_cons (tS_par (i := 7) (j := 8) rfl nd rfl rfl (by decide) rfl rfl (ta_cons (te_c C_l_of (fun h => dF_up (lenA_cons (lenA_cons lenA_nil)) h) (hr.mono (by first | decide | omega)) rfl (ta_cons (te_v 0) (ta_cons (te_v 5) ta_nil))) (ta_cons (te_c C_l_of (fun h => dF_up (lenA_cons (lenA_cons lenA_nil)) h) (hr.mono (by first | decide | omega)) rfl (ta_cons (te_v 0) (ta_cons (te_lst (ta_cons te_str (ta_cons te_str ta_nil))) ta_nil))) ta_nil)) rfl) (ts_cons (tS_asg (te_c C_l_of (fun h => dF_up (lenA_cons (lenA_cons lenA_nil)) h) (hr.mono (by first | decide | omega)) rfl (ta_cons (te_v 0) (ta_cons (te_lst (ta_cons (te_tup ta_nil) (ta_cons (te_tup ta_nil) (ta_cons te_int (ta_cons te_int ta_nil))))) ta_nil))) (tg_n (i := 9) nd)) (ts_one (tS_if (tt_cmp op_in_seq opd_in (te_v 7) (te_tup (ta_cons te_str (ta_cons te_str ta_nil))) (by rfl)) (ts_one (tS_expr (te_lm PySem.F.slot_list_append PySem.F.type_list_append mt_append md_app (te_v 4) (ta_cons (te_tup (ta_cons (te_v 7) (ta_cons (te_v 8) (ta_cons (te_v 9) ta_nil)))) ta_nil)))) (ts_one (tS_if (tt_cmp op_in_seq opd_in (te_v 7) (te_tup (ta_cons te_str (ta_cons te_str ta_nil))) (by rfl)) (ts_one (tS_expr (te_lm PySem.F.slot_list_append PySem.F.type_list_append mt_append md_app (te_v 4) (ta_cons (te_tup (ta_cons (te_v 7) (ta_cons (te_v 8) ta_nil))) ta_nil)))) (ts_one (tS_if (PW.pt (tw_and (tt_cmp op_in_seq opd_in (te_v 7) (te_tup (ta_cons te_str (ta_cons te_str ta_nil))) (by rfl)) (tw_and1 (tt_cmp (op_neD hr.units) opd_ne (te_v 1) (te_lst ta_nil) (nomark _))))) (ts_one (tS_expr (te_lm PySem.F.slot_list_append PySem.F.type_list_append mt_append md_app (te_v 4) (ta_cons (te_op op_addA opd_add (te_tup (ta_cons (te_v 7) (ta_cons (te_c C_l_of (fun h => dF_up (lenA_cons (lenA_cons lenA_nil)) h) (hr.mono (by first | decide | omega)) rfl (ta_cons (te_v 0) (ta_cons (te_v 1) ta_nil))) ta_nil))) (te_if (tt_cmp (op_eqD hr.units) opd_eq (te_v 7) te_str (nomark _)) (te_tup (ta_cons (te_v 9) ta_nil)) (te_tup ta_nil))) ta_nil)))) (ts_one (tS_if (tt_cmp (op_eqD hr.units) opd_eq (te_v 7) te_str (nomark _)) (ts_one (tS_expr (te_lm PySem.F.slot_list_append PySem.F.type_list_append mt_append md_app (te_v 4) (ta_cons (te_tup (ta_cons te_str (ta_cons (te_c C_l_take (fun h => dF_up (lenA_cons (lenA_cons lenA_nil)) h) (hr.mono (by first | decide | omega)) rfl (ta_cons (te_v 0) (ta_cons te_int ta_nil))) ta_nil))) ta_nil)))) (ts_one (tS_if (tt_cmp (op_eqD hr.units) opd_eq (te_v 7) te_str (nomark _)) (ts_one (tS_expr (te_lm PySem.F.slot_list_append PySem.F.type_list_append mt_append md_app (te_v 4) (ta_cons (te_tup (ta_cons te_str (ta_cons (te_c C_l_of (fun h => dF_up (lenA_cons (lenA_cons lenA_nil)) h) (hr.mono (by first | decide | omega)) rfl (ta_cons (te_v 0) (ta_cons (te_lst (ta_cons te_str (ta_cons te_str ta_nil))) ta_nil))) ta_nil))) ta_nil)))) (ts_one (tS_if (PW.pt (tw_and (tt_cmp (op_eqD hr.units) opd_eq (te_v 7) te_str (nomark _)) (tw_and1 (tt_cmp op_leA opd_ord (te_op op_addA opd_add (te_blt call_len cd_len rfl T.f_len (by decide +kernel) (ta_cons (te_v 4) ta_nil)) te_int) (te_v 3) (nomark _))))) (ts_one (tS_asg (te_op op_cat opd_catM (te_v 4) (te_lst (ta_cons (te_tup (ta_cons te_str ta_nil)) (ta_cons (te_tup (ta_cons te_str (ta_cons (te_v 8) ta_nil))) (ta_cons (te_tup (ta_cons te_str ta_nil)) ta_nil))))) (tg_n (i := 4) nd))) (ts_one (tS_expr (te_lm PySem.F.slot_list_append PySem.F.type_list_append mt_append md_app (te_v 4) (ta_cons (te_tup (ta_cons te_str ta_nil)) ta_nil))))))))))))))))))) (ts_one (tS_ret (te_ty call_tuple_of cd_tup rfl T.f_tuple (by decide +kernel) (ta_cons (te_sl (te_v 4) to_none (to_some (te_v 3))) ta_nil))))))
/-! ### _law_house -/
def N_l_house : List Str := ["_law_box_here", "_law_many_so", "_law_steps_so", "_law_tags", "_law_tag", "_law_crowd_so", "_law_begun_so", "_law_room_so", "_law_rows_so", "_law_row_so", "_law_spot_so", "_law_shut_so", "_law_lanes_so", "_law_lane", "_law_own"]
theorem sc_l_house : FnScope N_l_house ["_law_box_here", "_law_many_so", "_law_steps_so"] (defScope s_l_house) := ⟨rfl, rfl, rfl, by decide +kernel, rfl, by decide +kernel, by decide +kernel⟩
def ds_l_house : En → M Out := (dSeq (dAsg (dCall (lP sortF) (dCons (dF F_l_pick (dCons (dV 0) (dCons (dLst (dCons (dC (.str "a")) (dCons (dC (.str "ann")) (dCons (dC (.str "b")) (dCons (dC (.str "cy")) (dCons (dC (.str "zz")) dNil)))))) (dCons (dCall (purL (ii min2)) (dCons (dV 1) (dCons (d2 (pur2 addO) (dC (.int 2)) (dF F_l_take (dCons (dV 0) (dCons (dV 1) dNil)))) dNil))) dNil)))) dNil)) (gN 3)) (dSeq (dAsg (dLc (dItL (dSl (dV 3) (dP (dC (.int 1))) dNoP)) (gN 4) (dTest (d2 (pur2 (eqO false)) (dF F_l_take (dCons (dV 0) (dCons (dC (.int 3)) dNil))) (dC (.int 0)))) (dV 4) [4]) (gN 5)) (dSeq (dAsg (d2 (pur2 addO) (dV 5) (dLc (dItL (dSl (dV 3) (dP (dC (.int 1))) dNoP)) (gN 4) (dAndT (dTest (d2 (pur2 (inO true)) (dV 4) (dV 5))) (dTest (d2 (pur2 (eqO false)) (dF F_l_take (dCons (dV 0) (dCons (dC (.int 4)) dNil))) (dC (.int 0))))) (dV 4) [4])) (gN 6)) (dSeq (dPar 7 8 (dCons (d2 (pur2 divO) (d2 (pur2 subO) (d2 (pur2 subO) (dC (.int 12)) (dCall (lenP) (dCons (dV 6) dNil))) (dCall (pur1 intF) (dCons (d2 (pur2 (eqO true)) (dV 5) (dLst dNil)) dNil))) (dCall (lenP) (dCons (dV 3) dNil))) (dCons (dLstM dNil) dNil))) (dSeq (dFor (dItL (dV 3)) (gN 4) (dSeq (dAsg (dF F_l_script (dCons (dV 0) (dCons (dLc (dItL (dV 3)) (gN 14) (dTest (d2 (pur2 (eqO true)) (dV 14) (dV 4))) (dV 14) [14]) (dCons (dV 2) (dCons (dV 7) dNil))))) (gN 9)) (dSeq (dIfS (dTest (d2 (pur2 (eqO false)) (dV 4) (d2 ixO (dV 3) (dC (.int 0))))) (dSeq (dAsg (d2 (pur2 addO) (dCall (listP fun xs => pur (some (.tup xs))) (dCons (dLc (dItL (dV 6)) (gN 14) dYes (dTup (dCons (dC (.str "start")) (dCons (dV 14) dNil))) [14]) dNil)) (dV 9)) (gN 9)) (dSeq (dAsg (d2 (pur2 addO) (dCall (lenP) (dCons (dV 6) dNil)) (dF F_l_take (dCons (dV 0) (dCons (d2 (pur2 addO) (d2 (pur2 subO) (dCall (lenP) (dCons (dV 9) dNil)) (dCall (lenP) (dCons (dV 6) dNil))) (dC (.int 1))) dNil)))) (gN 10)) (dSeq (dAsg (dIf (dTest (d2 (pur2 (eqO true)) (dV 5) (dLst dNil))) (dTup (dCons (dTup (dCons (dF F_l_of (dCons (dV 0) (dCons (dLst (dCons (dC (.str "close")) (dCons (dC (.str "catch")) dNil))) dNil))) (dCons (dC (.str "g")) dNil))) dNil)) (dTup dNil)) (gN 11)) (dAsg (d2 (pur2 addO) (d2 (pur2 addO) (dSl (dV 9) dNoP (dP (dV 10))) (dV 11)) (dSl (dV 9) (dP (dV 10)) dNoP)) (gN 9))))) dNext) (dExpr (dMeth appF (dV 8) (dCons (dTup (dCons (dV 4) (dCons (dIf (dTest (d2 (pur2 (inO false)) (dV 4) (dV 5))) (dC (.str "g")) (dC (.str ""))) (dCons (dV 9) dNil)))) dNil)))))) (dSeq (dAsg (dCall (listP fun xs => pur (some (.tup xs))) (dCons (dLc (dItL (dLst (dCons (dC (.str "p")) (dCons (dC (.str "q")) dNil)))) (gN 13) (dTest (d2 (pur2 (eqO false)) (dF F_l_take (dCons (dV 0) (dCons (dC (.int 2)) dNil))) (dC (.int 0)))) (dTup (dCons (dV 13) (dCons (d2 (pur2 addO) (dC (.int 1)) (dF F_l_take (dCons (dV 0) (dCons (dC (.int 2)) dNil)))) dNil))) [13]) dNil)) (gN 12)) (dRet (dTup (dCons (dCall (listP fun xs => pur (some (.tup xs))) (dCons (dV 8) dNil)) (dCons (dIf (dTest (d2 (pur2 (eqO true)) (dV 5) (dLst dNil))) (dTpn (dCons (dTup (dCons (dC (.str "g")) (dCons (d2 ixO (dV 3) (dC (.int 0))) dNil))) dNil)) (dTpn dNil)) (dCons (dV 12) dNil)))))))))))
def F_l_house : List D → M D := runD N_l_house.length ds_l_house
theorem ok_l_house {P : Program} {w : World} {K : PySem.W.Frag} {mg : Str → Option Value} {base : Heap} {f : Addr} {fd : FuncData} (T : Tx P w K mg base) (C_l_take : Cal P w K mg base 1 "_law_take" 2 F_l_take) (C_l_pick : Cal P w K mg base 2 "_law_pick" 3 F_l_pick) (C_l_of : Cal P w K mg base 2 "_law_of" 2 F_l_of) (C_l_script : Cal P w K mg base 3 "_law_script" 4 F_l_script) (F : FnP K "_law_house" s_l_house f fd) : FnOk P w K mg base CX0 4 f fd ["_law_box_here", "_law_many_so", "_law_steps_so"] (spF ⟨K, P, w, mg⟩ Xo0 3 F_l_house) := by
  refine fn_tw (k := 3) F sc_l_house fun cdv A outer s H E hr => ?_
  have nd := sc_l_house.nd
  exact (ts_cons (tS_asg (te_blt cr_sortedS cd_sortS rfl T.f_sorted (by decide +kernel) (ta_cons (te_c C_l_pick (fun h => dF_up (lenA_cons (lenA_cons (lenA_cons lenA_nil))) h) (hr.mono (by first | decide | omega)) rfl (ta_cons (te_v 0) (ta_cons (te_lst (ta_cons te_str (ta_cons te_str (ta_cons te_str (ta_cons te_str (ta_cons te_str ta_nil)))))) (ta_cons (te_blt (call_min2 rfl) cd_ii rfl T.f_min (by decide +kernel) (ta_cons (te_v 1) (ta_cons (te_op op_addA opd_add te_int (te_c C_l_take (fun h => dF_up (lenA_cons (lenA_cons lenA_nil)) h) (hr.mono (by first | decide | omega)) rfl (ta_cons (te_v 0) (ta_cons (te_v 1) ta_nil)))) ta_nil))) ta_nil)))) ta_nil)) (tg_n (i := 3) nd)) (ts_cons (tS_asg (by exact te_lc (own := [(("_law_tag" : Str), 4)]) rfl nd (by exact (ti_list (te_sl (te_v 3) (to_some te_int) to_none))) (blkOk_by (N := N_l_house) (sc := defScope s_l_house) (own := [(("_law_tag" : Str), 4)]) (by decide +kernel)) (raw_n (by decide)) (fun _ _ _ _ _ => by exact (pg_name (i := 4) nd rfl (by first | exact Or.inl rfl | exact Or.inr rfl))) (fun _ _ _ _ _ => by exact (tts_one (tt_cmp (op_eqD hr.units) opd_eq (te_c C_l_take (fun h => dF_up (lenA_cons (lenA_cons lenA_nil)) h) (hr.mono (by first | decide | omega)) rfl (ta_cons (te_v 0) (ta_cons te_int ta_nil))) te_int (nomark _)))) (fun _ _ _ _ _ => by exact (te_v 4))) (tg_n (i := 5) nd)) (ts_cons (tS_asg (te_op op_addA opd_add (te_v 5) (by exact te_lc (own := [(("_law_tag" : Str), 4)]) rfl nd (by exact (ti_list (te_sl (te_v 3) (to_some te_int) to_none))) (blkOk_by (N := N_l_house) (sc := defScope s_l_house) (own := [(("_law_tag" : Str), 4)]) (by decide +kernel)) (raw_n (by decide)) (fun _ _ _ _ _ => by exact (pg_name (i := 4) nd rfl (by first | exact Or.inl rfl | exact Or.inr rfl))) (fun _ _ _ _ _ => by exact (tts_one (PW.pt (tw_and (tt_cmp op_notIn_seq opd_in (te_v 4) (te_v 5) (by rfl)) (tw_and1 (tt_cmp (op_eqD hr.units) opd_eq (te_c C_l_take (fun h => dF_up (lenA_cons (lenA_cons lenA_nil)) h) (hr.mono (by first | decide | omega)) rfl (ta_cons (te_v 0) (ta_cons te_int ta_nil))) te_int (nomark _))))))) (fun _ _ _ _ _ => by exact (te_v 4)))) (tg_n (i := 6) nd)) (ts_cons (tS_par (i := 7) (j := 8) rfl nd rfl rfl (by decide) rfl rfl (ta_cons (te_op op_fdiv opd_div (te_op op_sub opd_sub (te_op op_sub opd_sub te_int (te_blt call_len cd_len rfl T.f_len (by decide +kernel) (ta_cons (te_v 6) ta_nil))) (te_ty call_int1 cd_int rfl T.f_int (by decide +kernel) (ta_cons (te_cmp (op_neD hr.units) opd_ne (te_v 5) (te_lst ta_nil) (nomark _)) ta_nil))) (te_blt call_len cd_len rfl T.f_len (by decide +kernel) (ta_cons (te_v 3) ta_nil))) (ta_cons (te_lstM ta_nil) ta_nil)) rfl) (ts_cons (tS_for PassesOwn.never rfl (ti_list (te_v 3)) (tg_n (i := 4) nd) (ts_cons (tS_asg (te_c C_l_script (fun h => dF_up (lenA_cons (lenA_cons (lenA_cons (lenA_cons lenA_nil)))) h) (hr.mono (by first | decide | omega)) rfl (ta_cons (te_v 0) (ta_cons (by exact te_lc (own := [(("_law_own" : Str), 14)]) rfl nd (by exact (ti_list (te_v 3))) (blkOk_by (N := N_l_house) (sc := defScope s_l_house) (own := [(("_law_own" : Str), 14)]) (by decide +kernel)) (raw_n (by decide)) (fun _ _ _ _ _ => by exact (pg_name (i := 14) nd rfl (by first | exact Or.inl rfl | exact Or.inr rfl))) (fun _ _ _ _ _ => by exact (tts_one (tt_cmp (op_neD hr.units) opd_ne (te_v 14) (te_v 4) (nomark _)))) (fun _ _ _ _ _ => by exact (te_v 14))) (ta_cons (te_v 2) (ta_cons (te_v 7) ta_nil))))) (tg_n (i := 9) nd)) (ts_cons (tS_if (tt_cmp (op_eqD hr.units) opd_eq (te_v 4) (te_ix ix_seq opd_ix (te_v 3) te_int (fun _ _ => rfl)) (nomark _)) (ts_cons (tS_asg (te_op op_addA opd_add (te_ty call_tuple_of cd_tup rfl T.f_tuple (by decide +kernel) (ta_cons (by exact te_lc (own := [(("_law_own" : Str), 14)]) rfl nd (by exact (ti_list (te_v 6))) (blkOk_by (N := N_l_house) (sc := defScope s_l_house) (own := [(("_law_own" : Str), 14)]) (by decide +kernel)) (raw_n (by decide)) (fun _ _ _ _ _ => by exact (pg_name (i := 14) nd rfl (by first | exact Or.inl rfl | exact Or.inr rfl))) (fun _ _ _ _ _ => by exact tts_nil) (fun _ _ _ _ _ => by exact (te_tup (ta_cons te_str (ta_cons (te_v 14) ta_nil))))) ta_nil)) (te_v 9)) (tg_n (i := 9) nd)) (ts_cons (tS_asg (te_op op_addA opd_add (te_blt call_len cd_len rfl T.f_len (by decide +kernel) (ta_cons (te_v 6) ta_nil)) (te_c C_l_take (fun h => dF_up (lenA_cons (lenA_cons lenA_nil)) h) (hr.mono (by first | decide | omega)) rfl (ta_cons (te_v 0) (ta_cons (te_op op_addA opd_add (te_op op_sub opd_sub (te_blt call_len cd_len rfl T.f_len (by decide +kernel) (ta_cons (te_v 9) ta_nil)) (te_blt call_len cd_len rfl T.f_len (by decide +kernel) (ta_cons (te_v 6) ta_nil))) te_int) ta_nil)))) (tg_n (i := 10) nd)) (ts_cons (tS_asg (te_if (tt_cmp (op_neD hr.units) opd_ne (te_v 5) (te_lst ta_nil) (nomark _)) (te_tup (ta_cons (te_tup (ta_cons (te_c C_l_of (fun h => dF_up (lenA_cons (lenA_cons lenA_nil)) h) (hr.mono (by first | decide | omega)) rfl (ta_cons (te_v 0) (ta_cons (te_lst (ta_cons te_str (ta_cons te_str ta_nil))) ta_nil))) (ta_cons te_str ta_nil))) ta_nil)) (te_tup ta_nil)) (tg_n (i := 11) nd)) (ts_one (tS_asg (te_op op_addA opd_add (te_op op_addA opd_add (te_sl (te_v 9) to_none (to_some (te_v 10))) (te_v 11)) (te_sl (te_v 9) (to_some (te_v 10)) to_none)) (tg_n (i := 9) nd)))))) ts_nil) (ts_one (tS_expr (te_lm PySem.F.slot_list_append PySem.F.type_list_append mt_append md_app (te_v 8) (ta_cons (te_tup (ta_cons (te_v 4) (ta_cons (te_if (tt_cmp op_in_seq opd_in (te_v 4) (te_v 5) (by rfl)) te_str te_str) (ta_cons (te_v 9) ta_nil)))) ta_nil))))))) (ts_cons (tS_asg (te_ty call_tuple_of cd_tup rfl T.f_tuple (by decide +kernel) (ta_cons (by exact te_lc (own := [(("_law_lane" : Str), 13)]) rfl nd (by exact (ti_list (te_lst (ta_cons te_str (ta_cons te_str ta_nil))))) (blkOk_by (N := N_l_house) (sc := defScope s_l_house) (own := [(("_law_lane" : Str), 13)]) (by decide +kernel)) (raw_n (by decide)) (fun _ _ _ _ _ => by exact (pg_name (i := 13) nd rfl (by first | exact Or.inl rfl | exact Or.inr rfl))) (fun _ _ _ _ _ => by exact (tts_one (tt_cmp (op_eqD hr.units) opd_eq (te_c C_l_take (fun h => dF_up (lenA_cons (lenA_cons lenA_nil)) h) (hr.mono (by first | decide | omega)) rfl (ta_cons (te_v 0) (ta_cons te_int ta_nil))) te_int (nomark _)))) (fun _ _ _ _ _ => by exact (te_tup (ta_cons (te_v 13) (ta_cons (te_op op_addA opd_add te_int (te_c C_l_take (fun h => dF_up (lenA_cons (lenA_cons lenA_nil)) h) (hr.mono (by first | decide | omega)) rfl (ta_cons (te_v 0) (ta_cons te_int ta_nil)))) ta_nil))))) ta_nil)) (tg_n (i := 12) nd)) (ts_one (tS_ret (te_tup (ta_cons (te_ty call_tuple_of cd_tup rfl T.f_tuple (by decide +kernel) (ta_cons (te_v 8) ta_nil)) (ta_cons (te_if (tt_cmp (op_neD hr.units) opd_ne (te_v 5) (te_lst ta_nil) (nomark _)) (te_tpn (ta_cons (te_tup (ta_cons te_str (ta_cons (te_ix ix_seq opd_ix (te_v 3) te_int (fun _ _ => rfl)) ta_nil))) ta_nil)) (te_tpn ta_nil)) (ta_cons (te_v 12) ta_nil))))))))))))
/-! ### _law_right -/
def N_l_right : List Str := ["_law_box_here", "_law_host", "_law_tasks", "_law_groups_so", "_law_rooms_so", "_law_rows", "_law_own", "_law_tag", "_law_begun", "_law_lanes", "_law_heard_so", "_law_got", "_law_due", "_law_crew", "_law_row", "_law_ups", "_law_far", "_law_ends", "_law_k", "_law_step", "_law_lane"]
theorem sc_l_right : FnScope N_l_right ["_law_box_here"] (defScope s_l_right) := ⟨rfl, rfl, rfl, by decide +kernel, rfl, by decide +kernel, by decide +kernel⟩
def ds_l_right : En → M Out := (dSeq (dAsg (dWkA (dF F_l_house (dCons (dV 0) (dCons (dC (.int 4)) (dCons (dC (.int 3)) dNil))))) (gN 1)) (dSeq (dAsg (dV 1) (gT 3 (gsCons (gN 2) (gsCons (gN 3) (gsCons (gN 4) gsNil))))) (dSeq (dAsg (dLst dNil) (gN 5)) (dSeq (dFor (dItT (dV 2)) (gN 6) (dAsg (d2 (catP okL) (dV 5) (dLc (dRng rng1 (dCons (dCall (lenP) (dCons (d2 ixO (dV 6) (dC (.int 2))) dNil)) dNil)) (gN 18) dYes (dTup (dCons (d2 ixO (dV 6) (dC (.int 0))) (dCons (dV 18) (dCons (d2 ixO (d2 ixO (dV 6) (dC (.int 2))) (dV 18)) dNil)))) [18])) (gN 5))) (dSeq (dAsg (dCall dictLF (dCons (dLc (dItL (dV 5)) (gT 3 (gsCons (gN 7) (gsCons (gN 18) (gsCons (gN 19) gsNil)))) (dTest (d2 (pur2 (eqO false)) (d2 ixO (dV 19) (dC (.int 0))) (dC (.str "start")))) (dTup (dCons (d2 ixO (dV 19) (dC (.int 1))) (dCons (dTup (dCons (dV 7) (dCons (dV 18) dNil))) dNil))) [7, 18, 19]) dNil)) (gN 8)) (dSeq (dAsg (d2 (catP okL) (dLc (dItL (dV 5)) (gT 3 (gsCons (gN 7) (gsCons (gN 18) (gsCons (gN 19) gsNil)))) (dTest (d2 (pur2 (inO false)) (d2 ixO (dV 19) (dC (.int 0))) (dTup (dCons (dC (.str "put")) (dCons (dC (.str "get")) dNil))))) (d2 ixO (dV 19) (dC (.int 1))) [7, 18, 19]) (dLc (dItT (dV 4)) (gN 6) dYes (d2 ixO (dV 6) (dC (.int 0))) [6])) (gN 9)) (dSeq (dAsg (dLc (dItL (dV 5)) (gT 3 (gsCons (gN 7) (gsCons (gN 18) (gsCons (gN 19) gsNil)))) (dTest (d2 (pur2 (inO false)) (d2 ixO (dV 19) (dC (.int 0))) (dTup (dCons (dC (.str "set")) (dCons (dC (.str "hear")) dNil))))) (d2 ixO (dV 19) (dC (.int 1))) [7, 18, 19]) (gN 10)) (dSeq (dAsg (dLst (dCons (dFp F_task_names (dCons (dV 1) dNil)) (dCons (dFp F_all_marks (dCons (dV 1) dNil)) (dCons (dFp F_queue_names (dCons (dV 1) dNil)) (dCons (dFp F_signal_names (dCons (dV 1) dNil)) (dCons (dFp F_first_tasks (dCons (dV 1) dNil)) dNil)))))) (gN 11)) (dSeq (dAsg (dLst (dCons (dCall (listP fun xs => pur (some (.tup xs))) (dCons (dLc (dItT (dV 2)) (gN 6) dYes (d2 ixO (dV 6) (dC (.int 0))) [6]) dNil)) (dCons (dCall (listP fun xs => pur (some (.tup xs))) (dCons (dLc (dItL (dV 5)) (gN 6) dYes (dSl (dV 6) dNoP (dP (dC (.int 2)))) [6]) dNil)) (dCons (dCall (listP fun xs => pur (some (.tup xs))) (dCons (dCall (lP usF) (dCons (dV 9) dNil)) dNil)) dNil)))) (gN 12)) (dSeq (dAsg (d2 (catP okL) (dV 12) (dLst (dCons (dCall (listP fun xs => pur (some (.tup xs))) (dCons (dCall (lP usF) (dCons (dV 10) dNil)) dNil)) (dCons (dCall (listP fun xs => pur (some (.tup xs))) (dCons (dLc (dItT (dV 2)) (gN 6) (dTest (d2 (dinP true) (d2 ixO (dV 6) (dC (.int 0))) (dV 8))) (d2 ixO (dV 6) (dC (.int 0))) [6]) dNil)) dNil)))) (gN 12)) (dSeq (dFor (dItT (dV 2)) (gT 3 (gsCons (gN 7) (gsCons (gN 13) (gsCons (gN 14) gsNil)))) (dSeq (dAsg (dLc (dItT (dV 14)) (gN 19) dYes (d2 (pur2 subO) (dCall (pur1 intF) (dCons (d2 (pur2 (eqO false)) (d2 ixO (dV 19) (dC (.int 0))) (dC (.str "in"))) dNil)) (dCall (pur1 intF) (dCons (d2 (pur2 (eqO false)) (d2 ixO (dV 19) (dC (.int 0))) (dC (.str "out"))) dNil))) [19]) (gN 15)) (dSeq (dAsg (dLc (dRng rng1 (dCons (d2 (pur2 addO) (dCall (lenP) (dCons (dV 14) dNil)) (dC (.int 1))) dNil)) (gN 18) dYes (dCall (lP sumF) (dCons (dSl (dV 15) dNoP (dP (dV 18))) dNil)) [18]) (gN 16)) (dSeq (dAsg (d2 (catP okL) (dV 11) (dLst (dCons (dFpX F_script_of (dCons (dV 1) (dCons (dV 7) dNil))) (dCons (dFpX F_group_of (dCons (dV 1) (dCons (dV 7) dNil))) dNil)))) (gN 11)) (dSeq (dAsg (d2 (catP okL) (dV 11) (dLst (dCons (dLc (dRng rng1 (dCons (d2 (pur2 addO) (dCall (lenP) (dCons (dV 14) dNil)) (dC (.int 1))) dNil)) (gN 18) dYes (dFpX F_shields_at (dCons (dV 1) (dCons (dV 7) (dCons (dV 18) dNil)))) [18]) dNil))) (gN 11)) (dSeq (dAsg (d2 (catP okL) (dV 12) (dLst (dCons (dV 14) (dCons (dV 13) (dCons (dV 16) dNil))))) (gN 12)) (dSeq (dAsg (d2 (catP okL) (dV 11) (dLst (dCons (dLc (dRng rng1 (dCons (dCall (lenP) (dCons (dV 14) dNil)) dNil)) (gN 18) dYes (dFpX F_step_of (dCons (dV 1) (dCons (dV 7) (dCons (dV 18) dNil)))) [18]) (dCons (dFpX F_starter_of (dCons (dV 1) (dCons (dV 7) dNil))) dNil)))) (gN 11)) (dSeq (dAsg (d2 (catP okL) (dV 11) (dLst (dCons (dFpX F_hosts_above (dCons (dV 1) (dCons (dV 7) dNil))) dNil))) (gN 11)) (dAsg (d2 (catP okL) (dV 12) (dLst (dCons (dFrz (dCall (listP newL) (dCons (dV 14) dNil))) (dCons (dIf (dTest (d2 (dinP false) (dV 7) (dV 8))) (d2 dgetP (dV 8) (dV 7)) (dTup dNil)) (dCons (dIf (dTest (d2 (pur2 (eqO true)) (dV 13) (dC (.str "")))) (dTup (dCons (d2 ixO (d2 ixO (dV 2) (dC (.int 0))) (dC (.int 0))) dNil)) (dTup dNil)) dNil))))) (gN 12)))))))))) (dSeq (dFor (dItT (dV 3)) (gT 2 (gsCons (gN 13) (gsCons (gN 7) gsNil))) (dSeq (dAsg (dLc (dItL (dV 5)) (gN 6) (dTest (d2 (pur2 (inO false)) (d2 ixO (d2 ixO (dV 6) (dC (.int 2))) (dC (.int 0))) (dTup (dCons (dC (.str "close")) (dCons (dC (.str "catch")) dNil))))) (dSl (dV 6) dNoP (dP (dC (.int 2)))) [6]) (gN 17)) (dSeq (dAsg (d2 (catP okL) (dV 11) (dLst (dCons (dFpX F_tasks_in (dCons (dV 1) (dCons (dV 13) dNil))) (dCons (dFpX F_host_of (dCons (dV 1) (dCons (dV 13) dNil))) (dCons (dLst (dCons (dFpX F_closer_of (dCons (dV 1) (dCons (dV 13) dNil))) dNil)) dNil))))) (gN 11)) (dAsg (d2 (catP okL) (dV 12) (dLst (dCons (dCall (listP fun xs => pur (some (.tup xs))) (dCons (dLc (dItT (dV 2)) (gN 6) (dTest (d2 (pur2 (eqO false)) (d2 ixO (dV 6) (dC (.int 1))) (dV 13))) (d2 ixO (dV 6) (dC (.int 0))) [6]) dNil)) (dCons (dV 7) (dCons (dV 17) dNil))))) (gN 12))))) (dSeq (dAsg (d2 (catP okL) (dV 11) (dLst (dCons (dLc (dItT (dTup (dCons (dC (.str "p")) (dCons (dC (.str "q")) dNil)))) (gN 6) dYes (dFp F_room_of (dCons (dV 1) (dCons (dV 6) dNil))) [6]) dNil))) (gN 11)) (dRet (dFp (F_l_same 8) (dCons (dWkA (dV 11)) (dCons (dWkA (d2 (catP okL) (dV 12) (dLst (dCons (dLc (dItT (dTup (dCons (dC (.str "p")) (dCons (dC (.str "q")) dNil)))) (gN 20) dYes (dCall (lP sumF) (dCons (dLc (dItT (dV 4)) (gN 6) (dTest (d2 (pur2 (eqO false)) (d2 ixO (dV 6) (dC (.int 0))) (dV 20))) (d2 ixO (dV 6) (dC (.int 1))) [6]) dNil)) [20]) dNil)))) dNil)))))))))))))))))
def F_l_right : List D → M D := runD N_l_right.length ds_l_right
theorem ok_l_right {P : Program} {w : World} {K : PySem.W.Frag} {mg : Str → Option Value} {base : Heap} {f : Addr} {fd : FuncData} (T : Tx P w K mg base) (C_l_same : Cal P w K mg base 9 "_law_same" 2 (F_l_same 8)) (C_task_names : Cal P w K mg base 1 "task_names" 1 F_task_names) (C_queue_names : Cal P w K mg base 2 "queue_names" 1 F_queue_names) (C_signal_names : Cal P w K mg base 2 "signal_names" 1 F_signal_names) (C_first_tasks : Cal P w K mg base 2 "first_tasks" 1 F_first_tasks) (C_script_of : CalX P w K mg base 10 "script_of" 2 F_script_of) (C_group_of : CalX P w K mg base 4 "group_of" 2 F_group_of) (C_starter_of : CalX P w K mg base 4 "starter_of" 2 F_starter_of) (C_host_of : CalX P w K mg base 3 "host_of" 2 F_host_of) (C_hosts_above : CalX P w K mg base 5 "hosts_above" 2 F_hosts_above) (C_tasks_in : CalX P w K mg base 4 "tasks_in" 2 F_tasks_in) (C_closer_of : CalX P w K mg base 3 "closer_of" 2 F_closer_of) (C_step_of : CalX P w K mg base 11 "step_of" 3 F_step_of) (C_shields_at : CalX P w K mg base 11 "shields_at" 3 F_shields_at) (C_room_of : Cal P w K mg base 1 "room_of" 2 F_room_of) (C_all_marks : Cal P w K mg base 1 "all_marks" 1 F_all_marks) (C_l_house : Cal P w K mg base 4 "_law_house" 3 F_l_house) (F : FnP K "_law_right" s_l_right f fd) : FnOk P w K mg base CX0 12 f fd ["_law_box_here"] (spF ⟨K, P, w, mg⟩ Xo0 1 F_l_right) := by
  refine fn_tw (k := 11) F sc_l_right fun cdv A outer s H E hr => ?_
  have nd := sc_l_right.nd
  exact (ts_cons (tS_asg (te_wkA (te_c C_l_house (fun h => dF_up (lenA_cons (lenA_cons (lenA_cons lenA_nil))) h) (hr.mono (by first | decide | omega)) rfl (ta_cons (te_v 0) (ta_cons te_int (ta_cons te_int ta_nil))))) (tg_n (i := 1) nd)) (ts_cons (tS_asg (te_v 1) (tg_t rfl (tgs_cons (tg_n (i := 2) nd) (tgs_cons (tg_n (i := 3) nd) (tgs_cons (tg_n (i := 4) nd) tgs_nil))))) (ts_cons (tS_asg (te_lst ta_nil) (tg_n (i := 5) nd)) (ts_cons (tS_for PassesOwn.never rfl (ti_tup (te_v 2)) (tg_n (i := 6) nd) (ts_one (tS_asg (te_op op_cat opd_cat (te_v 5) (by exact te_lc (own := [(("_law_k" : Str), 18)]) rfl nd (by exact (ti_rng1 rfl T.f_range (ta_cons (te_blt call_len cd_len rfl T.f_len (by decide +kernel) (ta_cons (te_ix ix_seq opd_ix (te_v 6) te_int (fun _ _ => rfl)) ta_nil)) ta_nil))) (blkOk_by (N := N_l_right) (sc := defScope s_l_right) (own := [(("_law_k" : Str), 18)]) (by decide +kernel)) (raw_n (by decide)) (fun _ _ _ _ _ => by exact (pg_name (i := 18) nd rfl (by first | exact Or.inl rfl | exact Or.inr rfl))) (fun _ _ _ _ _ => by exact tts_nil) (fun _ _ _ _ _ => by exact (te_tup (ta_cons (te_ix ix_seq opd_ix (te_v 6) te_int (fun _ _ => rfl)) (ta_cons (te_v 18) (ta_cons (te_ix ix_seq opd_ix (te_ix ix_seq opd_ix (te_v 6) te_int (fun _ _ => rfl)) (te_v 18) (fun _ _ => rfl)) ta_nil))))))) (tg_n (i := 5) nd)))) (ts_cons (tS_asg (te_ty (call_dictP rfl) cd_dictL rfl T.f_dict (by decide +kernel) (ta_cons (by exact te_lc (own := [(("_law_tag" : Str), 7), (("_law_k" : Str), 18), (("_law_step" : Str), 19)]) rfl nd (by exact (ti_list (te_v 5))) (blkOk_by (N := N_l_right) (sc := defScope s_l_right) (own := [(("_law_tag" : Str), 7), (("_law_k" : Str), 18), (("_law_step" : Str), 19)]) (by decide +kernel)) (raw_t (raws_cons (raw_n (by decide)) (raws_cons (raw_n (by decide)) (raws_cons (raw_n (by decide)) raws_nil)))) (fun _ _ _ _ _ => by exact (pg_tup rfl (pgs_cons (pg_name (i := 7) nd rfl (by first | exact Or.inl rfl | exact Or.inr rfl)) (pgs_cons (pg_name (i := 18) nd rfl (by first | exact Or.inl rfl | exact Or.inr rfl)) (pgs_cons (pg_name (i := 19) nd rfl (by first | exact Or.inl rfl | exact Or.inr rfl)) pgs_nil))))) (fun _ _ _ _ _ => by exact (tts_one (tt_cmp (op_eqD hr.units) opd_eq (te_ix ix_seq opd_ix (te_v 19) te_int (fun _ _ => rfl)) te_str (nomark _)))) (fun _ _ _ _ _ => by exact (te_tup (ta_cons (te_ix ix_seq opd_ix (te_v 19) te_int (fun _ _ => rfl)) (ta_cons (te_tup (ta_cons (te_v 7) (ta_cons (te_v 18) ta_nil))) ta_nil))))) ta_nil)) (tg_n (i := 8) nd)) (ts_cons (tS_asg (te_op op_cat opd_cat (by exact te_lc (own := [(("_law_tag" : Str), 7), (("_law_k" : Str), 18), (("_law_step" : Str), 19)]) rfl nd (by exact (ti_list (te_v 5))) (blkOk_by (N := N_l_right) (sc := defScope s_l_right) (own := [(("_law_tag" : Str), 7), (("_law_k" : Str), 18), (("_law_step" : Str), 19)]) (by decide +kernel)) (raw_t (raws_cons (raw_n (by decide)) (raws_cons (raw_n (by decide)) (raws_cons (raw_n (by decide)) raws_nil)))) (fun _ _ _ _ _ => by exact (pg_tup rfl (pgs_cons (pg_name (i := 7) nd rfl (by first | exact Or.inl rfl | exact Or.inr rfl)) (pgs_cons (pg_name (i := 18) nd rfl (by first | exact Or.inl rfl | exact Or.inr rfl)) (pgs_cons (pg_name (i := 19) nd rfl (by first | exact Or.inl rfl | exact Or.inr rfl)) pgs_nil))))) (fun _ _ _ _ _ => by exact (tts_one (tt_cmp op_in_seq opd_in (te_ix ix_seq opd_ix (te_v 19) te_int (fun _ _ => rfl)) (te_tup (ta_cons te_str (ta_cons te_str ta_nil))) (by rfl)))) (fun _ _ _ _ _ => by exact (te_ix ix_seq opd_ix (te_v 19) te_int (fun _ _ => rfl)))) (by exact te_lc (own := [(("_law_own" : Str), 6)]) rfl nd (by exact (ti_tup (te_v 4))) (blkOk_by (N := N_l_right) (sc := defScope s_l_right) (own := [(("_law_own" : Str), 6)]) (by decide +kernel)) (raw_n (by decide)) (fun _ _ _ _ _ => by exact (pg_name (i := 6) nd rfl (by first | exact Or.inl rfl | exact Or.inr rfl))) (fun _ _ _ _ _ => by exact tts_nil) (fun _ _ _ _ _ => by exact (te_ix ix_seq opd_ix (te_v 6) te_int (fun _ _ => rfl))))) (tg_n (i := 9) nd)) (ts_cons (tS_setLc (own := [(("_law_tag" : Str), 7), (("_law_k" : Str), 18), (("_law_step" : Str), 19)]) (i := 10) rfl nd rfl rfl (sw_true rfl rfl rfl (by decide +kernel)) (by exact (ti_list (te_v 5))) (blkOk_by (N := N_l_right) (sc := defScope s_l_right) (own := [(("_law_tag" : Str), 7), (("_law_k" : Str), 18), (("_law_step" : Str), 19)]) (by decide +kernel)) (raw_t (raws_cons (raw_n (by decide)) (raws_cons (raw_n (by decide)) (raws_cons (raw_n (by decide)) raws_nil)))) (fun _ _ _ _ _ => by exact (pg_tup rfl (pgs_cons (pg_name (i := 7) nd rfl (by first | exact Or.inl rfl | exact Or.inr rfl)) (pgs_cons (pg_name (i := 18) nd rfl (by first | exact Or.inl rfl | exact Or.inr rfl)) (pgs_cons (pg_name (i := 19) nd rfl (by first | exact Or.inl rfl | exact Or.inr rfl)) pgs_nil))))) (fun _ _ _ _ _ => by exact (tts_one (tt_cmp op_in_seq opd_in (te_ix ix_seq opd_ix (te_v 19) te_int (fun _ _ => rfl)) (te_tup (ta_cons te_str (ta_cons te_str ta_nil))) (by rfl)))) (fun _ _ _ _ _ => by exact (te_ix ix_seq opd_ix (te_v 19) te_int (fun _ _ => rfl)))) (ts_cons (tS_asg (te_lst (ta_cons (te_c C_task_names (fun h => dFp_up (lenA_cons lenA_nil) h) (hr.mono (by first | decide | omega)) rfl (ta_cons (te_v 1) ta_nil)) (ta_cons (te_c C_all_marks (fun h => dFp_up (lenA_cons lenA_nil) h) (hr.mono (by first | decide | omega)) rfl (ta_cons (te_v 1) ta_nil)) (ta_cons (te_c C_queue_names (fun h => dFp_up (lenA_cons lenA_nil) h) (hr.mono (by first | decide | omega)) rfl (ta_cons (te_v 1) ta_nil)) (ta_cons (te_c C_signal_names (fun h => dFp_up (lenA_cons lenA_nil) h) (hr.mono (by first | decide | omega)) rfl (ta_cons (te_v 1) ta_nil)) (ta_cons (te_c C_first_tasks (fun h => dFp_up (lenA_cons lenA_nil) h) (hr.mono (by first | decide | omega)) rfl (ta_cons (te_v 1) ta_nil)) ta_nil)))))) (tg_n (i := 11) nd)) (ts_cons (tS_asg (te_lst (ta_cons (te_ty call_tuple_of cd_tup rfl T.f_tuple (by decide +kernel) (ta_cons (by exact te_lc (own := [(("_law_own" : Str), 6)]) rfl nd (by exact (ti_tup (te_v 2))) (blkOk_by (N := N_l_right) (sc := defScope s_l_right) (own := [(("_law_own" : Str), 6)]) (by decide +kernel)) (raw_n (by decide)) (fun _ _ _ _ _ => by exact (pg_name (i := 6) nd rfl (by first | exact Or.inl rfl | exact Or.inr rfl))) (fun _ _ _ _ _ => by exact tts_nil) (fun _ _ _ _ _ => by exact (te_ix ix_seq opd_ix (te_v 6) te_int (fun _ _ => rfl)))) ta_nil)) (ta_cons (te_ty call_tuple_of cd_tup rfl T.f_tuple (by decide +kernel) (ta_cons (by exact te_lc (own := [(("_law_own" : Str), 6)]) rfl nd (by exact (ti_list (te_v 5))) (blkOk_by (N := N_l_right) (sc := defScope s_l_right) (own := [(("_law_own" : Str), 6)]) (by decide +kernel)) (raw_n (by decide)) (fun _ _ _ _ _ => by exact (pg_name (i := 6) nd rfl (by first | exact Or.inl rfl | exact Or.inr rfl))) (fun _ _ _ _ _ => by exact tts_nil) (fun _ _ _ _ _ => by exact (te_sl (te_v 6) to_none (to_some te_int)))) ta_nil)) (ta_cons (te_ty call_tuple_of cd_tup rfl T.f_tuple (by decide +kernel) (ta_cons (te_us rfl rfl T.f_sorted rfl T.f_set (ta_cons (te_v 9) ta_nil)) ta_nil)) ta_nil)))) (tg_n (i := 12) nd)) (ts_cons (tS_asg (te_op op_cat opd_cat (te_v 12) (te_lst (ta_cons (te_ty call_tuple_of cd_tup rfl T.f_tuple (by decide +kernel) (ta_cons (te_us rfl rfl T.f_sorted rfl T.f_set (ta_cons (te_v 10) ta_nil)) ta_nil)) (ta_cons (te_ty call_tuple_of cd_tup rfl T.f_tuple (by decide +kernel) (ta_cons (by exact te_lc (own := [(("_law_own" : Str), 6)]) rfl nd (by exact (ti_tup (te_v 2))) (blkOk_by (N := N_l_right) (sc := defScope s_l_right) (own := [(("_law_own" : Str), 6)]) (by decide +kernel)) (raw_n (by decide)) (fun _ _ _ _ _ => by exact (pg_name (i := 6) nd rfl (by first | exact Or.inl rfl | exact Or.inr rfl))) (fun _ _ _ _ _ => by exact (tts_one (tt_dnin (hu_of hr) (te_ix ix_seq opd_ix (te_v 6) te_int (fun _ _ => rfl)) (te_v 8)))) (fun _ _ _ _ _ => by exact (te_ix ix_seq opd_ix (te_v 6) te_int (fun _ _ => rfl)))) ta_nil)) ta_nil)))) (tg_n (i := 12) nd)) (ts_cons (tS_for PassesOwn.never rfl (ti_tup (te_v 2)) (tg_t rfl (tgs_cons (tg_n (i := 7) nd) (tgs_cons (tg_n (i := 13) nd) (tgs_cons (tg_n (i := 14) nd) tgs_nil)))) (ts_cons (tS_asg (by exact te_lc (own := [(("_law_step" : Str), 19)]) rfl nd (by exact (ti_tup (te_v 14))) (blkOk_by (N := N_l_right) (sc := defScope s_l_right) (own := [(("_law_step" : Str), 19)]) (by decide +kernel)) (raw_n (by decide)) (fun _ _ _ _ _ => by exact (pg_name (i := 19) nd rfl (by first | exact Or.inl rfl | exact Or.inr rfl))) (fun _ _ _ _ _ => by exact tts_nil) (fun _ _ _ _ _ => by exact (te_op op_sub opd_sub (te_ty call_int1 cd_int rfl T.f_int (by decide +kernel) (ta_cons (te_cmp (op_eqD hr.units) opd_eq (te_ix ix_seq opd_ix (te_v 19) te_int (fun _ _ => rfl)) te_str (nomark _)) ta_nil)) (te_ty call_int1 cd_int rfl T.f_int (by decide +kernel) (ta_cons (te_cmp (op_eqD hr.units) opd_eq (te_ix ix_seq opd_ix (te_v 19) te_int (fun _ _ => rfl)) te_str (nomark _)) ta_nil))))) (tg_n (i := 15) nd)) (ts_cons (tS_setLc (own := [(("_law_k" : Str), 18)]) (i := 16) rfl nd rfl rfl (sw_true rfl rfl rfl (by decide +kernel)) (by exact (ti_rng1 rfl T.f_range (ta_cons (te_op op_addA opd_add (te_blt call_len cd_len rfl T.f_len (by decide +kernel) (ta_cons (te_v 14) ta_nil)) te_int) ta_nil))) (blkOk_by (N := N_l_right) (sc := defScope s_l_right) (own := [(("_law_k" : Str), 18)]) (by decide +kernel)) (raw_n (by decide)) (fun _ _ _ _ _ => by exact (pg_name (i := 18) nd rfl (by first | exact Or.inl rfl | exact Or.inr rfl))) (fun _ _ _ _ _ => by exact tts_nil) (fun _ _ _ _ _ => by exact (te_blt (cr_sum rfl) cd_sum rfl T.f_sum (by decide +kernel) (ta_cons (te_sl (te_v 15) to_none (to_some (te_v 18))) ta_nil)))) (ts_cons (tS_asg (te_op op_cat opd_cat (te_v 11) (te_lst (ta_cons (te_cX C_script_of takes_none5 (fun h => dFpX_up (lenA_cons (lenA_cons lenA_nil)) (fun _ _ _ h => False.elim h) h) (hr.mono (by first | decide | omega)) rfl (ta_cons (te_v 1) (ta_cons (te_v 7) ta_nil))) (ta_cons (te_cX C_group_of takes_none5 (fun h => dFpX_up (lenA_cons (lenA_cons lenA_nil)) (fun _ _ _ h => False.elim h) h) (hr.mono (by first | decide | omega)) rfl (ta_cons (te_v 1) (ta_cons (te_v 7) ta_nil))) ta_nil)))) (tg_n (i := 11) nd)) (ts_cons (tS_asg (te_op op_cat opd_cat (te_v 11) (te_lst (ta_cons (by exact te_lc (own := [(("_law_k" : Str), 18)]) rfl nd (by exact (ti_rng1 rfl T.f_range (ta_cons (te_op op_addA opd_add (te_blt call_len cd_len rfl T.f_len (by decide +kernel) (ta_cons (te_v 14) ta_nil)) te_int) ta_nil))) (blkOk_by (N := N_l_right) (sc := defScope s_l_right) (own := [(("_law_k" : Str), 18)]) (by decide +kernel)) (raw_n (by decide)) (fun _ _ _ _ _ => by exact (pg_name (i := 18) nd rfl (by first | exact Or.inl rfl | exact Or.inr rfl))) (fun _ _ _ _ _ => by exact tts_nil) (fun _ _ _ _ _ => by exact (te_cX C_shields_at takes_none5 (fun h => dFpX_up (lenA_cons (lenA_cons (lenA_cons lenA_nil))) (fun _ _ _ h => False.elim h) h) (hr.mono (by first | decide | omega)) rfl (ta_cons (te_v 1) (ta_cons (te_v 7) (ta_cons (te_v 18) ta_nil)))))) ta_nil))) (tg_n (i := 11) nd)) (ts_cons (tS_asg (te_op op_cat opd_cat (te_v 12) (te_lst (ta_cons (te_v 14) (ta_cons (te_v 13) (ta_cons (te_v 16) ta_nil))))) (tg_n (i := 12) nd)) (ts_cons (tS_asg (te_op op_cat opd_cat (te_v 11) (te_lst (ta_cons (by exact te_lc (own := [(("_law_k" : Str), 18)]) rfl nd (by exact (ti_rng1 rfl T.f_range (ta_cons (te_blt call_len cd_len rfl T.f_len (by decide +kernel) (ta_cons (te_v 14) ta_nil)) ta_nil))) (blkOk_by (N := N_l_right) (sc := defScope s_l_right) (own := [(("_law_k" : Str), 18)]) (by decide +kernel)) (raw_n (by decide)) (fun _ _ _ _ _ => by exact (pg_name (i := 18) nd rfl (by first | exact Or.inl rfl | exact Or.inr rfl))) (fun _ _ _ _ _ => by exact tts_nil) (fun _ _ _ _ _ => by exact (te_cX C_step_of takes_none5 (fun h => dFpX_up (lenA_cons (lenA_cons (lenA_cons lenA_nil))) (fun _ _ _ h => False.elim h) h) (hr.mono (by first | decide | omega)) rfl (ta_cons (te_v 1) (ta_cons (te_v 7) (ta_cons (te_v 18) ta_nil)))))) (ta_cons (te_cX C_starter_of takes_none5 (fun h => dFpX_up (lenA_cons (lenA_cons lenA_nil)) (fun _ _ _ h => False.elim h) h) (hr.mono (by first | decide | omega)) rfl (ta_cons (te_v 1) (ta_cons (te_v 7) ta_nil))) ta_nil)))) (tg_n (i := 11) nd)) (ts_cons (tS_asg (te_op op_cat opd_cat (te_v 11) (te_lst (ta_cons (te_cX C_hosts_above takes_none5 (fun h => dFpX_up (lenA_cons (lenA_cons lenA_nil)) (fun _ _ _ h => False.elim h) h) (hr.mono (by first | decide | omega)) rfl (ta_cons (te_v 1) (ta_cons (te_v 7) ta_nil))) ta_nil))) (tg_n (i := 11) nd)) (ts_one (tS_asg (te_op op_cat opd_cat (te_v 12) (te_lst (ta_cons (te_frz (te_ty call_list_of cd_listM rfl T.f_list (by decide +kernel) (ta_cons (te_v 14) ta_nil))) (ta_cons (te_if (tt_din (hu_of hr) (te_v 7) (te_v 8)) (te_dget (hu_of hr) (te_v 8) (te_v 7) (fun _ _ => rfl)) (te_tup ta_nil)) (ta_cons (te_if (tt_cmp (op_neD hr.units) opd_ne (te_v 13) te_str (nomark _)) (te_tup (ta_cons (te_ix ix_seq opd_ix (te_ix ix_seq opd_ix (te_v 2) te_int (fun _ _ => rfl)) te_int (fun _ _ => rfl)) ta_nil)) (te_tup ta_nil)) ta_nil))))) (tg_n (i := 12) nd))))))))))) (ts_cons (tS_for PassesOwn.never rfl (ti_tup (te_v 3)) (tg_t rfl (tgs_cons (tg_n (i := 13) nd) (tgs_cons (tg_n (i := 7) nd) tgs_nil))) (ts_cons (tS_setLc (own := [(("_law_own" : Str), 6)]) (i := 17) rfl nd rfl rfl (sw_true rfl rfl rfl (by decide +kernel)) (by exact (ti_list (te_v 5))) (blkOk_by (N := N_l_right) (sc := defScope s_l_right) (own := [(("_law_own" : Str), 6)]) (by decide +kernel)) (raw_n (by decide)) (fun _ _ _ _ _ => by exact (pg_name (i := 6) nd rfl (by first | exact Or.inl rfl | exact Or.inr rfl))) (fun _ _ _ _ _ => by exact (tts_one (tt_cmp op_in_seq opd_in (te_ix ix_seq opd_ix (te_ix ix_seq opd_ix (te_v 6) te_int (fun _ _ => rfl)) te_int (fun _ _ => rfl)) (te_tup (ta_cons te_str (ta_cons te_str ta_nil))) (by rfl)))) (fun _ _ _ _ _ => by exact (te_sl (te_v 6) to_none (to_some te_int)))) (ts_cons (tS_asg (te_op op_cat opd_cat (te_v 11) (te_lst (ta_cons (te_cX C_tasks_in takes_none5 (fun h => dFpX_up (lenA_cons (lenA_cons lenA_nil)) (fun _ _ _ h => False.elim h) h) (hr.mono (by first | decide | omega)) rfl (ta_cons (te_v 1) (ta_cons (te_v 13) ta_nil))) (ta_cons (te_cX C_host_of takes_none5 (fun h => dFpX_up (lenA_cons (lenA_cons lenA_nil)) (fun _ _ _ h => False.elim h) h) (hr.mono (by first | decide | omega)) rfl (ta_cons (te_v 1) (ta_cons (te_v 13) ta_nil))) (ta_cons (te_lst (ta_cons (te_cX C_closer_of takes_none5 (fun h => dFpX_up (lenA_cons (lenA_cons lenA_nil)) (fun _ _ _ h => False.elim h) h) (hr.mono (by first | decide | omega)) rfl (ta_cons (te_v 1) (ta_cons (te_v 13) ta_nil))) ta_nil)) ta_nil))))) (tg_n (i := 11) nd)) (ts_one (tS_asg (te_op op_cat opd_cat (te_v 12) (te_lst (ta_cons (te_ty call_tuple_of cd_tup rfl T.f_tuple (by decide +kernel) (ta_cons (by exact te_lc (own := [(("_law_own" : Str), 6)]) rfl nd (by exact (ti_tup (te_v 2))) (blkOk_by (N := N_l_right) (sc := defScope s_l_right) (own := [(("_law_own" : Str), 6)]) (by decide +kernel)) (raw_n (by decide)) (fun _ _ _ _ _ => by exact (pg_name (i := 6) nd rfl (by first | exact Or.inl rfl | exact Or.inr rfl))) (fun _ _ _ _ _ => by exact (tts_one (tt_cmp (op_eqD hr.units) opd_eq (te_ix ix_seq opd_ix (te_v 6) te_int (fun _ _ => rfl)) (te_v 13) (nomark _)))) (fun _ _ _ _ _ => by exact (te_ix ix_seq opd_ix (te_v 6) te_int (fun _ _ => rfl)))) ta_nil)) (ta_cons (te_v 7) (ta_cons (te_v 17) ta_nil))))) (tg_n (i := 12) nd)))))) (ts_cons (tS_asg (te_op op_cat opd_cat (te_v 11) (te_lst (ta_cons (by exact te_lc (own := [(("_law_own" : Str), 6)]) rfl nd (by exact (ti_tup (te_tup (ta_cons te_str (ta_cons te_str ta_nil))))) (blkOk_by (N := N_l_right) (sc := defScope s_l_right) (own := [(("_law_own" : Str), 6)]) (by decide +kernel)) (raw_n (by decide)) (fun _ _ _ _ _ => by exact (pg_name (i := 6) nd rfl (by first | exact Or.inl rfl | exact Or.inr rfl))) (fun _ _ _ _ _ => by exact tts_nil) (fun _ _ _ _ _ => by exact (te_c C_room_of (fun h => dFp_up (lenA_cons (lenA_cons lenA_nil)) h) (hr.mono (by first | decide | omega)) rfl (ta_cons (te_v 1) (ta_cons (te_v 6) ta_nil))))) ta_nil))) (tg_n (i := 11) nd)) (ts_one (tS_ret (te_c C_l_same (fun h => dFp_up (lenA_cons (lenA_cons lenA_nil)) h) (hr.mono (by first | decide | omega)) rfl (ta_cons (te_wkA (te_v 11)) (ta_cons (te_wkA (te_op op_cat opd_cat (te_v 12) (te_lst (ta_cons (by exact te_lc (own := [(("_law_lane" : Str), 20)]) rfl nd (by exact (ti_tup (te_tup (ta_cons te_str (ta_cons te_str ta_nil))))) (blkOk_by (N := N_l_right) (sc := defScope s_l_right) (own := [(("_law_lane" : Str), 20)]) (by decide +kernel)) (raw_n (by decide)) (fun _ _ _ _ _ => by exact (pg_name (i := 20) nd rfl (by first | exact Or.inl rfl | exact Or.inr rfl))) (fun _ _ _ _ _ => by exact tts_nil) (fun _ _ _ _ _ => by exact (te_blt (cr_sum rfl) cd_sum rfl T.f_sum (by decide +kernel) (ta_cons (by exact te_lc (own := [(("_law_own" : Str), 6)]) rfl nd (by exact (ti_tup (te_v 4))) (blkOk_by (N := N_l_right) (sc := _) (own := [(("_law_own" : Str), 6)]) (by rfl)) (raw_n (by decide)) (fun _ _ _ _ _ => by exact (pg_name (i := 6) nd rfl (by first | exact Or.inl rfl | exact Or.inr rfl))) (fun _ _ _ _ _ => by exact (tts_one (tt_cmp (op_eqD hr.units) opd_eq (te_ix ix_seq opd_ix (te_v 6) te_int (fun _ _ => rfl)) (te_v 20) (nomark _)))) (fun _ _ _ _ _ => by exact (te_ix ix_seq opd_ix (te_v 6) te_int (fun _ _ => rfl)))) ta_nil)))) ta_nil)))) ta_nil))))))))))))))))))
/-! ### _law_box -/
def N_l_box : List Str := ["_law_script_here", "_law_k", "_law_cell"]
theorem sc_l_box : FnScope N_l_box ["_law_script_here", "_law_k"] (defScope s_l_box) := ⟨rfl, rfl, rfl, by decide +kernel, rfl, by decide +kernel, by decide +kernel⟩
def ds_l_box : En → M Out := (dSeq (dAsg (dIf (dTest (d2 (pur2 (ordO ltI ltS)) (dV 1) (dCall (lenP) (dCons (dV 0) dNil)))) (d2 ixO (dV 0) (dV 1)) (dC (.int 0))) (gN 2)) (dRet (dLstM (dCons (d2 (pur2 mulO) (dCall (pur1 absF) (dCons (dV 2) dNil)) (dCall (pur1 intF) (dCons (d2 (pur2 (ordO geI geS)) (dCall (pur1 absF) (dCons (dV 2) dNil)) (d2 (pur2 powO) (dC (.int 10)) (dC (.int 18)))) dNil))) (dCons (d2 (pur2 addO) (d2 (pur2 addO) (d2 (pur2 modO) (dCall (pur1 intF) (dCons (dV 2) dNil)) (dC (.int 2305843009213693951))) (d2 (pur2 mulO) (dC (.int 39373)) (dV 1))) (dC (.int 102))) (dCons (dC (.int 0)) dNil))))))
def F_l_box : List D → M D := runD N_l_box.length ds_l_box
theorem ok_l_box {P : Program} {w : World} {K : PySem.W.Frag} {mg : Str → Option Value} {base : Heap} {f : Addr} {fd : FuncData} (T : Tx P w K mg base)  (F : FnP K "_law_box" s_l_box f fd) : FnOk P w K mg base CX0 1 f fd ["_law_script_here", "_law_k"] (spF ⟨K, P, w, mg⟩ Xo0 2 F_l_box) := by
  refine fn_tw (k := 0) F sc_l_box fun cdv A outer s H E hr => ?_
  have nd := sc_l_box.nd
  exact (ts_cons (tS_asg (te_if (tt_cmp op_ltA opd_ord (te_v 1) (te_blt call_len cd_len rfl T.f_len (by decide +kernel) (ta_cons (te_v 0) ta_nil)) (nomark _)) (te_ix ix_seq opd_ix (te_v 0) (te_v 1) (fun _ _ => rfl)) te_int) (tg_n (i := 2) nd)) (ts_one (tS_ret (te_lstM (ta_cons (te_op op_mul opd_mul (te_blt call_abs cd_abs rfl T.f_abs (by decide +kernel) (ta_cons (te_v 2) ta_nil)) (te_ty call_int1 cd_int rfl T.f_int (by decide +kernel) (ta_cons (te_cmp op_geA opd_ord (te_blt call_abs cd_abs rfl T.f_abs (by decide +kernel) (ta_cons (te_v 2) ta_nil)) (te_op op_pow opd_pow te_int te_int) (nomark _)) ta_nil))) (ta_cons (te_op op_addA opd_add (te_op op_addA opd_add (te_op op_mod opd_mod (te_ty call_int1 cd_int rfl T.f_int (by decide +kernel) (ta_cons (te_v 2) ta_nil)) te_int) (te_op op_mul opd_mul te_int (te_v 1))) te_int) (ta_cons te_int ta_nil)))))))
/-! ### law -/
def N_law : List Str := ["_law_script_here", "_law_cells_here", "_law_k"]
theorem sc_law : FnScope N_law ["_law_script_here"] (defScope s_law) := ⟨rfl, rfl, rfl, by decide +kernel, rfl, by decide +kernel, by decide +kernel⟩
def ds_law : En → M Out := (dSeq (dAsg (dFp F_l_cells (dCons (dV 0) (dCons (dC (.int 3)) dNil))) (gN 1)) (dRet (dAnd (dFp F_l_by_hand_right dNil) (dCall (lP allF) (dCons (dLc (dRng rng1 (dCons (dCall (lenP) (dCons (dV 1) dNil)) dNil)) (gN 2) dYes (dFm F_l_right (dCons (dF F_l_box (dCons (dV 1) (dCons (dV 2) dNil))) dNil)) [2]) dNil)))))
def F_law : List D → M D := runD N_law.length ds_law
theorem ok_law {P : Program} {w : World} {K : PySem.W.Frag} {mg : Str → Option Value} {base : Heap} {f : Addr} {fd : FuncData} (T : Tx P w K mg base) (C_l_cells : Cal P w K mg base 1 "_law_cells" 2 F_l_cells) (C_l_by_hand_right : Cal P w K mg base 13 "_law_by_hand_right" 0 F_l_by_hand_right) (C_l_right : Cal P w K mg base 12 "_law_right" 1 F_l_right) (C_l_box : Cal P w K mg base 1 "_law_box" 2 F_l_box) (F : FnP K "law" s_law f fd) : FnOk P w K mg base CX0 14 f fd ["_law_script_here"] (spF ⟨K, P, w, mg⟩ Xo0 1 F_law) := by
  refine fn_tw (k := 13) F sc_law fun cdv A outer s H E hr => ?_
  have nd := sc_law.nd
  exact (ts_cons (tS_asg (te_c C_l_cells (fun h => dFp_up (lenA_cons (lenA_cons lenA_nil)) h) (hr.mono (by first | decide | omega)) rfl (ta_cons (te_v 0) (ta_cons te_int ta_nil))) (tg_n (i := 1) nd)) (ts_one (tS_ret (te_and (te_c0 C_l_by_hand_right (fun h => dFp_up lenA_nil h) (hr.mono (by first | decide | omega)) rfl) (te_one (te_blt (cr_all rfl) cd_all rfl T.f_all (by decide +kernel) (ta_cons (by exact te_lc (own := [(("_law_k" : Str), 2)]) rfl nd (by exact (ti_rng1 rfl T.f_range (ta_cons (te_blt call_len cd_len rfl T.f_len (by decide +kernel) (ta_cons (te_v 1) ta_nil)) ta_nil))) (blkOk_by (N := N_law) (sc := defScope s_law) (own := [(("_law_k" : Str), 2)]) (by decide +kernel)) (raw_n (by decide)) (fun _ _ _ _ _ => by exact (pg_name (i := 2) nd rfl (by first | exact Or.inl rfl | exact Or.inr rfl))) (fun _ _ _ _ _ => by exact tts_nil) (fun _ _ _ _ _ => by exact (te_c C_l_right (fun h => dFm_up (lenA_cons lenA_nil) h) (hr.mono (by first | decide | omega)) rfl (ta_cons (te_c C_l_box (fun h => dF_up (lenA_cons (lenA_cons lenA_nil)) h) (hr.mono (by first | decide | omega)) rfl (ta_cons (te_v 1) (ta_cons (te_v 2) ta_nil))) ta_nil)))) ta_nil)))))))
end K02

namespace K02
open PySem PySem.Spec PyProof.Rows L2 Tw
theorem ex_of {A : Type} {m : Option (A × List O)} {x : A} (h : m.map (·.1) = some x) : ∃ G, m = some (x, G) := by
  cases m with
  | none => cases h
  | some p => obtain ⟨a, G⟩ := p; cases h; exact ⟨G, rfl⟩
theorem hand_ok : ∃ G, F_l_by_hand_right [] [] = some (.inr (.bl true), G) := ex_of (by kernel_rfl)
end K02

namespace K02
open PySem PySem.Spec PyProof.Rows L2 Tw
/-! ### steps and scripts -/
/-- the word of a step -/
def wrd : D → Str
  | .tup (.str w :: _) => w
  | _ => ""
def isS : D → Bool
  | .tup (.str w :: r) => PyData.strOk w && noRs r
  | _ => false
theorem isS_eq {d : D} (h : isS d = true) : ∃ w r, d = .tup (.str w :: r) ∧ PyData.strOk w = true ∧ wrd d = w := by
  unfold isS at h
  split at h
  · exact ⟨_, _, rfl, (Bool.and_eq_true_iff.mp h).1, rfl⟩
  · cases h
theorem isS_nr {d : D} (h : isS d = true) : noR d = true := by
  unfold isS at h
  split at h
  · simpa [noR, noRs] using (Bool.and_eq_true_iff.mp h).2
  · cases h
theorem isS_nrs : ∀ {xs : List D}, xs.all isS = true → noRs xs = true
  | [], _ => rfl
  | d :: r, h => by
    simp only [List.all_cons, Bool.and_eq_true] at h
    simp [noRs, isS_nr h.1, isS_nrs h.2]
def delta (d : D) : Int := if wrd d == "in" then 1 else if wrd d == "out" then -1 else 0
/-- the depths behind each step -/
def dl (c : Int) : List D → List Int
  | [] => []
  | d :: r => (c + delta d) :: dl (c + delta d) r
theorem dl_len : ∀ (xs : List D) (c : Int), (dl c xs).length = xs.length
  | [], _ => rfl
  | d :: r, c => by simp [dl, dl_len r]
theorem ok_in : PyData.strOk "in" = true := by decide +kernel
theorem ok_out : PyData.strOk "out" = true := by decide +kernel
abbrev b_depths : En → M Out := (dSeq (dIfS (dTest (d2 (pur2 (eqO false)) (d2 ixO (dV 3) (dC (.int 0))) (dC (.str "in")))) (dAug 1 (pur2 (i2 fun i j => .int (i + j))) (dC (.int 1))) (dIfS (dTest (d2 (pur2 (eqO false)) (d2 ixO (dV 3) (dC (.int 0))) (dC (.str "out")))) (dAug 1 (pur2 (i2 fun i j => .int (i - j))) (dC (.int 1))) dNext)) (dExpr (dMeth appF (dV 2) (dCons (dV 1) dNil))))
theorem ix0 (w : Str) (r : List D) (G : List O) : ixO (.tup (.str w :: r)) (.int 0) G = some (.str w, G) := by
  have h : atI (.str w :: r) 0 = some (D.str w) := by
    unfold atI ixN
    simp
  unfold ixO
  simp only [h, pur]
theorem step_depths {t d : D} (h : isS d = true) (c : Int) (acc : List D) (hz : acc.length + 1 ≤ mx) : b_depths [some t, some (.int c), some (.ref 0), some d] [.lst acc] = some (.inr (.nx [some t, some (.int (c + delta d)), some (.ref 0), some d]), [.lst (acc ++ [.int (c + delta d)])]) := by
  obtain ⟨w, r, rfl, hw, e⟩ := isS_eq h
  have hi := ix0 w r [.lst acc]
  have e1 := eqO_str hw ok_in false
  have e2 := eqO_str hw ok_out false
  have hz' : acc.length + 1 ≤ 1000000 := hz
  unfold delta
  rw [e]
  by_cases h1 : (w == "in") = true
  · simp [b_depths, dSeq, dIfS, dTest, d2, dV, dC, pur2, bnd, lft, pur, hi, e1, h1, blO, dAug, i2, Tw.ret, dExpr, dMeth, isLs, inL, dCons, dNil, appF, mx, hz']
  · have h1' : (w == "in") = false := by simpa using h1
    by_cases h2 : (w == "out") = true
    · simp [b_depths, dSeq, dIfS, dTest, d2, dV, dC, pur2, bnd, lft, pur, hi, e1, e2, h1', h2, blO, dAug, i2, Tw.ret, dExpr, dMeth, isLs, inL, dCons, dNil, appF, mx, hz']
      rfl
    · have h2' : (w == "out") = false := by simpa using h2
      simp [b_depths, dSeq, dIfS, dTest, d2, dV, dC, pur2, bnd, lft, pur, hi, e1, e2, h1', h2', blO, dAug, i2, Tw.ret, dExpr, dMeth, isLs, inL, dCons, dNil, appF, mx, hz', dNext]
theorem loop_depths (t : D) : ∀ (xs : List D), xs.all isS = true → ∀ (c : Int) (u : Option D) (acc : List D), acc.length + xs.length ≤ mx → ∃ c' u', bodyL (gN 3) b_depths xs [some t, some (.int c), some (.ref 0), u] [.lst acc] = some (.inr (.nx [some t, some (.int c'), some (.ref 0), u']), [.lst (acc ++ (dl c xs).map D.int)])
  | [], _, c, u, acc, _ => ⟨c, u, by simp [bodyL, dl, Tw.ret]⟩
  | d :: r, h, c, u, acc, hz => by
    simp only [List.all_cons, Bool.and_eq_true] at h
    simp only [List.length_cons] at hz
    obtain ⟨c', u', e⟩ := loop_depths t r h.2 (c + delta d) (some d) (acc ++ [.int (c + delta d)]) (by simp; omega)
    refine ⟨c', u', (body_nx (ρ1 := [some t, some (.int c), some (.ref 0), some d]) rfl (step_depths h.1 c acc (by omega))).trans ?_⟩
    rw [e]
    simp [dl]
theorem depths_ok {xs : List D} (h : xs.all isS = true) (hz : xs.length + 1 ≤ mx) : ∃ G, F_depths [.tup xs] [] = some (.inr (.tup (.int 0 :: (dl 0 xs).map D.int)), G) := by
  obtain ⟨c', u', e⟩ := loop_depths (.tup xs) xs h 0 none [.int 0] (by simp; omega)
  refine ⟨[.lst (.int 0 :: (dl 0 xs).map D.int)], run_rt ?_⟩
  refine (seq_nx (ρ1 := [some (.tup xs), some (.int 0), none, none]) (G1 := []) rfl).trans ?_
  refine (seq_nx (ρ1 := [some (.tup xs), some (.int 0), some (.ref 0), none]) (G1 := [.lst [.int 0]]) rfl).trans ?_
  refine (seq_nx (ρ1 := [some (.tup xs), some (.int c'), some (.ref 0), u']) (G1 := [.lst (.int 0 :: (dl 0 xs).map D.int)]) ((for_eq (es := xs) (G1 := [.lst [.int 0]]) rfl).trans e)).trans ?_
  rfl
/-- never below 0, at last 0 -/
def walk (c : Int) : List D → Option Int
  | [] => some c
  | d :: r => if 0 ≤ c + delta d then walk (c + delta d) r else none
theorem walk_app : ∀ (xs ys : List D) (c : Int), walk c (xs ++ ys) = (walk c xs).bind fun e => walk e ys
  | [], ys, c => rfl
  | d :: r, ys, c => by
    simp only [List.cons_append, walk]
    split
    · exact walk_app r ys _
    · rfl
theorem walk_dl : ∀ (xs : List D) (c e : Int), 0 ≤ c → walk c xs = some e → (∀ i ∈ dl c xs, 0 ≤ i) ∧ (c :: dl c xs).getLast? = some e
  | [], c, e, hc, h => by
    cases h
    exact ⟨fun i hi => absurd hi (by simp [dl]), rfl⟩
  | d :: r, c, e, hc, h => by
    simp only [walk] at h
    split at h
    · rename_i h0
      obtain ⟨h1, h2⟩ := walk_dl r _ e h0 h
      refine ⟨fun i hi => ?_, ?_⟩
      · rcases List.mem_cons.mp (show i ∈ (c + delta d) :: dl (c + delta d) r from hi) with rfl | hi
        · exact h0
        · exact h1 i hi
      · show (c :: (c + delta d) :: dl (c + delta d) r).getLast? = some e
        rw [List.getLast?_cons_cons]
        exact h2
    · cases h
theorem ints_map : ∀ l : List Int, intsO (l.map D.int) = some l
  | [] => rfl
  | i :: l => by simp [intsO, ints_map l]
theorem fold_min : ∀ (l : List Int), (∀ i ∈ l, 0 ≤ i) → l.foldl min 0 = 0
  | [], _ => rfl
  | i :: l, h => by
    have h0 := h i List.mem_cons_self
    rw [List.foldl_cons, Int.min_eq_left h0]
    exact fold_min l fun j hj => h j (List.mem_cons_of_mem _ hj)
theorem ex_wp {A : Type} {m : M A} {G : List O} {Q : A → Prop} (h : WP m G fun a _ => Q a) : ∃ a, Q a ∧ ∃ G', m G = some (.inr a, G') := let ⟨a, G', e, q⟩ := h; ⟨a, q, G', e⟩
/-- a call answers v -/
def Ans (F : List D → M D) (ds : List D) (v : D) : Prop := WP (F ds) [] fun d _ => d = v
theorem w_ans {F : List D → M D} {ea : En → M (List D)} {ρ : En} {G : List O} {Q : D → List O → Prop} (h : WP (ea ρ) G fun ds G1 => noRs ds = true ∧ ∃ v, Ans F ds v ∧ noR v = true ∧ Q v G1) : WP (dFp F ea ρ) G Q :=
  w_Fp (h.imp fun ds G1 ⟨n, v, an, nv, q⟩ => ⟨n, an.imp fun d _ e => by subst e; exact ⟨nv, q⟩⟩)
theorem Ans.of {F : List D → M D} {ds : List D} {v : D} (h : ∃ G, F ds [] = some (.inr v, G)) : Ans F ds v := let ⟨G, e⟩ := h; ⟨v, G, e, rfl⟩
theorem bls_rep : ∀ n, blsO (List.replicate n (.bl true)) = some (List.replicate n true)
  | 0 => rfl
  | n + 1 => by simp [List.replicate_succ, blsO, bls_rep n]
theorem all_rep (n : Nat) : allF (List.replicate n (.bl true)) = some (.bl true) := by
  simp [allF, bls_rep]
/-- a comprehension over ds whose parts are all true, without any change -/
theorem w_allT {di : En → M (List D)} {g : D → En → P1 En} {a : En → M D} {own : List Nat} {ρ : En} {G : List O} {Q : D → List O → Prop} {ds : List D} (hd : WP (di ρ) G fun es G1 => es = ds ∧ G1 = G) (hz : ds.length ≤ mx)
    (h : ∀ d ∈ ds, ∃ ρ1, g d (wipeD ρ own) G = some (ρ1, G) ∧ WP (a ρ1) G fun v G1 => v = .bl true ∧ G1 = G) (q : Q (.bl true) G) : WP (dCall (lP allF) (dCons (dLc di g dYes a own) dNil) ρ) G Q := by
  refine w_call (w_cons (w_lc (fun es ys G1 => G1 = G ∧ (∀ d ∈ es, d ∈ ds) ∧ ys = List.replicate ys.length (.bl true) ∧ ys.length + es.length = ds.length) ?_ ?_ ?_))
  · refine hd.imp fun es G1 ⟨e1, e2⟩ => ?_
    subst e1
    exact ⟨e2, fun d h => h, rfl, by simp⟩
  · rintro d r ys G1 ⟨rfl, hm, hy, hl⟩
    obtain ⟨ρ1, e, w⟩ := h d (hm d List.mem_cons_self)
    refine ⟨ρ1, _, e, w_yes ⟨fun _ => w.imp fun v G2 ⟨hv, hG⟩ => ⟨hG, fun x hx => hm x (List.mem_cons_of_mem _ hx), ?_, ?_⟩, fun c => by cases c⟩⟩
    · rw [hv, List.length_append]
      show ys ++ [.bl true] = List.replicate (ys.length + 1) _
      rw [List.replicate_succ', ← hy]
    · simp only [List.length_append, List.length_cons, List.length_nil] at hl ⊢
      omega
  · rintro ys G1 ⟨rfl, _, hy, hl⟩
    refine ⟨by simp at hl; omega, w_nil ⟨.bl true, G1, ?_, q⟩⟩
    rw [hy]
    simp [lP, inL, all_rep]
end K02

namespace K02
open PySem PySem.Spec PyProof.Rows L2 Tw
/-! ### what names what -/
abbrev Rw := Str × Str × List D
def toR (r : Rw) : D := .tup [.str r.1, .str r.2.1, .tup r.2.2]
def arg : D → Str
  | .tup (_ :: .str a :: _) => a
  | _ => ""
def isA : D → Bool
  | .tup (_ :: .str _ :: _) => true
  | _ => false
/-- what is named, by the step with this number of this task -/
abbrev It := Str × Str × Nat
def itD (t : It) : D := .tup [.str t.1, .tup [.str t.2.1, .int t.2.2]]
def nmS (n : Str) (ws : List Str) : Nat → List D → List It
  | _, [] => []
  | i, d :: r => if ws.contains (wrd d) = true then (arg d, n, i) :: nmS n ws (i + 1) r else nmS n ws (i + 1) r
def nm (ws : List Str) (rows : List Rw) : List It := rows.flatMap fun r => nmS r.1 ws 0 r.2.2
def okA (ws : List Str) (d : D) : Bool := isS d && (!(ws.contains (wrd d)) || isA d)
theorem fl_all (ws : List Str) : (ws.map D.str).all flatD = true := by
  induction ws with
  | nil => rfl
  | cons w ws ih => simp [flatD, ih]
theorem fl_any (ws : List Str) (x : Str) : ((ws.map D.str).any fun z => eqFl z (.str x)) = ws.contains x := by
  induction ws with
  | nil => rfl
  | cons w ws ih =>
    rw [List.map_cons, List.any_cons, ih, List.contains_cons]
    congr 1
    by_cases h : x = w
    · subst h; simp [eqFl]
    · have h2 : ¬ w = x := fun e => h e.symm
      simp only [eqFl]
      rw [beq_eq_false_iff_ne.mpr h, beq_eq_false_iff_ne.mpr h2]
theorem inO_str (ws : List Str) (x : Str) : inO false (.str x) (.tup (ws.map .str)) = some (.bl (ws.contains x)) := by
  have h0 : flatD (.str x) = true := rfl
  unfold inO
  simp only [h0, fl_all, fl_any, Bool.and_self, if_true]
  try rfl
theorem inO_strN (ws : List Str) (x : Str) : inO true (.str x) (.tup (ws.map .str)) = some (.bl (!(ws.contains x))) := by
  have h0 : flatD (.str x) = true := rfl
  unfold inO
  simp only [h0, fl_all, fl_any, Bool.and_self, if_true]
  try rfl
theorem inO_strL (ws : List Str) (x : Str) : inO false (.str x) (.lst (ws.map .str)) = some (.bl (ws.contains x)) := by
  have h0 : flatD (.str x) = true := rfl
  unfold inO
  simp only [h0, fl_all, fl_any, Bool.and_self, if_true]
  try rfl
theorem inO_strLN (ws : List Str) (x : Str) : inO true (.str x) (.lst (ws.map .str)) = some (.bl (!(ws.contains x))) := by
  have h0 : flatD (.str x) = true := rfl
  unfold inO
  simp only [h0, fl_all, fl_any, Bool.and_self, if_true]
  try rfl
abbrev nm_g : D → En → P1 En := gT 2 (gsCons (gN 3) (gsCons (gN 4) gsNil))
abbrev nm_t : En → M Bool := dTest (d2 (pur2 (inO false)) (d2 ixO (dV 4) (dC (.int 0))) (dV 1))
abbrev nm_a : En → M D := dTup (dCons (d2 ixO (dV 4) (dC (.int 1))) (dCons (dTup (dCons (d2 ixO (dV 2) (dC (.int 0))) (dCons (dV 3) dNil))) dNil))
theorem lc_nm (rs : D) (ws : List Str) (r : Rw) (G : List O) : ∀ (xs : List D) (k : Nat), xs.all (okA ws) = true →
    lcL nm_g nm_t nm_a [some rs, some (.tup (ws.map .str)), some (toR r), none, none] ((xs.zipIdx k).map fun p => .tup [.int (p.2 : Nat), p.1]) G = some (.inr ((nmS r.1 ws k xs).map itD), G)
  | [], k, _ => rfl
  | d :: xs, k, h => by
    simp only [List.all_cons, Bool.and_eq_true] at h
    have ih := lc_nm rs ws r G xs (k + 1) h.2
    have hd := h.1
    unfold okA at hd
    obtain ⟨hd1, hd2⟩ := Bool.and_eq_true_iff.mp hd
    obtain ⟨w, rr, rfl, hw, e⟩ := isS_eq hd1
    have i0 := ix0 w rr G
    have ii := inO_str ws w
    rw [e] at hd2
    simp only [List.zipIdx_cons, List.map_cons, lcL, nmS, e]
    by_cases hc : ws.contains w = true
    · have hm : w ∈ ws := by simpa using hc
      rw [hc] at hd2 ii
      have ha : isA (.tup (.str w :: rr)) = true := by simpa using hd2
      cases rr with
      | nil => cases ha
      | cons a0 rr =>
        obtain ⟨a, rfl⟩ : ∃ a, a0 = D.str a := by
          unfold isA at ha
          split at ha
          · rename_i heq; cases heq; exact ⟨_, rfl⟩
          · cases ha
        have i1 : ixO (.tup (.str w :: .str a :: rr)) (.int 1) G = some (.str a, G) := by
          have h : atI (.str w :: .str a :: rr) 1 = some (D.str a) := by
            unfold atI ixN
            rw [if_pos (by omega), if_pos (by simp; omega)]
            simp
          unfold ixO
          simp only [h, pur]
        have i2 : ixO (toR r) (.int 0) G = some (.str r.1, G) := ix0 r.1 _ G
        simp [bndN, lft, gT, gsCons, gN, gsNil, dTest, d2, dV, dC, pur2, bnd, pur, i0, i1, i2, ii, hm, blO, dTup, dCons, dNil, Tw.ret, tupO, mx, ih, arg, itD]
    · have hc' : ws.contains w = false := by simpa using hc
      have hm : ¬ w ∈ ws := by simpa using hc'
      rw [hc'] at ii
      simp [bndN, lft, gT, gsCons, gN, gsNil, dTest, d2, dV, dC, pur2, bnd, pur, i0, ii, hm, blO, Tw.ret, ih]
theorem lc2_nm (rs : D) (ws : List Str) (G : List O) : ∀ rows : List Rw, (∀ r ∈ rows, r.2.2.all (okA ws) = true) →
    lc2L (gN 2) dYes (dRng enumQ (dCons (d2 ixO (dV 2) (dC (.int 2))) dNil)) nm_g nm_t nm_a [3, 4] [some rs, some (.tup (ws.map .str)), none, none, none] (rows.map toR) G = some (.inr ((nm ws rows).map itD), G)
  | [], _ => rfl
  | r :: rows, h => by
    have ih := lc2_nm rs ws G rows fun q hq => h q (List.mem_cons_of_mem _ hq)
    have l := lc_nm rs ws r G r.2.2 0 (h r List.mem_cons_self)
    have i2 : ixO (toR r) (.int 2) G = some (.tup r.2.2, G) := rfl
    have e : nm ws (r :: rows) = nmS r.1 ws 0 r.2.2 ++ nm ws rows := by simp [nm]
    rw [e, List.map_cons, List.map_append, lc2L]
    simp only [bndN, lft, gN, dYes, Tw.ret, dRng, dCons, d2, dV, dC, dNil, bnd, pur, wipeD, List.set_cons_succ, List.set_cons_zero, List.getElem?_cons_succ, List.getElem?_cons_zero, i2, enumQ, enumT1, itT, Option.map_some, enumD, l, ih, if_true]
theorem naming_ok {rows : List Rw} {ws : List Str} (h : ∀ r ∈ rows, r.2.2.all (okA ws) = true) (hz : (nm ws rows).length ≤ mx) : Ans F_naming_marks [.tup (rows.map toR), .tup (ws.map .str)] (.lst ((nm ws rows).map itD)) := by
  refine w_run (w_ret ?_)
  refine WP.bnd (WP.of (a := rows.map toR) (G1 := []) rfl (WP.bndN (WP.of (a := (nm ws rows).map itD) (G1 := []) (lc2_nm _ ws [] rows h) (WP.pur (by unfold lstO; rw [if_pos (by rw [List.length_map]; exact hz)]) ⟨_, rfl, rfl⟩))))

end K02

namespace K02
open PySem PySem.Spec PyProof.Rows L2 Tw
/-! ### whether all hangs together -/
theorem bls_map (f : D → Bool) : ∀ ds : List D, blsO (ds.map fun d => .bl (f d)) = some (ds.map f)
  | [] => rfl
  | d :: r => by simp [blsO, bls_map f r]
theorem all_map (f : D → Bool) (ds : List D) : allF (ds.map fun d => .bl (f d)) = some (.bl (ds.all f)) := by
  simp [allF, bls_map, List.all_map]
theorem all_mapA {α : Type} (f : α → Bool) (l : List α) : allF (l.map fun p => .bl (f p)) = some (.bl (l.all f)) := by
  have : ∀ l : List α, blsO (l.map fun p => .bl (f p)) = some (l.map f) := fun l => by
    induction l with
    | nil => rfl
    | cons p l ih => simp [blsO, ih]
  simp [allF, this, List.all_map]
theorem w_allA {α : Type} {di : En → M (List D)} {g : D → En → P1 En} {a : En → M D} {own : List Nat} {ρ : En} {G : List O} {Q : D → List O → Prop} (l : List α) (e : α → D) (f : α → Bool) (hd : WP (di ρ) G fun es G1 => es = l.map e ∧ G1 = G) (hz : l.length ≤ mx)
    (h : ∀ p ∈ l, ∃ ρ1, g (e p) (wipeD ρ own) G = some (ρ1, G) ∧ WP (a ρ1) G fun v G1 => v = .bl (f p) ∧ G1 = G) (q : Q (.bl (l.all f)) G) : WP (dCall (lP allF) (dCons (dLc di g dYes a own) dNil) ρ) G Q := by
  refine w_call (w_cons (w_lc (fun es ys G1 => G1 = G ∧ ∃ ps rs, l = ps ++ rs ∧ es = rs.map e ∧ ys = ps.map fun p => .bl (f p)) ?_ ?_ ?_))
  · refine hd.imp fun es G1 ⟨e1, e2⟩ => ?_
    subst e1
    exact ⟨e2, [], l, rfl, rfl, rfl⟩
  · rintro d r ys G1 ⟨rfl, ps, rs, hm, he, hy⟩
    cases rs with
    | nil => cases he
    | cons p rs =>
      cases he
      obtain ⟨ρ1, e1, w⟩ := h p (by rw [hm]; simp)
      refine ⟨ρ1, _, e1, w_yes ⟨fun _ => w.imp fun v G2 ⟨hv, hG⟩ => ⟨hG, ps ++ [p], rs, by rw [hm]; simp, rfl, ?_⟩, fun c => by cases c⟩⟩
      rw [hv, hy, List.map_append]
      rfl
  · rintro ys G1 ⟨rfl, ps, rs, hm, he, hy⟩
    have : rs = [] := by cases rs with | nil => rfl | cons => cases he
    subst this
    rw [List.append_nil] at hm
    subst hm
    refine ⟨by rw [hy, List.length_map]; exact hz, w_nil ⟨.bl (l.all f), G1, ?_, q⟩⟩
    rw [hy]
    simp [lP, inL, all_mapA]
theorem nd_key {α : Type} (f : α → Str) (g : α → Key × D) (e : ∀ a, (g a).1 = .inr (f a)) : ∀ {l : List α}, (l.map f).Nodup → ((l.map g).map (·.1)).Nodup
  | [], _ => .nil
  | a :: l, h => by
    rw [List.map_cons, List.nodup_cons] at h
    rw [List.map_cons, List.map_cons, List.nodup_cons]
    refine ⟨fun hm => ?_, nd_key f g e h.2⟩
    obtain ⟨p, hp, hk⟩ := List.mem_map.mp hm
    obtain ⟨b, hb, rfl⟩ := List.mem_map.mp hp
    rw [e, e] at hk
    exact h.1 (List.mem_map.mpr ⟨b, hb, Sum.inr.inj hk⟩)
theorem lookK_none {l : List (Key × D)} {k : Key} (h : k ∉ l.map (·.1)) : lookK l k = none := by
  unfold lookK
  rw [List.find?_eq_none.mpr]
  · rfl
  · intro x hx e
    exact h (List.mem_map.mpr ⟨x, hx, by simpa using e⟩)
theorem lookK_mem {l : List (Key × D)} {k : Key} (h : k ∈ l.map (·.1)) : ∃ v, lookK l k = some v := by
  unfold lookK
  cases e : l.find? fun kv => decide (kv.1 = k) with
  | some p => exact ⟨p.2, rfl⟩
  | none =>
    obtain ⟨p, hp, hk⟩ := List.mem_map.mp h
    have := List.find?_eq_none.mp e p hp
    exact absurd hk (by simpa using this)
theorem lookK_eq {l : List (Key × D)} {k : Key} {v : D} (nd : (l.map (·.1)).Nodup) (h : (k, v) ∈ l) : lookK l k = some v := by
  unfold lookK
  induction l with
  | nil => cases h
  | cons p l ih =>
    rw [List.map_cons, List.nodup_cons] at nd
    rcases List.mem_cons.mp h with e | h
    · subst e; simp [List.find?_cons]
    · have : p.1 ≠ k := fun e => nd.1 (List.mem_map.mpr ⟨(k, v), h, e.symm⟩)
      rw [List.find?_cons, decide_eq_false this]
      exact ih nd.2 h
theorem put_new {l : List (Key × D)} {k : Key} {v : D} (h : k ∉ l.map (·.1)) : putKD l k v = l ++ [(k, v)] := by
  unfold putKD
  rw [if_neg]
  intro e
  obtain ⟨x, hx, hk⟩ := List.any_eq_true.mp e
  exact h (List.mem_map.mpr ⟨x, hx, by simpa using hk⟩)
def kvI (t : It) : Key × D := (.inr t.1, .tup [.str t.2.1, .int t.2.2])
theorem din_eq {neg : Bool} {y x : D} {G : List O} {o : Option D} (h : dgetO x y G = some o) : dinP neg y x G = some (.bl (if neg then !o.isSome else o.isSome), G) := by
  unfold dinP
  rw [h]
section
variable {α : Type}
theorem w_dcA {g : D → En → P1 En} {ka va : En → M D} {ρ : En} {G : List O} (e : α → D) (k : α → Str) (v : α → D) : ∀ (l : List α) (acc : List (Key × D)), ((acc.map (·.1)) ++ l.map fun p => (Sum.inr (k p) : Key)).Nodup → acc.length + l.length ≤ mx →
    (∀ p ∈ l, ∃ ρ1, g (e p) ρ G = some (ρ1, G) ∧ WP (ka ρ1) G (fun y G1 => y = .str (k p) ∧ G1 = G) ∧ WP (va ρ1) G (fun z G1 => z = v p ∧ G1 = G)) →
    WP (dcL g dYes ka va ρ (l.map e) acc) G fun kvs G1 => kvs = acc ++ l.map (fun p => (.inr (k p), v p)) ∧ G1 = G
  | [], acc, _, _, _ => WP.ret ⟨by simp, rfl⟩
  | p :: l, acc, nd, hz, h => by
    obtain ⟨ρ1, e1, w1, w2⟩ := h p List.mem_cons_self
    have fresh : (Sum.inr (k p) : Key) ∉ acc.map (·.1) := fun hm => (List.nodup_append.mp nd).2.2 _ hm _ List.mem_cons_self rfl
    simp only [List.length_cons] at hz
    have ih := w_dcA e k v l (acc ++ [(.inr (k p), v p)]) (by simpa using nd) (by simp; omega) fun q hq => h q (List.mem_cons_of_mem _ hq)
    rw [List.map_cons, dcL]
    refine WP.bndN (WP.lft e1 (WP.bndN (w_yes ?_)))
    rw [if_pos rfl]
    refine WP.bndN (w1.imp fun y G1 ⟨hy, hG⟩ => ?_)
    subst hy hG
    refine WP.bndN (w2.imp fun z G2 ⟨hz2, hG⟩ => ?_)
    subst hz2 hG
    simp only [keyO]
    rw [if_pos (by omega), put_new fresh]
    refine ih.imp fun kvs G3 ⟨h1, h2⟩ => ⟨by rw [h1]; simp, h2⟩
theorem w_loopR {g : D → En → P1 En} {s1 : En → M Out} {Qo : Out → List O → Prop} {G : List O} (e : α → D) (bad : α → Bool) (v : D) (I : En → Prop) : ∀ (l : List α),
    (∀ p ∈ l, ∀ ρ, I ρ → ∃ ρ1, g (e p) ρ G = some (ρ1, G) ∧ WP (s1 ρ1) G fun o G1 => G1 = G ∧ (bad p = true → o = .rt v) ∧ (bad p = false → ∃ ρ2, o = .nx ρ2 ∧ I ρ2)) →
    ∀ ρ, I ρ → (l.any bad = true → Qo (.rt v) G) → (l.any bad = false → ∀ ρ', I ρ' → Qo (.nx ρ') G) → WP (bodyL g s1 (l.map e) ρ) G Qo
  | [], _, ρ, i, _, q => WP.ret (q rfl ρ i)
  | p :: l, h, ρ, i, q1, q2 => by
    obtain ⟨ρ1, e1, w⟩ := h p List.mem_cons_self ρ i
    rw [List.map_cons, bodyL]
    refine WP.bnd (WP.lft e1 (WP.bnd (w.imp fun o G1 ⟨hG, b1, b2⟩ => ?_)))
    subst hG
    cases hb : bad p with
    | true =>
      rw [b1 hb]
      exact WP.ret (q1 (by simp [hb]))
    | false =>
      obtain ⟨ρ2, ho, i2⟩ := b2 hb
      subst ho
      exact w_loopR e bad v I l (fun r hr => h r (List.mem_cons_of_mem _ hr)) ρ2 i2 (fun c => q1 (by simp [c])) fun c => q2 (by simp [hb, c])
theorem w_lcA {g : D → En → P1 En} {t : En → M Bool} {a : En → M D} {ρ : En} {G : List O} (e : α → D) (keep : α → Bool) (f : α → D) : ∀ (l : List α),
    (∀ p ∈ l, ∃ ρ1, g (e p) ρ G = some (ρ1, G) ∧ WP (t ρ1) G (fun c G1 => c = keep p ∧ G1 = G) ∧ (keep p = true → WP (a ρ1) G (fun y G1 => y = f p ∧ G1 = G))) →
    WP (lcL g t a ρ (l.map e)) G fun ys G1 => ys = (l.filter keep).map f ∧ G1 = G
  | [], _ => WP.ret ⟨rfl, rfl⟩
  | p :: l, h => by
    obtain ⟨ρ1, e1, w1, w2⟩ := h p List.mem_cons_self
    have ih := w_lcA e keep f l fun q hq => h q (List.mem_cons_of_mem _ hq)
    rw [List.map_cons, lcL]
    refine WP.bndN (WP.lft e1 (WP.bndN (w1.imp fun c G1 ⟨hc, hG⟩ => ?_)))
    subst hc hG
    cases hk : keep p with
    | true =>
      rw [if_pos rfl]
      refine WP.bndN ((w2 hk).imp fun y G2 ⟨hy, hG⟩ => ?_)
      subst hy hG
      refine WP.bndN (ih.imp fun ys G3 ⟨h1, h2⟩ => WP.ret ⟨by rw [List.filter_cons_of_pos hk, List.map_cons, h1], h2⟩)
    | false =>
      rw [if_neg (by simp)]
      exact ih.imp fun ys G3 ⟨h1, h2⟩ => ⟨by rw [List.filter_cons_of_neg (by simp [hk]), h1], h2⟩
end
theorem w_lcB {α : Type} {di : En → M (List D)} {g : D → En → P1 En} {t : En → M Bool} {a : En → M D} {own : List Nat} {ρ : En} {G : List O} {Q : D → List O → Prop} (l : List α) (e : α → D) (keep : α → Bool) (f : α → D) (hd : WP (di ρ) G fun es G1 => es = l.map e ∧ G1 = G) (hz : l.length ≤ mx)
    (h : ∀ p ∈ l, ∃ ρ1, g (e p) (wipeD ρ own) G = some (ρ1, G) ∧ WP (t ρ1) G (fun c G1 => c = keep p ∧ G1 = G) ∧ (keep p = true → WP (a ρ1) G (fun y G1 => y = f p ∧ G1 = G))) (q : Q (.lst ((l.filter keep).map f)) G) : WP (dLc di g t a own ρ) G Q := by
  refine WP.bnd (hd.imp fun es G1 ⟨h1, h2⟩ => ?_)
  subst h1 h2
  refine WP.bndN ((w_lcA e keep f l h).imp fun ys G2 ⟨h1, h2⟩ => ?_)
  subst h1 h2
  exact WP.pur (by unfold lstO; rw [if_pos (by rw [List.length_map]; exact Nat.le_trans (List.length_filter_le _ _) hz)]) q
theorem w_lcBM {α : Type} {di : En → M (List D)} {g : D → En → P1 En} {t : En → M Bool} {a : En → M D} {own : List Nat} {ρ : En} {G : List O} {Q : D → List O → Prop} (l : List α) (e : α → D) (keep : α → Bool) (f : α → D) (hd : WP (di ρ) G fun es G1 => es = l.map e ∧ G1 = G) (hz : l.length ≤ mx)
    (h : ∀ p ∈ l, ∃ ρ1, g (e p) (wipeD ρ own) G = some (ρ1, G) ∧ WP (t ρ1) G (fun c G1 => c = keep p ∧ G1 = G) ∧ (keep p = true → WP (a ρ1) G (fun y G1 => y = f p ∧ G1 = G))) (q : Q (.ref G.length) (G ++ [.lst ((l.filter keep).map f)])) : WP (dLcF newL di g t a own ρ) G Q := by
  refine WP.bnd (hd.imp fun es G1 ⟨h1, h2⟩ => ?_)
  subst h1 h2
  refine WP.bndN ((w_lcA e keep f l h).imp fun ys G2 ⟨h1, h2⟩ => ?_)
  subst h1 h2
  exact WP.lft (by unfold newL; rw [if_pos (by rw [List.length_map]; exact Nat.le_trans (List.length_filter_le _ _) hz)]) q
def pairD (p : Str × Str) : D := .tup [.str p.1, .str p.2]
def tw3 : List Str := ["start", "join", "cancel"]
def cw2 : List Str := ["close", "catch"]
def badI (names : List Str) (t : It) : Bool := !(names.contains t.1) || t.1 == t.2.1
theorem nr_strs (ws : List Str) : noRs (ws.map D.str) = true := by
  induction ws with
  | nil => rfl
  | cons w ws ih => simp [noRs, noR, ih]
theorem nr_its (l : List It) : noRs (l.map itD) = true := by
  induction l with
  | nil => rfl
  | cons t l ih => simp [noRs, noR, itD, ih]
theorem inr_nodup : ∀ {l : List Str}, l.Nodup → (l.map fun x => (Sum.inr x : Key)).Nodup
  | [], _ => .nil
  | a :: l, h => by
    rw [List.nodup_cons] at h
    rw [List.map_cons, List.nodup_cons]
    refine ⟨fun hm => ?_, inr_nodup h.2⟩
    obtain ⟨b, hb, e⟩ := List.mem_map.mp hm
    cases e
    exact h.1 hb
theorem look_mem {l : List Str} {v : D} (x : Str) : (lookK (l.map fun y => (Sum.inr y, v)) (.inr x)).isSome = l.contains x := by
  induction l with
  | nil => rfl
  | cons y l ih =>
    rw [List.map_cons, List.contains_cons]
    unfold lookK at *
    rw [List.find?_cons]
    by_cases h : y = x
    · subst h; simp
    · have h2 : (Sum.inr y : Key) ≠ Sum.inr x := fun e => h (Sum.inr.inj e)
      have h3 : (x == y) = false := beq_eq_false_iff_ne.mpr fun e => h e.symm
      rw [decide_eq_false h2, h3, Bool.false_or]
      exact ih

theorem smallN {n : Nat} (h : n ≤ 1000) : smallI (n : Int) = true := by
  generalize hi : (n : Int) = i
  have h1 : -(2 ^ 62) ≤ i := by omega
  have h2 : i < 2 ^ 62 := by omega
  unfold smallI
  rw [decide_eq_true h1, decide_eq_true h2]
  rfl
def ltN (a b : Str) : Bool := ltS a.cps.toList b.cps.toList
def asc (ns : List Str) : Bool := (List.range (ns.length - 1)).all fun i => ltN (ns.getD i ("" : Str)) (ns.getD (i + 1) ("" : Str))
theorem atN {xs : List D} {i : Nat} {j : Int} {d : D} (h : xs[i]? = some d) (e : j = (i : Int)) (G : List O) : ixO (.tup xs) (.int j) G = some (d, G) := by
  have lt := (List.getElem?_eq_some_iff.mp h).1
  have : atI xs j = some d := by
    unfold atI ixN
    rw [if_pos (by omega), if_pos (by omega)]
    simp only [Option.bind_some]
    have : j.toNat = i := by omega
    rw [this, h]
  unfold ixO
  simp only [this, pur]
theorem rng2_ok {n : Nat} (h : n ≤ 1000) : rng2 [.int 1, .int (n : Int)] = some (rngD 1 (n - 1)) := by
  have s1 : smallI (1 : Int) = true := smallN (n := 1) (by omega)
  have s2 : smallI ((n : Nat) : Int) = true := smallN h
  have e : ((n : Int) - 1).toNat = n - 1 := by omega
  generalize (n : Int) = z at s2 e
  unfold rng2
  dsimp only
  rw [s1, s2, e]
  rfl
abbrev Rm := Str × Int
def roomD (p : Rm) : D := .tup [.str p.1, .int p.2]
def houseD (rows : List Rw) (gs : List (Str × Str)) (rooms : List Rm) : D := .tup [.tup (rows.map toR), .tpn (gs.map pairD), .tup (rooms.map roomD)]
theorem nr_rooms (l : List Rm) : noRs (l.map roomD) = true := by
  induction l with
  | nil => rfl
  | cons t l ih => simp [noRs, noR, roomD, ih]
theorem ix1 (a b : D) (r : List D) (G : List O) : ixO (.tup (a :: b :: r)) (.int 1) G = some (b, G) := atN (i := 1) rfl rfl G
theorem ix2 (a b c : D) (r : List D) (G : List O) : ixO (.tup (a :: b :: c :: r)) (.int 2) G = some (c, G) := atN (i := 2) rfl rfl G
def sw1 : List Str := ["start"]
theorem nr_kvI (l : List It) : noRk (l.map kvI) = true := by
  induction l with
  | nil => rfl
  | cons t l ih => simp [noRk, noR, noRs, kvI, ih]
theorem nr_pairs (l : List (Str × Str)) : noRs (l.map pairD) = true := by
  induction l with
  | nil => rfl
  | cons t l ih => simp [noRs, noR, pairD, ih]
end K02

namespace K02
open PySem PySem.Spec PyProof.Rows L2 Tw
/-! ### what is drawn -/
abbrev bx (x y c : Int) : O := .lst [.int x, .int y, .int c]
theorem take_pos {x y c s : Int} (t : List O) (hx : 0 < x) (hs : 0 < s) (hs2 : s < 1073741824) :
    F_l_take [.ref 0, .int s] (bx x y c :: t) = some (.inr (.int (x % s)), bx (x / s) y c :: t) := by
  simp [F_l_take, ds_l_take, N_l_take, runD, start0, bnd, bndN, dSeq, dIfS, dTest, dTru, truP, truD, dNotT, dAndT, dOrT, dAnd, dOr, dNot, d2, dV, dC, lft, pur, ixO, atI, ixN, blO, pur2, ordO, gtI, ltI, leI, geI, Tw.ret, dAsg, dCall, dCons, dNil, pur1, purL, intF, absF, gN, modO, divO, mulO, addO, subO, i2, i2c, gSubD, setF, dRet, outD, dNext, dIf, lenP, dLstM, newL, dLst, dTup, lstO, tupO, okL, mx, dFrz, frzD, frzO, dF, noX, dExpr, dMeth, isLs, inL, appF, dPar, par2, lP, allF, listP, inS, hx, hs, hs2]
def zO (y c : Int) : Int := (y + 48271 * c) * (39373 + c) % 2147483647
def zF (y c : Int) : Int := zO y c % 40009 + 7
def zA (y c : Int) : Int := (zO y c + c + y / 1000003) * zF y c % 2147483629
theorem take_zero {x y c s : Int} (t : List O) (hx : ¬ 0 < x) (hc : 0 ≤ c) (hc2 : c ≤ 1000) (hs : 0 < s) :
    F_l_take [.ref 0, .int s] (bx x y c :: t) = some (.inr (.int ((zA y (c + 1) * 48271 + zO y (c + 1)) % 2147483587 / 64 % s)), bx x y (c + 1) :: t) := by
  have m1 : -18446744073709551616 < 39373 + (c + 1) := by omega
  have m2 : 39373 + (c + 1) < 18446744073709551616 := by omega
  have m3 : -18446744073709551616 < (y + 48271 * (c + 1)) * (39373 + (c + 1)) % 2147483647 % 40009 + 7 := by omega
  have m4 : (y + 48271 * (c + 1)) * (39373 + (c + 1)) % 2147483647 % 40009 + 7 < 18446744073709551616 := by omega
  simp [F_l_take, ds_l_take, N_l_take, runD, start0, bnd, bndN, dSeq, dIfS, dTest, dTru, truP, truD, dNotT, dAndT, dOrT, dAnd, dOr, dNot, d2, dV, dC, lft, pur, ixO, atI, ixN, blO, pur2, ordO, gtI, ltI, leI, geI, Tw.ret, dAsg, dCall, dCons, dNil, pur1, purL, intF, absF, gN, modO, divO, mulO, addO, subO, i2, i2c, gSubD, setF, dRet, outD, dNext, dIf, lenP, dLstM, newL, dLst, dTup, lstO, tupO, okL, mx, dFrz, frzD, frzO, dF, noX, dExpr, dMeth, isLs, inL, appF, dPar, par2, lP, allF, listP, inS, hx, hs, mulC, m1, m2, m3, m4, zA, zF, zO]
/-- a box of at most n draws -/
def BX (n : Int) (o : O) : Prop := ∃ x y c : Int, o = bx x y c ∧ 0 ≤ x ∧ 0 ≤ c ∧ c ≤ n
theorem BX.up {n m : Int} {o : O} (h : BX n o) (l : n ≤ m) : BX m o := let ⟨x, y, c, e, h1, h2, h3⟩ := h; ⟨x, y, c, e, h1, h2, by omega⟩
theorem w_take {n s : Int} {o : O} {t : List O} {Q : D → List O → Prop} (b : BX n o) (hn : n ≤ 1000) (hs : 0 < s) (hs2 : s < 1073741824) (q : ∀ r o', 0 ≤ r → r < s → BX (n + 1) o' → Q (.int r) (o' :: t)) : WP (F_l_take [.ref 0, .int s]) (o :: t) Q := by
  obtain ⟨x, y, c, rfl, hx, hc, hc2⟩ := b
  by_cases h : 0 < x
  · exact ⟨_, _, take_pos t h hs hs2, q _ _ (Int.emod_nonneg x (Int.ne_of_gt hs)) (Int.emod_lt_of_pos x hs) ⟨_, _, _, rfl, Int.ediv_nonneg hx (Int.le_of_lt hs), hc, by omega⟩⟩
  · exact ⟨_, _, take_zero t h hc (by omega) hs, q _ _ (Int.emod_nonneg _ (Int.ne_of_gt hs)) (Int.emod_lt_of_pos _ hs) ⟨_, _, _, rfl, hx, by omega, by omega⟩⟩
theorem atL {xs : List D} {j : Int} (h0 : 0 ≤ j) (h1 : j < xs.length) : ∃ d, d ∈ xs ∧ xs[j.toNat]? = some d ∧ ∀ G, ixO (.lst xs) (.int j) G = some (d, G) := by
  have hl : j.toNat < xs.length := by omega
  obtain ⟨d, hd⟩ : ∃ d, xs[j.toNat]? = some d := ⟨_, List.getElem?_eq_getElem hl⟩
  refine ⟨d, List.mem_of_getElem? hd, hd, fun G => ?_⟩
  have : atI xs j = some d := by
    unfold atI ixN
    rw [if_pos h0, if_pos h1]
    exact hd
  unfold ixO
  simp only [this, pur]
theorem w_of {n : Int} {o : O} {t : List O} {goods : List D} {Q : D → List O → Prop} (b : BX n o) (hn : n ≤ 1000) (h0 : 0 < goods.length) (h1 : goods.length < 1000) (q : ∀ d o', d ∈ goods → BX (n + 1) o' → Q d (o' :: t)) : WP (F_l_of [.ref 0, .lst goods]) (o :: t) Q := by
  refine w_run (w_ret (w_d2 (w_v rfl (w_F (w_cons (w_v rfl (w_cons (w_call (w_cons (w_v rfl (w_nil ⟨.int goods.length, _, rfl, w_nil ?_⟩)))))))))))
  refine w_take b hn (by omega) (by omega) fun r o' r0 r1 b' => ?_
  obtain ⟨d, hd, _, e⟩ := atL r0 r1
  exact ⟨d, _, e _, d, rfl, q d o' hd b'⟩
end K02

namespace K02
open PySem PySem.Spec PyProof.Rows L2 Tw
theorem erase_perm {α : Type} : ∀ (l : List α) (j : Nat) (y : α), l[j]? = some y → (y :: l.eraseIdx j).Perm l
  | [], j, y, h => by simp at h
  | a :: l, 0, y, h => by
    simp at h
    subst h
    exact List.Perm.refl _
  | a :: l, j + 1, y, h => by
    have ih := erase_perm l j y (by simpa using h)
    show (y :: a :: l.eraseIdx j).Perm (a :: l)
    exact (List.Perm.swap a y _).trans (ih.cons a)
theorem smallR {i : Int} (h0 : 0 ≤ i) (h : i ≤ 1000) : smallI i = true := by
  have h1 : -(2 ^ 62) ≤ i := by omega
  have h2 : i < 2 ^ 62 := by omega
  unfold smallI
  rw [decide_eq_true h1, decide_eq_true h2]
  rfl
section
variable {o a b c : O} {t : List O}
theorem lk1 : (o :: (t ++ [a, b]))[t.length + 1]? = some a := by simp
theorem lk2 : (o :: (t ++ [a, b]))[t.length + 2]? = some b := by simp
theorem st1 : (o :: (t ++ [a, b])).set (t.length + 1) c = o :: (t ++ [c, b]) := by simp
theorem st2 : (o :: (t ++ [a, b])).set (t.length + 2) c = o :: (t ++ [a, c]) := by simp
end
theorem popAt_ok {o : O} {t : List O} {pool found : List D} {r : Int} {y : D} (h0 : 0 ≤ r) (h1 : r < pool.length) (hz : pool.length ≤ 1000) (hy : pool[r.toNat]? = some y) :
    popAtF (.ref (t.length + 1)) [.int r] (o :: (t ++ [.lst pool, .lst found])) = some (y, o :: (t ++ [.lst (pool.eraseIdx r.toNat), .lst found])) := by
  have s := smallR h0 (by omega : r ≤ 1000)
  have ix : ixN pool.length r = some r.toNat := by
    unfold ixN
    rw [if_pos h0, if_pos h1]
  have sq := (ixN_seq ix).1
  unfold popAtF
  simp only [lk1]
  rw [if_pos s]
  simp only [sq, hy, st1]
theorem app2_ok {o : O} {t : List O} {x : O} {found : List D} {y : D} (hz : found.length + 1 ≤ mx) :
    appF (.ref (t.length + 2)) [y] (o :: (t ++ [x, .lst found])) = some (.non, o :: (t ++ [x, .lst (found ++ [y])])) := by
  unfold appF
  simp only [lk2]
  rw [if_pos hz, st2]
theorem w_pick {n count : Int} {o : O} {t : List O} {goods : List D} {Q : D → List O → Prop} (b : BX n o) (hn : n ≤ 900) (h1 : goods.length ≤ 20) (hc0 : 0 ≤ count) (hc : count ≤ goods.length)
    (q : ∀ found o' e pool, (found ++ pool).Perm goods → (found.length : Int) = count → BX (n + 20) o' → Q (.lst found) (o' :: (t ++ e))) : WP (F_l_pick [.ref 0, .lst goods, .int count]) (o :: t) Q := by
  have mz : (1000 : Nat) ≤ mx := by decide
  refine w_run ?_
  unfold ds_l_pick
  refine w_seq ?_
  (repeat (first | (with_reducible first | refine w_v rfl ?_ | refine w_c ?_ | refine w_d2 ?_ | refine w_cons ?_ | refine w_nil ?_ | refine w_call ?_ | refine w_tup ?_ | refine w_tpn ?_ | refine w_lst ?_ | refine w_lstM ?_ | refine w_wk ?_ | refine w_frz ?_ | refine w_meth ?_ | refine w_test ?_ | refine w_notT ?_ | refine w_andT ?_ | refine w_orT ?_ | refine w_yes ?_ | refine w_and ?_ | refine w_or ?_ | refine w_not ?_ | refine w_if ?_ | refine w_ifS ?_ | refine w_seq ?_ | refine w_next ?_ | refine w_cnt ?_ | refine w_ret ?_ | refine w_expr ?_ | refine w_asg ?_ | refine w_par ?_ | refine w_F ?_ | refine w_Fp ?_ | refine w_itL ?_ | refine w_itT ?_ | refine w_itK ?_ | refine w_rng ?_ | refine w_neg ?_ | refine w_dput ?_ | refine w_newD ?_) | refine ⟨_, _, rfl, ?_⟩ | refine ⟨_, rfl, ?_⟩))
  refine ⟨.ref (t.length + 1), o :: t ++ [O.lst goods], ?_, ?_⟩
  · unfold listP
    simp only [inS, inL]
    unfold newL
    rw [if_pos (by omega)]
    rfl
  refine w_cons (w_lstM (w_nil ⟨by decide, w_nil ⟨_, rfl, ?_⟩⟩))
  have eG : o :: t ++ [O.lst goods] ++ [O.lst []] = o :: (t ++ [O.lst goods, O.lst []]) := by simp
  have eL : (o :: t ++ [O.lst goods]).length = t.length + 2 := by simp
  rw [eG, eL]
  show WP _ _ _
  have em : min count (goods.length : Int) = count := Int.min_eq_left hc
  refine w_seq (w_for ?_)
  (repeat (first | (with_reducible first | refine w_v rfl ?_ | refine w_c ?_ | refine w_d2 ?_ | refine w_cons ?_ | refine w_nil ?_ | refine w_call ?_ | refine w_tup ?_ | refine w_tpn ?_ | refine w_lst ?_ | refine w_lstM ?_ | refine w_wk ?_ | refine w_frz ?_ | refine w_meth ?_ | refine w_test ?_ | refine w_notT ?_ | refine w_andT ?_ | refine w_orT ?_ | refine w_yes ?_ | refine w_and ?_ | refine w_or ?_ | refine w_not ?_ | refine w_if ?_ | refine w_ifS ?_ | refine w_seq ?_ | refine w_next ?_ | refine w_cnt ?_ | refine w_ret ?_ | refine w_expr ?_ | refine w_asg ?_ | refine w_par ?_ | refine w_F ?_ | refine w_Fp ?_ | refine w_itL ?_ | refine w_itT ?_ | refine w_itK ?_ | refine w_rng ?_ | refine w_neg ?_ | refine w_dput ?_ | refine w_newD ?_) | refine ⟨_, _, rfl, ?_⟩ | refine ⟨_, rfl, ?_⟩))
  refine ⟨.int goods.length, o :: (t ++ [O.lst goods, O.lst []]), ?_, ?_⟩
  · unfold lenP
    simp only [lk1]
  (repeat (first | (with_reducible first | refine w_v rfl ?_ | refine w_c ?_ | refine w_d2 ?_ | refine w_cons ?_ | refine w_nil ?_ | refine w_call ?_ | refine w_tup ?_ | refine w_tpn ?_ | refine w_lst ?_ | refine w_lstM ?_ | refine w_wk ?_ | refine w_frz ?_ | refine w_meth ?_ | refine w_test ?_ | refine w_notT ?_ | refine w_andT ?_ | refine w_orT ?_ | refine w_yes ?_ | refine w_and ?_ | refine w_or ?_ | refine w_not ?_ | refine w_if ?_ | refine w_ifS ?_ | refine w_seq ?_ | refine w_next ?_ | refine w_cnt ?_ | refine w_ret ?_ | refine w_expr ?_ | refine w_asg ?_ | refine w_par ?_ | refine w_F ?_ | refine w_Fp ?_ | refine w_itL ?_ | refine w_itT ?_ | refine w_itK ?_ | refine w_rng ?_ | refine w_neg ?_ | refine w_dput ?_ | refine w_newD ?_) | refine ⟨_, _, rfl, ?_⟩ | refine ⟨_, rfl, ?_⟩))
  have em2 : min2 count goods.length = count := by
    unfold min2
    split <;> omega
  rw [em2]
  refine ⟨rngD 0 count.toNat, ?_, ?_⟩
  · unfold rng1
    dsimp only
    rw [smallR hc0 (by omega)]
    rfl
  refine w_loop (fun ds ρ G => ∃ (o' : O) (pool found : List D) (u5 : Option D), G = o' :: (t ++ [.lst pool, .lst found]) ∧ BX (n + found.length) o' ∧ (found ++ pool).Perm goods ∧ ((ds.length : Int) + found.length = count) ∧ ρ = [some (.ref 0), some (.lst goods), some (.int count), some (.ref (t.length + 1)), some (.ref (t.length + 2)), u5]) ?_ _ _ _ ⟨o, goods, [], none, rfl, b.up (by simp), List.Perm.refl _, ?_, rfl⟩ ?_
  · rintro d r ρ G ⟨o', pool, found, u5, rfl, b', hp, hl, rfl⟩
    have lp := hp.length_eq
    rw [List.length_append] at lp
    simp only [List.length_cons] at hl
    have hz : found.length + 1 ≤ mx := by omega
    refine ⟨[some (.ref 0), some (.lst goods), some (.int count), some (.ref (t.length + 1)), some (.ref (t.length + 2)), some d], _, rfl, ?_⟩
    refine w_expr (w_meth (w_v rfl ⟨⟨found, by unfold inL; simp only [lk2]⟩, w_cons (w_meth (w_v rfl ⟨⟨pool, by unfold inL; simp only [lk1]⟩, ?_⟩))⟩))
    (repeat (first | (with_reducible first | refine w_v rfl ?_ | refine w_c ?_ | refine w_d2 ?_ | refine w_cons ?_ | refine w_nil ?_ | refine w_call ?_ | refine w_tup ?_ | refine w_tpn ?_ | refine w_lst ?_ | refine w_lstM ?_ | refine w_wk ?_ | refine w_frz ?_ | refine w_meth ?_ | refine w_test ?_ | refine w_notT ?_ | refine w_andT ?_ | refine w_orT ?_ | refine w_yes ?_ | refine w_and ?_ | refine w_or ?_ | refine w_not ?_ | refine w_if ?_ | refine w_ifS ?_ | refine w_seq ?_ | refine w_next ?_ | refine w_cnt ?_ | refine w_ret ?_ | refine w_expr ?_ | refine w_asg ?_ | refine w_par ?_ | refine w_F ?_ | refine w_Fp ?_ | refine w_itL ?_ | refine w_itT ?_ | refine w_itK ?_ | refine w_rng ?_ | refine w_neg ?_ | refine w_dput ?_ | refine w_newD ?_) | refine ⟨_, _, rfl, ?_⟩ | refine ⟨_, rfl, ?_⟩))
    refine ⟨.int pool.length, o' :: (t ++ [O.lst pool, O.lst found]), ?_, ?_⟩
    · unfold lenP
      simp only [lk1]
    refine w_nil ?_
    refine w_take b' (by omega) (by omega) (by omega) fun rr o2 r0 r1 b2 => ?_
    obtain ⟨y, hy⟩ : ∃ y, pool[rr.toNat]? = some y := ⟨_, List.getElem?_eq_getElem (by omega)⟩
    refine w_nil ⟨y, _, popAt_ok r0 r1 (by omega) hy, w_nil ⟨.non, _, app2_ok hz, _, .inl rfl, o2, _, found ++ [y], some d, rfl, b2.up (by simp; omega), ?_, ?_, rfl⟩⟩
    · rw [List.append_assoc]
      exact (List.Perm.append_left found (erase_perm pool _ y hy)).trans hp
    · rw [List.length_append]
      simp
      omega
  · simp [rngD]
    omega
  · rintro ρ G ⟨o', pool, found, u5, rfl, b', hp, hl, rfl⟩
    have lp := hp.length_eq
    rw [List.length_append] at lp
    show WP _ _ _
    refine w_ret (w_frz (w_v rfl ⟨.lst found, o' :: (t ++ [.lst pool, .gone]), ?_, _, rfl, q found o' _ pool hp (by simpa using hl) (b'.up (by omega))⟩))
    unfold frzD
    simp only [lk2, frzO, st2]
end K02

namespace K02
open PySem PySem.Spec PyProof.Rows L2 Tw
/-! ### drawn scripts -/
def names5 : List Str := ["a", "ann", "b", "cy", "zz"]
def lanes2 : List D := [.str "p", .str "q"]
def ends4 : List D := [.tup [], .tup [], .int 1, .int 2]
/-- steps that name no task and no group -/
def Pl : List D := lanes2.flatMap (fun l => [D.tup [.str "put", l], .tup [.str "set", l]] ++ ends4.flatMap fun e => [D.tup [.str "get", l, e], .tup [.str "hear", l, e]]) ++
  [.tup [.str "until", .int 0], .tup [.str "until", .int 1], .tup [.str "until", .int 2], .tup [.str "give"], .tup [.str "fail", .str "v"], .tup [.str "fail", .str "w"]]
def inD1 : D := .tup [.str "in"]
def outD1 : D := .tup [.str "out"]
def Jn (x : Str) : List D := .tup [.str "cancel", .str x] :: ends4.map fun e => .tup [.str "join", .str x, e]
/-- what is asked of each step by itself -/
def qw2 : List Str := ["put", "get"]
def sg2 : List Str := ["set", "hear"]
def chk (d : D) : Bool := isS d && ((okA qw2 d && okA sg2 d) && (okA tw3 d && (okA cw2 d && okA sw1 d)))
theorem Pl_chk : Pl.all (fun d => chk d && (delta d == 0 && (!(tw3.contains (wrd d)) && (!(cw2.contains (wrd d)) && !(sw1.contains (wrd d)))))) = true := by kernel_rfl
theorem io_chk : [inD1, outD1].all (fun d => chk d && (!(tw3.contains (wrd d)) && (!(cw2.contains (wrd d)) && !(sw1.contains (wrd d))))) = true := by kernel_rfl
theorem Jn_chk : names5.all (fun x => (Jn x).all fun d => chk d && (delta d == 0 && (arg d == x && (!(cw2.contains (wrd d)) && !(sw1.contains (wrd d)))))) = true := by kernel_rfl
/-- a step of a drawn script -/
def Dr1 (others : List Str) (d : D) : Prop := d ∈ Pl ∨ d = inD1 ∨ d = outD1 ∨ ∃ x ∈ others, d ∈ Jn x
/-- a drawn script -/
def DrS (others : List Str) (row : List D) : Prop := (∀ d ∈ row, Dr1 others d) ∧ walk 0 row = some 0
theorem DrS.nil {others : List Str} : DrS others [] := ⟨fun d h => absurd h (by simp), rfl⟩
theorem DrS.one {others : List Str} {row : List D} {d : D} (h : DrS others row) (hd : Dr1 others d) (h0 : delta d = 0) : DrS others (row ++ [d]) := by
  refine ⟨fun x hx => ?_, ?_⟩
  · rcases List.mem_append.mp hx with hx | hx
    · exact h.1 x hx
    · rw [List.mem_singleton.mp hx]; exact hd
  · rw [walk_app, h.2]
    show walk 0 [d] = some 0
    simp [walk, h0]
theorem DrS.three {others : List Str} {row : List D} {l : D} (h : DrS others row) (hl : l ∈ lanes2) : DrS others (row ++ [inD1, .tup [.str "put", l], outD1]) := by
  have hp : D.tup [.str "put", l] ∈ Pl := by
    unfold Pl
    exact List.mem_append_left _ (List.mem_flatMap.mpr ⟨l, hl, by simp⟩)
  have e0 : delta (.tup [.str "put", l]) = 0 := by
    have := List.all_eq_true.mp Pl_chk _ hp
    simp only [Bool.and_eq_true, beq_iff_eq] at this
    exact this.2.1
  refine ⟨fun x hx => ?_, ?_⟩
  · rcases List.mem_append.mp hx with hx | hx
    · exact h.1 x hx
    · simp only [List.mem_cons, List.not_mem_nil, or_false] at hx
      rcases hx with rfl | rfl | rfl
      · exact .inr (.inl rfl)
      · exact .inl hp
      · exact .inr (.inr (.inl rfl))
  · rw [walk_app, h.2]
    show walk 0 [inD1, .tup [.str "put", l], outD1] = some 0
    have e1 : delta inD1 = 1 := by decide +kernel
    have e2 : delta outD1 = -1 := by decide +kernel
    simp [walk, e0, e1, e2]
theorem Dr1.pl {others : List Str} {d : D} (h : d ∈ Pl) : Dr1 others d ∧ delta d = 0 := by
  have := List.all_eq_true.mp Pl_chk _ h
  simp only [Bool.and_eq_true, beq_iff_eq] at this
  exact ⟨.inl h, this.2.1⟩
theorem Dr1.jn {others : List Str} {d : D} {x : Str} (hn : ∀ x ∈ others, x ∈ names5) (hx : x ∈ others) (h : d ∈ Jn x) : Dr1 others d ∧ delta d = 0 := by
  have := List.all_eq_true.mp (List.all_eq_true.mp Jn_chk _ (hn x hx)) _ h
  simp only [Bool.and_eq_true, beq_iff_eq] at this
  exact ⟨.inr (.inr (.inr ⟨x, hx, h⟩)), this.2.1⟩
section
variable {o x c : O} {t e : List O} {j : Nat}
theorem lkE (h : e[j]? = some x) : (o :: (t ++ e))[t.length + 1 + j]? = some x := by
  have : t.length + 1 + j = (t.length + j) + 1 := by omega
  rw [this, List.getElem?_cons_succ, List.getElem?_append_right (by omega)]
  have : t.length + j - t.length = j := by omega
  rw [this, h]
theorem stE : (o :: (t ++ e)).set (t.length + 1 + j) c = o :: (t ++ e.set j c) := by
  have : t.length + 1 + j = (t.length + j) + 1 := by omega
  rw [this, List.set_cons_succ, List.set_append_right _ _ (by omega)]
  have : t.length + j - t.length = j := by omega
  rw [this]
theorem appE {row : List D} {y : D} (h : e[j]? = some (.lst row)) (hz : row.length + 1 ≤ mx) : appF (.ref (t.length + 1 + j)) [y] (o :: (t ++ e)) = some (.non, o :: (t ++ e.set j (.lst (row ++ [y])))) := by
  unfold appF
  simp only [lkE h]
  rw [if_pos hz, stE]
end
def words12 : List D := [.str "put", .str "get", .str "set", .str "hear", .str "join", .str "cancel", .str "until", .str "give", .str "fail", .str "get", .str "put", .str "in"]
/-- how far a script has come -/
def ScI (n : Int) (others : List Str) (room : Nat) (t : List O) (ρ : En) (G : List O) : Prop := ∃ (o' : O) (e : List O) (j : Nat) (row : List D) (u6 u7 u8 u9 : Option D),
  G = o' :: (t ++ e) ∧ BX n o' ∧ e[j]? = some (.lst row) ∧ DrS others (row.take room) ∧ (row.length : Int) ≤ 3 * n ∧ ρ = [some (.ref 0), some (.lst (others.map .str)), some (.int 3), some (.int room), some (.ref (t.length + 1 + j)), some (.lst words12), u6, u7, u8, u9]
theorem take_one {others : List Str} {row : List D} {d : D} {room : Nat} (h : DrS others (row.take room)) (hd : Dr1 others d ∧ delta d = 0) : DrS others ((row ++ [d]).take room) := by
  by_cases hl : row.length < room
  · have e1 : row.take room = row := List.take_of_length_le (by omega)
    have e2 : (row ++ [d]).take room = row ++ [d] := List.take_of_length_le (by simp; omega)
    rw [e2]
    rw [e1] at h
    exact h.one hd.1 hd.2
  · rw [List.take_append_of_le_length (by omega)]
    exact h
end K02

namespace K02
open PySem PySem.Spec PyProof.Rows L2 Tw
/-! ### what can be compared -/
theorem toPs_str : ∀ ws : List Str, toPs (ws.map .str) = some (ws.map .str)
  | [] => rfl
  | w :: ws => by simp [toPs, toP, toPs_str ws]
theorem lay_str : ∀ {ws : List Str}, ws.all PyData.strOk = true → PyData.canLayAll0 (ws.map .str) = true
  | [], _ => rfl
  | w :: ws, h => by
    simp only [List.all_cons, Bool.and_eq_true] at h
    simp [PyData.canLayAll0, PyData.canLay0, h.1, lay_str h.2]
theorem dep_str : ∀ ws : List Str, PyData.depthAll (ws.map .str) = 0
  | [] => rfl
  | w :: ws => by simp [PyData.depthAll, PyData.depth, dep_str ws]
theorem eqO_nil {ws : List Str} (h : ws.all PyData.strOk = true) (n : Bool) : eqO n (.lst (ws.map .str)) (.lst []) = some (.bl (if n then !ws.isEmpty else ws.isEmpty)) := by
  have s1 : SeqAt.shaped (.list (ws.map .str)) = true := by simp [SeqAt.shaped, PyData.canLay0, PyData.depth, lay_str h, dep_str]
  have s2 : SeqAt.shaped (.list []) = true := by decide +kernel
  unfold eqO
  have t1 : toP (.lst (ws.map .str)) = some (.list (ws.map .str)) := by simp [toP, toPs_str]
  have t2 : toP (.lst []) = some (.list []) := rfl
  rw [t1, t2]
  simp only [s1, s2, Bool.and_self, if_true]
  cases ws with
  | nil => rfl
  | cons w ws => simp [PyData.eqv, PyData.eqvAll]
theorem eqO_nilN {ws : List Str} (h : ws.all PyData.strOk = true) (h0 : ws ≠ []) : eqO true (.lst (ws.map .str)) (.lst []) = some (.bl true) := by
  rw [eqO_nil h]
  cases ws with
  | nil => exact absurd rfl h0
  | cons w ws => rfl
end K02

namespace K02
open PySem PySem.Spec PyProof.Rows L2 Tw
theorem w_then {s : En → M Out} {Q : Out → List O → Prop} {ρ : En} {G : List O} (h : WP (s ρ) G Q) : thenS s Q (.nx ρ) G := h
theorem eqS {x y : Str} {n : Bool} {G : List O} (hx : PyData.strOk x = true) (hy : PyData.strOk y = true) : pur2 (eqO n) (.str x) (.str y) G = some (.bl (if n then !(x == y) else (x == y)), G) := by
  unfold pur2 pur
  rw [eqO_str hx hy]
theorem addT {xs ys : List D} {G : List O} (h : xs.length + ys.length ≤ mx) : pur2 addO (.tup xs) (.tup ys) G = some (.tup (xs ++ ys), G) := by
  unfold pur2 pur addO
  simp only
  rw [if_pos h]
theorem sc_app {X : En → M D} {ρ : En} {o : O} {t e : List O} {j : Nat} {row : List D} {m : Int} {others : List Str} (h4 : ρ[4]? = some (some (.ref (t.length + 1 + j)))) (hj : e[j]? = some (.lst row)) (hz : row.length + 1 ≤ mx)
    (h : WP (X ρ) (o :: (t ++ e)) fun d G1 => ∃ o1, G1 = o1 :: (t ++ e) ∧ BX m o1 ∧ Dr1 others d ∧ delta d = 0) :
    WP (dExpr (dMeth appF (dV 4) (dCons X dNil)) ρ) (o :: (t ++ e)) fun out G2 => out = .nx ρ ∧ ∃ o1 d, G2 = o1 :: (t ++ e.set j (.lst (row ++ [d]))) ∧ BX m o1 ∧ Dr1 others d ∧ delta d = 0 := by
  refine w_expr (w_meth (w_v h4 ⟨⟨row, by unfold inL; simp only [lkE hj]⟩, w_cons (h.imp fun d G1 ⟨o1, e1, b, d1, d0⟩ => w_nil ?_)⟩))
  subst e1
  exact ⟨.non, _, appE hj hz, rfl, o1, d, rfl, b, d1, d0⟩
theorem mem_ps {l : D} (h : l ∈ lanes2) : D.tup [.str "put", l] ∈ Pl ∧ D.tup [.str "set", l] ∈ Pl := by
  unfold Pl
  exact ⟨List.mem_append_left _ (List.mem_flatMap.mpr ⟨l, h, by simp⟩), List.mem_append_left _ (List.mem_flatMap.mpr ⟨l, h, by simp⟩)⟩
theorem mem_gh {l e : D} (h : l ∈ lanes2) (he : e ∈ ends4) : D.tup [.str "get", l, e] ∈ Pl ∧ D.tup [.str "hear", l, e] ∈ Pl := by
  unfold Pl
  exact ⟨List.mem_append_left _ (List.mem_flatMap.mpr ⟨l, h, List.mem_append_right _ (List.mem_flatMap.mpr ⟨e, he, by simp⟩)⟩), List.mem_append_left _ (List.mem_flatMap.mpr ⟨l, h, List.mem_append_right _ (List.mem_flatMap.mpr ⟨e, he, by simp⟩)⟩)⟩
theorem mem_rest : D.tup [.str "until", .int 0] ∈ Pl ∧ D.tup [.str "until", .int 1] ∈ Pl ∧ D.tup [.str "until", .int 2] ∈ Pl ∧ D.tup [.str "give"] ∈ Pl ∧ D.tup [.str "fail", .str "v"] ∈ Pl ∧ D.tup [.str "fail", .str "w"] ∈ Pl := by
  unfold Pl
  refine ⟨?_, ?_, ?_, ?_, ?_, ?_⟩ <;> exact List.mem_append_right _ (by simp)
theorem script_step {n : Int} {others : List Str} {room : Nat} {t : List O} {u6 u7 u8 u9 : Option D} {o' : O} {e : List O} {j : Nat} {row : List D} {d : D} (hn : n ≤ 900) (on : ∀ x ∈ others, x ∈ names5) (o0 : others ≠ []) (ol : others.length ≤ 5)
    (b : BX n o') (hj : e[j]? = some (.lst row)) (hr : DrS others (row.take room)) (hl : (row.length : Int) ≤ 3 * n) :
    WP ((dSeq (dPar 7 8 (dCons (dF F_l_of (dCons (dV 0) (dCons (dV 5) dNil))) (dCons (dF F_l_of (dCons (dV 0) (dCons (dLst (dCons (dC (.str "p")) (dCons (dC (.str "q")) dNil))) dNil))) dNil))) (dSeq (dAsg (dF F_l_of (dCons (dV 0) (dCons (dLst (dCons (dTup dNil) (dCons (dTup dNil) (dCons (dC (.int 1)) (dCons (dC (.int 2)) dNil))))) dNil))) (gN 9)) (dIfS (dTest (d2 (pur2 (inO false)) (dV 7) (dTup (dCons (dC (.str "get")) (dCons (dC (.str "hear")) dNil))))) (dExpr (dMeth appF (dV 4) (dCons (dTup (dCons (dV 7) (dCons (dV 8) (dCons (dV 9) dNil)))) dNil))) (dIfS (dTest (d2 (pur2 (inO false)) (dV 7) (dTup (dCons (dC (.str "put")) (dCons (dC (.str "set")) dNil))))) (dExpr (dMeth appF (dV 4) (dCons (dTup (dCons (dV 7) (dCons (dV 8) dNil))) dNil))) (dIfS (dAndT (dTest (d2 (pur2 (inO false)) (dV 7) (dTup (dCons (dC (.str "join")) (dCons (dC (.str "cancel")) dNil))))) (dTest (d2 (pur2 (eqO true)) (dV 1) (dLst dNil)))) (dExpr (dMeth appF (dV 4) (dCons (d2 (pur2 addO) (dTup (dCons (dV 7) (dCons (dF F_l_of (dCons (dV 0) (dCons (dV 1) dNil))) dNil))) (dIf (dTest (d2 (pur2 (eqO false)) (dV 7) (dC (.str "join")))) (dTup (dCons (dV 9) dNil)) (dTup dNil))) dNil))) (dIfS (dTest (d2 (pur2 (eqO false)) (dV 7) (dC (.str "until")))) (dExpr (dMeth appF (dV 4) (dCons (dTup (dCons (dC (.str "until")) (dCons (dF F_l_take (dCons (dV 0) (dCons (dC (.int 3)) dNil))) dNil))) dNil))) (dIfS (dTest (d2 (pur2 (eqO false)) (dV 7) (dC (.str "fail")))) (dExpr (dMeth appF (dV 4) (dCons (dTup (dCons (dC (.str "fail")) (dCons (dF F_l_of (dCons (dV 0) (dCons (dLst (dCons (dC (.str "v")) (dCons (dC (.str "w")) dNil))) dNil))) dNil))) dNil))) (dIfS (dAndT (dTest (d2 (pur2 (eqO false)) (dV 7) (dC (.str "in")))) (dTest (d2 (pur2 (ordO leI leS)) (d2 (pur2 addO) (dCall (lenP) (dCons (dV 4) dNil)) (dC (.int 3))) (dV 3)))) (dAsg (d2 (catP newL) (dV 4) (dLst (dCons (dTup (dCons (dC (.str "in")) dNil)) (dCons (dTup (dCons (dC (.str "put")) (dCons (dV 8) dNil))) (dCons (dTup (dCons (dC (.str "out")) dNil)) dNil))))) (gN 4)) (dExpr (dMeth appF (dV 4) (dCons (dTup (dCons (dC (.str "give")) dNil)) dNil))))))))))) [some (.ref 0), some (.lst (others.map .str)), some (.int 3), some (.int room), some (.ref (t.length + 1 + j)), some (.lst words12), some d, u7, u8, u9]) (o' :: (t ++ e))
      fun o G2 => ∃ ρ2, (o = .nx ρ2 ∨ o = .ct ρ2) ∧ ScI (n + 4) others room t ρ2 G2 := by
  (repeat (first | (with_reducible first | refine w_v rfl ?_ | refine w_c ?_ | refine w_d2 ?_ | refine w_cons ?_ | refine w_nil ?_ | refine w_call ?_ | refine w_tup ?_ | refine w_tpn ?_ | refine w_lst ?_ | refine w_lstM ?_ | refine w_wk ?_ | refine w_frz ?_ | refine w_meth ?_ | refine w_test ?_ | refine w_notT ?_ | refine w_andT ?_ | refine w_orT ?_ | refine w_yes ?_ | refine w_and ?_ | refine w_or ?_ | refine w_not ?_ | refine w_if ?_ | refine w_ifS ?_ | refine w_seq ?_ | refine w_next ?_ | refine w_cnt ?_ | refine w_ret ?_ | refine w_expr ?_ | refine w_asg ?_ | refine w_par ?_ | refine w_F ?_ | refine w_Fp ?_ | refine w_itL ?_ | refine w_itT ?_ | refine w_itK ?_ | refine w_rng ?_ | refine w_neg ?_ | refine w_dput ?_ | refine w_newD ?_) | with_reducible refine w_then ?_ | refine ⟨_, _, rfl, ?_⟩ | refine ⟨_, rfl, ?_⟩ | refine ⟨by decide, ?_⟩ | refine ⟨_, _, eqS (by decide +kernel) (by decide +kernel), ?_⟩ | refine ⟨(by simp only [List.length_cons, List.length_nil]; decide), ?_⟩ | refine ⟨fun c => absurd c (by decide +kernel), fun _ => ?_⟩ | refine ⟨fun _ => ?_, fun c => absurd c (by decide +kernel)⟩))
  refine w_of (goods := words12) b (by omega) (by decide) (by decide) fun wd o1 hw b1 => ?_
  (repeat (first | (with_reducible first | refine w_v rfl ?_ | refine w_c ?_ | refine w_d2 ?_ | refine w_cons ?_ | refine w_nil ?_ | refine w_call ?_ | refine w_tup ?_ | refine w_tpn ?_ | refine w_lst ?_ | refine w_lstM ?_ | refine w_wk ?_ | refine w_frz ?_ | refine w_meth ?_ | refine w_test ?_ | refine w_notT ?_ | refine w_andT ?_ | refine w_orT ?_ | refine w_yes ?_ | refine w_and ?_ | refine w_or ?_ | refine w_not ?_ | refine w_if ?_ | refine w_ifS ?_ | refine w_seq ?_ | refine w_next ?_ | refine w_cnt ?_ | refine w_ret ?_ | refine w_expr ?_ | refine w_asg ?_ | refine w_par ?_ | refine w_F ?_ | refine w_Fp ?_ | refine w_itL ?_ | refine w_itT ?_ | refine w_itK ?_ | refine w_rng ?_ | refine w_neg ?_ | refine w_dput ?_ | refine w_newD ?_) | with_reducible refine w_then ?_ | refine ⟨_, _, rfl, ?_⟩ | refine ⟨_, rfl, ?_⟩ | refine ⟨by decide, ?_⟩ | refine ⟨_, _, eqS (by decide +kernel) (by decide +kernel), ?_⟩ | refine ⟨(by simp only [List.length_cons, List.length_nil]; decide), ?_⟩ | refine ⟨fun c => absurd c (by decide +kernel), fun _ => ?_⟩ | refine ⟨fun _ => ?_, fun c => absurd c (by decide +kernel)⟩))
  refine w_of (goods := lanes2) b1 (by omega) (by decide) (by decide) fun ln o2 hln b2 => ?_
  (repeat (first | (with_reducible first | refine w_v rfl ?_ | refine w_c ?_ | refine w_d2 ?_ | refine w_cons ?_ | refine w_nil ?_ | refine w_call ?_ | refine w_tup ?_ | refine w_tpn ?_ | refine w_lst ?_ | refine w_lstM ?_ | refine w_wk ?_ | refine w_frz ?_ | refine w_meth ?_ | refine w_test ?_ | refine w_notT ?_ | refine w_andT ?_ | refine w_orT ?_ | refine w_yes ?_ | refine w_and ?_ | refine w_or ?_ | refine w_not ?_ | refine w_if ?_ | refine w_ifS ?_ | refine w_seq ?_ | refine w_next ?_ | refine w_cnt ?_ | refine w_ret ?_ | refine w_expr ?_ | refine w_asg ?_ | refine w_par ?_ | refine w_F ?_ | refine w_Fp ?_ | refine w_itL ?_ | refine w_itT ?_ | refine w_itK ?_ | refine w_rng ?_ | refine w_neg ?_ | refine w_dput ?_ | refine w_newD ?_) | with_reducible refine w_then ?_ | refine ⟨_, _, rfl, ?_⟩ | refine ⟨_, rfl, ?_⟩ | refine ⟨by decide, ?_⟩ | refine ⟨_, _, eqS (by decide +kernel) (by decide +kernel), ?_⟩ | refine ⟨(by simp only [List.length_cons, List.length_nil]; decide), ?_⟩ | refine ⟨fun c => absurd c (by decide +kernel), fun _ => ?_⟩ | refine ⟨fun _ => ?_, fun c => absurd c (by decide +kernel)⟩))
  refine w_of (goods := ends4) b2 (by omega) (by decide) (by decide) fun en o3 hen b3 => ?_
  refine ⟨_, _, rfl, ?_⟩
  refine w_then ?_
  have m3 : (3000 : Nat) ≤ mx := by decide
  have hz : row.length + 1 ≤ mx := by omega
  have fin : ∀ {X : En → M D} {ρ : En}, ρ = [some (.ref 0), some (.lst (others.map .str)), some (.int 3), some (.int room), some (.ref (t.length + 1 + j)), some (.lst words12), some d, some wd, some ln, some en] →
      (WP (X ρ) (o3 :: (t ++ e)) fun d G1 => ∃ o1, G1 = o1 :: (t ++ e) ∧ BX (n + 4) o1 ∧ Dr1 others d ∧ delta d = 0) →
      WP (dExpr (dMeth appF (dV 4) (dCons X dNil)) ρ) (o3 :: (t ++ e)) fun o G2 => ∃ ρ2, (o = .nx ρ2 ∨ o = .ct ρ2) ∧ ScI (n + 4) others room t ρ2 G2 := fun {X ρ} hρ h => by
    subst hρ
    refine (sc_app rfl hj hz h).imp fun out G2 ⟨e1, o4, s, e2, b4, s1, s0⟩ => ?_
    subst e1 e2
    refine ⟨_, .inl rfl, o4, _, j, row ++ [s], _, _, _, _, rfl, b4, ?_, take_one hr ⟨s1, s0⟩, by simp; omega, rfl⟩
    rw [List.getElem?_set_self (List.getElem?_eq_some_iff.mp hj).1]
  have hw' := hw
  simp only [words12, List.mem_cons, List.not_mem_nil, or_false] at hw'
  have hln' : ln ∈ lanes2 := hln
  have hen' : en ∈ ends4 := hen
  have b3' : BX (n + 4) o3 := b3.up (by omega)
  have xof : ∀ {x : D}, x ∈ others.map D.str → ∃ y, y ∈ others ∧ x = .str y := fun h => by
    obtain ⟨y, hy, e⟩ := List.mem_map.mp h
    exact ⟨y, hy, e.symm⟩
  have ono : pur2 (eqO true) (D.lst (List.map D.str others)) (D.lst []) (o3 :: (t ++ e)) = some (.bl true, o3 :: (t ++ e)) := by
    unfold pur2 pur
    rw [eqO_nilN (List.all_eq_true.mpr fun x hx => List.all_eq_true.mp (show names5.all PyData.strOk = true by decide +kernel) x (on x hx)) o0]
  have l0 : 0 < (others.map D.str).length := by
    rw [List.length_map]
    exact List.length_pos_iff.mpr o0
  have l1 : (others.map D.str).length < 1000 := by rw [List.length_map]; omega
  rcases hw' with rfl | rfl | rfl | rfl | rfl | rfl | rfl | rfl | rfl | rfl | rfl | rfl
  · (repeat (first | with_reducible first | refine w_v rfl ?_ | refine w_c ?_ | refine w_d2 ?_ | refine w_cons ?_ | refine w_nil ?_ | refine w_tup ?_ | refine w_lst ?_ | refine w_test ?_ | refine w_andT ?_ | refine w_ifS ?_ | refine ⟨_, _, rfl, ?_⟩ | refine ⟨_, rfl, ?_⟩ | refine ⟨by decide, ?_⟩ | refine ⟨_, _, eqS (by decide +kernel) (by decide +kernel), ?_⟩ | refine ⟨(by simp only [List.length_cons, List.length_nil]; decide), ?_⟩ | refine ⟨fun c => absurd c (by decide +kernel), fun _ => ?_⟩ | refine ⟨fun _ => ?_, fun c => absurd c (by decide +kernel)⟩))
    refine fin rfl ?_
    (repeat (first | (with_reducible first | refine w_v rfl ?_ | refine w_c ?_ | refine w_d2 ?_ | refine w_cons ?_ | refine w_nil ?_ | refine w_call ?_ | refine w_tup ?_ | refine w_tpn ?_ | refine w_lst ?_ | refine w_lstM ?_ | refine w_wk ?_ | refine w_frz ?_ | refine w_meth ?_ | refine w_test ?_ | refine w_notT ?_ | refine w_andT ?_ | refine w_orT ?_ | refine w_yes ?_ | refine w_and ?_ | refine w_or ?_ | refine w_not ?_ | refine w_if ?_ | refine w_ifS ?_ | refine w_seq ?_ | refine w_next ?_ | refine w_cnt ?_ | refine w_ret ?_ | refine w_expr ?_ | refine w_asg ?_ | refine w_par ?_ | refine w_F ?_ | refine w_Fp ?_ | refine w_itL ?_ | refine w_itT ?_ | refine w_itK ?_ | refine w_rng ?_ | refine w_neg ?_ | refine w_dput ?_ | refine w_newD ?_) | with_reducible refine w_then ?_ | refine ⟨_, _, rfl, ?_⟩ | refine ⟨_, rfl, ?_⟩ | refine ⟨by decide, ?_⟩ | refine ⟨_, _, eqS (by decide +kernel) (by decide +kernel), ?_⟩ | refine ⟨(by simp only [List.length_cons, List.length_nil]; decide), ?_⟩ | refine ⟨fun c => absurd c (by decide +kernel), fun _ => ?_⟩ | refine ⟨fun _ => ?_, fun c => absurd c (by decide +kernel)⟩))
    exact ⟨b3', Dr1.pl (mem_ps hln').1⟩
  · (repeat (first | with_reducible first | refine w_v rfl ?_ | refine w_c ?_ | refine w_d2 ?_ | refine w_cons ?_ | refine w_nil ?_ | refine w_tup ?_ | refine w_lst ?_ | refine w_test ?_ | refine w_andT ?_ | refine w_ifS ?_ | refine ⟨_, _, rfl, ?_⟩ | refine ⟨_, rfl, ?_⟩ | refine ⟨by decide, ?_⟩ | refine ⟨_, _, eqS (by decide +kernel) (by decide +kernel), ?_⟩ | refine ⟨(by simp only [List.length_cons, List.length_nil]; decide), ?_⟩ | refine ⟨fun c => absurd c (by decide +kernel), fun _ => ?_⟩ | refine ⟨fun _ => ?_, fun c => absurd c (by decide +kernel)⟩))
    refine fin rfl ?_
    (repeat (first | (with_reducible first | refine w_v rfl ?_ | refine w_c ?_ | refine w_d2 ?_ | refine w_cons ?_ | refine w_nil ?_ | refine w_call ?_ | refine w_tup ?_ | refine w_tpn ?_ | refine w_lst ?_ | refine w_lstM ?_ | refine w_wk ?_ | refine w_frz ?_ | refine w_meth ?_ | refine w_test ?_ | refine w_notT ?_ | refine w_andT ?_ | refine w_orT ?_ | refine w_yes ?_ | refine w_and ?_ | refine w_or ?_ | refine w_not ?_ | refine w_if ?_ | refine w_ifS ?_ | refine w_seq ?_ | refine w_next ?_ | refine w_cnt ?_ | refine w_ret ?_ | refine w_expr ?_ | refine w_asg ?_ | refine w_par ?_ | refine w_F ?_ | refine w_Fp ?_ | refine w_itL ?_ | refine w_itT ?_ | refine w_itK ?_ | refine w_rng ?_ | refine w_neg ?_ | refine w_dput ?_ | refine w_newD ?_) | with_reducible refine w_then ?_ | refine ⟨_, _, rfl, ?_⟩ | refine ⟨_, rfl, ?_⟩ | refine ⟨by decide, ?_⟩ | refine ⟨_, _, eqS (by decide +kernel) (by decide +kernel), ?_⟩ | refine ⟨(by simp only [List.length_cons, List.length_nil]; decide), ?_⟩ | refine ⟨fun c => absurd c (by decide +kernel), fun _ => ?_⟩ | refine ⟨fun _ => ?_, fun c => absurd c (by decide +kernel)⟩))
    exact ⟨b3', Dr1.pl (mem_gh hln' hen').1⟩
  · (repeat (first | with_reducible first | refine w_v rfl ?_ | refine w_c ?_ | refine w_d2 ?_ | refine w_cons ?_ | refine w_nil ?_ | refine w_tup ?_ | refine w_lst ?_ | refine w_test ?_ | refine w_andT ?_ | refine w_ifS ?_ | refine ⟨_, _, rfl, ?_⟩ | refine ⟨_, rfl, ?_⟩ | refine ⟨by decide, ?_⟩ | refine ⟨_, _, eqS (by decide +kernel) (by decide +kernel), ?_⟩ | refine ⟨(by simp only [List.length_cons, List.length_nil]; decide), ?_⟩ | refine ⟨fun c => absurd c (by decide +kernel), fun _ => ?_⟩ | refine ⟨fun _ => ?_, fun c => absurd c (by decide +kernel)⟩))
    refine fin rfl ?_
    (repeat (first | (with_reducible first | refine w_v rfl ?_ | refine w_c ?_ | refine w_d2 ?_ | refine w_cons ?_ | refine w_nil ?_ | refine w_call ?_ | refine w_tup ?_ | refine w_tpn ?_ | refine w_lst ?_ | refine w_lstM ?_ | refine w_wk ?_ | refine w_frz ?_ | refine w_meth ?_ | refine w_test ?_ | refine w_notT ?_ | refine w_andT ?_ | refine w_orT ?_ | refine w_yes ?_ | refine w_and ?_ | refine w_or ?_ | refine w_not ?_ | refine w_if ?_ | refine w_ifS ?_ | refine w_seq ?_ | refine w_next ?_ | refine w_cnt ?_ | refine w_ret ?_ | refine w_expr ?_ | refine w_asg ?_ | refine w_par ?_ | refine w_F ?_ | refine w_Fp ?_ | refine w_itL ?_ | refine w_itT ?_ | refine w_itK ?_ | refine w_rng ?_ | refine w_neg ?_ | refine w_dput ?_ | refine w_newD ?_) | with_reducible refine w_then ?_ | refine ⟨_, _, rfl, ?_⟩ | refine ⟨_, rfl, ?_⟩ | refine ⟨by decide, ?_⟩ | refine ⟨_, _, eqS (by decide +kernel) (by decide +kernel), ?_⟩ | refine ⟨(by simp only [List.length_cons, List.length_nil]; decide), ?_⟩ | refine ⟨fun c => absurd c (by decide +kernel), fun _ => ?_⟩ | refine ⟨fun _ => ?_, fun c => absurd c (by decide +kernel)⟩))
    exact ⟨b3', Dr1.pl (mem_ps hln').2⟩
  · (repeat (first | with_reducible first | refine w_v rfl ?_ | refine w_c ?_ | refine w_d2 ?_ | refine w_cons ?_ | refine w_nil ?_ | refine w_tup ?_ | refine w_lst ?_ | refine w_test ?_ | refine w_andT ?_ | refine w_ifS ?_ | refine ⟨_, _, rfl, ?_⟩ | refine ⟨_, rfl, ?_⟩ | refine ⟨by decide, ?_⟩ | refine ⟨_, _, eqS (by decide +kernel) (by decide +kernel), ?_⟩ | refine ⟨(by simp only [List.length_cons, List.length_nil]; decide), ?_⟩ | refine ⟨fun c => absurd c (by decide +kernel), fun _ => ?_⟩ | refine ⟨fun _ => ?_, fun c => absurd c (by decide +kernel)⟩))
    refine fin rfl ?_
    (repeat (first | (with_reducible first | refine w_v rfl ?_ | refine w_c ?_ | refine w_d2 ?_ | refine w_cons ?_ | refine w_nil ?_ | refine w_call ?_ | refine w_tup ?_ | refine w_tpn ?_ | refine w_lst ?_ | refine w_lstM ?_ | refine w_wk ?_ | refine w_frz ?_ | refine w_meth ?_ | refine w_test ?_ | refine w_notT ?_ | refine w_andT ?_ | refine w_orT ?_ | refine w_yes ?_ | refine w_and ?_ | refine w_or ?_ | refine w_not ?_ | refine w_if ?_ | refine w_ifS ?_ | refine w_seq ?_ | refine w_next ?_ | refine w_cnt ?_ | refine w_ret ?_ | refine w_expr ?_ | refine w_asg ?_ | refine w_par ?_ | refine w_F ?_ | refine w_Fp ?_ | refine w_itL ?_ | refine w_itT ?_ | refine w_itK ?_ | refine w_rng ?_ | refine w_neg ?_ | refine w_dput ?_ | refine w_newD ?_) | with_reducible refine w_then ?_ | refine ⟨_, _, rfl, ?_⟩ | refine ⟨_, rfl, ?_⟩ | refine ⟨by decide, ?_⟩ | refine ⟨_, _, eqS (by decide +kernel) (by decide +kernel), ?_⟩ | refine ⟨(by simp only [List.length_cons, List.length_nil]; decide), ?_⟩ | refine ⟨fun c => absurd c (by decide +kernel), fun _ => ?_⟩ | refine ⟨fun _ => ?_, fun c => absurd c (by decide +kernel)⟩))
    exact ⟨b3', Dr1.pl (mem_gh hln' hen').2⟩
  · (repeat (first | with_reducible first | refine w_v rfl ?_ | refine w_c ?_ | refine w_d2 ?_ | refine w_cons ?_ | refine w_nil ?_ | refine w_tup ?_ | refine w_lst ?_ | refine w_test ?_ | refine w_andT ?_ | refine w_ifS ?_ | refine ⟨_, _, rfl, ?_⟩ | refine ⟨_, rfl, ?_⟩ | refine ⟨by decide, ?_⟩ | refine ⟨_, _, eqS (by decide +kernel) (by decide +kernel), ?_⟩ | refine ⟨(by simp only [List.length_cons, List.length_nil]; decide), ?_⟩ | refine ⟨fun c => absurd c (by decide +kernel), fun _ => ?_⟩ | refine ⟨fun _ => ?_, fun c => absurd c (by decide +kernel)⟩))
    refine ⟨_, _, ono, true, rfl, fun _ => ?_, fun c => (by cases c)⟩
    refine fin rfl ?_
    (repeat (first | (with_reducible first | refine w_v rfl ?_ | refine w_c ?_ | refine w_d2 ?_ | refine w_cons ?_ | refine w_nil ?_ | refine w_call ?_ | refine w_tup ?_ | refine w_tpn ?_ | refine w_lst ?_ | refine w_lstM ?_ | refine w_wk ?_ | refine w_frz ?_ | refine w_meth ?_ | refine w_test ?_ | refine w_notT ?_ | refine w_andT ?_ | refine w_orT ?_ | refine w_yes ?_ | refine w_and ?_ | refine w_or ?_ | refine w_not ?_ | refine w_if ?_ | refine w_ifS ?_ | refine w_seq ?_ | refine w_next ?_ | refine w_cnt ?_ | refine w_ret ?_ | refine w_expr ?_ | refine w_asg ?_ | refine w_par ?_ | refine w_F ?_ | refine w_Fp ?_ | refine w_itL ?_ | refine w_itT ?_ | refine w_itK ?_ | refine w_rng ?_ | refine w_neg ?_ | refine w_dput ?_ | refine w_newD ?_) | with_reducible refine w_then ?_ | refine ⟨_, _, rfl, ?_⟩ | refine ⟨_, rfl, ?_⟩ | refine ⟨by decide, ?_⟩ | refine ⟨_, _, eqS (by decide +kernel) (by decide +kernel), ?_⟩ | refine ⟨(by simp only [List.length_cons, List.length_nil]; decide), ?_⟩ | refine ⟨fun c => absurd c (by decide +kernel), fun _ => ?_⟩ | refine ⟨fun _ => ?_, fun c => absurd c (by decide +kernel)⟩))
    refine w_of (goods := others.map .str) b3 (by omega) l0 l1 fun x o4 hx b4 => ?_
    obtain ⟨y, hy, rfl⟩ := xof hx
    (repeat (first | (with_reducible first | refine w_v rfl ?_ | refine w_c ?_ | refine w_d2 ?_ | refine w_cons ?_ | refine w_nil ?_ | refine w_call ?_ | refine w_tup ?_ | refine w_tpn ?_ | refine w_lst ?_ | refine w_lstM ?_ | refine w_wk ?_ | refine w_frz ?_ | refine w_meth ?_ | refine w_test ?_ | refine w_notT ?_ | refine w_andT ?_ | refine w_orT ?_ | refine w_yes ?_ | refine w_and ?_ | refine w_or ?_ | refine w_not ?_ | refine w_if ?_ | refine w_ifS ?_ | refine w_seq ?_ | refine w_next ?_ | refine w_cnt ?_ | refine w_ret ?_ | refine w_expr ?_ | refine w_asg ?_ | refine w_par ?_ | refine w_F ?_ | refine w_Fp ?_ | refine w_itL ?_ | refine w_itT ?_ | refine w_itK ?_ | refine w_rng ?_ | refine w_neg ?_ | refine w_dput ?_ | refine w_newD ?_) | with_reducible refine w_then ?_ | refine ⟨_, _, rfl, ?_⟩ | refine ⟨_, rfl, ?_⟩ | refine ⟨by decide, ?_⟩ | refine ⟨_, _, eqS (by decide +kernel) (by decide +kernel), ?_⟩ | refine ⟨(by simp only [List.length_cons, List.length_nil]; decide), ?_⟩ | refine ⟨fun c => absurd c (by decide +kernel), fun _ => ?_⟩ | refine ⟨fun _ => ?_, fun c => absurd c (by decide +kernel)⟩))
    exact ⟨b4.up (by omega), Dr1.jn on hy (by unfold Jn; exact List.mem_cons_of_mem _ (List.mem_map.mpr ⟨en, hen', rfl⟩))⟩
  · (repeat (first | with_reducible first | refine w_v rfl ?_ | refine w_c ?_ | refine w_d2 ?_ | refine w_cons ?_ | refine w_nil ?_ | refine w_tup ?_ | refine w_lst ?_ | refine w_test ?_ | refine w_andT ?_ | refine w_ifS ?_ | refine ⟨_, _, rfl, ?_⟩ | refine ⟨_, rfl, ?_⟩ | refine ⟨by decide, ?_⟩ | refine ⟨_, _, eqS (by decide +kernel) (by decide +kernel), ?_⟩ | refine ⟨(by simp only [List.length_cons, List.length_nil]; decide), ?_⟩ | refine ⟨fun c => absurd c (by decide +kernel), fun _ => ?_⟩ | refine ⟨fun _ => ?_, fun c => absurd c (by decide +kernel)⟩))
    refine ⟨_, _, ono, true, rfl, fun _ => ?_, fun c => (by cases c)⟩
    refine fin rfl ?_
    (repeat (first | (with_reducible first | refine w_v rfl ?_ | refine w_c ?_ | refine w_d2 ?_ | refine w_cons ?_ | refine w_nil ?_ | refine w_call ?_ | refine w_tup ?_ | refine w_tpn ?_ | refine w_lst ?_ | refine w_lstM ?_ | refine w_wk ?_ | refine w_frz ?_ | refine w_meth ?_ | refine w_test ?_ | refine w_notT ?_ | refine w_andT ?_ | refine w_orT ?_ | refine w_yes ?_ | refine w_and ?_ | refine w_or ?_ | refine w_not ?_ | refine w_if ?_ | refine w_ifS ?_ | refine w_seq ?_ | refine w_next ?_ | refine w_cnt ?_ | refine w_ret ?_ | refine w_expr ?_ | refine w_asg ?_ | refine w_par ?_ | refine w_F ?_ | refine w_Fp ?_ | refine w_itL ?_ | refine w_itT ?_ | refine w_itK ?_ | refine w_rng ?_ | refine w_neg ?_ | refine w_dput ?_ | refine w_newD ?_) | with_reducible refine w_then ?_ | refine ⟨_, _, rfl, ?_⟩ | refine ⟨_, rfl, ?_⟩ | refine ⟨by decide, ?_⟩ | refine ⟨_, _, eqS (by decide +kernel) (by decide +kernel), ?_⟩ | refine ⟨(by simp only [List.length_cons, List.length_nil]; decide), ?_⟩ | refine ⟨fun c => absurd c (by decide +kernel), fun _ => ?_⟩ | refine ⟨fun _ => ?_, fun c => absurd c (by decide +kernel)⟩))
    refine w_of (goods := others.map .str) b3 (by omega) l0 l1 fun x o4 hx b4 => ?_
    obtain ⟨y, hy, rfl⟩ := xof hx
    (repeat (first | (with_reducible first | refine w_v rfl ?_ | refine w_c ?_ | refine w_d2 ?_ | refine w_cons ?_ | refine w_nil ?_ | refine w_call ?_ | refine w_tup ?_ | refine w_tpn ?_ | refine w_lst ?_ | refine w_lstM ?_ | refine w_wk ?_ | refine w_frz ?_ | refine w_meth ?_ | refine w_test ?_ | refine w_notT ?_ | refine w_andT ?_ | refine w_orT ?_ | refine w_yes ?_ | refine w_and ?_ | refine w_or ?_ | refine w_not ?_ | refine w_if ?_ | refine w_ifS ?_ | refine w_seq ?_ | refine w_next ?_ | refine w_cnt ?_ | refine w_ret ?_ | refine w_expr ?_ | refine w_asg ?_ | refine w_par ?_ | refine w_F ?_ | refine w_Fp ?_ | refine w_itL ?_ | refine w_itT ?_ | refine w_itK ?_ | refine w_rng ?_ | refine w_neg ?_ | refine w_dput ?_ | refine w_newD ?_) | with_reducible refine w_then ?_ | refine ⟨_, _, rfl, ?_⟩ | refine ⟨_, rfl, ?_⟩ | refine ⟨by decide, ?_⟩ | refine ⟨_, _, eqS (by decide +kernel) (by decide +kernel), ?_⟩ | refine ⟨(by simp only [List.length_cons, List.length_nil]; decide), ?_⟩ | refine ⟨fun c => absurd c (by decide +kernel), fun _ => ?_⟩ | refine ⟨fun _ => ?_, fun c => absurd c (by decide +kernel)⟩))
    exact ⟨b4.up (by omega), Dr1.jn on hy (by unfold Jn; exact List.mem_cons_self)⟩
  · (repeat (first | with_reducible first | refine w_v rfl ?_ | refine w_c ?_ | refine w_d2 ?_ | refine w_cons ?_ | refine w_nil ?_ | refine w_tup ?_ | refine w_lst ?_ | refine w_test ?_ | refine w_andT ?_ | refine w_ifS ?_ | refine ⟨_, _, rfl, ?_⟩ | refine ⟨_, rfl, ?_⟩ | refine ⟨by decide, ?_⟩ | refine ⟨_, _, eqS (by decide +kernel) (by decide +kernel), ?_⟩ | refine ⟨(by simp only [List.length_cons, List.length_nil]; decide), ?_⟩ | refine ⟨fun c => absurd c (by decide +kernel), fun _ => ?_⟩ | refine ⟨fun _ => ?_, fun c => absurd c (by decide +kernel)⟩))
    refine fin rfl ?_
    (repeat (first | (with_reducible first | refine w_v rfl ?_ | refine w_c ?_ | refine w_d2 ?_ | refine w_cons ?_ | refine w_nil ?_ | refine w_call ?_ | refine w_tup ?_ | refine w_tpn ?_ | refine w_lst ?_ | refine w_lstM ?_ | refine w_wk ?_ | refine w_frz ?_ | refine w_meth ?_ | refine w_test ?_ | refine w_notT ?_ | refine w_andT ?_ | refine w_orT ?_ | refine w_yes ?_ | refine w_and ?_ | refine w_or ?_ | refine w_not ?_ | refine w_if ?_ | refine w_ifS ?_ | refine w_seq ?_ | refine w_next ?_ | refine w_cnt ?_ | refine w_ret ?_ | refine w_expr ?_ | refine w_asg ?_ | refine w_par ?_ | refine w_F ?_ | refine w_Fp ?_ | refine w_itL ?_ | refine w_itT ?_ | refine w_itK ?_ | refine w_rng ?_ | refine w_neg ?_ | refine w_dput ?_ | refine w_newD ?_) | with_reducible refine w_then ?_ | refine ⟨_, _, rfl, ?_⟩ | refine ⟨_, rfl, ?_⟩ | refine ⟨by decide, ?_⟩ | refine ⟨_, _, eqS (by decide +kernel) (by decide +kernel), ?_⟩ | refine ⟨(by simp only [List.length_cons, List.length_nil]; decide), ?_⟩ | refine ⟨fun c => absurd c (by decide +kernel), fun _ => ?_⟩ | refine ⟨fun _ => ?_, fun c => absurd c (by decide +kernel)⟩))
    refine w_take b3 (by omega) (by omega) (by omega) fun r o4 r0 r1 b4 => ?_
    (repeat (first | (with_reducible first | refine w_v rfl ?_ | refine w_c ?_ | refine w_d2 ?_ | refine w_cons ?_ | refine w_nil ?_ | refine w_call ?_ | refine w_tup ?_ | refine w_tpn ?_ | refine w_lst ?_ | refine w_lstM ?_ | refine w_wk ?_ | refine w_frz ?_ | refine w_meth ?_ | refine w_test ?_ | refine w_notT ?_ | refine w_andT ?_ | refine w_orT ?_ | refine w_yes ?_ | refine w_and ?_ | refine w_or ?_ | refine w_not ?_ | refine w_if ?_ | refine w_ifS ?_ | refine w_seq ?_ | refine w_next ?_ | refine w_cnt ?_ | refine w_ret ?_ | refine w_expr ?_ | refine w_asg ?_ | refine w_par ?_ | refine w_F ?_ | refine w_Fp ?_ | refine w_itL ?_ | refine w_itT ?_ | refine w_itK ?_ | refine w_rng ?_ | refine w_neg ?_ | refine w_dput ?_ | refine w_newD ?_) | with_reducible refine w_then ?_ | refine ⟨_, _, rfl, ?_⟩ | refine ⟨_, rfl, ?_⟩ | refine ⟨by decide, ?_⟩ | refine ⟨_, _, eqS (by decide +kernel) (by decide +kernel), ?_⟩ | refine ⟨(by simp only [List.length_cons, List.length_nil]; decide), ?_⟩ | refine ⟨fun c => absurd c (by decide +kernel), fun _ => ?_⟩ | refine ⟨fun _ => ?_, fun c => absurd c (by decide +kernel)⟩))
    have q : r = 0 ∨ r = 1 ∨ r = 2 := by omega
    rcases q with rfl | rfl | rfl
    · exact ⟨b4.up (by omega), Dr1.pl mem_rest.1⟩
    · exact ⟨b4.up (by omega), Dr1.pl mem_rest.2.1⟩
    · exact ⟨b4.up (by omega), Dr1.pl mem_rest.2.2.1⟩
  · (repeat (first | with_reducible first | refine w_v rfl ?_ | refine w_c ?_ | refine w_d2 ?_ | refine w_cons ?_ | refine w_nil ?_ | refine w_tup ?_ | refine w_lst ?_ | refine w_test ?_ | refine w_andT ?_ | refine w_ifS ?_ | refine ⟨_, _, rfl, ?_⟩ | refine ⟨_, rfl, ?_⟩ | refine ⟨by decide, ?_⟩ | refine ⟨_, _, eqS (by decide +kernel) (by decide +kernel), ?_⟩ | refine ⟨(by simp only [List.length_cons, List.length_nil]; decide), ?_⟩ | refine ⟨fun c => absurd c (by decide +kernel), fun _ => ?_⟩ | refine ⟨fun _ => ?_, fun c => absurd c (by decide +kernel)⟩))
    refine fin rfl ?_
    (repeat (first | (with_reducible first | refine w_v rfl ?_ | refine w_c ?_ | refine w_d2 ?_ | refine w_cons ?_ | refine w_nil ?_ | refine w_call ?_ | refine w_tup ?_ | refine w_tpn ?_ | refine w_lst ?_ | refine w_lstM ?_ | refine w_wk ?_ | refine w_frz ?_ | refine w_meth ?_ | refine w_test ?_ | refine w_notT ?_ | refine w_andT ?_ | refine w_orT ?_ | refine w_yes ?_ | refine w_and ?_ | refine w_or ?_ | refine w_not ?_ | refine w_if ?_ | refine w_ifS ?_ | refine w_seq ?_ | refine w_next ?_ | refine w_cnt ?_ | refine w_ret ?_ | refine w_expr ?_ | refine w_asg ?_ | refine w_par ?_ | refine w_F ?_ | refine w_Fp ?_ | refine w_itL ?_ | refine w_itT ?_ | refine w_itK ?_ | refine w_rng ?_ | refine w_neg ?_ | refine w_dput ?_ | refine w_newD ?_) | with_reducible refine w_then ?_ | refine ⟨_, _, rfl, ?_⟩ | refine ⟨_, rfl, ?_⟩ | refine ⟨by decide, ?_⟩ | refine ⟨_, _, eqS (by decide +kernel) (by decide +kernel), ?_⟩ | refine ⟨(by simp only [List.length_cons, List.length_nil]; decide), ?_⟩ | refine ⟨fun c => absurd c (by decide +kernel), fun _ => ?_⟩ | refine ⟨fun _ => ?_, fun c => absurd c (by decide +kernel)⟩))
    exact ⟨b3', Dr1.pl mem_rest.2.2.2.1⟩
  · (repeat (first | with_reducible first | refine w_v rfl ?_ | refine w_c ?_ | refine w_d2 ?_ | refine w_cons ?_ | refine w_nil ?_ | refine w_tup ?_ | refine w_lst ?_ | refine w_test ?_ | refine w_andT ?_ | refine w_ifS ?_ | refine ⟨_, _, rfl, ?_⟩ | refine ⟨_, rfl, ?_⟩ | refine ⟨by decide, ?_⟩ | refine ⟨_, _, eqS (by decide +kernel) (by decide +kernel), ?_⟩ | refine ⟨(by simp only [List.length_cons, List.length_nil]; decide), ?_⟩ | refine ⟨fun c => absurd c (by decide +kernel), fun _ => ?_⟩ | refine ⟨fun _ => ?_, fun c => absurd c (by decide +kernel)⟩))
    refine fin rfl ?_
    (repeat (first | (with_reducible first | refine w_v rfl ?_ | refine w_c ?_ | refine w_d2 ?_ | refine w_cons ?_ | refine w_nil ?_ | refine w_call ?_ | refine w_tup ?_ | refine w_tpn ?_ | refine w_lst ?_ | refine w_lstM ?_ | refine w_wk ?_ | refine w_frz ?_ | refine w_meth ?_ | refine w_test ?_ | refine w_notT ?_ | refine w_andT ?_ | refine w_orT ?_ | refine w_yes ?_ | refine w_and ?_ | refine w_or ?_ | refine w_not ?_ | refine w_if ?_ | refine w_ifS ?_ | refine w_seq ?_ | refine w_next ?_ | refine w_cnt ?_ | refine w_ret ?_ | refine w_expr ?_ | refine w_asg ?_ | refine w_par ?_ | refine w_F ?_ | refine w_Fp ?_ | refine w_itL ?_ | refine w_itT ?_ | refine w_itK ?_ | refine w_rng ?_ | refine w_neg ?_ | refine w_dput ?_ | refine w_newD ?_) | with_reducible refine w_then ?_ | refine ⟨_, _, rfl, ?_⟩ | refine ⟨_, rfl, ?_⟩ | refine ⟨by decide, ?_⟩ | refine ⟨_, _, eqS (by decide +kernel) (by decide +kernel), ?_⟩ | refine ⟨(by simp only [List.length_cons, List.length_nil]; decide), ?_⟩ | refine ⟨fun c => absurd c (by decide +kernel), fun _ => ?_⟩ | refine ⟨fun _ => ?_, fun c => absurd c (by decide +kernel)⟩))
    refine w_of (goods := [.str "v", .str "w"]) b3 (by omega) (by decide) (by decide) fun x o4 hx b4 => ?_
    (repeat (first | (with_reducible first | refine w_v rfl ?_ | refine w_c ?_ | refine w_d2 ?_ | refine w_cons ?_ | refine w_nil ?_ | refine w_call ?_ | refine w_tup ?_ | refine w_tpn ?_ | refine w_lst ?_ | refine w_lstM ?_ | refine w_wk ?_ | refine w_frz ?_ | refine w_meth ?_ | refine w_test ?_ | refine w_notT ?_ | refine w_andT ?_ | refine w_orT ?_ | refine w_yes ?_ | refine w_and ?_ | refine w_or ?_ | refine w_not ?_ | refine w_if ?_ | refine w_ifS ?_ | refine w_seq ?_ | refine w_next ?_ | refine w_cnt ?_ | refine w_ret ?_ | refine w_expr ?_ | refine w_asg ?_ | refine w_par ?_ | refine w_F ?_ | refine w_Fp ?_ | refine w_itL ?_ | refine w_itT ?_ | refine w_itK ?_ | refine w_rng ?_ | refine w_neg ?_ | refine w_dput ?_ | refine w_newD ?_) | with_reducible refine w_then ?_ | refine ⟨_, _, rfl, ?_⟩ | refine ⟨_, rfl, ?_⟩ | refine ⟨by decide, ?_⟩ | refine ⟨_, _, eqS (by decide +kernel) (by decide +kernel), ?_⟩ | refine ⟨(by simp only [List.length_cons, List.length_nil]; decide), ?_⟩ | refine ⟨fun c => absurd c (by decide +kernel), fun _ => ?_⟩ | refine ⟨fun _ => ?_, fun c => absurd c (by decide +kernel)⟩))
    simp only [List.mem_cons, List.not_mem_nil, or_false] at hx
    rcases hx with rfl | rfl
    · exact ⟨b4.up (by omega), Dr1.pl mem_rest.2.2.2.2.1⟩
    · exact ⟨b4.up (by omega), Dr1.pl mem_rest.2.2.2.2.2⟩
  · (repeat (first | with_reducible first | refine w_v rfl ?_ | refine w_c ?_ | refine w_d2 ?_ | refine w_cons ?_ | refine w_nil ?_ | refine w_tup ?_ | refine w_lst ?_ | refine w_test ?_ | refine w_andT ?_ | refine w_ifS ?_ | refine ⟨_, _, rfl, ?_⟩ | refine ⟨_, rfl, ?_⟩ | refine ⟨by decide, ?_⟩ | refine ⟨_, _, eqS (by decide +kernel) (by decide +kernel), ?_⟩ | refine ⟨(by simp only [List.length_cons, List.length_nil]; decide), ?_⟩ | refine ⟨fun c => absurd c (by decide +kernel), fun _ => ?_⟩ | refine ⟨fun _ => ?_, fun c => absurd c (by decide +kernel)⟩))
    refine fin rfl ?_
    (repeat (first | (with_reducible first | refine w_v rfl ?_ | refine w_c ?_ | refine w_d2 ?_ | refine w_cons ?_ | refine w_nil ?_ | refine w_call ?_ | refine w_tup ?_ | refine w_tpn ?_ | refine w_lst ?_ | refine w_lstM ?_ | refine w_wk ?_ | refine w_frz ?_ | refine w_meth ?_ | refine w_test ?_ | refine w_notT ?_ | refine w_andT ?_ | refine w_orT ?_ | refine w_yes ?_ | refine w_and ?_ | refine w_or ?_ | refine w_not ?_ | refine w_if ?_ | refine w_ifS ?_ | refine w_seq ?_ | refine w_next ?_ | refine w_cnt ?_ | refine w_ret ?_ | refine w_expr ?_ | refine w_asg ?_ | refine w_par ?_ | refine w_F ?_ | refine w_Fp ?_ | refine w_itL ?_ | refine w_itT ?_ | refine w_itK ?_ | refine w_rng ?_ | refine w_neg ?_ | refine w_dput ?_ | refine w_newD ?_) | with_reducible refine w_then ?_ | refine ⟨_, _, rfl, ?_⟩ | refine ⟨_, rfl, ?_⟩ | refine ⟨by decide, ?_⟩ | refine ⟨_, _, eqS (by decide +kernel) (by decide +kernel), ?_⟩ | refine ⟨(by simp only [List.length_cons, List.length_nil]; decide), ?_⟩ | refine ⟨fun c => absurd c (by decide +kernel), fun _ => ?_⟩ | refine ⟨fun _ => ?_, fun c => absurd c (by decide +kernel)⟩))
    exact ⟨b3', Dr1.pl (mem_gh hln' hen').1⟩
  · (repeat (first | with_reducible first | refine w_v rfl ?_ | refine w_c ?_ | refine w_d2 ?_ | refine w_cons ?_ | refine w_nil ?_ | refine w_tup ?_ | refine w_lst ?_ | refine w_test ?_ | refine w_andT ?_ | refine w_ifS ?_ | refine ⟨_, _, rfl, ?_⟩ | refine ⟨_, rfl, ?_⟩ | refine ⟨by decide, ?_⟩ | refine ⟨_, _, eqS (by decide +kernel) (by decide +kernel), ?_⟩ | refine ⟨(by simp only [List.length_cons, List.length_nil]; decide), ?_⟩ | refine ⟨fun c => absurd c (by decide +kernel), fun _ => ?_⟩ | refine ⟨fun _ => ?_, fun c => absurd c (by decide +kernel)⟩))
    refine fin rfl ?_
    (repeat (first | (with_reducible first | refine w_v rfl ?_ | refine w_c ?_ | refine w_d2 ?_ | refine w_cons ?_ | refine w_nil ?_ | refine w_call ?_ | refine w_tup ?_ | refine w_tpn ?_ | refine w_lst ?_ | refine w_lstM ?_ | refine w_wk ?_ | refine w_frz ?_ | refine w_meth ?_ | refine w_test ?_ | refine w_notT ?_ | refine w_andT ?_ | refine w_orT ?_ | refine w_yes ?_ | refine w_and ?_ | refine w_or ?_ | refine w_not ?_ | refine w_if ?_ | refine w_ifS ?_ | refine w_seq ?_ | refine w_next ?_ | refine w_cnt ?_ | refine w_ret ?_ | refine w_expr ?_ | refine w_asg ?_ | refine w_par ?_ | refine w_F ?_ | refine w_Fp ?_ | refine w_itL ?_ | refine w_itT ?_ | refine w_itK ?_ | refine w_rng ?_ | refine w_neg ?_ | refine w_dput ?_ | refine w_newD ?_) | with_reducible refine w_then ?_ | refine ⟨_, _, rfl, ?_⟩ | refine ⟨_, rfl, ?_⟩ | refine ⟨by decide, ?_⟩ | refine ⟨_, _, eqS (by decide +kernel) (by decide +kernel), ?_⟩ | refine ⟨(by simp only [List.length_cons, List.length_nil]; decide), ?_⟩ | refine ⟨fun c => absurd c (by decide +kernel), fun _ => ?_⟩ | refine ⟨fun _ => ?_, fun c => absurd c (by decide +kernel)⟩))
    exact ⟨b3', Dr1.pl (mem_ps hln').1⟩
  · (repeat (first | with_reducible first | refine w_v rfl ?_ | refine w_c ?_ | refine w_d2 ?_ | refine w_cons ?_ | refine w_nil ?_ | refine w_tup ?_ | refine w_lst ?_ | refine w_test ?_ | refine w_andT ?_ | refine w_ifS ?_ | refine ⟨_, _, rfl, ?_⟩ | refine ⟨_, rfl, ?_⟩ | refine ⟨by decide, ?_⟩ | refine ⟨_, _, eqS (by decide +kernel) (by decide +kernel), ?_⟩ | refine ⟨(by simp only [List.length_cons, List.length_nil]; decide), ?_⟩ | refine ⟨fun c => absurd c (by decide +kernel), fun _ => ?_⟩ | refine ⟨fun _ => ?_, fun c => absurd c (by decide +kernel)⟩))
    refine w_call (w_cons (w_v rfl (w_nil ⟨.int row.length, o3 :: (t ++ e), ?_, ?_⟩)))
    · unfold lenP
      simp only [lkE hj]
    refine w_c ⟨_, _, rfl, w_v rfl ⟨_, _, rfl, _, rfl, fun c => ?_, fun c => ?_⟩⟩
    · have hle : row.length + 3 ≤ room := by
        have := of_decide_eq_true c
        omega
      have et : row.take room = row := List.take_of_length_le (by omega)
      refine w_asg (w_d2 ?_)
      (repeat (first | (with_reducible first | refine w_v rfl ?_ | refine w_c ?_ | refine w_d2 ?_ | refine w_cons ?_ | refine w_nil ?_ | refine w_call ?_ | refine w_tup ?_ | refine w_tpn ?_ | refine w_lst ?_ | refine w_lstM ?_ | refine w_wk ?_ | refine w_frz ?_ | refine w_meth ?_ | refine w_test ?_ | refine w_notT ?_ | refine w_andT ?_ | refine w_orT ?_ | refine w_yes ?_ | refine w_and ?_ | refine w_or ?_ | refine w_not ?_ | refine w_if ?_ | refine w_ifS ?_ | refine w_seq ?_ | refine w_next ?_ | refine w_cnt ?_ | refine w_ret ?_ | refine w_expr ?_ | refine w_asg ?_ | refine w_par ?_ | refine w_F ?_ | refine w_Fp ?_ | refine w_itL ?_ | refine w_itT ?_ | refine w_itK ?_ | refine w_rng ?_ | refine w_neg ?_ | refine w_dput ?_ | refine w_newD ?_) | with_reducible refine w_then ?_ | refine ⟨_, _, rfl, ?_⟩ | refine ⟨_, rfl, ?_⟩ | refine ⟨by decide, ?_⟩ | refine ⟨_, _, eqS (by decide +kernel) (by decide +kernel), ?_⟩ | refine ⟨(by simp only [List.length_cons, List.length_nil]; decide), ?_⟩ | refine ⟨fun c => absurd c (by decide +kernel), fun _ => ?_⟩ | refine ⟨fun _ => ?_, fun c => absurd c (by decide +kernel)⟩))
      refine ⟨.ref (t.length + 1 + e.length), o3 :: (t ++ (e ++ [O.lst (row ++ [inD1, .tup [.str "put", ln], outD1])])), ?_, ?_⟩
      · unfold catP lonly
        simp only [lkE hj]
        rw [if_pos (by simp; omega)]
        unfold newL
        rw [if_pos (by simp; omega)]
        have e1 : (o3 :: (t ++ e)).length = t.length + 1 + e.length := by simp; omega
        rw [e1]
        simp [inD1, outD1]
      refine ⟨_, _, rfl, _, .inl rfl, o3, _, e.length, row ++ [inD1, .tup [.str "put", ln], outD1], _, _, _, _, rfl, b3', by simp, ?_, by simp; omega, rfl⟩
      rw [List.take_of_length_le (by simp; omega)]
      rw [et] at hr
      exact hr.three hln'
    · refine fin rfl ?_
      (repeat (first | (with_reducible first | refine w_v rfl ?_ | refine w_c ?_ | refine w_d2 ?_ | refine w_cons ?_ | refine w_nil ?_ | refine w_call ?_ | refine w_tup ?_ | refine w_tpn ?_ | refine w_lst ?_ | refine w_lstM ?_ | refine w_wk ?_ | refine w_frz ?_ | refine w_meth ?_ | refine w_test ?_ | refine w_notT ?_ | refine w_andT ?_ | refine w_orT ?_ | refine w_yes ?_ | refine w_and ?_ | refine w_or ?_ | refine w_not ?_ | refine w_if ?_ | refine w_ifS ?_ | refine w_seq ?_ | refine w_next ?_ | refine w_cnt ?_ | refine w_ret ?_ | refine w_expr ?_ | refine w_asg ?_ | refine w_par ?_ | refine w_F ?_ | refine w_Fp ?_ | refine w_itL ?_ | refine w_itT ?_ | refine w_itK ?_ | refine w_rng ?_ | refine w_neg ?_ | refine w_dput ?_ | refine w_newD ?_) | with_reducible refine w_then ?_ | refine ⟨_, _, rfl, ?_⟩ | refine ⟨_, rfl, ?_⟩ | refine ⟨by decide, ?_⟩ | refine ⟨_, _, eqS (by decide +kernel) (by decide +kernel), ?_⟩ | refine ⟨(by simp only [List.length_cons, List.length_nil]; decide), ?_⟩ | refine ⟨fun c => absurd c (by decide +kernel), fun _ => ?_⟩ | refine ⟨fun _ => ?_, fun c => absurd c (by decide +kernel)⟩))
      exact ⟨b3', Dr1.pl mem_rest.2.2.2.1⟩
end K02

namespace K02
open PySem PySem.Spec PyProof.Rows L2 Tw
section
variable {G : List O} {ρ : En} {a : En → M D} {lo hi : En → M (Option Int)} {Q : D → List O → Prop} {Qi : Option Int → List O → Prop}
theorem w_sl (h : WP (a ρ) G fun d G1 => WP (lo ρ) G1 fun l G2 => WP (hi ρ) G2 fun h G3 => ∃ x, slO d l h G3 = some x ∧ Q x G3) : WP (dSl a lo hi ρ) G Q :=
  WP.bnd (h.imp fun d G1 h1 => WP.bnd (h1.imp fun l G2 h2 => WP.bnd (h2.imp fun hh G3 ⟨x, e, q⟩ => WP.lft (by unfold slP; rw [e]) q)))
theorem w_noP (q : Qi none G) : WP (dNoP ρ) G Qi := WP.ret q
theorem w_P (h : WP (a ρ) G fun d G1 => ∃ i, intO d = some i ∧ Qi (some i) G1) : WP (dP a ρ) G Qi := WP.bnd (h.imp fun d G1 ⟨i, e, q⟩ => WP.bnd (WP.pur e (WP.ret q)))
end
theorem cut_take (xs : List D) (n : Nat) : Tw.cutD xs none (some (n : Int)) = xs.take n := by
  unfold Tw.cutD
  have h1 : HT.sIx xs.length 0 none = 0 := rfl
  rw [h1]
  have h2 : HT.sIx xs.length xs.length (some (n : Int)) = min n xs.length := HT.sIx_nat _ _ _
  rw [h2]
  simp only [List.drop_zero, Nat.sub_zero]
  by_cases h : n ≤ xs.length
  · rw [Nat.min_eq_left h]
  · rw [Nat.min_eq_right (by omega), List.take_of_length_le (Nat.le_refl _), List.take_of_length_le (by omega)]
theorem cut_drop (xs : List D) (n : Nat) : Tw.cutD xs (some (n : Int)) none = xs.drop n := by
  unfold Tw.cutD
  have h2 : HT.sIx xs.length xs.length none = xs.length := rfl
  have h1 : HT.sIx xs.length 0 (some (n : Int)) = min n xs.length := HT.sIx_nat _ _ _
  rw [h1, h2]
  by_cases h : n ≤ xs.length
  · rw [Nat.min_eq_left h, List.take_of_length_le (by simp)]
  · rw [Nat.min_eq_right (by omega), List.drop_of_length_le (Nat.le_refl _), List.drop_of_length_le (by omega)]
    simp
theorem w_script {n : Int} {others : List Str} {room : Nat} {o : O} {t : List O} {Q : D → List O → Prop} (hn : n ≤ 800) (hn0 : 0 ≤ n) (hr : room ≤ 10) (on : ∀ x ∈ others, x ∈ names5) (o0 : others ≠ []) (ol : others.length ≤ 5) (b : BX n o)
    (q : ∀ row o' e, DrS others row → row.length ≤ room → BX (n + 41) o' → Q (.tup row) (o' :: (t ++ e))) : WP (F_l_script [.ref 0, .lst (others.map .str), .int 3, .int room]) (o :: t) Q := by
  refine w_run ?_
  unfold ds_l_script
  refine w_seq (w_par (w_cons (w_lstM (w_nil ⟨by decide, ?_⟩))))
  (repeat (first | (with_reducible first | refine w_v rfl ?_ | refine w_c ?_ | refine w_d2 ?_ | refine w_cons ?_ | refine w_nil ?_ | refine w_call ?_ | refine w_tup ?_ | refine w_tpn ?_ | refine w_lst ?_ | refine w_lstM ?_ | refine w_wk ?_ | refine w_frz ?_ | refine w_meth ?_ | refine w_test ?_ | refine w_notT ?_ | refine w_andT ?_ | refine w_orT ?_ | refine w_yes ?_ | refine w_and ?_ | refine w_or ?_ | refine w_not ?_ | refine w_if ?_ | refine w_ifS ?_ | refine w_seq ?_ | refine w_next ?_ | refine w_cnt ?_ | refine w_ret ?_ | refine w_expr ?_ | refine w_asg ?_ | refine w_par ?_ | refine w_F ?_ | refine w_Fp ?_ | refine w_itL ?_ | refine w_itT ?_ | refine w_itK ?_ | refine w_rng ?_ | refine w_neg ?_ | refine w_dput ?_ | refine w_newD ?_) | with_reducible refine w_then ?_ | refine ⟨_, _, rfl, ?_⟩ | refine ⟨_, rfl, ?_⟩ | refine ⟨by decide, ?_⟩ | refine ⟨_, _, eqS (by decide +kernel) (by decide +kernel), ?_⟩ | refine ⟨(by simp only [List.length_cons, List.length_nil]; decide), ?_⟩ | refine ⟨fun c => absurd c (by decide +kernel), fun _ => ?_⟩ | refine ⟨fun _ => ?_, fun c => absurd c (by decide +kernel)⟩))
  have e1 : (o :: t).length = t.length + 1 + 0 := by simp
  have e2 : o :: t ++ [O.lst []] = o :: (t ++ [O.lst []]) := by simp
  rw [e1, e2]
  refine w_for ?_
  (repeat (first | (with_reducible first | refine w_v rfl ?_ | refine w_c ?_ | refine w_d2 ?_ | refine w_cons ?_ | refine w_nil ?_ | refine w_call ?_ | refine w_tup ?_ | refine w_tpn ?_ | refine w_lst ?_ | refine w_lstM ?_ | refine w_wk ?_ | refine w_frz ?_ | refine w_meth ?_ | refine w_test ?_ | refine w_notT ?_ | refine w_andT ?_ | refine w_orT ?_ | refine w_yes ?_ | refine w_and ?_ | refine w_or ?_ | refine w_not ?_ | refine w_if ?_ | refine w_ifS ?_ | refine w_seq ?_ | refine w_next ?_ | refine w_cnt ?_ | refine w_ret ?_ | refine w_expr ?_ | refine w_asg ?_ | refine w_par ?_ | refine w_F ?_ | refine w_Fp ?_ | refine w_itL ?_ | refine w_itT ?_ | refine w_itK ?_ | refine w_rng ?_ | refine w_neg ?_ | refine w_dput ?_ | refine w_newD ?_) | with_reducible refine w_then ?_ | refine ⟨_, _, rfl, ?_⟩ | refine ⟨_, rfl, ?_⟩ | refine ⟨by decide, ?_⟩ | refine ⟨_, _, eqS (by decide +kernel) (by decide +kernel), ?_⟩ | refine ⟨(by simp only [List.length_cons, List.length_nil]; decide), ?_⟩ | refine ⟨fun c => absurd c (by decide +kernel), fun _ => ?_⟩ | refine ⟨fun _ => ?_, fun c => absurd c (by decide +kernel)⟩))
  refine w_take b (by omega) (by omega) (by omega) fun r o1 r0 r1 b1 => ?_
  (repeat (first | (with_reducible first | refine w_v rfl ?_ | refine w_c ?_ | refine w_d2 ?_ | refine w_cons ?_ | refine w_nil ?_ | refine w_call ?_ | refine w_tup ?_ | refine w_tpn ?_ | refine w_lst ?_ | refine w_lstM ?_ | refine w_wk ?_ | refine w_frz ?_ | refine w_meth ?_ | refine w_test ?_ | refine w_notT ?_ | refine w_andT ?_ | refine w_orT ?_ | refine w_yes ?_ | refine w_and ?_ | refine w_or ?_ | refine w_not ?_ | refine w_if ?_ | refine w_ifS ?_ | refine w_seq ?_ | refine w_next ?_ | refine w_cnt ?_ | refine w_ret ?_ | refine w_expr ?_ | refine w_asg ?_ | refine w_par ?_ | refine w_F ?_ | refine w_Fp ?_ | refine w_itL ?_ | refine w_itT ?_ | refine w_itK ?_ | refine w_rng ?_ | refine w_neg ?_ | refine w_dput ?_ | refine w_newD ?_) | with_reducible refine w_then ?_ | refine ⟨_, _, rfl, ?_⟩ | refine ⟨_, rfl, ?_⟩ | refine ⟨by decide, ?_⟩ | refine ⟨_, _, eqS (by decide +kernel) (by decide +kernel), ?_⟩ | refine ⟨(by simp only [List.length_cons, List.length_nil]; decide), ?_⟩ | refine ⟨fun c => absurd c (by decide +kernel), fun _ => ?_⟩ | refine ⟨fun _ => ?_, fun c => absurd c (by decide +kernel)⟩))
  have em2 : ∃ m : Int, min2 (room : Int) r = m ∧ 0 ≤ m ∧ m ≤ 10 := by
    refine ⟨_, rfl, ?_⟩
    unfold min2
    split <;> omega
  obtain ⟨m, em, m0, m1⟩ := em2
  refine ⟨rngD 0 m.toNat, ?_, ?_⟩
  · rw [em]
    unfold rng1
    dsimp only
    rw [smallR m0 (by omega)]
    rfl
  refine w_loop (fun ds ρ G => ScI (n + 1 + 4 * (10 - ds.length)) others room t ρ G ∧ ds.length ≤ 10) ?_ _ _ _ ⟨⟨o1, [O.lst []], 0, [], none, none, none, none, rfl, b1.up ?_, rfl, ?_, ?_, rfl⟩, ?_⟩ ?_
  · rintro d r ρ G ⟨⟨o', e, j, row, u6, u7, u8, u9, rfl, b', hj, hd, hl, rfl⟩, hz⟩
    simp only [List.length_cons] at b' hl hz
    refine ⟨[some (.ref 0), some (.lst (others.map .str)), some (.int 3), some (.int room), some (.ref (t.length + 1 + j)), some (.lst words12), some d, u7, u8, u9], _, rfl, ?_⟩
    refine (script_step (u6 := none) (by omega) on o0 ol b' hj hd hl).imp fun o2 G2 ⟨ρ2, h1, h2⟩ => ⟨ρ2, h1, ?_, by omega⟩
    obtain ⟨o', e, j, row, u6, u7, u8, u9, eG, b2, hj2, hd2, hl2, eρ⟩ := h2
    exact ⟨o', e, j, row, u6, u7, u8, u9, eG, b2.up (by omega), hj2, hd2, by omega, eρ⟩
  · simp [rngD]
    omega
  · rw [List.take_nil]
    exact DrS.nil
  · simp [rngD]
    omega
  · simp [rngD]
    omega
  · rintro ρ G ⟨⟨o', e, j, row, u6, u7, u8, u9, rfl, b', hj, hd, hl, rfl⟩, hz⟩
    refine w_then (w_ret (w_call (w_cons (w_sl (w_v rfl (w_noP (w_P (w_v rfl ⟨_, rfl, .lst (row.take room), ?_, ?_⟩))))))))
    · unfold slO
      simp only [lkE hj]
      rw [cut_take]
    · refine w_nil ⟨.tup (row.take room), _, rfl, _, rfl, q _ _ _ hd (by rw [List.length_take]; omega) (b'.up ?_)⟩
      simp
      omega
end K02

namespace K02
open PySem PySem.Spec PyProof.Rows L2 Tw
/-! ### drawn names -/
def unS : D → Str
  | .str x => x
  | _ => ""
structure Tg (tags : List Str) : Prop where
  mem : ∀ x ∈ tags, x ∈ names5
  nd : tags.Nodup
  srt : tags.Pairwise fun a b => leC a b = true
  lo : 2 ≤ tags.length
  hi : tags.length ≤ 4
theorem strs_map : ∀ ws : List Str, strsO (ws.map .str) = some ws
  | [] => rfl
  | w :: ws => by simp [strsO, strs_map ws]
theorem tags_of {found pool : List D} (hp : (found ++ pool).Perm (names5.map D.str)) (h2 : 2 ≤ found.length) (h4 : found.length ≤ 4) : ∃ fs, found = fs.map D.str ∧ Tg (sortS fs) := by
  have hs : ∀ d ∈ found, d = .str (unS d) := fun d hd => by
    obtain ⟨x, _, rfl⟩ := List.mem_map.mp (hp.mem_iff.mp (List.mem_append_left _ hd))
    rfl
  have hp2 : ((found ++ pool).map unS).Perm names5 := by
    have := hp.map unS
    rw [List.map_map] at this
    have e : (names5.map (unS ∘ D.str)) = names5 := by simp [Function.comp_def, unS]
    rw [e] at this
    exact this
  refine ⟨found.map unS, ?_, ?_⟩
  · rw [List.map_map]
    conv => lhs; rw [← List.map_id found]
    exact List.map_congr_left hs
  have nd5 : names5.Nodup := by decide +kernel
  have ps := sortS_perm (found.map unS)
  rw [List.map_append] at hp2
  have ndA := hp2.nodup_iff.mpr nd5
  refine ⟨fun x hx => hp2.mem_iff.mp (List.mem_append_left _ (ps.mem_iff.mp hx)), ps.nodup_iff.mpr (List.nodup_append.mp ndA).1, sortS_srt _, by rw [ps.length_eq, List.length_map]; exact h2, by rw [ps.length_eq, List.length_map]; exact h4⟩
theorem leC_lt {a b : Str} (h : leC a b = true) (ne : a ≠ b) : ltN a b = true := by
  unfold ltN ltS
  rw [← ltCps_eq]
  cases e : ltCps a.cps.toList b.cps.toList with
  | true => rfl
  | false =>
    have h2 : leC b a = true := by unfold leC; rw [e]; rfl
    exact absurd (str_of_tri h h2) ne
theorem asc_of {ns : List Str} (nd : ns.Nodup) (srt : ns.Pairwise fun a b => leC a b = true) : asc ns = true := by
  unfold asc
  rw [List.all_eq_true]
  intro i hi
  have hi2 := List.mem_range.mp hi
  obtain ⟨a, ha⟩ : ∃ a, ns[i]? = some a := ⟨_, List.getElem?_eq_getElem (by omega)⟩
  obtain ⟨b, hb⟩ : ∃ b, ns[i + 1]? = some b := ⟨_, List.getElem?_eq_getElem (by omega)⟩
  rw [List.getD_eq_getElem?_getD, List.getD_eq_getElem?_getD, ha, hb]
  obtain ⟨l1, e1⟩ := List.getElem?_eq_some_iff.mp ha
  obtain ⟨l2, e2⟩ := List.getElem?_eq_some_iff.mp hb
  have hl := List.pairwise_iff_getElem.mp srt i (i + 1) l1 l2 (by omega)
  have hn := List.pairwise_iff_getElem.mp nd i (i + 1) l1 l2 (by omega)
  rw [e1, e2] at hl hn
  exact leC_lt hl hn
/-- twice the same: not ascending -/
theorem asc_no {ns : List Str} {x : Str} (nd : ns.Nodup) (srt : ns.Pairwise fun a b => leC a b = true) (hx : x ∈ ns) : asc (ns ++ [x]) = false := by
  have h0 : 0 < ns.length := List.length_pos_of_mem hx
  unfold asc
  rw [List.all_eq_false]
  refine ⟨ns.length - 1, by simp; omega, ?_⟩
  obtain ⟨a, ha⟩ : ∃ a, ns[ns.length - 1]? = some a := ⟨_, List.getElem?_eq_getElem (by omega)⟩
  have e1 : (ns ++ [x])[ns.length - 1]? = some a := by rw [List.getElem?_append_left (by omega), ha]
  have e2 : (ns ++ [x])[ns.length - 1 + 1]? = some x := by
    rw [List.getElem?_append_right (by omega)]
    have : ns.length - 1 + 1 - ns.length = 0 := by omega
    rw [this]
    rfl
  rw [List.getD_eq_getElem?_getD, List.getD_eq_getElem?_getD, e1, e2]
  intro h
  have hlt : ltCps a.cps.toList x.cps.toList = true := by
    rw [ltCps_eq]
    exact h
  obtain ⟨i, hi, e⟩ := List.mem_iff_getElem.mp hx
  obtain ⟨l1, ea⟩ := List.getElem?_eq_some_iff.mp ha
  by_cases hie : i = ns.length - 1
  · subst hie
    rw [ea] at e
    subst e
    rw [ltCps_eq] at hlt
    exact absurd (of_decide_eq_true hlt) (List.lt_irrefl _)
  · have hl := List.pairwise_iff_getElem.mp srt i (ns.length - 1) hi l1 (by omega)
    rw [e, ea] at hl
    unfold leC at hl
    rw [hlt] at hl
    cases hl
/-! ### some of a row of names -/
theorem w_sub {l : List Str} {P : Str → Prop} {n : Int} {di : En → M (List D)} {T : En → M Bool} {ρ : En} {o : O} {e : List O} {i : Nat} {Q : D → List O → Prop} (hi : i < ρ.length) (hz : l.length ≤ 10)
    (hd : WP (di ρ) (o :: e) fun es G => es = l.map D.str ∧ G = o :: e) (b : BX n o)
    (hT : ∀ x ∈ l, ∀ o1 m, m ≤ n + l.length → BX m o1 → WP (T ((wipeD ρ [i]).set i (some (.str x)))) (o1 :: e) fun c G => ∃ o2, G = o2 :: e ∧ BX (m + 1) o2 ∧ (c = true → P x))
    (q : ∀ (cs : List Str) (o' : O), cs.Sublist l → (∀ x ∈ cs, P x) → BX (n + l.length) o' → Q (.lst (cs.map .str)) (o' :: e)) : WP (dLc di (gN i) T (dV i) [i] ρ) (o :: e) Q := by
  have mz : (10 : Nat) ≤ mx := by decide
  refine w_lc (fun ds ys G => ∃ (ps rs cs : List Str) (o' : O), l = ps ++ rs ∧ ds = rs.map D.str ∧ ys = cs.map D.str ∧ cs.Sublist ps ∧ (∀ x ∈ cs, P x) ∧ G = o' :: e ∧ BX (n + ps.length) o') ?_ ?_ ?_
  · refine hd.imp fun es G ⟨h1, h2⟩ => ?_
    exact ⟨[], l, [], o, rfl, h1, rfl, List.Sublist.refl _, fun x h => absurd h (by simp), h2, by simpa using b⟩
  · rintro d r ys G ⟨ps, rs, cs, o', hl, hds, rfl, hsub, hP, rfl, b'⟩
    cases rs with
    | nil => cases hds
    | cons x rs =>
      cases hds
      have hlen := congrArg List.length hl
      simp only [List.length_append, List.length_cons] at hlen
      refine ⟨_, _, rfl, (hT x (by rw [hl]; simp) o' _ (by omega) b').imp fun c G2 ⟨o2, h1, h2, h3⟩ => ?_⟩
      subst h1
      have b2 : BX (n + (ps ++ [x]).length) o2 := h2.up (by simp; omega)
      refine ⟨fun hc => w_v (d := .str x) ?_ ⟨ps ++ [x], rs, cs ++ [x], o2, by rw [hl]; simp, rfl, by simp, hsub.append (List.Sublist.refl _), ?_, rfl, b2⟩, fun _ => ⟨ps ++ [x], rs, cs, o2, by rw [hl]; simp, rfl, rfl, hsub.trans (List.sublist_append_left _ _), hP, rfl, b2⟩⟩
      · rw [List.getElem?_set_self]
        simp [wipeD]
        exact hi
      · intro y hy
        rcases List.mem_append.mp hy with hy | hy
        · exact hP y hy
        · rw [List.mem_singleton.mp hy]; exact h3 hc
  · rintro ys G ⟨ps, rs, cs, o', hl, hds, rfl, hsub, hP, rfl, b'⟩
    have : rs = [] := by cases rs with | nil => rfl | cons => cases hds
    subst this
    rw [List.append_nil] at hl
    subst hl
    refine ⟨?_, q cs o' hsub hP b'⟩
    rw [List.length_map]
    exact Nat.le_trans hsub.length_le (by omega)
end K02

namespace K02
open PySem PySem.Spec PyProof.Rows L2 Tw
/-! ### drawn houses -/
def startD (x : Str) : D := .tup [.str "start", .str x]
def shutD (w : Str) : D := .tup [.str w, .str "g"]
/-- the first task's script: starts, a drawn one, a step that shuts within it -/
def First (others crowd begun : List Str) (s : List D) : Prop := ∃ s1 s2 sh, s = begun.map startD ++ (s1 ++ (sh ++ s2)) ∧ DrS others (s1 ++ s2) ∧ (s1 ++ s2).length ≤ 10 ∧ ((crowd = [] ∧ sh = []) ∨ (crowd ≠ [] ∧ (sh = [shutD "close"] ∨ sh = [shutD "catch"])))
def othersOf (tags : List Str) (x : Str) : List Str := tags.filter fun y => !(y == x)
def RowS (t0 : Str) (tags crowd begun : List Str) (r : Rw) : Prop := r.2.1 = (if crowd.contains r.1 then ("g" : Str) else ("" : Str)) ∧
  if r.1 = t0 then First (othersOf tags r.1) crowd begun r.2.2 else DrS (othersOf tags r.1) r.2.2 ∧ r.2.2.length ≤ 10
theorem ok5 : names5.all PyData.strOk = true := by decide +kernel
theorem okm {x : Str} (h : x ∈ names5) : PyData.strOk x = true := List.all_eq_true.mp ok5 x h
abbrev b_first : En → M Out := (dSeq (dAsg (d2 (pur2 addO) (dCall (listP fun xs => pur (some (.tup xs))) (dCons (dLc (dItL (dV 6)) (gN 14) dYes (dTup (dCons (dC (.str "start")) (dCons (dV 14) dNil))) [14]) dNil)) (dV 9)) (gN 9)) (dSeq (dAsg (d2 (pur2 addO) (dCall (lenP) (dCons (dV 6) dNil)) (dF F_l_take (dCons (dV 0) (dCons (d2 (pur2 addO) (d2 (pur2 subO) (dCall (lenP) (dCons (dV 9) dNil)) (dCall (lenP) (dCons (dV 6) dNil))) (dC (.int 1))) dNil)))) (gN 10)) (dSeq (dAsg (dIf (dTest (d2 (pur2 (eqO true)) (dV 5) (dLst dNil))) (dTup (dCons (dTup (dCons (dF F_l_of (dCons (dV 0) (dCons (dLst (dCons (dC (.str "close")) (dCons (dC (.str "catch")) dNil))) dNil))) (dCons (dC (.str "g")) dNil))) dNil)) (dTup dNil)) (gN 11)) (dAsg (d2 (pur2 addO) (d2 (pur2 addO) (dSl (dV 9) dNoP (dP (dV 10))) (dV 11)) (dSl (dV 9) (dP (dV 10)) dNoP)) (gN 9)))))
theorem first_ok {n : Int} {tags crowd begun others : List Str} {row : List D} {o : O} {e : List O} {a1 a2 a3 a4 a7 a8 a10 a11 a12 a13 a14 : Option D} {Q : Out → List O → Prop} (hn : n ≤ 900) (hb : begun.length ≤ 4) (hc : crowd.all PyData.strOk = true) (hr : DrS others row) (hl : row.length ≤ 10) (b : BX n o)
    (q : ∀ s o' u10 u11, First others crowd begun s → BX (n + 2) o' → Q (.nx [some (.ref 0), a1, a2, a3, a4, some (.lst (crowd.map .str)), some (.lst (begun.map .str)), a7, a8, some (.tup s), u10, u11, a12, a13, a14]) (o' :: e)) :
    WP (b_first [some (.ref 0), a1, a2, a3, a4, some (.lst (crowd.map .str)), some (.lst (begun.map .str)), a7, a8, some (.tup row), a10, a11, a12, a13, a14]) (o :: e) Q := by
  have mz : (1000 : Nat) ≤ mx := by decide
  have eb : (begun.map startD).length = begun.length := List.length_map ..
  refine w_seq (w_asg (w_d2 (w_call (w_cons (w_lcB begun (fun x => .str x) (fun _ => true) startD ?_ (by omega) (fun x hx => ⟨_, rfl, w_yes ⟨rfl, rfl⟩, fun _ => ?_⟩) ?_)))))
  · (repeat (first | (with_reducible first | refine w_v rfl ?_ | refine w_c ?_ | refine w_d2 ?_ | refine w_cons ?_ | refine w_nil ?_ | refine w_call ?_ | refine w_tup ?_ | refine w_tpn ?_ | refine w_lst ?_ | refine w_lstM ?_ | refine w_wk ?_ | refine w_frz ?_ | refine w_meth ?_ | refine w_test ?_ | refine w_notT ?_ | refine w_andT ?_ | refine w_orT ?_ | refine w_yes ?_ | refine w_and ?_ | refine w_or ?_ | refine w_not ?_ | refine w_if ?_ | refine w_ifS ?_ | refine w_seq ?_ | refine w_next ?_ | refine w_cnt ?_ | refine w_ret ?_ | refine w_expr ?_ | refine w_asg ?_ | refine w_par ?_ | refine w_F ?_ | refine w_Fp ?_ | refine w_itL ?_ | refine w_itT ?_ | refine w_itK ?_ | refine w_rng ?_ | refine w_neg ?_ | refine w_dput ?_ | refine w_newD ?_) | with_reducible refine w_then ?_ | refine ⟨_, _, rfl, ?_⟩ | refine ⟨_, rfl, ?_⟩ | refine ⟨by decide, ?_⟩ | refine ⟨_, _, eqS (by decide +kernel) (by decide +kernel), ?_⟩ | refine ⟨(by simp only [List.length_cons, List.length_nil]; decide), ?_⟩ | refine ⟨fun c => absurd c (by decide +kernel), fun _ => ?_⟩ | refine ⟨fun _ => ?_, fun c => absurd c (by decide +kernel)⟩))
    exact ⟨rfl, rfl⟩
  · (repeat (first | (with_reducible first | refine w_v rfl ?_ | refine w_c ?_ | refine w_d2 ?_ | refine w_cons ?_ | refine w_nil ?_ | refine w_call ?_ | refine w_tup ?_ | refine w_tpn ?_ | refine w_lst ?_ | refine w_lstM ?_ | refine w_wk ?_ | refine w_frz ?_ | refine w_meth ?_ | refine w_test ?_ | refine w_notT ?_ | refine w_andT ?_ | refine w_orT ?_ | refine w_yes ?_ | refine w_and ?_ | refine w_or ?_ | refine w_not ?_ | refine w_if ?_ | refine w_ifS ?_ | refine w_seq ?_ | refine w_next ?_ | refine w_cnt ?_ | refine w_ret ?_ | refine w_expr ?_ | refine w_asg ?_ | refine w_par ?_ | refine w_F ?_ | refine w_Fp ?_ | refine w_itL ?_ | refine w_itT ?_ | refine w_itK ?_ | refine w_rng ?_ | refine w_neg ?_ | refine w_dput ?_ | refine w_newD ?_) | with_reducible refine w_then ?_ | refine ⟨_, _, rfl, ?_⟩ | refine ⟨_, rfl, ?_⟩ | refine ⟨by decide, ?_⟩ | refine ⟨_, _, eqS (by decide +kernel) (by decide +kernel), ?_⟩ | refine ⟨(by simp only [List.length_cons, List.length_nil]; decide), ?_⟩ | refine ⟨fun c => absurd c (by decide +kernel), fun _ => ?_⟩ | refine ⟨fun _ => ?_, fun c => absurd c (by decide +kernel)⟩))
    exact ⟨rfl, rfl⟩
  have ft : begun.filter (fun _ => true) = begun := by simp
  rw [ft]
  refine w_nil ⟨.tup (begun.map startD), o :: e, rfl, w_v rfl ⟨_, _, addT (by omega), _, _, rfl, ?_⟩⟩
  refine w_then (w_seq (w_asg (w_d2 (w_call (w_cons (w_v rfl (w_nil ⟨.int begun.length, o :: e, ?_, ?_⟩)))))))
  · show some (D.int ((begun.map D.str).length : Nat), o :: e) = _
    rw [List.length_map]
  refine w_F (w_cons (w_v rfl (w_cons (w_d2 (w_d2 (w_call (w_cons (w_v rfl (w_nil ⟨_, _, rfl, w_call (w_cons (w_v rfl (w_nil ⟨_, _, rfl, _, _, rfl, w_c ⟨_, _, rfl, w_nil ?_⟩⟩)))⟩)))))))))
  have es : (((begun.map startD ++ row).length : Nat) : Int) - ((begun.map D.str).length : Nat) + 1 = (row.length : Int) + 1 := by
    rw [List.length_append, List.length_map, List.length_map]
    omega
  show WP (F_l_take [.ref 0, .int ((((begun.map startD ++ row).length : Nat) : Int) - ((begun.map D.str).length : Nat) + 1)]) _ _
  rw [es]
  refine w_take b (by omega) (by omega) (by omega) fun r o1 r0 r1 b1 => ?_
  obtain ⟨k, rfl⟩ : ∃ k : Nat, r = (k : Int) := ⟨r.toNat, by omega⟩
  refine ⟨.int ((begun.length : Int) + k), _, rfl, _, _, rfl, w_then ?_⟩
  have sh : ∀ {Q2 : D → List O → Prop} {ρ : En}, ρ[0]? = some (some (.ref 0)) → ρ[5]? = some (some (.lst (crowd.map .str))) → (∀ o2 shl, BX (n + 2) o2 → ((crowd = [] ∧ shl = []) ∨ (crowd ≠ [] ∧ (shl = [shutD "close"] ∨ shl = [shutD "catch"]))) → Q2 (.tup shl) (o2 :: e)) →
      WP ((dIf (dTest (d2 (pur2 (eqO true)) (dV 5) (dLst dNil))) (dTup (dCons (dTup (dCons (dF F_l_of (dCons (dV 0) (dCons (dLst (dCons (dC (.str "close")) (dCons (dC (.str "catch")) dNil))) dNil))) (dCons (dC (.str "g")) dNil))) dNil)) (dTup dNil)) ρ) (o1 :: e) Q2 := fun {Q2 ρ} h0 h5 q2 => by
    refine w_if (w_test (w_d2 (w_v h5 (w_lst (w_nil ⟨by decide, .bl (!crowd.isEmpty), o1 :: e, ?_, _, rfl, fun c => ?_, fun c => ?_⟩)))))
    · unfold pur2 pur
      rw [eqO_nil hc]
      rfl
    · have c0 : crowd ≠ [] := by
        intro z
        rw [z] at c
        cases c
      refine w_tup (w_cons (w_tup (w_cons (w_F (w_cons (w_v h0 (w_cons ?_)))))))
      (repeat (first | (with_reducible first | refine w_v rfl ?_ | refine w_c ?_ | refine w_d2 ?_ | refine w_cons ?_ | refine w_nil ?_ | refine w_call ?_ | refine w_tup ?_ | refine w_tpn ?_ | refine w_lst ?_ | refine w_lstM ?_ | refine w_wk ?_ | refine w_frz ?_ | refine w_meth ?_ | refine w_test ?_ | refine w_notT ?_ | refine w_andT ?_ | refine w_orT ?_ | refine w_yes ?_ | refine w_and ?_ | refine w_or ?_ | refine w_not ?_ | refine w_if ?_ | refine w_ifS ?_ | refine w_seq ?_ | refine w_next ?_ | refine w_cnt ?_ | refine w_ret ?_ | refine w_expr ?_ | refine w_asg ?_ | refine w_par ?_ | refine w_F ?_ | refine w_Fp ?_ | refine w_itL ?_ | refine w_itT ?_ | refine w_itK ?_ | refine w_rng ?_ | refine w_neg ?_ | refine w_dput ?_ | refine w_newD ?_) | with_reducible refine w_then ?_ | refine ⟨_, _, rfl, ?_⟩ | refine ⟨_, rfl, ?_⟩ | refine ⟨by decide, ?_⟩ | refine ⟨_, _, eqS (by decide +kernel) (by decide +kernel), ?_⟩ | refine ⟨(by simp only [List.length_cons, List.length_nil]; decide), ?_⟩ | refine ⟨fun c => absurd c (by decide +kernel), fun _ => ?_⟩ | refine ⟨fun _ => ?_, fun c => absurd c (by decide +kernel)⟩))
      refine w_of (goods := [.str "close", .str "catch"]) b1 (by omega) (by decide) (by decide) fun d o2 hd b2 => ?_
      refine w_cons (w_c (w_nil ⟨(by simp only [List.length_cons, List.length_nil]; decide), w_nil ⟨(by simp only [List.length_cons, List.length_nil]; decide), q2 o2 _ (b2.up (by omega)) (.inr ⟨c0, ?_⟩)⟩⟩))
      simp only [List.mem_cons, List.not_mem_nil, or_false] at hd
      rcases hd with rfl | rfl
      · exact .inl rfl
      · exact .inr rfl
    · have c0 : crowd = [] := by
        cases crowd with
        | nil => rfl
        | cons => cases c
      exact w_tup (w_nil ⟨by decide, q2 o1 [] (b1.up (by omega)) (.inl ⟨c0, rfl⟩)⟩)
  refine w_seq (w_asg (sh rfl rfl fun o2 shl b2 hsh => ⟨_, _, rfl, w_then ?_⟩))
  have hsl : shl.length ≤ 1 := by
    rcases hsh with ⟨_, rfl⟩ | ⟨_, rfl | rfl⟩ <;> simp
  have et : (begun.map startD ++ row).take (begun.length + k) = begun.map startD ++ row.take k := by
    rw [List.take_append, eb]
    rw [List.take_of_length_le (by omega)]
    congr 2
    omega
  have ed : (begun.map startD ++ row).drop (begun.length + k) = row.drop k := by
    rw [List.drop_append, eb]
    rw [List.drop_of_length_le (by omega)]
    simp
  have ek : ((begun.length : Int) + (k : Int)) = ((begun.length + k : Nat) : Int) := by omega
  refine w_asg (w_d2 (w_d2 (w_sl (w_v rfl (w_noP (w_P (w_v rfl ⟨_, rfl, .tup (begun.map startD ++ row.take k), ?_, w_v rfl ⟨_, _, addT ?_, ?_⟩⟩)))))))
  · show some (D.tup (Tw.cutD _ _ _)) = _
    rw [ek, cut_take, et]
  · rw [List.length_append, eb, List.length_take]
    omega
  refine w_sl (w_v rfl (w_P (w_v rfl ⟨_, rfl, w_noP ⟨.tup (row.drop k), ?_, _, _, addT ?_, _, _, rfl, ?_⟩⟩)))
  · show some (D.tup (Tw.cutD _ _ _)) = _
    rw [ek, cut_drop, ed]
  · rw [List.length_append, List.length_append, eb, List.length_take, List.length_drop]
    omega
  refine q _ o2 _ _ ⟨row.take k, row.drop k, shl, by simp, by rw [List.take_append_drop]; exact hr, by rw [List.take_append_drop]; exact hl, hsh⟩ b2
end K02

namespace K02
open PySem PySem.Spec PyProof.Rows L2 Tw
structure Ho (tags crowd begun : List Str) (t0 : Str) (ts : List Str) (rows : List Rw) (gs : List (Str × Str)) (rooms : List Rm) : Prop where
  tg : Tg tags
  cons : tags = t0 :: ts
  names : rows.map (·.1) = tags
  cs : crowd.Sublist ts
  bnd : begun.Nodup
  bsub : ∀ x ∈ begun, x ∈ ts
  cb : ∀ x ∈ crowd, x ∈ begun
  bl : begun.length ≤ 4
  rs : ∀ r ∈ rows, RowS t0 tags crowd begun r
  gs : gs = if crowd = [] then [] else [(("g" : Str), t0)]
  rms : (rooms.map (·.1)).Sublist (["p", "q"] : List Str)
  rv : ∀ p ∈ rooms, 1 ≤ p.2
theorem div_ok {i j : Int} (h : 0 < j) (h2 : j < 1073741824) : divO (.int i) (.int j) = some (.int (i / j)) := by
  unfold divO i2c
  simp only
  simp [h, h2]
theorem ixl0 (d : D) (r : List D) (G : List O) : ixO (.lst (d :: r)) (.int 0) G = some (d, G) := by
  have h : atI (d :: r) 0 = some d := by
    unfold atI ixN
    simp
  unfold ixO
  simp only [h, pur]
theorem inSL {ws : List Str} {x : Str} {G : List O} : pur2 (inO false) (.str x) (.lst (ws.map .str)) G = some (.bl (ws.contains x), G) := by
  unfold pur2 pur
  rw [inO_strL]
theorem inSLN {ws : List Str} {x : Str} {G : List O} : pur2 (inO true) (.str x) (.lst (ws.map .str)) G = some (.bl (!ws.contains x), G) := by
  unfold pur2 pur
  rw [inO_strLN]
abbrev b_house : En → M Out := (dSeq (dAsg (dF F_l_script (dCons (dV 0) (dCons (dLc (dItL (dV 3)) (gN 14) (dTest (d2 (pur2 (eqO true)) (dV 14) (dV 4))) (dV 14) [14]) (dCons (dV 2) (dCons (dV 7) dNil))))) (gN 9)) (dSeq (dIfS (dTest (d2 (pur2 (eqO false)) (dV 4) (d2 ixO (dV 3) (dC (.int 0))))) b_first dNext) (dExpr (dMeth appF (dV 8) (dCons (dTup (dCons (dV 4) (dCons (dIf (dTest (d2 (pur2 (inO false)) (dV 4) (dV 5))) (dC (.str "g")) (dC (.str ""))) (dCons (dV 9) dNil)))) dNil)))))
section
variable {o x c : O} {e : List O} {j : Nat}
theorem lk0 (h : e[j]? = some x) : (o :: e)[j + 1]? = some x := by rw [List.getElem?_cons_succ]; exact h
theorem app0 {row : List D} {y : D} (h : e[j]? = some (.lst row)) (hz : row.length + 1 ≤ mx) : appF (.ref (j + 1)) [y] (o :: e) = some (.non, o :: e.set j (.lst (row ++ [y]))) := by
  unfold appF
  simp only [lk0 h]
  rw [if_pos hz, List.set_cons_succ]
end
theorem house_step {n : Int} {tags crowd begun ts : List Str} {t0 x : Str} {room j : Nat} {o : O} {e : List O} {R : List Rw} {u9 u10 u11 u12 u13 : Option D} (hn : n ≤ 700) (hn0 : 0 ≤ n) (tg : Tg tags) (htc : tags = t0 :: ts) (hx : x ∈ tags) (hroom : room ≤ 10) (cok : ∀ y ∈ crowd, y ∈ tags) (hb : begun.length ≤ 4) (hR : R.length ≤ 10)
    (b : BX n o) (hj : e[j]? = some (.lst (R.map toR))) :
    WP (b_house [some (.ref 0), some (.int 4), some (.int 3), some (.lst (tags.map .str)), some (.str x), some (.lst (crowd.map .str)), some (.lst (begun.map .str)), some (.int room), some (.ref (j + 1)), u9, u10, u11, u12, u13, none]) (o :: e)
      fun out G2 => ∃ o' e' r u9 u10 u11, G2 = o' :: e' ∧ BX (n + 50) o' ∧ r.1 = x ∧ RowS t0 tags crowd begun r ∧ e'[j]? = some (.lst ((R ++ [r]).map toR)) ∧ out = .nx [some (.ref 0), some (.int 4), some (.int 3), some (.lst (tags.map .str)), some (.str x), some (.lst (crowd.map .str)), some (.lst (begun.map .str)), some (.int room), some (.ref (j + 1)), u9, u10, u11, u12, u13, none] := by
  have mz : (1000 : Nat) ≤ mx := by decide
  have hi := tg.hi
  have okx := okm (tg.mem x hx)
  have okt : ∀ y ∈ tags, PyData.strOk y = true := fun y hy => okm (tg.mem y hy)
  have okc : crowd.all PyData.strOk = true := List.all_eq_true.mpr fun y hy => okt y (cok y hy)
  have ht0 : t0 ∈ tags := by rw [htc]; simp
  refine w_seq (w_asg (w_F (w_cons (w_v rfl (w_cons (w_lcB tags (fun y => .str y) (fun y => !(y == x)) (fun y => .str y) ?_ (by omega) (fun y hy => ⟨_, rfl, ?_, fun _ => ?_⟩) ?_))))))
  · (repeat (first | (with_reducible first | refine w_v rfl ?_ | refine w_c ?_ | refine w_d2 ?_ | refine w_cons ?_ | refine w_nil ?_ | refine w_call ?_ | refine w_tup ?_ | refine w_tpn ?_ | refine w_lst ?_ | refine w_lstM ?_ | refine w_wk ?_ | refine w_frz ?_ | refine w_meth ?_ | refine w_test ?_ | refine w_notT ?_ | refine w_andT ?_ | refine w_orT ?_ | refine w_yes ?_ | refine w_and ?_ | refine w_or ?_ | refine w_not ?_ | refine w_if ?_ | refine w_ifS ?_ | refine w_seq ?_ | refine w_next ?_ | refine w_cnt ?_ | refine w_ret ?_ | refine w_expr ?_ | refine w_asg ?_ | refine w_par ?_ | refine w_F ?_ | refine w_Fp ?_ | refine w_itL ?_ | refine w_itT ?_ | refine w_itK ?_ | refine w_rng ?_ | refine w_neg ?_ | refine w_dput ?_ | refine w_newD ?_) | with_reducible refine w_then ?_ | refine ⟨_, _, rfl, ?_⟩ | refine ⟨_, rfl, ?_⟩ | refine ⟨by decide, ?_⟩ | refine ⟨_, _, eqS (by decide +kernel) (by decide +kernel), ?_⟩ | refine ⟨(by simp only [List.length_cons, List.length_nil]; decide), ?_⟩ | refine ⟨fun c => absurd c (by decide +kernel), fun _ => ?_⟩ | refine ⟨fun _ => ?_, fun c => absurd c (by decide +kernel)⟩))
    exact ⟨rfl, rfl⟩
  · refine w_test (w_d2 (w_v rfl (w_v rfl ⟨_, _, eqS (okt y hy) okx, _, rfl, rfl, rfl⟩)))
  · exact w_v rfl ⟨rfl, rfl⟩
  refine w_cons (w_v rfl (w_cons (w_v rfl (w_nil ?_))))
  have o0 : othersOf tags x ≠ [] := by
    intro z
    have h2 : ∀ y ∈ tags, y = x := fun y hy => by
      have := List.filter_eq_nil_iff.mp z y hy
      simpa using this
    have lo := tg.lo
    rw [htc] at h2 lo
    have nd := tg.nd
    rw [htc] at nd
    cases ts with
    | nil => simp at lo
    | cons t1 ts =>
      have e1 := h2 t0 (by simp)
      have e2 := h2 t1 (by simp)
      rw [e1, e2] at nd
      simp at nd
  have on : ∀ y ∈ othersOf tags x, y ∈ names5 := fun y hy => tg.mem y (List.mem_filter.mp hy).1
  have ol : (othersOf tags x).length ≤ 5 := Nat.le_trans (List.length_filter_le _ _) (by omega)
  refine w_script (others := othersOf tags x) (room := room) (by omega) hn0 hroom on o0 ol b fun row o2 e2 hrow hrl b2 => ?_
  refine ⟨_, _, rfl, w_then ?_⟩
  have hj2 : (e ++ e2)[j]? = some (.lst (R.map toR)) := by
    rw [List.getElem?_append_left (List.getElem?_eq_some_iff.mp hj).1]
    exact hj
  have fin : ∀ {s : List D} {o3 : O} {v9 v10 v11 : Option D}, v9 = some (.tup s) → RowS t0 tags crowd begun (x, (if crowd.contains x then "g" else ""), s) → BX (n + 50) o3 →
      WP ((dExpr (dMeth appF (dV 8) (dCons (dTup (dCons (dV 4) (dCons (dIf (dTest (d2 (pur2 (inO false)) (dV 4) (dV 5))) (dC (.str "g")) (dC (.str ""))) (dCons (dV 9) dNil)))) dNil))) [some (.ref 0), some (.int 4), some (.int 3), some (.lst (tags.map .str)), some (.str x), some (.lst (crowd.map .str)), some (.lst (begun.map .str)), some (.int room), some (.ref (j + 1)), v9, v10, v11, u12, u13, none]) (o3 :: (e ++ e2))
        fun out G2 => ∃ o' e' r u9 u10 u11, G2 = o' :: e' ∧ BX (n + 50) o' ∧ r.1 = x ∧ RowS t0 tags crowd begun r ∧ e'[j]? = some (.lst ((R ++ [r]).map toR)) ∧ out = .nx [some (.ref 0), some (.int 4), some (.int 3), some (.lst (tags.map .str)), some (.str x), some (.lst (crowd.map .str)), some (.lst (begun.map .str)), some (.int room), some (.ref (j + 1)), u9, u10, u11, u12, u13, none] := fun {s o3 v9 v10 v11} h9 hrs b3 => by
    subst h9
    refine w_expr (w_meth (w_v rfl ⟨⟨R.map toR, by unfold inL; simp only [lk0 hj2]⟩, w_cons (w_tup (w_cons (w_v rfl (w_cons (w_if (w_test (w_d2 (w_v rfl (w_v rfl ⟨_, _, inSL, _, rfl, fun c => ?_, fun c => ?_⟩)))))))))⟩))
    · refine w_c (w_cons (w_v rfl (w_nil ⟨(by simp only [List.length_cons, List.length_nil]; decide), w_nil ⟨.non, _, app0 hj2 (by rw [List.length_map]; omega), o3, _, (x, "g", s), _, _, _, rfl, b3, rfl, by rw [if_pos c] at hrs; exact hrs, ?_, rfl⟩⟩)))
      rw [List.getElem?_set_self (List.getElem?_eq_some_iff.mp hj2).1]
      simp [toR]
    · refine w_c (w_cons (w_v rfl (w_nil ⟨(by simp only [List.length_cons, List.length_nil]; decide), w_nil ⟨.non, _, app0 hj2 (by rw [List.length_map]; omega), o3, _, (x, "", s), _, _, _, rfl, b3, rfl, by rw [if_neg (by rw [c]; simp)] at hrs; exact hrs, ?_, rfl⟩⟩)))
      rw [List.getElem?_set_self (List.getElem?_eq_some_iff.mp hj2).1]
      simp [toR]
  refine w_seq (w_ifS (w_test (w_d2 (w_v rfl (w_d2 (w_v rfl (w_c ⟨.str t0, o2 :: (e ++ e2), ?_, _, _, eqS okx (okt t0 ht0), _, rfl, fun c => ?_, fun c => w_next (w_then ?_)⟩)))))))
  · subst htc
    exact ixl0 _ _ _
  · have ex : x = t0 := by simpa using c
    refine first_ok (tags := tags) (n := n + 41) (by omega) hb okc hrow (by omega) b2 fun s o3 v10 v11 hs b3 => w_then (fin rfl ?_ (b3.up (by omega)))
    refine ⟨rfl, ?_⟩
    rw [if_pos ex]
    exact hs
  · have ex : ¬ x = t0 := by simpa using c
    refine fin rfl ?_ (b2.up (by omega))
    refine ⟨rfl, ?_⟩
    rw [if_neg ex]
    have hl10 : row.length ≤ 10 := by omega
    exact ⟨hrow, hl10⟩
end K02

namespace K02
open PySem PySem.Spec PyProof.Rows L2 Tw
theorem cut_tail (x : D) (xs : List D) : Tw.cutD (x :: xs) (some 1) none = xs := by
  have := cut_drop (x :: xs) 1
  exact this
theorem addL {xs ys : List D} {G : List O} (h : xs.length + ys.length ≤ mx) : pur2 addO (.lst xs) (.lst ys) G = some (.lst (xs ++ ys), G) := by
  unfold pur2 pur addO
  simp only
  rw [if_pos h]
theorem len_sub : ∀ {l m : List Str}, l.Nodup → (∀ x ∈ l, x ∈ m) → l.length ≤ m.length
  | [], _, _, _ => Nat.zero_le _
  | a :: l, m, nd, h => by
    have hn := List.nodup_cons.mp nd
    have ha := h a List.mem_cons_self
    have ih := len_sub (l := l) (m := m.erase a) hn.2 fun x hx => (List.mem_erase_of_ne (fun e => hn.1 (by rw [← e]; exact hx))).mpr (h x (List.mem_cons_of_mem _ hx))
    rw [List.length_erase_of_mem ha] at ih
    have := List.length_pos_of_mem ha
    rw [List.length_cons]
    omega
theorem w_house {o : O} {Q : D → List O → Prop} (b : BX 0 o) (q : ∀ tags crowd begun t0 ts rows gs rooms o' e, Ho tags crowd begun t0 ts rows gs rooms → BX 400 o' → Q (houseD rows gs rooms) (o' :: e)) :
    WP (F_l_house [.ref 0, .int 4, .int 3]) [o] Q := by
  have mz : (1000 : Nat) ≤ mx := by decide
  refine w_run ?_
  unfold ds_l_house
  refine w_seq (w_asg (w_call (w_cons (w_F (w_cons (w_v rfl (w_cons ?_)))))))
  (repeat (first | (with_reducible first | refine w_v rfl ?_ | refine w_c ?_ | refine w_d2 ?_ | refine w_cons ?_ | refine w_nil ?_ | refine w_call ?_ | refine w_tup ?_ | refine w_tpn ?_ | refine w_lst ?_ | refine w_lstM ?_ | refine w_wk ?_ | refine w_frz ?_ | refine w_meth ?_ | refine w_test ?_ | refine w_notT ?_ | refine w_andT ?_ | refine w_orT ?_ | refine w_yes ?_ | refine w_and ?_ | refine w_or ?_ | refine w_not ?_ | refine w_if ?_ | refine w_ifS ?_ | refine w_seq ?_ | refine w_next ?_ | refine w_cnt ?_ | refine w_ret ?_ | refine w_expr ?_ | refine w_asg ?_ | refine w_par ?_ | refine w_F ?_ | refine w_Fp ?_ | refine w_itL ?_ | refine w_itT ?_ | refine w_itK ?_ | refine w_rng ?_ | refine w_neg ?_ | refine w_dput ?_ | refine w_newD ?_) | with_reducible refine w_then ?_ | refine ⟨_, _, rfl, ?_⟩ | refine ⟨_, rfl, ?_⟩ | refine ⟨by decide, ?_⟩ | refine ⟨_, _, eqS (by decide +kernel) (by decide +kernel), ?_⟩ | refine ⟨(by simp only [List.length_cons, List.length_nil]; decide), ?_⟩ | refine ⟨fun c => absurd c (by decide +kernel), fun _ => ?_⟩ | refine ⟨fun _ => ?_, fun c => absurd c (by decide +kernel)⟩))
  refine w_take b (by omega) (by omega) (by omega) fun r o1 r0 r1 b1 => ?_
  (repeat (first | (with_reducible first | refine w_v rfl ?_ | refine w_c ?_ | refine w_d2 ?_ | refine w_cons ?_ | refine w_nil ?_ | refine w_call ?_ | refine w_tup ?_ | refine w_tpn ?_ | refine w_lst ?_ | refine w_lstM ?_ | refine w_wk ?_ | refine w_frz ?_ | refine w_meth ?_ | refine w_test ?_ | refine w_notT ?_ | refine w_andT ?_ | refine w_orT ?_ | refine w_yes ?_ | refine w_and ?_ | refine w_or ?_ | refine w_not ?_ | refine w_if ?_ | refine w_ifS ?_ | refine w_seq ?_ | refine w_next ?_ | refine w_cnt ?_ | refine w_ret ?_ | refine w_expr ?_ | refine w_asg ?_ | refine w_par ?_ | refine w_F ?_ | refine w_Fp ?_ | refine w_itL ?_ | refine w_itT ?_ | refine w_itK ?_ | refine w_rng ?_ | refine w_neg ?_ | refine w_dput ?_ | refine w_newD ?_) | with_reducible refine w_then ?_ | refine ⟨_, _, rfl, ?_⟩ | refine ⟨_, rfl, ?_⟩ | refine ⟨by decide, ?_⟩ | refine ⟨_, _, eqS (by decide +kernel) (by decide +kernel), ?_⟩ | refine ⟨(by simp only [List.length_cons, List.length_nil]; decide), ?_⟩ | refine ⟨fun c => absurd c (by decide +kernel), fun _ => ?_⟩ | refine ⟨fun _ => ?_, fun c => absurd c (by decide +kernel)⟩))
  obtain ⟨c, ec, c2, c4⟩ : ∃ c : Int, min2 4 (2 + r) = c ∧ 2 ≤ c ∧ c ≤ 4 := by
    refine ⟨_, rfl, ?_⟩
    unfold min2
    split <;> omega
  rw [ec]
  refine w_pick (goods := names5.map D.str) (by exact b1) (by omega) (by decide) (by omega) (by show c ≤ 5; omega) fun found o2 e2 pool hp hl b2 => ?_
  obtain ⟨fs, rfl, tg⟩ := tags_of hp (by omega) (by omega)
  have lf : fs.length ≤ 4 := by rw [List.length_map] at hl; omega
  generalize ht : sortS fs = tags at tg
  refine w_nil ⟨.lst (tags.map .str), o2 :: ([] ++ e2), ?_, _, _, rfl, w_then ?_⟩
  · unfold lP
    simp only [inL]
    unfold sortF
    simp only [strs_map]
    rw [if_pos (by omega), ht]
  obtain ⟨t0, ts, htc⟩ : ∃ t0 ts, tags = t0 :: ts := by
    have lo := tg.lo
    cases tags with
    | nil => simp at lo
    | cons t0 ts => exact ⟨t0, ts, rfl⟩
  have lts : ts.length ≤ 3 := by
    have := tg.hi
    rw [htc] at this
    simpa using this
  have okt : ∀ y ∈ tags, PyData.strOk y = true := fun y hy => okm (tg.mem y hy)
  have hts : ∀ y ∈ ts, y ∈ tags := fun y hy => by rw [htc]; exact List.mem_cons_of_mem _ hy
  have tail : ∀ {ρ : En} {G : List O}, ρ[3]? = some (some (.lst (tags.map .str))) → WP (dItL (dSl (dV 3) (dP (dC (.int 1))) dNoP) ρ) G fun es G1 => es = ts.map D.str ∧ G1 = G := fun {ρ G} h => by
    refine w_itL (w_sl (w_v h (w_P (w_c ⟨_, rfl, w_noP ⟨.lst (ts.map .str), ?_, _, rfl, rfl, rfl⟩⟩))))
    show some (D.lst (Tw.cutD _ _ _)) = _
    rw [htc, List.map_cons, cut_tail]
  generalize [] ++ e2 = E2
  refine w_seq (w_asg (w_sub (l := ts) (P := fun _ => True) (by simp only [List.length_set]; decide) (by omega) (tail rfl) b2 (fun x hx o3 m hm b3 => ?_) fun crowd o3 hcs _ b3 => ⟨_, _, rfl, w_then ?_⟩))
  · refine w_test (w_d2 (w_F ?_))
    (repeat (first | (with_reducible first | refine w_v rfl ?_ | refine w_c ?_ | refine w_d2 ?_ | refine w_cons ?_ | refine w_nil ?_ | refine w_call ?_ | refine w_tup ?_ | refine w_tpn ?_ | refine w_lst ?_ | refine w_lstM ?_ | refine w_wk ?_ | refine w_frz ?_ | refine w_meth ?_ | refine w_test ?_ | refine w_notT ?_ | refine w_andT ?_ | refine w_orT ?_ | refine w_yes ?_ | refine w_and ?_ | refine w_or ?_ | refine w_not ?_ | refine w_if ?_ | refine w_ifS ?_ | refine w_seq ?_ | refine w_next ?_ | refine w_cnt ?_ | refine w_ret ?_ | refine w_expr ?_ | refine w_asg ?_ | refine w_par ?_ | refine w_F ?_ | refine w_Fp ?_ | refine w_itL ?_ | refine w_itT ?_ | refine w_itK ?_ | refine w_rng ?_ | refine w_neg ?_ | refine w_dput ?_ | refine w_newD ?_) | with_reducible refine w_then ?_ | refine ⟨_, _, rfl, ?_⟩ | refine ⟨_, rfl, ?_⟩ | refine ⟨by decide, ?_⟩ | refine ⟨_, _, eqS (by decide +kernel) (by decide +kernel), ?_⟩ | refine ⟨(by simp only [List.length_cons, List.length_nil]; decide), ?_⟩ | refine ⟨fun c => absurd c (by decide +kernel), fun _ => ?_⟩ | refine ⟨fun _ => ?_, fun c => absurd c (by decide +kernel)⟩))
    refine w_take b3 (by omega) (by omega) (by omega) fun r o4 r0 r1 b4 => ?_
    (repeat (first | (with_reducible first | refine w_v rfl ?_ | refine w_c ?_ | refine w_d2 ?_ | refine w_cons ?_ | refine w_nil ?_ | refine w_call ?_ | refine w_tup ?_ | refine w_tpn ?_ | refine w_lst ?_ | refine w_lstM ?_ | refine w_wk ?_ | refine w_frz ?_ | refine w_meth ?_ | refine w_test ?_ | refine w_notT ?_ | refine w_andT ?_ | refine w_orT ?_ | refine w_yes ?_ | refine w_and ?_ | refine w_or ?_ | refine w_not ?_ | refine w_if ?_ | refine w_ifS ?_ | refine w_seq ?_ | refine w_next ?_ | refine w_cnt ?_ | refine w_ret ?_ | refine w_expr ?_ | refine w_asg ?_ | refine w_par ?_ | refine w_F ?_ | refine w_Fp ?_ | refine w_itL ?_ | refine w_itT ?_ | refine w_itK ?_ | refine w_rng ?_ | refine w_neg ?_ | refine w_dput ?_ | refine w_newD ?_) | with_reducible refine w_then ?_ | refine ⟨_, _, rfl, ?_⟩ | refine ⟨_, rfl, ?_⟩ | refine ⟨by decide, ?_⟩ | refine ⟨_, _, eqS (by decide +kernel) (by decide +kernel), ?_⟩ | refine ⟨(by simp only [List.length_cons, List.length_nil]; decide), ?_⟩ | refine ⟨fun c => absurd c (by decide +kernel), fun _ => ?_⟩ | refine ⟨fun _ => ?_, fun c => absurd c (by decide +kernel)⟩))
    exact ⟨b4, fun _ => True.intro⟩
  have lcr : crowd.length ≤ 3 := Nat.le_trans hcs.length_le lts
  refine w_seq (w_asg (w_d2 (w_v rfl (w_sub (l := ts) (P := fun x => crowd.contains x = false) (by simp only [List.length_set]; decide) (by omega) (tail rfl) b3 (fun x hx o4 m hm b4 => ?_) fun more o4 hms hmp b4 => ?_))))
  · refine w_andT (w_test (w_d2 (w_v rfl (w_v rfl ⟨_, _, inSLN, _, rfl, fun c => ?_, fun c => ?_⟩))))
    · refine w_test (w_d2 (w_F ?_))
      (repeat (first | (with_reducible first | refine w_v rfl ?_ | refine w_c ?_ | refine w_d2 ?_ | refine w_cons ?_ | refine w_nil ?_ | refine w_call ?_ | refine w_tup ?_ | refine w_tpn ?_ | refine w_lst ?_ | refine w_lstM ?_ | refine w_wk ?_ | refine w_frz ?_ | refine w_meth ?_ | refine w_test ?_ | refine w_notT ?_ | refine w_andT ?_ | refine w_orT ?_ | refine w_yes ?_ | refine w_and ?_ | refine w_or ?_ | refine w_not ?_ | refine w_if ?_ | refine w_ifS ?_ | refine w_seq ?_ | refine w_next ?_ | refine w_cnt ?_ | refine w_ret ?_ | refine w_expr ?_ | refine w_asg ?_ | refine w_par ?_ | refine w_F ?_ | refine w_Fp ?_ | refine w_itL ?_ | refine w_itT ?_ | refine w_itK ?_ | refine w_rng ?_ | refine w_neg ?_ | refine w_dput ?_ | refine w_newD ?_) | with_reducible refine w_then ?_ | refine ⟨_, _, rfl, ?_⟩ | refine ⟨_, rfl, ?_⟩ | refine ⟨by decide, ?_⟩ | refine ⟨_, _, eqS (by decide +kernel) (by decide +kernel), ?_⟩ | refine ⟨(by simp only [List.length_cons, List.length_nil]; decide), ?_⟩ | refine ⟨fun c => absurd c (by decide +kernel), fun _ => ?_⟩ | refine ⟨fun _ => ?_, fun c => absurd c (by decide +kernel)⟩))
      refine w_take b4 (by omega) (by omega) (by omega) fun r o5 r0 r1 b5 => ?_
      (repeat (first | (with_reducible first | refine w_v rfl ?_ | refine w_c ?_ | refine w_d2 ?_ | refine w_cons ?_ | refine w_nil ?_ | refine w_call ?_ | refine w_tup ?_ | refine w_tpn ?_ | refine w_lst ?_ | refine w_lstM ?_ | refine w_wk ?_ | refine w_frz ?_ | refine w_meth ?_ | refine w_test ?_ | refine w_notT ?_ | refine w_andT ?_ | refine w_orT ?_ | refine w_yes ?_ | refine w_and ?_ | refine w_or ?_ | refine w_not ?_ | refine w_if ?_ | refine w_ifS ?_ | refine w_seq ?_ | refine w_next ?_ | refine w_cnt ?_ | refine w_ret ?_ | refine w_expr ?_ | refine w_asg ?_ | refine w_par ?_ | refine w_F ?_ | refine w_Fp ?_ | refine w_itL ?_ | refine w_itT ?_ | refine w_itK ?_ | refine w_rng ?_ | refine w_neg ?_ | refine w_dput ?_ | refine w_newD ?_) | with_reducible refine w_then ?_ | refine ⟨_, _, rfl, ?_⟩ | refine ⟨_, rfl, ?_⟩ | refine ⟨by decide, ?_⟩ | refine ⟨_, _, eqS (by decide +kernel) (by decide +kernel), ?_⟩ | refine ⟨(by simp only [List.length_cons, List.length_nil]; decide), ?_⟩ | refine ⟨fun c => absurd c (by decide +kernel), fun _ => ?_⟩ | refine ⟨fun _ => ?_, fun c => absurd c (by decide +kernel)⟩))
      exact ⟨b5, fun _ => by simpa using c⟩
    · exact ⟨o4, rfl, b4.up (by omega), fun c => (by cases c)⟩
  have lmo : more.length ≤ 3 := Nat.le_trans hms.length_le lts
  refine ⟨.lst ((crowd ++ more).map .str), o4 :: E2, ?_, _, _, rfl, w_then ?_⟩
  · rw [addL (by rw [List.length_map, List.length_map]; omega), List.map_append]
  generalize hbe : crowd ++ more = begun
  have ndt : ts.Nodup := by
    have := tg.nd
    rw [htc] at this
    exact (List.nodup_cons.mp this).2
  have bnd : begun.Nodup := by
    rw [← hbe, List.nodup_append]
    refine ⟨hcs.nodup ndt, hms.nodup ndt, fun x hx y hy e => ?_⟩
    subst e
    have := hmp x hy
    rw [List.contains_iff_mem.mpr hx] at this
    cases this
  have bsub : ∀ x ∈ begun, x ∈ ts := fun x hx => by
    rw [← hbe] at hx
    rcases List.mem_append.mp hx with hx | hx
    · exact hcs.subset hx
    · exact hms.subset hx
  have lbe : begun.length ≤ 3 := Nat.le_trans (len_sub bnd bsub) lts
  have okc : crowd.all PyData.strOk = true := List.all_eq_true.mpr fun y hy => okt y (hts y (hcs.subset hy))
  have lo := tg.lo
  have hi := tg.hi
  refine w_seq ?_
  (repeat (first | (with_reducible first | refine w_v rfl ?_ | refine w_c ?_ | refine w_d2 ?_ | refine w_cons ?_ | refine w_nil ?_ | refine w_call ?_ | refine w_tup ?_ | refine w_tpn ?_ | refine w_lst ?_ | refine w_lstM ?_ | refine w_wk ?_ | refine w_frz ?_ | refine w_meth ?_ | refine w_test ?_ | refine w_notT ?_ | refine w_andT ?_ | refine w_orT ?_ | refine w_yes ?_ | refine w_and ?_ | refine w_or ?_ | refine w_not ?_ | refine w_if ?_ | refine w_ifS ?_ | refine w_seq ?_ | refine w_next ?_ | refine w_cnt ?_ | refine w_ret ?_ | refine w_expr ?_ | refine w_asg ?_ | refine w_par ?_ | refine w_F ?_ | refine w_Fp ?_ | refine w_itL ?_ | refine w_itT ?_ | refine w_itK ?_ | refine w_rng ?_ | refine w_neg ?_ | refine w_dput ?_ | refine w_newD ?_) | with_reducible refine w_then ?_ | refine ⟨_, _, rfl, ?_⟩ | refine ⟨_, rfl, ?_⟩ | refine ⟨by decide, ?_⟩ | refine ⟨_, _, eqS (by decide +kernel) (by decide +kernel), ?_⟩ | refine ⟨(by simp only [List.length_cons, List.length_nil]; decide), ?_⟩ | refine ⟨fun c => absurd c (by decide +kernel), fun _ => ?_⟩ | refine ⟨fun _ => ?_, fun c => absurd c (by decide +kernel)⟩))
  refine ⟨.bl (!crowd.isEmpty), o4 :: E2, by unfold pur2 pur; rw [eqO_nil okc]; rfl, ?_⟩
  (repeat (first | (with_reducible first | refine w_v rfl ?_ | refine w_c ?_ | refine w_d2 ?_ | refine w_cons ?_ | refine w_nil ?_ | refine w_call ?_ | refine w_tup ?_ | refine w_tpn ?_ | refine w_lst ?_ | refine w_lstM ?_ | refine w_wk ?_ | refine w_frz ?_ | refine w_meth ?_ | refine w_test ?_ | refine w_notT ?_ | refine w_andT ?_ | refine w_orT ?_ | refine w_yes ?_ | refine w_and ?_ | refine w_or ?_ | refine w_not ?_ | refine w_if ?_ | refine w_ifS ?_ | refine w_seq ?_ | refine w_next ?_ | refine w_cnt ?_ | refine w_ret ?_ | refine w_expr ?_ | refine w_asg ?_ | refine w_par ?_ | refine w_F ?_ | refine w_Fp ?_ | refine w_itL ?_ | refine w_itT ?_ | refine w_itK ?_ | refine w_rng ?_ | refine w_neg ?_ | refine w_dput ?_ | refine w_newD ?_) | with_reducible refine w_then ?_ | refine ⟨_, _, rfl, ?_⟩ | refine ⟨_, rfl, ?_⟩ | refine ⟨by decide, ?_⟩ | refine ⟨_, _, eqS (by decide +kernel) (by decide +kernel), ?_⟩ | refine ⟨(by simp only [List.length_cons, List.length_nil]; decide), ?_⟩ | refine ⟨fun c => absurd c (by decide +kernel), fun _ => ?_⟩ | refine ⟨fun _ => ?_, fun c => absurd c (by decide +kernel)⟩))
  obtain ⟨room, hroom, er⟩ : ∃ room : Nat, room ≤ 10 ∧ (12 - ((begun.map D.str).length : Int) - (if (!crowd.isEmpty) = true then 1 else 0)) / ((tags.map D.str).length : Int) = (room : Int) := by
    rw [List.length_map, List.length_map]
    have hq : tags.length = 2 ∨ tags.length = 3 ∨ tags.length = 4 := by omega
    have h1 : (0 : Int) ≤ (if (!crowd.isEmpty) = true then 1 else 0) ∧ (if (!crowd.isEmpty) = true then (1 : Int) else 0) ≤ 1 := by split <;> omega
    generalize (if (!crowd.isEmpty) = true then (1 : Int) else 0) = z at h1
    refine ⟨((12 - (begun.length : Int) - z) / (tags.length : Int)).toNat, ?_, ?_⟩
    · rcases hq with h | h | h <;> rw [h] <;> omega
    · rcases hq with h | h | h <;> rw [h] <;> omega
  refine ⟨.int room, o4 :: E2, ?_, ?_⟩
  · unfold pur2 pur
    rw [div_ok (by rw [List.length_map]; omega) (by rw [List.length_map]; omega)]
    show some (D.int ((12 - ((begun.map D.str).length : Int) - (if (!crowd.isEmpty) = true then 1 else 0)) / ((tags.map D.str).length : Int)), _) = _
    rw [er]
  (repeat (first | (with_reducible first | refine w_v rfl ?_ | refine w_c ?_ | refine w_d2 ?_ | refine w_cons ?_ | refine w_nil ?_ | refine w_call ?_ | refine w_tup ?_ | refine w_tpn ?_ | refine w_lst ?_ | refine w_lstM ?_ | refine w_wk ?_ | refine w_frz ?_ | refine w_meth ?_ | refine w_test ?_ | refine w_notT ?_ | refine w_andT ?_ | refine w_orT ?_ | refine w_yes ?_ | refine w_and ?_ | refine w_or ?_ | refine w_not ?_ | refine w_if ?_ | refine w_ifS ?_ | refine w_seq ?_ | refine w_next ?_ | refine w_cnt ?_ | refine w_ret ?_ | refine w_expr ?_ | refine w_asg ?_ | refine w_par ?_ | refine w_F ?_ | refine w_Fp ?_ | refine w_itL ?_ | refine w_itT ?_ | refine w_itK ?_ | refine w_rng ?_ | refine w_neg ?_ | refine w_dput ?_ | refine w_newD ?_) | with_reducible refine w_then ?_ | refine ⟨_, _, rfl, ?_⟩ | refine ⟨_, rfl, ?_⟩ | refine ⟨by decide, ?_⟩ | refine ⟨_, _, eqS (by decide +kernel) (by decide +kernel), ?_⟩ | refine ⟨(by simp only [List.length_cons, List.length_nil]; decide), ?_⟩ | refine ⟨fun c => absurd c (by decide +kernel), fun _ => ?_⟩ | refine ⟨fun _ => ?_, fun c => absurd c (by decide +kernel)⟩))
  have eL : (o4 :: E2).length = E2.length + 1 := List.length_cons
  have eA : o4 :: E2 ++ [O.lst []] = o4 :: (E2 ++ [O.lst []]) := rfl
  rw [eL, eA]
  have b30 : BX 30 o4 := b4.up (by omega)
  refine w_for (w_itL (w_v rfl ⟨tags.map .str, rfl, ?_⟩))
  refine w_loop (fun ds ρ G => ∃ (ps rs : List Str) (R : List Rw) (o' : O) (e' : List O) (u4 u9 u10 u11 : Option D), tags = ps ++ rs ∧ ds = rs.map D.str ∧ R.map (·.1) = ps ∧ (∀ r ∈ R, RowS t0 tags crowd begun r) ∧ G = o' :: e' ∧ BX (30 + 50 * ps.length) o' ∧ e'[E2.length]? = some (.lst (R.map toR)) ∧ ρ = [some (.ref 0), some (.int 4), some (.int 3), some (.lst (tags.map .str)), u4, some (.lst (crowd.map .str)), some (.lst (begun.map .str)), some (.int room), some (.ref (E2.length + 1)), u9, u10, u11, none, none, none]) ?_ _ _ _ ⟨[], tags, [], o4, _, none, none, none, none, rfl, rfl, rfl, fun r h => absurd h (by simp), rfl, by simpa using b30, by simp, rfl⟩ ?_
  · rintro d r ρ G ⟨ps, rs, R, o', e', u4, u9, u10, u11, hl, hds, hR, hRS, rfl, b', hj, rfl⟩
    cases rs with
    | nil => cases hds
    | cons x rs =>
      cases hds
      have hlen := congrArg List.length hl
      simp only [List.length_append, List.length_cons] at hlen
      have hRl := congrArg List.length hR
      rw [List.length_map] at hRl
      refine ⟨[some (.ref 0), some (.int 4), some (.int 3), some (.lst (tags.map .str)), some (.str x), some (.lst (crowd.map .str)), some (.lst (begun.map .str)), some (.int room), some (.ref (E2.length + 1)), u9, u10, u11, none, none, none], _, rfl, ?_⟩
      refine (house_step (room := room) (R := R) (n := 30 + 50 * ps.length) (by omega) (by omega) tg htc (by rw [hl]; simp) hroom (fun y hy => hts y (hcs.subset hy)) (by omega) (by omega) b' hj).imp fun out G2 ⟨o2, e2, r2, v9, v10, v11, e1, b2, h1, h2, h3, h4⟩ => ?_
      subst e1 h4
      refine ⟨_, .inl rfl, ps ++ [x], rs, R ++ [r2], o2, e2, _, v9, v10, v11, by rw [hl]; simp, rfl, by simp [hR, h1], ?_, rfl, b2.up (by simp; omega), h3, rfl⟩
      intro r hr
      rcases List.mem_append.mp hr with hr | hr
      · exact hRS r hr
      · rw [List.mem_singleton.mp hr]; exact h2
  · rintro ρ G ⟨ps, rs, R, o5, e5, u4, u9, u10, u11, hl, hds, hR, hRS, rfl, b5, hj, rfl⟩
    have hrs : rs = [] := by cases rs with | nil => rfl | cons => cases hds
    subst hrs
    rw [List.append_nil] at hl
    have hpl : ps.length ≤ 4 := by rw [← hl]; exact hi
    refine w_then (w_seq (w_asg (w_call (w_cons (w_lc (fun ds ys G => ∃ (qs rs : List Str) (rm : List Rm) (o' : O), (["p", "q"] : List Str) = qs ++ rs ∧ ds = rs.map D.str ∧ ys = rm.map roomD ∧ (rm.map (·.1)).Sublist qs ∧ (∀ p ∈ rm, 1 ≤ p.2) ∧ G = o' :: e5 ∧ BX (300 + 2 * qs.length) o') ?_ ?_ ?_)))))
    · (repeat (first | (with_reducible first | refine w_v rfl ?_ | refine w_c ?_ | refine w_d2 ?_ | refine w_cons ?_ | refine w_nil ?_ | refine w_call ?_ | refine w_tup ?_ | refine w_tpn ?_ | refine w_lst ?_ | refine w_lstM ?_ | refine w_wk ?_ | refine w_frz ?_ | refine w_meth ?_ | refine w_test ?_ | refine w_notT ?_ | refine w_andT ?_ | refine w_orT ?_ | refine w_yes ?_ | refine w_and ?_ | refine w_or ?_ | refine w_not ?_ | refine w_if ?_ | refine w_ifS ?_ | refine w_seq ?_ | refine w_next ?_ | refine w_cnt ?_ | refine w_ret ?_ | refine w_expr ?_ | refine w_asg ?_ | refine w_par ?_ | refine w_F ?_ | refine w_Fp ?_ | refine w_itL ?_ | refine w_itT ?_ | refine w_itK ?_ | refine w_rng ?_ | refine w_neg ?_ | refine w_dput ?_ | refine w_newD ?_) | with_reducible refine w_then ?_ | refine ⟨_, _, rfl, ?_⟩ | refine ⟨_, rfl, ?_⟩ | refine ⟨by decide, ?_⟩ | refine ⟨_, _, eqS (by decide +kernel) (by decide +kernel), ?_⟩ | refine ⟨(by simp only [List.length_cons, List.length_nil]; decide), ?_⟩ | refine ⟨fun c => absurd c (by decide +kernel), fun _ => ?_⟩ | refine ⟨fun _ => ?_, fun c => absurd c (by decide +kernel)⟩))
      exact ⟨[], ["p", "q"], [], o5, rfl, rfl, rfl, List.Sublist.refl _, fun p h => absurd h (by simp), rfl, b5.up (by simp; omega)⟩
    · rintro d r ys G ⟨qs, rs, rm, o', hq, hds, rfl, hsub, hv, rfl, b'⟩
      cases rs with
      | nil => cases hds
      | cons x rs =>
        cases hds
        have hlen := congrArg List.length hq
        simp only [List.length_append, List.length_cons, List.length_nil] at hlen
        refine ⟨_, _, rfl, w_test (w_d2 (w_F ?_))⟩
        (repeat (first | (with_reducible first | refine w_v rfl ?_ | refine w_c ?_ | refine w_d2 ?_ | refine w_cons ?_ | refine w_nil ?_ | refine w_call ?_ | refine w_tup ?_ | refine w_tpn ?_ | refine w_lst ?_ | refine w_lstM ?_ | refine w_wk ?_ | refine w_frz ?_ | refine w_meth ?_ | refine w_test ?_ | refine w_notT ?_ | refine w_andT ?_ | refine w_orT ?_ | refine w_yes ?_ | refine w_and ?_ | refine w_or ?_ | refine w_not ?_ | refine w_if ?_ | refine w_ifS ?_ | refine w_seq ?_ | refine w_next ?_ | refine w_cnt ?_ | refine w_ret ?_ | refine w_expr ?_ | refine w_asg ?_ | refine w_par ?_ | refine w_F ?_ | refine w_Fp ?_ | refine w_itL ?_ | refine w_itT ?_ | refine w_itK ?_ | refine w_rng ?_ | refine w_neg ?_ | refine w_dput ?_ | refine w_newD ?_) | with_reducible refine w_then ?_ | refine ⟨_, _, rfl, ?_⟩ | refine ⟨_, rfl, ?_⟩ | refine ⟨by decide, ?_⟩ | refine ⟨_, _, eqS (by decide +kernel) (by decide +kernel), ?_⟩ | refine ⟨(by simp only [List.length_cons, List.length_nil]; decide), ?_⟩ | refine ⟨fun c => absurd c (by decide +kernel), fun _ => ?_⟩ | refine ⟨fun _ => ?_, fun c => absurd c (by decide +kernel)⟩))
        refine w_take b' (by omega) (by omega) (by omega) fun r1 o6 r0 r1' b6 => ?_
        (repeat (first | (with_reducible first | refine w_v rfl ?_ | refine w_c ?_ | refine w_d2 ?_ | refine w_cons ?_ | refine w_nil ?_ | refine w_call ?_ | refine w_tup ?_ | refine w_tpn ?_ | refine w_lst ?_ | refine w_lstM ?_ | refine w_wk ?_ | refine w_frz ?_ | refine w_meth ?_ | refine w_test ?_ | refine w_notT ?_ | refine w_andT ?_ | refine w_orT ?_ | refine w_yes ?_ | refine w_and ?_ | refine w_or ?_ | refine w_not ?_ | refine w_if ?_ | refine w_ifS ?_ | refine w_seq ?_ | refine w_next ?_ | refine w_cnt ?_ | refine w_ret ?_ | refine w_expr ?_ | refine w_asg ?_ | refine w_par ?_ | refine w_F ?_ | refine w_Fp ?_ | refine w_itL ?_ | refine w_itT ?_ | refine w_itK ?_ | refine w_rng ?_ | refine w_neg ?_ | refine w_dput ?_ | refine w_newD ?_) | with_reducible refine w_then ?_ | refine ⟨_, _, rfl, ?_⟩ | refine ⟨_, rfl, ?_⟩ | refine ⟨by decide, ?_⟩ | refine ⟨_, _, eqS (by decide +kernel) (by decide +kernel), ?_⟩ | refine ⟨(by simp only [List.length_cons, List.length_nil]; decide), ?_⟩ | refine ⟨fun c => absurd c (by decide +kernel), fun _ => ?_⟩ | refine ⟨fun _ => ?_, fun c => absurd c (by decide +kernel)⟩))
        refine ⟨fun c => ?_, fun c => ⟨qs ++ [x], rs, rm, o6, by rw [hq]; simp, rfl, rfl, hsub.trans (List.sublist_append_left _ _), hv, rfl, b6.up (by simp; omega)⟩⟩
        refine w_tup (w_cons (w_v rfl (w_cons (w_d2 (w_c (w_F ?_))))))
        (repeat (first | (with_reducible first | refine w_v rfl ?_ | refine w_c ?_ | refine w_d2 ?_ | refine w_cons ?_ | refine w_nil ?_ | refine w_call ?_ | refine w_tup ?_ | refine w_tpn ?_ | refine w_lst ?_ | refine w_lstM ?_ | refine w_wk ?_ | refine w_frz ?_ | refine w_meth ?_ | refine w_test ?_ | refine w_notT ?_ | refine w_andT ?_ | refine w_orT ?_ | refine w_yes ?_ | refine w_and ?_ | refine w_or ?_ | refine w_not ?_ | refine w_if ?_ | refine w_ifS ?_ | refine w_seq ?_ | refine w_next ?_ | refine w_cnt ?_ | refine w_ret ?_ | refine w_expr ?_ | refine w_asg ?_ | refine w_par ?_ | refine w_F ?_ | refine w_Fp ?_ | refine w_itL ?_ | refine w_itT ?_ | refine w_itK ?_ | refine w_rng ?_ | refine w_neg ?_ | refine w_dput ?_ | refine w_newD ?_) | with_reducible refine w_then ?_ | refine ⟨_, _, rfl, ?_⟩ | refine ⟨_, rfl, ?_⟩ | refine ⟨by decide, ?_⟩ | refine ⟨_, _, eqS (by decide +kernel) (by decide +kernel), ?_⟩ | refine ⟨(by simp only [List.length_cons, List.length_nil]; decide), ?_⟩ | refine ⟨fun c => absurd c (by decide +kernel), fun _ => ?_⟩ | refine ⟨fun _ => ?_, fun c => absurd c (by decide +kernel)⟩))
        refine w_take b6 (by omega) (by omega) (by omega) fun r2 o7 r20 r21 b7 => ?_
        (repeat (first | (with_reducible first | refine w_v rfl ?_ | refine w_c ?_ | refine w_d2 ?_ | refine w_cons ?_ | refine w_nil ?_ | refine w_call ?_ | refine w_tup ?_ | refine w_tpn ?_ | refine w_lst ?_ | refine w_lstM ?_ | refine w_wk ?_ | refine w_frz ?_ | refine w_meth ?_ | refine w_test ?_ | refine w_notT ?_ | refine w_andT ?_ | refine w_orT ?_ | refine w_yes ?_ | refine w_and ?_ | refine w_or ?_ | refine w_not ?_ | refine w_if ?_ | refine w_ifS ?_ | refine w_seq ?_ | refine w_next ?_ | refine w_cnt ?_ | refine w_ret ?_ | refine w_expr ?_ | refine w_asg ?_ | refine w_par ?_ | refine w_F ?_ | refine w_Fp ?_ | refine w_itL ?_ | refine w_itT ?_ | refine w_itK ?_ | refine w_rng ?_ | refine w_neg ?_ | refine w_dput ?_ | refine w_newD ?_) | with_reducible refine w_then ?_ | refine ⟨_, _, rfl, ?_⟩ | refine ⟨_, rfl, ?_⟩ | refine ⟨by decide, ?_⟩ | refine ⟨_, _, eqS (by decide +kernel) (by decide +kernel), ?_⟩ | refine ⟨(by simp only [List.length_cons, List.length_nil]; decide), ?_⟩ | refine ⟨fun c => absurd c (by decide +kernel), fun _ => ?_⟩ | refine ⟨fun _ => ?_, fun c => absurd c (by decide +kernel)⟩))
        refine ⟨qs ++ [x], rs, rm ++ [(x, 1 + r2)], o7, by rw [hq]; simp, rfl, by simp [roomD], ?_, ?_, rfl, b7.up (by simp; omega)⟩
        · rw [List.map_append]
          exact hsub.append (List.Sublist.refl _)
        · intro p hp
          rcases List.mem_append.mp hp with hp | hp
          · exact hv p hp
          · rw [List.mem_singleton.mp hp]
            show 1 ≤ 1 + r2
            omega
    · rintro ys G ⟨qs, rs, rm, o6, hq, hds, rfl, hsub, hv, rfl, b6⟩
      have hrs : rs = [] := by cases rs with | nil => rfl | cons => cases hds
      subst hrs
      rw [List.append_nil] at hq
      subst hq
      have hml := hsub.length_le
      rw [List.length_map] at hml
      refine ⟨by rw [List.length_map]; exact Nat.le_trans hml (by decide), w_nil ⟨.tup (rm.map roomD), _, rfl, _, _, rfl, w_then ?_⟩⟩
      refine w_ret (w_tup (w_cons (w_call (w_cons (w_v rfl (w_nil ⟨.tup (R.map toR), o6 :: e5, ?_, ?_⟩))))))
      · unfold listP
        simp only [inS, inL, lk0 hj]
        rfl
      have ho : Ho tags crowd begun t0 ts R (if crowd = [] then [] else [(("g" : Str), t0)]) rm := ⟨tg, htc, by rw [hR, hl], hcs, bnd, bsub, fun x hx => by rw [← hbe]; exact List.mem_append_left _ hx, by omega, hRS, rfl, hsub, hv⟩
      have fin := q _ _ _ _ _ _ _ _ o6 e5 ho (b6.up (by decide))
      refine w_cons (w_if (w_test (w_d2 (w_v rfl (w_lst (w_nil ⟨by decide, .bl (!crowd.isEmpty), o6 :: e5, by unfold pur2 pur; rw [eqO_nil okc]; rfl, _, rfl, fun c => ?_, fun c => ?_⟩))))))
      · have c0 : ¬ crowd = [] := by
          intro z
          rw [z] at c
          cases c
        refine w_tpn (w_cons (w_tup (w_cons (w_c (w_cons (w_d2 (w_v rfl (w_c ⟨.str t0, o6 :: e5, ?_, ?_⟩))))))))
        · subst htc
          exact ixl0 _ _ _
        refine w_nil ⟨(by simp only [List.length_cons, List.length_nil]; decide), w_nil ⟨(by simp only [List.length_cons, List.length_nil]; decide), ?_⟩⟩
        refine w_cons (w_v rfl (w_nil ⟨(by simp only [List.length_cons, List.length_nil]; decide), _, rfl, ?_⟩))
        rw [if_neg c0] at fin
        exact fin
      · have c0 : crowd = [] := by
          cases crowd with
          | nil => rfl
          | cons => cases c
        refine w_tpn (w_nil ⟨by decide, w_cons (w_v rfl (w_nil ⟨(by simp only [List.length_cons, List.length_nil]; decide), _, rfl, ?_⟩))⟩)
        rw [if_pos c0] at fin
        exact fin
end K02

namespace K02
open PySem PySem.Spec PyProof.Rows L2 Tw
section
variable {α : Type}
end
/-- rows that can be looked at -/
structure RowsOk (rows : List Rw) : Prop where
  nd : (rows.map (·.1)).Nodup
  n : ∀ r ∈ rows, PyData.strOk r.1 = true
  g : ∀ r ∈ rows, PyData.strOk r.2.1 = true
  s : ∀ r ∈ rows, r.2.2.all isS = true
  t : ∀ r ∈ rows, r.2.2.all (okA tw3) = true
  c : ∀ r ∈ rows, r.2.2.all (okA cw2) = true
  z : rows.length ≤ 1000
  zt : (nm tw3 rows).length ≤ 1000
  zc : (nm cw2 rows).length ≤ 1000
  it : ∀ t ∈ nm tw3 rows, PyData.strOk t.1 = true ∧ PyData.strOk t.2.1 = true
theorem RowsOk.nr {rows : List Rw} (h : RowsOk rows) : noRs (rows.map toR) = true := by
  have : ∀ l : List Rw, (∀ r ∈ l, r.2.2.all isS = true) → noRs (l.map toR) = true := fun l => by
    induction l with
    | nil => intro _; rfl
    | cons r l ih =>
      intro hs
      simp [noRs, noR, toR, isS_nrs (hs r List.mem_cons_self), ih fun q hq => hs q (List.mem_cons_of_mem _ hq)]
  exact this rows h.s
/-! ### what a drawn house holds -/
def layS (d : D) : Bool := match toP d with
  | some p => PyData.canLay0 p && decide (PyData.depth p ≤ 10)
  | none => false
def chk2 (d : D) : Bool := chk d && layS d
theorem Pl_chk2 : Pl.all chk2 = true := by kernel_rfl
theorem io_chk2 : [inD1, outD1].all chk2 = true := by kernel_rfl
theorem Jn_chk2 : names5.all (fun x => (Jn x).all chk2) = true := by kernel_rfl
theorem St_chk2 : names5.all (fun x => chk2 (startD x) && (delta (startD x) == 0 && (wrd (startD x) == "start" && arg (startD x) == x))) = true := by kernel_rfl
theorem Sh_chk2 : [shutD "close", shutD "catch"].all (fun d => chk2 d && (delta d == 0 && (cw2.contains (wrd d) && (arg d == "g" && (!(tw3.contains (wrd d)) && !(sw1.contains (wrd d))))))) = true := by kernel_rfl
theorem nmS_app (n : Str) (ws : List Str) : ∀ (a b : List D) (k : Nat), nmS n ws k (a ++ b) = nmS n ws k a ++ nmS n ws (k + a.length) b
  | [], b, k => by simp [nmS]
  | d :: a, b, k => by
    simp only [List.cons_append, nmS, List.length_cons]
    rw [nmS_app n ws a b (k + 1)]
    have : k + 1 + a.length = k + (a.length + 1) := by omega
    rw [this]
    split <;> rfl
theorem nmS_none (n : Str) (ws : List Str) : ∀ (a : List D) (k : Nat), (∀ d ∈ a, ws.contains (wrd d) = false) → nmS n ws k a = []
  | [], k, _ => rfl
  | d :: a, k, h => by
    simp only [nmS]
    rw [if_neg (by rw [h d List.mem_cons_self]; simp)]
    exact nmS_none n ws a (k + 1) fun x hx => h x (List.mem_cons_of_mem _ hx)
theorem nmS_mem (n : Str) (ws : List Str) : ∀ (a : List D) (k : Nat) (t : It), t ∈ nmS n ws k a → ∃ d, d ∈ a ∧ ws.contains (wrd d) = true ∧ t.1 = arg d ∧ t.2.1 = n
  | [], k, t, h => by cases h
  | d :: a, k, t, h => by
    simp only [nmS] at h
    split at h
    · rename_i hc
      rcases List.mem_cons.mp h with rfl | h
      · exact ⟨d, List.mem_cons_self, hc, rfl, rfl⟩
      · obtain ⟨x, h1, h2⟩ := nmS_mem n ws a (k + 1) t h
        exact ⟨x, List.mem_cons_of_mem _ h1, h2⟩
    · obtain ⟨x, h1, h2⟩ := nmS_mem n ws a (k + 1) t h
      exact ⟨x, List.mem_cons_of_mem _ h1, h2⟩
theorem nmS_len (n : Str) (ws : List Str) : ∀ (a : List D) (k : Nat), (nmS n ws k a).length ≤ a.length
  | [], k => Nat.le_refl _
  | d :: a, k => by
    have ih := nmS_len n ws a (k + 1)
    simp only [nmS]
    split
    · simp only [List.length_cons]; omega
    · simp only [List.length_cons]; omega
theorem nm_mem {ws : List Str} {rows : List Rw} {t : It} (h : t ∈ nm ws rows) : ∃ r ∈ rows, ∃ d, d ∈ r.2.2 ∧ ws.contains (wrd d) = true ∧ t.1 = arg d ∧ t.2.1 = r.1 := by
  obtain ⟨r, hr, h⟩ := List.mem_flatMap.mp h
  obtain ⟨d, h1, h2, h3, h4⟩ := nmS_mem _ _ _ _ _ h
  exact ⟨r, hr, d, h1, h2, h3, h4⟩
theorem nm_len (ws : List Str) : ∀ {rows : List Rw} {m : Nat}, (∀ r ∈ rows, r.2.2.length ≤ m) → (nm ws rows).length ≤ rows.length * m
  | [], m, _ => by simp [nm]
  | r :: rows, m, h => by
    have ih := nm_len ws (rows := rows) (m := m) fun q hq => h q (List.mem_cons_of_mem _ hq)
    have e : nm ws (r :: rows) = nmS r.1 ws 0 r.2.2 ++ nm ws rows := by simp [nm]
    rw [e, List.length_append, List.length_cons, Nat.add_mul]
    have := nmS_len r.1 ws r.2.2 0
    have := h r List.mem_cons_self
    omega
/-- each step is one that can be looked at, and the shields close -/
structure Sc (s : List D) : Prop where
  c : ∀ d ∈ s, chk2 d = true
  w : walk 0 s = some 0
  l : s.length ≤ 20
theorem walk_ins (d : D) (h : delta d = 0) : ∀ (a b : List D) (c : Int), 0 ≤ c → walk c (a ++ d :: b) = walk c (a ++ b)
  | [], b, c, hc => by
    show walk c (d :: b) = walk c b
    simp only [walk, h, Int.add_zero]
    rw [if_pos hc]
  | x :: a, b, c, hc => by
    simp only [List.cons_append, walk]
    split
    · rename_i h0
      exact walk_ins d h a b _ h0
    · rfl
theorem walk_zeros : ∀ (a b : List D), (∀ d ∈ a, delta d = 0) → walk 0 (a ++ b) = walk 0 b
  | [], b, _ => rfl
  | d :: a, b, h => by
    have := walk_ins d (h d List.mem_cons_self) [] (a ++ b) 0 (Int.le_refl 0)
    rw [List.cons_append]
    exact this.trans (walk_zeros a b fun x hx => h x (List.mem_cons_of_mem _ hx))
theorem dr1_chk {others : List Str} (hn : ∀ x ∈ others, x ∈ names5) {d : D} (h : Dr1 others d) : chk2 d = true := by
  rcases h with h | rfl | rfl | ⟨x, hx, h⟩
  · exact List.all_eq_true.mp Pl_chk2 d h
  · exact List.all_eq_true.mp io_chk2 _ (by simp)
  · exact List.all_eq_true.mp io_chk2 _ (by simp)
  · exact List.all_eq_true.mp (List.all_eq_true.mp Jn_chk2 x (hn x hx)) d h
/-- what a drawn step names -/
theorem dr1_names {others : List Str} (hn : ∀ x ∈ others, x ∈ names5) {d : D} (h : Dr1 others d) : sw1.contains (wrd d) = false ∧ cw2.contains (wrd d) = false ∧ (tw3.contains (wrd d) = true → arg d ∈ others) := by
  rcases h with h | rfl | rfl | ⟨x, hx, h⟩
  · have := List.all_eq_true.mp Pl_chk d h
    simp only [Bool.and_eq_true, Bool.not_eq_true'] at this
    exact ⟨this.2.2.2.2, this.2.2.2.1, fun c => by rw [this.2.2.1] at c; cases c⟩
  · have := List.all_eq_true.mp io_chk inD1 (by simp)
    simp only [Bool.and_eq_true, Bool.not_eq_true'] at this
    exact ⟨this.2.2.2, this.2.2.1, fun c => by rw [this.2.1] at c; cases c⟩
  · have := List.all_eq_true.mp io_chk outD1 (by simp)
    simp only [Bool.and_eq_true, Bool.not_eq_true'] at this
    exact ⟨this.2.2.2, this.2.2.1, fun c => by rw [this.2.1] at c; cases c⟩
  · have := List.all_eq_true.mp (List.all_eq_true.mp Jn_chk x (hn x hx)) d h
    simp only [Bool.and_eq_true, Bool.not_eq_true', beq_iff_eq] at this
    exact ⟨this.2.2.2.2, this.2.2.2.1, fun _ => by rw [this.2.2.1]; exact hx⟩
theorem start_ok {x : Str} (h : x ∈ names5) : chk2 (startD x) = true ∧ delta (startD x) = 0 ∧ wrd (startD x) = "start" ∧ arg (startD x) = x := by
  have := List.all_eq_true.mp St_chk2 x h
  simp only [Bool.and_eq_true, beq_iff_eq] at this
  exact ⟨this.1, this.2.1, this.2.2.1, this.2.2.2⟩
theorem shut_ok {d : D} (h : d = shutD "close" ∨ d = shutD "catch") : chk2 d = true ∧ delta d = 0 ∧ cw2.contains (wrd d) = true ∧ arg d = "g" ∧ tw3.contains (wrd d) = false ∧ sw1.contains (wrd d) = false := by
  have := List.all_eq_true.mp Sh_chk2 d (by rcases h with rfl | rfl <;> simp)
  simp only [Bool.and_eq_true, beq_iff_eq, Bool.not_eq_true'] at this
  exact ⟨this.1, this.2.1, this.2.2.1, this.2.2.2.1, this.2.2.2.2.1, this.2.2.2.2.2⟩
section
variable {tags crowd begun ts : List Str} {t0 : Str} {rows : List Rw} {gs : List (Str × Str)} {rooms : List Rm}
theorem Ho.others (h : Ho tags crowd begun t0 ts rows gs rooms) (x : Str) : ∀ y ∈ othersOf tags x, y ∈ names5 := fun y hy => h.tg.mem y (List.mem_filter.mp hy).1
theorem Ho.ts5 (h : Ho tags crowd begun t0 ts rows gs rooms) : ∀ y ∈ ts, y ∈ names5 := fun y hy => h.tg.mem y (by rw [h.cons]; exact List.mem_cons_of_mem _ hy)
theorem Ho.b5 (h : Ho tags crowd begun t0 ts rows gs rooms) : ∀ y ∈ begun, y ∈ names5 := fun y hy => h.ts5 y (h.bsub y hy)
theorem first_sc {s : List D} (h : Ho tags crowd begun t0 ts rows gs rooms) (x : Str) (f : First (othersOf tags x) crowd begun s) : Sc s := by
  obtain ⟨s1, s2, sh, rfl, hd, hl, hsh⟩ := f
  have shc : ∀ d ∈ sh, chk2 d = true ∧ delta d = 0 := fun d hd => by
    rcases hsh with ⟨_, rfl⟩ | ⟨_, rfl | rfl⟩
    · cases hd
    · have := shut_ok (d := d) (.inl (List.mem_singleton.mp hd)); exact ⟨this.1, this.2.1⟩
    · have := shut_ok (d := d) (.inr (List.mem_singleton.mp hd)); exact ⟨this.1, this.2.1⟩
  have shl : sh.length ≤ 1 := by
    rcases hsh with ⟨_, rfl⟩ | ⟨_, rfl | rfl⟩ <;> simp
  refine ⟨fun d hdm => ?_, ?_, ?_⟩
  · rcases List.mem_append.mp hdm with hm | hm
    · obtain ⟨y, hy, rfl⟩ := List.mem_map.mp hm
      exact (start_ok (h.b5 y hy)).1
    · rcases List.mem_append.mp hm with hm | hm
      · exact dr1_chk (h.others x) (hd.1 d (List.mem_append_left _ hm))
      · rcases List.mem_append.mp hm with hm | hm
        · exact (shc d hm).1
        · exact dr1_chk (h.others x) (hd.1 d (List.mem_append_right _ hm))
  · rw [walk_zeros _ _ fun d hdm => by obtain ⟨y, hy, rfl⟩ := List.mem_map.mp hdm; exact (start_ok (h.b5 y hy)).2.1]
    rcases hsh with ⟨_, rfl⟩ | ⟨_, rfl | rfl⟩
    · exact hd.2
    · rw [List.singleton_append, walk_ins _ (shut_ok (.inl rfl)).2.1 _ _ _ (Int.le_refl 0)]
      exact hd.2
    · rw [List.singleton_append, walk_ins _ (shut_ok (.inr rfl)).2.1 _ _ _ (Int.le_refl 0)]
      exact hd.2
  · have := h.bl
    simp only [List.length_append, List.length_map] at hl ⊢
    omega
theorem Ho.sc (h : Ho tags crowd begun t0 ts rows gs rooms) : ∀ r ∈ rows, Sc r.2.2 := fun r hr => by
  obtain ⟨_, h2⟩ := h.rs r hr
  split at h2
  · exact first_sc h _ h2
  · exact ⟨fun d hd => dr1_chk (h.others _) (h2.1.1 d hd), h2.1.2, by omega⟩
end

end K02

namespace K02
open PySem PySem.Spec PyProof.Rows L2 Tw
theorem chk2_all {d : D} (h : chk2 d = true) : isS d = true ∧ (okA qw2 d = true ∧ okA sg2 d = true) ∧ okA tw3 d = true ∧ okA cw2 d = true ∧ okA sw1 d = true ∧ layS d = true := by
  unfold chk2 chk at h
  simp only [Bool.and_eq_true] at h
  exact ⟨h.1.1, h.1.2.1, h.1.2.2.1, h.1.2.2.2.1, h.1.2.2.2.2, h.2⟩
/-- rows that can be looked at, for any script -/
theorem rowsOk_of {rows : List Rw} (nd : (rows.map (·.1)).Nodup) (n : ∀ r ∈ rows, PyData.strOk r.1 = true) (g : ∀ r ∈ rows, PyData.strOk r.2.1 = true) (c : ∀ r ∈ rows, ∀ d ∈ r.2.2, chk2 d = true) (z : rows.length ≤ 5) (l : ∀ r ∈ rows, r.2.2.length ≤ 30)
    (a : ∀ r ∈ rows, ∀ d ∈ r.2.2, tw3.contains (wrd d) = true → PyData.strOk (arg d) = true) : RowsOk rows ∧ (nm sw1 rows).length ≤ 1000 := by
  have ln : ∀ ws, (nm ws rows).length ≤ 1000 := fun ws => Nat.le_trans (nm_len ws l) (by omega)
  refine ⟨⟨nd, n, g, fun r hr => List.all_eq_true.mpr fun d hd => (chk2_all (c r hr d hd)).1, fun r hr => List.all_eq_true.mpr fun d hd => (chk2_all (c r hr d hd)).2.2.1, fun r hr => List.all_eq_true.mpr fun d hd => (chk2_all (c r hr d hd)).2.2.2.1, by omega, ln _, ln _, fun t ht => ?_⟩, ln _⟩
  obtain ⟨r, hr, d, hd, hc, e1, e2⟩ := nm_mem ht
  exact ⟨by rw [e1]; exact a r hr d hd hc, by rw [e2]; exact n r hr⟩
def stI (n : Str) : Nat → List Str → List It
  | _, [] => []
  | k, b :: bs => (b, n, k) :: stI n (k + 1) bs
theorem stI_fst (n : Str) : ∀ (bs : List Str) (k : Nat), (stI n k bs).map (·.1) = bs
  | [], k => rfl
  | b :: bs, k => by simp [stI, stI_fst n bs]
theorem stI_mem (n : Str) : ∀ (bs : List Str) (k : Nat) (t : It), t ∈ stI n k bs → t.2.1 = n ∧ t.2.2 < k + bs.length
  | [], k, t, h => by cases h
  | b :: bs, k, t, h => by
    rcases List.mem_cons.mp h with rfl | h
    · exact ⟨rfl, by simp⟩
    · obtain ⟨h1, h2⟩ := stI_mem n bs (k + 1) t h
      exact ⟨h1, by simp only [List.length_cons]; omega⟩
theorem stI_at (n : Str) : ∀ (bs : List Str) (k : Nat) (b : Str), b ∈ bs → ∃ i, (b, n, i) ∈ stI n k bs ∧ i < k + bs.length
  | [], k, b, h => by cases h
  | c :: bs, k, b, h => by
    rcases List.mem_cons.mp h with rfl | h
    · exact ⟨k, List.mem_cons_self, by simp⟩
    · obtain ⟨i, h1, h2⟩ := stI_at n bs (k + 1) b h
      exact ⟨i, List.mem_cons_of_mem _ h1, by simp only [List.length_cons]; omega⟩
theorem nmS_starts (n : Str) : ∀ (bs : List Str) (k : Nat), (∀ b ∈ bs, b ∈ names5) → nmS n sw1 k (bs.map startD) = stI n k bs
  | [], k, _ => rfl
  | b :: bs, k, h => by
    obtain ⟨_, _, h3, h4⟩ := start_ok (h b List.mem_cons_self)
    simp only [List.map_cons, nmS, stI, h3, h4]
    rw [if_pos (by decide +kernel), nmS_starts n bs (k + 1) fun x hx => h x (List.mem_cons_of_mem _ hx)]
section
variable {tags crowd begun ts : List Str} {t0 : Str} {rows : List Rw} {gs : List (Str × Str)} {rooms : List Rm}
theorem Ho.nd (h : Ho tags crowd begun t0 ts rows gs rooms) : t0 ∉ ts ∧ ts.Nodup := by
  have := h.tg.nd
  rw [h.cons] at this
  exact List.nodup_cons.mp this
theorem Ho.split (h : Ho tags crowd begun t0 ts rows gs rooms) : ∃ r0 rest, rows = r0 :: rest ∧ r0.1 = t0 ∧ First (othersOf tags t0) crowd begun r0.2.2 ∧ ∀ r ∈ rest, r.1 ∈ ts ∧ DrS (othersOf tags r.1) r.2.2 := by
  have hn := h.names
  rw [h.cons] at hn
  cases rows with
  | nil => cases hn
  | cons r0 rest =>
    rw [List.map_cons] at hn
    obtain ⟨e1, e2⟩ := List.cons.inj hn
    refine ⟨r0, rest, rfl, e1, ?_, fun r hr => ?_⟩
    · have := (h.rs r0 List.mem_cons_self).2
      rw [if_pos e1, e1] at this
      exact this
    · have hts : r.1 ∈ ts := by rw [← e2]; exact List.mem_map.mpr ⟨r, hr, rfl⟩
      have := (h.rs r (List.mem_cons_of_mem _ hr)).2
      rw [if_neg (fun e => h.nd.1 (by rw [← e]; exact hts))] at this
      exact ⟨hts, this.1⟩
theorem Ho.refs (h : Ho tags crowd begun t0 ts rows gs rooms) : ∀ r ∈ rows, ∀ d ∈ r.2.2, tw3.contains (wrd d) = true → arg d ∈ tags ∧ arg d ≠ r.1 := by
  have oth : ∀ {x y : Str}, y ∈ othersOf tags x → y ∈ tags ∧ y ≠ x := fun hy => by
    obtain ⟨h1, h2⟩ := List.mem_filter.mp hy
    exact ⟨h1, by simpa using h2⟩
  obtain ⟨r0, rest, rfl, e0, hf, hrest⟩ := h.split
  intro r hr d hd hc
  rcases List.mem_cons.mp hr with rfl | hr
  · obtain ⟨s1, s2, sh, es, hds, hl, hsh⟩ := hf
    rw [es] at hd
    rw [e0]
    rcases List.mem_append.mp hd with hd | hd
    · obtain ⟨y, hy, rfl⟩ := List.mem_map.mp hd
      rw [(start_ok (h.b5 y hy)).2.2.2]
      refine ⟨by rw [h.cons]; exact List.mem_cons_of_mem _ (h.bsub y hy), fun e => h.nd.1 (by rw [← e]; exact h.bsub y hy)⟩
    · rcases List.mem_append.mp hd with hd | hd
      · exact oth ((dr1_names (h.others t0) (hds.1 d (List.mem_append_left _ hd))).2.2 hc)
      · rcases List.mem_append.mp hd with hd | hd
        · exfalso
          have : tw3.contains (wrd d) = false := by
            rcases hsh with ⟨_, rfl⟩ | ⟨_, rfl | rfl⟩
            · cases hd
            · exact (shut_ok (.inl (List.mem_singleton.mp hd))).2.2.2.2.1
            · exact (shut_ok (.inr (List.mem_singleton.mp hd))).2.2.2.2.1
          rw [this] at hc
          cases hc
        · exact oth ((dr1_names (h.others t0) (hds.1 d (List.mem_append_right _ hd))).2.2 hc)
  · obtain ⟨_, hds⟩ := hrest r hr
    exact oth ((dr1_names (h.others r.1) (hds.1 d hd)).2.2 hc)
theorem Ho.starts (h : Ho tags crowd begun t0 ts rows gs rooms) : nm sw1 rows = stI t0 0 begun := by
  obtain ⟨r0, rest, rfl, e0, hf, hrest⟩ := h.split
  have e : nm sw1 (r0 :: rest) = nmS r0.1 sw1 0 r0.2.2 ++ nm sw1 rest := by simp [nm]
  have e2 : nm sw1 rest = [] := by
    unfold nm
    rw [List.flatMap_eq_nil_iff]
    intro r hr
    exact nmS_none _ _ _ _ fun d hd => (dr1_names (h.others r.1) ((hrest r hr).2.1 d hd)).1
  obtain ⟨s1, s2, sh, es, hds, hl, hsh⟩ := hf
  rw [e, e2, List.append_nil, es, nmS_app, e0, nmS_starts t0 begun 0 h.b5, nmS_none, List.append_nil]
  intro d hd
  rcases List.mem_append.mp hd with hd | hd
  · exact (dr1_names (h.others t0) (hds.1 d (List.mem_append_left _ hd))).1
  · rcases List.mem_append.mp hd with hd | hd
    · rcases hsh with ⟨_, rfl⟩ | ⟨_, rfl | rfl⟩
      · cases hd
      · exact (shut_ok (.inl (List.mem_singleton.mp hd))).2.2.2.2.2
      · exact (shut_ok (.inr (List.mem_singleton.mp hd))).2.2.2.2.2
    · exact (dr1_names (h.others t0) (hds.1 d (List.mem_append_right _ hd))).1
theorem Ho.shuts (h : Ho tags crowd begun t0 ts rows gs rooms) : (crowd = [] ∧ nm cw2 rows = []) ∨ (crowd ≠ [] ∧ ∃ k, begun.length ≤ k ∧ nm cw2 rows = [(("g" : Str), t0, k)]) := by
  obtain ⟨r0, rest, rfl, e0, hf, hrest⟩ := h.split
  have e : nm cw2 (r0 :: rest) = nmS r0.1 cw2 0 r0.2.2 ++ nm cw2 rest := by simp [nm]
  have e2 : nm cw2 rest = [] := by
    unfold nm
    rw [List.flatMap_eq_nil_iff]
    intro r hr
    exact nmS_none _ _ _ _ fun d hd => (dr1_names (h.others r.1) ((hrest r hr).2.1 d hd)).2.1
  obtain ⟨s1, s2, sh, es, hds, hl, hsh⟩ := hf
  have n1 : ∀ k, nmS t0 cw2 k s1 = [] := fun k => nmS_none _ _ _ _ fun d hd => (dr1_names (h.others t0) (hds.1 d (List.mem_append_left _ hd))).2.1
  have n2 : ∀ k, nmS t0 cw2 k s2 = [] := fun k => nmS_none _ _ _ _ fun d hd => (dr1_names (h.others t0) (hds.1 d (List.mem_append_right _ hd))).2.1
  have n0 : ∀ k, nmS t0 cw2 k (begun.map startD) = [] := fun k => nmS_none _ _ _ _ fun d hd => by
    obtain ⟨y, hy, rfl⟩ := List.mem_map.mp hd
    rw [(start_ok (h.b5 y hy)).2.2.1]
    decide +kernel
  have ee : nm cw2 (r0 :: rest) = nmS t0 cw2 (0 + (begun.map startD).length + s1.length) sh := by
    rw [e, e2, List.append_nil, es, e0, nmS_app, nmS_app, nmS_app, n0, n1, n2, List.append_nil, List.nil_append, List.nil_append]
  have sx : ∀ {d : D}, (d = shutD "close" ∨ d = shutD "catch") → nmS t0 cw2 (0 + (begun.map startD).length + s1.length) [d] = [(("g" : Str), t0, 0 + (begun.map startD).length + s1.length)] := fun {d} hd => by
    obtain ⟨_, _, h3, h4, _⟩ := shut_ok hd
    simp only [nmS]
    rw [if_pos h3, h4]
  rcases hsh with ⟨c0, rfl⟩ | ⟨c0, rfl | rfl⟩
  · exact .inl ⟨c0, by rw [ee]; rfl⟩
  · exact .inr ⟨c0, 0 + (begun.map startD).length + s1.length, by rw [List.length_map]; omega, by rw [ee, sx (.inl rfl)]⟩
  · exact .inr ⟨c0, 0 + (begun.map startD).length + s1.length, by rw [List.length_map]; omega, by rw [ee, sx (.inr rfl)]⟩
theorem Ho.rowsOk (h : Ho tags crowd begun t0 ts rows gs rooms) : RowsOk rows ∧ (nm sw1 rows).length ≤ 1000 := by
  have hm : ∀ r ∈ rows, r.1 ∈ tags := fun r hr => by rw [← h.names]; exact List.mem_map.mpr ⟨r, hr, rfl⟩
  have lr : rows.length = tags.length := by rw [← h.names, List.length_map]
  refine rowsOk_of (by rw [h.names]; exact h.tg.nd) (fun r hr => okm (h.tg.mem _ (hm r hr))) (fun r hr => ?_) (fun r hr => (h.sc r hr).c) (by have := h.tg.hi; omega) (fun r hr => by have := (h.sc r hr).l; omega) fun r hr d hd hc => okm (h.tg.mem _ (h.refs r hr d hd hc).1)
  rw [(h.rs r hr).1]
  split <;> decide +kernel
theorem Ho.good (h : Ho tags crowd begun t0 ts rows gs rooms) : (nm tw3 rows).any (badI (rows.map (·.1))) = false := by
  rw [List.any_eq_false]
  intro t ht
  obtain ⟨r, hr, d, hd, hc, e1, e2⟩ := nm_mem ht
  obtain ⟨h1, h2⟩ := h.refs r hr d hd hc
  unfold badI
  rw [h.names, e1, e2, List.contains_iff_mem.mpr h1, beq_eq_false_iff_ne.mpr h2]
  simp
end

end K02

namespace K02
open PySem PySem.Spec PyProof.Rows L2 Tw
/-! ### tupled -/
mutual
def tpD : D → D
  | .tup xs => .tpn (tpDs xs)
  | .tpn xs => .tpn (tpDs xs)
  | .lst xs => .tpn (tpDs xs)
  | d => d
def tpDs : List D → List D
  | [] => []
  | x :: xs => tpD x :: tpDs xs
end
/-- texts and numbers in lists and tuples that are n deep at most -/
def okT : Nat → D → Bool
  | _, .str _ => true
  | _, .int _ => true
  | n + 1, .tup xs => decide (xs.length ≤ mx) && xs.all (okT n)
  | n + 1, .lst xs => decide (xs.length ≤ mx) && xs.all (okT n)
  | _, _ => false
theorem tpDs_map : ∀ xs : List D, tpDs xs = xs.map tpD
  | [] => rfl
  | x :: xs => by simp only [tpDs, List.map_cons, tpDs_map xs]
theorem noRs_of {xs : List D} (h : ∀ x ∈ xs, noR x = true) : noRs xs = true := by
  induction xs with
  | nil => rfl
  | cons x xs ih =>
    simp only [noRs, Bool.and_eq_true]
    exact ⟨h x List.mem_cons_self, ih fun y hy => h y (List.mem_cons_of_mem _ hy)⟩
theorem okT_noR (n : Nat) : ∀ d : D, okT n d = true → noR d = true ∧ noR (tpD d) = true := by
  induction n with
  | zero =>
    intro d h
    cases d <;> first | exact ⟨rfl, rfl⟩ | (simp [okT] at h)
  | succ n ih =>
    intro d h
    have all : ∀ xs : List D, (decide (xs.length ≤ mx) && xs.all (okT n)) = true → noRs xs = true ∧ noRs (tpDs xs) = true := fun xs h1 => by
      have h2 := List.all_eq_true.mp (Bool.and_eq_true_iff.mp h1).2
      refine ⟨noRs_of fun x hx => (ih x (h2 x hx)).1, ?_⟩
      rw [tpDs_map]
      exact noRs_of fun x hx => by
        obtain ⟨y, hy, rfl⟩ := List.mem_map.mp hx
        exact (ih y (h2 y hy)).2
    cases d with
    | str z => exact ⟨rfl, rfl⟩
    | int i => exact ⟨rfl, rfl⟩
    | tup xs =>
      obtain ⟨a, b⟩ := all xs h
      exact ⟨a, by simp only [tpD, noR]; exact b⟩
    | lst xs =>
      obtain ⟨a, b⟩ := all xs h
      exact ⟨a, by simp only [tpD, noR]; exact b⟩
    | _ => simp [okT] at h
theorem w_itQ {a : En → M D} {ρ : En} {G : List O} {Ql : List D → List O → Prop} (h : WP (a ρ) G fun d G1 => ∃ ds, itQ d = some ds ∧ Ql ds G1) : WP (dItQ a ρ) G Ql := WP.bnd (h.imp fun d G1 ⟨ds, e, q⟩ => WP.pur e q)
theorem tupled_seq {n : Nat} {R : List D → M D} {d : D} {xs : List D} (it : itQ d = some xs) (is : isiTF [d, .tup [.ty "list", .ty "tuple"]] = fun G => some (.bl true, G)) (z : xs.length ≤ mx)
    (h : ∀ x ∈ xs, noR x = true ∧ Ans R [x] (tpD x) ∧ noR (tpD x) = true) : WP (ds_tupled R (start0 N_tupled.length [d])) [] fun o _ => o = .rt (.tpn (tpDs xs)) := by
  unfold ds_tupled
  refine w_seq (w_ifS (w_test (w_call (w_cons (w_v rfl (w_cons (w_tup (w_cons (w_c (w_cons (w_c (w_nil ?_)))))))))))) 
  refine ⟨by decide, w_nil ⟨.bl true, [], by rw [is], true, rfl, fun _ => ?_, fun c => by cases c⟩⟩
  refine w_ret (w_call (w_cons (w_lc (fun es ys G1 => G1 = [] ∧ ∃ ps, xs = ps ++ es ∧ ys = ps.map tpD) ?_ ?_ ?_)))
  · exact w_itQ (w_v rfl ⟨xs, it, rfl, [], rfl, rfl⟩)
  · rintro e r ys G ⟨rfl, ps, ex, ey⟩
    obtain ⟨n1, an, n2⟩ := h e (by rw [ex]; simp)
    refine ⟨_, [], rfl, w_yes ⟨fun _ => ?_, fun c => by cases c⟩⟩
    refine w_ans (w_cons (w_v rfl (w_nil ⟨by simp [noRs, n1], tpD e, an, n2, rfl, ps ++ [e], by rw [ex]; simp, by rw [ey]; simp⟩)))
  · rintro ys G ⟨rfl, ps, ex, ey⟩
    rw [List.append_nil] at ex
    subst ex
    refine ⟨by rw [ey, List.length_map]; exact z, w_nil ⟨.tpn ys, [], rfl, ?_⟩⟩
    rw [ey, ← tpDs_map]
    exact rfl
theorem tupled_ok (n : Nat) : ∀ d : D, okT n d = true → Ans (F_tupled (n + 1)) [d] (tpD d) := by
  induction n with
  | zero =>
    intro d h
    cases d with
    | str z => exact w_run ⟨.rt (.str z), [], rfl, .str z, rfl, by simp only [tpD]⟩
    | int i => exact w_run ⟨.rt (.int i), [], rfl, .int i, rfl, by simp only [tpD]⟩
    | _ => simp [okT] at h
  | succ n ih =>
    intro d h
    have one : ∀ xs : List D, (decide (xs.length ≤ mx) && xs.all (okT n)) = true → xs.length ≤ mx ∧ ∀ x ∈ xs, noR x = true ∧ Ans (F_tupled (n + 1)) [x] (tpD x) ∧ noR (tpD x) = true := fun xs h1 => by
      obtain ⟨h2, h3⟩ := Bool.and_eq_true_iff.mp h1
      refine ⟨of_decide_eq_true h2, fun x hx => ?_⟩
      have h4 := List.all_eq_true.mp h3 x hx
      obtain ⟨a, b⟩ := okT_noR n x h4
      exact ⟨a, ih x h4, b⟩
    cases d with
    | str z => exact w_run ⟨.rt (.str z), [], rfl, .str z, rfl, by simp only [tpD]⟩
    | int i => exact w_run ⟨.rt (.int i), [], rfl, .int i, rfl, by simp only [tpD]⟩
    | tup xs =>
      obtain ⟨a, b⟩ := one xs h
      exact w_run ((tupled_seq (n := n) rfl rfl a b).imp fun o G1 e => ⟨_, e, by simp only [tpD]⟩)
    | lst xs =>
      obtain ⟨a, b⟩ := one xs h
      exact w_run ((tupled_seq (n := n) rfl rfl a b).imp fun o G1 e => ⟨_, e, by simp only [tpD]⟩)
    | _ => simp [okT] at h

/-! ### trees of texts, numbers and tuples -/
def okU : Nat → D → Bool
  | _, .str z => PyData.strOk z
  | _, .int _ => true
  | n + 1, .tup xs => decide (xs.length ≤ 1000) && xs.all (okU n)
  | _, _ => false
theorem okU_tup {n : Nat} {xs : List D} : okU (n + 1) (.tup xs) = true ↔ xs.length ≤ 1000 ∧ ∀ x ∈ xs, okU n x = true := by
  show (decide (xs.length ≤ 1000) && xs.all (okU n)) = true ↔ _
  rw [Bool.and_eq_true, decide_eq_true_eq, List.all_eq_true]
theorem okU_T (n : Nat) : ∀ d : D, okU n d = true → okT n d = true := by
  have mz : (1000 : Nat) ≤ mx := by decide
  induction n with
  | zero =>
    intro d h
    cases d <;> first | rfl | (simp [okU] at h)
  | succ n ih =>
    intro d h
    cases d with
    | str z => rfl
    | int i => rfl
    | tup xs =>
      obtain ⟨a, b⟩ := okU_tup.mp h
      show (decide (xs.length ≤ mx) && xs.all (okT n)) = true
      rw [decide_eq_true (Nat.le_trans a mz), List.all_eq_true.mpr fun x hx => ih x (b x hx)]
      rfl
    | _ => simp [okU] at h
theorem okU_up (n : Nat) : ∀ d : D, okU n d = true → okU (n + 1) d = true := by
  induction n with
  | zero =>
    intro d h
    cases d <;> first | exact h | (simp [okU] at h)
  | succ n ih =>
    intro d h
    cases d with
    | str z => exact h
    | int i => rfl
    | tup xs =>
      obtain ⟨a, b⟩ := okU_tup.mp h
      exact okU_tup.mpr ⟨a, fun x hx => ih x (b x hx)⟩
    | _ => simp [okU] at h
theorem okU_nr {n : Nat} {d : D} (h : okU n d = true) : noR d = true := (okT_noR n d (okU_T n d h)).1
theorem okU_tp {n : Nat} {d : D} (h : okU n d = true) : noR (tpD d) = true := (okT_noR n d (okU_T n d h)).2
theorem wkAs_map : ∀ xs : List D, wkAs xs = xs.map wkA
  | [] => rfl
  | x :: xs => by simp only [wkAs, List.map_cons, wkAs_map xs]
theorem okU_wk (n : Nat) : ∀ d : D, okU n d = true → wkA d = d ∧ wkA (tpD d) = d := by
  induction n with
  | zero =>
    intro d h
    cases d with
    | str z => exact ⟨by simp only [wkA], by simp only [tpD, wkA]⟩
    | int i => exact ⟨by simp only [wkA], by simp only [tpD, wkA]⟩
    | _ => simp [okU] at h
  | succ n ih =>
    intro d h
    cases d with
    | str z => exact ⟨by simp only [wkA], by simp only [tpD, wkA]⟩
    | int i => exact ⟨by simp only [wkA], by simp only [tpD, wkA]⟩
    | tup xs =>
      obtain ⟨a, b⟩ := okU_tup.mp h
      refine ⟨?_, ?_⟩
      · simp only [wkA, wkAs_map]
        rw [List.map_congr_left (g := id) fun x hx => (ih x (b x hx)).1, List.map_id]
      · simp only [tpD, wkA, wkAs_map, tpDs_map, List.map_map]
        rw [List.map_congr_left (f := wkA ∘ tpD) (g := id) fun x hx => (ih x (b x hx)).2, List.map_id]
    | _ => simp [okU] at h
theorem zipD_self : ∀ xs : List D, zipD xs xs = xs.map fun x => .tup [x, x]
  | [] => rfl
  | x :: xs => by
    show D.tup [x, x] :: zipD xs xs = _
    rw [zipD_self xs]
    rfl
/-- a row of things, each the same as itself -/
theorem same_seq {R : List D → M D} {d : D} {xs : List D} (hd : d = .tup xs ∨ d = .lst xs) (hz : xs.length ≤ 1000) (h : ∀ x ∈ xs, noR x = true ∧ Ans R [x, x] (.bl true)) : Ans (runD N_l_same.length (ds_l_same R)) [d, d] (.bl true) := by
  have mz : (1000 : Nat) ≤ mx := by decide
  refine w_run ?_
  unfold ds_l_same
  refine w_seq (w_ifS ?_)
  rcases hd with rfl | rfl
  · (repeat (first | (with_reducible first | refine w_v rfl ?_ | refine w_c ?_ | refine w_d2 ?_ | refine w_cons ?_ | refine w_nil ?_ | refine w_call ?_ | refine w_tup ?_ | refine w_tpn ?_ | refine w_lst ?_ | refine w_lstM ?_ | refine w_wk ?_ | refine w_frz ?_ | refine w_meth ?_ | refine w_test ?_ | refine w_notT ?_ | refine w_andT ?_ | refine w_orT ?_ | refine w_yes ?_ | refine w_and ?_ | refine w_or ?_ | refine w_not ?_ | refine w_if ?_ | refine w_ifS ?_ | refine w_seq ?_ | refine w_next ?_ | refine w_cnt ?_ | refine w_ret ?_ | refine w_expr ?_ | refine w_asg ?_ | refine w_par ?_ | refine w_F ?_ | refine w_Fp ?_ | refine w_itL ?_ | refine w_itT ?_ | refine w_itK ?_ | refine w_rng ?_ | refine w_neg ?_ | refine w_dput ?_ | refine w_newD ?_) | with_reducible refine w_then ?_ | refine ⟨_, _, rfl, ?_⟩ | refine ⟨_, rfl, ?_⟩ | refine ⟨by decide, ?_⟩ | refine ⟨_, _, eqS (by decide +kernel) (by decide +kernel), ?_⟩ | refine ⟨(by simp only [List.length_cons, List.length_nil]; decide), ?_⟩ | refine ⟨fun c => absurd c (by decide +kernel), fun _ => ?_⟩ | refine ⟨fun _ => ?_, fun c => absurd c (by decide +kernel)⟩))
    refine ⟨fun _ => w_allA xs (fun x => .tup [x, x]) (fun _ => true) ?_ (by omega) (fun x hx => ⟨_, rfl, ?_⟩) ?_, fun c => absurd c (by simp [PyData.eqv])⟩
    · refine w_rng ?_
      (repeat (first | (with_reducible first | refine w_v rfl ?_ | refine w_c ?_ | refine w_d2 ?_ | refine w_cons ?_ | refine w_nil ?_ | refine w_call ?_ | refine w_tup ?_ | refine w_tpn ?_ | refine w_lst ?_ | refine w_lstM ?_ | refine w_wk ?_ | refine w_frz ?_ | refine w_meth ?_ | refine w_test ?_ | refine w_notT ?_ | refine w_andT ?_ | refine w_orT ?_ | refine w_yes ?_ | refine w_and ?_ | refine w_or ?_ | refine w_not ?_ | refine w_if ?_ | refine w_ifS ?_ | refine w_seq ?_ | refine w_next ?_ | refine w_cnt ?_ | refine w_ret ?_ | refine w_expr ?_ | refine w_asg ?_ | refine w_par ?_ | refine w_F ?_ | refine w_Fp ?_ | refine w_itL ?_ | refine w_itT ?_ | refine w_itK ?_ | refine w_rng ?_ | refine w_neg ?_ | refine w_dput ?_ | refine w_newD ?_) | with_reducible refine w_then ?_ | refine ⟨_, _, rfl, ?_⟩ | refine ⟨_, rfl, ?_⟩ | refine ⟨by decide, ?_⟩ | refine ⟨_, _, eqS (by decide +kernel) (by decide +kernel), ?_⟩ | refine ⟨(by simp only [List.length_cons, List.length_nil]; decide), ?_⟩ | refine ⟨fun c => absurd c (by decide +kernel), fun _ => ?_⟩ | refine ⟨fun _ => ?_, fun c => absurd c (by decide +kernel)⟩))
      refine ⟨xs.map fun x => .tup [x, x], ?_, rfl, rfl⟩
      show (if xs.length = xs.length then some (zipD xs xs) else none) = _
      rw [if_pos rfl, zipD_self]
    · refine w_ans ?_
      (repeat (first | (with_reducible first | refine w_v rfl ?_ | refine w_c ?_ | refine w_d2 ?_ | refine w_cons ?_ | refine w_nil ?_ | refine w_call ?_ | refine w_tup ?_ | refine w_tpn ?_ | refine w_lst ?_ | refine w_lstM ?_ | refine w_wk ?_ | refine w_frz ?_ | refine w_meth ?_ | refine w_test ?_ | refine w_notT ?_ | refine w_andT ?_ | refine w_orT ?_ | refine w_yes ?_ | refine w_and ?_ | refine w_or ?_ | refine w_not ?_ | refine w_if ?_ | refine w_ifS ?_ | refine w_seq ?_ | refine w_next ?_ | refine w_cnt ?_ | refine w_ret ?_ | refine w_expr ?_ | refine w_asg ?_ | refine w_par ?_ | refine w_F ?_ | refine w_Fp ?_ | refine w_itL ?_ | refine w_itT ?_ | refine w_itK ?_ | refine w_rng ?_ | refine w_neg ?_ | refine w_dput ?_ | refine w_newD ?_) | with_reducible refine w_then ?_ | refine ⟨_, _, rfl, ?_⟩ | refine ⟨_, rfl, ?_⟩ | refine ⟨by decide, ?_⟩ | refine ⟨_, _, eqS (by decide +kernel) (by decide +kernel), ?_⟩ | refine ⟨(by simp only [List.length_cons, List.length_nil]; decide), ?_⟩ | refine ⟨fun c => absurd c (by decide +kernel), fun _ => ?_⟩ | refine ⟨fun _ => ?_, fun c => absurd c (by decide +kernel)⟩))
      obtain ⟨n, a⟩ := h x hx
      exact ⟨by simp [noRs, n], _, a, rfl, rfl, rfl⟩
    · exact ⟨_, rfl, by simp⟩
  · (repeat (first | (with_reducible first | refine w_v rfl ?_ | refine w_c ?_ | refine w_d2 ?_ | refine w_cons ?_ | refine w_nil ?_ | refine w_call ?_ | refine w_tup ?_ | refine w_tpn ?_ | refine w_lst ?_ | refine w_lstM ?_ | refine w_wk ?_ | refine w_frz ?_ | refine w_meth ?_ | refine w_test ?_ | refine w_notT ?_ | refine w_andT ?_ | refine w_orT ?_ | refine w_yes ?_ | refine w_and ?_ | refine w_or ?_ | refine w_not ?_ | refine w_if ?_ | refine w_ifS ?_ | refine w_seq ?_ | refine w_next ?_ | refine w_cnt ?_ | refine w_ret ?_ | refine w_expr ?_ | refine w_asg ?_ | refine w_par ?_ | refine w_F ?_ | refine w_Fp ?_ | refine w_itL ?_ | refine w_itT ?_ | refine w_itK ?_ | refine w_rng ?_ | refine w_neg ?_ | refine w_dput ?_ | refine w_newD ?_) | with_reducible refine w_then ?_ | refine ⟨_, _, rfl, ?_⟩ | refine ⟨_, rfl, ?_⟩ | refine ⟨by decide, ?_⟩ | refine ⟨_, _, eqS (by decide +kernel) (by decide +kernel), ?_⟩ | refine ⟨(by simp only [List.length_cons, List.length_nil]; decide), ?_⟩ | refine ⟨fun c => absurd c (by decide +kernel), fun _ => ?_⟩ | refine ⟨fun _ => ?_, fun c => absurd c (by decide +kernel)⟩))
    refine ⟨fun _ => w_allA xs (fun x => .tup [x, x]) (fun _ => true) ?_ (by omega) (fun x hx => ⟨_, rfl, ?_⟩) ?_, fun c => absurd c (by simp [PyData.eqv])⟩
    · refine w_rng ?_
      (repeat (first | (with_reducible first | refine w_v rfl ?_ | refine w_c ?_ | refine w_d2 ?_ | refine w_cons ?_ | refine w_nil ?_ | refine w_call ?_ | refine w_tup ?_ | refine w_tpn ?_ | refine w_lst ?_ | refine w_lstM ?_ | refine w_wk ?_ | refine w_frz ?_ | refine w_meth ?_ | refine w_test ?_ | refine w_notT ?_ | refine w_andT ?_ | refine w_orT ?_ | refine w_yes ?_ | refine w_and ?_ | refine w_or ?_ | refine w_not ?_ | refine w_if ?_ | refine w_ifS ?_ | refine w_seq ?_ | refine w_next ?_ | refine w_cnt ?_ | refine w_ret ?_ | refine w_expr ?_ | refine w_asg ?_ | refine w_par ?_ | refine w_F ?_ | refine w_Fp ?_ | refine w_itL ?_ | refine w_itT ?_ | refine w_itK ?_ | refine w_rng ?_ | refine w_neg ?_ | refine w_dput ?_ | refine w_newD ?_) | with_reducible refine w_then ?_ | refine ⟨_, _, rfl, ?_⟩ | refine ⟨_, rfl, ?_⟩ | refine ⟨by decide, ?_⟩ | refine ⟨_, _, eqS (by decide +kernel) (by decide +kernel), ?_⟩ | refine ⟨(by simp only [List.length_cons, List.length_nil]; decide), ?_⟩ | refine ⟨fun c => absurd c (by decide +kernel), fun _ => ?_⟩ | refine ⟨fun _ => ?_, fun c => absurd c (by decide +kernel)⟩))
      exact ⟨zipD_self xs, rfl⟩
    · refine w_ans ?_
      (repeat (first | (with_reducible first | refine w_v rfl ?_ | refine w_c ?_ | refine w_d2 ?_ | refine w_cons ?_ | refine w_nil ?_ | refine w_call ?_ | refine w_tup ?_ | refine w_tpn ?_ | refine w_lst ?_ | refine w_lstM ?_ | refine w_wk ?_ | refine w_frz ?_ | refine w_meth ?_ | refine w_test ?_ | refine w_notT ?_ | refine w_andT ?_ | refine w_orT ?_ | refine w_yes ?_ | refine w_and ?_ | refine w_or ?_ | refine w_not ?_ | refine w_if ?_ | refine w_ifS ?_ | refine w_seq ?_ | refine w_next ?_ | refine w_cnt ?_ | refine w_ret ?_ | refine w_expr ?_ | refine w_asg ?_ | refine w_par ?_ | refine w_F ?_ | refine w_Fp ?_ | refine w_itL ?_ | refine w_itT ?_ | refine w_itK ?_ | refine w_rng ?_ | refine w_neg ?_ | refine w_dput ?_ | refine w_newD ?_) | with_reducible refine w_then ?_ | refine ⟨_, _, rfl, ?_⟩ | refine ⟨_, rfl, ?_⟩ | refine ⟨by decide, ?_⟩ | refine ⟨_, _, eqS (by decide +kernel) (by decide +kernel), ?_⟩ | refine ⟨(by simp only [List.length_cons, List.length_nil]; decide), ?_⟩ | refine ⟨fun c => absurd c (by decide +kernel), fun _ => ?_⟩ | refine ⟨fun _ => ?_, fun c => absurd c (by decide +kernel)⟩))
      obtain ⟨n, a⟩ := h x hx
      exact ⟨by simp [noRs, n], _, a, rfl, rfl, rfl⟩
    · exact ⟨_, rfl, by simp⟩
theorem same_str {z : Str} (h : PyData.strOk z = true) (R : List D → M D) : Ans (runD N_l_same.length (ds_l_same R)) [.str z, .str z] (.bl true) := by
  refine w_run ?_
  unfold ds_l_same
  (repeat (first | (with_reducible first | refine w_v rfl ?_ | refine w_c ?_ | refine w_d2 ?_ | refine w_cons ?_ | refine w_nil ?_ | refine w_call ?_ | refine w_tup ?_ | refine w_tpn ?_ | refine w_lst ?_ | refine w_lstM ?_ | refine w_wk ?_ | refine w_frz ?_ | refine w_meth ?_ | refine w_test ?_ | refine w_notT ?_ | refine w_andT ?_ | refine w_orT ?_ | refine w_yes ?_ | refine w_and ?_ | refine w_or ?_ | refine w_not ?_ | refine w_if ?_ | refine w_ifS ?_ | refine w_seq ?_ | refine w_next ?_ | refine w_cnt ?_ | refine w_ret ?_ | refine w_expr ?_ | refine w_asg ?_ | refine w_par ?_ | refine w_F ?_ | refine w_Fp ?_ | refine w_itL ?_ | refine w_itT ?_ | refine w_itK ?_ | refine w_rng ?_ | refine w_neg ?_ | refine w_dput ?_ | refine w_newD ?_) | with_reducible refine w_then ?_ | refine ⟨_, _, rfl, ?_⟩ | refine ⟨_, rfl, ?_⟩ | refine ⟨by decide, ?_⟩ | refine ⟨_, _, eqS (by decide +kernel) (by decide +kernel), ?_⟩ | refine ⟨(by simp only [List.length_cons, List.length_nil]; decide), ?_⟩ | refine ⟨fun c => absurd c (by decide +kernel), fun _ => ?_⟩ | refine ⟨fun _ => ?_, fun c => absurd c (by decide +kernel)⟩))
  refine ⟨fun c => (by cases c), fun _ => ?_⟩
  (repeat (first | (with_reducible first | refine w_v rfl ?_ | refine w_c ?_ | refine w_d2 ?_ | refine w_cons ?_ | refine w_nil ?_ | refine w_call ?_ | refine w_tup ?_ | refine w_tpn ?_ | refine w_lst ?_ | refine w_lstM ?_ | refine w_wk ?_ | refine w_frz ?_ | refine w_meth ?_ | refine w_test ?_ | refine w_notT ?_ | refine w_andT ?_ | refine w_orT ?_ | refine w_yes ?_ | refine w_and ?_ | refine w_or ?_ | refine w_not ?_ | refine w_if ?_ | refine w_ifS ?_ | refine w_seq ?_ | refine w_next ?_ | refine w_cnt ?_ | refine w_ret ?_ | refine w_expr ?_ | refine w_asg ?_ | refine w_par ?_ | refine w_F ?_ | refine w_Fp ?_ | refine w_itL ?_ | refine w_itT ?_ | refine w_itK ?_ | refine w_rng ?_ | refine w_neg ?_ | refine w_dput ?_ | refine w_newD ?_) | with_reducible refine w_then ?_ | refine ⟨_, _, rfl, ?_⟩ | refine ⟨_, rfl, ?_⟩ | refine ⟨by decide, ?_⟩ | refine ⟨_, _, eqS (by decide +kernel) (by decide +kernel), ?_⟩ | refine ⟨(by simp only [List.length_cons, List.length_nil]; decide), ?_⟩ | refine ⟨fun c => absurd c (by decide +kernel), fun _ => ?_⟩ | refine ⟨fun _ => ?_, fun c => absurd c (by decide +kernel)⟩))
  refine ⟨_, _, eqS h h, _, rfl, fun _ => ?_, fun c => (by simp at c)⟩
  (repeat (first | (with_reducible first | refine w_v rfl ?_ | refine w_c ?_ | refine w_d2 ?_ | refine w_cons ?_ | refine w_nil ?_ | refine w_call ?_ | refine w_tup ?_ | refine w_tpn ?_ | refine w_lst ?_ | refine w_lstM ?_ | refine w_wk ?_ | refine w_frz ?_ | refine w_meth ?_ | refine w_test ?_ | refine w_notT ?_ | refine w_andT ?_ | refine w_orT ?_ | refine w_yes ?_ | refine w_and ?_ | refine w_or ?_ | refine w_not ?_ | refine w_if ?_ | refine w_ifS ?_ | refine w_seq ?_ | refine w_next ?_ | refine w_cnt ?_ | refine w_ret ?_ | refine w_expr ?_ | refine w_asg ?_ | refine w_par ?_ | refine w_F ?_ | refine w_Fp ?_ | refine w_itL ?_ | refine w_itT ?_ | refine w_itK ?_ | refine w_rng ?_ | refine w_neg ?_ | refine w_dput ?_ | refine w_newD ?_) | with_reducible refine w_then ?_ | refine ⟨_, _, rfl, ?_⟩ | refine ⟨_, rfl, ?_⟩ | refine ⟨by decide, ?_⟩ | refine ⟨_, _, eqS (by decide +kernel) (by decide +kernel), ?_⟩ | refine ⟨(by simp only [List.length_cons, List.length_nil]; decide), ?_⟩ | refine ⟨fun c => absurd c (by decide +kernel), fun _ => ?_⟩ | refine ⟨fun _ => ?_, fun c => absurd c (by decide +kernel)⟩))
  show D.bl (PyData.eqv (.bool false) (.bool false)) = .bl true
  simp [PyData.eqv]
theorem same_int (i : Int) (R : List D → M D) : Ans (runD N_l_same.length (ds_l_same R)) [.int i, .int i] (.bl true) := by
  refine w_run ?_
  unfold ds_l_same
  (repeat (first | (with_reducible first | refine w_v rfl ?_ | refine w_c ?_ | refine w_d2 ?_ | refine w_cons ?_ | refine w_nil ?_ | refine w_call ?_ | refine w_tup ?_ | refine w_tpn ?_ | refine w_lst ?_ | refine w_lstM ?_ | refine w_wk ?_ | refine w_frz ?_ | refine w_meth ?_ | refine w_test ?_ | refine w_notT ?_ | refine w_andT ?_ | refine w_orT ?_ | refine w_yes ?_ | refine w_and ?_ | refine w_or ?_ | refine w_not ?_ | refine w_if ?_ | refine w_ifS ?_ | refine w_seq ?_ | refine w_next ?_ | refine w_cnt ?_ | refine w_ret ?_ | refine w_expr ?_ | refine w_asg ?_ | refine w_par ?_ | refine w_F ?_ | refine w_Fp ?_ | refine w_itL ?_ | refine w_itT ?_ | refine w_itK ?_ | refine w_rng ?_ | refine w_neg ?_ | refine w_dput ?_ | refine w_newD ?_) | with_reducible refine w_then ?_ | refine ⟨_, _, rfl, ?_⟩ | refine ⟨_, rfl, ?_⟩ | refine ⟨by decide, ?_⟩ | refine ⟨_, _, eqS (by decide +kernel) (by decide +kernel), ?_⟩ | refine ⟨(by simp only [List.length_cons, List.length_nil]; decide), ?_⟩ | refine ⟨fun c => absurd c (by decide +kernel), fun _ => ?_⟩ | refine ⟨fun _ => ?_, fun c => absurd c (by decide +kernel)⟩))
  refine ⟨fun c => (by cases c), fun _ => ?_⟩
  (repeat (first | (with_reducible first | refine w_v rfl ?_ | refine w_c ?_ | refine w_d2 ?_ | refine w_cons ?_ | refine w_nil ?_ | refine w_call ?_ | refine w_tup ?_ | refine w_tpn ?_ | refine w_lst ?_ | refine w_lstM ?_ | refine w_wk ?_ | refine w_frz ?_ | refine w_meth ?_ | refine w_test ?_ | refine w_notT ?_ | refine w_andT ?_ | refine w_orT ?_ | refine w_yes ?_ | refine w_and ?_ | refine w_or ?_ | refine w_not ?_ | refine w_if ?_ | refine w_ifS ?_ | refine w_seq ?_ | refine w_next ?_ | refine w_cnt ?_ | refine w_ret ?_ | refine w_expr ?_ | refine w_asg ?_ | refine w_par ?_ | refine w_F ?_ | refine w_Fp ?_ | refine w_itL ?_ | refine w_itT ?_ | refine w_itK ?_ | refine w_rng ?_ | refine w_neg ?_ | refine w_dput ?_ | refine w_newD ?_) | with_reducible refine w_then ?_ | refine ⟨_, _, rfl, ?_⟩ | refine ⟨_, rfl, ?_⟩ | refine ⟨by decide, ?_⟩ | refine ⟨_, _, eqS (by decide +kernel) (by decide +kernel), ?_⟩ | refine ⟨(by simp only [List.length_cons, List.length_nil]; decide), ?_⟩ | refine ⟨fun c => absurd c (by decide +kernel), fun _ => ?_⟩ | refine ⟨fun _ => ?_, fun c => absurd c (by decide +kernel)⟩))
  simp [PyData.eqv]
theorem same_u (n : Nat) : ∀ d : D, okU n d = true → Ans (F_l_same (n + 1)) [d, d] (.bl true) := by
  induction n with
  | zero =>
    intro d h
    cases d with
    | str z => exact same_str h _
    | int i => exact same_int i _
    | _ => simp [okU] at h
  | succ n ih =>
    intro d h
    cases d with
    | str z => exact same_str h _
    | int i => exact same_int i _
    | tup xs =>
      obtain ⟨a, b⟩ := okU_tup.mp h
      exact same_seq (.inl rfl) a fun x hx => ⟨okU_nr (b x hx), ih x (b x hx)⟩
    | _ => simp [okU] at h
/-! ### calls that may let errors out, and do not -/
theorem w_ansX {F : List D → M D} {ea : En → M (List D)} {ρ : En} {G : List O} {Q : D → List O → Prop} (h : WP (ea ρ) G fun ds G1 => noRs ds = true ∧ ∃ v, Ans F ds v ∧ noR v = true ∧ Q v G1) : WP (dFpX F ea ρ) G Q := by
  refine WP.bnd (h.imp fun ds G1 h1 => ?_)
  obtain ⟨n, v, ⟨d, G2, e, rfl⟩, n2, q⟩ := h1
  refine ⟨d, G1, ?_, q⟩
  unfold pureX
  rw [if_pos n, e]
  dsimp only
  rw [if_pos n2]
theorem w_wkA {a : En → M D} {ρ : En} {G : List O} {Q : D → List O → Prop} (h : WP (a ρ) G fun d G1 => Q (wkA d) G1) : WP (dWkA a ρ) G Q := WP.bnd (h.imp fun d G1 q => WP.ret q)
theorem w_wkH {a : En → M D} {ρ : En} {G : List O} {Q : D → List O → Prop} (h : WP (a ρ) G fun d G1 => Q (wkH d) G1) : WP (dWkH a ρ) G Q := WP.bnd (h.imp fun d G1 q => WP.ret q)
theorem w_chain {f f' : D → D → P1 D} {a b c : En → M D} {ρ : En} {G : List O} {Q : D → List O → Prop} (h : WP (a ρ) G fun x G1 => WP (b ρ) G1 fun y G2 => ∃ z k, f x y G2 = some (z, G2) ∧ blO z = some k ∧ (k = true → WP (c ρ) G2 fun w G3 => ∃ d G4, f' y w G3 = some (d, G4) ∧ Q d G4) ∧ (k = false → Q (.bl false) G2)) : WP (dChain f f' a b c ρ) G Q :=
  WP.bnd (h.imp fun x G1 h1 => WP.bnd (h1.imp fun y G2 ⟨z, k, e1, e2, h2, h3⟩ => WP.bnd (WP.lft e1 (WP.bnd (WP.pur e2 (by
    cases k with
    | true => exact WP.bnd ((h2 rfl).imp fun w G3 ⟨d, G4, e, q⟩ => WP.lft e q)
    | false => exact WP.ret (h3 rfl)))))))
theorem w_starA {a : En → M D} {r : En → M (List D)} {ρ : En} {G : List O} {Q : List D → List O → Prop} (h : WP (a ρ) G fun d G1 => ∃ xs, inQ d G1 = some xs ∧ WP (r ρ) G1 fun ds G2 => Q (xs ++ ds) G2) : WP (dStarA a r ρ) G Q :=
  WP.bnd (h.imp fun d G1 ⟨xs, e, h1⟩ => WP.bnd (WP.lft (a := xs) (G1 := G1) (by rw [e]; rfl) (WP.bnd (h1.imp fun ds G2 q => WP.ret q))))

theorem Pl_u : Pl.all (okU 2) = true := by kernel_rfl
theorem io_u : [inD1, outD1].all (okU 2) = true := by kernel_rfl
theorem Jn_u : names5.all (fun x => (Jn x).all (okU 2)) = true := by kernel_rfl
theorem St_u : names5.all (fun x => okU 2 (startD x)) = true := by kernel_rfl
theorem Sh_u : [shutD "close", shutD "catch"].all (okU 2) = true := by kernel_rfl
theorem dr1_u {others : List Str} (hn : ∀ x ∈ others, x ∈ names5) {d : D} (h : Dr1 others d) : okU 2 d = true := by
  rcases h with h | rfl | rfl | ⟨x, hx, h⟩
  · exact List.all_eq_true.mp Pl_u d h
  · exact List.all_eq_true.mp io_u _ (by simp)
  · exact List.all_eq_true.mp io_u _ (by simp)
  · exact List.all_eq_true.mp (List.all_eq_true.mp Jn_u x (hn x hx)) d h
section
variable {tags crowd begun ts : List Str} {t0 : Str} {rows : List Rw} {gs : List (Str × Str)} {rooms : List Rm}
theorem Ho.us (h : Ho tags crowd begun t0 ts rows gs rooms) : ∀ r ∈ rows, ∀ d ∈ r.2.2, okU 2 d = true := by
  obtain ⟨r0, rest, rfl, e0, hf, hrest⟩ := h.split
  intro r hr d hd
  rcases List.mem_cons.mp hr with rfl | hr
  · obtain ⟨s1, s2, sh, es, hds, hl, hsh⟩ := hf
    rw [es] at hd
    rcases List.mem_append.mp hd with hd | hd
    · obtain ⟨y, hy, rfl⟩ := List.mem_map.mp hd
      exact List.all_eq_true.mp St_u y (h.b5 y hy)
    · rcases List.mem_append.mp hd with hd | hd
      · exact dr1_u (h.others t0) (hds.1 d (List.mem_append_left _ hd))
      · rcases List.mem_append.mp hd with hd | hd
        · rcases hsh with ⟨_, rfl⟩ | ⟨_, rfl | rfl⟩
          · cases hd
          · rw [List.mem_singleton.mp hd]; exact List.all_eq_true.mp Sh_u _ (by simp)
          · rw [List.mem_singleton.mp hd]; exact List.all_eq_true.mp Sh_u _ (by simp)
        · exact dr1_u (h.others t0) (hds.1 d (List.mem_append_right _ hd))
  · exact dr1_u (h.others r.1) ((hrest r hr).2.1 d hd)
end

end K02

namespace K02
open PySem PySem.Spec PyProof.Rows L2 Tw
/-! ### the program's defs on such houses -/
structure Rs (rows : List Rw) : Prop where
  n : ∀ r ∈ rows, PyData.strOk r.1 = true
  g : ∀ r ∈ rows, PyData.strOk r.2.1 = true
  u : ∀ r ∈ rows, ∀ d ∈ r.2.2, okU 2 d = true
  l : ∀ r ∈ rows, r.2.2.length ≤ 100
  z : rows.length ≤ 10
  nd : (rows.map (·.1)).Nodup
def houseU (rows : List Rw) (gs : List (Str × Str)) (rooms : List Rm) : D := .tup [.tup (rows.map toR), .tup (gs.map pairD), .tup (rooms.map roomD)]
theorem okU_row {r : Rw} (h1 : PyData.strOk r.1 = true) (h2 : PyData.strOk r.2.1 = true) (h3 : ∀ d ∈ r.2.2, okU 2 d = true) (h4 : r.2.2.length ≤ 100) : okU 4 (toR r) = true := by
  refine okU_tup.mpr ⟨by simp, fun x hx => ?_⟩
  simp only [List.mem_cons, List.not_mem_nil, or_false] at hx
  rcases hx with rfl | rfl | rfl
  · exact h1
  · exact h2
  · exact okU_tup.mpr ⟨by omega, h3⟩
theorem Rs.ur {rows : List Rw} (h : Rs rows) : okU 5 (.tup (rows.map toR)) = true := by
  refine okU_tup.mpr ⟨by rw [List.length_map]; have := h.z; omega, fun x hx => ?_⟩
  obtain ⟨r, hr, rfl⟩ := List.mem_map.mp hx
  exact okU_row (h.n r hr) (h.g r hr) (h.u r hr) (h.l r hr)
structure Gm (gs : List (Str × Str)) (rooms : List Rm) : Prop where
  g : ∀ p ∈ gs, PyData.strOk p.1 = true ∧ PyData.strOk p.2 = true
  gl : gs.length ≤ 10
  r : ∀ p ∈ rooms, PyData.strOk p.1 = true
  rl : rooms.length ≤ 10
theorem Gm.ug {gs : List (Str × Str)} {rooms : List Rm} (h : Gm gs rooms) : okU 5 (.tup (gs.map pairD)) = true := by
  refine okU_tup.mpr ⟨by rw [List.length_map]; have := h.gl; omega, fun x hx => ?_⟩
  obtain ⟨r, hr, rfl⟩ := List.mem_map.mp hx
  refine okU_tup.mpr ⟨by simp, fun x hx => ?_⟩
  simp only [List.mem_cons, List.not_mem_nil, or_false] at hx
  rcases hx with rfl | rfl
  · exact (h.g r hr).1
  · exact (h.g r hr).2
theorem Gm.um {gs : List (Str × Str)} {rooms : List Rm} (h : Gm gs rooms) : okU 5 (.tup (rooms.map roomD)) = true := by
  refine okU_tup.mpr ⟨by rw [List.length_map]; have := h.rl; omega, fun x hx => ?_⟩
  obtain ⟨r, hr, rfl⟩ := List.mem_map.mp hx
  refine okU_tup.mpr ⟨by simp, fun x hx => ?_⟩
  simp only [List.mem_cons, List.not_mem_nil, or_false] at hx
  rcases hx with rfl | rfl
  · exact h.r r hr
  · rfl
section
variable {rows : List Rw} {gs : List (Str × Str)} {rooms : List Rm}
theorem houseU_u (hr : Rs rows) (hg : Gm gs rooms) : okU 6 (houseU rows gs rooms) = true := by
  refine okU_tup.mpr ⟨by simp, fun x hx => ?_⟩
  simp only [List.mem_cons, List.not_mem_nil, or_false] at hx
  rcases hx with rfl | rfl | rfl
  · exact hr.ur
  · exact hg.ug
  · exact hg.um
theorem wkA_tup (xs : List D) : wkA (.tup xs) = .tup (xs.map wkA) := by simp only [wkA, wkAs_map]
theorem wkA_tpn (xs : List D) : wkA (.tpn xs) = .tup (xs.map wkA) := by simp only [wkA, wkAs_map]
theorem house_wk (hr : Rs rows) (hg : Gm gs rooms) : wkA (houseD rows gs rooms) = houseU rows gs rooms := by
  have e1 := (okU_wk _ _ hr.ur).1
  have e2 := (okU_wk _ _ hg.ug).1
  have e3 := (okU_wk _ _ hg.um).1
  rw [wkA_tup] at e2
  unfold houseD houseU
  rw [wkA_tup]
  simp only [List.map_cons, List.map_nil]
  rw [e1, e3, wkA_tpn, e2]
theorem w_tupS {a : En → M D} {ρ : En} {G : List O} {Q : D → List O → Prop} {d : D} (u : okU 6 d = true) (h : WP (a ρ) G fun x G1 => x = d ∧ Q d G1) : WP (dWkA (dFp (F_tupled 8) (dCons a dNil)) ρ) G Q := by
  refine w_wkA (w_ans (w_cons (h.imp fun x G1 ⟨e, q⟩ => w_nil ?_)))
  subst e
  refine ⟨by simp only [noRs, okU_nr u]; rfl, tpD x, tupled_ok 7 _ (okU_T _ _ (okU_up _ _ u)), okU_tp u, ?_⟩
  rw [(okU_wk _ _ u).2]
  exact q
theorem toR_nr {r : Rw} (h : ∀ d ∈ r.2.2, okU 2 d = true) : noR (toR r) = true := by
  have : noRs r.2.2 = true := noRs_of fun x hx => okU_nr (h x hx)
  simp [toR, noR, noRs, this]
theorem row_of_ok {a b : List Rw} {one : Rw} (h : Rs (a ++ one :: b)) (x y : D) : Ans F_row_of [.tup [.tup ((a ++ one :: b).map toR), x, y], .str one.1] (toR one) := by
  refine w_run ?_
  unfold ds_row_of
  have key : ∀ (l : List Rw), (∀ r ∈ l ++ one :: b, r ∈ a ++ one :: b) → (∀ r ∈ l, r.1 ≠ one.1) → ∀ u : Option D, WP (bodyL (gN 2) (dIfS (dTest (d2 (pur2 (eqO false)) (d2 ixO (dV 2) (dC (.int 0))) (dV 1))) (dRet (dV 2)) dNext) ((l ++ one :: b).map toR) [some (.tup [.tup ((a ++ one :: b).map toR), x, y]), some (.str one.1), u]) []
      (thenS (dRaise1 "NoTask" "name" (dV 1)) fun o G1 => ∃ d, o = .rt d ∧ d = toR one) := by
    intro l
    induction l with
    | nil =>
      intro hm _ u
      rw [List.nil_append, List.map_cons, bodyL]
      refine WP.bnd (WP.lft rfl (WP.bnd (w_ifS (w_test (w_d2 (w_d2 (w_v rfl (w_c ⟨.str one.1, [], ix0 _ _ _, w_v rfl ⟨_, _, eqS (h.n one (by simp)) (h.n one (by simp)), _, rfl, fun _ => w_ret (w_v rfl (WP.ret ⟨_, rfl, rfl⟩)), fun c => ?_⟩⟩))))))))
      simp at c
    | cons r l ih =>
      intro hm hne u
      rw [List.cons_append, List.map_cons, bodyL]
      have hr : r ∈ a ++ one :: b := hm r (by simp)
      refine WP.bnd (WP.lft rfl (WP.bnd (w_ifS (w_test (w_d2 (w_d2 (w_v rfl (w_c ⟨.str r.1, [], ix0 _ _ _, w_v rfl ⟨_, _, eqS (h.n r hr) (h.n one (by simp)), _, rfl, fun c => ?_, fun _ => w_next ?_⟩⟩))))))))
      · exfalso
        have := hne r (by simp)
        simp at c
        exact this c
      · exact ih (fun q hq => hm q (List.mem_cons_of_mem _ hq)) (fun q hq => hne q (List.mem_cons_of_mem _ hq)) _
  refine w_seq (w_for (w_itQ (w_d2 (w_v rfl (w_c ⟨.tup ((a ++ one :: b).map toR), [], rfl, _, rfl, ?_⟩)))))
  have nd := h.nd
  rw [List.map_append, List.map_cons, List.nodup_append] at nd
  exact key a (fun r hr => hr) (fun r hr => nd.2.2 r.1 (List.mem_map.mpr ⟨r, hr, rfl⟩) one.1 (by simp)) none
end

section
variable {gs : List (Str × Str)} {rooms : List Rm}
section
variable {gs : List (Str × Str)} {rooms : List Rm}
theorem nr_steps {s : List D} (u : ∀ d ∈ s, okU 2 d = true) : noRs s = true := noRs_of fun x hx => okU_nr (u x hx)
theorem task_names_ok {rows : List Rw} (h : Rs rows) (x y : D) : Ans F_task_names [.tup [.tup (rows.map toR), x, y]] (.tup ((rows.map (·.1)).map .str)) := by
  have mz : (1000 : Nat) ≤ mx := by decide
  refine w_run ?_
  unfold ds_task_names
  refine w_ret (w_call (w_cons (w_lcB rows toR (fun _ => true) (fun r => .str r.1) ?_ (by have := h.z; omega) (fun r hr => ⟨_, rfl, w_yes ⟨rfl, rfl⟩, fun _ => ?_⟩) ?_)))
  · exact w_itQ (w_d2 (w_v rfl (w_c ⟨.tup (rows.map toR), [], rfl, _, rfl, rfl, rfl⟩)))
  · exact w_d2 (w_v rfl (w_c ⟨_, _, ix0 _ _ _, rfl, rfl⟩))
  · refine w_nil ⟨.tup (rows.map fun r => .str r.1), [], ?_, _, rfl, ?_⟩
    · have ft : rows.filter (fun _ => true) = rows := by simp
      rw [ft]
      rfl
    · rw [List.map_map]
      rfl
/-! rooms of p and of q -/
def Pq (rooms : List Rm) : Prop := (rooms.map (·.1)).Sublist (["p", "q"] : List Str) ∧ ∀ p ∈ rooms, 1 ≤ p.2
theorem pq_cases {rooms : List Rm} (h : Pq rooms) : rooms = [] ∨ (∃ v, 1 ≤ v ∧ rooms = [(("p" : Str), v)]) ∨ (∃ v, 1 ≤ v ∧ rooms = [(("q" : Str), v)]) ∨ ∃ v u, 1 ≤ v ∧ 1 ≤ u ∧ rooms = [(("p" : Str), v), (("q" : Str), u)] := by
  obtain ⟨s, v⟩ := h
  have hl := s.length_le
  match rooms, s, v, hl with
  | [], _, _, _ => exact .inl rfl
  | [(x, i)], s, v, _ =>
    have hx : x ∈ (["p", "q"] : List Str) := s.subset (by simp)
    have hv := v (x, i) (by simp)
    simp only [List.mem_cons, List.not_mem_nil, or_false] at hx
    rcases hx with rfl | rfl
    · exact .inr (.inl ⟨i, hv, rfl⟩)
    · exact .inr (.inr (.inl ⟨i, hv, rfl⟩))
  | [(x, i), (y, j)], s, v, _ =>
    have e := s.eq_of_length (by simp)
    simp only [List.map_cons, List.map_nil, List.cons.injEq, and_true] at e
    obtain ⟨rfl, rfl⟩ := e
    exact .inr (.inr (.inr ⟨i, j, v (("p" : Str), i) (by simp), v (("q" : Str), j) (by simp), rfl⟩))
  | _ :: _ :: _ :: _, _, _, hl => simp at hl
end

end

/-- the first one that is so, told at once -/
theorem w_find {α : Type} {g : D → En → P1 En} {s1 : En → M Out} {Qo : Out → List O → Prop} {G : List O} (e : α → D) (c : α → Bool) (v : α → D) (I : En → Prop) : ∀ (l : List α),
    (∀ p ∈ l, ∀ ρ, I ρ → ∃ ρ1, g (e p) ρ G = some (ρ1, G) ∧ WP (s1 ρ1) G fun o G1 => G1 = G ∧ (c p = true → o = .rt (v p)) ∧ (c p = false → ∃ ρ2, o = .nx ρ2 ∧ I ρ2)) →
    ∀ ρ, I ρ → (∀ p, l.find? c = some p → Qo (.rt (v p)) G) → (l.find? c = none → ∀ ρ', I ρ' → Qo (.nx ρ') G) → WP (bodyL g s1 (l.map e) ρ) G Qo
  | [], _, ρ, i, _, q => WP.ret (q rfl ρ i)
  | p :: l, h, ρ, i, q1, q2 => by
    obtain ⟨ρ1, e1, w⟩ := h p List.mem_cons_self ρ i
    rw [List.map_cons, bodyL]
    refine WP.bnd (WP.lft e1 (WP.bnd (w.imp fun o G1 ⟨hG, b1, b2⟩ => ?_)))
    subst hG
    cases hb : c p with
    | true =>
      rw [b1 hb]
      exact WP.ret (q1 p (by simp [hb]))
    | false =>
      obtain ⟨ρ2, ho, i2⟩ := b2 hb
      subst ho
      exact w_find e c v I l (fun r hr => h r (List.mem_cons_of_mem _ hr)) ρ2 i2 (fun p' e' => q1 p' (by simp [hb, e'])) fun e' => q2 (by simp [hb, e'])
/-- [f(k) for k in range(n)] -/
theorem w_lcR {n : Nat} {ea : En → M (List D)} {i : Nat} {a : En → M D} {own : List Nat} {ρ : En} {G : List O} {Q : D → List O → Prop} (f : Nat → D) (hd : WP (ea ρ) G fun es G1 => es = [.int (n : Int)] ∧ G1 = G) (hz : n ≤ 1000)
    (h : ∀ k, k < n → WP (a ((wipeD ρ own).set i (some (.int (k : Int))))) G (fun y G1 => y = f k ∧ G1 = G)) (q : Q (.lst ((List.range n).map f)) G) : WP (dLc (dRng rng1 ea) (gN i) dYes a own ρ) G Q := by
  have mz : (1000 : Nat) ≤ mx := by decide
  refine w_lcB (List.range n) (fun k => .int (0 + (k : Int))) (fun _ => true) f (w_rng (hd.imp fun es G1 ⟨e, eg⟩ => ?_)) (by rw [List.length_range]; omega) (fun k hk => ⟨_, rfl, w_yes ⟨rfl, rfl⟩, fun _ => ?_⟩) ?_
  · subst e
    refine ⟨rngD 0 n, ?_, rfl, eg⟩
    unfold rng1
    dsimp only
    rw [smallR (by omega) (by omega)]
    simp
  · have z : ((0 : Int) + (k : Int)) = (k : Int) := by omega
    rw [z]
    exact h k (List.mem_range.mp hk)
  · rw [show (List.range n).filter (fun _ => true) = List.range n by simp]
    exact q
theorem ftrue {α : Type} (l : List α) : l.filter (fun _ => true) = l := by simp
def kvI2 (t : It) : D := .tup [.str t.2.1, .int t.2.2]
section
variable {rows : List Rw} {gs : List (Str × Str)} {rooms : List Rm}
theorem houseU_nr (hr : Rs rows) (hg : Gm gs rooms) : noR (houseU rows gs rooms) = true := okU_nr (houseU_u hr hg)
theorem script_of_ok {a b : List Rw} {one : Rw} (h : Rs (a ++ one :: b)) (hg : Gm gs rooms) : Ans F_script_of [houseU (a ++ one :: b) gs rooms, .str one.1] (.tup one.2.2) := by
  have h1 : one ∈ a ++ one :: b := by simp
  refine w_run ?_
  unfold ds_script_of
  have u : okU 6 (.tup one.2.2) = true := okU_up _ _ (okU_up _ _ (okU_up _ _ (okU_tup.mpr ⟨by have := h.l one h1; omega, h.u one h1⟩)))
  refine w_ret (w_tupS u (w_d2 (w_ansX (w_cons (w_v rfl (w_cons (w_v rfl (w_nil ⟨?_, toR one, row_of_ok h _ _, toR_nr (h.u one h1), w_c ⟨_, _, ix2 _ _ _ _ _, rfl, _, rfl, rfl⟩⟩))))))))
  simp [noRs, houseU_nr h hg, noR]
theorem group_of_ok {a b : List Rw} {one : Rw} (h : Rs (a ++ one :: b)) (hg : Gm gs rooms) : Ans F_group_of [houseU (a ++ one :: b) gs rooms, .str one.1] (.str one.2.1) := by
  have h1 : one ∈ a ++ one :: b := by simp
  refine w_run ?_
  unfold ds_group_of
  refine w_ret (w_d2 (w_ansX (w_cons (w_v rfl (w_cons (w_v rfl (w_nil ⟨?_, toR one, row_of_ok h _ _, toR_nr (h.u one h1), w_c ⟨_, _, ix1 _ _ _ _, _, rfl, rfl⟩⟩)))))))
  simp [noRs, houseU_nr h hg, noR]
end

end K02

namespace K02
open PySem PySem.Spec PyProof.Rows L2 Tw
/-! ### what the program tells of such a house -/
theorem allS_strs : ∀ ws : List Str, allS (ws.map .str) = some ws
  | [] => rfl
  | w :: ws => by
    show (allS (ws.map D.str)).map (w :: ·) = _
    rw [allS_strs ws]
    rfl
structure Nm (rows : List Rw) (gs : List (Str × Str)) (rooms : List Rm) : Prop where
  rs : Rs rows
  gm : Gm gs rooms
  q : ∀ r ∈ rows, r.2.2.all (okA qw2) = true
  s : ∀ r ∈ rows, r.2.2.all (okA sg2) = true
  st : ∀ r ∈ rows, r.2.2.all (okA sw1) = true
  c : ∀ r ∈ rows, r.2.2.all (okA cw2) = true
  is : ∀ r ∈ rows, r.2.2.all isS = true
  l : ∀ ws, (nm ws rows).length ≤ 400
  ql : ∀ t ∈ nm qw2 rows, t.1 ∈ (["p", "q"] : List Str)
  sl : ∀ t ∈ nm sg2 rows, t.1 ∈ (["p", "q"] : List Str)
  rm : ∀ p ∈ rooms, p.1 ∈ (["p", "q"] : List Str)
  it : ∀ ws, ws = sw1 ∨ ws = cw2 → ∀ t ∈ nm ws rows, PyData.strOk t.1 = true
  nd : ((nm sw1 rows).map (·.1)).Nodup
section
variable {rows : List Rw} {gs : List (Str × Str)} {rooms : List Rm}
theorem w_nam {ws : List Str} {b : En → M D} {ρ : En} {G : List O} {Q : List D → List O → Prop} (h : Nm rows gs rooms) (hw : ∀ r ∈ rows, r.2.2.all (okA ws) = true) (h0 : ρ[0]? = some (some (houseU rows gs rooms))) (hb : ∀ G, WP (b ρ) G fun d G1 => d = .tup (ws.map .str) ∧ G1 = G) (q : Q ((nm ws rows).map itD) G) :
    WP (dItL (dFp F_naming_marks (dCons (d2 ixO (dV 0) (dC (.int 0))) (dCons b dNil))) ρ) G Q := by
  have mz : (1000 : Nat) ≤ mx := by decide
  have nr : noRs (rows.map toR) = true := okU_nr h.rs.ur
  refine w_itL (w_ans (w_cons (w_d2 (w_v h0 (w_c ⟨.tup (rows.map toR), G, rfl, w_cons ((hb G).imp fun d G1 ⟨e1, e2⟩ => w_nil ?_)⟩)))))
  subst e1 e2
  refine ⟨by simp only [noRs, noR, nr, nr_strs]; rfl, _, naming_ok hw (by have := h.l ws; omega), by simp [noR, nr_its], _, rfl, q⟩
def qn (rows : List Rw) (rooms : List Rm) : List Str := (nm qw2 rows).map (·.1) ++ rooms.map (·.1)
theorem dd2 {l : List Str} (h : ∀ x ∈ l, x ∈ (["p", "q"] : List Str)) : (ddS l).length < 64 := by
  have := nd_len (ddS_nd l) (m := (["p", "q"] : List Str)) fun x hx => h x ((ddS_mem l x).mp hx)
  simp at this
  omega
theorem us_ok {l : List Str} {d : D} {G : List O} (e : inL d G = some (l.map .str)) (h : ∀ x ∈ l, x ∈ (["p", "q"] : List Str)) (hz : l.length < 1000) : lP usF [d] G = some (.lst ((srtU l).map .str), G) := by
  unfold lP
  dsimp only
  rw [e]
  dsimp only
  unfold usF
  rw [allS_strs]
  dsimp only
  rw [if_pos ⟨hz, dd2 h⟩]
theorem qn_in (h : Nm rows gs rooms) : ∀ x ∈ qn rows rooms, x ∈ (["p", "q"] : List Str) := fun x hx => by
  rcases List.mem_append.mp hx with hx | hx
  · obtain ⟨t, ht, rfl⟩ := List.mem_map.mp hx
    exact h.ql t ht
  · obtain ⟨t, ht, rfl⟩ := List.mem_map.mp hx
    exact h.rm t ht
theorem sn_in (h : Nm rows gs rooms) : ∀ x ∈ (nm sg2 rows).map (·.1), x ∈ (["p", "q"] : List Str) := fun x hx => by
  obtain ⟨t, ht, rfl⟩ := List.mem_map.mp hx
  exact h.sl t ht
theorem qn_len (h : Nm rows gs rooms) : (qn rows rooms).length < 1000 := by
  have := h.l qw2
  have := h.gm.rl
  unfold qn
  rw [List.length_append, List.length_map, List.length_map]
  omega
theorem queue_names_ok (h : Nm rows gs rooms) : Ans F_queue_names [houseU rows gs rooms] (.tup ((srtU (qn rows rooms)).map .str)) := by
  have mz : (1000 : Nat) ≤ mx := by decide
  have l1 := h.l qw2
  have l2 := h.gm.rl
  have e0 : ((nm qw2 rows).filter fun _ => true).map (fun t => D.str t.1) = ((nm qw2 rows).map (·.1)).map .str := by rw [ftrue, List.map_map]; rfl
  refine w_run ?_
  unfold ds_queue_names
  refine w_seq (w_asg (w_lcBM (nm qw2 rows) itD (fun _ => true) (fun t => .str t.1) (w_nam h h.q rfl (fun G => w_c ⟨rfl, rfl⟩) ⟨rfl, rfl⟩) (by omega) (fun t ht => ⟨_, rfl, w_yes ⟨rfl, rfl⟩, fun _ => w_v rfl ⟨rfl, rfl⟩⟩) ?_))
  rw [e0]
  refine ⟨_, _, rfl, w_then ?_⟩
  refine w_seq (w_expr (w_meth (w_v rfl ⟨⟨_, rfl⟩, w_cons (w_lcB rooms roomD (fun _ => true) (fun p => .str p.1) (w_itQ (w_d2 (w_v rfl (w_c ⟨.tup (rooms.map roomD), _, rfl, _, rfl, rfl, rfl⟩)))) (by omega) (fun p hp => ⟨_, rfl, w_yes ⟨rfl, rfl⟩, fun _ => w_d2 (w_v rfl (w_c ⟨_, _, ix0 _ _ _, rfl, rfl⟩))⟩) ?_)⟩)))
  rw [ftrue]
  refine w_nil ⟨.non, [O.lst ((qn rows rooms).map .str)], ?_, w_then ?_⟩
  · unfold extF
    show (if (((nm qw2 rows).map (·.1)).map D.str).length + (rooms.map fun p => D.str p.1).length ≤ mx then some (D.non, [O.lst ((((nm qw2 rows).map (·.1)).map D.str) ++ rooms.map fun p => D.str p.1)]) else none) = _
    rw [if_pos (by simp only [List.length_map]; omega)]
    unfold qn
    rw [List.map_append, List.map_map (f := fun x : Rm => x.1)]
    rfl
  refine w_ret (w_call (w_cons (w_call (w_cons (w_v rfl (w_nil ⟨_, _, us_ok (l := qn rows rooms) rfl (qn_in h) (qn_len h), w_nil ⟨_, _, rfl, _, rfl, rfl⟩⟩))))))
theorem signal_names_ok (h : Nm rows gs rooms) : Ans F_signal_names [houseU rows gs rooms] (.tup ((srtU ((nm sg2 rows).map (·.1))).map .str)) := by
  have mz : (1000 : Nat) ≤ mx := by decide
  have l1 := h.l sg2
  refine w_run ?_
  unfold ds_signal_names
  refine w_ret (w_call (w_cons (WP.bnd ((w_nam (Q := fun es G1 => es = (nm sg2 rows).map itD ∧ G1 = []) (ws := sg2) h h.s rfl (fun G => w_c ⟨rfl, rfl⟩) ⟨rfl, rfl⟩).imp fun es G1 ⟨h1, h2⟩ => ?_))))
  subst h1 h2
  refine WP.bndN ((w_lcA itD (fun _ => true) (fun t => .str t.1) (nm sg2 rows) fun t ht => ⟨_, rfl, w_yes ⟨rfl, rfl⟩, fun _ => w_v rfl ⟨rfl, rfl⟩⟩).imp fun ys G2 ⟨h1, h2⟩ => ?_)
  subst h1 h2
  have e0 : ((nm sg2 rows).filter fun _ => true).map (fun t => D.str t.1) = ((nm sg2 rows).map (·.1)).map .str := by rw [ftrue, List.map_map]; rfl
  rw [e0]
  refine WP.pur (a := .lst ((srtU ((nm sg2 rows).map (·.1))).map .str)) ?_ (w_nil ⟨_, _, rfl, _, rfl, rfl⟩)
  unfold usF
  rw [allS_strs]
  dsimp only
  rw [if_pos ⟨by rw [List.length_map]; omega, dd2 (sn_in h)⟩]
def firsts (rows : List Rw) : List Str := (rows.map (·.1)).filter fun x => !(((nm sw1 rows).map (·.1)).contains x)
theorem first_tasks_ok (h : Nm rows gs rooms) : Ans F_first_tasks [houseU rows gs rooms] (.tup ((firsts rows).map .str)) := by
  have mz : (1000 : Nat) ≤ mx := by decide
  have l1 := h.l sw1
  have z := h.rs.z
  refine w_run ?_
  unfold ds_first_tasks
  refine w_seq (w_asg (w_dc ((w_nam (Q := fun es G1 => es = (nm sw1 rows).map itD ∧ G1 = []) (ws := sw1) h h.st rfl (fun G => w_tup (w_cons (w_c (w_nil ⟨by simp only [List.length_cons, List.length_nil]; decide, rfl, rfl⟩)))) ⟨rfl, rfl⟩).imp fun es G1 ⟨h1, h2⟩ => ?_)))
  subst h1 h2
  refine (w_dcA (α := It) itD (·.1) (fun _ => .bl true) (nm sw1 rows) [] (by simpa using (show ((nm sw1 rows).map fun p => (Sum.inr p.1 : Key)) = ((nm sw1 rows).map (·.1)).map fun x => Sum.inr x by rw [List.map_map]; rfl) ▸ inr_nodup h.nd) (by simp; omega) fun r hr => ⟨_, rfl, w_v rfl ⟨rfl, rfl⟩, w_c ⟨rfl, rfl⟩⟩).imp fun kvs G1 ⟨e1, e2⟩ => ?_
  subst e1 e2
  refine ⟨_, _, rfl, w_then ?_⟩
  have known : ∀ x : Str, (lookK ([] ++ (nm sw1 rows).map fun p => ((Sum.inr p.1 : Key), D.bl true)) (.inr x)).isSome = ((nm sw1 rows).map (·.1)).contains x := fun x => by
    have e : ([] ++ (nm sw1 rows).map fun p => ((Sum.inr p.1 : Key), D.bl true)) = ((nm sw1 rows).map (·.1)).map fun y => (Sum.inr y, D.bl true) := by rw [List.map_map]; rfl
    rw [e, look_mem]
  generalize ([] ++ (nm sw1 rows).map fun p => ((Sum.inr p.1 : Key), D.bl true)) = kn at known
  have nrU := houseU_nr h.rs h.gm
  refine w_ret (w_call (w_cons (w_lcB (rows.map (·.1)) .str (fun x => !(((nm sw1 rows).map (·.1)).contains x)) .str ?_ (by rw [List.length_map]; omega) (fun x hx => ⟨_, rfl, ?_, fun _ => w_v rfl ⟨rfl, rfl⟩⟩) ?_)))
  · refine w_itT (w_ans (w_cons (w_v rfl (w_nil ⟨by simp only [noRs, nrU]; rfl, _, task_names_ok h.rs _ _, by simp only [noR]; exact nr_strs _, _, rfl, rfl, rfl⟩))))
  · refine w_test (w_d2 (w_v rfl (w_v rfl ⟨.bl (!(((nm sw1 rows).map (·.1)).contains x)), _, ?_, _, rfl, rfl, rfl⟩)))
    rw [din_eq (o := lookK kn (.inr x)) rfl, known x]
    rfl
  · exact w_nil ⟨_, _, rfl, _, rfl, rfl⟩
theorem step_of_ok {a b : List Rw} {one : Rw} (h : Nm (a ++ one :: b) gs rooms) {k : Nat} {d : D} (hd : one.2.2[k]? = some d) : Ans F_step_of [houseU (a ++ one :: b) gs rooms, .str one.1, .int (k : Int)] d := by
  have h1 : one ∈ a ++ one :: b := by simp
  have lt := (List.getElem?_eq_some_iff.mp hd).1
  have u1 : noRs one.2.2 = true := nr_steps (h.rs.u one h1)
  refine w_run ?_
  unfold ds_step_of
  refine w_seq (w_asg (w_ansX (w_cons (w_v rfl (w_cons (w_v rfl (w_nil ⟨by simp [noRs, houseU_nr h.rs h.gm, noR], _, script_of_ok h.rs h.gm, by simp only [noR]; exact u1, _, _, rfl, w_then ?_⟩)))))))
  refine w_seq (w_ifS (w_notT (w_test (w_chain (w_c (w_v rfl ⟨_, _, rfl, rfl, fun _ => w_call (w_cons (w_v rfl (w_nil ⟨.int one.2.2.length, _, rfl, .bl true, [], ?_, true, rfl, fun c => (by cases c), fun _ => w_next (w_then ?_)⟩))), fun c => ?_⟩))))))
  · show some (D.bl (decide ((k : Int) < (one.2.2.length : Int))), _) = _
    rw [decide_eq_true (by omega)]
  · exact w_ret (w_d2 (w_v rfl (w_v rfl ⟨d, _, atN hd rfl _, _, rfl, rfl⟩)))
  · exfalso
    have c' : decide ((0 : Int) ≤ (k : Int)) = false := c
    have := of_decide_eq_false c'
    omega
theorem shields_at_ok {a b : List Rw} {one : Rw} (h : Nm (a ++ one :: b) gs rooms) {k : Nat} (hk : k ≤ one.2.2.length) {i : Int} (hi : (0 :: dl 0 one.2.2)[k]? = some i) : Ans F_shields_at [houseU (a ++ one :: b) gs rooms, .str one.1, .int (k : Int)] (.int i) := by
  have mz : (1000 : Nat) ≤ mx := by decide
  have h1 : one ∈ a ++ one :: b := by simp
  have l1 := h.rs.l one h1
  have u1 : noRs one.2.2 = true := nr_steps (h.rs.u one h1)
  have nri : ∀ l : List Int, noRs (l.map D.int) = true := fun l => by
    induction l with
    | nil => rfl
    | cons i l ih => simp [noRs, noR, ih]
  refine w_run ?_
  unfold ds_shields_at
  refine w_seq (w_asg (w_ansX (w_cons (w_v rfl (w_cons (w_v rfl (w_nil ⟨by simp [noRs, houseU_nr h.rs h.gm, noR], _, script_of_ok h.rs h.gm, by simp only [noR]; exact u1, _, _, rfl, w_then ?_⟩)))))))
  refine w_seq (w_ifS (w_notT (w_test (w_chain (w_c (w_v rfl ⟨_, _, rfl, rfl, fun _ => w_call (w_cons (w_v rfl (w_nil ⟨.int one.2.2.length, _, rfl, .bl true, [], ?_, true, rfl, fun c => (by cases c), fun _ => w_next (w_then ?_)⟩))), fun c => ?_⟩))))))
  · show some (D.bl (decide ((k : Int) ≤ (one.2.2.length : Int))), _) = _
    rw [decide_eq_true (by omega)]
  · refine w_ret (w_d2 (w_ans (w_cons (w_v rfl (w_nil ⟨by simp only [noRs, noR, u1]; rfl, _, Ans.of (depths_ok (h.is one h1) (by omega)), ?_, w_v rfl ⟨.int i, _, atN (i := k) ?_ rfl _, _, rfl, rfl⟩⟩)))))
    · exact nri (0 :: dl 0 one.2.2)
    · show ((0 :: dl 0 one.2.2).map D.int)[k]? = _
      rw [List.getElem?_map, hi]
      rfl
  · exfalso
    have c' : decide ((0 : Int) ≤ (k : Int)) = false := c
    have := of_decide_eq_false c'
    omega
/-! loops that look for the first one -/
def starterD (rows : List Rw) (x : Str) : D := match (nm sw1 rows).find? fun t => t.1 == x with
  | some t => kvI2 t
  | none => .tup []
theorem starter_of_ok {a b : List Rw} {one : Rw} (h : Nm (a ++ one :: b) gs rooms) : Ans F_starter_of [houseU (a ++ one :: b) gs rooms, .str one.1] (starterD (a ++ one :: b) one.1) := by
  have h1 : one ∈ a ++ one :: b := by simp
  refine w_run ?_
  unfold ds_starter_of
  refine w_seq (w_expr (w_ansX (w_cons (w_v rfl (w_cons (w_v rfl (w_nil ⟨by simp [noRs, houseU_nr h.rs h.gm, noR], toR one, row_of_ok h.rs _ _, toR_nr (h.rs.u one h1), w_then ?_⟩)))))))
  refine w_seq (w_for (w_nam (ws := sw1) h h.st rfl (fun G => w_tup (w_cons (w_c (w_nil ⟨by simp only [List.length_cons, List.length_nil]; decide, rfl, rfl⟩)))) ?_))
  refine w_find itD (fun t => t.1 == one.1) kvI2 (fun ρ => ∃ u2 u3, ρ = [some (houseU (a ++ one :: b) gs rooms), some (.str one.1), u2, u3]) _ (fun t ht ρ ⟨u2, u3, e⟩ => ?_) _ ⟨none, none, rfl⟩ (fun t ht => ?_) (fun e ρ' ⟨u2, u3, er⟩ => ?_)
  · subst e
    refine ⟨_, rfl, w_ifS (w_test (w_d2 (w_v rfl (w_v rfl ⟨_, _, eqS (h.it sw1 (.inl rfl) t ht) (h.rs.n one h1), _, rfl, fun c => w_ret (w_v rfl ⟨rfl, fun _ => rfl, fun z => ?_⟩), fun c => w_next ⟨rfl, fun z => ?_, fun _ => ⟨_, rfl, _, _, rfl⟩⟩⟩))))⟩
    · have c' : (t.1 == one.1) = true := c
      rw [c'] at z
      cases z
    · have c' : (t.1 == one.1) = false := c
      rw [c'] at z
      cases z
  · refine ⟨_, rfl, ?_⟩
    unfold starterD
    rw [ht]
  · subst er
    refine w_then (w_ret (w_tup (w_nil ⟨by decide, _, rfl, ?_⟩)))
    unfold starterD
    rw [e]
theorem host_of_ok (h : Nm rows gs rooms) {g : Str} (hg : PyData.strOk g = true) {p : Str × Str} (hp : gs.find? (fun p => p.1 == g) = some p) : Ans F_host_of [houseU rows gs rooms, .str g] (.str p.2) := by
  refine w_run ?_
  unfold ds_host_of
  refine w_seq (w_for (w_itQ (w_d2 (w_v rfl (w_c ⟨.tup (gs.map pairD), _, rfl, _, rfl, ?_⟩)))))
  refine w_find pairD (fun p => p.1 == g) (fun p => .str p.2) (fun ρ => ∃ u2, ρ = [some (houseU rows gs rooms), some (.str g), u2]) _ (fun t ht ρ ⟨u2, e⟩ => ?_) _ ⟨none, rfl⟩ (fun t ht => ?_) (fun e => by rw [hp] at e; cases e)
  · subst e
    refine ⟨_, rfl, w_ifS (w_test (w_d2 (w_d2 (w_v rfl (w_c ⟨.str t.1, _, ix0 _ _ _, w_v rfl ⟨_, _, eqS (h.gm.g t ht).1 hg, _, rfl, fun c => w_ret (w_d2 (w_v rfl (w_c ⟨.str t.2, _, ix1 _ _ _ _, rfl, fun _ => rfl, fun z => ?_⟩))), fun c => w_next ⟨rfl, fun z => ?_, fun _ => ⟨_, rfl, _, rfl⟩⟩⟩⟩)))))⟩
    · have c' : (t.1 == g) = true := c
      rw [c'] at z
      cases z
    · have c' : (t.1 == g) = false := c
      rw [c'] at z
      cases z
  · rw [hp] at ht
    cases ht
    exact ⟨_, rfl, rfl⟩
theorem tasks_in_ok (h : Nm rows gs rooms) {g : Str} (hg : PyData.strOk g = true) {p : Str × Str} (hp : gs.find? (fun p => p.1 == g) = some p) : Ans F_tasks_in [houseU rows gs rooms, .str g] (.tup ((rows.filter fun r => r.2.1 == g).map fun r => .str r.1)) := by
  have mz : (1000 : Nat) ≤ mx := by decide
  refine w_run ?_
  unfold ds_tasks_in
  refine w_seq (w_expr (w_ansX (w_cons (w_v rfl (w_cons (w_v rfl (w_nil ⟨by simp [noRs, houseU_nr h.rs h.gm, noR], _, host_of_ok h hg hp, rfl, w_then ?_⟩)))))))
  refine w_ret (w_call (w_cons (w_lcB rows toR (fun r => r.2.1 == g) (fun r => .str r.1) (w_itQ (w_d2 (w_v rfl (w_c ⟨.tup (rows.map toR), _, rfl, _, rfl, rfl, rfl⟩)))) (by have := h.rs.z; omega) (fun r hr => ⟨_, rfl, ?_, fun _ => w_d2 (w_v rfl (w_c ⟨_, _, ix0 _ _ _, rfl, rfl⟩))⟩) (w_nil ⟨_, _, rfl, _, rfl, rfl⟩))))
  exact w_test (w_d2 (w_d2 (w_v rfl (w_c ⟨.str r.2.1, _, ix1 _ _ _ _, w_v rfl ⟨_, _, eqS (h.rs.g r hr) hg, _, rfl, rfl, rfl⟩⟩))))
theorem closer_of_ok (h : Nm rows gs rooms) {g : Str} (hg : PyData.strOk g = true) {t : It} (hp : (nm cw2 rows).find? (fun p => p.1 == g) = some t) : Ans F_closer_of [houseU rows gs rooms, .str g] (kvI2 t) := by
  refine w_run ?_
  unfold ds_closer_of
  refine w_seq (w_for (w_nam (ws := cw2) h h.c rfl (fun G => w_c ⟨rfl, rfl⟩) ?_))
  refine w_find itD (fun p => p.1 == g) kvI2 (fun ρ => ∃ u2 u3, ρ = [some (houseU rows gs rooms), some (.str g), u2, u3]) _ (fun t ht ρ ⟨u2, u3, e⟩ => ?_) _ ⟨none, none, rfl⟩ (fun t ht => ?_) (fun e => by rw [hp] at e; cases e)
  · subst e
    refine ⟨_, rfl, w_ifS (w_test (w_d2 (w_v rfl (w_v rfl ⟨_, _, eqS (h.it cw2 (.inr rfl) t ht) hg, _, rfl, fun c => w_ret (w_v rfl ⟨rfl, fun _ => rfl, fun z => ?_⟩), fun c => w_next ⟨rfl, fun z => ?_, fun _ => ⟨_, rfl, _, _, rfl⟩⟩⟩))))⟩
    · have c' : (t.1 == g) = true := c
      rw [c'] at z
      cases z
    · have c' : (t.1 == g) = false := c
      rw [c'] at z
      cases z
  · rw [hp] at ht
    cases ht
    exact ⟨_, rfl, rfl⟩
def roomI (rooms : List Rm) (x : Str) : Int := match rooms.find? fun p => p.1 == x with
  | some p => p.2
  | none => 0
theorem room_of_ok (h : Nm rows gs rooms) {x : Str} (hx : PyData.strOk x = true) : Ans F_room_of [houseU rows gs rooms, .str x] (.int (roomI rooms x)) := by
  refine w_run ?_
  unfold ds_room_of
  refine w_seq (w_for (w_itQ (w_d2 (w_v rfl (w_c ⟨.tup (rooms.map roomD), _, rfl, _, rfl, ?_⟩)))))
  refine w_find roomD (fun p => p.1 == x) (fun p => .int p.2) (fun ρ => ∃ u2, ρ = [some (houseU rows gs rooms), some (.str x), u2]) _ (fun t ht ρ ⟨u2, e⟩ => ?_) _ ⟨none, rfl⟩ (fun t ht => ?_) (fun e ρ' ⟨u2, er⟩ => ?_)
  · subst e
    refine ⟨_, rfl, w_ifS (w_test (w_d2 (w_d2 (w_v rfl (w_c ⟨.str t.1, _, ix0 _ _ _, w_v rfl ⟨_, _, eqS (h.gm.r t ht) hx, _, rfl, fun c => w_ret (w_d2 (w_v rfl (w_c ⟨.int t.2, _, ix1 _ _ _ _, rfl, fun _ => rfl, fun z => ?_⟩))), fun c => w_next ⟨rfl, fun z => ?_, fun _ => ⟨_, rfl, _, rfl⟩⟩⟩⟩)))))⟩
    · have c' : (t.1 == x) = true := c
      rw [c'] at z
      cases z
    · have c' : (t.1 == x) = false := c
      rw [c'] at z
      cases z
  · refine ⟨_, rfl, ?_⟩
    unfold roomI
    rw [ht]
  · subst er
    refine w_then (w_ret (w_c ⟨_, rfl, ?_⟩))
    unfold roomI
    rw [e]
end
end K02

namespace K02
open PySem PySem.Spec PyProof.Rows L2 Tw
/-! has_ring: each name stands behind one that nobody starts -/
theorem w_while0 {t : En → M Bool} {b : En → M Out} {n : Nat} {ρ : En} {G : List O} {Q : Out → List O → Prop} (h : WP (t ρ) G fun c G1 => c = false ∧ Q (.nx ρ) G1) : WP (whileL t b (n + 1) ρ) G Q := by
  unfold whileL
  exact WP.bnd (h.imp fun c G1 ⟨e, q⟩ => by subst e; exact WP.ret q)
theorem w_while1 {t : En → M Bool} {b : En → M Out} {n : Nat} {ρ : En} {G : List O} {Q : Out → List O → Prop} (h : WP (t ρ) G fun c G1 => c = true ∧ WP (b ρ) G1 fun o G2 => ∃ ρ2, o = .nx ρ2 ∧ WP (whileL t b n ρ2) G2 Q) : WP (whileL t b (n + 1) ρ) G Q := by
  rw [whileL]
  exact WP.bnd (h.imp fun c G1 ⟨e, q⟩ => by
    subst e
    exact WP.bnd (q.imp fun o G2 ⟨ρ2, e, w⟩ => by subst e; exact w))
/-! ### all steps of a house, one behind another -/
def tripS (n : Str) : Nat → List D → List (Str × Nat × D)
  | _, [] => []
  | k, d :: s => (n, k, d) :: tripS n (k + 1) s
def trip (rows : List Rw) : List (Str × Nat × D) := rows.flatMap fun r => tripS r.1 0 r.2.2
def tripD (t : Str × Nat × D) : D := .tup [.str t.1, .int t.2.1, t.2.2]
def markD (t : Str × Nat × D) : D := .tup [.str t.1, .int t.2.1]

theorem tripS_map (n : Str) : ∀ (s : List D) (k : Nat), tripS n k s = (List.range s.length).map fun i => (n, k + i, s.getD i .non)
  | [], k => rfl
  | d :: s, k => by
    rw [tripS, tripS_map n s (k + 1), List.length_cons, List.range_succ_eq_map, List.map_cons, List.map_map]
    refine congr (congrArg _ (by simp)) (List.map_congr_left fun i _ => ?_)
    simp [Nat.add_comm, Nat.add_assoc, Nat.add_left_comm]
theorem nmS_trip (n : Str) (ws : List Str) : ∀ (s : List D) (k : Nat), nmS n ws k s = ((tripS n k s).filter fun t => ws.contains (wrd t.2.2)).map fun t => (arg t.2.2, t.1, t.2.1)
  | [], k => rfl
  | d :: s, k => by
    simp only [nmS, tripS]
    rw [nmS_trip n ws s (k + 1)]
    cases h : ws.contains (wrd d) with
    | true => rw [if_pos rfl, List.filter_cons_of_pos (by exact h)]; rfl
    | false => rw [if_neg (by simp), List.filter_cons_of_neg (by show ¬ (ws.contains (wrd d) = true); rw [h]; simp)]
theorem nm_trip (ws : List Str) (rows : List Rw) : nm ws rows = ((trip rows).filter fun t => ws.contains (wrd t.2.2)).map fun t => (arg t.2.2, t.1, t.2.1) := by
  unfold nm trip
  induction rows with
  | nil => rfl
  | cons r rows ih => rw [List.flatMap_cons, List.flatMap_cons, List.filter_append, List.map_append, ih, nmS_trip]
theorem trip_len {rows : List Rw} {m : Nat} : (∀ r ∈ rows, r.2.2.length ≤ m) → (trip rows).length ≤ rows.length * m := by
  unfold trip
  induction rows with
  | nil => intro _; simp
  | cons r rows ih =>
    intro h
    have l1 : (tripS r.1 0 r.2.2).length = r.2.2.length := by rw [tripS_map, List.length_map, List.length_range]
    have := ih fun q hq => h q (List.mem_cons_of_mem _ hq)
    have := h r List.mem_cons_self
    rw [List.flatMap_cons, List.length_append, List.length_cons, Nat.add_mul]
    omega
theorem tripS_mem (n : Str) : ∀ (s : List D) (k : Nat) (t : Str × Nat × D), t ∈ tripS n k s → t.1 = n ∧ t.2.2 ∈ s
  | [], k, t, h => by cases h
  | d :: s, k, t, h => by
    rw [tripS] at h
    rcases List.mem_cons.mp h with rfl | h
    · exact ⟨rfl, List.mem_cons_self⟩
    · obtain ⟨a, b⟩ := tripS_mem n s (k + 1) t h
      exact ⟨a, List.mem_cons_of_mem _ b⟩
theorem trip_mem {rows : List Rw} {t : Str × Nat × D} (h : t ∈ trip rows) : ∃ r ∈ rows, t.1 = r.1 ∧ t.2.2 ∈ r.2.2 := by
  obtain ⟨r, hr, h⟩ := List.mem_flatMap.mp h
  exact ⟨r, hr, tripS_mem _ _ _ _ h⟩
theorem dl_at : ∀ (s : List D) (c : Int) (k : Nat), k ≤ s.length → (c :: dl c s)[k]? = some (c + ((s.map delta).take k).sum)
  | s, c, 0, _ => by simp
  | d :: s, c, k + 1, h => by
    simp only [List.length_cons] at h
    have ih := dl_at s (c + delta d) k (by omega)
    rw [List.getElem?_cons_succ]
    show ((c + delta d) :: dl (c + delta d) s)[k]? = _
    rw [ih]
    simp [Int.add_assoc]
theorem look_find (x : Str) : ∀ l : List It, lookK (l.map kvI) (.inr x) = (l.find? fun t => t.1 == x).map kvI2
  | [] => rfl
  | t :: l => by
    have ih := look_find x l
    unfold lookK at ih ⊢
    rw [List.map_cons, List.find?_cons, List.find?_cons]
    by_cases e : t.1 = x
    · subst e
      simp [kvI, kvI2]
    · have h1 : decide ((kvI t).1 = (.inr x : Key)) = false := decide_eq_false fun h => e (Sum.inr.inj h)
      have h2 : (t.1 == x) = false := beq_eq_false_iff_ne.mpr e
      rw [h1, h2]
      exact ih
theorem pairs_it : ∀ l : List It, pairsO (l.map itD) = some (l.map kvI)
  | [] => rfl
  | t :: l => by
    show (match keyO (.str t.1), pairsO (l.map itD) with | some k, some r => some ((k, D.tup [.str t.2.1, .int t.2.2]) :: r) | _, _ => none) = _
    rw [pairs_it l]
    rfl
theorem merge_new : ∀ (l : List It) (acc : List (Key × D)), ((acc.map (·.1)) ++ (l.map kvI).map (·.1)).Nodup → mergeD acc (l.map kvI) = acc ++ l.map kvI
  | [], acc, _ => by simp [mergeD]
  | t :: l, acc, nd => by
    have fresh : (kvI t).1 ∉ acc.map (·.1) := fun hm => (List.nodup_append.mp nd).2.2 _ hm _ (by simp) rfl
    have ih := merge_new l (acc ++ [kvI t]) (by simpa using nd)
    show mergeD (putKD acc (kvI t).1 (kvI t).2) (l.map kvI) = _
    rw [put_new fresh, ih]
    simp
theorem sum_ints : ∀ l : List Int, sumF (l.map .int) = some (.int l.sum) := fun l => by
  unfold sumF
  rw [ints_map]
  rfl


section
variable {rows : List Rw} {gs : List (Str × Str)} {rooms : List Rm}
theorem lc2_marks {h : D} {G : List O} : ∀ rows : List Rw, (∀ r ∈ rows, r.2.2.length ≤ 100) →
    WP (lc2L (gN 1) dYes (dRng rng1 (dCons (dCall (lenP) (dCons (d2 ixO (dV 1) (dC (.int 2))) dNil)) dNil)) (gN 2) dYes (dTup (dCons (d2 ixO (dV 1) (dC (.int 0))) (dCons (dV 2) dNil))) [2] [some h, none, none] (rows.map toR)) G fun ys G1 => ys = (trip rows).map markD ∧ G1 = G
  | [], _ => WP.ret ⟨rfl, rfl⟩
  | r :: rows, hl => by
    have l1 := hl r List.mem_cons_self
    rw [List.map_cons, lc2L]
    refine WP.bndN (WP.lft rfl (WP.bndN (w_yes ?_)))
    rw [if_pos rfl]
    refine WP.bndN (w_rng (w_cons (w_call (w_cons (w_d2 (w_v rfl (w_c ⟨.tup r.2.2, _, ix2 _ _ _ _ _, w_nil ⟨.int r.2.2.length, _, rfl, w_nil ⟨rngD 0 r.2.2.length, ?_, ?_⟩⟩⟩)))))))
    · unfold rng1
      dsimp only
      rw [smallR (by omega) (by omega)]
      simp
    refine WP.bndN ((w_lcA (fun k : Nat => D.int (0 + (k : Int))) (fun _ => true) (fun k => .tup [.str r.1, .int (k : Int)]) (List.range r.2.2.length) fun k hk => ⟨_, rfl, w_yes ⟨rfl, rfl⟩, fun _ => ?_⟩).imp fun ys G1 ⟨h1, h2⟩ => ?_)
    · refine w_tup (w_cons (w_d2 (w_v rfl (w_c ⟨.str r.1, _, ix0 _ _ _, w_cons (w_v rfl (w_nil ⟨by simp only [List.length_cons, List.length_nil]; decide, ?_, rfl⟩))⟩))))
      have z : ((0 : Int) + (k : Int)) = (k : Int) := by omega
      rw [z]
    · subst h1 h2
      refine WP.bndN ((lc2_marks rows fun q hq => hl q (List.mem_cons_of_mem _ hq)).imp fun zs G2 ⟨h1, h2⟩ => WP.ret ⟨?_, h2⟩)
      subst h1
      unfold trip
      rw [List.flatMap_cons, List.map_append, ftrue, tripS_map, List.map_map]
      refine congrArg (· ++ _) (List.map_congr_left fun k _ => ?_)
      simp [markD]
theorem all_marks_ok (h : Nm rows gs rooms) : Ans F_all_marks [houseU rows gs rooms] (.tup ((trip rows).map markD)) := by
  have mz : (1000 : Nat) ≤ mx := by decide
  have lt := trip_len h.rs.l
  have z := h.rs.z
  refine w_run ?_
  unfold ds_all_marks
  refine w_ret (w_call (w_cons (WP.bnd ((w_itQ (Ql := fun es G1 => es = rows.map toR ∧ G1 = []) (w_d2 (w_v rfl (w_c ⟨.tup (rows.map toR), _, rfl, _, rfl, rfl, rfl⟩)))).imp fun es G1 ⟨h1, h2⟩ => ?_))))
  subst h1 h2
  refine WP.bndN ((lc2_marks rows h.rs.l).imp fun ys G2 ⟨h1, h2⟩ => ?_)
  subst h1 h2
  refine WP.pur (a := .lst ((trip rows).map markD)) ?_ (w_nil ⟨_, _, rfl, _, rfl, rfl⟩)
  unfold lstO
  rw [if_pos (by rw [List.length_map]; omega)]
theorem hosts_above_ok {a b : List Rw} {one : Rw} (h : Nm (a ++ one :: b) gs rooms) {t0 : Str} {c d : List Rw} {r0 : Rw} (e0 : a ++ one :: b = c ++ r0 :: d) (n0 : r0.1 = t0) (g0 : r0.2.1 = "") (hg : one.2.1 = "" ∨ (one.2.1 = "g" ∧ gs = [(("g" : Str), t0)])) :
    Ans F_hosts_above [houseU (a ++ one :: b) gs rooms, .str one.1] (.tup (if one.2.1 == ("" : Str) then [] else [.str t0])) := by
  have nrU := houseU_nr h.rs h.gm
  have ge := group_of_ok (gs := gs) (rooms := rooms) h.rs h.gm
  have rs := h.rs
  rw [e0] at rs
  have ge0 := group_of_ok (gs := gs) (rooms := rooms) rs h.gm
  rw [← e0, n0, g0] at ge0
  have okg : PyData.strOk "g" = true ∧ PyData.strOk "" = true := ⟨by decide +kernel, by decide +kernel⟩
  refine w_run ?_
  unfold ds_hosts_above
  refine w_seq (w_asg (w_lstM (w_nil ⟨by decide, _, _, rfl, w_then ?_⟩)))
  refine w_seq (w_asg (w_ansX (w_cons (w_v rfl (w_cons (w_v rfl (w_nil ⟨by simp [noRs, nrU, noR], _, ge, rfl, _, _, rfl, w_then ?_⟩)))))))
  rcases hg with hg | ⟨hg, hgs⟩
  · rw [hg]
    refine w_seq (w_while0 (n := 999) (w_test (w_d2 (w_v rfl (w_c ⟨_, _, eqS okg.2 okg.2, _, rfl, rfl, w_then ?_⟩)))))
    exact w_ret (w_call (w_cons (w_v rfl (w_nil ⟨.tup [], _, rfl, _, rfl, rfl⟩))))
  · rw [hg]
    have hf : gs.find? (fun p => p.1 == ("g" : Str)) = some (("g" : Str), t0) := by rw [hgs]; simp
    refine w_seq (w_while1 (n := 999) (w_test (w_d2 (w_v rfl (w_c ⟨_, _, eqS okg.1 okg.2, _, rfl, rfl, ?_⟩)))))
    refine w_seq (w_expr (w_meth (w_v rfl ⟨⟨_, rfl⟩, w_cons (w_ansX (w_cons (w_v rfl (w_cons (w_v rfl (w_nil ⟨by simp [noRs, nrU, noR], _, host_of_ok h okg.1 hf, rfl, w_nil ⟨.non, [O.lst [.str t0]], rfl, w_then ?_⟩⟩))))))⟩)))
    refine w_asg (w_ansX (w_cons (w_v rfl (w_cons (w_d2 (w_v rfl (w_neg (w_c ⟨.int (-1), rfl, .str t0, _, rfl, w_nil ⟨by simp [noRs, nrU, noR], _, ge0, rfl, _, _, rfl, ?_⟩⟩))))))))
    refine ⟨_, rfl, w_while0 (n := 998) (w_test (w_d2 (w_v rfl (w_c ⟨_, _, eqS okg.2 okg.2, _, rfl, rfl, w_then ?_⟩))))⟩
    exact w_ret (w_call (w_cons (w_v rfl (w_nil ⟨.tup [.str t0], _, rfl, _, rfl, rfl⟩))))
end

end K02

namespace K02
open PySem PySem.Spec PyProof.Rows L2 Tw
/-! ### trees of lists, too -/
def okW : Nat → D → Bool
  | _, .str z => PyData.strOk z
  | _, .int _ => true
  | n + 1, .tup xs => decide (xs.length ≤ 1000) && xs.all (okW n)
  | n + 1, .lst xs => decide (xs.length ≤ 1000) && xs.all (okW n)
  | _, _ => false
theorem okW_tup {n : Nat} {xs : List D} : okW (n + 1) (.tup xs) = true ↔ xs.length ≤ 1000 ∧ ∀ x ∈ xs, okW n x = true := by
  show (decide (xs.length ≤ 1000) && xs.all (okW n)) = true ↔ _
  rw [Bool.and_eq_true, decide_eq_true_eq, List.all_eq_true]
theorem okW_lst {n : Nat} {xs : List D} : okW (n + 1) (.lst xs) = true ↔ xs.length ≤ 1000 ∧ ∀ x ∈ xs, okW n x = true := by
  show (decide (xs.length ≤ 1000) && xs.all (okW n)) = true ↔ _
  rw [Bool.and_eq_true, decide_eq_true_eq, List.all_eq_true]
theorem okW_up (n : Nat) : ∀ d : D, okW n d = true → okW (n + 1) d = true := by
  induction n with
  | zero =>
    intro d h
    cases d <;> first | exact h | (simp [okW] at h)
  | succ n ih =>
    intro d h
    cases d with
    | str z => exact h
    | int i => rfl
    | tup xs =>
      obtain ⟨a, b⟩ := okW_tup.mp h
      exact okW_tup.mpr ⟨a, fun x hx => ih x (b x hx)⟩
    | lst xs =>
      obtain ⟨a, b⟩ := okW_lst.mp h
      exact okW_lst.mpr ⟨a, fun x hx => ih x (b x hx)⟩
    | _ => simp [okW] at h
theorem okU_W (n : Nat) : ∀ d : D, okU n d = true → okW n d = true := by
  induction n with
  | zero =>
    intro d h
    cases d <;> first | exact h | (simp [okU] at h)
  | succ n ih =>
    intro d h
    cases d with
    | str z => exact h
    | int i => rfl
    | tup xs =>
      obtain ⟨a, b⟩ := okU_tup.mp h
      exact okW_tup.mpr ⟨a, fun x hx => ih x (b x hx)⟩
    | _ => simp [okU] at h
theorem okW_all (n : Nat) : ∀ d : D, okW n d = true → noR d = true ∧ wkA d = d ∧ Ans (F_l_same (n + 1)) [d, d] (.bl true) := by
  induction n with
  | zero =>
    intro d h
    cases d with
    | str z => exact ⟨rfl, by simp only [wkA], same_str h _⟩
    | int i => exact ⟨rfl, by simp only [wkA], same_int i _⟩
    | _ => simp [okW] at h
  | succ n ih =>
    intro d h
    cases d with
    | str z => exact ⟨rfl, by simp only [wkA], same_str h _⟩
    | int i => exact ⟨rfl, by simp only [wkA], same_int i _⟩
    | tup xs =>
      obtain ⟨a, b⟩ := okW_tup.mp h
      refine ⟨noRs_of fun x hx => (ih x (b x hx)).1, ?_, same_seq (.inl rfl) a fun x hx => ⟨(ih x (b x hx)).1, (ih x (b x hx)).2.2⟩⟩
      rw [wkA_tup, List.map_congr_left (g := id) fun x hx => (ih x (b x hx)).2.1, List.map_id]
    | lst xs =>
      obtain ⟨a, b⟩ := okW_lst.mp h
      refine ⟨noRs_of fun x hx => (ih x (b x hx)).1, ?_, same_seq (.inr rfl) a fun x hx => ⟨(ih x (b x hx)).1, (ih x (b x hx)).2.2⟩⟩
      simp only [wkA, wkAs_map]
      rw [List.map_congr_left (g := id) fun x hx => (ih x (b x hx)).2.1, List.map_id]
    | _ => simp [okW] at h
theorem okW_strs {l : List Str} (h : l.all PyData.strOk = true) (hz : l.length ≤ 1000) (n : Nat) : okW (n + 1) (.tup (l.map .str)) = true := by
  refine okW_tup.mpr ⟨by rw [List.length_map]; exact hz, fun x hx => ?_⟩
  obtain ⟨z, hz, rfl⟩ := List.mem_map.mp hx
  have := List.all_eq_true.mp h z hz
  cases n <;> exact this
/-! ### lanes -/
def lnOk (d : D) : Bool := (!(qw2.contains (wrd d)) || (["p", "q"] : List Str).contains (arg d)) && (!(sg2.contains (wrd d)) || (["p", "q"] : List Str).contains (arg d))
theorem Pl_ln : Pl.all lnOk = true := by kernel_rfl
theorem io_ln : [inD1, outD1].all lnOk = true := by kernel_rfl
theorem Jn_ln : names5.all (fun x => (Jn x).all lnOk) = true := by kernel_rfl
theorem St_ln : names5.all (fun x => lnOk (startD x)) = true := by kernel_rfl
theorem Sh_ln : [shutD "close", shutD "catch"].all lnOk = true := by kernel_rfl
section
variable {tags crowd begun ts : List Str} {t0 : Str} {rows : List Rw} {gs : List (Str × Str)} {rooms : List Rm}
theorem Ho.lns (h : Ho tags crowd begun t0 ts rows gs rooms) : ∀ r ∈ rows, ∀ d ∈ r.2.2, lnOk d = true := by
  have dr : ∀ {others : List Str}, (∀ x ∈ others, x ∈ names5) → ∀ {d : D}, Dr1 others d → lnOk d = true := fun hn d h => by
    rcases h with h | rfl | rfl | ⟨x, hx, h⟩
    · exact List.all_eq_true.mp Pl_ln d h
    · exact List.all_eq_true.mp io_ln _ (by simp)
    · exact List.all_eq_true.mp io_ln _ (by simp)
    · exact List.all_eq_true.mp (List.all_eq_true.mp Jn_ln x (hn x hx)) d h
  obtain ⟨r0, rest, rfl, e0, hf, hrest⟩ := h.split
  intro r hr d hd
  rcases List.mem_cons.mp hr with rfl | hr
  · obtain ⟨s1, s2, sh, es, hds, hl, hsh⟩ := hf
    rw [es] at hd
    rcases List.mem_append.mp hd with hd | hd
    · obtain ⟨y, hy, rfl⟩ := List.mem_map.mp hd
      exact List.all_eq_true.mp St_ln y (h.b5 y hy)
    · rcases List.mem_append.mp hd with hd | hd
      · exact dr (h.others t0) (hds.1 d (List.mem_append_left _ hd))
      · rcases List.mem_append.mp hd with hd | hd
        · rcases hsh with ⟨_, rfl⟩ | ⟨_, rfl | rfl⟩
          · cases hd
          · rw [List.mem_singleton.mp hd]; exact List.all_eq_true.mp Sh_ln _ (by simp)
          · rw [List.mem_singleton.mp hd]; exact List.all_eq_true.mp Sh_ln _ (by simp)
        · exact dr (h.others t0) (hds.1 d (List.mem_append_right _ hd))
  · exact dr (h.others r.1) ((hrest r hr).2.1 d hd)
theorem Ho.nmv (h : Ho tags crowd begun t0 ts rows gs rooms) : Nm rows gs rooms := by
  have ho := h.rowsOk
  have lr : rows.length ≤ 4 := by
    have e : rows.length = tags.length := by rw [← h.names, List.length_map]
    rw [e]
    exact h.tg.hi
  have ch : ∀ r ∈ rows, ∀ d ∈ r.2.2, chk2 d = true := fun r hr => (h.sc r hr).c
  have ll : ∀ r ∈ rows, r.2.2.length ≤ 20 := fun r hr => (h.sc r hr).l
  have fstS : (nm sw1 rows).map (·.1) = begun := by rw [h.starts, stI_fst]
  have lns := h.lns
  refine ⟨⟨fun r hr => ho.1.n r hr, fun r hr => ho.1.g r hr, h.us, fun r hr => by have := ll r hr; omega, by omega, ho.1.nd⟩, ⟨fun p hp => ?_, ?_, fun p hp => ?_, ?_⟩, ?_, ?_, ?_, ?_, ho.1.s, fun ws => ?_, fun t ht => ?_, fun t ht => ?_, fun p hp => h.rms.subset (List.mem_map.mpr ⟨p, hp, rfl⟩), fun ws hw t ht => ?_, by rw [fstS]; exact h.bnd⟩
  · rw [h.gs] at hp
    split at hp
    · cases hp
    · rw [List.mem_singleton.mp hp]
      exact ⟨(by show PyData.strOk "g" = true; decide +kernel), okm (h.tg.mem t0 (by rw [h.cons]; simp))⟩
  · rw [h.gs]
    split <;> simp
  · have := h.rms.subset (List.mem_map.mpr ⟨p, hp, rfl⟩)
    have q : (["p", "q"] : List Str).all PyData.strOk = true := by decide +kernel
    exact List.all_eq_true.mp q p.1 this
  · have := h.rms.length_le
    rw [List.length_map] at this
    simp at this
    omega
  · exact fun r hr => List.all_eq_true.mpr fun d hd => (chk2_all (ch r hr d hd)).2.1.1
  · exact fun r hr => List.all_eq_true.mpr fun d hd => (chk2_all (ch r hr d hd)).2.1.2
  · exact fun r hr => List.all_eq_true.mpr fun d hd => (chk2_all (ch r hr d hd)).2.2.2.2.1
  · exact fun r hr => List.all_eq_true.mpr fun d hd => (chk2_all (ch r hr d hd)).2.2.2.1
  · have := nm_len ws ll
    have : rows.length * 20 ≤ 4 * 20 := Nat.mul_le_mul_right _ lr
    omega
  · obtain ⟨r, hr, d, hd, hc, e1, e2⟩ := nm_mem ht
    have := lns r hr d hd
    unfold lnOk at this
    rw [hc] at this
    simp only [Bool.not_true, Bool.false_or, Bool.and_eq_true] at this
    rw [e1]
    exact List.contains_iff_mem.mp this.1
  · obtain ⟨r, hr, d, hd, hc, e1, e2⟩ := nm_mem ht
    have := lns r hr d hd
    unfold lnOk at this
    rw [hc] at this
    simp only [Bool.not_true, Bool.false_or, Bool.and_eq_true] at this
    rw [e1]
    exact List.contains_iff_mem.mp this.2
  · rcases hw with rfl | rfl
    · have : t.1 ∈ begun := by rw [← fstS]; exact List.mem_map.mpr ⟨t, ht, rfl⟩
      exact okm (h.b5 _ this)
    · rcases h.shuts with ⟨_, e⟩ | ⟨_, k, _, e⟩
      · rw [e] at ht; cases ht
      · rw [e] at ht
        rw [List.mem_singleton.mp ht]
        show PyData.strOk "g" = true
        decide +kernel
end
end K02

namespace K02
open PySem PySem.Spec PyProof.Rows L2 Tw
theorem catL {xs ys : List D} {G : List O} (h : xs.length + ys.length ≤ mx) : catP okL (.lst xs) (.lst ys) G = some (.lst (xs ++ ys), G) := by
  unfold catP lonly
  simp only
  rw [if_pos h]
  unfold okL pur lstO
  rw [if_pos (by rw [List.length_append]; exact h)]
/-! ### right -/
abbrev gb5 (xs : List D) : Prop := xs.length ≤ 100 ∧ ∀ x ∈ xs, okW 5 x = true
theorem one_c (w : Str) : sw1.contains w = (w == ("start" : Str)) := by
  unfold sw1
  by_cases h : w = "start"
  · subst h
    rfl
  · have h2 : ("start" : Str) ≠ w := fun e => h e.symm
    simp [h]
theorem trip_is {rows : List Rw} {gs : List (Str × Str)} {rooms : List Rm} (h : Nm rows gs rooms) {t : Str × Nat × D} (ht : t ∈ trip rows) : ∃ w r, t.2.2 = .tup (.str w :: r) ∧ PyData.strOk w = true ∧ wrd t.2.2 = w := by
  obtain ⟨r, hr, _, hd⟩ := trip_mem ht
  exact isS_eq (List.all_eq_true.mp (h.is r hr) _ hd)
theorem trip_arg {rows : List Rw} {ws : List Str} (h : ∀ r ∈ rows, r.2.2.all (okA ws) = true) {t : Str × Nat × D} (ht : t ∈ trip rows) (c : ws.contains (wrd t.2.2) = true) : ∃ w a r, t.2.2 = .tup (.str w :: .str a :: r) ∧ arg t.2.2 = a := by
  obtain ⟨r, hr, _, hd⟩ := trip_mem ht
  have z := List.all_eq_true.mp (h r hr) _ hd
  unfold okA at z
  rw [c] at z
  obtain ⟨z1, z2⟩ := Bool.and_eq_true_iff.mp z
  obtain ⟨w, rr, e, _, _⟩ := isS_eq z1
  rw [e] at z2 ⊢
  cases rr with
  | nil => cases z2
  | cons a0 rr =>
    cases a0 with
    | str a => exact ⟨w, a, rr, rfl, rfl⟩
    | _ => cases z2
theorem w_rowsT {t : Str × Nat × D} {ws : List Str} {ρ : En} {G : List O} {Q : Bool → List O → Prop} {b : En → M D} {w : Str} {r : List D} (e : t.2.2 = .tup (.str w :: r)) (h19 : ρ[19]? = some (some t.2.2)) (hb : WP (b ρ) G fun d G1 => d = .tup (ws.map .str) ∧ G1 = G) (q : Q (ws.contains (wrd t.2.2)) G) :
    WP (dTest (d2 (pur2 (inO false)) (d2 ixO (dV 19) (dC (.int 0))) b) ρ) G Q := by
  rw [e] at h19 q
  refine w_test (w_d2 (w_d2 (w_v h19 (w_c ⟨.str w, _, ix0 _ _ _, hb.imp fun d G1 ⟨h1, h2⟩ => ?_⟩))))
  subst h1 h2
  refine ⟨_, _, ?_, _, rfl, q⟩
  unfold pur2 pur
  rw [inO_str]
  rfl
theorem noR_int (l : List Int) : noRs (l.map D.int) = true := by
  induction l with
  | nil => rfl
  | cons i l ih => simp [noRs, noR, ih]
section
variable {rows : List Rw} {gs : List (Str × Str)} {rooms : List Rm}
/-- the names drawn from the law's rows -/
theorem w_names {ws : List Str} {ρ : En} {G : List O} {Q : D → List O → Prop} {b : En → M D} (h : Nm rows gs rooms) (hw : ∀ r ∈ rows, r.2.2.all (okA ws) = true) (h5 : ρ[5]? = some (some (.lst ((trip rows).map tripD)))) (l21 : ρ.length = 21)
    (hb : ∀ ρ, WP (b ρ) G fun d G1 => d = .tup (ws.map .str) ∧ G1 = G) (q : Q (.lst (((nm ws rows).map (·.1)).map .str)) G) : WP (dLc (dItL (dV 5)) (gT 3 (gsCons (gN 7) (gsCons (gN 18) (gsCons (gN 19) gsNil)))) (dTest (d2 (pur2 (inO false)) (d2 ixO (dV 19) (dC (.int 0))) b)) (d2 ixO (dV 19) (dC (.int 1))) [7, 18, 19] ρ) G Q := by
  have mz : (1000 : Nat) ≤ mx := by decide
  have lt := trip_len h.rs.l
  have z := h.rs.z
  have m2 : (2000 : Nat) ≤ mx := by decide
  have lw : (wipeD ρ [7, 18, 19]).length = 21 := by simp [wipeD, l21]
  refine w_lcB (trip rows) tripD (fun t => ws.contains (wrd t.2.2)) (fun t => .str (arg t.2.2)) (w_itL (w_v h5 ⟨_, rfl, rfl, rfl⟩)) (by omega) (fun t ht => ⟨_, rfl, ?_, fun c => ?_⟩) ?_
  · obtain ⟨w, r, e, _, _⟩ := trip_is h ht
    exact w_rowsT e (List.getElem?_set_self (by simp [lw])) (hb _) ⟨rfl, rfl⟩
  · obtain ⟨w, a, r, e, ea⟩ := trip_arg hw ht c
    rw [ea]
    refine w_d2 (w_v (List.getElem?_set_self (by simp [lw])) (w_c ⟨.str a, _, ?_, rfl, rfl⟩))
    rw [e]
    exact ix1 _ _ _ _
  · rw [nm_trip, List.map_map, List.map_map] at q
    exact q
end

end K02

namespace K02
open PySem PySem.Spec PyProof.Rows L2 Tw
def shieldsL (r : Rw) : D := .lst ((List.range (r.2.2.length + 1)).map fun k => .int (((r.2.2.map delta).take k).sum))
def hostsD (t0 : Str) (r : Rw) : D := .tup (if r.2.1 == ("" : Str) then [] else [.str t0])
/-- what is told of one task -/
def told7 (rows : List Rw) (t0 : Str) (r : Rw) : List D := [.tup r.2.2, .str r.2.1, shieldsL r, .lst r.2.2, starterD rows r.1, hostsD t0 r]
def envR (rows : List Rw) (gs : List (Str × Str)) (rooms : List Rm) (us : List (Option D)) : En := [some (.ref 0), some (houseU rows gs rooms), some (.tup (rows.map toR)), some (.tup (gs.map pairD)), some (.tup (rooms.map roomD)), some (.lst ((trip rows).map tripD))] ++ us
abbrev b_task : En → M Out := (dSeq (dAsg (dLc (dItT (dV 14)) (gN 19) dYes (d2 (pur2 subO) (dCall (pur1 intF) (dCons (d2 (pur2 (eqO false)) (d2 ixO (dV 19) (dC (.int 0))) (dC (.str "in"))) dNil)) (dCall (pur1 intF) (dCons (d2 (pur2 (eqO false)) (d2 ixO (dV 19) (dC (.int 0))) (dC (.str "out"))) dNil))) [19]) (gN 15)) (dSeq (dAsg (dLc (dRng rng1 (dCons (d2 (pur2 addO) (dCall (lenP) (dCons (dV 14) dNil)) (dC (.int 1))) dNil)) (gN 18) dYes (dCall (lP sumF) (dCons (dSl (dV 15) dNoP (dP (dV 18))) dNil)) [18]) (gN 16)) (dSeq (dAsg (d2 (catP okL) (dV 11) (dLst (dCons (dFpX F_script_of (dCons (dV 1) (dCons (dV 7) dNil))) (dCons (dFpX F_group_of (dCons (dV 1) (dCons (dV 7) dNil))) dNil)))) (gN 11)) (dSeq (dAsg (d2 (catP okL) (dV 11) (dLst (dCons (dLc (dRng rng1 (dCons (d2 (pur2 addO) (dCall (lenP) (dCons (dV 14) dNil)) (dC (.int 1))) dNil)) (gN 18) dYes (dFpX F_shields_at (dCons (dV 1) (dCons (dV 7) (dCons (dV 18) dNil)))) [18]) dNil))) (gN 11)) (dSeq (dAsg (d2 (catP okL) (dV 12) (dLst (dCons (dV 14) (dCons (dV 13) (dCons (dV 16) dNil))))) (gN 12)) (dSeq (dAsg (d2 (catP okL) (dV 11) (dLst (dCons (dLc (dRng rng1 (dCons (dCall (lenP) (dCons (dV 14) dNil)) dNil)) (gN 18) dYes (dFpX F_step_of (dCons (dV 1) (dCons (dV 7) (dCons (dV 18) dNil)))) [18]) (dCons (dFpX F_starter_of (dCons (dV 1) (dCons (dV 7) dNil))) dNil)))) (gN 11)) (dSeq (dAsg (d2 (catP okL) (dV 11) (dLst (dCons (dFpX F_hosts_above (dCons (dV 1) (dCons (dV 7) dNil))) dNil))) (gN 11)) (dAsg (d2 (catP okL) (dV 12) (dLst (dCons (dFrz (dCall (listP newL) (dCons (dV 14) dNil))) (dCons (dIf (dTest (d2 (dinP false) (dV 7) (dV 8))) (d2 dgetP (dV 8) (dV 7)) (dTup dNil)) (dCons (dIf (dTest (d2 (pur2 (eqO true)) (dV 13) (dC (.str "")))) (dTup (dCons (d2 ixO (d2 ixO (dV 2) (dC (.int 0))) (dC (.int 0))) dNil)) (dTup dNil)) dNil))))) (gN 12)))))))))
theorem getD_at {s : List D} {k : Nat} (h : k < s.length) : s[k]? = some (s.getD k .non) := by
  rw [List.getD_eq_getElem?_getD, List.getElem?_eq_getElem h]
  rfl
theorem task_ok {a b : List Rw} {r : Rw} {gs : List (Str × Str)} {rooms : List Rm} {t0 : Str} {xs : List D} {u6 u7 u9 u10 u13 u14 u15 u16 u17 u18 u19 u20 : Option D} {G : List O} (h : Nm (a ++ r :: b) gs rooms) {c d : List Rw} {r0 : Rw} (e0 : a ++ r :: b = r0 :: d) (n0 : r0.1 = t0) (g0 : r0.2.1 = "")
    (hg : r.2.1 = "" ∨ (r.2.1 = "g" ∧ gs = [(("g" : Str), t0)])) (hx : xs.length ≤ 100) :
    WP (b_task (envR (a ++ r :: b) gs rooms [u6, some (.str r.1), some (.dct ((nm sw1 (a ++ r :: b)).map kvI)), u9, u10, some (.lst xs), some (.lst xs), some (.str r.2.1), some (.tup r.2.2), u15, u16, u17, u18, u19, u20])) G fun o G2 => ∃ v15 v16, o = .nx (envR (a ++ r :: b) gs rooms [u6, some (.str r.1), some (.dct ((nm sw1 (a ++ r :: b)).map kvI)), u9, u10, some (.lst (xs ++ told7 (a ++ r :: b) t0 r)), some (.lst (xs ++ told7 (a ++ r :: b) t0 r)), some (.str r.2.1), some (.tup r.2.2), v15, v16, u17, u18, u19, u20]) ∧ ∃ f, G2 = G ++ f := by
  have mz : (1000 : Nat) ≤ mx := by decide
  have h1 : r ∈ a ++ r :: b := by simp
  have nrU := houseU_nr h.rs h.gm
  have l1 := h.rs.l r h1
  have isr := List.all_eq_true.mp (h.is r h1)
  have nrS : noRs r.2.2 = true := isS_nrs (h.is r h1)
  have nrA : noRs [houseU (a ++ r :: b) gs rooms, .str r.1] = true := by simp [noRs, nrU, noR]
  have nrB : ∀ k : Nat, noRs [houseU (a ++ r :: b) gs rooms, .str r.1, .int (k : Int)] = true := fun k => by simp [noRs, nrU, noR]
  have okio : PyData.strOk "in" = true ∧ PyData.strOk "out" = true ∧ PyData.strOk "" = true := ⟨by decide +kernel, by decide +kernel, by decide +kernel⟩
  unfold envR
  simp only [List.cons_append, List.nil_append]
  -- ups
  refine w_seq (w_asg (w_lcB r.2.2 id (fun _ => true) (fun d => .int (delta d)) (w_itT (w_v rfl ⟨_, rfl, by simp, rfl⟩)) (by omega) (fun d hd => ⟨_, rfl, w_yes ⟨rfl, rfl⟩, fun _ => ?_⟩) ?_))
  · obtain ⟨w, rr, ed, hw, ew⟩ := isS_eq (isr d hd)
    subst ed
    refine w_d2 (w_call (w_cons (w_d2 (w_d2 (w_v rfl (w_c ⟨.str w, _, ix0 _ _ _, w_c ⟨_, _, eqS hw okio.1, ?_⟩⟩))))))
    refine w_nil ⟨_, _, rfl, w_call (w_cons (w_d2 (w_d2 (w_v rfl (w_c ⟨.str w, _, ix0 _ _ _, w_c ⟨_, _, eqS hw okio.2.1, ?_⟩⟩)))))⟩
    refine w_nil ⟨_, _, rfl, _, _, rfl, ?_, rfl⟩
    show D.int ((if (w == ("in" : Str)) = true then 1 else 0) - (if (w == ("out" : Str)) = true then 1 else 0)) = .int (delta (.tup (.str w :: rr)))
    unfold delta wrd
    by_cases c1 : (w == ("in" : Str)) = true
    · have e1 := beq_iff_eq.mp c1
      subst e1
      rfl
    · rw [if_neg c1, if_neg c1]
      split <;> rfl
  rw [ftrue]
  refine ⟨_, _, rfl, w_then ?_⟩
  -- far
  refine w_seq (w_asg (w_lcR (n := r.2.2.length + 1) (fun k => .int (((r.2.2.map delta).take k).sum)) ?_ (by omega) (fun k hk => ?_) ?_))
  · exact w_cons (w_d2 (w_call (w_cons (w_v rfl (w_nil ⟨.int r.2.2.length, _, rfl, w_c ⟨.int ((r.2.2.length : Int) + 1), _, rfl, w_nil ⟨by simp, rfl⟩⟩⟩)))))
  · refine w_call (w_cons (w_sl (w_v rfl (w_noP (w_P (w_v rfl ⟨_, rfl, .lst (((r.2.2.map delta).take k).map .int), ?_, w_nil ⟨.int (((r.2.2.map delta).take k).sum), _, ?_, rfl, rfl⟩⟩))))))
    · show some (D.lst (Tw.cutD (r.2.2.map fun d => D.int (delta d)) none (some (k : Int)))) = _
      rw [cut_take, List.map_take, List.map_map]
      rfl
    · unfold lP
      show (match sumF (((r.2.2.map delta).take k).map .int) with | some d => some (d, G) | none => none) = _
      rw [sum_ints]
  refine ⟨_, _, rfl, w_then ?_⟩
  -- got: the script, the group
  refine w_seq (w_asg (w_d2 (w_v rfl (w_lst (w_cons (w_ansX (w_cons (w_v rfl (w_cons (w_v rfl ?_))))))))))
  refine w_nil ⟨nrA, _, script_of_ok h.rs h.gm, by simp only [noR]; exact nrS, ?_⟩
  refine w_cons (w_ansX (w_cons (w_v rfl (w_cons (w_v rfl ?_)))))
  refine w_nil ⟨nrA, _, group_of_ok h.rs h.gm, rfl, ?_⟩
  refine w_nil ⟨by simp only [List.length_cons, List.length_nil]; decide, ?_⟩
  refine ⟨_, _, catL (by simp only [List.length_cons, List.length_nil]; omega), _, _, rfl, w_then ?_⟩
  -- the shields
  refine w_seq (w_asg (w_d2 (w_v rfl (w_lst (w_cons (w_lcR (n := r.2.2.length + 1) (fun k => .int (((r.2.2.map delta).take k).sum)) ?_ (by omega) (fun k hk => ?_) ?_))))))
  · exact w_cons (w_d2 (w_call (w_cons (w_v rfl (w_nil ⟨.int r.2.2.length, _, rfl, w_c ⟨.int ((r.2.2.length : Int) + 1), _, rfl, w_nil ⟨by simp, rfl⟩⟩⟩)))))
  · refine w_ansX (w_cons (w_v rfl (w_cons (w_v rfl (w_cons (w_v rfl (w_nil ⟨nrB k, _, shields_at_ok h (by omega) (dl_at r.2.2 0 k (by omega)), rfl, ?_, rfl⟩)))))))
    simp
  refine w_nil ⟨by simp only [List.length_cons, List.length_nil]; decide, ?_⟩
  refine ⟨_, _, catL (by simp only [List.length_append, List.length_cons, List.length_nil]; omega), _, _, rfl, w_then ?_⟩
  -- due
  refine w_seq (w_asg (w_d2 (w_v rfl (w_lst (w_cons (w_v rfl (w_cons (w_v rfl (w_cons (w_v rfl ?_))))))))))
  refine w_nil ⟨by simp only [List.length_cons, List.length_nil]; decide, ?_⟩
  refine ⟨_, _, catL (by simp only [List.length_cons, List.length_nil]; omega), _, _, rfl, w_then ?_⟩
  -- the steps, the starter
  refine w_seq (w_asg (w_d2 (w_v rfl (w_lst (w_cons (w_lcR (n := r.2.2.length) (fun k => r.2.2.getD k .non) ?_ (by omega) (fun k hk => ?_) ?_))))))
  · exact w_cons (w_call (w_cons (w_v rfl (w_nil ⟨.int r.2.2.length, _, rfl, w_nil ⟨by simp, rfl⟩⟩))))
  · refine w_ansX (w_cons (w_v rfl (w_cons (w_v rfl (w_cons (w_v rfl (w_nil ⟨nrB k, _, step_of_ok h (getD_at hk), ?_, rfl, rfl⟩)))))))
    exact isS_nr (isr _ (List.mem_of_getElem? (getD_at hk)))
  have eS : (List.range r.2.2.length).map (fun k => r.2.2.getD k D.non) = r.2.2 := by
    apply List.ext_getElem?
    intro i
    rw [List.getElem?_map]
    by_cases hi : i < r.2.2.length
    · rw [List.getElem?_range hi, getD_at hi]
      rfl
    · rw [List.getElem?_eq_none (by simp; omega), List.getElem?_eq_none (by omega)]
      rfl
  rw [eS]
  refine w_cons (w_ansX (w_cons (w_v rfl (w_cons (w_v rfl ?_)))))
  have nst : noR (starterD (a ++ r :: b) r.1) = true := by
    unfold starterD
    split <;> rfl
  refine w_nil ⟨nrA, _, starter_of_ok h, nst, ?_⟩
  refine w_nil ⟨by simp only [List.length_cons, List.length_nil]; decide, ?_⟩
  refine ⟨_, _, catL (by simp only [List.length_append, List.length_cons, List.length_nil]; omega), _, _, rfl, w_then ?_⟩
  -- the hosts
  refine w_seq (w_asg (w_d2 (w_v rfl (w_lst (w_cons (w_ansX (w_cons (w_v rfl (w_cons (w_v rfl ?_))))))))))
  have hab := hosts_above_ok (c := []) h e0 n0 g0 hg
  refine w_nil ⟨nrA, _, hab, by split <;> rfl, ?_⟩
  refine w_nil ⟨by simp only [List.length_cons, List.length_nil]; decide, ?_⟩
  refine ⟨_, _, catL (by simp only [List.length_append, List.length_cons, List.length_nil]; omega), _, _, rfl, w_then ?_⟩
  -- due
  refine w_asg (w_d2 (w_v rfl (w_lst (w_cons (w_frz (w_call (w_cons (w_v rfl ?_))))))))
  refine w_nil ⟨.ref G.length, G ++ [O.lst r.2.2], ?_, .lst r.2.2, G ++ [O.gone], ?_, ?_⟩
  · unfold listP
    simp only [inS]
    unfold newL
    rw [if_pos (by omega)]
  · unfold frzD
    simp [frzO]
  have lk : lookK ((nm sw1 (a ++ r :: b)).map kvI) (.inr r.1) = ((nm sw1 (a ++ r :: b)).find? fun t => t.1 == r.1).map kvI2 := look_find r.1 _
  have dg : dgetO (.dct ((nm sw1 (a ++ r :: b)).map kvI)) (.str r.1) (G ++ [O.gone]) = some (((nm sw1 (a ++ r :: b)).find? fun t => t.1 == r.1).map kvI2) := by
    rw [← lk]
    rfl
  refine w_cons (w_if (w_test (w_d2 (w_v rfl (w_v rfl ⟨_, _, din_eq dg, _, rfl, fun c => ?_, fun c => ?_⟩)))))
  all_goals
    have fin : ∀ {ρ : En} {Q : List D → List O → Prop}, ρ[13]? = some (some (.str r.2.1)) → ρ[2]? = some (some (.tup ((a ++ r :: b).map toR))) → Q [hostsD t0 r] (G ++ [O.gone]) → WP (dCons (dIf (dTest (d2 (pur2 (eqO true)) (dV 13) (dC (.str "")))) (dTup (dCons (d2 ixO (d2 ixO (dV 2) (dC (.int 0))) (dC (.int 0))) dNil)) (dTup dNil)) dNil ρ) (G ++ [O.gone]) Q := fun {ρ Q} h13 h2 q => by
      unfold hostsD at q
      refine w_cons (w_if (w_test (w_d2 (w_v h13 (w_c ⟨_, _, eqS (h.rs.g r h1) okio.2.2, _, rfl, fun c => ?_, fun c => ?_⟩)))))
      · have c' : (!(r.2.1 == ("" : Str))) = true := c
        have c2 : (r.2.1 == ("" : Str)) = false := by simpa using c'
        rw [c2, if_neg (by simp)] at q
        refine w_tup (w_cons (w_d2 (w_d2 (w_v h2 (w_c ⟨toR r0, G ++ [O.gone], ?_, w_c ⟨.str t0, G ++ [O.gone], ?_, w_nil ⟨by simp only [List.length_cons, List.length_nil]; decide, w_nil q⟩⟩⟩)))))
        · rw [e0, List.map_cons]
          exact atN (i := 0) rfl rfl _
        · rw [← n0]
          exact ix0 _ _ _
      · have c' : (!(r.2.1 == ("" : Str))) = false := c
        have c2 : (r.2.1 == ("" : Str)) = true := by simpa using c'
        rw [c2, if_pos rfl] at q
        exact w_tup (w_nil ⟨by decide, w_nil q⟩)
  · cases hf : (nm sw1 (a ++ r :: b)).find? fun t => t.1 == r.1 with
    | none => rw [hf] at c; cases c
    | some t =>
      rw [hf] at dg
      refine w_d2 (w_v rfl (w_v rfl ⟨kvI2 t, G ++ [O.gone], ?_, ?_⟩))
      · unfold dgetP
        rw [dg]
        rfl
      refine fin rfl rfl ⟨by simp only [List.length_cons, List.length_nil]; decide, ?_⟩
      refine ⟨_, _, catL (by simp only [List.length_append, List.length_cons, List.length_nil]; omega), _, _, rfl, some (.lst (r.2.2.map fun d => .int (delta d))), some (.lst ((List.range (r.2.2.length + 1)).map fun k => .int (((r.2.2.map delta).take k).sum))), ?_, _, rfl⟩
      have es : starterD (a ++ r :: b) r.1 = kvI2 t := by unfold starterD; rw [hf]
      unfold told7
      rw [es]
      simp only [List.append_assoc, List.cons_append, List.nil_append]
      rfl
  · cases hf : (nm sw1 (a ++ r :: b)).find? fun t => t.1 == r.1 with
    | some t => rw [hf] at c; cases c
    | none =>
      refine w_tup (w_nil ⟨by decide, ?_⟩)
      refine fin rfl rfl ⟨by simp only [List.length_cons, List.length_nil]; decide, ?_⟩
      refine ⟨_, _, catL (by simp only [List.length_append, List.length_cons, List.length_nil]; omega), _, _, rfl, some (.lst (r.2.2.map fun d => .int (delta d))), some (.lst ((List.range (r.2.2.length + 1)).map fun k => .int (((r.2.2.map delta).take k).sum))), ?_, _, rfl⟩
      have es : starterD (a ++ r :: b) r.1 = .tup [] := by unfold starterD; rw [hf]
      unfold told7
      rw [es]
      simp only [List.append_assoc, List.cons_append, List.nil_append]
      rfl
end K02

namespace K02
open PySem PySem.Spec PyProof.Rows L2 Tw
theorem told7_ok {rows : List Rw} {t0 : Str} {r : Rw} (hr : r ∈ rows) (rs : Rs rows) (h0 : PyData.strOk t0 = true) : ∀ x ∈ told7 rows t0 r, okW 5 x = true := by
  have l := rs.l r hr
  have u : okU 3 (.tup r.2.2) = true := okU_tup.mpr ⟨by omega, rs.u r hr⟩
  intro x hx
  unfold told7 at hx
  simp only [List.mem_cons, List.not_mem_nil, or_false] at hx
  rcases hx with rfl | rfl | rfl | rfl | rfl | rfl
  · exact okW_up _ _ (okW_up _ _ (okU_W _ _ u))
  · exact rs.g r hr
  · refine okW_lst.mpr ⟨by simp; omega, fun y hy => ?_⟩
    obtain ⟨k, _, rfl⟩ := List.mem_map.mp hy
    rfl
  · exact okW_lst.mpr ⟨by omega, fun y hy => okW_up _ _ (okW_up _ _ (okU_W _ _ (rs.u r hr y hy)))⟩
  · unfold starterD
    split
    · rename_i t ht
      have hm := List.mem_of_find?_eq_some ht
      obtain ⟨q, hq, _, _, _, _, e⟩ := nm_mem hm
      refine okW_tup.mpr ⟨by simp, fun y hy => ?_⟩
      simp only [List.mem_cons, List.not_mem_nil, or_false] at hy
      rcases hy with rfl | rfl
      · rw [e]; exact rs.n q hq
      · rfl
    · rfl
  · unfold hostsD
    refine okW_tup.mpr ⟨by split <;> simp, fun y hy => ?_⟩
    split at hy
    · cases hy
    · rw [List.mem_singleton.mp hy]
      exact h0
section
variable {rows : List Rw} {gs : List (Str × Str)} {rooms : List Rm}
/-- the law's rows -/
theorem rows_ok {G : List O} {Q : Out → List O → Prop} (h : Nm rows gs rooms) (q : ∀ u6, Q (.nx (envR rows gs rooms [u6, none, none, none, none, none, none, none, none, none, none, none, none, none, none])) G) :
    WP (dFor (dItT (dV 2)) (gN 6) (dAsg (d2 (catP okL) (dV 5) (dLc (dRng rng1 (dCons (dCall (lenP) (dCons (d2 ixO (dV 6) (dC (.int 2))) dNil)) dNil)) (gN 18) dYes (dTup (dCons (d2 ixO (dV 6) (dC (.int 0))) (dCons (dV 18) (dCons (d2 ixO (d2 ixO (dV 6) (dC (.int 2))) (dV 18)) dNil)))) [18])) (gN 5)) [some (.ref 0), some (houseU rows gs rooms), some (.tup (rows.map toR)), some (.tup (gs.map pairD)), some (.tup (rooms.map roomD)), some (.lst []), none, none, none, none, none, none, none, none, none, none, none, none, none, none, none]) G Q := by
  have m2 : (2000 : Nat) ≤ mx := by decide
  have z := h.rs.z
  refine w_for (w_itT (w_v rfl ⟨rows.map toR, rfl, ?_⟩))
  refine w_loop (fun ds ρ G1 => ∃ (done rest : List Rw) (u6 : Option D), rows = done ++ rest ∧ ds = rest.map toR ∧ G1 = G ∧ ρ = [some (.ref 0), some (houseU rows gs rooms), some (.tup (rows.map toR)), some (.tup (gs.map pairD)), some (.tup (rooms.map roomD)), some (.lst ((trip done).map tripD)), u6, none, none, none, none, none, none, none, none, none, none, none, none, none, none]) ?_ _ _ _ ⟨[], rows, none, rfl, rfl, rfl, rfl⟩ ?_
  · rintro d ds ρ G1 ⟨done, rest, u6, er, ed, rfl, rfl⟩
    cases rest with
    | nil => cases ed
    | cons r rest =>
      rw [List.map_cons] at ed
      obtain ⟨rfl, rfl⟩ := List.cons.inj ed
      have hr : r ∈ rows := by rw [er]; simp
      have l1 := h.rs.l r hr
      have ld : (trip done).length ≤ done.length * 100 := trip_len fun q hq => h.rs.l q (by rw [er]; exact List.mem_append_left _ hq)
      have ld2 : done.length ≤ 10 := by
        have := congrArg List.length er
        simp at this
        omega
      refine ⟨_, _, rfl, w_asg (w_d2 (w_v rfl (w_lcR (n := r.2.2.length) (fun k => tripD (r.1, k, r.2.2.getD k .non)) ?_ (by omega) (fun k hk => ?_) ?_)))⟩
      · exact w_cons (w_call (w_cons (w_d2 (w_v rfl (w_c ⟨.tup r.2.2, _, ix2 _ _ _ _ _, w_nil ⟨.int r.2.2.length, _, rfl, w_nil ⟨by simp, rfl⟩⟩⟩)))))
      · refine w_tup (w_cons (w_d2 (w_v rfl (w_c ⟨.str r.1, _, ix0 _ _ _, w_cons (w_v rfl (w_cons (w_d2 (w_d2 (w_v rfl (w_c ⟨.tup r.2.2, _, ix2 _ _ _ _ _, w_v rfl ⟨r.2.2.getD k .non, _, atN (getD_at hk) rfl _, w_nil ⟨by simp only [List.length_cons, List.length_nil]; decide, rfl, rfl⟩⟩⟩)))))) ⟩))))
      refine ⟨_, _, catL (by simp; omega), _, _, rfl, _, .inl rfl, done ++ [r], rest, some (toR r), by rw [er]; simp, rfl, rfl, ?_⟩
      have e2 : (trip (done ++ [r])).map tripD = (trip done).map tripD ++ (List.range r.2.2.length).map fun k => tripD (r.1, k, r.2.2.getD k .non) := by
        unfold trip
        rw [List.flatMap_append, List.map_append, List.flatMap_cons, List.flatMap_nil, List.append_nil, tripS_map, List.map_map]
        refine congrArg _ (List.map_congr_left fun k _ => ?_)
        simp [tripD]
      rw [e2]
      rfl
  · rintro ρ G1 ⟨done, rest, u6, er, ed, rfl, rfl⟩
    cases rest with
    | cons r rest => cases ed
    | nil =>
      rw [List.append_nil] at er
      subst er
      exact q u6
end
end K02

namespace K02
open PySem PySem.Spec PyProof.Rows L2 Tw
def head5 (rows : List Rw) (rooms : List Rm) : List D := [.tup ((rows.map (·.1)).map .str), .tup ((trip rows).map markD), .tup ((srtU (qn rows rooms)).map .str), .tup ((srtU ((nm sg2 rows).map (·.1))).map .str), .tup ((firsts rows).map .str)]
theorem srtU_mem {l : List Str} {x : Str} (h : x ∈ srtU l) : x ∈ l := by
  unfold srtU at h
  exact (ddS_mem l x).mp ((sortS_perm (ddS l)).mem_iff.mp h)
theorem srtU_len {l : List Str} (h : ∀ x ∈ l, x ∈ (["p", "q"] : List Str)) : (srtU l).length ≤ 1000 := by
  unfold srtU
  rw [(sortS_perm (ddS l)).length_eq]
  have := dd2 h
  omega
section
variable {rows : List Rw} {gs : List (Str × Str)} {rooms : List Rm}
theorem pq_ok : ∀ x ∈ (["p", "q"] : List Str), PyData.strOk x = true := fun x hx => List.all_eq_true.mp (by decide +kernel : (["p", "q"] : List Str).all PyData.strOk = true) x hx
theorem head5_ok (h : Nm rows gs rooms) : ∀ x ∈ head5 rows rooms, okW 5 x = true := by
  have z := h.rs.z
  have lt := trip_len h.rs.l
  intro x hx
  unfold head5 at hx
  simp only [List.mem_cons, List.not_mem_nil, or_false] at hx
  rcases hx with rfl | rfl | rfl | rfl | rfl
  · refine okW_strs (List.all_eq_true.mpr fun x hx => ?_) (by simp; omega) 4
    obtain ⟨r, hr, rfl⟩ := List.mem_map.mp hx
    exact h.rs.n r hr
  · refine okW_tup.mpr ⟨by simp; omega, fun y hy => ?_⟩
    obtain ⟨t, ht, rfl⟩ := List.mem_map.mp hy
    obtain ⟨r, hr, e, _⟩ := trip_mem ht
    refine okW_tup.mpr ⟨by simp, fun y hy => ?_⟩
    simp only [List.mem_cons, List.not_mem_nil, or_false] at hy
    rcases hy with rfl | rfl
    · rw [e]; exact h.rs.n r hr
    · rfl
  · exact okW_strs (List.all_eq_true.mpr fun x hx => pq_ok x (qn_in h x (srtU_mem hx))) (srtU_len (qn_in h)) 4
  · exact okW_strs (List.all_eq_true.mpr fun x hx => pq_ok x (sn_in h x (srtU_mem hx))) (srtU_len (sn_in h)) 4
  · refine okW_strs (List.all_eq_true.mpr fun x hx => ?_) (by
      unfold firsts
      have := List.length_filter_le (fun x => !(((nm sw1 rows).map (·.1)).contains x)) (rows.map (·.1))
      rw [List.length_map] at this
      omega) 4
    obtain ⟨r, hr, rfl⟩ := List.mem_map.mp (List.mem_filter.mp hx).1
    exact h.rs.n r hr
/-- what is gathered ahead of the tasks -/
theorem head_ok {G : List O} {Q : Out → List O → Prop} {u6 : Option D} {s : En → M Out} (h : Nm rows gs rooms)
    (q : ∀ u9 u10, WP (s (envR rows gs rooms [u6, none, some (.dct ((nm sw1 rows).map kvI)), u9, u10, some (.lst (head5 rows rooms)), some (.lst (head5 rows rooms)), none, none, none, none, none, none, none, none])) G Q) :
    WP ((dSeq (dAsg (dCall dictLF (dCons (dLc (dItL (dV 5)) (gT 3 (gsCons (gN 7) (gsCons (gN 18) (gsCons (gN 19) gsNil)))) (dTest (d2 (pur2 (eqO false)) (d2 ixO (dV 19) (dC (.int 0))) (dC (.str "start")))) (dTup (dCons (d2 ixO (dV 19) (dC (.int 1))) (dCons (dTup (dCons (dV 7) (dCons (dV 18) dNil))) dNil))) [7, 18, 19]) dNil)) (gN 8)) (dSeq (dAsg (d2 (catP okL) (dLc (dItL (dV 5)) (gT 3 (gsCons (gN 7) (gsCons (gN 18) (gsCons (gN 19) gsNil)))) (dTest (d2 (pur2 (inO false)) (d2 ixO (dV 19) (dC (.int 0))) (dTup (dCons (dC (.str "put")) (dCons (dC (.str "get")) dNil))))) (d2 ixO (dV 19) (dC (.int 1))) [7, 18, 19]) (dLc (dItT (dV 4)) (gN 6) dYes (d2 ixO (dV 6) (dC (.int 0))) [6])) (gN 9)) (dSeq (dAsg (dLc (dItL (dV 5)) (gT 3 (gsCons (gN 7) (gsCons (gN 18) (gsCons (gN 19) gsNil)))) (dTest (d2 (pur2 (inO false)) (d2 ixO (dV 19) (dC (.int 0))) (dTup (dCons (dC (.str "set")) (dCons (dC (.str "hear")) dNil))))) (d2 ixO (dV 19) (dC (.int 1))) [7, 18, 19]) (gN 10)) (dSeq (dAsg (dLst (dCons (dFp F_task_names (dCons (dV 1) dNil)) (dCons (dFp F_all_marks (dCons (dV 1) dNil)) (dCons (dFp F_queue_names (dCons (dV 1) dNil)) (dCons (dFp F_signal_names (dCons (dV 1) dNil)) (dCons (dFp F_first_tasks (dCons (dV 1) dNil)) dNil)))))) (gN 11)) (dSeq (dAsg (dLst (dCons (dCall (listP fun xs => pur (some (.tup xs))) (dCons (dLc (dItT (dV 2)) (gN 6) dYes (d2 ixO (dV 6) (dC (.int 0))) [6]) dNil)) (dCons (dCall (listP fun xs => pur (some (.tup xs))) (dCons (dLc (dItL (dV 5)) (gN 6) dYes (dSl (dV 6) dNoP (dP (dC (.int 2)))) [6]) dNil)) (dCons (dCall (listP fun xs => pur (some (.tup xs))) (dCons (dCall (lP usF) (dCons (dV 9) dNil)) dNil)) dNil)))) (gN 12)) (dSeq (dAsg (d2 (catP okL) (dV 12) (dLst (dCons (dCall (listP fun xs => pur (some (.tup xs))) (dCons (dCall (lP usF) (dCons (dV 10) dNil)) dNil)) (dCons (dCall (listP fun xs => pur (some (.tup xs))) (dCons (dLc (dItT (dV 2)) (gN 6) (dTest (d2 (dinP true) (d2 ixO (dV 6) (dC (.int 0))) (dV 8))) (d2 ixO (dV 6) (dC (.int 0))) [6]) dNil)) dNil)))) (gN 12)) s)))))) (envR rows gs rooms [u6, none, none, none, none, none, none, none, none, none, none, none, none, none, none])) G Q := by
  have mz : (1000 : Nat) ≤ mx := by decide
  have m2 : (2000 : Nat) ≤ mx := by decide
  have z := h.rs.z
  have lt := trip_len h.rs.l
  have l1 := h.l sw1
  have l2 := h.gm.rl
  have lq := h.l qw2
  have ls := h.l sg2
  have nrU := houseU_nr h.rs h.gm
  have okst : PyData.strOk "start" = true := by decide +kernel
  unfold envR at q ⊢
  simp only [List.cons_append, List.nil_append] at q ⊢
  -- begun
  refine w_seq (w_asg (w_call (w_cons (w_lcB (trip rows) tripD (fun t => sw1.contains (wrd t.2.2)) (fun t => itD (arg t.2.2, t.1, t.2.1)) (w_itL (w_v rfl ⟨_, rfl, rfl, rfl⟩)) (by omega) (fun t ht => ⟨_, rfl, ?_, fun c => ?_⟩) ?_))))
  · obtain ⟨w, r, e, hw, ew⟩ := trip_is h ht
    refine w_test (w_d2 (w_d2 (w_v rfl (w_c ⟨.str w, G, ?_, w_c ⟨_, _, eqS hw okst, _, rfl, ?_, rfl⟩⟩))))
    · rw [e]; exact ix0 _ _ _
    · rw [one_c, ew]
      rfl
  · obtain ⟨w, a, r, e, ea⟩ := trip_arg h.st ht c
    refine w_tup (w_cons (w_d2 (w_v rfl (w_c ⟨.str a, G, ?_, w_cons (w_tup (w_cons (w_v rfl (w_cons (w_v rfl ?_)))))⟩))))
    · rw [e]; exact ix1 _ _ _ _
    · refine w_nil ⟨by simp only [List.length_cons, List.length_nil]; decide, w_nil ⟨by simp only [List.length_cons, List.length_nil]; decide, ?_, rfl⟩⟩
      rw [ea]
      rfl
  have eb : ((trip rows).filter fun t => sw1.contains (wrd t.2.2)).map (fun t => itD (arg t.2.2, t.1, t.2.1)) = (nm sw1 rows).map itD := by rw [nm_trip, List.map_map]; rfl
  rw [eb]
  refine w_nil ⟨.dct ((nm sw1 rows).map kvI), G, ?_, _, _, rfl, w_then ?_⟩
  · unfold dictLF
    dsimp only [inL]
    rw [Option.bind_some, pairs_it]
    dsimp only
    rw [merge_new _ [] (by
      have e : ((nm sw1 rows).map kvI).map (·.1) = ((nm sw1 rows).map (·.1)).map fun x => (Sum.inr x : Key) := by rw [List.map_map, List.map_map]; rfl
      rw [e]
      exact inr_nodup h.nd)]
    rfl
  -- lanes
  refine w_seq (w_asg (w_d2 (w_names (ws := qw2) h h.q rfl rfl (fun ρ => w_tup (w_cons (w_c (w_cons (w_c (w_nil ⟨by simp only [List.length_cons, List.length_nil]; decide, rfl, rfl⟩)))))) ?_)))
  refine w_lcB rooms roomD (fun _ => true) (fun p => .str p.1) (w_itT (w_v rfl ⟨_, rfl, rfl, rfl⟩)) (by omega) (fun p hp => ⟨_, rfl, w_yes ⟨rfl, rfl⟩, fun _ => w_d2 (w_v rfl (w_c ⟨_, _, ix0 _ _ _, rfl, rfl⟩))⟩) ?_
  rw [ftrue]
  refine ⟨.lst ((qn rows rooms).map .str), G, ?_, _, _, rfl, w_then ?_⟩
  · rw [catL (by simp only [List.length_map]; omega)]
    unfold qn
    rw [List.map_append, List.map_map (f := fun x : Rm => x.1)]
    rfl
  -- heard
  refine w_seq (w_asg (w_names (ws := sg2) h h.s rfl rfl (fun ρ => w_tup (w_cons (w_c (w_cons (w_c (w_nil ⟨by simp only [List.length_cons, List.length_nil]; decide, rfl, rfl⟩)))))) ⟨_, _, rfl, w_then ?_⟩))
  -- got
  have nrA : noRs [houseU rows gs rooms] = true := by simp [noRs, nrU]
  have nrm : ∀ l : List Str, noR (.tup (l.map .str)) = true := fun l => nr_strs l
  have nrM : noR (.tup ((trip rows).map markD)) = true := (okW_all 5 _ (head5_ok h _ (by unfold head5; simp))).1
  refine w_seq (w_asg (w_lst (w_cons (w_ans (w_cons (w_v rfl (w_nil ⟨nrA, _, task_names_ok h.rs _ _, nrm _, ?_⟩)))))))
  refine w_cons (w_ans (w_cons (w_v rfl (w_nil ⟨nrA, _, all_marks_ok h, nrM, ?_⟩))))
  refine w_cons (w_ans (w_cons (w_v rfl (w_nil ⟨nrA, _, queue_names_ok h, nrm _, ?_⟩))))
  refine w_cons (w_ans (w_cons (w_v rfl (w_nil ⟨nrA, _, signal_names_ok h, nrm _, ?_⟩))))
  refine w_cons (w_ans (w_cons (w_v rfl (w_nil ⟨nrA, _, first_tasks_ok h, nrm _, ?_⟩))))
  refine w_nil ⟨by simp only [List.length_cons, List.length_nil]; decide, _, _, rfl, w_then ?_⟩
  -- due
  refine w_seq (w_asg (w_lst (w_cons (w_call (w_cons (w_lcB rows toR (fun _ => true) (fun r => .str r.1) (w_itT (w_v rfl ⟨_, rfl, rfl, rfl⟩)) (by omega) (fun r hr => ⟨_, rfl, w_yes ⟨rfl, rfl⟩, fun _ => w_d2 (w_v rfl (w_c ⟨_, _, ix0 _ _ _, rfl, rfl⟩))⟩) ?_))))))
  rw [ftrue]
  refine w_nil ⟨.tup ((rows.map (·.1)).map .str), G, by rw [List.map_map]; rfl, ?_⟩
  refine w_cons (w_call (w_cons (w_lcB (trip rows) tripD (fun _ => true) markD (w_itL (w_v rfl ⟨_, rfl, rfl, rfl⟩)) (by omega) (fun t ht => ⟨_, rfl, w_yes ⟨rfl, rfl⟩, fun _ => ?_⟩) ?_)))
  · exact w_sl (w_v rfl (w_noP (w_P (w_c ⟨2, rfl, markD t, rfl, rfl, rfl⟩))))
  rw [ftrue]
  refine w_nil ⟨.tup ((trip rows).map markD), G, rfl, ?_⟩
  refine w_cons (w_call (w_cons (w_call (w_cons (w_v rfl (w_nil ⟨_, _, us_ok (l := qn rows rooms) rfl (qn_in h) (qn_len h), w_nil ⟨_, _, rfl, ?_⟩⟩))))))
  refine w_nil ⟨by simp only [List.length_cons, List.length_nil]; decide, _, _, rfl, w_then ?_⟩
  refine w_seq (w_asg (w_d2 (w_v rfl (w_lst (w_cons (w_call (w_cons (w_call (w_cons (w_v rfl ?_))))))))))
  refine w_nil ⟨_, _, us_ok (l := (nm sg2 rows).map (·.1)) rfl (sn_in h) (by rw [List.length_map]; omega), w_nil ⟨_, _, rfl, ?_⟩⟩
  have known : ∀ x : Str, (lookK ((nm sw1 rows).map kvI) (.inr x)).isSome = ((nm sw1 rows).map (·.1)).contains x := fun x => by
    rw [look_find, Option.isSome_map]
    cases hc : ((nm sw1 rows).map (·.1)).contains x with
    | true =>
      obtain ⟨t, ht, e⟩ := List.mem_map.mp (List.contains_iff_mem.mp hc)
      exact List.find?_isSome.mpr ⟨t, ht, by simp [e]⟩
    | false =>
      cases hf : (nm sw1 rows).find? fun t => t.1 == x with
      | none => rfl
      | some t =>
        have e : t.1 = x := beq_iff_eq.mp (List.find?_some (p := fun t : It => t.1 == x) hf)
        have : x ∈ (nm sw1 rows).map (·.1) := List.mem_map.mpr ⟨t, List.mem_of_find?_eq_some hf, e⟩
        rw [List.contains_iff_mem.mpr this] at hc
        cases hc
  refine w_cons (w_call (w_cons (w_lcB rows toR (fun r => !(((nm sw1 rows).map (·.1)).contains r.1)) (fun r => .str r.1) (w_itT (w_v rfl ⟨_, rfl, rfl, rfl⟩)) (by omega) (fun r hr => ⟨_, rfl, ?_, fun _ => w_d2 (w_v rfl (w_c ⟨_, _, ix0 _ _ _, rfl, rfl⟩))⟩) ?_)))
  · refine w_test (w_d2 (w_d2 (w_v rfl (w_c ⟨.str r.1, G, ix0 _ _ _, w_v rfl ⟨.bl (!(((nm sw1 rows).map (·.1)).contains r.1)), G, ?_, _, rfl, rfl, rfl⟩⟩))))
    rw [din_eq (o := lookK ((nm sw1 rows).map kvI) (.inr r.1)) rfl, known r.1]
    rfl
  refine w_nil ⟨.tup ((firsts rows).map .str), G, ?_, ?_⟩
  · unfold firsts
    rw [List.filter_map, List.map_map]
    rfl
  refine w_nil ⟨by simp only [List.length_cons, List.length_nil]; decide, ?_⟩
  refine ⟨_, _, catL (by simp only [List.length_cons, List.length_nil]; decide), _, _, rfl, w_then ?_⟩
  exact q _ _
end
end K02

namespace K02
open PySem PySem.Spec PyProof.Rows L2 Tw
theorem iteT {rows : List Rw} {G : List O} : itT (.tup (rows.map toR)) = some (rows.map toR) := rfl
section
variable {tags crowd begun ts : List Str} {t0 : Str} {rows : List Rw} {gs : List (Str × Str)} {rooms : List Rm}
theorem Ho.pq (h : Ho tags crowd begun t0 ts rows gs rooms) : Pq rooms := ⟨h.rms, h.rv⟩
theorem Ho.hg (h : Ho tags crowd begun t0 ts rows gs rooms) : ∀ r ∈ rows, r.2.1 = "" ∨ (r.2.1 = "g" ∧ gs = [(("g" : Str), t0)]) := fun r hr => by
  have e := (h.rs r hr).1
  have eg := h.gs
  by_cases c : crowd.contains r.1 = true
  · rw [if_pos c] at e
    have : crowd ≠ [] := fun z => by
      rw [z] at c
      cases c
    rw [if_neg this] at eg
    exact .inr ⟨e, eg⟩
  · rw [if_neg c] at e
    exact .inl e
theorem Ho.g0 (h : Ho tags crowd begun t0 ts rows gs rooms) {r : Rw} (hr : r ∈ rows) (e0 : r.1 = t0) : r.2.1 = "" := by
  have e := (h.rs r hr).1
  have : crowd.contains r.1 = false := by
    cases c : crowd.contains r.1 with
    | false => rfl
    | true =>
      have m := List.contains_iff_mem.mp c
      rw [e0] at m
      exact absurd (h.cs.subset m) h.nd.1
  rw [this] at e
  exact e
theorem Ho.end1 (h : Ho tags crowd begun t0 ts rows gs rooms) {p : Str × Str} (hp : p ∈ gs) : p = (("g" : Str), t0) ∧ gs = [p] ∧ ∃ k, nm cw2 rows = [(("g" : Str), t0, k)] := by
  have eg := h.gs
  by_cases c : crowd = []
  · rw [if_pos c] at eg
    rw [eg] at hp
    cases hp
  · rw [if_neg c] at eg
    rw [eg] at hp
    have e := List.mem_singleton.mp hp
    rcases h.shuts with ⟨z, _⟩ | ⟨_, k, _, ek⟩
    · exact absurd z c
    · exact ⟨e, by rw [eg, e], k, ek⟩
theorem sum_room {x : Str} (h : Pq rooms) : ((rooms.filter fun p => p.1 == x).map (·.2)).sum = roomI rooms x := by
  unfold roomI
  rcases pq_cases h with e | ⟨v, _, e⟩ | ⟨v, _, e⟩ | ⟨v, u, _, _, e⟩
  · rw [e]; rfl
  · rw [e]
    by_cases c : (("p" : Str) == x) = true
    · simp [c]
    · simp [c]
  · rw [e]
    by_cases c : (("q" : Str) == x) = true
    · simp [c]
    · simp [c]
  · rw [e]
    by_cases c : x = "p"
    · subst c
      have z : (("q" : Str) == "p") = false := by decide
      simp [z]
    · by_cases c2 : x = "q"
      · subst c2
        have z : (("p" : Str) == "q") = false := by decide
        simp [z]
      · have z1 : (("p" : Str) == x) = false := beq_eq_false_iff_ne.mpr fun e => c e.symm
        have z2 : (("q" : Str) == x) = false := beq_eq_false_iff_ne.mpr fun e => c2 e.symm
        simp [z1, z2]
end
/-- what the program tells of a drawn house is so -/
theorem right_ok {x y : Int} (hx : 0 ≤ x) : ∃ G, F_l_right [.ref 0] [bx x y 0] = some (.inr (.bl true), G) := by
  have mz : (1000 : Nat) ≤ mx := by decide
  have m2 : (2000 : Nat) ≤ mx := by decide
  suffices hw : WP (F_l_right [.ref 0]) [bx x y 0] fun d _ => d = .bl true by
    obtain ⟨d, G, e, h⟩ := hw
    subst h
    exact ⟨G, e⟩
  refine w_run ?_
  unfold ds_l_right
  refine w_seq (w_asg (w_wkA (w_F (w_cons (w_v rfl (w_cons (w_c (w_cons (w_c (w_nil ?_))))))))))
  refine w_house ⟨x, y, 0, rfl, hx, Int.le_refl 0, Int.le_refl 0⟩ fun tags crowd begun t0 ts rows gs rooms o1 e H b1 => ?_
  have nmv := H.nmv
  have z5 : rows.length ≤ 5 := by
    have h2 : rows.length = tags.length := by rw [← H.names, List.length_map]
    have := H.tg.hi
    omega
  rw [house_wk nmv.rs nmv.gm]
  refine ⟨_, _, rfl, w_then ?_⟩
  refine w_seq (w_asg (w_v rfl ⟨[some (.ref 0), some (houseU rows gs rooms), some (.tup (rows.map toR)), some (.tup (gs.map pairD)), some (.tup (rooms.map roomD)), none, none, none, none, none, none, none, none, none, none, none, none, none, none, none, none], _, rfl, w_then ?_⟩))
  refine w_seq (w_asg (w_lst (w_nil ⟨by decide, [some (.ref 0), some (houseU rows gs rooms), some (.tup (rows.map toR)), some (.tup (gs.map pairD)), some (.tup (rooms.map roomD)), some (.lst []), none, none, none, none, none, none, none, none, none, none, none, none, none, none, none], _, rfl, w_then ?_⟩)))
  refine w_seq (rows_ok nmv fun u6 => w_then ?_)
  refine head_ok nmv fun u9 u10 => ?_
  generalize o1 :: e = G
  obtain ⟨r0, rest0, e0, n0, _, _⟩ := H.split
  have g0 : r0.2.1 = "" := H.g0 (by rw [e0]; simp) n0
  have hg := H.hg
  have ok0 : PyData.strOk t0 = true := by rw [← n0]; exact nmv.rs.n r0 (by rw [e0]; simp)
  -- the tasks
  refine w_seq (w_for (w_itT (w_v rfl ⟨rows.map toR, rfl, ?_⟩)))
  refine w_loop (fun ds ρ G1 => ∃ (done rest : List Rw) (xs : List D) (u7 u13 u14 u15 u16 : Option D), rows = done ++ rest ∧ ds = rest.map toR ∧ (∃ f, G1 = G ++ f) ∧ xs.length ≤ 5 + 6 * done.length ∧ (∀ x ∈ xs, okW 5 x = true) ∧
    ρ = envR rows gs rooms [u6, u7, some (.dct ((nm sw1 rows).map kvI)), u9, u10, some (.lst xs), some (.lst xs), u13, u14, u15, u16, none, none, none, none]) ?_ _ _ _ ?_ ?_
  · rintro d ds ρ G1 ⟨done, rest, xs, u7, u13, u14, u15, u16, er, ed, ⟨f, rfl⟩, hl, hxs, rfl⟩
    cases rest with
    | nil => cases ed
    | cons r rest =>
      rw [List.map_cons] at ed
      obtain ⟨rfl, rfl⟩ := List.cons.inj ed
      have hr : r ∈ rows := by rw [er]; simp
      have ld : done.length ≤ 5 := by
        have := congrArg List.length er
        simp at this
        omega
      have hgr := hg r hr
      have told := told7_ok hr nmv.rs ok0
      clear hg H told
      subst er
      refine ⟨envR (done ++ r :: rest) gs rooms [u6, some (.str r.1), some (.dct ((nm sw1 (done ++ r :: rest)).map kvI)), u9, u10, some (.lst xs), some (.lst xs), some (.str r.2.1), some (.tup r.2.2), u15, u16, none, none, none, none], _, rfl, (task_ok (c := []) (u7 := none) (u13 := none) (u14 := none) nmv e0 n0 g0 hgr (by omega)).imp fun o G2 ⟨v15, v16, ho, f2, hf⟩ => ?_⟩
      exact ⟨_, .inl ho, done ++ [r], rest, _, _, _, _, _, _, by simp, rfl, ⟨f ++ f2, by rw [hf, List.append_assoc]⟩, by simp [told7]; omega, fun x hx => (List.mem_append.mp hx).elim (hxs x) (told7_ok hr nmv.rs ok0 x), rfl⟩
  · exact ⟨[], rows, head5 rows rooms, none, none, none, none, none, rfl, rfl, ⟨[], by simp⟩, by simp [head5], head5_ok nmv, rfl⟩
  rintro ρ G1 ⟨done, rest, xs, u7, u13, u14, u15, u16, er, ed, ⟨f, rfl⟩, hl, hxs, rfl⟩
  cases rest with
  | cons r rest => cases ed
  | nil =>
  have hl35 : xs.length ≤ 35 := by
    have := congrArg List.length er
    simp at this
    omega
  clear er hl
  generalize G ++ f = G
  refine w_then ?_
  -- the groups
  have okg : PyData.strOk "g" = true := by decide +kernel
  have okcc : PyData.strOk "close" = true ∧ PyData.strOk "catch" = true := ⟨by decide +kernel, by decide +kernel⟩
  have lt := trip_len nmv.rs.l
  have nrU := houseU_nr nmv.rs nmv.gm
  have nrA : noRs [houseU rows gs rooms, .str "g"] = true := by simp [noRs, nrU, noR]
  refine w_seq (w_for (w_itT (w_v rfl ⟨gs.map pairD, rfl, ?_⟩)))
  refine w_loop (fun ds ρ G1 => ∃ (rest : List (Str × Str)) (xs : List D) (n : Nat) (u6 u7 u13 u17 : Option D), ds = rest.map pairD ∧ rest.length + n ≤ gs.length ∧ (∀ p ∈ rest, p ∈ gs) ∧ G1 = G ∧ xs.length ≤ 35 + 3 * n ∧ (∀ x ∈ xs, okW 5 x = true) ∧
    ρ = envR rows gs rooms [u6, u7, some (.dct ((nm sw1 rows).map kvI)), u9, u10, some (.lst xs), some (.lst xs), u13, u14, u15, u16, u17, none, none, none]) ?_ _ _ _ ?_ ?_
  · rintro d ds ρ G1 ⟨rest, xs, n, u6, u7, u13, u17, ed, hn, hin, rfl, hl, hxs, rfl⟩
    cases rest with
    | nil => cases ed
    | cons p rest =>
      rw [List.map_cons] at ed
      obtain ⟨rfl, rfl⟩ := List.cons.inj ed
      obtain ⟨ep, eg, k, ek⟩ := H.end1 (hin p List.mem_cons_self)
      have hn1 : gs.length = 1 := by rw [eg]; rfl
      simp only [List.length_cons] at hn
      have fg : gs.find? (fun p => p.1 == ("g" : Str)) = some (("g" : Str), t0) := by rw [eg, ep]; rfl
      have fc : (nm cw2 rows).find? (fun p => p.1 == ("g" : Str)) = some (("g" : Str), t0, k) := by rw [ek]; rfl
      subst ep
      refine ⟨envR rows gs rooms [u6, some (.str t0), some (.dct ((nm sw1 rows).map kvI)), u9, u10, some (.lst xs), some (.lst xs), some (.str "g"), u14, u15, u16, u17, none, none, none], G1, rfl, ?_⟩
      unfold envR
      simp only [List.cons_append, List.nil_append]
      refine w_seq (w_asg (w_lcB (trip rows) tripD (fun t => cw2.contains (wrd t.2.2)) markD (w_itL (w_v rfl ⟨_, rfl, rfl, rfl⟩)) (by omega) (fun t ht => ⟨_, rfl, ?_, fun _ => ?_⟩) ?_))
      · obtain ⟨w, r, e, _, ew⟩ := trip_is nmv ht
        refine w_test (w_d2 (w_d2 (w_d2 (w_v rfl (w_c ⟨t.2.2, G1, ix2 _ _ _ _ _, w_c ⟨.str w, G1, ?_, w_tup (w_cons (w_c (w_cons (w_c (w_nil ⟨by simp only [List.length_cons, List.length_nil]; decide, .bl (cw2.contains (wrd t.2.2)), G1, ?_, _, rfl, rfl, rfl⟩)))))⟩⟩)))))
        · rw [e]
          exact ix0 _ _ _
        · rw [ew]
          show pur2 (inO false) (.str w) (.tup (cw2.map .str)) G1 = _
          unfold pur2 pur
          rw [inO_str]
      · exact w_sl (w_v rfl (w_noP (w_P (w_c ⟨2, rfl, markD t, rfl, rfl, rfl⟩))))
      have ends : ((trip rows).filter fun t => cw2.contains (wrd t.2.2)).map markD = [kvI2 (("g" : Str), t0, k)] := by
        have e1 : (nm cw2 rows).map kvI2 = ((trip rows).filter fun t => cw2.contains (wrd t.2.2)).map markD := by
          rw [nm_trip, List.map_map]
          rfl
        rw [← e1, ek]
        rfl
      rw [ends]
      refine ⟨_, _, rfl, w_then ?_⟩
      refine w_seq (w_asg (w_d2 (w_v rfl (w_lst (w_cons (w_ansX (w_cons (w_v rfl (w_cons (w_v rfl ?_))))))))))
      refine w_nil ⟨nrA, _, tasks_in_ok nmv okg fg, ?_, ?_⟩
      · have := nr_strs ((rows.filter fun r => r.2.1 == ("g" : Str)).map (·.1))
        rw [List.map_map] at this
        exact this
      refine w_cons (w_ansX (w_cons (w_v rfl (w_cons (w_v rfl ?_)))))
      refine w_nil ⟨nrA, _, host_of_ok nmv okg fg, rfl, ?_⟩
      refine w_cons (w_lst (w_cons (w_ansX (w_cons (w_v rfl (w_cons (w_v rfl ?_)))))))
      refine w_nil ⟨nrA, _, closer_of_ok nmv okg fc, rfl, ?_⟩
      refine w_nil ⟨by simp only [List.length_cons, List.length_nil]; decide, ?_⟩
      refine w_nil ⟨by simp only [List.length_cons, List.length_nil]; decide, ?_⟩
      refine ⟨_, _, catL (by simp only [List.length_cons, List.length_nil]; omega), _, _, rfl, w_then ?_⟩
      refine w_asg (w_d2 (w_v rfl (w_lst (w_cons (w_call (w_cons (w_lcB rows toR (fun r => r.2.1 == ("g" : Str)) (fun r => .str r.1) (w_itT (w_v rfl ⟨_, rfl, rfl, rfl⟩)) (by omega) (fun r hr => ⟨_, rfl, ?_, fun _ => w_d2 (w_v rfl (w_c ⟨_, _, ix0 _ _ _, rfl, rfl⟩))⟩) ?_)))))))
      · exact w_test (w_d2 (w_d2 (w_v rfl (w_c ⟨.str r.2.1, G1, ix1 _ _ _ _, w_v rfl ⟨_, _, eqS (nmv.rs.g r hr) okg, _, rfl, rfl, rfl⟩⟩))))
      refine w_nil ⟨.tup ((rows.filter fun r => r.2.1 == ("g" : Str)).map fun r => .str r.1), G1, rfl, ?_⟩
      refine w_cons (w_v rfl (w_cons (w_v rfl ?_)))
      refine w_nil ⟨by simp only [List.length_cons, List.length_nil]; decide, ?_⟩
      refine ⟨_, _, catL (by simp only [List.length_cons, List.length_nil]; omega), _, _, rfl, _, .inl rfl, rest, _, n + 1, u6, _, _, _, rfl, by omega, fun p hp => hin p (List.mem_cons_of_mem _ hp), rfl, by simp only [List.length_append, List.length_cons, List.length_nil]; omega, fun x hx => ?_, rfl⟩
      rcases List.mem_append.mp hx with hx | hx
      · exact hxs x hx
      · have okm : okW 4 (kvI2 (("g" : Str), t0, k)) = true := okW_tup.mpr ⟨by simp, fun y hy => by
          simp only [List.mem_cons, List.not_mem_nil, or_false] at hy
          rcases hy with rfl | rfl
          · exact ok0
          · rfl⟩
        simp only [List.mem_cons, List.not_mem_nil, or_false] at hx
        rcases hx with rfl | rfl | rfl
        · refine okW_tup.mpr ⟨?_, fun y hy => ?_⟩
          · have := List.length_filter_le (fun r : Rw => r.2.1 == ("g" : Str)) rows
            rw [List.length_map]
            omega
          · obtain ⟨r, hr, rfl⟩ := List.mem_map.mp hy
            exact nmv.rs.n r (List.mem_filter.mp hr).1
        · exact ok0
        · refine okW_lst.mpr ⟨by simp, fun y hy => ?_⟩
          rw [List.mem_singleton.mp hy]
          exact okm
  · exact ⟨gs, xs, 0, u6, u7, u13, none, rfl, by omega, fun p hp => hp, rfl, by omega, hxs, rfl⟩
  rintro ρ G1 ⟨rest, ys, n, u6, u7, u13, u17, ed, hn, hin, rfl, hl2, hys, rfl⟩
  have hgl : gs.length ≤ 1 := by
    rw [H.gs]
    split <;> simp
  refine w_then ?_
  unfold envR
  simp only [List.cons_append, List.nil_append]
  -- the rooms
  have okpq : ∀ x ∈ (["p", "q"] : List Str), PyData.strOk x = true := pq_ok
  have lt2 : (([("p" : Str), "q"] : List Str)).length ≤ mx := by decide
  refine w_seq (w_asg (w_d2 (w_v rfl (w_lst (w_cons (w_lcB (["p", "q"] : List Str) .str (fun _ => true) (fun x => .int (roomI rooms x)) ?_ lt2 (fun x hx => ⟨_, rfl, w_yes ⟨rfl, rfl⟩, fun _ => ?_⟩) ?_))))))
  · exact w_itT (w_tup (w_cons (w_c (w_cons (w_c (w_nil ⟨by simp only [List.length_cons, List.length_nil]; decide, _, rfl, rfl, rfl⟩))))))
  · exact w_ans (w_cons (w_v rfl (w_cons (w_v rfl (w_nil ⟨by simp [noRs, nrU, noR], _, room_of_ok nmv (okpq x hx), rfl, rfl, rfl⟩)))))
  refine w_nil ⟨by simp only [List.length_cons, List.length_nil]; decide, ?_⟩
  refine ⟨_, _, catL (by simp only [List.length_cons, List.length_nil]; omega), _, _, rfl, w_then ?_⟩
  -- the same
  have okZ : okW 5 (.lst ((([("p" : Str), "q"] : List Str).filter fun _ => true).map fun x => .int (roomI rooms x))) = true := rfl
  have okA : okW 7 (.lst (ys ++ [.lst ((([("p" : Str), "q"] : List Str).filter fun _ => true).map fun x => .int (roomI rooms x))])) = true := okW_up _ _ (okW_lst.mpr ⟨by simp only [List.length_append, List.length_cons, List.length_nil]; omega, fun x hx => by
    rcases List.mem_append.mp hx with hx | hx
    · exact hys x hx
    · rw [List.mem_singleton.mp hx]; exact okZ⟩)
  obtain ⟨nr7, wk7, same7⟩ := okW_all 7 _ okA
  refine w_ret (w_ans (w_cons (w_wkA (w_v rfl (w_cons (w_wkA (w_d2 (w_v rfl (w_lst (w_cons (w_lcB (["p", "q"] : List Str) .str (fun _ => true) (fun x => .int (roomI rooms x)) ?_ lt2 (fun x hx => ⟨_, rfl, w_yes ⟨rfl, rfl⟩, fun _ => ?_⟩) ?_)))))))))))
  · exact w_itT (w_tup (w_cons (w_c (w_cons (w_c (w_nil ⟨by simp only [List.length_cons, List.length_nil]; decide, _, rfl, rfl, rfl⟩))))))
  · refine w_call (w_cons (w_lcB rooms roomD (fun p => p.1 == x) (fun p => .int p.2) (w_itT (w_v rfl ⟨_, rfl, rfl, rfl⟩)) (by have := nmv.gm.rl; omega) (fun p hp => ⟨_, rfl, ?_, fun _ => w_d2 (w_v rfl (w_c ⟨.int p.2, _, ix1 _ _ _ _, rfl, rfl⟩))⟩) ?_))
    · exact w_test (w_d2 (w_d2 (w_v rfl (w_c ⟨.str p.1, _, ix0 _ _ _, w_v rfl ⟨_, _, eqS (nmv.gm.r p hp) (okpq x hx), _, rfl, rfl, rfl⟩⟩))))
    · refine w_nil ⟨.int (roomI rooms x), _, ?_, rfl, rfl⟩
      unfold lP
      show (match sumF ((rooms.filter fun p => p.1 == x).map fun p => D.int p.2) with | some d => some (d, G1) | none => none) = _
      have es : (rooms.filter fun p => p.1 == x).map (fun p => D.int p.2) = ((rooms.filter fun p => p.1 == x).map (·.2)).map .int := by rw [List.map_map]; rfl
      rw [es, sum_ints, sum_room H.pq]
  refine w_nil ⟨by simp only [List.length_cons, List.length_nil]; decide, ?_⟩
  refine ⟨_, _, catL (by simp only [List.length_cons, List.length_nil]; omega), w_nil ?_⟩
  rw [wk7]
  exact ⟨by simp only [noRs, nr7]; rfl, _, same7, rfl, _, rfl, rfl⟩
end K02

namespace K02
open PySem PySem.Spec PyProof.Rows L2 Tw
theorem pow18 : powO (.int 10) (.int 18) = some (.int 1000000000000000000) := by
  have h : ((10 : Int) ^ (18 : Int).toNat) = 1000000000000000000 := by
    show ((10 : Nat) : Int) ^ 18 = _
    rw [← Int.natCast_pow]
    rfl
  unfold powO i2c
  dsimp only
  rw [h]
  rfl
theorem box_ok (ds : List D) (k : Nat) (c : Int) (h : ds[k]? = some (.int c)) (G : List O) : ∃ x y : Int, 0 ≤ x ∧ F_l_box [.lst ds, .int (k : Int)] G = some (.inr (.ref G.length), G ++ [bx x y 0]) := by
  have lt : k < ds.length := (List.getElem?_eq_some_iff.mp h).1
  have ix : ixN ds.length (k : Int) = some k := by
    unfold ixN
    rw [if_pos (by omega), if_pos (by omega)]
    simp
  have lt' : (k : Int) < (ds.length : Int) := by omega
  obtain ⟨A, hA, eA⟩ : ∃ A : Int, 0 ≤ A ∧ (if c < 0 then -c else c) = A := ⟨_, by split <;> omega, rfl⟩
  have p18 := pow18
  by_cases big : 1000000000000000000 ≤ A
  · refine ⟨A, c % 2305843009213693951 + 39373 * (k : Int) + 102, hA, ?_⟩
    simp [F_l_box, ds_l_box, N_l_box, runD, start0, bnd, bndN, dSeq, dIfS, dTest, dTru, truP, truD, dNotT, dAndT, dOrT, dAnd, dOr, dNot, d2, dV, dC, lft, pur, ixO, atI, ixN, blO, pur2, ordO, gtI, ltI, leI, geI, Tw.ret, dAsg, dCall, dCons, dNil, pur1, purL, intF, absF, gN, modO, divO, mulO, addO, subO, i2, i2c, gSubD, setF, dRet, outD, dNext, dIf, lenP, dLstM, newL, dLst, dTup, lstO, tupO, okL, mx, dFrz, frzD, frzO, dF, noX, dExpr, dMeth, isLs, inL, appF, dPar, par2, lP, allF, listP, inS, ix, h, lt', eA, big, mulC, p18]
  · refine ⟨0, c % 2305843009213693951 + 39373 * (k : Int) + 102, Int.le_refl 0, ?_⟩
    simp [F_l_box, ds_l_box, N_l_box, runD, start0, bnd, bndN, dSeq, dIfS, dTest, dTru, truP, truD, dNotT, dAndT, dOrT, dAnd, dOr, dNot, d2, dV, dC, lft, pur, ixO, atI, ixN, blO, pur2, ordO, gtI, ltI, leI, geI, Tw.ret, dAsg, dCall, dCons, dNil, pur1, purL, intF, absF, gN, modO, divO, mulO, addO, subO, i2, i2c, gSubD, setF, dRet, outD, dNext, dIf, lenP, dLstM, newL, dLst, dTup, lstO, tupO, okL, mx, dFrz, frzD, frzO, dF, noX, dExpr, dMeth, isLs, inL, appF, dPar, par2, lP, allF, listP, inS, ix, h, lt', eA, big, mulC, p18]
def b_cells : En → M Out := dSeq (dAsg (d2 (pur2 modO) (dCall (pur1 intF) (dCons (dV 3) dNil)) (dV 1)) (gN 5)) (dAsg (d2 (pur2 addO) (d2 ixO (dV 2) (dV 5)) (d2 (pur2 mulO) (dV 4) (d2 (pur2 addO) (dV 3) (dC (.int 2))))) (gSubD (dV 2) (dV 5) setF))
theorem b_one (s : D) (u5 : Option D) (k : Int) (h0 : 0 ≤ k) (hi : k < 1000) (v a b c : Int) : ∃ a' b' c' : Int, b_cells [some s, some (.int 3), some (.ref 0), some (.int k), some (.int v), u5] [.lst [.int a, .int b, .int c]] =
    some (.inr (.nx [some s, some (.int 3), some (.ref 0), some (.int k), some (.int v), some (.int (k % 3))]), [.lst [.int a', .int b', .int c']]) := by
  have m : mulC v (k + 2) = true := by
    have m1 : -(2 ^ 64) < k + 2 := by omega
    have m2 : k + 2 < 2 ^ 64 := by omega
    unfold mulC
    rw [decide_eq_true m1, decide_eq_true m2]
    simp
  have q : k % 3 = 0 ∨ k % 3 = 1 ∨ k % 3 = 2 := by omega
  rcases q with q | q | q
  · exact ⟨a + v * (k + 2), b, c, by simp [b_cells, runD, start0, bnd, bndN, dSeq, dIfS, dTest, dTru, truP, truD, dNotT, dAndT, dOrT, dAnd, dOr, dNot, d2, dV, dC, lft, pur, ixO, atI, ixN, blO, pur2, ordO, gtI, ltI, leI, geI, Tw.ret, dAsg, dCall, dCons, dNil, pur1, purL, intF, absF, gN, modO, divO, mulO, addO, subO, i2, i2c, gSubD, setF, dRet, outD, dNext, dIf, lenP, dLstM, newL, dLst, dTup, lstO, tupO, okL, mx, dFrz, frzD, frzO, dF, noX, dExpr, dMeth, isLs, inL, appF, dPar, par2, lP, allF, listP, inS, q, m]⟩
  · exact ⟨a, b + v * (k + 2), c, by simp [b_cells, runD, start0, bnd, bndN, dSeq, dIfS, dTest, dTru, truP, truD, dNotT, dAndT, dOrT, dAnd, dOr, dNot, d2, dV, dC, lft, pur, ixO, atI, ixN, blO, pur2, ordO, gtI, ltI, leI, geI, Tw.ret, dAsg, dCall, dCons, dNil, pur1, purL, intF, absF, gN, modO, divO, mulO, addO, subO, i2, i2c, gSubD, setF, dRet, outD, dNext, dIf, lenP, dLstM, newL, dLst, dTup, lstO, tupO, okL, mx, dFrz, frzD, frzO, dF, noX, dExpr, dMeth, isLs, inL, appF, dPar, par2, lP, allF, listP, inS, q, m]⟩
  · exact ⟨a, b, c + v * (k + 2), by simp [b_cells, runD, start0, bnd, bndN, dSeq, dIfS, dTest, dTru, truP, truD, dNotT, dAndT, dOrT, dAnd, dOr, dNot, d2, dV, dC, lft, pur, ixO, atI, ixN, blO, pur2, ordO, gtI, ltI, leI, geI, Tw.ret, dAsg, dCall, dCons, dNil, pur1, purL, intF, absF, gN, modO, divO, mulO, addO, subO, i2, i2c, gSubD, setF, dRet, outD, dNext, dIf, lenP, dLstM, newL, dLst, dTup, lstO, tupO, okL, mx, dFrz, frzD, frzO, dF, noX, dExpr, dMeth, isLs, inL, appF, dPar, par2, lP, allF, listP, inS, q, m]⟩
theorem loop_cells (s : D) : ∀ (es : List D), (∀ d ∈ es, ∃ (i : Nat) (v : Int), i < 1000 ∧ d = .tup [.int (i : Int), .int v]) → ∀ (u3 u4 u5 : Option D) (a b c : Int),
    ∃ (w3 w4 w5 : Option D) (a' b' c' : Int), bodyL (gT 2 (gsCons (gN 3) (gsCons (gN 4) gsNil))) b_cells es [some s, some (.int 3), some (.ref 0), u3, u4, u5] [.lst [.int a, .int b, .int c]] =
      some (.inr (.nx [some s, some (.int 3), some (.ref 0), w3, w4, w5]), [.lst [.int a', .int b', .int c']])
  | [], _, u3, u4, u5, a, b, c => ⟨u3, u4, u5, a, b, c, rfl⟩
  | d :: r, h, u3, u4, u5, a, b, c => by
    obtain ⟨i, v, hi, rfl⟩ := h d (List.mem_cons_self ..)
    obtain ⟨a', b', c', e1⟩ := b_one s u5 (i : Int) (by omega) (by omega) v a b c
    obtain ⟨w3, w4, w5, a2, b2, c2, e2⟩ := loop_cells s r (fun e he => h e (List.mem_cons_of_mem _ he)) (some (.int (i : Int))) (some (.int v)) (some (.int ((i : Int) % 3))) a' b' c'
    refine ⟨w3, w4, w5, a2, b2, c2, ?_⟩
    rw [bodyL]
    simp [bnd, lft, gT, gsCons, gN, gsNil, e1, e2]
theorem cells_ok (ns : List Int) (hl : ns.length ≤ 63) : ∃ (zs : List Int) (G : List O), zs.length ≤ 3 ∧ F_l_cells [.scr (ns.map D.int), .int 3] [] = some (.inr (.lst (zs.map D.int)), G) := by
  match ns, hl with
  | [], _ => exact ⟨[0], _, by simp, rfl⟩
  | [a], _ => exact ⟨[a], _, by simp, rfl⟩
  | [a, b], _ => exact ⟨[a, b], _, by simp, rfl⟩
  | a :: b :: c :: r, hl =>
    have hr : r.length ≤ 60 := by simp at hl; omega
    obtain ⟨w3, w4, w5, a', b', c', e⟩ := loop_cells (.scr ((a :: b :: c :: r).map D.int)) (enumD (r.map D.int)) (by
      intro d hd
      unfold enumD at hd
      simp only [List.mem_map] at hd
      obtain ⟨⟨x, i⟩, hx, rfl⟩ := hd
      have := List.mem_zipIdx hx
      obtain ⟨h1, h2, h3⟩ := this
      simp at h2 h3
      exact ⟨i, _, by omega, by rw [h3]⟩) none none none a b c
    refine ⟨[a', b', c'], [.gone], by simp, ?_⟩
    have hc1 : Tw.cutD ((a :: b :: c :: r).map D.int) none (some 3) = [.int a, .int b, .int c] := by
      simp [Tw.cutD, HT.sIx]
    have hc2 : Tw.cutD ((a :: b :: c :: r).map D.int) (some 3) (some 63) = r.map D.int := by
      have l1 : r.length ≤ 60 := hr
      simp [Tw.cutD, HT.sIx]
      exact List.take_of_length_le (by simp; omega)
    generalize (a :: b :: c :: r).map D.int = ds at hc1 hc2 e ⊢
    refine run_rt (G1 := [.gone]) ?_
    refine (seq_nx (ρ1 := [some (.scr ds), some (.int 3), some (.ref 0), none, none, none]) (G1 := [.lst [.int a, .int b, .int c]]) ?_).trans ?_
    · simp [N_l_cells, runD, start0, bnd, bndN, dSeq, dIfS, dTest, dTru, truP, truD, dNotT, dAndT, dOrT, dAnd, dOr, dNot, d2, dV, dC, lft, pur, ixO, atI, ixN, blO, pur2, ordO, gtI, ltI, leI, geI, Tw.ret, dAsg, dCall, dCons, dNil, pur1, purL, intF, absF, gN, modO, divO, mulO, addO, subO, i2, i2c, gSubD, setF, dRet, outD, dNext, dIf, lenP, dLstM, newL, dLst, dTup, lstO, tupO, okL, mx, dFrz, frzD, frzO, dF, noX, dExpr, dMeth, isLs, inL, appF, dPar, par2, lP, allF, listP, inS, dSl, dNoP, dP, intO, slP, slO, hc1]
    · refine (seq_nx (ρ1 := [some (.scr ds), some (.int 3), some (.ref 0), w3, w4, w5]) (G1 := [.lst [.int a', .int b', .int c']]) ?_).trans ?_
      · refine (for_eq (es := enumD (r.map D.int)) (G1 := [.lst [.int a, .int b, .int c]]) ?_).trans e
        simp [runD, start0, bnd, bndN, dSeq, dIfS, dTest, dTru, truP, truD, dNotT, dAndT, dOrT, dAnd, dOr, dNot, d2, dV, dC, lft, pur, ixO, atI, ixN, blO, pur2, ordO, gtI, ltI, leI, geI, Tw.ret, dAsg, dCall, dCons, dNil, pur1, purL, intF, absF, gN, modO, divO, mulO, addO, subO, i2, i2c, gSubD, setF, dRet, outD, dNext, dIf, lenP, dLstM, newL, dLst, dTup, lstO, tupO, okL, mx, dFrz, frzD, frzO, dF, noX, dExpr, dMeth, isLs, inL, appF, dPar, par2, lP, allF, listP, inS, dSl, dNoP, dP, intO, slP, slO, dRng, enum1, itL, hc2]
      · rfl
end K02

namespace K02
open PySem PySem.Spec PyProof.Rows L2 Tw
theorem nr_ints : ∀ l : List Int, noRs (l.map D.int) = true
  | [] => rfl
  | a :: l => by
    show (noR (.int a) && noRs (l.map D.int)) = true
    rw [nr_ints l]
    rfl
theorem box_at (ds : List D) (k : Nat) (c : Int) (h : ds[k]? = some (.int c)) (G : List O) : ∃ x y : Int, 0 ≤ x ∧ F_l_box [.lst ds, .int (k : Int)] G = some (.inr (.ref G.length), G ++ [bx x y 0]) := box_ok ds k c h G
theorem cells_ans (ns : List Int) (hl : ns.length ≤ 63) : ∃ zs : List Int, zs.length ≤ 3 ∧ Ans F_l_cells [.scr (ns.map D.int), .int 3] (.lst (zs.map D.int)) := by
  obtain ⟨zs, G, hz, e⟩ := cells_ok ns hl
  exact ⟨zs, hz, _, G, e, rfl⟩
theorem law_ok (ns : List Int) (hl : ns.length ≤ 63) : ∃ G, F_law [.scr (ns.map D.int)] [] = some (.inr (.bl true), G) := by
  have mz : (1000 : Nat) ≤ mx := by decide
  suffices hw : WP (F_law [.scr (ns.map D.int)]) [] fun d _ => d = .bl true by
    obtain ⟨d, G, e, h⟩ := hw
    subst h
    exact ⟨G, e⟩
  obtain ⟨zs, hz, hc⟩ := cells_ans ns hl
  refine w_run ?_
  unfold ds_law
  refine w_seq (w_asg (w_ans ?_))
  (repeat (first | (with_reducible first | refine w_v rfl ?_ | refine w_c ?_ | refine w_d2 ?_ | refine w_cons ?_ | refine w_nil ?_ | refine w_call ?_ | refine w_tup ?_ | refine w_tpn ?_ | refine w_lst ?_ | refine w_lstM ?_ | refine w_wk ?_ | refine w_frz ?_ | refine w_meth ?_ | refine w_test ?_ | refine w_notT ?_ | refine w_andT ?_ | refine w_orT ?_ | refine w_yes ?_ | refine w_and ?_ | refine w_or ?_ | refine w_not ?_ | refine w_if ?_ | refine w_ifS ?_ | refine w_seq ?_ | refine w_next ?_ | refine w_cnt ?_ | refine w_ret ?_ | refine w_expr ?_ | refine w_asg ?_ | refine w_par ?_ | refine w_F ?_ | refine w_Fp ?_ | refine w_itL ?_ | refine w_itT ?_ | refine w_itK ?_ | refine w_rng ?_ | refine w_neg ?_ | refine w_dput ?_ | refine w_newD ?_) | with_reducible refine w_then ?_ | refine ⟨_, _, rfl, ?_⟩ | refine ⟨_, rfl, ?_⟩ | refine ⟨by decide, ?_⟩ | refine ⟨_, _, eqS (by decide +kernel) (by decide +kernel), ?_⟩ | refine ⟨(by simp only [List.length_cons, List.length_nil]; decide), ?_⟩ | refine ⟨fun c => absurd c (by decide +kernel), fun _ => ?_⟩ | refine ⟨fun _ => ?_, fun c => absurd c (by decide +kernel)⟩))
  refine ⟨by simp only [noRs, noR, nr_ints] <;> rfl, _, hc, by simp only [noR, nr_ints], _, _, rfl, w_then ?_⟩
  refine w_ret (w_and (w_ans (w_nil ⟨rfl, .bl true, Ans.of hand_ok, rfl, true, rfl, fun _ => ?_, fun c => (by cases c)⟩)))
  refine w_call (w_cons (w_lc (fun ds ys G => ∃ k : Nat, k + ds.length = zs.length ∧ ds = (List.range' k ds.length).map (fun (i : Nat) => D.int (0 + (i : Int))) ∧ ys = List.replicate ys.length (.bl true) ∧ ys.length = k) ?_ ?_ ?_))
  · refine w_rng (w_cons (w_call (w_cons (w_v rfl (w_nil ⟨.int zs.length, [], ?_, w_nil ⟨rngD 0 zs.length, ?_, 0, ?_, ?_, rfl, rfl⟩⟩)))))
    · show some (D.int ((zs.map D.int).length : Nat), _) = _
      rw [List.length_map]
    · unfold rng1
      dsimp only
      rw [smallR (by omega) (by omega)]
      rfl
    · simp [rngD]
    · unfold rngD
      rw [List.length_map, List.length_range, List.range_eq_range']
  · rintro d r ys G ⟨k, hk, hd, hy, hyl⟩
    simp only [List.length_cons] at hk hd
    rw [List.range'_succ, List.map_cons] at hd
    obtain ⟨hd1, hd2⟩ := List.cons.inj hd
    subst hd1
    obtain ⟨c, hc⟩ : ∃ c, zs[k]? = some c := ⟨_, List.getElem?_eq_getElem (by omega)⟩
    have hdz : (zs.map D.int)[k]? = some (.int c) := by rw [List.getElem?_map, hc]; rfl
    obtain ⟨x, y, hx, eb⟩ := box_at (zs.map D.int) k c hdz G
    obtain ⟨Gr, er⟩ := right_ok (y := y) hx
    have z : ((0 : Int) + (k : Int)) = (k : Int) := by omega
    have g1 : (G ++ [bx x y 0])[G.length]? = some (bx x y 0) := by simp
    have nr : noRs [.int x, .int y, .int 0] = true := rfl
    refine ⟨[some (.scr (ns.map D.int)), some (.lst (zs.map D.int)), some (.int (0 + (k : Int)))], G, rfl, w_yes ⟨fun _ => ?_, fun c => (by cases c)⟩⟩
    refine ⟨.bl true, (G ++ [bx x y 0]).set G.length .gone, ?_, k + 1, by omega, hd2, ?_, by simp [hyl]⟩
    · simp only [lft, Tw.ret, dFm, dCons, dNil, dF, dV, pur, bnd, noX, movF, refN, mvDs, mvD, z, List.getElem?_cons_zero, List.getElem?_cons_succ, List.set_cons_zero, List.set_cons_succ, wipeD, eb, er, g1, nr, noR, if_true]
    · rw [List.length_append]
      show ys ++ [.bl true] = List.replicate (ys.length + 1) _
      rw [List.replicate_succ', ← hy]
  · rintro ys G ⟨k, hk, hd, hy, hyl⟩
    refine ⟨by simp at hk; omega, w_nil ⟨.bl true, G, ?_, _, rfl, rfl⟩⟩
    rw [hy]
    simp [lP, inL, all_rep]
end K02

set_option maxHeartbeats 0
namespace K02
open PySem PySem.Spec PyProof.Rows L2 Tw
/-! ### the head's facts -/
def inits : List (Str × Str) := [("NoGroup", "name"), ("NoStep", "number"), ("NoTask", "name")]
open He PySem.W in
def tupS (K : Frag) (a : Addr) (ks : List Str) : Bool := match K.lookup a with
  | some ⟨.type c, _, .seq its _, _⟩ => decide (c = "tuple") && (decide (its.size ≤ sizeLine) && relAll (ks.map V.str) its.toList)
  | _ => false
open He PySem.W in
def fx0 (K : Frag) : Bool := tupB K "QUEUE_WORDS" [.str "put", .str "get"]
open He PySem.W in
def fx1 (K : Frag) : Bool := tupB K "SIGNAL_WORDS" [.str "set", .str "hear"]
open He PySem.W in
def fx2 (K : Frag) : Bool := tupB K "CLOSING_WORDS" [.str "close", .str "catch"]
open He PySem.W in
def fx3 (K : Frag) : Bool := (leaves.all fun c => xclB K (ga K c))
open He PySem.W in
def fx4 (K : Frag) : Bool := (inits.all fun p => decide (findIn K (.ref (ga K p.1)) p.2 = some none) && (decide (findIn K (.ref (ga K p.1)) "__init__" = some (some (.ref (ma K (ga K p.1) "__init__")))) && decide (typeIn K (.ref (ma K (ga K p.1) "__init__")) = some (.type "function"))))
open He PySem.W in
def fx5 (K : Frag) : Bool := (leaves.all fun c => decide (kitOne K (.ref (ga K c)) (.ref (ga K "HouseError")) = some true))
open He PySem.W in
def fx6 (K : Frag) : Bool := (leaves.all fun c => leaves.all fun m => decide (exmOne K (.ref (ga K c)) (.ref (ga K m)) = some (c == m)))
def fx (K : PySem.W.Frag) : Bool := fx0 K && (fx1 K && (fx2 K && (fx3 K && (fx4 K && (fx5 K && (fx6 K))))))
theorem fx_0 {K : PySem.W.Frag} (f : fx K = true) : fx0 K = true := by
  unfold fx at f
  exact (Bool.and_eq_true_iff.mp f).1
theorem fx_1 {K : PySem.W.Frag} (f : fx K = true) : fx1 K = true := by
  unfold fx at f
  exact (Bool.and_eq_true_iff.mp (Bool.and_eq_true_iff.mp f).2).1
theorem fx_2 {K : PySem.W.Frag} (f : fx K = true) : fx2 K = true := by
  unfold fx at f
  exact (Bool.and_eq_true_iff.mp (Bool.and_eq_true_iff.mp (Bool.and_eq_true_iff.mp f).2).2).1
theorem fx_3 {K : PySem.W.Frag} (f : fx K = true) : fx3 K = true := by
  unfold fx at f
  exact (Bool.and_eq_true_iff.mp (Bool.and_eq_true_iff.mp (Bool.and_eq_true_iff.mp (Bool.and_eq_true_iff.mp f).2).2).2).1
theorem fx_4 {K : PySem.W.Frag} (f : fx K = true) : fx4 K = true := by
  unfold fx at f
  exact (Bool.and_eq_true_iff.mp (Bool.and_eq_true_iff.mp (Bool.and_eq_true_iff.mp (Bool.and_eq_true_iff.mp (Bool.and_eq_true_iff.mp f).2).2).2).2).1
theorem fx_5 {K : PySem.W.Frag} (f : fx K = true) : fx5 K = true := by
  unfold fx at f
  exact (Bool.and_eq_true_iff.mp (Bool.and_eq_true_iff.mp (Bool.and_eq_true_iff.mp (Bool.and_eq_true_iff.mp (Bool.and_eq_true_iff.mp (Bool.and_eq_true_iff.mp f).2).2).2).2).2).1
theorem fx_6 {K : PySem.W.Frag} (f : fx K = true) : fx6 K = true := by
  unfold fx at f
  exact (Bool.and_eq_true_iff.mp (Bool.and_eq_true_iff.mp (Bool.and_eq_true_iff.mp (Bool.and_eq_true_iff.mp (Bool.and_eq_true_iff.mp (Bool.and_eq_true_iff.mp f).2).2).2).2).2).2
def ts : List He.Tab := []
def fa : List He.Fa := [.glo "_law_cells", .glo "_law_lists", .glo "_law_same", .glo "task_names", .glo "naming_marks", .glo "queue_names", .glo "signal_names", .glo "first_tasks", .glo "tupled", .glo "row_of", .glo "script_of", .glo "group_of", .glo "starter_of", .glo "host_of", .glo "hosts_above", .glo "tasks_in", .glo "closer_of", .glo "step_of", .glo "depths", .glo "shields_at", .glo "_law_heard", .glo "room_of", .glo "all_marks", .glo "_law_by_hand_right", .glo "_law_take", .glo "_law_pick", .glo "_law_of", .glo "_law_script", .glo "_law_house", .glo "_law_right", .glo "_law_box", .glo "law", .glo "QUEUE_WORDS", .glo "SIGNAL_WORDS", .glo "CLOSING_WORDS", .glo "NoGroup", .glo "NoStep", .glo "NoTask", .glo "HouseError", .free "isinstance", .free "list", .free "tuple", .free "enumerate", .free "sorted", .free "set", .free "len", .free "range", .free "abs", .free "int", .free "min", .free "all", .free "bool", .free "str", .free "zip", .free "dict", .free "sum"]
def mth (s : Stmt) : Stmt := match s with
  | .ClassDef (body := b) .. => b.getD 0 (.Pass ⟨0, 0, 0, 0⟩)
  | _ => .Pass ⟨0, 0, 0, 0⟩
def d_l_cells : He.DefD := ⟨("_law_cells", none), "_law_cells", "_law_cells", defArgs s_l_cells, defBody s_l_cells, defScope s_l_cells, [], []⟩
def d_l_lists : He.DefD := ⟨("_law_lists", none), "_law_lists", "_law_lists", defArgs s_l_lists, defBody s_l_lists, defScope s_l_lists, [], []⟩
def d_l_same : He.DefD := ⟨("_law_same", none), "_law_same", "_law_same", defArgs s_l_same, defBody s_l_same, defScope s_l_same, [], []⟩
def d_task_names : He.DefD := ⟨("task_names", none), "task_names", "task_names", defArgs s_task_names, defBody s_task_names, defScope s_task_names, [], []⟩
def d_naming_marks : He.DefD := ⟨("naming_marks", none), "naming_marks", "naming_marks", defArgs s_naming_marks, defBody s_naming_marks, defScope s_naming_marks, [], []⟩
def d_queue_names : He.DefD := ⟨("queue_names", none), "queue_names", "queue_names", defArgs s_queue_names, defBody s_queue_names, defScope s_queue_names, [], []⟩
def d_signal_names : He.DefD := ⟨("signal_names", none), "signal_names", "signal_names", defArgs s_signal_names, defBody s_signal_names, defScope s_signal_names, [], []⟩
def d_first_tasks : He.DefD := ⟨("first_tasks", none), "first_tasks", "first_tasks", defArgs s_first_tasks, defBody s_first_tasks, defScope s_first_tasks, [], []⟩
def d_tupled : He.DefD := ⟨("tupled", none), "tupled", "tupled", defArgs s_tupled, defBody s_tupled, defScope s_tupled, [], []⟩
def d_row_of : He.DefD := ⟨("row_of", none), "row_of", "row_of", defArgs s_row_of, defBody s_row_of, defScope s_row_of, [], []⟩
def d_script_of : He.DefD := ⟨("script_of", none), "script_of", "script_of", defArgs s_script_of, defBody s_script_of, defScope s_script_of, [], []⟩
def d_group_of : He.DefD := ⟨("group_of", none), "group_of", "group_of", defArgs s_group_of, defBody s_group_of, defScope s_group_of, [], []⟩
def d_starter_of : He.DefD := ⟨("starter_of", none), "starter_of", "starter_of", defArgs s_starter_of, defBody s_starter_of, defScope s_starter_of, [], []⟩
def d_host_of : He.DefD := ⟨("host_of", none), "host_of", "host_of", defArgs s_host_of, defBody s_host_of, defScope s_host_of, [], []⟩
def d_hosts_above : He.DefD := ⟨("hosts_above", none), "hosts_above", "hosts_above", defArgs s_hosts_above, defBody s_hosts_above, defScope s_hosts_above, [], []⟩
def d_tasks_in : He.DefD := ⟨("tasks_in", none), "tasks_in", "tasks_in", defArgs s_tasks_in, defBody s_tasks_in, defScope s_tasks_in, [], []⟩
def d_closer_of : He.DefD := ⟨("closer_of", none), "closer_of", "closer_of", defArgs s_closer_of, defBody s_closer_of, defScope s_closer_of, [], []⟩
def d_step_of : He.DefD := ⟨("step_of", none), "step_of", "step_of", defArgs s_step_of, defBody s_step_of, defScope s_step_of, [], []⟩
def d_depths : He.DefD := ⟨("depths", none), "depths", "depths", defArgs s_depths, defBody s_depths, defScope s_depths, [], []⟩
def d_shields_at : He.DefD := ⟨("shields_at", none), "shields_at", "shields_at", defArgs s_shields_at, defBody s_shields_at, defScope s_shields_at, [], []⟩
def d_l_heard : He.DefD := ⟨("_law_heard", none), "_law_heard", "_law_heard", defArgs s_l_heard, defBody s_l_heard, defScope s_l_heard, [], []⟩
def d_room_of : He.DefD := ⟨("room_of", none), "room_of", "room_of", defArgs s_room_of, defBody s_room_of, defScope s_room_of, [], []⟩
def d_all_marks : He.DefD := ⟨("all_marks", none), "all_marks", "all_marks", defArgs s_all_marks, defBody s_all_marks, defScope s_all_marks, [], []⟩
def d_l_by_hand_right : He.DefD := ⟨("_law_by_hand_right", none), "_law_by_hand_right", "_law_by_hand_right", defArgs s_l_by_hand_right, defBody s_l_by_hand_right, defScope s_l_by_hand_right, [], []⟩
def d_l_take : He.DefD := ⟨("_law_take", none), "_law_take", "_law_take", defArgs s_l_take, defBody s_l_take, defScope s_l_take, [], []⟩
def d_l_pick : He.DefD := ⟨("_law_pick", none), "_law_pick", "_law_pick", defArgs s_l_pick, defBody s_l_pick, defScope s_l_pick, [], []⟩
def d_l_of : He.DefD := ⟨("_law_of", none), "_law_of", "_law_of", defArgs s_l_of, defBody s_l_of, defScope s_l_of, [], []⟩
def d_l_script : He.DefD := ⟨("_law_script", none), "_law_script", "_law_script", defArgs s_l_script, defBody s_l_script, defScope s_l_script, [], []⟩
def d_l_house : He.DefD := ⟨("_law_house", none), "_law_house", "_law_house", defArgs s_l_house, defBody s_l_house, defScope s_l_house, [], []⟩
def d_l_right : He.DefD := ⟨("_law_right", none), "_law_right", "_law_right", defArgs s_l_right, defBody s_l_right, defScope s_l_right, [], []⟩
def d_l_box : He.DefD := ⟨("_law_box", none), "_law_box", "_law_box", defArgs s_l_box, defBody s_l_box, defScope s_l_box, [], []⟩
def d_law : He.DefD := ⟨("law", none), "law", "law", defArgs s_law, defBody s_law, defScope s_law, [], []⟩
abbrev i_NoGroup : Stmt := mth (top 2)
def d_NoGroup : He.DefD := ⟨("NoGroup", some "__init__"), "__init__", "NoGroup.__init__", defArgs i_NoGroup, defBody i_NoGroup, defScope i_NoGroup, [], []⟩
abbrev i_NoStep : Stmt := mth (top 3)
def d_NoStep : He.DefD := ⟨("NoStep", some "__init__"), "__init__", "NoStep.__init__", defArgs i_NoStep, defBody i_NoStep, defScope i_NoStep, [], []⟩
abbrev i_NoTask : Stmt := mth (top 4)
def d_NoTask : He.DefD := ⟨("NoTask", some "__init__"), "__init__", "NoTask.__init__", defArgs i_NoTask, defBody i_NoTask, defScope i_NoTask, [], []⟩
def fn : List He.DefD := [d_l_cells, d_l_lists, d_l_same, d_task_names, d_naming_marks, d_queue_names, d_signal_names, d_first_tasks, d_tupled, d_row_of, d_script_of, d_group_of, d_starter_of, d_host_of, d_hosts_above, d_tasks_in, d_closer_of, d_step_of, d_depths, d_shields_at, d_l_heard, d_room_of, d_all_marks, d_l_by_hand_right, d_l_take, d_l_pick, d_l_of, d_l_script, d_l_house, d_l_right, d_l_box, d_law, d_NoGroup, d_NoStep, d_NoTask]
/-! ### a hook with one more look -/
def hookX (n : Nat) (fx : PySem.W.Frag → Bool) (fa : List He.Fa) (fn : List He.DefD) (ts : List He.Tab) : PySem.W.Hook where
  α := Bool × He.AlT
  obs := fun s => (fx (He.frG s.heap.get? (He.asD s.heap.get? n)), He.obsT fa fn ts (He.frG s.heap.get? (He.asD s.heap.get? n)))
  val := fun w => (true, He.valT fn ts w)
  says := fun w h => ∃ K : PySem.W.Frag, K.In h ∧ fx K = true ∧ He.SaysT fa fn ts w K
  of := fun _ _ e => ⟨_, He.frG_in, congrArg Prod.fst e, congrArg Prod.snd e⟩
  keeps := fun _ _ _ ⟨K, hK, c⟩ k => ⟨K, PySem.W.Frag.In.keeps hK k, c⟩
def obX (n : Nat) (fx : PySem.W.Frag → Bool) (fa : List He.Fa) (fn : List He.DefD) (ts : List He.Tab) (g : Addr → Option Obj) : Bool × He.AlT := (fx (He.frG g (He.asD g n)), He.obsT fa fn ts (He.frG g (He.asD g n)))
theorem obX_eq {n : Nat} {fx : PySem.W.Frag → Bool} {fa : List He.Fa} {fn : List He.DefD} {ts : List He.Tab} {g : Addr → Option Obj} {s : Shared} (h : ∀ a, g a = s.heap.get? a) : obX n fx fa fn ts g = (hookX n fx fa fn ts).obs s := by
  have e : g = s.heap.get? := funext h
  rw [e] <;> rfl
abbrev R : PySem.W.OpenRow := PySem.W.OpenLaw.row PySem.Challenge.rw_giveways_k02_parts_of_houses
abbrev hk : PySem.W.Hook := hookX 5 fx fa fn ts
def ob (s : PySem.W.SharedT) : Bool × He.AlT := obX 5 fx fa fn ts (HandSHeadRun.getT s)
theorem ob_eq (s : PySem.W.SharedT) : ob s = hk.obs s.abs := obX_eq (HandSHeadRun.getT_eq s)
def loose : List Str := (["HouseError", "NoGroup", "NoStep", "NoTask", "tupled", "depths", "naming_marks", "task_names", "queue_names", "signal_names", "first_tasks", "row_of", "script_of", "group_of", "step_of", "shields_at", "all_marks", "starter_of", "host_of", "tasks_in", "closer_of", "hosts_above", "room_of", "_law_box", "_law_take"] : List Str) ++ (["_law_cells", "_law_of", "_law_pick", "_law_same", "_law_lists", "_law_script", "_law_house", "_law_heard", "_law_by_hand_right", "_law_right", "QUEUE_WORDS", "SIGNAL_WORDS", "CLOSING_WORDS"] : List Str)
theorem runF (w : World) : HandSHeadRun.RunEq R (PySem.W.view R.prog [43]) hk ob 6000 loose (w.withFollow "special-get-raises" false) := by
  intro os
  kernel_rfl
theorem runT (w : World) : HandSHeadRun.RunEq R (PySem.W.view R.prog [43]) hk ob 6000 loose (w.withFollow "special-get-raises" true) := by
  intro os
  kernel_rfl
theorem run (w : World) : HandSHeadRun.RunEq R (PySem.W.view R.prog [43]) hk ob 6000 loose w := by
  have e := World.withFollow_self w "special-get-raises"
  cases hb : w.params.followText "special-get-raises" <;> rw [hb] at e
  · have z := runF w
    rwa [e] at z
  · have z := runT w
    rwa [e] at z
end K02

set_option maxHeartbeats 0
namespace K02
open PySem PySem.Spec PyProof.Rows L2 Tw
section
variable {P : Program} {w : World} {K : PySem.W.Frag} {h : Heap} {mg : Str → Option Value} {base : Heap}
theorem no_key {a : Addr} {es : Array DictEntry} {n : Nat} {ks : List Str} (D0 : KDict K w a es n) (h : He.dicW K a = some (He.keysIn w.params ks)) {z : Str} (hz : z ∉ ks) : PySem.W.nsIn K a z = some none := by
  unfold He.dicW at h
  rw [D0.at_] at h
  have h2 : es.toList.map He.keyOf = He.keysIn w.params ks := by
    have h1 : (match decide (("dict" : String) = "dict") && ((#[] : Array _).isEmpty && !(a == sysModules)) with
      | true => some (es.toList.map He.keyOf)
      | false => none) = some (He.keysIn w.params ks) := h
    rw [D0.low] at h1
    exact Option.some.inj h1
  have hk : ∀ e ∈ es.toList, ∃ k t, k ∈ ks ∧ e.key = .str k t := by
    intro e he
    have m1 : He.keyOf e ∈ He.keysIn w.params ks := by
      rw [← h2]
      exact List.mem_map_of_mem he
    unfold He.keysIn at m1
    obtain ⟨k, hk, e1⟩ := List.mem_map.mp m1
    unfold He.keyOf at e1
    split at e1
    · rename_i x t q
      have e2 := (Prod.mk.inj (Option.some.inj e1)).1
      exact ⟨x, t, by rw [← e2]; exact hk, q⟩
    · cases e1
  have f1 : es.toList.find? (·.key.isStr z) = none := by
    rw [List.find?_eq_none]
    intro e he
    obtain ⟨k, t, mk, q⟩ := hk e he
    rw [q]
    intro c
    have c2 : (k == z) = true := c
    have c3 := beq_iff_eq.mp c2
    subst c3
    exact hz mk
  have f2 : es.toList.any (·.refKey) = false := by
    rw [List.any_eq_false]
    intro e he c
    obtain ⟨k, t, _, q⟩ := hk e he
    unfold DictEntry.refKey at c
    rw [q] at c
    cases c
  unfold PySem.W.nsIn
  rw [D0.at_]
  show (match es.toList.find? (·.key.isStr z) with
    | some e => some (some e.val)
    | none => if es.toList.any (·.refKey) then none else some none) = some none
  rw [f1]
  show (if es.toList.any (·.refKey) then none else some none) = some none
  rw [f2]
  rfl
theorem strs_rv {Kp : Pm} (W : Wd) (H : Hp) : ∀ l : List Str, Rvs Kp W H (l.map V.str) (l.map D.str)
  | [] => .nil
  | z :: l => .cons (.str z) (strs_rv W H l)
theorem tupS_ok {a : Addr} {ks : List Str} (h : tupS K a ks = true) (H : Hp) : SqT K H a (ks.map V.str) := by
  unfold tupS at h
  cases q : K.lookup a with
  | none =>
    rw [q] at h
    cases h
  | some o =>
    obtain ⟨oc, od, dt, osl⟩ := o
    rw [q] at h
    cases oc with
    | type c =>
      cases dt with
      | seq its n =>
        obtain ⟨h1, h2⟩ := He.ba (show (decide (c = "tuple") && (decide (its.size ≤ sizeLine) && He.relAll (ks.map V.str) its.toList)) = true from h)
        obtain ⟨h3, h4⟩ := He.ba h2
        exact .inr ⟨_, its, n, q, congrArg Value.type (of_decide_eq_true h1), rfl, of_decide_eq_true h3, He.relAll_ok h4⟩
      | _ => cases h
    | _ => cases dt <;> cases h
theorem fx_xcl (f : fx K = true) {c : Str} (hc : c ∈ leaves) : Xcl K (He.ga K c) := by
  have f1 := fx_3 f
  unfold fx3 at f1
  exact xclB_ok (List.all_eq_true.mp f1 c hc)
theorem fx_init (f : fx K = true) {p : Str × Str} (hp : p ∈ inits) : PySem.W.findIn K (.ref (He.ga K p.1)) p.2 = some none ∧ PySem.W.findIn K (.ref (He.ga K p.1)) "__init__" = some (some (.ref (He.ma K (He.ga K p.1) "__init__"))) ∧ PySem.W.typeIn K (.ref (He.ma K (He.ga K p.1) "__init__")) = some (.type "function") := by
  have f1 := fx_4 f
  unfold fx4 at f1
  have z := List.all_eq_true.mp f1 p hp
  obtain ⟨z1, z2⟩ := Bool.and_eq_true_iff.mp z
  obtain ⟨z2, z3⟩ := Bool.and_eq_true_iff.mp z2
  exact ⟨of_decide_eq_true z1, of_decide_eq_true z2, of_decide_eq_true z3⟩
theorem in_leaves (c : Str) (h : leaves.contains c = true) : c ∈ leaves := by simpa using h
theorem in_inits (p : Str × Str) (h : inits.contains p = true) : p ∈ inits := by simpa using h
theorem fx_isx (f : fx K = true) (hm : ∀ c ∈ leaves, mg c = some (.ref (He.ga K c))) (hh : mg "HouseError" = some (.ref (He.ga K "HouseError"))) : XIs K mg tab_isx := by
  have f1 := fx_5 f
  unfold fx5 at f1
  intro c k b e
  unfold tab_isx at e
  split at e
  · rename_i m
    split at e
    · rename_i hc
      have hc' : c ∈ leaves := by simpa using hc
      split at e
      · rename_i em
        have em := beq_iff_eq.mp em
        subst em
        cases e
        exact ⟨_, hm c hc', fx_xcl f hc', _, hh, of_decide_eq_true (List.all_eq_true.mp f1 c hc')⟩
      · cases e
    · cases e
  · cases e
theorem fx_exm (f : fx K = true) (hm : ∀ c ∈ leaves, mg c = some (.ref (He.ga K c))) : XEx K mg tab_exm := by
  have f1 := fx_6 f
  unfold fx6 at f1
  intro c m b e
  unfold tab_exm at e
  split at e
  · rename_i hc
    obtain ⟨h1, h2⟩ := Bool.and_eq_true_iff.mp hc
    have c1 : c ∈ leaves := by simpa using h1
    have c2 : m ∈ leaves := by simpa using h2
    cases e
    exact ⟨_, _, hm c c1, hm m c2, of_decide_eq_true (List.all_eq_true.mp (List.all_eq_true.mp f1 c c1) m c2)⟩
  · cases e
theorem xm_NoGroup (f : fx K = true) (X : K.In h) (G : h.Ns mainGlobals mg) (c : He.SaysD fa fn K) : XM P w K mg base "NoGroup" "name" := by
  obtain ⟨h1, h2, h3⟩ := fx_init f (in_inits ("NoGroup", "name") (by decide +kernel))
  obtain ⟨fd, F⟩ := c.def_ 32 (d := d_NoGroup) rfl
  have O := (fx_xcl f (in_leaves "NoGroup" (by decide +kernel))).o
  exact ⟨_, _, fd, He.glo_ok X G (c.fact 35 (f := .glo "NoGroup") rfl), O, h2, h3, ok_init O h1 F ⟨rfl, rfl, rfl, by decide +kernel, rfl, by decide +kernel, by decide +kernel⟩ (Or.inl rfl) (Or.inl rfl) (by decide) (by decide), kb_pos F (fun _ _ _ _ _ _ _ _ => rfl), kb_kw F (fun _ _ _ _ _ _ _ _ => rfl)⟩
theorem xm_NoStep (f : fx K = true) (X : K.In h) (G : h.Ns mainGlobals mg) (c : He.SaysD fa fn K) : XM P w K mg base "NoStep" "number" := by
  obtain ⟨h1, h2, h3⟩ := fx_init f (in_inits ("NoStep", "number") (by decide +kernel))
  obtain ⟨fd, F⟩ := c.def_ 33 (d := d_NoStep) rfl
  have O := (fx_xcl f (in_leaves "NoStep" (by decide +kernel))).o
  exact ⟨_, _, fd, He.glo_ok X G (c.fact 36 (f := .glo "NoStep") rfl), O, h2, h3, ok_init O h1 F ⟨rfl, rfl, rfl, by decide +kernel, rfl, by decide +kernel, by decide +kernel⟩ (Or.inl rfl) (Or.inl rfl) (by decide) (by decide), kb_pos F (fun _ _ _ _ _ _ _ _ => rfl), kb_kw F (fun _ _ _ _ _ _ _ _ => rfl)⟩
theorem xm_NoTask (f : fx K = true) (X : K.In h) (G : h.Ns mainGlobals mg) (c : He.SaysD fa fn K) : XM P w K mg base "NoTask" "name" := by
  obtain ⟨h1, h2, h3⟩ := fx_init f (in_inits ("NoTask", "name") (by decide +kernel))
  obtain ⟨fd, F⟩ := c.def_ 34 (d := d_NoTask) rfl
  have O := (fx_xcl f (in_leaves "NoTask" (by decide +kernel))).o
  exact ⟨_, _, fd, He.glo_ok X G (c.fact 37 (f := .glo "NoTask") rfl), O, h2, h3, ok_init O h1 F ⟨rfl, rfl, rfl, by decide +kernel, rfl, by decide +kernel, by decide +kernel⟩ (Or.inl rfl) (Or.inl rfl) (by decide) (by decide), kb_pos F (fun _ _ _ _ _ _ _ _ => rfl), kb_kw F (fun _ _ _ _ _ _ _ _ => rfl)⟩
theorem tx_ok (f : fx K = true) (X : K.In h) (G : h.Ns mainGlobals mg) (c : He.SaysT fa fn ts w K) : Tx P w K mg base := by
  have hm : ∀ z ∈ leaves, mg z = some (.ref (He.ga K z)) := by
    intro z hz
    simp only [leaves, List.mem_cons, List.not_mem_nil, or_false] at hz
    rcases hz with rfl | rfl | rfl
    · exact He.glo_ok X G (c.d.fact 35 (f := .glo "NoGroup") rfl)
    · exact He.glo_ok X G (c.d.fact 36 (f := .glo "NoStep") rfl)
    · exact He.glo_ok X G (c.d.fact 37 (f := .glo "NoTask") rfl)
  have hh : mg "HouseError" = some (.ref (He.ga K "HouseError")) := He.glo_ok X G (c.d.fact 38 (f := .glo "HouseError") rfl)
  exact {
    f_isinstance := He.free_ok X G (c.d.fact 39 (f := .free "isinstance") rfl)
    f_list := He.free_ok X G (c.d.fact 40 (f := .free "list") rfl)
    f_tuple := He.free_ok X G (c.d.fact 41 (f := .free "tuple") rfl)
    f_enumerate := He.free_ok X G (c.d.fact 42 (f := .free "enumerate") rfl)
    f_sorted := He.free_ok X G (c.d.fact 43 (f := .free "sorted") rfl)
    f_set := He.free_ok X G (c.d.fact 44 (f := .free "set") rfl)
    f_len := He.free_ok X G (c.d.fact 45 (f := .free "len") rfl)
    f_range := He.free_ok X G (c.d.fact 46 (f := .free "range") rfl)
    f_abs := He.free_ok X G (c.d.fact 47 (f := .free "abs") rfl)
    f_int := He.free_ok X G (c.d.fact 48 (f := .free "int") rfl)
    f_min := He.free_ok X G (c.d.fact 49 (f := .free "min") rfl)
    f_all := He.free_ok X G (c.d.fact 50 (f := .free "all") rfl)
    f_bool := He.free_ok X G (c.d.fact 51 (f := .free "bool") rfl)
    f_str := He.free_ok X G (c.d.fact 52 (f := .free "str") rfl)
    f_zip := He.free_ok X G (c.d.fact 53 (f := .free "zip") rfl)
    f_dict := He.free_ok X G (c.d.fact 54 (f := .free "dict") rfl)
    f_sum := He.free_ok X G (c.d.fact 55 (f := .free "sum") rfl)
    c_NoGroup := ⟨_, He.glo_ok X G (c.d.fact 35 (f := .glo "NoGroup") rfl)⟩
    c_NoStep := ⟨_, He.glo_ok X G (c.d.fact 36 (f := .glo "NoStep") rfl)⟩
    c_NoTask := ⟨_, He.glo_ok X G (c.d.fact 37 (f := .glo "NoTask") rfl)⟩
    c_HouseError := ⟨_, He.glo_ok X G (c.d.fact 38 (f := .glo "HouseError") rfl)⟩
    a_name := by
      intro z hz
      simp only [tab_name, List.mem_cons, List.not_mem_nil, or_false] at hz
      rcases hz with rfl | rfl
      · exact ⟨_, hm "NoGroup" (in_leaves _ (by decide +kernel)), fx_xcl f (in_leaves "NoGroup" (by decide +kernel)), (fx_init f (in_inits ("NoGroup", "name") (by decide +kernel))).1⟩
      · exact ⟨_, hm "NoTask" (in_leaves _ (by decide +kernel)), fx_xcl f (in_leaves "NoTask" (by decide +kernel)), (fx_init f (in_inits ("NoTask", "name") (by decide +kernel))).1⟩
    a_number := by
      intro z hz
      simp only [tab_number, List.mem_cons, List.not_mem_nil, or_false] at hz
      rcases hz with rfl
      · exact ⟨_, hm "NoStep" (in_leaves _ (by decide +kernel)), fx_xcl f (in_leaves "NoStep" (by decide +kernel)), (fx_init f (in_inits ("NoStep", "number") (by decide +kernel))).1⟩
    isx := fx_isx f hm hh
    exm := fx_exm f hm
    x_NoGroup := xm_NoGroup f X G c.d
    x_NoStep := xm_NoStep f X G c.d
    x_NoTask := xm_NoTask f X G c.d
    t_QUEUE_WORDS := ⟨_, He.glo_ok X G (c.d.fact 32 (f := .glo "QUEUE_WORDS") rfl), fun W H => .tup (He.tupB_ok (fx_0 f) H) (strs_rv W H ["put", "get"])⟩
    t_SIGNAL_WORDS := ⟨_, He.glo_ok X G (c.d.fact 33 (f := .glo "SIGNAL_WORDS") rfl), fun W H => .tup (He.tupB_ok (fx_1 f) H) (strs_rv W H ["set", "hear"])⟩
    t_CLOSING_WORDS := ⟨_, He.glo_ok X G (c.d.fact 34 (f := .glo "CLOSING_WORDS") rfl), fun W H => .tup (He.tupB_ok (fx_2 f) H) (strs_rv W H ["close", "catch"])⟩ }
theorem cal_mk {k n : Nat} {x : Str} {st : Stmt} {fd : FuncData} {fA : Addr} {ps : List Str} {F : List D → M D} (hm : mg x = some (.ref fA)) (FD : FnP K x st fA fd) (ok : FnOk P w K mg base CX0 k fA fd ps (spF ⟨K, P, w, mg⟩ Xo0 n F)) (b : Binds K fd ps []) : Cal P w K mg base k x n F := ⟨fA, fd, ps, hm, ok, FD.kp, b⟩
theorem calx_mk {k n : Nat} {x : Str} {st : Stmt} {fd : FuncData} {fA : Addr} {ps : List Str} {F : List D → M D} (hm : mg x = some (.ref fA)) (FD : FnP K x st fA fd) (ok : FnOk P w K mg base (L2.CX P w) k fA fd ps (spF ⟨K, P, w, mg⟩ (XoE ⟨K, P, w, mg⟩) n F)) (b : Binds K fd ps []) : CalX P w K mg base k x n F := ⟨fA, fd, ps, hm, ok, FD.kp, b⟩
theorem kb_perm {x qual : Str} {params : Arguments} {body : List Stmt} {scope : Scope} {f : Addr} {fd : FuncData} {ps ks : List Str} {ix : List Nat} (F : FunD K x qual params body scope [] [] f fd) (p0 : ps ≠ [])
    (h : ∀ (kV doc pm : Value) (an : Option Addr) (cdv ct : Value) (ws : List Value), (permL ix ws).length = ps.length → bindArgs (PySem.W.fnOf x qual params body scope .none kV doc pm an cdv ct) ⟨[], ks.zip ws⟩ = pure (ps.zip (permL ix ws))) : KBinds K fd ps ks (onlyK ix) (onlyK ix) := by
  refine ⟨fun s us ws X l => ?_, fun r rz => onlyK_vals r rz⟩
  obtain ⟨oc, od, dV, kV, doc, pm, an, cdv, ct, osl, rfl, lk, hcd, hD, hK⟩ := F.ex
  rcases hD with ⟨_, rfl⟩ | ⟨e, _⟩
  · cases us with
    | nil => exact BindsTo.of_looks fun M => .of_pure (h kV doc pm an cdv ct ws l)
    | cons u us =>
      exfalso
      have l2 : 0 = ps.length := l
      exact p0 (List.length_eq_zero_iff.mp l2.symm)
  · exact absurd rfl e
theorem facts (f : fx K = true) (X : K.In h) (G : h.Ns mainGlobals mg) (c : He.SaysT fa fn ts w K) {fl : Addr} (hfl : mg ("law" : Str) = some (.ref fl)) :
    ∃ fd : FuncData, (∀ (s : Shared) (v : Value), BindsTo s fd ⟨[v], []⟩ [("_law_script_here", v)]) ∧ ∀ base : Heap, FnOk P w K mg base CX0 14 fl fd ["_law_script_here"] (spF ⟨K, P, w, mg⟩ Xo0 1 F_law) := by
  obtain ⟨fd_l_cells, FD_l_cells⟩ := c.d.def_ 0 (d := d_l_cells) rfl
  have g_l_cells := He.glo_ok X G (c.d.fact 0 (f := .glo "_law_cells") rfl)
  have b_l_cells : Binds K fd_l_cells ["_law_script_here", "_law_top_so"] [] := FD_l_cells.bindsN fun _ _ _ _ _ _ us hl => match us, hl with | [_, _], _ => rfl
  obtain ⟨fd_l_lists, FD_l_lists⟩ := c.d.def_ 1 (d := d_l_lists) rfl
  have g_l_lists := He.glo_ok X G (c.d.fact 1 (f := .glo "_law_lists") rfl)
  have b_l_lists : Binds K fd_l_lists ["_law_matter"] [] := FD_l_lists.bindsN fun _ _ _ _ _ _ us hl => match us, hl with | [_], _ => rfl
  obtain ⟨fd_l_same, FD_l_same⟩ := c.d.def_ 2 (d := d_l_same) rfl
  have g_l_same := He.glo_ok X G (c.d.fact 2 (f := .glo "_law_same") rfl)
  have b_l_same : Binds K fd_l_same ["_law_got", "_law_due"] [] := FD_l_same.bindsN fun _ _ _ _ _ _ us hl => match us, hl with | [_, _], _ => rfl
  obtain ⟨fd_task_names, FD_task_names⟩ := c.d.def_ 3 (d := d_task_names) rfl
  have g_task_names := He.glo_ok X G (c.d.fact 3 (f := .glo "task_names") rfl)
  have b_task_names : Binds K fd_task_names ["house"] [] := FD_task_names.bindsN fun _ _ _ _ _ _ us hl => match us, hl with | [_], _ => rfl
  obtain ⟨fd_naming_marks, FD_naming_marks⟩ := c.d.def_ 4 (d := d_naming_marks) rfl
  have g_naming_marks := He.glo_ok X G (c.d.fact 4 (f := .glo "naming_marks") rfl)
  have b_naming_marks : Binds K fd_naming_marks ["tasks", "words"] [] := FD_naming_marks.bindsN fun _ _ _ _ _ _ us hl => match us, hl with | [_, _], _ => rfl
  obtain ⟨fd_queue_names, FD_queue_names⟩ := c.d.def_ 5 (d := d_queue_names) rfl
  have g_queue_names := He.glo_ok X G (c.d.fact 5 (f := .glo "queue_names") rfl)
  have b_queue_names : Binds K fd_queue_names ["house"] [] := FD_queue_names.bindsN fun _ _ _ _ _ _ us hl => match us, hl with | [_], _ => rfl
  obtain ⟨fd_signal_names, FD_signal_names⟩ := c.d.def_ 6 (d := d_signal_names) rfl
  have g_signal_names := He.glo_ok X G (c.d.fact 6 (f := .glo "signal_names") rfl)
  have b_signal_names : Binds K fd_signal_names ["house"] [] := FD_signal_names.bindsN fun _ _ _ _ _ _ us hl => match us, hl with | [_], _ => rfl
  obtain ⟨fd_first_tasks, FD_first_tasks⟩ := c.d.def_ 7 (d := d_first_tasks) rfl
  have g_first_tasks := He.glo_ok X G (c.d.fact 7 (f := .glo "first_tasks") rfl)
  have b_first_tasks : Binds K fd_first_tasks ["house"] [] := FD_first_tasks.bindsN fun _ _ _ _ _ _ us hl => match us, hl with | [_], _ => rfl
  obtain ⟨fd_tupled, FD_tupled⟩ := c.d.def_ 8 (d := d_tupled) rfl
  have g_tupled := He.glo_ok X G (c.d.fact 8 (f := .glo "tupled") rfl)
  have b_tupled : Binds K fd_tupled ["worth"] [] := FD_tupled.bindsN fun _ _ _ _ _ _ us hl => match us, hl with | [_], _ => rfl
  obtain ⟨fd_row_of, FD_row_of⟩ := c.d.def_ 9 (d := d_row_of) rfl
  have g_row_of := He.glo_ok X G (c.d.fact 9 (f := .glo "row_of") rfl)
  have b_row_of : Binds K fd_row_of ["house", "task"] [] := FD_row_of.bindsN fun _ _ _ _ _ _ us hl => match us, hl with | [_, _], _ => rfl
  obtain ⟨fd_script_of, FD_script_of⟩ := c.d.def_ 10 (d := d_script_of) rfl
  have g_script_of := He.glo_ok X G (c.d.fact 10 (f := .glo "script_of") rfl)
  have b_script_of : Binds K fd_script_of ["house", "task"] [] := FD_script_of.bindsN fun _ _ _ _ _ _ us hl => match us, hl with | [_, _], _ => rfl
  obtain ⟨fd_group_of, FD_group_of⟩ := c.d.def_ 11 (d := d_group_of) rfl
  have g_group_of := He.glo_ok X G (c.d.fact 11 (f := .glo "group_of") rfl)
  have b_group_of : Binds K fd_group_of ["house", "task"] [] := FD_group_of.bindsN fun _ _ _ _ _ _ us hl => match us, hl with | [_, _], _ => rfl
  obtain ⟨fd_starter_of, FD_starter_of⟩ := c.d.def_ 12 (d := d_starter_of) rfl
  have g_starter_of := He.glo_ok X G (c.d.fact 12 (f := .glo "starter_of") rfl)
  have b_starter_of : Binds K fd_starter_of ["house", "task"] [] := FD_starter_of.bindsN fun _ _ _ _ _ _ us hl => match us, hl with | [_, _], _ => rfl
  obtain ⟨fd_host_of, FD_host_of⟩ := c.d.def_ 13 (d := d_host_of) rfl
  have g_host_of := He.glo_ok X G (c.d.fact 13 (f := .glo "host_of") rfl)
  have b_host_of : Binds K fd_host_of ["house", "group"] [] := FD_host_of.bindsN fun _ _ _ _ _ _ us hl => match us, hl with | [_, _], _ => rfl
  obtain ⟨fd_hosts_above, FD_hosts_above⟩ := c.d.def_ 14 (d := d_hosts_above) rfl
  have g_hosts_above := He.glo_ok X G (c.d.fact 14 (f := .glo "hosts_above") rfl)
  have b_hosts_above : Binds K fd_hosts_above ["house", "task"] [] := FD_hosts_above.bindsN fun _ _ _ _ _ _ us hl => match us, hl with | [_, _], _ => rfl
  obtain ⟨fd_tasks_in, FD_tasks_in⟩ := c.d.def_ 15 (d := d_tasks_in) rfl
  have g_tasks_in := He.glo_ok X G (c.d.fact 15 (f := .glo "tasks_in") rfl)
  have b_tasks_in : Binds K fd_tasks_in ["house", "group"] [] := FD_tasks_in.bindsN fun _ _ _ _ _ _ us hl => match us, hl with | [_, _], _ => rfl
  obtain ⟨fd_closer_of, FD_closer_of⟩ := c.d.def_ 16 (d := d_closer_of) rfl
  have g_closer_of := He.glo_ok X G (c.d.fact 16 (f := .glo "closer_of") rfl)
  have b_closer_of : Binds K fd_closer_of ["house", "group"] [] := FD_closer_of.bindsN fun _ _ _ _ _ _ us hl => match us, hl with | [_, _], _ => rfl
  obtain ⟨fd_step_of, FD_step_of⟩ := c.d.def_ 17 (d := d_step_of) rfl
  have g_step_of := He.glo_ok X G (c.d.fact 17 (f := .glo "step_of") rfl)
  have b_step_of : Binds K fd_step_of ["house", "task", "number"] [] := FD_step_of.bindsN fun _ _ _ _ _ _ us hl => match us, hl with | [_, _, _], _ => rfl
  obtain ⟨fd_depths, FD_depths⟩ := c.d.def_ 18 (d := d_depths) rfl
  have g_depths := He.glo_ok X G (c.d.fact 18 (f := .glo "depths") rfl)
  have b_depths : Binds K fd_depths ["steps"] [] := FD_depths.bindsN fun _ _ _ _ _ _ us hl => match us, hl with | [_], _ => rfl
  obtain ⟨fd_shields_at, FD_shields_at⟩ := c.d.def_ 19 (d := d_shields_at) rfl
  have g_shields_at := He.glo_ok X G (c.d.fact 19 (f := .glo "shields_at") rfl)
  have b_shields_at : Binds K fd_shields_at ["house", "task", "number"] [] := FD_shields_at.bindsN fun _ _ _ _ _ _ us hl => match us, hl with | [_, _, _], _ => rfl
  obtain ⟨fd_l_heard, FD_l_heard⟩ := c.d.def_ 20 (d := d_l_heard) rfl
  have g_l_heard := He.glo_ok X G (c.d.fact 20 (f := .glo "_law_heard") rfl)
  have b_l_heard : Binds K fd_l_heard ["_law_host", "_law_door", "_law_tag", "_law_many_so"] [] := FD_l_heard.bindsN fun _ _ _ _ _ _ us hl => match us, hl with | [_, _, _, _], _ => rfl
  obtain ⟨fd_room_of, FD_room_of⟩ := c.d.def_ 21 (d := d_room_of) rfl
  have g_room_of := He.glo_ok X G (c.d.fact 21 (f := .glo "room_of") rfl)
  have b_room_of : Binds K fd_room_of ["house", "queue"] [] := FD_room_of.bindsN fun _ _ _ _ _ _ us hl => match us, hl with | [_, _], _ => rfl
  obtain ⟨fd_all_marks, FD_all_marks⟩ := c.d.def_ 22 (d := d_all_marks) rfl
  have g_all_marks := He.glo_ok X G (c.d.fact 22 (f := .glo "all_marks") rfl)
  have b_all_marks : Binds K fd_all_marks ["house"] [] := FD_all_marks.bindsN fun _ _ _ _ _ _ us hl => match us, hl with | [_], _ => rfl
  obtain ⟨fd_l_by_hand_right, FD_l_by_hand_right⟩ := c.d.def_ 23 (d := d_l_by_hand_right) rfl
  have g_l_by_hand_right := He.glo_ok X G (c.d.fact 23 (f := .glo "_law_by_hand_right") rfl)
  have b_l_by_hand_right : Binds K fd_l_by_hand_right [] [] := FD_l_by_hand_right.bindsN fun _ _ _ _ _ _ us hl => match us, hl with | [], _ => rfl
  obtain ⟨fd_l_take, FD_l_take⟩ := c.d.def_ 24 (d := d_l_take) rfl
  have g_l_take := He.glo_ok X G (c.d.fact 24 (f := .glo "_law_take") rfl)
  have b_l_take : Binds K fd_l_take ["_law_box_here", "_law_size_so"] [] := FD_l_take.bindsN fun _ _ _ _ _ _ us hl => match us, hl with | [_, _], _ => rfl
  obtain ⟨fd_l_pick, FD_l_pick⟩ := c.d.def_ 25 (d := d_l_pick) rfl
  have g_l_pick := He.glo_ok X G (c.d.fact 25 (f := .glo "_law_pick") rfl)
  have b_l_pick : Binds K fd_l_pick ["_law_box_here", "_law_goods_so", "_law_count_so"] [] := FD_l_pick.bindsN fun _ _ _ _ _ _ us hl => match us, hl with | [_, _, _], _ => rfl
  obtain ⟨fd_l_of, FD_l_of⟩ := c.d.def_ 26 (d := d_l_of) rfl
  have g_l_of := He.glo_ok X G (c.d.fact 26 (f := .glo "_law_of") rfl)
  have b_l_of : Binds K fd_l_of ["_law_box_here", "_law_goods_so"] [] := FD_l_of.bindsN fun _ _ _ _ _ _ us hl => match us, hl with | [_, _], _ => rfl
  obtain ⟨fd_l_script, FD_l_script⟩ := c.d.def_ 27 (d := d_l_script) rfl
  have g_l_script := He.glo_ok X G (c.d.fact 27 (f := .glo "_law_script") rfl)
  have b_l_script : Binds K fd_l_script ["_law_box_here", "_law_others_so", "_law_many_so", "_law_room_so"] [] := FD_l_script.bindsN fun _ _ _ _ _ _ us hl => match us, hl with | [_, _, _, _], _ => rfl
  obtain ⟨fd_l_house, FD_l_house⟩ := c.d.def_ 28 (d := d_l_house) rfl
  have g_l_house := He.glo_ok X G (c.d.fact 28 (f := .glo "_law_house") rfl)
  have b_l_house : Binds K fd_l_house ["_law_box_here", "_law_many_so", "_law_steps_so"] [] := FD_l_house.bindsN fun _ _ _ _ _ _ us hl => match us, hl with | [_, _, _], _ => rfl
  obtain ⟨fd_l_right, FD_l_right⟩ := c.d.def_ 29 (d := d_l_right) rfl
  have g_l_right := He.glo_ok X G (c.d.fact 29 (f := .glo "_law_right") rfl)
  have b_l_right : Binds K fd_l_right ["_law_box_here"] [] := FD_l_right.bindsN fun _ _ _ _ _ _ us hl => match us, hl with | [_], _ => rfl
  obtain ⟨fd_l_box, FD_l_box⟩ := c.d.def_ 30 (d := d_l_box) rfl
  have g_l_box := He.glo_ok X G (c.d.fact 30 (f := .glo "_law_box") rfl)
  have b_l_box : Binds K fd_l_box ["_law_script_here", "_law_k"] [] := FD_l_box.bindsN fun _ _ _ _ _ _ us hl => match us, hl with | [_, _], _ => rfl
  obtain ⟨fd_law, FD_law⟩ := c.d.def_ 31 (d := d_law) rfl
  have g_law := He.glo_ok X G (c.d.fact 31 (f := .glo "law") rfl)
  have e := hfl.symm.trans g_law
  cases e
  refine ⟨fd_law, fun s v => FunD.bindsA (ps := ["_law_script_here"]) FD_law (fun _ _ _ _ _ _ us hl => match us, hl with | [_], _ => rfl) s [v] rfl, fun base => ?_⟩
  have T : Tx P w K mg base := tx_ok f X G c
  have okl_cells := ok_l_cells T  FD_l_cells
  have C_l_cells : Cal P w K mg base 1 "_law_cells" 2 F_l_cells := cal_mk (st := s_l_cells) g_l_cells FD_l_cells okl_cells b_l_cells
  have Rl_lists0 : Cal P w K mg base 1 "_law_lists" 1 (F_l_lists 0) := by
    refine cal_mk (st := s_l_lists) g_l_lists FD_l_lists (FunD.ok (k := 0) FD_l_lists sc_l_lists (fun vs H Q E h => h.1) fun cdv A outer s H vs Q E hr h => ?_) b_l_lists
    obtain ⟨_, W, ds, r, G', _, _, e, _⟩ := h
    cases e
  have Rl_lists1 : Cal P w K mg base 2 "_law_lists" 1 (F_l_lists 1) := cal_mk (st := s_l_lists) g_l_lists FD_l_lists (ok_l_lists T  Rl_lists0 FD_l_lists) b_l_lists
  have Rl_lists2 : Cal P w K mg base 3 "_law_lists" 1 (F_l_lists 2) := cal_mk (st := s_l_lists) g_l_lists FD_l_lists (ok_l_lists T  Rl_lists1 FD_l_lists) b_l_lists
  have Rl_lists3 : Cal P w K mg base 4 "_law_lists" 1 (F_l_lists 3) := cal_mk (st := s_l_lists) g_l_lists FD_l_lists (ok_l_lists T  Rl_lists2 FD_l_lists) b_l_lists
  have Rl_lists4 : Cal P w K mg base 5 "_law_lists" 1 (F_l_lists 4) := cal_mk (st := s_l_lists) g_l_lists FD_l_lists (ok_l_lists T  Rl_lists3 FD_l_lists) b_l_lists
  have Rl_lists5 : Cal P w K mg base 6 "_law_lists" 1 (F_l_lists 5) := cal_mk (st := s_l_lists) g_l_lists FD_l_lists (ok_l_lists T  Rl_lists4 FD_l_lists) b_l_lists
  have Rl_lists6 : Cal P w K mg base 7 "_law_lists" 1 (F_l_lists 6) := cal_mk (st := s_l_lists) g_l_lists FD_l_lists (ok_l_lists T  Rl_lists5 FD_l_lists) b_l_lists
  have Rl_lists7 : Cal P w K mg base 8 "_law_lists" 1 (F_l_lists 7) := cal_mk (st := s_l_lists) g_l_lists FD_l_lists (ok_l_lists T  Rl_lists6 FD_l_lists) b_l_lists
  have C_l_lists : Cal P w K mg base 9 "_law_lists" 1 (F_l_lists 8) := cal_mk (st := s_l_lists) g_l_lists FD_l_lists (ok_l_lists T  Rl_lists7 FD_l_lists) b_l_lists
  have Rl_same0 : Cal P w K mg base 1 "_law_same" 2 (F_l_same 0) := by
    refine cal_mk (st := s_l_same) g_l_same FD_l_same (FunD.ok (k := 0) FD_l_same sc_l_same (fun vs H Q E h => h.1) fun cdv A outer s H vs Q E hr h => ?_) b_l_same
    obtain ⟨_, W, ds, r, G', _, _, e, _⟩ := h
    cases e
  have Rl_same1 : Cal P w K mg base 2 "_law_same" 2 (F_l_same 1) := cal_mk (st := s_l_same) g_l_same FD_l_same (ok_l_same T  Rl_same0 FD_l_same) b_l_same
  have Rl_same2 : Cal P w K mg base 3 "_law_same" 2 (F_l_same 2) := cal_mk (st := s_l_same) g_l_same FD_l_same (ok_l_same T  Rl_same1 FD_l_same) b_l_same
  have Rl_same3 : Cal P w K mg base 4 "_law_same" 2 (F_l_same 3) := cal_mk (st := s_l_same) g_l_same FD_l_same (ok_l_same T  Rl_same2 FD_l_same) b_l_same
  have Rl_same4 : Cal P w K mg base 5 "_law_same" 2 (F_l_same 4) := cal_mk (st := s_l_same) g_l_same FD_l_same (ok_l_same T  Rl_same3 FD_l_same) b_l_same
  have Rl_same5 : Cal P w K mg base 6 "_law_same" 2 (F_l_same 5) := cal_mk (st := s_l_same) g_l_same FD_l_same (ok_l_same T  Rl_same4 FD_l_same) b_l_same
  have Rl_same6 : Cal P w K mg base 7 "_law_same" 2 (F_l_same 6) := cal_mk (st := s_l_same) g_l_same FD_l_same (ok_l_same T  Rl_same5 FD_l_same) b_l_same
  have Rl_same7 : Cal P w K mg base 8 "_law_same" 2 (F_l_same 7) := cal_mk (st := s_l_same) g_l_same FD_l_same (ok_l_same T  Rl_same6 FD_l_same) b_l_same
  have C_l_same : Cal P w K mg base 9 "_law_same" 2 (F_l_same 8) := cal_mk (st := s_l_same) g_l_same FD_l_same (ok_l_same T  Rl_same7 FD_l_same) b_l_same
  have oktask_names := ok_task_names T  FD_task_names
  have C_task_names : Cal P w K mg base 1 "task_names" 1 F_task_names := cal_mk (st := s_task_names) g_task_names FD_task_names oktask_names b_task_names
  have oknaming_marks := ok_naming_marks T  FD_naming_marks
  have C_naming_marks : Cal P w K mg base 1 "naming_marks" 2 F_naming_marks := cal_mk (st := s_naming_marks) g_naming_marks FD_naming_marks oknaming_marks b_naming_marks
  have okqueue_names := ok_queue_names T C_naming_marks FD_queue_names
  have C_queue_names : Cal P w K mg base 2 "queue_names" 1 F_queue_names := cal_mk (st := s_queue_names) g_queue_names FD_queue_names okqueue_names b_queue_names
  have oksignal_names := ok_signal_names T C_naming_marks FD_signal_names
  have C_signal_names : Cal P w K mg base 2 "signal_names" 1 F_signal_names := cal_mk (st := s_signal_names) g_signal_names FD_signal_names oksignal_names b_signal_names
  have okfirst_tasks := ok_first_tasks T C_task_names C_naming_marks FD_first_tasks
  have C_first_tasks : Cal P w K mg base 2 "first_tasks" 1 F_first_tasks := cal_mk (st := s_first_tasks) g_first_tasks FD_first_tasks okfirst_tasks b_first_tasks
  have Rtupled0 : Cal P w K mg base 1 "tupled" 1 (F_tupled 0) := by
    refine cal_mk (st := s_tupled) g_tupled FD_tupled (FunD.ok (k := 0) FD_tupled sc_tupled (fun vs H Q E h => h.1) fun cdv A outer s H vs Q E hr h => ?_) b_tupled
    obtain ⟨_, W, ds, r, G', _, _, e, _⟩ := h
    cases e
  have Rtupled1 : Cal P w K mg base 2 "tupled" 1 (F_tupled 1) := cal_mk (st := s_tupled) g_tupled FD_tupled (ok_tupled T  Rtupled0 FD_tupled) b_tupled
  have Rtupled2 : Cal P w K mg base 3 "tupled" 1 (F_tupled 2) := cal_mk (st := s_tupled) g_tupled FD_tupled (ok_tupled T  Rtupled1 FD_tupled) b_tupled
  have Rtupled3 : Cal P w K mg base 4 "tupled" 1 (F_tupled 3) := cal_mk (st := s_tupled) g_tupled FD_tupled (ok_tupled T  Rtupled2 FD_tupled) b_tupled
  have Rtupled4 : Cal P w K mg base 5 "tupled" 1 (F_tupled 4) := cal_mk (st := s_tupled) g_tupled FD_tupled (ok_tupled T  Rtupled3 FD_tupled) b_tupled
  have Rtupled5 : Cal P w K mg base 6 "tupled" 1 (F_tupled 5) := cal_mk (st := s_tupled) g_tupled FD_tupled (ok_tupled T  Rtupled4 FD_tupled) b_tupled
  have Rtupled6 : Cal P w K mg base 7 "tupled" 1 (F_tupled 6) := cal_mk (st := s_tupled) g_tupled FD_tupled (ok_tupled T  Rtupled5 FD_tupled) b_tupled
  have Rtupled7 : Cal P w K mg base 8 "tupled" 1 (F_tupled 7) := cal_mk (st := s_tupled) g_tupled FD_tupled (ok_tupled T  Rtupled6 FD_tupled) b_tupled
  have C_tupled : Cal P w K mg base 9 "tupled" 1 (F_tupled 8) := cal_mk (st := s_tupled) g_tupled FD_tupled (ok_tupled T  Rtupled7 FD_tupled) b_tupled
  have okrow_of := ok_row_of T  FD_row_of
  have C_row_of : CalX P w K mg base 3 "row_of" 2 F_row_of := calx_mk (st := s_row_of) g_row_of FD_row_of okrow_of b_row_of
  have okscript_of := ok_script_of T C_tupled C_row_of FD_script_of
  have C_script_of : CalX P w K mg base 10 "script_of" 2 F_script_of := calx_mk (st := s_script_of) g_script_of FD_script_of okscript_of b_script_of
  have okgroup_of := ok_group_of T C_row_of FD_group_of
  have C_group_of : CalX P w K mg base 4 "group_of" 2 F_group_of := calx_mk (st := s_group_of) g_group_of FD_group_of okgroup_of b_group_of
  have okstarter_of := ok_starter_of T C_naming_marks C_row_of FD_starter_of
  have C_starter_of : CalX P w K mg base 4 "starter_of" 2 F_starter_of := calx_mk (st := s_starter_of) g_starter_of FD_starter_of okstarter_of b_starter_of
  have okhost_of := ok_host_of T  FD_host_of
  have C_host_of : CalX P w K mg base 3 "host_of" 2 F_host_of := calx_mk (st := s_host_of) g_host_of FD_host_of okhost_of b_host_of
  have okhosts_above := ok_hosts_above T C_group_of C_host_of FD_hosts_above
  have C_hosts_above : CalX P w K mg base 5 "hosts_above" 2 F_hosts_above := calx_mk (st := s_hosts_above) g_hosts_above FD_hosts_above okhosts_above b_hosts_above
  have oktasks_in := ok_tasks_in T C_host_of FD_tasks_in
  have C_tasks_in : CalX P w K mg base 4 "tasks_in" 2 F_tasks_in := calx_mk (st := s_tasks_in) g_tasks_in FD_tasks_in oktasks_in b_tasks_in
  have okcloser_of := ok_closer_of T C_naming_marks FD_closer_of
  have C_closer_of : CalX P w K mg base 3 "closer_of" 2 F_closer_of := calx_mk (st := s_closer_of) g_closer_of FD_closer_of okcloser_of b_closer_of
  have okstep_of := ok_step_of T C_script_of FD_step_of
  have C_step_of : CalX P w K mg base 11 "step_of" 3 F_step_of := calx_mk (st := s_step_of) g_step_of FD_step_of okstep_of b_step_of
  have okdepths := ok_depths T  FD_depths
  have C_depths : Cal P w K mg base 1 "depths" 1 F_depths := cal_mk (st := s_depths) g_depths FD_depths okdepths b_depths
  have okshields_at := ok_shields_at T C_script_of C_depths FD_shields_at
  have C_shields_at : CalX P w K mg base 11 "shields_at" 3 F_shields_at := calx_mk (st := s_shields_at) g_shields_at FD_shields_at okshields_at b_shields_at
  have okl_heard := ok_l_heard T C_script_of C_group_of C_starter_of C_host_of C_hosts_above C_tasks_in C_closer_of C_step_of C_shields_at FD_l_heard
  have C_l_heard : Cal P w K mg base 12 "_law_heard" 4 F_l_heard := cal_mk (st := s_l_heard) g_l_heard FD_l_heard okl_heard b_l_heard
  have okroom_of := ok_room_of T  FD_room_of
  have C_room_of : Cal P w K mg base 1 "room_of" 2 F_room_of := cal_mk (st := s_room_of) g_room_of FD_room_of okroom_of b_room_of
  have okall_marks := ok_all_marks T  FD_all_marks
  have C_all_marks : Cal P w K mg base 1 "all_marks" 1 F_all_marks := cal_mk (st := s_all_marks) g_all_marks FD_all_marks okall_marks b_all_marks
  have CK_task_names_l_by_hand_right : CalK P w K mg base CX0 Xo0 1 "task_names" ["house"] [0] 1 F_task_names := ⟨_, fd_task_names, _, g_task_names, oktask_names, FD_task_names.kp, kb_perm FD_task_names (by decide) fun _ _ _ _ _ _ ws hl => match ws, hl with | [], hl => absurd (show (0 : Nat) = 1 from hl) (by decide) | _ :: _, _ => rfl⟩
  have CK_queue_names_l_by_hand_right : CalK P w K mg base CX0 Xo0 2 "queue_names" ["house"] [0] 1 F_queue_names := ⟨_, fd_queue_names, _, g_queue_names, okqueue_names, FD_queue_names.kp, kb_perm FD_queue_names (by decide) fun _ _ _ _ _ _ ws hl => match ws, hl with | [], hl => absurd (show (0 : Nat) = 1 from hl) (by decide) | _ :: _, _ => rfl⟩
  have CK_signal_names_l_by_hand_right : CalK P w K mg base CX0 Xo0 2 "signal_names" ["house"] [0] 1 F_signal_names := ⟨_, fd_signal_names, _, g_signal_names, oksignal_names, FD_signal_names.kp, kb_perm FD_signal_names (by decide) fun _ _ _ _ _ _ ws hl => match ws, hl with | [], hl => absurd (show (0 : Nat) = 1 from hl) (by decide) | _ :: _, _ => rfl⟩
  have CK_first_tasks_l_by_hand_right : CalK P w K mg base CX0 Xo0 2 "first_tasks" ["house"] [0] 1 F_first_tasks := ⟨_, fd_first_tasks, _, g_first_tasks, okfirst_tasks, FD_first_tasks.kp, kb_perm FD_first_tasks (by decide) fun _ _ _ _ _ _ ws hl => match ws, hl with | [], hl => absurd (show (0 : Nat) = 1 from hl) (by decide) | _ :: _, _ => rfl⟩
  have CK_script_of_l_by_hand_right : CalK P w K mg base (L2.CX P w) (XoE ⟨K, P, w, mg⟩) 10 "script_of" ["task", "house"] [1, 0] 2 F_script_of := ⟨_, fd_script_of, _, g_script_of, okscript_of, FD_script_of.kp, kb_perm FD_script_of (by decide) fun _ _ _ _ _ _ ws hl => match ws, hl with | [], hl => absurd (show (0 : Nat) = 2 from hl) (by decide) | [_], hl => absurd (show (1 : Nat) = 2 from hl) (by decide) | _ :: _ :: _, _ => rfl⟩
  have CK_group_of_l_by_hand_right : CalK P w K mg base (L2.CX P w) (XoE ⟨K, P, w, mg⟩) 4 "group_of" ["task", "house"] [1, 0] 2 F_group_of := ⟨_, fd_group_of, _, g_group_of, okgroup_of, FD_group_of.kp, kb_perm FD_group_of (by decide) fun _ _ _ _ _ _ ws hl => match ws, hl with | [], hl => absurd (show (0 : Nat) = 2 from hl) (by decide) | [_], hl => absurd (show (1 : Nat) = 2 from hl) (by decide) | _ :: _ :: _, _ => rfl⟩
  have CK_step_of_l_by_hand_right : CalK P w K mg base (L2.CX P w) (XoE ⟨K, P, w, mg⟩) 11 "step_of" ["number", "task", "house"] [2, 1, 0] 3 F_step_of := ⟨_, fd_step_of, _, g_step_of, okstep_of, FD_step_of.kp, kb_perm FD_step_of (by decide) fun _ _ _ _ _ _ ws hl => match ws, hl with | [], hl => absurd (show (0 : Nat) = 3 from hl) (by decide) | [_], hl => absurd (show (1 : Nat) = 3 from hl) (by decide) | [_, _], hl => absurd (show (2 : Nat) = 3 from hl) (by decide) | _ :: _ :: _ :: _, _ => rfl⟩
  have CK_shields_at_l_by_hand_right : CalK P w K mg base (L2.CX P w) (XoE ⟨K, P, w, mg⟩) 11 "shields_at" ["number", "task", "house"] [2, 1, 0] 3 F_shields_at := ⟨_, fd_shields_at, _, g_shields_at, okshields_at, FD_shields_at.kp, kb_perm FD_shields_at (by decide) fun _ _ _ _ _ _ ws hl => match ws, hl with | [], hl => absurd (show (0 : Nat) = 3 from hl) (by decide) | [_], hl => absurd (show (1 : Nat) = 3 from hl) (by decide) | [_, _], hl => absurd (show (2 : Nat) = 3 from hl) (by decide) | _ :: _ :: _ :: _, _ => rfl⟩
  have CK_all_marks_l_by_hand_right : CalK P w K mg base CX0 Xo0 1 "all_marks" ["house"] [0] 1 F_all_marks := ⟨_, fd_all_marks, _, g_all_marks, okall_marks, FD_all_marks.kp, kb_perm FD_all_marks (by decide) fun _ _ _ _ _ _ ws hl => match ws, hl with | [], hl => absurd (show (0 : Nat) = 1 from hl) (by decide) | _ :: _, _ => rfl⟩
  have CK_starter_of_l_by_hand_right : CalK P w K mg base (L2.CX P w) (XoE ⟨K, P, w, mg⟩) 4 "starter_of" ["task", "house"] [1, 0] 2 F_starter_of := ⟨_, fd_starter_of, _, g_starter_of, okstarter_of, FD_starter_of.kp, kb_perm FD_starter_of (by decide) fun _ _ _ _ _ _ ws hl => match ws, hl with | [], hl => absurd (show (0 : Nat) = 2 from hl) (by decide) | [_], hl => absurd (show (1 : Nat) = 2 from hl) (by decide) | _ :: _ :: _, _ => rfl⟩
  have CK_hosts_above_l_by_hand_right : CalK P w K mg base (L2.CX P w) (XoE ⟨K, P, w, mg⟩) 5 "hosts_above" ["task", "house"] [1, 0] 2 F_hosts_above := ⟨_, fd_hosts_above, _, g_hosts_above, okhosts_above, FD_hosts_above.kp, kb_perm FD_hosts_above (by decide) fun _ _ _ _ _ _ ws hl => match ws, hl with | [], hl => absurd (show (0 : Nat) = 2 from hl) (by decide) | [_], hl => absurd (show (1 : Nat) = 2 from hl) (by decide) | _ :: _ :: _, _ => rfl⟩
  have CK_tasks_in_l_by_hand_right : CalK P w K mg base (L2.CX P w) (XoE ⟨K, P, w, mg⟩) 4 "tasks_in" ["group", "house"] [1, 0] 2 F_tasks_in := ⟨_, fd_tasks_in, _, g_tasks_in, oktasks_in, FD_tasks_in.kp, kb_perm FD_tasks_in (by decide) fun _ _ _ _ _ _ ws hl => match ws, hl with | [], hl => absurd (show (0 : Nat) = 2 from hl) (by decide) | [_], hl => absurd (show (1 : Nat) = 2 from hl) (by decide) | _ :: _ :: _, _ => rfl⟩
  have CK_host_of_l_by_hand_right : CalK P w K mg base (L2.CX P w) (XoE ⟨K, P, w, mg⟩) 3 "host_of" ["group", "house"] [1, 0] 2 F_host_of := ⟨_, fd_host_of, _, g_host_of, okhost_of, FD_host_of.kp, kb_perm FD_host_of (by decide) fun _ _ _ _ _ _ ws hl => match ws, hl with | [], hl => absurd (show (0 : Nat) = 2 from hl) (by decide) | [_], hl => absurd (show (1 : Nat) = 2 from hl) (by decide) | _ :: _ :: _, _ => rfl⟩
  have CK_closer_of_l_by_hand_right : CalK P w K mg base (L2.CX P w) (XoE ⟨K, P, w, mg⟩) 3 "closer_of" ["group", "house"] [1, 0] 2 F_closer_of := ⟨_, fd_closer_of, _, g_closer_of, okcloser_of, FD_closer_of.kp, kb_perm FD_closer_of (by decide) fun _ _ _ _ _ _ ws hl => match ws, hl with | [], hl => absurd (show (0 : Nat) = 2 from hl) (by decide) | [_], hl => absurd (show (1 : Nat) = 2 from hl) (by decide) | _ :: _ :: _, _ => rfl⟩
  have CK_room_of_l_by_hand_right : CalK P w K mg base CX0 Xo0 1 "room_of" ["queue", "house"] [1, 0] 2 F_room_of := ⟨_, fd_room_of, _, g_room_of, okroom_of, FD_room_of.kp, kb_perm FD_room_of (by decide) fun _ _ _ _ _ _ ws hl => match ws, hl with | [], hl => absurd (show (0 : Nat) = 2 from hl) (by decide) | [_], hl => absurd (show (1 : Nat) = 2 from hl) (by decide) | _ :: _ :: _, _ => rfl⟩
  have okl_by_hand_right := ok_l_by_hand_right T C_l_lists C_l_same C_task_names C_queue_names C_signal_names C_first_tasks C_l_heard C_room_of C_all_marks CK_task_names_l_by_hand_right CK_queue_names_l_by_hand_right CK_signal_names_l_by_hand_right CK_first_tasks_l_by_hand_right CK_script_of_l_by_hand_right CK_group_of_l_by_hand_right CK_step_of_l_by_hand_right CK_shields_at_l_by_hand_right CK_all_marks_l_by_hand_right CK_starter_of_l_by_hand_right CK_hosts_above_l_by_hand_right CK_tasks_in_l_by_hand_right CK_host_of_l_by_hand_right CK_closer_of_l_by_hand_right CK_room_of_l_by_hand_right FD_l_by_hand_right
  have C_l_by_hand_right : Cal P w K mg base 13 "_law_by_hand_right" 0 F_l_by_hand_right := cal_mk (st := s_l_by_hand_right) g_l_by_hand_right FD_l_by_hand_right okl_by_hand_right b_l_by_hand_right
  have okl_take := ok_l_take T  FD_l_take
  have C_l_take : Cal P w K mg base 1 "_law_take" 2 F_l_take := cal_mk (st := s_l_take) g_l_take FD_l_take okl_take b_l_take
  have okl_pick := ok_l_pick T C_l_take FD_l_pick
  have C_l_pick : Cal P w K mg base 2 "_law_pick" 3 F_l_pick := cal_mk (st := s_l_pick) g_l_pick FD_l_pick okl_pick b_l_pick
  have okl_of := ok_l_of T C_l_take FD_l_of
  have C_l_of : Cal P w K mg base 2 "_law_of" 2 F_l_of := cal_mk (st := s_l_of) g_l_of FD_l_of okl_of b_l_of
  have okl_script := ok_l_script T C_l_take C_l_of FD_l_script
  have C_l_script : Cal P w K mg base 3 "_law_script" 4 F_l_script := cal_mk (st := s_l_script) g_l_script FD_l_script okl_script b_l_script
  have okl_house := ok_l_house T C_l_take C_l_pick C_l_of C_l_script FD_l_house
  have C_l_house : Cal P w K mg base 4 "_law_house" 3 F_l_house := cal_mk (st := s_l_house) g_l_house FD_l_house okl_house b_l_house
  have okl_right := ok_l_right T C_l_same C_task_names C_queue_names C_signal_names C_first_tasks C_script_of C_group_of C_starter_of C_host_of C_hosts_above C_tasks_in C_closer_of C_step_of C_shields_at C_room_of C_all_marks C_l_house FD_l_right
  have C_l_right : Cal P w K mg base 12 "_law_right" 1 F_l_right := cal_mk (st := s_l_right) g_l_right FD_l_right okl_right b_l_right
  have okl_box := ok_l_box T  FD_l_box
  have C_l_box : Cal P w K mg base 1 "_law_box" 2 F_l_box := cal_mk (st := s_l_box) g_l_box FD_l_box okl_box b_l_box
  exact ok_law T C_l_cells C_l_by_hand_right C_l_right C_l_box FD_law
end
theorem law_sp {P : Program} {w : World} {K : PySem.W.Frag} {mg : Str → Option Value} {H : Hp} {a : Addr} {ns : List Int} (hl : ns.length ≤ 63) (hO : Only H) (hS : SqL K H a (ns.map V.int)) :
    spF ⟨K, P, w, mg⟩ Xo0 1 F_law [.ref a] H (fun v _ => v = .bl true) (fun _ _ _ => False) := by
  obtain ⟨G, e⟩ := law_ok ns hl
  have nL : ∀ b, ¬ L ⟨[], [], []⟩ b := by
    rintro b (⟨n, o, h, _⟩ | h)
    · simp at h
    · simp at h
  have g0 : Gr ⟨K, P, w, mg⟩ ⟨[], [], []⟩ H := ⟨rfl, by simp, by simp, by simp, by simp, by simp⟩
  have sc : Scr ⟨K, P, w, mg⟩ (L ⟨[], [], []⟩) H a (ns.map V.int) := by
    rcases hS with (h | h) | h
    · rcases hO a with z | ⟨o, xs, z⟩
      · rw [z] at h; cases h
      · rw [z] at h; cases h
    · exact .inl ⟨nL a, h⟩
    · exact .inr h
  have di : ∀ l : List Int, Rvs ⟨K, P, w, mg⟩ ⟨[], [], []⟩ H (l.map V.int) (l.map D.int) := fun l => by
    induction l with
    | nil => exact .nil
    | cons i l ih => exact .cons (.int i) ih
  refine ⟨rfl, ⟨[], [], []⟩, [.scr (ns.map D.int)], .inr (.bl true), G, g0, .cons (.scr sc (di ns)) .nil, e, fun W' v H' _ _ _ rv => ?_⟩
  cases rv
  rfl
end K02
open PySem PySem.W PySem.Calls PyProof.Rows
theorem PySem.Challenge.cw_giveways_k02_parts_of_houses_holds : PySem.Challenge.rw_giveways_k02_parts_of_houses.Holds := by
  w_on; o_law
  refine HandSHeadRun.head_any (r := OpenLaw.row PySem.Challenge.rw_giveways_k02_parts_of_houses) (q := view (OpenLaw.row PySem.Challenge.rw_giveways_k02_parts_of_houses).prog [43]) (H := K02.hk) (ob := K02.ob) (M := 6000) (loose := K02.loose) (d := HandSHeadRun.topDef (OpenLaw.row PySem.Challenge.rw_giveways_k02_parts_of_houses).prog 43) (kwd := []) K02.ob_eq
    (by kernel_rfl) (fun s => by kernel_rfl) K02.run (by kernel_rfl) (by kernel_rfl) (by kernel_rfl) (by rfl) (by first | assumption | decide +kernel) (by decide +kernel) ⟨rfl, rfl, rfl, rfl, rfl, by decide +kernel⟩ ?hw ?hc
  case hw => w_witness2
  case hc =>
    refine L2.walk_ofE (l := PySem.Challenge.rw_giveways_k02_parts_of_houses) (n := 63) (k := 14) (x := "_law_script_here") (CX := L2.CX0) rfl (by decide) (by kernel_rfl) ⟨rfl, by decide, by decide⟩ ?F (fun _ _ _ _ z => z)
    intro w mg fa h Y G hmg0
    obtain ⟨K, KX, f, c⟩ := Y
    have hmg : mg ("law" : PySem.Str) = some (.ref fa) := by
      have e : (HandSHeadRun.topDef (OpenLaw.row PySem.Challenge.rw_giveways_k02_parts_of_houses).prog 43).name = ("law" : PySem.Str) := by kernel_rfl
      rw [← e]
      exact hmg0
    obtain ⟨fd, hb, hF⟩ := K02.facts (P := (PySem.Challenge.rw_giveways_k02_parts_of_houses).prog) (w := w) f KX G c hmg
    exact ⟨K, fd, _, KX, hb, fun H a ns hl hO hS => K02.law_sp hl hO hS, fun base _ _ => hF base⟩

