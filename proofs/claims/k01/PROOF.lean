import PyProof.Rows.All
import Wide.All
import OpenK.AllK
import Wide.FinOn
import HandS.ForMost
import HandS.SetKeys
import HandS.DictComp
import HandS.TupAny
import HandS.Flow
import HandS.IsInst
import HandS.Defaults
import HandS.ExcInit
import HandS.ExcValue
import HandS.Walk
import HandS.Zip
import HandS.HeadHook2
import HandS.ExcField
import HandS.MakeKw
import HandS.ExcIs
import KE.KExcIs
import HandS.More
import KE.GoesEnum
import KE.DataMinMax
import KE.SortData
import KE.KDictPairs
import HandS.SortRule
import PyProof.Rows.SortKeyStr
import KE.KStateDown
import HandS.Head0
import HandS.Head1
import HandS.Head2
import HandS.HeadEnd
import HandS.HeadHook1
import HandS.HeadHook3
import PySem.Challenge.RW_giveways_k01_houses_or_not
set_option Elab.async false
set_option linter.all false
set_option maxRecDepth 100000
set_option maxHeartbeats 4000000
set_option autoImplicit false
/-! The tree layer: values as trees, our own mutable objects by numbers, each construct as a function that can be reckoned. -/
namespace Tw
open PySem PySem.Spec PyProof.Rows L2

/-- a value as a tree -/
inductive D where
  | non | bl (b : Bool) | int (i : Int) | str (x : Str)
  | tup (xs : List D) | lst (xs : List D) | scr (xs : List D)
  | dct (kvs : List (Key × D)) | set (ks : List Key)
  | ref (n : Nat) | glo (a : Addr) | ty (n : String)
  | cls (c : Str) | exc (c : Str) | exf (c f : Str) (x : D)
  | dcl (kvs : List (Key × D))
  | tpn (xs : List D)
  deriving Inhabited
/-- what the values stand in -/
structure Pm where
  K : PySem.W.Frag
  P : Program
  w : World
  mg : Str → Option Value
/-- a mutable object of ours -/
inductive O where
  | lst (xs : List D) | dct (kvs : List (Key × D)) | dlk (kvs : List (Key × D)) | gone
  deriving Inhabited

/-- the law's script: a list that nobody writes, where no object of ours stands; or a list of the written part -/
def Scr (K : Pm) (L : Addr → Prop) (H : Hp) (a : Addr) (vs : List V) : Prop := (¬ L a ∧ ∃ o, H a = some (.frz o (.lst vs))) ∨ ∃ (o : Obj) (its : Array Value) (n : Nat), K.K.lookup a = some o ∧ o.cls = .type "list" ∧ o.dict = none ∧ o.data = .seq its n ∧ its.size ≤ sizeLine ∧ Vals vs its.toList
theorem Scr.sq {K : Pm} {L : Addr → Prop} {H : Hp} {a : Addr} {vs : List V} (h : Scr K L H a vs) : SqL K.K H a vs := by
  rcases h with ⟨_, h⟩ | h
  · exact .inl (.inr h)
  · exact .inr h
section
variable (K : Pm) (L : Addr → Prop) (α : List Addr) (H : Hp)
mutual
inductive Dr : V → D → Prop
  | non : Dr .non .non
  | bl (b : Bool) : Dr (.bl b) (.bl b)
  | int (i : Int) : Dr (.int i) (.int i)
  | str (x : Str) : Dr (.str x) (.str x)
  | tup {a : Addr} {vs : List V} {ds : List D} (h : SqT K.K H a vs) (r : Drs vs ds) : Dr (.ref a) (.tup ds)
  | lst {a : Addr} {vs : List V} {ds : List D} (h : H a = some (.lst vs)) (n : ¬ L a) (r : Drs vs ds) : Dr (.ref a) (.lst ds)
  | scr {a : Addr} {vs : List V} {ds : List D} (h : Scr K L H a vs) (r : Drs vs ds) : Dr (.ref a) (.scr ds)
  | dct {a : Addr} {ps : List (Key × V)} {kvs : List (Key × D)} (h : Rd H a (.dK ps)) (n : ¬ L a) (r : Drk ps kvs) : Dr (.ref a) (.dct kvs)
  | set {a : Addr} {S : Key → Bool} {ks : List Key} (h : H a = some (SetK K.P K.w a S ks.length)) (n : ¬ L a) (nd : ks.Nodup) (e : ∀ k, S k = true ↔ k ∈ ks) : Dr (.ref a) (.set ks)
  | ref {a : Addr} {n : Nat} (h : α[n]? = some a) : Dr (.ref a) (.ref n)
  | glo (a : Addr) : Dr (.ref a) (.glo a)
  | ty (n : String) : Dr (.ty n) (.ty n)
  | cls {a : Addr} {c : Str} (h : K.mg c = some (.ref a)) : Dr (.ref a) (.cls c)
  | dcl {a : Addr} {ps : List (Key × V)} {kvs : List (Key × D)} (h : ∃ o, H a = some (.frz o (.dK ps))) (n : ¬ L a) (r : Drk ps kvs) : Dr (.ref a) (.dcl kvs)
  | tpn {a : Addr} {vs : List V} {ds : List D} (h : ∃ o, H a = some (.frz o (.tup vs)) ∧ o.dict = none) (r : Drs vs ds) : Dr (.ref a) (.tpn ds)
  | exc {a C : Addr} {c : Str} (h : K.mg c = some (.ref C)) (e : H a = some (ExO (.ref C) a)) (n : ¬ L a) : Dr (.ref a) (.exc c)
  | exf {a C dx : Addr} {c f : Str} {v : V} {x : D} (h : K.mg c = some (.ref C)) (e : H a = some (exo a C (some dx))) (n : ¬ L a) (e2 : H dx = some (exd dx [(f, v)])) (n2 : ¬ L dx) (r : Dr v x) : Dr (.ref a) (.exf c f x)
inductive Drs : List V → List D → Prop
  | nil : Drs [] []
  | cons {v : V} {d : D} {vs : List V} {ds : List D} (h : Dr v d) (r : Drs vs ds) : Drs (v :: vs) (d :: ds)
inductive Drk : List (Key × V) → List (Key × D) → Prop
  | nil : Drk [] []
  | cons {k : Key} {v : V} {d : D} {ps : List (Key × V)} {kvs : List (Key × D)} (h : Dr v d) (r : Drk ps kvs) : Drk ((k, v) :: ps) ((k, d) :: kvs)
end
end
/-- where our objects stand, what they are, and where no tree may look -/
structure Wd where
  α : List Addr
  G : List O
  B : List Addr
def live (W : Wd) (a : Addr) : Prop := ∃ (n : Nat) (o : O), W.α[n]? = some a ∧ W.G[n]? = some o ∧ o ≠ O.gone
def L (W : Wd) (a : Addr) : Prop := live W a ∨ a ∈ W.B
abbrev Rv (K : Pm) (W : Wd) (H : Hp) (v : V) (d : D) : Prop := Dr K (L W) W.α H v d
abbrev Rvs (K : Pm) (W : Wd) (H : Hp) (vs : List V) (ds : List D) : Prop := Drs K (L W) W.α H vs ds
abbrev Rkv (K : Pm) (W : Wd) (H : Hp) (ps : List (Key × V)) (kvs : List (Key × D)) : Prop := Drk K (L W) W.α H ps kvs
def Ob (K : Pm) (W : Wd) (H : Hp) (a : Addr) : O → Prop
  | .lst ds => ∃ vs, H a = some (.lst vs) ∧ Rvs K W H vs ds
  | .dct kvs => ∃ ps, H a = some (.dK ps) ∧ Rkv K W H ps kvs
  | .dlk kvs => ∃ o ps, H a = some (.frz o (.dK ps)) ∧ Rkv K W H ps kvs
  | .gone => True
structure Gr (K : Pm) (W : Wd) (H : Hp) : Prop where
  len : W.α.length = W.G.length
  nd : W.α.Nodup
  dis : ∀ a ∈ W.B, a ∉ W.α
  thA : ∀ a ∈ W.α, ∃ o, H a = some o
  thB : ∀ a ∈ W.B, ∃ o, H a = some o
  obj : ∀ (n : Nat) (a : Addr) (o : O), W.α[n]? = some a → W.G[n]? = some o → Ob K W H a o
structure Ext (W : Wd) (H : Hp) (W' : Wd) (H' : Hp) : Prop where
  b : ∀ a ∈ W.B, a ∈ W'.B
  b' : ∀ a ∈ W'.B, a ∈ W.B ∨ H a = none
  th : ∀ a, (∃ o, H a = some o) → ∃ o, H' a = some o
  pre : ∃ t, W'.α = W.α ++ t
  keep : ∀ (a : Addr) (o : HO), H a = some o → ¬ live W a → H' a = some o ∧ ¬ live W' a
  tup : ∀ (a : Addr) (vs : List V), H a = some (.tup vs) → H' a = some (.tup vs)

/-- .. where what stands at a banned address may have changed -/
structure ExtW (W : Wd) (H : Hp) (W' : Wd) (H' : Hp) : Prop where
  b' : ∀ a ∈ W'.B, a ∈ W.B ∨ H a = none
  th : ∀ a, (∃ o, H a = some o) → ∃ o, H' a = some o
  pre : ∃ t, W'.α = W.α ++ t
  keep : ∀ (a : Addr) (o : HO), H a = some o → ¬ live W a → (a ∉ W.B ∨ ∃ q u, o = .frz q u) → H' a = some o ∧ ¬ live W' a
  tup : ∀ (a : Addr) (vs : List V), H a = some (.tup vs) → H' a = some (.tup vs)
theorem Ext.w {W W' : Wd} {H H' : Hp} (x : Ext W H W' H') : ExtW W H W' H' := ⟨x.b', x.th, x.pre, fun a o h l _ => x.keep a o h l, x.tup⟩
theorem ExtW.refl {W : Wd} {H : Hp} : ExtW W H W H := ⟨fun _ h => .inl h, fun _ h => h, ⟨[], by simp⟩, fun _ _ h n _ => ⟨h, n⟩, fun _ _ h => h⟩
theorem ExtW.step {W1 W2 W3 : Wd} {H1 H2 H3 : Hp} (x : ExtW W1 H1 W2 H2) (y : Ext W2 H2 W3 H3) : ExtW W1 H1 W3 H3 := by
  obtain ⟨t, ht⟩ := x.pre
  obtain ⟨u, hu⟩ := y.pre
  refine ⟨fun a h => ?_, fun a h => y.th a (x.th a h), ⟨t ++ u, by rw [hu, ht, List.append_assoc]⟩, fun a o h n c => let ⟨p, q⟩ := x.keep a o h n c; y.keep a o p q, fun a vs h => y.tup a vs (x.tup a vs h)⟩
  rcases y.b' a h with h | h
  · exact x.b' a h
  · cases e : H1 a with
    | none => exact .inr rfl
    | some o =>
      obtain ⟨o', e'⟩ := x.th a ⟨o, e⟩
      rw [h] at e'; cases e'
theorem ExtW.off {W W' : Wd} {H H' : Hp} {p : Addr} {u : HO} (x : ExtW W H W' H') (hp : p ∈ W.B) (nt : ∀ vs, H' p ≠ some (.tup vs)) (nf : ∀ o w, H' p ≠ some (.frz o w)) : ExtW W H W' (upd H' p u) := by
  refine ⟨x.b', fun a h => ?_, x.pre, fun a o h n c => ?_, fun a vs h => ?_⟩
  · by_cases e : a = p
    · exact ⟨u, by rw [e]; exact upd_same⟩
    · rw [upd_ne e]; exact x.th a h
  · obtain ⟨k1, k2⟩ := x.keep a o h n c
    refine ⟨?_, k2⟩
    by_cases e : a = p
    · rcases c with c | ⟨q, w, rfl⟩
      · exact absurd (by rw [e]; exact hp) c
      · rw [e] at k1; exact absurd k1 (nf q w)
    · rw [upd_ne e]; exact k1
  · have k := x.tup a vs h
    by_cases e : a = p
    · rw [e] at k; exact absurd k (nt vs)
    · rw [upd_ne e]; exact k
theorem Ext.refl {W : Wd} {H : Hp} : Ext W H W H := ⟨fun _ h => h, fun _ h => .inl h, fun _ h => h, ⟨[], by simp⟩, fun _ _ h n => ⟨h, n⟩, fun _ _ h => h⟩
theorem Ext.trans {W1 W2 W3 : Wd} {H1 H2 H3 : Hp} (a : Ext W1 H1 W2 H2) (b : Ext W2 H2 W3 H3) : Ext W1 H1 W3 H3 := by
  obtain ⟨t, ht⟩ := a.pre
  obtain ⟨u, hu⟩ := b.pre
  refine ⟨fun x h => b.b x (a.b x h), fun x h => ?_, fun x h => b.th x (a.th x h), ⟨t ++ u, by rw [hu, ht, List.append_assoc]⟩, fun x o h n => let ⟨p, q⟩ := a.keep x o h n; b.keep x o p q, fun x vs h => b.tup x vs (a.tup x vs h)⟩
  rcases b.b' x h with h | h
  · exact a.b' x h
  · cases e : H1 x with
    | none => exact .inr rfl
    | some o =>
      obtain ⟨o', e'⟩ := a.th x ⟨o, e⟩
      rw [h] at e'; cases e'
/-- what stands where we may write -/
def Ours : HO → Prop
  | .lst _ => True
  | .dK _ => True
  | .frz _ (.dK _) => True
  | _ => False
theorem Gr.lv {K : Pm} {W : Wd} {H : Hp} (g : Gr K W H) {a : Addr} (l : live W a) : ∃ u, H a = some u ∧ Ours u := by
  obtain ⟨n, o, e1, e2, ne⟩ := l
  have q := g.obj n a o e1 e2
  cases o with
  | lst ds => obtain ⟨vs, h, _⟩ := q; exact ⟨_, h, True.intro⟩
  | dct kvs => obtain ⟨ps, h, _⟩ := q; exact ⟨_, h, True.intro⟩
  | dlk kvs => obtain ⟨o, ps, h, _⟩ := q; exact ⟨_, h, True.intro⟩
  | gone => exact absurd rfl ne
theorem Gr.nlv {K : Pm} {W : Wd} {H : Hp} (g : Gr K W H) {a : Addr} {u : HO} (h : H a = some u) (n : ¬ Ours u) : ¬ live W a := fun l => by
  obtain ⟨v, e, p⟩ := g.lv l
  rw [h] at e
  cases e
  exact n p
theorem SqT.keepW {K : Pm} {W W' : Wd} {H H' : Hp} (g : Gr K W H) (x : ExtW W H W' H') {a : Addr} {vs : List V} (h : SqT K.K H a vs) : SqT K.K H' a vs := by
  rcases h with (h | ⟨o, h⟩) | h
  · exact .inl (.inl (x.tup a vs h))
  · exact .inl (.inr ⟨o, (x.keep a _ h (g.nlv h fun z => z) (.inr ⟨_, _, rfl⟩)).1⟩)
  · exact .inr h
section
variable {K : Pm} {W W' : Wd} {H H' : Hp}
theorem L.keepW (x : ExtW W H W' H') {a : Addr} {o : HO} (h : H a = some o) (n : ¬ L W a) : H' a = some o ∧ ¬ L W' a := by
  obtain ⟨p, q⟩ := x.keep a o h (fun l => n (.inl l)) (.inl fun l => n (.inr l))
  refine ⟨p, fun l => ?_⟩
  rcases l with l | l
  · exact q l
  · rcases x.b' a l with l | l
    · exact n (.inr l)
    · rw [l] at h; cases h
theorem L.keepD (x : ExtW W H W' H') {a : Addr} {ps : List (Key × V)} (h : Rd H a (.dK ps)) (n : ¬ L W a) : Rd H' a (.dK ps) ∧ ¬ L W' a := by
  rcases h with h | ⟨o, h⟩
  · obtain ⟨p, q⟩ := L.keepW x h n
    exact ⟨.inl p, q⟩
  · obtain ⟨p, q⟩ := L.keepW x h n
    exact ⟨.inr ⟨o, p⟩, q⟩
theorem Scr.keepW (x : ExtW W H W' H') {a : Addr} {vs : List V} (h : Scr K (L W) H a vs) : Scr K (L W') H' a vs := by
  rcases h with ⟨n, o, h⟩ | h
  · exact .inl ⟨(L.keepW x h n).2, o, (L.keepW x h n).1⟩
  · exact .inr h
mutual
theorem Dr.keepW (g : Gr K W H) (x : ExtW W H W' H') : ∀ {v : V} {d : D}, Rv K W H v d → Rv K W' H' v d
  | _, _, .non => .non
  | _, _, .bl b => .bl b
  | _, _, .int i => .int i
  | _, _, .str z => .str z
  | _, _, .tup h r => .tup (SqT.keepW g x h) (Drs.keepW g x r)
  | _, _, .lst h n r => .lst (L.keepW x h n).1 (L.keepW x h n).2 (Drs.keepW g x r)
  | _, _, .scr h r => .scr (Scr.keepW x h) (Drs.keepW g x r)
  | _, _, .dct h n r => .dct (L.keepD x h n).1 (L.keepD x h n).2 (Drk.keepW g x r)
  | _, _, .set h n nd e => .set (L.keepW x h n).1 (L.keepW x h n).2 nd e
  | _, _, .ref h => by
    obtain ⟨t, e⟩ := x.pre
    refine .ref ?_
    rw [e, List.getElem?_append_left (List.getElem?_eq_some_iff.mp h).1]
    exact h
  | _, _, .glo a => .glo a
  | _, _, .ty n => .ty n
  | _, _, .dcl h n r => by
    obtain ⟨o, h⟩ := h
    exact .dcl ⟨o, (L.keepW x h n).1⟩ (L.keepW x h n).2 (Drk.keepW g x r)
  | _, _, .tpn h r => by
    obtain ⟨o, h, z⟩ := h
    exact .tpn ⟨o, (x.keep _ _ h (g.nlv h fun z => z) (.inr ⟨_, _, rfl⟩)).1, z⟩ (Drs.keepW g x r)
  | _, _, .cls h => .cls h
  | _, _, .exc h e n => .exc h (L.keepW x e n).1 (L.keepW x e n).2
  | _, _, .exf h e n e2 n2 r => .exf h (L.keepW x e n).1 (L.keepW x e n).2 (L.keepW x e2 n2).1 (L.keepW x e2 n2).2 (Dr.keepW g x r)
theorem Drs.keepW (g : Gr K W H) (x : ExtW W H W' H') : ∀ {vs : List V} {ds : List D}, Rvs K W H vs ds → Rvs K W' H' vs ds
  | _, _, .nil => .nil
  | _, _, .cons h r => .cons (Dr.keepW g x h) (Drs.keepW g x r)
theorem Drk.keepW (g : Gr K W H) (x : ExtW W H W' H') : ∀ {ps : List (Key × V)} {kvs : List (Key × D)}, Rkv K W H ps kvs → Rkv K W' H' ps kvs
  | _, _, .nil => .nil
  | _, _, .cons h r => .cons (Dr.keepW g x h) (Drk.keepW g x r)
end
theorem L.keep (x : Ext W H W' H') {a : Addr} {o : HO} (h : H a = some o) (n : ¬ L W a) : H' a = some o ∧ ¬ L W' a := L.keepW x.w h n
theorem Scr.keep (x : Ext W H W' H') {a : Addr} {vs : List V} (h : Scr K (L W) H a vs) : Scr K (L W') H' a vs := Scr.keepW x.w h
theorem SqT.keep (g : Gr K W H) (x : Ext W H W' H') {a : Addr} {vs : List V} (h : SqT K.K H a vs) : SqT K.K H' a vs := SqT.keepW g x.w h
theorem Dr.keep (g : Gr K W H) (x : Ext W H W' H') {v : V} {d : D} (h : Rv K W H v d) : Rv K W' H' v d := Dr.keepW g x.w h
theorem Drs.keep (g : Gr K W H) (x : Ext W H W' H') {vs : List V} {ds : List D} (h : Rvs K W H vs ds) : Rvs K W' H' vs ds := Drs.keepW g x.w h
theorem Drk.keep (g : Gr K W H) (x : Ext W H W' H') {vs : List (Key × V)} {ds : List (Key × D)} (h : Rkv K W H vs ds) : Rkv K W' H' vs ds := Drk.keepW g x.w h
theorem Ob.keep (g : Gr K W H) (x : Ext W H W' H') {a : Addr} {o : O} (h : Ob K W H a o) (e : H' a = H a) : Ob K W' H' a o := by
  cases o with
  | lst ds => obtain ⟨vs, q, r⟩ := h; exact ⟨vs, e.trans q, Drs.keep g x r⟩
  | dct kvs => obtain ⟨ps, q, r⟩ := h; exact ⟨ps, e.trans q, Drk.keep g x r⟩
  | dlk kvs => obtain ⟨o, ps, q, r⟩ := h; exact ⟨o, ps, e.trans q, Drk.keep g x r⟩
  | gone => exact True.intro
end
theorem rd_keep {H : Hp} {p a : Addr} {o u : HO} (h : Rd H a u) (n : a ≠ p) : Rd (upd H p o) a u := by
  rcases h with h | ⟨b, h⟩
  · exact .inl (by rw [upd_ne n]; exact h)
  · exact .inr ⟨b, by rw [upd_ne n]; exact h⟩
theorem rd_ne {H : Hp} {p a : Addr} {u : HO} (h : Rd H a u) (n : H p = none) : a ≠ p := by
  rcases h with h | ⟨b, h⟩
  · exact ne_of_none h n
  · exact ne_of_none h n

/-! ### steps of the world -/
section
variable {K : Pm} {W : Wd} {H : Hp}
theorem not_there {a p : Addr} {o : HO} (h : H a = some o) (n : H p = none) : a ≠ p := ne_of_none h n
theorem th_upd {p : Addr} {o : HO} : ∀ a, (∃ u, H a = some u) → ∃ u, upd H p o a = some u := fun a ⟨u, h⟩ => by
  by_cases e : a = p
  · exact ⟨o, by rw [e]; exact upd_same⟩
  · exact ⟨u, by rw [upd_ne e]; exact h⟩
/-- an object is laid that no number tells -/
theorem Ext.laid {p : Addr} {o : HO} (n : H p = none) : Ext W H W (upd H p o) :=
  ⟨fun _ h => h, fun _ h => .inl h, th_upd, ⟨[], by simp⟩, fun a u h l => ⟨by rw [upd_ne (not_there h n)]; exact h, l⟩, fun a vs h => by rw [upd_ne (not_there h n)]; exact h⟩
theorem Gr.laid {p : Addr} {o : HO} (g : Gr K W H) (n : H p = none) : Gr K W (upd H p o) := by
  have th : ∀ a, (∃ u, H a = some u) → a ≠ p := fun a ⟨u, h⟩ => not_there h n
  refine ⟨g.len, g.nd, g.dis, fun a h => ?_, fun a h => ?_, fun m a u h1 h2 => ?_⟩
  · rw [upd_ne (th a (g.thA a h))]; exact g.thA a h
  · rw [upd_ne (th a (g.thB a h))]; exact g.thB a h
  · exact (g.obj m a u h1 h2).keep g (Ext.laid n) (upd_ne (th a (g.thA a (List.mem_of_getElem? h1))))
theorem fresh_L {p : Addr} (g : Gr K W H) (n : H p = none) : ¬ L W p := fun l => by
  have : ∃ o, H p = some o := by
    rcases l with ⟨m, o, h, _⟩ | h
    · exact g.thA p (List.mem_of_getElem? h)
    · exact g.thB p h
  obtain ⟨o, e⟩ := this
  rw [n] at e; cases e
theorem fresh_α {p : Addr} (g : Gr K W H) (n : H p = none) : p ∉ W.α := fun h => by
  obtain ⟨o, e⟩ := g.thA p h
  rw [n] at e; cases e
/-- the number of an address is one -/
theorem Gr.one (g : Gr K W H) {n m : Nat} {a : Addr} (h : W.α[n]? = some a) (h' : W.α[m]? = some a) : n = m := by
  obtain ⟨l1, e1⟩ := List.getElem?_eq_some_iff.mp h
  obtain ⟨l2, e2⟩ := List.getElem?_eq_some_iff.mp h'
  exact (List.getElem_inj g.nd).mp (e1.trans e2.symm)
/-- a new object of ours -/
def Wd.new (W : Wd) (p : Addr) (o : O) : Wd := ⟨W.α ++ [p], W.G ++ [o], W.B⟩
theorem live_new {p a : Addr} {o : O} (hl : W.α.length = W.G.length) (l : live (W.new p o) a) : live W a ∨ a = p := by
  obtain ⟨n, u, h1, h2, ne⟩ := l
  by_cases h : n < W.α.length
  · refine .inl ⟨n, u, ?_, ?_, ne⟩
    · rw [← h1]; exact (List.getElem?_append_left h).symm
    · rw [← h2]; exact (List.getElem?_append_left (by omega)).symm
  · have h1' : (W.α ++ [p])[n]? = some a := h1
    rw [List.getElem?_append_right (by omega)] at h1'
    cases hm : n - W.α.length with
    | zero => rw [hm] at h1'; simp at h1'; exact .inr h1'.symm
    | succ m => rw [hm] at h1'; simp at h1'
theorem Ext.new {p : Addr} {o : O} {u : HO} (g : Gr K W H) (n : H p = none) : Ext W H (W.new p o) (upd H p u) :=
  ⟨fun _ h => h, fun _ h => .inl h, th_upd, ⟨[p], rfl⟩, fun a v h l => ⟨by rw [upd_ne (not_there h n)]; exact h, fun q => (live_new g.len q).elim l (not_there h n)⟩, fun a vs h => by rw [upd_ne (not_there h n)]; exact h⟩
theorem Gr.new {p : Addr} {o : O} {u : HO} (g : Gr K W H) (n : H p = none) (ho : Ob K (W.new p o) (upd H p u) p o) : Gr K (W.new p o) (upd H p u) := by
  have th : ∀ a, (∃ u, H a = some u) → a ≠ p := fun a ⟨u, h⟩ => not_there h n
  have pα := fresh_α g n
  refine ⟨by simp [Wd.new, g.len], ?_, fun a h => ?_, fun a h => ?_, fun a h => ?_, fun m a v h1 h2 => ?_⟩
  · show (W.α ++ [p]).Nodup
    rw [List.nodup_append]
    refine ⟨g.nd, by simp, fun a ha b hb => ?_⟩
    have : b = p := by simpa using hb
    rw [this]; rintro rfl; exact pα ha
  · have hb : a ∈ W.B := h
    have q := th a (g.thB a hb)
    show a ∉ W.α ++ [p]
    simp only [List.mem_append, List.mem_singleton, not_or]
    exact ⟨g.dis a hb, q⟩
  · have h' : a ∈ W.α ++ [p] := h
    rcases List.mem_append.mp h' with h' | h'
    · rw [upd_ne (th a (g.thA a h'))]; exact g.thA a h'
    · have : a = p := by simpa using h'
      rw [this]; exact ⟨u, upd_same⟩
  · have hb : a ∈ W.B := h
    rw [upd_ne (th a (g.thB a hb))]; exact g.thB a hb
  · have h1' : (W.α ++ [p])[m]? = some a := h1
    have h2' : (W.G ++ [o])[m]? = some v := h2
    have hl := g.len
    by_cases h : m < W.α.length
    · rw [List.getElem?_append_left h] at h1'
      rw [List.getElem?_append_left (by omega)] at h2'
      exact (g.obj m a v h1' h2').keep g (Ext.new g n) (upd_ne (th a (g.thA a (List.mem_of_getElem? h1'))))
    · rw [List.getElem?_append_right (by omega)] at h1'
      rw [List.getElem?_append_right (by omega)] at h2'
      have e : m - W.α.length = m - W.G.length := by omega
      rw [e] at h1'
      cases hm : m - W.G.length with
      | zero =>
        rw [hm] at h1' h2'; simp at h1' h2'
        subst h1' h2'
        exact ho
      | succ j => rw [hm] at h1'; simp at h1'
/-- an object of ours written, or given up -/
def Wd.put (W : Wd) (n : Nat) (o : O) : Wd := ⟨W.α, W.G.set n o, W.B⟩
theorem live_put {n : Nat} {a : Addr} {o o' : O} (hn : W.G[n]? = some o) (hg : o ≠ .gone) (l : live (W.put n o') a) : live W a := by
  obtain ⟨m, u, h1, h2, ne⟩ := l
  have h2' : (W.G.set n o')[m]? = some u := h2
  by_cases e : n = m
  · subst e
    exact ⟨n, o, h1, hn, hg⟩
  · rw [List.getElem?_set_ne e] at h2'
    exact ⟨m, u, h1, h2', ne⟩
theorem Ext.put {n : Nat} {a : Addr} {o o' : O} {u : HO} (g : Gr K W H) (ha : W.α[n]? = some a) (hn : W.G[n]? = some o) (hg : o ≠ .gone) : Ext W H (W.put n o') (upd H a u) := by
  have la : live W a := ⟨n, o, ha, hn, hg⟩
  have nb : ∀ b, ¬ live W b → b ≠ a := fun b l e => l (by rw [e]; exact la)
  refine ⟨fun _ h => h, fun _ h => .inl h, th_upd, ⟨[], by simp [Wd.put]⟩, fun b v h l => ⟨by rw [upd_ne (nb b l)]; exact h, fun q => l (live_put hn hg q)⟩, fun b vs h => ?_⟩
  rw [upd_ne (nb b (g.nlv h fun z => z))]; exact h
theorem Gr.put {n : Nat} {a : Addr} {o o' : O} {u : HO} (g : Gr K W H) (ha : W.α[n]? = some a) (hn : W.G[n]? = some o) (hg : o ≠ .gone) (ho : Ob K (W.put n o') (upd H a u) a o') : Gr K (W.put n o') (upd H a u) := by
  refine ⟨by simp [Wd.put, g.len], g.nd, g.dis, fun b h => ?_, fun b h => ?_, fun m b v h1 h2 => ?_⟩
  · by_cases e : b = a
    · rw [e]; exact ⟨u, upd_same⟩
    · rw [upd_ne e]; exact g.thA b h
  · have e : b ≠ a := fun e => g.dis b h (by rw [e]; exact List.mem_of_getElem? ha)
    rw [upd_ne e]; exact g.thB b h
  · have h1' : W.α[m]? = some b := h1
    have h2' : (W.G.set n o')[m]? = some v := h2
    by_cases e : n = m
    · subst e
      rw [ha] at h1'; cases h1'
      rw [List.getElem?_set_self (List.getElem?_eq_some_iff.mp hn).1] at h2'; cases h2'
      exact ho
    · rw [List.getElem?_set_ne e] at h2'
      have nb : b ≠ a := fun q => e (g.one ha (by rw [← q]; exact h1'))
      exact (g.obj m b v h1' h2').keep g (Ext.put g ha hn hg) (upd_ne nb)
theorem Ext.drop {n : Nat} {o : O} (hn : W.G[n]? = some o) (hg : o ≠ .gone) : Ext W H (W.put n .gone) H :=
  ⟨fun _ h => h, fun _ h => .inl h, fun _ h => h, ⟨[], by simp [Wd.put]⟩, fun b v h l => ⟨h, fun q => l (live_put hn hg q)⟩, fun _ _ h => h⟩
theorem Gr.drop {n : Nat} {o : O} (g : Gr K W H) (hn : W.G[n]? = some o) (hg : o ≠ .gone) : Gr K (W.put n .gone) H := by
  refine ⟨by simp [Wd.put, g.len], g.nd, g.dis, g.thA, g.thB, fun m b v h1 h2 => ?_⟩
  have h1' : W.α[m]? = some b := h1
  have h2' : (W.G.set n .gone)[m]? = some v := h2
  by_cases e : n = m
  · subst e
    rw [List.getElem?_set_self (List.getElem?_eq_some_iff.mp hn).1] at h2'; cases h2'
    exact True.intro
  · rw [List.getElem?_set_ne e] at h2'
    exact (g.obj m b v h1' h2').keep g (Ext.drop hn hg) rfl
theorem not_L_drop {n : Nat} {a : Addr} (g : Gr K W H) (ha : W.α[n]? = some a) : ¬ L (W.put n .gone) a := fun l => by
  rcases l with ⟨m, u, h1, h2, ne⟩ | l
  · have h1' : W.α[m]? = some a := h1
    have e := g.one ha h1'
    subst e
    have h2' : (W.G.set n .gone)[n]? = some u := h2
    have lt : n < W.G.length := by rw [← g.len]; exact (List.getElem?_eq_some_iff.mp ha).1
    rw [List.getElem?_set_self lt] at h2'
    exact ne (Option.some.inj h2').symm
  · exact g.dis a l (List.mem_of_getElem? ha)
/-- an address where no tree may look from here on -/
def Wd.ban (W : Wd) (p : Addr) : Wd := ⟨W.α, W.G, p :: W.B⟩
theorem live_ban {p a : Addr} : live (W.ban p) a ↔ live W a := Iff.rfl
theorem Ext.ban {p : Addr} {u : HO} (n : H p = none) : Ext W H (W.ban p) (upd H p u) := by
  have x : Ext W H W (upd H p u) := Ext.laid n
  exact ⟨fun a h => List.mem_cons_of_mem _ h, fun a h => by
    rcases List.mem_cons.mp h with rfl | h
    · exact .inr n
    · exact .inl h, x.th, x.pre, x.keep, x.tup⟩
theorem Gr.ban {p : Addr} {u : HO} (g : Gr K W H) (n : H p = none) : Gr K (W.ban p) (upd H p u) := by
  have th : ∀ a, (∃ u, H a = some u) → a ≠ p := fun a ⟨u, h⟩ => not_there h n
  have g' : Gr K W (upd H p u) := g.laid n
  refine ⟨g.len, g.nd, fun a h => ?_, g'.thA, fun a h => ?_, fun m a v h1 h2 => ?_⟩
  · rcases List.mem_cons.mp h with rfl | h
    · have q : a ∉ W.α := fresh_α g n
      exact q
    · exact g.dis a h
  · rcases List.mem_cons.mp h with rfl | h
    · exact ⟨u, upd_same⟩
    · exact g'.thB a h
  · exact (g.obj m a v h1 h2).keep g (Ext.ban n) (upd_ne (th a (g.thA a (List.mem_of_getElem? h1))))
/-- a banned object changes -/
theorem ban_ne {p : Addr} (g : Gr K W H) (hp : p ∈ W.B) {a : Addr} (h : live W a) : a ≠ p := fun e => by
  obtain ⟨m, o, h1, _⟩ := h
  exact g.dis p hp (by rw [← e]; exact List.mem_of_getElem? h1)
mutual
theorem Dr.off {p : Addr} {u : HO} (hp : p ∈ W.B) (nt : ∀ vs, H p ≠ some (.tup vs)) (nf : ∀ o w, H p ≠ some (.frz o w)) : ∀ {v : V} {d : D}, Rv K W H v d → Rv K W (upd H p u) v d
  | _, _, .non => .non
  | _, _, .bl b => .bl b
  | _, _, .int i => .int i
  | _, _, .str z => .str z
  | _, _, .tup (a := a) h r => by
    refine .tup ?_ (Drs.off hp nt nf r)
    rcases h with (h | ⟨o, h⟩) | h
    · exact .inl (.inl (by rw [upd_ne (fun e => nt _ (by rw [← e]; exact h))]; exact h))
    · exact .inl (.inr ⟨o, by rw [upd_ne (fun e => nf _ _ (by rw [← e]; exact h))]; exact h⟩)
    · exact .inr h
  | _, _, .lst (a := a) h n r => .lst (by rw [upd_ne (fun e => n (.inr (by rw [e]; exact hp)))]; exact h) n (Drs.off hp nt nf r)
  | _, _, .scr (a := a) h r => by
    refine .scr ?_ (Drs.off hp nt nf r)
    rcases h with ⟨n, o, h⟩ | h
    · exact .inl ⟨n, o, by rw [upd_ne (fun e => n (.inr (by rw [e]; exact hp)))]; exact h⟩
    · exact .inr h
  | _, _, .dct (a := a) h n r => .dct (rd_keep h (fun e => n (.inr (by rw [e]; exact hp)))) n (Drk.off hp nt nf r)
  | _, _, .set (a := a) h n nd e => .set (by rw [upd_ne (fun e => n (.inr (by rw [e]; exact hp)))]; exact h) n nd e
  | _, _, .ref h => .ref h
  | _, _, .glo a => .glo a
  | _, _, .ty n => .ty n
  | _, _, .dcl h n r => by
    obtain ⟨o, h⟩ := h
    exact .dcl ⟨o, by rw [upd_ne (fun z => n (.inr (by rw [z]; exact hp)))]; exact h⟩ n (Drk.off hp nt nf r)
  | _, _, .tpn h r => by
    obtain ⟨o, h, z⟩ := h
    exact .tpn ⟨o, by rw [upd_ne (fun e => nf _ _ (by rw [← e]; exact h))]; exact h, z⟩ (Drs.off hp nt nf r)
  | _, _, .cls h => .cls h
  | _, _, .exc h e n => .exc h (by rw [upd_ne (fun z => n (.inr (by rw [z]; exact hp)))]; exact e) n
  | _, _, .exf h e n e2 n2 r => .exf h (by rw [upd_ne (fun z => n (.inr (by rw [z]; exact hp)))]; exact e) n (by rw [upd_ne (fun z => n2 (.inr (by rw [z]; exact hp)))]; exact e2) n2 (Dr.off hp nt nf r)
theorem Drs.off {p : Addr} {u : HO} (hp : p ∈ W.B) (nt : ∀ vs, H p ≠ some (.tup vs)) (nf : ∀ o w, H p ≠ some (.frz o w)) : ∀ {vs : List V} {ds : List D}, Rvs K W H vs ds → Rvs K W (upd H p u) vs ds
  | _, _, .nil => .nil
  | _, _, .cons h r => .cons (Dr.off hp nt nf h) (Drs.off hp nt nf r)
theorem Drk.off {p : Addr} {u : HO} (hp : p ∈ W.B) (nt : ∀ vs, H p ≠ some (.tup vs)) (nf : ∀ o w, H p ≠ some (.frz o w)) : ∀ {ps : List (Key × V)} {kvs : List (Key × D)}, Rkv K W H ps kvs → Rkv K W (upd H p u) ps kvs
  | _, _, .nil => .nil
  | _, _, .cons h r => .cons (Dr.off hp nt nf h) (Drk.off hp nt nf r)
end
theorem Ob.off {p a : Addr} {u : HO} {o : O} (hp : p ∈ W.B) (nt : ∀ vs, H p ≠ some (.tup vs)) (nf : ∀ o w, H p ≠ some (.frz o w)) (na : a ≠ p) (h : Ob K W H a o) : Ob K W (upd H p u) a o := by
  cases o with
  | lst ds => obtain ⟨vs, q, r⟩ := h; exact ⟨vs, by rw [upd_ne na]; exact q, Drs.off hp nt nf r⟩
  | dct kvs => obtain ⟨ps, q, r⟩ := h; exact ⟨ps, by rw [upd_ne na]; exact q, Drk.off hp nt nf r⟩
  | dlk kvs => obtain ⟨o, ps, q, r⟩ := h; exact ⟨o, ps, by rw [upd_ne na]; exact q, Drk.off hp nt nf r⟩
  | gone => exact True.intro
theorem Gr.off {p : Addr} {u : HO} (g : Gr K W H) (hp : p ∈ W.B) (nt : ∀ vs, H p ≠ some (.tup vs)) (nf : ∀ o w, H p ≠ some (.frz o w)) : Gr K W (upd H p u) :=
  ⟨g.len, g.nd, g.dis, fun a h => th_upd a (g.thA a h), fun a h => th_upd a (g.thB a h), fun m a v h1 h2 => Ob.off hp nt nf (fun e => g.dis p hp (by rw [← e]; exact List.mem_of_getElem? h1)) (g.obj m a v h1 h2)⟩
mutual
theorem Dr.less {L' : Addr → Prop} {α : List Addr} {L : Addr → Prop} (le : ∀ a, L' a → L a) : ∀ {v : V} {d : D}, Dr K L α H v d → Dr K L' α H v d
  | _, _, .non => .non
  | _, _, .bl b => .bl b
  | _, _, .int i => .int i
  | _, _, .str z => .str z
  | _, _, .tup h r => .tup h (Drs.less le r)
  | _, _, .lst h n r => .lst h (fun l => n (le _ l)) (Drs.less le r)
  | _, _, .scr h r => .scr (h.imp (fun z => ⟨fun l => z.1 (le _ l), z.2⟩) id) (Drs.less le r)
  | _, _, .dct h n r => .dct h (fun l => n (le _ l)) (Drk.less le r)
  | _, _, .set h n nd e => .set h (fun l => n (le _ l)) nd e
  | _, _, .ref h => .ref h
  | _, _, .glo a => .glo a
  | _, _, .ty n => .ty n
  | _, _, .dcl h n r => .dcl h (fun l => n (le _ l)) (Drk.less le r)
  | _, _, .tpn h r => .tpn h (Drs.less le r)
  | _, _, .cls h => .cls h
  | _, _, .exc h e n => .exc h e (fun l => n (le _ l))
  | _, _, .exf h e n e2 n2 r => .exf h e (fun l => n (le _ l)) e2 (fun l => n2 (le _ l)) (Dr.less le r)
theorem Drs.less {L' : Addr → Prop} {α : List Addr} {L : Addr → Prop} (le : ∀ a, L' a → L a) : ∀ {vs : List V} {ds : List D}, Drs K L α H vs ds → Drs K L' α H vs ds
  | _, _, .nil => .nil
  | _, _, .cons h r => .cons (Dr.less le h) (Drs.less le r)
theorem Drk.less {L' : Addr → Prop} {α : List Addr} {L : Addr → Prop} (le : ∀ a, L' a → L a) : ∀ {ps : List (Key × V)} {kvs : List (Key × D)}, Drk K L α H ps kvs → Drk K L' α H ps kvs
  | _, _, .nil => .nil
  | _, _, .cons h r => .cons (Dr.less le h) (Drk.less le r)
end
/-- the bans taken back -/
def Wd.bans (W : Wd) (B : List Addr) : Wd := ⟨W.α, W.G, B⟩
theorem L_bans {B : List Addr} (s : ∀ a ∈ B, a ∈ W.B) : ∀ a, L (W.bans B) a → L W a := fun a l => l.elim .inl fun h => .inr (s a h)
theorem Gr.bans {B : List Addr} (g : Gr K W H) (s : ∀ a ∈ B, a ∈ W.B) : Gr K (W.bans B) H := by
  refine ⟨g.len, g.nd, fun a h => g.dis a (s a h), g.thA, fun a h => g.thB a (s a h), fun m a v h1 h2 => ?_⟩
  have q := g.obj m a v h1 h2
  cases v with
  | lst ds => obtain ⟨vs, h, r⟩ := q; exact ⟨vs, h, Drs.less (L_bans s) r⟩
  | dct kvs => obtain ⟨ps, h, r⟩ := q; exact ⟨ps, h, Drk.less (L_bans s) r⟩
  | dlk kvs => obtain ⟨o, ps, h, r⟩ := q; exact ⟨o, ps, h, Drk.less (L_bans s) r⟩
  | gone => exact True.intro
theorem Ext.bans {W0 : Wd} {H0 : Hp} {B : List Addr} (x : Ext W0 H0 W H) (s : ∀ a ∈ B, a ∈ W.B) (s0 : ∀ a ∈ W0.B, a ∈ B) : Ext W0 H0 (W.bans B) H :=
  ⟨s0, fun a h => x.b' a (s a h), x.th, x.pre, x.keep, x.tup⟩
end
end Tw

namespace Tw
open PySem PySem.Spec PyProof.Rows L2

/-! ### what is reckoned -/
/-- an error of the program's own: its class by name, its one field -/
structure Er where
  cls : Str
  fld : Option (Str × D)
abbrev M (A : Type) := List O → Option (Sum Er A × List O)
abbrev P1 (A : Type) := List O → Option (A × List O)
def ret {A : Type} (a : A) : M A := fun G => some (.inr a, G)
def bnd {A B : Type} (m : M A) (k : A → M B) : M B := fun G => match m G with
  | some (.inr a, G1) => k a G1
  | some (.inl e, G1) => some (.inl e, G1)
  | none => none
def lft {A : Type} (f : P1 A) : M A := fun G => match f G with
  | some (a, G1) => some (.inr a, G1)
  | none => none
/-- nothing is changed -/
def pur {A : Type} (o : Option A) : P1 A := fun G => match o with
  | some a => some (a, G)
  | none => none
abbrev En := List (Option D)

def Cxp (X : Cx) : Pm := ⟨X.K, X.prog, X.w, X.mg⟩
/-- what is wanted where an error leaves -/
abbrev WE' := Er → Wd → L2.St → Hp → Prop
structure Rs (K : Pm) (W : Wd) (ρ : En) (σ : L2.St) (H : Hp) : Prop where
  gr : Gr K W H
  len : ρ.length = σ.length
  var : ∀ (i : Nat) (d : D), ρ[i]? = some (some d) → ∃ v, σ[i]? = some (some v) ∧ Rv K W H v d
theorem Rs.keep {K : Pm} {W W' : Wd} {ρ : En} {σ : L2.St} {H H' : Hp} (r : Rs K W ρ σ H) (g : Gr K W' H') (x : Ext W H W' H') : Rs K W' ρ σ H' :=
  ⟨g, r.len, fun i d e => let ⟨v, h, q⟩ := r.var i d e; ⟨v, h, q.keep r.gr x⟩⟩
/-- the end of what was reckoned -/
def Post {A B : Type} (K : Pm) (We : WE') (R : Wd → Hp → B → A → Prop) (W : Wd) (H : Hp) (σ : L2.St) (r : Sum Er A) (G' : List O) (Q : B → Hp → Prop) : Prop :=
  match r with
  | .inr d => ∀ (W' : Wd) (v : B) (H' : Hp), W'.G = G' → Ext W H W' H' → Gr K W' H' → R W' H' v d → Q v H'
  | .inl e => ∀ (W' : Wd) (H' : Hp), W'.G = G' → Ext W H W' H' → Gr K W' H' → We e W' σ H'
def up {A B : Type} (K : Pm) (We : WE') (R : Wd → Hp → B → A → Prop) (de : En → M A) : L2.St → Hp → (B → Hp → Prop) → Prop := fun σ H Q =>
  ∃ (W : Wd) (ρ : En) (r : Sum Er A) (G' : List O), Rs K W ρ σ H ∧ de ρ W.G = some (r, G') ∧ Post K We R W H σ r G' Q
abbrev upE (K : Pm) (We : WE') (de : En → M D) : TE := up K We (Rv K) de
abbrev upA (K : Pm) (We : WE') (de : En → M (List D)) : TA := up K We (Rvs K) de
abbrev Rb (W : Wd) (H : Hp) (b c : Bool) : Prop := b = c
abbrev upT (K : Pm) (We : WE') (de : En → M Bool) : TT := up K We Rb de

section
variable {A B A' B' : Type} {K : Pm} {We : WE'} {R : Wd → Hp → B → A → Prop} {R' : Wd → Hp → B' → A' → Prop} {W W1 : Wd} {H H1 : Hp} {σ : L2.St} {ρ : En} {G' : List O}
theorem Post.mono {r : Sum Er A} {Q : B → Hp → Prop} (p : Post K We R W H σ r G' Q) (x : Ext W H W1 H1) : Post K We R W1 H1 σ r G' Q := by
  cases r with
  | inr d => exact fun W' v H' e x' g q => p W' v H' e (x.trans x') g q
  | inl e => exact fun W' H' e x' g => p W' H' e (x.trans x') g
theorem up_bnd {da : En → M A} {k : A → M A'} {r : Sum Er A'} {Q : B' → Hp → Prop} {T : B → Hp → Prop} (hR : Rs K W ρ σ H) (e : bnd (da ρ) k W.G = some (r, G')) (p : Post K We R' W H σ r G' Q)
    (h : ∀ (d : A) (W1 : Wd) (v : B) (H1 : Hp), Ext W H W1 H1 → Rs K W1 ρ σ H1 → R W1 H1 v d → k d W1.G = some (r, G') → Post K We R' W1 H1 σ r G' Q → T v H1) : up K We R da σ H T := by
  unfold bnd at e
  split at e
  · rename_i a G1 he
    exact ⟨W, ρ, .inr a, G1, hR, he, fun W' v H' eg x g q => h a W' v H' x (hR.keep g x) q (by rw [eg]; exact e) (p.mono x)⟩
  · rename_i er G1 he
    cases e
    exact ⟨W, ρ, .inl er, _, hR, he, p⟩
  · cases e
theorem up_lft {f : P1 A} {r : Sum Er A} {Q : B → Hp → Prop} (e : lft f W.G = some (r, G')) (p : Post K We R W H σ r G' Q) :
    ∃ d, f W.G = some (d, G') ∧ ∀ (W' : Wd) (v : B) (H' : Hp), W'.G = G' → Ext W H W' H' → Gr K W' H' → R W' H' v d → Q v H' := by
  unfold lft at e
  split at e
  · rename_i a G1 he
    cases e
    exact ⟨a, he, p⟩
  · cases e
theorem up_ret {a : A} {r : Sum Er A} {Q : B → Hp → Prop} (e : ret a W.G = some (r, G')) (p : Post K We R W H σ r G' Q) :
    ∀ (W' : Wd) (v : B) (H' : Hp), W'.G = W.G → Ext W H W' H' → Gr K W' H' → R W' H' v a → Q v H' := by
  cases e
  exact p
theorem pur_eq {o : Option A} {a : A} {G G1 : List O} (e : pur o G = some (a, G1)) : o = some a ∧ G1 = G := by
  unfold pur at e
  split at e
  · cases e; exact ⟨rfl, rfl⟩
  · cases e
end

section
variable {X : Cx} {e : Expr} {es : List Expr} {st : Stmt} {sts : List Stmt}
theorem PE.imp {t t' : TE} (h : PE X e t) (i : ∀ σ H Q, t' σ H Q → t σ H Q) : PE X e t' := ⟨fun pins s σ H Q I q => h.run pins s σ H Q I (i σ H Q q)⟩
theorem PT.imp {t t' : TT} (h : PT X e t) (i : ∀ σ H Q, t' σ H Q → t σ H Q) : PT X e t' := ⟨fun pins s σ H Q I q => h.run pins s σ H Q I (i σ H Q q)⟩
theorem PW.imp {t t' : TT} (h : PW X e t) (i : ∀ σ H Q, t' σ H Q → t σ H Q) : PW X e t' := ⟨fun wh pins s σ H Q I q => h.run wh pins s σ H Q I (i σ H Q q)⟩
theorem PA.imp {t t' : TA} (h : PA X es t) (i : ∀ σ H Q, t' σ H Q → t σ H Q) : PA X es t' := ⟨fun pos pins s σ H Q I q => h.run pos pins s σ H Q I (i σ H Q q)⟩
theorem PS.imp {t t' : TS} (h : PS X st t) (i : ∀ D σ H, t' D σ H → t D σ H) : PS X st t' := ⟨fun pins s σ H D I q => h.run pins s σ H D I (i D σ H q)⟩
theorem PSs.imp {t t' : TS} (h : PSs X sts t) (i : ∀ D σ H, t' D σ H → t D σ H) : PSs X sts t' := ⟨fun pins s σ H D I q => h.run pins s σ H D I (i D σ H q)⟩
end

/-! ### names, constants -/
def dC (d : D) : En → M D := fun _ => ret d
def dV (i : Nat) : En → M D := fun ρ => lft (pur (match ρ[i]? with | some (some d) => some d | _ => none))
section
variable {X : Cx} {We : WE'}
theorem up_const {σ : L2.St} {H : Hp} {Q : VK} {v : V} {d : D} (hv : ∀ (W : Wd) (H : Hp), Rv (Cxp X) W H v d) (h : upE (Cxp X) We (dC d) σ H Q) : Q v H := by
  obtain ⟨W, ρ, r, G', hR, e, p⟩ := h
  exact up_ret e p W v H rfl Ext.refl hR.gr (hv W H)
theorem te_int {i : Int} {j pos} : PE X (.Constant (.int i) j pos) (upE (Cxp X) We (dC (.int i))) := PE.imp pe_int fun _ _ _ h => up_const (fun _ _ => .int i) h
theorem te_bl {b : Bool} {j pos} : PE X (.Constant (.bool b) j pos) (upE (Cxp X) We (dC (.bl b))) := PE.imp pe_bl fun _ _ _ h => up_const (fun _ _ => .bl b) h
theorem te_non {j pos} : PE X (.Constant .none j pos) (upE (Cxp X) We (dC .non)) := PE.imp pe_non fun _ _ _ h => up_const (fun _ _ => .non) h
theorem te_str {x : Str} {j pos} : PE X (.Constant (.str x) j pos) (upE (Cxp X) We (dC (.str x))) := PE.imp pe_str fun _ _ _ h => up_const (fun _ _ => .str x) h
theorem te_v (i : Nat) {x : Str} {pos : Pos} (hN : X.N[i]? = some x := by rfl) (hv : Vis X.env.scope x := by first | exact Or.inl rfl | exact Or.inr (Or.inl rfl) | exact Or.inr (Or.inr rfl)) (hd : (x == ("__debug__" : Str)) = false := by decide)
    (hcd : (x == ("__classdict__" : Str)) = false := by decide) : PE X (.Name x pos) (upE (Cxp X) We (dV i)) := PE.imp (pe_var (i := i) hN hv hd hcd) fun σ H Q h => by
  obtain ⟨W, ρ, r, G', hR, e, p⟩ := h
  obtain ⟨d, e, p⟩ := up_lft e p
  obtain ⟨e, eg⟩ := pur_eq e
  have e' : ρ[i]? = some (some d) := by
    revert e
    split
    · rename_i d' he
      intro z; cases z; exact he
    · intro z; cases z
  obtain ⟨v, hv, rv⟩ := hR.var i d e'
  exact ⟨v, hv, p W v H eg.symm Ext.refl hR.gr rv⟩
/-- a def, a class, an int of the module -/
theorem te_glo {x : Str} {a : Addr} {pos : Pos} (hg : Gl X x) (hm : X.mg x = some (.ref a)) (hd : (x == ("__debug__" : Str)) = false := by decide) : PE X (.Name x pos) (upE (Cxp X) We (dC (.glo a))) :=
  PE.imp (pe_glob (v := .ref a) hg hm rfl hd) fun _ _ _ h => up_const (fun _ _ => .glo a) h
theorem te_gint {x : Str} {i : Int} {t : Tok} {pos : Pos} (hg : Gl X x) (hm : X.mg x = some (.int i t)) (hd : (x == ("__debug__" : Str)) = false := by decide) : PE X (.Name x pos) (upE (Cxp X) We (dC (.int i))) :=
  PE.imp (pe_glob (v := .int i) hg hm ⟨_, rfl⟩ hd) fun _ _ _ h => up_const (fun _ _ => .int i) h
/-- a tuple of the module -/
theorem te_gtup {x : Str} {a : Addr} {d : D} {pos : Pos} (hg : Gl X x) (hm : X.mg x = some (.ref a)) (hk : ∀ (W : Wd) (H : Hp), Rv (Cxp X) W H (.ref a) d) (hd : (x == ("__debug__" : Str)) = false := by decide) : PE X (.Name x pos) (upE (Cxp X) We (dC d)) :=
  PE.imp (pe_glob (v := .ref a) hg hm rfl hd) fun _ _ _ h => up_const hk h
end

/-! ### argument lists, displays -/
def dNil : En → M (List D) := fun _ => ret []
def dCons (a : En → M D) (r : En → M (List D)) : En → M (List D) := fun ρ => bnd (a ρ) fun x => bnd (r ρ) fun xs => ret (x :: xs)
def mx : Nat := 1000000
theorem mx_line {n : Nat} (h : n ≤ mx) : n ≤ sizeLine := Nat.le_trans h (by rw [sizeLine_eq]; decide)
theorem mx_lt {n : Nat} (h : n ≤ mx) : n < sizeLine := Nat.lt_of_le_of_lt h (by rw [sizeLine_eq]; decide)
theorem mx_2 {n : Nat} (h : n ≤ mx) : n ≤ 16777216 := Nat.le_trans h (by decide)
def tupO (xs : List D) : Option D := if xs.length ≤ mx then some (.tup xs) else none
def lstO (xs : List D) : Option D := if xs.length ≤ mx then some (.lst xs) else none
def dTup (a : En → M (List D)) : En → M D := fun ρ => bnd (a ρ) fun xs => lft (pur (tupO xs))
def dLst (a : En → M (List D)) : En → M D := fun ρ => bnd (a ρ) fun xs => lft (pur (lstO xs))
/-- a list that will be changed -/
def newL (xs : List D) : P1 D := fun G => if xs.length ≤ mx then some (.ref G.length, G ++ [.lst xs]) else none
def dLstM (a : En → M (List D)) : En → M D := fun ρ => bnd (a ρ) fun xs => lft (newL xs)
theorem Drs.length {K : Pm} {L : Addr → Prop} {α : List Addr} {H : Hp} : ∀ {vs : List V} {ds : List D}, Drs K L α H vs ds → vs.length = ds.length
  | _, _, .nil => rfl
  | _, _, .cons _ r => by simp [Drs.length r]
section
variable {X : Cx} {We : WE'} {K : Pm}
/-- a new tuple, a new list that nobody changes -/
theorem tup_new {W : Wd} {H : Hp} {vs : List V} {ds : List D} {p : Addr} (g : Gr K W H) (r : Rvs K W H vs ds) (n : H p = none) : Gr K W (upd H p (.tup vs)) ∧ Ext W H W (upd H p (.tup vs)) ∧ Rv K W (upd H p (.tup vs)) (.ref p) (.tup ds) :=
  have x : Ext W H W (upd H p (.tup vs)) := Ext.laid n
  ⟨g.laid n, x, .tup (.inl (.inl upd_same)) (r.keep g x)⟩
theorem lst_new {W : Wd} {H : Hp} {vs : List V} {ds : List D} {p : Addr} (g : Gr K W H) (r : Rvs K W H vs ds) (n : H p = none) : Gr K W (upd H p (.lst vs)) ∧ Ext W H W (upd H p (.lst vs)) ∧ Rv K W (upd H p (.lst vs)) (.ref p) (.lst ds) :=
  have x : Ext W H W (upd H p (.lst vs)) := Ext.laid n
  ⟨g.laid n, x, .lst upd_same (fresh_L g n) (r.keep g x)⟩
theorem mut_new {W : Wd} {H : Hp} {vs : List V} {ds : List D} {p : Addr} (g : Gr K W H) (r : Rvs K W H vs ds) (n : H p = none) :
    Gr K (W.new p (.lst ds)) (upd H p (.lst vs)) ∧ Ext W H (W.new p (.lst ds)) (upd H p (.lst vs)) ∧ Rv K (W.new p (.lst ds)) (upd H p (.lst vs)) (.ref p) (.ref W.G.length) := by
  have x : Ext W H (W.new p (.lst ds)) (upd H p (.lst vs)) := Ext.new g n
  refine ⟨g.new n ⟨vs, upd_same, r.keep g x⟩, x, .ref ?_⟩
  show (W.α ++ [p])[W.G.length]? = some p
  rw [← g.len]
  simp
theorem ta_nil : PA X [] (upA (Cxp X) We dNil) := PA.imp pa_nil fun σ H Q h => by
  obtain ⟨W, ρ, r, G', hR, e, p⟩ := h
  exact up_ret e p W [] H rfl Ext.refl hR.gr .nil
theorem ta_cons {e : Expr} {es : List Expr} {da : En → M D} {dr : En → M (List D)} (ha : PE X e (upE (Cxp X) We da)) (hr : PA X es (upA (Cxp X) We dr)) (hs : starEach (e :: es) X.env = (false, eval e X.env) :: starEach es X.env := by rfl) :
    PA X (e :: es) (upA (Cxp X) We (dCons da dr)) := PA.imp (pa_cons ha hr hs) fun σ H Q h => by
  obtain ⟨W, ρ, r, G', hR, e, p⟩ := h
  refine up_bnd hR e p fun d W1 v H1 x1 R1 r1 e1 p1 => ?_
  refine up_bnd R1 e1 p1 fun ds W2 vs H2 x2 R2 r2 e2 p2 => ?_
  exact up_ret e2 p2 W2 _ H2 rfl Ext.refl R2.gr (.cons (r1.keep R1.gr x2) r2)
theorem tupO_eq {xs : List D} {d : D} (h : tupO xs = some d) : xs.length ≤ mx ∧ d = .tup xs := by
  unfold tupO at h
  split at h
  · rename_i z; cases h; exact ⟨z, rfl⟩
  · cases h
theorem lstO_eq {xs : List D} {d : D} (h : lstO xs = some d) : xs.length ≤ mx ∧ d = .lst xs := by
  unfold lstO at h
  split at h
  · rename_i z; cases h; exact ⟨z, rfl⟩
  · cases h
theorem newL_eq {xs : List D} {d : D} {G G1 : List O} (h : newL xs G = some (d, G1)) : xs.length ≤ mx ∧ d = .ref G.length ∧ G1 = G ++ [.lst xs] := by
  unfold newL at h
  split at h
  · rename_i z; cases h; exact ⟨z, rfl, rfl⟩
  · cases h
theorem te_tup {es : List Expr} {x1 pos} {da : En → M (List D)} (h : PA X es (upA (Cxp X) We da)) : PE X (.Tuple es x1 pos) (upE (Cxp X) We (dTup da)) := PE.imp (pe_tup h) fun σ H Q q => by
  obtain ⟨W, ρ, r, G', hR, e, p⟩ := q
  refine up_bnd hR e p fun ds W1 vs H1 x1 R1 r1 e1 p1 => ?_
  obtain ⟨d, e2, p2⟩ := up_lft e1 p1
  obtain ⟨e2, eg⟩ := pur_eq e2
  obtain ⟨z, rfl⟩ := tupO_eq e2
  refine ⟨by rw [r1.length]; exact mx_line z, fun a n => ?_⟩
  obtain ⟨g, x, rv⟩ := tup_new R1.gr r1 n
  exact p2 W1 _ _ eg.symm x g rv
theorem te_lst {es : List Expr} {pos} {da : En → M (List D)} (h : PA X es (upA (Cxp X) We da)) : PE X (.List es pos) (upE (Cxp X) We (dLst da)) := PE.imp (pe_lst h) fun σ H Q q => by
  obtain ⟨W, ρ, r, G', hR, e, p⟩ := q
  refine up_bnd hR e p fun ds W1 vs H1 x1 R1 r1 e1 p1 => ?_
  obtain ⟨d, e2, p2⟩ := up_lft e1 p1
  obtain ⟨e2, eg⟩ := pur_eq e2
  obtain ⟨z, rfl⟩ := lstO_eq e2
  refine ⟨by rw [r1.length]; exact mx_line z, fun a n => ?_⟩
  obtain ⟨g, x, rv⟩ := lst_new R1.gr r1 n
  exact p2 W1 _ _ eg.symm x g rv
theorem te_lstM {es : List Expr} {pos} {da : En → M (List D)} (h : PA X es (upA (Cxp X) We da)) : PE X (.List es pos) (upE (Cxp X) We (dLstM da)) := PE.imp (pe_lst h) fun σ H Q q => by
  obtain ⟨W, ρ, r, G', hR, e, p⟩ := q
  refine up_bnd hR e p fun ds W1 vs H1 x1 R1 r1 e1 p1 => ?_
  obtain ⟨d, e2, p2⟩ := up_lft e1 p1
  obtain ⟨z, rfl, rfl⟩ := newL_eq e2
  refine ⟨by rw [r1.length]; exact mx_line z, fun a n => ?_⟩
  obtain ⟨g, x, rv⟩ := mut_new R1.gr r1 n
  exact p2 (W1.new a (.lst ds)) _ _ rfl x g rv
end

/-! ### operators by values -/
/-- f tells what the reading r asks -/
def OpD (K : Pm) (r : R2) (f : D → D → P1 D) : Prop := ∀ (W : Wd) (H : Hp) (x y : V) (a b d : D) (G' : List O) (Q : VK), Gr K W H → Rv K W H x a → Rv K W H y b → f a b W.G = some (d, G') →
  (∀ (W' : Wd) (v : V) (H' : Hp), W'.G = G' → Ext W H W' H' → Gr K W' H' → Rv K W' H' v d → Q v H') → r x y H Q
def d2 (f : D → D → P1 D) (a b : En → M D) : En → M D := fun ρ => bnd (a ρ) fun x => bnd (b ρ) fun y => lft (f x y)
def pur2 (f : D → D → Option D) : D → D → P1 D := fun a b => pur (f a b)
section
variable {X : Cx} {We : WE'} {a b : Expr} {da db : En → M D} {pos : Pos} {r : R2} {f : D → D → P1 D}
theorem op_up (hd : OpD (Cxp X) r f) {σ : L2.St} {H : Hp} {Q : VK} (h : upE (Cxp X) We (d2 f da db) σ H Q) : tOp r (upE (Cxp X) We da) (upE (Cxp X) We db) σ H Q := by
  obtain ⟨W, ρ, r, G', hR, e, p⟩ := h
  refine up_bnd hR e p fun d W1 v H1 x1 R1 r1 e1 p1 => ?_
  refine up_bnd R1 e1 p1 fun d' W2 v' H2 x2 R2 r2 e2 p2 => ?_
  obtain ⟨d3, e3, p3⟩ := up_lft e2 p2
  exact hd W2 H2 v v' d d' d3 G' Q R2.gr (r1.keep R1.gr x2) r2 e3 p3
theorem te_op {op : Operator} (ho : OpR X (binaryOp op) r) (hd : OpD (Cxp X) r f) (ha : PE X a (upE (Cxp X) We da)) (hb : PE X b (upE (Cxp X) We db)) : PE X (.BinOp a op b pos) (upE (Cxp X) We (d2 f da db)) :=
  PE.imp (pe_op ho ha hb) fun _ _ _ h => op_up hd h
theorem te_cmp {op : CmpOp} (ho : OpR X (compareOp op) r) (hd : OpD (Cxp X) r f) (ha : PE X a (upE (Cxp X) We da)) (hb : PE X b (upE (Cxp X) We db)) (hm : behindInMarks op b = false) : PE X (.Compare a [op] [b] pos) (upE (Cxp X) We (d2 f da db)) :=
  PE.imp (pe_cmpR ho ha hb hm) fun _ _ _ h => op_up hd h
theorem te_ix (ho : IxR X r) (hd : OpD (Cxp X) r f) (ha : PE X a (upE (Cxp X) We da)) (hb : PE X b (upE (Cxp X) We db)) (hs : PlainIx b) : PE X (.Subscript a b pos) (upE (Cxp X) We (d2 f da db)) :=
  PE.imp (pe_ix ho ha hb hs) fun _ _ _ h => op_up hd h
end
section
variable {K : Pm}
theorem OpD.or1 {r r' : R2} {f : D → D → P1 D} (h : OpD K r f) : OpD K (fun x y H Q => r x y H Q ∨ r' x y H Q) f := fun W H x y a b d G' Q g r1 r2 e p => .inl (h W H x y a b d G' Q g r1 r2 e p)
theorem OpD.or2 {r r' : R2} {f : D → D → P1 D} (h : OpD K r' f) : OpD K (fun x y H Q => r x y H Q ∨ r' x y H Q) f := fun W H x y a b d G' Q g r1 r2 e p => .inr (h W H x y a b d G' Q g r1 r2 e p)
/-- ints to one value -/
def i2 (g : Int → Int → D) : D → D → Option D
  | .int i, .int j => some (g i j)
  | _, _ => none
/-- ints that keep to a bound -/
def i2c (c : Int → Int → Bool) (g : Int → Int → D) : D → D → Option D
  | .int i, .int j => if c i j = true then some (g i j) else none
  | _, _ => none
theorem i2_eq {g : Int → Int → D} {a b d : D} (h : i2 g a b = some d) : ∃ i j, a = .int i ∧ b = .int j ∧ d = g i j := by
  unfold i2 at h
  split at h
  · cases h; exact ⟨_, _, rfl, rfl, rfl⟩
  · cases h
theorem i2c_eq {c : Int → Int → Bool} {g : Int → Int → D} {a b d : D} (h : i2c c g a b = some d) : ∃ i j, a = .int i ∧ b = .int j ∧ c i j = true ∧ d = g i j := by
  unfold i2c at h
  split at h
  · split at h
    · rename_i q; cases h; exact ⟨_, _, rfl, rfl, q, rfl⟩
    · cases h
  · cases h
/-- a value that no heap tells otherwise -/
def Pln (v : V) (d : D) : Prop := ∀ (K : Pm) (W : Wd) (H : Hp), Rv K W H v d
theorem opd_i0 {gv : Int → Int → V} {g : Int → Int → D} (hp : ∀ i j, Pln (gv i j) (g i j)) : OpD K (rI0 gv) (pur2 (i2 g)) := fun W H x y a b d G' Q gr r1 r2 e p => by
  obtain ⟨e, eg⟩ := pur_eq e
  obtain ⟨i, j, rfl, rfl, rfl⟩ := i2_eq e
  cases r1; cases r2
  exact ⟨i, j, rfl, rfl, p W _ H eg.symm Ext.refl gr (hp i j K W H)⟩
theorem opd_ic {C : Int → Int → Prop} {gv : Int → Int → V} {g : Int → Int → D} {c : Int → Int → Bool} (hc : ∀ i j, c i j = true → C i j) (hp : ∀ i j, Pln (gv i j) (g i j)) : OpD K (rI C gv) (pur2 (i2c c g)) := fun W H x y a b d G' Q gr r1 r2 e p => by
  obtain ⟨e, eg⟩ := pur_eq e
  obtain ⟨i, j, rfl, rfl, q, rfl⟩ := i2c_eq e
  cases r1; cases r2
  exact ⟨i, j, rfl, rfl, hc i j q, p W _ H eg.symm Ext.refl gr (hp i j K W H)⟩
theorem pln_int (i : Int) : Pln (.int i) (.int i) := fun _ _ _ => .int i
theorem pln_bl (i : Bool) : Pln (.bl i) (.bl i) := fun _ _ _ => .bl i
theorem pln_str (i : Str) : Pln (.str i) (.str i) := fun _ _ _ => .str i
end
end Tw

namespace Tw
open PySem PySem.Spec PyProof.Rows L2

/-! ### data compared -/
mutual
def toP : D → Option PyData
  | .non => some .none
  | .bl b => some (.bool b)
  | .int i => some (.int i)
  | .str x => some (.str x)
  | .tup xs => (toPs xs).map .tuple
  | .lst xs => (toPs xs).map .list
  | .scr xs => (toPs xs).map .list
  | .dct _ => none
  | .set _ => none
  | .ref _ => none
  | .glo _ => none
  | .ty _ => none
  | .dcl _ => none
  | .tpn _ => none
  | .cls _ => none
  | .exc _ => none
  | .exf _ _ _ => none
def toPs : List D → Option (List PyData)
  | [] => some []
  | x :: xs => (toP x).bind fun p => (toPs xs).map fun ps => p :: ps
end
section
variable {K : Pm} {L : Addr → Prop} {α : List Addr} {H : Hp}
mutual
theorem Dr.dp : ∀ {v : V} {d : D} {p : PyData}, Dr K L α H v d → toP d = some p → Dp K.K H v p
  | _, _, _, .non, e => by cases e; exact .non
  | _, _, _, .bl b, e => by cases e; exact .bl b
  | _, _, _, .int i, e => by cases e; exact .int i
  | _, _, _, .str x, e => by cases e; exact .str x
  | _, _, _, .tup (ds := ds) h r, e => by
    rw [toP] at e
    cases q : toPs ds with
    | none => rw [q] at e; cases e
    | some ps => rw [q] at e; cases e; exact .tup h (Drs.dp r q)
  | _, _, _, .lst (ds := ds) h n r, e => by
    rw [toP] at e
    cases q : toPs ds with
    | none => rw [q] at e; cases e
    | some ps => rw [q] at e; cases e; exact .lst (SqL.of h) (Drs.dp r q)
  | _, _, _, .scr (ds := ds) h r, e => by
    rw [toP] at e
    cases q : toPs ds with
    | none => rw [q] at e; cases e
    | some ps => rw [q] at e; cases e; exact .lst h.sq (Drs.dp r q)
  | _, _, _, .dct _ _ _, e => by cases e
  | _, _, _, .set _ _ _ _, e => by cases e
  | _, _, _, .ref _, e => by cases e
  | _, _, _, .glo _, e => by cases e
  | _, _, _, .ty _, e => by cases e
  | _, _, _, .dcl _ _ _, e => by cases e
  | _, _, _, .tpn _ _, e => by cases e
  | _, _, _, .cls _, e => by cases e
  | _, _, _, .exc _ _ _, e => by cases e
  | _, _, _, .exf _ _ _ _ _ _, e => by cases e
theorem Drs.dp : ∀ {vs : List V} {ds : List D} {ps : List PyData}, Drs K L α H vs ds → toPs ds = some ps → DpAll K.K H vs ps
  | _, _, _, .nil, e => by cases e; exact .nil
  | _, _, _, .cons (d := d) (ds := ds) h r, e => by
    rw [toPs] at e
    cases q : toP d with
    | none => rw [q] at e; cases e
    | some p =>
      cases q2 : toPs ds with
      | none => rw [q, q2] at e; cases e
      | some ps => rw [q, q2] at e; cases e; exact .cons (Dr.dp h q) (Drs.dp r q2)
end
end
def eqO (neg : Bool) (a b : D) : Option D :=
  match toP a, toP b with
  | some p, some q => if SeqAt.shaped p && SeqAt.shaped q then some (.bl (if neg then !PyData.eqv p q else PyData.eqv p q)) else none
  | _, _ => none
theorem eqO_eq {neg : Bool} {a b d : D} (h : eqO neg a b = some d) : ∃ p q, toP a = some p ∧ toP b = some q ∧ SeqAt.shaped p = true ∧ SeqAt.shaped q = true ∧ d = .bl (if neg then !PyData.eqv p q else PyData.eqv p q) := by
  unfold eqO at h
  split at h
  · rename_i p q h1 h2
    split at h
    · rename_i hs
      cases h
      obtain ⟨s1, s2⟩ := Bool.and_eq_true_iff.mp hs
      exact ⟨p, q, h1, h2, s1, s2, rfl⟩
    · cases h
  · cases h
section
variable {K : Pm}
theorem opd_eq : OpD K (rEqD K.K) (pur2 (eqO false)) := fun W H x y a b d G' Q gr r1 r2 e p => by
  obtain ⟨e, eg⟩ := pur_eq e
  obtain ⟨u, v, h1, h2, s1, s2, rfl⟩ := eqO_eq e
  exact ⟨u, v, r1.dp h1, r2.dp h2, s1, s2, p W _ H eg.symm Ext.refl gr (.bl _)⟩
theorem opd_ne : OpD K (rNeD K.K) (pur2 (eqO true)) := fun W H x y a b d G' Q gr r1 r2 e p => by
  obtain ⟨e, eg⟩ := pur_eq e
  obtain ⟨u, v, h1, h2, s1, s2, rfl⟩ := eqO_eq e
  exact ⟨u, v, r1.dp h1, r2.dp h2, s1, s2, p W _ H eg.symm Ext.refl gr (.bl _)⟩
end

/-! ### + -/
def addO : D → D → Option D
  | .int i, .int j => some (.int (i + j))
  | .str x, .str y => if x.length + y.length ≤ mx then some (.str (x ++ y)) else none
  | .tup x, .tup y => if x.length + y.length ≤ mx then some (.tup (x ++ y)) else none
  | .lst x, .lst y => if x.length + y.length ≤ mx then some (.lst (x ++ y)) else none
  | _, _ => none
abbrev rAddI : R2 := rI0 fun i j => .int (i + j)
abbrev rAddS : R2 := fun x y H Q => ∃ i j, x = .str i ∧ y = .str j ∧ i.length + j.length ≤ sizeLine ∧ Q (.str (i ++ j)) H
abbrev rAddA (K : PySem.W.Frag) : R2 := fun x y H Q => rAddI x y H Q ∨ (rAddS x y H Q ∨ (rCatA K x y H Q ∨ rCat x y H Q))
theorem op_addA {X : Cx} : OpR X (binaryOp .Add) (rAddA X.K) := op_add.or (op_add_str.or (op_catA.or op_cat))
theorem Drs.app {K : Pm} {L : Addr → Prop} {α : List Addr} {H : Hp} : ∀ {vs ws : List V} {ds es : List D}, Drs K L α H vs ds → Drs K L α H ws es → Drs K L α H (vs ++ ws) (ds ++ es)
  | _, _, _, _, .nil, s => s
  | _, _, _, _, .cons h r, s => .cons h (Drs.app r s)
theorem opd_add {K : Pm} : OpD K (rAddA K.K) (pur2 addO) := fun W H x y a b d G' Q gr r1 r2 e p => by
  obtain ⟨e, eg⟩ := pur_eq e
  unfold addO at e
  split at e
  · cases e; cases r1; cases r2
    exact .inl ⟨_, _, rfl, rfl, p W _ H eg.symm Ext.refl gr (.int _)⟩
  · split at e
    · rename_i z
      cases e; cases r1; cases r2
      exact .inr (.inl ⟨_, _, rfl, rfl, mx_line z, p W _ H eg.symm Ext.refl gr (.str _)⟩)
    · cases e
  · split at e
    · rename_i z
      cases e
      cases r1 with
      | tup h1 q1 =>
        cases r2 with
        | tup h2 q2 =>
          rename_i a1 v1 a2 v2
          refine .inr (.inr (.inl ⟨_, _, v1, v2, rfl, rfl, h1, h2, mx_line (by rw [q1.length, q2.length]; exact z), fun hn => ?_, fun _ hn => ?_, fun _ _ pa n => ?_⟩))
          · subst hn
            cases q1
            exact p W _ H eg.symm Ext.refl gr (.tup h2 q2)
          · subst hn
            cases q2
            rw [List.append_nil] at p
            exact p W _ H eg.symm Ext.refl gr (.tup h1 q1)
          · obtain ⟨g, xx, rv⟩ := tup_new gr (q1.app q2) n
            exact p W _ _ eg.symm xx g rv
    · cases e
  · split at e
    · rename_i z
      cases e
      cases r1 with
      | lst h1 n1 q1 =>
        cases r2 with
        | lst h2 n2 q2 =>
          rename_i a1 v1 a2 v2
          refine .inr (.inr (.inr ⟨_, _, v1, v2, rfl, rfl, h1, h2, mx_line (by rw [q1.length, q2.length]; exact z), fun pa n => ?_⟩))
          obtain ⟨g, xx, rv⟩ := lst_new gr (q1.app q2) n
          exact p W _ _ eg.symm xx g rv
    · cases e
  · cases e

/-! ### - * // % ** and order of ints, of texts -/
section
variable {K : Pm}
def subO := i2 fun i j => .int (i - j)
theorem opd_sub : OpD K (rI0 fun i j => .int (i - j)) (pur2 subO) := opd_i0 fun _ _ => pln_int _
/-- one factor below 2^64 -/
def mulC (i j : Int) : Bool := (decide (-(2 ^ 64) < i) && decide (i < 2 ^ 64)) || (decide (-(2 ^ 64) < j) && decide (j < 2 ^ 64))
def mulO := i2c mulC fun i j => .int (i * j)
theorem opd_mul : OpD K (rI CMul fun i j => .int (i * j)) (pur2 mulO) := opd_ic (fun i j h => by
  rcases Bool.or_eq_true_iff.mp h with h | h
  · obtain ⟨h1, h2⟩ := Bool.and_eq_true_iff.mp h
    exact .inl ⟨of_decide_eq_true h1, of_decide_eq_true h2⟩
  · obtain ⟨h1, h2⟩ := Bool.and_eq_true_iff.mp h
    exact .inr ⟨of_decide_eq_true h1, of_decide_eq_true h2⟩) fun _ _ => pln_int _
def divO := i2c (fun _ j => decide (0 < j) && decide (j < 1073741824)) fun i j => .int (i / j)
theorem opd_div : OpD K (rI CDiv fun i j => .int (i / j)) (pur2 divO) := opd_ic (fun i j h => by
  obtain ⟨h1, h2⟩ := Bool.and_eq_true_iff.mp h
  exact ⟨of_decide_eq_true h1, of_decide_eq_true h2⟩) fun _ _ => pln_int _
def modO := i2c (fun _ j => decide (0 < j)) fun i j => .int (i % j)
theorem opd_mod : OpD K (rI (fun _ j => 0 < j) fun i j => .int (i % j)) (pur2 modO) := opd_ic (fun i j h => of_decide_eq_true h) fun _ _ => pln_int _
def powO := i2c (fun i j => decide (0 ≤ j) && decide (j ≤ 1000) && decide (i.natAbs < 2 ^ 64)) fun i j => .int (i ^ j.toNat)
theorem opd_pow : OpD K (rI CPow fun i j => .int (i ^ j.toNat)) (pur2 powO) := opd_ic (fun i j h => by
  obtain ⟨h, h3⟩ := Bool.and_eq_true_iff.mp h
  obtain ⟨h1, h2⟩ := Bool.and_eq_true_iff.mp h
  have h2 := of_decide_eq_true h2
  exact ⟨of_decide_eq_true h1, by omega, of_decide_eq_true h3⟩) fun _ _ => pln_int _
/-- order: of ints, of texts -/
def ordO (pi : Int → Int → Bool) (ps : List Nat → List Nat → Bool) : D → D → Option D
  | .int i, .int j => some (.bl (pi i j))
  | .str x, .str y => some (.bl (ps x.cps.toList y.cps.toList))
  | _, _ => none
abbrev rOrd (pi : Int → Int → Bool) (ps : List Nat → List Nat → Bool) : R2 := fun x y H Q => (rI0 fun i j => .bl (pi i j)) x y H Q ∨ ∃ i j, x = .str i ∧ y = .str j ∧ Q (.bl (ps i.cps.toList j.cps.toList)) H
theorem opd_ord {pi : Int → Int → Bool} {ps : List Nat → List Nat → Bool} : OpD K (rOrd pi ps) (pur2 (ordO pi ps)) := fun W H x y a b d G' Q gr r1 r2 e p => by
  obtain ⟨e, eg⟩ := pur_eq e
  unfold ordO at e
  split at e
  · cases e; cases r1; cases r2
    exact .inl ⟨_, _, rfl, rfl, p W _ H eg.symm Ext.refl gr (.bl _)⟩
  · cases e; cases r1; cases r2
    exact .inr ⟨_, _, rfl, rfl, p W _ H eg.symm Ext.refl gr (.bl _)⟩
  · cases e
abbrev ltI : Int → Int → Bool := fun i j => decide (i < j)
abbrev ltS : List Nat → List Nat → Bool := fun x y => decide (x < y)
abbrev leI : Int → Int → Bool := fun i j => decide (i ≤ j)
abbrev leS : List Nat → List Nat → Bool := fun x y => !decide (y < x)
abbrev gtI : Int → Int → Bool := fun i j => decide (j < i)
abbrev gtS : List Nat → List Nat → Bool := fun x y => decide (y < x)
abbrev geI : Int → Int → Bool := fun i j => decide (j ≤ i)
abbrev geS : List Nat → List Nat → Bool := fun x y => !decide (x < y)
variable {X : Cx}
theorem op_ltA : OpR X (compareOp .Lt) (rOrd ltI ltS) := op_lt.or op_lt_str
theorem op_leA : OpR X (compareOp .LtE) (rOrd leI leS) := op_le.or op_le_str
theorem op_gtA : OpR X (compareOp .Gt) (rOrd gtI gtS) := op_gt.or op_gt_str
theorem op_geA : OpR X (compareOp .GtE) (rOrd geI geS) := op_ge.or op_ge_str
end
/-! ### in, not in: flat items of a list, a tuple; keys of a dict, of a set -/
def flatD : D → Bool
  | .non => true
  | .bl _ => true
  | .int _ => true
  | .str _ => true
  | _ => false
def eqFl : D → D → Bool
  | .non, .non => true
  | .bl a, .bl b => a == b
  | .bl a, .int b => (if a then 1 else 0) == b
  | .int a, .bl b => a == (if b then 1 else 0)
  | .int a, .int b => a == b
  | .str a, .str b => a == b
  | _, _ => false
def inO (neg : Bool) : D → D → Option D := fun x y => match y with
  | .lst xs => if flatD x && xs.all flatD then some (.bl (if neg then !(xs.any fun z => eqFl z x) else xs.any fun z => eqFl z x)) else none
  | .tup xs => if flatD x && xs.all flatD then some (.bl (if neg then !(xs.any fun z => eqFl z x) else xs.any fun z => eqFl z x)) else none
  | _ => none
section
variable {K : Pm} {L : Addr → Prop} {α : List Addr} {H : Hp}
theorem flat_v {v : V} {d : D} (r : Dr K L α H v d) (f : flatD d = true) : flatV v = true ∧ ∀ {u : V} {e : D}, Dr K L α H u e → flatD e = true → eqV u v = eqFl e d := by
  cases r <;> first
    | (refine ⟨rfl, fun {u e} q g => ?_⟩
       cases q <;> first | rfl | (exfalso; revert g; simp [flatD]))
    | (exfalso; revert f; simp [flatD])
theorem flat_all : ∀ {vs : List V} {ds : List D}, Drs K L α H vs ds → ds.all flatD = true → vs.all flatV = true
  | _, _, .nil, _ => rfl
  | _, _, .cons h r, f => by
    obtain ⟨f1, f2⟩ := Bool.and_eq_true_iff.mp (by rw [List.all_cons] at f; exact f)
    rw [List.all_cons, (flat_v h f1).1, flat_all r f2]; rfl
theorem in_any {v : V} {d : D} (q : Dr K L α H v d) (f : flatD d = true) : ∀ {vs : List V} {ds : List D}, Drs K L α H vs ds → ds.all flatD = true → inV v vs = ds.any fun z => eqFl z d
  | _, _, .nil, _ => rfl
  | _, _, .cons (v := u) (vs := us) h r, g => by
    obtain ⟨g1, g2⟩ := Bool.and_eq_true_iff.mp (by rw [List.all_cons] at g; exact g)
    have ih := in_any q f r g2
    unfold inV at ih ⊢
    rw [List.any_cons, List.any_cons, (flat_v q f).2 h g1, ih]
end
theorem opd_in {K : Pm} {neg : Bool} : OpD K (rIn K.K neg) (pur2 (inO neg)) := fun W H x y a b d G' Q gr r1 r2 e p => by
  obtain ⟨e, eg⟩ := pur_eq e
  unfold inO at e
  split at e
  · split at e
    · rename_i z
      obtain ⟨f1, f2⟩ := Bool.and_eq_true_iff.mp z
      cases e
      cases r2 with
      | lst h n r =>
        refine ⟨_, _, rfl, .inl (SqL.of h), (flat_v r1 f1).1, flat_all r f2, ?_⟩
        rw [in_any r1 f1 r f2]
        exact p W _ H eg.symm Ext.refl gr (.bl _)
    · cases e
  · split at e
    · rename_i z
      obtain ⟨f1, f2⟩ := Bool.and_eq_true_iff.mp z
      cases e
      cases r2 with
      | tup h r =>
        refine ⟨_, _, rfl, .inr h, (flat_v r1 f1).1, flat_all r f2, ?_⟩
        rw [in_any r1 f1 r f2]
        exact p W _ H eg.symm Ext.refl gr (.bl _)
    · cases e
  · cases e

/-! ### items -/
def ixO : D → D → P1 D := fun x y G => match x, y with
  | .lst xs, .int i => pur (atI xs i) G
  | .scr xs, .int i => pur (atI xs i) G
  | .tup xs, .int i => pur (atI xs i) G
  | .str z, .int i => pur (if z.length ≤ mx then (atI z.cps.toList i).map fun c => .str ⟨#[c]⟩ else none) G
  | .ref n, .int i => pur (match G[n]? with | some (.lst xs) => atI xs i | _ => none) G
  | _, _ => none
theorem Drs.at {K : Pm} {L : Addr → Prop} {α : List Addr} {H : Hp} : ∀ {vs : List V} {ds : List D} {j : Nat} {d : D}, Drs K L α H vs ds → ds[j]? = some d → ∃ v, vs[j]? = some v ∧ Dr K L α H v d
  | _, _, _, _, .nil, e => by simp at e
  | _, _, 0, _, .cons h r, e => by simp at e; subst e; exact ⟨_, rfl, h⟩
  | _, _, j + 1, d, .cons h r, e => by
    obtain ⟨v, h1, h2⟩ := Drs.at (j := j) r (by simpa using e)
    exact ⟨v, by simpa using h1, h2⟩
theorem Drs.atI {K : Pm} {L : Addr → Prop} {α : List Addr} {H : Hp} {vs : List V} {ds : List D} {i : Int} {d : D} (r : Drs K L α H vs ds) (e : L2.atI ds i = some d) : ∃ v, L2.atI vs i = some v ∧ Dr K L α H v d := by
  unfold L2.atI at e ⊢
  rw [r.length]
  cases q : ixN ds.length i with
  | none => rw [q] at e; cases e
  | some j => rw [q] at e; exact r.at e
theorem opd_ix {K : Pm} : OpD K (rIx K.K) ixO := fun W H x y a b d G' Q gr r1 r2 e p => by
  unfold ixO at e
  split at e
  · obtain ⟨e, eg⟩ := pur_eq e
    cases r2
    cases r1 with
    | lst h n r =>
      obtain ⟨v, h1, h2⟩ := r.atI e
      exact .inl ⟨_, _, _, _, rfl, rfl, SqL.of h, h1, p W _ H eg.symm Ext.refl gr h2⟩
  · obtain ⟨e, eg⟩ := pur_eq e
    cases r2
    cases r1 with
    | scr h r =>
      obtain ⟨v, h1, h2⟩ := r.atI e
      exact .inl ⟨_, _, _, _, rfl, rfl, h.sq, h1, p W _ H eg.symm Ext.refl gr h2⟩
  · obtain ⟨e, eg⟩ := pur_eq e
    cases r2
    cases r1 with
    | tup h r =>
      obtain ⟨v, h1, h2⟩ := r.atI e
      exact .inr (.inl ⟨_, _, _, _, rfl, rfl, h, h1, p W _ H eg.symm Ext.refl gr h2⟩)
  · obtain ⟨e, eg⟩ := pur_eq e
    cases r2
    cases r1
    split at e
    · rename_i hz
      obtain ⟨c, q, rfl⟩ := Option.map_eq_some_iff.mp e
      exact .inr (.inr ⟨_, _, _, rfl, rfl, mx_line hz, q, p W _ H eg.symm Ext.refl gr (.str _)⟩)
    · cases e
  · obtain ⟨e, eg⟩ := pur_eq e
    split at e
    · rename_i xs hn
      cases r2
      cases r1 with
      | ref ha =>
        obtain ⟨vs, hh, r⟩ := gr.obj _ _ _ ha hn
        obtain ⟨v, h1, h2⟩ := r.atI e
        exact .inl ⟨_, _, _, _, rfl, rfl, SqL.of hh, h1, p W _ H eg.symm Ext.refl gr h2⟩
    · cases e
  · cases e
end Tw

namespace Tw
open PySem PySem.Spec PyProof.Rows L2

/-! ### truth -/
def truD (d : D) (G : List O) : Option Bool := match d with
  | .non => some false
  | .bl b => some b
  | .int i => some (i != 0)
  | .str x => if x.length ≤ mx then some ((x.length : Int) != 0) else none
  | .tup xs => some (!xs.isEmpty)
  | .lst xs => some (!xs.isEmpty)
  | .scr xs => some (!xs.isEmpty)
  | .ref n => match G[n]? with
    | some (.lst xs) => some (!xs.isEmpty)
    | some (.dct kvs) => some (!kvs.isEmpty)
    | _ => none
  | _ => none
def truP (d : D) : P1 Bool := fun G => match truD d G with
  | some b => some (b, G)
  | none => none
theorem truP_eq {d : D} {G G1 : List O} {b : Bool} (h : truP d G = some (b, G1)) : truD d G = some b ∧ G1 = G := by
  unfold truP at h
  split at h
  · cases h; rename_i z; exact ⟨z, rfl⟩
  · cases h
theorem Drs.emp {K : Pm} {L : Addr → Prop} {α : List Addr} {H : Hp} {vs : List V} {ds : List D} (r : Drs K L α H vs ds) : vs.isEmpty = ds.isEmpty := by cases r <;> rfl
theorem Drk.emp {K : Pm} {L : Addr → Prop} {α : List Addr} {H : Hp} {vs : List (Key × V)} {ds : List (Key × D)} (r : Drk K L α H vs ds) : vs.isEmpty = ds.isEmpty := by cases r <;> rfl
theorem truV_of {K : Pm} {W : Wd} {H : Hp} {v : V} {d : D} {b : Bool} (g : Gr K W H) (r : Rv K W H v d) (h : truD d W.G = some b) : TruV K.K v H b := by
  unfold truD at h
  split at h
  · cases h; cases r; rfl
  · cases h; cases r; rfl
  · cases h; cases r; rfl
  · split at h
    · rename_i z; cases h; cases r; exact ⟨mx_line z, rfl⟩
    · cases h
  · cases h; cases r with
    | tup h q => exact .inr (.inl ⟨_, h, by rw [q.emp]⟩)
  · cases h; cases r with
    | lst h n q => exact .inl ⟨_, SqL.of h, by rw [q.emp]⟩
  · cases h; cases r with
    | scr h q => exact .inl ⟨_, h.sq, by rw [q.emp]⟩
  · split at h
    · rename_i hn
      cases h
      cases r with
      | ref ha =>
        obtain ⟨vs, hh, q⟩ := g.obj _ _ _ ha hn
        exact .inl ⟨vs, SqL.of hh, by rw [q.emp]⟩
    · rename_i hn
      cases h
      cases r with
      | ref ha =>
        obtain ⟨vs, hh, q⟩ := g.obj _ _ _ ha hn
        exact .inr (.inr ⟨vs, hh, by rw [q.emp]⟩)
    · cases h
  · cases h

/-! ### tests -/
def blO : D → Option Bool
  | .bl c => some c
  | _ => none
def dTest (a : En → M D) : En → M Bool := fun ρ => bnd (a ρ) fun d => lft (pur (blO d))
def dTru (a : En → M D) : En → M Bool := fun ρ => bnd (a ρ) fun d => lft (truP d)
def dNotT (a : En → M Bool) : En → M Bool := fun ρ => bnd (a ρ) fun c => ret (!c)
def dAndT (a b : En → M Bool) : En → M Bool := fun ρ => bnd (a ρ) fun c => if c = true then b ρ else ret false
def dOrT (a b : En → M Bool) : En → M Bool := fun ρ => bnd (a ρ) fun c => if c = true then ret true else b ρ
theorem blO_eq {d : D} {c : Bool} (h : blO d = some c) : d = .bl c := by
  unfold blO at h
  split at h
  · cases h; rfl
  · cases h
section
variable {X : Cx} {We : WE'} {a b c : Expr} {da db dc : En → M D} {ta tb : En → M Bool} {pos : Pos} {rest : List Expr}
theorem up_test {σ : L2.St} {H : Hp} {Q : Bool → Hp → Prop} (h : upT (Cxp X) We (dTest da) σ H Q) : upE (Cxp X) We da σ H (fun x H1 => ∃ k, x = .bl k ∧ Q k H1) := by
  obtain ⟨W, ρ, r, G', hR, e, p⟩ := h
  refine up_bnd hR e p fun d W1 v H1 x1 R1 r1 e1 p1 => ?_
  obtain ⟨c, e2, p2⟩ := up_lft e1 p1
  obtain ⟨e2, eg⟩ := pur_eq e2
  cases blO_eq e2
  cases r1
  exact ⟨c, rfl, p2 W1 c H1 eg.symm Ext.refl R1.gr rfl⟩
/-- an expression whose value is a bool, as a test -/
theorem tt_val (ha : PE X a (upE (Cxp X) We da)) (he : ∀ whole, isTrue a X.env whole = (do let v ← whole; standAt a.pos; holding [v] (truthy v)) := by intro _; rfl) : PT X a (upT (Cxp X) We (dTest da)) :=
  PT.imp (pt_val ha he) fun σ H Q h => up_test h
theorem tt_cmp {op : CmpOp} {r : R2} {f : D → D → P1 D} (ho : OpR X (compareOp op) r) (hd : OpD (Cxp X) r f) (ha : PE X a (upE (Cxp X) We da)) (hb : PE X b (upE (Cxp X) We db)) (hm : behindInMarks op b = false) :
    PT X (.Compare a [op] [b] pos) (upT (Cxp X) We (dTest (d2 f da db))) := PT.imp (pt_cmpR ho ha hb hm) fun σ H Q h => op_up hd (up_test h)
theorem tt_tru (ha : PE X a (upE (Cxp X) We da)) (he : ∀ whole, isTrue a X.env whole = (do let v ← whole; standAt a.pos; holding [v] (truthy v)) := by intro _; rfl) : PT X a (upT (Cxp X) We (dTru da)) :=
  PT.imp (pt_truth ha he) fun σ H Q h => by
    obtain ⟨W, ρ, r, G', hR, e, p⟩ := h
    refine up_bnd hR e p fun d W1 v H1 x1 R1 r1 e1 p1 => ?_
    obtain ⟨c, e2, p2⟩ := up_lft e1 p1
    obtain ⟨e2, eg⟩ := truP_eq e2
    exact ⟨c, truV_of R1.gr r1 e2, p2 W1 c H1 eg.symm Ext.refl R1.gr rfl⟩
theorem tt_not (ha : PT X a (upT (Cxp X) We ta)) : PT X (.UnaryOp .Not a pos) (upT (Cxp X) We (dNotT ta)) := PT.imp (pt_not ha) fun σ H Q h => by
  obtain ⟨W, ρ, r, G', hR, e, p⟩ := h
  refine up_bnd hR e p fun d W1 v H1 x1 R1 r1 e1 p1 => ?_
  cases r1
  exact up_ret e1 p1 W1 _ H1 rfl Ext.refl R1.gr rfl
theorem tw_and1 (ha : PT X a (upT (Cxp X) We ta)) : PW X (.BoolOp .And [a] pos) (upT (Cxp X) We ta) := pw_and1 ha
theorem tw_or1 (ha : PT X a (upT (Cxp X) We ta)) : PW X (.BoolOp .Or [a] pos) (upT (Cxp X) We ta) := pw_or1 ha
theorem tw_and (ha : PT X a (upT (Cxp X) We ta)) (hb : PW X (.BoolOp .And (b :: rest) pos) (upT (Cxp X) We tb)) : PW X (.BoolOp .And (a :: b :: rest) pos) (upT (Cxp X) We (dAndT ta tb)) := PW.imp (pw_and ha hb) fun σ H Q h => by
  obtain ⟨W, ρ, r, G', hR, e, p⟩ := h
  refine up_bnd hR e p fun d W1 v H1 x1 R1 r1 e1 p1 => ?_
  cases r1
  cases d with
  | true => exact ⟨W1, ρ, r, G', R1, e1, p1⟩
  | false => exact up_ret e1 p1 W1 _ H1 rfl Ext.refl R1.gr rfl
theorem tw_or (ha : PT X a (upT (Cxp X) We ta)) (hb : PW X (.BoolOp .Or (b :: rest) pos) (upT (Cxp X) We tb)) : PW X (.BoolOp .Or (a :: b :: rest) pos) (upT (Cxp X) We (dOrT ta tb)) := PW.imp (pw_or ha hb) fun σ H Q h => by
  obtain ⟨W, ρ, r, G', hR, e, p⟩ := h
  refine up_bnd hR e p fun d W1 v H1 x1 R1 r1 e1 p1 => ?_
  cases r1
  cases d with
  | false => exact ⟨W1, ρ, r, G', R1, e1, p1⟩
  | true => exact up_ret e1 p1 W1 _ H1 rfl Ext.refl R1.gr rfl
/-! as values -/
def dAnd (a b : En → M D) : En → M D := fun ρ => bnd (a ρ) fun d => bnd (lft (truP d)) fun c => if c = true then b ρ else ret d
def dOr (a b : En → M D) : En → M D := fun ρ => bnd (a ρ) fun d => bnd (lft (truP d)) fun c => if c = true then ret d else b ρ
theorem bnd_tru {A B : Type} {R : Wd → Hp → B → A → Prop} {K : Pm} {W : Wd} {H : Hp} {σ : L2.St} {d : D} {k : Bool → M A} {r : Sum Er A} {G' : List O} {Q : B → Hp → Prop} (e : bnd (lft (truP d)) k W.G = some (r, G')) : ∃ c, truD d W.G = some c ∧ k c W.G = some (r, G') := by
  unfold bnd lft truP at e
  cases q : truD d W.G with
  | none => rw [q] at e; cases e
  | some c => rw [q] at e; exact ⟨c, rfl, e⟩
theorem te_one {op} (h : PE X a (upE (Cxp X) We da)) : PE X (.BoolOp op [a] pos) (upE (Cxp X) We da) := pe_one h
theorem te_and (ha : PE X a (upE (Cxp X) We da)) (hb : PE X (.BoolOp .And (b :: rest) pos) (upE (Cxp X) We db)) : PE X (.BoolOp .And (a :: b :: rest) pos) (upE (Cxp X) We (dAnd da db)) := PE.imp (pe_andT ha hb) fun σ H Q h => by
  obtain ⟨W, ρ, r, G', hR, e, p⟩ := h
  refine up_bnd hR e p fun d W1 v H1 x1 R1 r1 e1 p1 => ?_
  obtain ⟨c, ec, e2⟩ := bnd_tru (A := D) (B := V) (R := Rv (Cxp X)) (K := Cxp X) (H := H1) (σ := σ) (Q := Q) e1
  refine ⟨c, truV_of R1.gr r1 ec, ?_⟩
  cases c with
  | true => exact iteT ⟨W1, ρ, r, G', R1, e2, p1⟩
  | false => exact iteF (up_ret e2 p1 W1 _ H1 rfl Ext.refl R1.gr r1)
theorem te_or (ha : PE X a (upE (Cxp X) We da)) (hb : PE X (.BoolOp .Or (b :: rest) pos) (upE (Cxp X) We db)) : PE X (.BoolOp .Or (a :: b :: rest) pos) (upE (Cxp X) We (dOr da db)) := PE.imp (pe_orT ha hb) fun σ H Q h => by
  obtain ⟨W, ρ, r, G', hR, e, p⟩ := h
  refine up_bnd hR e p fun d W1 v H1 x1 R1 r1 e1 p1 => ?_
  obtain ⟨c, ec, e2⟩ := bnd_tru (A := D) (B := V) (R := Rv (Cxp X)) (K := Cxp X) (H := H1) (σ := σ) (Q := Q) e1
  refine ⟨c, truV_of R1.gr r1 ec, ?_⟩
  cases c with
  | false => exact iteF ⟨W1, ρ, r, G', R1, e2, p1⟩
  | true => exact iteT (up_ret e2 p1 W1 _ H1 rfl Ext.refl R1.gr r1)
def dNot (a : En → M D) : En → M D := fun ρ => bnd (a ρ) fun d => bnd (lft (truP d)) fun c => ret (.bl (!c))
theorem te_not (ha : PE X a (upE (Cxp X) We da)) : PE X (.UnaryOp .Not a pos) (upE (Cxp X) We (dNot da)) := PE.imp (pe_notT ha) fun σ H Q h => by
  obtain ⟨W, ρ, r, G', hR, e, p⟩ := h
  refine up_bnd hR e p fun d W1 v H1 x1 R1 r1 e1 p1 => ?_
  obtain ⟨c, ec, e2⟩ := bnd_tru (A := D) (B := V) (R := Rv (Cxp X)) (K := Cxp X) (H := H1) (σ := σ) (Q := Q) e1
  exact ⟨c, truV_of R1.gr r1 ec, up_ret e2 p1 W1 _ H1 rfl Ext.refl R1.gr (.bl _)⟩
def dIf (t : En → M Bool) (a b : En → M D) : En → M D := fun ρ => bnd (t ρ) fun c => if c = true then a ρ else b ρ
theorem te_if (hc : PT X c (upT (Cxp X) We ta)) (ha : PE X a (upE (Cxp X) We da)) (hb : PE X b (upE (Cxp X) We db)) : PE X (.IfExp c a b pos) (upE (Cxp X) We (dIf ta da db)) := PE.imp (pe_ifExp hc ha hb) fun σ H Q h => by
  obtain ⟨W, ρ, r, G', hR, e, p⟩ := h
  refine up_bnd hR e p fun d W1 v H1 x1 R1 r1 e1 p1 => ?_
  cases r1
  cases d with
  | true => exact iteT ⟨W1, ρ, r, G', R1, e1, p1⟩
  | false => exact iteF ⟨W1, ρ, r, G', R1, e1, p1⟩
/-! is None -/
def isNO (neg : Bool) : D → D → Option D := fun x y => match y with
  | .non => some (.bl (match x with | .non => !neg | _ => neg))
  | _ => none
theorem opd_isN {K : Pm} : OpD K (fun x y H Q => y = .non ∧ Q (.bl (decide (x = .non))) H) (pur2 (isNO false)) := fun W H x y a b d G' Q gr r1 r2 e p => by
  obtain ⟨e, eg⟩ := pur_eq e
  unfold isNO at e
  split at e
  · cases e
    cases r2
    refine ⟨rfl, p W _ H eg.symm Ext.refl gr ?_⟩
    cases r1 <;> exact .bl _
  · cases e
theorem opd_notN {K : Pm} : OpD K (fun x y H Q => y = .non ∧ Q (.bl (!decide (x = .non))) H) (pur2 (isNO true)) := fun W H x y a b d G' Q gr r1 r2 e p => by
  obtain ⟨e, eg⟩ := pur_eq e
  unfold isNO at e
  split at e
  · cases e
    cases r2
    refine ⟨rfl, p W _ H eg.symm Ext.refl gr ?_⟩
    cases r1 <;> exact .bl _
  · cases e
/-! a op1 b op2 c -/
def dChain (f f' : D → D → P1 D) (a b c : En → M D) : En → M D := fun ρ => bnd (a ρ) fun x => bnd (b ρ) fun y => bnd (lft (f x y)) fun z => bnd (lft (pur (blO z))) fun k => if k = true then bnd (c ρ) fun w => lft (f' y w) else ret (.bl false)
theorem bnd_lft {A B : Type} {f : P1 A} {k : A → M B} {G G' : List O} {r : Sum Er B} (e : bnd (lft f) k G = some (r, G')) : ∃ a G1, f G = some (a, G1) ∧ k a G1 = some (r, G') := by
  unfold bnd lft at e
  cases q : f G with
  | none => rw [q] at e; cases e
  | some p => obtain ⟨a, G1⟩ := p; rw [q] at e; exact ⟨a, G1, rfl, e⟩
theorem chain_up {r1 r2 : R2} {f f' : D → D → P1 D} (h1 : OpD (Cxp X) r1 f) (h2 : OpD (Cxp X) r2 f') {σ : L2.St} {H : Hp} {Q : VK} (h : upE (Cxp X) We (dChain f f' da db dc) σ H Q) : tChain r1 r2 (upE (Cxp X) We da) (upE (Cxp X) We db) (upE (Cxp X) We dc) σ H Q := by
  obtain ⟨W, ρ, r, G', hR, e, p⟩ := h
  refine up_bnd hR e p fun d W1 v H1 x1 R1 q1 e1 p1 => ?_
  refine up_bnd R1 e1 p1 fun d' W2 v' H2 x2 R2 q2 e2 p2 => ?_
  obtain ⟨z, G3, ez, e3⟩ := bnd_lft e2
  obtain ⟨k, G4, ek, e4⟩ := bnd_lft e3
  obtain ⟨ek, eg⟩ := pur_eq ek
  cases blO_eq ek
  subst eg
  refine h1 W2 H2 v v' d d' (.bl k) _ _ R2.gr (q1.keep R1.gr x2) q2 ez fun W5 v5 H5 eg5 x5 g5 r5 => ?_
  cases r5
  have R5 := R2.keep g5 x5
  refine ⟨k, rfl, ?_⟩
  rw [← eg5] at e4
  cases k with
  | true =>
    refine iteT (up_bnd R5 e4 (p2.mono x5) fun d6 W6 v6 H6 x6 R6 q6 e6 p6 => ?_)
    obtain ⟨d7, e7, p7⟩ := up_lft e6 p6
    exact h2 W6 H6 v' v6 d' d6 d7 G' Q R6.gr ((q2.keep R2.gr x5).keep R5.gr x6) q6 e7 p7
  | false => exact iteF (up_ret e4 (p2.mono x5) W5 _ H5 rfl Ext.refl g5 (.bl _))
theorem te_chain {op op' : CmpOp} {r1 r2 : R2} {f f' : D → D → P1 D} (ho : OpR X (compareOp op) r1) (ho' : OpR X (compareOp op') r2) (h1 : OpD (Cxp X) r1 f) (h2 : OpD (Cxp X) r2 f') (ha : PE X a (upE (Cxp X) We da)) (hb : PE X b (upE (Cxp X) We db)) (hc : PE X c (upE (Cxp X) We dc))
    (hm : lastMarks [op, op'] [b, c] = false := by with_unfolding_all rfl) : PE X (.Compare a [op, op'] [b, c] pos) (upE (Cxp X) We (dChain f f' da db dc)) := PE.imp (pe_chain ho ho' ha hb hc hm) fun σ H Q h => chain_up h1 h2 h
theorem tt_chain {op op' : CmpOp} {r1 r2 : R2} {f f' : D → D → P1 D} (ho : OpR X (compareOp op) r1) (ho' : OpR X (compareOp op') r2) (h1 : OpD (Cxp X) r1 f) (h2 : OpD (Cxp X) r2 f') (ha : PE X a (upE (Cxp X) We da)) (hb : PE X b (upE (Cxp X) We db)) (hc : PE X c (upE (Cxp X) We dc))
    (hm : lastMarks [op, op'] [b, c] = false := by with_unfolding_all rfl) : PT X (.Compare a [op, op'] [b, c] pos) (upT (Cxp X) We (dTest (dChain f f' da db dc))) := PT.imp (pt_chain ho ho' ha hb hc hm) fun σ H Q h => chain_up h1 h2 (up_test h)
end

/-! ### slices -/
def cutD (xs : List D) (lo hi : Option Int) : List D := (xs.drop (HT.sIx xs.length 0 lo)).take (HT.sIx xs.length xs.length hi - HT.sIx xs.length 0 lo)
def intO : D → Option Int
  | .int i => some i
  | _ => none
def dNoP : En → M (Option Int) := fun _ => ret none
def dP (a : En → M D) : En → M (Option Int) := fun ρ => bnd (a ρ) fun d => bnd (lft (pur (intO d))) fun i => ret (some i)
def slO (d : D) (lo hi : Option Int) (G : List O) : Option D := match d with
  | .tup xs => some (.tup (cutD xs lo hi))
  | .lst xs => some (.lst (cutD xs lo hi))
  | .scr xs => some (.lst (cutD xs lo hi))
  | .ref n => match G[n]? with
    | some (.lst xs) => some (.lst (cutD xs lo hi))
    | _ => none
  | _ => none
def slP (d : D) (lo hi : Option Int) : P1 D := fun G => match slO d lo hi G with
  | some a => some (a, G)
  | none => none
def dSl (a : En → M D) (lo hi : En → M (Option Int)) : En → M D := fun ρ => bnd (a ρ) fun d => bnd (lo ρ) fun l => bnd (hi ρ) fun h => lft (slP d l h)
abbrev Ro (W : Wd) (H : Hp) (a b : Option Int) : Prop := a = b
abbrev upO (K : Pm) (We : WE') (de : En → M (Option Int)) : TO := up K We Ro de
theorem Drs.drop {K : Pm} {L : Addr → Prop} {α : List Addr} {H : Hp} : ∀ {vs : List V} {ds : List D} (n : Nat), Drs K L α H vs ds → Drs K L α H (vs.drop n) (ds.drop n)
  | _, _, 0, r => r
  | _, _, _ + 1, .nil => .nil
  | _, _, n + 1, .cons _ t => Drs.drop n t
theorem Drs.take {K : Pm} {L : Addr → Prop} {α : List Addr} {H : Hp} : ∀ {vs : List V} {ds : List D} (n : Nat), Drs K L α H vs ds → Drs K L α H (vs.take n) (ds.take n)
  | _, _, 0, _ => .nil
  | _, _, _ + 1, .nil => .nil
  | _, _, n + 1, .cons r t => .cons r (Drs.take n t)
theorem Drs.cut {K : Pm} {L : Addr → Prop} {α : List Addr} {H : Hp} {vs : List V} {ds : List D} (r : Drs K L α H vs ds) (lo hi : Option Int) : Drs K L α H (cutV vs lo hi) (cutD ds lo hi) := by
  unfold cutV cutD
  rw [r.length]
  exact (r.drop _).take _
theorem cut_whole {xs : List D} {lo hi : Option Int} (h : HT.sIx xs.length 0 lo = 0 ∧ HT.sIx xs.length xs.length hi = xs.length) : cutD xs lo hi = xs := by
  unfold cutD
  rw [h.1, h.2]
  simp
section
variable {X : Cx} {We : WE'} {a : Expr} {lo hi : Option Expr} {da : En → M D} {dl dh : En → M (Option Int)} {pos p2 : Pos}
theorem to_none : PO X none (upO (Cxp X) We dNoP) := ⟨fun pins s σ H Q I h => po_none.run pins s σ H Q I (by
  obtain ⟨W, ρ, r, G', hR, e, p⟩ := h
  exact up_ret e p W none H rfl Ext.refl hR.gr rfl)⟩
theorem to_some (ha : PE X a (upE (Cxp X) We da)) : PO X (some a) (upO (Cxp X) We (dP da)) := ⟨fun pins s σ H Q I h => (po_some ha).run pins s σ H Q I (by
  obtain ⟨W, ρ, r, G', hR, e, p⟩ := h
  refine up_bnd hR e p fun d W1 v H1 x1 R1 r1 e1 p1 => ?_
  obtain ⟨i, G3, ei, e3⟩ := bnd_lft e1
  obtain ⟨ei, eg⟩ := pur_eq ei
  subst eg
  unfold intO at ei
  split at ei
  · cases ei
    cases r1
    exact ⟨_, rfl, up_ret e3 p1 W1 _ H1 rfl Ext.refl R1.gr rfl⟩
  · cases ei)⟩
abbrev rSl (K : PySem.W.Frag) : V → Option Int → Option Int → Hp → VK → Prop := fun x lo hi H Q => rSlA K x lo hi H Q ∨ rSlL K x lo hi H Q
theorem sl_A : SlR X (rSl X.K) := sl_tupA.or sl_list
theorem te_sl (ha : PE X a (upE (Cxp X) We da)) (hl : PO X lo (upO (Cxp X) We dl)) (hh : PO X hi (upO (Cxp X) We dh)) : PE X (.Subscript a (.Slice lo hi none p2) pos) (upE (Cxp X) We (dSl da dl dh)) := PE.imp (pe_slice sl_A ha hl hh) fun σ H Q h => by
  obtain ⟨W, ρ, r, G', hR, e, p⟩ := h
  refine up_bnd hR e p fun d W1 v H1 x1 R1 r1 e1 p1 => ?_
  refine up_bnd R1 e1 p1 fun l W2 l' H2 x2 R2 r2 e2 p2 => ?_
  cases r2
  refine up_bnd R2 e2 p2 fun u W3 u' H3 x3 R3 r3 e3 p3 => ?_
  cases r3
  obtain ⟨c, e4, p4⟩ := up_lft e3 p3
  have rv := (r1.keep R1.gr x2).keep R2.gr x3
  unfold slP at e4
  split at e4
  · rename_i c' hc
    cases e4
    unfold slO at hc
    split at hc
    · cases hc
      cases rv with
      | tup h q =>
        rename_i vs
        refine .inl ⟨_, vs, rfl, h, fun hw => ?_, fun hw pa n => ?_⟩
        · refine p4 W3 _ H3 rfl Ext.refl R3.gr ?_
          rw [q.length] at hw
          rw [cut_whole hw]
          exact .tup h q
        · obtain ⟨g, xx, rr⟩ := tup_new R3.gr (q.cut l u) n
          exact p4 W3 _ _ rfl xx g rr
    · cases hc
      cases rv with
      | lst h nl q =>
        refine .inr ⟨_, _, rfl, SqL.of h, fun pa n => ?_⟩
        obtain ⟨g, xx, rr⟩ := lst_new R3.gr (q.cut l u) n
        exact p4 W3 _ _ rfl xx g rr
    · cases hc
      cases rv with
      | scr h q =>
        refine .inr ⟨_, _, rfl, h.sq, fun pa n => ?_⟩
        obtain ⟨g, xx, rr⟩ := lst_new R3.gr (q.cut l u) n
        exact p4 W3 _ _ rfl xx g rr
    · split at hc
      · rename_i hn
        cases hc
        cases rv with
        | ref hα =>
          obtain ⟨vs, hh, q⟩ := R3.gr.obj _ _ _ hα hn
          refine .inr ⟨_, vs, rfl, SqL.of hh, fun pa n => ?_⟩
          obtain ⟨g, xx, rr⟩ := lst_new R3.gr (q.cut l u) n
          exact p4 W3 _ _ rfl xx g rr
      · cases hc
    · cases hc
  · cases e4
end
end Tw

namespace Tw
open PySem PySem.Spec PyProof.Rows L2

/-! ### statements -/
inductive Out where
  | nx (ρ : En) | rt (d : D) | bk (ρ : En) | ct (ρ : En)
def PostS (K : Pm) (We : WE') (W : Wd) (H : Hp) (r : Sum Er Out) (G' : List O) (D0 : Ends) : Prop := match r with
  | .inr (.nx ρ) => ∀ (W' : Wd) (σ' : L2.St) (H' : Hp), W'.G = G' → Ext W H W' H' → Rs K W' ρ σ' H' → D0.nx σ' H'
  | .inr (.rt d) => ∀ (W' : Wd) (v : V) (H' : Hp), W'.G = G' → Ext W H W' H' → Gr K W' H' → Rv K W' H' v d → D0.rt v H'
  | .inr (.bk ρ) => ∀ (W' : Wd) (σ' : L2.St) (H' : Hp), W'.G = G' → Ext W H W' H' → Rs K W' ρ σ' H' → D0.bk σ' H'
  | .inr (.ct ρ) => ∀ (W' : Wd) (σ' : L2.St) (H' : Hp), W'.G = G' → Ext W H W' H' → Rs K W' ρ σ' H' → D0.ct σ' H'
  | .inl e => ∀ (W' : Wd) (σ' : L2.St) (H' : Hp), W'.G = G' → Ext W H W' H' → Gr K W' H' → We e W' σ' H'
def ups (K : Pm) (We : WE') (ds : En → M Out) : TS := fun D0 σ H => ∃ (W : Wd) (ρ : En) (r : Sum Er Out) (G' : List O), Rs K W ρ σ H ∧ ds ρ W.G = some (r, G') ∧ PostS K We W H r G' D0
theorem PostS.mono {K : Pm} {We : WE'} {W W1 : Wd} {H H1 : Hp} {r : Sum Er Out} {G' : List O} {D0 : Ends} (p : PostS K We W H r G' D0) (x : Ext W H W1 H1) : PostS K We W1 H1 r G' D0 := by
  match r with
  | .inr (.nx ρ) => exact fun W' σ' H' e x' g => p W' σ' H' e (x.trans x') g
  | .inr (.rt d) => exact fun W' v H' e x' g q => p W' v H' e (x.trans x') g q
  | .inr (.bk ρ) => exact fun W' σ' H' e x' g => p W' σ' H' e (x.trans x') g
  | .inr (.ct ρ) => exact fun W' σ' H' e x' g => p W' σ' H' e (x.trans x') g
  | .inl e => exact fun W' σ' H' e x' g => p W' σ' H' e (x.trans x') g
/-- an expression first, then what the statement does -/
theorem ups_bnd {A B : Type} {K : Pm} {We : WE'} {R : Wd → Hp → B → A → Prop} {W : Wd} {H : Hp} {σ : L2.St} {ρ : En} {G' : List O} {da : En → M A} {k : A → M Out} {r : Sum Er Out} {D0 : Ends} {T : B → Hp → Prop}
    (hR : Rs K W ρ σ H) (e : bnd (da ρ) k W.G = some (r, G')) (p : PostS K We W H r G' D0)
    (h : ∀ (d : A) (W1 : Wd) (v : B) (H1 : Hp), Ext W H W1 H1 → Rs K W1 ρ σ H1 → R W1 H1 v d → k d W1.G = some (r, G') → PostS K We W1 H1 r G' D0 → T v H1) : up K We R da σ H T := by
  unfold bnd at e
  split at e
  · rename_i a G1 he
    exact ⟨W, ρ, .inr a, G1, hR, he, fun W' v H' eg x g q => h a W' v H' x (hR.keep g x) q (by rw [eg]; exact e) (p.mono x)⟩
  · rename_i er G1 he
    cases e
    exact ⟨W, ρ, .inl er, _, hR, he, fun W' H' eg x g => p W' σ H' eg x g⟩
  · cases e
def dNext : En → M Out := fun ρ => ret (.nx ρ)
def dSeq (a b : En → M Out) : En → M Out := fun ρ => bnd (a ρ) fun o => match o with
  | .nx ρ' => b ρ'
  | o => ret o
def dIfS (t : En → M Bool) (a b : En → M Out) : En → M Out := fun ρ => bnd (t ρ) fun c => if c = true then a ρ else b ρ
def dRet (a : En → M D) : En → M Out := fun ρ => bnd (a ρ) fun d => ret (.rt d)
def dRetN : En → M Out := fun _ => ret (.rt .non)
def dExpr (a : En → M D) : En → M Out := fun ρ => bnd (a ρ) fun _ => ret (.nx ρ)
def dBrk : En → M Out := fun ρ => ret (.bk ρ)
def dCnt : En → M Out := fun ρ => ret (.ct ρ)
section
variable {X : Cx} {We : WE'} {st : Stmt} {sts sts' : List Stmt} {e : Expr} {da : En → M D} {ta : En → M Bool} {s1 s2 : En → M Out} {pos : Pos}
theorem nx_end {K : Pm} {W : Wd} {H : Hp} {ρ : En} {σ : L2.St} {r : Sum Er Out} {G' : List O} {D0 : Ends} (e : ret (Out.nx ρ) W.G = some (r, G')) (p : PostS K We W H r G' D0) {W' : Wd} {H' : Hp} (eg : W'.G = W.G) (x : Ext W H W' H') (hR : Rs K W' ρ σ H') : D0.nx σ H' := by
  cases e
  exact p W' σ H' eg x hR
theorem ts_nil : PSs X [] (ups (Cxp X) We dNext) := PSs.imp pss_nil fun D0 σ H h => by
  obtain ⟨W, ρ, r, G', hR, e, p⟩ := h
  exact nx_end e p rfl Ext.refl hR
theorem seq_up {D0 : Ends} {σ : L2.St} {H : Hp} (h : ups (Cxp X) We (dSeq s1 s2) D0 σ H) : tSeq (ups (Cxp X) We s1) (ups (Cxp X) We s2) D0 σ H := by
  obtain ⟨W, ρ, r, G', hR, e, p⟩ := h
  unfold dSeq bnd at e
  split at e
  · rename_i a G1 he
    cases a with
    | nx ρ' => exact ⟨W, ρ, .inr (.nx ρ'), G1, hR, he, fun W' σ' H' eg x R' => ⟨W', ρ', r, G', R', by rw [eg]; exact e, p.mono x⟩⟩
    | rt d => cases e; exact ⟨W, ρ, .inr (.rt d), _, hR, he, p⟩
    | bk ρ' => cases e; exact ⟨W, ρ, .inr (.bk ρ'), _, hR, he, p⟩
    | ct ρ' => cases e; exact ⟨W, ρ, .inr (.ct ρ'), _, hR, he, p⟩
  · rename_i er G1 he
    cases e
    exact ⟨W, ρ, .inl er, _, hR, he, p⟩
  · cases e
theorem ts_cons (h1 : PS X st (ups (Cxp X) We s1)) (h2 : PSs X sts (ups (Cxp X) We s2)) : PSs X (st :: sts) (ups (Cxp X) We (dSeq s1 s2)) := PSs.imp (pss_cons h1 h2) fun _ _ _ h => seq_up h
theorem ts_one (h1 : PS X st (ups (Cxp X) We s1)) : PSs X [st] (ups (Cxp X) We s1) := pss_one h1
theorem tS_if {c : Expr} (hc : PT X c (upT (Cxp X) We ta)) (ha : PSs X sts (ups (Cxp X) We s1)) (hb : PSs X sts' (ups (Cxp X) We s2)) : PS X (.If c sts sts' pos) (ups (Cxp X) We (dIfS ta s1 s2)) := PS.imp (ps_if hc ha hb) fun D0 σ H h => by
  obtain ⟨W, ρ, r, G', hR, e, p⟩ := h
  refine ups_bnd hR e p fun d W1 v H1 x1 R1 r1 e1 p1 => ?_
  cases r1
  cases d with
  | true => exact iteT ⟨W1, ρ, r, G', R1, e1, p1⟩
  | false => exact iteF ⟨W1, ρ, r, G', R1, e1, p1⟩
theorem tS_ret (he : PE X e (upE (Cxp X) We da)) : PS X (.Return (some e) pos) (ups (Cxp X) We (dRet da)) := PS.imp (ps_ret he) fun D0 σ H h => by
  obtain ⟨W, ρ, r, G', hR, e, p⟩ := h
  refine ups_bnd hR e p fun d W1 v H1 x1 R1 r1 e1 p1 => ?_
  cases e1
  exact p1 W1 v H1 rfl Ext.refl R1.gr r1
theorem tS_retN : PS X (.Return none pos) (ups (Cxp X) We dRetN) := PS.imp ps_retN fun D0 σ H h => by
  obtain ⟨W, ρ, r, G', hR, e, p⟩ := h
  cases e
  exact p W .non H rfl Ext.refl hR.gr .non
theorem tS_expr (he : PE X e (upE (Cxp X) We da)) (hs : swapsWith e none pos.line X.env = pure false := by rfl) : PS X (.Expr e pos) (ups (Cxp X) We (dExpr da)) := PS.imp (ps_expr he hs) fun D0 σ H h => by
  obtain ⟨W, ρ, r, G', hR, e, p⟩ := h
  refine ups_bnd hR e p fun d W1 v H1 x1 R1 r1 e1 p1 => ?_
  exact nx_end e1 p1 rfl Ext.refl R1
theorem tS_pass : PS X (.Pass pos) (ups (Cxp X) We dNext) := PS.imp ps_pass fun D0 σ H h => by
  obtain ⟨W, ρ, r, G', hR, e, p⟩ := h
  exact nx_end e p rfl Ext.refl hR
theorem tS_brk : PS X (.Break pos) (ups (Cxp X) We dBrk) := PS.imp ps_break fun D0 σ H h => by
  obtain ⟨W, ρ, r, G', hR, e, p⟩ := h
  cases e
  exact p W σ H rfl Ext.refl hR
theorem tS_cnt : PS X (.Continue pos) (ups (Cxp X) We dCnt) := PS.imp ps_continue fun D0 σ H h => by
  obtain ⟨W, ρ, r, G', hR, e, p⟩ := h
  cases e
  exact p W σ H rfl Ext.refl hR
end

/-! ### targets -/
def upG (K : Pm) (dg : D → En → P1 En) : TG := fun v σ H Q => ∃ (W : Wd) (ρ : En) (d : D) (ρ' : En) (G' : List O), Rs K W ρ σ H ∧ Rv K W H v d ∧ dg d ρ W.G = some (ρ', G') ∧ ∀ (W' : Wd) (σ' : L2.St) (H' : Hp), W'.G = G' → Ext W H W' H' → Rs K W' ρ' σ' H' → Q σ' H'
def upGs (K : Pm) (dg : List D → En → P1 En) : TGs := fun vs σ H Q => ∃ (W : Wd) (ρ : En) (ds : List D) (ρ' : En) (G' : List O), Rs K W ρ σ H ∧ Rvs K W H vs ds ∧ dg ds ρ W.G = some (ρ', G') ∧ ∀ (W' : Wd) (σ' : L2.St) (H' : Hp), W'.G = G' → Ext W H W' H' → Rs K W' ρ' σ' H' → Q σ' H'
def gN (i : Nat) : D → En → P1 En := fun d ρ G => some (ρ.set i (some d), G)
def gsNil : List D → En → P1 En := fun ds ρ G => match ds with
  | [] => some (ρ, G)
  | _ => none
def gsCons (a : D → En → P1 En) (b : List D → En → P1 En) : List D → En → P1 En := fun ds ρ G => match ds with
  | [] => none
  | d :: r => match a d ρ G with
    | some (ρ1, G1) => b r ρ1 G1
    | none => none
def gT (n : Nat) (b : List D → En → P1 En) : D → En → P1 En := fun d ρ G => match d with
  | .tup xs => if xs.length = n then b xs ρ G else none
  | _ => none
theorem Rs.set {K : Pm} {W : Wd} {ρ : En} {σ : L2.St} {H : Hp} {v : V} {d : D} (r : Rs K W ρ σ H) (q : Rv K W H v d) (i : Nat) : Rs K W (ρ.set i (some d)) (σ.set i (some v)) H := by
  refine ⟨r.gr, by simp [r.len], fun j d' e => ?_⟩
  by_cases h : i = j
  · subst h
    by_cases hi : i < ρ.length
    · rw [List.getElem?_set_self hi] at e
      cases e
      exact ⟨v, List.getElem?_set_self (by rw [← r.len]; exact hi), q⟩
    · rw [List.getElem?_eq_none_iff.mpr (by simpa using Nat.le_of_not_lt hi)] at e
      cases e
  · rw [List.getElem?_set_ne h] at e ⊢
    exact r.var j d' e
section
variable {X : Cx} {We : WE'} {pos : Pos} {t : Expr} {ts : List Expr} {ga : D → En → P1 En} {gb : List D → En → P1 En} {e : Expr} {da : En → M D}
theorem PG.imp {t t' : TG} {tg : Expr} (h : PG X tg t) (i : ∀ v σ H Q, t' v σ H Q → t v σ H Q) : PG X tg t' := ⟨fun pins s σ H v u Q I r q => h.run pins s σ H v u Q I r (i v σ H Q q)⟩
theorem PGs.imp {t t' : TGs} {tg : List Expr} (h : PGs X tg t) (i : ∀ v σ H Q, t' v σ H Q → t v σ H Q) : PGs X tg t' := ⟨fun pins s σ H v u Q I r q => h.run pins s σ H v u Q I r (i v σ H Q q)⟩
theorem tg_n {i : Nat} {x : Str} (hN : X.N.Nodup) (hi : X.N[i]? = some x := by rfl) (hx : Loc X.env.scope x := by first | exact Or.inl rfl | exact Or.inr rfl) (hf : X.fn x = true ∨ X.env.scope.names.lookup x = some .local := by first | exact .inl rfl | exact .inr rfl | assumption) :
    PG X (.Name x pos) (upG (Cxp X) (gN i)) := PG.imp (pg_name (i := i) hN hi hx hf) fun v σ H Q h => by
  obtain ⟨W, ρ, d, ρ', G', hR, rv, e, p⟩ := h
  cases e
  exact p W _ H rfl Ext.refl (hR.set rv i)
theorem tgs_nil : PGs X [] (upGs (Cxp X) gsNil) := PGs.imp pgs_nil fun vs σ H Q h => by
  obtain ⟨W, ρ, ds, ρ', G', hR, rv, e, p⟩ := h
  cases rv with
  | nil => cases e; exact ⟨rfl, p W σ H rfl Ext.refl hR⟩
  | cons _ _ => cases e
theorem tgs_cons (h1 : PG X t (upG (Cxp X) ga)) (h2 : PGs X ts (upGs (Cxp X) gb)) (hs : (assignEach (t :: ts) X.env).map (·.2) = assign t X.env :: (assignEach ts X.env).map (·.2) := by rfl) : PGs X (t :: ts) (upGs (Cxp X) (gsCons ga gb)) := PGs.imp (pgs_cons h1 h2 hs) fun vs σ H Q h => by
  obtain ⟨W, ρ, ds, ρ', G', hR, rv, e, p⟩ := h
  cases rv with
  | nil => cases e
  | cons h r =>
    unfold gsCons at e
    split at e
    · cases e
    · rename_i d r' heq
      cases heq
      split at e
      · rename_i ρ1 G1 he
        exact ⟨_, _, rfl, W, ρ, _, ρ1, G1, hR, h, he, fun W1 σ1 H1 eg x R1 => ⟨W1, ρ1, _, ρ', G', R1, r.keep hR.gr x, by rw [eg]; exact e, fun W2 σ2 H2 eg2 x2 R2 => p W2 σ2 H2 eg2 (x.trans x2) R2⟩⟩
      · cases e
theorem tg_t {k : Nat} {n : Nat} (hc : X.calm = true) (h : PGs X ts (upGs (Cxp X) gb)) (hn : (assignEach ts X.env).length = n := by rfl) (hst : (assignEach ts X.env).findIdx? (·.1) = none := by rfl) : PG X (.Tuple ts k pos) (upG (Cxp X) (gT n gb)) :=
  PG.imp (pg_tup hc h hn hst) fun v σ H Q h => by
    obtain ⟨W, ρ, d, ρ', G', hR, rv, e, p⟩ := h
    unfold gT at e
    split at e
    · split at e
      · rename_i z
        cases rv with
        | tup ha r => exact ⟨_, _, rfl, ha, by rw [r.length]; exact z, W, ρ, _, ρ', G', hR, r, e, p⟩
      · cases e
    · cases e
def dAsg (a : En → M D) (g : D → En → P1 En) : En → M Out := fun ρ => bnd (a ρ) fun d => bnd (lft (g d ρ)) fun ρ' => ret (.nx ρ')
theorem tS_asg (he : PE X e (upE (Cxp X) We da)) (hg : PG X t (upG (Cxp X) ga)) (hs : swapsWithSole [t] e pos.line X.env = pure false := by rfl) (hw : swappedStores [t] e X.env = pure none := by rfl) (h1 : (assignEach [t] X.env).map (·.2) = [assign t X.env] := by rfl) : PS X (.Assign [t] e pos) (ups (Cxp X) We (dAsg da ga)) :=
  PS.imp (ps_asg he hg hs hw h1) fun D0 σ H h => by
    obtain ⟨W, ρ, r, G', hR, e, p⟩ := h
    refine ups_bnd hR e p fun d W1 v H1 x1 R1 r1 e1 p1 => ?_
    obtain ⟨ρ', G2, e2, e3⟩ := bnd_lft e1
    exact ⟨W1, ρ, d, ρ', G2, R1, r1, e2, fun W2 σ2 H2 eg x R2 => nx_end (by rw [← eg] at e3; exact e3) (p1.mono x) rfl Ext.refl R2⟩
/-- a, b = x, y, both names -/
def par2 (i j : Nat) (ds : List D) (ρ : En) : Option En := match ds with
  | [x, y] => some ((ρ.set i (some x)).set j (some y))
  | _ => none
def dPar (i j : Nat) (a : En → M (List D)) : En → M Out := fun ρ => bnd (a ρ) fun ds => bnd (lft (pur (par2 i j ds ρ))) fun ρ' => ret (.nx ρ')
theorem par_up {i j : Nat} {da : En → M (List D)} {D0 : Ends} {σ : L2.St} {H : Hp} (h : ups (Cxp X) We (dPar i j da) D0 σ H) : tPar i j (upA (Cxp X) We da) D0 σ H := by
  obtain ⟨W, ρ, r, G', hR, e, p⟩ := h
  refine ups_bnd hR e p fun d W1 v H1 x1 R1 r1 e1 p1 => ?_
  obtain ⟨ρ', G2, e2, e3⟩ := bnd_lft e1
  obtain ⟨e2, eg⟩ := pur_eq e2
  subst eg
  unfold par2 at e2
  split at e2
  · cases e2
    cases r1 with
    | cons h1 r1 => cases r1 with
      | cons h2 r1 =>
        cases r1
        exact ⟨_, _, rfl, nx_end e3 p1 rfl Ext.refl ((R1.set h1 i).set h2 j)⟩
  · cases e2
theorem tS_par {i j : Nat} {x y : Str} {a b : Expr} {da : En → M (List D)} {px py pt : Pos} {kt k2 : Nat} {pt2 : Pos} (hc : X.calm = true) (hN : X.N.Nodup) (hi : X.N[i]? = some x) (hj : X.N[j]? = some y) (hij : i ≠ j) (hx : X.env.scope.names.lookup x = some .local) (hy : X.env.scope.names.lookup y = some .local)
    (ha : PA X [a, b] (upA (Cxp X) We da)) (hw : swappedStores [.Tuple [.Name x px, .Name y py] kt pt] (.Tuple [a, b] k2 pt2) X.env = pure (some [x, y])) (hs : swapsWithSole [.Tuple [.Name x px, .Name y py] kt pt] (.Tuple [a, b] k2 pt2) pos.line X.env = pure false := by rfl) :
    PS X (.Assign [.Tuple [.Name x px, .Name y py] kt pt] (.Tuple [a, b] k2 pt2) pos) (ups (Cxp X) We (dPar i j da)) := PS.imp (ps_par hc hN hi hj hij hx hy ha hw hs) fun D0 σ H h => par_up h
/-- x op= e, x a name; the operator by values -/
def dAug (i : Nat) (f : D → D → P1 D) (a : En → M D) : En → M Out := fun ρ => bnd (dV i ρ) fun x => bnd (a ρ) fun y => bnd (lft (f x y)) fun z => ret (.nx (ρ.set i (some z)))
theorem tS_aug {i : Nat} {x : Str} {op : Operator} {ti : TIp} {f : D → D → P1 D} {pos' : Pos} (hN : X.N.Nodup) (hi : X.N[i]? = some x) (hx : Loc X.env.scope x) (he : PE X e (upE (Cxp X) We da)) (ho : PIp X op ti) (hd : OpD (Cxp X) ti f)
    (hf : X.fn x = true ∨ X.env.scope.names.lookup x = some .local := by first | exact .inl rfl | exact .inr rfl | assumption) : PS X (.AugAssign (.Name x pos') op e pos) (ups (Cxp X) We (dAug i f da)) := PS.imp (ps_aug (i := i) hN hi hx he ho hf) fun D0 σ H h => by
  obtain ⟨W, ρ, r, G', hR, e, p⟩ := h
  unfold dAug dV at e
  obtain ⟨d, G2, e2, e3⟩ := bnd_lft e
  obtain ⟨e2, eg⟩ := pur_eq e2
  subst eg
  have e' : ρ[i]? = some (some d) := by
    revert e2
    split
    · rename_i d' he
      intro z; cases z; exact he
    · intro z; cases z
  obtain ⟨v, hv, rv⟩ := hR.var i d e'
  refine ⟨v, hv, ups_bnd hR e3 p fun d1 W1 v1 H1 x1 R1 r1 e4 p1 => ?_⟩
  obtain ⟨z, G5, ez, e5⟩ := bnd_lft e4
  refine hd W1 H1 v v1 d d1 z G5 _ R1.gr (rv.keep hR.gr x1) r1 ez fun W6 v6 H6 eg6 x6 g6 r6 => ?_
  exact nx_end (by rw [← eg6] at e5; exact e5) (p1.mono x6) rfl Ext.refl ((R1.keep g6 x6).set r6 i)
end

/-! ### what a loop walks -/
structure WalkD (K : Pm) (W : Wd) (H : Hp) (J : It) (ds : List D) : Prop where
  ex : ∃ (Gd : Hp → Prop) (Y : Nat → Hp → V → Hp → Prop), Walk J ds.length Gd Y ∧ (∀ (W' : Wd) (H' : Hp), ExtW W H W' H' → Gr K W' H' → Gd H') ∧
    ∀ (i : Nat) (W' : Wd) (H' : Hp) (x : V) (H'' : Hp), i < ds.length → ExtW W H W' H' → Gr K W' H' → Y i H' x H'' → ∃ d, ds[i]? = some d ∧ Gr K W' H'' ∧ Ext W' H' W' H'' ∧ Rv K W' H'' x d
def upI (K : Pm) (We : WE') (di : En → M (List D)) : TI := fun σ H R => ∃ (W : Wd) (ρ : En) (r : Sum Er (List D)) (G' : List O), Rs K W ρ σ H ∧ di ρ W.G = some (r, G') ∧ match r with
  | .inr ds => ∀ (W' : Wd) (H' : Hp), W'.G = G' → Ext W H W' H' → Gr K W' H' → ∀ J, WalkD K W' H' J ds → R J H'
  | .inl e => ∀ (W' : Wd) (H' : Hp), W'.G = G' → Ext W H W' H' → Gr K W' H' → We e W' σ H'
def bodyL (g : D → En → P1 En) (b : En → M Out) : List D → En → M Out
  | [], ρ => ret (.nx ρ)
  | d :: r, ρ => bnd (lft (g d ρ)) fun ρ1 => bnd (b ρ1) fun o => match o with
    | .nx ρ2 => bodyL g b r ρ2
    | .ct ρ2 => bodyL g b r ρ2
    | .bk ρ2 => ret (.nx ρ2)
    | .rt v => ret (.rt v)
def dFor (di : En → M (List D)) (g : D → En → P1 En) (b : En → M Out) : En → M Out := fun ρ => bnd (di ρ) fun ds => bodyL g b ds ρ
section
variable {X : Cx} {We : WE'} {pos : Pos} {tg iter : Expr} {body : List Stmt} {di : En → M (List D)} {g : D → En → P1 En} {b : En → M Out}
theorem tS_for (hp : PassesOwn (model X.prog X.w) X.A X.env X.xe) (hc : X.calm = true) (hi : PI X tg iter (upI (Cxp X) We di)) (hg : PG X tg (upG (Cxp X) g)) (hb : PSs X body (ups (Cxp X) We b))
    (hs : ∀ x, foldedSetIterable iter X.env x = pure x := by intro _; rfl) : PS X (.For tg iter body [] pos) (ups (Cxp X) We (dFor di g b)) := PS.imp (ps_for hp hc hi hg hb hs) fun D0 σ H h => by
  obtain ⟨W, ρ, r, G', hR, e, p⟩ := h
  unfold dFor bnd at e
  split at e
  · rename_i ds G1 he
    refine ⟨W, ρ, .inr ds, G1, hR, he, fun W0 H0 eg0 x0 g0 J wd => ?_⟩
    obtain ⟨Gd, Y, wk, st, yl⟩ := wd.ex
    rw [← eg0] at e
    refine for_it wk (fun i σ1 H1 => ∃ (W1 : Wd) (ρ1 : En), Ext W0 H0 W1 H1 ∧ Rs (Cxp X) W1 ρ1 σ1 H1 ∧ bodyL g b (ds.drop i) ρ1 W1.G = some (r, G') ∧ PostS (Cxp X) We W1 H1 r G' D0) ⟨W0, ρ, Ext.refl, hR.keep g0 x0, by simpa using e, p.mono x0⟩
      (fun i σ1 H1 _ ⟨W1, ρ1, x1, R1, _⟩ => st W1 H1 x1.w R1.gr) (fun i v σ1 H1 H2 hi ⟨W1, ρ1, x1, R1, e1, p1⟩ y => ?_) fun σ1 H1 ⟨W1, ρ1, x1, R1, e1, p1⟩ => ?_
    · obtain ⟨d, hd, g2, x2, rv⟩ := yl i W1 H1 v H2 hi x1.w R1.gr y
      have ed : ds.drop i = d :: ds.drop (i + 1) := by
        obtain ⟨hl, hv⟩ := List.getElem?_eq_some_iff.mp hd
        rw [List.drop_eq_getElem_cons hl, hv]
      rw [ed] at e1
      unfold bodyL at e1
      obtain ⟨ρ2, G2, e2, e3⟩ := bnd_lft e1
      have R2 := R1.keep g2 x2
      refine ⟨W1, ρ1, d, ρ2, G2, R2, rv, e2, fun W3 σ3 H3 eg3 x3 R3 => ?_⟩
      rw [← eg3] at e3
      have x13 := x2.trans x3
      have x03 := x1.trans x13
      unfold bnd at e3
      split at e3
      · rename_i o G4 ho
        cases o with
        | nx ρ4 => exact ⟨W3, ρ2, .inr (.nx ρ4), G4, R3, ho, fun W5 σ5 H5 eg5 x5 R5 => ⟨W5, ρ4, x03.trans x5, R5, by rw [eg5]; exact e3, (p1.mono x13).mono x5⟩⟩
        | ct ρ4 => exact ⟨W3, ρ2, .inr (.ct ρ4), G4, R3, ho, fun W5 σ5 H5 eg5 x5 R5 => ⟨W5, ρ4, x03.trans x5, R5, by rw [eg5]; exact e3, (p1.mono x13).mono x5⟩⟩
        | bk ρ4 => exact ⟨W3, ρ2, .inr (.bk ρ4), G4, R3, ho, fun W5 σ5 H5 eg5 x5 R5 => nx_end (by rw [← eg5] at e3; exact e3) ((p1.mono x13).mono x5) rfl Ext.refl R5⟩
        | rt w =>
          cases e3
          exact ⟨W3, ρ2, .inr (.rt w), _, R3, ho, p1.mono x13⟩
      · rename_i er G4 ho
        cases e3
        exact ⟨W3, ρ2, .inl er, _, R3, ho, p1.mono x13⟩
      · cases e3
    · rw [List.drop_length] at e1
      unfold bodyL at e1
      exact nx_end e1 p1 rfl Ext.refl R1
  · rename_i er G1 he
    cases e
    exact ⟨W, ρ, .inl er, _, hR, he, fun W' H' eg x g' => p W' σ H' eg x g'⟩
  · cases e
/-! ### while, at most so many turns -/
def whileL (t : En → M Bool) (b : En → M Out) : Nat → En → M Out
  | 0, _ => fun _ => none
  | n + 1, ρ => bnd (t ρ) fun c => if c = true then bnd (b ρ) fun o => match o with
    | .nx ρ2 => whileL t b n ρ2
    | .ct ρ2 => whileL t b n ρ2
    | .bk ρ2 => ret (.nx ρ2)
    | .rt v => ret (.rt v)
    else ret (.nx ρ)
theorem tS_while {n : Nat} {c : Expr} {t : En → M Bool} (hp : PassesOwn (model X.prog X.w) X.A X.env X.xe) (hc : PT X c (upT (Cxp X) We t)) (hb : PSs X body (ups (Cxp X) We b)) : PS X (.While c body [] pos) (ups (Cxp X) We (whileL t b n)) := PS.imp (ps_while hp hc hb) fun D0 σ H h => by
  obtain ⟨W, ρ, r, G', hR, e, p⟩ := h
  refine ⟨fun m σ1 H1 => ∃ (W1 : Wd) (ρ1 : En), Rs (Cxp X) W1 ρ1 σ1 H1 ∧ whileL t b m ρ1 W1.G = some (r, G') ∧ PostS (Cxp X) We W1 H1 r G' D0, ⟨n, W, ρ, hR, e, p⟩, fun m σ1 H1 ⟨W1, ρ1, R1, e1, p1⟩ => ?_⟩
  cases m with
  | zero => cases e1
  | succ m =>
    unfold whileL at e1
    refine ups_bnd R1 e1 p1 fun c W2 c' H2 x2 R2 r2 e2 p2 => ?_
    cases r2
    cases c with
    | false => exact iteF (nx_end e2 p2 rfl Ext.refl R2)
    | true =>
      refine iteT ⟨fun σ3 H3 => ∃ (W3 : Wd) (ρ3 : En), Rs (Cxp X) W3 ρ3 σ3 H3 ∧ whileL t b m ρ3 W3.G = some (r, G') ∧ PostS (Cxp X) We W3 H3 r G' D0, fun σ3 H3 q => ⟨m, Nat.lt_succ_self m, q⟩, ?_⟩
      rw [if_pos rfl] at e2
      unfold bnd at e2
      split at e2
      · rename_i o G4 ho
        cases o with
        | nx ρ4 => exact ⟨W2, ρ1, .inr (.nx ρ4), G4, R2, ho, fun W5 σ5 H5 eg5 x5 R5 => ⟨W5, ρ4, R5, by rw [eg5]; exact e2, p2.mono x5⟩⟩
        | ct ρ4 => exact ⟨W2, ρ1, .inr (.ct ρ4), G4, R2, ho, fun W5 σ5 H5 eg5 x5 R5 => ⟨W5, ρ4, R5, by rw [eg5]; exact e2, p2.mono x5⟩⟩
        | bk ρ4 => exact ⟨W2, ρ1, .inr (.bk ρ4), G4, R2, ho, fun W5 σ5 H5 eg5 x5 R5 => nx_end (by rw [← eg5] at e2; exact e2) (p2.mono x5) rfl Ext.refl R5⟩
        | rt w =>
          cases e2
          exact ⟨W2, ρ1, .inr (.rt w), _, R2, ho, p2⟩
      · rename_i er G4 ho
        cases e2
        exact ⟨W2, ρ1, .inl er, _, R2, ho, p2⟩
      · cases e2
end
end Tw

namespace Tw
open PySem PySem.Spec PyProof.Rows L2

theorem PI.imp {X : Cx} {tg e : Expr} {t t' : TI} (h : PI X tg e t) (i : ∀ σ H R, t' σ H R → t σ H R) : PI X tg e t' := ⟨fun pins s σ H R I q => h.run pins s σ H R I (i σ H R q)⟩
/-- an expression first, then what is walked -/
theorem upi_bnd {A B : Type} {K : Pm} {We : WE'} {R : Wd → Hp → B → A → Prop} {W : Wd} {H : Hp} {σ : L2.St} {ρ : En} {G' : List O} {da : En → M A} {k : A → M (List D)} {r : Sum Er (List D)} {R0 : It → Hp → Prop} {T : B → Hp → Prop}
    (hR : Rs K W ρ σ H) (e : bnd (da ρ) k W.G = some (r, G')) (p : match (generalizing := false) r with
      | .inr ds => ∀ (W' : Wd) (H' : Hp), W'.G = G' → Ext W H W' H' → Gr K W' H' → ∀ J, WalkD K W' H' J ds → R0 J H'
      | .inl e => ∀ (W' : Wd) (H' : Hp), W'.G = G' → Ext W H W' H' → Gr K W' H' → We e W' σ H')
    (h : ∀ (d : A) (W1 : Wd) (v : B) (H1 : Hp), Ext W H W1 H1 → Rs K W1 ρ σ H1 → R W1 H1 v d → k d W1.G = some (r, G') → (match (generalizing := false) r with
      | .inr ds => ∀ (W' : Wd) (H' : Hp), W'.G = G' → Ext W1 H1 W' H' → Gr K W' H' → ∀ J, WalkD K W' H' J ds → R0 J H'
      | .inl e => ∀ (W' : Wd) (H' : Hp), W'.G = G' → Ext W1 H1 W' H' → Gr K W' H' → We e W' σ H') → T v H1) : up K We R da σ H T := by
  unfold bnd at e
  split at e
  · rename_i a G1 he
    refine ⟨W, ρ, .inr a, G1, hR, he, fun W' v H' eg x g q => h a W' v H' x (hR.keep g x) q (by rw [eg]; exact e) ?_⟩
    cases r with
    | inr ds => exact fun W2 H2 e2 x2 g2 J w => p W2 H2 e2 (x.trans x2) g2 J w
    | inl er => exact fun W2 H2 e2 x2 g2 => p W2 H2 e2 (x.trans x2) g2
  · rename_i er G1 he
    cases e
    exact ⟨W, ρ, .inl er, _, hR, he, p⟩
  · cases e
theorem upi_lft {K : Pm} {We : WE'} {W : Wd} {H : Hp} {σ : L2.St} {G' : List O} {f : P1 (List D)} {r : Sum Er (List D)} {R0 : It → Hp → Prop} (e : lft f W.G = some (r, G')) (p : match (generalizing := false) r with
      | .inr ds => ∀ (W' : Wd) (H' : Hp), W'.G = G' → Ext W H W' H' → Gr K W' H' → ∀ J, WalkD K W' H' J ds → R0 J H'
      | .inl e => ∀ (W' : Wd) (H' : Hp), W'.G = G' → Ext W H W' H' → Gr K W' H' → We e W' σ H') :
    ∃ ds, f W.G = some (ds, G') ∧ ∀ (W' : Wd) (H' : Hp), W'.G = G' → Ext W H W' H' → Gr K W' H' → ∀ J, WalkD K W' H' J ds → R0 J H' := by
  unfold lft at e
  split at e
  · rename_i a G1 he
    cases e
    exact ⟨_, he, p⟩
  · cases e

theorem Drs.at2 {K : Pm} {L : Addr → Prop} {α : List Addr} {H : Hp} {vs : List V} {ds : List D} (r : Drs K L α H vs ds) {i : Nat} {v : V} (h : vs[i]? = some v) : ∃ d, ds[i]? = some d ∧ Dr K L α H v d := by
  obtain ⟨hl, hv⟩ := List.getElem?_eq_some_iff.mp h
  have hl2 : i < ds.length := by rw [← r.length]; exact hl
  obtain ⟨v', h1, h2⟩ := r.at (List.getElem?_eq_getElem hl2)
  rw [h] at h1
  cases h1
  exact ⟨_, List.getElem?_eq_getElem hl2, h2⟩

/-! ### lists, tuples -/
def itL : D → Option (List D)
  | .lst xs => some xs
  | .scr xs => some xs
  | _ => none
def itT : D → Option (List D)
  | .tup xs => some xs
  | _ => none
def dItL (a : En → M D) : En → M (List D) := fun ρ => bnd (a ρ) fun d => lft (pur (itL d))
def dItT (a : En → M D) : En → M (List D) := fun ρ => bnd (a ρ) fun d => lft (pur (itT d))
section
variable {K : Pm} {W : Wd} {H : Hp} {v : V} {d : D} {xs : List D}
/-- what a list holds, and goes on to hold -/
theorem itL_sq (g : Gr K W H) (r : Rv K W H v d) (e : itL d = some xs) : ∃ a vs, v = .ref a ∧ vs.length = xs.length ∧ SqL K.K H a vs ∧ ∀ (W' : Wd) (H' : Hp), ExtW W H W' H' → SqL K.K H' a vs ∧ Rvs K W' H' vs xs := by
  unfold itL at e
  split at e
  · cases e
    cases r with
    | lst h n q => exact ⟨_, _, rfl, q.length, SqL.of h, fun W' H' x => ⟨SqL.of (L.keepW x h n).1, q.keepW g x⟩⟩
  · cases e
    cases r with
    | scr h q => exact ⟨_, _, rfl, q.length, h.sq, fun W' H' x => ⟨(Scr.keepW x h).sq, q.keepW g x⟩⟩
  · cases e
theorem itT_sq (g : Gr K W H) (r : Rv K W H v d) (e : itT d = some xs) : ∃ a vs, v = .ref a ∧ vs.length = xs.length ∧ SqT K.K H a vs ∧ ∀ (W' : Wd) (H' : Hp), ExtW W H W' H' → SqT K.K H' a vs ∧ Rvs K W' H' vs xs := by
  unfold itT at e
  split at e
  · cases e
    cases r with
    | tup h q => exact ⟨_, _, rfl, q.length, h, fun W' H' x => ⟨SqT.keepW g x h, q.keepW g x⟩⟩
  · cases e
theorem walkD_list {a : Addr} {vs : List V} (l : vs.length = xs.length) (st : ∀ (W' : Wd) (H' : Hp), ExtW W H W' H' → SqL K.K H' a vs ∧ Rvs K W' H' vs xs) : WalkD K W H (Itl K.K a) xs :=
  ⟨_, _, by rw [← l]; exact walk_list (xs := vs), fun W' H' x _ => (st W' H' x).1, fun i W' H' y H'' hi x g q => by
    obtain ⟨rfl, q⟩ := q
    obtain ⟨d, h1, h2⟩ := (st W' _ x).2.at2 q
    exact ⟨d, h1, g, Ext.refl, h2⟩⟩
theorem walkD_tup {a : Addr} {vs : List V} (l : vs.length = xs.length) (st : ∀ (W' : Wd) (H' : Hp), ExtW W H W' H' → SqT K.K H' a vs ∧ Rvs K W' H' vs xs) : WalkD K W H (Itt K.K a) xs :=
  ⟨_, _, by rw [← l]; exact walk_tup (xs := vs), fun W' H' x _ => (st W' H' x).1, fun i W' H' y H'' hi x g q => by
    obtain ⟨rfl, q⟩ := q
    obtain ⟨d, h1, h2⟩ := (st W' _ x).2.at2 q
    exact ⟨d, h1, g, Ext.refl, h2⟩⟩
end
def rngD (lo : Int) (n : Nat) : List D := (List.range n).map fun (i : Nat) => .int (lo + i)
def enumD (xs : List D) : List D := xs.zipIdx.map fun p => .tup [.int (p.2 : Nat), p.1]
def zipD (xs ys : List D) : List D := (xs.zip ys).map fun p => .tup [p.1, p.2]
theorem rngD_at {lo : Int} {n i : Nat} (h : i < n) : (rngD lo n)[i]? = some (.int (lo + i)) := by
  unfold rngD
  rw [List.getElem?_map, List.getElem?_range h]; rfl
theorem enumD_at {xs : List D} {i : Nat} {d : D} (h : xs[i]? = some d) : (enumD xs)[i]? = some (.tup [.int (i : Nat), d]) := by
  unfold enumD
  rw [List.getElem?_map, List.getElem?_zipIdx, h]; simp
theorem zipD_at {xs ys : List D} {i : Nat} {d e : D} (h : xs[i]? = some d) (h' : ys[i]? = some e) : (zipD xs ys)[i]? = some (.tup [d, e]) := by
  unfold zipD
  rw [List.getElem?_map, List.getElem?_zip_eq_some (z := (d, e)) |>.mpr ⟨h, h'⟩]; rfl
theorem enumD_len (xs : List D) : (enumD xs).length = xs.length := by simp [enumD]
theorem zipD_len (xs ys : List D) : (zipD xs ys).length = min xs.length ys.length := by simp [zipD]
theorem rngD_len (lo : Int) (n : Nat) : (rngD lo n).length = n := by simp [rngD]
/-- small enough for range -/
def smallI (i : Int) : Bool := decide (-(2 ^ 62) ≤ i) && decide (i < 2 ^ 62)
def rng1 : List D → Option (List D)
  | [.int j] => if smallI j = true then some (rngD 0 j.toNat) else none
  | _ => none
def rng2 : List D → Option (List D)
  | [.int i, .int j] => if (smallI i && smallI j) = true then some (rngD i (j - i).toNat) else none
  | _ => none
def dRng (f : List D → Option (List D)) (a : En → M (List D)) : En → M (List D) := fun ρ => bnd (a ρ) fun ds => lft (pur (f ds))
def enum1 : List D → Option (List D)
  | [x] => (itL x).map enumD
  | _ => none
def zip2 : List D → Option (List D)
  | [x, y] => match itL x, itL y with
    | some xs, some ys => some (zipD xs ys)
    | _, _ => none
  | _ => none
def zipT2 : List D → Option (List D)
  | [x, y] => match itT x, itT y with
    | some xs, some ys => if xs.length = ys.length then some (zipD xs ys) else none
    | _, _ => none
  | _ => none
theorem smallI_eq {i : Int} (h : smallI i = true) : -(2 ^ 62) ≤ i ∧ i < 2 ^ 62 := by
  obtain ⟨h1, h2⟩ := Bool.and_eq_true_iff.mp h
  exact ⟨of_decide_eq_true h1, of_decide_eq_true h2⟩
theorem walkD_rng {K : Pm} {W : Wd} {H : Hp} {lo : Int} {n : Nat} : WalkD K W H (Itr lo n) (rngD lo n) :=
  ⟨_, _, by rw [rngD_len]; exact walk_range, fun _ _ _ _ => True.intro, fun i W' H' y H'' hi x g q => by
    obtain ⟨rfl, rfl⟩ := q
    exact ⟨_, rngD_at (by rw [rngD_len] at hi; exact hi), g, Ext.refl, .int _⟩⟩
section
variable {X : Cx} {We : WE'} {tg e : Expr} {da : En → M D}
theorem ti_list (he : PE X e (upE (Cxp X) We da)) : PI X tg e (upI (Cxp X) We (dItL da)) := PI.imp (pi_list he) fun σ H R0 h => by
  obtain ⟨W, ρ, r, G', hR, e, p⟩ := h
  refine upi_bnd hR e p fun d W1 v H1 x1 R1 r1 e1 p1 => ?_
  obtain ⟨ds, e2, p2⟩ := upi_lft e1 p1
  obtain ⟨e2, eg⟩ := pur_eq e2
  obtain ⟨a, vs, rfl, l, sq, st⟩ := itL_sq R1.gr r1 e2
  exact ⟨a, rfl, ⟨vs, sq⟩, p2 W1 H1 eg.symm Ext.refl R1.gr _ (walkD_list l st)⟩
theorem ti_tup (he : PE X e (upE (Cxp X) We da)) : PI X tg e (upI (Cxp X) We (dItT da)) := PI.imp (pi_tup he) fun σ H R0 h => by
  obtain ⟨W, ρ, r, G', hR, e, p⟩ := h
  refine upi_bnd hR e p fun d W1 v H1 x1 R1 r1 e1 p1 => ?_
  obtain ⟨ds, e2, p2⟩ := upi_lft e1 p1
  obtain ⟨e2, eg⟩ := pur_eq e2
  obtain ⟨a, vs, rfl, l, sq, st⟩ := itT_sq R1.gr r1 e2
  exact ⟨a, rfl, ⟨vs, sq⟩, p2 W1 H1 eg.symm Ext.refl R1.gr _ (walkD_tup l st)⟩
theorem ti_rng1 {a : Expr} {ta : En → M (List D)} {p pos : Pos} (hg : Gl X "range") (hm : X.mg "range" = none) (ha : PA X [a] (upA (Cxp X) We ta)) (hs : starEach [a] X.env = [(false, eval a X.env)] := by rfl) :
    PI X tg (.Call (.Name "range" p) [a] [] pos) (upI (Cxp X) We (dRng rng1 ta)) := PI.imp (pi_range1 hg hm ha hs) fun σ H R0 h => by
  obtain ⟨W, ρ, r, G', hR, e, p⟩ := h
  refine upi_bnd hR e p fun d W1 v H1 x1 R1 r1 e1 p1 => ?_
  obtain ⟨ds, e2, p2⟩ := upi_lft e1 p1
  obtain ⟨e2, eg⟩ := pur_eq e2
  unfold rng1 at e2
  split at e2
  · split at e2
    · rename_i z
      cases e2
      cases r1 with
      | cons h1 r1 =>
        cases r1; cases h1
        exact ⟨_, rfl, (smallI_eq z).1, (smallI_eq z).2, p2 W1 H1 eg.symm Ext.refl R1.gr _ walkD_rng⟩
    · cases e2
  · cases e2
theorem ti_rng2 {a b : Expr} {ta : En → M (List D)} {p pos : Pos} (hg : Gl X "range") (hm : X.mg "range" = none) (ha : PA X [a, b] (upA (Cxp X) We ta)) (hs : starEach [a, b] X.env = [(false, eval a X.env), (false, eval b X.env)] := by rfl) (hs2 : starEach [b] X.env = [(false, eval b X.env)] := by rfl) :
    PI X tg (.Call (.Name "range" p) [a, b] [] pos) (upI (Cxp X) We (dRng rng2 ta)) := PI.imp (pi_range2 hg hm ha hs hs2) fun σ H R0 h => by
  obtain ⟨W, ρ, r, G', hR, e, p⟩ := h
  refine upi_bnd hR e p fun d W1 v H1 x1 R1 r1 e1 p1 => ?_
  obtain ⟨ds, e2, p2⟩ := upi_lft e1 p1
  obtain ⟨e2, eg⟩ := pur_eq e2
  unfold rng2 at e2
  split at e2
  · split at e2
    · rename_i z
      obtain ⟨z1, z2⟩ := Bool.and_eq_true_iff.mp z
      cases e2
      cases r1 with
      | cons h1 r1 => cases r1 with
        | cons h2 r1 =>
          cases r1; cases h1; cases h2
          exact ⟨_, _, rfl, ⟨(smallI_eq z1).1, (smallI_eq z1).2, (smallI_eq z2).1, (smallI_eq z2).2⟩, p2 W1 H1 eg.symm Ext.refl R1.gr _ walkD_rng⟩
    · cases e2
  · cases e2
/-- pairs made at each turn -/
theorem pair_new {K : Pm} {W : Wd} {H : Hp} {x y : V} {d e : D} {p : Addr} (g : Gr K W H) (r1 : Rv K W H x d) (r2 : Rv K W H y e) (n : H p = none) : Gr K W (upd H p (.tup [x, y])) ∧ Ext W H W (upd H p (.tup [x, y])) ∧ Rv K W (upd H p (.tup [x, y])) (.ref p) (.tup [d, e]) :=
  tup_new g (.cons r1 (.cons r2 .nil)) n
theorem ti_enum {a : Expr} {ta : En → M (List D)} {p pos tpos : Pos} {elts : List Expr} {kk : Nat} (hg : Gl X "enumerate") (hm : X.mg "enumerate" = none) (ha : PA X [a] (upA (Cxp X) We ta)) (hs : starEach [a] X.env = [(false, eval a X.env)] := by rfl) :
    PI X (.Tuple elts kk tpos) (.Call (.Name "enumerate" p) [a] [] pos) (upI (Cxp X) We (dRng enum1 ta)) := PI.imp (pi_enum hg hm ha hs) fun σ H R0 h => by
  obtain ⟨W, ρ, r, G', hR, e, p⟩ := h
  refine upi_bnd hR e p fun d W1 v H1 x1 R1 r1 e1 p1 => ?_
  obtain ⟨ds, e2, p2⟩ := upi_lft e1 p1
  obtain ⟨e2, eg⟩ := pur_eq e2
  unfold enum1 at e2
  split at e2
  · obtain ⟨xs, q, rfl⟩ := Option.map_eq_some_iff.mp e2
    cases r1 with
    | cons h1 r1 =>
      cases r1
      obtain ⟨ad, vs, rfl, l, sq, st⟩ := itL_sq R1.gr h1 q
      refine ⟨ad, vs, rfl, sq, p2 W1 H1 eg.symm Ext.refl R1.gr _ ⟨_, _, by rw [enumD_len, ← l]; exact walk_enum (xs := vs), fun W' H' x _ => (st W' H' x).1, fun i W' H' y H'' hi x g q => ?_⟩⟩
      obtain ⟨T, x0, y0, rfl, n, rfl, q1, q2⟩ := q
      cases q1
      obtain ⟨d0, h1, h2⟩ := (st W' _ x).2.at2 q2
      obtain ⟨g', x', rv⟩ := pair_new g (.int _) h2 n
      exact ⟨_, enumD_at h1, g', x', rv⟩
  · cases e2
theorem ti_zip {a b : Expr} {ta : En → M (List D)} {p pos tpos : Pos} {elts : List Expr} {kk : Nat} (hg : Gl X "zip") (hm : X.mg "zip" = none) (ha : PA X [a, b] (upA (Cxp X) We ta))
    (hs : starEach [a, b] X.env = (false, eval a X.env) :: starEach [b] X.env := by rfl) (hpl : (backTo pos (starEach [b] X.env)).any (·.1) = false := by rfl) :
    PI X (.Tuple elts kk tpos) (.Call (.Name "zip" p) [a, b] [] pos) (upI (Cxp X) We (dRng zip2 ta)) := PI.imp (pi_zip hg hm ha hs hpl) fun σ H R0 h => by
  obtain ⟨W, ρ, r, G', hR, e, p⟩ := h
  refine upi_bnd hR e p fun d W1 v H1 x1 R1 r1 e1 p1 => ?_
  obtain ⟨ds, e2, p2⟩ := upi_lft e1 p1
  obtain ⟨e2, eg⟩ := pur_eq e2
  unfold zip2 at e2
  split at e2
  · split at e2
    · rename_i xs ys hx hy
      cases e2
      cases r1 with
      | cons h1 r1 => cases r1 with
        | cons h2 r1 =>
          cases r1
          obtain ⟨a1, vs, rfl, l1, sq1, st1⟩ := itL_sq R1.gr h1 hx
          obtain ⟨a2, ws, rfl, l2, sq2, st2⟩ := itL_sq R1.gr h2 hy
          refine ⟨a1, a2, vs, ws, rfl, sq1, sq2, p2 W1 H1 eg.symm Ext.refl R1.gr _ ⟨_, _, walk_zip (xs := vs) (ys := ws) (by rw [zipD_len, l1, l2]), fun W' H' x _ => ⟨(st1 W' H' x).1, (st2 W' H' x).1⟩, fun i W' H' y H'' hi x g q => ?_⟩⟩
          obtain ⟨T, x0, y0, rfl, n, rfl, q1, q2⟩ := q
          obtain ⟨d1, h1, r1⟩ := (st1 W' _ x).2.at2 q1
          obtain ⟨d2, h2, r2⟩ := (st2 W' _ x).2.at2 q2
          obtain ⟨g', x', rv⟩ := pair_new g r1 r2 n
          exact ⟨_, zipD_at h1 h2, g', x', rv⟩
    · cases e2
  · cases e2
end

/-! ### list comprehensions, one for -/
abbrev WeF : WE' := fun _ _ _ _ => False
def wipeD (ρ : En) : List Nat → En
  | [] => ρ
  | v :: vs => (wipeD ρ vs).set v none
/-- no error leaves -/
def bndN {A B : Type} (m : M A) (k : A → M B) : M B := fun G => match m G with
  | some (.inr a, G1) => k a G1
  | _ => none
theorem bndN_eq {A B : Type} {m : M A} {k : A → M B} {G G' : List O} {r : Sum Er B} (e : bndN m k G = some (r, G')) : ∃ a G1, m G = some (.inr a, G1) ∧ k a G1 = some (r, G') := by
  unfold bndN at e
  split at e
  · rename_i a G1 he
    exact ⟨a, G1, he, e⟩
  · cases e
def lcL (g : D → En → P1 En) (t : En → M Bool) (a : En → M D) (ρ : En) : List D → M (List D)
  | [] => ret []
  | d :: r => bndN (lft (g d ρ)) fun ρ1 => bndN (t ρ1) fun b => if b = true then bndN (a ρ1) fun y => bndN (lcL g t a ρ r) fun ys => ret (y :: ys) else lcL g t a ρ r
def okL (xs : List D) : P1 D := pur (lstO xs)
def dLc (di : En → M (List D)) (g : D → En → P1 En) (t : En → M Bool) (a : En → M D) (own : List Nat) : En → M D := fun ρ => bnd (di ρ) fun ds => bndN (lcL g t a (wipeD ρ own) ds) fun ys => lft (okL ys)
def dYes : En → M Bool := fun _ => ret true
theorem Rs.wipe {K : Pm} {W : Wd} {ρ : En} {σ : L2.St} {H : Hp} (r : Rs K W ρ σ H) : ∀ own, Rs K W (wipeD ρ own) (wipe σ own) H
  | [] => r
  | v :: vs => by
    have ih := Rs.wipe r vs
    refine ⟨ih.gr, by simp [wipeD, L2.wipe, ih.len], fun i d e => ?_⟩
    have e' : ((wipeD ρ vs).set v none)[i]? = some (some d) := e
    show ∃ u, ((L2.wipe σ vs).set v none)[i]? = some (some u) ∧ _
    by_cases h : v = i
    · subst h
      by_cases hl : v < (wipeD ρ vs).length
      · rw [List.getElem?_set_self hl] at e'; cases e'
      · rw [List.getElem?_eq_none_iff.mpr (by simpa using Nat.le_of_not_lt hl)] at e'; cases e'
    · rw [List.getElem?_set_ne h] at e' ⊢
      exact ih.var i d e'
theorem wipe_at (σ : L2.St) (i : Nat) : ∀ vs : List Nat, (L2.wipe σ vs)[i]? = if i ∈ vs then (σ[i]?).map fun _ => none else σ[i]?
  | [] => by simp [L2.wipe]
  | v :: vs => by
    show ((L2.wipe σ vs).set v none)[i]? = _
    have ih := wipe_at σ i vs
    by_cases h : v = i
    · subst h
      rw [List.getElem?_set]
      have hl : (L2.wipe σ vs).length = σ.length := wipe_length σ vs
      by_cases hv : v < σ.length
      · simp [hl, hv]
      · simp [hl, hv, List.getElem?_eq_none_iff.mpr (Nat.le_of_not_lt hv)]
    · rw [List.getElem?_set_ne h, ih]
      have hi : ¬ i = v := fun e => h e.symm
      by_cases hm : i ∈ vs
      · rw [if_pos hm, if_pos (List.mem_cons_of_mem _ hm)]
      · rw [if_neg hm, if_neg (by simp [hi, hm])]
theorem wipe_wipe (σ : L2.St) (vs : List Nat) : L2.wipe (L2.wipe σ vs) vs = L2.wipe σ vs := by
  apply List.ext_getElem?
  intro i
  rw [wipe_at, wipe_at]
  by_cases h : i ∈ vs
  · simp only [if_pos h]; cases σ[i]? <;> rfl
  · simp only [if_neg h]
theorem wipe_set (σ : L2.St) (vs : List Nat) {i : Nat} (x : Option V) (h : i ∈ vs) : L2.wipe (σ.set i x) vs = L2.wipe σ vs := by
  apply List.ext_getElem?
  intro j
  rw [wipe_at, wipe_at]
  by_cases hj : j ∈ vs
  · simp only [if_pos hj]
    by_cases e : i = j
    · subst e
      rw [List.getElem?_set]
      by_cases hl : i < σ.length
      · simp [hl]
      · simp [hl]
    · rw [List.getElem?_set_ne e]
  · simp only [if_neg hj]
    rw [List.getElem?_set_ne fun e => hj (by rw [← e]; exact h)]
/-- a target within a comprehension's block, by its own reading -/
def GRaw (K : Pm) (tg : TG) (g : D → En → P1 En) (own : List Nat) : Prop := ∀ (W : Wd) (ρ : En) (σ : L2.St) (H : Hp) (v : V) (d : D) (ρ' : En) (G' : List O) (Q : L2.St → Hp → Prop), Rs K W ρ σ H → Rv K W H v d → g d ρ W.G = some (ρ', G') →
  (∀ σ', G' = W.G → Rs K W ρ' σ' H → L2.wipe σ' own = L2.wipe σ own → Q σ' H) → tg v σ H Q
def GsRaw (K : Pm) (tg : TGs) (g : List D → En → P1 En) (own : List Nat) : Prop := ∀ (W : Wd) (ρ : En) (σ : L2.St) (H : Hp) (vs : List V) (ds : List D) (ρ' : En) (G' : List O) (Q : L2.St → Hp → Prop), Rs K W ρ σ H → Rvs K W H vs ds → g ds ρ W.G = some (ρ', G') →
  (∀ σ', G' = W.G → Rs K W ρ' σ' H → L2.wipe σ' own = L2.wipe σ own → Q σ' H) → tg vs σ H Q
section
variable {K : Pm} {own : List Nat}
theorem raw_n {i : Nat} (h : i ∈ own) : GRaw K (gName i) (gN i) own := fun W ρ σ H v d ρ' G' Q hR rv e p => by
  cases e
  exact p _ rfl (hR.set rv i) (wipe_set σ own _ h)
theorem raws_nil : GsRaw K gNil gsNil own := fun W ρ σ H vs ds ρ' G' Q hR rv e p => by
  cases rv with
  | nil => cases e; exact ⟨rfl, p σ rfl hR rfl⟩
  | cons _ _ => cases e
theorem raws_cons {t : TG} {ts : TGs} {ga : D → En → P1 En} {gb : List D → En → P1 En} (h1 : GRaw K t ga own) (h2 : GsRaw K ts gb own) : GsRaw K (gCons t ts) (gsCons ga gb) own := fun W ρ σ H vs ds ρ' G' Q hR rv e p => by
  cases rv with
  | nil => cases e
  | cons h r =>
    unfold gsCons at e
    split at e
    · cases e
    · rename_i d r' heq
      cases heq
      split at e
      · rename_i ρ1 G1 he
        refine ⟨_, _, rfl, h1 W ρ σ H _ _ ρ1 G1 _ hR h he fun σ1 eg1 R1 w1 => h2 W ρ1 σ1 H _ _ ρ' G' _ R1 r (by rw [← eg1]; exact e) fun σ2 eg2 R2 w2 => p σ2 eg2 R2 (w2.trans w1)⟩
      · cases e
theorem raw_t {n : Nat} {ts : TGs} {gb : List D → En → P1 En} (h : GsRaw K ts gb own) : GRaw K (gTup K.K n ts) (gT n gb) own := fun W ρ σ H v d ρ' G' Q hR rv e p => by
  unfold gT at e
  split at e
  · split at e
    · rename_i z
      cases rv with
      | tup ha r => exact ⟨_, _, rfl, ha, by rw [r.length]; exact z, h W ρ σ H _ _ ρ' G' Q hR r e p⟩
    · cases e
  · cases e
end
theorem Ext.off {W0 W1 : Wd} {H0 H1 : Hp} {p : Addr} {u : HO} (x : Ext W0 H0 W1 H1) (n : H0 p = none) : Ext W0 H0 W1 (upd H1 p u) := by
  refine ⟨x.b, x.b', fun a h => th_upd a (x.th a h), x.pre, fun a o h l => ?_, fun a vs h => ?_⟩
  · obtain ⟨p1, p2⟩ := x.keep a o h l
    exact ⟨by rw [upd_ne (not_there h n)]; exact p1, p2⟩
  · rw [upd_ne (not_there h n)]; exact x.tup a vs h
/-- what a comprehension holds between two turns -/
structure LcI (K : Pm) (W0 : Wd) (H0 : Hp) (Da : Addr) (W1 : Wd) (H1 : Hp) (acc : List D) : Prop where
  x : Ext W0 H0 W1 H1
  g : Gr K W1 H1
  b : Da ∈ W1.B
  v : ∃ vs, H1 Da = some (.lst vs) ∧ Rvs K W1 H1 vs acc
theorem LcI.step {K : Pm} {W0 W1 W2 : Wd} {H0 H1 H2 : Hp} {Da : Addr} {acc : List D} (i : LcI K W0 H0 Da W1 H1 acc) (x : Ext W1 H1 W2 H2) (g : Gr K W2 H2) : LcI K W0 H0 Da W2 H2 acc := by
  obtain ⟨vs, h, r⟩ := i.v
  refine ⟨i.x.trans x, g, x.b _ i.b, vs, (x.keep Da _ h fun l => ?_).1, r.keep i.g x⟩
  obtain ⟨m, o, h1, _⟩ := l
  exact i.g.dis Da i.b (List.mem_of_getElem? h1)
theorem LcI.more {K : Pm} {W0 W1 : Wd} {H0 H1 : Hp} {Da : Addr} {acc : List D} {y : D} {w : V} (i : LcI K W0 H0 Da W1 H1 acc) (n : H0 Da = none) (r : Rv K W1 H1 w y) :
    ∃ vs, H1 Da = some (.lst vs) ∧ vs.length = acc.length ∧ LcI K W0 H0 Da W1 (upd H1 Da (.lst (vs ++ [w]))) (acc ++ [y]) := by
  obtain ⟨vs, h, q⟩ := i.v
  have nt : ∀ ws, H1 Da ≠ some (.tup ws) := fun ws e => by rw [h] at e; cases e
  have nf : ∀ o u, H1 Da ≠ some (.frz o u) := fun o u e => by rw [h] at e; cases e
  exact ⟨vs, h, q.length, i.x.off n, i.g.off i.b nt nf, i.b, _, upd_same, Drs.off i.b nt nf (q.app (.cons r .nil))⟩
theorem LcI.start {K : Pm} {W0 : Wd} {H0 : Hp} {Da : Addr} (g : Gr K W0 H0) (n : H0 Da = none) : LcI K W0 H0 Da (W0.ban Da) (upd H0 Da (.lst [])) [] :=
  ⟨Ext.ban n, g.ban n, List.mem_cons_self, [], upd_same, .nil⟩
theorem LcI.done {K : Pm} {W0 W1 : Wd} {H0 H1 : Hp} {Da : Addr} {acc : List D} (i : LcI K W0 H0 Da W1 H1 acc) (g0 : Gr K W0 H0) (n : H0 Da = none) :
    Ext W0 H0 (W1.bans W0.B) H1 ∧ Gr K (W1.bans W0.B) H1 ∧ Rv K (W1.bans W0.B) H1 (.ref Da) (.lst acc) := by
  obtain ⟨vs, h, q⟩ := i.v
  refine ⟨i.x.bans i.x.b fun _ h => h, i.g.bans i.x.b, .lst h (fun l => ?_) (Drs.less (L_bans i.x.b) q)⟩
  rcases l with ⟨m, o, h1, _⟩ | l
  · exact i.g.dis Da i.b (List.mem_of_getElem? h1)
  · obtain ⟨o, e⟩ := g0.thB Da l
    rw [n] at e; cases e
section
variable {X : Cx} {We : WE'}
theorem lc_up {wi : TI} {tgr : TG} {di : En → M (List D)} {g : D → En → P1 En} {t : En → M Bool} {a : En → M D} {own : List Nat} (hgr : GRaw (Cxp X) tgr g own) {σ : L2.St} {H : Hp} {Q : VK} (h : upE (Cxp X) We (dLc di g t a own) σ H Q) :
    tLc (upI (Cxp X) We di) tgr (upT (Cxp X) WeF t) (upE (Cxp X) WeF a) own σ H Q := by
  obtain ⟨W, ρ, r, G', hR, e, p⟩ := h
  unfold dLc bnd at e
  split at e
  · rename_i ds G1 he
    refine ⟨W, ρ, .inr ds, G1, hR, he, fun W0 H0 eg0 x0 g0 J wd Da nD => ?_⟩
    obtain ⟨Gd, Y, wk, st, yl⟩ := wd.ex
    rw [← eg0] at e
    obtain ⟨ys, Gx, e1, e2⟩ := bndN_eq e
    obtain ⟨dl, e3, e4⟩ : ∃ dl, okL ys Gx = some (dl, G') ∧ r = .inr dl := by
      unfold lft at e2
      split at e2
      · rename_i dl G2 hk; cases e2; exact ⟨dl, hk, rfl⟩
      · cases e2
    subst e4
    obtain ⟨e3, eg⟩ := pur_eq e3
    obtain ⟨hz, rfl⟩ := lstO_eq e3
    have R0 := (hR.keep g0 x0).wipe own
    refine lc_it wk (fun i H1 => ∃ (W1 : Wd) (acc rest : List D), LcI (Cxp X) W0 H0 Da W1 H1 acc ∧ lcL g t a (wipeD ρ own) (ds.drop i) W1.G = some (.inr rest, Gx) ∧ ys = acc ++ rest) ⟨W0.ban Da, [], ys, LcI.start g0 nD, (show lcL g t a (wipeD ρ own) (ds.drop 0) W0.G = _ by rw [List.drop_zero]; exact e1), rfl⟩
      (fun i H1 _ ⟨W1, acc, rest, I, _⟩ => st W1 H1 I.x.w I.g) (fun i v H1 H2 hi ⟨W1, acc, rest, I, e5, e6⟩ y => ?_) fun H1 ⟨W1, acc, rest, I, e5, e6⟩ => ?_
    · obtain ⟨d, hd, g2, x2, rv⟩ := yl i W1 H1 v H2 hi I.x.w I.g y
      have ed : ds.drop i = d :: ds.drop (i + 1) := by
        obtain ⟨hl, hv⟩ := List.getElem?_eq_some_iff.mp hd
        rw [List.drop_eq_getElem_cons hl, hv]
      rw [ed] at e5
      unfold lcL at e5
      obtain ⟨ρ1, G2, e7, e8⟩ := bndN_eq e5
      have e7' : g d (wipeD ρ own) W1.G = some (ρ1, G2) := by
        unfold lft at e7
        split at e7
        · rename_i a1 G3 hk; cases e7; exact hk
        · cases e7
      have I2 := I.step x2 g2
      refine hgr W1 _ _ H2 v d ρ1 G2 _ (R0.keep g2 I2.x) rv e7' fun σ2 eg2 R2 hw => ⟨hw.trans (wipe_wipe σ own), ?_⟩
      subst eg2
      obtain ⟨b, G3, e9, e10⟩ := bndN_eq e8
      refine ⟨W1, ρ1, .inr b, G3, R2, e9, fun W4 b' H4 eg4 x4 g4 hb => ?_⟩
      cases hb
      rw [← eg4] at e10
      have I4 := I2.step x4 g4
      cases b with
      | false => exact iteF ⟨W4, acc, rest, I4, e10, e6⟩
      | true =>
        rw [if_pos rfl] at e10
        obtain ⟨y1, G5, e11, e12⟩ := bndN_eq e10
        refine iteT ⟨W4, ρ1, .inr y1, G5, R2.keep g4 x4, e11, fun W6 v6 H6 eg6 x6 g6 r6 => ?_⟩
        rw [← eg6] at e12
        obtain ⟨rest', G7, e13, e14⟩ := bndN_eq e12
        cases e14
        have I6 := I4.step x6 g6
        obtain ⟨vs, hv, hlv, I7⟩ := I6.more nD r6
        refine ⟨vs, hv, ?_, W6, acc ++ [y1], rest', I7, e13, by rw [e6]; simp⟩
        have : ys.length = acc.length + (rest'.length + 1) := by rw [e6]; simp
        exact mx_lt (by omega)
    · rw [List.drop_length] at e5
      unfold lcL at e5
      cases e5
      obtain ⟨xe, ge, re⟩ := I.done g0 nD
      rw [List.append_nil] at e6
      subst e6
      exact p (W1.bans W0.B) _ H1 eg.symm (x0.trans xe) ge re
  · rename_i er G1 he
    cases e
    exact ⟨W, ρ, .inl er, _, hR, he, p⟩
  · cases e
theorem te_lc {elt tg iter : Expr} {ifs : List Expr} {scope : Scope} {own : List (Str × Nat)} {pos : Pos} {tgr : TG} {di : En → M (List D)} {g : D → En → P1 En} {t : En → M Bool} {a : En → M D} (hc : X.calm = true) (hN : X.N.Nodup) (hi : PI X tg iter (upI (Cxp X) We di)) (ok : BlkOk X.N X.env.scope scope own)
    (hgr : GRaw (Cxp X) tgr g (own.map (·.2))) (hg : ∀ (s : Shared) (H : Hp) (C : Addr) (cl : List (Str × Addr)) (fp : List Addr), PG (X.blk s H scope (compEnvC scope cl C X.env) fp) tg tgr)
    (ht : ∀ (s : Shared) (H : Hp) (C : Addr) (cl : List (Str × Addr)) (fp : List Addr), PTs (X.blk s H scope (compEnvC scope cl C X.env) fp) ifs (upT (Cxp X) WeF t))
    (he : ∀ (s : Shared) (H : Hp) (C : Addr) (cl : List (Str × Addr)) (fp : List Addr), PE (X.blk s H scope (compEnvC scope cl C X.env) fp) elt (upE (Cxp X) WeF a)) (hs : ∀ x, foldedSetIterable iter X.env x = pure x := by intro _; rfl) :
    PE X (.ListComp elt [⟨tg, iter, ifs, 0⟩] scope pos) (upE (Cxp X) We (dLc di g t a (own.map (·.2)))) := PE.imp (pe_lc hc hN hi ok hg ht he hs) fun σ H Q h => lc_up (wi := upI (Cxp X) We di) hgr h
theorem tts_nil : PTs X [] (upT (Cxp X) We dYes) := ⟨fun pins s σ H Q I h => pts_nil.run pins s σ H Q I (by
  obtain ⟨W, ρ, r, G', hR, e, p⟩ := h
  exact up_ret e p W true H rfl Ext.refl hR.gr rfl)⟩
theorem tts_one {c : Expr} {t : En → M Bool} (h : PT X c (upT (Cxp X) We t)) : PTs X [c] (upT (Cxp X) We t) := pts_one h
/-- name = [..] -/
theorem tS_setLc {i : Nat} {y : Str} {py : Pos} {elt tg iter : Expr} {ifs : List Expr} {scope : Scope} {own : List (Str × Nat)} {pos spos : Pos} {tgr : TG} {di : En → M (List D)} {g : D → En → P1 En} {t : En → M Bool} {a : En → M D} (hc : X.calm = true) (hN : X.N.Nodup) (hy : X.N[i]? = some y) (hyl : X.env.scope.names.lookup y = some .local)
    (hsw : swapsWith (.ListComp elt [⟨tg, iter, ifs, 0⟩] scope pos) (some (.Name y py)) spos.line X.env = pure true) (hi : PI X tg iter (upI (Cxp X) We di)) (ok : BlkOk X.N X.env.scope scope own)
    (hgr : GRaw (Cxp X) tgr g (own.map (·.2))) (hg : ∀ (s : Shared) (H : Hp) (C : Addr) (cl : List (Str × Addr)) (fp : List Addr), PG (X.blk s H scope (compEnvC scope cl C X.env) fp) tg tgr)
    (ht : ∀ (s : Shared) (H : Hp) (C : Addr) (cl : List (Str × Addr)) (fp : List Addr), PTs (X.blk s H scope (compEnvC scope cl C X.env) fp) ifs (upT (Cxp X) WeF t))
    (he : ∀ (s : Shared) (H : Hp) (C : Addr) (cl : List (Str × Addr)) (fp : List Addr), PE (X.blk s H scope (compEnvC scope cl C X.env) fp) elt (upE (Cxp X) WeF a)) (hs : ∀ x, foldedSetIterable iter X.env x = pure x := by intro _; rfl) :
    PS X (.Assign [.Name y py] (.ListComp elt [⟨tg, iter, ifs, 0⟩] scope pos) spos) (ups (Cxp X) We (dAsg (dLc di g t a (own.map (·.2))) (gN i))) := PS.imp (ps_setLc hc hN hy hyl hsw hi ok hg ht he hs) fun D0 σ H h => by
  obtain ⟨W, ρ, r, G', hR, e, p⟩ := h
  refine lc_up (We := We) (wi := upI (Cxp X) We di) hgr (ups_bnd hR e p fun d W1 v H1 x1 R1 r1 e1 p1 => ?_)
  obtain ⟨ρ', G2, e2, e3⟩ := bnd_lft e1
  cases e2
  exact nx_end e3 p1 rfl Ext.refl (R1.set r1 i)
end
end Tw

namespace Tw
open PySem PySem.Spec PyProof.Rows L2

/-! ### built-ins by values -/
def CallD (K : Pm) (r : List V → Hp → VK → Prop) (f : List D → P1 D) : Prop := ∀ (W : Wd) (H : Hp) (vs : List V) (ds : List D) (d : D) (G' : List O) (Q : VK), Gr K W H → Rvs K W H vs ds → f ds W.G = some (d, G') →
  (∀ (W' : Wd) (v : V) (H' : Hp), W'.G = G' → Ext W H W' H' → Gr K W' H' → Rv K W' H' v d → Q v H') → r vs H Q
def dCall (f : List D → P1 D) (a : En → M (List D)) : En → M D := fun ρ => bnd (a ρ) fun ds => lft (f ds)
def pur1 (f : D → Option D) : List D → P1 D := fun ds => pur (match ds with | [x] => f x | _ => none)
def purL (f : List D → Option D) : List D → P1 D := fun ds => pur (f ds)
section
variable {X : Cx} {We : WE'} {x : Str} {p pos : Pos} {e : Expr} {es : List Expr} {da : En → M (List D)} {r : List V → Hp → VK → Prop} {f : List D → P1 D}
theorem call_up (hd : CallD (Cxp X) r f) {σ : L2.St} {H : Hp} {Q : VK} (h : upE (Cxp X) We (dCall f da) σ H Q) : upA (Cxp X) We da σ H (fun vs H1 => r vs H1 Q) := by
  obtain ⟨W, ρ, r, G', hR, e, p⟩ := h
  refine up_bnd hR e p fun d W1 v H1 x1 R1 r1 e1 p1 => ?_
  obtain ⟨d2, e2, p2⟩ := up_lft e1 p1
  exact hd W1 H1 v d d2 G' Q R1.gr r1 e2 p2
theorem te_blt {id : String} (hc : CallR X (.builtin id) r) (hd : CallD (Cxp X) r f) (hg : Gl X x) (hm : X.mg x = none) (hv : bootBuiltins x = some (.builtin id)) (ha : PA X (e :: es) (upA (Cxp X) We da)) (hn : x ≠ "__name__" := by decide) (hdb : (x == ("__debug__" : Str)) = false := by decide)
    (he : starEach (e :: es) X.env = (false, eval e X.env) :: starEach es X.env := by rfl) (hpl : (backTo pos (starEach es X.env)).any (·.1) = false := by rfl) :
    PE X (.Call (.Name x p) (e :: es) [] pos) (upE (Cxp X) We (dCall f da)) := PE.imp (pe_callB hc hg hm hv ha hn hdb he hpl) fun σ H Q h => call_up hd h
theorem te_ty {T : String} (hc : CallR X (.type T) r) (hd : CallD (Cxp X) r f) (hg : Gl X x) (hm : X.mg x = none) (hv : bootBuiltins x = some (.type T)) (ha : PA X (e :: es) (upA (Cxp X) We da)) (hn : x ≠ "__name__" := by decide) (hdb : (x == ("__debug__" : Str)) = false := by decide)
    (he : starEach (e :: es) X.env = (false, eval e X.env) :: starEach es X.env := by rfl) (hpl : (backTo pos (starEach es X.env)).any (·.1) = false := by rfl) :
    PE X (.Call (.Name x p) (e :: es) [] pos) (upE (Cxp X) We (dCall f da)) := PE.imp (pe_callTy hc hg hm hv ha hn hdb he hpl) fun σ H Q h => call_up hd h
end
section
variable {K : Pm}
theorem pur1_eq {f : D → Option D} {ds : List D} {d : D} {G G' : List O} (h : pur1 f ds G = some (d, G')) : ∃ x, ds = [x] ∧ f x = some d ∧ G' = G := by
  obtain ⟨e, eg⟩ := pur_eq h
  split at e
  · exact ⟨_, rfl, e, eg⟩
  · cases e
/-- len -/
def lenP : List D → P1 D := fun ds G => match ds with
  | [.str x] => if x.length ≤ mx then some (.int x.length, G) else none
  | [.tup xs] => some (.int xs.length, G)
  | [.lst xs] => some (.int xs.length, G)
  | [.scr xs] => some (.int xs.length, G)
  | [.ref n] => match G[n]? with
    | some (.lst xs) => some (.int xs.length, G)
    | _ => none
  | _ => none
theorem cd_len : CallD K (fun xs H Q => ∃ x n, xs = [x] ∧ LenV K.K x H n ∧ Q (.int n) H) lenP := fun W H vs ds d G' Q g r e p => by
  unfold lenP at e
  split at e
  · split at e
    · rename_i z
      cases e
      cases r with
      | cons h r => cases r; cases h; exact ⟨_, _, rfl, ⟨mx_line z, rfl⟩, p W _ H rfl Ext.refl g (.int _)⟩
    · cases e
  · cases e
    cases r with
    | cons h r => cases r; cases h with
      | tup h q => exact ⟨_, _, rfl, .inr ⟨_, h, rfl⟩, p W _ H rfl Ext.refl g (by rw [q.length]; exact .int _)⟩
  · cases e
    cases r with
    | cons h r => cases r; cases h with
      | lst h n q => exact ⟨_, _, rfl, .inl ⟨_, SqL.of h, rfl⟩, p W _ H rfl Ext.refl g (by rw [q.length]; exact .int _)⟩
  · cases e
    cases r with
    | cons h r => cases r; cases h with
      | scr h q => exact ⟨_, _, rfl, .inl ⟨_, h.sq, rfl⟩, p W _ H rfl Ext.refl g (by rw [q.length]; exact .int _)⟩
  · split at e
    · rename_i hn
      cases e
      cases r with
      | cons h r => cases r; cases h with
        | ref ha =>
          obtain ⟨ws, hh, q⟩ := g.obj _ _ _ ha hn
          exact ⟨_, _, rfl, .inl ⟨_, SqL.of hh, rfl⟩, p W _ H rfl Ext.refl g (by rw [q.length]; exact .int _)⟩
    · cases e
  · cases e
/-- int(n), int(flag); abs; min, max of two ints -/
def intF : D → Option D
  | .int i => some (.int i)
  | .bl k => some (.int (if k then 1 else 0))
  | _ => none
theorem cd_int : CallD K (fun xs H Q => (∃ i, xs = [.int i] ∧ Q (.int i) H) ∨ ∃ k, xs = [.bl k] ∧ Q (.int (if k then 1 else 0)) H) (pur1 intF) := fun W H vs ds d G' Q g r e p => by
  obtain ⟨x, rfl, e0, rfl⟩ := pur1_eq e
  unfold intF at e0
  split at e0
  · cases e0
    cases r with
    | cons h r => cases r; cases h; exact .inl ⟨_, rfl, p W _ H rfl Ext.refl g (.int _)⟩
  · cases e0
    cases r with
    | cons h r => cases r; cases h; exact .inr ⟨_, rfl, p W _ H rfl Ext.refl g (.int _)⟩
  · cases e0
def absF : D → Option D
  | .int i => some (.int (if i < 0 then -i else i))
  | _ => none
theorem cd_abs : CallD K (fun xs H Q => ∃ i, xs = [.int i] ∧ Q (.int (if i < 0 then -i else i)) H) (pur1 absF) := fun W H vs ds d G' Q g r e p => by
  obtain ⟨x, rfl, e0, rfl⟩ := pur1_eq e
  unfold absF at e0
  split at e0
  · cases e0
    cases r with
    | cons h r => cases r; cases h; exact ⟨_, rfl, p W _ H rfl Ext.refl g (.int _)⟩
  · cases e0
def ii (f : Int → Int → Int) : List D → Option D
  | [.int i, .int j] => some (.int (f i j))
  | _ => none
theorem cd_ii {f : Int → Int → Int} : CallD K (fun xs H Q => ∃ i j, xs = [.int i, .int j] ∧ Q (.int (f i j)) H) (purL (ii f)) := fun W H vs ds d G' Q g r e p => by
  obtain ⟨e0, rfl⟩ := pur_eq e
  unfold ii at e0
  split at e0
  · cases e0
    cases r with
    | cons h r => cases r with
      | cons h2 r => cases r; cases h; cases h2; exact ⟨_, _, rfl, p W _ H rfl Ext.refl g (.int _)⟩
  · cases e0
abbrev min2 : Int → Int → Int := fun i j => if j < i then j else i
abbrev max2 : Int → Int → Int := fun i j => if j > i then j else i
/-- all, any of a list of bools; sum of a list of ints -/
def blsO : List D → Option (List Bool)
  | [] => some []
  | .bl b :: r => (blsO r).map fun bs => b :: bs
  | _ :: _ => none
def intsO : List D → Option (List Int)
  | [] => some []
  | .int b :: r => (intsO r).map fun bs => b :: bs
  | _ :: _ => none
def strsO : List D → Option (List Str)
  | [] => some []
  | .str b :: r => (strsO r).map fun bs => b :: bs
  | _ :: _ => none
section
variable {L : Addr → Prop} {α : List Addr} {H : Hp}
theorem bls_v : ∀ {vs : List V} {ds : List D} {bs : List Bool}, Drs K L α H vs ds → blsO ds = some bs → vs = bs.map V.bl
  | _, _, _, .nil, e => by cases e; rfl
  | _, _, _, .cons (d := d) h r, e => by
    cases d with
    | bl b =>
      obtain ⟨q, h1, rfl⟩ := Option.map_eq_some_iff.mp (by simpa [blsO] using e)
      cases h
      rw [List.map_cons, bls_v r h1]
    | _ => cases e
theorem ints_v : ∀ {vs : List V} {ds : List D} {bs : List Int}, Drs K L α H vs ds → intsO ds = some bs → vs = bs.map V.int
  | _, _, _, .nil, e => by cases e; rfl
  | _, _, _, .cons (d := d) h r, e => by
    cases d with
    | int b =>
      obtain ⟨q, h1, rfl⟩ := Option.map_eq_some_iff.mp (by simpa [intsO] using e)
      cases h
      rw [List.map_cons, ints_v r h1]
    | _ => cases e
theorem strs_v : ∀ {vs : List V} {ds : List D} {bs : List Str}, Drs K L α H vs ds → strsO ds = some bs → vs = bs.map V.str
  | _, _, _, .nil, e => by cases e; rfl
  | _, _, _, .cons (d := d) h r, e => by
    cases d with
    | str b =>
      obtain ⟨q, h1, rfl⟩ := Option.map_eq_some_iff.mp (by simpa [strsO] using e)
      cases h
      rw [List.map_cons, strs_v r h1]
    | _ => cases e
theorem drs_strs : ∀ xs : List Str, Drs K L α H (xs.map V.str) (xs.map D.str)
  | [] => .nil
  | x :: xs => .cons (.str x) (drs_strs xs)
end
/-- what stands in a list, ours or not -/
def inL (d : D) (G : List O) : Option (List D) := match d with
  | .lst xs => some xs
  | .scr xs => some xs
  | .ref n => match G[n]? with
    | some (.lst xs) => some xs
    | _ => none
  | _ => none
theorem inL_sq {W : Wd} {H : Hp} {v : V} {d : D} {xs : List D} (g : Gr K W H) (r : Rv K W H v d) (e : inL d W.G = some xs) : ∃ a vs, v = .ref a ∧ SqL K.K H a vs ∧ Rvs K W H vs xs := by
  unfold inL at e
  split at e
  · cases e; cases r with
    | lst h n q => exact ⟨_, _, rfl, SqL.of h, q⟩
  · cases e; cases r with
    | scr h q => exact ⟨_, _, rfl, h.sq, q⟩
  · split at e
    · rename_i hn
      cases e; cases r with
      | ref ha =>
        obtain ⟨vs, hh, q⟩ := g.obj _ _ _ ha hn
        exact ⟨_, vs, rfl, SqL.of hh, q⟩
    · cases e
  · cases e
def lP (f : List D → Option D) : List D → P1 D := fun ds G => match ds with
  | [x] => match inL x G with
    | some xs => match f xs with
      | some d => some (d, G)
      | none => none
    | none => none
  | _ => none
theorem lP_eq {f : List D → Option D} {ds : List D} {d : D} {G G' : List O} (h : lP f ds G = some (d, G')) : ∃ x xs, ds = [x] ∧ inL x G = some xs ∧ f xs = some d ∧ G' = G := by
  unfold lP at h
  split at h
  · split at h
    · split at h
      · rename_i h1 _ _ h2
        cases h
        exact ⟨_, _, rfl, h1, h2, rfl⟩
      · cases h
    · cases h
  · cases h
def allF (xs : List D) : Option D := (blsO xs).map fun bs => .bl (bs.all id)
def anyF (xs : List D) : Option D := (blsO xs).map fun bs => .bl (bs.any id)
def sumF (xs : List D) : Option D := (intsO xs).map fun bs => .int bs.sum
theorem cd_all : CallD K (rAll K.K) (lP allF) := fun W H vs ds d G' Q g r e p => by
  obtain ⟨x, xs, rfl, h1, h2, rfl⟩ := lP_eq e
  obtain ⟨bs, h3, rfl⟩ := Option.map_eq_some_iff.mp h2
  cases r with
  | cons h r =>
    cases r
    obtain ⟨a, ws, rfl, sq, q⟩ := inL_sq g h h1
    cases bls_v q h3
    exact ⟨a, bs, rfl, sq, p W _ H rfl Ext.refl g (.bl _)⟩
theorem cd_any : CallD K (rAny K.K) (lP anyF) := fun W H vs ds d G' Q g r e p => by
  obtain ⟨x, xs, rfl, h1, h2, rfl⟩ := lP_eq e
  obtain ⟨bs, h3, rfl⟩ := Option.map_eq_some_iff.mp h2
  cases r with
  | cons h r =>
    cases r
    obtain ⟨a, ws, rfl, sq, q⟩ := inL_sq g h h1
    cases bls_v q h3
    exact ⟨a, bs, rfl, sq, p W _ H rfl Ext.refl g (.bl _)⟩
theorem cd_sum : CallD K (rSum K.K) (lP sumF) := fun W H vs ds d G' Q g r e p => by
  obtain ⟨x, xs, rfl, h1, h2, rfl⟩ := lP_eq e
  obtain ⟨bs, h3, rfl⟩ := Option.map_eq_some_iff.mp h2
  cases r with
  | cons h r =>
    cases r
    obtain ⟨a, ws, rfl, sq, q⟩ := inL_sq g h h1
    cases ints_v q h3
    exact ⟨a, bs, rfl, sq, p W _ H rfl Ext.refl g (.int _)⟩
/-- list(x), tuple(x): of a list, a tuple -/
def inS (d : D) (G : List O) : Option (List D) := match d with
  | .tup xs => some xs
  | d => inL d G
def listP (f : List D → P1 D) : List D → P1 D := fun ds G => match ds with
  | [x] => match inS x G with
    | some xs => f xs G
    | none => none
  | _ => none
theorem inS_sq {W : Wd} {H : Hp} {v : V} {d : D} {xs : List D} (g : Gr K W H) (r : Rv K W H v d) (e : inS d W.G = some xs) : ∃ a vs, v = .ref a ∧ ((SqL K.K H a vs ∧ ∀ zs, d ≠ .tup zs) ∨ (SqT K.K H a vs ∧ d = .tup xs)) ∧ Rvs K W H vs xs := by
  unfold inS at e
  split at e
  · cases e; cases r with
    | tup h q => exact ⟨_, _, rfl, .inr ⟨h, rfl⟩, q⟩
  · rename_i hne
    obtain ⟨a, vs, rfl, sq, q⟩ := inL_sq g r e
    exact ⟨a, vs, rfl, .inl ⟨sq, fun zs h => hne zs h⟩, q⟩
theorem listP_eq {f : List D → P1 D} {ds : List D} {d : D} {G G' : List O} (h : listP f ds G = some (d, G')) : ∃ x xs, ds = [x] ∧ inS x G = some xs ∧ f xs G = some (d, G') := by
  unfold listP at h
  split at h
  · split at h
    · exact ⟨_, _, rfl, by assumption, h⟩
    · cases h
  · cases h
abbrev rListOf (K : PySem.W.Frag) : List V → Hp → VK → Prop := fun xs H Q => ∃ p ys, xs = [.ref p] ∧ (SqL K H p ys ∨ SqT K H p ys) ∧ ∀ l, H l = none → Q (.ref l) (upd H l (.lst ys))
theorem cd_list : CallD K (rListOf K.K) (listP okL) := fun W H vs ds d G' Q g r e p => by
  obtain ⟨x, xs, rfl, h1, h2⟩ := listP_eq e
  obtain ⟨h3, rfl⟩ := pur_eq h2
  obtain ⟨z, rfl⟩ := lstO_eq h3
  cases r with
  | cons h r =>
    cases r
    obtain ⟨a, ws, rfl, sq, q⟩ := inS_sq g h h1
    refine ⟨a, ws, rfl, sq.elim (fun z => .inl z.1) fun z => .inr z.1, fun l n => ?_⟩
    obtain ⟨g', x', rv⟩ := lst_new g q n
    exact p W _ _ rfl x' g' rv
theorem cd_listM : CallD K (rListOf K.K) (listP newL) := fun W H vs ds d G' Q g r e p => by
  obtain ⟨x, xs, rfl, h1, h2⟩ := listP_eq e
  obtain ⟨z, rfl, rfl⟩ := newL_eq h2
  cases r with
  | cons h r =>
    cases r
    obtain ⟨a, ws, rfl, sq, q⟩ := inS_sq g h h1
    refine ⟨a, ws, rfl, sq.elim (fun z => .inl z.1) fun z => .inr z.1, fun l n => ?_⟩
    obtain ⟨g', x', rv⟩ := mut_new g q n
    exact p (W.new l (.lst xs)) _ _ rfl x' g' rv
abbrev rTupOf (K : PySem.W.Frag) : List V → Hp → VK → Prop := fun xs H Q => ∃ p ys, xs = [.ref p] ∧ ((SqL K H p ys ∧ ∀ l, H l = none → Q (.ref l) (upd H l (.tup ys))) ∨ (SqT K H p ys ∧ Q (.ref p) H))
theorem cd_tup : CallD K (rTupOf K.K) (listP fun xs => pur (some (.tup xs))) := fun W H vs ds d G' Q g r e p => by
  obtain ⟨x, xs, rfl, h1, h2⟩ := listP_eq e
  obtain ⟨h3, rfl⟩ := pur_eq h2
  cases h3
  cases r with
  | cons h r =>
    cases r
    obtain ⟨a, ws, rfl, sq, q⟩ := inS_sq g h h1
    rcases sq with ⟨sq, _⟩ | ⟨sq, rfl⟩
    · refine ⟨a, ws, rfl, .inl ⟨sq, fun l n => ?_⟩⟩
      obtain ⟨g', x', rv⟩ := tup_new g q n
      exact p W _ _ rfl x' g' rv
    · exact ⟨a, ws, rfl, .inr ⟨sq, p W _ H rfl Ext.refl g h⟩⟩
end
end Tw

namespace Tw
open PySem PySem.Spec PyProof.Rows L2

/-! ### methods of our lists -/
def MethD (K : Pm) (r : V → List V → Hp → VK → Prop) (f : D → List D → P1 D) : Prop := ∀ (W : Wd) (H : Hp) (x : V) (vs : List V) (o : D) (ds : List D) (d : D) (G' : List O) (Q : VK), Gr K W H → Rv K W H x o → Rvs K W H vs ds → f o ds W.G = some (d, G') →
  (∀ (W' : Wd) (v : V) (H' : Hp), W'.G = G' → Ext W H W' H' → Gr K W' H' → Rv K W' H' v d → Q v H') → r x vs H Q
def isLs (d : D) : P1 Unit := fun G => match inL d G with
  | some _ => some ((), G)
  | none => none
def dMeth (f : D → List D → P1 D) (o : En → M D) (a : En → M (List D)) : En → M D := fun ρ => bnd (o ρ) fun x => bnd (lft (isLs x)) fun _ => bnd (a ρ) fun ds => lft (f x ds)
def dMeth0 (f : D → List D → P1 D) (o : En → M D) : En → M D := fun ρ => bnd (o ρ) fun x => bnd (lft (isLs x)) fun _ => lft (f x [])
theorem isLs_eq {d : D} {G G' : List O} {u : Unit} (h : isLs d G = some (u, G')) : ∃ xs, inL d G = some xs ∧ G' = G := by
  unfold isLs at h
  split at h
  · cases h; exact ⟨_, by assumption, rfl⟩
  · cases h
section
variable {X : Cx} {We : WE'} {o e : Expr} {es : List Expr} {name : Str} {apos cpos : Pos} {id : String} {r : V → List V → Hp → VK → Prop} {f : D → List D → P1 D} {dO : En → M D} {da : En → M (List D)}
theorem te_lm (slot : Slot "list" name id) (hty : typeOf (.builtin id) = pure (.type "method_descriptor")) (hm : MtR X id r) (hd : MethD (Cxp X) r f) (ho : PE X o (upE (Cxp X) We dO)) (ha : PA X (e :: es) (upA (Cxp X) We da))
    (h1 : attributeBase o name X.env (eval o X.env) = eval o X.env := by rfl)
    (h2 : (((backTo cpos (starEach (e :: es) X.env)).all fun x => !x.1) && ((backToKw cpos (keywordEach [] X.env)).all fun x => x.1.isSome) && decide ((e :: es).length + ([] : List Keyword).length + (if ([] : List Keyword).isEmpty then 0 else 1) < 30)) = true := by rfl)
    (h3 : (apos.endLine == cpos.line) = true := by rfl) (h4 : starEach (e :: es) X.env = (false, eval e X.env) :: starEach es X.env := by rfl) (h5 : (backTo cpos (starEach es X.env)).any (·.1) = false := by rfl) :
    PE X (.Call (.Attribute o name apos) (e :: es) [] cpos) (upE (Cxp X) We (dMeth f dO da)) := PE.imp (pe_bm PySem.F.plainAttrs_list slot hty hm ho ha h1 h2 h3 h4 h5) fun σ H Q h => by
  obtain ⟨W, ρ, r, G', hR, e, p⟩ := h
  refine up_bnd hR e p fun d W1 v H1 x1 R1 r1 e1 p1 => ?_
  obtain ⟨u, G2, e2, e3⟩ := bnd_lft e1
  obtain ⟨xs, hx, rfl⟩ := isLs_eq e2
  obtain ⟨a, vs, rfl, sq, _⟩ := inL_sq R1.gr r1 hx
  refine ⟨.inl ⟨rfl, vs, sq⟩, up_bnd R1 e3 p1 fun ds W4 ws H4 x4 R4 r4 e4 p4 => ?_⟩
  obtain ⟨d5, e5, p5⟩ := up_lft e4 p4
  exact hd W4 H4 _ ws d ds d5 G' Q R4.gr (r1.keep R1.gr x4) r4 e5 p5
theorem te_lm0 (slot : Slot "list" name id) (hty : typeOf (.builtin id) = pure (.type "method_descriptor")) (hm : MtR X id r) (hd : MethD (Cxp X) r f) (ho : PE X o (upE (Cxp X) We dO)) {t : PE X (.Call (.Attribute o name apos) [] [] cpos) (tBM0 X.K "list" r (upE (Cxp X) We dO))} :
    PE X (.Call (.Attribute o name apos) [] [] cpos) (upE (Cxp X) We (dMeth0 f dO)) := PE.imp t fun σ H Q h => by
  obtain ⟨W, ρ, r, G', hR, e, p⟩ := h
  refine up_bnd hR e p fun d W1 v H1 x1 R1 r1 e1 p1 => ?_
  obtain ⟨u, G2, e2, e3⟩ := bnd_lft e1
  obtain ⟨xs, hx, rfl⟩ := isLs_eq e2
  obtain ⟨a, vs, rfl, sq, _⟩ := inL_sq R1.gr r1 hx
  obtain ⟨d5, e5, p5⟩ := up_lft e3 p1
  exact ⟨.inl ⟨rfl, vs, sq⟩, hd W1 H1 _ [] d [] d5 G' Q R1.gr r1 .nil e5 p5⟩
end
section
variable {K : Pm}
theorem put_list {W : Wd} {H : Hp} {n : Nat} {a : Addr} {xs ys : List D} {vs ws : List V} (g : Gr K W H) (ha : W.α[n]? = some a) (hn : W.G[n]? = some (.lst xs)) (r : Rvs K W H ws ys) :
    Gr K (W.put n (.lst ys)) (upd H a (.lst ws)) ∧ Ext W H (W.put n (.lst ys)) (upd H a (.lst ws)) := by
  have x : Ext W H (W.put n (.lst ys)) (upd H a (.lst ws)) := Ext.put g ha hn (fun z => nomatch z)
  exact ⟨g.put ha hn (fun z => nomatch z) ⟨ws, upd_same, r.keep g x⟩, x⟩
def appF : D → List D → P1 D := fun o ds G => match o, ds with
  | .ref n, [y] => match G[n]? with
    | some (.lst xs) => if xs.length + 1 ≤ mx then some (.non, G.set n (.lst (xs ++ [y]))) else none
    | _ => none
  | _, _ => none
theorem md_app : MethD K rAppend appF := fun W H x vs o ds d G' Q g r1 r2 e p => by
  unfold appF at e
  split at e
  · split at e
    · rename_i hn
      split at e
      · rename_i z
        cases e
        cases r1 with
        | ref ha =>
          cases r2 with
          | cons h r2 =>
            cases r2
            obtain ⟨ws, hh, q⟩ := g.obj _ _ _ ha hn
            obtain ⟨g', x'⟩ := put_list (vs := ws) g ha hn (q.app (.cons h .nil))
            exact ⟨_, ws, _, rfl, rfl, hh, mx_lt (by rw [q.length]; omega), p (W.put _ _) _ _ rfl x' g' .non⟩
      · cases e
    · cases e
  · cases e
def popF : D → List D → P1 D := fun o ds G => match o, ds with
  | .ref n, [] => match G[n]? with
    | some (.lst xs) => match xs[xs.length - 1]? with
      | some y => some (y, G.set n (.lst xs.dropLast))
      | none => none
    | _ => none
  | _, _ => none
theorem Drs.dropLast {L : Addr → Prop} {α : List Addr} {H : Hp} : ∀ {vs : List V} {ds : List D}, Drs K L α H vs ds → Drs K L α H vs.dropLast ds.dropLast
  | _, _, .nil => .nil
  | _, _, .cons h .nil => .nil
  | _, _, .cons h (.cons h2 r) => .cons h (Drs.dropLast (.cons h2 r))
theorem Drs.erase {L : Addr → Prop} {α : List Addr} {H : Hp} : ∀ {vs : List V} {ds : List D} (i : Nat), Drs K L α H vs ds → Drs K L α H (vs.eraseIdx i) (ds.eraseIdx i)
  | _, _, _, .nil => .nil
  | _, _, 0, .cons h r => r
  | _, _, i + 1, .cons h r => .cons h (Drs.erase i r)
theorem Drs.set {L : Addr → Prop} {α : List Addr} {H : Hp} {v : V} {d : D} (q : Dr K L α H v d) : ∀ {vs : List V} {ds : List D} (i : Nat), Drs K L α H vs ds → Drs K L α H (vs.set i v) (ds.set i d)
  | _, _, _, .nil => .nil
  | _, _, 0, .cons h r => .cons q r
  | _, _, i + 1, .cons h r => .cons h (Drs.set q i r)
theorem md_pop : MethD K rPop popF := fun W H x vs o ds d G' Q g r1 r2 e p => by
  unfold popF at e
  split at e
  · split at e
    · rename_i hn
      split at e
      · rename_i y hy
        cases e
        cases r1 with
        | ref ha =>
          cases r2
          obtain ⟨ws, hh, q⟩ := g.obj _ _ _ ha hn
          obtain ⟨g', x'⟩ := put_list (vs := ws) g ha hn q.dropLast
          obtain ⟨v, h1, h2⟩ := q.at hy
          exact ⟨_, ws, v, rfl, rfl, hh, by rw [q.length]; exact h1, p (W.put _ _) _ _ rfl x' g' (h2.keep g x')⟩
      · cases e
    · cases e
  · cases e
def popAtF : D → List D → P1 D := fun o ds G => match o, ds with
  | .ref n, [.int i] => match G[n]? with
    | some (.lst xs) => if (smallI i) = true then match seqIndex? i xs.length with
      | some k => match xs[k]? with
        | some y => some (y, G.set n (.lst (xs.eraseIdx k)))
        | none => none
      | none => none
      else none
    | _ => none
  | _, _ => none
theorem md_popAt : MethD K rPopAt popAtF := fun W H x vs o ds d G' Q g r1 r2 e p => by
  unfold popAtF at e
  split at e
  · split at e
    · rename_i hn
      split at e
      · rename_i hs
        split at e
        · rename_i k hk
          split at e
          · rename_i y hy
            cases e
            cases r1 with
            | ref ha =>
              cases r2 with
              | cons h r2 =>
                cases r2; cases h
                obtain ⟨ws, hh, q⟩ := g.obj _ _ _ ha hn
                obtain ⟨g', x'⟩ := put_list (vs := ws) g ha hn (q.erase k)
                obtain ⟨v, h1, h2⟩ := q.at hy
                obtain ⟨s1, s2⟩ := smallI_eq hs
                exact ⟨_, ws, _, k, v, rfl, rfl, hh, by omega, by omega, by rw [q.length]; exact hk, h1, p (W.put _ _) _ _ rfl x' g' (h2.keep g x')⟩
          · cases e
        · cases e
      · cases e
    · cases e
  · cases e
def extF : D → List D → P1 D := fun o ds G => match o, ds with
  | .ref n, [.lst ys] => match G[n]? with
    | some (.lst xs) => if xs.length + ys.length ≤ mx then some (.non, G.set n (.lst (xs ++ ys))) else none
    | _ => none
  | _, _ => none
theorem md_ext : MethD K rExtend extF := fun W H x vs o ds d G' Q g r1 r2 e p => by
  unfold extF at e
  split at e
  · split at e
    · rename_i hn
      split at e
      · rename_i z
        cases e
        cases r1 with
        | ref ha =>
          cases r2 with
          | cons h r2 =>
            cases r2
            cases h with
            | lst hl nl ql =>
              obtain ⟨ws, hh, q⟩ := g.obj _ _ _ ha hn
              obtain ⟨g', x'⟩ := put_list (vs := ws) g ha hn (q.app ql)
              exact ⟨_, _, ws, _, rfl, rfl, hh, hl, mx_line (by rw [q.length, ql.length]; exact z), p (W.put _ _) _ _ rfl x' g' .non⟩
      · cases e
    · cases e
  · cases e
end

/-! ### xs[i] = e -/
def gSubD (o i : En → M D) (f : D → D → D → P1 Unit) : D → En → P1 En := fun d ρ G => match o ρ G with
  | some (.inr x, G1) => match i ρ G1 with
    | some (.inr j, G2) => match f x j d G2 with
      | some (_, G3) => some (ρ, G3)
      | none => none
    | _ => none
  | _ => none
def setF : D → D → D → P1 Unit := fun o i v G => match o, i with
  | .ref n, .int k => match G[n]? with
    | some (.lst xs) => match ixN xs.length k with
      | some j => some ((), G.set n (.lst (xs.set j v)))
      | none => none
    | _ => none
  | _, _ => none
theorem tg_set {X : Cx} {o i : Expr} {dO di : En → M D} {pos : Pos} (ho : PE X o (upE (Cxp X) WeF dO)) (hi : PE X i (upE (Cxp X) WeF di)) {t : PG X (.Subscript o i pos) (gSub (upE (Cxp X) WeF dO) (upE (Cxp X) WeF di) rSetL)} :
    PG X (.Subscript o i pos) (upG (Cxp X) (gSubD dO di setF)) := PG.imp t fun v σ H Q h => by
  obtain ⟨W, ρ, d, ρ', G', hR, rv, e, p⟩ := h
  unfold gSubD at e
  split at e
  · rename_i x G1 e1
    split at e
    · rename_i j G2 e2
      split at e
      · rename_i u G3 e3
        cases e
        refine ⟨W, ρ, .inr x, G1, hR, e1, fun W1 vx H1 eg1 x1 g1 r1 => ?_⟩
        refine ⟨W1, ρ, .inr j, G2, hR.keep g1 x1, by rw [eg1]; exact e2, fun W2 vj H2 eg2 x2 g2 r2 => ?_⟩
        have rv' := (rv.keep hR.gr x1).keep g1 x2
        have r1' := r1.keep g1 x2
        rw [← eg2] at e3
        unfold setF at e3
        split at e3
        · split at e3
          · rename_i hn
            split at e3
            · rename_i jj hj
              cases e3
              cases r1' with
              | ref ha =>
                cases r2
                obtain ⟨ws, hh, q⟩ := g2.obj _ _ _ ha hn
                obtain ⟨g', x'⟩ := put_list (vs := ws) g2 ha hn (Drs.set rv' jj q)
                exact ⟨_, ws, _, jj, rfl, rfl, hh, by rw [q.length]; exact hj, p (W2.put _ _) σ _ rfl (x1.trans (x2.trans x')) (hR.keep g' (x1.trans (x2.trans x')))⟩
            · cases e3
          · cases e3
        · cases e3
      · cases e
    · cases e
  · cases e

/-! ### sorted, of texts -/
def leC (a b : Str) : Bool := !ltCps b.cps.toList a.cps.toList
def insS (a : Str) : List Str → List Str
  | [] => [a]
  | b :: r => if leC a b = true then a :: b :: r else b :: insS a r
def sortS : List Str → List Str
  | [] => []
  | a :: r => insS a (sortS r)
theorem ltCps_asym : ∀ (a b : List Nat), ltCps a b = true → ltCps b a = false
  | [], [], h => by cases h
  | [], _ :: _, _ => rfl
  | _ :: _, [], h => by cases h
  | a :: r, b :: t, h => by
    simp only [ltCps, Bool.or_eq_true, Bool.and_eq_true, decide_eq_true_eq, beq_iff_eq] at h
    simp only [ltCps, Bool.or_eq_false_iff, Bool.and_eq_false_iff, decide_eq_false_iff_not, beq_eq_false_iff_ne]
    rcases h with h | ⟨rfl, h⟩
    · exact ⟨by omega, .inl (by omega)⟩
    · exact ⟨by omega, .inr (ltCps_asym r t h)⟩
theorem ltCps_tri : ∀ (a b : List Nat), ltCps a b = false → ltCps b a = false → a = b
  | [], [], _, _ => rfl
  | [], _ :: _, h, _ => by cases h
  | _ :: _, [], _, h => by cases h
  | a :: r, b :: t, h, h' => by
    simp only [ltCps, Bool.or_eq_false_iff, Bool.and_eq_false_iff, decide_eq_false_iff_not, beq_eq_false_iff_ne] at h h'
    have e : a = b := by omega
    subst e
    have h1 : ltCps r t = false := by rcases h.2 with q | q <;> first | exact absurd rfl q | exact q
    have h2 : ltCps t r = false := by rcases h'.2 with q | q <;> first | exact absurd rfl q | exact q
    rw [ltCps_tri r t h1 h2]
theorem ltCps_tr : ∀ (a b c : List Nat), ltCps b a = false → ltCps c b = false → ltCps c a = false
  | [], _, [], _, _ => rfl
  | [], _, _ :: _, _, _ => rfl
  | _ :: _, [], _, h, _ => by cases h
  | _ :: _, _ :: _, [], _, h => by cases h
  | x :: r, y :: s, z :: t, h, h' => by
    simp only [ltCps, Bool.or_eq_false_iff, Bool.and_eq_false_iff, decide_eq_false_iff_not, beq_eq_false_iff_ne] at h h' ⊢
    refine ⟨by omega, ?_⟩
    by_cases e : z = x
    · have e1 : y = x := by omega
      have e2 : z = y := by omega
      subst e1 e2
      right
      have h1 : ltCps s r = false := by rcases h.2 with q | q <;> first | exact absurd rfl q | exact q
      have h2 : ltCps t s = false := by rcases h'.2 with q | q <;> first | exact absurd rfl q | exact q
      exact ltCps_tr r s t h1 h2
    · exact .inl e
abbrev SrtS (l : List Str) : Prop := l.Pairwise fun a b => leC a b = true
theorem leC_tr {a b c : Str} (h : leC a b = true) (h' : leC b c = true) : leC a c = true := by
  unfold leC at *
  simp only [Bool.not_eq_true'] at *
  exact ltCps_tr _ _ _ h h'
theorem leC_tot {a b : Str} (h : leC a b = false) : leC b a = true := by
  unfold leC at *
  simp only [Bool.not_eq_false', Bool.not_eq_true'] at *
  exact ltCps_asym _ _ h
theorem ins_mem {a x : Str} : ∀ {l : List Str}, x ∈ insS a l ↔ x = a ∨ x ∈ l
  | [] => by simp [insS]
  | b :: r => by
    unfold insS
    split
    · simp
    · simp only [List.mem_cons, ins_mem (l := r)]
      constructor
      · rintro (h | h | h)
        · exact .inr (.inl h)
        · exact .inl h
        · exact .inr (.inr h)
      · rintro (h | h | h)
        · exact .inr (.inl h)
        · exact .inl h
        · exact .inr (.inr h)
theorem ins_srt {a : Str} : ∀ {l : List Str}, SrtS l → SrtS (insS a l)
  | [], _ => List.pairwise_singleton _ _
  | b :: r, h => by
    have hb := List.pairwise_cons.mp h
    unfold insS
    split
    · rename_i q
      refine List.pairwise_cons.mpr ⟨fun x hx => ?_, h⟩
      rcases List.mem_cons.mp hx with rfl | hx
      · exact q
      · exact leC_tr q (hb.1 x hx)
    · rename_i q
      refine List.pairwise_cons.mpr ⟨fun x hx => ?_, ins_srt hb.2⟩
      rcases ins_mem.mp hx with rfl | hx
      · exact leC_tot (by simpa using q)
      · exact hb.1 x hx
theorem ins_perm {a : Str} : ∀ {l : List Str}, (insS a l).Perm (a :: l)
  | [] => List.Perm.refl _
  | b :: r => by
    unfold insS
    split
    · exact List.Perm.refl _
    · exact (List.Perm.cons b (ins_perm (l := r))).trans (List.Perm.swap a b r)
theorem sortS_srt : ∀ l : List Str, SrtS (sortS l)
  | [] => .nil
  | a :: r => ins_srt (sortS_srt r)
theorem sortS_perm : ∀ l : List Str, (sortS l).Perm l
  | [] => List.Perm.refl _
  | a :: r => ins_perm.trans (List.Perm.cons a (sortS_perm r))
theorem rising_srt : ∀ (l : List Str) (p : Str), risingS p l = true → SrtS (p :: l)
  | [], p, _ => List.pairwise_singleton _ _
  | x :: r, p, h => by
    simp only [risingS, Bool.and_eq_true, Bool.not_eq_true'] at h
    have ih := rising_srt r x h.2
    have px : leC p x = true := by unfold leC; rw [h.1]; rfl
    refine List.pairwise_cons.mpr ⟨fun y hy => ?_, ih⟩
    rcases List.mem_cons.mp hy with rfl | hy
    · exact px
    · exact leC_tr px ((List.pairwise_cons.mp ih).1 y hy)
theorem str_of_tri {a b : Str} (h1 : leC a b = true) (h2 : leC b a = true) : a = b := by
  unfold leC at *
  simp only [Bool.not_eq_true'] at *
  have e := ltCps_tri _ _ h2 h1
  obtain ⟨⟨a⟩⟩ := a
  obtain ⟨⟨b⟩⟩ := b
  have e' : a = b := e
  rw [e']
theorem sortS_one {l m : List Str} (h : m.Perm l) (s : sortedS m = true) : m = sortS l := by
  have sm : SrtS m := by
    cases m with
    | nil => exact .nil
    | cons p r => exact rising_srt r p s
  exact List.Perm.eq_of_pairwise (fun x y _ _ h1 h2 => str_of_tri h1 h2) sm (sortS_srt l) (h.trans (sortS_perm l).symm)
def sortF (xs : List D) : Option D := match strsO xs with
  | some ss => if ss.length < 64 then some (.lst ((sortS ss).map .str)) else none
  | none => none
theorem cd_sortS {K : Pm} : CallD K (rSortedS K.K) (lP sortF) := fun W H vs ds d G' Q g r e p => by
  obtain ⟨x, xs, rfl, h1, h2, rfl⟩ := lP_eq e
  unfold sortF at h2
  split at h2
  · rename_i ss hs
    split at h2
    · rename_i hz
      cases h2
      cases r with
      | cons h r =>
        cases r
        obtain ⟨a, ws, rfl, sq, q⟩ := inL_sq g h h1
        cases strs_v q hs
        refine ⟨a, ss, rfl, sq, hz, fun ys b hp hsr n => ?_⟩
        cases sortS_one hp hsr
        obtain ⟨g', x', rv⟩ := lst_new g (drs_strs (K := K) (L := L W) (α := W.α) (H := H) (sortS ss)) n
        exact p W _ _ rfl x' g' rv
    · cases h2
  · cases h2

/-! ### isinstance of built-in classes -/
def tyN (d : D) (G : List O) : Option String := match d with
  | .non => some "NoneType"
  | .bl _ => some "bool"
  | .int _ => some "int"
  | .str _ => some "str"
  | .tup _ => some "tuple"
  | .lst _ => some "list"
  | .scr _ => some "list"
  | .ref n => match G[n]? with
    | some (.lst _) => some "list"
    | _ => none
  | _ => none
def isT (t c : String) : Bool := t == c || (t == "bool" && c == "int")
def knownC (c : String) : Bool := c == "int" || c == "bool" || c == "str" || c == "list" || c == "tuple"
def knownT (t : String) : Bool := t == "NoneType" || t == "bool" || t == "int" || t == "str" || t == "tuple" || t == "list"
theorem kit_isT {t c : String} (ht : knownT t = true) (hc : knownC c = true) : kitB t c = some (isT t c) := by
  unfold knownT at ht
  unfold knownC at hc
  simp only [Bool.or_eq_true, beq_iff_eq] at ht hc
  rcases ht with ((((rfl | rfl) | rfl) | rfl) | rfl) | rfl <;> rcases hc with (((rfl | rfl) | rfl) | rfl) | rfl <;> decide +kernel
theorem tyX_of {K : Pm} {W : Wd} {H : Hp} {v : V} {d : D} {t : String} (g : Gr K W H) (r : Rv K W H v d) (h : tyN d W.G = some t) : TyX K.K H v (.type t) ∧ knownT t = true := by
  unfold tyN at h
  split at h
  · cases h; cases r; exact ⟨.base .non, rfl⟩
  · cases h; cases r; exact ⟨.base (.bl _), rfl⟩
  · cases h; cases r; exact ⟨.base (.int _), rfl⟩
  · cases h; cases r; exact ⟨.base (.str _), rfl⟩
  · cases h; cases r with
    | tup h q =>
      refine ⟨?_, rfl⟩
      rcases h with (h | ⟨o, h⟩) | ⟨o, its, n, h1, h2, _⟩
      · exact .base (.tup h)
      · exact .fTuple h
      · exact .kTuple h1 h2
  · cases h; cases r with
    | lst h n q => exact ⟨.base (.lst h), rfl⟩
  · cases h; cases r with
    | scr h q =>
      rcases h with ⟨_, o, h⟩ | ⟨o, its, m, h1, h2, _⟩
      · exact ⟨.base (.frz h), rfl⟩
      · exact ⟨.kList h1 h2, rfl⟩
  · split at h
    · rename_i hn
      cases h; cases r with
      | ref ha => obtain ⟨vs, hh, q⟩ := g.obj _ _ _ ha hn; exact ⟨.base (.lst hh), rfl⟩
    · cases h
  · cases h
def isiF : List D → P1 D := fun ds G => match ds with
  | [x, .ty c] => match tyN x G with
    | some t => if knownC c = true then some (.bl (isT t c), G) else none
    | none => none
  | _ => none
theorem cd_isi {K : Pm} : CallD K (rIsi K.K) isiF := fun W H vs ds d G' Q g r e p => by
  unfold isiF at e
  split at e
  · split at e
    · rename_i t ht
      split at e
      · rename_i hc
        cases e
        cases r with
        | cons h r => cases r with
          | cons h2 r =>
            cases r; cases h2
            obtain ⟨ty, kt⟩ := tyX_of g h ht
            exact ⟨_, _, _, _, _, rfl, .ty _, ty, kit_ty (kit_isT kt hc), p W _ H rfl Ext.refl g (.bl _)⟩
      · cases e
    · cases e
  · cases e
def tysO : List D → Option (List String)
  | [] => some []
  | .ty c :: r => if knownC c = true then (tysO r).map fun cs => c :: cs else none
  | _ :: _ => none
def isiTF : List D → P1 D := fun ds G => match ds with
  | [x, .tup cs] => match tyN x G, tysO cs with
    | some t, some cs => some (.bl (cs.any fun c => isT t c), G)
    | _, _ => none
  | _ => none
theorem kitAny_T {K : PySem.W.Frag} {t : String} (ht : knownT t = true) : ∀ {ds : List D} {cs : List String}, tysO ds = some cs → PySem.W.kitAny K (.type t) (cs.map .type) = some (cs.any fun c => isT t c)
  | [], _, e => by cases e; exact kitAny_nil
  | d :: r, cs, e => by
    cases d with
    | ty c =>
      have e' : (if knownC c = true then (tysO r).map fun cs => c :: cs else none) = some cs := e
      split at e'
      · rename_i hc
        obtain ⟨q, h1, rfl⟩ := Option.map_eq_some_iff.mp e'
        have ih := kitAny_T (K := K) ht h1
        rw [List.map_cons, List.any_cons]
        cases hb : isT t c with
        | true => exact kitAny_cons (b := true) (by rw [← hb]; exact kit_ty (kit_isT ht hc)) (fun z => nomatch z) fun _ => by simp
        | false => exact kitAny_cons (b := false) (by rw [← hb]; exact kit_ty (kit_isT ht hc)) (fun _ => by rw [ih]; simp) fun z => nomatch z
      · cases e'
    | _ => cases e
theorem tys_v {K : Pm} {L : Addr → Prop} {α : List Addr} {H : Hp} : ∀ {vs : List V} {ds : List D} {cs : List String}, Drs K L α H vs ds → tysO ds = some cs → vs = cs.map V.ty
  | _, _, _, .nil, e => by cases e; rfl
  | _, _, cs, .cons (d := d) (ds := ds) h r, e => by
    cases d with
    | ty c =>
      have e' : (if knownC c = true then (tysO ds).map fun cs => c :: cs else none) = some cs := e
      split at e'
      · obtain ⟨q, h1, rfl⟩ := Option.map_eq_some_iff.mp e'
        cases h
        rw [List.map_cons, tys_v r h1]
      · cases e'
    | _ => cases e
theorem cls_pair : ∀ cs : List String, Paired ClsV (cs.map V.ty) (cs.map Value.type)
  | [] => .nil
  | c :: cs => .cons (.ty c) (cls_pair cs)
/-- isinstance(x, (c1, ..)), the tuple wherever it stands -/
def rIsiA (K : PySem.W.Frag) : List V → Hp → VK → Prop := fun xs H Q => ∃ (x : V) (tp : Addr) (cs : List V) (t : Value) (us : List Value) (b : Bool), xs = [x, .ref tp] ∧ SqT K H tp cs ∧ Paired ClsV cs us ∧ TyX K H x t ∧ PySem.W.kitAny K t us = some b ∧ Q (.bl b) H
theorem call_isiA {X : Cx} : CallR X (.builtin "isinstance") (rIsiA X.K) := by
  intro pins s σ H xs us Q I rv hw
  obtain ⟨x, tp, cs, t, ws, b, rfl, hT, kc, ty, hk, q⟩ := hw
  obtain ⟨u1, u2, rfl, r1, r2⟩ := vals2 rv
  cases (show u2 = Value.ref tp from r2)
  obtain ⟨φ, Z, hφ, hne⟩ := kit_of I r1 ty
  obtain ⟨its, rvs, ⟨ob, hob, hcl, m, hdat⟩, _⟩ := I.tuple hT
  have es := ClsV.all kc rvs
  subst es
  obtain ⟨oc, od, dt, sl⟩ := ob
  simp only at hcl hdat
  subst hcl hdat
  exact PySem.W.kia_tup Z I.kIn hφ hob hk hne fun tk => ⟨.bl b, H, I.tok tk, rfl, q⟩
theorem cd_isiT {K : Pm} : CallD K (rIsiA K.K) isiTF := fun W H vs ds d G' Q g r e p => by
  unfold isiTF at e
  split at e
  · split at e
    · rename_i t cs ht hc
      cases e
      cases r with
      | cons h r => cases r with
        | cons h2 r =>
          cases r
          cases h2 with
          | tup hq q =>
            obtain ⟨ty, kt⟩ := tyX_of g h ht
            cases tys_v (K := K) q hc
            exact ⟨_, _, _, _, _, _, rfl, hq, cls_pair cs, ty, kitAny_T kt hc, p W _ H rfl Ext.refl g (.bl _)⟩
    · cases e
  · cases e
end Tw

namespace Tw
open PySem PySem.Spec PyProof.Rows L2

/-! ### what holds no number of ours -/
mutual
def noR : D → Bool
  | .tup xs => noRs xs
  | .lst xs => noRs xs
  | .scr xs => noRs xs
  | .dct kvs => noRk kvs
  | .ref _ => false
  | .exf _ _ x => noR x
  | .dcl kvs => noRk kvs
  | .tpn xs => noRs xs
  | _ => true
def noRs : List D → Bool
  | [] => true
  | x :: xs => noR x && noRs xs
def noRk : List (Key × D) → Bool
  | [] => true
  | (_, x) :: xs => noR x && noRk xs
end
section
variable {K : Pm} {L L' : Addr → Prop} {α α' : List Addr} {H : Hp}
mutual
theorem Dr.nr (le : ∀ a, L' a → L a) : ∀ {v : V} {d : D}, noR d = true → Dr K L α H v d → Dr K L' α' H v d
  | _, _, _, .non => .non
  | _, _, _, .bl b => .bl b
  | _, _, _, .int i => .int i
  | _, _, _, .str z => .str z
  | _, _, n, .tup h r => .tup h (Drs.nr le (by simpa [noR] using n) r)
  | _, _, n, .lst h nl r => .lst h (fun l => nl (le _ l)) (Drs.nr le (by simpa [noR] using n) r)
  | _, _, n, .scr h r => .scr (h.imp (fun z => ⟨fun l => z.1 (le _ l), z.2⟩) id) (Drs.nr le (by simpa [noR] using n) r)
  | _, _, n, .dct h nl r => .dct h (fun l => nl (le _ l)) (Drk.nr le (by simpa [noR] using n) r)
  | _, _, _, .set h nl nd e => .set h (fun l => nl (le _ l)) nd e
  | _, _, n, .ref h => by simp [noR] at n
  | _, _, _, .glo a => .glo a
  | _, _, _, .ty c => .ty c
  | _, _, n, .dcl h nl r => .dcl h (fun l => nl (le _ l)) (Drk.nr le (by simpa [noR] using n) r)
  | _, _, n, .tpn h r => .tpn h (Drs.nr le (by simpa [noR] using n) r)
  | _, _, _, .cls h => .cls h
  | _, _, _, .exc h e nl => .exc h e (fun l => nl (le _ l))
  | _, _, n, .exf h e nl e2 nl2 r => .exf h e (fun l => nl (le _ l)) e2 (fun l => nl2 (le _ l)) (Dr.nr le (by simpa [noR] using n) r)
theorem Drs.nr (le : ∀ a, L' a → L a) : ∀ {vs : List V} {ds : List D}, noRs ds = true → Drs K L α H vs ds → Drs K L' α' H vs ds
  | _, _, _, .nil => .nil
  | _, _, n, .cons h r => by
    obtain ⟨n1, n2⟩ := Bool.and_eq_true_iff.mp (by simpa [noRs] using n)
    exact .cons (Dr.nr le n1 h) (Drs.nr le n2 r)
theorem Drk.nr (le : ∀ a, L' a → L a) : ∀ {vs : List (Key × V)} {ds : List (Key × D)}, noRk ds = true → Drk K L α H vs ds → Drk K L' α' H vs ds
  | _, _, _, .nil => .nil
  | _, _, n, .cons h r => by
    obtain ⟨n1, n2⟩ := Bool.and_eq_true_iff.mp (by simpa [noRk] using n)
    exact .cons (Dr.nr le n1 h) (Drk.nr le n2 r)
end
end
def noRO : O → Bool
  | .lst xs => noRs xs
  | .dct kvs => noRk kvs
  | .dlk kvs => noRk kvs
  | .gone => true

/-! ### what a def promises: what its reckoning gives -/
abbrev XO := Er → Wd → Hp → XK → Prop
abbrev Xo0 : XO := fun _ _ _ _ => False
def PostF (K : Pm) (Xo : XO) (W : Wd) (H : Hp) (r : Sum Er D) (G' : List O) (Q : VK) (E : XK) : Prop := match r with
  | .inr d => ∀ (W' : Wd) (v : V) (H' : Hp), W'.G = G' → Ext W H W' H' → Gr K W' H' → Rv K W' H' v d → Q v H'
  | .inl e => ∀ (W' : Wd) (H' : Hp), W'.G = G' → Ext W H W' H' → Gr K W' H' → Xo e W' H' E
def spF (K : Pm) (Xo : XO) (n : Nat) (F : List D → M D) : Sp := fun vs H Q E => vs.length = n ∧ ∃ (W : Wd) (ds : List D) (r : Sum Er D) (G' : List O), Gr K W H ∧ Rvs K W H vs ds ∧ F ds W.G = some (r, G') ∧ PostF K Xo W H r G' Q E
def start0 (n : Nat) (args : List D) : En := args.map some ++ List.replicate (n - args.length) none
def outD : Out → M D
  | .rt d => ret d
  | .nx _ => ret .non
  | _ => fun _ => none
def runD (n : Nat) (ds : En → M Out) : List D → M D := fun args => bnd (ds (start0 n args)) outD
theorem Drs.get1 {K : Pm} {L : Addr → Prop} {α : List Addr} {H : Hp} {vs : List V} {ds : List D} (r : Drs K L α H vs ds) {i : Nat} {d : D} (h : ds[i]? = some d) : ∃ v, vs[i]? = some v ∧ Dr K L α H v d := r.at h
theorem rs_start {K : Pm} {W : Wd} {H : Hp} {vs : List V} {ds : List D} {N : List Str} (g : Gr K W H) (r : Rvs K W H vs ds) : Rs K W (start0 N.length ds) (L2.start N vs) H := by
  refine ⟨g, by simp [start0, L2.start, r.length], fun i d e => ?_⟩
  unfold start0 at e
  by_cases hi : i < (ds.map some).length
  · rw [List.getElem?_append_left hi, List.getElem?_map] at e
    cases q : ds[i]? with
    | none => rw [q] at e; cases e
    | some d' =>
      rw [q] at e
      cases e
      obtain ⟨v, h1, h2⟩ := r.at q
      refine ⟨v, ?_, h2⟩
      unfold L2.start
      have hl : i < (vs.map some).length := by simpa [r.length] using hi
      rw [List.getElem?_append_left hl, List.getElem?_map, h1]; rfl
  · rw [List.getElem?_append_right (Nat.le_of_not_lt hi)] at e
    have := List.mem_of_getElem? e
    rw [List.mem_replicate] at this
    cases this.2
section
variable {P : Program} {w : World} {K : PySem.W.Frag} {mg : Str → Option Value} {base : Heap} {x qual : Str} {params : Arguments} {body : List Stmt} {scope : Scope} {f : Addr} {fd : FuncData}
/-- a def that lets no error out -/
theorem fn_tw {N ps : List Str} {k : Nat} {ds : En → M Out} (F : FunD K x qual params body scope [] [] f fd) (S : FnScope N ps scope)
    (hb : ∀ (cdv : Value) (A : Around) (outer : List Env) (s : Shared) (H : Hp) (E : XK), Room k (A.deeper (envOfC qual scope s.heap.objs.size f cdv)) → PSs (cxOf CX0 P w K mg base N qual scope f cdv A outer s H E).nox body (ups ⟨K, P, w, mg⟩ WeF ds)) :
    FnOk P w K mg base CX0 (k + 1) f fd ps (spF ⟨K, P, w, mg⟩ Xo0 ps.length (runD N.length ds)) := by
  refine F.ok S (fun vs H Q E h => h.1) fun cdv A outer s H vs Q E hr h => ⟨_, PSs.nox (hb cdv A outer s H E hr), ?_⟩
  obtain ⟨_, W, dv, r, G', g, rv, e, p⟩ := h
  unfold runD bnd at e
  split at e
  · rename_i o G1 he
    refine ⟨W, _, .inr o, G1, rs_start g rv, he, ?_⟩
    cases o with
    | rt d => cases e; exact p
    | nx ρ => cases e; exact fun W' σ' H' eg xx R' => p W' .non H' eg xx R'.gr .non
    | bk ρ => cases e
    | ct ρ => cases e
  · rename_i er G1 he
    cases e
    exact ⟨W, _, .inl er, _, rs_start g rv, he, fun W' σ' H' eg xx g' => p W' H' eg xx g'⟩
  · cases e
end
/-! ### calls of such a def -/
def noX {A : Type} (m : M A) : M A := fun G => match m G with
  | some (.inr a, G1) => some (.inr a, G1)
  | _ => none
theorem noX_eq {A : Type} {m : M A} {G G' : List O} {r : Sum Er A} (h : noX m G = some (r, G')) : ∃ a, r = .inr a ∧ m G = some (.inr a, G') := by
  unfold noX at h
  split at h
  · rename_i a G1 he; cases h; exact ⟨a, rfl, he⟩
  · cases h
/-- the callee sees our objects -/
def dF (F : List D → M D) (a : En → M (List D)) : En → M D := fun ρ => bnd (a ρ) fun ds => noX (F ds)
/-- the callee is handed no object of ours, and hands none back -/
def pureF (F : List D → M D) (ds : List D) : M D := fun G => if noRs ds = true then match F ds [] with
  | some (.inr d, _) => if noR d = true then some (.inr d, G) else none
  | _ => none
  else none
def dFp (F : List D → M D) (a : En → M (List D)) : En → M D := fun ρ => bnd (a ρ) fun ds => pureF F ds
/-- the callee sees our objects; what it laid itself is forgotten -/
def cutF (F : List D → M D) (ds : List D) : M D := fun G => match F ds G with
  | some (.inr d, G1) => if (noR d && (G1.take G.length).all noRO && decide (G.length ≤ G1.length)) = true then some (.inr d, G1.take G.length) else none
  | _ => none
def dFc (F : List D → M D) (a : En → M (List D)) : En → M D := fun ρ => bnd (a ρ) fun ds => cutF F ds
open Classical in
/-- what is seen by a callee that is handed none of our objects -/
noncomputable def Wd.alone (W : Wd) : Wd := ⟨[], [], W.B ++ W.α.filter fun a => decide (live W a)⟩
section
variable {K : Pm} {W : Wd} {H : Hp}
theorem live_α {a : Addr} (l : live W a) : a ∈ W.α := by
  obtain ⟨n, o, h, _⟩ := l
  exact List.mem_of_getElem? h
theorem alone_B {a : Addr} : a ∈ W.alone.B ↔ L W a := by
  unfold Wd.alone L
  simp only [List.mem_append, List.mem_filter, decide_eq_true_eq]
  constructor
  · rintro (h | ⟨_, h⟩)
    · exact .inr h
    · exact .inl h
  · rintro (h | h)
    · exact .inr ⟨live_α h, h⟩
    · exact .inl h
theorem alone_live {a : Addr} : ¬ live W.alone a := fun ⟨n, o, h, _⟩ => by simp [Wd.alone] at h
theorem alone_L {a : Addr} : L W.alone a ↔ L W a := ⟨fun l => l.elim (fun h => absurd h alone_live) fun h => alone_B.mp h, fun l => .inr (alone_B.mpr l)⟩
theorem Gr.alone (g : Gr K W H) : Gr K W.alone H := by
  refine ⟨rfl, by simp [Wd.alone], fun a _ => by simp [Wd.alone], fun a h => by simp [Wd.alone] at h, fun a h => ?_, fun n a o h _ => by simp [Wd.alone] at h⟩
  rcases alone_B.mp h with l | l
  · exact g.thA a (live_α l)
  · exact g.thB a l
theorem Ext.unalone {W' : Wd} {H' : Hp} (x : Ext W.alone H W' H') : Ext W H W H' := by
  refine ⟨fun _ h => h, fun _ h => .inl h, x.th, ⟨[], by simp⟩, fun a o h l => ⟨(x.keep a o h alone_live).1, l⟩, x.tup⟩
theorem Gr.unalone {W' : Wd} {H' : Hp} (g : Gr K W H) (x : Ext W.alone H W' H') : Gr K W H' :=
  ⟨g.len, g.nd, g.dis, fun a h => x.th a (g.thA a h), fun a h => x.th a (g.thB a h), fun n a o h1 h2 => by
    have q := g.obj n a o h1 h2
    cases o with
    | gone => exact True.intro
    | _ =>
      obtain ⟨u, hu, _⟩ := g.lv ⟨n, _, h1, h2, fun z => nomatch z⟩
      exact q.keep g x.unalone (by rw [hu]; exact (x.keep a u hu alone_live).1)⟩
theorem alone_le {W' : Wd} {H' : Hp} (x : Ext W.alone H W' H') : ∀ a, L W a → L W' a := fun a l => .inr (x.b a (alone_B.mpr l))
/-- the world of the first n of our objects -/
def Wd.cut (W : Wd) (n : Nat) : Wd := ⟨W.α.take n, W.G.take n, W.B⟩
theorem live_cut {n : Nat} {a : Addr} (l : live (W.cut n) a) : live W a := by
  obtain ⟨m, o, h1, h2, ne⟩ := l
  have h1' : (W.α.take n)[m]? = some a := h1
  have h2' : (W.G.take n)[m]? = some o := h2
  have lt : m < n := by
    have := (List.getElem?_eq_some_iff.mp h1').1
    rw [List.length_take] at this
    omega
  rw [List.getElem?_take_of_lt lt] at h1' h2'
  exact ⟨m, o, h1', h2', ne⟩
theorem L_cut {n : Nat} : ∀ a, L (W.cut n) a → L W a := fun a l => l.elim (fun h => .inl (live_cut h)) .inr
theorem Gr.cut {n : Nat} (g : Gr K W H) (hn : (W.G.take n).all noRO = true) : Gr K (W.cut n) H := by
  refine ⟨by simp [Wd.cut, g.len], (List.take_sublist _ _).nodup g.nd, fun a h1 h2 => g.dis a h1 (List.mem_of_mem_take h2), fun a h => g.thA a (List.mem_of_mem_take h), g.thB, fun m a o h1 h2 => ?_⟩
  have h1' : (W.α.take n)[m]? = some a := h1
  have h2' : (W.G.take n)[m]? = some o := h2
  have nr : noRO o = true := List.all_eq_true.mp hn o (List.mem_of_getElem? h2')
  have lt : m < n := by
    have := (List.getElem?_eq_some_iff.mp h1').1
    rw [List.length_take] at this
    omega
  rw [List.getElem?_take_of_lt lt] at h1' h2'
  have q := g.obj m a o h1' h2'
  cases o with
  | lst ds => obtain ⟨vs, h, r⟩ := q; exact ⟨vs, h, Drs.nr L_cut nr r⟩
  | dct kvs => obtain ⟨ps, h, r⟩ := q; exact ⟨ps, h, Drk.nr L_cut nr r⟩
  | dlk kvs => obtain ⟨o, ps, h, r⟩ := q; exact ⟨o, ps, h, Drk.nr L_cut nr r⟩
  | gone => exact True.intro
theorem Ext.cut {W0 : Wd} {H0 : Hp} (x : Ext W0 H0 W H) : Ext W0 H0 (W.cut W0.α.length) H := by
  obtain ⟨t, ht⟩ := x.pre
  refine ⟨x.b, x.b', x.th, ⟨[], ?_⟩, fun a o h l => ⟨(x.keep a o h l).1, fun q => (x.keep a o h l).2 (live_cut q)⟩, x.tup⟩
  show W.α.take W0.α.length = W0.α ++ []
  rw [ht, List.take_left', List.append_nil]
  rfl
end
/-- as many values as expressions -/
def LenA (n : Nat) (da : En → M (List D)) : Prop := ∀ (ρ : En) (G G' : List O) (ds : List D), da ρ G = some (.inr ds, G') → ds.length = n
theorem lenA_nil : LenA 0 dNil := fun ρ G G' ds h => by cases h; rfl
theorem lenA_cons {n : Nat} {a : En → M D} {r : En → M (List D)} (h : LenA n r) : LenA (n + 1) (dCons a r) := fun ρ G G' ds e => by
  unfold dCons bnd at e
  split at e
  · rename_i x G1 e1
    dsimp only at e
    split at e
    · rename_i xs G2 e2
      cases e
      rw [List.length_cons, h ρ G1 _ xs e2]
    · cases e
    · cases e
  · cases e
  · cases e
section
variable {K : Pm} {We : WE'} {n : Nat} {F : List D → M D} {da : En → M (List D)} {σ : L2.St} {H : Hp} {Q : VK}
/-- the three ways to call -/
theorem dF_up (hl : LenA n da) (h : upE K We (dF F da) σ H Q) : upA K We da σ H (fun vs H1 => spF K Xo0 n F vs H1 Q E0) := by
  obtain ⟨W, ρ, r, G', hR, e, p⟩ := h
  unfold dF bnd at e
  split at e
  · rename_i ds G1 he
    refine ⟨W, ρ, .inr ds, G1, hR, he, fun W1 vs H1 eg x1 g1 r1 => ?_⟩
    obtain ⟨a, rfl, e2⟩ := noX_eq e
    exact ⟨by rw [r1.length]; exact hl ρ _ _ _ he, W1, ds, .inr a, G', g1, r1, by rw [eg]; exact e2, p.mono x1⟩
  · rename_i er G1 he
    cases e
    exact ⟨W, ρ, .inl er, _, hR, he, p⟩
  · cases e
theorem dFp_up (hl : LenA n da) (h : upE K We (dFp F da) σ H Q) : upA K We da σ H (fun vs H1 => spF K Xo0 n F vs H1 Q E0) := by
  obtain ⟨W, ρ, r, G', hR, e, p⟩ := h
  unfold dFp bnd at e
  split at e
  · rename_i ds G1 he
    refine ⟨W, ρ, .inr ds, G1, hR, he, fun W1 vs H1 eg x1 g1 r1 => ?_⟩
    unfold pureF at e
    dsimp only at e
    split at e
    · rename_i hnr
      split at e
      · rename_i d J hf
        split at e
        · rename_i hd
          cases e
          refine ⟨by rw [r1.length]; exact hl ρ _ _ _ he, W1.alone, ds, .inr d, J, g1.alone, Drs.nr (fun a l => alone_L.mp l) hnr r1, hf, fun W' v H' _ x' g' r' => ?_⟩
          exact p W1 v H' eg (x1.trans x'.unalone) (g1.unalone x') (Dr.nr (alone_le x') hd r')
        · cases e
      · cases e
    · cases e
  · rename_i er G1 he
    cases e
    exact ⟨W, ρ, .inl er, _, hR, he, p⟩
  · cases e
theorem dFc_up (hl : LenA n da) (h : upE K We (dFc F da) σ H Q) : upA K We da σ H (fun vs H1 => spF K Xo0 n F vs H1 Q E0) := by
  obtain ⟨W, ρ, r, G', hR, e, p⟩ := h
  unfold dFc bnd at e
  split at e
  · rename_i ds G1 he
    refine ⟨W, ρ, .inr ds, G1, hR, he, fun W1 vs H1 eg x1 g1 r1 => ?_⟩
    unfold cutF at e
    dsimp only at e
    split at e
    · rename_i d J hf
      split at e
      · rename_i hd
        obtain ⟨hd, hlen⟩ := Bool.and_eq_true_iff.mp hd
        obtain ⟨hd, hall⟩ := Bool.and_eq_true_iff.mp hd
        cases e
        refine ⟨by rw [r1.length]; exact hl ρ _ _ _ he, W1, ds, .inr d, J, g1, r1, by rw [eg]; exact hf, fun W' v H' eg' x' g' r' => ?_⟩
        have en : W1.α.length = G1.length := by rw [← eg]; exact g1.len
        refine p (W'.cut W1.α.length) v H' ?_ (x1.trans x'.cut) (g'.cut ?_) (Dr.nr L_cut hd r')
        · show W'.G.take _ = _
          rw [eg', en]
        · rw [eg', en]; exact hall
      · cases e
    · cases e
  · rename_i er G1 he
    cases e
    exact ⟨W, ρ, .inl er, _, hR, he, p⟩
  · cases e
end
section
variable {X : Cx} {We : WE'} {CX : CXT} {k n : Nat} {f : Addr} {fd : FuncData} {ps : List Str} {F : List D → M D} {x : Str} {p pos : Pos} {e : Expr} {es : List Expr} {da : En → M (List D)} {dF' : En → M D}
/-- f(e, ..); up: dF_up, dFp_up or dFc_up -/
theorem te_f (up : ∀ {σ : L2.St} {H : Hp} {Q : VK}, upE (Cxp X) We dF' σ H Q → upA (Cxp X) We da σ H (fun vs H1 => spF (Cxp X) Xo0 n F vs H1 Q E0)) (G : FnOk X.prog X.w X.K X.mg X.base CX0 k f fd ps (spF (Cxp X) Xo0 n F)) (hr : Room k X.A) (hg : Gl X x) (hm : X.mg x = some (.ref f))
    (hk : PySem.W.keepIn X.K (.ref f) = true) (hb : Binds X.K fd ps []) (ha : PA X (e :: es) (upA (Cxp X) We da)) (hdb : (x == ("__debug__" : Str)) = false := by decide)
    (he : starEach (e :: es) X.env = (false, eval e X.env) :: starEach es X.env := by rfl) (hpl : (backTo pos (starEach es X.env)).any (·.1) = false := by rfl) : PE X (.Call (.Name x p) (e :: es) [] pos) (upE (Cxp X) We dF') :=
  PE.imp (pe_call (dvs := []) G hr hg hm hk hb .nil pass0 ha hdb he hpl) fun σ H Q h => by
    obtain ⟨W, ρ, r, G', hR, e1, p1⟩ := up h
    refine ⟨W, ρ, r, G', hR, e1, ?_⟩
    cases r with
    | inr ds =>
      exact fun W' v H' eg x' g' r' => (show spF (Cxp X) Xo0 n F (v ++ []) H' Q E0 by rw [List.append_nil]; exact p1 W' v H' eg x' g' r')
    | inl er => exact p1
theorem te_f0 (up : ∀ {σ : L2.St} {H : Hp} {Q : VK}, upE (Cxp X) We dF' σ H Q → upA (Cxp X) We dNil σ H (fun vs H1 => spF (Cxp X) Xo0 0 F vs H1 Q E0)) (G : FnOk X.prog X.w X.K X.mg X.base CX0 k f fd ps (spF (Cxp X) Xo0 0 F)) (hr : Room k X.A) (hg : Gl X x) (hm : X.mg x = some (.ref f))
    (hk : PySem.W.keepIn X.K (.ref f) = true) (hb : Binds X.K fd ps []) (hdb : (x == ("__debug__" : Str)) = false := by decide) : PE X (.Call (.Name x p) [] [] pos) (upE (Cxp X) We dF') :=
  PE.imp (pe_call0 (dvs := []) G hr hg hm hk hb .nil pass0 hdb) fun σ H Q h => by
    obtain ⟨W, ρ, r, G', hR, e1, p1⟩ := up h
    cases e1
    exact p1 W [] H rfl Ext.refl hR.gr .nil
end

/-! ### a list of ours is never changed again -/
def frzO : O → Option D
  | .lst xs => some (.lst xs)
  | .dct kvs => some (.dct kvs)
  | _ => none
def frzD (d : D) : P1 D := fun G => match d with
  | .ref n => match G[n]? with
    | some o => match frzO o with
      | some t => some (t, G.set n .gone)
      | none => none
    | none => none
  | _ => none
theorem frz_ok {K : Pm} {W : Wd} {H : Hp} {v : V} {d t : D} {G' : List O} (g : Gr K W H) (r : Rv K W H v d) (e : frzD d W.G = some (t, G')) : ∃ W', W'.G = G' ∧ Ext W H W' H ∧ Gr K W' H ∧ Rv K W' H v t := by
  unfold frzD at e
  split at e
  · split at e
    · rename_i o hn
      split at e
      · rename_i t' ht
        cases e
        cases r with
        | ref ha =>
          have ng : o ≠ .gone := fun z => by rw [z] at ht; cases ht
          refine ⟨W.put _ .gone, rfl, Ext.drop hn ng, g.drop hn ng, ?_⟩
          have q := g.obj _ _ _ ha hn
          cases o with
          | lst xs =>
            cases ht
            obtain ⟨vs, hh, qs⟩ := q
            exact .lst hh (not_L_drop g ha) (qs.keep g (Ext.drop hn ng))
          | dct kvs =>
            cases ht
            obtain ⟨ps, hh, qs⟩ := q
            exact .dct (.inl hh) (not_L_drop g ha) (qs.keep g (Ext.drop hn ng))
          | _ => cases ht
      · cases e
    · cases e
  · cases e
def dFrz (a : En → M D) : En → M D := fun ρ => bnd (a ρ) fun d => lft (frzD d)
theorem te_frz {X : Cx} {We : WE'} {e : Expr} {da : En → M D} (h : PE X e (upE (Cxp X) We da)) : PE X e (upE (Cxp X) We (dFrz da)) := PE.imp h fun σ H Q q => by
  obtain ⟨W, ρ, r, G', hR, e1, p⟩ := q
  refine up_bnd hR e1 p fun d W1 v H1 x1 R1 r1 e2 p1 => ?_
  obtain ⟨t, e3, p3⟩ := up_lft e2 p1
  obtain ⟨W', eg, x', g', r'⟩ := frz_ok R1.gr r1 e3
  exact p3 W' v H1 eg x' g' r'
/-- .. the one in slot i, ahead of a statement -/
def sFrz (i : Nat) (s : En → M Out) : En → M Out := fun ρ => bnd (dV i ρ) fun d => bnd (lft (frzD d)) fun t => s (ρ.set i (some t))
theorem ts_frz {X : Cx} {We : WE'} {sts : List Stmt} {s : En → M Out} (i : Nat) (h : PSs X sts (ups (Cxp X) We s)) : PSs X sts (ups (Cxp X) We (sFrz i s)) := PSs.imp h fun D0 σ H q => by
  obtain ⟨W, ρ, r, G', hR, e1, p⟩ := q
  unfold sFrz dV at e1
  obtain ⟨d, G2, e2, e3⟩ := bnd_lft e1
  obtain ⟨e2, eg⟩ := pur_eq e2
  subst eg
  have e' : ρ[i]? = some (some d) := by
    revert e2
    split
    · rename_i d' he
      intro z; cases z; exact he
    · intro z; cases z
  obtain ⟨v, hv, rv⟩ := hR.var i d e'
  obtain ⟨t, G3, e4, e5⟩ := bnd_lft e3
  obtain ⟨W', eg', x', g', r'⟩ := frz_ok hR.gr rv e4
  have R' := (hR.keep g' x').set r' i
  have es : σ.set i (some v) = σ := by
    apply List.ext_getElem?
    intro j
    by_cases h : i = j
    · subst h
      rw [List.getElem?_set_self (List.getElem?_eq_some_iff.mp hv).1, hv]
    · rw [List.getElem?_set_ne h]
  rw [es] at R'
  exact ⟨W', _, r, G', R', by rw [eg']; exact e5, p.mono x'⟩
end Tw

namespace Tw
open PySem PySem.Spec PyProof.Rows L2 PySem.W PySem.Calls PySem.HandSPX
/-! ### a class of the program over ValueError, called with keywords -/
section
variable {M : Model} {prog : Program} {w : World} {A : Around} {E : Value → Shared → Prop} {R : Result → Shared → Prop} {hp : Heap} {ge : Array GenState} {dr : Drawn} {tk : Nat} {os : OsState}
variable {nm qn : Str} {C N : Addr} {bs tl : List Value} {sn : List Str} {sub : List Value} {ab : Bool} {col : Option Bool} {dd : Option Addr} {k0 k1 k2 k3 k5 : Option Value} {us : List Value} {kw : List (Str × Value)}
/-- the class's own line and its row of bases -/
abbrev XClass (hp : Heap) (nm qn : Str) (C N : Addr) (bs tl : List Value) (sn : List Str) (sub : List Value) (ab : Bool) (col : Option Bool) (dd : Option Addr) (k0 k1 k2 k3 k5 : Option Value) : Prop :=
  hp.get? C = some (excClassObj nm qn C N bs tl true sn sub ab col dd k0 k1 k2 k3 k5 "ValueError.__new__")
theorem xHas (r : refsVE tl = true) (c : String) (b : Bool) (e : veTail.contains (.type c) = b) : (Value.ref C :: tl).contains (.type c) = b := by
  rw [List.contains_cons, refsVE_contains c tl r, e]
  cases b <;> rfl
theorem xNewOk {Q : Unit → Shared → Prop} (r : refsVE tl = true) (o : XClass hp nm qn C N bs tl sn sub ab col dd k0 k1 k2 k3 k5) (q : Q () ⟨hp, ge, dr, tk, os⟩) :
    wpAny M A (checkBuiltinCall "ValueError.__new__" ⟨.ref C :: us, kw⟩) Q E ⟨hp, ge, dr, tk, os⟩ := by
  have fb := F.excBase_ValueError
  have z := xHas (C := C) r "ValueError" true (by decide +kernel)
  have st := fb.noStar
  simp only [checkBuiltinCall, fb.newKind, fb.newSplit, fb.newRow]
  repeat (first | refine wpAny_staticBase_exc o ?_ | refine wpAny_madeBy_exc o ?_ | refine wpAny_loadPart_at o ?_ | (refine wpAny_isSubtype_exc o ?_; rw [z]) | simp only [if_false, bne_self_eq_false, Bool.false_eq_true] | wp_step)
  exact q
/-- BaseException.__new__ looks at no keyword -/
theorem xNew (r : refsVE tl = true) (o : XClass hp nm qn C N bs tl sn sub ab col dd k0 k1 k2 k3 k5) (hl : us.length ≤ sizeLine)
    (q : R (.ok (.ret (.ref (hp.objs.size + 1)))) ⟨(hp.push (kdv_tup us)).push (excO C hp.objs.size), ge, dr, tk, os⟩) :
    codeAny (model prog w) A (.builtin "ValueError.__new__" ⟨.ref C :: us, kw⟩) R ⟨hp, ge, dr, tk, os⟩ := by
  have fb := F.excBase_ValueError
  have en := fb.ends
  have z1 := xHas (C := C) r "ValueError" true (by decide +kernel)
  have z2 := xHas (C := C) r "AttributeError" false (by decide +kernel)
  have z3 := xHas (C := C) r "NameError" false (by decide +kernel)
  apply codeAny_builtinAt fb.entry
  unfold Builtin.«BaseException.__new__»
  refine PySem.wpAt_bind ?_
  show PySem.wpAt _ _ _ (stack >>= _) _ _ _
  refine PySem.wpAt_bind (PySem.wpAt_stack fun below p => ?_)
  apply PySem.wpAt_of_wpAny
  wp_walk
  apply PySem.wpAt_of_wpAny
  rw [fb.owner]
  repeat (first | with_reducible refine wpAny_loadPart_at o ?_ | with_reducible refine wpAny_madeHere_exc fb.canon o ?_ | (with_reducible refine wpAny_isSubtype_exc o ?_; first | rw [z1] | rw [z2] | rw [z3]) | wp_step)
  show R _ _
  rw [Heap.size_push]
  exact q
theorem xType {fI : Addr} {Q : Fin → Shared → Prop} (r : refsVE tl = true) (o : XClass hp nm qn C N bs tl sn sub ab col dd k0 k1 k2 k3 k5) (hl : us.length ≤ sizeLine)
    (li : Looks (model prog w) hp (typeLookup (.ref C) "__init__") (some (.ref fI))) (lb : ∀ self, Looks (model prog w) hp (bindSpecial (.ref fI) self) (.ref fI, [self]))
    (q : codeAny (model prog w) A (.call (.ref fI) ⟨.ref (hp.objs.size + 1) :: us, kw⟩)
      (fun r s' => match r with | .error e => E e s' | .ok (.ret v) => v = .none ∧ Q (.done (.ret (.ref (hp.objs.size + 1)))) s' | .ok _ => False)
      ⟨(hp.push (kdv_tup us)).push (excO C hp.objs.size), ge, dr, tk, os⟩) :
    wpAny (model prog w) A (Builtin.«type.__call__» ⟨.ref C :: us, kw⟩) Q E ⟨hp, ge, dr, tk, os⟩ := by
  have fb := F.excBase_ValueError
  repeat (first | with_reducible refine wpAny_madeBy_exc o ?_ | with_reducible refine wpAny_loadPart_at o ?_ | wp_step)
  apply codeAny_call_builtin_code (Code.quiet_builtin _ fb.quiet)
  apply xNewOk r o
  apply xNew r o hl
  show wpAny _ _ _ _ _ _
  have kk : ∀ b u, hp.get? b = some u → ((hp.push (kdv_tup us)).push (excO C hp.objs.size)).get? b = some u := fun b u e =>
    Heap.get?_push_of_some _ (Heap.get?_push_of_some _ e)
  have o1 := kk _ _ o
  have eg : ((hp.push (kdv_tup us)).push (excO C hp.objs.size)).get? (hp.objs.size + 1) = some (excO C hp.objs.size) := by
    heap_get
  have me : (Value.ref C :: tl).contains (.ref C) = true := by simp
  unfold isInstance
  repeat (first | with_reducible refine wpAny_loadPart_at eg ?_ | (with_reducible refine wpAny_isSubtype_exc o1 ?_; rw [me]) | wp_step)
  show wpAny _ _ (typeLookup (.ref C) _) _ _ _
  apply (li.keeps kk).at
  apply wpAny_holding; apply wpAny_bind
  apply ((lb (.ref (hp.objs.size + 1))).keeps kk).at
  apply wpAny_bind; apply wpAny_call
  refine codeAny_mono q fun r s' y => ?_
  rcases r with e | (v | _ | _ | _) <;> first | exact y | exact y.elim | skip
  obtain ⟨rfl, y⟩ := y
  first
    | exact wpAny_pure (wpAny_pure y)
    | (wp_walk; exact y)
/-- C(.., f = ..): a fresh error, then the own __init__ -/
theorem xCall {fI : Addr} (r : refsVE tl = true) (o : XClass hp nm qn C N bs tl sn sub ab col dd k0 k1 k2 k3 k5) (hl : us.length ≤ sizeLine)
    (li : Looks (model prog w) hp (typeLookup (.ref C) "__init__") (some (.ref fI))) (lb : ∀ self, Looks (model prog w) hp (bindSpecial (.ref fI) self) (.ref fI, [self]))
    (q : codeAny (model prog w) (A.under (.builtin "type.__call__" ⟨.ref C :: us, kw⟩)) (.call (.ref fI) ⟨.ref (hp.objs.size + 1) :: us, kw⟩) (InitBack (hp.objs.size + 1) R)
      ⟨(hp.push (kdv_tup us)).push (excO C hp.objs.size), ge, dr, tk, os⟩) : codeAny (model prog w) A (.call (.ref C) ⟨us, kw⟩) R ⟨hp, ge, dr, tk, os⟩ := by
  have g1 := tc_lookup
  have g2 := tc_bind (.ref C)
  have ty : (⟨hp, ge, dr, tk, os⟩ : Shared).TypeIs (.ref C) "type" := ⟨_, o, rfl⟩
  apply codeAny_of_tree
  show wpAny _ _ (callAny (.ref C) _) _ _ _
  repeat (any_goals (first | with_reducible refine wpAny_loadPart_at o ?_ | assumption | wp_step))
  refine ⟨rfl, ?_⟩
  have ti : Looks (model prog w) hp (typeOf (.ref C)) (.type "type") := (Looks.ld o).andThen .now
  have isT : Looks (model prog w) hp (isInstance (.ref C) (.type "type")) true := ti.andThen (.of_pure tc_sub)
  apply codeAny_call_builtin_at (Code.quiet_builtin _ (by decide +kernel)) entry_typeCall
  refine check_slot tc_kind tc_split isT (tc_args _ _ _) ?_
  refine xType (E := fun e s' => R (.error e) s') r o hl li lb (codeAny_mono q fun r s' y => ?_)
  rcases r with e | (v | _ | _ | _) <;> exact y
end

/-! ### what the written part says of such a class -/
structure Xcl (K : Frag) (C : Addr) : Prop where
  o : OexC K C
  ga : findIn K (.ref C) "__getattribute__" = some (some (.builtin "BaseException.__getattribute__"))
  gg : findIn K (.ref C) "__getattr__" = some none
  hd : hasDictIn K C = true
  ha : findIn K (.ref C) "__class__" = some (some (.builtin "object.__class__"))
  hn : specialIn K (.builtin "object.__class__") "__get__" = some (some (.builtin "getset_descriptor.__get__"))
  ht : takesIn K (.builtin "object.__class__") = some true
  hm : mroIn K C (.type "object") = some true
def oexB (K : Frag) (C : Addr) : Bool := match K.lookup C with
  | some ⟨.type ty, _, .cls cd, sl⟩ => (match cd.mro, sl.toList with
    | .ref C2 :: tl, [_, _, _, _, some (.builtin mk), _] => ((decide (ty = "type") && decide (C2 = C)) && (decide (mk = "ValueError.__new__") && refsVE tl)) && (cd.hasDict && !cd.hasDel)
    | _, _ => false)
  | _ => false
theorem oexB_ok {K : Frag} {C : Addr} (q : oexB K C = true) : ∃ nm q N bs bm sn sub ab col dd k0 k1 k2 k3 k5, K.lookup C = some (excClassObj nm q C N bs bm true sn sub ab col dd k0 k1 k2 k3 k5 "ValueError.__new__") ∧ refsVE bm = true := by
  unfold oexB at q
  split at q
  · rename_i ty dd cd sl lk
    split at q
    · rename_i C2 tl a0 a1 a2 a3 mk a5 em es
      obtain ⟨q, qd⟩ := Bool.and_eq_true_iff.mp q
      obtain ⟨q1, q2⟩ := Bool.and_eq_true_iff.mp q
      obtain ⟨t1, t2⟩ := Bool.and_eq_true_iff.mp q1
      obtain ⟨t3, t4⟩ := Bool.and_eq_true_iff.mp q2
      obtain ⟨t5, t6⟩ := Bool.and_eq_true_iff.mp qd
      obtain rfl := of_decide_eq_true t1
      obtain rfl := of_decide_eq_true t2
      obtain rfl := of_decide_eq_true t3
      have dl : cd.hasDel = false := by simpa using t6
      obtain ⟨c0, c1, c2, c3, c4, c5, c6, c7, c8, c9, c10⟩ := cd
      cases dl; cases t5; cases em
      obtain ⟨sl⟩ := sl
      cases es
      exact ⟨_, _, _, _, _, _, _, _, _, _, _, _, _, _, _, lk, t4⟩
    · cases q
  · cases q
def xclB (K : Frag) (C : Addr) : Bool := [oexB K C, decide (findIn K (.ref C) "__setattr__" = some (some (.builtin "object.__setattr__"))), decide (subIn K (.ref C) (.type "BaseException") = some true), decide (typeIn K (.ref C) = some (.type "type")), keepIn K (.ref C),
  decide (findIn K (.ref C) "__getattribute__" = some (some (.builtin "BaseException.__getattribute__"))), decide (findIn K (.ref C) "__getattr__" = some none), hasDictIn K C, decide (findIn K (.ref C) "__class__" = some (some (.builtin "object.__class__"))),
  decide (specialIn K (.builtin "object.__class__") "__get__" = some (some (.builtin "getset_descriptor.__get__"))), decide (takesIn K (.builtin "object.__class__") = some true), decide (mroIn K C (.type "object") = some true)].all id
theorem xclB_ok {K : Frag} {C : Addr} (h : xclB K C = true) : Xcl K C := by
  unfold xclB at h
  simp only [List.all_cons, List.all_nil, id, Bool.and_true, Bool.and_eq_true, decide_eq_true_eq] at h
  obtain ⟨h1, h2, h3, h4, h5, h6, h7, h8, h9, h10, h11, h12⟩ := h
  exact ⟨⟨oexB_ok h1, h2, h3, h4, h5⟩, h6, h7, h8, h9, h10, h11, h12⟩

/-! ### such an error as a value, on the abstract heap -/
/-- what an __init__ that only stores its one argument promises -/
def spI (C : Addr) (f : Str) : Sp := fun vs H Q _ => ∃ (a : Addr) (v : V), vs = [.ref a, v] ∧ H a = some (exo a C none) ∧ ∀ dx, H dx = none → dx ≠ a → Q .non (upd (upd H dx (exd dx [(f, v)])) a (exo a C (some dx)))
theorem ok_init {P : Program} {w : World} {K : Frag} {mg : Str → Option Value} {base : Heap} {C fI : Addr} {fd : FuncData} {x qual f : Str} {params : Arguments} {scope : Scope} {q1 q2 q3 q4 : Pos} (T : OexC K C) (no : findIn K (.ref C) f = some none)
    (F : FunD K x qual params [.Assign [.Attribute (.Name "self" q1) f q2] (.Name f q3) q4] scope [] [] fI fd) (S : FnScope ["self", f] ["self", f] scope) (v0 : Vis scope "self") (v1 : Vis scope f) (d1 : (f == ("__debug__" : Str)) = false) (d2 : (f == ("__classdict__" : Str)) = false) :
    FnOk P w K mg base CX0 1 fI fd ["self", f] (spI C f) :=
  FunD.ok F S (fun vs H Q E ⟨a, v, e, _⟩ => by rw [e]; rfl) fun cdv A outer s H vs Q E hr h => by
    obtain ⟨a, v, rfl, ea, q⟩ := h
    refine ⟨_, pss_one (ps_ost (pe_var (i := 0) rfl v0) (pe_var (i := 1) rfl v1 d1 d2)), ?_⟩
    exact ⟨v, rfl, .ref a, rfl, a, C, rfl, T, no, .inl ⟨ea, fun dx n ne => q dx n ne⟩⟩
section
variable {X : Cx} {k n : Nat} {fI C : Addr} {fd : FuncData} {ps ks : List Str} {f c x : Str} {p pos : Pos} {e : Expr} {es : List Expr} {kws : List Keyword} {t tk : TA} {g : List Value → List Value → List Value} {gV : List V → List V → List V}
theorem run_x {sp : Sp} {pins : List (Addr × Obj)} {σ : L2.St} {H : Hp} {s : Shared} {Q : VK} {us ws : List Value} {vs zs : List V} (T : OexC X.K C) (iC : findIn X.K (.ref C) "__init__" = some (some (.ref fI))) (tI : typeIn X.K (.ref fI) = some (.type "function"))
    (F : FnOk X.prog X.w X.K X.mg X.base CX0 k fI fd ps sp) (hr : Room (k + 1) X.A) (hb : KBn X.K fd ps (n + 1) ks g gV) (I : Inv X pins σ H s) (r : Vals vs us) (rz : Vals zs ws) (l1 : vs.length = n) (l2 : zs.length = ks.length) (lm : vs.length ≤ 1000)
    (h : ∀ a, H a = none → sp (gV (.ref a :: vs) zs) (upd H a (exo a C none)) (fun v H2 => v = .non ∧ Q (.ref a) H2) (fun _ _ _ => False)) :
    wpAny (model X.prog X.w) X.A (call (.ref C) us (ks.zip ws)) (EP X pins σ Q) X.xe s := by
  obtain ⟨nm, q, N, bs, bm, sn, sub, ab, col, dd, k0, k1, k2, k3, k5, lc, rb⟩ := T.cls
  obtain ⟨hp, ge, dr, tt, os⟩ := s
  have big : hp.objs.size ≤ hp.objs.size + 1 := Nat.le_succ _
  have fresh : H (hp.objs.size + 1) = none := I.hok.fresh big
  have hq := h _ fresh
  have old : ∀ b u, hp.get? b = some u → ((hp.push (kdv_tup us)).push (excO C hp.objs.size)).get? b = some u := fun b u e =>
    Heap.get?_push_of_some _ (Heap.get?_push_of_some _ e)
  have this : ((hp.push (kdv_tup us)).push (excO C hp.objs.size)).get? (hp.objs.size + 1) = some (excO C hp.objs.size) := by
    heap_get
  have J : Inv X pins σ (upd H (hp.objs.size + 1) (exo (hp.objs.size + 1) C none)) ⟨(hp.push (kdv_tup us)).push (excO C hp.objs.size), ge, dr, tt, os⟩ :=
    I.laid (t' := tt) old big (exo_ok this)
  have ra : Vals (V.ref (hp.objs.size + 1) :: vs) (Value.ref (hp.objs.size + 1) :: us) := .cons rfl r
  have rr := hb.rel ra rz
  have lu : us.length ≤ sizeLine := by
    rw [← Paired.length r, sizeLine_eq]; omega
  have ln : (Value.ref (hp.objs.size + 1) :: us).length = n + 1 := by rw [List.length_cons, ← r.length, l1]
  refine wpAny_call (xCall rb (I.kIn _ _ lc) lu (looks_findIn I.kIn iC) (fun self => bind_fn I.kIn self tI) (codeAny_mono (F.run _ X.stack _ _ _ (g (Value.ref (hp.objs.size + 1) :: us) ws) _ _ (fun _ _ _ => False)
    (hr.make C us (ks.zip ws)) (J.env0.make C us (ks.zip ws)) (hb.to _ _ ws J.kIn ln (rz.length.symm.trans l2)) rr hq) fun r s' hq' => ?_))
  cases r with
  | error er => exact pass0 pins σ _ _ er s' J hq'
  | ok fl =>
    cases fl with
    | ret u =>
      obtain ⟨v, H2, J2, rv, ev, q2⟩ := J.after hq'
      subst ev
      exact ⟨rv, .ref (hp.objs.size + 1), H2, J2, rfl, q2⟩
    | _ => exact False.elim hq'
/-- c(e, ..) -/
def tMkX (sp : Sp) (C : Addr) (n m : Nat) (gV : List V → List V → List V) (t tk : TA) : TE := fun σ H Q => t σ H fun vs H1 => tk σ H1 fun zs H2 => vs.length = n ∧ zs.length = m ∧ n ≤ 1000 ∧ ∀ a, H2 a = none → sp (gV (.ref a :: vs) zs) (upd H2 a (exo a C none)) (fun v H3 => v = .non ∧ Q (.ref a) H3) (fun _ _ _ => False)
theorem pe_mkx {sp : Sp} (T : OexC X.K C) (iC : findIn X.K (.ref C) "__init__" = some (some (.ref fI))) (tI : typeIn X.K (.ref fI) = some (.type "function")) (F : FnOk X.prog X.w X.K X.mg X.base CX0 k fI fd ps sp) (hr : Room (k + 1) X.A) (hb : KBn X.K fd ps (n + 1) [] g gV)
    (hg : Gl X x) (hm : X.mg x = some (.ref C)) (ha : PA X (e :: es) t) (hdb : (x == ("__debug__" : Str)) = false := by decide) (he : starEach (e :: es) X.env = (false, eval e X.env) :: starEach es X.env := by rfl) (hpl : (backTo pos (starEach es X.env)).any (·.1) = false := by rfl) :
    PE X (.Call (.Name x p) (e :: es) [] pos) (tMkX sp C n 0 gV t tNil) := by
  refine ⟨fun pins s σ H Q I h => wpAny_Call_Name_kw (ld_glob I hg hm ?_ hdb)⟩
  refine callWith_K (h₀ := X.base) I.ok.mod.kin T.kC (thn (ha.run pos pins s σ H _ I h) fun us s1 hh => ?_) he hpl
  obtain ⟨vs, H1, I1, r1, l1, l2, lm, q1⟩ := hh
  exact ⟨I1.kIn, run_x (ks := []) (ws := []) (zs := []) T iC tI F hr hb I1 r1 .nil l1 l2 (by omega) q1⟩
/-- c(f = e) -/
theorem pe_mkxk {sp : Sp} (T : OexC X.K C) (iC : findIn X.K (.ref C) "__init__" = some (some (.ref fI))) (tI : typeIn X.K (.ref fI) = some (.type "function")) (F : FnOk X.prog X.w X.K X.mg X.base CX0 k fI fd ps sp) (hr : Room (k + 1) X.A) (hb : KBn X.K fd ps 1 ks g gV)
    (hg : Gl X x) (hm : X.mg x = some (.ref C)) (ha : PK X kws tk) (hall : (backToKw pos (keywordEach kws X.env)).all (·.1.isSome) = true := by rfl) (hks : (backToKw pos (keywordEach kws X.env)).filterMap (·.1) = ks := by rfl) (hdb : (x == ("__debug__" : Str)) = false := by decide)
    (hpl : ((backTo pos (starEach [] X.env)).any (·.1) || (backToKw pos (keywordEach kws X.env)).any (·.1.isNone)) = false := by rfl) :
    PE X (.Call (.Name x p) [] kws pos) (tMkX sp C 0 ks.length gV tNil tk) := by
  refine ⟨fun pins s σ H Q I h => wpAny_Call_Name_kw (ld_glob I hg hm ?_ hdb)⟩
  refine callWith_KW0 (h₀ := X.base) I.ok.mod.kin T.kC hall (thn (ha.run pos pins s σ H _ I h) fun ws s1 hh => ?_) hpl
  obtain ⟨zs, H1, I1, r1, l1, l2, lm, q1⟩ := hh
  refine ⟨I1.kIn, ?_⟩
  rw [hks]
  exact run_x (us := []) (vs := []) T iC tI F hr hb I1 .nil r1 rfl l2 (by simp) q1
/-- c(), no __init__ of its own -/
theorem pe_mkx0 (T : Xcl X.K C) (q : excIn X.K C He.veBase "ValueError.__new__" = true) (hg : Gl X x) (hm : X.mg x = some (.ref C)) (hdb : (x == ("__debug__" : Str)) = false := by decide) :
    PE X (.Call (.Name x p) [] [] pos) (fun σ H Q => ∀ a, H a = none → Q (.ref a) (upd H a (ExO (.ref C) a))) := by
  refine ⟨fun pins s σ H Q I h => wpAny_Call_Name_kw (ld_glob I hg hm ?_ hdb)⟩
  refine callWith_K0 I.kIn T.o.kC ?_
  obtain ⟨hp, ge, dr, tt, os⟩ := s
  obtain ⟨tl, N, nm, qn, bs, hdct, sn, sub, ab, col, dd, k0, k1, k2, k3, k5, mN, o, hN, no, ot⟩ := exc_obj I.kIn q
  refine wpAny_call_exc_subT F.excBase_ValueError ot o hN no (fun h' a hm => ?_) (by show 0 ≤ sizeLine; exact Nat.zero_le _)
  have fresh : H a = none := I.hok.gone hm.new
  obtain ⟨tu, there, _, _⟩ := hm.there
  exact ⟨.ref a, _, I.laidN hm.keeps hm.new fresh (exO_ok there ⟨rfl, rfl⟩ rfl rfl rfl (show 4 < 6 by decide)), rfl, h a fresh⟩
/-- e.f of such an error -/
theorem pe_atx {te : TE} {f : Str} (he : PE X e te) (hb : attributeBase e f X.env (eval e X.env) = eval e X.env := by rfl) :
    PE X (.Attribute e f pos) (fun σ H Q => te σ H fun x H1 => ∃ (a C dx : Addr) (v : V), x = .ref a ∧ Xcl X.K C ∧ findIn X.K (.ref C) f = some none ∧ H1 a = some (exo a C (some dx)) ∧ H1 dx = some (exd dx [(f, v)]) ∧ Q v H1) := by
  refine ⟨fun pins s σ H Q I h => attr_of hb (thn (he.run pins s σ H _ I h) fun u s1 hh => ?_)⟩
  obtain ⟨x, H1, I1, rx, a, C, dx, v, rfl, T, no, ea, ed, q⟩ := hh
  cases rx
  obtain ⟨t1, ho⟩ := exo_at I1.hok ea
  obtain ⟨mA, ns, rl⟩ := exd_at I1.hok ed
  obtain ⟨od, hd, lk⟩ := lookIn_ns ns
  have l1 : List.lookup f [(f, v)] = some v := by simp [List.lookup]
  obtain ⟨u, eu, ru⟩ := RelO.some_of (v := v) (o := mA f) (by rw [← l1]; exact rl f)
  have J : InstAt s1.heap a _ C (some od) := ⟨ho, rfl, rfl, hd⟩
  exact exc_get I1.kIn J T.ga T.gg T.o.exC (findObj_own T.hd no rfl (by rw [lk, eu])) (handed_of ru) ⟨v, H1, I1.tok _, ru, q⟩
/-- isinstance(x, c), x such an error -/
def rIsX (K : Frag) : List V → Hp → VK → Prop := fun xs H Q => ∃ (a C : Addr) (c : V) (u : Value) (b : Bool), xs = [.ref a, c] ∧ ClsV c u ∧ Xcl K C ∧ (H a = some (ExO (.ref C) a) ∨ ∃ dx fs, H a = some (exo a C (some dx)) ∧ H dx = some (exd dx fs)) ∧ kitOne K (.ref C) u = some b ∧ Q (.bl b) H
theorem call_isX : CallR X (.builtin "isinstance") (rIsX X.K) := by
  intro pins s σ H xs us Q I r h
  obtain ⟨a, C, c, u, b, rfl, cv, T, obj, ek, q⟩ := h
  obtain ⟨u1, u2, rfl, r1, r2⟩ := vals2 r
  obtain rfl := cv.eq r2
  cases r1
  have J : ∃ o od, InstAt s.heap a o C od := by
    rcases obj with z | ⟨dx, fs, z, zd⟩
    · obtain ⟨⟨oe, vs, ho, hz, hd, _⟩, _⟩ := I.hok a _ z
      obtain ⟨oc, od, oda, osl⟩ := oe
      obtain ⟨z1, z2⟩ := hz
      dsimp only at z1 z2 hd
      subst z1 z2 hd
      exact ⟨_, none, ho, rfl, rfl, trivial⟩
    · obtain ⟨t1, ho⟩ := exo_at I.hok z
      obtain ⟨mA, ns, rl⟩ := exd_at I.hok zd
      obtain ⟨od, hd, lk⟩ := lookIn_ns ns
      exact ⟨_, some od, ho, rfl, rfl, hd⟩
  obtain ⟨o, od, J⟩ := J
  have cl : (clsIn X.K C).isSome = true := by
    obtain ⟨cd, hc, _⟩ := any_some T.hd
    rw [hc]; rfl
  exact kia_one (kitx_exc (od := od) cl T.ga T.gg T.o.exC T.ha T.hn T.ht T.hm) I.kIn J ek (fun z => nomatch z) fun tk => ⟨.bl b, H, I.tok tk, rfl, q⟩
end
end Tw

namespace Tw
open PySem PySem.Spec PyProof.Rows L2

/-! ### binding of self and one more -/
section
variable {K : PySem.W.Frag} {x qual f : Str} {params : Arguments} {body : List Stmt} {scope : Scope} {fI : Addr} {fd : FuncData}
theorem kb_pos (F : FunD K x qual params body scope [] [] fI fd) (h : ∀ (kV doc pm : Value) (an : Option Addr) (cdv ct a b : Value), bindArgs (PySem.W.fnOf x qual params body scope .none kV doc pm an cdv ct) ⟨[a, b], []⟩ = pure [(("self" : Str), a), (f, b)]) :
    KBn K fd ["self", f] 2 [] (fun us _ => us) (fun vs _ => vs) :=
  ⟨fun s us ws X l1 l2 => FunD.bindsA (ps := ["self", f]) F (fun kV doc pm an cdv ct us hl => match us, hl with | [a, b], _ => h kV doc pm an cdv ct a b) s us l1, fun r _ => r⟩
theorem kb_kw (F : FunD K x qual params body scope [] [] fI fd) (h : ∀ (kV doc pm : Value) (an : Option Addr) (cdv ct a b : Value), bindArgs (PySem.W.fnOf x qual params body scope .none kV doc pm an cdv ct) ⟨[a], [(f, b)]⟩ = pure [(("self" : Str), a), (f, b)]) :
    KBn K fd ["self", f] 1 [f] (fun us ws => us ++ ws) (fun vs zs => vs ++ zs) := by
  refine ⟨fun s us ws X l1 l2 => ?_, fun r1 r2 => r1.append r2⟩
  obtain ⟨oc, od, dV, kV, doc, pm, an, cdv, ct, osl, rfl, lk, hcd, hD, hK⟩ := F.ex
  rcases hD with ⟨_, rfl⟩ | ⟨e, _⟩
  · match us, ws, l1, l2 with
    | [a], [b], _, _ => exact BindsTo.of_looks fun M => .of_pure (h kV doc pm an cdv ct a b)
  · exact absurd rfl e
end
/-- what is needed to make c(e), c(f = e) -/
structure XM (P : Program) (w : World) (K : PySem.W.Frag) (mg : Str → Option Value) (base : Heap) (c f : Str) : Prop where
  ex : ∃ (C fI : Addr) (fd : FuncData), mg c = some (.ref C) ∧ OexC K C ∧ PySem.W.findIn K (.ref C) "__init__" = some (some (.ref fI)) ∧ PySem.W.typeIn K (.ref fI) = some (.type "function") ∧ FnOk P w K mg base CX0 1 fI fd ["self", f] (spI C f) ∧
    KBn K fd ["self", f] 2 [] (fun us _ => us) (fun vs _ => vs) ∧ KBn K fd ["self", f] 1 [f] (fun us ws => us ++ ws) (fun vs zs => vs ++ zs)
def dX1 (c f : Str) (a : En → M D) : En → M D := fun ρ => bnd (a ρ) fun d => ret (.exf c f d)
def dX0 (c : Str) : En → M D := fun _ => ret (.exc c)
section
variable {X : Cx} {We : WE'} {c f : Str} {p pos kpos : Pos} {e : Expr} {da : En → M D}
theorem x1_new {W : Wd} {H : Hp} {v : V} {d : D} {a C dx : Addr} (hm : X.mg c = some (.ref C)) (g : Gr (Cxp X) W H) (r : Rv (Cxp X) W H v d) (n : H a = none) (nd : upd H a (exo a C none) dx = none) (ne : dx ≠ a) :
    ∃ H', upd (upd (upd H a (exo a C none)) dx (exd dx [(f, v)])) a (exo a C (some dx)) = H' ∧ Gr (Cxp X) W H' ∧ Ext W H W H' ∧ Rv (Cxp X) W H' (.ref a) (.exf c f d) := by
  rw [upd_ne ne] at nd
  have na : upd H dx (exd dx [(f, v)]) a = none := by rw [upd_ne (Ne.symm ne)]; exact n
  refine ⟨upd (upd H dx (exd dx [(f, v)])) a (exo a C (some dx)), ?_, (g.laid nd).laid na, (Ext.laid nd).trans (Ext.laid na), ?_⟩
  · funext b
    by_cases e : b = a
    · rw [e, upd_same, upd_same]
    · rw [upd_ne e, upd_ne e]
      by_cases e2 : b = dx
      · rw [e2, upd_same, upd_same]
      · rw [upd_ne e2, upd_ne e2, upd_ne e]
  · exact .exf hm upd_same (fresh_L g n) (by rw [upd_ne ne]; exact upd_same) (fresh_L g nd) ((r.keep g (Ext.laid nd)).keep (g.laid nd) (Ext.laid na))
theorem x1_up {C : Addr} (hm : X.mg c = some (.ref C)) {σ : L2.St} {H : Hp} {Q : VK} (h : upE (Cxp X) We (dX1 c f da) σ H Q) :
    upE (Cxp X) We da σ H fun v H1 => ∀ a, H1 a = none → spI C f [.ref a, v] (upd H1 a (exo a C none)) (fun v H3 => v = .non ∧ Q (.ref a) H3) (fun _ _ _ => False) := by
  obtain ⟨W, ρ, r, G', hR, e, p⟩ := h
  refine up_bnd hR e p fun d W1 v H1 x1 R1 r1 e1 p1 => ?_
  refine fun a n => ⟨a, v, rfl, upd_same, fun dx nd ne => ⟨rfl, ?_⟩⟩
  obtain ⟨H', eh, g, x, rv⟩ := x1_new (f := f) hm R1.gr r1 n nd ne
  rw [eh]
  exact up_ret e1 p1 W1 _ H' rfl x g rv
theorem te_x1 (T : XM X.prog X.w X.K X.mg X.base c f) (hr : Room 2 X.A) (hg : Gl X c) (ha : PE X e (upE (Cxp X) We da)) (hdb : (c == ("__debug__" : Str)) = false := by decide) (he : starEach (e :: []) X.env = (false, eval e X.env) :: starEach [] X.env := by rfl) (hpl : (backTo pos (starEach [] X.env)).any (·.1) = false := by rfl) :
    PE X (.Call (.Name c p) [e] [] pos) (upE (Cxp X) We (dX1 c f da)) := by
  obtain ⟨C, fI, fd, hm, O, iC, tI, F, b1, b2⟩ := T.ex
  refine PE.imp (pe_mkx (n := 1) O iC tI F hr b1 hg hm (pa_cons ha pa_nil he) hdb he hpl) fun σ H Q h => ?_
  obtain ⟨W, ρ, r, G', hR, e1, p1⟩ := x1_up (f := f) hm h
  refine ⟨W, ρ, r, G', hR, e1, ?_⟩
  cases r with
  | inr d => exact fun W' v H' eg x g rv => ⟨rfl, rfl, by decide, p1 W' v H' eg x g rv⟩
  | inl er => exact p1
theorem te_xk (T : XM X.prog X.w X.K X.mg X.base c f) (hr : Room 2 X.A) (hg : Gl X c) (ha : PE X e (upE (Cxp X) We da)) (hdb : (c == ("__debug__" : Str)) = false := by decide) (hall : (backToKw pos (keywordEach [⟨some f, e, kpos⟩] X.env)).all (·.1.isSome) = true := by rfl) (hks : (backToKw pos (keywordEach [⟨some f, e, kpos⟩] X.env)).filterMap (·.1) = [f] := by rfl)
    (hpl : ((backTo pos (starEach [] X.env)).any (·.1) || (backToKw pos (keywordEach [⟨some f, e, kpos⟩] X.env)).any (·.1.isNone)) = false := by rfl) :
    PE X (.Call (.Name c p) [] [⟨some f, e, kpos⟩] pos) (upE (Cxp X) We (dX1 c f da)) := by
  obtain ⟨C, fI, fd, hm, O, iC, tI, F, b1, b2⟩ := T.ex
  refine PE.imp (pe_mkxk (ks := [f]) O iC tI F hr b2 hg hm (pk_cons ha pk_nil) hall hks hdb hpl) fun σ H Q h => ?_
  obtain ⟨W, ρ, r, G', hR, e1, p1⟩ := x1_up (f := f) hm h
  refine ⟨W, ρ, r, G', hR, e1, ?_⟩
  cases r with
  | inr d => exact fun W' v H' eg x g rv => ⟨rfl, rfl, by decide, p1 W' v H' eg x g rv⟩
  | inl er => exact p1
theorem te_x0 {C : Addr} (T : Xcl X.K C) (q : PySem.W.excIn X.K C He.veBase "ValueError.__new__" = true) (hg : Gl X c) (hm : X.mg c = some (.ref C)) (hdb : (c == ("__debug__" : Str)) = false := by decide) :
    PE X (.Call (.Name c p) [] [] pos) (upE (Cxp X) We (dX0 c)) := PE.imp (pe_mkx0 T q hg hm hdb) fun σ H Q h => by
  obtain ⟨W, ρ, r, G', hR, e, p⟩ := h
  intro a n
  exact up_ret e p W _ _ rfl (Ext.laid n) (hR.gr.laid n) (.exc hm upd_same (fresh_L hR.gr n))
/-- a class of the program as a value -/
theorem te_cls {C : Addr} (hg : Gl X c) (hm : X.mg c = some (.ref C)) (hd : (c == ("__debug__" : Str)) = false := by decide) : PE X (.Name c pos) (upE (Cxp X) We (dC (.cls c))) :=
  PE.imp (pe_glob (v := .ref C) hg hm rfl hd) fun _ _ _ h => up_const (fun _ _ => .cls hm) h
theorem te_bty {n : String} (hg : Gl X c) (hm : X.mg c = none) (hv : bootBuiltins c = some (.type n)) (hn : c ≠ "__name__" := by decide) (hd : (c == ("__debug__" : Str)) = false := by decide) : PE X (.Name c pos) (upE (Cxp X) We (dC (.ty n))) :=
  PE.imp (pe_bltn (v := .ty n) hg hm hv rfl hn hd) fun _ _ _ h => up_const (fun _ _ => .ty n) h
/-- e.f; tab: the classes whose errors may be asked -/
def attO (tab : List Str) (f : Str) : D → Option D
  | .exf c g x => if (tab.contains c && g == f) = true then some x else none
  | _ => none
def dAt (tab : List Str) (f : Str) (a : En → M D) : En → M D := fun ρ => bnd (a ρ) fun d => lft (pur (attO tab f d))
def XAt (K : PySem.W.Frag) (mg : Str → Option Value) (tab : List Str) (f : Str) : Prop := ∀ c ∈ tab, ∃ C, mg c = some (.ref C) ∧ Xcl K C ∧ PySem.W.findIn K (.ref C) f = some none
theorem te_at {tab : List Str} (T : XAt X.K X.mg tab f) (he : PE X e (upE (Cxp X) We da)) (hb : attributeBase e f X.env (eval e X.env) = eval e X.env := by rfl) : PE X (.Attribute e f pos) (upE (Cxp X) We (dAt tab f da)) := PE.imp (pe_atx he hb) fun σ H Q h => by
  obtain ⟨W, ρ, r, G', hR, e, p⟩ := h
  refine up_bnd hR e p fun d W1 v H1 x1 R1 r1 e1 p1 => ?_
  obtain ⟨d2, e2, p2⟩ := up_lft e1 p1
  obtain ⟨e2, eg⟩ := pur_eq e2
  unfold attO at e2
  split at e2
  · rename_i c2 g2 y
    split at e2
    · rename_i hc
      obtain ⟨hc, hf⟩ := Bool.and_eq_true_iff.mp hc
      have hf := beq_iff_eq.mp hf
      subst hf
      cases e2
      cases r1 with
      | exf hm ea na ed nd rv =>
        obtain ⟨C, hm2, xc, no⟩ := T _ (by simpa using hc)
        cases (hm2.symm.trans hm)
        exact ⟨_, _, _, _, rfl, xc, no, ea, ed, p2 W1 _ H1 eg.symm Ext.refl R1.gr rv⟩
    · cases e2
  · cases e2
end
/-- isinstance(x, c), x such an error; tab tells the answers -/
def isxF (tab : Str → D → Option Bool) : List D → P1 D := fun ds G => match ds with
  | [.exc c, k] => (tab c k).map fun b => (.bl b, G)
  | [.exf c _ _, k] => (tab c k).map fun b => (.bl b, G)
  | _ => none
def XIs (K : PySem.W.Frag) (mg : Str → Option Value) (tab : Str → D → Option Bool) : Prop := ∀ (c : Str) (k : D) (b : Bool), tab c k = some b → ∃ C, mg c = some (.ref C) ∧ Xcl K C ∧ match k with
  | .cls m => ∃ E, mg m = some (.ref E) ∧ PySem.W.kitOne K (.ref C) (.ref E) = some b
  | .ty n => PySem.W.kitOne K (.ref C) (.type n) = some b
  | _ => False
theorem cd_isx {K : Pm} {tab : Str → D → Option Bool} (T : XIs K.K K.mg tab) : CallD K (rIsX K.K) (isxF tab) := fun W H vs ds d G' Q g r e p => by
  have key : ∀ {c : Str} {k : D} {b : Bool} {a C : Addr} {v : V}, tab c k = some b → K.mg c = some (.ref C) → (H a = some (ExO (.ref C) a) ∨ ∃ dx fs, H a = some (exo a C (some dx)) ∧ H dx = some (exd dx fs)) → Rv K W H v k → Q (.bl b) H → rIsX K.K [.ref a, v] H Q := by
    intro c k b a C v ht hm ho rk q
    obtain ⟨C2, hm2, xc, z⟩ := T c k b ht
    rw [hm] at hm2
    cases hm2
    cases k with
    | cls m =>
      obtain ⟨E, hE, kk⟩ := z
      cases rk with
      | cls h =>
        rw [hE] at h
        cases h
        exact ⟨a, C, _, _, b, rfl, .own E, xc, ho, kk, q⟩
    | ty n =>
      cases rk
      exact ⟨a, C, _, _, b, rfl, .ty n, xc, ho, z, q⟩
    | _ => exact z.elim
  unfold isxF at e
  split at e
  · rename_i c k
    cases ht : tab c k with
    | none => rw [ht] at e; cases e
    | some b =>
      rw [ht] at e; cases e
      cases r with
      | cons h r => cases r with
        | cons h2 r =>
          cases r
          cases h with
          | exc hm ea na => exact key ht hm (.inl ea) h2 (p W _ H rfl Ext.refl g (.bl b))
  · rename_i c f x k
    cases ht : tab c k with
    | none => rw [ht] at e; cases e
    | some b =>
      rw [ht] at e; cases e
      cases r with
      | cons h r => cases r with
        | cons h2 r =>
          cases r
          cases h with
          | exf hm ea na ed nd rv => exact key ht hm (.inr ⟨_, _, ea, ed⟩) h2 (p W _ H rfl Ext.refl g (.bl b))
  · cases e
end Tw

namespace Tw
open PySem PySem.Spec PyProof.Rows L2

/-! ### an object handed over for good: the callee sees it alone -/
def mvD (n : Nat) : D → Option D
  | .ref m => if m = n then some (.ref 0) else none
  | d => if noR d = true then some d else none
def mvDs (n : Nat) : List D → Option (List D)
  | [] => some []
  | d :: r => match mvD n d, mvDs n r with
    | some e, some s => some (e :: s)
    | _, _ => none
def refN : List D → Option Nat
  | [] => none
  | .ref n :: _ => some n
  | _ :: r => refN r
def movF (F : List D → M D) (ds : List D) : M D := fun G => match refN ds with
  | some n => match G[n]?, mvDs n ds with
    | some (.lst xs), some es => if noRs xs = true then match F es [.lst xs] with
        | some (.inr d, _) => if noR d = true then some (.inr d, G.set n .gone) else none
        | _ => none
      else none
    | _, _ => none
  | none => none
def dFm (F : List D → M D) (a : En → M (List D)) : En → M D := fun ρ => bnd (a ρ) fun ds => movF F ds
open Classical in
noncomputable def Wd.solo (W : Wd) (a : Addr) (o : O) : Wd := ⟨[a], [o], W.B ++ W.α.filter fun b => decide (live W b ∧ b ≠ a)⟩
section
variable {K : Pm} {W : Wd} {H : Hp} {a : Addr} {o : O} {n : Nat}
theorem solo_live (ho : o ≠ .gone) {b : Addr} : live (W.solo a o) b ↔ b = a := by
  constructor
  · rintro ⟨m, u, h1, h2, _⟩
    have h1' : ([a] : List Addr)[m]? = some b := h1
    cases m with
    | zero => simp at h1'; exact h1'.symm
    | succ m => simp at h1'
  · rintro rfl
    exact ⟨0, o, rfl, rfl, ho⟩
theorem solo_B {b : Addr} : b ∈ (W.solo a o).B ↔ b ∈ W.B ∨ (live W b ∧ b ≠ a) := by
  unfold Wd.solo
  simp only [List.mem_append, List.mem_filter, decide_eq_true_eq]
  constructor
  · rintro (h | ⟨_, h⟩)
    · exact .inl h
    · exact .inr h
  · rintro (h | h)
    · exact .inl h
    · exact .inr ⟨live_α h.1, h⟩
theorem solo_L (ho : o ≠ .gone) (la : live W a) {b : Addr} : L (W.solo a o) b ↔ L W b := by
  unfold L
  rw [solo_live ho, solo_B]
  constructor
  · rintro (rfl | h | h)
    · exact .inl la
    · exact .inr h
    · exact .inl h.1
  · rintro (h | h)
    · by_cases e : b = a
      · exact .inl e
      · exact .inr (.inr ⟨h, e⟩)
    · exact .inr (.inl h)
theorem mv_one (ho : o ≠ .gone) (la : live W a) (ha : W.α[n]? = some a) {v : V} {d e : D} (q : mvD n d = some e) (h : Rv K W H v d) : Rv K (W.solo a o) H v e := by
  unfold mvD at q
  split at q
  · split at q
    · rename_i en
      cases q
      subst en
      cases h with
      | ref hm =>
        rw [ha] at hm
        cases hm
        exact .ref rfl
    · cases q
  · split at q
    · rename_i en
      cases q
      exact Dr.nr (fun b l => (solo_L ho la).mp l) en h
    · cases q
theorem mv_rel (ho : o ≠ .gone) (la : live W a) (ha : W.α[n]? = some a) : ∀ (ds : List D) {vs : List V} {es : List D}, mvDs n ds = some es → Rvs K W H vs ds → Rvs K (W.solo a o) H vs es
  | [], vs, es, e, h => by
    cases h
    cases e
    exact .nil
  | d :: ds, vs, es, e, h => by
    cases h with
    | cons h r =>
      rw [mvDs] at e
      cases q : mvD n d with
      | none => rw [q] at e; cases e
      | some d2 =>
        cases q2 : mvDs n ds with
        | none => rw [q, q2] at e; cases e
        | some e2 =>
          rw [q, q2] at e
          cases e
          exact .cons (mv_one ho la ha q h) (mv_rel ho la ha ds q2 r)
end
section
variable {K : Pm} {We : WE'} {n : Nat} {F : List D → M D} {da : En → M (List D)} {σ : L2.St} {H : Hp} {Q : VK}
theorem dFm_up (hl : LenA n da) (h : upE K We (dFm F da) σ H Q) : upA K We da σ H (fun vs H1 => spF K Xo0 n F vs H1 Q E0) := by
  obtain ⟨W, ρ, r, G', hR, e, p⟩ := h
  unfold dFm bnd at e
  split at e
  · rename_i ds G1 he
    refine ⟨W, ρ, .inr ds, G1, hR, he, fun W1 vs H1 eg x1 g1 r1 => ?_⟩
    unfold movF at e
    dsimp only at e
    split at e
    · rename_i m hm
      split at e
      · rename_i xs es hx hes
        split at e
        · rename_i hnr
          split at e
          · rename_i d J hf
            split at e
            · rename_i hd
              cases e
              subst eg
              obtain ⟨a, ha⟩ : ∃ a, W1.α[m]? = some a := by
                have lt : m < W1.α.length := by rw [g1.len]; exact (List.getElem?_eq_some_iff.mp hx).1
                exact ⟨_, List.getElem?_eq_getElem lt⟩
              have ng : O.lst xs ≠ .gone := fun z => nomatch z
              have la : live W1 a := ⟨m, _, ha, hx, ng⟩
              have lvS : ∀ b, live (W1.solo a (.lst xs)) b ↔ b = a := fun b => solo_live ng
              have gS : Gr K (W1.solo a (.lst xs)) H1 := by
                refine ⟨rfl, by simp [Wd.solo], fun b hb => ?_, fun b hb => ?_, fun b hb => ?_, fun j b o' h1 h2 => ?_⟩
                · have z : b ≠ a := by
                    rcases solo_B.mp hb with q | q
                    · exact fun z => g1.dis b q (by rw [z]; exact live_α la)
                    · exact q.2
                  show b ∉ [a]
                  simpa using z
                · have z : b ∈ [a] := hb
                  have z : b = a := by simpa using z
                  rw [z]; exact g1.thA a (live_α la)
                · rcases solo_B.mp hb with q | q
                  · exact g1.thB b q
                  · exact g1.thA b (live_α q.1)
                · have h1' : ([a] : List Addr)[j]? = some b := h1
                  have h2' : ([O.lst xs] : List O)[j]? = some o' := h2
                  cases j with
                  | zero =>
                    simp at h1' h2'
                    subst h1' h2'
                    obtain ⟨us, hh, rr⟩ := g1.obj m a _ ha hx
                    exact ⟨us, hh, Drs.nr (fun b l => (solo_L ng la).mp l) hnr rr⟩
                  | succ j => simp at h1'
              refine ⟨by rw [r1.length]; exact hl ρ _ _ _ he, W1.solo a (.lst xs), es, .inr d, J, gS, mv_rel ng la ha ds hes r1, hf, fun W' v H' _ x' g' r' => ?_⟩
              have xC : Ext W1 H1 (W1.put m .gone) H' := by
                refine ⟨fun _ h => h, fun _ h => .inl h, x'.th, ⟨[], by simp [Wd.put]⟩, fun b u hb nl => ⟨(x'.keep b u hb fun l => nl (by rw [(lvS b).mp l]; exact la)).1, fun l => nl (live_put hx ng l)⟩, x'.tup⟩
              have ne : ∀ b, live (W1.put m .gone) b → live W1 b ∧ b ≠ a := fun b l => ⟨live_put hx ng l, fun z => not_L_drop g1 ha (.inl (by rw [← z]; exact l))⟩
              have gC : Gr K (W1.put m .gone) H' := by
                refine ⟨by simp [Wd.put, g1.len], g1.nd, g1.dis, fun b hb => x'.th b (g1.thA b hb), fun b hb => x'.th b (g1.thB b hb), fun j b u h1 h2 => ?_⟩
                have h1' : W1.α[j]? = some b := h1
                have h2' : (W1.G.set m .gone)[j]? = some u := h2
                by_cases ej : m = j
                · subst ej
                  rw [List.getElem?_set_self (List.getElem?_eq_some_iff.mp hx).1] at h2'
                  cases h2'
                  exact True.intro
                · rw [List.getElem?_set_ne ej] at h2'
                  by_cases eu : u = .gone
                  · subst eu; exact True.intro
                  · have lb : live W1 b := ⟨j, u, h1', h2', eu⟩
                    have nb : b ≠ a := fun z => ej (g1.one ha (by rw [← z]; exact h1'))
                    obtain ⟨hb, eb, _⟩ := g1.lv lb
                    exact (g1.obj j b u h1' h2').keep g1 xC (by rw [eb]; exact (x'.keep b hb eb fun l => nb ((lvS b).mp l)).1)
              refine p (W1.put m .gone) v H' rfl (x1.trans xC) gC (Dr.nr (fun b l => ?_) hd r')
              rcases l with l | l
              · exact .inr (x'.b b (solo_B.mpr (.inr (ne b l))))
              · exact .inr (x'.b b (solo_B.mpr (.inl l)))
            · cases e
          · cases e
        · cases e
      · cases e
    · cases e
  · rename_i er G1 he
    cases e
    exact ⟨W, ρ, .inl er, _, hR, he, p⟩
  · cases e
end

/-! ### a def that is called by its name -/
structure Cal (P : Program) (w : World) (K : PySem.W.Frag) (mg : Str → Option Value) (base : Heap) (k : Nat) (x : Str) (n : Nat) (F : List D → M D) : Prop where
  ex : ∃ (f : Addr) (fd : FuncData) (ps : List Str), mg x = some (.ref f) ∧ FnOk P w K mg base CX0 k f fd ps (spF ⟨K, P, w, mg⟩ Xo0 n F) ∧ PySem.W.keepIn K (.ref f) = true ∧ Binds K fd ps []
theorem te_c {X : Cx} {We : WE'} {k n : Nat} {F : List D → M D} {x : Str} {p pos : Pos} {e : Expr} {es : List Expr} {da : En → M (List D)} {dF' : En → M D} (T : Cal X.prog X.w X.K X.mg X.base k x n F)
    (up : ∀ {σ : L2.St} {H : Hp} {Q : VK}, upE (Cxp X) We dF' σ H Q → upA (Cxp X) We da σ H (fun vs H1 => spF (Cxp X) Xo0 n F vs H1 Q E0)) (hr : Room k X.A) (hg : Gl X x) (ha : PA X (e :: es) (upA (Cxp X) We da)) (hdb : (x == ("__debug__" : Str)) = false := by decide)
    (he : starEach (e :: es) X.env = (false, eval e X.env) :: starEach es X.env := by rfl) (hpl : (backTo pos (starEach es X.env)).any (·.1) = false := by rfl) : PE X (.Call (.Name x p) (e :: es) [] pos) (upE (Cxp X) We dF') := by
  obtain ⟨f, fd, ps, hm, G, kp, b⟩ := T.ex
  exact te_f (fun h => up h) G hr hg hm kp b ha hdb he hpl
end Tw

namespace Tw
open PySem PySem.Spec PyProof.Rows L2
/-! ### reckoning, a step at a time -/
section
variable {A B : Type} {G G1 G2 : List O} {ρ ρ1 : En} {a b : En → M Out} {o : Out}
theorem seq_nx (h : a ρ G = some (.inr (.nx ρ1), G1)) : dSeq a b ρ G = b ρ1 G1 := by
  unfold dSeq bnd
  rw [h]
theorem seq_rt {d : D} (h : a ρ G = some (.inr (.rt d), G1)) : dSeq a b ρ G = some (.inr (.rt d), G1) := by
  unfold dSeq bnd
  rw [h]
  rfl
theorem for_eq {di : En → M (List D)} {g : D → En → P1 En} {es : List D} (h : di ρ G = some (.inr es, G1)) : dFor di g b ρ G = bodyL g b es ρ G1 := by
  unfold dFor bnd
  rw [h]
theorem body_nx {g : D → En → P1 En} {d : D} {es : List D} {ρ2 : En} (h : g d ρ G = some (ρ1, G1)) (h2 : b ρ1 G1 = some (.inr (.nx ρ2), G2)) : bodyL g b (d :: es) ρ G = bodyL g b es ρ2 G2 := by
  rw [bodyL]
  unfold bnd lft
  rw [h]
  dsimp only
  rw [h2]
theorem run_rt {n : Nat} {d : D} {args : List D} (h : a (start0 n args) G = some (.inr (.rt d), G1)) : runD n a args G = some (.inr d, G1) := by
  unfold runD bnd
  rw [h]
  rfl
theorem if_t {t : En → M Bool} (h : t ρ G = some (.inr true, G1)) : dIfS t a b ρ G = a ρ G1 := by
  unfold dIfS bnd
  rw [h]
  rfl
theorem if_f {t : En → M Bool} (h : t ρ G = some (.inr false, G1)) : dIfS t a b ρ G = b ρ G1 := by
  unfold dIfS bnd
  rw [h]
  rfl
theorem asg_eq {e : En → M D} {g : D → En → P1 En} {d : D} (h : e ρ G = some (.inr d, G1)) (h2 : g d ρ G1 = some (ρ1, G2)) : dAsg e g ρ G = some (.inr (.nx ρ1), G2) := by
  unfold dAsg bnd lft
  rw [h]
  dsimp only
  rw [h2]
  rfl
theorem ret_eq {e : En → M D} {d : D} (h : e ρ G = some (.inr d, G1)) : dRet e ρ G = some (.inr (.rt d), G1) := by
  unfold dRet bnd
  rw [h]
  rfl
theorem bnd_i {m : M A} {k : A → M B} {x : A} (h : m G = some (.inr x, G1)) : bnd m k G = k x G1 := by
  unfold bnd
  rw [h]
theorem bndN_i {m : M A} {k : A → M B} {x : A} (h : m G = some (.inr x, G1)) : bndN m k G = k x G1 := by
  unfold bndN
  rw [h]
theorem lft_i {f : P1 A} {x : A} (h : f G = some (x, G1)) : lft f G = some (.inr x, G1) := by
  unfold lft
  rw [h]
theorem call_eq {f : List D → P1 D} {e : En → M (List D)} {ds : List D} {d : D} (h : e ρ G = some (.inr ds, G1)) (h2 : f ds G1 = some (d, G2)) : dCall f e ρ G = some (.inr d, G2) := (bnd_i h).trans (lft_i h2)
theorem cons_eq {e : En → M D} {r : En → M (List D)} {d : D} {ds : List D} (h : e ρ G = some (.inr d, G1)) (h2 : r ρ G1 = some (.inr ds, G2)) : dCons e r ρ G = some (.inr (d :: ds), G2) := (bnd_i h).trans ((bnd_i h2).trans rfl)
theorem one_eq {e : En → M D} {d : D} (h : e ρ G = some (.inr d, G1)) : dCons e dNil ρ G = some (.inr [d], G1) := cons_eq h rfl
theorem lc_eq {di : En → M (List D)} {g : D → En → P1 En} {t : En → M Bool} {e : En → M D} {own : List Nat} {ds ys : List D} (h : di ρ G = some (.inr ds, G1)) (h2 : lcL g t e (wipeD ρ own) ds G1 = some (.inr ys, G2)) (h3 : ys.length ≤ mx) : dLc di g t e own ρ G = some (.inr (.lst ys), G2) := by
  refine (bnd_i h).trans ((bndN_i h2).trans (lft_i ?_))
  unfold okL pur lstO
  rw [if_pos h3]
theorem rng_eq {e : En → M (List D)} {j : Int} (h : e ρ G = some (.inr [.int j], G1)) (h2 : smallI j = true) : dRng rng1 e ρ G = some (.inr (rngD 0 j.toNat), G1) := by
  refine (bnd_i h).trans (lft_i ?_)
  unfold pur rng1
  dsimp only
  rw [if_pos h2]
end
end Tw

namespace Tw
open PySem PySem.Spec PyProof.Rows L2

/-! ### a text walked sign by sign; zip of tuples -/
def itS : D → Option (List D)
  | .str x => some (x.cps.toList.map fun c => .str ⟨#[c]⟩)
  | _ => none
def dItS (a : En → M D) : En → M (List D) := fun ρ => bnd (a ρ) fun d => lft (pur (itS d))
section
variable {X : Cx} {We : WE'} {tg e : Expr} {da : En → M D}
theorem ti_str (he : PE X e (upE (Cxp X) We da)) : PI X tg e (upI (Cxp X) We (dItS da)) := PI.imp (pi_str he) fun σ H R0 h => by
  obtain ⟨W, ρ, r, G', hR, e, p⟩ := h
  refine upi_bnd hR e p fun d W1 v H1 x1 R1 r1 e1 p1 => ?_
  obtain ⟨ds, e2, p2⟩ := upi_lft e1 p1
  obtain ⟨e2, eg⟩ := pur_eq e2
  unfold itS at e2
  split at e2
  · cases e2
    cases r1
    refine ⟨_, rfl, p2 W1 H1 eg.symm Ext.refl R1.gr _ ⟨_, _, by rw [List.length_map, Array.length_toList]; exact walk_str, fun _ _ _ _ => True.intro, fun i W' H' y H'' hi xx g q => ?_⟩⟩
    obtain ⟨rfl, c, hc, rfl⟩ := q
    exact ⟨.str ⟨#[c]⟩, by rw [List.getElem?_map, Array.getElem?_toList, hc]; rfl, g, Ext.refl, .str _⟩
  · cases e2
theorem ti_zipT {a b : Expr} {ta : En → M (List D)} {p pos tpos : Pos} {elts : List Expr} {kk : Nat} (hg : Gl X "zip") (hm : X.mg "zip" = none) (ha : PA X [a, b] (upA (Cxp X) We ta))
    (hs : starEach [a, b] X.env = (false, eval a X.env) :: starEach [b] X.env := by rfl) (hpl : (backTo pos (starEach [b] X.env)).any (·.1) = false := by rfl) :
    PI X (.Tuple elts kk tpos) (.Call (.Name "zip" p) [a, b] [] pos) (upI (Cxp X) We (dRng zipT2 ta)) := PI.imp (RZ.pi_zipA hg hm ha hs hpl) fun σ H R0 h => by
  obtain ⟨W, ρ, r, G', hR, e, p⟩ := h
  refine upi_bnd hR e p fun d W1 v H1 x1 R1 r1 e1 p1 => ?_
  obtain ⟨ds, e2, p2⟩ := upi_lft e1 p1
  obtain ⟨e2, eg⟩ := pur_eq e2
  unfold zipT2 at e2
  split at e2
  · split at e2
    · rename_i xs ys hx hy
      split at e2
      · rename_i hz
        cases e2
        cases r1 with
        | cons h1 r1 => cases r1 with
          | cons h2 r1 =>
            cases r1
            obtain ⟨a1, vs, rfl, l1, sq1, st1⟩ := itT_sq R1.gr h1 hx
            obtain ⟨a2, ws, rfl, l2, sq2, st2⟩ := itT_sq R1.gr h2 hy
            have hz' : vs.length = ws.length := by rw [l1, l2, hz]
            have len : (zipD xs ys).length = vs.length := by rw [zipD_len, ← l1, ← l2, ← hz', Nat.min_self]
            refine ⟨a1, a2, vs, ws, rfl, .inr ⟨sq1, sq2, p2 W1 H1 eg.symm Ext.refl R1.gr _ ⟨fun H => SqT X.K H a1 vs ∧ SqT X.K H a2 ws, fun i H v H' => ∃ T x y, v = .ref T ∧ H T = none ∧ H' = upd H T (.tup [x, y]) ∧ vs[i]? = some x ∧ ws[i]? = some y, ?_, fun W' H' x _ => ⟨(st1 W' H' x).1, (st2 W' H' x).1⟩, fun i W' H' y H'' hi x g q => ?_⟩⟩⟩
            · rw [len]
              refine ⟨fun i H hi q => ⟨vs, ws, vs[i], ws[i], q.1, q.2, by simp [hi], by simp [← hz', hi]⟩, fun H q => ⟨vs, ws, q.1, q.2, .inl (Nat.le_refl _)⟩, fun i H v H' hi q y => ?_⟩
              obtain ⟨T, x, y, h1, h2, h3, h4, h5⟩ := y
              exact ⟨T, x, y, h1, h2, h3, h4 _ q.1, h5 _ q.2⟩
            · obtain ⟨T, x0, y0, rfl, n, rfl, q1, q2⟩ := q
              obtain ⟨d1, h1, r1⟩ := (st1 W' _ x).2.at2 q1
              obtain ⟨d2, h2, r2⟩ := (st2 W' _ x).2.at2 q2
              obtain ⟨g', x', rv⟩ := pair_new g r1 r2 n
              exact ⟨_, zipD_at h1 h2, g', x', rv⟩
      · cases e2
    · cases e2
  · cases e2
end

/-! ### list + list, the sum changed later -/
def lonly (d : D) (G : List O) : Option (List D) := match d with
  | .lst xs => some xs
  | .ref n => match G[n]? with
    | some (.lst xs) => some xs
    | _ => none
  | _ => none
theorem lonly_at {K : Pm} {W : Wd} {H : Hp} {v : V} {d : D} {xs : List D} (g : Gr K W H) (r : Rv K W H v d) (e : lonly d W.G = some xs) : ∃ a vs, v = .ref a ∧ H a = some (.lst vs) ∧ Rvs K W H vs xs := by
  unfold lonly at e
  split at e
  · cases e; cases r with
    | lst h n q => exact ⟨_, _, rfl, h, q⟩
  · split at e
    · rename_i hn
      cases e; cases r with
      | ref ha =>
        obtain ⟨vs, hh, q⟩ := g.obj _ _ _ ha hn
        exact ⟨_, vs, rfl, hh, q⟩
    · cases e
  · cases e
def catP (f : List D → P1 D) : D → D → P1 D := fun x y G => match lonly x G, lonly y G with
  | some xs, some ys => if xs.length + ys.length ≤ mx then f (xs ++ ys) G else none
  | _, _ => none
theorem catP_eq {f : List D → P1 D} {x y d : D} {G G' : List O} (h : catP f x y G = some (d, G')) : ∃ xs ys, lonly x G = some xs ∧ lonly y G = some ys ∧ xs.length + ys.length ≤ mx ∧ f (xs ++ ys) G = some (d, G') := by
  unfold catP at h
  split at h
  · split at h
    · exact ⟨_, _, by assumption, by assumption, by assumption, h⟩
    · cases h
  · cases h
theorem opd_catM {K : Pm} : OpD K rCat (catP newL) := fun W H x y a b d G' Q g r1 r2 e p => by
  obtain ⟨xs, ys, h1, h2, hz, h3⟩ := catP_eq e
  obtain ⟨_, rfl, rfl⟩ := newL_eq h3
  obtain ⟨a1, vs, rfl, q1, s1⟩ := lonly_at g r1 h1
  obtain ⟨a2, ws, rfl, q2, s2⟩ := lonly_at g r2 h2
  refine ⟨a1, a2, vs, ws, rfl, rfl, q1, q2, mx_line (by rw [s1.length, s2.length]; exact hz), fun l n => ?_⟩
  obtain ⟨g', x', rv⟩ := mut_new g (s1.app s2) n
  exact p (W.new l _) _ _ rfl x' g' rv
theorem opd_cat {K : Pm} : OpD K rCat (catP okL) := fun W H x y a b d G' Q g r1 r2 e p => by
  obtain ⟨xs, ys, h1, h2, hz, h3⟩ := catP_eq e
  obtain ⟨h4, eg⟩ := pur_eq h3
  obtain ⟨_, rfl⟩ := lstO_eq h4
  obtain ⟨a1, vs, rfl, q1, s1⟩ := lonly_at g r1 h1
  obtain ⟨a2, ws, rfl, q2, s2⟩ := lonly_at g r2 h2
  refine ⟨a1, a2, vs, ws, rfl, rfl, q1, q2, mx_line (by rw [s1.length, s2.length]; exact hz), fun l n => ?_⟩
  obtain ⟨g', x', rv⟩ := lst_new g (s1.app s2) n
  exact p W _ _ eg.symm x' g' rv

/-! ### dicts -/
def keyO : D → Option Key
  | .int i => some (.inl i)
  | .str x => some (.inr x)
  | _ => none
def keyD : Key → D
  | .inl i => .int i
  | .inr x => .str x
def lookK (kvs : List (Key × D)) (k : Key) : Option D := (kvs.find? fun kv => decide (kv.1 = k)).map (·.2)
def putKD (kvs : List (Key × D)) (k : Key) (v : D) : List (Key × D) :=
  if (kvs.any fun kv => decide (kv.1 = k)) = true then kvs.map (fun kv => if kv.1 = k then (kv.1, v) else kv) else kvs ++ [(k, v)]
theorem keyO_v {K : Pm} {L : Addr → Prop} {α : List Addr} {H : Hp} {v : V} {d : D} {k : Key} (r : Dr K L α H v d) (h : keyO d = some k) : v = kV k := by
  unfold keyO at h
  split at h
  · cases h; cases r; rfl
  · cases h; cases r; rfl
  · cases h
section
variable {K : Pm} {L : Addr → Prop} {α : List Addr} {H : Hp}
theorem Drk.val (k : Key) : ∀ {ps : List (Key × V)} {kvs : List (Key × D)}, Drk K L α H ps kvs → match lookK kvs k with
    | some d => ∃ v, valV ps k = some v ∧ Dr K L α H v d
    | none => valV ps k = none
  | _, _, .nil => rfl
  | _, _, .cons (k := j) (v := v) (d := d) (ps := ps) (kvs := kvs) h r => by
    unfold lookK valV
    rw [List.find?_cons, List.find?_cons]
    by_cases e : j = k
    · simp only [e, decide_true]
      exact ⟨v, rfl, h⟩
    · simp only [e, decide_false]
      have ih := Drk.val k r
      unfold lookK valV at ih
      exact ih
theorem Drk.any (k : Key) : ∀ {ps : List (Key × V)} {kvs : List (Key × D)}, Drk K L α H ps kvs → (ps.any fun kv => decide (kv.1 = k)) = kvs.any fun kv => decide (kv.1 = k)
  | _, _, .nil => rfl
  | _, _, .cons h r => by rw [List.any_cons, List.any_cons, Drk.any k r]
theorem Drk.repl (k : Key) {v : V} {d : D} (q : Dr K L α H v d) : ∀ {ps : List (Key × V)} {kvs : List (Key × D)}, Drk K L α H ps kvs → Drk K L α H (ps.map fun kv => if kv.1 = k then (kv.1, v) else kv) (kvs.map fun kv => if kv.1 = k then (kv.1, d) else kv)
  | _, _, .nil => .nil
  | _, _, .cons (k := j) h r => by
    rw [List.map_cons, List.map_cons]
    by_cases e : j = k
    · simp only [e, if_true]
      exact .cons q (Drk.repl k q r)
    · simp only [e, if_false]
      exact .cons h (Drk.repl k q r)
theorem Drk.app : ∀ {ps qs : List (Key × V)} {kvs ls : List (Key × D)}, Drk K L α H ps kvs → Drk K L α H qs ls → Drk K L α H (ps ++ qs) (kvs ++ ls)
  | _, _, _, _, .nil, s => s
  | _, _, _, _, .cons h r, s => .cons h (Drk.app r s)
theorem Drk.put (k : Key) {v : V} {d : D} (q : Dr K L α H v d) {ps : List (Key × V)} {kvs : List (Key × D)} (r : Drk K L α H ps kvs) : Drk K L α H (putK ps k v) (putKD kvs k d) := by
  unfold putK putKD
  rw [r.any k]
  split
  · exact r.repl k q
  · exact r.app (.cons q .nil)
theorem Drk.length : ∀ {ps : List (Key × V)} {kvs : List (Key × D)}, Drk K L α H ps kvs → ps.length = kvs.length
  | _, _, .nil => rfl
  | _, _, .cons _ r => by simp [Drk.length r]
end
/-- what a dict holds, ours or not -/
def inD (d : D) (G : List O) : Option (List (Key × D)) := match d with
  | .dct kvs => some kvs
  | .dcl kvs => some kvs
  | .ref n => match G[n]? with
    | some (.dct kvs) => some kvs
    | some (.dlk kvs) => some kvs
    | _ => none
  | _ => none
theorem inD_rd {K : Pm} {W : Wd} {H : Hp} {v : V} {d : D} {kvs : List (Key × D)} (g : Gr K W H) (r : Rv K W H v d) (e : inD d W.G = some kvs) : ∃ a ps, v = .ref a ∧ Rd H a (.dK ps) ∧ Rkv K W H ps kvs := by
  unfold inD at e
  split at e
  · cases e; cases r with
    | dct h n q => exact ⟨_, _, rfl, h, q⟩
  · cases e; cases r with
    | dcl h n q => exact ⟨_, _, rfl, .inr h, q⟩
  · split at e
    · rename_i hn
      cases e; cases r with
      | ref ha =>
        obtain ⟨ps, hh, q⟩ := g.obj _ _ _ ha hn
        exact ⟨_, ps, rfl, .inl hh, q⟩
    · rename_i hn
      cases e; cases r with
      | ref ha =>
        obtain ⟨o, ps, hh, q⟩ := g.obj _ _ _ ha hn
        exact ⟨_, ps, rfl, .inr ⟨o, hh⟩, q⟩
    · cases e
  · cases e
def dgetO (x y : D) (G : List O) : Option (Option D) := match inD x G, keyO y with
  | some kvs, some k => some (lookK kvs k)
  | _, _ => none
def dgetP : D → D → P1 D := fun x y G => match dgetO x y G with
  | some (some d) => some (d, G)
  | _ => none
def dinP (neg : Bool) : D → D → P1 D := fun y x G => match dgetO x y G with
  | some o => some (.bl (if neg then !o.isSome else o.isSome), G)
  | none => none
theorem dgetO_eq {K : Pm} {W : Wd} {H : Hp} {v w : V} {x y : D} {o : Option D} (g : Gr K W H) (r1 : Rv K W H v x) (r2 : Rv K W H w y) (h : dgetO x y W.G = some o) :
    ∃ a ov, v = .ref a ∧ DGet H a w ov ∧ (match o with | some d => ∃ u, ov = some u ∧ Rv K W H u d | none => ov = none) := by
  unfold dgetO at h
  split at h
  · rename_i kvs k h1 h2
    have h := Option.some.inj h
    obtain ⟨a, ps, rfl, rd, q⟩ := inD_rd g r1 h1
    cases keyO_v r2 h2
    refine ⟨a, valV ps k, rfl, .inl ⟨ps, k, rd, rfl, rfl⟩, ?_⟩
    have z := q.val k
    rw [h] at z
    cases o <;> exact z
  · cases h
section
variable {X : Cx} {We : WE'} {a b : Expr} {da db dv : En → M D} {pos pos' : Pos}
theorem te_dget (hu : X.A.units + 1 < cLine) (ha : PE X a (upE (Cxp X) We da)) (hb : PE X b (upE (Cxp X) We db)) (hs : NoSl b) : PE X (.Subscript a b pos) (upE (Cxp X) We (d2 dgetP da db)) := PE.imp (pe_dget hu ha hb hs) fun σ H Q h => by
  obtain ⟨W, ρ, r, G', hR, e, p⟩ := h
  refine up_bnd hR e p fun d W1 v H1 x1 R1 r1 e1 p1 => ?_
  refine up_bnd R1 e1 p1 fun d' W2 v' H2 x2 R2 r2 e2 p2 => ?_
  obtain ⟨d3, e3, p3⟩ := up_lft e2 p2
  unfold dgetP at e3
  split at e3
  · rename_i o ho
    cases e3
    obtain ⟨ad, ov, rfl, hg, u, rfl, ru⟩ := dgetO_eq R2.gr (r1.keep R1.gr x2) r2 ho
    exact ⟨ad, u, rfl, hg, p3 W2 u H2 rfl Ext.refl R2.gr ru⟩
  · cases e3
theorem din_up {neg : Bool} {σ : L2.St} {H : Hp} {Q : VK} (h : upE (Cxp X) We (d2 (dinP neg) da db) σ H Q) : upE (Cxp X) We da σ H fun y H1 => upE (Cxp X) We db σ H1 fun x H2 => ∃ a o, x = .ref a ∧ DGet H2 a y o ∧ Q (.bl (if neg then !o.isSome else o.isSome)) H2 := by
  obtain ⟨W, ρ, r, G', hR, e, p⟩ := h
  refine up_bnd hR e p fun d W1 v H1 x1 R1 r1 e1 p1 => ?_
  refine up_bnd R1 e1 p1 fun d' W2 v' H2 x2 R2 r2 e2 p2 => ?_
  obtain ⟨d3, e3, p3⟩ := up_lft e2 p2
  unfold dinP at e3
  split at e3
  · rename_i o ho
    cases e3
    obtain ⟨ad, ov, rfl, hg, z⟩ := dgetO_eq R2.gr r2 (r1.keep R1.gr x2) ho
    have es : ov.isSome = o.isSome := by
      cases o with
      | some d4 => obtain ⟨u, rfl, _⟩ := z; rfl
      | none => cases z; rfl
    refine ⟨ad, ov, rfl, hg, ?_⟩
    rw [es]
    exact p3 W2 _ H2 rfl Ext.refl R2.gr (.bl _)
  · cases e3
theorem te_din (hu : X.A.units + 1 < cLine) (ha : PE X a (upE (Cxp X) We da)) (hb : PE X b (upE (Cxp X) We db)) (h1 : behindInMarks .In b = false := by rfl) : PE X (.Compare a [.In] [b] pos) (upE (Cxp X) We (d2 (dinP false) da db)) := PE.imp (pe_cmp (pc_din hu ha hb) h1) fun σ H Q h => din_up (neg := false) h
theorem te_dnin (hu : X.A.units + 1 < cLine) (ha : PE X a (upE (Cxp X) We da)) (hb : PE X b (upE (Cxp X) We db)) (h1 : behindInMarks .NotIn b = false := by rfl) : PE X (.Compare a [.NotIn] [b] pos) (upE (Cxp X) We (d2 (dinP true) da db)) := PE.imp (pe_cmp (pc_dnotin hu ha hb) h1) fun σ H Q h => din_up (neg := true) h
theorem tt_din (hu : X.A.units + 1 < cLine) (ha : PE X a (upE (Cxp X) We da)) (hb : PE X b (upE (Cxp X) We db)) (h1 : behindInMarks .In b = false := by rfl) : PT X (.Compare a [.In] [b] pos) (upT (Cxp X) We (dTest (d2 (dinP false) da db))) := PT.imp (pt_cmp (pc_din hu ha hb) h1) fun σ H Q h => din_up (neg := false) (up_test h)
theorem tt_dnin (hu : X.A.units + 1 < cLine) (ha : PE X a (upE (Cxp X) We da)) (hb : PE X b (upE (Cxp X) We db)) (h1 : behindInMarks .NotIn b = false := by rfl) : PT X (.Compare a [.NotIn] [b] pos) (upT (Cxp X) We (dTest (d2 (dinP true) da db))) := PT.imp (pt_cmp (pc_dnotin hu ha hb) h1) fun σ H Q h => din_up (neg := true) (up_test h)
/-- d[k] = v -/
def dputP : D → D → D → P1 Unit := fun o k v G => match o, keyO k with
  | .ref n, some k => match G[n]? with
    | some (.dct kvs) => if kvs.length + 1 ≤ mx then some ((), G.set n (.dct (putKD kvs k v))) else none
    | _ => none
  | _, _ => none
def dDput (o k v : En → M D) : En → M Out := fun ρ => bnd (v ρ) fun x => bnd (o ρ) fun y => bnd (k ρ) fun z => bnd (lft (dputP y z x)) fun _ => ret (.nx ρ)
theorem tS_dput (hu : X.A.units + 1 < cLine) {o i value : Expr} (ho : PE X o (upE (Cxp X) We da)) (hi : PE X i (upE (Cxp X) We db)) (hv : PE X value (upE (Cxp X) We dv)) (hs : swapsWith value (some (.Subscript o i pos')) pos.line X.env = pure false := by rfl) :
    PS X (.Assign [.Subscript o i pos'] value pos) (ups (Cxp X) We (dDput da db dv)) := PS.imp (ps_dput hu ho hi hv hs) fun D0 σ H h => by
  obtain ⟨W, ρ, r, G', hR, e, p⟩ := h
  refine ups_bnd hR e p fun x W1 v1 H1 x1 R1 r1 e1 p1 => ?_
  refine ups_bnd R1 e1 p1 fun y W2 v2 H2 x2 R2 r2 e2 p2 => ?_
  refine ups_bnd R2 e2 p2 fun z W3 v3 H3 x3 R3 r3 e3 p3 => ?_
  obtain ⟨u, G4, e4, e5⟩ := bnd_lft e3
  unfold dputP at e4
  split at e4
  · rename_i k hk
    split at e4
    · rename_i kvs hn
      split at e4
      · rename_i hz
        cases e4
        have r2' := r2.keep R2.gr x3
        have r1' := (r1.keep R1.gr x2).keep R2.gr x3
        cases keyO_v r3 hk
        cases r2' with
        | ref ha =>
          obtain ⟨ps, hh, q⟩ := R3.gr.obj _ _ _ ha hn
          have ex := Ext.put (u := .dK (putK ps k v1)) (o' := .dct (putKD kvs k x)) R3.gr ha hn (fun z => nomatch z)
          have gx := R3.gr.put (u := .dK (putK ps k v1)) (o' := .dct (putKD kvs k x)) ha hn (fun z => nomatch z) ⟨_, upd_same, (q.put k r1').keep R3.gr ex⟩
          exact ⟨_, _, rfl, DPut.k hh (mx_lt (by rw [q.length]; omega)), nx_end (W := W3.put _ (.dct (putKD kvs k x))) e5 (p3.mono ex) rfl Ext.refl (R3.keep gx ex)⟩
      · cases e4
    · cases e4
  · cases e4
/-- {} that will be changed -/
def dNewD : En → M D := fun _ => lft fun G => some (.ref G.length, G ++ [.dct []])
theorem te_newD : PE X (.Dict [] [] pos) (upE (Cxp X) We dNewD) := PE.imp pe_dnewK fun σ H Q h => by
  obtain ⟨W, ρ, r, G', hR, e, p⟩ := h
  obtain ⟨d, e2, p2⟩ := up_lft e p
  cases e2
  intro l n
  have x : Ext W H (W.new l (.dct [])) (upd H l (.dK [])) := Ext.new hR.gr n
  have g : Gr (Cxp X) (W.new l (.dct [])) (upd H l (.dK [])) := hR.gr.new n ⟨[], upd_same, .nil⟩
  refine p2 (W.new l (.dct [])) _ _ rfl x g (.ref ?_)
  show (W.α ++ [l])[W.G.length]? = some l
  rw [← hR.gr.len]
  simp
end
/-! ### a dict of the module with text keys -/
section
variable {X : Cx} {We : WE'}
/-- tab: what the dict at d holds -/
def KTab (K : PySem.W.Frag) (w : World) (Kp : Pm) (d : Addr) (tab : Str → Option D) : Prop := ∃ es n, KDict K w d es n ∧ ∀ z : Str, match tab z with
  | some t => ∃ u v, PySem.W.nsIn K d z = some (some u) ∧ RelV v u ∧ ∀ (W : Wd) (H : Hp), Rv Kp W H v t
  | none => PySem.W.nsIn K d z = some none
def kgetO (tab : Str → Option D) (neg : Bool) : D → Option D
  | .str z => some ((tab z).getD .non)
  | _ => none
def dKget (tab : Str → Option D) (a : En → M D) : En → M D := fun ρ => bnd (a ρ) fun d => lft (pur (kgetO tab false d))
theorem k_get1 {A : Around} {E : Value → Shared → Prop} {pins : List (Addr × Obj)} {σ : L2.St} {H : Hp} {s : Shared} {d : Addr} {es : Array DictEntry} {n : Nat} {z : Str} {t : Tok} {r : Option Value} {Q : Value → Shared → Prop} (D0 : KDict X.K X.w d es n) (I : Inv X pins σ H s) (e : PySem.W.nsIn X.K d z = some r)
    (h : ∀ s', Inv X pins σ H s' → Q (r.getD .none) s') : wpAny (model X.prog X.w) A (call (.builtin "dict.get") [.ref d, .str z t]) Q E s := by
  have mp := PySem.W.mapOf_K (prog := X.prog) (w := X.w) I.kIn D0.at_ D0.lit
  refine call_meetsIn PySem.F.slot_dict_get mp.typeIs PySem.F.entry_dict_get (PySem.F.args_dict_get_2 _ _) (meets_dict_get (PySem.strKind X.prog X.w) d (PySem.strKind_is X.prog X.w z t) D0.low) ⟨_, mp, ?_⟩
  rw [PySem.W.find_K D0.at_ e]
  exact h _ (I.tok _)
theorem te_kget {d : Addr} {tab : Str → Option D} {x : Str} {e : Expr} {p apos cpos : Pos} {da : En → M D} (hg : Gl X x) (hm : X.mg x = some (.ref d)) (T : KTab X.K X.w (Cxp X) d tab) (he : PE X e (upE (Cxp X) We da)) (m : M1 X (.Name x p) "get" apos e cpos) (hdb : (x == ("__debug__" : Str)) = false := by decide) :
    PE X (.Call (.Attribute (.Name x p) "get" apos) [e] [] cpos) (upE (Cxp X) We (dKget tab da)) := by
  obtain ⟨es, n, D0, ht⟩ := T
  refine ⟨fun pins s σ H Q I h => ?_⟩
  refine wpAny_Call_method m.base m.few m.line PySem.F.plainAttrs_dict PySem.F.slot_dict_get PySem.F.type_dict_get (ld_glob I hg hm ?_ hdb)
  refine ⟨kd_type D0 I, fun a ea => ?_, ?_⟩
  · cases ea
    exact ⟨_, I.kIn _ _ D0.at_, rfl⟩
  · rw [m.trees]
    obtain ⟨W, ρ, r, G', hR, e1, p1⟩ := h
    have h2 : upE (Cxp X) We da σ H (fun y H1 => ∃ z r v, y = .str z ∧ PySem.W.nsIn X.K d z = some r ∧ RelV v (r.getD .none) ∧ Q v H1) := by
      refine up_bnd hR e1 p1 fun d1 W1 v H1 x1 R1 r1 e2 p2 => ?_
      obtain ⟨d3, e3, p3⟩ := up_lft e2 p2
      obtain ⟨e3, eg⟩ := pur_eq e3
      unfold kgetO at e3
      split at e3
      · cases e3
        cases r1 with
        | str =>
          rename_i z
          have q := ht z
          cases hz : tab z with
          | none =>
            rw [hz] at q p3
            exact ⟨z, none, .non, rfl, q, rfl, p3 W1 .non H1 eg.symm Ext.refl R1.gr .non⟩
          | some t =>
            rw [hz] at q p3
            obtain ⟨u, v, q1, q2, q3⟩ := q
            exact ⟨z, some u, v, rfl, q1, q2, p3 W1 v H1 eg.symm Ext.refl R1.gr (q3 W1 H1)⟩
      · cases e3
    refine Calls.callWith_builtin rfl (Calls.evalArgs_plain (Calls.spliced_cons (thn (he.run pins s σ H _ I h2) fun iv s2 ⟨y, H2, I2, ry, z, r0, v0, ez, hz, rv, q2⟩ => Calls.spliced_nil ?_)))
    subst ez
    obtain ⟨t, rfl⟩ := ry
    exact k_get1 D0 I2 hz fun s3 I3 => ⟨v0, H2, I3, rv, q2⟩
end
end Tw

namespace Tw
open PySem PySem.Spec PyProof.Rows L2

/-! ### a walk, any body -/
theorem walk_it {J : It} {n : Nat} {G : Hp → Prop} {Y : Nat → Hp → V → Hp → Prop} (w : Walk J n G Y) {H1 : Hp} {Qd : Hp → Prop} {B : (Hp → Prop) → V → Hp → Prop} (Pv : Nat → Hp → Prop) (h0 : Pv 0 H1) (hG : ∀ i H, i ≤ n → Pv i H → G H)
    (hs : ∀ i x H H', i < n → Pv i H → Y i H x H' → B (Pv (i + 1)) x H') (hd : ∀ H, Pv n H → Qd H) :
    ∃ W : Nat → Nat → Hp → Prop, (∃ m, W 0 m H1) ∧ ∀ i m H, W i m H → (J.stop i H ∧ Qd H) ∨ (J.go i H ∧ ∃ Nx : Hp → Prop, (∀ H', Nx H' → ∃ m', m' < m ∧ W (i + 1) m' H') ∧ ∀ x H', J.yld i H x H' → B Nx x H') := by
  refine ⟨fun i m H => m = n - i ∧ i ≤ n ∧ Pv i H, ⟨n, rfl, Nat.zero_le _, h0⟩, ?_⟩
  rintro i m H ⟨rfl, hi, p⟩
  rcases Nat.lt_or_ge i n with lt | ge
  · exact .inr ⟨w.goes i H lt (hG i H hi p), Pv (i + 1), fun H' q => ⟨n - (i + 1), by omega, rfl, lt, q⟩, fun x H' y => hs i x H H' lt p (w.yields i H x H' lt (hG i H hi p) y)⟩
  · obtain rfl : i = n := Nat.le_antisymm hi ge
    exact .inl ⟨w.stops H (hG _ H hi p), hd H p⟩
theorem Rs.off {K : Pm} {W : Wd} {ρ : En} {σ : L2.St} {H : Hp} {p : Addr} {u : HO} (r : Rs K W ρ σ H) (hp : p ∈ W.B) (nt : ∀ vs, H p ≠ some (.tup vs)) (nf : ∀ o w, H p ≠ some (.frz o w)) : Rs K W ρ σ (upd H p u) :=
  ⟨r.gr.off hp nt nf, r.len, fun i d e => let ⟨v, h, q⟩ := r.var i d e; ⟨v, h, Dr.off hp nt nf q⟩⟩
/-! ### [e for x in xs if t for y in ys if t1] -/
def lc2L (g : D → En → P1 En) (t : En → M Bool) (di1 : En → M (List D)) (g1 : D → En → P1 En) (t1 : En → M Bool) (a : En → M D) (vs1 : List Nat) (ρ : En) : List D → M (List D)
  | [] => ret []
  | d :: r => bndN (lft (g d ρ)) fun ρ1 => bndN (t ρ1) fun b => if b = true then bndN (di1 ρ1) fun ds1 => bndN (lcL g1 t1 a (wipeD ρ1 vs1) ds1) fun ys => bndN (lc2L g t di1 g1 t1 a vs1 ρ r) fun zs => ret (ys ++ zs) else lc2L g t di1 g1 t1 a vs1 ρ r
def dLc2 (di : En → M (List D)) (g : D → En → P1 En) (t : En → M Bool) (di1 : En → M (List D)) (g1 : D → En → P1 En) (t1 : En → M Bool) (a : En → M D) (own vs1 : List Nat) : En → M D := fun ρ => bnd (di ρ) fun ds => bndN (lc2L g t di1 g1 t1 a vs1 (wipeD ρ own) ds) fun ys => lft (okL ys)
section
variable {X : Cx} {We : WE'}
theorem lft_eq {A : Type} {f : P1 A} {G G' : List O} {r : A} (e : lft f G = some (.inr r, G')) : f G = some (r, G') := by
  unfold lft at e
  split at e
  · rename_i hk; cases e; exact hk
  · cases e
theorem lc2_up {tgr tgr1 : TG} {di di1 : En → M (List D)} {g g1 : D → En → P1 En} {t t1 : En → M Bool} {a : En → M D} {own vs1 : List Nat} (hgr : GRaw (Cxp X) tgr g own) (hgr1 : GRaw (Cxp X) tgr1 g1 vs1) {σ : L2.St} {H : Hp} {Q : VK} (h : upE (Cxp X) We (dLc2 di g t di1 g1 t1 a own vs1) σ H Q) :
    tLc2 (upI (Cxp X) We di) tgr (upT (Cxp X) WeF t) (upI (Cxp X) WeF di1) tgr1 (upT (Cxp X) WeF t1) (upE (Cxp X) WeF a) own vs1 σ H Q := by
  obtain ⟨W, ρ, r, G', hR, e, p⟩ := h
  unfold dLc2 bnd at e
  split at e
  · rename_i ds G1 he
    refine ⟨W, ρ, .inr ds, G1, hR, he, fun W0 H0 eg0 x0 g0 J wd Da nD => ?_⟩
    obtain ⟨Gd, Y, wk, st, yl⟩ := wd.ex
    rw [← eg0] at e
    obtain ⟨ys, Gx, e1, e2⟩ := bndN_eq e
    obtain ⟨dl, e3, e4⟩ : ∃ dl, okL ys Gx = some (dl, G') ∧ r = .inr dl := by
      unfold lft at e2
      split at e2
      · rename_i dl G2 hk; cases e2; exact ⟨dl, hk, rfl⟩
      · cases e2
    subst e4
    obtain ⟨e3, eg⟩ := pur_eq e3
    obtain ⟨hz, rfl⟩ := lstO_eq e3
    have R0 := (hR.keep g0 x0).wipe own
    refine walk_it wk (fun i H1 => ∃ (W1 : Wd) (acc rest : List D), LcI (Cxp X) W0 H0 Da W1 H1 acc ∧ lc2L g t di1 g1 t1 a vs1 (wipeD ρ own) (ds.drop i) W1.G = some (.inr rest, Gx) ∧ ys = acc ++ rest) ⟨W0.ban Da, [], ys, LcI.start g0 nD, (show lc2L g t di1 g1 t1 a vs1 (wipeD ρ own) (ds.drop 0) W0.G = _ by rw [List.drop_zero]; exact e1), rfl⟩
      (fun i H1 _ ⟨W1, acc, rest, I, _⟩ => st W1 H1 I.x.w I.g) (fun i v H1 H2 hi ⟨W1, acc, rest, I, e5, e6⟩ y => ?_) fun H1 ⟨W1, acc, rest, I, e5, e6⟩ => ?_
    · obtain ⟨d, hd, g2, x2, rv⟩ := yl i W1 H1 v H2 hi I.x.w I.g y
      have ed : ds.drop i = d :: ds.drop (i + 1) := by
        obtain ⟨hl, hv⟩ := List.getElem?_eq_some_iff.mp hd
        rw [List.drop_eq_getElem_cons hl, hv]
      rw [ed] at e5
      unfold lc2L at e5
      obtain ⟨ρ1, G2, e7, e8⟩ := bndN_eq e5
      have e7' := lft_eq e7
      have I2 := I.step x2 g2
      refine hgr W1 _ _ H2 v d ρ1 G2 _ (R0.keep g2 I2.x) rv e7' fun σ2 eg2 R2 hw => ⟨hw.trans (wipe_wipe σ own), ?_⟩
      subst eg2
      obtain ⟨b, G3, e9, e10⟩ := bndN_eq e8
      refine ⟨W1, ρ1, .inr b, G3, R2, e9, fun W4 b' H4 eg4 x4 g4 hb => ?_⟩
      cases hb
      rw [← eg4] at e10
      have I4 := I2.step x4 g4
      cases b with
      | false => exact iteF ⟨W4, acc, rest, I4, e10, e6⟩
      | true =>
        rw [if_pos rfl] at e10
        obtain ⟨ds1, G5, e11, e12⟩ := bndN_eq e10
        have R4 := R2.keep g4 x4
        refine iteT ⟨W4, ρ1, .inr ds1, G5, R4, e11, fun W6 H6 eg6 x6 g6 J1 wd1 => ?_⟩
        rw [← eg6] at e12
        obtain ⟨zs, G8, e13, e14⟩ := bndN_eq e12
        obtain ⟨us, G9, e15, e16⟩ := bndN_eq e14
        cases e16
        obtain ⟨Gd1, Y1, wk1, st1, yl1⟩ := wd1.ex
        have I6 := I4.step x6 g6
        have R6 := (R4.keep g6 x6).wipe vs1
        refine walk_it wk1 (fun j H7 => ∃ (W7 : Wd) (acc7 rest7 : List D), ExtW W6 H6 W7 H7 ∧ LcI (Cxp X) W0 H0 Da W7 H7 acc7 ∧ Rs (Cxp X) W7 (wipeD ρ1 vs1) (L2.wipe σ2 vs1) H7 ∧ lcL g1 t1 a (wipeD ρ1 vs1) (ds1.drop j) W7.G = some (.inr rest7, G8) ∧ acc7 ++ rest7 = acc ++ zs)
          ⟨W6, acc, zs, ExtW.refl, I6, R6, (show lcL g1 t1 a (wipeD ρ1 vs1) (ds1.drop 0) W6.G = _ by rw [List.drop_zero]; exact e13), rfl⟩
          (fun j H7 _ ⟨W7, acc7, rest7, x7, I7, _⟩ => st1 W7 H7 x7 I7.g) (fun j v7 H7 H8 hj ⟨W7, acc7, rest7, x7, I7, R7, e17, e18⟩ y7 => ?_) fun H7 ⟨W7, acc7, rest7, x7, I7, R7, e17, e18⟩ => ?_
        · obtain ⟨d7, hd7, g8, x8, rv7⟩ := yl1 j W7 H7 v7 H8 hj x7 I7.g y7
          have ed7 : ds1.drop j = d7 :: ds1.drop (j + 1) := by
            obtain ⟨hl, hv⟩ := List.getElem?_eq_some_iff.mp hd7
            rw [List.drop_eq_getElem_cons hl, hv]
          rw [ed7] at e17
          unfold lcL at e17
          obtain ⟨ρ3, G10, e19, e20⟩ := bndN_eq e17
          have e19' := lft_eq e19
          have I8 := I7.step x8 g8
          have R8 := R7.keep g8 x8
          refine hgr1 W7 _ _ H8 v7 d7 ρ3 G10 _ R8 rv7 e19' fun σ3 eg3 R9 hw1 => ⟨hw1.trans (wipe_wipe σ2 vs1), ?_⟩
          subst eg3
          obtain ⟨b1, G11, e21, e22⟩ := bndN_eq e20
          refine ⟨W7, ρ3, .inr b1, G11, R9, e21, fun W10 b10 H10 eg10 x10 g10 hb10 => ?_⟩
          cases hb10
          rw [← eg10] at e22
          have I10 := I8.step x10 g10
          have R10 := R8.keep g10 x10
          cases b1 with
          | false => exact iteF ⟨W10, acc7, rest7, (x7.step x8).step x10, I10, R10, e22, e18⟩
          | true =>
            rw [if_pos rfl] at e22
            obtain ⟨y1, G12, e23, e24⟩ := bndN_eq e22
            refine iteT ⟨W10, ρ3, .inr y1, G12, R9.keep g10 x10, e23, fun W11 v11 H11 eg11 x11 g11 r11 => ?_⟩
            rw [← eg11] at e24
            obtain ⟨rest8, G13, e25, e26⟩ := bndN_eq e24
            cases e26
            have I11 := I10.step x11 g11
            have R11 := R10.keep g11 x11
            obtain ⟨vs, hv, hlv, I12⟩ := I11.more nD r11
            have nt : ∀ ws, H11 Da ≠ some (.tup ws) := fun ws e => by rw [hv] at e; cases e
            have nf : ∀ o u, H11 Da ≠ some (.frz o u) := fun o u e => by rw [hv] at e; cases e
            refine ⟨vs, hv, ?_, W11, acc7 ++ [y1], rest8, (((x7.step x8).step x10).step x11).off I6.b nt nf, I12, R11.off I11.b nt nf, e25, by rw [← e18]; simp⟩
            have : ys.length = acc.length + zs.length + us.length := by rw [e6]; simp [Nat.add_assoc]
            have : acc7.length + (rest8.length + 1) = acc.length + zs.length := by
              have := congrArg List.length e18
              simpa using this
            exact mx_lt (by omega)
        · rw [List.drop_length] at e17
          unfold lcL at e17
          cases e17
          rw [List.append_nil] at e18
          exact ⟨W7, acc ++ zs, us, by rw [← e18]; exact I7, e15, by rw [e6, List.append_assoc]⟩
    · rw [List.drop_length] at e5
      unfold lc2L at e5
      cases e5
      obtain ⟨xe, ge, re⟩ := I.done g0 nD
      rw [List.append_nil] at e6
      subst e6
      exact p (W1.bans W0.B) _ H1 eg.symm (x0.trans xe) ge re
  · rename_i er G1 he
    cases e
    exact ⟨W, ρ, .inl er, _, hR, he, p⟩
  · cases e
theorem te_lc2 {elt tg iter tg1 iter1 : Expr} {ifs ifs1 : List Expr} {scope : Scope} {own : List (Str × Nat)} {vs1 : List Nat} {pos : Pos} {tgr tgr1 : TG} {di di1 : En → M (List D)} {g g1 : D → En → P1 En} {t t1 : En → M Bool} {a : En → M D} (hc : X.calm = true) (hN : X.N.Nodup) (hi : PI X tg iter (upI (Cxp X) We di)) (ok : BlkOk X.N X.env.scope scope own) (hv : ∀ i ∈ vs1, i ∈ own.map (·.2))
    (hgr : GRaw (Cxp X) tgr g (own.map (·.2))) (hgr1 : GRaw (Cxp X) tgr1 g1 vs1) (hg : ∀ (s : Shared) (H : Hp) (C : Addr) (cl : List (Str × Addr)) (fp : List Addr), PG (X.blk s H scope (compEnvC scope cl C X.env) fp) tg tgr)
    (ht : ∀ (s : Shared) (H : Hp) (C : Addr) (cl : List (Str × Addr)) (fp : List Addr), PTs (X.blk s H scope (compEnvC scope cl C X.env) fp) ifs (upT (Cxp X) WeF t))
    (hi1 : ∀ (s : Shared) (H : Hp) (C : Addr) (cl : List (Str × Addr)) (fp : List Addr), PI (X.blk s H scope (compEnvC scope cl C X.env) fp) tg1 iter1 (upI (Cxp X) WeF di1))
    (hg1 : ∀ (s : Shared) (H : Hp) (C : Addr) (cl : List (Str × Addr)) (fp : List Addr), PG (X.blk s H scope (compEnvC scope cl C X.env) fp) tg1 tgr1)
    (ht1 : ∀ (s : Shared) (H : Hp) (C : Addr) (cl : List (Str × Addr)) (fp : List Addr), PTs (X.blk s H scope (compEnvC scope cl C X.env) fp) ifs1 (upT (Cxp X) WeF t1))
    (he : ∀ (s : Shared) (H : Hp) (C : Addr) (cl : List (Str × Addr)) (fp : List Addr), PE (X.blk s H scope (compEnvC scope cl C X.env) fp) elt (upE (Cxp X) WeF a)) (hs : ∀ x, foldedSetIterable iter X.env x = pure x := by intro _; rfl) (hs1 : ∀ env x, foldedSetIterable iter1 env x = pure x := by intro _ _; rfl) :
    PE X (.ListComp elt [⟨tg, iter, ifs, 0⟩, ⟨tg1, iter1, ifs1, 0⟩] scope pos) (upE (Cxp X) We (dLc2 di g t di1 g1 t1 a (own.map (·.2)) vs1)) := PE.imp (pe_lc2 hc hN hi ok hv hg ht hi1 hg1 ht1 he hs hs1) fun σ H Q h => lc2_up (We := We) hgr hgr1 h
end
end Tw

namespace Tw
open PySem PySem.Spec PyProof.Rows L2

/-! ### {k: v for x in xs if t}, a dict that nobody changes -/
structure LdI (K : Pm) (W0 : Wd) (H0 : Hp) (Da : Addr) (W1 : Wd) (H1 : Hp) (acc : List (Key × D)) : Prop where
  x : Ext W0 H0 W1 H1
  g : Gr K W1 H1
  b : Da ∈ W1.B
  v : ∃ ps, H1 Da = some (.dK ps) ∧ Rkv K W1 H1 ps acc
theorem LdI.step {K : Pm} {W0 W1 W2 : Wd} {H0 H1 H2 : Hp} {Da : Addr} {acc : List (Key × D)} (i : LdI K W0 H0 Da W1 H1 acc) (x : Ext W1 H1 W2 H2) (g : Gr K W2 H2) : LdI K W0 H0 Da W2 H2 acc := by
  obtain ⟨ps, h, r⟩ := i.v
  refine ⟨i.x.trans x, g, x.b _ i.b, ps, (x.keep Da _ h fun l => ?_).1, Drk.keep i.g x r⟩
  obtain ⟨m, o, h1, _⟩ := l
  exact i.g.dis Da i.b (List.mem_of_getElem? h1)
theorem LdI.more {K : Pm} {W0 W1 : Wd} {H0 H1 : Hp} {Da : Addr} {acc : List (Key × D)} {y : D} {w : V} (i : LdI K W0 H0 Da W1 H1 acc) (n : H0 Da = none) (k : Key) (r : Rv K W1 H1 w y) :
    ∃ ps, H1 Da = some (.dK ps) ∧ ps.length = acc.length ∧ LdI K W0 H0 Da W1 (upd H1 Da (.dK (putK ps k w))) (putKD acc k y) := by
  obtain ⟨ps, h, q⟩ := i.v
  have nt : ∀ ws, H1 Da ≠ some (.tup ws) := fun ws e => by rw [h] at e; cases e
  have nf : ∀ o u, H1 Da ≠ some (.frz o u) := fun o u e => by rw [h] at e; cases e
  exact ⟨ps, h, q.length, i.x.off n, i.g.off i.b nt nf, i.b, _, upd_same, Drk.off i.b nt nf (q.put k r)⟩
theorem LdI.start {K : Pm} {W0 : Wd} {H0 : Hp} {Da : Addr} (g : Gr K W0 H0) (n : H0 Da = none) : LdI K W0 H0 Da (W0.ban Da) (upd H0 Da (.dK [])) [] :=
  ⟨Ext.ban n, g.ban n, List.mem_cons_self, [], upd_same, .nil⟩
theorem LdI.done {K : Pm} {W0 W1 : Wd} {H0 H1 : Hp} {Da : Addr} {acc : List (Key × D)} (i : LdI K W0 H0 Da W1 H1 acc) (g0 : Gr K W0 H0) (n : H0 Da = none) :
    Ext W0 H0 (W1.bans W0.B) H1 ∧ Gr K (W1.bans W0.B) H1 ∧ Rv K (W1.bans W0.B) H1 (.ref Da) (.dct acc) := by
  obtain ⟨ps, h, q⟩ := i.v
  refine ⟨i.x.bans i.x.b fun _ h => h, i.g.bans i.x.b, .dct (.inl h) (fun l => ?_) (Drk.less (L_bans i.x.b) q)⟩
  rcases l with ⟨m, o, h1, _⟩ | l
  · exact i.g.dis Da i.b (List.mem_of_getElem? h1)
  · obtain ⟨o, e⟩ := g0.thB Da l
    rw [n] at e; cases e
def dcL (g : D → En → P1 En) (t : En → M Bool) (ka va : En → M D) (ρ : En) : List D → List (Key × D) → M (List (Key × D))
  | [], acc => ret acc
  | d :: r, acc => bndN (lft (g d ρ)) fun ρ1 => bndN (t ρ1) fun b => if b = true then bndN (ka ρ1) fun y => bndN (va ρ1) fun z => match keyO y with
      | some k => if acc.length + 1 ≤ mx then dcL g t ka va ρ r (putKD acc k z) else fun _ => none
      | none => fun _ => none
    else dcL g t ka va ρ r acc
def dDc (di : En → M (List D)) (g : D → En → P1 En) (t : En → M Bool) (ka va : En → M D) (own : List Nat) : En → M D := fun ρ => bnd (di ρ) fun ds => bndN (dcL g t ka va (wipeD ρ own) ds []) fun kvs => ret (.dct kvs)
section
variable {X : Cx} {We : WE'}
theorem dc_up {tgr : TG} {di : En → M (List D)} {g : D → En → P1 En} {t : En → M Bool} {ka va : En → M D} {own : List Nat} (hgr : GRaw (Cxp X) tgr g own) {σ : L2.St} {H : Hp} {Q : VK} (h : upE (Cxp X) We (dDc di g t ka va own) σ H Q) :
    tDc (upI (Cxp X) We di) tgr (upT (Cxp X) WeF t) (upE (Cxp X) WeF ka) (upE (Cxp X) WeF va) own σ H Q := by
  obtain ⟨W, ρ, r, G', hR, e, p⟩ := h
  unfold dDc bnd at e
  split at e
  · rename_i ds G1 he
    refine ⟨W, ρ, .inr ds, G1, hR, he, fun W0 H0 eg0 x0 g0 J wd Da nD => ?_⟩
    obtain ⟨Gd, Y, wk, st, yl⟩ := wd.ex
    rw [← eg0] at e
    obtain ⟨kvs, Gx, e1, e2⟩ := bndN_eq e
    cases e2
    have R0 := (hR.keep g0 x0).wipe own
    refine walk_it wk (fun i H1 => ∃ (W1 : Wd) (acc : List (Key × D)), LdI (Cxp X) W0 H0 Da W1 H1 acc ∧ dcL g t ka va (wipeD ρ own) (ds.drop i) acc W1.G = some (.inr kvs, G')) ⟨W0.ban Da, [], LdI.start g0 nD, (show dcL g t ka va (wipeD ρ own) (ds.drop 0) [] W0.G = _ by rw [List.drop_zero]; exact e1)⟩
      (fun i H1 _ ⟨W1, acc, I, _⟩ => st W1 H1 I.x.w I.g) (fun i v H1 H2 hi ⟨W1, acc, I, e5⟩ y => ?_) fun H1 ⟨W1, acc, I, e5⟩ => ?_
    · obtain ⟨d, hd, g2, x2, rv⟩ := yl i W1 H1 v H2 hi I.x.w I.g y
      have ed : ds.drop i = d :: ds.drop (i + 1) := by
        obtain ⟨hl, hv⟩ := List.getElem?_eq_some_iff.mp hd
        rw [List.drop_eq_getElem_cons hl, hv]
      rw [ed] at e5
      unfold dcL at e5
      obtain ⟨ρ1, G2, e7, e8⟩ := bndN_eq e5
      have e7' := lft_eq e7
      have I2 := I.step x2 g2
      refine hgr W1 _ _ H2 v d ρ1 G2 _ (R0.keep g2 I2.x) rv e7' fun σ2 eg2 R2 hw => ⟨hw.trans (wipe_wipe σ own), ?_⟩
      subst eg2
      obtain ⟨b, G3, e9, e10⟩ := bndN_eq e8
      refine ⟨W1, ρ1, .inr b, G3, R2, e9, fun W4 b' H4 eg4 x4 g4 hb => ?_⟩
      cases hb
      rw [← eg4] at e10
      have I4 := I2.step x4 g4
      cases b with
      | false => exact iteF ⟨W4, acc, I4, e10⟩
      | true =>
        rw [if_pos rfl] at e10
        obtain ⟨y1, G5, e11, e12⟩ := bndN_eq e10
        have R4 := R2.keep g4 x4
        refine iteT ⟨W4, ρ1, .inr y1, G5, R4, e11, fun W6 v6 H6 eg6 x6 g6 r6 => ?_⟩
        rw [← eg6] at e12
        obtain ⟨z1, G7, e13, e14⟩ := bndN_eq e12
        have I6 := I4.step x6 g6
        refine ⟨W6, ρ1, .inr z1, G7, R4.keep g6 x6, e13, fun W8 v8 H8 eg8 x8 g8 r8 => ?_⟩
        rw [← eg8] at e14
        have I8 := I6.step x8 g8
        cases hk : keyO y1 with
        | none =>
          rw [hk] at e14
          cases e14
        | some k =>
          rw [hk] at e14
          by_cases hm : acc.length + 1 ≤ mx
          · have e15 : (if acc.length + 1 ≤ mx then dcL g t ka va (wipeD ρ own) (ds.drop (i + 1)) (putKD acc k z1) else fun _ => none) W8.G = some (Sum.inr kvs, G') := e14
            rw [if_pos hm] at e15
            obtain ⟨ps, hv, hl, I9⟩ := I8.more nD k r8
            exact ⟨ps, k, keyO_v (r6.keep g6 x8) hk, hv, mx_lt (by omega), W8, putKD acc k z1, I9, e15⟩
          · have e15 : (if acc.length + 1 ≤ mx then dcL g t ka va (wipeD ρ own) (ds.drop (i + 1)) (putKD acc k z1) else fun _ => none) W8.G = some (Sum.inr kvs, G') := e14
            rw [if_neg hm] at e15
            cases e15
    · rw [List.drop_length] at e5
      unfold dcL at e5
      cases e5
      obtain ⟨xe, ge, re⟩ := I.done g0 nD
      exact p (W1.bans W0.B) _ H1 rfl (x0.trans xe) ge re
  · rename_i er G1 he
    cases e
    exact ⟨W, ρ, .inl er, _, hR, he, p⟩
  · cases e
theorem te_dc {kx vx tg iter : Expr} {ifs : List Expr} {scope : Scope} {own : List (Str × Nat)} {pos : Pos} {tgr : TG} {di : En → M (List D)} {g : D → En → P1 En} {t : En → M Bool} {ka va : En → M D} (hc : X.calm = true) (hN : X.N.Nodup) (hi : PI X tg iter (upI (Cxp X) We di)) (ok : BlkOk X.N X.env.scope scope own)
    (hgr : GRaw (Cxp X) tgr g (own.map (·.2))) (hg : ∀ (s : Shared) (H : Hp) (C : Addr) (cl : List (Str × Addr)) (fp : List Addr), PG (X.blk s H scope (compEnvC scope cl C X.env) fp) tg tgr)
    (ht : ∀ (s : Shared) (H : Hp) (C : Addr) (cl : List (Str × Addr)) (fp : List Addr), PTs (X.blk s H scope (compEnvC scope cl C X.env) fp) ifs (upT (Cxp X) WeF t))
    (hk : ∀ (s : Shared) (H : Hp) (C : Addr) (cl : List (Str × Addr)) (fp : List Addr), PE (X.blk s H scope (compEnvC scope cl C X.env) fp) kx (upE (Cxp X) WeF ka))
    (hv : ∀ (s : Shared) (H : Hp) (C : Addr) (cl : List (Str × Addr)) (fp : List Addr), PE (X.blk s H scope (compEnvC scope cl C X.env) fp) vx (upE (Cxp X) WeF va)) (hs : ∀ x, foldedSetIterable iter X.env x = pure x := by intro _; rfl) :
    PE X (.DictComp kx vx [⟨tg, iter, ifs, 0⟩] scope pos) (upE (Cxp X) We (dDc di g t ka va (own.map (·.2)))) := PE.imp (pe_dc hc hN hi ok hg ht hk hv hs) fun σ H Q h => dc_up (We := We) hgr h
end
end Tw

namespace PySem
open Sem (wp)
/-! ### enumerate of what begins -/
theorem tw_enumNew {v : Value} {o : Obj} {Hc : Heap → Prop} (B : Begins v o Hc) :
    Meets (Builtin.«enumerate.__new__» ⟨[.type "enumerate", v], []⟩) (fun _ R s => Hc s.heap ∧
      R (.ok (.ret (.ref (s.heap.push o).objs.size))) { s with heap := (s.heap.push o).push { cls := .type "enumerate", data := .fields #[.none, .bool false, .ref s.heap.objs.size, rawInt 0, .none, .none] } }) :=
  .of_wp fun prog w A R s h => by
    obtain ⟨hp, ge, dr, tk, os⟩ := s
    obtain ⟨hc, h⟩ := h
    have sb := sub_enumerate
    have it := fun (A' : Around) (E' : Value → Shared → Prop) (Q' : Value → Shared → Prop) => B.iter prog w A' E' ⟨hp, ge, dr, tk, os⟩ Q' hc
    wp_walk
    refine wpAny_stack_any fun st => wpAny_pure ?_
    split
    · rename_i c _ _ _ _ _
      cases (c == Value.type "enumerate")
      · wp_walk using it
        exact ⟨_, rfl, h⟩
      · wp_walk using it
        exact ⟨_, rfl, h⟩
    · wp_walk using it
      exact ⟨_, rfl, h⟩
section
variable {prog : Program} {w : World} {A : Around} {E : Value → Shared → Prop} {s : Shared}
theorem tw_enumCall {v : Value} {o : Obj} {Hc : Heap → Prop} {Q : Value → Shared → Prop} (B : Begins v o Hc) (hc : Hc s.heap)
    (h : ∀ h', IsEnum h' (s.heap.objs.size + 1) s.heap.objs.size 0 .none → h'.get? s.heap.objs.size = some o → (∀ b u, s.heap.get? b = some u → h'.get? b = some u) → Q (.ref (s.heap.objs.size + 1)) { s with heap := h' }) :
    wpAny (model prog w) A (call (.type "enumerate") [v]) Q E s := by
  refine callType_new F.called_enumerate (by decide) (F.typeCall_enumerate_1 _) (F.newCall_enumerate_1 _) (fun obj => F.args_object_init_2 obj _) F.entry_enumerate_new (tw_enumNew B) ⟨hc, ?_⟩
  have z : (s.heap.push o).objs.size = s.heap.objs.size + 1 := Heap.size_push ..
  show _ ∧ _
  rw [z]
  have e := Heap.get?_push_size (s.heap.push o) (o := { cls := .type "enumerate", data := .fields #[.none, .bool false, .ref s.heap.objs.size, rawInt 0, .none, .none] }) rfl
  rw [z] at e
  exact ⟨⟨_, e, rfl⟩, h _ e (Heap.get?_push_of_some _ (Heap.get?_push_size _ B.free)) fun b u x => Heap.get?_push_of_some _ (Heap.get?_push_of_some _ x)⟩
end
end PySem
namespace Tw
open PySem PySem.Spec PyProof.Rows L2
/-- pairs of a place and an item, the tuple at a as it stands -/
def IteT (K : PySem.W.Frag) (a : Addr) : It :=
  ⟨fun i H => ∃ (xs : List V) (x : V), SqT K H a xs ∧ xs[i]? = some x, fun i H v H' => ∃ T x, v = .ref T ∧ H T = none ∧ H' = upd H T (.tup [.int (i : Nat), x]) ∧ ∀ xs, SqT K H a xs → xs[i]? = some x, fun i H => ∃ xs : List V, SqT K H a xs ∧ xs.length = i⟩
theorem turn_enumT {P : Program} {w : World} {K : PySem.W.Frag} {elts : List Expr} {kk : Nat} {tpos : Pos} (a e it : Addr) (nt : a ≠ it) (ne : e ≠ it) (nea : e ≠ a) :
    Turn P w K (.Tuple elts kk tpos) (IteT K a) [e, it] e (fun i h => (∃ old, IsEnum h e it ((i : Nat) : Int) old) ∧ h.IsTupleIter it a i) where
  mem := by simp
  obj := by
    intro i h st b hb
    obtain ⟨⟨old, he⟩, o, ho, hc, hd⟩ := st
    have z : b = e ∨ b = it := by simpa using hb
    rcases z with rfl | rfl
    · exact ⟨_, he, fun v q => nomatch q⟩
    · exact ⟨o, ho, fun v q => by rw [hd] at q; cases q⟩
  keep := by
    intro i h h' st k
    obtain ⟨⟨old, he⟩, o, ho, r⟩ := st
    exact ⟨⟨old, k e (by simp) _ he⟩, o, k it (by simp) o ho, r⟩
  item := by
    intro X hP hw hK hcalm i pins s σ H E I hf st hg
    subst hP hw hK
    obtain ⟨⟨old, he⟩, hit⟩ := st
    obtain ⟨xs, x, hq, hx⟩ := hg
    obtain ⟨its, rv, tu, hz⟩ := I.tuple hq
    obtain ⟨u, hu, ru⟩ := rv.get hx
    have le : e < s.heap.objs.size := Heap.lt_size he
    have li : it < s.heap.objs.size := by obtain ⟨_, q, _⟩ := hit; exact Heap.lt_size q
    have lt : i < its.toArray.size := by
      have := (List.getElem?_eq_some_iff.mp hu).1
      simpa using this
    refine wpAny_pyNext_enum_itemC (Draws.tuple (A := X.A.in1) (show X.A.in1.handled = none from I.ok.hd hcalm) it a nt its.toArray) he ⟨hit, tu⟩ lt ne (by simp [ne, nea]) fun y h1 tk py out st1 ht hs1 hk => ?_
    have ey : y = u := by
      have q : its.toArray[i]? = some u := by simpa using hu
      have p : its.toArray[i]? = some y := py
      rw [q] at p
      exact (Option.some.inj p).symm
    subst ey
    refine ⟨_, rfl, wpAny_letOwnedTupleGo_enum (s := { s with heap := h1, toks := tk + 1 }) out fun h2 he2 sb => ?_⟩
    have ht2 : h2.get? s.heap.objs.size = some { cls := .type "tuple", data := .seq #[.int i tk, y] } := (sb.2 _ (Nat.ne_of_gt le)).trans ht
    have new : ObjOk X.prog X.w (upd H s.heap.objs.size (.tup [.int (i : Nat), x])) h2 s.heap.objs.size (.tup [.int (i : Nat), x]) :=
      ⟨by show 2 ≤ sizeLine; decide, [.int i tk, y], .cons ⟨_, rfl⟩ (.cons ru .nil), ⟨_, ht2, rfl, _, rfl⟩⟩
    have J : Inv X pins σ (upd H s.heap.objs.size (.tup [.int (i : Nat), x])) { s with heap := h2, toks := tk + 1 } :=
      I.turnedNew (ch := [e, it]) (fun b ob hb q => (sb.2 b (fun z => hb (by simp [z]))).trans (hk b ob (fun z => hb (by simp [z])) (fun z => hb (by simp [z])) q)) hf (Nat.le_refl _) new
    refine ⟨.ref s.heap.objs.size, _, J, rfl, ⟨_, x, rfl, I.hok.fresh (Nat.le_refl _), rfl, fun ys hy => by rw [I.tuple_inj hy hq]; exact hx⟩, ⟨⟨y, ?_⟩, st1.1.at fun o q => (sb.2 it (Ne.symm ne)).trans q⟩, fun b hb => ?_⟩
    · have e1 : ((i + 1 : Nat) : Int) = (i : Int) + 1 := by omega
      rw [e1]
      exact he2
    · have lb : b < s.heap.objs.size := by
        have z : b = e ∨ b = it := by simpa using hb
        rcases z with rfl | rfl
        · exact le
        · exact li
      rw [upd_ne (Nat.ne_of_lt lb)]
      exact (hf b hb).1
  done := by
    intro X hP hw hK hcalm i pins s σ H E I hf st hg
    subst hP hw hK
    obtain ⟨⟨old, he⟩, hit⟩ := st
    obtain ⟨xs, hq, hx⟩ := hg
    obtain ⟨its, rv, tu, hz⟩ := I.tuple hq
    obtain ⟨f0, f1, f2, f3, f4, f5⟩ := hf it (by simp)
    have en : its.toArray.size = i := by
      have := rv.length
      simp
      omega
    refine wpAny_pyNext_enum_endD (Draws.tuple (A := X.A.in1) (show X.A.in1.handled = none from I.ok.hd hcalm) it a nt its.toArray) he ⟨by rw [en]; exact hit, tu⟩ fun h1 eb => ⟨rfl, I.turned (t' := s.toks) (fun b o hb q => eb b o hb q) f0 f1 f3 f4 f5⟩
  self := fun A i s Q E st h => let ⟨⟨_, he⟩, _⟩ := st; wpAny_pyIter_enum he h
def iEnumT (K : PySem.W.Frag) (ta : TA) : TI := fun σ H R => ta σ H fun vs H1 => ∃ a xs, vs = [.ref a] ∧ SqT K H1 a xs ∧ R (IteT K a) H1
theorem pi_enumT {X : Cx} {e : Expr} {ta : TA} {p pos tpos : Pos} {elts : List Expr} {kk : Nat} (hg : Gl X "enumerate") (hm : X.mg "enumerate" = none) (ha : PA X [e] ta) (hs : starEach [e] X.env = [(false, eval e X.env)] := by rfl) :
    PI X (.Tuple elts kk tpos) (.Call (.Name "enumerate" p) [e] [] pos) (iEnumT X.K ta) := by
  refine ⟨fun pins s σ H R I h => ?_⟩
  refine Call_ (ld_blt I hg hm boot_enumerate (PyProof.Rows.callWith_type1 (thn (ha.run pos pins s σ H _ I h) fun us s1 hh => ?_) hs rfl))
  obtain ⟨vs, H1, I1, r1, a, xs, rfl, hq, q⟩ := hh
  cases r1 with
  | cons r rr =>
    cases rr
    cases r
    obtain ⟨its, rv, tu, hz⟩ := I1.tuple hq
    have la : a < s1.heap.objs.size := tu.lt
    refine tw_enumCall (begins_tuple a its.toArray) tu fun h' he hi hk => wpAny_pyIter_enum he ?_
    have I2 : Inv X pins σ H1 { s1 with heap := h' } := I1.kept (t' := s1.toks) hk
    refine ⟨s1.heap.objs.size + 1, [s1.heap.objs.size + 1, s1.heap.objs.size], _, _, H1, rfl, I2, turn_enumT a (s1.heap.objs.size + 1) s1.heap.objs.size (Nat.ne_of_lt la) (Nat.succ_ne_self _) (Nat.ne_of_gt (Nat.lt_succ_of_lt la)), ⟨⟨.none, he⟩, _, hi, rfl, rfl⟩, fun b hb => ?_, q⟩
    have le : s1.heap.objs.size ≤ b := by
      have z : b = s1.heap.objs.size + 1 ∨ b = s1.heap.objs.size := by simpa using hb
      rcases z with z | z
      · rw [z]; exact Nat.le_succ _
      · rw [z]; exact Nat.le_refl _
    exact I1.fpOk le (I1.hok.fresh le)
/-- the layer's rule -/
def enumT1 : List D → Option (List D)
  | [x] => (itT x).map enumD
  | _ => none
theorem ti_enumT {X : Cx} {We : WE'} {a : Expr} {ta : En → M (List D)} {p pos tpos : Pos} {elts : List Expr} {kk : Nat} (hg : Gl X "enumerate") (hm : X.mg "enumerate" = none) (ha : PA X [a] (upA (Cxp X) We ta)) (hs : starEach [a] X.env = [(false, eval a X.env)] := by rfl) :
    PI X (.Tuple elts kk tpos) (.Call (.Name "enumerate" p) [a] [] pos) (upI (Cxp X) We (dRng enumT1 ta)) := PI.imp (pi_enumT hg hm ha hs) fun σ H R0 h => by
  obtain ⟨W, ρ, r, G', hR, e, p⟩ := h
  refine upi_bnd hR e p fun d W1 v H1 x1 R1 r1 e1 p1 => ?_
  obtain ⟨ds, e2, p2⟩ := upi_lft e1 p1
  obtain ⟨e2, eg⟩ := pur_eq e2
  obtain ⟨x, rfl, e3⟩ : ∃ x, d = [x] ∧ (itT x).map enumD = some ds := by
    revert e2
    unfold enumT1
    split
    · intro h; exact ⟨_, rfl, h⟩
    · intro h; cases h
  · cases hx : itT x with
    | none => rw [hx] at e3; cases e3
    | some xs =>
      rw [hx] at e3
      cases e3
      cases r1 with
      | cons h r1 =>
        cases r1
        obtain ⟨b, vs, rfl, l, sq, st⟩ := itT_sq R1.gr h hx
        refine ⟨b, vs, rfl, sq, p2 W1 H1 eg.symm Ext.refl R1.gr _ ⟨fun H => SqT X.K H b vs, fun i H v H' => ∃ T x, v = .ref T ∧ H T = none ∧ H' = upd H T (.tup [.int (i : Nat), x]) ∧ vs[i]? = some x, ?_, fun W' H' x _ => (st W' H' x).1, fun i W' H' y H'' hi x g q => ?_⟩⟩
        · rw [enumD_len, ← l]
          refine ⟨fun i H hi q => ⟨vs, vs[i], q, by simp [hi]⟩, fun H q => ⟨vs, q, rfl⟩, fun i H v H' hi q y => ?_⟩
          obtain ⟨T, x0, h1, h2, h3, h4⟩ := y
          exact ⟨T, x0, h1, h2, h3, h4 _ q⟩
        · obtain ⟨T, x0, rfl, n, rfl, q1⟩ := q
          obtain ⟨d0, h1, h2⟩ := (st W' _ x).2.at2 q1
          obtain ⟨g', x', rv⟩ := pair_new g (.int _) h2 n
          exact ⟨_, enumD_at h1, g', x', rv⟩
end Tw

namespace Tw
open PySem PySem.Spec PyProof.Rows L2
/-! ### min of a tuple of ints -/
def rMinT (K : PySem.W.Frag) : List V → Hp → VK → Prop := fun vs H Q => ∃ (a : Addr) (n : Int) (ns : List Int), vs = [.ref a] ∧ SqT K H a ((n :: ns).map V.int) ∧ Q (.int (ns.foldl min n)) H
theorem reads_of_ints {h : Heap} : ∀ {ns : List Int} {us : List Value}, Vals (ns.map V.int) us → ReadsAll h us (ns.map PyData.int) []
  | [], us, r => by
    rw [List.map_nil] at r
    cases r
    exact .nil
  | n :: ns, us, r => by
    rw [List.map_cons] at r
    cases r with
    | cons a t =>
      obtain ⟨tk, rfl⟩ := a
      exact .cons (as := []) (bs := []) (.int n tk) (reads_of_ints t)
theorem cr_minT {X : Cx} (hc : X.calm = true) (hu : X.A.units + 64 < cLine) : CallR X (.builtin "min") (rMinT X.K) := by
  intro pins s σ H vs us Q I r h
  obtain ⟨a, n, ns, rfl, hs, q⟩ := h
  obtain ⟨its, rv, tu, _⟩ := I.tuple hs
  rw [Vals.ref1 r]
  have rd : ReadsAll s.heap its.toArray.toList (.int n :: ns.map PyData.int) [] := by
    have := reads_of_ints (h := s.heap) rv
    simpa using this
  have al : PySem.W.AlikeAll (.int n :: ns.map PyData.int) := by
    refine ⟨fun x hx y hy => ?_, fun x hx => ?_⟩
    · have ix : ∃ i, x = .int i := by
        rcases List.mem_cons.mp hx with z | z
        · exact ⟨n, z⟩
        · obtain ⟨i, _, e⟩ := List.mem_map.mp z; exact ⟨i, e.symm⟩
      have iy : ∃ i, y = .int i := by
        rcases List.mem_cons.mp hy with z | z
        · exact ⟨n, z⟩
        · obtain ⟨i, _, e⟩ := List.mem_map.mp z; exact ⟨i, e.symm⟩
      obtain ⟨i, rfl⟩ := ix
      obtain ⟨j, rfl⟩ := iy
      rfl
    · rcases List.mem_cons.mp hx with z | z
      · rw [z]; exact fun q => nomatch q
      · obtain ⟨i, _, e⟩ := List.mem_map.mp z
        rw [← e]; exact fun q => nomatch q
  have dp : PyData.depthAll (.int n :: ns.map PyData.int) = 0 := PySem.W.depth_ints (n :: ns)
  refine PySem.W.min_tuple_data (I.ok.hd hc) tu rd al (by rw [dp]; omega) fun i v h' tk bs hv rdv hk => ?_
  rw [PySem.W.minD_ints] at rdv
  cases rdv
  exact ⟨.int _, H, I.kept (t' := tk) hk, ⟨_, rfl⟩, q⟩
def minTF (xs : List D) : Option D := match intsO xs with
  | some (n :: ns) => some (.int (ns.foldl min n))
  | _ => none
def tP (f : List D → Option D) : List D → P1 D := fun ds G => match ds with
  | [.tup xs] => match f xs with
    | some d => some (d, G)
    | none => none
  | _ => none
theorem cd_minT {K : Pm} : CallD K (rMinT K.K) (tP minTF) := fun W H vs ds d G' Q g r e p => by
  unfold tP at e
  split at e
  · rename_i xs
    cases hx : intsO xs with
    | none => simp [minTF, hx] at e
    | some is =>
      cases is with
      | nil => simp [minTF, hx] at e
      | cons n ns =>
        simp [minTF, hx] at e
        obtain ⟨rfl, rfl⟩ := e
        cases r with
        | cons h r =>
          cases r
          cases h with
          | tup h q =>
            have ev := ints_v q hx
            subst ev
            exact ⟨_, n, ns, rfl, h, p W _ H rfl Ext.refl g (.int _)⟩
  · cases e
/-! ### -e -/
def negO : D → Option D
  | .int i => some (.int (-i))
  | _ => none
def dNeg (a : En → M D) : En → M D := fun ρ => bnd (a ρ) fun d => lft (pur (negO d))
theorem te_neg {X : Cx} {We : WE'} {a : Expr} {da : En → M D} {pos : Pos} (ha : PE X a (upE (Cxp X) We da)) : PE X (.UnaryOp .USub a pos) (upE (Cxp X) We (dNeg da)) := PE.imp (pe_un un_neg ha) fun σ H Q h => by
  obtain ⟨W, ρ, r, G', hR, e, p⟩ := h
  refine up_bnd hR e p fun d W1 v H1 x1 R1 r1 e1 p1 => ?_
  obtain ⟨d2, e2, p2⟩ := up_lft e1 p1
  obtain ⟨e2, eg⟩ := pur_eq e2
  unfold negO at e2
  split at e2
  · cases e2
    cases r1
    exact ⟨_, rfl, p2 W1 _ H1 eg.symm Ext.refl R1.gr (.int _)⟩
  · cases e2
end Tw

namespace Tw
open PySem PySem.Spec PyProof.Rows L2
/-! ### more numbers, less that is barred -/
section
variable {K : Pm} {L L' : Addr → Prop} {α : List Addr} {H : Hp}
mutual
theorem Dr.grow (le : ∀ a, L' a → L a) (t : List Addr) : ∀ {v : V} {d : D}, Dr K L α H v d → Dr K L' (α ++ t) H v d
  | _, _, .non => .non
  | _, _, .bl b => .bl b
  | _, _, .int i => .int i
  | _, _, .str z => .str z
  | _, _, .tup h r => .tup h (Drs.grow le t r)
  | _, _, .lst h n r => .lst h (fun l => n (le _ l)) (Drs.grow le t r)
  | _, _, .scr h r => .scr (h.imp (fun z => ⟨fun l => z.1 (le _ l), z.2⟩) id) (Drs.grow le t r)
  | _, _, .dct h n r => .dct h (fun l => n (le _ l)) (Drk.grow le t r)
  | _, _, .set h n nd e => .set h (fun l => n (le _ l)) nd e
  | _, _, .ref h => .ref (by rw [List.getElem?_append_left (List.getElem?_eq_some_iff.mp h).1]; exact h)
  | _, _, .glo a => .glo a
  | _, _, .ty n => .ty n
  | _, _, .dcl h n r => .dcl h (fun l => n (le _ l)) (Drk.grow le t r)
  | _, _, .tpn h r => .tpn h (Drs.grow le t r)
  | _, _, .cls h => .cls h
  | _, _, .exc h e n => .exc h e (fun l => n (le _ l))
  | _, _, .exf h e n e2 n2 r => .exf h e (fun l => n (le _ l)) e2 (fun l => n2 (le _ l)) (Dr.grow le t r)
theorem Drs.grow (le : ∀ a, L' a → L a) (t : List Addr) : ∀ {vs : List V} {ds : List D}, Drs K L α H vs ds → Drs K L' (α ++ t) H vs ds
  | _, _, .nil => .nil
  | _, _, .cons h r => .cons (Dr.grow le t h) (Drs.grow le t r)
theorem Drk.grow (le : ∀ a, L' a → L a) (t : List Addr) : ∀ {ps : List (Key × V)} {kvs : List (Key × D)}, Drk K L α H ps kvs → Drk K L' (α ++ t) H ps kvs
  | _, _, .nil => .nil
  | _, _, .cons h r => .cons (Dr.grow le t h) (Drk.grow le t r)
end
end
/-! ### a comprehension whose list is changed later -/
structure FinOk (K : Pm) (fin : List D → P1 D) : Prop where
  len : ∀ (ys : List D) (G : List O) (d : D) (G' : List O), fin ys G = some (d, G') → ys.length ≤ mx
  ok : ∀ {W0 : Wd} {H0 : Hp} {Da : Addr} {W1 : Wd} {H1 : Hp} {acc : List D} {d : D} {G' : List O}, LcI K W0 H0 Da W1 H1 acc → Gr K W0 H0 → H0 Da = none → fin acc W1.G = some (d, G') → ∃ W', W'.G = G' ∧ Ext W0 H0 W' H1 ∧ Gr K W' H1 ∧ Rv K W' H1 (.ref Da) d
theorem fin_new {K : Pm} : FinOk K newL := by
  refine ⟨fun ys G d G' h => (newL_eq h).1, fun {W0 H0 Da W1 H1 acc d G'} I g0 n h => ?_⟩
  obtain ⟨_, rfl, rfl⟩ := newL_eq h
  obtain ⟨x, g, r⟩ := I.done g0 n
  obtain ⟨vs, hv, q⟩ := I.v
  have na : Da ∉ W1.α := I.g.dis Da I.b
  have nb : Da ∉ W0.B := fun l => by
    obtain ⟨o, e⟩ := g0.thB Da l
    rw [n] at e; cases e
  have hl : W1.α.length = W1.G.length := I.g.len
  have lv : ∀ b, live ((W1.bans W0.B).new Da (.lst acc)) b → live (W1.bans W0.B) b ∨ b = Da := fun b l => live_new hl l
  have xx : Ext W0 H0 ((W1.bans W0.B).new Da (.lst acc)) H1 := by
    obtain ⟨t, ht⟩ := x.pre
    refine ⟨x.b, x.b', x.th, ⟨t ++ [Da], ?_⟩, fun c o hc l => ?_, x.tup⟩
    · show W1.α ++ [Da] = _
      have ht' : W1.α = W0.α ++ t := ht
      rw [ht', List.append_assoc]
    · obtain ⟨k1, k2⟩ := x.keep c o hc l
      refine ⟨k1, fun z => ?_⟩
      rcases lv c z with z | z
      · exact k2 z
      · rw [z, n] at hc; cases hc
  have le : ∀ c, L ((W1.bans W0.B).new Da (.lst acc)) c → L W1 c := fun c l => by
    rcases l with l | l
    · rcases lv c l with z | z
      · exact .inl z
      · exact .inr (by rw [z]; exact I.b)
    · exact .inr (I.x.b c l)
  have gg : Gr K ((W1.bans W0.B).new Da (.lst acc)) H1 := by
    refine ⟨by simp [Wd.new, Wd.bans, hl], ?_, fun c hc => ?_, fun c hc => ?_, fun c hc => I.g.thB c (I.x.b c hc), fun m c u h1 h2 => ?_⟩
    · show (W1.α ++ [Da]).Nodup
      rw [List.nodup_append]
      refine ⟨I.g.nd, by simp, fun c hc b hb => ?_⟩
      have : b = Da := by simpa using hb
      rw [this]; rintro rfl; exact na hc
    · show c ∉ W1.α ++ [Da]
      have hc' : c ∈ W0.B := hc
      simp only [List.mem_append, List.mem_singleton, not_or]
      exact ⟨I.g.dis c (I.x.b c hc'), fun z => nb (by rw [← z]; exact hc')⟩
    · have hc' : c ∈ W1.α ++ [Da] := hc
      rcases List.mem_append.mp hc' with z | z
      · exact I.g.thA c z
      · have : c = Da := by simpa using z
        rw [this]; exact ⟨_, hv⟩
    · have h1' : (W1.α ++ [Da])[m]? = some c := h1
      have h2' : (W1.G ++ [O.lst acc])[m]? = some u := h2
      by_cases hm : m < W1.α.length
      · rw [List.getElem?_append_left hm] at h1'
        rw [List.getElem?_append_left (by omega)] at h2'
        have ob := I.g.obj m c u h1' h2'
        cases u with
        | lst ds => obtain ⟨ws, e1, e2⟩ := ob; exact ⟨ws, e1, Drs.grow le [Da] e2⟩
        | dct kvs => obtain ⟨ps, e1, e2⟩ := ob; exact ⟨ps, e1, Drk.grow le [Da] e2⟩
        | dlk kvs => obtain ⟨o, ps, e1, e2⟩ := ob; exact ⟨o, ps, e1, Drk.grow le [Da] e2⟩
        | gone => exact True.intro
      · rw [List.getElem?_append_right (by omega)] at h1'
        rw [List.getElem?_append_right (by omega)] at h2'
        have em : m - W1.α.length = m - W1.G.length := by omega
        rw [em] at h1'
        cases hk : m - W1.G.length with
        | zero =>
          rw [hk] at h1' h2'
          simp at h1' h2'
          subst h1' h2'
          exact ⟨vs, hv, Drs.grow le [Da] q⟩
        | succ k => rw [hk] at h1'; simp at h1'
  refine ⟨_, rfl, xx, gg, .ref ?_⟩
  show (W1.α ++ [Da])[W1.G.length]? = some Da
  rw [← hl]
  simp
section
variable {X : Cx} {We : WE'}
def dLcF (fin : List D → P1 D) (di : En → M (List D)) (g : D → En → P1 En) (t : En → M Bool) (a : En → M D) (own : List Nat) : En → M D := fun ρ => bnd (di ρ) fun ds => bndN (lcL g t a (wipeD ρ own) ds) fun ys => lft (fin ys)
theorem lc_upF {fin : List D → P1 D} (hfin : FinOk (Cxp X) fin) {wi : TI} {tgr : TG} {di : En → M (List D)} {g : D → En → P1 En} {t : En → M Bool} {a : En → M D} {own : List Nat} (hgr : GRaw (Cxp X) tgr g own) {σ : L2.St} {H : Hp} {Q : VK} (h : upE (Cxp X) We (dLcF fin di g t a own) σ H Q) :
    tLc (upI (Cxp X) We di) tgr (upT (Cxp X) WeF t) (upE (Cxp X) WeF a) own σ H Q := by
  obtain ⟨W, ρ, r, G', hR, e, p⟩ := h
  unfold dLcF bnd at e
  split at e
  · rename_i ds G1 he
    refine ⟨W, ρ, .inr ds, G1, hR, he, fun W0 H0 eg0 x0 g0 J wd Da nD => ?_⟩
    obtain ⟨Gd, Y, wk, st, yl⟩ := wd.ex
    rw [← eg0] at e
    obtain ⟨ys, Gx, e1, e2⟩ := bndN_eq e
    obtain ⟨dl, e3, e4⟩ : ∃ dl, fin ys Gx = some (dl, G') ∧ r = .inr dl := by
      unfold lft at e2
      split at e2
      · rename_i dl G2 hk; cases e2; exact ⟨dl, hk, rfl⟩
      · cases e2
    subst e4
    have hz : ys.length ≤ mx := hfin.len _ _ _ _ e3
    have R0 := (hR.keep g0 x0).wipe own
    refine lc_it wk (fun i H1 => ∃ (W1 : Wd) (acc rest : List D), LcI (Cxp X) W0 H0 Da W1 H1 acc ∧ lcL g t a (wipeD ρ own) (ds.drop i) W1.G = some (.inr rest, Gx) ∧ ys = acc ++ rest) ⟨W0.ban Da, [], ys, LcI.start g0 nD, (show lcL g t a (wipeD ρ own) (ds.drop 0) W0.G = _ by rw [List.drop_zero]; exact e1), rfl⟩
      (fun i H1 _ ⟨W1, acc, rest, I, _⟩ => st W1 H1 I.x.w I.g) (fun i v H1 H2 hi ⟨W1, acc, rest, I, e5, e6⟩ y => ?_) fun H1 ⟨W1, acc, rest, I, e5, e6⟩ => ?_
    · obtain ⟨d, hd, g2, x2, rv⟩ := yl i W1 H1 v H2 hi I.x.w I.g y
      have ed : ds.drop i = d :: ds.drop (i + 1) := by
        obtain ⟨hl, hv⟩ := List.getElem?_eq_some_iff.mp hd
        rw [List.drop_eq_getElem_cons hl, hv]
      rw [ed] at e5
      unfold lcL at e5
      obtain ⟨ρ1, G2, e7, e8⟩ := bndN_eq e5
      have e7' : g d (wipeD ρ own) W1.G = some (ρ1, G2) := by
        unfold lft at e7
        split at e7
        · rename_i a1 G3 hk; cases e7; exact hk
        · cases e7
      have I2 := I.step x2 g2
      refine hgr W1 _ _ H2 v d ρ1 G2 _ (R0.keep g2 I2.x) rv e7' fun σ2 eg2 R2 hw => ⟨hw.trans (wipe_wipe σ own), ?_⟩
      subst eg2
      obtain ⟨b, G3, e9, e10⟩ := bndN_eq e8
      refine ⟨W1, ρ1, .inr b, G3, R2, e9, fun W4 b' H4 eg4 x4 g4 hb => ?_⟩
      cases hb
      rw [← eg4] at e10
      have I4 := I2.step x4 g4
      cases b with
      | false => exact iteF ⟨W4, acc, rest, I4, e10, e6⟩
      | true =>
        rw [if_pos rfl] at e10
        obtain ⟨y1, G5, e11, e12⟩ := bndN_eq e10
        refine iteT ⟨W4, ρ1, .inr y1, G5, R2.keep g4 x4, e11, fun W6 v6 H6 eg6 x6 g6 r6 => ?_⟩
        rw [← eg6] at e12
        obtain ⟨rest', G7, e13, e14⟩ := bndN_eq e12
        cases e14
        have I6 := I4.step x6 g6
        obtain ⟨vs, hv, hlv, I7⟩ := I6.more nD r6
        refine ⟨vs, hv, ?_, W6, acc ++ [y1], rest', I7, e13, by rw [e6]; simp⟩
        have : ys.length = acc.length + (rest'.length + 1) := by rw [e6]; simp
        exact mx_lt (by omega)
    · rw [List.drop_length] at e5
      unfold lcL at e5
      cases e5
      rw [List.append_nil] at e6
      subst e6
      obtain ⟨W', eg', xe, ge, re⟩ := hfin.ok I g0 nD e3
      exact p W' _ H1 eg' (x0.trans xe) ge re
  · rename_i er G1 he
    cases e
    exact ⟨W, ρ, .inl er, _, hR, he, p⟩
  · cases e
theorem te_lcF {fin : List D → P1 D} (hfin : ∀ {X : Cx}, FinOk (Cxp X) fin) {elt tg iter : Expr} {ifs : List Expr} {scope : Scope} {own : List (Str × Nat)} {pos : Pos} {tgr : TG} {di : En → M (List D)} {g : D → En → P1 En} {t : En → M Bool} {a : En → M D} (hc : X.calm = true) (hN : X.N.Nodup) (hi : PI X tg iter (upI (Cxp X) We di)) (ok : BlkOk X.N X.env.scope scope own)
    (hgr : GRaw (Cxp X) tgr g (own.map (·.2))) (hg : ∀ (s : Shared) (H : Hp) (C : Addr) (cl : List (Str × Addr)) (fp : List Addr), PG (X.blk s H scope (compEnvC scope cl C X.env) fp) tg tgr)
    (ht : ∀ (s : Shared) (H : Hp) (C : Addr) (cl : List (Str × Addr)) (fp : List Addr), PTs (X.blk s H scope (compEnvC scope cl C X.env) fp) ifs (upT (Cxp X) WeF t))
    (he : ∀ (s : Shared) (H : Hp) (C : Addr) (cl : List (Str × Addr)) (fp : List Addr), PE (X.blk s H scope (compEnvC scope cl C X.env) fp) elt (upE (Cxp X) WeF a)) (hs : ∀ x, foldedSetIterable iter X.env x = pure x := by intro _; rfl) :
    PE X (.ListComp elt [⟨tg, iter, ifs, 0⟩] scope pos) (upE (Cxp X) We (dLcF fin di g t a (own.map (·.2)))) := PE.imp (pe_lc hc hN hi ok hg ht he hs) fun σ H Q h => lc_upF hfin (wi := upI (Cxp X) We di) hgr h
/-- name = [..] -/
theorem tS_setLcF {fin : List D → P1 D} (hfin : ∀ {X : Cx}, FinOk (Cxp X) fin) {i : Nat} {y : Str} {py : Pos} {elt tg iter : Expr} {ifs : List Expr} {scope : Scope} {own : List (Str × Nat)} {pos spos : Pos} {tgr : TG} {di : En → M (List D)} {g : D → En → P1 En} {t : En → M Bool} {a : En → M D} (hc : X.calm = true) (hN : X.N.Nodup) (hy : X.N[i]? = some y) (hyl : X.env.scope.names.lookup y = some .local)
    (hsw : swapsWith (.ListComp elt [⟨tg, iter, ifs, 0⟩] scope pos) (some (.Name y py)) spos.line X.env = pure true) (hi : PI X tg iter (upI (Cxp X) We di)) (ok : BlkOk X.N X.env.scope scope own)
    (hgr : GRaw (Cxp X) tgr g (own.map (·.2))) (hg : ∀ (s : Shared) (H : Hp) (C : Addr) (cl : List (Str × Addr)) (fp : List Addr), PG (X.blk s H scope (compEnvC scope cl C X.env) fp) tg tgr)
    (ht : ∀ (s : Shared) (H : Hp) (C : Addr) (cl : List (Str × Addr)) (fp : List Addr), PTs (X.blk s H scope (compEnvC scope cl C X.env) fp) ifs (upT (Cxp X) WeF t))
    (he : ∀ (s : Shared) (H : Hp) (C : Addr) (cl : List (Str × Addr)) (fp : List Addr), PE (X.blk s H scope (compEnvC scope cl C X.env) fp) elt (upE (Cxp X) WeF a)) (hs : ∀ x, foldedSetIterable iter X.env x = pure x := by intro _; rfl) :
    PS X (.Assign [.Name y py] (.ListComp elt [⟨tg, iter, ifs, 0⟩] scope pos) spos) (ups (Cxp X) We (dAsg (dLcF fin di g t a (own.map (·.2))) (gN i))) := PS.imp (ps_setLc hc hN hy hyl hsw hi ok hg ht he hs) fun D0 σ H h => by
  obtain ⟨W, ρ, r, G', hR, e, p⟩ := h
  refine lc_upF hfin (We := We) (wi := upI (Cxp X) We di) hgr (ups_bnd hR e p fun d W1 v H1 x1 R1 r1 e1 p1 => ?_)
  obtain ⟨ρ', G2, e2, e3⟩ := bnd_lft e1
  cases e2
  exact nx_end e3 p1 rfl Ext.refl (R1.set r1 i)
end
end Tw

namespace Tw
open PySem PySem.Spec PyProof.Rows L2
/-! ### name = {k: v for ..} -/
section
variable {X : Cx} {We : WE'}
theorem sw_trueD {kx vx : Expr} {gs : List Comprehension} {scope : Scope} {pos py : Pos} {y : Str} {l : Nat} {env : Env} (k1 : env.scope.kind = .function) (k2 : env.scope.names.lookup y = some .local) (k3 : (py.line == pos.line) = true)
    (k4 : (scope.names.any fun (n, k) => n == y && (k == .local || k == .cell)) = false) : swapsWith (.DictComp kx vx gs scope pos) (some (.Name y py)) l env = pure true := by
  have z1 : env.kindOf y = some .local := k2
  have z2 : env.blockKind = .function := by
    unfold Env.blockKind
    rw [k1]; rfl
  unfold swapsWith
  simp only [z1, z2, k4, Expr.pos, k3]
  rfl
theorem tS_setDc {i : Nat} {y : Str} {py : Pos} {kx vx tg iter : Expr} {ifs : List Expr} {scope : Scope} {own : List (Str × Nat)} {pos spos : Pos} {tgr : TG} {di : En → M (List D)} {g : D → En → P1 En} {t : En → M Bool} {ka va : En → M D} (hc : X.calm = true) (hN : X.N.Nodup) (hy : X.N[i]? = some y) (hyl : X.env.scope.names.lookup y = some .local)
    (hsw : swapsWith (.DictComp kx vx [⟨tg, iter, ifs, 0⟩] scope pos) (some (.Name y py)) spos.line X.env = pure true) (hi : PI X tg iter (upI (Cxp X) We di)) (ok : BlkOk X.N X.env.scope scope own)
    (hgr : GRaw (Cxp X) tgr g (own.map (·.2))) (hg : ∀ (s : Shared) (H : Hp) (C : Addr) (cl : List (Str × Addr)) (fp : List Addr), PG (X.blk s H scope (compEnvC scope cl C X.env) fp) tg tgr)
    (ht : ∀ (s : Shared) (H : Hp) (C : Addr) (cl : List (Str × Addr)) (fp : List Addr), PTs (X.blk s H scope (compEnvC scope cl C X.env) fp) ifs (upT (Cxp X) WeF t))
    (hk : ∀ (s : Shared) (H : Hp) (C : Addr) (cl : List (Str × Addr)) (fp : List Addr), PE (X.blk s H scope (compEnvC scope cl C X.env) fp) kx (upE (Cxp X) WeF ka))
    (hv : ∀ (s : Shared) (H : Hp) (C : Addr) (cl : List (Str × Addr)) (fp : List Addr), PE (X.blk s H scope (compEnvC scope cl C X.env) fp) vx (upE (Cxp X) WeF va)) (hs : ∀ x, foldedSetIterable iter X.env x = pure x := by intro _; rfl) :
    PS X (.Assign [.Name y py] (.DictComp kx vx [⟨tg, iter, ifs, 0⟩] scope pos) spos) (ups (Cxp X) We (dAsg (dDc di g t ka va (own.map (·.2))) (gN i))) := by
  have core : PS X (.Assign [.Name y py] (.DictComp kx vx [⟨tg, iter, ifs, 0⟩] scope pos) spos) (tAsg (tDc (upI (Cxp X) We di) tgr (upT (Cxp X) WeF t) (upE (Cxp X) WeF ka) (upE (Cxp X) WeF va) (own.map (·.2))) (gName i)) := by
    refine ⟨fun pins s σ H D0 I h => ?_⟩
    rw [exec_Assign_Name_used _ _ _ _ hsw]
    apply wpAny_bind; apply wpAny_standAt; apply wpAny_bind
    show wpAny _ X.A (do let _ ← comprehension (.DictComp kx vx [⟨tg, iter, ifs, 0⟩] scope pos) scope X.env (firstIterPos [⟨tg, iter, ifs, 0⟩] pos) newDict false (eval iter X.env) (some (assign (.Name y py) X.env))) _ _ s
    have h1 : tDc (upI (Cxp X) We di) tgr (upT (Cxp X) WeF t) (upE (Cxp X) WeF ka) (upE (Cxp X) WeF va) (own.map (·.2)) σ H (fun x H1 => gName i x σ H1 D0.nx) := h
    apply wpAny_bind
    refine thn (dc_core (Qf := fun _ s' => SP X pins D0 .next s') hc hN I hi ok hg ht hk hv hs h1 fun Da C s' m H' J q hn f => ?_) fun _ s' hq => wpAny_pure (wpAny_pure hq)
    show wpAny _ _ (assign (.Name y py) X.env (.ref Da)) _ _ _
    apply wpAny_assign_Name
    refine store_ok2 (v := V.ref Da) J hN hy (.inl hyl) rfl (fun s2 J2 ⟨b, sb, hb⟩ => ?_) (.inr hyl)
    obtain ⟨f0, f1, f2, f3, f4, f5⟩ := f
    have ne : C ≠ b := by
      rcases hb with z | z
      · rw [z]; exact f1
      · exact fun e => f4 y b z e.symm
    exact ⟨m, hn.sameBut sb ne, fun h3 sb3 => ⟨_, H', J2.turned (t' := s2.toks) (fun c o hc2 e => (sb3.2 c hc2).trans e) f0 f1 f3 f4 f5, q⟩⟩
  refine PS.imp core fun D0 σ H h => ?_
  obtain ⟨W, ρ, r, G', hR, e, p⟩ := h
  refine dc_up (We := We) hgr (ups_bnd hR e p fun d W1 v H1 x1 R1 r1 e1 p1 => ?_)
  obtain ⟨ρ', G2, e2, e3⟩ := bnd_lft e1
  cases e2
  exact nx_end e3 p1 rfl Ext.refl (R1.set r1 i)
end
end Tw

namespace Tw
open PySem PySem.Spec PyProof.Rows L2
/-! ### a dict locked while a statement walks it -/
mutual
def noK : D → Bool
  | .tup xs => noKs xs
  | .lst xs => noKs xs
  | .scr xs => noKs xs
  | .dct kvs => noKk kvs
  | .dcl _ => false
  | .tpn xs => noKs xs
  | .exf _ _ x => noK x
  | _ => true
def noKs : List D → Bool
  | [] => true
  | x :: xs => noK x && noKs xs
def noKk : List (Key × D) → Bool
  | [] => true
  | (_, x) :: xs => noK x && noKk xs
end
def noKO : O → Bool
  | .lst xs => noKs xs
  | .dct kvs => noKk kvs
  | .dlk kvs => noKk kvs
  | .gone => true
section
variable {K : Pm} {L : Addr → Prop} {α : List Addr} {H : Hp} {p : Addr} {ps : List (Key × V)} {od : Obj}
theorem sqT_upd {u : HO} {a : Addr} {vs : List V} (ne : ∀ ws, H p ≠ some (.tup ws)) (nf : ∀ o ws, H p ≠ some (.frz o (.tup ws))) (h : SqT K.K H a vs) : SqT K.K (upd H p u) a vs := by
  rcases h with (h | ⟨o, h⟩) | h
  · exact .inl (.inl (by rw [upd_ne (fun e => ne vs (by rw [← e]; exact h))]; exact h))
  · exact .inl (.inr ⟨o, by rw [upd_ne (fun e => nf o vs (by rw [← e]; exact h))]; exact h⟩)
  · exact .inr h
mutual
theorem Dr.lock (hp : H p = some (.dK ps)) : ∀ {v : V} {d : D}, Dr K L α H v d → Dr K L α (upd H p (.frz od (.dK ps))) v d
  | _, _, .non => .non
  | _, _, .bl b => .bl b
  | _, _, .int i => .int i
  | _, _, .str z => .str z
  | _, _, .tup h r => .tup (sqT_upd (fun ws e => by rw [hp] at e; cases e) (fun o ws e => by rw [hp] at e; cases e) h) (Drs.lock hp r)
  | _, _, .lst (a := a) h n r => .lst (by rw [upd_ne (fun e => by rw [e, hp] at h; cases h)]; exact h) n (Drs.lock hp r)
  | _, _, .scr h r => by
    refine .scr ?_ (Drs.lock hp r)
    rcases h with ⟨n, o, h⟩ | h
    · exact .inl ⟨n, o, by rw [upd_ne (fun e => by rw [e, hp] at h; cases h)]; exact h⟩
    · exact .inr h
  | _, _, .dct (a := a) h n r => by
    refine .dct ?_ n (Drk.lock hp r)
    by_cases e : a = p
    · subst e
      rcases h with h | ⟨o, h⟩
      · rw [hp] at h; cases h; exact .inr ⟨od, upd_same⟩
      · rw [hp] at h; cases h
    · exact rd_keep h e
  | _, _, .set h n nd e => .set (by rw [upd_ne (fun z => by rw [z, hp] at h; cases h)]; exact h) n nd e
  | _, _, .ref h => .ref h
  | _, _, .glo a => .glo a
  | _, _, .ty n => .ty n
  | _, _, .dcl h n r => by
    obtain ⟨o, h⟩ := h
    exact .dcl ⟨o, by rw [upd_ne (fun e => by rw [e, hp] at h; cases h)]; exact h⟩ n (Drk.lock hp r)
  | _, _, .tpn h r => by
    obtain ⟨o, h, z⟩ := h
    exact .tpn ⟨o, by rw [upd_ne (fun e => by rw [e, hp] at h; cases h)]; exact h, z⟩ (Drs.lock hp r)
  | _, _, .cls h => .cls h
  | _, _, .exc h e n => .exc h (by rw [upd_ne (fun z => by rw [z, hp] at e; cases e)]; exact e) n
  | _, _, .exf h e n e2 n2 r => .exf h (by rw [upd_ne (fun z => by rw [z, hp] at e; cases e)]; exact e) n (by rw [upd_ne (fun z => by rw [z, hp] at e2; cases e2)]; exact e2) n2 (Dr.lock hp r)
theorem Drs.lock (hp : H p = some (.dK ps)) : ∀ {vs : List V} {ds : List D}, Drs K L α H vs ds → Drs K L α (upd H p (.frz od (.dK ps))) vs ds
  | _, _, .nil => .nil
  | _, _, .cons h r => .cons (Dr.lock hp h) (Drs.lock hp r)
theorem Drk.lock (hp : H p = some (.dK ps)) : ∀ {qs : List (Key × V)} {kvs : List (Key × D)}, Drk K L α H qs kvs → Drk K L α (upd H p (.frz od (.dK ps))) qs kvs
  | _, _, .nil => .nil
  | _, _, .cons h r => .cons (Dr.lock hp h) (Drk.lock hp r)
end
mutual
theorem Dr.free (hp : H p = some (.frz od (.dK ps))) : ∀ {v : V} {d : D}, noK d = true → Dr K L α H v d → Dr K L α (upd H p (.dK ps)) v d
  | _, _, _, .non => .non
  | _, _, _, .bl b => .bl b
  | _, _, _, .int i => .int i
  | _, _, _, .str z => .str z
  | _, _, k, .tup h r => .tup (sqT_upd (fun ws e => by rw [hp] at e; cases e) (fun o ws e => by rw [hp] at e; cases e) h) (Drs.free hp (by simpa [noK] using k) r)
  | _, _, k, .lst (a := a) h n r => .lst (by rw [upd_ne (fun e => by rw [e, hp] at h; cases h)]; exact h) n (Drs.free hp (by simpa [noK] using k) r)
  | _, _, k, .scr h r => by
    refine .scr ?_ (Drs.free hp (by simpa [noK] using k) r)
    rcases h with ⟨n, o, h⟩ | h
    · exact .inl ⟨n, o, by rw [upd_ne (fun e => by rw [e, hp] at h; cases h)]; exact h⟩
    · exact .inr h
  | _, _, k, .dct (a := a) h n r => by
    refine .dct ?_ n (Drk.free hp (by simpa [noK] using k) r)
    by_cases e : a = p
    · subst e
      rcases h with h | ⟨o, h⟩
      · rw [hp] at h; cases h
      · rw [hp] at h; cases h; exact .inl upd_same
    · exact rd_keep h e
  | _, _, _, .set h n nd e => .set (by rw [upd_ne (fun z => by rw [z, hp] at h; cases h)]; exact h) n nd e
  | _, _, _, .ref h => .ref h
  | _, _, _, .glo a => .glo a
  | _, _, _, .ty n => .ty n
  | _, _, k, .dcl h n r => by simp [noK] at k
  | _, _, k, .tpn h r => by
    obtain ⟨o, h, z⟩ := h
    exact .tpn ⟨o, by rw [upd_ne (fun e => by rw [e, hp] at h; cases h)]; exact h, z⟩ (Drs.free hp (by simpa [noK] using k) r)
  | _, _, _, .cls h => .cls h
  | _, _, _, .exc h e n => .exc h (by rw [upd_ne (fun z => by rw [z, hp] at e; cases e)]; exact e) n
  | _, _, k, .exf h e n e2 n2 r => .exf h (by rw [upd_ne (fun z => by rw [z, hp] at e; cases e)]; exact e) n (by rw [upd_ne (fun z => by rw [z, hp] at e2; cases e2)]; exact e2) n2 (Dr.free hp (by simpa [noK] using k) r)
theorem Drs.free (hp : H p = some (.frz od (.dK ps))) : ∀ {vs : List V} {ds : List D}, noKs ds = true → Drs K L α H vs ds → Drs K L α (upd H p (.dK ps)) vs ds
  | _, _, _, .nil => .nil
  | _, _, k, .cons h r => by
    obtain ⟨k1, k2⟩ := Bool.and_eq_true_iff.mp (by simpa [noKs] using k)
    exact .cons (Dr.free hp k1 h) (Drs.free hp k2 r)
theorem Drk.free (hp : H p = some (.frz od (.dK ps))) : ∀ {qs : List (Key × V)} {kvs : List (Key × D)}, noKk kvs = true → Drk K L α H qs kvs → Drk K L α (upd H p (.dK ps)) qs kvs
  | _, _, _, .nil => .nil
  | _, _, k, .cons h r => by
    obtain ⟨k1, k2⟩ := Bool.and_eq_true_iff.mp (by simpa [noKk] using k)
    exact .cons (Dr.free hp k1 h) (Drk.free hp k2 r)
end
end
end Tw

namespace Tw
open PySem PySem.Spec PyProof.Rows L2
/-! ### the keys of a locked dict -/
def itK : D → Option (List D)
  | .dcl kvs => some (kvs.map fun kv => keyD kv.1)
  | _ => none
def dItK (a : En → M D) : En → M (List D) := fun ρ => bnd (a ρ) fun d => lft (pur (itK d))
theorem Drk.keys {K : Pm} {L : Addr → Prop} {α : List Addr} {H : Hp} : ∀ {ps : List (Key × V)} {kvs : List (Key × D)}, Drk K L α H ps kvs → ps.map (·.1) = kvs.map (·.1)
  | _, _, .nil => rfl
  | _, _, .cons h r => by simp [Drk.keys r]
theorem key_v {K : Pm} {W : Wd} {H : Hp} (k : Key) : Rv K W H (kV k) (keyD k) := by
  cases k with
  | inl i => exact .int i
  | inr s => exact .str s
theorem ti_keys {X : Cx} {We : WE'} {tg e : Expr} {da : En → M D} (he : PE X e (upE (Cxp X) We da)) : PI X tg e (upI (Cxp X) We (dItK da)) := PI.imp (pi_keys he) fun σ H R0 h => by
  obtain ⟨W, ρ, r, G', hR, e, p⟩ := h
  refine upi_bnd hR e p fun d W1 v H1 x1 R1 r1 e1 p1 => ?_
  obtain ⟨ds, e2, p2⟩ := upi_lft e1 p1
  obtain ⟨e2, eg⟩ := pur_eq e2
  unfold itK at e2
  split at e2
  · cases e2
    cases r1 with
    | dcl h n q =>
      obtain ⟨o, h⟩ := h
      refine ⟨_, o, rfl, .inl ⟨_, h, p2 W1 H1 eg.symm Ext.refl R1.gr _ ⟨_, _, by rw [List.length_map, ← Drk.length q]; exact walk_keys, fun W' H' x _ => (L.keepW x h n).1, fun i W' H' y H'' hi xx g q2 => ?_⟩⟩⟩
      obtain ⟨rfl, k, v, hk, rfl⟩ := q2
      refine ⟨keyD k, ?_, g, Ext.refl, key_v k⟩
      have z := congrArg (fun l => l[i]?) (Drk.keys q)
      simp only [List.getElem?_map, hk] at z
      rw [List.getElem?_map]
      cases hq : (_ : List (Key × D))[i]? with
      | none => rw [hq] at z; cases z
      | some kv =>
        rw [hq] at z
        have z : k = kv.1 := by simpa using z
        rw [z]
        rfl
  · cases e2
/-! ### the statement that walks it -/
theorem PS.or {X : Cx} {st : Stmt} {t t' : TS} (h : PS X st t) (h' : PS X st t') : PS X st (fun D0 σ H => t D0 σ H ∨ t' D0 σ H) := ⟨fun pins s σ H D0 I q => q.elim (h.run pins s σ H D0 I) (h'.run pins s σ H D0 I)⟩
def envK (i : Nat) (ρ : En) : Bool := (ρ.set i none).all fun o => match o with
  | some d => noK d
  | none => true
def unl (i : Nat) : Out → M Out := fun o G => if G.all noKO = true then match o with
    | .nx ρ => match ρ[i]? with
      | some (some (.dcl kvs)) => if (envK i ρ && noKk kvs) = true then some (.inr (.nx (ρ.set i (some (.dct kvs)))), G) else none
      | _ => none
    | .rt d => if noK d = true then some (.inr (.rt d), G) else none
    | _ => none
  else none
def sLock (i : Nat) (s : En → M Out) : En → M Out := fun ρ G => match ρ[i]? with
  | some (some (.dct kvs)) => bndN (s (ρ.set i (some (.dcl kvs)))) (unl i) G
  | _ => none
section
variable {K : Pm} {W : Wd} {H : Hp} {p : Addr} {ps : List (Key × V)} {od : Obj}
theorem Gr.lock (g : Gr K W H) (hp : H p = some (.dK ps)) (np : ¬ live W p) : Gr K W (upd H p (.frz od (.dK ps))) := by
  refine ⟨g.len, g.nd, g.dis, fun a h => th_upd a (g.thA a h), fun a h => th_upd a (g.thB a h), fun m a u h1 h2 => ?_⟩
  have ob := g.obj m a u h1 h2
  by_cases eg : u = .gone
  · subst eg; exact True.intro
  · have ne : a ≠ p := fun e => np ⟨m, u, by rw [← e]; exact h1, h2, eg⟩
    cases u with
    | lst ds => obtain ⟨ws, e1, e2⟩ := ob; exact ⟨ws, by rw [upd_ne ne]; exact e1, Drs.lock hp e2⟩
    | dct kvs => obtain ⟨qs, e1, e2⟩ := ob; exact ⟨qs, by rw [upd_ne ne]; exact e1, Drk.lock hp e2⟩
    | dlk kvs => obtain ⟨o, qs, e1, e2⟩ := ob; exact ⟨o, qs, by rw [upd_ne ne]; exact e1, Drk.lock hp e2⟩
    | gone => exact True.intro
theorem Gr.free (g : Gr K W H) (hp : H p = some (.frz od (.dK ps))) (np : ¬ live W p) (nk : W.G.all noKO = true) : Gr K W (upd H p (.dK ps)) := by
  refine ⟨g.len, g.nd, g.dis, fun a h => th_upd a (g.thA a h), fun a h => th_upd a (g.thB a h), fun m a u h1 h2 => ?_⟩
  have ob := g.obj m a u h1 h2
  have ku : noKO u = true := List.all_eq_true.mp nk u (List.mem_of_getElem? h2)
  by_cases eg : u = .gone
  · subst eg; exact True.intro
  · have ne : a ≠ p := fun e => np ⟨m, u, by rw [← e]; exact h1, h2, eg⟩
    cases u with
    | lst ds => obtain ⟨ws, e1, e2⟩ := ob; exact ⟨ws, by rw [upd_ne ne]; exact e1, Drs.free hp ku e2⟩
    | dct kvs => obtain ⟨qs, e1, e2⟩ := ob; exact ⟨qs, by rw [upd_ne ne]; exact e1, Drk.free hp ku e2⟩
    | dlk kvs => obtain ⟨o, qs, e1, e2⟩ := ob; exact ⟨o, qs, by rw [upd_ne ne]; exact e1, Drk.free hp ku e2⟩
    | gone => exact True.intro
theorem Ext.free {W' : Wd} {H' : Hp} (hp : H p = some (.dK ps)) (x : Ext W (upd H p (.frz od (.dK ps))) W' H') (np : ¬ live W' p) : Ext W H W' (upd H' p (.dK ps)) := by
  refine ⟨x.b, fun c hc => ?_, fun c hc => ?_, x.pre, fun c o hc l => ?_, fun c vs hc => ?_⟩
  · rcases x.b' c hc with z | z
    · exact .inl z
    · by_cases e : c = p
      · rw [e, upd_same] at z; cases z
      · rw [upd_ne e] at z; exact .inr z
  · by_cases e : c = p
    · exact ⟨_, by rw [e]; exact upd_same⟩
    · rw [upd_ne e]
      exact x.th c (by rw [upd_ne e]; exact hc)
  · by_cases e : c = p
    · rw [e] at hc ⊢
      rw [hp] at hc
      exact ⟨by rw [upd_same]; exact hc, np⟩
    · rw [upd_ne e]
      exact x.keep c o (by rw [upd_ne e]; exact hc) l
  · have e : c ≠ p := fun e => by rw [e, hp] at hc; cases hc
    rw [upd_ne e]
    exact x.tup c vs (by rw [upd_ne e]; exact hc)
theorem envK_at {i j : Nat} {ρ : En} {d : D} (k : envK i ρ = true) (ne : i ≠ j) (h : ρ[j]? = some (some d)) : noK d = true := by
  have m : some d ∈ ρ.set i none := List.mem_of_getElem? (i := j) (by rw [List.getElem?_set_ne ne]; exact h)
  exact List.all_eq_true.mp k _ m
theorem Rs.free {σ : L2.St} {ρ : En} {i : Nat} {kvs : List (Key × D)} (R : Rs K W ρ σ H) (hp : H p = some (.frz od (.dK ps))) (np : ¬ live W p) (nk : W.G.all noKO = true) (hi : ρ[i]? = some (some (.dcl kvs))) (ek : envK i ρ = true) (kk : noKk kvs = true) : Rs K W (ρ.set i (some (.dct kvs))) σ (upd H p (.dK ps)) := by
  refine ⟨R.gr.free hp np nk, by rw [List.length_set]; exact R.len, fun j d e => ?_⟩
  by_cases ej : i = j
  · subst ej
    rw [List.getElem?_set_self (List.getElem?_eq_some_iff.mp hi).1] at e
    cases e
    obtain ⟨v, hv, rv⟩ := R.var i _ hi
    refine ⟨v, hv, ?_⟩
    cases rv with
    | dcl h n q =>
      rename_i a qs
      obtain ⟨o, h⟩ := h
      refine .dct ?_ n (Drk.free hp kk q)
      by_cases ea : a = p
      · subst ea
        rw [hp] at h
        cases h
        exact .inl upd_same
      · exact .inr ⟨o, by rw [upd_ne ea]; exact h⟩
  · rw [List.getElem?_set_ne ej] at e
    obtain ⟨v, hv, rv⟩ := R.var j d e
    exact ⟨v, hv, Dr.free hp (envK_at ek ej e) rv⟩
theorem Rs.open_ {σ : L2.St} {ρ : En} {i : Nat} {kvs : List (Key × D)} (R : Rs K W ρ σ H) (hi : ρ[i]? = some (some (.dcl kvs))) : Rs K W (ρ.set i (some (.dct kvs))) σ H := by
  refine ⟨R.gr, by rw [List.length_set]; exact R.len, fun j d e => ?_⟩
  by_cases ej : i = j
  · subst ej
    rw [List.getElem?_set_self (List.getElem?_eq_some_iff.mp hi).1] at e
    cases e
    obtain ⟨v, hv, rv⟩ := R.var i _ hi
    refine ⟨v, hv, ?_⟩
    cases rv with
    | dcl h n q => exact .dct (.inr h) n q
  · rw [List.getElem?_set_ne ej] at e
    exact R.var j d e
end
section
variable {X : Cx} {We : WE'} {st : Stmt} {s : En → M Out}
theorem tS_lock (i : Nat) (h : PS X st (ups (Cxp X) We s)) : PS X st (ups (Cxp X) We (sLock i s)) := PS.imp (PS.or (ps_lock h) h) fun D0 σ H q => by
  obtain ⟨W, ρ, r, G', hR, e, p⟩ := q
  unfold sLock at e
  split at e
  · rename_i kvs hi
    obtain ⟨out, G1, e1, e2⟩ := bndN_eq e
    obtain ⟨v, hv, rv⟩ := hR.var i _ hi
    have il : i < ρ.length := (List.getElem?_eq_some_iff.mp hi).1
    cases rv with
    | dct hrd n q0 =>
      rename_i a ps
      have np : ¬ live W a := fun l => n (.inl l)
      rcases hrd with hK | ⟨od, hF⟩
      · refine .inl ⟨a, .dK ps, hK, True.intro, fun od => ?_⟩
        have R1 : Rs (Cxp X) W (ρ.set i (some (.dcl kvs))) σ (upd H a (.frz od (.dK ps))) := by
          refine ⟨hR.gr.lock hK np, by rw [List.length_set]; exact hR.len, fun j d ej => ?_⟩
          by_cases ij : i = j
          · subst ij
            rw [List.getElem?_set_self il] at ej
            cases ej
            exact ⟨_, hv, .dcl ⟨od, upd_same⟩ n (Drk.lock hK q0)⟩
          · rw [List.getElem?_set_ne ij] at ej
            obtain ⟨u, hu, ru⟩ := hR.var j d ej
            exact ⟨u, hu, Dr.lock hK ru⟩
        refine ⟨W, _, .inr out, G1, R1, e1, ?_⟩
        unfold unl at e2
        split at e2
        · rename_i nk
          cases out with
          | nx ρ' =>
            dsimp only at e2
            split at e2
            · rename_i kvs2 hi2
              split at e2
              · rename_i ck
                obtain ⟨ck1, ck2⟩ := Bool.and_eq_true_iff.mp ck
                cases e2
                intro W' σ' H' eg x R'
                obtain ⟨ka, kb⟩ := x.keep a _ upd_same np
                exact ⟨ka, p W' σ' _ eg (Ext.free hK x kb) (R'.free ka kb (by rw [eg]; exact nk) hi2 ck1 ck2)⟩
              · cases e2
            · cases e2
          | rt d =>
            dsimp only at e2
            split at e2
            · rename_i kd
              cases e2
              intro W' u H' eg x g' ru
              obtain ⟨ka, kb⟩ := x.keep a _ upd_same np
              exact ⟨ka, p W' u _ eg (Ext.free hK x kb) (g'.free ka kb (by rw [eg]; exact nk)) (Dr.free ka kd ru)⟩
            · cases e2
          | _ => cases e2
        · cases e2
      · refine .inr ?_
        have R1 : Rs (Cxp X) W (ρ.set i (some (.dcl kvs))) σ H := by
          refine ⟨hR.gr, by rw [List.length_set]; exact hR.len, fun j d ej => ?_⟩
          by_cases ij : i = j
          · subst ij
            rw [List.getElem?_set_self il] at ej
            cases ej
            exact ⟨_, hv, .dcl ⟨od, hF⟩ n q0⟩
          · rw [List.getElem?_set_ne ij] at ej
            exact hR.var j d ej
        refine ⟨W, _, .inr out, G1, R1, e1, ?_⟩
        unfold unl at e2
        split at e2
        · rename_i nk
          cases out with
          | nx ρ' =>
            dsimp only at e2
            split at e2
            · rename_i kvs2 hi2
              split at e2
              · cases e2
                exact fun W' σ' H' eg x R' => p W' σ' H' eg x (R'.open_ hi2)
              · cases e2
            · cases e2
          | rt d =>
            dsimp only at e2
            split at e2
            · cases e2
              exact p
            · cases e2
          | _ => cases e2
        · cases e2
  · cases e
end
end Tw

namespace Tw
open PySem PySem.Spec PyProof.Rows L2
/-! ### tuples of whose object we know that it has no dict -/
def tTupN (t : TA) : TE := fun σ H Q => t σ H fun xs H1 => xs.length ≤ sizeLine ∧ ∀ (p : Addr) (o : Obj), o.dict = none → H1 p = none → Q (.ref p) (upd H1 p (.frz o (.tup xs)))
theorem pe_tupN {X : Cx} {es : List Expr} {t : TA} {pos : Pos} {x1} (h : PA X es t) : PE X (.Tuple es x1 pos) (tTupN t) := by
  refine ⟨fun pins s σ H Q I hq => ?_⟩
  refine wpAny_Tuple_spliced (thn (h.run pos pins s σ H _ I hq) fun us s1 ⟨xs, H1, I1, r, z, q⟩ => ⟨by rw [← r.length]; exact z, ?_⟩)
  have hf : H1 s1.heap.objs.size = none := I1.hok.fresh (Nat.le_refl _)
  refine ⟨.ref s1.heap.objs.size, _, I1.laid (t' := s1.toks) (o := .frz { cls := .type "tuple", data := .seq us.toArray } (.tup xs)) (fun b u e => Heap.get?_push_of_some _ e) (Nat.le_refl _) ?_, rfl, q _ _ rfl hf⟩
  exact ⟨Heap.get?_push_size _ rfl, z, us, r, ⟨_, Heap.get?_push_size _ rfl, rfl, _, rfl⟩⟩
def tpnO (xs : List D) : Option D := if xs.length ≤ mx then some (.tpn xs) else none
theorem tpnO_eq {xs : List D} {d : D} (h : tpnO xs = some d) : xs.length ≤ mx ∧ d = .tpn xs := by
  unfold tpnO at h
  split at h
  · cases h; exact ⟨by assumption, rfl⟩
  · cases h
def dTpn (a : En → M (List D)) : En → M D := fun ρ => bnd (a ρ) fun xs => lft (pur (tpnO xs))
theorem tpn_new {K : Pm} {W : Wd} {H : Hp} {vs : List V} {ds : List D} {p : Addr} {o : Obj} (ho : o.dict = none) (g : Gr K W H) (r : Rvs K W H vs ds) (n : H p = none) : Gr K W (upd H p (.frz o (.tup vs))) ∧ Ext W H W (upd H p (.frz o (.tup vs))) ∧ Rv K W (upd H p (.frz o (.tup vs))) (.ref p) (.tpn ds) :=
  have x : Ext W H W (upd H p (.frz o (.tup vs))) := Ext.laid n
  ⟨g.laid n, x, .tpn ⟨o, upd_same, ho⟩ (r.keep g x)⟩
section
variable {X : Cx} {We : WE'}
theorem te_tpn {es : List Expr} {x1 pos} {da : En → M (List D)} (h : PA X es (upA (Cxp X) We da)) : PE X (.Tuple es x1 pos) (upE (Cxp X) We (dTpn da)) := PE.imp (pe_tupN h) fun σ H Q q => by
  obtain ⟨W, ρ, r, G', hR, e, p⟩ := q
  refine up_bnd hR e p fun ds W1 vs H1 x1 R1 r1 e1 p1 => ?_
  obtain ⟨d, e2, p2⟩ := up_lft e1 p1
  obtain ⟨e2, eg⟩ := pur_eq e2
  obtain ⟨z, rfl⟩ := tpnO_eq e2
  refine ⟨by rw [r1.length]; exact mx_line z, fun a o ho n => ?_⟩
  obtain ⟨g, x, rv⟩ := tpn_new ho R1.gr r1 n
  exact p2 W1 _ _ eg.symm x g rv
/-- seen as any tuple -/
def wkD : D → D
  | .tpn xs => .tup xs
  | d => d
theorem wk_ok {K : Pm} {W : Wd} {H : Hp} {v : V} {d : D} (r : Rv K W H v d) : Rv K W H v (wkD d) := by
  cases r with
  | tpn h q => obtain ⟨o, h, _⟩ := h; exact .tup (.inl (.inr ⟨o, h⟩)) q
  | non => exact .non
  | bl b => exact .bl b
  | int i => exact .int i
  | str z => exact .str z
  | tup h q => exact .tup h q
  | lst h n q => exact .lst h n q
  | scr h q => exact .scr h q
  | dct h n q => exact .dct h n q
  | set h n nd e => exact .set h n nd e
  | ref h => exact .ref h
  | glo a => exact .glo a
  | ty n => exact .ty n
  | dcl h n q => exact .dcl h n q
  | cls h => exact .cls h
  | exc h e n => exact .exc h e n
  | exf h e n e2 n2 q => exact .exf h e n e2 n2 q
def dWk (a : En → M D) : En → M D := fun ρ => bnd (a ρ) fun d => ret (wkD d)
theorem te_wk {e : Expr} {da : En → M D} (h : PE X e (upE (Cxp X) We da)) : PE X e (upE (Cxp X) We (dWk da)) := PE.imp h fun σ H Q q => by
  obtain ⟨W, ρ, r, G', hR, e1, p⟩ := q
  refine up_bnd hR e1 p fun d W1 v H1 x1 R1 r1 e2 p1 => ?_
  exact up_ret e2 p1 W1 v H1 rfl Ext.refl R1.gr (wk_ok r1)
end
/-! ### t + u of such -/
def rCatN : R2 := fun x y H Q => ∃ a b xs ys o1 o2, x = .ref a ∧ y = .ref b ∧ H a = some (.frz o1 (.tup xs)) ∧ H b = some (.frz o2 (.tup ys)) ∧ xs.length + ys.length ≤ sizeLine ∧
  (xs = [] → Q (.ref b) H) ∧ (xs ≠ [] → ys = [] → Q (.ref a) H) ∧ (xs ≠ [] → ys ≠ [] → ∀ (p : Addr) (o : Obj), o.dict = none → H p = none → Q (.ref p) (upd H p (.frz o (.tup (xs ++ ys)))))
theorem op_catN {X : Cx} : OpR X (binaryOp .Add) rCatN := by
  intro pins s σ H x y v u Q I rx ry h
  obtain ⟨a, b, xs, ys, o1, o2, rfl, rfl, ha, hb, hz, q0, q1, q2⟩ := h
  cases rx
  cases ry
  obtain ⟨its, r1, p1, _⟩ := I.tuple (xs := xs) (.inl (.inr ⟨o1, ha⟩))
  obtain ⟨its2, r2, p2, _⟩ := I.tuple (xs := ys) (.inl (.inr ⟨o2, hb⟩))
  by_cases hx : xs = []
  · subst hx
    cases r1
    exact cat_tup0 p1 p2 ⟨.ref b, H, I, rfl, q0 rfl⟩
  · refine HT.cat_tup p1 p2 (fun z => hx (r1.nil_iff.mp z)) (fun z => ⟨.ref a, H, I, rfl, q1 hx (r2.nil_iff.mp z)⟩) (fun z => ?_) (by rw [← r1.length, ← r2.length]; exact hz)
    refine ⟨.ref s.heap.objs.size, _, I.laid (t' := s.toks) (o := .frz { cls := .type "tuple", data := .seq (its ++ its2).toArray } (.tup (xs ++ ys))) (fun b ob q => Heap.get?_push_of_some _ q) (Nat.le_refl _) ?_, rfl, q2 hx (fun w => z (r2.nil_iff.mpr w)) _ _ rfl (I.hok.fresh (Nat.le_refl _))⟩
    exact ⟨Heap.get?_push_size _ rfl, by rw [List.length_append]; exact hz, _, r1.append r2, IsTup.new _ _⟩
def catN (x y : D) : Option D := match x, y with
  | .tpn xs, .tpn ys => if xs.length + ys.length ≤ mx then some (.tpn (xs ++ ys)) else none
  | _, _ => none
theorem opd_catN {K : Pm} : OpD K rCatN (pur2 catN) := fun W H x y a b d G' Q g r1 r2 e p => by
  obtain ⟨e, eg⟩ := pur_eq e
  unfold catN at e
  split at e
  · split at e
    · rename_i z
      cases e
      cases r1 with
      | tpn h1 s1 =>
        cases r2 with
        | tpn h2 s2 =>
          obtain ⟨o1, h1, z1⟩ := h1
          obtain ⟨o2, h2, z2⟩ := h2
          refine ⟨_, _, _, _, o1, o2, rfl, rfl, h1, h2, mx_line (by rw [s1.length, s2.length]; exact z), fun n => ?_, fun _ n => ?_, fun _ _ l o ho n => ?_⟩
          · subst n
            cases s1
            exact p W _ _ eg.symm Ext.refl g (.tpn ⟨o2, h2, z2⟩ (by simpa using s2))
          · subst n
            cases s2
            exact p W _ _ eg.symm Ext.refl g (.tpn ⟨o1, h1, z1⟩ (by simpa using s1))
          · obtain ⟨g', x', rv⟩ := tpn_new ho g (s1.app s2) n
            exact p W _ _ eg.symm x' g' rv
    · cases e
  · cases e
/-! ### dict(t), t such a tuple of pairs -/
theorem pairs_list {h : Heap} : ∀ {ps : List Addr} {prs : List (Key × Value)}, prs.length = ps.length →
    (∀ (j : Nat) (q : Key × Value), prs[j]? = some q → ∃ (b : Addr) (u : Value), ps[j]? = some b ∧ IsTup h b #[u, q.2] ∧ keyIs q.1 u = true) →
    ∃ psv : List (Value × Value), psv.length = prs.length ∧ ∀ (j : Nat) (u v : Value), psv[j]? = some (u, v) → ∃ (k : Key) (b : Addr), prs[j]? = some (k, v) ∧ ps[j]? = some b ∧ IsTup h b #[u, v] ∧ keyIs k u = true
  | _, [], _, _ => ⟨[], rfl, fun j u v e => by simp at e⟩
  | [], _ :: _, hl, _ => by simp at hl
  | p :: ps, q :: prs, hl, hp => by
    obtain ⟨psv, l1, h1⟩ := pairs_list (ps := ps) (prs := prs) (by simpa using hl) fun j q' e => by
      obtain ⟨b, u, e1, e2⟩ := hp (j + 1) q' (by simpa using e)
      exact ⟨b, u, by simpa using e1, e2⟩
    obtain ⟨b, u, e1, e2, e3⟩ := hp 0 q rfl
    refine ⟨(u, q.2) :: psv, by simp [l1], fun j u' v' e => ?_⟩
    cases j with
    | zero =>
      have e := Option.some.inj e
      cases e
      exact ⟨q.1, b, rfl, e1, e2, e3⟩
    | succ j =>
      obtain ⟨k, b', z1, z2, z3⟩ := h1 j u' v' (by simpa using e)
      exact ⟨k, b', by simpa using z1, by simpa using z2, z3⟩
theorem call_dictN {X : Cx} (hcalm : X.calm = true) : CallR X (.type "dict") (fun xs H Q => ∃ (a : Addr) (o : Obj) (ps : List Addr) (kvs : List (Key × V)), xs = [.ref a] ∧ H a = some (.frz o (.tup (ps.map V.ref))) ∧ o.dict = none ∧ Paired (fun p kv => SqT X.K H p [kV kv.1, kv.2]) ps kvs ∧
    ∀ p, H p = none → Q (.ref p) (upd H p (.dK (mergeK [] kvs)))) := by
  intro pins s σ H xs us Q I r q
  obtain ⟨a, o, ps, kvs, ex, ha, hd, hp, q⟩ := q
  subst ex
  obtain ⟨u, eu, rx⟩ := vals1 r
  subst eu
  cases rx
  obtain ⟨ho, hz, its, rv, tu⟩ := I.hok _ _ ha
  have ei := refs_at rv
  subst ei
  rw [List.length_map] at hz
  obtain ⟨prs, rel, hl, hpr⟩ := pairs_of I hp
  obtain ⟨psv, hl2, hps⟩ := pairs_list hl hpr
  obtain ⟨o', ho', hc, n, hdat⟩ := tu
  cases ho.symm.trans ho'
  refine PySem.call_dict_pairs (knd := mixKind X.prog X.w) (kvs := prs) (PairArg.tuple (prog := X.prog) (w := X.w) a (ps.map Value.ref).toArray (fun j => ps.getD j 0) psv) (I.ok.hd hcalm) ⟨⟨o, n, ho, hc, hd, hdat⟩, by simp [hl2, hl], fun j u v e => ?_⟩ ⟨hl2.symm, fun j u v e => ?_⟩ (by rw [hl2, hl]; exact hz) fun h' tk hd' k => ?_
  · obtain ⟨k, b, e1, e2, e3, e4⟩ := hps j u v e
    have eb : ps.getD j 0 = b := by rw [List.getD_eq_getElem?_getD, e2]; rfl
    refine ⟨by simp [e2], .inl ?_⟩
    show s.heap.IsTuple (ps.getD j 0) _
    rw [eb]
    exact e3
  · obtain ⟨k, b, e1, e2, e3, e4⟩ := hps j u v e
    exact ⟨k, e1, e4⟩
  · have hm : (s.heap.objs.size == sysModules) = false := beq_eq_false_iff_ne.mpr (Nat.ne_of_gt I.big)
    have hlen : (mergeK [] kvs).length ≤ sizeLine := by
      refine Nat.le_trans (length_mergeK kvs []) ?_
      rw [List.length_nil, Nat.zero_add, rel.length, hl]
      exact hz
    exact ⟨.ref s.heap.objs.size, upd H s.heap.objs.size (.dK (mergeK [] kvs)), I.laid (t' := tk) (fun b o e => k b o (by simp) e) (Nat.le_refl _) (show ObjOk X.prog X.w _ _ _ (.dK (mergeK [] kvs)) from ⟨hlen, hm, merged [] prs, KV.merge rel .nil, hd'⟩), rfl, q _ (I.hok.fresh (Nat.le_refl _))⟩
/-- the pairs, their keys as keys -/
def pairsO : List D → Option (List (Key × D))
  | [] => some []
  | .tup [k, v] :: r => match keyO k, pairsO r with
    | some k, some t => some ((k, v) :: t)
    | _, _ => none
  | _ :: _ => none
def mergeD (acc kvs : List (Key × D)) : List (Key × D) := kvs.foldl (fun acc kv => putKD acc kv.1 kv.2) acc
section
variable {K : Pm} {L : Addr → Prop} {α : List Addr} {H : Hp}
theorem Drk.merge : ∀ {qs : List (Key × V)} {kvs : List (Key × D)} {ps : List (Key × V)} {acc : List (Key × D)}, Drk K L α H qs kvs → Drk K L α H ps acc → Drk K L α H (mergeK ps qs) (mergeD acc kvs)
  | _, _, _, _, .nil, r => r
  | (k, v) :: qs, (_, d) :: kvs, ps, acc, .cons h t, r => by
    have z := Drk.merge t (Drk.put k h r)
    exact z
theorem pairs_v : ∀ {vs : List V} {xs : List D} {kvs : List (Key × D)}, Drs K L α H vs xs → pairsO xs = some kvs →
    ∃ (ps : List Addr) (qs : List (Key × V)), vs = ps.map V.ref ∧ Paired (fun p kv => SqT K.K H p [kV kv.1, kv.2]) ps qs ∧ Drk K L α H qs kvs := by
  intro vs xs
  induction xs generalizing vs with
  | nil => intro kvs r e; cases r; cases e; exact ⟨[], [], rfl, .nil, .nil⟩
  | cons x xs ih =>
    intro kvs r e
    cases r with
    | cons h r =>
      unfold pairsO at e
      split at e
      · rename_i e0
        cases e0
      · rename_i k v t e0
        cases e0
        split at e
        · rename_i k' t' e1 e2
          cases e
          obtain ⟨ps, qs, rfl, pq, q⟩ := ih r e2
          cases h with
          | tup hs rs =>
            cases rs with
            | cons h1 rs => cases rs with
              | cons h2 rs =>
                cases rs
                cases keyO_v h1 e1
                exact ⟨_ :: ps, (k', _) :: qs, rfl, .cons hs pq, .cons h2 q⟩
        · cases e
      · cases e
end
def dictNF : List D → P1 D := fun ds G => match ds with
  | [.tpn xs] => match pairsO xs with
    | some kvs => some (.dct (mergeD [] kvs), G)
    | none => none
  | _ => none
theorem cd_dictN {K : Pm} : CallD K (fun xs H Q => ∃ (a : Addr) (o : Obj) (ps : List Addr) (kvs : List (Key × V)), xs = [.ref a] ∧ H a = some (.frz o (.tup (ps.map V.ref))) ∧ o.dict = none ∧ Paired (fun p kv => SqT K.K H p [kV kv.1, kv.2]) ps kvs ∧
    ∀ p, H p = none → Q (.ref p) (upd H p (.dK (mergeK [] kvs)))) dictNF := fun W H vs ds d G' Q g r e p => by
  unfold dictNF at e
  split at e
  · rename_i xs
    split at e
    · rename_i kvs hk
      cases e
      cases r with
      | cons h r =>
        cases r
        cases h with
        | tpn h q =>
          obtain ⟨o, ha, hd⟩ := h
          obtain ⟨ps, qs, rfl, pq, kq⟩ := pairs_v q hk
          refine ⟨_, o, ps, qs, rfl, ha, hd, pq, fun l n => ?_⟩
          have x : Ext W H W (upd H l (.dK (mergeK [] qs))) := Ext.laid n
          exact p W _ _ rfl x (g.laid n) (.dct (.inl upd_same) (fresh_L g n) ((Drk.merge kq .nil).keep g x))
    · cases e
  · cases e
end Tw

namespace Tw
open PySem PySem.Spec PyProof.Rows L2
/-! ### sorted(xs), xs a list of tuples whose first parts are unlike texts -/
/-- the text at the head of a tuple -/
def keyAt (h : Heap) (v : Value) : Str := match v with
  | .ref a => match h.get? a with
    | some o => match o.data with
      | .seq its _ => match its.toList[0]? with
        | some (Value.str x _) => x
        | _ => ""
      | _ => ""
    | none => ""
  | _ => ""
def IsRow (h : Heap) (v : Value) (x : Str) : Prop := ∃ (a : Addr) (o : Obj) (its : Array Value) (t : Tok) (n : Nat), v = .ref a ∧ h.get? a = some o ∧ o.cls = .type "tuple" ∧ o.data = .seq its n ∧ its[0]? = some (.str x t)
theorem IsRow.key {h : Heap} {v : Value} {x : Str} (r : IsRow h v x) : keyAt h v = x := by
  obtain ⟨a, o, its, t, n, rfl, ho, hc, hd, h0⟩ := r
  unfold keyAt
  rw [← Array.getElem?_toList] at h0
  simp only [ho, hd, h0]
abbrev ltK (k : Value → Str) (v u : Value) : Bool := ltCps (k v).cps.toList (k u).cps.toList
theorem swo_K (k : Value → Str) : SrtO.Swo (ltK k) := ⟨fun x y h => ltCps_asym _ _ h, fun x y z h1 h2 => ltCps_tr _ _ _ h1 h2⟩
section
variable {prog : Program} {w : World} {A : Around} {E : Value → Shared → Prop} {s : Shared} {b fin : Bool} {Q : Bool → Shared → Prop}
theorem kat_self : ∀ (l : List Value) (i : Nat), Q fin s → PySem.W.KatLex prog w A b fin Q (l.zip l) i s
  | [], i, h => PySem.W.kat_nil h
  | v :: l, i, h => by
    show PySem.W.KatLex prog w A b fin Q ((v, v) :: l.zip l) i s
    exact PySem.W.kat_cons (SeqAt.EqAt.same v prog w _ _ (PySem.W.kat_yes (kat_self l (i + 1) h)))
theorem row_cmp {vs : List Value} {k : Value → Str} (hp : ∀ v ∈ vs, IsRow s.heap v (k v)) (hi : ∀ v ∈ vs, ∀ u ∈ vs, k v = k u → v = u) : SrtO.Cmp prog w A s (tuples' true) (fun p => p.1 ∈ vs) (SrtO.lt2 (ltK k)) := by
  intro p q hm hm'
  have h1 := hp _ hm
  have h2 := hp _ hm'
  have h3 := hi _ hm _ hm'
  show wpAny (model prog w) A (keyLt' (tuples' true) p.1 q.1) (fun r s' => s' = s ∧ r = ltCps (k p.1).cps.toList (k q.1).cps.toList) (fun _ _ => False) s
  by_cases e : k p.1 = k q.1
  · have e' := h3 e
    rw [← e']
    generalize k p.1 = x at h1
    obtain ⟨a, o, its, t, n, ea, ho, hc, hd, h0⟩ := h1
    rw [ea]
    refine PySem.W.kat_lt ho hd ho hd (kat_self _ 0 ⟨rfl, ?_⟩)
    have z : ltCps x.cps.toList x.cps.toList = false := by
      rw [ltCps_eq]
      exact decide_eq_false (List.lt_irrefl _)
    rw [z]
    exact decide_eq_false (Nat.lt_irrefl _)
  · generalize k p.1 = x at h1 e
    generalize k q.1 = y at h2 e
    obtain ⟨a, o, its, t, n, ea, ho, hc, hd, h0⟩ := h1
    obtain ⟨a', o', its', t', n', ea', ho', hc', hd', h0'⟩ := h2
    rw [ea, ea']
    refine PySem.W.kat_lt ho hd ho' hd' ?_
    obtain ⟨l, hl⟩ : ∃ l, its.toList = Value.str x t :: l := by
      rw [← Array.getElem?_toList] at h0
      cases z : its.toList with
      | nil => rw [z] at h0; cases h0
      | cons v l => rw [z] at h0; cases h0; exact ⟨l, rfl⟩
    obtain ⟨l', hl'⟩ : ∃ l, its'.toList = Value.str y t' :: l := by
      rw [← Array.getElem?_toList] at h0'
      cases z : its'.toList with
      | nil => rw [z] at h0'; cases h0'
      | cons v l => rw [z] at h0'; cases h0'; exact ⟨l, rfl⟩
    rw [hl, hl']
    refine PySem.W.kat_cons (SeqAt.EqAt.str_str x t y t' prog w _ _ ?_)
    refine PySem.W.kat_go (fun e1 => absurd (by simpa using e1) e) (fun e2 => ?_)
    refine PySem.W.kat_no (oneLt_str ⟨rfl, ?_⟩)
    exact (ltCps_eq _ _).symm
theorem rows_sortableO {a : Addr} {vs : List Value} {k : Value → Str} (h0 : 0 < vs.length) (hp : ∀ v ∈ vs, IsRow s.heap v (k v)) (hi : ∀ v ∈ vs, ∀ u ∈ vs, k v = k u → v = u) (ha : ∀ o, s.heap.get? a = some o → o.cls ≠ .type "tuple") : SrtO.SortableO prog w A s a vs (ltK k) := by
  intro h' keep
  have hp' : ∀ v ∈ vs, IsRow h' v (k v) := fun v hm => by
    obtain ⟨b, o, its, t, n, e, ho, hc, r⟩ := hp v hm
    exact ⟨b, o, its, t, n, e, keep b o (fun z => by subst z; exact ha o ho hc) ho, hc, r⟩
  obtain ⟨fs, h1, h2, h3⟩ : ∃ fs : List Value, PySem.W.KatTups h' vs fs ∧ fs.length = vs.length ∧ ∀ f ∈ fs, ∃ x t, f = Value.str x t := by
    clear hp hi h0 ha keep
    induction vs with
    | nil => exact ⟨[], PySem.W.KatTups.nil, rfl, fun f hf => absurd hf (by simp)⟩
    | cons v vs ih =>
      obtain ⟨fs, i1, i2, i3⟩ := ih fun u hu => hp' u (List.mem_cons_of_mem _ hu)
      obtain ⟨b, o, its, t, n, rfl, ho, hc, hd, hx⟩ := hp' v List.mem_cons_self
      refine ⟨Value.str _ t :: fs, PySem.W.KatTups.cons ho hc hd hx i1, by simp [i2], fun f hf => ?_⟩
      rcases List.mem_cons.mp hf with rfl | hf
      · exact ⟨_, _, rfl⟩
      · exact i3 f hf
  refine ⟨tuples' true, fun Q E hq => ?_, row_cmp hp' hi⟩
  refine PySem.W.kat_kind (T := .type "str") h1 (by omega) (fun f hm => ?_) (by rfl) ?_
  · obtain ⟨x, t, rfl⟩ := h3 f hm
    exact PySem.W.Looks.now
  · have e : (Value.type "str" != Value.type "tuple") = true := by first | decide +kernel | rfl | decide
    rw [e]
    exact hq
theorem sorted_rowsO {l : Addr} {vs : List Value} {k : Value → Str} {Q : Value → Shared → Prop} (hl : s.heap.IsList l vs.toArray) (hz : vs.length ≤ sizeLine) (hp : ∀ v ∈ vs, IsRow s.heap v (k v)) (hi : ∀ v ∈ vs, ∀ u ∈ vs, k v = k u → v = u)
    (h : ∀ (h' : Heap) (d : Addr) (out : List Value), SrtO.Srtd (ltK k) out → SrtO.Stb (ltK k) out vs → (∀ b o, s.heap.get? b = some o → h'.get? b = some o) → s.heap.objs.size ≤ d → (∃ n, h'.get? d = some (seqObj "list" out.toArray n)) → Q (.ref d) { s with heap := h' }) :
    wpAny (model prog w) A (call (.builtin "sorted") [.ref l]) Q E s := by
  refine SrtO.sorted_ord (swo_K k) hl hz (fun h2 h₁ a ha kk => ?_) fun out hs hb => ?_
  · refine rows_sortableO (s := { s with heap := h₁ }) (by omega) (fun v hm => ?_) hi fun o e => ?_
    · obtain ⟨b, o, its, t, n, e, ho, r⟩ := hp v hm
      exact ⟨b, o, its, t, n, e, (kk b o ho).2, r⟩
    have e' : some o = some (seqObj "list" vs.toArray 0) := e.symm.trans ha
    cases e'
    intro c
    exact absurd (Value.type.inj c) (by decide)
  · exact h _ _ out hs hb (fun b o e => sortedAll_old e) (Nat.le_succ _) (sortedAll_at s.heap vs out.toArray)
end
end Tw

namespace Tw
open PySem PySem.Spec PyProof.Rows L2
/-! ### as a rule of the layer -/
abbrev SrtP (l : List (V × Str)) : Prop := l.Pairwise fun p q => leC p.2 q.2 = true
def rSortedR (K : PySem.W.Frag) : List V → Hp → VK → Prop := fun vs H Q => ∃ (a : Addr) (xs : List V) (ns : List Str), vs = [V.ref a] ∧ SqL K H a xs ∧ Paired (fun x n => ∃ t r, x = V.ref t ∧ SqT K H t (.str n :: r)) xs ns ∧ ns.Nodup ∧
  ∀ (zs : List (V × Str)) (p : Addr), zs.Perm (xs.zip ns) → SrtP zs → H p = none → Q (.ref p) (upd H p (.lst (zs.map (·.1))))
theorem paired_rows {X : Cx} {pins : List (Addr × Obj)} {σ : L2.St} {H : Hp} {s : Shared} (I : L2.Inv X pins σ H s) : ∀ {xs : List V} {ns : List Str} {us : List Value}, Paired (fun x n => ∃ t r, x = V.ref t ∧ SqT X.K H t (.str n :: r)) xs ns → Vals xs us →
    (∀ u ∈ us, IsRow s.heap u (keyAt s.heap u)) ∧ us.map (keyAt s.heap) = ns ∧ (∀ u ∈ us, ∃ a, u = Value.ref a) ∧ us.map (fun u => (backV u, keyAt s.heap u)) = xs.zip ns
  | _, _, _, .nil, .nil => ⟨fun u h => absurd h (by simp), rfl, fun u h => absurd h (by simp), rfl⟩
  | _, _, _, .cons (b := n) h t, .cons r rs => by
    obtain ⟨i1, i2, i3, i4⟩ := paired_rows I t rs
    obtain ⟨a, l, rfl, hs⟩ := h
    cases r
    obtain ⟨its, rv, tu, _⟩ := I.tuple hs
    have row : IsRow s.heap (.ref a) n := by
      obtain ⟨o, ho, hc, m, hd⟩ := tu
      cases rv with
      | cons r0 _ =>
        obtain ⟨t, rfl⟩ := r0
        exact ⟨a, o, _, t, m, rfl, ho, hc, hd, rfl⟩
    have ek := row.key
    refine ⟨fun v hv => ?_, by rw [List.map_cons, ek, i2], fun v hv => ?_, ?_⟩
    · rcases List.mem_cons.mp hv with rfl | hv
      · rw [ek]; exact row
      · exact i1 v hv
    · rcases List.mem_cons.mp hv with rfl | hv
      · exact ⟨a, rfl⟩
      · exact i3 v hv
    · rw [List.map_cons, i4, ek] <;> rfl
theorem nodup_inj {α β : Type} {f : α → β} : ∀ {l : List α}, (l.map f).Nodup → ∀ x ∈ l, ∀ y ∈ l, f x = f y → x = y
  | [], _, x, hx, _, _, _ => absurd hx (by simp)
  | a :: l, h, x, hx, y, hy, e => by
    have hh := List.nodup_cons.mp h
    rcases List.mem_cons.mp hx with hx1 | hx1
    · rcases List.mem_cons.mp hy with hy1 | hy1
      · rw [hx1, hy1]
      · exact (hh.1 (List.mem_map.mpr ⟨y, hy1, by rw [← hx1, e]⟩)).elim
    · rcases List.mem_cons.mp hy with hy1 | hy1
      · exact (hh.1 (List.mem_map.mpr ⟨x, hx1, by rw [← hy1, e]⟩)).elim
      · exact nodup_inj hh.2 x hx1 y hy1 e
theorem cr_sortedR {X : Cx} : CallR X (.builtin "sorted") (rSortedR X.K) := by
  intro pins s σ H vs us Q I r h
  obtain ⟨a, xs, ns, rfl, hs, hx, nd, q⟩ := h
  obtain ⟨its, rv, hl, hz⟩ := I.list hs
  obtain ⟨u, rfl, ru⟩ := vals1 r
  obtain rfl : u = Value.ref a := ru
  obtain ⟨i1, i2, i3, i4⟩ := paired_rows I hx rv
  have hz' : its.length ≤ sizeLine := by rw [← rv.length]; exact hz
  refine sorted_rowsO (k := keyAt s.heap) hl.isList hz' i1 (nodup_inj (by rw [i2]; exact nd)) fun h' d out h1 h2 kp hd hn => ?_
  have h3 : ∀ u ∈ out, ∃ a, u = Value.ref a := fun u hu => i3 u (h2.perm.mem_iff.mp hu)
  obtain ⟨n, hn⟩ := hn
  refine ⟨.ref d, upd H d (.lst ((out.map fun u => (backV u, keyAt s.heap u)).map (·.1))), I.laid (t' := s.toks) kp hd ⟨?_, out, n, ?_, hn⟩, rfl, q _ d ?_ ?_ (I.hok.fresh hd)⟩
  · simp only [List.length_map]
    rw [h2.perm.length_eq]
    exact hz'
  · have e : (out.map fun u => (backV u, keyAt s.heap u)).map (·.1) = out.map backV := by rw [List.map_map] <;> rfl
    rw [e]
    exact vals_back h3
  · rw [← i4]
    exact h2.perm.map _
  · refine List.pairwise_map.mpr (h1.imp fun {x y} h => ?_)
    show leC (keyAt s.heap x) (keyAt s.heap y) = true
    unfold leC
    rw [show ltCps (keyAt s.heap y).cps.toList (keyAt s.heap x).cps.toList = false from h]
    rfl
/-! ### over trees -/
section
variable {α β : Type}
def insK (f : α → Str) (a : α) : List α → List α
  | [] => [a]
  | b :: r => if leC (f a) (f b) = true then a :: b :: r else b :: insK f a r
def sortK (f : α → Str) : List α → List α
  | [] => []
  | a :: r => insK f a (sortK f r)
theorem insK_perm (f : α → Str) {a : α} : ∀ {l : List α}, (insK f a l).Perm (a :: l)
  | [] => List.Perm.refl _
  | b :: r => by
    unfold insK
    split
    · exact List.Perm.refl _
    · exact (List.Perm.cons b (insK_perm f (l := r))).trans (List.Perm.swap a b r)
theorem sortK_perm (f : α → Str) : ∀ l : List α, (sortK f l).Perm l
  | [] => List.Perm.refl _
  | a :: r => (insK_perm f).trans (List.Perm.cons a (sortK_perm f r))
theorem insK_srt (f : α → Str) {a : α} : ∀ {l : List α}, l.Pairwise (fun x y => leC (f x) (f y) = true) → (insK f a l).Pairwise fun x y => leC (f x) (f y) = true
  | [], _ => List.pairwise_singleton _ _
  | b :: r, h => by
    have hb := List.pairwise_cons.mp h
    unfold insK
    split
    · rename_i q
      refine List.pairwise_cons.mpr ⟨fun x hx => ?_, h⟩
      rcases List.mem_cons.mp hx with rfl | hx
      · exact q
      · exact leC_tr q (hb.1 x hx)
    · rename_i q
      refine List.pairwise_cons.mpr ⟨fun x hx => ?_, insK_srt f hb.2⟩
      rcases List.mem_cons.mp ((insK_perm f).mem_iff.mp hx) with rfl | hx
      · exact leC_tot (by simpa using q)
      · exact hb.1 x hx
theorem sortK_srt (f : α → Str) : ∀ l : List α, (sortK f l).Pairwise fun x y => leC (f x) (f y) = true
  | [] => .nil
  | a :: r => insK_srt f (sortK_srt f r)
theorem insK_map (f : β → Str) (g : α → β) {a : α} : ∀ {l : List α}, (insK (fun x => f (g x)) a l).map g = insK f (g a) (l.map g)
  | [] => rfl
  | b :: r => by
    unfold insK
    rw [List.map_cons]
    simp only
    split
    · rfl
    · rw [List.map_cons, insK_map f g]
theorem sortK_map (f : β → Str) (g : α → β) : ∀ l : List α, (sortK (fun x => f (g x)) l).map g = sortK f (l.map g)
  | [] => rfl
  | a :: r => by
    show (insK (fun x => f (g x)) a (sortK (fun x => f (g x)) r)).map g = insK f (g a) (sortK f (r.map g))
    rw [insK_map, sortK_map f g r]
end
def nameD : D → Str
  | .tup (.str x :: _) => x
  | _ => ""
def isRowD : D → Bool
  | .tup (.str _ :: _) => true
  | _ => false
def sortRF (xs : List D) : Option D := if (xs.all isRowD && decide ((xs.map nameD).Nodup)) && decide (xs.length ≤ mx) then some (.lst (sortK nameD xs)) else none
section
variable {K : Pm} {L : Addr → Prop} {α : List Addr} {H : Hp}
theorem drs_zip : ∀ {vs : List V} {ds : List D}, Drs K L α H vs ds → ∀ p ∈ vs.zip ds, Dr K L α H p.1 p.2
  | _, _, .nil, p, h => absurd h (by simp)
  | _, _, .cons h r, p, hp => by
    rcases List.mem_cons.mp hp with rfl | hp
    · exact h
    · exact drs_zip r p hp
theorem drs_of : ∀ {zs : List (V × D)}, (∀ p ∈ zs, Dr K L α H p.1 p.2) → Drs K L α H (zs.map (·.1)) (zs.map (·.2))
  | [], _ => .nil
  | p :: zs, h => .cons (h p List.mem_cons_self) (drs_of fun q hq => h q (List.mem_cons_of_mem _ hq))
theorem drs_rows : ∀ {vs : List V} {ds : List D}, Drs K L α H vs ds → ds.all isRowD = true → Paired (fun x n => ∃ t r, x = V.ref t ∧ SqT K.K H t (.str n :: r)) vs (ds.map nameD)
  | _, _, .nil, _ => .nil
  | _, _, .cons (d := d) h r, e => by
    simp only [List.all_cons, Bool.and_eq_true] at e
    refine .cons ?_ (drs_rows r e.2)
    unfold isRowD at e
    split at e
    · cases h with
      | tup hs rs => cases rs with
        | cons h0 rs => cases h0; exact ⟨_, _, rfl, hs⟩
    · exact absurd e.1 (by simp)
end
theorem zip_names : ∀ {vs : List V} {ds : List D}, (vs.zip ds).map (fun p => (p.1, nameD p.2)) = vs.zip (ds.map nameD)
  | [], _ => by simp
  | _ :: _, [] => rfl
  | v :: vs, d :: ds => by
    show (v, nameD d) :: (vs.zip ds).map (fun p => (p.1, nameD p.2)) = (v, nameD d) :: vs.zip (ds.map nameD)
    rw [zip_names]
theorem sortR_one {vs : List V} {ds : List D} {zs : List (V × Str)} (hl : vs.length = ds.length) (nd : (ds.map nameD).Nodup) (hp : zs.Perm (vs.zip (ds.map nameD))) (hs : SrtP zs) :
    zs.map (·.1) = (sortK (fun p : V × D => nameD p.2) (vs.zip ds)).map (·.1) := by
  have e : zs = (sortK (fun p : V × D => nameD p.2) (vs.zip ds)).map fun p => (p.1, nameD p.2) := by
    have p2 : ((sortK (fun p : V × D => nameD p.2) (vs.zip ds)).map fun p => (p.1, nameD p.2)).Perm (vs.zip (ds.map nameD)) := by
      rw [← zip_names]
      exact (sortK_perm _ _).map _
    have s2 : SrtP ((sortK (fun p : V × D => nameD p.2) (vs.zip ds)).map fun p => (p.1, nameD p.2)) := List.pairwise_map.mpr (sortK_srt _ _)
    refine List.Perm.eq_of_pairwise (fun x y hx hy h1 h2 => ?_) hs s2 (hp.trans p2.symm)
    have n2 : ((vs.zip (ds.map nameD)).map (·.2)).Nodup := by
      rw [List.map_snd_zip (by simp [hl])]
      exact nd
    exact nodup_inj n2 x (hp.mem_iff.mp hx) y (p2.mem_iff.mp hy) (str_of_tri h1 h2)
  rw [e, List.map_map] <;> rfl
theorem cd_sortR {K : Pm} : CallD K (rSortedR K.K) (lP sortRF) := fun W H vs ds d G' Q g r e p => by
  obtain ⟨x, xs, rfl, h1, h2, rfl⟩ := lP_eq e
  unfold sortRF at h2
  split at h2
  · rename_i hh
    cases h2
    simp only [Bool.and_eq_true, decide_eq_true_eq] at hh
    obtain ⟨⟨a1, a2⟩, a3⟩ := hh
    cases r with
    | cons h r =>
      cases r
      obtain ⟨a, ws, rfl, sq, q⟩ := inL_sq g h h1
      refine ⟨a, ws, xs.map nameD, rfl, sq, drs_rows q a1, a2, fun zs b hp hsr n => ?_⟩
      have hl : ws.length = xs.length := q.length
      rw [sortR_one hl a2 hp hsr]
      have rr : Rvs K W H ((sortK (fun p : V × D => nameD p.2) (ws.zip xs)).map (·.1)) (sortK nameD xs) := by
        have z := drs_of (zs := sortK (fun p : V × D => nameD p.2) (ws.zip xs)) fun p hp => drs_zip q p ((sortK_perm _ _).mem_iff.mp hp)
        have ez : (sortK (fun p : V × D => nameD p.2) (ws.zip xs)).map (·.2) = sortK nameD xs := by
          have := sortK_map nameD (fun p : V × D => p.2) (ws.zip xs)
          rw [this, List.map_snd_zip (by omega)]
        rw [ez] at z
        exact z
      obtain ⟨g', x', rv⟩ := lst_new g rr n
      exact p W _ _ rfl x' g' rv
  · cases h2
/-! ### xs * k -/
end Tw

namespace Tw
open PySem PySem.Spec PyProof.Rows L2
/-! ### sorted(t), t a tuple -/
section
variable {prog : Program} {w : World} {A : Around} {E : Value → Shared → Prop} {s : Shared}
theorem collect_tup {l : Addr} {vs : List Value} {Q : List Value → Shared → Prop} (hl : IsTup s.heap l vs.toArray)
    (h : Q vs { s with heap := (s.heap.push (seqObj "list" #[] 0)).update s.heap.objs.size (Obj.mapSeq (· ++ vs.toArray)) }) (hsz : vs.length ≤ sizeLine) :
    wpAny (model prog w) A (collect (.ref l)) Q E s := by
  obtain ⟨o, ho, hc, n, hd⟩ := id hl
  unfold collect
  refine wpAny_bind (wpAny_runValue (codeAny_builtin entry_proto_collect' ?_))
  show wpAny _ _ (do again (.builtin "list.__iadd__" ⟨[← newList [], .ref l], []⟩)) _ _ s
  refine wpAny_bind (wpAny_newList (wpAny_pure ⟨Code.quiet_builtin _ (by decide +kernel), codeAny_builtin entry_list_iadd' ?_⟩))
  show wpAny _ _ (Builtin.List.listExtendWith (.ref s.heap.objs.size) (.ref l) (.ref s.heap.objs.size)) _ _ { s with heap := s.heap.push (seqObj "list" #[] 0) }
  unfold Builtin.List.listExtendWith
  have ho' : (s.heap.push (seqObj "list" #[] 0)).get? l = some o := Heap.get?_push_of_some _ ho
  refine wpAny_bind (wpAny_typeOf (T := "tuple") ⟨o, ho', hc⟩ ?_)
  have ht : (Value.type "tuple" == Value.type "tuple") = true := by rfl
  rw [if_pos (by rw [ht]; simp)]
  refine wpAny_bind (listItems_at ho' hd ?_)
  refine wpAny_bind (listItems_at (xs := #[]) (n := 0) (Heap.get?_push_size _ rfl) rfl ?_)
  rw [if_neg (by simp)]
  refine wpAny_bind (listUpdate_at (xs := #[]) (n := 0) (Heap.get?_push_size _ rfl) rfl ?_ (Nat.zero_le _) (by show (#[] ++ vs.toArray).size ≤ sizeLine + 1; simp only [Array.size_append, List.size_toArray, List.length_nil]; omega))
  refine wpAny_pure ?_
  show wpAny (model prog w) A (do
      let o ← load s.heap.objs.size
      match o.data with
      | .seq xs _ => pure xs.toList
      | _ => unsupported "internal:collect") Q E { s with heap := (s.heap.push (seqObj "list" #[] 0)).update s.heap.objs.size (Obj.mapSeq (· ++ vs.toArray)) }
  refine wpAny_bind (wpAny_load (get?_update_seq (Heap.get?_push_size _ rfl) _) ?_)
  show wpAny _ _ (pure ((#[] : Array Value) ++ vs.toArray).toList) Q E _
  rw [show ((#[] : Array Value) ++ vs.toArray).toList = vs by simp]
  exact wpAny_pure h
theorem sorted_ordT {l : Addr} {vs : List Value} {ltv : Value → Value → Bool} {Q : Value → Shared → Prop} (O : SrtO.Swo ltv) (hl : IsTup s.heap l vs.toArray) (hz : vs.length ≤ sizeLine)
    (hS : 2 ≤ vs.length → ∀ (h₁ : Heap) (a : Addr), h₁.get? a = some (seqObj "list" vs.toArray 0) → (∀ b o, s.heap.get? b = some o → b ≠ a ∧ h₁.get? b = some o) → SrtO.SortableO prog w A.in1.in1 { s with heap := h₁ } a vs ltv)
    (h : ∀ out : List Value, SrtO.Srtd ltv out → SrtO.Stb ltv out vs → Q (.ref (s.heap.objs.size + 1)) { s with heap := sortedAll s.heap vs out.toArray }) :
    wpAny (model prog w) A (call (.builtin "sorted") [.ref l]) Q E s := by
  refine Calls.call_function_entry kind_sorted plain_sorted entry_sorted (args_sorted1 _) ?_
  unfold Builtin.«sorted»
  refine wpAny_bind (m := checkCount "sorted" 1 1 _) (wpAny_pure ?_)
  refine wpAny_bind (collect_tup hl ?_ hz)
  refine wpAny_bind (wpAny_newList ?_ hz)
  have hsz : ((s.heap.push (seqObj "list" #[] 0)).update s.heap.objs.size (Obj.mapSeq (· ++ vs.toArray))).objs.size = s.heap.objs.size + 1 := by
    rw [Heap.size_update, size_push']
  have hoL : (((s.heap.push (seqObj "list" #[] 0)).update s.heap.objs.size (Obj.mapSeq (· ++ vs.toArray))).push (seqObj "list" vs.toArray 0)).get? (s.heap.objs.size + 1) = some (seqObj "list" vs.toArray 0) := by
    rw [← hsz]; exact Heap.get?_push_size _ rfl
  have keep : ∀ b o, s.heap.get? b = some o → b ≠ s.heap.objs.size + 1 ∧ (((s.heap.push (seqObj "list" #[] 0)).update s.heap.objs.size (Obj.mapSeq (· ++ vs.toArray))).push (seqObj "list" vs.toArray 0)).get? b = some o := fun b o q => by
    have hlt : b < s.heap.objs.size := Heap.lt_size q
    refine ⟨Nat.ne_of_lt (Nat.lt_succ_of_lt hlt), Heap.get?_push_of_some _ ?_⟩
    rw [Heap.get?_update_ne _ _ _ _ (Nat.ne_of_lt hlt)]
    exact Heap.get?_push_of_some _ q
  show wpAny _ _ _ _ _ { s with heap := ((s.heap.push (seqObj "list" #[] 0)).update s.heap.objs.size (Obj.mapSeq (· ++ vs.toArray))).push (seqObj "list" vs.toArray 0) }
  rw [hsz]
  refine wpAny_bind (wpAny_holding (wpAny_call_entry slot_list_sort ⟨_, hoL, rfl⟩ entry_list_sort (SrtO.list_sort_ord O hoL hz (fun h2 => hS h2 _ _ hoL keep) fun out hs hb => ⟨_, rfl, ?_⟩) (args_list_sort _)))
  exact wpAny_pure ⟨_, rfl, h out hs hb⟩
theorem sorted_rowsT {l : Addr} {vs : List Value} {k : Value → Str} {Q : Value → Shared → Prop} (hl : IsTup s.heap l vs.toArray) (hz : vs.length ≤ sizeLine) (hp : ∀ v ∈ vs, IsRow s.heap v (k v)) (hi : ∀ v ∈ vs, ∀ u ∈ vs, k v = k u → v = u)
    (h : ∀ (h' : Heap) (d : Addr) (out : List Value), SrtO.Srtd (ltK k) out → SrtO.Stb (ltK k) out vs → (∀ b o, s.heap.get? b = some o → h'.get? b = some o) → s.heap.objs.size ≤ d → (∃ n, h'.get? d = some (seqObj "list" out.toArray n)) → Q (.ref d) { s with heap := h' }) :
    wpAny (model prog w) A (call (.builtin "sorted") [.ref l]) Q E s := by
  refine sorted_ordT (swo_K k) hl hz (fun h2 h₁ a ha kk => ?_) fun out hs hb => ?_
  · refine rows_sortableO (s := { s with heap := h₁ }) (by omega) (fun v hm => ?_) hi fun o e => ?_
    · obtain ⟨b, o, its, t, n, e, ho, r⟩ := hp v hm
      exact ⟨b, o, its, t, n, e, (kk b o ho).2, r⟩
    have e' : some o = some (seqObj "list" vs.toArray 0) := e.symm.trans ha
    cases e'
    intro c
    exact absurd (Value.type.inj c) (by decide)
  · exact h _ _ out hs hb (fun b o e => sortedAll_old e) (Nat.le_succ _) (sortedAll_at s.heap vs out.toArray)
end
def rSortedRT (K : PySem.W.Frag) : List V → Hp → VK → Prop := fun vs H Q => ∃ (a : Addr) (xs : List V) (ns : List Str), vs = [V.ref a] ∧ SqT K H a xs ∧ Paired (fun x n => ∃ t r, x = V.ref t ∧ SqT K H t (.str n :: r)) xs ns ∧ ns.Nodup ∧
  ∀ (zs : List (V × Str)) (p : Addr), zs.Perm (xs.zip ns) → SrtP zs → H p = none → Q (.ref p) (upd H p (.lst (zs.map (·.1))))
theorem cr_sortedRT {X : Cx} : CallR X (.builtin "sorted") (rSortedRT X.K) := by
  intro pins s σ H vs us Q I r h
  obtain ⟨a, xs, ns, rfl, hs, hx, nd, q⟩ := h
  obtain ⟨its, rv, hl, hz⟩ := I.tuple hs
  obtain ⟨u, rfl, ru⟩ := vals1 r
  obtain rfl : u = Value.ref a := ru
  obtain ⟨i1, i2, i3, i4⟩ := paired_rows I hx rv
  have hz' : its.length ≤ sizeLine := by rw [← rv.length]; exact hz
  refine sorted_rowsT (k := keyAt s.heap) hl hz' i1 (nodup_inj (by rw [i2]; exact nd)) fun h' d out h1 h2 kp hd hn => ?_
  have h3 : ∀ u ∈ out, ∃ a, u = Value.ref a := fun u hu => i3 u (h2.perm.mem_iff.mp hu)
  obtain ⟨n, hn⟩ := hn
  refine ⟨.ref d, upd H d (.lst ((out.map fun u => (backV u, keyAt s.heap u)).map (·.1))), I.laid (t' := s.toks) kp hd ⟨?_, out, n, ?_, hn⟩, rfl, q _ d ?_ ?_ (I.hok.fresh hd)⟩
  · simp only [List.length_map]
    rw [h2.perm.length_eq]
    exact hz'
  · have e : (out.map fun u => (backV u, keyAt s.heap u)).map (·.1) = out.map backV := by rw [List.map_map] <;> rfl
    rw [e]
    exact vals_back h3
  · rw [← i4]
    exact h2.perm.map _
  · refine List.pairwise_map.mpr (h1.imp fun {x y} h => ?_)
    show leC (keyAt s.heap x) (keyAt s.heap y) = true
    unfold leC
    rw [show ltCps (keyAt s.heap y).cps.toList (keyAt s.heap x).cps.toList = false from h]
    rfl
theorem cd_sortRT {K : Pm} : CallD K (rSortedRT K.K) (tP sortRF) := fun W H vs ds d G' Q g r e p => by
  unfold tP at e
  split at e
  · rename_i xs
    split at e
    · rename_i d' h2
      cases e
      unfold sortRF at h2
      split at h2
      · rename_i hh
        cases h2
        simp only [Bool.and_eq_true, decide_eq_true_eq] at hh
        obtain ⟨⟨a1, a2⟩, a3⟩ := hh
        cases r with
        | cons h r =>
          cases r
          cases h with
          | tup sq q =>
            rename_i a ws
            refine ⟨a, ws, xs.map nameD, rfl, sq, drs_rows q a1, a2, fun zs b hp hsr n => ?_⟩
            have hl : ws.length = xs.length := q.length
            rw [sortR_one hl a2 hp hsr]
            have rr : Rvs K W H ((sortK (fun p : V × D => nameD p.2) (ws.zip xs)).map (·.1)) (sortK nameD xs) := by
              have z := drs_of (zs := sortK (fun p : V × D => nameD p.2) (ws.zip xs)) fun p hp => drs_zip q p ((sortK_perm _ _).mem_iff.mp hp)
              have ez : (sortK (fun p : V × D => nameD p.2) (ws.zip xs)).map (·.2) = sortK nameD xs := by
                have := sortK_map nameD (fun p : V × D => p.2) (ws.zip xs)
                rw [this, List.map_snd_zip (by omega)]
              rw [ez] at z
              exact z
            obtain ⟨g', x', rv⟩ := lst_new g rr n
            exact p W _ _ rfl x' g' rv
      · cases h2
    · cases e
  · cases e
/-! ### xs * k -/
def repP : D → D → P1 D := fun x y G => match lonly x G, y with
  | some xs, .int k => if (decide (-1000000 ≤ k) && decide (k ≤ 1000000)) && decide (xs.length * k.toNat ≤ mx) then okL (List.replicate k.toNat xs).flatten G else none
  | _, _ => none
theorem Drs.rep {K : Pm} {L : Addr → Prop} {α : List Addr} {H : Hp} {vs : List V} {ds : List D} (r : Drs K L α H vs ds) : ∀ n : Nat, Drs K L α H (List.replicate n vs).flatten (List.replicate n ds).flatten
  | 0 => .nil
  | n + 1 => by
    rw [List.replicate_succ, List.replicate_succ, List.flatten_cons, List.flatten_cons]
    exact r.app (Drs.rep r n)
theorem opd_rep {K : Pm} : OpD K rRep repP := fun W H x y a b d G' Q g r1 r2 e p => by
  unfold repP at e
  split at e
  · rename_i xs k h1
    split at e
    · rename_i hh
      simp only [Bool.and_eq_true, decide_eq_true_eq] at hh
      obtain ⟨⟨k1, k2⟩, k3⟩ := hh
      obtain ⟨h4, eg⟩ := pur_eq e
      obtain ⟨_, rfl⟩ := lstO_eq h4
      obtain ⟨a1, vs, rfl, q1, s1⟩ := lonly_at g r1 h1
      cases r2
      refine ⟨a1, k, vs, rfl, rfl, q1, by omega, by omega, mx_line (by rw [s1.length]; exact k3), fun l n => ?_⟩
      obtain ⟨g', x', rv⟩ := lst_new g (s1.rep k.toNat) n
      exact p W _ _ eg.symm x' g' rv
    · cases e
  · cases e
end Tw

namespace Tw
open PySem PySem.Spec PyProof.Rows L2
/-! ### x is True, x is not False -/
section
variable {M : Model} {A : Around} {E : Value → Shared → Prop} {Q : Value → Shared → Prop} {s : Shared}
theorem is_bool_gen {v : Value} {c : Bool} (hb : ∀ i, v ≠ .builtin i) (h : Q (.bool (v == .bool c)) s) : wpAny M A (compareOp .Is v (.bool c)) Q E s := by
  cases v <;> first | exact wpAny_pure h | exact absurd rfl (hb _)
theorem isnot_bool_gen {v : Value} {c : Bool} (hb : ∀ i, v ≠ .builtin i) (h : Q (.bool (!(v == .bool c))) s) : wpAny M A (compareOp .IsNot v (.bool c)) Q E s := by
  cases v <;> first | exact wpAny_pure h | exact absurd rfl (hb _)
end
def isB (x : V) (c : Bool) : Bool := match x with
  | .bl b => b == c
  | _ => false
theorem nb_of {x : V} {u : Value} (r : RelV x u) : ∀ i, u ≠ .builtin i := by
  intro i e
  subst e
  cases x <;> first | exact nomatch r | (obtain ⟨t, e⟩ := r; cases e)
theorem bool_beq (b c : Bool) : ((Value.bool b : Value) == Value.bool c) = (b == c) := by cases b <;> cases c <;> rfl
theorem op_isB {X : Cx} : OpR X (compareOp .Is) (fun x y H Q => ∃ c, y = .bl c ∧ Q (.bl (isB x c)) H) := by
  intro pins s σ H x y v u Q I rx ry h
  obtain ⟨c, rfl, q⟩ := h
  cases ry
  refine is_bool_gen (nb_of rx) (fin_bl I q ?_)
  cases x <;> first
    | (cases rx; exact (bool_beq _ _).symm)
    | (cases rx; rfl)
    | (obtain ⟨t, rfl⟩ := rx; rfl)
theorem op_notB {X : Cx} : OpR X (compareOp .IsNot) (fun x y H Q => ∃ c, y = .bl c ∧ Q (.bl (!isB x c)) H) := by
  intro pins s σ H x y v u Q I rx ry h
  obtain ⟨c, rfl, q⟩ := h
  cases ry
  refine isnot_bool_gen (nb_of rx) (fin_bl I q ?_)
  cases x <;> first
    | (cases rx; exact congrArg (!·) (bool_beq _ _).symm)
    | (cases rx; rfl)
    | (obtain ⟨t, rfl⟩ := rx; rfl)
def isBO (neg : Bool) : D → D → Option D := fun x y => match y with
  | .bl c => some (.bl (match x with | .bl b => (if neg then !(b == c) else b == c) | _ => neg))
  | _ => none
theorem opd_isB {K : Pm} : OpD K (fun x y H Q => ∃ c, y = .bl c ∧ Q (.bl (isB x c)) H) (pur2 (isBO false)) := fun W H x y a b d G' Q gr r1 r2 e p => by
  obtain ⟨e, eg⟩ := pur_eq e
  unfold isBO at e
  split at e
  · cases e
    cases r2
    refine ⟨_, rfl, p W _ H eg.symm Ext.refl gr ?_⟩
    cases r1 <;> exact .bl _
  · cases e
theorem opd_notB {K : Pm} : OpD K (fun x y H Q => ∃ c, y = .bl c ∧ Q (.bl (!isB x c)) H) (pur2 (isBO true)) := fun W H x y a b d G' Q gr r1 r2 e p => by
  obtain ⟨e, eg⟩ := pur_eq e
  unfold isBO at e
  split at e
  · cases e
    cases r2
    refine ⟨_, rfl, p W _ H eg.symm Ext.refl gr ?_⟩
    cases r1 <;> exact .bl _
  · cases e
/-! ### f() -/
theorem te_c0 {X : Cx} {We : WE'} {k : Nat} {F : List D → M D} {x : Str} {p pos : Pos} {dF' : En → M D} (T : Cal X.prog X.w X.K X.mg X.base k x 0 F)
    (up : ∀ {σ : L2.St} {H : Hp} {Q : VK}, upE (Cxp X) We dF' σ H Q → upA (Cxp X) We dNil σ H (fun vs H1 => spF (Cxp X) Xo0 0 F vs H1 Q E0)) (hr : Room k X.A) (hg : Gl X x) (hdb : (x == ("__debug__" : Str)) = false := by decide) : PE X (.Call (.Name x p) [] [] pos) (upE (Cxp X) We dF') := by
  obtain ⟨f, fd, ps, hm, G, kp, b⟩ := T.ex
  exact te_f0 (fun h => up h) G hr hg hm kp b hdb
end Tw

namespace Tw
open PySem PySem.Spec PyProof.Rows L2
/-! ### what a reckoning comes to: no error, and Q of its end -/
def WP {A : Type} (m : M A) (G : List O) (Q : A → List O → Prop) : Prop := ∃ a G', m G = some (.inr a, G') ∧ Q a G'
section
variable {A B : Type} {m : M A} {k : A → M B} {G G1 : List O} {Q Q' : A → List O → Prop} {R : B → List O → Prop}
theorem WP.imp (h : WP m G Q) (i : ∀ a G', Q a G' → Q' a G') : WP m G Q' := let ⟨a, G', e, q⟩ := h; ⟨a, G', e, i a G' q⟩
theorem WP.of {a : A} (h : m G = some (.inr a, G1)) (q : Q a G1) : WP m G Q := ⟨a, G1, h, q⟩
theorem WP.bnd (h : WP m G fun a G1 => WP (k a) G1 R) : WP (Tw.bnd m k) G R := by
  obtain ⟨a, G1, e, b, G2, e2, q⟩ := h
  exact ⟨b, G2, (bnd_i e).trans e2, q⟩
theorem WP.bndN (h : WP m G fun a G1 => WP (k a) G1 R) : WP (Tw.bndN m k) G R := by
  obtain ⟨a, G1, e, b, G2, e2, q⟩ := h
  exact ⟨b, G2, (bndN_i e).trans e2, q⟩
theorem WP.ret {a : A} (q : Q a G) : WP (Tw.ret a) G Q := ⟨a, G, rfl, q⟩
theorem WP.lft {f : P1 A} {a : A} (h : f G = some (a, G1)) (q : Q a G1) : WP (Tw.lft f) G Q := ⟨a, G1, lft_i h, q⟩
theorem WP.pur {o : Option A} {a : A} (h : o = some a) (q : Q a G) : WP (Tw.lft (Tw.pur o)) G Q := ⟨a, G, by rw [h]; rfl, q⟩
theorem WP.noX (h : WP m G Q) : WP (Tw.noX m) G Q := by
  obtain ⟨a, G1, e, q⟩ := h
  exact ⟨a, G1, by unfold Tw.noX; rw [e], q⟩
end
section
variable {G G1 : List O} {ρ : En} {a b : En → M D} {ea : En → M (List D)} {Q : D → List O → Prop} {Ql : List D → List O → Prop} {Qb : Bool → List O → Prop} {Qo : Out → List O → Prop} {t u : En → M Bool} {s1 s2 : En → M Out}
theorem w_v {i : Nat} {d : D} (h : ρ[i]? = some (some d)) (q : Q d G) : WP (dV i ρ) G Q := by
  refine ⟨d, G, ?_, q⟩
  unfold dV lft pur
  rw [h]
theorem w_c {d : D} (q : Q d G) : WP (dC d ρ) G Q := ⟨d, G, rfl, q⟩
theorem w_d2 {f : D → D → P1 D} (h : WP (a ρ) G fun x G1 => WP (b ρ) G1 fun y G2 => ∃ d G3, f x y G2 = some (d, G3) ∧ Q d G3) : WP (d2 f a b ρ) G Q :=
  WP.bnd (h.imp fun x G1 h1 => WP.bnd (h1.imp fun y G2 ⟨d, G3, e, q⟩ => WP.lft e q))
theorem w_nil (q : Ql [] G) : WP (dNil ρ) G Ql := ⟨[], G, rfl, q⟩
theorem w_cons (h : WP (a ρ) G fun x G1 => WP (ea ρ) G1 fun xs G2 => Ql (x :: xs) G2) : WP (dCons a ea ρ) G Ql :=
  WP.bnd (h.imp fun x G1 h1 => WP.bnd (h1.imp fun xs G2 q => WP.ret q))
theorem w_call {f : List D → P1 D} (h : WP (ea ρ) G fun ds G1 => ∃ d G2, f ds G1 = some (d, G2) ∧ Q d G2) : WP (dCall f ea ρ) G Q :=
  WP.bnd (h.imp fun ds G1 ⟨d, G2, e, q⟩ => WP.lft e q)
theorem w_F {F : List D → M D} (h : WP (ea ρ) G fun ds G1 => WP (F ds) G1 Q) : WP (dF F ea ρ) G Q :=
  WP.bnd (h.imp fun ds G1 h1 => WP.noX h1)
theorem w_Fp {F : List D → M D} (h : WP (ea ρ) G fun ds G1 => noRs ds = true ∧ WP (F ds) [] fun d _ => noR d = true ∧ Q d G1) : WP (dFp F ea ρ) G Q := by
  refine WP.bnd (h.imp fun ds G1 h1 => ?_)
  obtain ⟨n, d, G2, e, n2, q⟩ := h1
  refine ⟨d, G1, ?_, q⟩
  unfold pureF
  rw [if_pos n, e]
  dsimp only
  rw [if_pos n2]
theorem w_tup (h : WP (ea ρ) G fun xs G1 => xs.length ≤ mx ∧ Q (.tup xs) G1) : WP (dTup ea ρ) G Q :=
  WP.bnd (h.imp fun xs G1 ⟨z, q⟩ => WP.pur (by unfold tupO; rw [if_pos z]) q)
theorem w_tpn (h : WP (ea ρ) G fun xs G1 => xs.length ≤ mx ∧ Q (.tpn xs) G1) : WP (dTpn ea ρ) G Q :=
  WP.bnd (h.imp fun xs G1 ⟨z, q⟩ => WP.pur (by unfold tpnO; rw [if_pos z]) q)
theorem w_lst (h : WP (ea ρ) G fun xs G1 => xs.length ≤ mx ∧ Q (.lst xs) G1) : WP (dLst ea ρ) G Q :=
  WP.bnd (h.imp fun xs G1 ⟨z, q⟩ => WP.pur (by unfold lstO; rw [if_pos z]) q)
theorem w_lstM (h : WP (ea ρ) G fun xs G1 => xs.length ≤ mx ∧ Q (.ref G1.length) (G1 ++ [.lst xs])) : WP (dLstM ea ρ) G Q :=
  WP.bnd (h.imp fun xs G1 ⟨z, q⟩ => WP.lft (by unfold newL; rw [if_pos z]) q)
theorem w_wk (h : WP (a ρ) G fun d G1 => Q (wkD d) G1) : WP (dWk a ρ) G Q := WP.bnd (h.imp fun d G1 q => WP.ret q)
theorem w_frz (h : WP (a ρ) G fun d G1 => ∃ t G2, frzD d G1 = some (t, G2) ∧ Q t G2) : WP (dFrz a ρ) G Q := WP.bnd (h.imp fun d G1 ⟨t, G2, e, q⟩ => WP.lft e q)
theorem w_meth {f : D → List D → P1 D} (h : WP (a ρ) G fun x G1 => (∃ xs, inL x G1 = some xs) ∧ WP (ea ρ) G1 fun ds G2 => ∃ d G3, f x ds G2 = some (d, G3) ∧ Q d G3) : WP (dMeth f a ea ρ) G Q := by
  refine WP.bnd (h.imp fun x G1 ⟨⟨xs, hx⟩, h1⟩ => WP.bnd (WP.lft (a := ()) (G1 := G1) ?_ (WP.bnd (h1.imp fun ds G2 ⟨d, G3, e, q⟩ => WP.lft e q))))
  unfold isLs
  rw [hx]
/-! tests -/
theorem w_test (h : WP (a ρ) G fun d G1 => ∃ c, d = .bl c ∧ Qb c G1) : WP (dTest a ρ) G Qb :=
  WP.bnd (h.imp fun d G1 ⟨c, e, q⟩ => WP.pur (a := c) (by rw [e]; rfl) q)
theorem w_notT (h : WP (t ρ) G fun c G1 => Qb (!c) G1) : WP (dNotT t ρ) G Qb := WP.bnd (h.imp fun c G1 q => WP.ret q)
theorem w_andT (h : WP (t ρ) G fun c G1 => (c = true → WP (u ρ) G1 Qb) ∧ (c = false → Qb false G1)) : WP (dAndT t u ρ) G Qb :=
  WP.bnd (h.imp fun c G1 ⟨h1, h2⟩ => by
    cases c with
    | true => exact h1 rfl
    | false => exact WP.ret (h2 rfl))
theorem w_orT (h : WP (t ρ) G fun c G1 => (c = true → Qb true G1) ∧ (c = false → WP (u ρ) G1 Qb)) : WP (dOrT t u ρ) G Qb :=
  WP.bnd (h.imp fun c G1 ⟨h1, h2⟩ => by
    cases c with
    | true => exact WP.ret (h1 rfl)
    | false => exact h2 rfl)
theorem w_yes (q : Qb true G) : WP (dYes ρ) G Qb := WP.ret q
theorem w_and (h : WP (a ρ) G fun d G1 => ∃ c, d = .bl c ∧ (c = true → WP (b ρ) G1 Q) ∧ (c = false → Q (.bl false) G1)) : WP (dAnd a b ρ) G Q :=
  WP.bnd (h.imp fun d G1 ⟨c, e, h1, h2⟩ => by
    subst e
    refine WP.bnd (WP.lft (a := c) (G1 := G1) rfl ?_)
    cases c with
    | true => exact h1 rfl
    | false => exact WP.ret (h2 rfl))
theorem w_or (h : WP (a ρ) G fun d G1 => ∃ c, d = .bl c ∧ (c = true → Q (.bl true) G1) ∧ (c = false → WP (b ρ) G1 Q)) : WP (dOr a b ρ) G Q :=
  WP.bnd (h.imp fun d G1 ⟨c, e, h1, h2⟩ => by
    subst e
    refine WP.bnd (WP.lft (a := c) (G1 := G1) rfl ?_)
    cases c with
    | true => exact WP.ret (h1 rfl)
    | false => exact h2 rfl)
theorem w_not (h : WP (a ρ) G fun d G1 => ∃ c, d = .bl c ∧ Q (.bl (!c)) G1) : WP (dNot a ρ) G Q :=
  WP.bnd (h.imp fun d G1 ⟨c, e, q⟩ => by
    subst e
    exact WP.bnd (WP.lft (a := c) (G1 := G1) rfl (WP.ret q)))
theorem w_if (h : WP (t ρ) G fun c G1 => (c = true → WP (a ρ) G1 Q) ∧ (c = false → WP (b ρ) G1 Q)) : WP (dIf t a b ρ) G Q :=
  WP.bnd (h.imp fun c G1 ⟨h1, h2⟩ => by
    cases c with
    | true => exact h1 rfl
    | false => exact h2 rfl)
/-! statements -/
theorem w_ifS (h : WP (t ρ) G fun c G1 => (c = true → WP (s1 ρ) G1 Qo) ∧ (c = false → WP (s2 ρ) G1 Qo)) : WP (dIfS t s1 s2 ρ) G Qo :=
  WP.bnd (h.imp fun c G1 ⟨h1, h2⟩ => by
    cases c with
    | true => exact h1 rfl
    | false => exact h2 rfl)
def thenS (s : En → M Out) (Q : Out → List O → Prop) : Out → List O → Prop := fun o G => match o with
  | .nx ρ => WP (s ρ) G Q
  | o => Q o G
theorem w_seq (h : WP (s1 ρ) G (thenS s2 Qo)) : WP (dSeq s1 s2 ρ) G Qo :=
  WP.bnd (h.imp fun o G1 h1 => by
    cases o with
    | nx ρ' => exact h1
    | rt d => exact WP.ret h1
    | bk ρ' => exact WP.ret h1
    | ct ρ' => exact WP.ret h1)
theorem w_next (q : Qo (.nx ρ) G) : WP (dNext ρ) G Qo := WP.ret q
theorem w_cnt (q : Qo (.ct ρ) G) : WP (dCnt ρ) G Qo := WP.ret q
theorem w_ret (h : WP (a ρ) G fun d G1 => Qo (.rt d) G1) : WP (dRet a ρ) G Qo := WP.bnd (h.imp fun d G1 q => WP.ret q)
theorem w_expr (h : WP (a ρ) G fun d G1 => Qo (.nx ρ) G1) : WP (dExpr a ρ) G Qo := WP.bnd (h.imp fun d G1 q => WP.ret q)
theorem w_asg {g : D → En → P1 En} (h : WP (a ρ) G fun d G1 => ∃ ρ1 G2, g d ρ G1 = some (ρ1, G2) ∧ Qo (.nx ρ1) G2) : WP (dAsg a g ρ) G Qo :=
  WP.bnd (h.imp fun d G1 ⟨ρ1, G2, e, q⟩ => WP.bnd (WP.lft e (WP.ret q)))
theorem w_par {i j : Nat} (h : WP (ea ρ) G fun ds G1 => ∃ ρ1, par2 i j ds ρ = some ρ1 ∧ Qo (.nx ρ1) G1) : WP (dPar i j ea ρ) G Qo :=
  WP.bnd (h.imp fun ds G1 ⟨ρ1, e, q⟩ => WP.bnd (WP.pur e (WP.ret q)))
theorem w_sFrz {i : Nat} {d : D} {t' : D} {G2 : List O} (h : ρ[i]? = some (some d)) (e : frzD d G = some (t', G2)) (k : WP (s1 (ρ.set i (some t'))) G2 Qo) : WP (sFrz i s1 ρ) G Qo :=
  WP.bnd (w_v h (WP.bnd (WP.lft e k)))
theorem w_for {di : En → M (List D)} {g : D → En → P1 En} (h : WP (di ρ) G fun ds G1 => WP (bodyL g s1 ds ρ) G1 Qo) : WP (dFor di g s1 ρ) G Qo := WP.bnd h
theorem w_itL (h : WP (a ρ) G fun d G1 => ∃ ds, itL d = some ds ∧ Ql ds G1) : WP (dItL a ρ) G Ql := WP.bnd (h.imp fun d G1 ⟨ds, e, q⟩ => WP.pur e q)
theorem w_itT (h : WP (a ρ) G fun d G1 => ∃ ds, itT d = some ds ∧ Ql ds G1) : WP (dItT a ρ) G Ql := WP.bnd (h.imp fun d G1 ⟨ds, e, q⟩ => WP.pur e q)
theorem w_itK (h : WP (a ρ) G fun d G1 => ∃ ds, itK d = some ds ∧ Ql ds G1) : WP (dItK a ρ) G Ql := WP.bnd (h.imp fun d G1 ⟨ds, e, q⟩ => WP.pur e q)
theorem w_rng {f : List D → Option (List D)} (h : WP (ea ρ) G fun ds G1 => ∃ es, f ds = some es ∧ Ql es G1) : WP (dRng f ea ρ) G Ql := WP.bnd (h.imp fun ds G1 ⟨es, e, q⟩ => WP.pur e q)
/-- a loop that always goes on: I tells what is left, the variables, the objects -/
theorem w_loop {g : D → En → P1 En} (I : List D → En → List O → Prop) (step : ∀ (d : D) (r : List D) (ρ : En) (G : List O), I (d :: r) ρ G → ∃ ρ1 G1, g d ρ G = some (ρ1, G1) ∧ WP (s1 ρ1) G1 fun o G2 => ∃ ρ2, (o = .nx ρ2 ∨ o = .ct ρ2) ∧ I r ρ2 G2) :
    ∀ (ds : List D) (ρ : En) (G : List O), I ds ρ G → (∀ ρ' G', I [] ρ' G' → Qo (.nx ρ') G') → WP (bodyL g s1 ds ρ) G Qo
  | [], ρ, G, i, q => WP.ret (q ρ G i)
  | d :: r, ρ, G, i, q => by
    obtain ⟨ρ1, G1, e, h⟩ := step d r ρ G i
    refine WP.bnd (WP.lft e (WP.bnd (h.imp fun o G2 h2 => ?_)))
    obtain ⟨ρ2, ho, i2⟩ := h2
    rcases ho with rfl | rfl
    · exact w_loop I step r ρ2 G2 i2 q
    · exact w_loop I step r ρ2 G2 i2 q
/-- a comprehension: I tells what is left, what is told, the objects -/
theorem w_lcL {g : D → En → P1 En} {own : List Nat} (I : List D → List D → List O → Prop) (step : ∀ (d : D) (r ys : List D) (G : List O), I (d :: r) ys G → ∃ ρ1 G1, g d ρ G = some (ρ1, G1) ∧ WP (t ρ1) G1 fun c G2 => (c = true → WP (a ρ1) G2 fun y G3 => I r (ys ++ [y]) G3) ∧ (c = false → I r ys G2)) :
    ∀ (ds ys : List D) (G : List O), I ds ys G → WP (lcL g t a ρ ds) G fun zs G' => I [] (ys ++ zs) G'
  | [], ys, G, i => WP.ret (by rw [List.append_nil]; exact i)
  | d :: r, ys, G, i => by
    obtain ⟨ρ1, G1, e, h⟩ := step d r ys G i
    refine WP.bndN (WP.lft e (WP.bndN (h.imp fun c G2 h2 => ?_)))
    cases c with
    | true =>
      refine WP.bndN ((h2.1 rfl).imp fun y G3 i3 => WP.bndN ((w_lcL (own := own) I step r (ys ++ [y]) G3 i3).imp fun zs G4 i4 => WP.ret ?_))
      rw [List.append_assoc] at i4
      exact i4
    | false => exact w_lcL (own := own) I step r ys G2 (h2.2 rfl)
theorem w_lc {di : En → M (List D)} {g : D → En → P1 En} {own : List Nat} (I : List D → List D → List O → Prop) (h : WP (di ρ) G fun ds G1 => I ds [] G1)
    (step : ∀ (d : D) (r ys : List D) (G : List O), I (d :: r) ys G → ∃ ρ1 G1, g d (wipeD ρ own) G = some (ρ1, G1) ∧ WP (t ρ1) G1 fun c G2 => (c = true → WP (a ρ1) G2 fun y G3 => I r (ys ++ [y]) G3) ∧ (c = false → I r ys G2))
    (q : ∀ ys G', I [] ys G' → ys.length ≤ mx ∧ Q (.lst ys) G') : WP (dLc di g t a own ρ) G Q :=
  WP.bnd (h.imp fun ds G1 i => WP.bndN ((w_lcL (own := own) I step ds [] G1 i).imp fun zs G2 i2 => by
    obtain ⟨z, q2⟩ := q zs G2 i2
    exact WP.pur (by unfold lstO; rw [if_pos z]) q2))
theorem w_run {n : Nat} {s : En → M Out} {args : List D} (h : WP (s (start0 n args)) G fun o G1 => ∃ d, o = .rt d ∧ Q d G1) : WP (runD n s args) G Q :=
  WP.bnd (h.imp fun o G1 ⟨d, e, q⟩ => by subst e; exact WP.ret q)
end
end Tw

namespace Tw
open PySem PySem.Spec PyProof.Rows L2
/-! ### one step of a reckoning -/
 section
variable {G G1 : List O} {ρ : En} {a b c : En → M D} {Q : D → List O → Prop} {Qo : Out → List O → Prop} {s1 : En → M Out}
theorem w_neg (h : WP (a ρ) G fun d G1 => ∃ e, negO d = some e ∧ Q e G1) : WP (dNeg a ρ) G Q := WP.bnd (h.imp fun d G1 ⟨e, h, q⟩ => WP.pur h q)
theorem w_dput {o k v : En → M D} (h : WP (v ρ) G fun x G1 => WP (o ρ) G1 fun y G2 => WP (k ρ) G2 fun z G3 => ∃ u G4, dputP y z x G3 = some (u, G4) ∧ Qo (.nx ρ) G4) : WP (dDput o k v ρ) G Qo :=
  WP.bnd (h.imp fun x G1 h1 => WP.bnd (h1.imp fun y G2 h2 => WP.bnd (h2.imp fun z G3 ⟨u, G4, e, q⟩ => WP.bnd (WP.lft e (WP.ret q)))))
theorem w_newD (q : Q (.ref G.length) (G ++ [.dct []])) : WP (dNewD ρ) G Q := ⟨_, _, rfl, q⟩
/-- the walk over a dict behind a lock -/
theorem w_lock {i : Nat} {kvs : List (Key × D)} (h : ρ[i]? = some (some (.dct kvs))) (k : WP (s1 (ρ.set i (some (.dcl kvs)))) G fun o G1 => WP (unl i o) G1 Qo) : WP (sLock i s1 ρ) G Qo := by
  obtain ⟨o, G1, e, b, G2, e2, q⟩ := k
  refine ⟨b, G2, ?_, q⟩
  unfold sLock
  rw [h]
  exact (bndN_i e).trans e2
theorem w_dc {di : En → M (List D)} {g : D → En → P1 En} {t : En → M Bool} {ka va : En → M D} {own : List Nat} (h : WP (di ρ) G fun ds G1 => WP (dcL g t ka va (wipeD ρ own) ds []) G1 fun kvs G2 => Q (.dct kvs) G2) : WP (dDc di g t ka va own ρ) G Q :=
  WP.bnd (h.imp fun ds G1 h1 => WP.bndN (h1.imp fun kvs G2 q => WP.ret q))
end
theorem eqO_str {x y : Str} (hx : PyData.strOk x = true) (hy : PyData.strOk y = true) (n : Bool) : eqO n (.str x) (.str y) = some (.bl (if n then !(x == y) else (x == y))) := by
  have s1 : SeqAt.shaped (.str x) = true := by simp [SeqAt.shaped, PyData.canLay0, PyData.depth, hx]
  have s2 : SeqAt.shaped (.str y) = true := by simp [SeqAt.shaped, PyData.canLay0, PyData.depth, hy]
  simp [eqO, toP, s1, s2, PyData.eqv]
theorem eqO_int {x y : Int} (n : Bool) : eqO n (.int x) (.int y) = some (.bl (if n then !(decide (x = y)) else decide (x = y))) := by
  have s1 : SeqAt.shaped (.int x) = true := by simp [SeqAt.shaped, PyData.canLay0, PyData.depth]
  have s2 : SeqAt.shaped (.int y) = true := by simp [SeqAt.shaped, PyData.canLay0, PyData.depth]
  by_cases h : x = y
  · subst h; simp [eqO, toP, s1, PyData.eqv]
  · cases n <;> simp [eqO, toP, s1, s2, PyData.eqv, h]
end Tw

namespace K01
open PySem PySem.Spec PyProof.Rows L2 Tw
def top (i : Nat) : Stmt := PySem.Challenge.pw_giveways_k01_houses_or_not.main.body.getD i (.Pass ⟨0, 0, 0, 0⟩)
abbrev s_is_number : Stmt := top 2
abbrev s_is_name : Stmt := top 3
abbrev s_is_table : Stmt := top 4
abbrev s_fits_part : Stmt := top 9
abbrev s_depths : Stmt := top 10
abbrev s_shields_close : Stmt := top 11
abbrev s_naming_marks : Stmt := top 12
abbrev s_sole_marks : Stmt := top 16
abbrev s_names_stand : Stmt := top 15
abbrev s_hosts_close : Stmt := top 17
abbrev s_hosts_start : Stmt := top 18
abbrev s_has_ring : Stmt := top 19
abbrev s_hangs_together : Stmt := top 14
abbrev s_is_step : Stmt := top 21
abbrev s_is_script : Stmt := top 22
abbrev s_is_house : Stmt := top 23
abbrev s_l_box : Stmt := top 25
abbrev s_l_take : Stmt := top 26
abbrev s_l_cells : Stmt := top 27
abbrev s_l_of : Stmt := top 28
abbrev s_l_pick : Stmt := top 29
abbrev s_l_same : Stmt := top 30
abbrev s_l_script : Stmt := top 31
abbrev s_l_house : Stmt := top 32
abbrev s_l_houses_right : Stmt := top 34
abbrev s_l_by_hand_right : Stmt := top 33
abbrev s_l_right : Stmt := top 35
abbrev s_law : Stmt := top 36
def tab_parts (z : Str) : Option D := if z = "give" then some (.tup []) else if z = "put" then some (.tup [.str "name"]) else if z = "get" then some (.tup [.str "name", .str "end"]) else if z = "set" then some (.tup [.str "name"]) else if z = "hear" then some (.tup [.str "name", .str "end"]) else if z = "start" then some (.tup [.str "name"]) else if z = "join" then some (.tup [.str "name", .str "end"]) else if z = "until" then some (.tup [.str "moment"]) else if z = "cancel" then some (.tup [.str "name"]) else if z = "in" then some (.tup []) else if z = "out" then some (.tup []) else if z = "close" then some (.tup [.str "name"]) else if z = "catch" then some (.tup [.str "name"]) else if z = "fail" then some (.tup [.str "name"]) else none
structure Tx (P : Program) (w : World) (K : PySem.W.Frag) (mg : Str → Option Value) : Prop where
  f_len : mg "len" = none
  f_abs : mg "abs" = none
  f_all : mg "all" = none
  f_any : mg "any" = none
  f_int : mg "int" = none
  f_list : mg "list" = none
  f_isinstance : mg "isinstance" = none
  f_enumerate : mg "enumerate" = none
  f_range : mg "range" = none
  f_zip : mg "zip" = none
  f_bool : mg "bool" = none
  f_str : mg "str" = none
  f_tuple : mg "tuple" = none
  f_min : mg "min" = none
  f_max : mg "max" = none
  f_sorted : mg "sorted" = none
  f_dict : mg "dict" = none
  i_LONGEST_NAME : ∃ t, mg "LONGEST_NAME" = some (.int 8 t)
  t_TASK_WORDS : ∃ a, mg "TASK_WORDS" = some (.ref a) ∧ ∀ (W : Wd) (H : Hp), Rv ⟨K, P, w, mg⟩ W H (.ref a) (.tup [.str "start", .str "join", .str "cancel"])
  t_CLOSING_WORDS : ∃ a, mg "CLOSING_WORDS" = some (.ref a) ∧ ∀ (W : Wd) (H : Hp), Rv ⟨K, P, w, mg⟩ W H (.ref a) (.tup [.str "close", .str "catch"])
  k_PARTS : ∃ d, mg "PARTS" = some (.ref d) ∧ KTab K w ⟨K, P, w, mg⟩ d tab_parts
abbrev FnP (K : PySem.W.Frag) (x : Str) (st : Stmt) (f : Addr) (fd : FuncData) : Prop := FunD K x x (defArgs st) (defBody st) (defScope st) [] [] f fd
/-! ### is_number -/
def N_is_number : List Str := ["thing"]
theorem sc_is_number : FnScope N_is_number ["thing"] (defScope s_is_number) := ⟨rfl, rfl, rfl, by decide +kernel, rfl, by decide +kernel, by decide +kernel⟩
def ds_is_number : En → M Out := (dRet (dAnd (dCall isiF (dCons (dV 0) (dCons (dC (.ty "int")) dNil))) (dNot (dCall isiF (dCons (dV 0) (dCons (dC (.ty "bool")) dNil))))))
def F_is_number : List D → M D := runD N_is_number.length ds_is_number
theorem ok_is_number {P : Program} {w : World} {K : PySem.W.Frag} {mg : Str → Option Value} {base : Heap} {f : Addr} {fd : FuncData} (T : Tx P w K mg)  (F : FnP K "is_number" s_is_number f fd) : FnOk P w K mg base CX0 1 f fd ["thing"] (spF ⟨K, P, w, mg⟩ Xo0 1 F_is_number) := by
  refine fn_tw (k := 0) F sc_is_number fun cdv A outer s H E hr => ?_
  have nd := sc_is_number.nd
  exact (ts_one (tS_ret (te_and (te_blt call_isi cd_isi rfl T.f_isinstance boot_isinstance (ta_cons (te_v 0) (ta_cons (te_bty rfl T.f_int (by decide +kernel)) ta_nil))) (te_one (te_not (te_blt call_isi cd_isi rfl T.f_isinstance boot_isinstance (ta_cons (te_v 0) (ta_cons (te_bty rfl T.f_bool (by decide +kernel)) ta_nil))))))))
/-! ### is_name -/
def N_is_name : List Str := ["thing", "sign"]
theorem sc_is_name : FnScope N_is_name ["thing"] (defScope s_is_name) := ⟨rfl, rfl, rfl, by decide +kernel, rfl, by decide +kernel, by decide +kernel⟩
def ds_is_name : En → M Out := (dSeq (dIfS (dOrT (dNotT (dTest (dCall isiF (dCons (dV 0) (dCons (dC (.ty "str")) dNil))))) (dNotT (dTest (dChain (pur2 (ordO leI leS)) (pur2 (ordO leI leS)) (dC (.int 1)) (dCall (lenP) (dCons (dV 0) dNil)) (dC (.int 8)))))) (dRet (dC (.bl false))) dNext) (dRet (dCall (lP allF) (dCons (dLc (dItS (dV 0)) (gN 1) dYes (dChain (pur2 (ordO leI leS)) (pur2 (ordO leI leS)) (dC (.str "a")) (dV 1) (dC (.str "z"))) [1]) dNil))))
def F_is_name : List D → M D := runD N_is_name.length ds_is_name
theorem ok_is_name {P : Program} {w : World} {K : PySem.W.Frag} {mg : Str → Option Value} {base : Heap} {f : Addr} {fd : FuncData} (T : Tx P w K mg)  (F : FnP K "is_name" s_is_name f fd) : FnOk P w K mg base CX0 1 f fd ["thing"] (spF ⟨K, P, w, mg⟩ Xo0 1 F_is_name) := by
  refine fn_tw (k := 0) F sc_is_name fun cdv A outer s H E hr => ?_
  have nd := sc_is_name.nd
  exact (ts_cons (tS_if (PW.pt (tw_or (tt_not (tt_val (te_blt call_isi cd_isi rfl T.f_isinstance boot_isinstance (ta_cons (te_v 0) (ta_cons (te_bty rfl T.f_str (by decide +kernel)) ta_nil))))) (tw_or1 (tt_not (tt_chain op_leA op_leA opd_ord opd_ord te_int (te_blt call_len cd_len rfl T.f_len (by decide +kernel) (ta_cons (te_v 0) ta_nil)) (te_gint rfl T.i_LONGEST_NAME.choose_spec)))))) (ts_one (tS_ret te_bl)) ts_nil) (ts_one (tS_ret (te_blt (cr_all rfl) cd_all rfl T.f_all (by decide +kernel) (ta_cons (by exact te_lc (own := [(("sign" : Str), 1)]) rfl nd (by exact (ti_str (te_v 0))) (blkOk_by (N := N_is_name) (sc := defScope s_is_name) (own := [(("sign" : Str), 1)]) (by decide +kernel)) (raw_n (by decide)) (fun _ _ _ _ _ => by exact (pg_name (i := 1) nd rfl (Or.inl rfl))) (fun _ _ _ _ _ => by exact tts_nil) (fun _ _ _ _ _ => by exact (te_chain op_leA op_leA opd_ord opd_ord te_str (te_v 1) te_str))) ta_nil)))))
/-! ### is_table -/
def N_is_table : List Str := ["thing", "width", "at", "row"]
theorem sc_is_table : FnScope N_is_table ["thing", "width"] (defScope s_is_table) := ⟨rfl, rfl, rfl, by decide +kernel, rfl, by decide +kernel, by decide +kernel⟩
def ds_is_table : En → M Out := (dSeq (dIfS (dNotT (dTest (dCall isiF (dCons (dV 0) (dCons (dC (.ty "tuple")) dNil))))) (dRet (dC (.bl false))) dNext) (dSeq (dIfS (dNotT (dTest (dCall (lP allF) (dCons (dLc (dItT (dV 0)) (gN 3) dYes (dAnd (dCall isiF (dCons (dV 3) (dCons (dC (.ty "tuple")) dNil))) (dAnd (d2 (pur2 (eqO false)) (dCall (lenP) (dCons (dV 3) dNil)) (dV 1)) (dFp F_is_name (dCons (d2 ixO (dV 3) (dC (.int 0))) dNil)))) [3]) dNil)))) (dRet (dC (.bl false))) dNext) (dRet (dCall (lP allF) (dCons (dLc (dRng rng2 (dCons (dC (.int 1)) (dCons (dCall (lenP) (dCons (dV 0) dNil)) dNil))) (gN 2) dYes (d2 (pur2 (ordO ltI ltS)) (d2 ixO (d2 ixO (dV 0) (d2 (pur2 subO) (dV 2) (dC (.int 1)))) (dC (.int 0))) (d2 ixO (d2 ixO (dV 0) (dV 2)) (dC (.int 0)))) [2]) dNil)))))
def F_is_table : List D → M D := runD N_is_table.length ds_is_table
theorem ok_is_table {P : Program} {w : World} {K : PySem.W.Frag} {mg : Str → Option Value} {base : Heap} {f : Addr} {fd : FuncData} (T : Tx P w K mg) (C_is_name : Cal P w K mg base 1 "is_name" 1 F_is_name) (F : FnP K "is_table" s_is_table f fd) : FnOk P w K mg base CX0 2 f fd ["thing", "width"] (spF ⟨K, P, w, mg⟩ Xo0 2 F_is_table) := by
  refine fn_tw (k := 1) F sc_is_table fun cdv A outer s H E hr => ?_
  have nd := sc_is_table.nd
  exact (ts_cons (tS_if (tt_not (tt_val (te_blt call_isi cd_isi rfl T.f_isinstance boot_isinstance (ta_cons (te_v 0) (ta_cons (te_bty rfl T.f_tuple (by decide +kernel)) ta_nil))))) (ts_one (tS_ret te_bl)) ts_nil) (ts_cons (tS_if (tt_not (tt_val (te_blt (cr_all rfl) cd_all rfl T.f_all (by decide +kernel) (ta_cons (by exact te_lc (own := [(("row" : Str), 3)]) rfl nd (by exact (ti_tup (te_v 0))) (blkOk_by (N := N_is_table) (sc := defScope s_is_table) (own := [(("row" : Str), 3)]) (by decide +kernel)) (raw_n (by decide)) (fun _ _ _ _ _ => by exact (pg_name (i := 3) nd rfl (Or.inl rfl))) (fun _ _ _ _ _ => by exact tts_nil) (fun _ _ _ _ _ => by exact (te_and (te_blt call_isi cd_isi rfl T.f_isinstance boot_isinstance (ta_cons (te_v 3) (ta_cons (te_bty rfl T.f_tuple (by decide +kernel)) ta_nil))) (te_and (te_cmp (op_eqD hr.units) opd_eq (te_blt call_len cd_len rfl T.f_len (by decide +kernel) (ta_cons (te_v 3) ta_nil)) (te_v 1) (nomark _)) (te_one (te_c C_is_name (fun h => dFp_up (lenA_cons lenA_nil) h) (hr.mono (by first | decide | omega)) rfl (ta_cons (te_ix ix_seq opd_ix (te_v 3) te_int (fun _ _ => rfl)) ta_nil))))))) ta_nil)))) (ts_one (tS_ret te_bl)) ts_nil) (ts_one (tS_ret (te_blt (cr_all rfl) cd_all rfl T.f_all (by decide +kernel) (ta_cons (by exact te_lc (own := [(("at" : Str), 2)]) rfl nd (by exact (ti_rng2 rfl T.f_range (ta_cons te_int (ta_cons (te_blt call_len cd_len rfl T.f_len (by decide +kernel) (ta_cons (te_v 0) ta_nil)) ta_nil)))) (blkOk_by (N := N_is_table) (sc := defScope s_is_table) (own := [(("at" : Str), 2)]) (by decide +kernel)) (raw_n (by decide)) (fun _ _ _ _ _ => by exact (pg_name (i := 2) nd rfl (Or.inl rfl))) (fun _ _ _ _ _ => by exact tts_nil) (fun _ _ _ _ _ => by exact (te_cmp op_ltA opd_ord (te_ix ix_seq opd_ix (te_ix ix_seq opd_ix (te_v 0) (te_op op_sub opd_sub (te_v 2) te_int) (fun _ _ => rfl)) te_int (fun _ _ => rfl)) (te_ix ix_seq opd_ix (te_ix ix_seq opd_ix (te_v 0) (te_v 2) (fun _ _ => rfl)) te_int (fun _ _ => rfl)) (nomark _)))) ta_nil))))))
/-! ### fits_part -/
def N_fits_part : List Str := ["kind", "thing"]
theorem sc_fits_part : FnScope N_fits_part ["kind", "thing"] (defScope s_fits_part) := ⟨rfl, rfl, rfl, by decide +kernel, rfl, by decide +kernel, by decide +kernel⟩
def ds_fits_part : En → M Out := (dSeq (dIfS (dTest (d2 (pur2 (eqO false)) (dV 0) (dC (.str "name")))) (dRet (dFp F_is_name (dCons (dV 1) dNil))) dNext) (dSeq (dIfS (dAndT (dTest (d2 (pur2 (eqO false)) (dV 0) (dC (.str "end")))) (dTest (d2 (pur2 (eqO false)) (dV 1) (dTup dNil)))) (dRet (dC (.bl true))) dNext) (dRet (dAnd (dFp F_is_number (dCons (dV 1) dNil)) (d2 (pur2 (ordO geI geS)) (dV 1) (dC (.int 0)))))))
def F_fits_part : List D → M D := runD N_fits_part.length ds_fits_part
theorem ok_fits_part {P : Program} {w : World} {K : PySem.W.Frag} {mg : Str → Option Value} {base : Heap} {f : Addr} {fd : FuncData} (T : Tx P w K mg) (C_is_number : Cal P w K mg base 1 "is_number" 1 F_is_number) (C_is_name : Cal P w K mg base 1 "is_name" 1 F_is_name) (F : FnP K "fits_part" s_fits_part f fd) : FnOk P w K mg base CX0 2 f fd ["kind", "thing"] (spF ⟨K, P, w, mg⟩ Xo0 2 F_fits_part) := by
  refine fn_tw (k := 1) F sc_fits_part fun cdv A outer s H E hr => ?_
  have nd := sc_fits_part.nd
  exact (ts_cons (tS_if (tt_cmp (op_eqD hr.units) opd_eq (te_v 0) te_str (nomark _)) (ts_one (tS_ret (te_c C_is_name (fun h => dFp_up (lenA_cons lenA_nil) h) (hr.mono (by first | decide | omega)) rfl (ta_cons (te_v 1) ta_nil)))) ts_nil) (ts_cons (tS_if (PW.pt (tw_and (tt_cmp (op_eqD hr.units) opd_eq (te_v 0) te_str (nomark _)) (tw_and1 (tt_cmp (op_eqD hr.units) opd_eq (te_v 1) (te_tup ta_nil) (nomark _))))) (ts_one (tS_ret te_bl)) ts_nil) (ts_one (tS_ret (te_and (te_c C_is_number (fun h => dFp_up (lenA_cons lenA_nil) h) (hr.mono (by first | decide | omega)) rfl (ta_cons (te_v 1) ta_nil)) (te_one (te_cmp op_geA opd_ord (te_v 1) te_int (nomark _))))))))
/-! ### depths -/
def N_depths : List Str := ["steps", "depth", "told", "step"]
theorem sc_depths : FnScope N_depths ["steps"] (defScope s_depths) := ⟨rfl, rfl, rfl, by decide +kernel, rfl, by decide +kernel, by decide +kernel⟩
def ds_depths : En → M Out := (dSeq (dAsg (dC (.int 0)) (gN 1)) (dSeq (dAsg (dLstM (dCons (dV 1) dNil)) (gN 2)) (dSeq (dFor (dItT (dV 0)) (gN 3) (dSeq (dIfS (dTest (d2 (pur2 (eqO false)) (d2 ixO (dV 3) (dC (.int 0))) (dC (.str "in")))) (dAug 1 (pur2 (i2 fun i j => .int (i + j))) (dC (.int 1))) (dIfS (dTest (d2 (pur2 (eqO false)) (d2 ixO (dV 3) (dC (.int 0))) (dC (.str "out")))) (dAug 1 (pur2 (i2 fun i j => .int (i - j))) (dC (.int 1))) dNext)) (dExpr (dMeth appF (dV 2) (dCons (dV 1) dNil))))) (dRet (dCall (listP fun xs => pur (some (.tup xs))) (dCons (dV 2) dNil))))))
def F_depths : List D → M D := runD N_depths.length ds_depths
theorem ok_depths {P : Program} {w : World} {K : PySem.W.Frag} {mg : Str → Option Value} {base : Heap} {f : Addr} {fd : FuncData} (T : Tx P w K mg)  (F : FnP K "depths" s_depths f fd) : FnOk P w K mg base CX0 1 f fd ["steps"] (spF ⟨K, P, w, mg⟩ Xo0 1 F_depths) := by
  refine fn_tw (k := 0) F sc_depths fun cdv A outer s H E hr => ?_
  have nd := sc_depths.nd
  exact (ts_cons (tS_asg te_int (tg_n (i := 1) nd)) (ts_cons (tS_asg (te_lstM (ta_cons (te_v 1) ta_nil)) (tg_n (i := 2) nd)) (ts_cons (tS_for PassesOwn.never rfl (ti_tup (te_v 0)) (tg_n (i := 3) nd) (ts_cons (tS_if (tt_cmp (op_eqD hr.units) opd_eq (te_ix ix_seq opd_ix (te_v 3) te_int (fun _ _ => rfl)) te_str (nomark _)) (ts_one (tS_aug (i := 1) nd rfl (Or.inl rfl) te_int ip_add (opd_i0 fun _ _ => pln_int _))) (ts_one (tS_if (tt_cmp (op_eqD hr.units) opd_eq (te_ix ix_seq opd_ix (te_v 3) te_int (fun _ _ => rfl)) te_str (nomark _)) (ts_one (tS_aug (i := 1) nd rfl (Or.inl rfl) te_int ip_sub (opd_i0 fun _ _ => pln_int _))) ts_nil))) (ts_one (tS_expr (te_lm PySem.F.slot_list_append PySem.F.type_list_append mt_append md_app (te_v 2) (ta_cons (te_v 1) ta_nil)))))) (ts_one (tS_ret (te_ty call_tuple_of cd_tup rfl T.f_tuple (by decide +kernel) (ta_cons (te_v 2) ta_nil)))))))
/-! ### shields_close -/
def N_shields_close : List Str := ["steps", "told"]
theorem sc_shields_close : FnScope N_shields_close ["steps"] (defScope s_shields_close) := ⟨rfl, rfl, rfl, by decide +kernel, rfl, by decide +kernel, by decide +kernel⟩
def ds_shields_close : En → M Out := (dSeq (dAsg (dFp F_depths (dCons (dV 0) dNil)) (gN 1)) (dRet (dAnd (d2 (pur2 (eqO false)) (dCall (tP minTF) (dCons (dV 1) dNil)) (dC (.int 0))) (d2 (pur2 (eqO false)) (d2 ixO (dV 1) (dNeg (dC (.int 1)))) (dC (.int 0))))))
def F_shields_close : List D → M D := runD N_shields_close.length ds_shields_close
theorem ok_shields_close {P : Program} {w : World} {K : PySem.W.Frag} {mg : Str → Option Value} {base : Heap} {f : Addr} {fd : FuncData} (T : Tx P w K mg) (C_depths : Cal P w K mg base 1 "depths" 1 F_depths) (F : FnP K "shields_close" s_shields_close f fd) : FnOk P w K mg base CX0 2 f fd ["steps"] (spF ⟨K, P, w, mg⟩ Xo0 1 F_shields_close) := by
  refine fn_tw (k := 1) F sc_shields_close fun cdv A outer s H E hr => ?_
  have nd := sc_shields_close.nd
  exact (ts_cons (tS_asg (te_c C_depths (fun h => dFp_up (lenA_cons lenA_nil) h) (hr.mono (by first | decide | omega)) rfl (ta_cons (te_v 0) ta_nil)) (tg_n (i := 1) nd)) (ts_one (tS_ret (te_and (te_cmp (op_eqD hr.units) opd_eq (te_blt (cr_minT rfl hr.units) cd_minT rfl T.f_min (by decide +kernel) (ta_cons (te_v 1) ta_nil)) te_int (nomark _)) (te_one (te_cmp (op_eqD hr.units) opd_eq (te_ix ix_seq opd_ix (te_v 1) (te_neg te_int) (fun _ _ => rfl)) te_int (nomark _)))))))
/-! ### naming_marks -/
def N_naming_marks : List Str := ["tasks", "words", "row", "number", "step"]
theorem sc_naming_marks : FnScope N_naming_marks ["tasks", "words"] (defScope s_naming_marks) := ⟨rfl, rfl, rfl, by decide +kernel, rfl, by decide +kernel, by decide +kernel⟩
def ds_naming_marks : En → M Out := (dRet (dLc2 (dItT (dV 0)) (gN 2) dYes (dRng enumT1 (dCons (d2 ixO (dV 2) (dC (.int 2))) dNil)) (gT 2 (gsCons (gN 3) (gsCons (gN 4) gsNil))) (dTest (d2 (pur2 (inO false)) (d2 ixO (dV 4) (dC (.int 0))) (dV 1))) (dTup (dCons (d2 ixO (dV 4) (dC (.int 1))) (dCons (dTup (dCons (d2 ixO (dV 2) (dC (.int 0))) (dCons (dV 3) dNil))) dNil))) [2, 3, 4] [3, 4]))
def F_naming_marks : List D → M D := runD N_naming_marks.length ds_naming_marks
theorem ok_naming_marks {P : Program} {w : World} {K : PySem.W.Frag} {mg : Str → Option Value} {base : Heap} {f : Addr} {fd : FuncData} (T : Tx P w K mg)  (F : FnP K "naming_marks" s_naming_marks f fd) : FnOk P w K mg base CX0 1 f fd ["tasks", "words"] (spF ⟨K, P, w, mg⟩ Xo0 2 F_naming_marks) := by
  refine fn_tw (k := 0) F sc_naming_marks fun cdv A outer s H E hr => ?_
  have nd := sc_naming_marks.nd
  exact (ts_one (tS_ret (by exact te_lc2 (own := [(("row" : Str), 2), (("number" : Str), 3), (("step" : Str), 4)]) (vs1 := [3, 4]) rfl nd (by exact (ti_tup (te_v 0))) (blkOk_by (N := N_naming_marks) (sc := defScope s_naming_marks) (own := [(("row" : Str), 2), (("number" : Str), 3), (("step" : Str), 4)]) (by decide +kernel)) (by decide) (raw_n (by decide)) (raw_t (raws_cons (raw_n (by decide)) (raws_cons (raw_n (by decide)) raws_nil))) (fun _ _ _ _ _ => by exact (pg_name (i := 2) nd rfl (Or.inl rfl))) (fun _ _ _ _ _ => by exact tts_nil) (fun _ _ _ _ _ => by exact (ti_enumT rfl T.f_enumerate (ta_cons (te_ix ix_seq opd_ix (te_v 2) te_int (fun _ _ => rfl)) ta_nil))) (fun _ _ _ _ _ => by exact (pg_tup rfl (pgs_cons (pg_name (i := 3) nd rfl (Or.inl rfl)) (pgs_cons (pg_name (i := 4) nd rfl (Or.inl rfl)) pgs_nil)))) (fun _ _ _ _ _ => by exact (tts_one (tt_cmp op_in_seq opd_in (te_ix ix_seq opd_ix (te_v 4) te_int (fun _ _ => rfl)) (te_v 1) (by rfl)))) (fun _ _ _ _ _ => by exact (te_tup (ta_cons (te_ix ix_seq opd_ix (te_v 4) te_int (fun _ _ => rfl)) (ta_cons (te_tup (ta_cons (te_ix ix_seq opd_ix (te_v 2) te_int (fun _ _ => rfl)) (ta_cons (te_v 3) ta_nil))) ta_nil)))))))
/-! ### sole_marks -/
def N_sole_marks : List Str := ["tasks", "words", "told", "name", "mark"]
theorem sc_sole_marks : FnScope N_sole_marks ["tasks", "words"] (defScope s_sole_marks) := ⟨rfl, rfl, rfl, by decide +kernel, rfl, by decide +kernel, by decide +kernel⟩
def ds_sole_marks : En → M Out := (dSeq (dAsg dNewD (gN 2)) (dSeq (dFor (dItL (dFp F_naming_marks (dCons (dV 0) (dCons (dV 1) dNil)))) (gT 2 (gsCons (gN 3) (gsCons (gN 4) gsNil))) (dSeq (dIfS (dTest (d2 (dinP false) (dV 3) (dV 2))) (dRet (dC .non)) dNext) (dDput (dV 2) (dV 3) (dV 4)))) (dRet (dFrz (dV 2)))))
def F_sole_marks : List D → M D := runD N_sole_marks.length ds_sole_marks
theorem ok_sole_marks {P : Program} {w : World} {K : PySem.W.Frag} {mg : Str → Option Value} {base : Heap} {f : Addr} {fd : FuncData} (T : Tx P w K mg) (C_naming_marks : Cal P w K mg base 1 "naming_marks" 2 F_naming_marks) (F : FnP K "sole_marks" s_sole_marks f fd) : FnOk P w K mg base CX0 2 f fd ["tasks", "words"] (spF ⟨K, P, w, mg⟩ Xo0 2 F_sole_marks) := by
  refine fn_tw (k := 1) F sc_sole_marks fun cdv A outer s H E hr => ?_
  have nd := sc_sole_marks.nd
  exact (ts_cons (tS_asg te_newD (tg_n (i := 2) nd)) (ts_cons (tS_for PassesOwn.never rfl (ti_list (te_c C_naming_marks (fun h => dFp_up (lenA_cons (lenA_cons lenA_nil)) h) (hr.mono (by first | decide | omega)) rfl (ta_cons (te_v 0) (ta_cons (te_v 1) ta_nil)))) (tg_t rfl (tgs_cons (tg_n (i := 3) nd) (tgs_cons (tg_n (i := 4) nd) tgs_nil))) (ts_cons (tS_if (tt_din (hu_of hr) (te_v 3) (te_v 2)) (ts_one (tS_ret te_non)) ts_nil) (ts_one (tS_dput (hu_of hr) (te_v 2) (te_v 3) (te_v 4))))) (ts_one (tS_ret (te_frz (te_v 2))))))
/-! ### names_stand -/
def N_names_stand : List Str := ["tasks", "groups", "known", "known_groups", "name", "mark", "named", "row", "group"]
theorem sc_names_stand : FnScope N_names_stand ["tasks", "groups"] (defScope s_names_stand) := ⟨rfl, rfl, rfl, by decide +kernel, rfl, by decide +kernel, by decide +kernel⟩
def ds_names_stand : En → M Out := (dSeq (dAsg (dDc (dItT (dV 0)) (gN 7) dYes (d2 ixO (dV 7) (dC (.int 0))) (dC (.bl true)) [7]) (gN 2)) (dSeq (dAsg (dDc (dItT (dV 1)) (gN 7) dYes (d2 ixO (dV 7) (dC (.int 0))) (dC (.bl true)) [7]) (gN 3)) (dSeq (dFor (dItL (dFp F_naming_marks (dCons (dV 0) (dCons (dC (.tup [.str "start", .str "join", .str "cancel"])) dNil)))) (gT 2 (gsCons (gN 4) (gsCons (gN 5) gsNil))) (dIfS (dOrT (dTest (d2 (dinP true) (dV 4) (dV 2))) (dTest (d2 (pur2 (eqO false)) (dV 4) (d2 ixO (dV 5) (dC (.int 0)))))) (dRet (dC (.bl false))) dNext)) (dSeq (dAsg (dLcF newL (dItT (dV 0)) (gN 7) (dTest (d2 (pur2 (eqO true)) (d2 ixO (dV 7) (dC (.int 1))) (dC (.str "")))) (d2 ixO (dV 7) (dC (.int 1))) [7]) (gN 6)) (dSeq (dExpr (dMeth extF (dV 6) (dCons (dLc (dItL (dFp F_naming_marks (dCons (dV 0) (dCons (dC (.tup [.str "close", .str "catch"])) dNil)))) (gT 2 (gsCons (gN 4) (gsCons (gN 5) gsNil))) dYes (dV 4) [4, 5]) dNil))) (sFrz 6 (dRet (dCall (lP allF) (dCons (dLc (dItL (dV 6)) (gN 8) dYes (d2 (dinP false) (dV 8) (dV 3)) [8]) dNil)))))))))
def F_names_stand : List D → M D := runD N_names_stand.length ds_names_stand
theorem ok_names_stand {P : Program} {w : World} {K : PySem.W.Frag} {mg : Str → Option Value} {base : Heap} {f : Addr} {fd : FuncData} (T : Tx P w K mg) (C_naming_marks : Cal P w K mg base 1 "naming_marks" 2 F_naming_marks) (F : FnP K "names_stand" s_names_stand f fd) : FnOk P w K mg base CX0 2 f fd ["tasks", "groups"] (spF ⟨K, P, w, mg⟩ Xo0 2 F_names_stand) := by
  refine fn_tw (k := 1) F sc_names_stand fun cdv A outer s H E hr => ?_
  have nd := sc_names_stand.nd
  exact (ts_cons (tS_setDc (own := [(("row" : Str), 7)]) (i := 2) rfl nd rfl rfl (sw_trueD rfl rfl rfl (by decide +kernel)) (by exact (ti_tup (te_v 0))) (blkOk_by (N := N_names_stand) (sc := defScope s_names_stand) (own := [(("row" : Str), 7)]) (by decide +kernel)) (raw_n (by decide)) (fun _ _ _ _ _ => by exact (pg_name (i := 7) nd rfl (Or.inl rfl))) (fun _ _ _ _ _ => by exact tts_nil) (fun _ _ _ _ _ => by exact (te_ix ix_seq opd_ix (te_v 7) te_int (fun _ _ => rfl))) (fun _ _ _ _ _ => by exact te_bl)) (ts_cons (tS_asg (by exact te_dc (own := [(("row" : Str), 7)]) rfl nd (by exact (ti_tup (te_v 1))) (blkOk_by (N := N_names_stand) (sc := defScope s_names_stand) (own := [(("row" : Str), 7)]) (by decide +kernel)) (raw_n (by decide)) (fun _ _ _ _ _ => by exact (pg_name (i := 7) nd rfl (Or.inl rfl))) (fun _ _ _ _ _ => by exact tts_nil) (fun _ _ _ _ _ => by exact (te_ix ix_seq opd_ix (te_v 7) te_int (fun _ _ => rfl))) (fun _ _ _ _ _ => by exact te_bl)) (tg_n (i := 3) nd)) (ts_cons (tS_for PassesOwn.never rfl (ti_list (te_c C_naming_marks (fun h => dFp_up (lenA_cons (lenA_cons lenA_nil)) h) (hr.mono (by first | decide | omega)) rfl (ta_cons (te_v 0) (ta_cons (te_gtup rfl T.t_TASK_WORDS.choose_spec.1 T.t_TASK_WORDS.choose_spec.2) ta_nil)))) (tg_t rfl (tgs_cons (tg_n (i := 4) nd) (tgs_cons (tg_n (i := 5) nd) tgs_nil))) (ts_one (tS_if (PW.pt (tw_or (tt_dnin (hu_of hr) (te_v 4) (te_v 2)) (tw_or1 (tt_cmp (op_eqD hr.units) opd_eq (te_v 4) (te_ix ix_seq opd_ix (te_v 5) te_int (fun _ _ => rfl)) (nomark _))))) (ts_one (tS_ret te_bl)) ts_nil))) (ts_cons (tS_setLcF fin_new (own := [(("row" : Str), 7)]) (i := 6) rfl nd rfl rfl (sw_true rfl rfl rfl (by decide +kernel)) (by exact (ti_tup (te_v 0))) (blkOk_by (N := N_names_stand) (sc := defScope s_names_stand) (own := [(("row" : Str), 7)]) (by decide +kernel)) (raw_n (by decide)) (fun _ _ _ _ _ => by exact (pg_name (i := 7) nd rfl (Or.inl rfl))) (fun _ _ _ _ _ => by exact (tts_one (tt_cmp (op_neD hr.units) opd_ne (te_ix ix_seq opd_ix (te_v 7) te_int (fun _ _ => rfl)) te_str (nomark _)))) (fun _ _ _ _ _ => by exact (te_ix ix_seq opd_ix (te_v 7) te_int (fun _ _ => rfl)))) (ts_cons (tS_expr (te_lm PySem.F.slot_list_extend PySem.F.type_list_extend mt_extend md_ext (te_v 6) (ta_cons (by exact te_lc (own := [(("name" : Str), 4), (("mark" : Str), 5)]) rfl nd (by exact (ti_list (te_c C_naming_marks (fun h => dFp_up (lenA_cons (lenA_cons lenA_nil)) h) (hr.mono (by first | decide | omega)) rfl (ta_cons (te_v 0) (ta_cons (te_gtup rfl T.t_CLOSING_WORDS.choose_spec.1 T.t_CLOSING_WORDS.choose_spec.2) ta_nil))))) (blkOk_by (N := N_names_stand) (sc := defScope s_names_stand) (own := [(("name" : Str), 4), (("mark" : Str), 5)]) (by decide +kernel)) (raw_t (raws_cons (raw_n (by decide)) (raws_cons (raw_n (by decide)) raws_nil))) (fun _ _ _ _ _ => by exact (pg_tup rfl (pgs_cons (pg_name (i := 4) nd rfl (Or.inl rfl)) (pgs_cons (pg_name (i := 5) nd rfl (Or.inl rfl)) pgs_nil)))) (fun _ _ _ _ _ => by exact tts_nil) (fun _ _ _ _ _ => by exact (te_v 4))) ta_nil))) (ts_frz 6 (ts_one (tS_ret (te_blt (cr_all rfl) cd_all rfl T.f_all (by decide +kernel) (ta_cons (by exact te_lc (own := [(("group" : Str), 8)]) rfl nd (by exact (ti_list (te_v 6))) (blkOk_by (N := N_names_stand) (sc := defScope s_names_stand) (own := [(("group" : Str), 8)]) (by decide +kernel)) (raw_n (by decide)) (fun _ _ _ _ _ => by exact (pg_name (i := 8) nd rfl (Or.inl rfl))) (fun _ _ _ _ _ => by exact tts_nil) (fun _ _ _ _ _ => by exact (te_din (hu_of hr) (te_v 8) (te_v 3)))) ta_nil))))))))))
/-! ### hosts_close -/
def N_hosts_close : List Str := ["hosts", "closers", "group"]
theorem sc_hosts_close : FnScope N_hosts_close ["hosts", "closers"] (defScope s_hosts_close) := ⟨rfl, rfl, rfl, by decide +kernel, rfl, by decide +kernel, by decide +kernel⟩
def ds_hosts_close : En → M Out := (sLock 0 (dRet (dCall (lP allF) (dCons (dLc (dItK (dV 0)) (gN 2) dYes (dAnd (d2 (dinP false) (dV 2) (dV 1)) (d2 (pur2 (eqO false)) (d2 ixO (d2 dgetP (dV 1) (dV 2)) (dC (.int 0))) (d2 dgetP (dV 0) (dV 2)))) [2]) dNil))))
def F_hosts_close : List D → M D := runD N_hosts_close.length ds_hosts_close
theorem ok_hosts_close {P : Program} {w : World} {K : PySem.W.Frag} {mg : Str → Option Value} {base : Heap} {f : Addr} {fd : FuncData} (T : Tx P w K mg)  (F : FnP K "hosts_close" s_hosts_close f fd) : FnOk P w K mg base CX0 1 f fd ["hosts", "closers"] (spF ⟨K, P, w, mg⟩ Xo0 2 F_hosts_close) := by
  refine fn_tw (k := 0) F sc_hosts_close fun cdv A outer s H E hr => ?_
  have nd := sc_hosts_close.nd
  exact (ts_one (tS_lock 0 (tS_ret (te_blt (cr_all rfl) cd_all rfl T.f_all (by decide +kernel) (ta_cons (by exact te_lc (own := [(("group" : Str), 2)]) rfl nd (by exact (ti_keys (te_v 0))) (blkOk_by (N := N_hosts_close) (sc := defScope s_hosts_close) (own := [(("group" : Str), 2)]) (by decide +kernel)) (raw_n (by decide)) (fun _ _ _ _ _ => by exact (pg_name (i := 2) nd rfl (Or.inl rfl))) (fun _ _ _ _ _ => by exact tts_nil) (fun _ _ _ _ _ => by exact (te_and (te_din (hu_of hr) (te_v 2) (te_v 1)) (te_one (te_cmp (op_eqD hr.units) opd_eq (te_ix ix_seq opd_ix (te_dget (hu_of hr) (te_v 1) (te_v 2) (fun _ _ => rfl)) te_int (fun _ _ => rfl)) (te_dget (hu_of hr) (te_v 0) (te_v 2) (fun _ _ => rfl)) (nomark _)))))) ta_nil)))))
/-! ### hosts_start -/
def N_hosts_start : List Str := ["tasks", "hosts", "closers", "starters", "name", "group", "script", "host", "number"]
theorem sc_hosts_start : FnScope N_hosts_start ["tasks", "hosts", "closers", "starters"] (defScope s_hosts_start) := ⟨rfl, rfl, rfl, by decide +kernel, rfl, by decide +kernel, by decide +kernel⟩
def ds_hosts_start : En → M Out := (dSeq (dFor (dItT (dV 0)) (gT 3 (gsCons (gN 4) (gsCons (gN 5) (gsCons (gN 6) gsNil)))) (dSeq (dIfS (dTest (d2 (pur2 (eqO false)) (dV 5) (dC (.str "")))) dCnt dNext) (dSeq (dIfS (dTest (d2 (dinP true) (dV 4) (dV 3))) (dRet (dC (.bl false))) dNext) (dSeq (dAsg (d2 dgetP (dV 3) (dV 4)) (gT 2 (gsCons (gN 7) (gsCons (gN 8) gsNil)))) (dIfS (dOrT (dTest (d2 (pur2 (eqO true)) (dV 7) (d2 dgetP (dV 1) (dV 5)))) (dTest (d2 (pur2 (ordO gtI gtS)) (dV 8) (d2 ixO (d2 dgetP (dV 2) (dV 5)) (dC (.int 1)))))) (dRet (dC (.bl false))) dNext))))) (dRet (dC (.bl true))))
def F_hosts_start : List D → M D := runD N_hosts_start.length ds_hosts_start
theorem ok_hosts_start {P : Program} {w : World} {K : PySem.W.Frag} {mg : Str → Option Value} {base : Heap} {f : Addr} {fd : FuncData} (T : Tx P w K mg)  (F : FnP K "hosts_start" s_hosts_start f fd) : FnOk P w K mg base CX0 1 f fd ["tasks", "hosts", "closers", "starters"] (spF ⟨K, P, w, mg⟩ Xo0 4 F_hosts_start) := by
  refine fn_tw (k := 0) F sc_hosts_start fun cdv A outer s H E hr => ?_
  have nd := sc_hosts_start.nd
  exact (ts_cons (tS_for PassesOwn.never rfl (ti_tup (te_v 0)) (tg_t rfl (tgs_cons (tg_n (i := 4) nd) (tgs_cons (tg_n (i := 5) nd) (tgs_cons (tg_n (i := 6) nd) tgs_nil)))) (ts_cons (tS_if (tt_cmp (op_eqD hr.units) opd_eq (te_v 5) te_str (nomark _)) (ts_one tS_cnt) ts_nil) (ts_cons (tS_if (tt_dnin (hu_of hr) (te_v 4) (te_v 3)) (ts_one (tS_ret te_bl)) ts_nil) (ts_cons (tS_asg (te_dget (hu_of hr) (te_v 3) (te_v 4) (fun _ _ => rfl)) (tg_t rfl (tgs_cons (tg_n (i := 7) nd) (tgs_cons (tg_n (i := 8) nd) tgs_nil)))) (ts_one (tS_if (PW.pt (tw_or (tt_cmp (op_neD hr.units) opd_ne (te_v 7) (te_dget (hu_of hr) (te_v 1) (te_v 5) (fun _ _ => rfl)) (nomark _)) (tw_or1 (tt_cmp op_gtA opd_ord (te_v 8) (te_ix ix_seq opd_ix (te_dget (hu_of hr) (te_v 2) (te_v 5) (fun _ _ => rfl)) te_int (fun _ _ => rfl)) (nomark _))))) (ts_one (tS_ret te_bl)) ts_nil)))))) (ts_one (tS_ret te_bl)))
/-! ### has_ring -/
def N_has_ring : List Str := ["above", "walked", "name", "place"]
theorem sc_has_ring : FnScope N_has_ring ["above"] (defScope s_has_ring) := ⟨rfl, rfl, rfl, by decide +kernel, rfl, by decide +kernel, by decide +kernel⟩
def ds_has_ring : En → M Out := (dSeq (dAsg dNewD (gN 1)) (dSeq (sLock 0 (dFor (dItK (dV 0)) (gN 2) (dSeq (dAsg (dV 2) (gN 3)) (dSeq (whileL (dAndT (dTest (d2 (dinP false) (dV 3) (dV 0))) (dTest (d2 (dinP true) (dV 3) (dV 1)))) (dSeq (dDput (dV 1) (dV 3) (dV 2)) (dAsg (d2 dgetP (dV 0) (dV 3)) (gN 3))) 1000) (dIfS (dAndT (dTest (d2 (dinP false) (dV 3) (dV 0))) (dTest (d2 (pur2 (eqO false)) (d2 dgetP (dV 1) (dV 3)) (dV 2)))) (dRet (dC (.bl true))) dNext))))) (dRet (dC (.bl false)))))
def F_has_ring : List D → M D := runD N_has_ring.length ds_has_ring
theorem ok_has_ring {P : Program} {w : World} {K : PySem.W.Frag} {mg : Str → Option Value} {base : Heap} {f : Addr} {fd : FuncData} (T : Tx P w K mg)  (F : FnP K "has_ring" s_has_ring f fd) : FnOk P w K mg base CX0 1 f fd ["above"] (spF ⟨K, P, w, mg⟩ Xo0 1 F_has_ring) := by
  refine fn_tw (k := 0) F sc_has_ring fun cdv A outer s H E hr => ?_
  have nd := sc_has_ring.nd
  exact (ts_cons (tS_asg te_newD (tg_n (i := 1) nd)) (ts_cons (tS_lock 0 (tS_for PassesOwn.never rfl (ti_keys (te_v 0)) (tg_n (i := 2) nd) (ts_cons (tS_asg (te_v 2) (tg_n (i := 3) nd)) (ts_cons (tS_while (n := 1000) PassesOwn.never (PW.pt (tw_and (tt_din (hu_of hr) (te_v 3) (te_v 0)) (tw_and1 (tt_dnin (hu_of hr) (te_v 3) (te_v 1))))) (ts_cons (tS_dput (hu_of hr) (te_v 1) (te_v 3) (te_v 2)) (ts_one (tS_asg (te_dget (hu_of hr) (te_v 0) (te_v 3) (fun _ _ => rfl)) (tg_n (i := 3) nd))))) (ts_one (tS_if (PW.pt (tw_and (tt_din (hu_of hr) (te_v 3) (te_v 0)) (tw_and1 (tt_cmp (op_eqD hr.units) opd_eq (te_dget (hu_of hr) (te_v 1) (te_v 3) (fun _ _ => rfl)) (te_v 2) (nomark _))))) (ts_one (tS_ret te_bl)) ts_nil)))))) (ts_one (tS_ret te_bl))))
/-! ### hangs_together -/
def N_hangs_together : List Str := ["tasks", "groups", "closers", "starters", "hosts", "name"]
theorem sc_hangs_together : FnScope N_hangs_together ["tasks", "groups"] (defScope s_hangs_together) := ⟨rfl, rfl, rfl, by decide +kernel, rfl, by decide +kernel, by decide +kernel⟩
def ds_hangs_together : En → M Out := (dSeq (dIfS (dNotT (dTest (dFp F_names_stand (dCons (dV 0) (dCons (dWk (dV 1)) dNil))))) (dRet (dC (.bl false))) dNext) (dSeq (dAsg (dFp F_sole_marks (dCons (dV 0) (dCons (dC (.tup [.str "close", .str "catch"])) dNil))) (gN 2)) (dSeq (dAsg (dFp F_sole_marks (dCons (dV 0) (dCons (dTup (dCons (dC (.str "start")) dNil)) dNil))) (gN 3)) (dSeq (dIfS (dOrT (dTest (d2 (pur2 (isNO false)) (dV 2) (dC .non))) (dTest (d2 (pur2 (isNO false)) (dV 3) (dC .non)))) (dRet (dC (.bl false))) dNext) (dSeq (dAsg (dCall (dictNF) (dCons (dV 1) dNil)) (gN 4)) (sLock 3 (dRet (dAnd (dFp F_hosts_close (dCons (dV 4) (dCons (dV 2) dNil))) (dAnd (dFp F_hosts_start (dCons (dV 0) (dCons (dV 4) (dCons (dV 2) (dCons (dV 3) dNil))))) (dNot (dFp F_has_ring (dCons (dDc (dItK (dV 3)) (gN 5) dYes (dV 5) (d2 ixO (d2 dgetP (dV 3) (dV 5)) (dC (.int 0))) [5]) dNil))))))))))))
def F_hangs_together : List D → M D := runD N_hangs_together.length ds_hangs_together
theorem ok_hangs_together {P : Program} {w : World} {K : PySem.W.Frag} {mg : Str → Option Value} {base : Heap} {f : Addr} {fd : FuncData} (T : Tx P w K mg) (C_sole_marks : Cal P w K mg base 2 "sole_marks" 2 F_sole_marks) (C_names_stand : Cal P w K mg base 2 "names_stand" 2 F_names_stand) (C_hosts_close : Cal P w K mg base 1 "hosts_close" 2 F_hosts_close) (C_hosts_start : Cal P w K mg base 1 "hosts_start" 4 F_hosts_start) (C_has_ring : Cal P w K mg base 1 "has_ring" 1 F_has_ring) (F : FnP K "hangs_together" s_hangs_together f fd) : FnOk P w K mg base CX0 3 f fd ["tasks", "groups"] (spF ⟨K, P, w, mg⟩ Xo0 2 F_hangs_together) := by
  refine fn_tw (k := 2) F sc_hangs_together fun cdv A outer s H E hr => ?_
  have nd := sc_hangs_together.nd
  exact (ts_cons (tS_if (tt_not (tt_val (te_c C_names_stand (fun h => dFp_up (lenA_cons (lenA_cons lenA_nil)) h) (hr.mono (by first | decide | omega)) rfl (ta_cons (te_v 0) (ta_cons (te_wk (te_v 1)) ta_nil))))) (ts_one (tS_ret te_bl)) ts_nil) (ts_cons (tS_asg (te_c C_sole_marks (fun h => dFp_up (lenA_cons (lenA_cons lenA_nil)) h) (hr.mono (by first | decide | omega)) rfl (ta_cons (te_v 0) (ta_cons (te_gtup rfl T.t_CLOSING_WORDS.choose_spec.1 T.t_CLOSING_WORDS.choose_spec.2) ta_nil))) (tg_n (i := 2) nd)) (ts_cons (tS_asg (te_c C_sole_marks (fun h => dFp_up (lenA_cons (lenA_cons lenA_nil)) h) (hr.mono (by first | decide | omega)) rfl (ta_cons (te_v 0) (ta_cons (te_tup (ta_cons te_str ta_nil)) ta_nil))) (tg_n (i := 3) nd)) (ts_cons (tS_if (PW.pt (tw_or (tt_cmp op_isN opd_isN (te_v 2) te_non (nomark _)) (tw_or1 (tt_cmp op_isN opd_isN (te_v 3) te_non (nomark _))))) (ts_one (tS_ret te_bl)) ts_nil) (ts_cons (tS_asg (te_ty (call_dictN rfl) cd_dictN rfl T.f_dict (by decide +kernel) (ta_cons (te_v 1) ta_nil)) (tg_n (i := 4) nd)) (ts_one (tS_lock 3 (tS_ret (te_and (te_c C_hosts_close (fun h => dFp_up (lenA_cons (lenA_cons lenA_nil)) h) (hr.mono (by first | decide | omega)) rfl (ta_cons (te_v 4) (ta_cons (te_v 2) ta_nil))) (te_and (te_c C_hosts_start (fun h => dFp_up (lenA_cons (lenA_cons (lenA_cons (lenA_cons lenA_nil)))) h) (hr.mono (by first | decide | omega)) rfl (ta_cons (te_v 0) (ta_cons (te_v 4) (ta_cons (te_v 2) (ta_cons (te_v 3) ta_nil))))) (te_one (te_not (te_c C_has_ring (fun h => dFp_up (lenA_cons lenA_nil) h) (hr.mono (by first | decide | omega)) rfl (ta_cons (by exact te_dc (own := [(("name" : Str), 5)]) rfl nd (by exact (ti_keys (te_v 3))) (blkOk_by (N := N_hangs_together) (sc := defScope s_hangs_together) (own := [(("name" : Str), 5)]) (by decide +kernel)) (raw_n (by decide)) (fun _ _ _ _ _ => by exact (pg_name (i := 5) nd rfl (Or.inl rfl))) (fun _ _ _ _ _ => by exact tts_nil) (fun _ _ _ _ _ => by exact (te_v 5)) (fun _ _ _ _ _ => by exact (te_ix ix_seq opd_ix (te_dget (hu_of hr) (te_v 3) (te_v 5) (fun _ _ => rfl)) te_int (fun _ _ => rfl)))) ta_nil))))))))))))))
/-! ### is_step -/
def N_is_step : List Str := ["thing", "kinds", "kind", "part"]
theorem sc_is_step : FnScope N_is_step ["thing"] (defScope s_is_step) := ⟨rfl, rfl, rfl, by decide +kernel, rfl, by decide +kernel, by decide +kernel⟩
def ds_is_step : En → M Out := (dSeq (dIfS (dOrT (dNotT (dTest (dCall isiF (dCons (dV 0) (dCons (dC (.ty "tuple")) dNil))))) (dOrT (dTest (d2 (pur2 (eqO false)) (dCall (lenP) (dCons (dV 0) dNil)) (dC (.int 0)))) (dNotT (dTest (dCall isiF (dCons (d2 ixO (dV 0) (dC (.int 0))) (dCons (dC (.ty "str")) dNil))))))) (dRet (dC (.bl false))) dNext) (dSeq (dAsg (dKget tab_parts (d2 ixO (dV 0) (dC (.int 0)))) (gN 1)) (dSeq (dIfS (dOrT (dTest (d2 (pur2 (isNO false)) (dV 1) (dC .non))) (dTest (d2 (pur2 (eqO true)) (dCall (lenP) (dCons (dV 0) dNil)) (d2 (pur2 addO) (dCall (lenP) (dCons (dV 1) dNil)) (dC (.int 1)))))) (dRet (dC (.bl false))) dNext) (dRet (dCall (lP allF) (dCons (dLc (dRng zipT2 (dCons (dV 1) (dCons (dSl (dV 0) (dP (dC (.int 1))) dNoP) dNil))) (gT 2 (gsCons (gN 2) (gsCons (gN 3) gsNil))) dYes (dFp F_fits_part (dCons (dV 2) (dCons (dV 3) dNil))) [2, 3]) dNil))))))
def F_is_step : List D → M D := runD N_is_step.length ds_is_step
theorem ok_is_step {P : Program} {w : World} {K : PySem.W.Frag} {mg : Str → Option Value} {base : Heap} {f : Addr} {fd : FuncData} (T : Tx P w K mg) (C_fits_part : Cal P w K mg base 2 "fits_part" 2 F_fits_part) (F : FnP K "is_step" s_is_step f fd) : FnOk P w K mg base CX0 3 f fd ["thing"] (spF ⟨K, P, w, mg⟩ Xo0 1 F_is_step) := by
  refine fn_tw (k := 2) F sc_is_step fun cdv A outer s H E hr => ?_
  have nd := sc_is_step.nd
  exact (ts_cons (tS_if (PW.pt (tw_or (tt_not (tt_val (te_blt call_isi cd_isi rfl T.f_isinstance boot_isinstance (ta_cons (te_v 0) (ta_cons (te_bty rfl T.f_tuple (by decide +kernel)) ta_nil))))) (tw_or (tt_cmp (op_eqD hr.units) opd_eq (te_blt call_len cd_len rfl T.f_len (by decide +kernel) (ta_cons (te_v 0) ta_nil)) te_int (nomark _)) (tw_or1 (tt_not (tt_val (te_blt call_isi cd_isi rfl T.f_isinstance boot_isinstance (ta_cons (te_ix ix_seq opd_ix (te_v 0) te_int (fun _ _ => rfl)) (ta_cons (te_bty rfl T.f_str (by decide +kernel)) ta_nil))))))))) (ts_one (tS_ret te_bl)) ts_nil) (ts_cons (tS_asg (te_kget rfl T.k_PARTS.choose_spec.1 T.k_PARTS.choose_spec.2 (te_ix ix_seq opd_ix (te_v 0) te_int (fun _ _ => rfl)) ⟨rfl, rfl, rfl, rfl⟩) (tg_n (i := 1) nd)) (ts_cons (tS_if (PW.pt (tw_or (tt_cmp op_isN opd_isN (te_v 1) te_non (nomark _)) (tw_or1 (tt_cmp (op_neD hr.units) opd_ne (te_blt call_len cd_len rfl T.f_len (by decide +kernel) (ta_cons (te_v 0) ta_nil)) (te_op op_addA opd_add (te_blt call_len cd_len rfl T.f_len (by decide +kernel) (ta_cons (te_v 1) ta_nil)) te_int) (nomark _))))) (ts_one (tS_ret te_bl)) ts_nil) (ts_one (tS_ret (te_blt (cr_all rfl) cd_all rfl T.f_all (by decide +kernel) (ta_cons (by exact te_lc (own := [(("kind" : Str), 2), (("part" : Str), 3)]) rfl nd (by exact (ti_zipT rfl T.f_zip (ta_cons (te_v 1) (ta_cons (te_sl (te_v 0) (to_some te_int) to_none) ta_nil)))) (blkOk_by (N := N_is_step) (sc := defScope s_is_step) (own := [(("kind" : Str), 2), (("part" : Str), 3)]) (by decide +kernel)) (raw_t (raws_cons (raw_n (by decide)) (raws_cons (raw_n (by decide)) raws_nil))) (fun _ _ _ _ _ => by exact (pg_tup rfl (pgs_cons (pg_name (i := 2) nd rfl (Or.inl rfl)) (pgs_cons (pg_name (i := 3) nd rfl (Or.inl rfl)) pgs_nil)))) (fun _ _ _ _ _ => by exact tts_nil) (fun _ _ _ _ _ => by exact (te_c C_fits_part (fun h => dFp_up (lenA_cons (lenA_cons lenA_nil)) h) (hr.mono (by first | decide | omega)) rfl (ta_cons (te_v 2) (ta_cons (te_v 3) ta_nil))))) ta_nil)))))))
/-! ### is_script -/
def N_is_script : List Str := ["thing", "step"]
theorem sc_is_script : FnScope N_is_script ["thing"] (defScope s_is_script) := ⟨rfl, rfl, rfl, by decide +kernel, rfl, by decide +kernel, by decide +kernel⟩
def ds_is_script : En → M Out := (dRet (dAnd (dCall isiF (dCons (dV 0) (dCons (dC (.ty "tuple")) dNil))) (dAnd (dCall (lP allF) (dCons (dLc (dItT (dV 0)) (gN 1) dYes (dFp F_is_step (dCons (dV 1) dNil)) [1]) dNil)) (dFp F_shields_close (dCons (dV 0) dNil)))))
def F_is_script : List D → M D := runD N_is_script.length ds_is_script
theorem ok_is_script {P : Program} {w : World} {K : PySem.W.Frag} {mg : Str → Option Value} {base : Heap} {f : Addr} {fd : FuncData} (T : Tx P w K mg) (C_shields_close : Cal P w K mg base 2 "shields_close" 1 F_shields_close) (C_is_step : Cal P w K mg base 3 "is_step" 1 F_is_step) (F : FnP K "is_script" s_is_script f fd) : FnOk P w K mg base CX0 4 f fd ["thing"] (spF ⟨K, P, w, mg⟩ Xo0 1 F_is_script) := by
  refine fn_tw (k := 3) F sc_is_script fun cdv A outer s H E hr => ?_
  have nd := sc_is_script.nd
  exact (ts_one (tS_ret (te_and (te_blt call_isi cd_isi rfl T.f_isinstance boot_isinstance (ta_cons (te_v 0) (ta_cons (te_bty rfl T.f_tuple (by decide +kernel)) ta_nil))) (te_and (te_blt (cr_all rfl) cd_all rfl T.f_all (by decide +kernel) (ta_cons (by exact te_lc (own := [(("step" : Str), 1)]) rfl nd (by exact (ti_tup (te_v 0))) (blkOk_by (N := N_is_script) (sc := defScope s_is_script) (own := [(("step" : Str), 1)]) (by decide +kernel)) (raw_n (by decide)) (fun _ _ _ _ _ => by exact (pg_name (i := 1) nd rfl (Or.inl rfl))) (fun _ _ _ _ _ => by exact tts_nil) (fun _ _ _ _ _ => by exact (te_c C_is_step (fun h => dFp_up (lenA_cons lenA_nil) h) (hr.mono (by first | decide | omega)) rfl (ta_cons (te_v 1) ta_nil)))) ta_nil)) (te_one (te_c C_shields_close (fun h => dFp_up (lenA_cons lenA_nil) h) (hr.mono (by first | decide | omega)) rfl (ta_cons (te_v 0) ta_nil)))))))
/-! ### is_house -/
def N_is_house : List Str := ["thing", "tasks", "groups", "rooms", "row"]
theorem sc_is_house : FnScope N_is_house ["thing"] (defScope s_is_house) := ⟨rfl, rfl, rfl, by decide +kernel, rfl, by decide +kernel, by decide +kernel⟩
def ds_is_house : En → M Out := (dSeq (dIfS (dOrT (dNotT (dTest (dCall isiF (dCons (dV 0) (dCons (dC (.ty "tuple")) dNil))))) (dTest (d2 (pur2 (eqO true)) (dCall (lenP) (dCons (dV 0) dNil)) (dC (.int 3))))) (dRet (dC (.bl false))) dNext) (dSeq (dAsg (dV 0) (gT 3 (gsCons (gN 1) (gsCons (gN 2) (gsCons (gN 3) gsNil))))) (dRet (dAnd (dFp F_is_table (dCons (dV 1) (dCons (dC (.int 3)) dNil))) (dAnd (d2 (pur2 (ordO gtI gtS)) (dCall (lenP) (dCons (dV 1) dNil)) (dC (.int 0))) (dAnd (dCall (lP allF) (dCons (dLc (dItT (dV 1)) (gN 4) dYes (dAnd (dOr (d2 (pur2 (eqO false)) (d2 ixO (dV 4) (dC (.int 1))) (dC (.str ""))) (dFp F_is_name (dCons (d2 ixO (dV 4) (dC (.int 1))) dNil))) (dFp F_is_script (dCons (d2 ixO (dV 4) (dC (.int 2))) dNil))) [4]) dNil)) (dAnd (dFp F_is_table (dCons (dWk (dV 2)) (dCons (dC (.int 2)) dNil))) (dAnd (dCall (lP allF) (dCons (dLc (dItT (dWk (dV 2))) (gN 4) dYes (dFp F_is_name (dCons (d2 ixO (dV 4) (dC (.int 1))) dNil)) [4]) dNil)) (dAnd (dFp F_is_table (dCons (dV 3) (dCons (dC (.int 2)) dNil))) (dAnd (dCall (lP allF) (dCons (dLc (dItT (dV 3)) (gN 4) dYes (dAnd (dFp F_is_number (dCons (d2 ixO (dV 4) (dC (.int 1))) dNil)) (d2 (pur2 (ordO geI geS)) (d2 ixO (dV 4) (dC (.int 1))) (dC (.int 1)))) [4]) dNil)) (dFp F_hangs_together (dCons (dV 1) (dCons (dV 2) dNil)))))))))))))
def F_is_house : List D → M D := runD N_is_house.length ds_is_house
theorem ok_is_house {P : Program} {w : World} {K : PySem.W.Frag} {mg : Str → Option Value} {base : Heap} {f : Addr} {fd : FuncData} (T : Tx P w K mg) (C_is_number : Cal P w K mg base 1 "is_number" 1 F_is_number) (C_is_name : Cal P w K mg base 1 "is_name" 1 F_is_name) (C_is_table : Cal P w K mg base 2 "is_table" 2 F_is_table) (C_hangs_together : Cal P w K mg base 3 "hangs_together" 2 F_hangs_together) (C_is_script : Cal P w K mg base 4 "is_script" 1 F_is_script) (F : FnP K "is_house" s_is_house f fd) : FnOk P w K mg base CX0 5 f fd ["thing"] (spF ⟨K, P, w, mg⟩ Xo0 1 F_is_house) := by
  refine fn_tw (k := 4) F sc_is_house fun cdv A outer s H E hr => ?_
  have nd := sc_is_house.nd
  exact (ts_cons (tS_if (PW.pt (tw_or (tt_not (tt_val (te_blt call_isi cd_isi rfl T.f_isinstance boot_isinstance (ta_cons (te_v 0) (ta_cons (te_bty rfl T.f_tuple (by decide +kernel)) ta_nil))))) (tw_or1 (tt_cmp (op_neD hr.units) opd_ne (te_blt call_len cd_len rfl T.f_len (by decide +kernel) (ta_cons (te_v 0) ta_nil)) te_int (nomark _))))) (ts_one (tS_ret te_bl)) ts_nil) (ts_cons (tS_asg (te_v 0) (tg_t rfl (tgs_cons (tg_n (i := 1) nd) (tgs_cons (tg_n (i := 2) nd) (tgs_cons (tg_n (i := 3) nd) tgs_nil))))) (ts_one (tS_ret (te_and (te_c C_is_table (fun h => dFp_up (lenA_cons (lenA_cons lenA_nil)) h) (hr.mono (by first | decide | omega)) rfl (ta_cons (te_v 1) (ta_cons te_int ta_nil))) (te_and (te_cmp op_gtA opd_ord (te_blt call_len cd_len rfl T.f_len (by decide +kernel) (ta_cons (te_v 1) ta_nil)) te_int (nomark _)) (te_and (te_blt (cr_all rfl) cd_all rfl T.f_all (by decide +kernel) (ta_cons (by exact te_lc (own := [(("row" : Str), 4)]) rfl nd (by exact (ti_tup (te_v 1))) (blkOk_by (N := N_is_house) (sc := defScope s_is_house) (own := [(("row" : Str), 4)]) (by decide +kernel)) (raw_n (by decide)) (fun _ _ _ _ _ => by exact (pg_name (i := 4) nd rfl (Or.inl rfl))) (fun _ _ _ _ _ => by exact tts_nil) (fun _ _ _ _ _ => by exact (te_and (te_or (te_cmp (op_eqD hr.units) opd_eq (te_ix ix_seq opd_ix (te_v 4) te_int (fun _ _ => rfl)) te_str (nomark _)) (te_one (te_c C_is_name (fun h => dFp_up (lenA_cons lenA_nil) h) (hr.mono (by first | decide | omega)) rfl (ta_cons (te_ix ix_seq opd_ix (te_v 4) te_int (fun _ _ => rfl)) ta_nil)))) (te_one (te_c C_is_script (fun h => dFp_up (lenA_cons lenA_nil) h) (hr.mono (by first | decide | omega)) rfl (ta_cons (te_ix ix_seq opd_ix (te_v 4) te_int (fun _ _ => rfl)) ta_nil)))))) ta_nil)) (te_and (te_c C_is_table (fun h => dFp_up (lenA_cons (lenA_cons lenA_nil)) h) (hr.mono (by first | decide | omega)) rfl (ta_cons (te_wk (te_v 2)) (ta_cons te_int ta_nil))) (te_and (te_blt (cr_all rfl) cd_all rfl T.f_all (by decide +kernel) (ta_cons (by exact te_lc (own := [(("row" : Str), 4)]) rfl nd (by exact (ti_tup (te_wk (te_v 2)))) (blkOk_by (N := N_is_house) (sc := defScope s_is_house) (own := [(("row" : Str), 4)]) (by decide +kernel)) (raw_n (by decide)) (fun _ _ _ _ _ => by exact (pg_name (i := 4) nd rfl (Or.inl rfl))) (fun _ _ _ _ _ => by exact tts_nil) (fun _ _ _ _ _ => by exact (te_c C_is_name (fun h => dFp_up (lenA_cons lenA_nil) h) (hr.mono (by first | decide | omega)) rfl (ta_cons (te_ix ix_seq opd_ix (te_v 4) te_int (fun _ _ => rfl)) ta_nil)))) ta_nil)) (te_and (te_c C_is_table (fun h => dFp_up (lenA_cons (lenA_cons lenA_nil)) h) (hr.mono (by first | decide | omega)) rfl (ta_cons (te_v 3) (ta_cons te_int ta_nil))) (te_and (te_blt (cr_all rfl) cd_all rfl T.f_all (by decide +kernel) (ta_cons (by exact te_lc (own := [(("row" : Str), 4)]) rfl nd (by exact (ti_tup (te_v 3))) (blkOk_by (N := N_is_house) (sc := defScope s_is_house) (own := [(("row" : Str), 4)]) (by decide +kernel)) (raw_n (by decide)) (fun _ _ _ _ _ => by exact (pg_name (i := 4) nd rfl (Or.inl rfl))) (fun _ _ _ _ _ => by exact tts_nil) (fun _ _ _ _ _ => by exact (te_and (te_c C_is_number (fun h => dFp_up (lenA_cons lenA_nil) h) (hr.mono (by first | decide | omega)) rfl (ta_cons (te_ix ix_seq opd_ix (te_v 4) te_int (fun _ _ => rfl)) ta_nil)) (te_one (te_cmp op_geA opd_ord (te_ix ix_seq opd_ix (te_v 4) te_int (fun _ _ => rfl)) te_int (nomark _)))))) ta_nil)) (te_one (te_c C_hangs_together (fun h => dFp_up (lenA_cons (lenA_cons lenA_nil)) h) (hr.mono (by first | decide | omega)) rfl (ta_cons (te_v 1) (ta_cons (te_v 2) ta_nil)))))))))))))))
/-! ### _law_box -/
def N_l_box : List Str := ["_law_script_here", "_law_k", "_law_cell"]
theorem sc_l_box : FnScope N_l_box ["_law_script_here", "_law_k"] (defScope s_l_box) := ⟨rfl, rfl, rfl, by decide +kernel, rfl, by decide +kernel, by decide +kernel⟩
def ds_l_box : En → M Out := (dSeq (dAsg (dIf (dTest (d2 (pur2 (ordO ltI ltS)) (dV 1) (dCall (lenP) (dCons (dV 0) dNil)))) (d2 ixO (dV 0) (dV 1)) (dC (.int 0))) (gN 2)) (dRet (dLstM (dCons (d2 (pur2 mulO) (dCall (pur1 absF) (dCons (dV 2) dNil)) (dCall (pur1 intF) (dCons (d2 (pur2 (ordO geI geS)) (dCall (pur1 absF) (dCons (dV 2) dNil)) (d2 (pur2 powO) (dC (.int 10)) (dC (.int 18)))) dNil))) (dCons (d2 (pur2 addO) (d2 (pur2 addO) (d2 (pur2 modO) (dCall (pur1 intF) (dCons (dV 2) dNil)) (dC (.int 2305843009213693951))) (d2 (pur2 mulO) (dC (.int 39373)) (dV 1))) (dC (.int 101))) (dCons (dC (.int 0)) dNil))))))
def F_l_box : List D → M D := runD N_l_box.length ds_l_box
theorem ok_l_box {P : Program} {w : World} {K : PySem.W.Frag} {mg : Str → Option Value} {base : Heap} {f : Addr} {fd : FuncData} (T : Tx P w K mg)  (F : FnP K "_law_box" s_l_box f fd) : FnOk P w K mg base CX0 1 f fd ["_law_script_here", "_law_k"] (spF ⟨K, P, w, mg⟩ Xo0 2 F_l_box) := by
  refine fn_tw (k := 0) F sc_l_box fun cdv A outer s H E hr => ?_
  have nd := sc_l_box.nd
  exact (ts_cons (tS_asg (te_if (tt_cmp op_ltA opd_ord (te_v 1) (te_blt call_len cd_len rfl T.f_len (by decide +kernel) (ta_cons (te_v 0) ta_nil)) (nomark _)) (te_ix ix_seq opd_ix (te_v 0) (te_v 1) (fun _ _ => rfl)) te_int) (tg_n (i := 2) nd)) (ts_one (tS_ret (te_lstM (ta_cons (te_op op_mul opd_mul (te_blt call_abs cd_abs rfl T.f_abs (by decide +kernel) (ta_cons (te_v 2) ta_nil)) (te_ty call_int1 cd_int rfl T.f_int (by decide +kernel) (ta_cons (te_cmp op_geA opd_ord (te_blt call_abs cd_abs rfl T.f_abs (by decide +kernel) (ta_cons (te_v 2) ta_nil)) (te_op op_pow opd_pow te_int te_int) (nomark _)) ta_nil))) (ta_cons (te_op op_addA opd_add (te_op op_addA opd_add (te_op op_mod opd_mod (te_ty call_int1 cd_int rfl T.f_int (by decide +kernel) (ta_cons (te_v 2) ta_nil)) te_int) (te_op op_mul opd_mul te_int (te_v 1))) te_int) (ta_cons te_int ta_nil)))))))
/-! ### _law_take -/
def N_l_take : List Str := ["_law_box_here", "_law_size_so", "_law_some", "_law_once", "_law_far", "_law_again"]
theorem sc_l_take : FnScope N_l_take ["_law_box_here", "_law_size_so"] (defScope s_l_take) := ⟨rfl, rfl, rfl, by decide +kernel, rfl, by decide +kernel, by decide +kernel⟩
def ds_l_take : En → M Out := (dSeq (dIfS (dTest (d2 (pur2 (ordO gtI gtS)) (d2 ixO (dV 0) (dC (.int 0))) (dC (.int 0)))) (dSeq (dAsg (d2 (pur2 modO) (dCall (pur1 intF) (dCons (d2 ixO (dV 0) (dC (.int 0))) dNil)) (dV 1)) (gN 2)) (dSeq (dAsg (d2 (pur2 divO) (d2 ixO (dV 0) (dC (.int 0))) (dV 1)) (gSubD (dV 0) (dC (.int 0)) setF)) (dRet (dV 2)))) dNext) (dSeq (dAsg (d2 (pur2 addO) (d2 ixO (dV 0) (dC (.int 2))) (dC (.int 1))) (gSubD (dV 0) (dC (.int 2)) setF)) (dSeq (dAsg (d2 (pur2 modO) (dCall (pur1 intF) (dCons (d2 (pur2 mulO) (d2 (pur2 addO) (d2 ixO (dV 0) (dC (.int 1))) (d2 (pur2 mulO) (dC (.int 48271)) (d2 ixO (dV 0) (dC (.int 2))))) (d2 (pur2 addO) (dC (.int 39373)) (d2 ixO (dV 0) (dC (.int 2))))) dNil)) (dC (.int 2147483647))) (gN 3)) (dSeq (dAsg (d2 (pur2 addO) (d2 (pur2 modO) (dCall (pur1 intF) (dCons (dV 3) dNil)) (dC (.int 40009))) (dC (.int 7))) (gN 4)) (dSeq (dAsg (d2 (pur2 modO) (dCall (pur1 intF) (dCons (d2 (pur2 mulO) (d2 (pur2 addO) (d2 (pur2 addO) (dV 3) (d2 ixO (dV 0) (dC (.int 2)))) (d2 (pur2 divO) (d2 ixO (dV 0) (dC (.int 1))) (dC (.int 1000003)))) (dV 4)) dNil)) (dC (.int 2147483629))) (gN 5)) (dRet (d2 (pur2 modO) (dCall (pur1 intF) (dCons (d2 (pur2 divO) (d2 (pur2 modO) (dCall (pur1 intF) (dCons (d2 (pur2 addO) (d2 (pur2 mulO) (dV 5) (dC (.int 48271))) (dV 3)) dNil)) (dC (.int 2147483587))) (dC (.int 64))) dNil)) (dV 1))))))))
def F_l_take : List D → M D := runD N_l_take.length ds_l_take
theorem ok_l_take {P : Program} {w : World} {K : PySem.W.Frag} {mg : Str → Option Value} {base : Heap} {f : Addr} {fd : FuncData} (T : Tx P w K mg)  (F : FnP K "_law_take" s_l_take f fd) : FnOk P w K mg base CX0 1 f fd ["_law_box_here", "_law_size_so"] (spF ⟨K, P, w, mg⟩ Xo0 2 F_l_take) := by
  refine fn_tw (k := 0) F sc_l_take fun cdv A outer s H E hr => ?_
  have nd := sc_l_take.nd
  exact (ts_cons (tS_if (tt_cmp op_gtA opd_ord (te_ix ix_seq opd_ix (te_v 0) te_int (fun _ _ => rfl)) te_int (nomark _)) (ts_cons (tS_asg (te_op op_mod opd_mod (te_ty call_int1 cd_int rfl T.f_int (by decide +kernel) (ta_cons (te_ix ix_seq opd_ix (te_v 0) te_int (fun _ _ => rfl)) ta_nil)) (te_v 1)) (tg_n (i := 2) nd)) (ts_cons (tS_asg (te_op op_fdiv opd_div (te_ix ix_seq opd_ix (te_v 0) te_int (fun _ _ => rfl)) (te_v 1)) (tg_set (te_v 0) te_int (t := pg_sub (te_v 0) te_int set_list))) (ts_one (tS_ret (te_v 2))))) ts_nil) (ts_cons (tS_asg (te_op op_addA opd_add (te_ix ix_seq opd_ix (te_v 0) te_int (fun _ _ => rfl)) te_int) (tg_set (te_v 0) te_int (t := pg_sub (te_v 0) te_int set_list))) (ts_cons (tS_asg (te_op op_mod opd_mod (te_ty call_int1 cd_int rfl T.f_int (by decide +kernel) (ta_cons (te_op op_mul opd_mul (te_op op_addA opd_add (te_ix ix_seq opd_ix (te_v 0) te_int (fun _ _ => rfl)) (te_op op_mul opd_mul te_int (te_ix ix_seq opd_ix (te_v 0) te_int (fun _ _ => rfl)))) (te_op op_addA opd_add te_int (te_ix ix_seq opd_ix (te_v 0) te_int (fun _ _ => rfl)))) ta_nil)) te_int) (tg_n (i := 3) nd)) (ts_cons (tS_asg (te_op op_addA opd_add (te_op op_mod opd_mod (te_ty call_int1 cd_int rfl T.f_int (by decide +kernel) (ta_cons (te_v 3) ta_nil)) te_int) te_int) (tg_n (i := 4) nd)) (ts_cons (tS_asg (te_op op_mod opd_mod (te_ty call_int1 cd_int rfl T.f_int (by decide +kernel) (ta_cons (te_op op_mul opd_mul (te_op op_addA opd_add (te_op op_addA opd_add (te_v 3) (te_ix ix_seq opd_ix (te_v 0) te_int (fun _ _ => rfl))) (te_op op_fdiv opd_div (te_ix ix_seq opd_ix (te_v 0) te_int (fun _ _ => rfl)) te_int)) (te_v 4)) ta_nil)) te_int) (tg_n (i := 5) nd)) (ts_one (tS_ret (te_op op_mod opd_mod (te_ty call_int1 cd_int rfl T.f_int (by decide +kernel) (ta_cons (te_op op_fdiv opd_div (te_op op_mod opd_mod (te_ty call_int1 cd_int rfl T.f_int (by decide +kernel) (ta_cons (te_op op_addA opd_add (te_op op_mul opd_mul (te_v 5) te_int) (te_v 3)) ta_nil)) te_int) te_int) ta_nil)) (te_v 1)))))))))
/-! ### _law_cells -/
def N_l_cells : List Str := ["_law_script_here", "_law_top_so", "_law_cells_so", "_law_k", "_law_cell", "_law_at_so"]
theorem sc_l_cells : FnScope N_l_cells ["_law_script_here", "_law_top_so"] (defScope s_l_cells) := ⟨rfl, rfl, rfl, by decide +kernel, rfl, by decide +kernel, by decide +kernel⟩
def ds_l_cells : En → M Out := (dSeq (dAsg (dOr (dCall (listP newL) (dCons (dSl (dV 0) dNoP (dP (dV 1))) dNil)) (dLstM (dCons (dC (.int 0)) dNil))) (gN 2)) (dSeq (dFor (dRng enum1 (dCons (dSl (dV 0) (dP (dV 1)) (dP (dC (.int 63)))) dNil)) (gT 2 (gsCons (gN 3) (gsCons (gN 4) gsNil))) (dSeq (dAsg (d2 (pur2 modO) (dCall (pur1 intF) (dCons (dV 3) dNil)) (dV 1)) (gN 5)) (dAsg (d2 (pur2 addO) (d2 ixO (dV 2) (dV 5)) (d2 (pur2 mulO) (dV 4) (d2 (pur2 addO) (dV 3) (dC (.int 2))))) (gSubD (dV 2) (dV 5) setF)))) (dRet (dFrz (dV 2)))))
def F_l_cells : List D → M D := runD N_l_cells.length ds_l_cells
theorem ok_l_cells {P : Program} {w : World} {K : PySem.W.Frag} {mg : Str → Option Value} {base : Heap} {f : Addr} {fd : FuncData} (T : Tx P w K mg)  (F : FnP K "_law_cells" s_l_cells f fd) : FnOk P w K mg base CX0 1 f fd ["_law_script_here", "_law_top_so"] (spF ⟨K, P, w, mg⟩ Xo0 2 F_l_cells) := by
  refine fn_tw (k := 0) F sc_l_cells fun cdv A outer s H E hr => ?_
  have nd := sc_l_cells.nd
  exact (ts_cons (tS_asg (te_or (te_ty call_list_of cd_listM rfl T.f_list (by decide +kernel) (ta_cons (te_sl (te_v 0) to_none (to_some (te_v 1))) ta_nil)) (te_one (te_lstM (ta_cons te_int ta_nil)))) (tg_n (i := 2) nd)) (ts_cons (tS_for PassesOwn.never rfl (ti_enum rfl T.f_enumerate (ta_cons (te_sl (te_v 0) (to_some (te_v 1)) (to_some te_int)) ta_nil)) (tg_t rfl (tgs_cons (tg_n (i := 3) nd) (tgs_cons (tg_n (i := 4) nd) tgs_nil))) (ts_cons (tS_asg (te_op op_mod opd_mod (te_ty call_int1 cd_int rfl T.f_int (by decide +kernel) (ta_cons (te_v 3) ta_nil)) (te_v 1)) (tg_n (i := 5) nd)) (ts_one (tS_asg (te_op op_addA opd_add (te_ix ix_seq opd_ix (te_v 2) (te_v 5) (fun _ _ => rfl)) (te_op op_mul opd_mul (te_v 4) (te_op op_addA opd_add (te_v 3) te_int))) (tg_set (te_v 2) (te_v 5) (t := pg_sub (te_v 2) (te_v 5) set_list)))))) (ts_one (tS_ret (te_frz (te_v 2))))))
/-! ### _law_of -/
def N_l_of : List Str := ["_law_box_here", "_law_goods_so"]
theorem sc_l_of : FnScope N_l_of ["_law_box_here", "_law_goods_so"] (defScope s_l_of) := ⟨rfl, rfl, rfl, by decide +kernel, rfl, by decide +kernel, by decide +kernel⟩
def ds_l_of : En → M Out := (dRet (d2 ixO (dV 1) (dF F_l_take (dCons (dV 0) (dCons (dCall (lenP) (dCons (dV 1) dNil)) dNil)))))
def F_l_of : List D → M D := runD N_l_of.length ds_l_of
theorem ok_l_of {P : Program} {w : World} {K : PySem.W.Frag} {mg : Str → Option Value} {base : Heap} {f : Addr} {fd : FuncData} (T : Tx P w K mg) (C_l_take : Cal P w K mg base 1 "_law_take" 2 F_l_take) (F : FnP K "_law_of" s_l_of f fd) : FnOk P w K mg base CX0 2 f fd ["_law_box_here", "_law_goods_so"] (spF ⟨K, P, w, mg⟩ Xo0 2 F_l_of) := by
  refine fn_tw (k := 1) F sc_l_of fun cdv A outer s H E hr => ?_
  have nd := sc_l_of.nd
  exact (ts_one (tS_ret (te_ix ix_seq opd_ix (te_v 1) (te_c C_l_take (fun h => dF_up (lenA_cons (lenA_cons lenA_nil)) h) (hr.mono (by first | decide | omega)) rfl (ta_cons (te_v 0) (ta_cons (te_blt call_len cd_len rfl T.f_len (by decide +kernel) (ta_cons (te_v 1) ta_nil)) ta_nil))) (fun _ _ => rfl))))
/-! ### _law_pick -/
def N_l_pick : List Str := ["_law_box_here", "_law_goods_so", "_law_count_so", "_law_pool_so", "_law_found", "_law_turn"]
theorem sc_l_pick : FnScope N_l_pick ["_law_box_here", "_law_goods_so", "_law_count_so"] (defScope s_l_pick) := ⟨rfl, rfl, rfl, by decide +kernel, rfl, by decide +kernel, by decide +kernel⟩
def ds_l_pick : En → M Out := (dSeq (dPar 3 4 (dCons (dCall (listP newL) (dCons (dV 1) dNil)) (dCons (dLstM dNil) dNil))) (dSeq (dFor (dRng rng1 (dCons (dCall (purL (ii min2)) (dCons (dCall (pur1 intF) (dCons (dV 2) dNil)) (dCons (dCall (lenP) (dCons (dV 3) dNil)) dNil))) dNil)) (gN 5) (dExpr (dMeth appF (dV 4) (dCons (dMeth popAtF (dV 3) (dCons (dF F_l_take (dCons (dV 0) (dCons (dCall (lenP) (dCons (dV 3) dNil)) dNil))) dNil)) dNil)))) (dRet (dFrz (dV 4)))))
def F_l_pick : List D → M D := runD N_l_pick.length ds_l_pick
theorem ok_l_pick {P : Program} {w : World} {K : PySem.W.Frag} {mg : Str → Option Value} {base : Heap} {f : Addr} {fd : FuncData} (T : Tx P w K mg) (C_l_take : Cal P w K mg base 1 "_law_take" 2 F_l_take) (F : FnP K "_law_pick" s_l_pick f fd) : FnOk P w K mg base CX0 2 f fd ["_law_box_here", "_law_goods_so", "_law_count_so"] (spF ⟨K, P, w, mg⟩ Xo0 3 F_l_pick) := by
  refine fn_tw (k := 1) F sc_l_pick fun cdv A outer s H E hr => ?_
  have nd := sc_l_pick.nd
  exact (ts_cons (tS_par (i := 3) (j := 4) rfl nd rfl rfl (by decide) rfl rfl (ta_cons (te_ty call_list_of cd_listM rfl T.f_list (by decide +kernel) (ta_cons (te_v 1) ta_nil)) (ta_cons (te_lstM ta_nil) ta_nil)) rfl) (ts_cons (tS_for PassesOwn.never rfl (ti_rng1 rfl T.f_range (ta_cons (te_blt (call_min2 rfl) cd_ii rfl T.f_min (by decide +kernel) (ta_cons (te_ty call_int1 cd_int rfl T.f_int (by decide +kernel) (ta_cons (te_v 2) ta_nil)) (ta_cons (te_blt call_len cd_len rfl T.f_len (by decide +kernel) (ta_cons (te_v 3) ta_nil)) ta_nil))) ta_nil)) (tg_n (i := 5) nd) (ts_one (tS_expr (te_lm PySem.F.slot_list_append PySem.F.type_list_append mt_append md_app (te_v 4) (ta_cons (te_lm PySem.F.slot_list_pop PySem.F.type_list_pop mt_popAt md_popAt (te_v 3) (ta_cons (te_c C_l_take (fun h => dF_up (lenA_cons (lenA_cons lenA_nil)) h) (hr.mono (by first | decide | omega)) rfl (ta_cons (te_v 0) (ta_cons (te_blt call_len cd_len rfl T.f_len (by decide +kernel) (ta_cons (te_v 3) ta_nil)) ta_nil))) ta_nil)) ta_nil))))) (ts_one (tS_ret (te_frz (te_v 4))))))
/-! ### _law_same -/
def N_l_same : List Str := ["_law_got", "_law_due", "_law_mine", "_law_its"]
theorem sc_l_same : FnScope N_l_same ["_law_got", "_law_due"] (defScope s_l_same) := ⟨rfl, rfl, rfl, by decide +kernel, rfl, by decide +kernel, by decide +kernel⟩
def ds_l_same (R : List D → M D) : En → M Out := (dSeq (dIfS (dTest (dCall isiTF (dCons (dV 1) (dCons (dTup (dCons (dC (.ty "list")) (dCons (dC (.ty "tuple")) dNil))) dNil)))) (dSeq (dIfS (dTest (d2 (pur2 (eqO true)) (dCall isiF (dCons (dV 0) (dCons (dC (.ty "list")) dNil))) (dCall isiF (dCons (dV 1) (dCons (dC (.ty "list")) dNil))))) (dRet (dC (.bl false))) dNext) (dSeq (dIfS (dTest (d2 (pur2 (eqO true)) (dCall isiF (dCons (dV 0) (dCons (dC (.ty "tuple")) dNil))) (dCall isiF (dCons (dV 1) (dCons (dC (.ty "tuple")) dNil))))) (dRet (dC (.bl false))) dNext) (dRet (dAnd (d2 (pur2 (eqO false)) (dCall (lenP) (dCons (dV 0) dNil)) (dCall (lenP) (dCons (dV 1) dNil))) (dCall (lP allF) (dCons (dLc (dRng zip2 (dCons (dV 0) (dCons (dV 1) dNil))) (gT 2 (gsCons (gN 2) (gsCons (gN 3) gsNil))) dYes (dFp R (dCons (dV 2) (dCons (dV 3) dNil))) [2, 3]) dNil)))))) dNext) (dSeq (dIfS (dOrT (dTest (d2 (pur2 (isNO false)) (dV 1) (dC .non))) (dTest (dCall isiTF (dCons (dV 1) (dCons (dTup (dCons (dC (.ty "bool")) (dCons (dC (.ty "str")) dNil))) dNil))))) (dRet (dAnd (d2 (pur2 (eqO false)) (dV 0) (dV 1)) (dAnd (d2 (pur2 (eqO false)) (dCall isiF (dCons (dV 0) (dCons (dC (.ty "bool")) dNil))) (dCall isiF (dCons (dV 1) (dCons (dC (.ty "bool")) dNil)))) (d2 (pur2 (eqO false)) (d2 (pur2 (isNO false)) (dV 0) (dC .non)) (d2 (pur2 (isNO false)) (dV 1) (dC .non)))))) dNext) (dRet (dAnd (dCall isiF (dCons (dV 0) (dCons (dC (.ty "int")) dNil))) (dAnd (dNot (dCall isiF (dCons (dV 0) (dCons (dC (.ty "bool")) dNil)))) (d2 (pur2 (eqO false)) (dV 0) (dV 1)))))))
def F_l_same : Nat → List D → M D
  | 0 => fun _ _ => none
  | n + 1 => runD N_l_same.length (ds_l_same (F_l_same n))
theorem ok_l_same {P : Program} {w : World} {K : PySem.W.Frag} {mg : Str → Option Value} {base : Heap} {f : Addr} {fd : FuncData} (T : Tx P w K mg) {R : List D → M D} {k : Nat} (C_R : Cal P w K mg base k "_law_same" 2 R) (F : FnP K "_law_same" s_l_same f fd) : FnOk P w K mg base CX0 (k + 1) f fd ["_law_got", "_law_due"] (spF ⟨K, P, w, mg⟩ Xo0 2 (runD N_l_same.length (ds_l_same R))) := by
  refine fn_tw (k := k) F sc_l_same fun cdv A outer s H E hr => ?_
  have nd := sc_l_same.nd
  exact (ts_cons (tS_if (tt_val (te_blt call_isiA cd_isiT rfl T.f_isinstance boot_isinstance (ta_cons (te_v 1) (ta_cons (te_tup (ta_cons (te_bty rfl T.f_list (by decide +kernel)) (ta_cons (te_bty rfl T.f_tuple (by decide +kernel)) ta_nil))) ta_nil)))) (ts_cons (tS_if (tt_cmp (op_neD hr.units) opd_ne (te_blt call_isi cd_isi rfl T.f_isinstance boot_isinstance (ta_cons (te_v 0) (ta_cons (te_bty rfl T.f_list (by decide +kernel)) ta_nil))) (te_blt call_isi cd_isi rfl T.f_isinstance boot_isinstance (ta_cons (te_v 1) (ta_cons (te_bty rfl T.f_list (by decide +kernel)) ta_nil))) (nomark _)) (ts_one (tS_ret te_bl)) ts_nil) (ts_cons (tS_if (tt_cmp (op_neD hr.units) opd_ne (te_blt call_isi cd_isi rfl T.f_isinstance boot_isinstance (ta_cons (te_v 0) (ta_cons (te_bty rfl T.f_tuple (by decide +kernel)) ta_nil))) (te_blt call_isi cd_isi rfl T.f_isinstance boot_isinstance (ta_cons (te_v 1) (ta_cons (te_bty rfl T.f_tuple (by decide +kernel)) ta_nil))) (nomark _)) (ts_one (tS_ret te_bl)) ts_nil) (ts_one (tS_ret (te_and (te_cmp (op_eqD hr.units) opd_eq (te_blt call_len cd_len rfl T.f_len (by decide +kernel) (ta_cons (te_v 0) ta_nil)) (te_blt call_len cd_len rfl T.f_len (by decide +kernel) (ta_cons (te_v 1) ta_nil)) (nomark _)) (te_one (te_blt (cr_all rfl) cd_all rfl T.f_all (by decide +kernel) (ta_cons (by exact te_lc (own := [(("_law_mine" : Str), 2), (("_law_its" : Str), 3)]) rfl nd (by exact (ti_zip rfl T.f_zip (ta_cons (te_v 0) (ta_cons (te_v 1) ta_nil)))) (blkOk_by (N := N_l_same) (sc := defScope s_l_same) (own := [(("_law_mine" : Str), 2), (("_law_its" : Str), 3)]) (by decide +kernel)) (raw_t (raws_cons (raw_n (by decide)) (raws_cons (raw_n (by decide)) raws_nil))) (fun _ _ _ _ _ => by exact (pg_tup rfl (pgs_cons (pg_name (i := 2) nd rfl (Or.inl rfl)) (pgs_cons (pg_name (i := 3) nd rfl (Or.inl rfl)) pgs_nil)))) (fun _ _ _ _ _ => by exact tts_nil) (fun _ _ _ _ _ => by exact (te_c C_R (fun h => dFp_up (lenA_cons (lenA_cons lenA_nil)) h) (hr.mono (by first | decide | omega)) rfl (ta_cons (te_v 2) (ta_cons (te_v 3) ta_nil))))) ta_nil)))))))) ts_nil) (ts_cons (tS_if (PW.pt (tw_or (tt_cmp op_isN opd_isN (te_v 1) te_non (nomark _)) (tw_or1 (tt_val (te_blt call_isiA cd_isiT rfl T.f_isinstance boot_isinstance (ta_cons (te_v 1) (ta_cons (te_tup (ta_cons (te_bty rfl T.f_bool (by decide +kernel)) (ta_cons (te_bty rfl T.f_str (by decide +kernel)) ta_nil))) ta_nil))))))) (ts_one (tS_ret (te_and (te_cmp (op_eqD hr.units) opd_eq (te_v 0) (te_v 1) (nomark _)) (te_and (te_cmp (op_eqD hr.units) opd_eq (te_blt call_isi cd_isi rfl T.f_isinstance boot_isinstance (ta_cons (te_v 0) (ta_cons (te_bty rfl T.f_bool (by decide +kernel)) ta_nil))) (te_blt call_isi cd_isi rfl T.f_isinstance boot_isinstance (ta_cons (te_v 1) (ta_cons (te_bty rfl T.f_bool (by decide +kernel)) ta_nil))) (nomark _)) (te_one (te_cmp (op_eqD hr.units) opd_eq (te_cmp op_isN opd_isN (te_v 0) te_non (nomark _)) (te_cmp op_isN opd_isN (te_v 1) te_non (nomark _)) (nomark _))))))) ts_nil) (ts_one (tS_ret (te_and (te_blt call_isi cd_isi rfl T.f_isinstance boot_isinstance (ta_cons (te_v 0) (ta_cons (te_bty rfl T.f_int (by decide +kernel)) ta_nil))) (te_and (te_not (te_blt call_isi cd_isi rfl T.f_isinstance boot_isinstance (ta_cons (te_v 0) (ta_cons (te_bty rfl T.f_bool (by decide +kernel)) ta_nil)))) (te_one (te_cmp (op_eqD hr.units) opd_eq (te_v 0) (te_v 1) (nomark _)))))))))
/-! ### _law_script -/
def N_l_script : List Str := ["_law_box_here", "_law_others_so", "_law_many_so", "_law_room_so", "_law_row_so", "_law_words_so", "_law_lap", "_law_word_so", "_law_lane_so", "_law_end_so"]
theorem sc_l_script : FnScope N_l_script ["_law_box_here", "_law_others_so", "_law_many_so", "_law_room_so"] (defScope s_l_script) := ⟨rfl, rfl, rfl, by decide +kernel, rfl, by decide +kernel, by decide +kernel⟩
def ds_l_script : En → M Out := (dSeq (dPar 4 5 (dCons (dLstM dNil) (dCons (dLst (dCons (dC (.str "put")) (dCons (dC (.str "get")) (dCons (dC (.str "set")) (dCons (dC (.str "hear")) (dCons (dC (.str "join")) (dCons (dC (.str "cancel")) (dCons (dC (.str "until")) (dCons (dC (.str "give")) (dCons (dC (.str "fail")) (dCons (dC (.str "get")) (dCons (dC (.str "put")) (dCons (dC (.str "in")) dNil))))))))))))) dNil))) (dSeq (dFor (dRng rng1 (dCons (dCall (purL (ii min2)) (dCons (dV 3) (dCons (dF F_l_take (dCons (dV 0) (dCons (d2 (pur2 addO) (dV 2) (dC (.int 2))) dNil))) dNil))) dNil)) (gN 6) (dSeq (dPar 7 8 (dCons (dF F_l_of (dCons (dV 0) (dCons (dV 5) dNil))) (dCons (dF F_l_of (dCons (dV 0) (dCons (dLst (dCons (dC (.str "p")) (dCons (dC (.str "q")) dNil))) dNil))) dNil))) (dSeq (dAsg (dF F_l_of (dCons (dV 0) (dCons (dLst (dCons (dTup dNil) (dCons (dTup dNil) (dCons (dC (.int 1)) (dCons (dC (.int 2)) dNil))))) dNil))) (gN 9)) (dIfS (dTest (d2 (pur2 (inO false)) (dV 7) (dTup (dCons (dC (.str "get")) (dCons (dC (.str "hear")) dNil))))) (dExpr (dMeth appF (dV 4) (dCons (dTup (dCons (dV 7) (dCons (dV 8) (dCons (dV 9) dNil)))) dNil))) (dIfS (dTest (d2 (pur2 (inO false)) (dV 7) (dTup (dCons (dC (.str "put")) (dCons (dC (.str "set")) dNil))))) (dExpr (dMeth appF (dV 4) (dCons (dTup (dCons (dV 7) (dCons (dV 8) dNil))) dNil))) (dIfS (dAndT (dTest (d2 (pur2 (inO false)) (dV 7) (dTup (dCons (dC (.str "join")) (dCons (dC (.str "cancel")) dNil))))) (dTest (d2 (pur2 (eqO true)) (dV 1) (dLst dNil)))) (dExpr (dMeth appF (dV 4) (dCons (d2 (pur2 addO) (dTup (dCons (dV 7) (dCons (dF F_l_of (dCons (dV 0) (dCons (dV 1) dNil))) dNil))) (dIf (dTest (d2 (pur2 (eqO false)) (dV 7) (dC (.str "join")))) (dTup (dCons (dV 9) dNil)) (dTup dNil))) dNil))) (dIfS (dTest (d2 (pur2 (eqO false)) (dV 7) (dC (.str "until")))) (dExpr (dMeth appF (dV 4) (dCons (dTup (dCons (dC (.str "until")) (dCons (dF F_l_take (dCons (dV 0) (dCons (dC (.int 3)) dNil))) dNil))) dNil))) (dIfS (dTest (d2 (pur2 (eqO false)) (dV 7) (dC (.str "fail")))) (dExpr (dMeth appF (dV 4) (dCons (dTup (dCons (dC (.str "fail")) (dCons (dF F_l_of (dCons (dV 0) (dCons (dLst (dCons (dC (.str "v")) (dCons (dC (.str "w")) dNil))) dNil))) dNil))) dNil))) (dIfS (dAndT (dTest (d2 (pur2 (eqO false)) (dV 7) (dC (.str "in")))) (dTest (d2 (pur2 (ordO leI leS)) (d2 (pur2 addO) (dCall (lenP) (dCons (dV 4) dNil)) (dC (.int 3))) (dV 3)))) (dAsg (d2 (catP newL) (dV 4) (dLst (dCons (dTup (dCons (dC (.str "in")) dNil)) (dCons (dTup (dCons (dC (.str "put")) (dCons (dV 8) dNil))) (dCons (dTup (dCons (dC (.str "out")) dNil)) dNil))))) (gN 4)) (dExpr (dMeth appF (dV 4) (dCons (dTup (dCons (dC (.str "give")) dNil)) dNil)))))))))))) (dRet (dCall (listP fun xs => pur (some (.tup xs))) (dCons (dSl (dV 4) dNoP (dP (dV 3))) dNil)))))
def F_l_script : List D → M D := runD N_l_script.length ds_l_script
theorem ok_l_script {P : Program} {w : World} {K : PySem.W.Frag} {mg : Str → Option Value} {base : Heap} {f : Addr} {fd : FuncData} (T : Tx P w K mg) (C_l_take : Cal P w K mg base 1 "_law_take" 2 F_l_take) (C_l_of : Cal P w K mg base 2 "_law_of" 2 F_l_of) (F : FnP K "_law_script" s_l_script f fd) : FnOk P w K mg base CX0 3 f fd ["_law_box_here", "_law_others_so", "_law_many_so", "_law_room_so"] (spF ⟨K, P, w, mg⟩ Xo0 4 F_l_script) := by
  refine fn_tw (k := 2) F sc_l_script fun cdv A outer s H E hr => ?_
  have nd := sc_l_script.nd
  exact (ts_cons (tS_par (i := 4) (j := 5) rfl nd rfl rfl (by decide) rfl rfl (ta_cons (te_lstM ta_nil) (ta_cons (te_lst (ta_cons te_str (ta_cons te_str (ta_cons te_str (ta_cons te_str (ta_cons te_str (ta_cons te_str (ta_cons te_str (ta_cons te_str (ta_cons te_str (ta_cons te_str (ta_cons te_str (ta_cons te_str ta_nil))))))))))))) ta_nil)) rfl) (ts_cons (tS_for PassesOwn.never rfl (ti_rng1 rfl T.f_range (ta_cons (te_blt (call_min2 rfl) cd_ii rfl T.f_min (by decide +kernel) (ta_cons (te_v 3) (ta_cons (te_c C_l_take (fun h => dF_up (lenA_cons (lenA_cons lenA_nil)) h) (hr.mono (by first | decide | omega)) rfl (ta_cons (te_v 0) (ta_cons (te_op op_addA opd_add (te_v 2) te_int) ta_nil))) ta_nil))) ta_nil)) (tg_n (i := 6) nd) (ts_cons (tS_par (i := 7) (j := 8) rfl nd rfl rfl (by decide) rfl rfl (ta_cons (te_c C_l_of (fun h => dF_up (lenA_cons (lenA_cons lenA_nil)) h) (hr.mono (by first | decide | omega)) rfl (ta_cons (te_v 0) (ta_cons (te_v 5) ta_nil))) (ta_cons (te_c C_l_of (fun h => dF_up (lenA_cons (lenA_cons lenA_nil)) h) (hr.mono (by first | decide | omega)) rfl (ta_cons (te_v 0) (ta_cons (te_lst (ta_cons te_str (ta_cons te_str ta_nil))) ta_nil))) ta_nil)) rfl) (ts_cons (tS_asg (te_c C_l_of (fun h => dF_up (lenA_cons (lenA_cons lenA_nil)) h) (hr.mono (by first | decide | omega)) rfl (ta_cons (te_v 0) (ta_cons (te_lst (ta_cons (te_tup ta_nil) (ta_cons (te_tup ta_nil) (ta_cons te_int (ta_cons te_int ta_nil))))) ta_nil))) (tg_n (i := 9) nd)) (ts_one (tS_if (tt_cmp op_in_seq opd_in (te_v 7) (te_tup (ta_cons te_str (ta_cons te_str ta_nil))) (by rfl)) (ts_one (tS_expr (te_lm PySem.F.slot_list_append PySem.F.type_list_append mt_append md_app (te_v 4) (ta_cons (te_tup (ta_cons (te_v 7) (ta_cons (te_v 8) (ta_cons (te_v 9) ta_nil)))) ta_nil)))) (ts_one (tS_if (tt_cmp op_in_seq opd_in (te_v 7) (te_tup (ta_cons te_str (ta_cons te_str ta_nil))) (by rfl)) (ts_one (tS_expr (te_lm PySem.F.slot_list_append PySem.F.type_list_append mt_append md_app (te_v 4) (ta_cons (te_tup (ta_cons (te_v 7) (ta_cons (te_v 8) ta_nil))) ta_nil)))) (ts_one (tS_if (PW.pt (tw_and (tt_cmp op_in_seq opd_in (te_v 7) (te_tup (ta_cons te_str (ta_cons te_str ta_nil))) (by rfl)) (tw_and1 (tt_cmp (op_neD hr.units) opd_ne (te_v 1) (te_lst ta_nil) (nomark _))))) (ts_one (tS_expr (te_lm PySem.F.slot_list_append PySem.F.type_list_append mt_append md_app (te_v 4) (ta_cons (te_op op_addA opd_add (te_tup (ta_cons (te_v 7) (ta_cons (te_c C_l_of (fun h => dF_up (lenA_cons (lenA_cons lenA_nil)) h) (hr.mono (by first | decide | omega)) rfl (ta_cons (te_v 0) (ta_cons (te_v 1) ta_nil))) ta_nil))) (te_if (tt_cmp (op_eqD hr.units) opd_eq (te_v 7) te_str (nomark _)) (te_tup (ta_cons (te_v 9) ta_nil)) (te_tup ta_nil))) ta_nil)))) (ts_one (tS_if (tt_cmp (op_eqD hr.units) opd_eq (te_v 7) te_str (nomark _)) (ts_one (tS_expr (te_lm PySem.F.slot_list_append PySem.F.type_list_append mt_append md_app (te_v 4) (ta_cons (te_tup (ta_cons te_str (ta_cons (te_c C_l_take (fun h => dF_up (lenA_cons (lenA_cons lenA_nil)) h) (hr.mono (by first | decide | omega)) rfl (ta_cons (te_v 0) (ta_cons te_int ta_nil))) ta_nil))) ta_nil)))) (ts_one (tS_if (tt_cmp (op_eqD hr.units) opd_eq (te_v 7) te_str (nomark _)) (ts_one (tS_expr (te_lm PySem.F.slot_list_append PySem.F.type_list_append mt_append md_app (te_v 4) (ta_cons (te_tup (ta_cons te_str (ta_cons (te_c C_l_of (fun h => dF_up (lenA_cons (lenA_cons lenA_nil)) h) (hr.mono (by first | decide | omega)) rfl (ta_cons (te_v 0) (ta_cons (te_lst (ta_cons te_str (ta_cons te_str ta_nil))) ta_nil))) ta_nil))) ta_nil)))) (ts_one (tS_if (PW.pt (tw_and (tt_cmp (op_eqD hr.units) opd_eq (te_v 7) te_str (nomark _)) (tw_and1 (tt_cmp op_leA opd_ord (te_op op_addA opd_add (te_blt call_len cd_len rfl T.f_len (by decide +kernel) (ta_cons (te_v 4) ta_nil)) te_int) (te_v 3) (nomark _))))) (ts_one (tS_asg (te_op op_cat opd_catM (te_v 4) (te_lst (ta_cons (te_tup (ta_cons te_str ta_nil)) (ta_cons (te_tup (ta_cons te_str (ta_cons (te_v 8) ta_nil))) (ta_cons (te_tup (ta_cons te_str ta_nil)) ta_nil))))) (tg_n (i := 4) nd))) (ts_one (tS_expr (te_lm PySem.F.slot_list_append PySem.F.type_list_append mt_append md_app (te_v 4) (ta_cons (te_tup (ta_cons te_str ta_nil)) ta_nil))))))))))))))))))) (ts_one (tS_ret (te_ty call_tuple_of cd_tup rfl T.f_tuple (by decide +kernel) (ta_cons (te_sl (te_v 4) to_none (to_some (te_v 3))) ta_nil))))))
/-! ### _law_house -/
def N_l_house : List Str := ["_law_box_here", "_law_many_so", "_law_steps_so", "_law_tags", "_law_tag", "_law_crowd_so", "_law_begun_so", "_law_room_so", "_law_rows_so", "_law_row_so", "_law_spot_so", "_law_shut_so", "_law_lanes_so", "_law_lane", "_law_own"]
theorem sc_l_house : FnScope N_l_house ["_law_box_here", "_law_many_so", "_law_steps_so"] (defScope s_l_house) := ⟨rfl, rfl, rfl, by decide +kernel, rfl, by decide +kernel, by decide +kernel⟩
def ds_l_house : En → M Out := (dSeq (dAsg (dCall (lP sortF) (dCons (dF F_l_pick (dCons (dV 0) (dCons (dLst (dCons (dC (.str "a")) (dCons (dC (.str "ann")) (dCons (dC (.str "b")) (dCons (dC (.str "cy")) (dCons (dC (.str "zz")) dNil)))))) (dCons (dCall (purL (ii min2)) (dCons (dV 1) (dCons (d2 (pur2 addO) (dC (.int 2)) (dF F_l_take (dCons (dV 0) (dCons (dV 1) dNil)))) dNil))) dNil)))) dNil)) (gN 3)) (dSeq (dAsg (dLc (dItL (dSl (dV 3) (dP (dC (.int 1))) dNoP)) (gN 4) (dTest (d2 (pur2 (eqO false)) (dF F_l_take (dCons (dV 0) (dCons (dC (.int 3)) dNil))) (dC (.int 0)))) (dV 4) [4]) (gN 5)) (dSeq (dAsg (d2 (pur2 addO) (dV 5) (dLc (dItL (dSl (dV 3) (dP (dC (.int 1))) dNoP)) (gN 4) (dAndT (dTest (d2 (pur2 (inO true)) (dV 4) (dV 5))) (dTest (d2 (pur2 (eqO false)) (dF F_l_take (dCons (dV 0) (dCons (dC (.int 4)) dNil))) (dC (.int 0))))) (dV 4) [4])) (gN 6)) (dSeq (dPar 7 8 (dCons (d2 (pur2 divO) (d2 (pur2 subO) (d2 (pur2 subO) (dC (.int 12)) (dCall (lenP) (dCons (dV 6) dNil))) (dCall (pur1 intF) (dCons (d2 (pur2 (eqO true)) (dV 5) (dLst dNil)) dNil))) (dCall (lenP) (dCons (dV 3) dNil))) (dCons (dLstM dNil) dNil))) (dSeq (dFor (dItL (dV 3)) (gN 4) (dSeq (dAsg (dF F_l_script (dCons (dV 0) (dCons (dLc (dItL (dV 3)) (gN 14) (dTest (d2 (pur2 (eqO true)) (dV 14) (dV 4))) (dV 14) [14]) (dCons (dV 2) (dCons (dV 7) dNil))))) (gN 9)) (dSeq (dIfS (dTest (d2 (pur2 (eqO false)) (dV 4) (d2 ixO (dV 3) (dC (.int 0))))) (dSeq (dAsg (d2 (pur2 addO) (dCall (listP fun xs => pur (some (.tup xs))) (dCons (dLc (dItL (dV 6)) (gN 14) dYes (dTup (dCons (dC (.str "start")) (dCons (dV 14) dNil))) [14]) dNil)) (dV 9)) (gN 9)) (dSeq (dAsg (d2 (pur2 addO) (dCall (lenP) (dCons (dV 6) dNil)) (dF F_l_take (dCons (dV 0) (dCons (d2 (pur2 addO) (d2 (pur2 subO) (dCall (lenP) (dCons (dV 9) dNil)) (dCall (lenP) (dCons (dV 6) dNil))) (dC (.int 1))) dNil)))) (gN 10)) (dSeq (dAsg (dIf (dTest (d2 (pur2 (eqO true)) (dV 5) (dLst dNil))) (dTup (dCons (dTup (dCons (dF F_l_of (dCons (dV 0) (dCons (dLst (dCons (dC (.str "close")) (dCons (dC (.str "catch")) dNil))) dNil))) (dCons (dC (.str "g")) dNil))) dNil)) (dTup dNil)) (gN 11)) (dAsg (d2 (pur2 addO) (d2 (pur2 addO) (dSl (dV 9) dNoP (dP (dV 10))) (dV 11)) (dSl (dV 9) (dP (dV 10)) dNoP)) (gN 9))))) dNext) (dExpr (dMeth appF (dV 8) (dCons (dTup (dCons (dV 4) (dCons (dIf (dTest (d2 (pur2 (inO false)) (dV 4) (dV 5))) (dC (.str "g")) (dC (.str ""))) (dCons (dV 9) dNil)))) dNil)))))) (dSeq (dAsg (dCall (listP fun xs => pur (some (.tup xs))) (dCons (dLc (dItL (dLst (dCons (dC (.str "p")) (dCons (dC (.str "q")) dNil)))) (gN 13) (dTest (d2 (pur2 (eqO false)) (dF F_l_take (dCons (dV 0) (dCons (dC (.int 2)) dNil))) (dC (.int 0)))) (dTup (dCons (dV 13) (dCons (d2 (pur2 addO) (dC (.int 1)) (dF F_l_take (dCons (dV 0) (dCons (dC (.int 2)) dNil)))) dNil))) [13]) dNil)) (gN 12)) (dRet (dTup (dCons (dCall (listP fun xs => pur (some (.tup xs))) (dCons (dV 8) dNil)) (dCons (dIf (dTest (d2 (pur2 (eqO true)) (dV 5) (dLst dNil))) (dTpn (dCons (dTup (dCons (dC (.str "g")) (dCons (d2 ixO (dV 3) (dC (.int 0))) dNil))) dNil)) (dTpn dNil)) (dCons (dV 12) dNil)))))))))))
def F_l_house : List D → M D := runD N_l_house.length ds_l_house
theorem ok_l_house {P : Program} {w : World} {K : PySem.W.Frag} {mg : Str → Option Value} {base : Heap} {f : Addr} {fd : FuncData} (T : Tx P w K mg) (C_l_take : Cal P w K mg base 1 "_law_take" 2 F_l_take) (C_l_of : Cal P w K mg base 2 "_law_of" 2 F_l_of) (C_l_pick : Cal P w K mg base 2 "_law_pick" 3 F_l_pick) (C_l_script : Cal P w K mg base 3 "_law_script" 4 F_l_script) (F : FnP K "_law_house" s_l_house f fd) : FnOk P w K mg base CX0 4 f fd ["_law_box_here", "_law_many_so", "_law_steps_so"] (spF ⟨K, P, w, mg⟩ Xo0 3 F_l_house) := by
  refine fn_tw (k := 3) F sc_l_house fun cdv A outer s H E hr => ?_
  have nd := sc_l_house.nd
  exact (ts_cons (tS_asg (te_blt cr_sortedS cd_sortS rfl T.f_sorted (by decide +kernel) (ta_cons (te_c C_l_pick (fun h => dF_up (lenA_cons (lenA_cons (lenA_cons lenA_nil))) h) (hr.mono (by first | decide | omega)) rfl (ta_cons (te_v 0) (ta_cons (te_lst (ta_cons te_str (ta_cons te_str (ta_cons te_str (ta_cons te_str (ta_cons te_str ta_nil)))))) (ta_cons (te_blt (call_min2 rfl) cd_ii rfl T.f_min (by decide +kernel) (ta_cons (te_v 1) (ta_cons (te_op op_addA opd_add te_int (te_c C_l_take (fun h => dF_up (lenA_cons (lenA_cons lenA_nil)) h) (hr.mono (by first | decide | omega)) rfl (ta_cons (te_v 0) (ta_cons (te_v 1) ta_nil)))) ta_nil))) ta_nil)))) ta_nil)) (tg_n (i := 3) nd)) (ts_cons (tS_asg (by exact te_lc (own := [(("_law_tag" : Str), 4)]) rfl nd (by exact (ti_list (te_sl (te_v 3) (to_some te_int) to_none))) (blkOk_by (N := N_l_house) (sc := defScope s_l_house) (own := [(("_law_tag" : Str), 4)]) (by decide +kernel)) (raw_n (by decide)) (fun _ _ _ _ _ => by exact (pg_name (i := 4) nd rfl (Or.inl rfl))) (fun _ _ _ _ _ => by exact (tts_one (tt_cmp (op_eqD hr.units) opd_eq (te_c C_l_take (fun h => dF_up (lenA_cons (lenA_cons lenA_nil)) h) (hr.mono (by first | decide | omega)) rfl (ta_cons (te_v 0) (ta_cons te_int ta_nil))) te_int (nomark _)))) (fun _ _ _ _ _ => by exact (te_v 4))) (tg_n (i := 5) nd)) (ts_cons (tS_asg (te_op op_addA opd_add (te_v 5) (by exact te_lc (own := [(("_law_tag" : Str), 4)]) rfl nd (by exact (ti_list (te_sl (te_v 3) (to_some te_int) to_none))) (blkOk_by (N := N_l_house) (sc := defScope s_l_house) (own := [(("_law_tag" : Str), 4)]) (by decide +kernel)) (raw_n (by decide)) (fun _ _ _ _ _ => by exact (pg_name (i := 4) nd rfl (Or.inl rfl))) (fun _ _ _ _ _ => by exact (tts_one (PW.pt (tw_and (tt_cmp op_notIn_seq opd_in (te_v 4) (te_v 5) (by rfl)) (tw_and1 (tt_cmp (op_eqD hr.units) opd_eq (te_c C_l_take (fun h => dF_up (lenA_cons (lenA_cons lenA_nil)) h) (hr.mono (by first | decide | omega)) rfl (ta_cons (te_v 0) (ta_cons te_int ta_nil))) te_int (nomark _))))))) (fun _ _ _ _ _ => by exact (te_v 4)))) (tg_n (i := 6) nd)) (ts_cons (tS_par (i := 7) (j := 8) rfl nd rfl rfl (by decide) rfl rfl (ta_cons (te_op op_fdiv opd_div (te_op op_sub opd_sub (te_op op_sub opd_sub te_int (te_blt call_len cd_len rfl T.f_len (by decide +kernel) (ta_cons (te_v 6) ta_nil))) (te_ty call_int1 cd_int rfl T.f_int (by decide +kernel) (ta_cons (te_cmp (op_neD hr.units) opd_ne (te_v 5) (te_lst ta_nil) (nomark _)) ta_nil))) (te_blt call_len cd_len rfl T.f_len (by decide +kernel) (ta_cons (te_v 3) ta_nil))) (ta_cons (te_lstM ta_nil) ta_nil)) rfl) (ts_cons (tS_for PassesOwn.never rfl (ti_list (te_v 3)) (tg_n (i := 4) nd) (ts_cons (tS_asg (te_c C_l_script (fun h => dF_up (lenA_cons (lenA_cons (lenA_cons (lenA_cons lenA_nil)))) h) (hr.mono (by first | decide | omega)) rfl (ta_cons (te_v 0) (ta_cons (by exact te_lc (own := [(("_law_own" : Str), 14)]) rfl nd (by exact (ti_list (te_v 3))) (blkOk_by (N := N_l_house) (sc := defScope s_l_house) (own := [(("_law_own" : Str), 14)]) (by decide +kernel)) (raw_n (by decide)) (fun _ _ _ _ _ => by exact (pg_name (i := 14) nd rfl (Or.inl rfl))) (fun _ _ _ _ _ => by exact (tts_one (tt_cmp (op_neD hr.units) opd_ne (te_v 14) (te_v 4) (nomark _)))) (fun _ _ _ _ _ => by exact (te_v 14))) (ta_cons (te_v 2) (ta_cons (te_v 7) ta_nil))))) (tg_n (i := 9) nd)) (ts_cons (tS_if (tt_cmp (op_eqD hr.units) opd_eq (te_v 4) (te_ix ix_seq opd_ix (te_v 3) te_int (fun _ _ => rfl)) (nomark _)) (ts_cons (tS_asg (te_op op_addA opd_add (te_ty call_tuple_of cd_tup rfl T.f_tuple (by decide +kernel) (ta_cons (by exact te_lc (own := [(("_law_own" : Str), 14)]) rfl nd (by exact (ti_list (te_v 6))) (blkOk_by (N := N_l_house) (sc := defScope s_l_house) (own := [(("_law_own" : Str), 14)]) (by decide +kernel)) (raw_n (by decide)) (fun _ _ _ _ _ => by exact (pg_name (i := 14) nd rfl (Or.inl rfl))) (fun _ _ _ _ _ => by exact tts_nil) (fun _ _ _ _ _ => by exact (te_tup (ta_cons te_str (ta_cons (te_v 14) ta_nil))))) ta_nil)) (te_v 9)) (tg_n (i := 9) nd)) (ts_cons (tS_asg (te_op op_addA opd_add (te_blt call_len cd_len rfl T.f_len (by decide +kernel) (ta_cons (te_v 6) ta_nil)) (te_c C_l_take (fun h => dF_up (lenA_cons (lenA_cons lenA_nil)) h) (hr.mono (by first | decide | omega)) rfl (ta_cons (te_v 0) (ta_cons (te_op op_addA opd_add (te_op op_sub opd_sub (te_blt call_len cd_len rfl T.f_len (by decide +kernel) (ta_cons (te_v 9) ta_nil)) (te_blt call_len cd_len rfl T.f_len (by decide +kernel) (ta_cons (te_v 6) ta_nil))) te_int) ta_nil)))) (tg_n (i := 10) nd)) (ts_cons (tS_asg (te_if (tt_cmp (op_neD hr.units) opd_ne (te_v 5) (te_lst ta_nil) (nomark _)) (te_tup (ta_cons (te_tup (ta_cons (te_c C_l_of (fun h => dF_up (lenA_cons (lenA_cons lenA_nil)) h) (hr.mono (by first | decide | omega)) rfl (ta_cons (te_v 0) (ta_cons (te_lst (ta_cons te_str (ta_cons te_str ta_nil))) ta_nil))) (ta_cons te_str ta_nil))) ta_nil)) (te_tup ta_nil)) (tg_n (i := 11) nd)) (ts_one (tS_asg (te_op op_addA opd_add (te_op op_addA opd_add (te_sl (te_v 9) to_none (to_some (te_v 10))) (te_v 11)) (te_sl (te_v 9) (to_some (te_v 10)) to_none)) (tg_n (i := 9) nd)))))) ts_nil) (ts_one (tS_expr (te_lm PySem.F.slot_list_append PySem.F.type_list_append mt_append md_app (te_v 8) (ta_cons (te_tup (ta_cons (te_v 4) (ta_cons (te_if (tt_cmp op_in_seq opd_in (te_v 4) (te_v 5) (by rfl)) te_str te_str) (ta_cons (te_v 9) ta_nil)))) ta_nil))))))) (ts_cons (tS_asg (te_ty call_tuple_of cd_tup rfl T.f_tuple (by decide +kernel) (ta_cons (by exact te_lc (own := [(("_law_lane" : Str), 13)]) rfl nd (by exact (ti_list (te_lst (ta_cons te_str (ta_cons te_str ta_nil))))) (blkOk_by (N := N_l_house) (sc := defScope s_l_house) (own := [(("_law_lane" : Str), 13)]) (by decide +kernel)) (raw_n (by decide)) (fun _ _ _ _ _ => by exact (pg_name (i := 13) nd rfl (Or.inl rfl))) (fun _ _ _ _ _ => by exact (tts_one (tt_cmp (op_eqD hr.units) opd_eq (te_c C_l_take (fun h => dF_up (lenA_cons (lenA_cons lenA_nil)) h) (hr.mono (by first | decide | omega)) rfl (ta_cons (te_v 0) (ta_cons te_int ta_nil))) te_int (nomark _)))) (fun _ _ _ _ _ => by exact (te_tup (ta_cons (te_v 13) (ta_cons (te_op op_addA opd_add te_int (te_c C_l_take (fun h => dF_up (lenA_cons (lenA_cons lenA_nil)) h) (hr.mono (by first | decide | omega)) rfl (ta_cons (te_v 0) (ta_cons te_int ta_nil)))) ta_nil))))) ta_nil)) (tg_n (i := 12) nd)) (ts_one (tS_ret (te_tup (ta_cons (te_ty call_tuple_of cd_tup rfl T.f_tuple (by decide +kernel) (ta_cons (te_v 8) ta_nil)) (ta_cons (te_if (tt_cmp (op_neD hr.units) opd_ne (te_v 5) (te_lst ta_nil) (nomark _)) (te_tpn (ta_cons (te_tup (ta_cons te_str (ta_cons (te_ix ix_seq opd_ix (te_v 3) te_int (fun _ _ => rfl)) ta_nil))) ta_nil)) (te_tpn ta_nil)) (ta_cons (te_v 12) ta_nil))))))))))))
/-! ### _law_houses_right -/
def N_l_houses_right : List Str := ["_law_lone", "_law_deep", "_law_fine", "_law_got", "_law_odd", "_law_row", "_law_ring", "_law_own"]
theorem sc_l_houses_right : FnScope N_l_houses_right [] (defScope s_l_houses_right) := ⟨rfl, rfl, rfl, by decide +kernel, rfl, by decide +kernel, by decide +kernel⟩
def ds_l_houses_right : En → M Out := (dSeq (dAsg (dTup (dCons (dTup (dCons (dC (.str "a")) (dCons (dC (.str "")) (dCons (dTup dNil) dNil)))) (dCons (dTup (dCons (dTup (dCons (dC (.str "a")) (dCons (dC (.str "")) (dCons (dTup (dCons (dTup (dCons (dC (.str "start")) (dCons (dC (.str "b")) dNil))) (dCons (dTup (dCons (dC (.str "close")) (dCons (dC (.str "g")) dNil))) dNil))) dNil)))) (dCons (dTup (dCons (dC (.str "b")) (dCons (dC (.str "g")) (dCons (dTup (dCons (dTup (dCons (dC (.str "start")) (dCons (dC (.str "c")) dNil))) (dCons (dTup (dCons (dC (.str "catch")) (dCons (dC (.str "h")) dNil))) dNil))) dNil)))) dNil))) dNil))) (gT 2 (gsCons (gN 0) (gsCons (gN 1) gsNil)))) (dSeq (dAsg (dLst (dCons (dTup (dCons (dTup (dCons (dV 0) dNil)) (dCons (dTpn dNil) (dCons (dTup dNil) dNil)))) (dCons (dTup (dCons (dTup (dCons (dV 0) (dCons (dTup (dCons (dC (.str "b")) (dCons (dC (.str "")) (dCons (dTup (dCons (dTup (dCons (dC (.str "join")) (dCons (dC (.str "a")) (dCons (dTup dNil) dNil)))) dNil)) dNil)))) dNil))) (dCons (dTpn dNil) (dCons (dTup (dCons (dTup (dCons (dC (.str "p")) (dCons (dC (.int 1)) dNil))) (dCons (dTup (dCons (dC (.str "q")) (dCons (d2 (pur2 powO) (dC (.int 10)) (dC (.int 6))) dNil))) dNil))) dNil)))) dNil))) (gN 2)) (dSeq (dAsg (d2 (catP okL) (dV 2) (dLst (dCons (dTup (dCons (d2 (pur2 addO) (dV 1) (dTup (dCons (dTup (dCons (dC (.str "c")) (dCons (dC (.str "h")) (dCons (dTup dNil) dNil)))) dNil))) (dCons (dTpn (dCons (dTup (dCons (dC (.str "g")) (dCons (dC (.str "a")) dNil))) (dCons (dTup (dCons (dC (.str "h")) (dCons (dC (.str "b")) dNil))) dNil))) (dCons (dTup dNil) dNil)))) dNil))) (gN 2)) (dSeq (dAsg (d2 (catP okL) (dV 2) (dLst (dCons (dTup (dCons (dTup (dCons (dTup (dCons (dC (.str "a")) (dCons (dC (.str "")) (dCons (dTup (dCons (dTup (dCons (dC (.str "close")) (dCons (dC (.str "g")) dNil))) dNil)) dNil)))) dNil)) (dCons (dTpn (dCons (dTup (dCons (dC (.str "g")) (dCons (dC (.str "a")) dNil))) dNil)) (dCons (dTup dNil) dNil)))) dNil))) (gN 2)) (dSeq (dAsg (d2 (catP okL) (dV 2) (dLst (dCons (dTup (dCons (dTup (dCons (dTup (dCons (dC (.str "a")) (dCons (dC (.str "")) (dCons (dTup (dCons (dTup (dCons (dC (.str "cancel")) (dCons (dC (.str "b")) dNil))) (dCons (dTup (dCons (dC (.str "join")) (dCons (dC (.str "b")) (dCons (dC (.int 2)) dNil)))) dNil))) dNil)))) (dCons (dTup (dCons (dC (.str "b")) (dCons (dC (.str "")) (dCons (dTup (dCons (dTup (dCons (dC (.str "cancel")) (dCons (dC (.str "a")) dNil))) dNil)) dNil)))) dNil))) (dCons (dTpn dNil) (dCons (dTup dNil) dNil)))) dNil))) (gN 2)) (dSeq (dAsg (dLc (dItL (dV 2)) (gN 7) (dTest (d2 (pur2 (isBO true)) (dFp F_is_house (dCons (dV 7) dNil)) (dC (.bl true)))) (dV 7) [7]) (gN 3)) (dSeq (dAsg (dLst (dCons (dTup (dCons (dTup dNil) (dCons (dTpn dNil) (dCons (dTup dNil) dNil)))) (dCons (dTup (dCons (dTup (dCons (dV 0) (dCons (dV 0) dNil))) (dCons (dTpn dNil) (dCons (dTup dNil) dNil)))) (dCons (dTup (dCons (dTup (dCons (dTup (dCons (dC (.str "b")) (dCons (dC (.str "")) (dCons (dTup dNil) dNil)))) (dCons (dV 0) dNil))) (dCons (dTpn dNil) (dCons (dTup dNil) dNil)))) (dCons (dTup (dCons (dTup (dCons (dTup (dCons (dC (.str "a")) (dCons (dC (.str "g")) (dCons (dTup dNil) dNil)))) dNil)) (dCons (dTpn dNil) (dCons (dTup dNil) dNil)))) dNil))))) (gN 4)) (dSeq (dAsg (d2 (catP okL) (dV 4) (dLst (dCons (dC .non) (dCons (dC (.int 3)) (dCons (dC (.str "")) dNil))))) (gN 4)) (dSeq (dAsg (d2 (catP okL) (dV 4) (dLst (dCons (dTup (dCons (dTup (dCons (dV 0) dNil)) (dCons (dTpn (dCons (dTup (dCons (dC (.str "g")) (dCons (dC (.str "b")) dNil))) dNil)) (dCons (dTup dNil) dNil)))) (dCons (dTup (dCons (dTup (dCons (dV 0) dNil)) (dCons (dTpn (dCons (dTup (dCons (dC (.str "g")) (dCons (dC (.str "a")) dNil))) dNil)) (dCons (dTup dNil) dNil)))) dNil)))) (gN 4)) (dSeq (dAsg (d2 (catP okL) (dV 4) (dLst (dCons (dTup (dCons (dTup (dCons (dTup (dCons (dC (.str "a")) (dCons (dC (.str "")) (dCons (dTup (dCons (dTup (dCons (dC (.str "close")) (dCons (dC (.str "g")) dNil))) dNil)) dNil)))) dNil)) (dCons (dTpn dNil) (dCons (dTup dNil) dNil)))) dNil))) (gN 4)) (dSeq (dAsg (d2 (catP okL) (dV 4) (dLst (dCons (dTup (dCons (dTup (dCons (dTup (dCons (dC (.str "a")) (dCons (dC (.str "g")) (dCons (dTup (dCons (dTup (dCons (dC (.str "close")) (dCons (dC (.str "g")) dNil))) dNil)) dNil)))) dNil)) (dCons (dTpn (dCons (dTup (dCons (dC (.str "g")) (dCons (dC (.str "a")) dNil))) dNil)) (dCons (dTup dNil) dNil)))) (dCons (dTup (dCons (dTup (dCons (dV 0) dNil)) (dCons (dTpn dNil) (dCons (dTup (dCons (dTup (dCons (dC (.str "q")) (dCons (dC (.int 0)) dNil))) dNil)) dNil)))) dNil)))) (gN 4)) (dSeq (dAsg (d2 (catP okL) (dV 4) (dLst (dCons (dTup (dCons (dTup (dCons (dV 0) dNil)) (dCons (dTpn dNil) (dCons (dTup (dCons (dTup (dCons (dC (.str "q")) (dCons (dC (.bl true)) dNil))) dNil)) dNil)))) dNil))) (gN 4)) (dSeq (dAsg (d2 (catP okL) (dV 4) (dLst (dCons (dTup (dCons (dTup (dCons (dV 0) dNil)) (dCons (dTpn dNil) (dCons (dTup (dCons (dTup (dCons (dC (.str "q")) (dCons (dC (.int 1)) dNil))) (dCons (dTup (dCons (dC (.str "q")) (dCons (dC (.int 2)) dNil))) dNil))) dNil)))) (dCons (dTup (dCons (dTup (dCons (dV 0) dNil)) (dCons (dTpn dNil) (dCons (dTup (dCons (dTup (dCons (dC (.str "q")) (dCons (dC (.int 1)) dNil))) (dCons (dTup (dCons (dC (.str "p")) (dCons (dC (.int 1)) dNil))) dNil))) dNil)))) dNil)))) (gN 4)) (dSeq (dAsg (d2 (catP okL) (dV 4) (dLst (dCons (dLst (dCons (dTup (dCons (dV 0) dNil)) (dCons (dTup dNil) (dCons (dTup dNil) dNil)))) (dCons (dTup (dCons (dTup (dCons (dV 0) dNil)) (dCons (dTup dNil) dNil))) dNil)))) (gN 4)) (dSeq (dAsg (d2 (catP okL) (dV 4) (dLst (dCons (dTup (dCons (dLst (dCons (dV 0) dNil)) (dCons (dTpn dNil) (dCons (dTup dNil) dNil)))) (dCons (dTup (dCons (dTup (dCons (dLst (dCons (dC (.str "a")) (dCons (dC (.str "")) (dCons (dTup dNil) dNil)))) dNil)) (dCons (dTpn dNil) (dCons (dTup dNil) dNil)))) dNil)))) (gN 4)) (dSeq (dAsg (d2 (catP okL) (dV 4) (dLst (dCons (dTup (dCons (dTup (dCons (dTup (dCons (dC (.str "a")) (dCons (dC (.str "")) (dCons (dLst (dCons (dTup (dCons (dC (.str "give")) dNil)) dNil)) dNil)))) dNil)) (dCons (dTpn dNil) (dCons (dTup dNil) dNil)))) (dCons (dTup (dCons (dTup (dCons (dTup (dCons (dC (.str "a")) (dCons (dC .non) (dCons (dTup dNil) dNil)))) dNil)) (dCons (dTpn dNil) (dCons (dTup dNil) dNil)))) dNil)))) (gN 4)) (dSeq (dAsg (d2 (catP okL) (dV 4) (dLst (dCons (dTup (dCons (dTup (dCons (dTup (dCons (dC (.str "A")) (dCons (dC (.str "")) (dCons (dTup dNil) dNil)))) dNil)) (dCons (dTpn dNil) (dCons (dTup dNil) dNil)))) (dCons (dTup (dCons (dTup (dCons (dTup (dCons (dC (.str "a")) (dCons (dC (.str "")) (dCons (dTup (dCons (dTup (dCons (dC (.str "in")) dNil)) dNil)) dNil)))) dNil)) (dCons (dTpn dNil) (dCons (dTup dNil) dNil)))) dNil)))) (gN 4)) (dSeq (dAsg (d2 (catP newL) (dV 4) (dLst (dCons (dTup (dCons (dTup (dCons (dV 0) dNil)) (dCons (dLst dNil) (dCons (dTup dNil) dNil)))) (dCons (dTup (dCons (dTup (dCons (dV 0) dNil)) (dCons (dTpn dNil) (dCons (dTup (dCons (dLst (dCons (dC (.str "q")) (dCons (dC (.int 1)) dNil))) dNil)) dNil)))) dNil)))) (gN 4)) (dSeq (dFor (dItL (dLst (dCons (dTup (dCons (dTup (dCons (dC (.str "join")) (dCons (dC (.str "a")) (dCons (dTup dNil) dNil)))) dNil)) (dCons (dTup (dCons (dTup (dCons (dC (.str "join")) (dCons (dC (.str "b")) (dCons (dTup dNil) dNil)))) dNil)) (dCons (dTup (dCons (dTup (dCons (dC (.str "start")) (dCons (dC (.str "a")) dNil))) dNil)) (dCons (dTup (dCons (dTup (dCons (dC (.str "cancel")) (dCons (dC (.str "a")) dNil))) dNil)) (dCons (dTup (dCons (dTup (dCons (dC (.str "cancel")) (dCons (dC (.str "c")) dNil))) dNil)) dNil))))))) (gN 5) (dExpr (dMeth appF (dV 4) (dCons (dTup (dCons (dTup (dCons (dTup (dCons (dC (.str "a")) (dCons (dC (.str "")) (dCons (dV 5) dNil)))) dNil)) (dCons (dTpn dNil) (dCons (dTup dNil) dNil)))) dNil)))) (dSeq (dFor (dItL (dLst (dCons (dTup (dCons (dTup (dCons (dC (.str "close")) (dCons (dC (.str "g")) dNil))) (dCons (dTup (dCons (dC (.str "start")) (dCons (dC (.str "b")) dNil))) dNil))) (dCons (dTup (dCons (dTup (dCons (dC (.str "start")) (dCons (dC (.str "b")) dNil))) dNil)) (dCons (dTup (dCons (dTup (dCons (dC (.str "start")) (dCons (dC (.str "b")) dNil))) (dCons (dTup (dCons (dC (.str "close")) (dCons (dC (.str "g")) dNil))) (dCons (dTup (dCons (dC (.str "catch")) (dCons (dC (.str "g")) dNil))) dNil)))) (dCons (dTup dNil) dNil)))))) (gN 5) (dExpr (dMeth appF (dV 4) (dCons (dTup (dCons (dTup (dCons (dTup (dCons (dC (.str "a")) (dCons (dC (.str "")) (dCons (dV 5) dNil)))) (dCons (dTup (dCons (dC (.str "b")) (dCons (dC (.str "g")) (dCons (dTup dNil) dNil)))) dNil))) (dCons (dTpn (dCons (dTup (dCons (dC (.str "g")) (dCons (dC (.str "a")) dNil))) dNil)) (dCons (dTup dNil) dNil)))) dNil)))) (dSeq (dExpr (dMeth appF (dV 4) (dCons (dTup (dCons (dTup (dCons (dTup (dCons (dC (.str "a")) (dCons (dC (.str "")) (dCons (dTup (dCons (dTup (dCons (dC (.str "close")) (dCons (dC (.str "g")) dNil))) dNil)) dNil)))) (dCons (dTup (dCons (dC (.str "b")) (dCons (dC (.str "g")) (dCons (dTup dNil) dNil)))) (dCons (dTup (dCons (dC (.str "c")) (dCons (dC (.str "")) (dCons (dTup (dCons (dTup (dCons (dC (.str "start")) (dCons (dC (.str "b")) dNil))) dNil)) dNil)))) dNil)))) (dCons (dTpn (dCons (dTup (dCons (dC (.str "g")) (dCons (dC (.str "a")) dNil))) dNil)) (dCons (dTup dNil) dNil)))) dNil))) (dSeq (dExpr (dMeth appF (dV 4) (dCons (dTup (dCons (dTup (dCons (dTup (dCons (dC (.str "a")) (dCons (dC (.str "")) (dCons (dTup dNil) dNil)))) (dCons (dTup (dCons (dC (.str "b")) (dCons (dC (.str "g")) (dCons (dTup (dCons (dTup (dCons (dC (.str "close")) (dCons (dC (.str "g")) dNil))) dNil)) dNil)))) (dCons (dTup (dCons (dC (.str "c")) (dCons (dC (.str "")) (dCons (dTup (dCons (dTup (dCons (dC (.str "start")) (dCons (dC (.str "b")) dNil))) dNil)) dNil)))) dNil)))) (dCons (dTpn (dCons (dTup (dCons (dC (.str "g")) (dCons (dC (.str "a")) dNil))) dNil)) (dCons (dTup dNil) dNil)))) dNil))) (dSeq (dExpr (dMeth appF (dV 4) (dCons (dTup (dCons (dTup (dCons (dTup (dCons (dC (.str "a")) (dCons (dC (.str "")) (dCons (dTup (dCons (dTup (dCons (dC (.str "start")) (dCons (dC (.str "b")) dNil))) dNil)) dNil)))) (dCons (dTup (dCons (dC (.str "b")) (dCons (dC (.str "")) (dCons (dTup (dCons (dTup (dCons (dC (.str "start")) (dCons (dC (.str "a")) dNil))) dNil)) dNil)))) dNil))) (dCons (dTpn dNil) (dCons (dTup dNil) dNil)))) dNil))) (dSeq (dExpr (dMeth appF (dV 4) (dCons (dTup (dCons (dTup (dCons (dTup (dCons (dC (.str "a")) (dCons (dC (.str "")) (dCons (dTup (dCons (dTup (dCons (dC (.str "start")) (dCons (dC (.str "c")) dNil))) dNil)) dNil)))) (dCons (dTup (dCons (dC (.str "b")) (dCons (dC (.str "")) (dCons (dTup (dCons (dTup (dCons (dC (.str "start")) (dCons (dC (.str "c")) dNil))) dNil)) dNil)))) (dCons (dTup (dCons (dC (.str "c")) (dCons (dC (.str "")) (dCons (dTup dNil) dNil)))) dNil)))) (dCons (dTpn dNil) (dCons (dTup dNil) dNil)))) dNil))) (dSeq (dAsg (dTup (dCons (dTup (dCons (dC (.str "a")) (dCons (dC (.str "h")) (dCons (dTup (dCons (dTup (dCons (dC (.str "start")) (dCons (dC (.str "b")) dNil))) (dCons (dTup (dCons (dC (.str "close")) (dCons (dC (.str "g")) dNil))) dNil))) dNil)))) (dCons (dTup (dCons (dC (.str "b")) (dCons (dC (.str "g")) (dCons (dTup (dCons (dTup (dCons (dC (.str "start")) (dCons (dC (.str "a")) dNil))) (dCons (dTup (dCons (dC (.str "close")) (dCons (dC (.str "h")) dNil))) dNil))) dNil)))) dNil))) (gN 6)) (dSeq (dExpr (dMeth appF (dV 4) (dCons (dTup (dCons (dV 6) (dCons (dTpn (dCons (dTup (dCons (dC (.str "g")) (dCons (dC (.str "a")) dNil))) (dCons (dTup (dCons (dC (.str "h")) (dCons (dC (.str "b")) dNil))) dNil))) (dCons (dTup dNil) dNil)))) dNil))) (sFrz 4 (dRet (dAnd (d2 (pur2 (eqO false)) (dV 3) (dLst dNil)) (d2 (pur2 (eqO false)) (dLc (dItL (dV 4)) (gN 7) (dTest (d2 (pur2 (isBO true)) (dFp F_is_house (dCons (dV 7) dNil)) (dC (.bl false)))) (dV 7) [7]) (dLst dNil)))))))))))))))))))))))))))))))
def F_l_houses_right : List D → M D := runD N_l_houses_right.length ds_l_houses_right
theorem ok_l_houses_right {P : Program} {w : World} {K : PySem.W.Frag} {mg : Str → Option Value} {base : Heap} {f : Addr} {fd : FuncData} (T : Tx P w K mg) (C_is_house : Cal P w K mg base 5 "is_house" 1 F_is_house) (F : FnP K "_law_houses_right" s_l_houses_right f fd) : FnOk P w K mg base CX0 6 f fd [] (spF ⟨K, P, w, mg⟩ Xo0 0 F_l_houses_right) := by
  refine fn_tw (k := 5) F sc_l_houses_right fun cdv A outer s H E hr => ?_
  have nd := sc_l_houses_right.nd
  exact (ts_cons (tS_asg (te_tup (ta_cons (te_tup (ta_cons te_str (ta_cons te_str (ta_cons (te_tup ta_nil) ta_nil)))) (ta_cons (te_tup (ta_cons (te_tup (ta_cons te_str (ta_cons te_str (ta_cons (te_tup (ta_cons (te_tup (ta_cons te_str (ta_cons te_str ta_nil))) (ta_cons (te_tup (ta_cons te_str (ta_cons te_str ta_nil))) ta_nil))) ta_nil)))) (ta_cons (te_tup (ta_cons te_str (ta_cons te_str (ta_cons (te_tup (ta_cons (te_tup (ta_cons te_str (ta_cons te_str ta_nil))) (ta_cons (te_tup (ta_cons te_str (ta_cons te_str ta_nil))) ta_nil))) ta_nil)))) ta_nil))) ta_nil))) (tg_t rfl (tgs_cons (tg_n (i := 0) nd) (tgs_cons (tg_n (i := 1) nd) tgs_nil)))) (ts_cons (tS_asg (te_lst (ta_cons (te_tup (ta_cons (te_tup (ta_cons (te_v 0) ta_nil)) (ta_cons (te_tpn ta_nil) (ta_cons (te_tup ta_nil) ta_nil)))) (ta_cons (te_tup (ta_cons (te_tup (ta_cons (te_v 0) (ta_cons (te_tup (ta_cons te_str (ta_cons te_str (ta_cons (te_tup (ta_cons (te_tup (ta_cons te_str (ta_cons te_str (ta_cons (te_tup ta_nil) ta_nil)))) ta_nil)) ta_nil)))) ta_nil))) (ta_cons (te_tpn ta_nil) (ta_cons (te_tup (ta_cons (te_tup (ta_cons te_str (ta_cons te_int ta_nil))) (ta_cons (te_tup (ta_cons te_str (ta_cons (te_op op_pow opd_pow te_int te_int) ta_nil))) ta_nil))) ta_nil)))) ta_nil))) (tg_n (i := 2) nd)) (ts_cons (tS_asg (te_op op_cat opd_cat (te_v 2) (te_lst (ta_cons (te_tup (ta_cons (te_op op_addA opd_add (te_v 1) (te_tup (ta_cons (te_tup (ta_cons te_str (ta_cons te_str (ta_cons (te_tup ta_nil) ta_nil)))) ta_nil))) (ta_cons (te_tpn (ta_cons (te_tup (ta_cons te_str (ta_cons te_str ta_nil))) (ta_cons (te_tup (ta_cons te_str (ta_cons te_str ta_nil))) ta_nil))) (ta_cons (te_tup ta_nil) ta_nil)))) ta_nil))) (tg_n (i := 2) nd)) (ts_cons (tS_asg (te_op op_cat opd_cat (te_v 2) (te_lst (ta_cons (te_tup (ta_cons (te_tup (ta_cons (te_tup (ta_cons te_str (ta_cons te_str (ta_cons (te_tup (ta_cons (te_tup (ta_cons te_str (ta_cons te_str ta_nil))) ta_nil)) ta_nil)))) ta_nil)) (ta_cons (te_tpn (ta_cons (te_tup (ta_cons te_str (ta_cons te_str ta_nil))) ta_nil)) (ta_cons (te_tup ta_nil) ta_nil)))) ta_nil))) (tg_n (i := 2) nd)) (ts_cons (tS_asg (te_op op_cat opd_cat (te_v 2) (te_lst (ta_cons (te_tup (ta_cons (te_tup (ta_cons (te_tup (ta_cons te_str (ta_cons te_str (ta_cons (te_tup (ta_cons (te_tup (ta_cons te_str (ta_cons te_str ta_nil))) (ta_cons (te_tup (ta_cons te_str (ta_cons te_str (ta_cons te_int ta_nil)))) ta_nil))) ta_nil)))) (ta_cons (te_tup (ta_cons te_str (ta_cons te_str (ta_cons (te_tup (ta_cons (te_tup (ta_cons te_str (ta_cons te_str ta_nil))) ta_nil)) ta_nil)))) ta_nil))) (ta_cons (te_tpn ta_nil) (ta_cons (te_tup ta_nil) ta_nil)))) ta_nil))) (tg_n (i := 2) nd)) (ts_cons (tS_setLc (own := [(("_law_own" : Str), 7)]) (i := 3) rfl nd rfl rfl (sw_true rfl rfl rfl (by decide +kernel)) (by exact (ti_list (te_v 2))) (blkOk_by (N := N_l_houses_right) (sc := defScope s_l_houses_right) (own := [(("_law_own" : Str), 7)]) (by decide +kernel)) (raw_n (by decide)) (fun _ _ _ _ _ => by exact (pg_name (i := 7) nd rfl (Or.inl rfl))) (fun _ _ _ _ _ => by exact (tts_one (tt_cmp op_notB opd_notB (te_c C_is_house (fun h => dFp_up (lenA_cons lenA_nil) h) (hr.mono (by first | decide | omega)) rfl (ta_cons (te_v 7) ta_nil)) te_bl (nomark _)))) (fun _ _ _ _ _ => by exact (te_v 7))) (ts_cons (tS_asg (te_lst (ta_cons (te_tup (ta_cons (te_tup ta_nil) (ta_cons (te_tpn ta_nil) (ta_cons (te_tup ta_nil) ta_nil)))) (ta_cons (te_tup (ta_cons (te_tup (ta_cons (te_v 0) (ta_cons (te_v 0) ta_nil))) (ta_cons (te_tpn ta_nil) (ta_cons (te_tup ta_nil) ta_nil)))) (ta_cons (te_tup (ta_cons (te_tup (ta_cons (te_tup (ta_cons te_str (ta_cons te_str (ta_cons (te_tup ta_nil) ta_nil)))) (ta_cons (te_v 0) ta_nil))) (ta_cons (te_tpn ta_nil) (ta_cons (te_tup ta_nil) ta_nil)))) (ta_cons (te_tup (ta_cons (te_tup (ta_cons (te_tup (ta_cons te_str (ta_cons te_str (ta_cons (te_tup ta_nil) ta_nil)))) ta_nil)) (ta_cons (te_tpn ta_nil) (ta_cons (te_tup ta_nil) ta_nil)))) ta_nil))))) (tg_n (i := 4) nd)) (ts_cons (tS_asg (te_op op_cat opd_cat (te_v 4) (te_lst (ta_cons te_non (ta_cons te_int (ta_cons te_str ta_nil))))) (tg_n (i := 4) nd)) (ts_cons (tS_asg (te_op op_cat opd_cat (te_v 4) (te_lst (ta_cons (te_tup (ta_cons (te_tup (ta_cons (te_v 0) ta_nil)) (ta_cons (te_tpn (ta_cons (te_tup (ta_cons te_str (ta_cons te_str ta_nil))) ta_nil)) (ta_cons (te_tup ta_nil) ta_nil)))) (ta_cons (te_tup (ta_cons (te_tup (ta_cons (te_v 0) ta_nil)) (ta_cons (te_tpn (ta_cons (te_tup (ta_cons te_str (ta_cons te_str ta_nil))) ta_nil)) (ta_cons (te_tup ta_nil) ta_nil)))) ta_nil)))) (tg_n (i := 4) nd)) (ts_cons (tS_asg (te_op op_cat opd_cat (te_v 4) (te_lst (ta_cons (te_tup (ta_cons (te_tup (ta_cons (te_tup (ta_cons te_str (ta_cons te_str (ta_cons (te_tup (ta_cons (te_tup (ta_cons te_str (ta_cons te_str ta_nil))) ta_nil)) ta_nil)))) ta_nil)) (ta_cons (te_tpn ta_nil) (ta_cons (te_tup ta_nil) ta_nil)))) ta_nil))) (tg_n (i := 4) nd)) (ts_cons (tS_asg (te_op op_cat opd_cat (te_v 4) (te_lst (ta_cons (te_tup (ta_cons (te_tup (ta_cons (te_tup (ta_cons te_str (ta_cons te_str (ta_cons (te_tup (ta_cons (te_tup (ta_cons te_str (ta_cons te_str ta_nil))) ta_nil)) ta_nil)))) ta_nil)) (ta_cons (te_tpn (ta_cons (te_tup (ta_cons te_str (ta_cons te_str ta_nil))) ta_nil)) (ta_cons (te_tup ta_nil) ta_nil)))) (ta_cons (te_tup (ta_cons (te_tup (ta_cons (te_v 0) ta_nil)) (ta_cons (te_tpn ta_nil) (ta_cons (te_tup (ta_cons (te_tup (ta_cons te_str (ta_cons te_int ta_nil))) ta_nil)) ta_nil)))) ta_nil)))) (tg_n (i := 4) nd)) (ts_cons (tS_asg (te_op op_cat opd_cat (te_v 4) (te_lst (ta_cons (te_tup (ta_cons (te_tup (ta_cons (te_v 0) ta_nil)) (ta_cons (te_tpn ta_nil) (ta_cons (te_tup (ta_cons (te_tup (ta_cons te_str (ta_cons te_bl ta_nil))) ta_nil)) ta_nil)))) ta_nil))) (tg_n (i := 4) nd)) (ts_cons (tS_asg (te_op op_cat opd_cat (te_v 4) (te_lst (ta_cons (te_tup (ta_cons (te_tup (ta_cons (te_v 0) ta_nil)) (ta_cons (te_tpn ta_nil) (ta_cons (te_tup (ta_cons (te_tup (ta_cons te_str (ta_cons te_int ta_nil))) (ta_cons (te_tup (ta_cons te_str (ta_cons te_int ta_nil))) ta_nil))) ta_nil)))) (ta_cons (te_tup (ta_cons (te_tup (ta_cons (te_v 0) ta_nil)) (ta_cons (te_tpn ta_nil) (ta_cons (te_tup (ta_cons (te_tup (ta_cons te_str (ta_cons te_int ta_nil))) (ta_cons (te_tup (ta_cons te_str (ta_cons te_int ta_nil))) ta_nil))) ta_nil)))) ta_nil)))) (tg_n (i := 4) nd)) (ts_cons (tS_asg (te_op op_cat opd_cat (te_v 4) (te_lst (ta_cons (te_lst (ta_cons (te_tup (ta_cons (te_v 0) ta_nil)) (ta_cons (te_tup ta_nil) (ta_cons (te_tup ta_nil) ta_nil)))) (ta_cons (te_tup (ta_cons (te_tup (ta_cons (te_v 0) ta_nil)) (ta_cons (te_tup ta_nil) ta_nil))) ta_nil)))) (tg_n (i := 4) nd)) (ts_cons (tS_asg (te_op op_cat opd_cat (te_v 4) (te_lst (ta_cons (te_tup (ta_cons (te_lst (ta_cons (te_v 0) ta_nil)) (ta_cons (te_tpn ta_nil) (ta_cons (te_tup ta_nil) ta_nil)))) (ta_cons (te_tup (ta_cons (te_tup (ta_cons (te_lst (ta_cons te_str (ta_cons te_str (ta_cons (te_tup ta_nil) ta_nil)))) ta_nil)) (ta_cons (te_tpn ta_nil) (ta_cons (te_tup ta_nil) ta_nil)))) ta_nil)))) (tg_n (i := 4) nd)) (ts_cons (tS_asg (te_op op_cat opd_cat (te_v 4) (te_lst (ta_cons (te_tup (ta_cons (te_tup (ta_cons (te_tup (ta_cons te_str (ta_cons te_str (ta_cons (te_lst (ta_cons (te_tup (ta_cons te_str ta_nil)) ta_nil)) ta_nil)))) ta_nil)) (ta_cons (te_tpn ta_nil) (ta_cons (te_tup ta_nil) ta_nil)))) (ta_cons (te_tup (ta_cons (te_tup (ta_cons (te_tup (ta_cons te_str (ta_cons te_non (ta_cons (te_tup ta_nil) ta_nil)))) ta_nil)) (ta_cons (te_tpn ta_nil) (ta_cons (te_tup ta_nil) ta_nil)))) ta_nil)))) (tg_n (i := 4) nd)) (ts_cons (tS_asg (te_op op_cat opd_cat (te_v 4) (te_lst (ta_cons (te_tup (ta_cons (te_tup (ta_cons (te_tup (ta_cons te_str (ta_cons te_str (ta_cons (te_tup ta_nil) ta_nil)))) ta_nil)) (ta_cons (te_tpn ta_nil) (ta_cons (te_tup ta_nil) ta_nil)))) (ta_cons (te_tup (ta_cons (te_tup (ta_cons (te_tup (ta_cons te_str (ta_cons te_str (ta_cons (te_tup (ta_cons (te_tup (ta_cons te_str ta_nil)) ta_nil)) ta_nil)))) ta_nil)) (ta_cons (te_tpn ta_nil) (ta_cons (te_tup ta_nil) ta_nil)))) ta_nil)))) (tg_n (i := 4) nd)) (ts_cons (tS_asg (te_op op_cat opd_catM (te_v 4) (te_lst (ta_cons (te_tup (ta_cons (te_tup (ta_cons (te_v 0) ta_nil)) (ta_cons (te_lst ta_nil) (ta_cons (te_tup ta_nil) ta_nil)))) (ta_cons (te_tup (ta_cons (te_tup (ta_cons (te_v 0) ta_nil)) (ta_cons (te_tpn ta_nil) (ta_cons (te_tup (ta_cons (te_lst (ta_cons te_str (ta_cons te_int ta_nil))) ta_nil)) ta_nil)))) ta_nil)))) (tg_n (i := 4) nd)) (ts_cons (tS_for PassesOwn.never rfl (ti_list (te_lst (ta_cons (te_tup (ta_cons (te_tup (ta_cons te_str (ta_cons te_str (ta_cons (te_tup ta_nil) ta_nil)))) ta_nil)) (ta_cons (te_tup (ta_cons (te_tup (ta_cons te_str (ta_cons te_str (ta_cons (te_tup ta_nil) ta_nil)))) ta_nil)) (ta_cons (te_tup (ta_cons (te_tup (ta_cons te_str (ta_cons te_str ta_nil))) ta_nil)) (ta_cons (te_tup (ta_cons (te_tup (ta_cons te_str (ta_cons te_str ta_nil))) ta_nil)) (ta_cons (te_tup (ta_cons (te_tup (ta_cons te_str (ta_cons te_str ta_nil))) ta_nil)) ta_nil))))))) (tg_n (i := 5) nd) (ts_one (tS_expr (te_lm PySem.F.slot_list_append PySem.F.type_list_append mt_append md_app (te_v 4) (ta_cons (te_tup (ta_cons (te_tup (ta_cons (te_tup (ta_cons te_str (ta_cons te_str (ta_cons (te_v 5) ta_nil)))) ta_nil)) (ta_cons (te_tpn ta_nil) (ta_cons (te_tup ta_nil) ta_nil)))) ta_nil))))) (ts_cons (tS_for PassesOwn.never rfl (ti_list (te_lst (ta_cons (te_tup (ta_cons (te_tup (ta_cons te_str (ta_cons te_str ta_nil))) (ta_cons (te_tup (ta_cons te_str (ta_cons te_str ta_nil))) ta_nil))) (ta_cons (te_tup (ta_cons (te_tup (ta_cons te_str (ta_cons te_str ta_nil))) ta_nil)) (ta_cons (te_tup (ta_cons (te_tup (ta_cons te_str (ta_cons te_str ta_nil))) (ta_cons (te_tup (ta_cons te_str (ta_cons te_str ta_nil))) (ta_cons (te_tup (ta_cons te_str (ta_cons te_str ta_nil))) ta_nil)))) (ta_cons (te_tup ta_nil) ta_nil)))))) (tg_n (i := 5) nd) (ts_one (tS_expr (te_lm PySem.F.slot_list_append PySem.F.type_list_append mt_append md_app (te_v 4) (ta_cons (te_tup (ta_cons (te_tup (ta_cons (te_tup (ta_cons te_str (ta_cons te_str (ta_cons (te_v 5) ta_nil)))) (ta_cons (te_tup (ta_cons te_str (ta_cons te_str (ta_cons (te_tup ta_nil) ta_nil)))) ta_nil))) (ta_cons (te_tpn (ta_cons (te_tup (ta_cons te_str (ta_cons te_str ta_nil))) ta_nil)) (ta_cons (te_tup ta_nil) ta_nil)))) ta_nil))))) (ts_cons (tS_expr (te_lm PySem.F.slot_list_append PySem.F.type_list_append mt_append md_app (te_v 4) (ta_cons (te_tup (ta_cons (te_tup (ta_cons (te_tup (ta_cons te_str (ta_cons te_str (ta_cons (te_tup (ta_cons (te_tup (ta_cons te_str (ta_cons te_str ta_nil))) ta_nil)) ta_nil)))) (ta_cons (te_tup (ta_cons te_str (ta_cons te_str (ta_cons (te_tup ta_nil) ta_nil)))) (ta_cons (te_tup (ta_cons te_str (ta_cons te_str (ta_cons (te_tup (ta_cons (te_tup (ta_cons te_str (ta_cons te_str ta_nil))) ta_nil)) ta_nil)))) ta_nil)))) (ta_cons (te_tpn (ta_cons (te_tup (ta_cons te_str (ta_cons te_str ta_nil))) ta_nil)) (ta_cons (te_tup ta_nil) ta_nil)))) ta_nil))) (ts_cons (tS_expr (te_lm PySem.F.slot_list_append PySem.F.type_list_append mt_append md_app (te_v 4) (ta_cons (te_tup (ta_cons (te_tup (ta_cons (te_tup (ta_cons te_str (ta_cons te_str (ta_cons (te_tup ta_nil) ta_nil)))) (ta_cons (te_tup (ta_cons te_str (ta_cons te_str (ta_cons (te_tup (ta_cons (te_tup (ta_cons te_str (ta_cons te_str ta_nil))) ta_nil)) ta_nil)))) (ta_cons (te_tup (ta_cons te_str (ta_cons te_str (ta_cons (te_tup (ta_cons (te_tup (ta_cons te_str (ta_cons te_str ta_nil))) ta_nil)) ta_nil)))) ta_nil)))) (ta_cons (te_tpn (ta_cons (te_tup (ta_cons te_str (ta_cons te_str ta_nil))) ta_nil)) (ta_cons (te_tup ta_nil) ta_nil)))) ta_nil))) (ts_cons (tS_expr (te_lm PySem.F.slot_list_append PySem.F.type_list_append mt_append md_app (te_v 4) (ta_cons (te_tup (ta_cons (te_tup (ta_cons (te_tup (ta_cons te_str (ta_cons te_str (ta_cons (te_tup (ta_cons (te_tup (ta_cons te_str (ta_cons te_str ta_nil))) ta_nil)) ta_nil)))) (ta_cons (te_tup (ta_cons te_str (ta_cons te_str (ta_cons (te_tup (ta_cons (te_tup (ta_cons te_str (ta_cons te_str ta_nil))) ta_nil)) ta_nil)))) ta_nil))) (ta_cons (te_tpn ta_nil) (ta_cons (te_tup ta_nil) ta_nil)))) ta_nil))) (ts_cons (tS_expr (te_lm PySem.F.slot_list_append PySem.F.type_list_append mt_append md_app (te_v 4) (ta_cons (te_tup (ta_cons (te_tup (ta_cons (te_tup (ta_cons te_str (ta_cons te_str (ta_cons (te_tup (ta_cons (te_tup (ta_cons te_str (ta_cons te_str ta_nil))) ta_nil)) ta_nil)))) (ta_cons (te_tup (ta_cons te_str (ta_cons te_str (ta_cons (te_tup (ta_cons (te_tup (ta_cons te_str (ta_cons te_str ta_nil))) ta_nil)) ta_nil)))) (ta_cons (te_tup (ta_cons te_str (ta_cons te_str (ta_cons (te_tup ta_nil) ta_nil)))) ta_nil)))) (ta_cons (te_tpn ta_nil) (ta_cons (te_tup ta_nil) ta_nil)))) ta_nil))) (ts_cons (tS_asg (te_tup (ta_cons (te_tup (ta_cons te_str (ta_cons te_str (ta_cons (te_tup (ta_cons (te_tup (ta_cons te_str (ta_cons te_str ta_nil))) (ta_cons (te_tup (ta_cons te_str (ta_cons te_str ta_nil))) ta_nil))) ta_nil)))) (ta_cons (te_tup (ta_cons te_str (ta_cons te_str (ta_cons (te_tup (ta_cons (te_tup (ta_cons te_str (ta_cons te_str ta_nil))) (ta_cons (te_tup (ta_cons te_str (ta_cons te_str ta_nil))) ta_nil))) ta_nil)))) ta_nil))) (tg_n (i := 6) nd)) (ts_cons (tS_expr (te_lm PySem.F.slot_list_append PySem.F.type_list_append mt_append md_app (te_v 4) (ta_cons (te_tup (ta_cons (te_v 6) (ta_cons (te_tpn (ta_cons (te_tup (ta_cons te_str (ta_cons te_str ta_nil))) (ta_cons (te_tup (ta_cons te_str (ta_cons te_str ta_nil))) ta_nil))) (ta_cons (te_tup ta_nil) ta_nil)))) ta_nil))) (ts_frz 4 (ts_one (tS_ret (te_and (te_cmp (op_eqD hr.units) opd_eq (te_v 3) (te_lst ta_nil) (nomark _)) (te_one (te_cmp (op_eqD hr.units) opd_eq (by exact te_lc (own := [(("_law_own" : Str), 7)]) rfl nd (by exact (ti_list (te_v 4))) (blkOk_by (N := N_l_houses_right) (sc := defScope s_l_houses_right) (own := [(("_law_own" : Str), 7)]) (by decide +kernel)) (raw_n (by decide)) (fun _ _ _ _ _ => by exact (pg_name (i := 7) nd rfl (Or.inl rfl))) (fun _ _ _ _ _ => by exact (tts_one (tt_cmp op_notB opd_notB (te_c C_is_house (fun h => dFp_up (lenA_cons lenA_nil) h) (hr.mono (by first | decide | omega)) rfl (ta_cons (te_v 7) ta_nil)) te_bl (nomark _)))) (fun _ _ _ _ _ => by exact (te_v 7))) (te_lst ta_nil) (nomark _)))))))))))))))))))))))))))))))))
/-! ### _law_by_hand_right -/
def N_l_by_hand_right : List Str := ["_law_fine", "_law_odd", "_law_got", "_law_own"]
theorem sc_l_by_hand_right : FnScope N_l_by_hand_right [] (defScope s_l_by_hand_right) := ⟨rfl, rfl, rfl, by decide +kernel, rfl, by decide +kernel, by decide +kernel⟩
def ds_l_by_hand_right : En → M Out := (dSeq (dAsg (dLst (dCons (dTup (dCons (dC (.str "give")) dNil)) (dCons (dTup (dCons (dC (.str "put")) (dCons (dC (.str "q")) dNil))) (dCons (dTup (dCons (dC (.str "get")) (dCons (dC (.str "q")) (dCons (dTup dNil) dNil)))) (dCons (dTup (dCons (dC (.str "get")) (dCons (dC (.str "q")) (dCons (dC (.int 0)) dNil)))) dNil))))) (gN 0)) (dSeq (dAsg (d2 (catP okL) (dV 0) (dLst (dCons (dTup (dCons (dC (.str "until")) (dCons (dC (.int 0)) dNil))) (dCons (dTup (dCons (dC (.str "in")) dNil)) (dCons (dTup (dCons (dC (.str "fail")) (dCons (dC (.str "w")) dNil))) dNil))))) (gN 0)) (dSeq (dAsg (d2 (catP okL) (dV 0) (dLst (dCons (dTup (dCons (dC (.str "join")) (dCons (dC (.str "abcdefgh")) (dCons (dC (.int 3)) dNil)))) (dCons (dTup (dCons (dC (.str "until")) (dCons (d2 (pur2 powO) (dC (.int 10)) (dC (.int 6))) dNil))) (dCons (dTup (dCons (dC (.str "close")) (dCons (dC (.str "g")) dNil))) dNil))))) (gN 0)) (dSeq (dAsg (d2 (catP okL) (dV 0) (dLst (dCons (dTup (dCons (dC (.str "catch")) (dCons (dC (.str "g")) dNil))) (dCons (dTup (dCons (dC (.str "hear")) (dCons (dC (.str "s")) (dCons (dC (.int 7)) dNil)))) dNil)))) (gN 0)) (dSeq (dAsg (dLst (dCons (dTup dNil) (dCons (dTup (dCons (dC (.str "give")) (dCons (dC (.str "q")) dNil))) (dCons (dTup (dCons (dC (.str "put")) dNil)) (dCons (dTup (dCons (dC (.str "put")) (dCons (dC (.str "Q")) dNil))) dNil))))) (gN 1)) (dSeq (dAsg (d2 (catP okL) (dV 1) (dLst (dCons (dTup (dCons (dC (.str "put")) (dCons (dC (.str "abcdefghi")) dNil))) (dCons (dTup (dCons (dC (.str "put")) (dCons (dC (.str "")) dNil))) (dCons (dTup (dCons (dC (.str "get")) (dCons (dC (.str "q")) dNil))) (dCons (dTup (dCons (dC (.str "get")) (dCons (dC (.str "q")) (dCons (dNeg (dC (.int 1))) dNil)))) dNil)))))) (gN 1)) (dSeq (dAsg (d2 (catP okL) (dV 1) (dLst (dCons (dTup (dCons (dC (.str "get")) (dCons (dC (.str "q")) (dCons (dC (.bl true)) dNil)))) (dCons (dTup (dCons (dC (.str "get")) (dCons (dC (.str "q")) (dCons (dC .non) dNil)))) (dCons (dTup (dCons (dC (.str "get")) (dCons (dC (.str "q")) (dCons (dLst dNil) dNil)))) (dCons (dLst (dCons (dC (.str "give")) dNil)) dNil)))))) (gN 1)) (dSeq (dAsg (d2 (catP okL) (dV 1) (dLst (dCons (dC (.str "give")) (dCons (dTup (dCons (dC (.str "until")) (dCons (dTup dNil) dNil))) (dCons (dTup (dCons (dC (.str "out")) (dCons (dTup dNil) dNil))) dNil))))) (gN 1)) (dSeq (dAsg (d2 (catP okL) (dV 1) (dLst (dCons (dTup (dCons (dC (.str "until")) (dCons (dC (.bl true)) dNil))) (dCons (dTup (dCons (dC (.str "until")) (dCons (dNeg (dC (.int 1))) dNil))) (dCons (dTup (dCons (dC (.str "hop")) dNil)) (dCons (dTup (dCons (dC (.int 3)) dNil)) (dCons (dC .non) dNil))))))) (gN 1)) (dSeq (dAsg (d2 (catP okL) (dV 1) (dLst (dCons (dC (.int 3)) (dCons (dTup (dCons (dTup (dCons (dC (.str "give")) dNil)) dNil)) (dCons (dTup (dCons (dC (.str "start")) (dCons (dC (.str "a")) (dCons (dTup dNil) dNil)))) (dCons (dTup (dCons (dC (.str "set")) (dCons (dC (.int 3)) dNil))) dNil)))))) (gN 1)) (dSeq (dAsg (dLst (dCons (dLc (dItL (dV 0)) (gN 3) (dTest (d2 (pur2 (isBO true)) (dFp F_is_step (dCons (dV 3) dNil)) (dC (.bl true)))) (dV 3) [3]) dNil)) (gN 2)) (dSeq (dAsg (d2 (catP okL) (dV 2) (dLst (dCons (dLc (dItL (dV 1)) (gN 3) (dTest (d2 (pur2 (isBO true)) (dFp F_is_step (dCons (dV 3) dNil)) (dC (.bl false)))) (dV 3) [3]) dNil))) (gN 2)) (dSeq (dAsg (dLst (dCons (dTup dNil) (dCons (dTup (dCons (dTup (dCons (dC (.str "in")) dNil)) (dCons (dTup (dCons (dC (.str "out")) dNil)) dNil))) (dCons (dTup (dCons (dTup (dCons (dC (.str "in")) dNil)) (dCons (dTup (dCons (dC (.str "in")) dNil)) (dCons (dTup (dCons (dC (.str "out")) dNil)) (dCons (dTup (dCons (dC (.str "out")) dNil)) dNil))))) (dCons (dTup (dCons (dTup (dCons (dC (.str "give")) dNil)) (dCons (dTup (dCons (dC (.str "put")) (dCons (dC (.str "q")) dNil))) dNil))) dNil))))) (gN 0)) (dSeq (dAsg (dLst (dCons (dTup (dCons (dTup (dCons (dC (.str "in")) dNil)) dNil)) (dCons (dTup (dCons (dTup (dCons (dC (.str "out")) dNil)) dNil)) (dCons (dTup (dCons (dTup (dCons (dC (.str "out")) dNil)) (dCons (dTup (dCons (dC (.str "in")) dNil)) dNil))) (dCons (dTup (dCons (dTup (dCons (dC (.str "in")) dNil)) (dCons (dTup (dCons (dC (.str "out")) dNil)) (dCons (dTup (dCons (dC (.str "out")) dNil)) dNil)))) dNil))))) (gN 1)) (dSeq (dAsg (d2 (catP okL) (dV 1) (dLst (dCons (dLst (dCons (dTup (dCons (dC (.str "give")) dNil)) dNil)) (dCons (dTup (dCons (dLst (dCons (dC (.str "give")) dNil)) dNil)) (dCons (dTup (dCons (dC (.str "give")) dNil)) dNil))))) (gN 1)) (dSeq (dAsg (d2 (catP okL) (dV 1) (dLst (dCons (dC .non) (dCons (dTup (dCons (dTup (dCons (dC (.str "give")) dNil)) (dCons (dC .non) dNil))) (dCons (dC (.str "")) (dCons (dC (.int 0)) (dCons (dTup (dCons (dTup (dCons (dC (.str "in")) dNil)) (dCons (dTup (dCons (dC (.str "in")) dNil)) (dCons (dTup (dCons (dC (.str "out")) dNil)) dNil)))) dNil))))))) (gN 1)) (dSeq (dAsg (d2 (catP okL) (dV 2) (dLst (dCons (dLc (dItL (dV 0)) (gN 3) (dTest (d2 (pur2 (isBO true)) (dFp F_is_script (dCons (dV 3) dNil)) (dC (.bl true)))) (dV 3) [3]) dNil))) (gN 2)) (dSeq (dAsg (d2 (catP okL) (dV 2) (dLst (dCons (dLc (dItL (dV 1)) (gN 3) (dTest (d2 (pur2 (isBO true)) (dFp F_is_script (dCons (dV 3) dNil)) (dC (.bl false)))) (dV 3) [3]) dNil))) (gN 2)) (dRet (dAnd (dFp (F_l_same 4) (dCons (dV 2) (dCons (d2 (repP) (dLst (dCons (dLst dNil) dNil)) (dC (.int 4))) dNil))) (dFp F_l_houses_right dNil)))))))))))))))))))))
def F_l_by_hand_right : List D → M D := runD N_l_by_hand_right.length ds_l_by_hand_right
theorem ok_l_by_hand_right {P : Program} {w : World} {K : PySem.W.Frag} {mg : Str → Option Value} {base : Heap} {f : Addr} {fd : FuncData} (T : Tx P w K mg) (C_is_step : Cal P w K mg base 3 "is_step" 1 F_is_step) (C_is_script : Cal P w K mg base 4 "is_script" 1 F_is_script) (C_l_same : Cal P w K mg base 5 "_law_same" 2 (F_l_same 4)) (C_l_houses_right : Cal P w K mg base 6 "_law_houses_right" 0 F_l_houses_right) (F : FnP K "_law_by_hand_right" s_l_by_hand_right f fd) : FnOk P w K mg base CX0 7 f fd [] (spF ⟨K, P, w, mg⟩ Xo0 0 F_l_by_hand_right) := by
  refine fn_tw (k := 6) F sc_l_by_hand_right fun cdv A outer s H E hr => ?_
  have nd := sc_l_by_hand_right.nd
  exact (ts_cons (tS_asg (te_lst (ta_cons (te_tup (ta_cons te_str ta_nil)) (ta_cons (te_tup (ta_cons te_str (ta_cons te_str ta_nil))) (ta_cons (te_tup (ta_cons te_str (ta_cons te_str (ta_cons (te_tup ta_nil) ta_nil)))) (ta_cons (te_tup (ta_cons te_str (ta_cons te_str (ta_cons te_int ta_nil)))) ta_nil))))) (tg_n (i := 0) nd)) (ts_cons (tS_asg (te_op op_cat opd_cat (te_v 0) (te_lst (ta_cons (te_tup (ta_cons te_str (ta_cons te_int ta_nil))) (ta_cons (te_tup (ta_cons te_str ta_nil)) (ta_cons (te_tup (ta_cons te_str (ta_cons te_str ta_nil))) ta_nil))))) (tg_n (i := 0) nd)) (ts_cons (tS_asg (te_op op_cat opd_cat (te_v 0) (te_lst (ta_cons (te_tup (ta_cons te_str (ta_cons te_str (ta_cons te_int ta_nil)))) (ta_cons (te_tup (ta_cons te_str (ta_cons (te_op op_pow opd_pow te_int te_int) ta_nil))) (ta_cons (te_tup (ta_cons te_str (ta_cons te_str ta_nil))) ta_nil))))) (tg_n (i := 0) nd)) (ts_cons (tS_asg (te_op op_cat opd_cat (te_v 0) (te_lst (ta_cons (te_tup (ta_cons te_str (ta_cons te_str ta_nil))) (ta_cons (te_tup (ta_cons te_str (ta_cons te_str (ta_cons te_int ta_nil)))) ta_nil)))) (tg_n (i := 0) nd)) (ts_cons (tS_asg (te_lst (ta_cons (te_tup ta_nil) (ta_cons (te_tup (ta_cons te_str (ta_cons te_str ta_nil))) (ta_cons (te_tup (ta_cons te_str ta_nil)) (ta_cons (te_tup (ta_cons te_str (ta_cons te_str ta_nil))) ta_nil))))) (tg_n (i := 1) nd)) (ts_cons (tS_asg (te_op op_cat opd_cat (te_v 1) (te_lst (ta_cons (te_tup (ta_cons te_str (ta_cons te_str ta_nil))) (ta_cons (te_tup (ta_cons te_str (ta_cons te_str ta_nil))) (ta_cons (te_tup (ta_cons te_str (ta_cons te_str ta_nil))) (ta_cons (te_tup (ta_cons te_str (ta_cons te_str (ta_cons (te_neg te_int) ta_nil)))) ta_nil)))))) (tg_n (i := 1) nd)) (ts_cons (tS_asg (te_op op_cat opd_cat (te_v 1) (te_lst (ta_cons (te_tup (ta_cons te_str (ta_cons te_str (ta_cons te_bl ta_nil)))) (ta_cons (te_tup (ta_cons te_str (ta_cons te_str (ta_cons te_non ta_nil)))) (ta_cons (te_tup (ta_cons te_str (ta_cons te_str (ta_cons (te_lst ta_nil) ta_nil)))) (ta_cons (te_lst (ta_cons te_str ta_nil)) ta_nil)))))) (tg_n (i := 1) nd)) (ts_cons (tS_asg (te_op op_cat opd_cat (te_v 1) (te_lst (ta_cons te_str (ta_cons (te_tup (ta_cons te_str (ta_cons (te_tup ta_nil) ta_nil))) (ta_cons (te_tup (ta_cons te_str (ta_cons (te_tup ta_nil) ta_nil))) ta_nil))))) (tg_n (i := 1) nd)) (ts_cons (tS_asg (te_op op_cat opd_cat (te_v 1) (te_lst (ta_cons (te_tup (ta_cons te_str (ta_cons te_bl ta_nil))) (ta_cons (te_tup (ta_cons te_str (ta_cons (te_neg te_int) ta_nil))) (ta_cons (te_tup (ta_cons te_str ta_nil)) (ta_cons (te_tup (ta_cons te_int ta_nil)) (ta_cons te_non ta_nil))))))) (tg_n (i := 1) nd)) (ts_cons (tS_asg (te_op op_cat opd_cat (te_v 1) (te_lst (ta_cons te_int (ta_cons (te_tup (ta_cons (te_tup (ta_cons te_str ta_nil)) ta_nil)) (ta_cons (te_tup (ta_cons te_str (ta_cons te_str (ta_cons (te_tup ta_nil) ta_nil)))) (ta_cons (te_tup (ta_cons te_str (ta_cons te_int ta_nil))) ta_nil)))))) (tg_n (i := 1) nd)) (ts_cons (tS_asg (te_lst (ta_cons (by exact te_lc (own := [(("_law_own" : Str), 3)]) rfl nd (by exact (ti_list (te_v 0))) (blkOk_by (N := N_l_by_hand_right) (sc := defScope s_l_by_hand_right) (own := [(("_law_own" : Str), 3)]) (by decide +kernel)) (raw_n (by decide)) (fun _ _ _ _ _ => by exact (pg_name (i := 3) nd rfl (Or.inl rfl))) (fun _ _ _ _ _ => by exact (tts_one (tt_cmp op_notB opd_notB (te_c C_is_step (fun h => dFp_up (lenA_cons lenA_nil) h) (hr.mono (by first | decide | omega)) rfl (ta_cons (te_v 3) ta_nil)) te_bl (nomark _)))) (fun _ _ _ _ _ => by exact (te_v 3))) ta_nil)) (tg_n (i := 2) nd)) (ts_cons (tS_asg (te_op op_cat opd_cat (te_v 2) (te_lst (ta_cons (by exact te_lc (own := [(("_law_own" : Str), 3)]) rfl nd (by exact (ti_list (te_v 1))) (blkOk_by (N := N_l_by_hand_right) (sc := defScope s_l_by_hand_right) (own := [(("_law_own" : Str), 3)]) (by decide +kernel)) (raw_n (by decide)) (fun _ _ _ _ _ => by exact (pg_name (i := 3) nd rfl (Or.inl rfl))) (fun _ _ _ _ _ => by exact (tts_one (tt_cmp op_notB opd_notB (te_c C_is_step (fun h => dFp_up (lenA_cons lenA_nil) h) (hr.mono (by first | decide | omega)) rfl (ta_cons (te_v 3) ta_nil)) te_bl (nomark _)))) (fun _ _ _ _ _ => by exact (te_v 3))) ta_nil))) (tg_n (i := 2) nd)) (ts_cons (tS_asg (te_lst (ta_cons (te_tup ta_nil) (ta_cons (te_tup (ta_cons (te_tup (ta_cons te_str ta_nil)) (ta_cons (te_tup (ta_cons te_str ta_nil)) ta_nil))) (ta_cons (te_tup (ta_cons (te_tup (ta_cons te_str ta_nil)) (ta_cons (te_tup (ta_cons te_str ta_nil)) (ta_cons (te_tup (ta_cons te_str ta_nil)) (ta_cons (te_tup (ta_cons te_str ta_nil)) ta_nil))))) (ta_cons (te_tup (ta_cons (te_tup (ta_cons te_str ta_nil)) (ta_cons (te_tup (ta_cons te_str (ta_cons te_str ta_nil))) ta_nil))) ta_nil))))) (tg_n (i := 0) nd)) (ts_cons (tS_asg (te_lst (ta_cons (te_tup (ta_cons (te_tup (ta_cons te_str ta_nil)) ta_nil)) (ta_cons (te_tup (ta_cons (te_tup (ta_cons te_str ta_nil)) ta_nil)) (ta_cons (te_tup (ta_cons (te_tup (ta_cons te_str ta_nil)) (ta_cons (te_tup (ta_cons te_str ta_nil)) ta_nil))) (ta_cons (te_tup (ta_cons (te_tup (ta_cons te_str ta_nil)) (ta_cons (te_tup (ta_cons te_str ta_nil)) (ta_cons (te_tup (ta_cons te_str ta_nil)) ta_nil)))) ta_nil))))) (tg_n (i := 1) nd)) (ts_cons (tS_asg (te_op op_cat opd_cat (te_v 1) (te_lst (ta_cons (te_lst (ta_cons (te_tup (ta_cons te_str ta_nil)) ta_nil)) (ta_cons (te_tup (ta_cons (te_lst (ta_cons te_str ta_nil)) ta_nil)) (ta_cons (te_tup (ta_cons te_str ta_nil)) ta_nil))))) (tg_n (i := 1) nd)) (ts_cons (tS_asg (te_op op_cat opd_cat (te_v 1) (te_lst (ta_cons te_non (ta_cons (te_tup (ta_cons (te_tup (ta_cons te_str ta_nil)) (ta_cons te_non ta_nil))) (ta_cons te_str (ta_cons te_int (ta_cons (te_tup (ta_cons (te_tup (ta_cons te_str ta_nil)) (ta_cons (te_tup (ta_cons te_str ta_nil)) (ta_cons (te_tup (ta_cons te_str ta_nil)) ta_nil)))) ta_nil))))))) (tg_n (i := 1) nd)) (ts_cons (tS_asg (te_op op_cat opd_cat (te_v 2) (te_lst (ta_cons (by exact te_lc (own := [(("_law_own" : Str), 3)]) rfl nd (by exact (ti_list (te_v 0))) (blkOk_by (N := N_l_by_hand_right) (sc := defScope s_l_by_hand_right) (own := [(("_law_own" : Str), 3)]) (by decide +kernel)) (raw_n (by decide)) (fun _ _ _ _ _ => by exact (pg_name (i := 3) nd rfl (Or.inl rfl))) (fun _ _ _ _ _ => by exact (tts_one (tt_cmp op_notB opd_notB (te_c C_is_script (fun h => dFp_up (lenA_cons lenA_nil) h) (hr.mono (by first | decide | omega)) rfl (ta_cons (te_v 3) ta_nil)) te_bl (nomark _)))) (fun _ _ _ _ _ => by exact (te_v 3))) ta_nil))) (tg_n (i := 2) nd)) (ts_cons (tS_asg (te_op op_cat opd_cat (te_v 2) (te_lst (ta_cons (by exact te_lc (own := [(("_law_own" : Str), 3)]) rfl nd (by exact (ti_list (te_v 1))) (blkOk_by (N := N_l_by_hand_right) (sc := defScope s_l_by_hand_right) (own := [(("_law_own" : Str), 3)]) (by decide +kernel)) (raw_n (by decide)) (fun _ _ _ _ _ => by exact (pg_name (i := 3) nd rfl (Or.inl rfl))) (fun _ _ _ _ _ => by exact (tts_one (tt_cmp op_notB opd_notB (te_c C_is_script (fun h => dFp_up (lenA_cons lenA_nil) h) (hr.mono (by first | decide | omega)) rfl (ta_cons (te_v 3) ta_nil)) te_bl (nomark _)))) (fun _ _ _ _ _ => by exact (te_v 3))) ta_nil))) (tg_n (i := 2) nd)) (ts_one (tS_ret (te_and (te_c C_l_same (fun h => dFp_up (lenA_cons (lenA_cons lenA_nil)) h) (hr.mono (by first | decide | omega)) rfl (ta_cons (te_v 2) (ta_cons (te_op op_rep opd_rep (te_lst (ta_cons (te_lst ta_nil) ta_nil)) te_int) ta_nil))) (te_one (te_c0 C_l_houses_right (fun h => dFp_up lenA_nil h) (hr.mono (by first | decide | omega)) rfl)))))))))))))))))))))))
/-! ### _law_right -/
def N_l_right : List Str := ["_law_box_here", "_law_host", "_law_tasks", "_law_groups_so", "_law_rooms_so", "_law_one", "_law_wrong_so", "_law_rest", "_law_got", "_law_own"]
theorem sc_l_right : FnScope N_l_right ["_law_box_here"] (defScope s_l_right) := ⟨rfl, rfl, rfl, by decide +kernel, rfl, by decide +kernel, by decide +kernel⟩
def ds_l_right : En → M Out := (dSeq (dAsg (dF F_l_house (dCons (dV 0) (dCons (dC (.int 4)) (dCons (dC (.int 3)) dNil)))) (gN 1)) (dSeq (dAsg (dV 1) (gT 3 (gsCons (gN 2) (gsCons (gN 3) (gsCons (gN 4) gsNil))))) (dSeq (dAsg (dTup (dCons (d2 ixO (dV 2) (dF F_l_take (dCons (dV 0) (dCons (dCall (lenP) (dCons (dV 2) dNil)) dNil)))) (dCons (dLstM dNil) dNil))) (gT 2 (gsCons (gN 5) (gsCons (gN 6) gsNil)))) (dSeq (dAsg (dCall (listP fun xs => pur (some (.tup xs))) (dCons (dLc (dItT (dV 2)) (gN 9) (dTest (d2 (pur2 (eqO true)) (dV 9) (dV 5))) (dV 9) [9]) dNil)) (gN 7)) (dSeq (dExpr (dMeth appF (dV 6) (dCons (dTup (dCons (d2 (pur2 addO) (dV 2) (dTup (dCons (dV 5) dNil))) (dCons (dV 3) (dCons (dV 4) dNil)))) dNil))) (dSeq (dExpr (dMeth appF (dV 6) (dCons (dTup (dCons (dCall (listP fun xs => pur (some (.tup xs))) (dCons (dCall (tP sortRF) (dCons (d2 (pur2 addO) (dV 7) (dTup (dCons (dTup (dCons (d2 ixO (dV 5) (dC (.int 0))) (dCons (d2 ixO (dV 5) (dC (.int 1))) (dCons (d2 (pur2 addO) (d2 ixO (dV 5) (dC (.int 2))) (dTup (dCons (dTup (dCons (dC (.str "in")) dNil)) dNil))) dNil)))) dNil))) dNil)) dNil)) (dCons (dV 3) (dCons (dV 4) dNil)))) dNil))) (dSeq (dExpr (dMeth appF (dV 6) (dCons (dTup (dCons (dCall (listP fun xs => pur (some (.tup xs))) (dCons (dCall (tP sortRF) (dCons (d2 (pur2 addO) (dV 7) (dTup (dCons (dTup (dCons (d2 ixO (dV 5) (dC (.int 0))) (dCons (d2 ixO (dV 5) (dC (.int 1))) (dCons (d2 (pur2 addO) (dTup (dCons (dTup (dCons (dC (.str "join")) (dCons (dC (.str "nix")) (dCons (dTup dNil) dNil)))) dNil)) (d2 ixO (dV 5) (dC (.int 2)))) dNil)))) dNil))) dNil)) dNil)) (dCons (dV 3) (dCons (dV 4) dNil)))) dNil))) (dSeq (dExpr (dMeth appF (dV 6) (dCons (dTup (dCons (dCall (listP fun xs => pur (some (.tup xs))) (dCons (dCall (tP sortRF) (dCons (d2 (pur2 addO) (dV 7) (dTup (dCons (dTup (dCons (d2 ixO (dV 5) (dC (.int 0))) (dCons (d2 ixO (dV 5) (dC (.int 1))) (dCons (d2 (pur2 addO) (d2 ixO (dV 5) (dC (.int 2))) (dTup (dCons (dTup (dCons (dC (.str "cancel")) (dCons (d2 ixO (dV 5) (dC (.int 0))) dNil))) dNil))) dNil)))) dNil))) dNil)) dNil)) (dCons (dV 3) (dCons (dV 4) dNil)))) dNil))) (dSeq (dExpr (dMeth appF (dV 6) (dCons (dTup (dCons (dV 2) (dCons (dV 3) (dCons (d2 (pur2 addO) (dTup (dCons (dTup (dCons (dC (.str "a")) (dCons (dC (.int 0)) dNil))) dNil)) (dV 4)) dNil)))) dNil))) (dSeq (dExpr (dMeth appF (dV 6) (dCons (dTup (dCons (dV 2) (dCons (d2 (pur2 catN) (dV 3) (dTpn (dCons (dTup (dCons (dC (.str "zzz")) (dCons (d2 ixO (dV 5) (dC (.int 0))) dNil))) dNil))) (dCons (dV 4) dNil)))) dNil))) (dSeq (dExpr (dMeth appF (dV 6) (dCons (dTup (dCons (dFrz (dCall (listP newL) (dCons (dV 2) dNil))) (dCons (dV 3) (dCons (dV 4) dNil)))) dNil))) (dSeq (dExpr (dMeth appF (dV 6) (dCons (dTup (dCons (dV 2) (dCons (dV 3) (dCons (dV 4) (dCons (dTup dNil) dNil))))) dNil))) (sFrz 6 (dSeq (dAsg (d2 (catP okL) (d2 (catP okL) (dLst (dCons (dFp F_is_house (dCons (dV 1) dNil)) dNil)) (dLc (dItL (dV 6)) (gN 9) dYes (dFp F_is_house (dCons (dV 9) dNil)) [9])) (dLc (dItT (dV 2)) (gN 9) dYes (dFp F_is_script (dCons (d2 ixO (dV 9) (dC (.int 2))) dNil)) [9])) (gN 8)) (dRet (dFp (F_l_same 4) (dCons (dV 8) (dCons (d2 (catP okL) (d2 (catP okL) (dLst (dCons (dC (.bl true)) dNil)) (d2 (repP) (dLst (dCons (dC (.bl false)) dNil)) (dC (.int 8)))) (d2 (repP) (dLst (dCons (dC (.bl true)) dNil)) (dCall (lenP) (dCons (dV 2) dNil)))) dNil))))))))))))))))))
def F_l_right : List D → M D := runD N_l_right.length ds_l_right
theorem ok_l_right {P : Program} {w : World} {K : PySem.W.Frag} {mg : Str → Option Value} {base : Heap} {f : Addr} {fd : FuncData} (T : Tx P w K mg) (C_is_script : Cal P w K mg base 4 "is_script" 1 F_is_script) (C_is_house : Cal P w K mg base 5 "is_house" 1 F_is_house) (C_l_take : Cal P w K mg base 1 "_law_take" 2 F_l_take) (C_l_same : Cal P w K mg base 5 "_law_same" 2 (F_l_same 4)) (C_l_house : Cal P w K mg base 4 "_law_house" 3 F_l_house) (F : FnP K "_law_right" s_l_right f fd) : FnOk P w K mg base CX0 6 f fd ["_law_box_here"] (spF ⟨K, P, w, mg⟩ Xo0 1 F_l_right) := by
  refine fn_tw (k := 5) F sc_l_right fun cdv A outer s H E hr => ?_
  have nd := sc_l_right.nd
  exact (ts_cons (tS_asg (te_c C_l_house (fun h => dF_up (lenA_cons (lenA_cons (lenA_cons lenA_nil))) h) (hr.mono (by first | decide | omega)) rfl (ta_cons (te_v 0) (ta_cons te_int (ta_cons te_int ta_nil)))) (tg_n (i := 1) nd)) (ts_cons (tS_asg (te_v 1) (tg_t rfl (tgs_cons (tg_n (i := 2) nd) (tgs_cons (tg_n (i := 3) nd) (tgs_cons (tg_n (i := 4) nd) tgs_nil))))) (ts_cons (tS_asg (te_tup (ta_cons (te_ix ix_seq opd_ix (te_v 2) (te_c C_l_take (fun h => dF_up (lenA_cons (lenA_cons lenA_nil)) h) (hr.mono (by first | decide | omega)) rfl (ta_cons (te_v 0) (ta_cons (te_blt call_len cd_len rfl T.f_len (by decide +kernel) (ta_cons (te_v 2) ta_nil)) ta_nil))) (fun _ _ => rfl)) (ta_cons (te_lstM ta_nil) ta_nil))) (tg_t rfl (tgs_cons (tg_n (i := 5) nd) (tgs_cons (tg_n (i := 6) nd) tgs_nil)))) (ts_cons (tS_asg (te_ty call_tuple_of cd_tup rfl T.f_tuple (by decide +kernel) (ta_cons (by exact te_lc (own := [(("_law_own" : Str), 9)]) rfl nd (by exact (ti_tup (te_v 2))) (blkOk_by (N := N_l_right) (sc := defScope s_l_right) (own := [(("_law_own" : Str), 9)]) (by decide +kernel)) (raw_n (by decide)) (fun _ _ _ _ _ => by exact (pg_name (i := 9) nd rfl (Or.inl rfl))) (fun _ _ _ _ _ => by exact (tts_one (tt_cmp (op_neD hr.units) opd_ne (te_v 9) (te_v 5) (nomark _)))) (fun _ _ _ _ _ => by exact (te_v 9))) ta_nil)) (tg_n (i := 7) nd)) (ts_cons (tS_expr (te_lm PySem.F.slot_list_append PySem.F.type_list_append mt_append md_app (te_v 6) (ta_cons (te_tup (ta_cons (te_op op_addA opd_add (te_v 2) (te_tup (ta_cons (te_v 5) ta_nil))) (ta_cons (te_v 3) (ta_cons (te_v 4) ta_nil)))) ta_nil))) (ts_cons (tS_expr (te_lm PySem.F.slot_list_append PySem.F.type_list_append mt_append md_app (te_v 6) (ta_cons (te_tup (ta_cons (te_ty call_tuple_of cd_tup rfl T.f_tuple (by decide +kernel) (ta_cons (te_blt cr_sortedRT cd_sortRT rfl T.f_sorted (by decide +kernel) (ta_cons (te_op op_addA opd_add (te_v 7) (te_tup (ta_cons (te_tup (ta_cons (te_ix ix_seq opd_ix (te_v 5) te_int (fun _ _ => rfl)) (ta_cons (te_ix ix_seq opd_ix (te_v 5) te_int (fun _ _ => rfl)) (ta_cons (te_op op_addA opd_add (te_ix ix_seq opd_ix (te_v 5) te_int (fun _ _ => rfl)) (te_tup (ta_cons (te_tup (ta_cons te_str ta_nil)) ta_nil))) ta_nil)))) ta_nil))) ta_nil)) ta_nil)) (ta_cons (te_v 3) (ta_cons (te_v 4) ta_nil)))) ta_nil))) (ts_cons (tS_expr (te_lm PySem.F.slot_list_append PySem.F.type_list_append mt_append md_app (te_v 6) (ta_cons (te_tup (ta_cons (te_ty call_tuple_of cd_tup rfl T.f_tuple (by decide +kernel) (ta_cons (te_blt cr_sortedRT cd_sortRT rfl T.f_sorted (by decide +kernel) (ta_cons (te_op op_addA opd_add (te_v 7) (te_tup (ta_cons (te_tup (ta_cons (te_ix ix_seq opd_ix (te_v 5) te_int (fun _ _ => rfl)) (ta_cons (te_ix ix_seq opd_ix (te_v 5) te_int (fun _ _ => rfl)) (ta_cons (te_op op_addA opd_add (te_tup (ta_cons (te_tup (ta_cons te_str (ta_cons te_str (ta_cons (te_tup ta_nil) ta_nil)))) ta_nil)) (te_ix ix_seq opd_ix (te_v 5) te_int (fun _ _ => rfl))) ta_nil)))) ta_nil))) ta_nil)) ta_nil)) (ta_cons (te_v 3) (ta_cons (te_v 4) ta_nil)))) ta_nil))) (ts_cons (tS_expr (te_lm PySem.F.slot_list_append PySem.F.type_list_append mt_append md_app (te_v 6) (ta_cons (te_tup (ta_cons (te_ty call_tuple_of cd_tup rfl T.f_tuple (by decide +kernel) (ta_cons (te_blt cr_sortedRT cd_sortRT rfl T.f_sorted (by decide +kernel) (ta_cons (te_op op_addA opd_add (te_v 7) (te_tup (ta_cons (te_tup (ta_cons (te_ix ix_seq opd_ix (te_v 5) te_int (fun _ _ => rfl)) (ta_cons (te_ix ix_seq opd_ix (te_v 5) te_int (fun _ _ => rfl)) (ta_cons (te_op op_addA opd_add (te_ix ix_seq opd_ix (te_v 5) te_int (fun _ _ => rfl)) (te_tup (ta_cons (te_tup (ta_cons te_str (ta_cons (te_ix ix_seq opd_ix (te_v 5) te_int (fun _ _ => rfl)) ta_nil))) ta_nil))) ta_nil)))) ta_nil))) ta_nil)) ta_nil)) (ta_cons (te_v 3) (ta_cons (te_v 4) ta_nil)))) ta_nil))) (ts_cons (tS_expr (te_lm PySem.F.slot_list_append PySem.F.type_list_append mt_append md_app (te_v 6) (ta_cons (te_tup (ta_cons (te_v 2) (ta_cons (te_v 3) (ta_cons (te_op op_addA opd_add (te_tup (ta_cons (te_tup (ta_cons te_str (ta_cons te_int ta_nil))) ta_nil)) (te_v 4)) ta_nil)))) ta_nil))) (ts_cons (tS_expr (te_lm PySem.F.slot_list_append PySem.F.type_list_append mt_append md_app (te_v 6) (ta_cons (te_tup (ta_cons (te_v 2) (ta_cons (te_op op_catN opd_catN (te_v 3) (te_tpn (ta_cons (te_tup (ta_cons te_str (ta_cons (te_ix ix_seq opd_ix (te_v 5) te_int (fun _ _ => rfl)) ta_nil))) ta_nil))) (ta_cons (te_v 4) ta_nil)))) ta_nil))) (ts_cons (tS_expr (te_lm PySem.F.slot_list_append PySem.F.type_list_append mt_append md_app (te_v 6) (ta_cons (te_tup (ta_cons (te_frz (te_ty call_list_of cd_listM rfl T.f_list (by decide +kernel) (ta_cons (te_v 2) ta_nil))) (ta_cons (te_v 3) (ta_cons (te_v 4) ta_nil)))) ta_nil))) (ts_cons (tS_expr (te_lm PySem.F.slot_list_append PySem.F.type_list_append mt_append md_app (te_v 6) (ta_cons (te_tup (ta_cons (te_v 2) (ta_cons (te_v 3) (ta_cons (te_v 4) (ta_cons (te_tup ta_nil) ta_nil))))) ta_nil))) (ts_frz 6 (ts_cons (tS_asg (te_op op_cat opd_cat (te_op op_cat opd_cat (te_lst (ta_cons (te_c C_is_house (fun h => dFp_up (lenA_cons lenA_nil) h) (hr.mono (by first | decide | omega)) rfl (ta_cons (te_v 1) ta_nil)) ta_nil)) (by exact te_lc (own := [(("_law_own" : Str), 9)]) rfl nd (by exact (ti_list (te_v 6))) (blkOk_by (N := N_l_right) (sc := defScope s_l_right) (own := [(("_law_own" : Str), 9)]) (by decide +kernel)) (raw_n (by decide)) (fun _ _ _ _ _ => by exact (pg_name (i := 9) nd rfl (Or.inl rfl))) (fun _ _ _ _ _ => by exact tts_nil) (fun _ _ _ _ _ => by exact (te_c C_is_house (fun h => dFp_up (lenA_cons lenA_nil) h) (hr.mono (by first | decide | omega)) rfl (ta_cons (te_v 9) ta_nil))))) (by exact te_lc (own := [(("_law_own" : Str), 9)]) rfl nd (by exact (ti_tup (te_v 2))) (blkOk_by (N := N_l_right) (sc := defScope s_l_right) (own := [(("_law_own" : Str), 9)]) (by decide +kernel)) (raw_n (by decide)) (fun _ _ _ _ _ => by exact (pg_name (i := 9) nd rfl (Or.inl rfl))) (fun _ _ _ _ _ => by exact tts_nil) (fun _ _ _ _ _ => by exact (te_c C_is_script (fun h => dFp_up (lenA_cons lenA_nil) h) (hr.mono (by first | decide | omega)) rfl (ta_cons (te_ix ix_seq opd_ix (te_v 9) te_int (fun _ _ => rfl)) ta_nil))))) (tg_n (i := 8) nd)) (ts_one (tS_ret (te_c C_l_same (fun h => dFp_up (lenA_cons (lenA_cons lenA_nil)) h) (hr.mono (by first | decide | omega)) rfl (ta_cons (te_v 8) (ta_cons (te_op op_cat opd_cat (te_op op_cat opd_cat (te_lst (ta_cons te_bl ta_nil)) (te_op op_rep opd_rep (te_lst (ta_cons te_bl ta_nil)) te_int)) (te_op op_rep opd_rep (te_lst (ta_cons te_bl ta_nil)) (te_blt call_len cd_len rfl T.f_len (by decide +kernel) (ta_cons (te_v 2) ta_nil)))) ta_nil)))))))))))))))))))
/-! ### law -/
def N_law : List Str := ["_law_script_here", "_law_cells_here", "_law_k"]
theorem sc_law : FnScope N_law ["_law_script_here"] (defScope s_law) := ⟨rfl, rfl, rfl, by decide +kernel, rfl, by decide +kernel, by decide +kernel⟩
def ds_law : En → M Out := (dSeq (dAsg (dFp F_l_cells (dCons (dV 0) (dCons (dC (.int 3)) dNil))) (gN 1)) (dRet (dAnd (dFp F_l_by_hand_right dNil) (dCall (lP allF) (dCons (dLc (dRng rng1 (dCons (dCall (lenP) (dCons (dV 1) dNil)) dNil)) (gN 2) dYes (dFm F_l_right (dCons (dF F_l_box (dCons (dV 1) (dCons (dV 2) dNil))) dNil)) [2]) dNil)))))
def F_law : List D → M D := runD N_law.length ds_law
theorem ok_law {P : Program} {w : World} {K : PySem.W.Frag} {mg : Str → Option Value} {base : Heap} {f : Addr} {fd : FuncData} (T : Tx P w K mg) (C_l_box : Cal P w K mg base 1 "_law_box" 2 F_l_box) (C_l_cells : Cal P w K mg base 1 "_law_cells" 2 F_l_cells) (C_l_by_hand_right : Cal P w K mg base 7 "_law_by_hand_right" 0 F_l_by_hand_right) (C_l_right : Cal P w K mg base 6 "_law_right" 1 F_l_right) (F : FnP K "law" s_law f fd) : FnOk P w K mg base CX0 8 f fd ["_law_script_here"] (spF ⟨K, P, w, mg⟩ Xo0 1 F_law) := by
  refine fn_tw (k := 7) F sc_law fun cdv A outer s H E hr => ?_
  have nd := sc_law.nd
  exact (ts_cons (tS_asg (te_c C_l_cells (fun h => dFp_up (lenA_cons (lenA_cons lenA_nil)) h) (hr.mono (by first | decide | omega)) rfl (ta_cons (te_v 0) (ta_cons te_int ta_nil))) (tg_n (i := 1) nd)) (ts_one (tS_ret (te_and (te_c0 C_l_by_hand_right (fun h => dFp_up lenA_nil h) (hr.mono (by first | decide | omega)) rfl) (te_one (te_blt (cr_all rfl) cd_all rfl T.f_all (by decide +kernel) (ta_cons (by exact te_lc (own := [(("_law_k" : Str), 2)]) rfl nd (by exact (ti_rng1 rfl T.f_range (ta_cons (te_blt call_len cd_len rfl T.f_len (by decide +kernel) (ta_cons (te_v 1) ta_nil)) ta_nil))) (blkOk_by (N := N_law) (sc := defScope s_law) (own := [(("_law_k" : Str), 2)]) (by decide +kernel)) (raw_n (by decide)) (fun _ _ _ _ _ => by exact (pg_name (i := 2) nd rfl (Or.inl rfl))) (fun _ _ _ _ _ => by exact tts_nil) (fun _ _ _ _ _ => by exact (te_c C_l_right (fun h => dFm_up (lenA_cons lenA_nil) h) (hr.mono (by first | decide | omega)) rfl (ta_cons (te_c C_l_box (fun h => dF_up (lenA_cons (lenA_cons lenA_nil)) h) (hr.mono (by first | decide | omega)) rfl (ta_cons (te_v 1) (ta_cons (te_v 2) ta_nil))) ta_nil)))) ta_nil)))))))
end K01

namespace K01
open PySem PySem.Spec PyProof.Rows L2 Tw
theorem ex_of {A : Type} {m : Option (A × List O)} {x : A} (h : m.map (·.1) = some x) : ∃ G, m = some (x, G) := by
  cases m with
  | none => cases h
  | some p => obtain ⟨a, G⟩ := p; cases h; exact ⟨G, rfl⟩
theorem houses_ok : ∃ G, F_l_houses_right [] [] = some (.inr (.bl true), G) := ex_of (by kernel_rfl)
theorem hand_ok : ∃ G, F_l_by_hand_right [] [] = some (.inr (.bl true), G) := ex_of (by kernel_rfl)
end K01

namespace K01
open PySem PySem.Spec PyProof.Rows L2 Tw
/-! ### steps and scripts -/
/-- the word of a step -/
def wrd : D → Str
  | .tup (.str w :: _) => w
  | _ => ""
def isS : D → Bool
  | .tup (.str w :: r) => PyData.strOk w && noRs r
  | _ => false
theorem isS_eq {d : D} (h : isS d = true) : ∃ w r, d = .tup (.str w :: r) ∧ PyData.strOk w = true ∧ wrd d = w := by
  unfold isS at h
  split at h
  · exact ⟨_, _, rfl, (Bool.and_eq_true_iff.mp h).1, rfl⟩
  · cases h
theorem isS_nr {d : D} (h : isS d = true) : noR d = true := by
  unfold isS at h
  split at h
  · simpa [noR, noRs] using (Bool.and_eq_true_iff.mp h).2
  · cases h
theorem isS_nrs : ∀ {xs : List D}, xs.all isS = true → noRs xs = true
  | [], _ => rfl
  | d :: r, h => by
    simp only [List.all_cons, Bool.and_eq_true] at h
    simp [noRs, isS_nr h.1, isS_nrs h.2]
def delta (d : D) : Int := if wrd d == "in" then 1 else if wrd d == "out" then -1 else 0
/-- the depths behind each step -/
def dl (c : Int) : List D → List Int
  | [] => []
  | d :: r => (c + delta d) :: dl (c + delta d) r
theorem dl_len : ∀ (xs : List D) (c : Int), (dl c xs).length = xs.length
  | [], _ => rfl
  | d :: r, c => by simp [dl, dl_len r]
theorem ok_in : PyData.strOk "in" = true := by decide +kernel
theorem ok_out : PyData.strOk "out" = true := by decide +kernel
abbrev b_depths : En → M Out := (dSeq (dIfS (dTest (d2 (pur2 (eqO false)) (d2 ixO (dV 3) (dC (.int 0))) (dC (.str "in")))) (dAug 1 (pur2 (i2 fun i j => .int (i + j))) (dC (.int 1))) (dIfS (dTest (d2 (pur2 (eqO false)) (d2 ixO (dV 3) (dC (.int 0))) (dC (.str "out")))) (dAug 1 (pur2 (i2 fun i j => .int (i - j))) (dC (.int 1))) dNext)) (dExpr (dMeth appF (dV 2) (dCons (dV 1) dNil))))
theorem ix0 (w : Str) (r : List D) (G : List O) : ixO (.tup (.str w :: r)) (.int 0) G = some (.str w, G) := by
  have h : atI (.str w :: r) 0 = some (D.str w) := by
    unfold atI ixN
    simp
  unfold ixO
  simp only [h, pur]
theorem step_depths {t d : D} (h : isS d = true) (c : Int) (acc : List D) (hz : acc.length + 1 ≤ mx) : b_depths [some t, some (.int c), some (.ref 0), some d] [.lst acc] = some (.inr (.nx [some t, some (.int (c + delta d)), some (.ref 0), some d]), [.lst (acc ++ [.int (c + delta d)])]) := by
  obtain ⟨w, r, rfl, hw, e⟩ := isS_eq h
  have hi := ix0 w r [.lst acc]
  have e1 := eqO_str hw ok_in false
  have e2 := eqO_str hw ok_out false
  have hz' : acc.length + 1 ≤ 1000000 := hz
  unfold delta
  rw [e]
  by_cases h1 : (w == "in") = true
  · simp [b_depths, dSeq, dIfS, dTest, d2, dV, dC, pur2, bnd, lft, pur, hi, e1, h1, blO, dAug, i2, Tw.ret, dExpr, dMeth, isLs, inL, dCons, dNil, appF, mx, hz']
  · have h1' : (w == "in") = false := by simpa using h1
    by_cases h2 : (w == "out") = true
    · simp [b_depths, dSeq, dIfS, dTest, d2, dV, dC, pur2, bnd, lft, pur, hi, e1, e2, h1', h2, blO, dAug, i2, Tw.ret, dExpr, dMeth, isLs, inL, dCons, dNil, appF, mx, hz']
      rfl
    · have h2' : (w == "out") = false := by simpa using h2
      simp [b_depths, dSeq, dIfS, dTest, d2, dV, dC, pur2, bnd, lft, pur, hi, e1, e2, h1', h2', blO, dAug, i2, Tw.ret, dExpr, dMeth, isLs, inL, dCons, dNil, appF, mx, hz', dNext]
theorem loop_depths (t : D) : ∀ (xs : List D), xs.all isS = true → ∀ (c : Int) (u : Option D) (acc : List D), acc.length + xs.length ≤ mx → ∃ c' u', bodyL (gN 3) b_depths xs [some t, some (.int c), some (.ref 0), u] [.lst acc] = some (.inr (.nx [some t, some (.int c'), some (.ref 0), u']), [.lst (acc ++ (dl c xs).map D.int)])
  | [], _, c, u, acc, _ => ⟨c, u, by simp [bodyL, dl, Tw.ret]⟩
  | d :: r, h, c, u, acc, hz => by
    simp only [List.all_cons, Bool.and_eq_true] at h
    simp only [List.length_cons] at hz
    obtain ⟨c', u', e⟩ := loop_depths t r h.2 (c + delta d) (some d) (acc ++ [.int (c + delta d)]) (by simp; omega)
    refine ⟨c', u', (body_nx (ρ1 := [some t, some (.int c), some (.ref 0), some d]) rfl (step_depths h.1 c acc (by omega))).trans ?_⟩
    rw [e]
    simp [dl]
theorem depths_ok {xs : List D} (h : xs.all isS = true) (hz : xs.length + 1 ≤ mx) : ∃ G, F_depths [.tup xs] [] = some (.inr (.tup (.int 0 :: (dl 0 xs).map D.int)), G) := by
  obtain ⟨c', u', e⟩ := loop_depths (.tup xs) xs h 0 none [.int 0] (by simp; omega)
  refine ⟨[.lst (.int 0 :: (dl 0 xs).map D.int)], run_rt ?_⟩
  refine (seq_nx (ρ1 := [some (.tup xs), some (.int 0), none, none]) (G1 := []) rfl).trans ?_
  refine (seq_nx (ρ1 := [some (.tup xs), some (.int 0), some (.ref 0), none]) (G1 := [.lst [.int 0]]) rfl).trans ?_
  refine (seq_nx (ρ1 := [some (.tup xs), some (.int c'), some (.ref 0), u']) (G1 := [.lst (.int 0 :: (dl 0 xs).map D.int)]) ((for_eq (es := xs) (G1 := [.lst [.int 0]]) rfl).trans e)).trans ?_
  rfl
/-- never below 0, at last 0 -/
def walk (c : Int) : List D → Option Int
  | [] => some c
  | d :: r => if 0 ≤ c + delta d then walk (c + delta d) r else none
theorem walk_app : ∀ (xs ys : List D) (c : Int), walk c (xs ++ ys) = (walk c xs).bind fun e => walk e ys
  | [], ys, c => rfl
  | d :: r, ys, c => by
    simp only [List.cons_append, walk]
    split
    · exact walk_app r ys _
    · rfl
theorem walk_dl : ∀ (xs : List D) (c e : Int), 0 ≤ c → walk c xs = some e → (∀ i ∈ dl c xs, 0 ≤ i) ∧ (c :: dl c xs).getLast? = some e
  | [], c, e, hc, h => by
    cases h
    exact ⟨fun i hi => absurd hi (by simp [dl]), rfl⟩
  | d :: r, c, e, hc, h => by
    simp only [walk] at h
    split at h
    · rename_i h0
      obtain ⟨h1, h2⟩ := walk_dl r _ e h0 h
      refine ⟨fun i hi => ?_, ?_⟩
      · rcases List.mem_cons.mp (show i ∈ (c + delta d) :: dl (c + delta d) r from hi) with rfl | hi
        · exact h0
        · exact h1 i hi
      · show (c :: (c + delta d) :: dl (c + delta d) r).getLast? = some e
        rw [List.getLast?_cons_cons]
        exact h2
    · cases h
theorem ints_map : ∀ l : List Int, intsO (l.map D.int) = some l
  | [] => rfl
  | i :: l => by simp [intsO, ints_map l]
theorem fold_min : ∀ (l : List Int), (∀ i ∈ l, 0 ≤ i) → l.foldl min 0 = 0
  | [], _ => rfl
  | i :: l, h => by
    have h0 := h i List.mem_cons_self
    rw [List.foldl_cons, Int.min_eq_left h0]
    exact fold_min l fun j hj => h j (List.mem_cons_of_mem _ hj)
theorem ex_wp {A : Type} {m : M A} {G : List O} {Q : A → Prop} (h : WP m G fun a _ => Q a) : ∃ a, Q a ∧ ∃ G', m G = some (.inr a, G') := let ⟨a, G', e, q⟩ := h; ⟨a, q, G', e⟩
/-- a call answers v -/
def Ans (F : List D → M D) (ds : List D) (v : D) : Prop := WP (F ds) [] fun d _ => d = v
theorem w_ans {F : List D → M D} {ea : En → M (List D)} {ρ : En} {G : List O} {Q : D → List O → Prop} (h : WP (ea ρ) G fun ds G1 => noRs ds = true ∧ ∃ v, Ans F ds v ∧ noR v = true ∧ Q v G1) : WP (dFp F ea ρ) G Q :=
  w_Fp (h.imp fun ds G1 ⟨n, v, an, nv, q⟩ => ⟨n, an.imp fun d _ e => by subst e; exact ⟨nv, q⟩⟩)
theorem Ans.of {F : List D → M D} {ds : List D} {v : D} (h : ∃ G, F ds [] = some (.inr v, G)) : Ans F ds v := let ⟨G, e⟩ := h; ⟨v, G, e, rfl⟩
theorem shields_ok {xs : List D} (h : xs.all isS = true) (hz : xs.length + 1 ≤ mx) {e : Int} (w : walk 0 xs = some e) : Ans F_shields_close [.tup xs] (.bl (decide (e = 0))) := by
  obtain ⟨h1, h2⟩ := walk_dl xs 0 e (Int.le_refl 0) w
  obtain ⟨Gd, ed⟩ := depths_ok h hz
  have nr : noR (.tup (.int 0 :: (dl 0 xs).map D.int)) = true := by
    have z : ∀ l : List Int, noRs (l.map D.int) = true := fun l => by
      induction l with
      | nil => rfl
      | cons i l ih => simp [noRs, noR, ih]
    simp [noR, noRs, z]
  have nx : noRs [.tup xs] = true := by simp [noRs, noR, isS_nrs h]
  have mn : minTF (.int 0 :: (dl 0 xs).map D.int) = some (.int 0) := by
    unfold minTF
    have := ints_map (0 :: dl 0 xs)
    rw [List.map_cons] at this
    rw [this]
    show some (D.int ((dl 0 xs).foldl min 0)) = _
    rw [fold_min _ h1]
  have lst : atI (.int 0 :: (dl 0 xs).map D.int) (-1) = some (.int e) := by
    have el : (.int 0 :: (dl 0 xs).map D.int : List D) = (0 :: dl 0 xs).map D.int := rfl
    rw [el]
    unfold atI ixN
    have l1 : (((0 :: dl 0 xs).map D.int).length : Int) ≥ 1 := by simp; omega
    rw [if_neg (by omega), if_pos (by omega)]
    have l2 : (-1 + (((0 :: dl 0 xs).map D.int).length : Int)).toNat = (0 :: dl 0 xs).length - 1 := by simp; omega
    simp only [Option.bind_some]
    rw [l2, List.getElem?_map, ← List.getLast?_eq_getElem?, h2]
    rfl
  refine w_run ?_
  refine w_seq (w_asg (w_ans ?_))
  (repeat (first | (with_reducible first | refine w_v rfl ?_ | refine w_c ?_ | refine w_d2 ?_ | refine w_cons ?_ | refine w_nil ?_ | refine w_call ?_ | refine w_tup ?_ | refine w_tpn ?_ | refine w_lst ?_ | refine w_lstM ?_ | refine w_wk ?_ | refine w_frz ?_ | refine w_meth ?_ | refine w_test ?_ | refine w_notT ?_ | refine w_andT ?_ | refine w_orT ?_ | refine w_yes ?_ | refine w_and ?_ | refine w_or ?_ | refine w_not ?_ | refine w_if ?_ | refine w_ifS ?_ | refine w_seq ?_ | refine w_next ?_ | refine w_cnt ?_ | refine w_ret ?_ | refine w_expr ?_ | refine w_asg ?_ | refine w_par ?_ | refine w_F ?_ | refine w_Fp ?_ | refine w_itL ?_ | refine w_itT ?_ | refine w_itK ?_ | refine w_rng ?_ | refine w_neg ?_ | refine w_dput ?_ | refine w_newD ?_) | refine ⟨_, _, rfl, ?_⟩ | refine ⟨_, rfl, ?_⟩))
  refine ⟨nx, _, Ans.of ⟨_, ed⟩, nr, _, _, rfl, ?_⟩
  show WP _ _ _
  (repeat (first | (with_reducible first | refine w_v rfl ?_ | refine w_c ?_ | refine w_d2 ?_ | refine w_cons ?_ | refine w_nil ?_ | refine w_call ?_ | refine w_tup ?_ | refine w_tpn ?_ | refine w_lst ?_ | refine w_lstM ?_ | refine w_wk ?_ | refine w_frz ?_ | refine w_meth ?_ | refine w_test ?_ | refine w_notT ?_ | refine w_andT ?_ | refine w_orT ?_ | refine w_yes ?_ | refine w_and ?_ | refine w_or ?_ | refine w_not ?_ | refine w_if ?_ | refine w_ifS ?_ | refine w_seq ?_ | refine w_next ?_ | refine w_cnt ?_ | refine w_ret ?_ | refine w_expr ?_ | refine w_asg ?_ | refine w_par ?_ | refine w_F ?_ | refine w_Fp ?_ | refine w_itL ?_ | refine w_itT ?_ | refine w_itK ?_ | refine w_rng ?_ | refine w_neg ?_ | refine w_dput ?_ | refine w_newD ?_) | refine ⟨_, _, rfl, ?_⟩ | refine ⟨_, rfl, ?_⟩))
  refine ⟨_, _, by show tP minTF [_] _ = _; unfold tP; simp only [mn]; rfl, ?_⟩
  (repeat (first | (with_reducible first | refine w_v rfl ?_ | refine w_c ?_ | refine w_d2 ?_ | refine w_cons ?_ | refine w_nil ?_ | refine w_call ?_ | refine w_tup ?_ | refine w_tpn ?_ | refine w_lst ?_ | refine w_lstM ?_ | refine w_wk ?_ | refine w_frz ?_ | refine w_meth ?_ | refine w_test ?_ | refine w_notT ?_ | refine w_andT ?_ | refine w_orT ?_ | refine w_yes ?_ | refine w_and ?_ | refine w_or ?_ | refine w_not ?_ | refine w_if ?_ | refine w_ifS ?_ | refine w_seq ?_ | refine w_next ?_ | refine w_cnt ?_ | refine w_ret ?_ | refine w_expr ?_ | refine w_asg ?_ | refine w_par ?_ | refine w_F ?_ | refine w_Fp ?_ | refine w_itL ?_ | refine w_itT ?_ | refine w_itK ?_ | refine w_rng ?_ | refine w_neg ?_ | refine w_dput ?_ | refine w_newD ?_) | refine ⟨_, _, rfl, ?_⟩ | refine ⟨_, rfl, ?_⟩))
  refine ⟨fun _ => ?_, fun c => absurd c (by simp [PyData.eqv])⟩
  (repeat (first | (with_reducible first | refine w_v rfl ?_ | refine w_c ?_ | refine w_d2 ?_ | refine w_cons ?_ | refine w_nil ?_ | refine w_call ?_ | refine w_tup ?_ | refine w_tpn ?_ | refine w_lst ?_ | refine w_lstM ?_ | refine w_wk ?_ | refine w_frz ?_ | refine w_meth ?_ | refine w_test ?_ | refine w_notT ?_ | refine w_andT ?_ | refine w_orT ?_ | refine w_yes ?_ | refine w_and ?_ | refine w_or ?_ | refine w_not ?_ | refine w_if ?_ | refine w_ifS ?_ | refine w_seq ?_ | refine w_next ?_ | refine w_cnt ?_ | refine w_ret ?_ | refine w_expr ?_ | refine w_asg ?_ | refine w_par ?_ | refine w_F ?_ | refine w_Fp ?_ | refine w_itL ?_ | refine w_itT ?_ | refine w_itK ?_ | refine w_rng ?_ | refine w_neg ?_ | refine w_dput ?_ | refine w_newD ?_) | refine ⟨_, _, rfl, ?_⟩ | refine ⟨_, rfl, ?_⟩))
  refine ⟨.int e, [], by show ixO (.tup _) (.int (-1)) _ = _; unfold ixO; simp only [lst, pur], ?_⟩
  (repeat (first | (with_reducible first | refine w_v rfl ?_ | refine w_c ?_ | refine w_d2 ?_ | refine w_cons ?_ | refine w_nil ?_ | refine w_call ?_ | refine w_tup ?_ | refine w_tpn ?_ | refine w_lst ?_ | refine w_lstM ?_ | refine w_wk ?_ | refine w_frz ?_ | refine w_meth ?_ | refine w_test ?_ | refine w_notT ?_ | refine w_andT ?_ | refine w_orT ?_ | refine w_yes ?_ | refine w_and ?_ | refine w_or ?_ | refine w_not ?_ | refine w_if ?_ | refine w_ifS ?_ | refine w_seq ?_ | refine w_next ?_ | refine w_cnt ?_ | refine w_ret ?_ | refine w_expr ?_ | refine w_asg ?_ | refine w_par ?_ | refine w_F ?_ | refine w_Fp ?_ | refine w_itL ?_ | refine w_itT ?_ | refine w_itK ?_ | refine w_rng ?_ | refine w_neg ?_ | refine w_dput ?_ | refine w_newD ?_) | refine ⟨_, _, rfl, ?_⟩ | refine ⟨_, rfl, ?_⟩))
  by_cases h0 : e = 0
  · subst h0; rfl
  · simp [PyData.eqv, h0]
/-! is_step -/
def okS (d : D) : Bool := match F_is_step [d] [] with
  | some (.inr (.bl true), _) => true
  | _ => false
theorem okS_ans {d : D} (h : okS d = true) : Ans F_is_step [d] (.bl true) := by
  unfold okS at h
  split at h
  · rename_i G e
    exact ⟨_, G, e, rfl⟩
  · cases h
theorem bls_rep : ∀ n, blsO (List.replicate n (.bl true)) = some (List.replicate n true)
  | 0 => rfl
  | n + 1 => by simp [List.replicate_succ, blsO, bls_rep n]
theorem all_rep (n : Nat) : allF (List.replicate n (.bl true)) = some (.bl true) := by
  simp [allF, bls_rep]
/-- a comprehension over ds whose parts are all true, without any change -/
theorem w_allT {di : En → M (List D)} {g : D → En → P1 En} {a : En → M D} {own : List Nat} {ρ : En} {G : List O} {Q : D → List O → Prop} {ds : List D} (hd : WP (di ρ) G fun es G1 => es = ds ∧ G1 = G) (hz : ds.length ≤ mx)
    (h : ∀ d ∈ ds, ∃ ρ1, g d (wipeD ρ own) G = some (ρ1, G) ∧ WP (a ρ1) G fun v G1 => v = .bl true ∧ G1 = G) (q : Q (.bl true) G) : WP (dCall (lP allF) (dCons (dLc di g dYes a own) dNil) ρ) G Q := by
  refine w_call (w_cons (w_lc (fun es ys G1 => G1 = G ∧ (∀ d ∈ es, d ∈ ds) ∧ ys = List.replicate ys.length (.bl true) ∧ ys.length + es.length = ds.length) ?_ ?_ ?_))
  · refine hd.imp fun es G1 ⟨e1, e2⟩ => ?_
    subst e1
    exact ⟨e2, fun d h => h, rfl, by simp⟩
  · rintro d r ys G1 ⟨rfl, hm, hy, hl⟩
    obtain ⟨ρ1, e, w⟩ := h d (hm d List.mem_cons_self)
    refine ⟨ρ1, _, e, w_yes ⟨fun _ => w.imp fun v G2 ⟨hv, hG⟩ => ⟨hG, fun x hx => hm x (List.mem_cons_of_mem _ hx), ?_, ?_⟩, fun c => by cases c⟩⟩
    · rw [hv, List.length_append]
      show ys ++ [.bl true] = List.replicate (ys.length + 1) _
      rw [List.replicate_succ', ← hy]
    · simp only [List.length_append, List.length_cons, List.length_nil] at hl ⊢
      omega
  · rintro ys G1 ⟨rfl, _, hy, hl⟩
    refine ⟨by simp at hl; omega, w_nil ⟨.bl true, G1, ?_, q⟩⟩
    rw [hy]
    simp [lP, inL, all_rep]
theorem script_any {xs : List D} (h : xs.all isS = true) (ok : xs.all okS = true) (hz : xs.length + 1 ≤ mx) {e : Int} (w : walk 0 xs = some e) : Ans F_is_script [.tup xs] (.bl (decide (e = 0))) := by
  refine w_run ?_
  unfold ds_is_script
  (repeat (first | (with_reducible first | refine w_v rfl ?_ | refine w_c ?_ | refine w_d2 ?_ | refine w_cons ?_ | refine w_nil ?_ | refine w_call ?_ | refine w_tup ?_ | refine w_tpn ?_ | refine w_lst ?_ | refine w_lstM ?_ | refine w_wk ?_ | refine w_frz ?_ | refine w_meth ?_ | refine w_test ?_ | refine w_notT ?_ | refine w_andT ?_ | refine w_orT ?_ | refine w_yes ?_ | refine w_and ?_ | refine w_or ?_ | refine w_not ?_ | refine w_if ?_ | refine w_ifS ?_ | refine w_seq ?_ | refine w_next ?_ | refine w_cnt ?_ | refine w_ret ?_ | refine w_expr ?_ | refine w_asg ?_ | refine w_par ?_ | refine w_F ?_ | refine w_Fp ?_ | refine w_itL ?_ | refine w_itT ?_ | refine w_itK ?_ | refine w_rng ?_ | refine w_neg ?_ | refine w_dput ?_ | refine w_newD ?_) | refine ⟨_, _, rfl, ?_⟩ | refine ⟨_, rfl, ?_⟩))
  refine ⟨fun _ => w_and ?_, fun c => by cases c⟩
  refine w_allT (ds := xs) ?_ (by omega) (fun d hd => ?_) ?_
  · (repeat (first | (with_reducible first | refine w_v rfl ?_ | refine w_c ?_ | refine w_d2 ?_ | refine w_cons ?_ | refine w_nil ?_ | refine w_call ?_ | refine w_tup ?_ | refine w_tpn ?_ | refine w_lst ?_ | refine w_lstM ?_ | refine w_wk ?_ | refine w_frz ?_ | refine w_meth ?_ | refine w_test ?_ | refine w_notT ?_ | refine w_andT ?_ | refine w_orT ?_ | refine w_yes ?_ | refine w_and ?_ | refine w_or ?_ | refine w_not ?_ | refine w_if ?_ | refine w_ifS ?_ | refine w_seq ?_ | refine w_next ?_ | refine w_cnt ?_ | refine w_ret ?_ | refine w_expr ?_ | refine w_asg ?_ | refine w_par ?_ | refine w_F ?_ | refine w_Fp ?_ | refine w_itL ?_ | refine w_itT ?_ | refine w_itK ?_ | refine w_rng ?_ | refine w_neg ?_ | refine w_dput ?_ | refine w_newD ?_) | refine ⟨_, _, rfl, ?_⟩ | refine ⟨_, rfl, ?_⟩))
    exact ⟨rfl, rfl⟩
  · refine ⟨_, rfl, w_ans ?_⟩
    (repeat (first | (with_reducible first | refine w_v rfl ?_ | refine w_c ?_ | refine w_d2 ?_ | refine w_cons ?_ | refine w_nil ?_ | refine w_call ?_ | refine w_tup ?_ | refine w_tpn ?_ | refine w_lst ?_ | refine w_lstM ?_ | refine w_wk ?_ | refine w_frz ?_ | refine w_meth ?_ | refine w_test ?_ | refine w_notT ?_ | refine w_andT ?_ | refine w_orT ?_ | refine w_yes ?_ | refine w_and ?_ | refine w_or ?_ | refine w_not ?_ | refine w_if ?_ | refine w_ifS ?_ | refine w_seq ?_ | refine w_next ?_ | refine w_cnt ?_ | refine w_ret ?_ | refine w_expr ?_ | refine w_asg ?_ | refine w_par ?_ | refine w_F ?_ | refine w_Fp ?_ | refine w_itL ?_ | refine w_itT ?_ | refine w_itK ?_ | refine w_rng ?_ | refine w_neg ?_ | refine w_dput ?_ | refine w_newD ?_) | refine ⟨_, _, rfl, ?_⟩ | refine ⟨_, rfl, ?_⟩))
    exact ⟨by simp [noRs, isS_nr (List.all_eq_true.mp h d hd)], _, okS_ans (List.all_eq_true.mp ok d hd), rfl, rfl, rfl⟩
  · refine ⟨true, rfl, fun _ => w_ans ?_, fun c => by cases c⟩
    (repeat (first | (with_reducible first | refine w_v rfl ?_ | refine w_c ?_ | refine w_d2 ?_ | refine w_cons ?_ | refine w_nil ?_ | refine w_call ?_ | refine w_tup ?_ | refine w_tpn ?_ | refine w_lst ?_ | refine w_lstM ?_ | refine w_wk ?_ | refine w_frz ?_ | refine w_meth ?_ | refine w_test ?_ | refine w_notT ?_ | refine w_andT ?_ | refine w_orT ?_ | refine w_yes ?_ | refine w_and ?_ | refine w_or ?_ | refine w_not ?_ | refine w_if ?_ | refine w_ifS ?_ | refine w_seq ?_ | refine w_next ?_ | refine w_cnt ?_ | refine w_ret ?_ | refine w_expr ?_ | refine w_asg ?_ | refine w_par ?_ | refine w_F ?_ | refine w_Fp ?_ | refine w_itL ?_ | refine w_itT ?_ | refine w_itK ?_ | refine w_rng ?_ | refine w_neg ?_ | refine w_dput ?_ | refine w_newD ?_) | refine ⟨_, _, rfl, ?_⟩ | refine ⟨_, rfl, ?_⟩))
    exact ⟨by simp [noRs, noR, isS_nrs h], _, shields_ok h hz w, rfl, _, rfl, rfl⟩
end K01

namespace K01
open PySem PySem.Spec PyProof.Rows L2 Tw
/-! ### what names what -/
abbrev Rw := Str × Str × List D
def toR (r : Rw) : D := .tup [.str r.1, .str r.2.1, .tup r.2.2]
def arg : D → Str
  | .tup (_ :: .str a :: _) => a
  | _ => ""
def isA : D → Bool
  | .tup (_ :: .str _ :: _) => true
  | _ => false
/-- what is named, by the step with this number of this task -/
abbrev It := Str × Str × Nat
def itD (t : It) : D := .tup [.str t.1, .tup [.str t.2.1, .int t.2.2]]
def nmS (n : Str) (ws : List Str) : Nat → List D → List It
  | _, [] => []
  | i, d :: r => if ws.contains (wrd d) = true then (arg d, n, i) :: nmS n ws (i + 1) r else nmS n ws (i + 1) r
def nm (ws : List Str) (rows : List Rw) : List It := rows.flatMap fun r => nmS r.1 ws 0 r.2.2
def okA (ws : List Str) (d : D) : Bool := isS d && (!(ws.contains (wrd d)) || isA d)
theorem fl_all (ws : List Str) : (ws.map D.str).all flatD = true := by
  induction ws with
  | nil => rfl
  | cons w ws ih => simp [flatD, ih]
theorem fl_any (ws : List Str) (x : Str) : ((ws.map D.str).any fun z => eqFl z (.str x)) = ws.contains x := by
  induction ws with
  | nil => rfl
  | cons w ws ih =>
    rw [List.map_cons, List.any_cons, ih, List.contains_cons]
    congr 1
    by_cases h : x = w
    · subst h; simp [eqFl]
    · have h2 : ¬ w = x := fun e => h e.symm
      simp only [eqFl]
      rw [beq_eq_false_iff_ne.mpr h, beq_eq_false_iff_ne.mpr h2]
theorem inO_str (ws : List Str) (x : Str) : inO false (.str x) (.tup (ws.map .str)) = some (.bl (ws.contains x)) := by
  have h0 : flatD (.str x) = true := rfl
  unfold inO
  simp only [h0, fl_all, fl_any, Bool.and_self, if_true]
  try rfl
theorem inO_strN (ws : List Str) (x : Str) : inO true (.str x) (.tup (ws.map .str)) = some (.bl (!(ws.contains x))) := by
  have h0 : flatD (.str x) = true := rfl
  unfold inO
  simp only [h0, fl_all, fl_any, Bool.and_self, if_true]
  try rfl
theorem inO_strL (ws : List Str) (x : Str) : inO false (.str x) (.lst (ws.map .str)) = some (.bl (ws.contains x)) := by
  have h0 : flatD (.str x) = true := rfl
  unfold inO
  simp only [h0, fl_all, fl_any, Bool.and_self, if_true]
  try rfl
theorem inO_strLN (ws : List Str) (x : Str) : inO true (.str x) (.lst (ws.map .str)) = some (.bl (!(ws.contains x))) := by
  have h0 : flatD (.str x) = true := rfl
  unfold inO
  simp only [h0, fl_all, fl_any, Bool.and_self, if_true]
  try rfl
abbrev nm_g : D → En → P1 En := gT 2 (gsCons (gN 3) (gsCons (gN 4) gsNil))
abbrev nm_t : En → M Bool := dTest (d2 (pur2 (inO false)) (d2 ixO (dV 4) (dC (.int 0))) (dV 1))
abbrev nm_a : En → M D := dTup (dCons (d2 ixO (dV 4) (dC (.int 1))) (dCons (dTup (dCons (d2 ixO (dV 2) (dC (.int 0))) (dCons (dV 3) dNil))) dNil))
theorem lc_nm (rs : D) (ws : List Str) (r : Rw) (G : List O) : ∀ (xs : List D) (k : Nat), xs.all (okA ws) = true →
    lcL nm_g nm_t nm_a [some rs, some (.tup (ws.map .str)), some (toR r), none, none] ((xs.zipIdx k).map fun p => .tup [.int (p.2 : Nat), p.1]) G = some (.inr ((nmS r.1 ws k xs).map itD), G)
  | [], k, _ => rfl
  | d :: xs, k, h => by
    simp only [List.all_cons, Bool.and_eq_true] at h
    have ih := lc_nm rs ws r G xs (k + 1) h.2
    have hd := h.1
    unfold okA at hd
    obtain ⟨hd1, hd2⟩ := Bool.and_eq_true_iff.mp hd
    obtain ⟨w, rr, rfl, hw, e⟩ := isS_eq hd1
    have i0 := ix0 w rr G
    have ii := inO_str ws w
    rw [e] at hd2
    simp only [List.zipIdx_cons, List.map_cons, lcL, nmS, e]
    by_cases hc : ws.contains w = true
    · have hm : w ∈ ws := by simpa using hc
      rw [hc] at hd2 ii
      have ha : isA (.tup (.str w :: rr)) = true := by simpa using hd2
      cases rr with
      | nil => cases ha
      | cons a0 rr =>
        obtain ⟨a, rfl⟩ : ∃ a, a0 = D.str a := by
          unfold isA at ha
          split at ha
          · rename_i heq; cases heq; exact ⟨_, rfl⟩
          · cases ha
        have i1 : ixO (.tup (.str w :: .str a :: rr)) (.int 1) G = some (.str a, G) := by
          have h : atI (.str w :: .str a :: rr) 1 = some (D.str a) := by
            unfold atI ixN
            rw [if_pos (by omega), if_pos (by simp; omega)]
            simp
          unfold ixO
          simp only [h, pur]
        have i2 : ixO (toR r) (.int 0) G = some (.str r.1, G) := ix0 r.1 _ G
        simp [bndN, lft, gT, gsCons, gN, gsNil, dTest, d2, dV, dC, pur2, bnd, pur, i0, i1, i2, ii, hm, blO, dTup, dCons, dNil, Tw.ret, tupO, mx, ih, arg, itD]
    · have hc' : ws.contains w = false := by simpa using hc
      have hm : ¬ w ∈ ws := by simpa using hc'
      rw [hc'] at ii
      simp [bndN, lft, gT, gsCons, gN, gsNil, dTest, d2, dV, dC, pur2, bnd, pur, i0, ii, hm, blO, Tw.ret, ih]
theorem lc2_nm (rs : D) (ws : List Str) (G : List O) : ∀ rows : List Rw, (∀ r ∈ rows, r.2.2.all (okA ws) = true) →
    lc2L (gN 2) dYes (dRng enumT1 (dCons (d2 ixO (dV 2) (dC (.int 2))) dNil)) nm_g nm_t nm_a [3, 4] [some rs, some (.tup (ws.map .str)), none, none, none] (rows.map toR) G = some (.inr ((nm ws rows).map itD), G)
  | [], _ => rfl
  | r :: rows, h => by
    have ih := lc2_nm rs ws G rows fun q hq => h q (List.mem_cons_of_mem _ hq)
    have l := lc_nm rs ws r G r.2.2 0 (h r List.mem_cons_self)
    have i2 : ixO (toR r) (.int 2) G = some (.tup r.2.2, G) := rfl
    have e : nm ws (r :: rows) = nmS r.1 ws 0 r.2.2 ++ nm ws rows := by simp [nm]
    rw [e, List.map_cons, List.map_append, lc2L]
    simp only [bndN, lft, gN, dYes, Tw.ret, dRng, dCons, d2, dV, dC, dNil, bnd, pur, wipeD, List.set_cons_succ, List.set_cons_zero, List.getElem?_cons_succ, List.getElem?_cons_zero, i2, enumT1, itT, Option.map_some, enumD, l, ih, if_true]
theorem naming_ok {rows : List Rw} {ws : List Str} (h : ∀ r ∈ rows, r.2.2.all (okA ws) = true) (hz : (nm ws rows).length ≤ mx) : Ans F_naming_marks [.tup (rows.map toR), .tup (ws.map .str)] (.lst ((nm ws rows).map itD)) := by
  refine w_run (w_ret ?_)
  refine WP.bnd (WP.of (a := rows.map toR) (G1 := []) rfl (WP.bndN (WP.of (a := (nm ws rows).map itD) (G1 := []) (lc2_nm _ ws [] rows h) (WP.pur (by unfold lstO; rw [if_pos (by rw [List.length_map]; exact hz)]) ⟨_, rfl, rfl⟩))))
end K01

namespace K01
open PySem PySem.Spec PyProof.Rows L2 Tw
/-! ### whether all hangs together -/
theorem bls_map (f : D → Bool) : ∀ ds : List D, blsO (ds.map fun d => .bl (f d)) = some (ds.map f)
  | [] => rfl
  | d :: r => by simp [blsO, bls_map f r]
theorem all_map (f : D → Bool) (ds : List D) : allF (ds.map fun d => .bl (f d)) = some (.bl (ds.all f)) := by
  simp [allF, bls_map, List.all_map]
theorem all_mapA {α : Type} (f : α → Bool) (l : List α) : allF (l.map fun p => .bl (f p)) = some (.bl (l.all f)) := by
  have : ∀ l : List α, blsO (l.map fun p => .bl (f p)) = some (l.map f) := fun l => by
    induction l with
    | nil => rfl
    | cons p l ih => simp [blsO, ih]
  simp [allF, this, List.all_map]
theorem w_allA {α : Type} {di : En → M (List D)} {g : D → En → P1 En} {a : En → M D} {own : List Nat} {ρ : En} {G : List O} {Q : D → List O → Prop} (l : List α) (e : α → D) (f : α → Bool) (hd : WP (di ρ) G fun es G1 => es = l.map e ∧ G1 = G) (hz : l.length ≤ mx)
    (h : ∀ p ∈ l, ∃ ρ1, g (e p) (wipeD ρ own) G = some (ρ1, G) ∧ WP (a ρ1) G fun v G1 => v = .bl (f p) ∧ G1 = G) (q : Q (.bl (l.all f)) G) : WP (dCall (lP allF) (dCons (dLc di g dYes a own) dNil) ρ) G Q := by
  refine w_call (w_cons (w_lc (fun es ys G1 => G1 = G ∧ ∃ ps rs, l = ps ++ rs ∧ es = rs.map e ∧ ys = ps.map fun p => .bl (f p)) ?_ ?_ ?_))
  · refine hd.imp fun es G1 ⟨e1, e2⟩ => ?_
    subst e1
    exact ⟨e2, [], l, rfl, rfl, rfl⟩
  · rintro d r ys G1 ⟨rfl, ps, rs, hm, he, hy⟩
    cases rs with
    | nil => cases he
    | cons p rs =>
      cases he
      obtain ⟨ρ1, e1, w⟩ := h p (by rw [hm]; simp)
      refine ⟨ρ1, _, e1, w_yes ⟨fun _ => w.imp fun v G2 ⟨hv, hG⟩ => ⟨hG, ps ++ [p], rs, by rw [hm]; simp, rfl, ?_⟩, fun c => by cases c⟩⟩
      rw [hv, hy, List.map_append]
      rfl
  · rintro ys G1 ⟨rfl, ps, rs, hm, he, hy⟩
    have : rs = [] := by cases rs with | nil => rfl | cons => cases he
    subst this
    rw [List.append_nil] at hm
    subst hm
    refine ⟨by rw [hy, List.length_map]; exact hz, w_nil ⟨.bl (l.all f), G1, ?_, q⟩⟩
    rw [hy]
    simp [lP, inL, all_mapA]
theorem nd_key {α : Type} (f : α → Str) (g : α → Key × D) (e : ∀ a, (g a).1 = .inr (f a)) : ∀ {l : List α}, (l.map f).Nodup → ((l.map g).map (·.1)).Nodup
  | [], _ => .nil
  | a :: l, h => by
    rw [List.map_cons, List.nodup_cons] at h
    rw [List.map_cons, List.map_cons, List.nodup_cons]
    refine ⟨fun hm => ?_, nd_key f g e h.2⟩
    obtain ⟨p, hp, hk⟩ := List.mem_map.mp hm
    obtain ⟨b, hb, rfl⟩ := List.mem_map.mp hp
    rw [e, e] at hk
    exact h.1 (List.mem_map.mpr ⟨b, hb, Sum.inr.inj hk⟩)
theorem lookK_none {l : List (Key × D)} {k : Key} (h : k ∉ l.map (·.1)) : lookK l k = none := by
  unfold lookK
  rw [List.find?_eq_none.mpr]
  · rfl
  · intro x hx e
    exact h (List.mem_map.mpr ⟨x, hx, by simpa using e⟩)
theorem lookK_mem {l : List (Key × D)} {k : Key} (h : k ∈ l.map (·.1)) : ∃ v, lookK l k = some v := by
  unfold lookK
  cases e : l.find? fun kv => decide (kv.1 = k) with
  | some p => exact ⟨p.2, rfl⟩
  | none =>
    obtain ⟨p, hp, hk⟩ := List.mem_map.mp h
    have := List.find?_eq_none.mp e p hp
    exact absurd hk (by simpa using this)
theorem lookK_eq {l : List (Key × D)} {k : Key} {v : D} (nd : (l.map (·.1)).Nodup) (h : (k, v) ∈ l) : lookK l k = some v := by
  unfold lookK
  induction l with
  | nil => cases h
  | cons p l ih =>
    rw [List.map_cons, List.nodup_cons] at nd
    rcases List.mem_cons.mp h with e | h
    · subst e; simp [List.find?_cons]
    · have : p.1 ≠ k := fun e => nd.1 (List.mem_map.mpr ⟨(k, v), h, e.symm⟩)
      rw [List.find?_cons, decide_eq_false this]
      exact ih nd.2 h
theorem put_new {l : List (Key × D)} {k : Key} {v : D} (h : k ∉ l.map (·.1)) : putKD l k v = l ++ [(k, v)] := by
  unfold putKD
  rw [if_neg]
  intro e
  obtain ⟨x, hx, hk⟩ := List.any_eq_true.mp e
  exact h (List.mem_map.mpr ⟨x, hx, by simpa using hk⟩)
def kvI (t : It) : Key × D := (.inr t.1, .tup [.str t.2.1, .int t.2.2])
abbrev b_sole : En → M Out := (dSeq (dIfS (dTest (d2 (dinP false) (dV 3) (dV 2))) (dRet (dC .non)) dNext) (dDput (dV 2) (dV 3) (dV 4)))
theorem din_eq {neg : Bool} {y x : D} {G : List O} {o : Option D} (h : dgetO x y G = some o) : dinP neg y x G = some (.bl (if neg then !o.isSome else o.isSome), G) := by
  unfold dinP
  rw [h]
theorem sole_ok {rows : List Rw} {ws : List Str} (h : ∀ r ∈ rows, r.2.2.all (okA ws) = true) (nr : noRs [.tup (rows.map toR), .tup (ws.map .str)] = true) (hz : (nm ws rows).length + 1 ≤ mx) (nd : ((nm ws rows).map (·.1)).Nodup) :
    Ans F_sole_marks [.tup (rows.map toR), .tup (ws.map .str)] (.dct ((nm ws rows).map kvI)) := by
  have nri : ∀ l : List It, noRs (l.map itD) = true := fun l => by
    induction l with
    | nil => rfl
    | cons t l ih => simp [noRs, noR, itD, ih]
  refine w_run ?_
  unfold ds_sole_marks
  refine w_seq (w_asg (w_newD ⟨_, _, rfl, ?_⟩))
  refine w_seq (w_for (w_itL (w_ans ?_)))
  (repeat (first | (with_reducible first | refine w_v rfl ?_ | refine w_c ?_ | refine w_d2 ?_ | refine w_cons ?_ | refine w_nil ?_ | refine w_call ?_ | refine w_tup ?_ | refine w_tpn ?_ | refine w_lst ?_ | refine w_lstM ?_ | refine w_wk ?_ | refine w_frz ?_ | refine w_meth ?_ | refine w_test ?_ | refine w_notT ?_ | refine w_andT ?_ | refine w_orT ?_ | refine w_yes ?_ | refine w_and ?_ | refine w_or ?_ | refine w_not ?_ | refine w_if ?_ | refine w_ifS ?_ | refine w_seq ?_ | refine w_next ?_ | refine w_cnt ?_ | refine w_ret ?_ | refine w_expr ?_ | refine w_asg ?_ | refine w_par ?_ | refine w_F ?_ | refine w_Fp ?_ | refine w_itL ?_ | refine w_itT ?_ | refine w_itK ?_ | refine w_rng ?_ | refine w_neg ?_ | refine w_dput ?_ | refine w_newD ?_) | refine ⟨_, _, rfl, ?_⟩ | refine ⟨_, rfl, ?_⟩))
  refine ⟨nr, _, naming_ok h (by omega), by simp [noR, nri], _, rfl, ?_⟩
  refine w_loop (fun ds ρ G => ∃ (P R : List It) (u3 u4 : Option D), nm ws rows = P ++ R ∧ ds = R.map itD ∧ ρ = [some (.tup (rows.map toR)), some (.tup (ws.map .str)), some (.ref 0), u3, u4] ∧ G = [.dct (P.map kvI)]) ?_ _ _ _ ⟨[], nm ws rows, none, none, rfl, rfl, rfl, rfl⟩ ?_
  · rintro d r ρ G ⟨P, R, u3, u4, hL, hd, rfl, rfl⟩
    cases R with
    | nil => cases hd
    | cons t R =>
      cases hd
      obtain ⟨x, n, i⟩ := t
      have fresh : (Sum.inr x : Key) ∉ (P.map kvI).map (·.1) := by
        intro hm
        rw [hL, List.map_append, List.nodup_append] at nd
        obtain ⟨p, hp, hk⟩ := List.mem_map.mp hm
        obtain ⟨q, hq, rfl⟩ := List.mem_map.mp hp
        have hk' : q.1 = x := by simpa [kvI] using hk
        exact nd.2.2 q.1 (List.mem_map.mpr ⟨q, hq, rfl⟩) x (by simp) hk'
      have g0 : dgetO (.ref 0) (.str x) [.dct (P.map kvI)] = some none := by
        show (match inD (.ref 0) [.dct (P.map kvI)], keyO (.str x) with | some kvs, some k => some (lookK kvs k) | _, _ => none) = _
        show some (lookK (P.map kvI) (.inr x)) = _
        rw [lookK_none fresh]
      have dp : dputP (.ref 0) (.str x) (.tup [.str n, .int i]) [.dct (P.map kvI)] = some ((), [.dct ((P ++ [(x, n, i)]).map kvI)]) := by
        have hl : (P.map kvI).length + 1 ≤ mx := by
          rw [List.length_map]
          rw [hL, List.length_append, List.length_cons] at hz
          omega
        unfold dputP
        simp only [keyO, List.getElem?_cons_zero]
        rw [if_pos hl, put_new fresh]
        simp [kvI]
      refine ⟨[some (.tup (rows.map toR)), some (.tup (ws.map .str)), some (.ref 0), some (.str x), some (.tup [.str n, .int i])], _, rfl, ?_⟩
      refine w_seq ?_
      (repeat (first | (with_reducible first | refine w_v rfl ?_ | refine w_c ?_ | refine w_d2 ?_ | refine w_cons ?_ | refine w_nil ?_ | refine w_call ?_ | refine w_tup ?_ | refine w_tpn ?_ | refine w_lst ?_ | refine w_lstM ?_ | refine w_wk ?_ | refine w_frz ?_ | refine w_meth ?_ | refine w_test ?_ | refine w_notT ?_ | refine w_andT ?_ | refine w_orT ?_ | refine w_yes ?_ | refine w_and ?_ | refine w_or ?_ | refine w_not ?_ | refine w_if ?_ | refine w_ifS ?_ | refine w_seq ?_ | refine w_next ?_ | refine w_cnt ?_ | refine w_ret ?_ | refine w_expr ?_ | refine w_asg ?_ | refine w_par ?_ | refine w_F ?_ | refine w_Fp ?_ | refine w_itL ?_ | refine w_itT ?_ | refine w_itK ?_ | refine w_rng ?_ | refine w_neg ?_ | refine w_dput ?_ | refine w_newD ?_) | refine ⟨_, _, rfl, ?_⟩ | refine ⟨_, rfl, ?_⟩))
      refine ⟨fun c => absurd c (by rw [lookK_none fresh]; simp), fun _ => w_next ?_⟩
      show WP _ _ _
      (repeat (first | (with_reducible first | refine w_v rfl ?_ | refine w_c ?_ | refine w_d2 ?_ | refine w_cons ?_ | refine w_nil ?_ | refine w_call ?_ | refine w_tup ?_ | refine w_tpn ?_ | refine w_lst ?_ | refine w_lstM ?_ | refine w_wk ?_ | refine w_frz ?_ | refine w_meth ?_ | refine w_test ?_ | refine w_notT ?_ | refine w_andT ?_ | refine w_orT ?_ | refine w_yes ?_ | refine w_and ?_ | refine w_or ?_ | refine w_not ?_ | refine w_if ?_ | refine w_ifS ?_ | refine w_seq ?_ | refine w_next ?_ | refine w_cnt ?_ | refine w_ret ?_ | refine w_expr ?_ | refine w_asg ?_ | refine w_par ?_ | refine w_F ?_ | refine w_Fp ?_ | refine w_itL ?_ | refine w_itT ?_ | refine w_itK ?_ | refine w_rng ?_ | refine w_neg ?_ | refine w_dput ?_ | refine w_newD ?_) | refine ⟨_, _, rfl, ?_⟩ | refine ⟨_, rfl, ?_⟩))
      refine ⟨_, _, dp, _, .inl rfl, P ++ [(x, n, i)], R, _, _, by rw [hL]; simp, rfl, rfl, rfl⟩
  · rintro ρ G ⟨P, R, u3, u4, hL, hd, rfl, rfl⟩
    have hR : R = [] := by cases R with | nil => rfl | cons => cases hd
    subst hR
    rw [List.append_nil] at hL
    show WP _ _ _
    (repeat (first | (with_reducible first | refine w_v rfl ?_ | refine w_c ?_ | refine w_d2 ?_ | refine w_cons ?_ | refine w_nil ?_ | refine w_call ?_ | refine w_tup ?_ | refine w_tpn ?_ | refine w_lst ?_ | refine w_lstM ?_ | refine w_wk ?_ | refine w_frz ?_ | refine w_meth ?_ | refine w_test ?_ | refine w_notT ?_ | refine w_andT ?_ | refine w_orT ?_ | refine w_yes ?_ | refine w_and ?_ | refine w_or ?_ | refine w_not ?_ | refine w_if ?_ | refine w_ifS ?_ | refine w_seq ?_ | refine w_next ?_ | refine w_cnt ?_ | refine w_ret ?_ | refine w_expr ?_ | refine w_asg ?_ | refine w_par ?_ | refine w_F ?_ | refine w_Fp ?_ | refine w_itL ?_ | refine w_itT ?_ | refine w_itK ?_ | refine w_rng ?_ | refine w_neg ?_ | refine w_dput ?_ | refine w_newD ?_) | refine ⟨_, _, rfl, ?_⟩ | refine ⟨_, rfl, ?_⟩))
    rw [hL]
end K01

namespace K01
open PySem PySem.Spec PyProof.Rows L2 Tw
/-- pairs of names as a dict's -/
def kvP (p : Str × Str) : Key × D := (.inr p.1, .str p.2)
/-- whether a group is closed by its host -/
def closedB (closers : List (Key × D)) (p : Str × Str) : Bool := match lookK closers (.inr p.1) with
  | some (.tup [.str h, _]) => h == p.2
  | _ => false
theorem noKk_P (hs : List (Str × Str)) : noKk (hs.map kvP) = true := by
  induction hs with
  | nil => rfl
  | cons p hs ih => simp [noKk, kvP, noK, ih]
theorem hosts_close_ok {hs : List (Str × Str)} {closers : List (Key × D)} (nd : (hs.map (·.1)).Nodup) (ok : ∀ p ∈ hs, PyData.strOk p.2 = true) (hz : hs.length ≤ mx)
    (hc : ∀ p ∈ hs, lookK closers (.inr p.1) = none ∨ ∃ h u, lookK closers (.inr p.1) = some (.tup [.str h, u]) ∧ PyData.strOk h = true) : Ans F_hosts_close [.dct (hs.map kvP), .dct closers] (.bl (hs.all (closedB closers))) := by
  refine w_run ?_
  unfold ds_hosts_close
  refine w_lock rfl (w_ret ?_)
  refine w_allA hs (fun p => .str p.1) (closedB closers) ?_ hz ?_ ?_
  · (repeat (first | (with_reducible first | refine w_v rfl ?_ | refine w_c ?_ | refine w_d2 ?_ | refine w_cons ?_ | refine w_nil ?_ | refine w_call ?_ | refine w_tup ?_ | refine w_tpn ?_ | refine w_lst ?_ | refine w_lstM ?_ | refine w_wk ?_ | refine w_frz ?_ | refine w_meth ?_ | refine w_test ?_ | refine w_notT ?_ | refine w_andT ?_ | refine w_orT ?_ | refine w_yes ?_ | refine w_and ?_ | refine w_or ?_ | refine w_not ?_ | refine w_if ?_ | refine w_ifS ?_ | refine w_seq ?_ | refine w_next ?_ | refine w_cnt ?_ | refine w_ret ?_ | refine w_expr ?_ | refine w_asg ?_ | refine w_par ?_ | refine w_F ?_ | refine w_Fp ?_ | refine w_itL ?_ | refine w_itT ?_ | refine w_itK ?_ | refine w_rng ?_ | refine w_neg ?_ | refine w_dput ?_ | refine w_newD ?_) | refine ⟨_, _, rfl, ?_⟩ | refine ⟨_, rfl, ?_⟩))
    refine ⟨?_, rfl⟩
    rw [List.map_map]
    rfl
  · intro p hp
    have eh : lookK (hs.map kvP) (.inr p.1) = some (.str p.2) := lookK_eq (nd_key (·.1) kvP (fun _ => rfl) nd) (List.mem_map.mpr ⟨p, hp, rfl⟩)
    refine ⟨_, rfl, ?_⟩
    unfold closedB
    rcases hc p hp with e | ⟨h, u, e, hk⟩
    · refine w_and ?_
      (repeat (first | (with_reducible first | refine w_v rfl ?_ | refine w_c ?_ | refine w_d2 ?_ | refine w_cons ?_ | refine w_nil ?_ | refine w_call ?_ | refine w_tup ?_ | refine w_tpn ?_ | refine w_lst ?_ | refine w_lstM ?_ | refine w_wk ?_ | refine w_frz ?_ | refine w_meth ?_ | refine w_test ?_ | refine w_notT ?_ | refine w_andT ?_ | refine w_orT ?_ | refine w_yes ?_ | refine w_and ?_ | refine w_or ?_ | refine w_not ?_ | refine w_if ?_ | refine w_ifS ?_ | refine w_seq ?_ | refine w_next ?_ | refine w_cnt ?_ | refine w_ret ?_ | refine w_expr ?_ | refine w_asg ?_ | refine w_par ?_ | refine w_F ?_ | refine w_Fp ?_ | refine w_itL ?_ | refine w_itT ?_ | refine w_itK ?_ | refine w_rng ?_ | refine w_neg ?_ | refine w_dput ?_ | refine w_newD ?_) | refine ⟨_, _, rfl, ?_⟩ | refine ⟨_, rfl, ?_⟩))
      rw [e]
      exact ⟨fun c => by simp at c, fun _ => ⟨rfl, rfl⟩⟩
    · refine w_and ?_
      (repeat (first | (with_reducible first | refine w_v rfl ?_ | refine w_c ?_ | refine w_d2 ?_ | refine w_cons ?_ | refine w_nil ?_ | refine w_call ?_ | refine w_tup ?_ | refine w_tpn ?_ | refine w_lst ?_ | refine w_lstM ?_ | refine w_wk ?_ | refine w_frz ?_ | refine w_meth ?_ | refine w_test ?_ | refine w_notT ?_ | refine w_andT ?_ | refine w_orT ?_ | refine w_yes ?_ | refine w_and ?_ | refine w_or ?_ | refine w_not ?_ | refine w_if ?_ | refine w_ifS ?_ | refine w_seq ?_ | refine w_next ?_ | refine w_cnt ?_ | refine w_ret ?_ | refine w_expr ?_ | refine w_asg ?_ | refine w_par ?_ | refine w_F ?_ | refine w_Fp ?_ | refine w_itL ?_ | refine w_itT ?_ | refine w_itK ?_ | refine w_rng ?_ | refine w_neg ?_ | refine w_dput ?_ | refine w_newD ?_) | refine ⟨_, _, rfl, ?_⟩ | refine ⟨_, rfl, ?_⟩))
      rw [e]
      refine ⟨fun _ => ?_, fun c => by simp at c⟩
      refine w_d2 (w_d2 (w_d2 ?_))
      (repeat (first | (with_reducible first | refine w_v rfl ?_ | refine w_c ?_ | refine w_d2 ?_ | refine w_cons ?_ | refine w_nil ?_ | refine w_call ?_ | refine w_tup ?_ | refine w_tpn ?_ | refine w_lst ?_ | refine w_lstM ?_ | refine w_wk ?_ | refine w_frz ?_ | refine w_meth ?_ | refine w_test ?_ | refine w_notT ?_ | refine w_andT ?_ | refine w_orT ?_ | refine w_yes ?_ | refine w_and ?_ | refine w_or ?_ | refine w_not ?_ | refine w_if ?_ | refine w_ifS ?_ | refine w_seq ?_ | refine w_next ?_ | refine w_cnt ?_ | refine w_ret ?_ | refine w_expr ?_ | refine w_asg ?_ | refine w_par ?_ | refine w_F ?_ | refine w_Fp ?_ | refine w_itL ?_ | refine w_itT ?_ | refine w_itK ?_ | refine w_rng ?_ | refine w_neg ?_ | refine w_dput ?_ | refine w_newD ?_) | refine ⟨_, _, rfl, ?_⟩ | refine ⟨_, rfl, ?_⟩))
      refine ⟨.tup [.str h, u], _, by unfold dgetP; simp only [dgetO, inD, keyO, e] <;> rfl, ?_⟩
      (repeat (first | (with_reducible first | refine w_v rfl ?_ | refine w_c ?_ | refine w_d2 ?_ | refine w_cons ?_ | refine w_nil ?_ | refine w_call ?_ | refine w_tup ?_ | refine w_tpn ?_ | refine w_lst ?_ | refine w_lstM ?_ | refine w_wk ?_ | refine w_frz ?_ | refine w_meth ?_ | refine w_test ?_ | refine w_notT ?_ | refine w_andT ?_ | refine w_orT ?_ | refine w_yes ?_ | refine w_and ?_ | refine w_or ?_ | refine w_not ?_ | refine w_if ?_ | refine w_ifS ?_ | refine w_seq ?_ | refine w_next ?_ | refine w_cnt ?_ | refine w_ret ?_ | refine w_expr ?_ | refine w_asg ?_ | refine w_par ?_ | refine w_F ?_ | refine w_Fp ?_ | refine w_itL ?_ | refine w_itT ?_ | refine w_itK ?_ | refine w_rng ?_ | refine w_neg ?_ | refine w_dput ?_ | refine w_newD ?_) | refine ⟨_, _, rfl, ?_⟩ | refine ⟨_, rfl, ?_⟩))
      refine ⟨.str p.2, _, by unfold dgetP; simp only [dgetO, inD, keyO, eh] <;> rfl, ?_⟩
      refine ⟨.bl (h == p.2), _, by unfold pur2 pur; rw [eqO_str hk (ok p hp)]; rfl, rfl, rfl⟩
  · show WP (unl 0 (.rt _)) _ _
    exact ⟨.rt _, [], rfl, _, rfl, rfl⟩
/-- what a task of a group wants -/
def StartOk (hosts closers starters : List (Key × D)) (r : Rw) : Prop := PyData.strOk r.2.1 = true ∧ (r.2.1 = "" ∨ ∃ (h : Str) (i j : Int) (c : D), PyData.strOk h = true ∧ lookK starters (.inr r.1) = some (.tup [.str h, .int i]) ∧ lookK hosts (.inr r.2.1) = some (.str h) ∧ lookK closers (.inr r.2.1) = some (.tup [c, .int j]) ∧ i ≤ j)
theorem ok_none : PyData.strOk "" = true := by decide +kernel
theorem hosts_start_ok {rows : List Rw} {hosts closers starters : List (Key × D)} (h : ∀ r ∈ rows, StartOk hosts closers starters r) : Ans F_hosts_start [.tup (rows.map toR), .dct hosts, .dct closers, .dcl starters] (.bl true) := by
  refine w_run ?_
  unfold ds_hosts_start
  refine w_seq (w_for ?_)
  (repeat (first | (with_reducible first | refine w_v rfl ?_ | refine w_c ?_ | refine w_d2 ?_ | refine w_cons ?_ | refine w_nil ?_ | refine w_call ?_ | refine w_tup ?_ | refine w_tpn ?_ | refine w_lst ?_ | refine w_lstM ?_ | refine w_wk ?_ | refine w_frz ?_ | refine w_meth ?_ | refine w_test ?_ | refine w_notT ?_ | refine w_andT ?_ | refine w_orT ?_ | refine w_yes ?_ | refine w_and ?_ | refine w_or ?_ | refine w_not ?_ | refine w_if ?_ | refine w_ifS ?_ | refine w_seq ?_ | refine w_next ?_ | refine w_cnt ?_ | refine w_ret ?_ | refine w_expr ?_ | refine w_asg ?_ | refine w_par ?_ | refine w_F ?_ | refine w_Fp ?_ | refine w_itL ?_ | refine w_itT ?_ | refine w_itK ?_ | refine w_rng ?_ | refine w_neg ?_ | refine w_dput ?_ | refine w_newD ?_) | refine ⟨_, _, rfl, ?_⟩ | refine ⟨_, rfl, ?_⟩))
  refine w_loop (fun ds ρ G => ∃ (R : List Rw) (u4 u5 u6 u7 u8 : Option D), (∀ r ∈ R, r ∈ rows) ∧ ds = R.map toR ∧ ρ = [some (.tup (rows.map toR)), some (.dct hosts), some (.dct closers), some (.dcl starters), u4, u5, u6, u7, u8] ∧ G = []) ?_ _ _ _ ⟨rows, none, none, none, none, none, fun r h => h, rfl, rfl, rfl⟩ ?_
  · rintro d r ρ G ⟨R, u4, u5, u6, u7, u8, hm, hd, rfl, rfl⟩
    cases R with
    | nil => cases hd
    | cons t R =>
      cases hd
      have hm2 : ∀ r ∈ R, r ∈ rows := fun r h => hm r (List.mem_cons_of_mem _ h)
      obtain ⟨okg, ht⟩ := h t (hm t List.mem_cons_self)
      obtain ⟨x, g, st⟩ := t
      simp only at okg ht
      refine ⟨[some (.tup (rows.map toR)), some (.dct hosts), some (.dct closers), some (.dcl starters), some (.str x), some (.str g), some (.tup st), u7, u8], [], rfl, ?_⟩
      refine w_seq (w_ifS (w_test (w_d2 ?_)))
      (repeat (first | (with_reducible first | refine w_v rfl ?_ | refine w_c ?_ | refine w_d2 ?_ | refine w_cons ?_ | refine w_nil ?_ | refine w_call ?_ | refine w_tup ?_ | refine w_tpn ?_ | refine w_lst ?_ | refine w_lstM ?_ | refine w_wk ?_ | refine w_frz ?_ | refine w_meth ?_ | refine w_test ?_ | refine w_notT ?_ | refine w_andT ?_ | refine w_orT ?_ | refine w_yes ?_ | refine w_and ?_ | refine w_or ?_ | refine w_not ?_ | refine w_if ?_ | refine w_ifS ?_ | refine w_seq ?_ | refine w_next ?_ | refine w_cnt ?_ | refine w_ret ?_ | refine w_expr ?_ | refine w_asg ?_ | refine w_par ?_ | refine w_F ?_ | refine w_Fp ?_ | refine w_itL ?_ | refine w_itT ?_ | refine w_itK ?_ | refine w_rng ?_ | refine w_neg ?_ | refine w_dput ?_ | refine w_newD ?_) | refine ⟨_, _, rfl, ?_⟩ | refine ⟨_, rfl, ?_⟩))
      refine ⟨.bl (g == ""), [], by unfold pur2 pur; rw [eqO_str okg ok_none]; rfl, _, rfl, fun _ => w_cnt ⟨_, .inr rfl, R, _, _, _, _, _, hm2, rfl, rfl, rfl⟩, fun c => w_next ?_⟩
      rcases ht with e | ⟨hh, i, j, cc, okh, e1, e2, e3, ij⟩
      · rw [e] at c; exact absurd c (by decide)
      show WP _ _ _
      refine w_seq ?_
      (repeat (first | (with_reducible first | refine w_v rfl ?_ | refine w_c ?_ | refine w_d2 ?_ | refine w_cons ?_ | refine w_nil ?_ | refine w_call ?_ | refine w_tup ?_ | refine w_tpn ?_ | refine w_lst ?_ | refine w_lstM ?_ | refine w_wk ?_ | refine w_frz ?_ | refine w_meth ?_ | refine w_test ?_ | refine w_notT ?_ | refine w_andT ?_ | refine w_orT ?_ | refine w_yes ?_ | refine w_and ?_ | refine w_or ?_ | refine w_not ?_ | refine w_if ?_ | refine w_ifS ?_ | refine w_seq ?_ | refine w_next ?_ | refine w_cnt ?_ | refine w_ret ?_ | refine w_expr ?_ | refine w_asg ?_ | refine w_par ?_ | refine w_F ?_ | refine w_Fp ?_ | refine w_itL ?_ | refine w_itT ?_ | refine w_itK ?_ | refine w_rng ?_ | refine w_neg ?_ | refine w_dput ?_ | refine w_newD ?_) | refine ⟨_, _, rfl, ?_⟩ | refine ⟨_, rfl, ?_⟩))
      rw [e1]
      refine ⟨fun c => by simp at c, fun _ => w_next ?_⟩
      show WP _ _ _
      refine w_seq (w_asg (w_d2 ?_))
      (repeat (first | (with_reducible first | refine w_v rfl ?_ | refine w_c ?_ | refine w_d2 ?_ | refine w_cons ?_ | refine w_nil ?_ | refine w_call ?_ | refine w_tup ?_ | refine w_tpn ?_ | refine w_lst ?_ | refine w_lstM ?_ | refine w_wk ?_ | refine w_frz ?_ | refine w_meth ?_ | refine w_test ?_ | refine w_notT ?_ | refine w_andT ?_ | refine w_orT ?_ | refine w_yes ?_ | refine w_and ?_ | refine w_or ?_ | refine w_not ?_ | refine w_if ?_ | refine w_ifS ?_ | refine w_seq ?_ | refine w_next ?_ | refine w_cnt ?_ | refine w_ret ?_ | refine w_expr ?_ | refine w_asg ?_ | refine w_par ?_ | refine w_F ?_ | refine w_Fp ?_ | refine w_itL ?_ | refine w_itT ?_ | refine w_itK ?_ | refine w_rng ?_ | refine w_neg ?_ | refine w_dput ?_ | refine w_newD ?_) | refine ⟨_, _, rfl, ?_⟩ | refine ⟨_, rfl, ?_⟩))
      refine ⟨.tup [.str hh, .int i], [], by unfold dgetP; simp only [dgetO, inD, keyO, e1] <;> rfl, ?_⟩
      refine ⟨[some (.tup (rows.map toR)), some (.dct hosts), some (.dct closers), some (.dcl starters), some (.str x), some (.str g), some (.tup st), some (.str hh), some (.int i)], [], rfl, ?_⟩
      show WP _ _ _
      refine w_ifS (w_orT (w_test (w_d2 ?_)))
      refine w_v rfl (w_d2 ?_)
      (repeat (first | (with_reducible first | refine w_v rfl ?_ | refine w_c ?_ | refine w_d2 ?_ | refine w_cons ?_ | refine w_nil ?_ | refine w_call ?_ | refine w_tup ?_ | refine w_tpn ?_ | refine w_lst ?_ | refine w_lstM ?_ | refine w_wk ?_ | refine w_frz ?_ | refine w_meth ?_ | refine w_test ?_ | refine w_notT ?_ | refine w_andT ?_ | refine w_orT ?_ | refine w_yes ?_ | refine w_and ?_ | refine w_or ?_ | refine w_not ?_ | refine w_if ?_ | refine w_ifS ?_ | refine w_seq ?_ | refine w_next ?_ | refine w_cnt ?_ | refine w_ret ?_ | refine w_expr ?_ | refine w_asg ?_ | refine w_par ?_ | refine w_F ?_ | refine w_Fp ?_ | refine w_itL ?_ | refine w_itT ?_ | refine w_itK ?_ | refine w_rng ?_ | refine w_neg ?_ | refine w_dput ?_ | refine w_newD ?_) | refine ⟨_, _, rfl, ?_⟩ | refine ⟨_, rfl, ?_⟩))
      refine ⟨.str hh, [], by unfold dgetP; simp only [dgetO, inD, keyO, e2] <;> rfl, ?_⟩
      refine ⟨.bl (!(hh == hh)), [], by unfold pur2 pur; rw [eqO_str okh okh]; rfl, _, rfl, fun c => by simp at c, fun _ => ?_⟩
      refine w_test (w_d2 (w_v rfl (w_d2 (w_d2 ?_))))
      (repeat (first | (with_reducible first | refine w_v rfl ?_ | refine w_c ?_ | refine w_d2 ?_ | refine w_cons ?_ | refine w_nil ?_ | refine w_call ?_ | refine w_tup ?_ | refine w_tpn ?_ | refine w_lst ?_ | refine w_lstM ?_ | refine w_wk ?_ | refine w_frz ?_ | refine w_meth ?_ | refine w_test ?_ | refine w_notT ?_ | refine w_andT ?_ | refine w_orT ?_ | refine w_yes ?_ | refine w_and ?_ | refine w_or ?_ | refine w_not ?_ | refine w_if ?_ | refine w_ifS ?_ | refine w_seq ?_ | refine w_next ?_ | refine w_cnt ?_ | refine w_ret ?_ | refine w_expr ?_ | refine w_asg ?_ | refine w_par ?_ | refine w_F ?_ | refine w_Fp ?_ | refine w_itL ?_ | refine w_itT ?_ | refine w_itK ?_ | refine w_rng ?_ | refine w_neg ?_ | refine w_dput ?_ | refine w_newD ?_) | refine ⟨_, _, rfl, ?_⟩ | refine ⟨_, rfl, ?_⟩))
      refine ⟨.tup [cc, .int j], [], by unfold dgetP; simp only [dgetO, inD, keyO, e3] <;> rfl, ?_⟩
      (repeat (first | (with_reducible first | refine w_v rfl ?_ | refine w_c ?_ | refine w_d2 ?_ | refine w_cons ?_ | refine w_nil ?_ | refine w_call ?_ | refine w_tup ?_ | refine w_tpn ?_ | refine w_lst ?_ | refine w_lstM ?_ | refine w_wk ?_ | refine w_frz ?_ | refine w_meth ?_ | refine w_test ?_ | refine w_notT ?_ | refine w_andT ?_ | refine w_orT ?_ | refine w_yes ?_ | refine w_and ?_ | refine w_or ?_ | refine w_not ?_ | refine w_if ?_ | refine w_ifS ?_ | refine w_seq ?_ | refine w_next ?_ | refine w_cnt ?_ | refine w_ret ?_ | refine w_expr ?_ | refine w_asg ?_ | refine w_par ?_ | refine w_F ?_ | refine w_Fp ?_ | refine w_itL ?_ | refine w_itT ?_ | refine w_itK ?_ | refine w_rng ?_ | refine w_neg ?_ | refine w_dput ?_ | refine w_newD ?_) | refine ⟨_, _, rfl, ?_⟩ | refine ⟨_, rfl, ?_⟩))
      have gt : gtI i j = false := by
        unfold gtI
        simp
        omega
      refine ⟨fun c => (by rw [gt] at c; cases c), fun _ => w_next ⟨_, .inl rfl, R, _, _, _, _, _, hm2, rfl, rfl, rfl⟩⟩
  · rintro ρ G ⟨R, u4, u5, u6, u7, u8, hm, hd, rfl, rfl⟩
    show WP _ _ _
    (repeat (first | (with_reducible first | refine w_v rfl ?_ | refine w_c ?_ | refine w_d2 ?_ | refine w_cons ?_ | refine w_nil ?_ | refine w_call ?_ | refine w_tup ?_ | refine w_tpn ?_ | refine w_lst ?_ | refine w_lstM ?_ | refine w_wk ?_ | refine w_frz ?_ | refine w_meth ?_ | refine w_test ?_ | refine w_notT ?_ | refine w_andT ?_ | refine w_orT ?_ | refine w_yes ?_ | refine w_and ?_ | refine w_or ?_ | refine w_not ?_ | refine w_if ?_ | refine w_ifS ?_ | refine w_seq ?_ | refine w_next ?_ | refine w_cnt ?_ | refine w_ret ?_ | refine w_expr ?_ | refine w_asg ?_ | refine w_par ?_ | refine w_F ?_ | refine w_Fp ?_ | refine w_itL ?_ | refine w_itT ?_ | refine w_itK ?_ | refine w_rng ?_ | refine w_neg ?_ | refine w_dput ?_ | refine w_newD ?_) | refine ⟨_, _, rfl, ?_⟩ | refine ⟨_, rfl, ?_⟩))
    rfl
/-! has_ring: each name stands behind one that nobody starts -/
theorem w_while0 {t : En → M Bool} {b : En → M Out} {n : Nat} {ρ : En} {G : List O} {Q : Out → List O → Prop} (h : WP (t ρ) G fun c G1 => c = false ∧ Q (.nx ρ) G1) : WP (whileL t b (n + 1) ρ) G Q := by
  unfold whileL
  exact WP.bnd (h.imp fun c G1 ⟨e, q⟩ => by subst e; exact WP.ret q)
theorem w_while1 {t : En → M Bool} {b : En → M Out} {n : Nat} {ρ : En} {G : List O} {Q : Out → List O → Prop} (h : WP (t ρ) G fun c G1 => c = true ∧ WP (b ρ) G1 fun o G2 => ∃ ρ2, o = .nx ρ2 ∧ WP (whileL t b n ρ2) G2 Q) : WP (whileL t b (n + 1) ρ) G Q := by
  rw [whileL]
  exact WP.bnd (h.imp fun c G1 ⟨e, q⟩ => by
    subst e
    exact WP.bnd (q.imp fun o G2 ⟨ρ2, e, w⟩ => by subst e; exact w))
theorem has_ring_ok {ns : List Str} {t0 : Str} (nd : ns.Nodup) (h0 : t0 ∉ ns) (hz : ns.length + 1 ≤ mx) : Ans F_has_ring [.dct (ns.map fun x => (.inr x, .str t0))] (.bl false) := by
  have keys : ∀ l : List Str, (l.map fun x => ((Sum.inr x : Key), D.str t0)).map (·.1) = l.map Sum.inr := fun l => by rw [List.map_map]; rfl
  have inr_mem : ∀ {l : List Str} {x : Str}, (Sum.inr x : Key) ∈ l.map Sum.inr → x ∈ l := fun {l x} h => by
    obtain ⟨y, hy, e⟩ := List.mem_map.mp h
    cases e
    exact hy
  have look1 : ∀ x ∈ ns, lookK (ns.map fun x => (Sum.inr x, D.str t0)) (.inr x) = some (.str t0) := fun x hx => lookK_eq (nd_key id (fun x => (Sum.inr x, D.str t0)) (fun _ => rfl) (by simpa using nd)) (List.mem_map.mpr ⟨x, hx, rfl⟩)
  have look0 : lookK (ns.map fun x => (Sum.inr x, D.str t0)) (.inr t0) = none := lookK_none (by rw [keys]; exact fun h => h0 (inr_mem h))
  have nk : noKk (ns.map fun x => (Sum.inr x, D.str t0)) = true := by
    have : ∀ l : List Str, noKk (l.map fun x => (Sum.inr x, D.str t0)) = true := fun l => by
      induction l with
      | nil => rfl
      | cons x l ih => simp [noKk, noK, ih]
    exact this ns
  have nw : ∀ l : List Str, noKk (l.map fun x => (Sum.inr x, D.str x)) = true := fun l => by
    induction l with
    | nil => rfl
    | cons x l ih => simp [noKk, noK, ih]
  refine w_run ?_
  unfold ds_has_ring
  refine w_seq (w_asg (w_newD ⟨_, _, rfl, ?_⟩))
  refine w_seq (w_lock rfl (w_for ?_))
  (repeat (first | (with_reducible first | refine w_v rfl ?_ | refine w_c ?_ | refine w_d2 ?_ | refine w_cons ?_ | refine w_nil ?_ | refine w_call ?_ | refine w_tup ?_ | refine w_tpn ?_ | refine w_lst ?_ | refine w_lstM ?_ | refine w_wk ?_ | refine w_frz ?_ | refine w_meth ?_ | refine w_test ?_ | refine w_notT ?_ | refine w_andT ?_ | refine w_orT ?_ | refine w_yes ?_ | refine w_and ?_ | refine w_or ?_ | refine w_not ?_ | refine w_if ?_ | refine w_ifS ?_ | refine w_seq ?_ | refine w_next ?_ | refine w_cnt ?_ | refine w_ret ?_ | refine w_expr ?_ | refine w_asg ?_ | refine w_par ?_ | refine w_F ?_ | refine w_Fp ?_ | refine w_itL ?_ | refine w_itT ?_ | refine w_itK ?_ | refine w_rng ?_ | refine w_neg ?_ | refine w_dput ?_ | refine w_newD ?_) | refine ⟨_, _, rfl, ?_⟩ | refine ⟨_, rfl, ?_⟩))
  refine w_loop (fun ds ρ G => ∃ (P R : List Str) (u2 u3 : Option D), ns = P ++ R ∧ ds = R.map (fun x => D.str x) ∧ ρ = [some (.dcl (ns.map fun x => (.inr x, .str t0))), some (.ref 0), u2, u3] ∧ G = [.dct (P.map fun x => (.inr x, .str x))] ∧ envK 0 ρ = true) ?_ _ _ _ ⟨[], ns, none, none, rfl, by unfold keyD; rw [List.map_map]; rfl, rfl, rfl, rfl⟩ ?_
  · rintro d r ρ G ⟨P, R, u2, u3, hL, hd, rfl, rfl, hk⟩
    cases R with
    | nil => cases hd
    | cons x R =>
      cases hd
      have hx : x ∈ ns := by rw [hL]; simp
      have fresh : (Sum.inr x : Key) ∉ (P.map fun x => ((Sum.inr x : Key), D.str x)).map (·.1) := by
        have e : (P.map fun x => ((Sum.inr x : Key), D.str x)).map (·.1) = P.map Sum.inr := by rw [List.map_map]; rfl
        rw [e]
        intro h
        have hp := inr_mem h
        rw [hL, List.nodup_append] at nd
        exact nd.2.2 x hp x (by simp) rfl
      refine ⟨[some (.dcl (ns.map fun x => (.inr x, .str t0))), some (.ref 0), some (.str x), u3], _, rfl, ?_⟩
      refine w_seq ?_
      (repeat (first | (with_reducible first | refine w_v rfl ?_ | refine w_c ?_ | refine w_d2 ?_ | refine w_cons ?_ | refine w_nil ?_ | refine w_call ?_ | refine w_tup ?_ | refine w_tpn ?_ | refine w_lst ?_ | refine w_lstM ?_ | refine w_wk ?_ | refine w_frz ?_ | refine w_meth ?_ | refine w_test ?_ | refine w_notT ?_ | refine w_andT ?_ | refine w_orT ?_ | refine w_yes ?_ | refine w_and ?_ | refine w_or ?_ | refine w_not ?_ | refine w_if ?_ | refine w_ifS ?_ | refine w_seq ?_ | refine w_next ?_ | refine w_cnt ?_ | refine w_ret ?_ | refine w_expr ?_ | refine w_asg ?_ | refine w_par ?_ | refine w_F ?_ | refine w_Fp ?_ | refine w_itL ?_ | refine w_itT ?_ | refine w_itK ?_ | refine w_rng ?_ | refine w_neg ?_ | refine w_dput ?_ | refine w_newD ?_) | refine ⟨_, _, rfl, ?_⟩ | refine ⟨_, rfl, ?_⟩))
      show WP _ _ _
      refine w_seq (w_while1 (w_andT (w_test ?_)))
      (repeat (first | (with_reducible first | refine w_v rfl ?_ | refine w_c ?_ | refine w_d2 ?_ | refine w_cons ?_ | refine w_nil ?_ | refine w_call ?_ | refine w_tup ?_ | refine w_tpn ?_ | refine w_lst ?_ | refine w_lstM ?_ | refine w_wk ?_ | refine w_frz ?_ | refine w_meth ?_ | refine w_test ?_ | refine w_notT ?_ | refine w_andT ?_ | refine w_orT ?_ | refine w_yes ?_ | refine w_and ?_ | refine w_or ?_ | refine w_not ?_ | refine w_if ?_ | refine w_ifS ?_ | refine w_seq ?_ | refine w_next ?_ | refine w_cnt ?_ | refine w_ret ?_ | refine w_expr ?_ | refine w_asg ?_ | refine w_par ?_ | refine w_F ?_ | refine w_Fp ?_ | refine w_itL ?_ | refine w_itT ?_ | refine w_itK ?_ | refine w_rng ?_ | refine w_neg ?_ | refine w_dput ?_ | refine w_newD ?_) | refine ⟨_, _, rfl, ?_⟩ | refine ⟨_, rfl, ?_⟩))
      rw [look1 x hx]
      refine ⟨fun _ => w_test ?_, fun c => by simp at c⟩
      (repeat (first | (with_reducible first | refine w_v rfl ?_ | refine w_c ?_ | refine w_d2 ?_ | refine w_cons ?_ | refine w_nil ?_ | refine w_call ?_ | refine w_tup ?_ | refine w_tpn ?_ | refine w_lst ?_ | refine w_lstM ?_ | refine w_wk ?_ | refine w_frz ?_ | refine w_meth ?_ | refine w_test ?_ | refine w_notT ?_ | refine w_andT ?_ | refine w_orT ?_ | refine w_yes ?_ | refine w_and ?_ | refine w_or ?_ | refine w_not ?_ | refine w_if ?_ | refine w_ifS ?_ | refine w_seq ?_ | refine w_next ?_ | refine w_cnt ?_ | refine w_ret ?_ | refine w_expr ?_ | refine w_asg ?_ | refine w_par ?_ | refine w_F ?_ | refine w_Fp ?_ | refine w_itL ?_ | refine w_itT ?_ | refine w_itK ?_ | refine w_rng ?_ | refine w_neg ?_ | refine w_dput ?_ | refine w_newD ?_) | refine ⟨_, _, rfl, ?_⟩ | refine ⟨_, rfl, ?_⟩))
      rw [lookK_none fresh]
      refine ⟨rfl, w_seq ?_⟩
      (repeat (first | (with_reducible first | refine w_v rfl ?_ | refine w_c ?_ | refine w_d2 ?_ | refine w_cons ?_ | refine w_nil ?_ | refine w_call ?_ | refine w_tup ?_ | refine w_tpn ?_ | refine w_lst ?_ | refine w_lstM ?_ | refine w_wk ?_ | refine w_frz ?_ | refine w_meth ?_ | refine w_test ?_ | refine w_notT ?_ | refine w_andT ?_ | refine w_orT ?_ | refine w_yes ?_ | refine w_and ?_ | refine w_or ?_ | refine w_not ?_ | refine w_if ?_ | refine w_ifS ?_ | refine w_seq ?_ | refine w_next ?_ | refine w_cnt ?_ | refine w_ret ?_ | refine w_expr ?_ | refine w_asg ?_ | refine w_par ?_ | refine w_F ?_ | refine w_Fp ?_ | refine w_itL ?_ | refine w_itT ?_ | refine w_itK ?_ | refine w_rng ?_ | refine w_neg ?_ | refine w_dput ?_ | refine w_newD ?_) | refine ⟨_, _, rfl, ?_⟩ | refine ⟨_, rfl, ?_⟩))
      refine ⟨(), [.dct ((P ++ [x]).map fun x => (.inr x, .str x))], ?_, ?_⟩
      · have hl : (P.map fun x => ((Sum.inr x : Key), D.str x)).length + 1 ≤ mx := by
          rw [List.length_map]
          rw [hL, List.length_append, List.length_cons] at hz
          omega
        unfold dputP
        simp only [keyO, List.getElem?_cons_zero]
        rw [if_pos hl, put_new fresh]
        simp
      show WP _ _ _
      refine w_asg (w_d2 ?_)
      (repeat (first | (with_reducible first | refine w_v rfl ?_ | refine w_c ?_ | refine w_d2 ?_ | refine w_cons ?_ | refine w_nil ?_ | refine w_call ?_ | refine w_tup ?_ | refine w_tpn ?_ | refine w_lst ?_ | refine w_lstM ?_ | refine w_wk ?_ | refine w_frz ?_ | refine w_meth ?_ | refine w_test ?_ | refine w_notT ?_ | refine w_andT ?_ | refine w_orT ?_ | refine w_yes ?_ | refine w_and ?_ | refine w_or ?_ | refine w_not ?_ | refine w_if ?_ | refine w_ifS ?_ | refine w_seq ?_ | refine w_next ?_ | refine w_cnt ?_ | refine w_ret ?_ | refine w_expr ?_ | refine w_asg ?_ | refine w_par ?_ | refine w_F ?_ | refine w_Fp ?_ | refine w_itL ?_ | refine w_itT ?_ | refine w_itK ?_ | refine w_rng ?_ | refine w_neg ?_ | refine w_dput ?_ | refine w_newD ?_) | refine ⟨_, _, rfl, ?_⟩ | refine ⟨_, rfl, ?_⟩))
      refine ⟨.str t0, _, by unfold dgetP; simp only [dgetO, inD, keyO, look1 x hx] <;> rfl, ?_⟩
      refine ⟨_, _, rfl, _, rfl, ?_⟩
      refine w_while0 (w_andT (w_test ?_))
      (repeat (first | (with_reducible first | refine w_v rfl ?_ | refine w_c ?_ | refine w_d2 ?_ | refine w_cons ?_ | refine w_nil ?_ | refine w_call ?_ | refine w_tup ?_ | refine w_tpn ?_ | refine w_lst ?_ | refine w_lstM ?_ | refine w_wk ?_ | refine w_frz ?_ | refine w_meth ?_ | refine w_test ?_ | refine w_notT ?_ | refine w_andT ?_ | refine w_orT ?_ | refine w_yes ?_ | refine w_and ?_ | refine w_or ?_ | refine w_not ?_ | refine w_if ?_ | refine w_ifS ?_ | refine w_seq ?_ | refine w_next ?_ | refine w_cnt ?_ | refine w_ret ?_ | refine w_expr ?_ | refine w_asg ?_ | refine w_par ?_ | refine w_F ?_ | refine w_Fp ?_ | refine w_itL ?_ | refine w_itT ?_ | refine w_itK ?_ | refine w_rng ?_ | refine w_neg ?_ | refine w_dput ?_ | refine w_newD ?_) | refine ⟨_, _, rfl, ?_⟩ | refine ⟨_, rfl, ?_⟩))
      rw [look0]
      refine ⟨fun c => by simp at c, fun _ => ⟨rfl, ?_⟩⟩
      show WP _ _ _
      refine w_ifS (w_andT (w_test ?_))
      (repeat (first | (with_reducible first | refine w_v rfl ?_ | refine w_c ?_ | refine w_d2 ?_ | refine w_cons ?_ | refine w_nil ?_ | refine w_call ?_ | refine w_tup ?_ | refine w_tpn ?_ | refine w_lst ?_ | refine w_lstM ?_ | refine w_wk ?_ | refine w_frz ?_ | refine w_meth ?_ | refine w_test ?_ | refine w_notT ?_ | refine w_andT ?_ | refine w_orT ?_ | refine w_yes ?_ | refine w_and ?_ | refine w_or ?_ | refine w_not ?_ | refine w_if ?_ | refine w_ifS ?_ | refine w_seq ?_ | refine w_next ?_ | refine w_cnt ?_ | refine w_ret ?_ | refine w_expr ?_ | refine w_asg ?_ | refine w_par ?_ | refine w_F ?_ | refine w_Fp ?_ | refine w_itL ?_ | refine w_itT ?_ | refine w_itK ?_ | refine w_rng ?_ | refine w_neg ?_ | refine w_dput ?_ | refine w_newD ?_) | refine ⟨_, _, rfl, ?_⟩ | refine ⟨_, rfl, ?_⟩))
      rw [look0]
      refine ⟨fun c => by simp at c, fun _ => ⟨fun c => (by cases c), fun _ => Tw.w_next ?_⟩⟩
      refine ⟨_, .inl rfl, P ++ [x], R, some (.str x), some (.str t0), by rw [hL]; simp, rfl, rfl, rfl, rfl⟩
  · rintro ρ G ⟨P, R, u2, u3, hL, hd, rfl, rfl, hk⟩
    refine ⟨.nx [some (.dct (ns.map fun x => (.inr x, .str t0))), some (.ref 0), u2, u3], [.dct (P.map fun x => (.inr x, .str x))], ?_, ?_⟩
    · unfold unl
      simp only [List.all_cons, List.all_nil, noKO, nw, Bool.and_self, if_true, List.getElem?_cons_zero, hk, nk]
      rfl
    · show WP _ _ _
      (repeat (first | (with_reducible first | refine w_v rfl ?_ | refine w_c ?_ | refine w_d2 ?_ | refine w_cons ?_ | refine w_nil ?_ | refine w_call ?_ | refine w_tup ?_ | refine w_tpn ?_ | refine w_lst ?_ | refine w_lstM ?_ | refine w_wk ?_ | refine w_frz ?_ | refine w_meth ?_ | refine w_test ?_ | refine w_notT ?_ | refine w_andT ?_ | refine w_orT ?_ | refine w_yes ?_ | refine w_and ?_ | refine w_or ?_ | refine w_not ?_ | refine w_if ?_ | refine w_ifS ?_ | refine w_seq ?_ | refine w_next ?_ | refine w_cnt ?_ | refine w_ret ?_ | refine w_expr ?_ | refine w_asg ?_ | refine w_par ?_ | refine w_F ?_ | refine w_Fp ?_ | refine w_itL ?_ | refine w_itT ?_ | refine w_itK ?_ | refine w_rng ?_ | refine w_neg ?_ | refine w_dput ?_ | refine w_newD ?_) | refine ⟨_, _, rfl, ?_⟩ | refine ⟨_, rfl, ?_⟩))
      rfl
end K01

namespace K01
open PySem PySem.Spec PyProof.Rows L2 Tw
section
variable {α : Type}
theorem w_dcA {g : D → En → P1 En} {ka va : En → M D} {ρ : En} {G : List O} (e : α → D) (k : α → Str) (v : α → D) : ∀ (l : List α) (acc : List (Key × D)), ((acc.map (·.1)) ++ l.map fun p => (Sum.inr (k p) : Key)).Nodup → acc.length + l.length ≤ mx →
    (∀ p ∈ l, ∃ ρ1, g (e p) ρ G = some (ρ1, G) ∧ WP (ka ρ1) G (fun y G1 => y = .str (k p) ∧ G1 = G) ∧ WP (va ρ1) G (fun z G1 => z = v p ∧ G1 = G)) →
    WP (dcL g dYes ka va ρ (l.map e) acc) G fun kvs G1 => kvs = acc ++ l.map (fun p => (.inr (k p), v p)) ∧ G1 = G
  | [], acc, _, _, _ => WP.ret ⟨by simp, rfl⟩
  | p :: l, acc, nd, hz, h => by
    obtain ⟨ρ1, e1, w1, w2⟩ := h p List.mem_cons_self
    have fresh : (Sum.inr (k p) : Key) ∉ acc.map (·.1) := fun hm => (List.nodup_append.mp nd).2.2 _ hm _ List.mem_cons_self rfl
    simp only [List.length_cons] at hz
    have ih := w_dcA e k v l (acc ++ [(.inr (k p), v p)]) (by simpa using nd) (by simp; omega) fun q hq => h q (List.mem_cons_of_mem _ hq)
    rw [List.map_cons, dcL]
    refine WP.bndN (WP.lft e1 (WP.bndN (w_yes ?_)))
    rw [if_pos rfl]
    refine WP.bndN (w1.imp fun y G1 ⟨hy, hG⟩ => ?_)
    subst hy hG
    refine WP.bndN (w2.imp fun z G2 ⟨hz2, hG⟩ => ?_)
    subst hz2 hG
    simp only [keyO]
    rw [if_pos (by omega), put_new fresh]
    refine ih.imp fun kvs G3 ⟨h1, h2⟩ => ⟨by rw [h1]; simp, h2⟩
theorem w_loopR {g : D → En → P1 En} {s1 : En → M Out} {Qo : Out → List O → Prop} {G : List O} (e : α → D) (bad : α → Bool) (v : D) (I : En → Prop) : ∀ (l : List α),
    (∀ p ∈ l, ∀ ρ, I ρ → ∃ ρ1, g (e p) ρ G = some (ρ1, G) ∧ WP (s1 ρ1) G fun o G1 => G1 = G ∧ (bad p = true → o = .rt v) ∧ (bad p = false → ∃ ρ2, o = .nx ρ2 ∧ I ρ2)) →
    ∀ ρ, I ρ → (l.any bad = true → Qo (.rt v) G) → (l.any bad = false → ∀ ρ', I ρ' → Qo (.nx ρ') G) → WP (bodyL g s1 (l.map e) ρ) G Qo
  | [], _, ρ, i, _, q => WP.ret (q rfl ρ i)
  | p :: l, h, ρ, i, q1, q2 => by
    obtain ⟨ρ1, e1, w⟩ := h p List.mem_cons_self ρ i
    rw [List.map_cons, bodyL]
    refine WP.bnd (WP.lft e1 (WP.bnd (w.imp fun o G1 ⟨hG, b1, b2⟩ => ?_)))
    subst hG
    cases hb : bad p with
    | true =>
      rw [b1 hb]
      exact WP.ret (q1 (by simp [hb]))
    | false =>
      obtain ⟨ρ2, ho, i2⟩ := b2 hb
      subst ho
      exact w_loopR e bad v I l (fun r hr => h r (List.mem_cons_of_mem _ hr)) ρ2 i2 (fun c => q1 (by simp [c])) fun c => q2 (by simp [hb, c])
theorem w_lcA {g : D → En → P1 En} {t : En → M Bool} {a : En → M D} {ρ : En} {G : List O} (e : α → D) (keep : α → Bool) (f : α → D) : ∀ (l : List α),
    (∀ p ∈ l, ∃ ρ1, g (e p) ρ G = some (ρ1, G) ∧ WP (t ρ1) G (fun c G1 => c = keep p ∧ G1 = G) ∧ (keep p = true → WP (a ρ1) G (fun y G1 => y = f p ∧ G1 = G))) →
    WP (lcL g t a ρ (l.map e)) G fun ys G1 => ys = (l.filter keep).map f ∧ G1 = G
  | [], _ => WP.ret ⟨rfl, rfl⟩
  | p :: l, h => by
    obtain ⟨ρ1, e1, w1, w2⟩ := h p List.mem_cons_self
    have ih := w_lcA e keep f l fun q hq => h q (List.mem_cons_of_mem _ hq)
    rw [List.map_cons, lcL]
    refine WP.bndN (WP.lft e1 (WP.bndN (w1.imp fun c G1 ⟨hc, hG⟩ => ?_)))
    subst hc hG
    cases hk : keep p with
    | true =>
      rw [if_pos rfl]
      refine WP.bndN ((w2 hk).imp fun y G2 ⟨hy, hG⟩ => ?_)
      subst hy hG
      refine WP.bndN (ih.imp fun ys G3 ⟨h1, h2⟩ => WP.ret ⟨by rw [List.filter_cons_of_pos hk, List.map_cons, h1], h2⟩)
    | false =>
      rw [if_neg (by simp)]
      exact ih.imp fun ys G3 ⟨h1, h2⟩ => ⟨by rw [List.filter_cons_of_neg (by simp [hk]), h1], h2⟩
end
theorem w_lcB {α : Type} {di : En → M (List D)} {g : D → En → P1 En} {t : En → M Bool} {a : En → M D} {own : List Nat} {ρ : En} {G : List O} {Q : D → List O → Prop} (l : List α) (e : α → D) (keep : α → Bool) (f : α → D) (hd : WP (di ρ) G fun es G1 => es = l.map e ∧ G1 = G) (hz : l.length ≤ mx)
    (h : ∀ p ∈ l, ∃ ρ1, g (e p) (wipeD ρ own) G = some (ρ1, G) ∧ WP (t ρ1) G (fun c G1 => c = keep p ∧ G1 = G) ∧ (keep p = true → WP (a ρ1) G (fun y G1 => y = f p ∧ G1 = G))) (q : Q (.lst ((l.filter keep).map f)) G) : WP (dLc di g t a own ρ) G Q := by
  refine WP.bnd (hd.imp fun es G1 ⟨h1, h2⟩ => ?_)
  subst h1 h2
  refine WP.bndN ((w_lcA e keep f l h).imp fun ys G2 ⟨h1, h2⟩ => ?_)
  subst h1 h2
  exact WP.pur (by unfold lstO; rw [if_pos (by rw [List.length_map]; exact Nat.le_trans (List.length_filter_le _ _) hz)]) q
theorem w_lcBM {α : Type} {di : En → M (List D)} {g : D → En → P1 En} {t : En → M Bool} {a : En → M D} {own : List Nat} {ρ : En} {G : List O} {Q : D → List O → Prop} (l : List α) (e : α → D) (keep : α → Bool) (f : α → D) (hd : WP (di ρ) G fun es G1 => es = l.map e ∧ G1 = G) (hz : l.length ≤ mx)
    (h : ∀ p ∈ l, ∃ ρ1, g (e p) (wipeD ρ own) G = some (ρ1, G) ∧ WP (t ρ1) G (fun c G1 => c = keep p ∧ G1 = G) ∧ (keep p = true → WP (a ρ1) G (fun y G1 => y = f p ∧ G1 = G))) (q : Q (.ref G.length) (G ++ [.lst ((l.filter keep).map f)])) : WP (dLcF newL di g t a own ρ) G Q := by
  refine WP.bnd (hd.imp fun es G1 ⟨h1, h2⟩ => ?_)
  subst h1 h2
  refine WP.bndN ((w_lcA e keep f l h).imp fun ys G2 ⟨h1, h2⟩ => ?_)
  subst h1 h2
  exact WP.lft (by unfold newL; rw [if_pos (by rw [List.length_map]; exact Nat.le_trans (List.length_filter_le _ _) hz)]) q
def pairD (p : Str × Str) : D := .tup [.str p.1, .str p.2]
def tw3 : List Str := ["start", "join", "cancel"]
def cw2 : List Str := ["close", "catch"]
def badI (names : List Str) (t : It) : Bool := !(names.contains t.1) || t.1 == t.2.1
/-- rows that can be looked at -/
structure RowsOk (rows : List Rw) : Prop where
  nd : (rows.map (·.1)).Nodup
  n : ∀ r ∈ rows, PyData.strOk r.1 = true
  g : ∀ r ∈ rows, PyData.strOk r.2.1 = true
  s : ∀ r ∈ rows, r.2.2.all isS = true
  t : ∀ r ∈ rows, r.2.2.all (okA tw3) = true
  c : ∀ r ∈ rows, r.2.2.all (okA cw2) = true
  z : rows.length ≤ 1000
  zt : (nm tw3 rows).length ≤ 1000
  zc : (nm cw2 rows).length ≤ 1000
  it : ∀ t ∈ nm tw3 rows, PyData.strOk t.1 = true ∧ PyData.strOk t.2.1 = true
theorem RowsOk.nr {rows : List Rw} (h : RowsOk rows) : noRs (rows.map toR) = true := by
  have : ∀ l : List Rw, (∀ r ∈ l, r.2.2.all isS = true) → noRs (l.map toR) = true := fun l => by
    induction l with
    | nil => intro _; rfl
    | cons r l ih =>
      intro hs
      simp [noRs, noR, toR, isS_nrs (hs r List.mem_cons_self), ih fun q hq => hs q (List.mem_cons_of_mem _ hq)]
  exact this rows h.s
theorem nr_strs (ws : List Str) : noRs (ws.map D.str) = true := by
  induction ws with
  | nil => rfl
  | cons w ws ih => simp [noRs, noR, ih]
theorem nr_its (l : List It) : noRs (l.map itD) = true := by
  induction l with
  | nil => rfl
  | cons t l ih => simp [noRs, noR, itD, ih]
theorem inr_nodup : ∀ {l : List Str}, l.Nodup → (l.map fun x => (Sum.inr x : Key)).Nodup
  | [], _ => .nil
  | a :: l, h => by
    rw [List.nodup_cons] at h
    rw [List.map_cons, List.nodup_cons]
    refine ⟨fun hm => ?_, inr_nodup h.2⟩
    obtain ⟨b, hb, e⟩ := List.mem_map.mp hm
    cases e
    exact h.1 hb
theorem look_mem {l : List Str} {v : D} (x : Str) : (lookK (l.map fun y => (Sum.inr y, v)) (.inr x)).isSome = l.contains x := by
  induction l with
  | nil => rfl
  | cons y l ih =>
    rw [List.map_cons, List.contains_cons]
    unfold lookK at *
    rw [List.find?_cons]
    by_cases h : y = x
    · subst h; simp
    · have h2 : (Sum.inr y : Key) ≠ Sum.inr x := fun e => h (Sum.inr.inj e)
      have h3 : (x == y) = false := beq_eq_false_iff_ne.mpr fun e => h e.symm
      rw [decide_eq_false h2, h3, Bool.false_or]
      exact ih
end K01

namespace K01
open PySem PySem.Spec PyProof.Rows L2 Tw
def inGroup (r : Rw) : Bool := !(r.2.1 == "")
def named (rows : List Rw) : List Str := (rows.filter inGroup).map (·.2.1) ++ (nm cw2 rows).map (·.1)
theorem names_stand_ok {rows : List Rw} (h : RowsOk rows) {gs : List (Str × Str)} (ng : (gs.map (·.1)).Nodup) (zg : gs.length ≤ 1000) :
    Ans F_names_stand [.tup (rows.map toR), .tup (gs.map pairD)] (.bl (!((nm tw3 rows).any (badI (rows.map (·.1)))) && (named rows).all fun x => (gs.map (·.1)).contains x)) := by
  have mz : (1000 : Nat) ≤ mx := by decide
  have m2 : (3000 : Nat) ≤ mx := by decide
  refine w_run ?_
  unfold ds_names_stand
  refine w_seq (w_asg (w_dc ?_))
  (repeat (first | (with_reducible first | refine w_v rfl ?_ | refine w_c ?_ | refine w_d2 ?_ | refine w_cons ?_ | refine w_nil ?_ | refine w_call ?_ | refine w_tup ?_ | refine w_tpn ?_ | refine w_lst ?_ | refine w_lstM ?_ | refine w_wk ?_ | refine w_frz ?_ | refine w_meth ?_ | refine w_test ?_ | refine w_notT ?_ | refine w_andT ?_ | refine w_orT ?_ | refine w_yes ?_ | refine w_and ?_ | refine w_or ?_ | refine w_not ?_ | refine w_if ?_ | refine w_ifS ?_ | refine w_seq ?_ | refine w_next ?_ | refine w_cnt ?_ | refine w_ret ?_ | refine w_expr ?_ | refine w_asg ?_ | refine w_par ?_ | refine w_F ?_ | refine w_Fp ?_ | refine w_itL ?_ | refine w_itT ?_ | refine w_itK ?_ | refine w_rng ?_ | refine w_neg ?_ | refine w_dput ?_ | refine w_newD ?_) | refine ⟨_, _, rfl, ?_⟩ | refine ⟨_, rfl, ?_⟩))
  refine (w_dcA (α := Rw) toR (·.1) (fun _ => .bl true) rows [] (by simpa using (show (rows.map fun p => (Sum.inr p.1 : Key)) = (rows.map (·.1)).map fun x => Sum.inr x by rw [List.map_map]; rfl) ▸ inr_nodup h.nd) (by simp; have := h.z; omega) fun r hr => ⟨_, rfl, ?_, ?_⟩).imp fun kvs G1 ⟨e1, e2⟩ => ?_
  · refine w_d2 ?_
    (repeat (first | (with_reducible first | refine w_v rfl ?_ | refine w_c ?_ | refine w_d2 ?_ | refine w_cons ?_ | refine w_nil ?_ | refine w_call ?_ | refine w_tup ?_ | refine w_tpn ?_ | refine w_lst ?_ | refine w_lstM ?_ | refine w_wk ?_ | refine w_frz ?_ | refine w_meth ?_ | refine w_test ?_ | refine w_notT ?_ | refine w_andT ?_ | refine w_orT ?_ | refine w_yes ?_ | refine w_and ?_ | refine w_or ?_ | refine w_not ?_ | refine w_if ?_ | refine w_ifS ?_ | refine w_seq ?_ | refine w_next ?_ | refine w_cnt ?_ | refine w_ret ?_ | refine w_expr ?_ | refine w_asg ?_ | refine w_par ?_ | refine w_F ?_ | refine w_Fp ?_ | refine w_itL ?_ | refine w_itT ?_ | refine w_itK ?_ | refine w_rng ?_ | refine w_neg ?_ | refine w_dput ?_ | refine w_newD ?_) | refine ⟨_, _, rfl, ?_⟩ | refine ⟨_, rfl, ?_⟩))
    exact ⟨rfl, rfl⟩
  · (repeat (first | (with_reducible first | refine w_v rfl ?_ | refine w_c ?_ | refine w_d2 ?_ | refine w_cons ?_ | refine w_nil ?_ | refine w_call ?_ | refine w_tup ?_ | refine w_tpn ?_ | refine w_lst ?_ | refine w_lstM ?_ | refine w_wk ?_ | refine w_frz ?_ | refine w_meth ?_ | refine w_test ?_ | refine w_notT ?_ | refine w_andT ?_ | refine w_orT ?_ | refine w_yes ?_ | refine w_and ?_ | refine w_or ?_ | refine w_not ?_ | refine w_if ?_ | refine w_ifS ?_ | refine w_seq ?_ | refine w_next ?_ | refine w_cnt ?_ | refine w_ret ?_ | refine w_expr ?_ | refine w_asg ?_ | refine w_par ?_ | refine w_F ?_ | refine w_Fp ?_ | refine w_itL ?_ | refine w_itT ?_ | refine w_itK ?_ | refine w_rng ?_ | refine w_neg ?_ | refine w_dput ?_ | refine w_newD ?_) | refine ⟨_, _, rfl, ?_⟩ | refine ⟨_, rfl, ?_⟩))
    exact ⟨rfl, rfl⟩
  subst e1 e2
  refine ⟨_, _, rfl, ?_⟩
  show WP _ _ _
  refine w_seq (w_asg (w_dc ?_))
  (repeat (first | (with_reducible first | refine w_v rfl ?_ | refine w_c ?_ | refine w_d2 ?_ | refine w_cons ?_ | refine w_nil ?_ | refine w_call ?_ | refine w_tup ?_ | refine w_tpn ?_ | refine w_lst ?_ | refine w_lstM ?_ | refine w_wk ?_ | refine w_frz ?_ | refine w_meth ?_ | refine w_test ?_ | refine w_notT ?_ | refine w_andT ?_ | refine w_orT ?_ | refine w_yes ?_ | refine w_and ?_ | refine w_or ?_ | refine w_not ?_ | refine w_if ?_ | refine w_ifS ?_ | refine w_seq ?_ | refine w_next ?_ | refine w_cnt ?_ | refine w_ret ?_ | refine w_expr ?_ | refine w_asg ?_ | refine w_par ?_ | refine w_F ?_ | refine w_Fp ?_ | refine w_itL ?_ | refine w_itT ?_ | refine w_itK ?_ | refine w_rng ?_ | refine w_neg ?_ | refine w_dput ?_ | refine w_newD ?_) | refine ⟨_, _, rfl, ?_⟩ | refine ⟨_, rfl, ?_⟩))
  refine (w_dcA (α := Str × Str) pairD (·.1) (fun _ => .bl true) gs [] (by simpa using (show (gs.map fun p => (Sum.inr p.1 : Key)) = (gs.map (·.1)).map fun x => Sum.inr x by rw [List.map_map]; rfl) ▸ inr_nodup ng) (by simp; omega) fun r hr => ⟨_, rfl, ?_, ?_⟩).imp fun kvs G1 ⟨e1, e2⟩ => ?_
  · refine w_d2 ?_
    (repeat (first | (with_reducible first | refine w_v rfl ?_ | refine w_c ?_ | refine w_d2 ?_ | refine w_cons ?_ | refine w_nil ?_ | refine w_call ?_ | refine w_tup ?_ | refine w_tpn ?_ | refine w_lst ?_ | refine w_lstM ?_ | refine w_wk ?_ | refine w_frz ?_ | refine w_meth ?_ | refine w_test ?_ | refine w_notT ?_ | refine w_andT ?_ | refine w_orT ?_ | refine w_yes ?_ | refine w_and ?_ | refine w_or ?_ | refine w_not ?_ | refine w_if ?_ | refine w_ifS ?_ | refine w_seq ?_ | refine w_next ?_ | refine w_cnt ?_ | refine w_ret ?_ | refine w_expr ?_ | refine w_asg ?_ | refine w_par ?_ | refine w_F ?_ | refine w_Fp ?_ | refine w_itL ?_ | refine w_itT ?_ | refine w_itK ?_ | refine w_rng ?_ | refine w_neg ?_ | refine w_dput ?_ | refine w_newD ?_) | refine ⟨_, _, rfl, ?_⟩ | refine ⟨_, rfl, ?_⟩))
    exact ⟨rfl, rfl⟩
  · (repeat (first | (with_reducible first | refine w_v rfl ?_ | refine w_c ?_ | refine w_d2 ?_ | refine w_cons ?_ | refine w_nil ?_ | refine w_call ?_ | refine w_tup ?_ | refine w_tpn ?_ | refine w_lst ?_ | refine w_lstM ?_ | refine w_wk ?_ | refine w_frz ?_ | refine w_meth ?_ | refine w_test ?_ | refine w_notT ?_ | refine w_andT ?_ | refine w_orT ?_ | refine w_yes ?_ | refine w_and ?_ | refine w_or ?_ | refine w_not ?_ | refine w_if ?_ | refine w_ifS ?_ | refine w_seq ?_ | refine w_next ?_ | refine w_cnt ?_ | refine w_ret ?_ | refine w_expr ?_ | refine w_asg ?_ | refine w_par ?_ | refine w_F ?_ | refine w_Fp ?_ | refine w_itL ?_ | refine w_itT ?_ | refine w_itK ?_ | refine w_rng ?_ | refine w_neg ?_ | refine w_dput ?_ | refine w_newD ?_) | refine ⟨_, _, rfl, ?_⟩ | refine ⟨_, rfl, ?_⟩))
    exact ⟨rfl, rfl⟩
  subst e1 e2
  refine ⟨_, _, rfl, ?_⟩
  show WP _ _ _
  have known : ∀ x : Str, (lookK ([] ++ rows.map fun p => ((Sum.inr p.1 : Key), D.bl true)) (.inr x)).isSome = (rows.map (·.1)).contains x := fun x => by
    have e : ([] ++ rows.map fun p => ((Sum.inr p.1 : Key), D.bl true)) = (rows.map (·.1)).map fun y => (Sum.inr y, D.bl true) := by rw [List.map_map]; rfl
    rw [e, look_mem]
  have knownG : ∀ x : Str, (lookK ([] ++ gs.map fun p => ((Sum.inr p.1 : Key), D.bl true)) (.inr x)).isSome = (gs.map (·.1)).contains x := fun x => by
    have e : ([] ++ gs.map fun p => ((Sum.inr p.1 : Key), D.bl true)) = (gs.map (·.1)).map fun y => (Sum.inr y, D.bl true) := by rw [List.map_map]; rfl
    rw [e, look_mem]
  generalize ([] ++ rows.map fun p => ((Sum.inr p.1 : Key), D.bl true)) = kn at known ⊢
  generalize ([] ++ gs.map fun p => ((Sum.inr p.1 : Key), D.bl true)) = kg at knownG ⊢
  refine w_seq (w_for (w_itL (w_ans ?_)))
  (repeat (first | (with_reducible first | refine w_v rfl ?_ | refine w_c ?_ | refine w_d2 ?_ | refine w_cons ?_ | refine w_nil ?_ | refine w_call ?_ | refine w_tup ?_ | refine w_tpn ?_ | refine w_lst ?_ | refine w_lstM ?_ | refine w_wk ?_ | refine w_frz ?_ | refine w_meth ?_ | refine w_test ?_ | refine w_notT ?_ | refine w_andT ?_ | refine w_orT ?_ | refine w_yes ?_ | refine w_and ?_ | refine w_or ?_ | refine w_not ?_ | refine w_if ?_ | refine w_ifS ?_ | refine w_seq ?_ | refine w_next ?_ | refine w_cnt ?_ | refine w_ret ?_ | refine w_expr ?_ | refine w_asg ?_ | refine w_par ?_ | refine w_F ?_ | refine w_Fp ?_ | refine w_itL ?_ | refine w_itT ?_ | refine w_itK ?_ | refine w_rng ?_ | refine w_neg ?_ | refine w_dput ?_ | refine w_newD ?_) | refine ⟨_, _, rfl, ?_⟩ | refine ⟨_, rfl, ?_⟩))
  refine ⟨by simp [noRs, noR, h.nr], _, naming_ok (ws := tw3) h.t (Nat.le_trans h.zt mz), by simp [noR, nr_its], _, rfl, ?_⟩
  refine w_loopR itD (badI (rows.map (·.1))) (.bl false) (fun ρ => ∃ u4 u5, ρ = [some (.tup (rows.map toR)), some (.tup (gs.map pairD)), some (.dct kn), some (.dct kg), u4, u5, none, none, none]) (nm tw3 rows) ?_ _ ⟨none, none, rfl⟩ (fun c => ?_) (fun c ρ' ⟨u4, u5, e⟩ => ?_)
  · rintro t ht ρ ⟨u4, u5, rfl⟩
    obtain ⟨o1, o2⟩ := h.it t ht
    obtain ⟨x, n, i⟩ := t
    simp only at o1 o2
    refine ⟨[some (.tup (rows.map toR)), some (.tup (gs.map pairD)), some (.dct kn), some (.dct kg), some (.str x), some (.tup [.str n, .int i]), none, none, none], rfl, ?_⟩
    refine w_ifS (w_orT (w_test ?_))
    (repeat (first | (with_reducible first | refine w_v rfl ?_ | refine w_c ?_ | refine w_d2 ?_ | refine w_cons ?_ | refine w_nil ?_ | refine w_call ?_ | refine w_tup ?_ | refine w_tpn ?_ | refine w_lst ?_ | refine w_lstM ?_ | refine w_wk ?_ | refine w_frz ?_ | refine w_meth ?_ | refine w_test ?_ | refine w_notT ?_ | refine w_andT ?_ | refine w_orT ?_ | refine w_yes ?_ | refine w_and ?_ | refine w_or ?_ | refine w_not ?_ | refine w_if ?_ | refine w_ifS ?_ | refine w_seq ?_ | refine w_next ?_ | refine w_cnt ?_ | refine w_ret ?_ | refine w_expr ?_ | refine w_asg ?_ | refine w_par ?_ | refine w_F ?_ | refine w_Fp ?_ | refine w_itL ?_ | refine w_itT ?_ | refine w_itK ?_ | refine w_rng ?_ | refine w_neg ?_ | refine w_dput ?_ | refine w_newD ?_) | refine ⟨_, _, rfl, ?_⟩ | refine ⟨_, rfl, ?_⟩))
    have kx := known x
    unfold badI
    refine ⟨fun c => ⟨fun _ => ?_, fun c2 => by cases c2⟩, fun c => w_test (w_d2 ?_)⟩
    · have c1 : (!(rows.map (·.1)).contains x) = true := by rw [← kx]; exact c
      simp only
      rw [c1]
      (repeat (first | (with_reducible first | refine w_v rfl ?_ | refine w_c ?_ | refine w_d2 ?_ | refine w_cons ?_ | refine w_nil ?_ | refine w_call ?_ | refine w_tup ?_ | refine w_tpn ?_ | refine w_lst ?_ | refine w_lstM ?_ | refine w_wk ?_ | refine w_frz ?_ | refine w_meth ?_ | refine w_test ?_ | refine w_notT ?_ | refine w_andT ?_ | refine w_orT ?_ | refine w_yes ?_ | refine w_and ?_ | refine w_or ?_ | refine w_not ?_ | refine w_if ?_ | refine w_ifS ?_ | refine w_seq ?_ | refine w_next ?_ | refine w_cnt ?_ | refine w_ret ?_ | refine w_expr ?_ | refine w_asg ?_ | refine w_par ?_ | refine w_F ?_ | refine w_Fp ?_ | refine w_itL ?_ | refine w_itT ?_ | refine w_itK ?_ | refine w_rng ?_ | refine w_neg ?_ | refine w_dput ?_ | refine w_newD ?_) | refine ⟨_, _, rfl, ?_⟩ | refine ⟨_, rfl, ?_⟩))
      exact ⟨rfl, fun _ => rfl, fun c => by simp at c⟩
    · have c1 : (!(rows.map (·.1)).contains x) = false := by rw [← kx]; exact c
      simp only
      rw [c1, Bool.false_or]
      refine w_v rfl (w_d2 ?_)
      (repeat (first | (with_reducible first | refine w_v rfl ?_ | refine w_c ?_ | refine w_d2 ?_ | refine w_cons ?_ | refine w_nil ?_ | refine w_call ?_ | refine w_tup ?_ | refine w_tpn ?_ | refine w_lst ?_ | refine w_lstM ?_ | refine w_wk ?_ | refine w_frz ?_ | refine w_meth ?_ | refine w_test ?_ | refine w_notT ?_ | refine w_andT ?_ | refine w_orT ?_ | refine w_yes ?_ | refine w_and ?_ | refine w_or ?_ | refine w_not ?_ | refine w_if ?_ | refine w_ifS ?_ | refine w_seq ?_ | refine w_next ?_ | refine w_cnt ?_ | refine w_ret ?_ | refine w_expr ?_ | refine w_asg ?_ | refine w_par ?_ | refine w_F ?_ | refine w_Fp ?_ | refine w_itL ?_ | refine w_itT ?_ | refine w_itK ?_ | refine w_rng ?_ | refine w_neg ?_ | refine w_dput ?_ | refine w_newD ?_) | refine ⟨_, _, rfl, ?_⟩ | refine ⟨_, rfl, ?_⟩))
      refine ⟨.bl (x == n), [], by unfold pur2 pur; rw [eqO_str o1 o2]; rfl, _, rfl, fun c => ?_, fun c => ?_⟩
      · have c' : (x == n) = true := c
        (repeat (first | (with_reducible first | refine w_v rfl ?_ | refine w_c ?_ | refine w_d2 ?_ | refine w_cons ?_ | refine w_nil ?_ | refine w_call ?_ | refine w_tup ?_ | refine w_tpn ?_ | refine w_lst ?_ | refine w_lstM ?_ | refine w_wk ?_ | refine w_frz ?_ | refine w_meth ?_ | refine w_test ?_ | refine w_notT ?_ | refine w_andT ?_ | refine w_orT ?_ | refine w_yes ?_ | refine w_and ?_ | refine w_or ?_ | refine w_not ?_ | refine w_if ?_ | refine w_ifS ?_ | refine w_seq ?_ | refine w_next ?_ | refine w_cnt ?_ | refine w_ret ?_ | refine w_expr ?_ | refine w_asg ?_ | refine w_par ?_ | refine w_F ?_ | refine w_Fp ?_ | refine w_itL ?_ | refine w_itT ?_ | refine w_itK ?_ | refine w_rng ?_ | refine w_neg ?_ | refine w_dput ?_ | refine w_newD ?_) | refine ⟨_, _, rfl, ?_⟩ | refine ⟨_, rfl, ?_⟩))
        exact ⟨rfl, fun _ => rfl, fun c2 => by rw [c'] at c2; cases c2⟩
      · have c' : (x == n) = false := c
        (repeat (first | (with_reducible first | refine w_v rfl ?_ | refine w_c ?_ | refine w_d2 ?_ | refine w_cons ?_ | refine w_nil ?_ | refine w_call ?_ | refine w_tup ?_ | refine w_tpn ?_ | refine w_lst ?_ | refine w_lstM ?_ | refine w_wk ?_ | refine w_frz ?_ | refine w_meth ?_ | refine w_test ?_ | refine w_notT ?_ | refine w_andT ?_ | refine w_orT ?_ | refine w_yes ?_ | refine w_and ?_ | refine w_or ?_ | refine w_not ?_ | refine w_if ?_ | refine w_ifS ?_ | refine w_seq ?_ | refine w_next ?_ | refine w_cnt ?_ | refine w_ret ?_ | refine w_expr ?_ | refine w_asg ?_ | refine w_par ?_ | refine w_F ?_ | refine w_Fp ?_ | refine w_itL ?_ | refine w_itT ?_ | refine w_itK ?_ | refine w_rng ?_ | refine w_neg ?_ | refine w_dput ?_ | refine w_newD ?_) | refine ⟨_, _, rfl, ?_⟩ | refine ⟨_, rfl, ?_⟩))
        exact ⟨rfl, fun c2 => (by rw [c'] at c2; cases c2), fun _ => ⟨_, rfl, _, _, rfl⟩⟩
  · refine ⟨_, rfl, ?_⟩
    rw [c]
    rfl
  subst e
  rw [c]
  show WP _ _ _
  refine w_seq (w_asg (w_lcBM rows toR inGroup (fun r => .str r.2.1) ?_ (Nat.le_trans h.z mz) (fun r hr => ⟨_, rfl, ?_, fun _ => ?_⟩) ?_))
  · (repeat (first | (with_reducible first | refine w_v rfl ?_ | refine w_c ?_ | refine w_d2 ?_ | refine w_cons ?_ | refine w_nil ?_ | refine w_call ?_ | refine w_tup ?_ | refine w_tpn ?_ | refine w_lst ?_ | refine w_lstM ?_ | refine w_wk ?_ | refine w_frz ?_ | refine w_meth ?_ | refine w_test ?_ | refine w_notT ?_ | refine w_andT ?_ | refine w_orT ?_ | refine w_yes ?_ | refine w_and ?_ | refine w_or ?_ | refine w_not ?_ | refine w_if ?_ | refine w_ifS ?_ | refine w_seq ?_ | refine w_next ?_ | refine w_cnt ?_ | refine w_ret ?_ | refine w_expr ?_ | refine w_asg ?_ | refine w_par ?_ | refine w_F ?_ | refine w_Fp ?_ | refine w_itL ?_ | refine w_itT ?_ | refine w_itK ?_ | refine w_rng ?_ | refine w_neg ?_ | refine w_dput ?_ | refine w_newD ?_) | refine ⟨_, _, rfl, ?_⟩ | refine ⟨_, rfl, ?_⟩))
    exact ⟨rfl, rfl⟩
  · refine w_test (w_d2 (w_d2 ?_))
    (repeat (first | (with_reducible first | refine w_v rfl ?_ | refine w_c ?_ | refine w_d2 ?_ | refine w_cons ?_ | refine w_nil ?_ | refine w_call ?_ | refine w_tup ?_ | refine w_tpn ?_ | refine w_lst ?_ | refine w_lstM ?_ | refine w_wk ?_ | refine w_frz ?_ | refine w_meth ?_ | refine w_test ?_ | refine w_notT ?_ | refine w_andT ?_ | refine w_orT ?_ | refine w_yes ?_ | refine w_and ?_ | refine w_or ?_ | refine w_not ?_ | refine w_if ?_ | refine w_ifS ?_ | refine w_seq ?_ | refine w_next ?_ | refine w_cnt ?_ | refine w_ret ?_ | refine w_expr ?_ | refine w_asg ?_ | refine w_par ?_ | refine w_F ?_ | refine w_Fp ?_ | refine w_itL ?_ | refine w_itT ?_ | refine w_itK ?_ | refine w_rng ?_ | refine w_neg ?_ | refine w_dput ?_ | refine w_newD ?_) | refine ⟨_, _, rfl, ?_⟩ | refine ⟨_, rfl, ?_⟩))
    exact ⟨.bl (inGroup r), [], by unfold pur2 pur; rw [eqO_str (h.g r hr) ok_none]; rfl, _, rfl, rfl, rfl⟩
  · refine w_d2 ?_
    (repeat (first | (with_reducible first | refine w_v rfl ?_ | refine w_c ?_ | refine w_d2 ?_ | refine w_cons ?_ | refine w_nil ?_ | refine w_call ?_ | refine w_tup ?_ | refine w_tpn ?_ | refine w_lst ?_ | refine w_lstM ?_ | refine w_wk ?_ | refine w_frz ?_ | refine w_meth ?_ | refine w_test ?_ | refine w_notT ?_ | refine w_andT ?_ | refine w_orT ?_ | refine w_yes ?_ | refine w_and ?_ | refine w_or ?_ | refine w_not ?_ | refine w_if ?_ | refine w_ifS ?_ | refine w_seq ?_ | refine w_next ?_ | refine w_cnt ?_ | refine w_ret ?_ | refine w_expr ?_ | refine w_asg ?_ | refine w_par ?_ | refine w_F ?_ | refine w_Fp ?_ | refine w_itL ?_ | refine w_itT ?_ | refine w_itK ?_ | refine w_rng ?_ | refine w_neg ?_ | refine w_dput ?_ | refine w_newD ?_) | refine ⟨_, _, rfl, ?_⟩ | refine ⟨_, rfl, ?_⟩))
    exact ⟨rfl, rfl⟩
  refine ⟨_, _, rfl, ?_⟩
  have la : ((rows.filter inGroup).map fun r => D.str r.2.1).length ≤ 1000 := by
    rw [List.length_map]
    exact Nat.le_trans (List.length_filter_le _ _) h.z
  show WP _ _ _
  refine w_seq (w_expr (w_meth (w_v rfl ⟨⟨_, rfl⟩, w_cons (w_lcB (nm cw2 rows) itD (fun _ => true) (fun t => .str t.1) ?_ (Nat.le_trans h.zc mz) (fun t ht => ⟨_, rfl, w_yes ⟨rfl, rfl⟩, fun _ => ?_⟩) ?_)⟩)))
  · refine w_itL (w_ans ?_)
    (repeat (first | (with_reducible first | refine w_v rfl ?_ | refine w_c ?_ | refine w_d2 ?_ | refine w_cons ?_ | refine w_nil ?_ | refine w_call ?_ | refine w_tup ?_ | refine w_tpn ?_ | refine w_lst ?_ | refine w_lstM ?_ | refine w_wk ?_ | refine w_frz ?_ | refine w_meth ?_ | refine w_test ?_ | refine w_notT ?_ | refine w_andT ?_ | refine w_orT ?_ | refine w_yes ?_ | refine w_and ?_ | refine w_or ?_ | refine w_not ?_ | refine w_if ?_ | refine w_ifS ?_ | refine w_seq ?_ | refine w_next ?_ | refine w_cnt ?_ | refine w_ret ?_ | refine w_expr ?_ | refine w_asg ?_ | refine w_par ?_ | refine w_F ?_ | refine w_Fp ?_ | refine w_itL ?_ | refine w_itT ?_ | refine w_itK ?_ | refine w_rng ?_ | refine w_neg ?_ | refine w_dput ?_ | refine w_newD ?_) | refine ⟨_, _, rfl, ?_⟩ | refine ⟨_, rfl, ?_⟩))
    exact ⟨by simp [noRs, noR, h.nr], _, naming_ok (ws := cw2) h.c (Nat.le_trans h.zc mz), by simp [noR, nr_its], _, rfl, rfl, rfl⟩
  · (repeat (first | (with_reducible first | refine w_v rfl ?_ | refine w_c ?_ | refine w_d2 ?_ | refine w_cons ?_ | refine w_nil ?_ | refine w_call ?_ | refine w_tup ?_ | refine w_tpn ?_ | refine w_lst ?_ | refine w_lstM ?_ | refine w_wk ?_ | refine w_frz ?_ | refine w_meth ?_ | refine w_test ?_ | refine w_notT ?_ | refine w_andT ?_ | refine w_orT ?_ | refine w_yes ?_ | refine w_and ?_ | refine w_or ?_ | refine w_not ?_ | refine w_if ?_ | refine w_ifS ?_ | refine w_seq ?_ | refine w_next ?_ | refine w_cnt ?_ | refine w_ret ?_ | refine w_expr ?_ | refine w_asg ?_ | refine w_par ?_ | refine w_F ?_ | refine w_Fp ?_ | refine w_itL ?_ | refine w_itT ?_ | refine w_itK ?_ | refine w_rng ?_ | refine w_neg ?_ | refine w_dput ?_ | refine w_newD ?_) | refine ⟨_, _, rfl, ?_⟩ | refine ⟨_, rfl, ?_⟩))
    exact ⟨rfl, rfl⟩
  have ft : (nm cw2 rows).filter (fun _ => true) = nm cw2 rows := by simp
  rw [ft]
  have lb : ((nm cw2 rows).map fun t => D.str t.1).length ≤ 1000 := by rw [List.length_map]; exact h.zc
  refine w_nil ⟨.non, [.lst (((rows.filter inGroup).map fun r => D.str r.2.1) ++ (nm cw2 rows).map fun t => D.str t.1)], ?_, ?_⟩
  · unfold extF
    simp only [List.nil_append, List.length_nil, List.getElem?_cons_zero]
    rw [if_pos (by omega)]
    rfl
  have en : ((rows.filter inGroup).map fun r => D.str r.2.1) ++ ((nm cw2 rows).map fun t => D.str t.1) = (named rows).map fun x => D.str x := by
    unfold named
    rw [List.map_append, List.map_map, List.map_map]
    rfl
  rw [en]
  have lnm : (named rows).length ≤ mx := by
    have l1 := List.length_filter_le inGroup rows
    have l2 := h.z
    have l3 := h.zc
    unfold named
    rw [List.length_append, List.length_map, List.length_map]
    omega
  show WP _ _ _
  refine w_sFrz (d := .ref 0) (t' := .lst ((named rows).map fun x => D.str x)) (G2 := [.gone]) rfl rfl (w_ret ?_)
  refine w_allA (named rows) (fun x => .str x) (fun x => (gs.map (·.1)).contains x) ?_ lnm (fun x hx => ⟨_, rfl, ?_⟩) ?_
  · (repeat (first | (with_reducible first | refine w_v rfl ?_ | refine w_c ?_ | refine w_d2 ?_ | refine w_cons ?_ | refine w_nil ?_ | refine w_call ?_ | refine w_tup ?_ | refine w_tpn ?_ | refine w_lst ?_ | refine w_lstM ?_ | refine w_wk ?_ | refine w_frz ?_ | refine w_meth ?_ | refine w_test ?_ | refine w_notT ?_ | refine w_andT ?_ | refine w_orT ?_ | refine w_yes ?_ | refine w_and ?_ | refine w_or ?_ | refine w_not ?_ | refine w_if ?_ | refine w_ifS ?_ | refine w_seq ?_ | refine w_next ?_ | refine w_cnt ?_ | refine w_ret ?_ | refine w_expr ?_ | refine w_asg ?_ | refine w_par ?_ | refine w_F ?_ | refine w_Fp ?_ | refine w_itL ?_ | refine w_itT ?_ | refine w_itK ?_ | refine w_rng ?_ | refine w_neg ?_ | refine w_dput ?_ | refine w_newD ?_) | refine ⟨_, _, rfl, ?_⟩ | refine ⟨_, rfl, ?_⟩))
    exact ⟨rfl, rfl⟩
  · (repeat (first | (with_reducible first | refine w_v rfl ?_ | refine w_c ?_ | refine w_d2 ?_ | refine w_cons ?_ | refine w_nil ?_ | refine w_call ?_ | refine w_tup ?_ | refine w_tpn ?_ | refine w_lst ?_ | refine w_lstM ?_ | refine w_wk ?_ | refine w_frz ?_ | refine w_meth ?_ | refine w_test ?_ | refine w_notT ?_ | refine w_andT ?_ | refine w_orT ?_ | refine w_yes ?_ | refine w_and ?_ | refine w_or ?_ | refine w_not ?_ | refine w_if ?_ | refine w_ifS ?_ | refine w_seq ?_ | refine w_next ?_ | refine w_cnt ?_ | refine w_ret ?_ | refine w_expr ?_ | refine w_asg ?_ | refine w_par ?_ | refine w_F ?_ | refine w_Fp ?_ | refine w_itL ?_ | refine w_itT ?_ | refine w_itK ?_ | refine w_rng ?_ | refine w_neg ?_ | refine w_dput ?_ | refine w_newD ?_) | refine ⟨_, _, rfl, ?_⟩ | refine ⟨_, rfl, ?_⟩))
    exact ⟨by rw [← knownG x]; rfl, rfl⟩
  · exact ⟨_, rfl, by simp⟩
end K01

namespace K01
open PySem PySem.Spec PyProof.Rows L2 Tw
def sw1 : List Str := ["start"]
theorem nr_kvI (l : List It) : noRk (l.map kvI) = true := by
  induction l with
  | nil => rfl
  | cons t l ih => simp [noRk, noR, noRs, kvI, ih]
theorem nr_kvP (l : List (Str × Str)) : noRk (l.map kvP) = true := by
  induction l with
  | nil => rfl
  | cons t l ih => simp [noRk, noR, kvP, ih]
theorem nr_pairs (l : List (Str × Str)) : noRs (l.map pairD) = true := by
  induction l with
  | nil => rfl
  | cons t l ih => simp [noRs, noR, pairD, ih]
theorem pairsO_ok (gs : List (Str × Str)) : pairsO (gs.map pairD) = some (gs.map kvP) := by
  induction gs with
  | nil => rfl
  | cons p gs ih => simp [pairsO, pairD, keyO, ih, kvP]
theorem mergeD_new : ∀ (gs : List (Str × Str)) (acc : List (Key × D)), ((acc.map (·.1)) ++ (gs.map kvP).map (·.1)).Nodup → mergeD acc (gs.map kvP) = acc ++ gs.map kvP
  | [], acc, _ => by simp [mergeD]
  | p :: gs, acc, nd => by
    have fresh : (kvP p).1 ∉ acc.map (·.1) := fun hm => (List.nodup_append.mp nd).2.2 _ hm _ List.mem_cons_self rfl
    show mergeD (putKD acc (kvP p).1 (kvP p).2) (gs.map kvP) = _
    rw [put_new fresh, mergeD_new gs _ (by simpa using nd)]
    simp
theorem hang_bad {rows : List Rw} (h : RowsOk rows) {gs : List (Str × Str)} (ng : (gs.map (·.1)).Nodup) (zg : gs.length ≤ 1000) (hb : (nm tw3 rows).any (badI (rows.map (·.1))) = true) : Ans F_hangs_together [.tup (rows.map toR), .tpn (gs.map pairD)] (.bl false) := by
  have ns := names_stand_ok h ng zg
  rw [hb] at ns
  refine w_run ?_
  unfold ds_hangs_together
  refine w_seq (w_ifS (w_notT (w_test (w_ans ?_))))
  (repeat (first | (with_reducible first | refine w_v rfl ?_ | refine w_c ?_ | refine w_d2 ?_ | refine w_cons ?_ | refine w_nil ?_ | refine w_call ?_ | refine w_tup ?_ | refine w_tpn ?_ | refine w_lst ?_ | refine w_lstM ?_ | refine w_wk ?_ | refine w_frz ?_ | refine w_meth ?_ | refine w_test ?_ | refine w_notT ?_ | refine w_andT ?_ | refine w_orT ?_ | refine w_yes ?_ | refine w_and ?_ | refine w_or ?_ | refine w_not ?_ | refine w_if ?_ | refine w_ifS ?_ | refine w_seq ?_ | refine w_next ?_ | refine w_cnt ?_ | refine w_ret ?_ | refine w_expr ?_ | refine w_asg ?_ | refine w_par ?_ | refine w_F ?_ | refine w_Fp ?_ | refine w_itL ?_ | refine w_itT ?_ | refine w_itK ?_ | refine w_rng ?_ | refine w_neg ?_ | refine w_dput ?_ | refine w_newD ?_) | refine ⟨_, _, rfl, ?_⟩ | refine ⟨_, rfl, ?_⟩))
  refine ⟨by simp [noRs, noR, h.nr, wkD, nr_pairs], _, ns, rfl, _, rfl, fun _ => ?_, fun c => (by cases c)⟩
  (repeat (first | (with_reducible first | refine w_v rfl ?_ | refine w_c ?_ | refine w_d2 ?_ | refine w_cons ?_ | refine w_nil ?_ | refine w_call ?_ | refine w_tup ?_ | refine w_tpn ?_ | refine w_lst ?_ | refine w_lstM ?_ | refine w_wk ?_ | refine w_frz ?_ | refine w_meth ?_ | refine w_test ?_ | refine w_notT ?_ | refine w_andT ?_ | refine w_orT ?_ | refine w_yes ?_ | refine w_and ?_ | refine w_or ?_ | refine w_not ?_ | refine w_if ?_ | refine w_ifS ?_ | refine w_seq ?_ | refine w_next ?_ | refine w_cnt ?_ | refine w_ret ?_ | refine w_expr ?_ | refine w_asg ?_ | refine w_par ?_ | refine w_F ?_ | refine w_Fp ?_ | refine w_itL ?_ | refine w_itT ?_ | refine w_itK ?_ | refine w_rng ?_ | refine w_neg ?_ | refine w_dput ?_ | refine w_newD ?_) | refine ⟨_, _, rfl, ?_⟩ | refine ⟨_, rfl, ?_⟩))
  rfl
theorem hang_ok {rows : List Rw} (h : RowsOk rows) {gs : List (Str × Str)} (ng : (gs.map (·.1)).Nodup) (zg : gs.length ≤ 1000) (okg : ∀ p ∈ gs, PyData.strOk p.2 = true)
    (hb : (nm tw3 rows).any (badI (rows.map (·.1))) = false) (hn : (named rows).all (fun x => (gs.map (·.1)).contains x) = true)
    (hS : ∀ r ∈ rows, r.2.2.all (okA sw1) = true) (zs : (nm sw1 rows).length ≤ 1000) (ndS : ((nm sw1 rows).map (·.1)).Nodup) (ndC : ((nm cw2 rows).map (·.1)).Nodup)
    {t0 : Str} (hst : ∀ t ∈ nm sw1 rows, t.2.1 = t0) (h0 : t0 ∉ (nm sw1 rows).map (·.1)) (okc : ∀ t ∈ nm cw2 rows, PyData.strOk t.2.1 = true)
    (hs : gs.all (closedB ((nm cw2 rows).map kvI)) = true → ∀ r ∈ rows, StartOk (gs.map kvP) ((nm cw2 rows).map kvI) ((nm sw1 rows).map kvI) r) :
    Ans F_hangs_together [.tup (rows.map toR), .tpn (gs.map pairD)] (.bl (gs.all (closedB ((nm cw2 rows).map kvI)))) := by
  have mz : (1001 : Nat) ≤ mx := by decide
  have ns := names_stand_ok h ng zg
  rw [hb, hn] at ns
  have n1 : ∀ ws : List Str, noRs [.tup (rows.map toR), .tup (ws.map D.str)] = true := fun ws => by simp [noRs, noR, h.nr, nr_strs]
  have ndC2 : (((nm cw2 rows).map kvI).map (·.1)).Nodup := nd_key (·.1) kvI (fun _ => rfl) ndC
  have ndS2 : (((nm sw1 rows).map kvI).map (·.1)).Nodup := nd_key (·.1) kvI (fun _ => rfl) ndS
  have cl : Ans F_sole_marks [.tup (rows.map toR), .tup (cw2.map .str)] (.dct ((nm cw2 rows).map kvI)) := sole_ok h.c (n1 cw2) (by have := h.zc; omega) ndC
  have st : Ans F_sole_marks [.tup (rows.map toR), .tup (sw1.map .str)] (.dct ((nm sw1 rows).map kvI)) := sole_ok hS (n1 sw1) (by omega) ndS
  refine w_run ?_
  unfold ds_hangs_together
  refine w_seq (w_ifS (w_notT (w_test (w_ans ?_))))
  (repeat (first | (with_reducible first | refine w_v rfl ?_ | refine w_c ?_ | refine w_d2 ?_ | refine w_cons ?_ | refine w_nil ?_ | refine w_call ?_ | refine w_tup ?_ | refine w_tpn ?_ | refine w_lst ?_ | refine w_lstM ?_ | refine w_wk ?_ | refine w_frz ?_ | refine w_meth ?_ | refine w_test ?_ | refine w_notT ?_ | refine w_andT ?_ | refine w_orT ?_ | refine w_yes ?_ | refine w_and ?_ | refine w_or ?_ | refine w_not ?_ | refine w_if ?_ | refine w_ifS ?_ | refine w_seq ?_ | refine w_next ?_ | refine w_cnt ?_ | refine w_ret ?_ | refine w_expr ?_ | refine w_asg ?_ | refine w_par ?_ | refine w_F ?_ | refine w_Fp ?_ | refine w_itL ?_ | refine w_itT ?_ | refine w_itK ?_ | refine w_rng ?_ | refine w_neg ?_ | refine w_dput ?_ | refine w_newD ?_) | refine ⟨_, _, rfl, ?_⟩ | refine ⟨_, rfl, ?_⟩))
  refine ⟨by simp [noRs, noR, h.nr, wkD, nr_pairs], _, ns, rfl, _, rfl, fun c => (by cases c), fun _ => w_next ?_⟩
  show WP _ _ _
  refine w_seq (w_asg (w_ans ?_))
  (repeat (first | (with_reducible first | refine w_v rfl ?_ | refine w_c ?_ | refine w_d2 ?_ | refine w_cons ?_ | refine w_nil ?_ | refine w_call ?_ | refine w_tup ?_ | refine w_tpn ?_ | refine w_lst ?_ | refine w_lstM ?_ | refine w_wk ?_ | refine w_frz ?_ | refine w_meth ?_ | refine w_test ?_ | refine w_notT ?_ | refine w_andT ?_ | refine w_orT ?_ | refine w_yes ?_ | refine w_and ?_ | refine w_or ?_ | refine w_not ?_ | refine w_if ?_ | refine w_ifS ?_ | refine w_seq ?_ | refine w_next ?_ | refine w_cnt ?_ | refine w_ret ?_ | refine w_expr ?_ | refine w_asg ?_ | refine w_par ?_ | refine w_F ?_ | refine w_Fp ?_ | refine w_itL ?_ | refine w_itT ?_ | refine w_itK ?_ | refine w_rng ?_ | refine w_neg ?_ | refine w_dput ?_ | refine w_newD ?_) | refine ⟨_, _, rfl, ?_⟩ | refine ⟨_, rfl, ?_⟩))
  refine ⟨n1 cw2, _, cl, by simp [noR, nr_kvI], _, _, rfl, ?_⟩
  show WP _ _ _
  refine w_seq (w_asg (w_ans ?_))
  (repeat (first | (with_reducible first | refine w_v rfl ?_ | refine w_c ?_ | refine w_d2 ?_ | refine w_cons ?_ | refine w_nil ?_ | refine w_call ?_ | refine w_tup ?_ | refine w_tpn ?_ | refine w_lst ?_ | refine w_lstM ?_ | refine w_wk ?_ | refine w_frz ?_ | refine w_meth ?_ | refine w_test ?_ | refine w_notT ?_ | refine w_andT ?_ | refine w_orT ?_ | refine w_yes ?_ | refine w_and ?_ | refine w_or ?_ | refine w_not ?_ | refine w_if ?_ | refine w_ifS ?_ | refine w_seq ?_ | refine w_next ?_ | refine w_cnt ?_ | refine w_ret ?_ | refine w_expr ?_ | refine w_asg ?_ | refine w_par ?_ | refine w_F ?_ | refine w_Fp ?_ | refine w_itL ?_ | refine w_itT ?_ | refine w_itK ?_ | refine w_rng ?_ | refine w_neg ?_ | refine w_dput ?_ | refine w_newD ?_) | refine ⟨_, _, rfl, ?_⟩ | refine ⟨_, rfl, ?_⟩))
  refine ⟨by decide, ?_⟩
  (repeat (first | (with_reducible first | refine w_v rfl ?_ | refine w_c ?_ | refine w_d2 ?_ | refine w_cons ?_ | refine w_nil ?_ | refine w_call ?_ | refine w_tup ?_ | refine w_tpn ?_ | refine w_lst ?_ | refine w_lstM ?_ | refine w_wk ?_ | refine w_frz ?_ | refine w_meth ?_ | refine w_test ?_ | refine w_notT ?_ | refine w_andT ?_ | refine w_orT ?_ | refine w_yes ?_ | refine w_and ?_ | refine w_or ?_ | refine w_not ?_ | refine w_if ?_ | refine w_ifS ?_ | refine w_seq ?_ | refine w_next ?_ | refine w_cnt ?_ | refine w_ret ?_ | refine w_expr ?_ | refine w_asg ?_ | refine w_par ?_ | refine w_F ?_ | refine w_Fp ?_ | refine w_itL ?_ | refine w_itT ?_ | refine w_itK ?_ | refine w_rng ?_ | refine w_neg ?_ | refine w_dput ?_ | refine w_newD ?_) | refine ⟨_, _, rfl, ?_⟩ | refine ⟨_, rfl, ?_⟩))
  refine ⟨n1 sw1, _, st, by simp [noR, nr_kvI], _, _, rfl, ?_⟩
  show WP _ _ _
  refine w_seq ?_
  (repeat (first | (with_reducible first | refine w_v rfl ?_ | refine w_c ?_ | refine w_d2 ?_ | refine w_cons ?_ | refine w_nil ?_ | refine w_call ?_ | refine w_tup ?_ | refine w_tpn ?_ | refine w_lst ?_ | refine w_lstM ?_ | refine w_wk ?_ | refine w_frz ?_ | refine w_meth ?_ | refine w_test ?_ | refine w_notT ?_ | refine w_andT ?_ | refine w_orT ?_ | refine w_yes ?_ | refine w_and ?_ | refine w_or ?_ | refine w_not ?_ | refine w_if ?_ | refine w_ifS ?_ | refine w_seq ?_ | refine w_next ?_ | refine w_cnt ?_ | refine w_ret ?_ | refine w_expr ?_ | refine w_asg ?_ | refine w_par ?_ | refine w_F ?_ | refine w_Fp ?_ | refine w_itL ?_ | refine w_itT ?_ | refine w_itK ?_ | refine w_rng ?_ | refine w_neg ?_ | refine w_dput ?_ | refine w_newD ?_) | refine ⟨_, _, rfl, ?_⟩ | refine ⟨_, rfl, ?_⟩))
  refine ⟨fun c => (by cases c), fun _ => ?_⟩
  (repeat (first | (with_reducible first | refine w_v rfl ?_ | refine w_c ?_ | refine w_d2 ?_ | refine w_cons ?_ | refine w_nil ?_ | refine w_call ?_ | refine w_tup ?_ | refine w_tpn ?_ | refine w_lst ?_ | refine w_lstM ?_ | refine w_wk ?_ | refine w_frz ?_ | refine w_meth ?_ | refine w_test ?_ | refine w_notT ?_ | refine w_andT ?_ | refine w_orT ?_ | refine w_yes ?_ | refine w_and ?_ | refine w_or ?_ | refine w_not ?_ | refine w_if ?_ | refine w_ifS ?_ | refine w_seq ?_ | refine w_next ?_ | refine w_cnt ?_ | refine w_ret ?_ | refine w_expr ?_ | refine w_asg ?_ | refine w_par ?_ | refine w_F ?_ | refine w_Fp ?_ | refine w_itL ?_ | refine w_itT ?_ | refine w_itK ?_ | refine w_rng ?_ | refine w_neg ?_ | refine w_dput ?_ | refine w_newD ?_) | refine ⟨_, _, rfl, ?_⟩ | refine ⟨_, rfl, ?_⟩))
  refine ⟨fun c => (by cases c), fun _ => w_next ?_⟩
  show WP _ _ _
  refine w_seq (w_asg (w_call ?_))
  (repeat (first | (with_reducible first | refine w_v rfl ?_ | refine w_c ?_ | refine w_d2 ?_ | refine w_cons ?_ | refine w_nil ?_ | refine w_call ?_ | refine w_tup ?_ | refine w_tpn ?_ | refine w_lst ?_ | refine w_lstM ?_ | refine w_wk ?_ | refine w_frz ?_ | refine w_meth ?_ | refine w_test ?_ | refine w_notT ?_ | refine w_andT ?_ | refine w_orT ?_ | refine w_yes ?_ | refine w_and ?_ | refine w_or ?_ | refine w_not ?_ | refine w_if ?_ | refine w_ifS ?_ | refine w_seq ?_ | refine w_next ?_ | refine w_cnt ?_ | refine w_ret ?_ | refine w_expr ?_ | refine w_asg ?_ | refine w_par ?_ | refine w_F ?_ | refine w_Fp ?_ | refine w_itL ?_ | refine w_itT ?_ | refine w_itK ?_ | refine w_rng ?_ | refine w_neg ?_ | refine w_dput ?_ | refine w_newD ?_) | refine ⟨_, _, rfl, ?_⟩ | refine ⟨_, rfl, ?_⟩))
  refine ⟨.dct (gs.map kvP), [], ?_, _, _, rfl, ?_⟩
  · have e : mergeD [] (gs.map kvP) = gs.map kvP := by
      rw [mergeD_new gs [] (by simpa using nd_key (·.1) kvP (fun _ => rfl) ng)]
      simp
    unfold dictNF
    simp only [pairsO_ok, e]
  show WP _ _ _
  refine w_lock rfl (w_ret (w_and (w_ans ?_)))
  (repeat (first | (with_reducible first | refine w_v rfl ?_ | refine w_c ?_ | refine w_d2 ?_ | refine w_cons ?_ | refine w_nil ?_ | refine w_call ?_ | refine w_tup ?_ | refine w_tpn ?_ | refine w_lst ?_ | refine w_lstM ?_ | refine w_wk ?_ | refine w_frz ?_ | refine w_meth ?_ | refine w_test ?_ | refine w_notT ?_ | refine w_andT ?_ | refine w_orT ?_ | refine w_yes ?_ | refine w_and ?_ | refine w_or ?_ | refine w_not ?_ | refine w_if ?_ | refine w_ifS ?_ | refine w_seq ?_ | refine w_next ?_ | refine w_cnt ?_ | refine w_ret ?_ | refine w_expr ?_ | refine w_asg ?_ | refine w_par ?_ | refine w_F ?_ | refine w_Fp ?_ | refine w_itL ?_ | refine w_itT ?_ | refine w_itK ?_ | refine w_rng ?_ | refine w_neg ?_ | refine w_dput ?_ | refine w_newD ?_) | refine ⟨_, _, rfl, ?_⟩ | refine ⟨_, rfl, ?_⟩))
  refine ⟨by simp [noRs, noR, nr_kvI, nr_kvP], _, hosts_close_ok (closers := (nm cw2 rows).map kvI) ng okg (by omega) ?_, rfl, _, rfl, fun c => ?_, fun c => ?_⟩
  · intro p hp
    by_cases hm : (Sum.inr p.1 : Key) ∈ ((nm cw2 rows).map kvI).map (·.1)
    · obtain ⟨q, hq, e⟩ := List.mem_map.mp hm
      obtain ⟨t, ht, rfl⟩ := List.mem_map.mp hq
      refine .inr ⟨t.2.1, .int t.2.2, ?_, okc t ht⟩
      rw [← e]
      exact lookK_eq ndC2 (List.mem_map.mpr ⟨t, ht, rfl⟩)
    · exact .inl (lookK_none hm)
  · refine w_and (w_ans ?_)
    (repeat (first | (with_reducible first | refine w_v rfl ?_ | refine w_c ?_ | refine w_d2 ?_ | refine w_cons ?_ | refine w_nil ?_ | refine w_call ?_ | refine w_tup ?_ | refine w_tpn ?_ | refine w_lst ?_ | refine w_lstM ?_ | refine w_wk ?_ | refine w_frz ?_ | refine w_meth ?_ | refine w_test ?_ | refine w_notT ?_ | refine w_andT ?_ | refine w_orT ?_ | refine w_yes ?_ | refine w_and ?_ | refine w_or ?_ | refine w_not ?_ | refine w_if ?_ | refine w_ifS ?_ | refine w_seq ?_ | refine w_next ?_ | refine w_cnt ?_ | refine w_ret ?_ | refine w_expr ?_ | refine w_asg ?_ | refine w_par ?_ | refine w_F ?_ | refine w_Fp ?_ | refine w_itL ?_ | refine w_itT ?_ | refine w_itK ?_ | refine w_rng ?_ | refine w_neg ?_ | refine w_dput ?_ | refine w_newD ?_) | refine ⟨_, _, rfl, ?_⟩ | refine ⟨_, rfl, ?_⟩))
    refine ⟨by simp [noRs, noR, nr_kvI, nr_kvP, h.nr], _, hosts_start_ok (hs c), rfl, _, rfl, fun _ => ?_, fun c => (by cases c)⟩
    refine w_not (w_ans ?_)
    refine w_cons (w_dc ?_)
    (repeat (first | (with_reducible first | refine w_v rfl ?_ | refine w_c ?_ | refine w_d2 ?_ | refine w_cons ?_ | refine w_nil ?_ | refine w_call ?_ | refine w_tup ?_ | refine w_tpn ?_ | refine w_lst ?_ | refine w_lstM ?_ | refine w_wk ?_ | refine w_frz ?_ | refine w_meth ?_ | refine w_test ?_ | refine w_notT ?_ | refine w_andT ?_ | refine w_orT ?_ | refine w_yes ?_ | refine w_and ?_ | refine w_or ?_ | refine w_not ?_ | refine w_if ?_ | refine w_ifS ?_ | refine w_seq ?_ | refine w_next ?_ | refine w_cnt ?_ | refine w_ret ?_ | refine w_expr ?_ | refine w_asg ?_ | refine w_par ?_ | refine w_F ?_ | refine w_Fp ?_ | refine w_itL ?_ | refine w_itT ?_ | refine w_itK ?_ | refine w_rng ?_ | refine w_neg ?_ | refine w_dput ?_ | refine w_newD ?_) | refine ⟨_, _, rfl, ?_⟩ | refine ⟨_, rfl, ?_⟩))
    have ek : ((nm sw1 rows).map kvI).map (fun kv => keyD kv.1) = (nm sw1 rows).map fun t => D.str t.1 := by rw [List.map_map]; rfl
    rw [ek]
    refine (w_dcA (fun t : It => D.str t.1) (·.1) (fun _ => .str t0) (nm sw1 rows) [] (by
      have e : ((nm sw1 rows).map fun p => (Sum.inr p.1 : Key)) = ((nm sw1 rows).map (·.1)).map fun x => Sum.inr x := by rw [List.map_map]; rfl
      simpa [e] using inr_nodup ndS) (by simp; omega) fun t ht => ⟨_, rfl, ?_, ?_⟩).imp fun kvs G1 ⟨e1, e2⟩ => ?_
    · (repeat (first | (with_reducible first | refine w_v rfl ?_ | refine w_c ?_ | refine w_d2 ?_ | refine w_cons ?_ | refine w_nil ?_ | refine w_call ?_ | refine w_tup ?_ | refine w_tpn ?_ | refine w_lst ?_ | refine w_lstM ?_ | refine w_wk ?_ | refine w_frz ?_ | refine w_meth ?_ | refine w_test ?_ | refine w_notT ?_ | refine w_andT ?_ | refine w_orT ?_ | refine w_yes ?_ | refine w_and ?_ | refine w_or ?_ | refine w_not ?_ | refine w_if ?_ | refine w_ifS ?_ | refine w_seq ?_ | refine w_next ?_ | refine w_cnt ?_ | refine w_ret ?_ | refine w_expr ?_ | refine w_asg ?_ | refine w_par ?_ | refine w_F ?_ | refine w_Fp ?_ | refine w_itL ?_ | refine w_itT ?_ | refine w_itK ?_ | refine w_rng ?_ | refine w_neg ?_ | refine w_dput ?_ | refine w_newD ?_) | refine ⟨_, _, rfl, ?_⟩ | refine ⟨_, rfl, ?_⟩))
      exact ⟨rfl, rfl⟩
    · refine w_d2 (w_d2 ?_)
      (repeat (first | (with_reducible first | refine w_v rfl ?_ | refine w_c ?_ | refine w_d2 ?_ | refine w_cons ?_ | refine w_nil ?_ | refine w_call ?_ | refine w_tup ?_ | refine w_tpn ?_ | refine w_lst ?_ | refine w_lstM ?_ | refine w_wk ?_ | refine w_frz ?_ | refine w_meth ?_ | refine w_test ?_ | refine w_notT ?_ | refine w_andT ?_ | refine w_orT ?_ | refine w_yes ?_ | refine w_and ?_ | refine w_or ?_ | refine w_not ?_ | refine w_if ?_ | refine w_ifS ?_ | refine w_seq ?_ | refine w_next ?_ | refine w_cnt ?_ | refine w_ret ?_ | refine w_expr ?_ | refine w_asg ?_ | refine w_par ?_ | refine w_F ?_ | refine w_Fp ?_ | refine w_itL ?_ | refine w_itT ?_ | refine w_itK ?_ | refine w_rng ?_ | refine w_neg ?_ | refine w_dput ?_ | refine w_newD ?_) | refine ⟨_, _, rfl, ?_⟩ | refine ⟨_, rfl, ?_⟩))
      refine ⟨.tup [.str t.2.1, .int t.2.2], [], ?_, ?_⟩
      · have := lookK_eq ndS2 (List.mem_map.mpr ⟨t, ht, rfl⟩ : (Sum.inr t.1, D.tup [.str t.2.1, .int t.2.2]) ∈ (nm sw1 rows).map kvI)
        unfold dgetP
        simp only [dgetO, inD, keyO, this]
      · (repeat (first | (with_reducible first | refine w_v rfl ?_ | refine w_c ?_ | refine w_d2 ?_ | refine w_cons ?_ | refine w_nil ?_ | refine w_call ?_ | refine w_tup ?_ | refine w_tpn ?_ | refine w_lst ?_ | refine w_lstM ?_ | refine w_wk ?_ | refine w_frz ?_ | refine w_meth ?_ | refine w_test ?_ | refine w_notT ?_ | refine w_andT ?_ | refine w_orT ?_ | refine w_yes ?_ | refine w_and ?_ | refine w_or ?_ | refine w_not ?_ | refine w_if ?_ | refine w_ifS ?_ | refine w_seq ?_ | refine w_next ?_ | refine w_cnt ?_ | refine w_ret ?_ | refine w_expr ?_ | refine w_asg ?_ | refine w_par ?_ | refine w_F ?_ | refine w_Fp ?_ | refine w_itL ?_ | refine w_itT ?_ | refine w_itK ?_ | refine w_rng ?_ | refine w_neg ?_ | refine w_dput ?_ | refine w_newD ?_) | refine ⟨_, _, rfl, ?_⟩ | refine ⟨_, rfl, ?_⟩))
        exact ⟨by rw [hst t ht], rfl⟩
    subst e1 e2
    have ed : ([] ++ (nm sw1 rows).map fun p => ((Sum.inr p.1 : Key), D.str t0)) = ((nm sw1 rows).map (·.1)).map fun x => (Sum.inr x, D.str t0) := by rw [List.map_map]; rfl
    rw [ed]
    have nrd : ∀ l : List Str, noRk (l.map fun x => ((Sum.inr x : Key), D.str t0)) = true := fun l => by
      induction l with
      | nil => rfl
      | cons x l ih => simp [noRk, noR, ih]
    refine w_nil ⟨by simp only [noRs, noR, nrd] <;> rfl, _, has_ring_ok ndS h0 (by rw [List.length_map]; omega), rfl, _, rfl, ?_⟩
    rw [c]
    exact ⟨.rt (.bl true), [], rfl, _, rfl, rfl⟩
  · rw [c]
    exact ⟨.rt (.bl false), [], rfl, _, rfl, rfl⟩
end K01

namespace K01
open PySem PySem.Spec PyProof.Rows L2 Tw
/-! ### houses -/
def okN (x : Str) : Bool := match F_is_name [.str x] [] with
  | some (.inr (.bl true), _) => true
  | _ => false
theorem okN_ans {x : Str} (h : okN x = true) : Ans F_is_name [.str x] (.bl true) := by
  unfold okN at h
  split at h
  · rename_i G e
    exact ⟨_, G, e, rfl⟩
  · cases h
theorem smallN {n : Nat} (h : n ≤ 1000) : smallI (n : Int) = true := by
  generalize hi : (n : Int) = i
  have h1 : -(2 ^ 62) ≤ i := by omega
  have h2 : i < 2 ^ 62 := by omega
  unfold smallI
  rw [decide_eq_true h1, decide_eq_true h2]
  rfl
def ltN (a b : Str) : Bool := ltS a.cps.toList b.cps.toList
def asc (ns : List Str) : Bool := (List.range (ns.length - 1)).all fun i => ltN (ns.getD i ("" : Str)) (ns.getD (i + 1) ("" : Str))
/-- rows of a table: a name and what stands behind it -/
def rowT (p : Str × List D) : D := .tup (.str p.1 :: p.2)
theorem atN {xs : List D} {i : Nat} {j : Int} {d : D} (h : xs[i]? = some d) (e : j = (i : Int)) (G : List O) : ixO (.tup xs) (.int j) G = some (d, G) := by
  have lt := (List.getElem?_eq_some_iff.mp h).1
  have : atI xs j = some d := by
    unfold atI ixN
    rw [if_pos (by omega), if_pos (by omega)]
    simp only [Option.bind_some]
    have : j.toNat = i := by omega
    rw [this, h]
  unfold ixO
  simp only [this, pur]
theorem rng2_ok {n : Nat} (h : n ≤ 1000) : rng2 [.int 1, .int (n : Int)] = some (rngD 1 (n - 1)) := by
  have s1 : smallI (1 : Int) = true := smallN (n := 1) (by omega)
  have s2 : smallI ((n : Nat) : Int) = true := smallN h
  have e : ((n : Int) - 1).toNat = n - 1 := by omega
  generalize (n : Int) = z at s2 e
  unfold rng2
  dsimp only
  rw [s1, s2, e]
  rfl
theorem table_ok {l : List (Str × List D)} {w : Nat} (hw : ∀ p ∈ l, p.2.length + 1 = w) (hn : ∀ p ∈ l, okN p.1 = true) (hz : l.length ≤ 1000) : Ans F_is_table [.tup (l.map rowT), .int (w : Int)] (.bl (asc (l.map (·.1)))) := by
  have mz : (1000 : Nat) ≤ mx := by decide
  refine w_run ?_
  unfold ds_is_table
  refine w_seq ?_
  (repeat (first | (with_reducible first | refine w_v rfl ?_ | refine w_c ?_ | refine w_d2 ?_ | refine w_cons ?_ | refine w_nil ?_ | refine w_call ?_ | refine w_tup ?_ | refine w_tpn ?_ | refine w_lst ?_ | refine w_lstM ?_ | refine w_wk ?_ | refine w_frz ?_ | refine w_meth ?_ | refine w_test ?_ | refine w_notT ?_ | refine w_andT ?_ | refine w_orT ?_ | refine w_yes ?_ | refine w_and ?_ | refine w_or ?_ | refine w_not ?_ | refine w_if ?_ | refine w_ifS ?_ | refine w_seq ?_ | refine w_next ?_ | refine w_cnt ?_ | refine w_ret ?_ | refine w_expr ?_ | refine w_asg ?_ | refine w_par ?_ | refine w_F ?_ | refine w_Fp ?_ | refine w_itL ?_ | refine w_itT ?_ | refine w_itK ?_ | refine w_rng ?_ | refine w_neg ?_ | refine w_dput ?_ | refine w_newD ?_) | refine ⟨_, _, rfl, ?_⟩ | refine ⟨_, rfl, ?_⟩))
  refine ⟨fun c => (by cases c), fun _ => w_next ?_⟩
  show WP _ _ _
  refine w_seq (w_ifS (w_notT (w_test (w_allA l rowT (fun _ => true) ?_ (Nat.le_trans hz mz) (fun p hp => ⟨_, rfl, ?_⟩) ?_))))
  · (repeat (first | (with_reducible first | refine w_v rfl ?_ | refine w_c ?_ | refine w_d2 ?_ | refine w_cons ?_ | refine w_nil ?_ | refine w_call ?_ | refine w_tup ?_ | refine w_tpn ?_ | refine w_lst ?_ | refine w_lstM ?_ | refine w_wk ?_ | refine w_frz ?_ | refine w_meth ?_ | refine w_test ?_ | refine w_notT ?_ | refine w_andT ?_ | refine w_orT ?_ | refine w_yes ?_ | refine w_and ?_ | refine w_or ?_ | refine w_not ?_ | refine w_if ?_ | refine w_ifS ?_ | refine w_seq ?_ | refine w_next ?_ | refine w_cnt ?_ | refine w_ret ?_ | refine w_expr ?_ | refine w_asg ?_ | refine w_par ?_ | refine w_F ?_ | refine w_Fp ?_ | refine w_itL ?_ | refine w_itT ?_ | refine w_itK ?_ | refine w_rng ?_ | refine w_neg ?_ | refine w_dput ?_ | refine w_newD ?_) | refine ⟨_, _, rfl, ?_⟩ | refine ⟨_, rfl, ?_⟩))
    exact ⟨rfl, rfl⟩
  · refine w_and ?_
    (repeat (first | (with_reducible first | refine w_v rfl ?_ | refine w_c ?_ | refine w_d2 ?_ | refine w_cons ?_ | refine w_nil ?_ | refine w_call ?_ | refine w_tup ?_ | refine w_tpn ?_ | refine w_lst ?_ | refine w_lstM ?_ | refine w_wk ?_ | refine w_frz ?_ | refine w_meth ?_ | refine w_test ?_ | refine w_notT ?_ | refine w_andT ?_ | refine w_orT ?_ | refine w_yes ?_ | refine w_and ?_ | refine w_or ?_ | refine w_not ?_ | refine w_if ?_ | refine w_ifS ?_ | refine w_seq ?_ | refine w_next ?_ | refine w_cnt ?_ | refine w_ret ?_ | refine w_expr ?_ | refine w_asg ?_ | refine w_par ?_ | refine w_F ?_ | refine w_Fp ?_ | refine w_itL ?_ | refine w_itT ?_ | refine w_itK ?_ | refine w_rng ?_ | refine w_neg ?_ | refine w_dput ?_ | refine w_newD ?_) | refine ⟨_, _, rfl, ?_⟩ | refine ⟨_, rfl, ?_⟩))
    refine ⟨fun _ => w_and (w_d2 ?_), fun c => (by cases c)⟩
    (repeat (first | (with_reducible first | refine w_v rfl ?_ | refine w_c ?_ | refine w_d2 ?_ | refine w_cons ?_ | refine w_nil ?_ | refine w_call ?_ | refine w_tup ?_ | refine w_tpn ?_ | refine w_lst ?_ | refine w_lstM ?_ | refine w_wk ?_ | refine w_frz ?_ | refine w_meth ?_ | refine w_test ?_ | refine w_notT ?_ | refine w_andT ?_ | refine w_orT ?_ | refine w_yes ?_ | refine w_and ?_ | refine w_or ?_ | refine w_not ?_ | refine w_if ?_ | refine w_ifS ?_ | refine w_seq ?_ | refine w_next ?_ | refine w_cnt ?_ | refine w_ret ?_ | refine w_expr ?_ | refine w_asg ?_ | refine w_par ?_ | refine w_F ?_ | refine w_Fp ?_ | refine w_itL ?_ | refine w_itT ?_ | refine w_itK ?_ | refine w_rng ?_ | refine w_neg ?_ | refine w_dput ?_ | refine w_newD ?_) | refine ⟨_, _, rfl, ?_⟩ | refine ⟨_, rfl, ?_⟩))
    have e : (((.str p.1 :: p.2 : List D).length : Nat) : Int) = (w : Int) := by
      rw [List.length_cons, hw p hp]
    refine ⟨fun _ => w_ans ?_, fun c => absurd c (by rw [e]; simp [PyData.eqv])⟩
    refine w_cons (w_d2 ?_)
    (repeat (first | (with_reducible first | refine w_v rfl ?_ | refine w_c ?_ | refine w_d2 ?_ | refine w_cons ?_ | refine w_nil ?_ | refine w_call ?_ | refine w_tup ?_ | refine w_tpn ?_ | refine w_lst ?_ | refine w_lstM ?_ | refine w_wk ?_ | refine w_frz ?_ | refine w_meth ?_ | refine w_test ?_ | refine w_notT ?_ | refine w_andT ?_ | refine w_orT ?_ | refine w_yes ?_ | refine w_and ?_ | refine w_or ?_ | refine w_not ?_ | refine w_if ?_ | refine w_ifS ?_ | refine w_seq ?_ | refine w_next ?_ | refine w_cnt ?_ | refine w_ret ?_ | refine w_expr ?_ | refine w_asg ?_ | refine w_par ?_ | refine w_F ?_ | refine w_Fp ?_ | refine w_itL ?_ | refine w_itT ?_ | refine w_itK ?_ | refine w_rng ?_ | refine w_neg ?_ | refine w_dput ?_ | refine w_newD ?_) | refine ⟨_, _, rfl, ?_⟩ | refine ⟨_, rfl, ?_⟩))
    refine ⟨.str p.1, [], ix0 p.1 _ _, ?_⟩
    (repeat (first | (with_reducible first | refine w_v rfl ?_ | refine w_c ?_ | refine w_d2 ?_ | refine w_cons ?_ | refine w_nil ?_ | refine w_call ?_ | refine w_tup ?_ | refine w_tpn ?_ | refine w_lst ?_ | refine w_lstM ?_ | refine w_wk ?_ | refine w_frz ?_ | refine w_meth ?_ | refine w_test ?_ | refine w_notT ?_ | refine w_andT ?_ | refine w_orT ?_ | refine w_yes ?_ | refine w_and ?_ | refine w_or ?_ | refine w_not ?_ | refine w_if ?_ | refine w_ifS ?_ | refine w_seq ?_ | refine w_next ?_ | refine w_cnt ?_ | refine w_ret ?_ | refine w_expr ?_ | refine w_asg ?_ | refine w_par ?_ | refine w_F ?_ | refine w_Fp ?_ | refine w_itL ?_ | refine w_itT ?_ | refine w_itK ?_ | refine w_rng ?_ | refine w_neg ?_ | refine w_dput ?_ | refine w_newD ?_) | refine ⟨_, _, rfl, ?_⟩ | refine ⟨_, rfl, ?_⟩))
    exact ⟨rfl, _, okN_ans (hn p hp), rfl, rfl, rfl⟩
  · refine ⟨_, rfl, fun c => ?_, fun _ => w_next ?_⟩
    · simp at c
    show WP _ _ _
    refine w_ret (w_allA (List.range (l.length - 1)) (fun i => .int (1 + (i : Int))) (fun i => ltN ((l.map (·.1)).getD i ("" : Str)) ((l.map (·.1)).getD (i + 1) ("" : Str))) ?_ (by rw [List.length_range]; omega) (fun i hi => ⟨_, rfl, ?_⟩) ?_)
    · refine w_rng (w_cons (w_c (w_cons (w_call (w_cons (w_v rfl (w_nil ⟨_, _, rfl, w_nil ⟨rngD 1 (l.length - 1), ?_, rfl, rfl⟩⟩)))))))
      have z := rng2_ok (n := (l.map rowT).length) (by rw [List.length_map]; exact hz)
      rw [z, List.length_map]
    · have hi2 := List.mem_range.mp hi
      obtain ⟨p, hp⟩ : ∃ p, l[i]? = some p := ⟨_, List.getElem?_eq_getElem (by omega)⟩
      obtain ⟨q, hq⟩ : ∃ q, l[i + 1]? = some q := ⟨_, List.getElem?_eq_getElem (by omega)⟩
      have ep : (l.map rowT)[i]? = some (rowT p) := by rw [List.getElem?_map, hp]; rfl
      have eq : (l.map rowT)[i + 1]? = some (rowT q) := by rw [List.getElem?_map, hq]; rfl
      have np : (l.map (·.1)).getD i ("" : Str) = p.1 := by rw [List.getD_eq_getElem?_getD, List.getElem?_map, hp]; rfl
      have nq : (l.map (·.1)).getD (i + 1) ("" : Str) = q.1 := by rw [List.getD_eq_getElem?_getD, List.getElem?_map, hq]; rfl
      refine w_d2 (w_d2 (w_d2 ?_))
      (repeat (first | (with_reducible first | refine w_v rfl ?_ | refine w_c ?_ | refine w_d2 ?_ | refine w_cons ?_ | refine w_nil ?_ | refine w_call ?_ | refine w_tup ?_ | refine w_tpn ?_ | refine w_lst ?_ | refine w_lstM ?_ | refine w_wk ?_ | refine w_frz ?_ | refine w_meth ?_ | refine w_test ?_ | refine w_notT ?_ | refine w_andT ?_ | refine w_orT ?_ | refine w_yes ?_ | refine w_and ?_ | refine w_or ?_ | refine w_not ?_ | refine w_if ?_ | refine w_ifS ?_ | refine w_seq ?_ | refine w_next ?_ | refine w_cnt ?_ | refine w_ret ?_ | refine w_expr ?_ | refine w_asg ?_ | refine w_par ?_ | refine w_F ?_ | refine w_Fp ?_ | refine w_itL ?_ | refine w_itT ?_ | refine w_itK ?_ | refine w_rng ?_ | refine w_neg ?_ | refine w_dput ?_ | refine w_newD ?_) | refine ⟨_, _, rfl, ?_⟩ | refine ⟨_, rfl, ?_⟩))
      refine ⟨rowT p, [], atN ep (by omega) _, ?_⟩
      (repeat (first | (with_reducible first | refine w_v rfl ?_ | refine w_c ?_ | refine w_d2 ?_ | refine w_cons ?_ | refine w_nil ?_ | refine w_call ?_ | refine w_tup ?_ | refine w_tpn ?_ | refine w_lst ?_ | refine w_lstM ?_ | refine w_wk ?_ | refine w_frz ?_ | refine w_meth ?_ | refine w_test ?_ | refine w_notT ?_ | refine w_andT ?_ | refine w_orT ?_ | refine w_yes ?_ | refine w_and ?_ | refine w_or ?_ | refine w_not ?_ | refine w_if ?_ | refine w_ifS ?_ | refine w_seq ?_ | refine w_next ?_ | refine w_cnt ?_ | refine w_ret ?_ | refine w_expr ?_ | refine w_asg ?_ | refine w_par ?_ | refine w_F ?_ | refine w_Fp ?_ | refine w_itL ?_ | refine w_itT ?_ | refine w_itK ?_ | refine w_rng ?_ | refine w_neg ?_ | refine w_dput ?_ | refine w_newD ?_) | refine ⟨_, _, rfl, ?_⟩ | refine ⟨_, rfl, ?_⟩))
      refine ⟨.str p.1, [], ix0 p.1 _ _, ?_⟩
      (repeat (first | (with_reducible first | refine w_v rfl ?_ | refine w_c ?_ | refine w_d2 ?_ | refine w_cons ?_ | refine w_nil ?_ | refine w_call ?_ | refine w_tup ?_ | refine w_tpn ?_ | refine w_lst ?_ | refine w_lstM ?_ | refine w_wk ?_ | refine w_frz ?_ | refine w_meth ?_ | refine w_test ?_ | refine w_notT ?_ | refine w_andT ?_ | refine w_orT ?_ | refine w_yes ?_ | refine w_and ?_ | refine w_or ?_ | refine w_not ?_ | refine w_if ?_ | refine w_ifS ?_ | refine w_seq ?_ | refine w_next ?_ | refine w_cnt ?_ | refine w_ret ?_ | refine w_expr ?_ | refine w_asg ?_ | refine w_par ?_ | refine w_F ?_ | refine w_Fp ?_ | refine w_itL ?_ | refine w_itT ?_ | refine w_itK ?_ | refine w_rng ?_ | refine w_neg ?_ | refine w_dput ?_ | refine w_newD ?_) | refine ⟨_, _, rfl, ?_⟩ | refine ⟨_, rfl, ?_⟩))
      refine ⟨rowT q, [], atN eq (by omega) _, ?_⟩
      (repeat (first | (with_reducible first | refine w_v rfl ?_ | refine w_c ?_ | refine w_d2 ?_ | refine w_cons ?_ | refine w_nil ?_ | refine w_call ?_ | refine w_tup ?_ | refine w_tpn ?_ | refine w_lst ?_ | refine w_lstM ?_ | refine w_wk ?_ | refine w_frz ?_ | refine w_meth ?_ | refine w_test ?_ | refine w_notT ?_ | refine w_andT ?_ | refine w_orT ?_ | refine w_yes ?_ | refine w_and ?_ | refine w_or ?_ | refine w_not ?_ | refine w_if ?_ | refine w_ifS ?_ | refine w_seq ?_ | refine w_next ?_ | refine w_cnt ?_ | refine w_ret ?_ | refine w_expr ?_ | refine w_asg ?_ | refine w_par ?_ | refine w_F ?_ | refine w_Fp ?_ | refine w_itL ?_ | refine w_itT ?_ | refine w_itK ?_ | refine w_rng ?_ | refine w_neg ?_ | refine w_dput ?_ | refine w_newD ?_) | refine ⟨_, _, rfl, ?_⟩ | refine ⟨_, rfl, ?_⟩))
      refine ⟨.str q.1, [], ix0 q.1 _ _, ?_⟩
      rw [np, nq]
      exact ⟨_, _, rfl, rfl, rfl⟩
    · refine ⟨_, rfl, ?_⟩
      unfold asc
      rw [List.length_map]
end K01

namespace K01
open PySem PySem.Spec PyProof.Rows L2 Tw
abbrev Rm := Str × Int
def roomD (p : Rm) : D := .tup [.str p.1, .int p.2]
def houseD (rows : List Rw) (gs : List (Str × Str)) (rooms : List Rm) : D := .tup [.tup (rows.map toR), .tpn (gs.map pairD), .tup (rooms.map roomD)]
theorem nr_rooms (l : List Rm) : noRs (l.map roomD) = true := by
  induction l with
  | nil => rfl
  | cons t l ih => simp [noRs, noR, roomD, ih]
theorem number_ok (i : Int) : Ans F_is_number [.int i] (.bl true) := ⟨_, [], rfl, rfl⟩
theorem ix1 (a b : D) (r : List D) (G : List O) : ixO (.tup (a :: b :: r)) (.int 1) G = some (b, G) := atN (i := 1) rfl rfl G
theorem ix2 (a b c : D) (r : List D) (G : List O) : ixO (.tup (a :: b :: c :: r)) (.int 2) G = some (c, G) := atN (i := 2) rfl rfl G
theorem house_any {rows : List Rw} {gs : List (Str × Str)} {rooms : List Rm} (sb : Rw → Bool) {hb : Bool}
    (nr : noRs (rows.map toR) = true) (n1 : ∀ r ∈ rows, okN r.1 = true) (n2 : ∀ r ∈ rows, PyData.strOk r.2.1 = true ∧ (r.2.1 = "" ∨ okN r.2.1 = true)) (ns : ∀ r ∈ rows, Ans F_is_script [.tup r.2.2] (.bl (sb r))) (nrs : ∀ r ∈ rows, noRs r.2.2 = true)
    (z1 : rows.length ≤ 1000) (z0 : 0 < rows.length) (g1 : ∀ p ∈ gs, okN p.1 = true) (g2 : ∀ p ∈ gs, okN p.2 = true) (zg : gs.length ≤ 1000) (r1 : ∀ p ∈ rooms, okN p.1 = true) (zr : rooms.length ≤ 1000)
    (hang : (asc (rows.map (·.1)) && (rows.all sb && (asc (gs.map (·.1)) && (asc (rooms.map (·.1)) && rooms.all fun p => decide (1 ≤ p.2))))) = true → Ans F_hangs_together [.tup (rows.map toR), .tpn (gs.map pairD)] (.bl hb)) :
    Ans F_is_house [houseD rows gs rooms] (.bl (asc (rows.map (·.1)) && (rows.all sb && (asc (gs.map (·.1)) && (asc (rooms.map (·.1)) && ((rooms.all fun p => decide (1 ≤ p.2)) && hb)))))) := by
  have mz : (1000 : Nat) ≤ mx := by decide
  have t1 : Ans F_is_table [.tup (rows.map toR), .int 3] (.bl (asc (rows.map (·.1)))) := by
    have := table_ok (l := rows.map fun r => (r.1, [.str r.2.1, .tup r.2.2])) (w := 3) (by intro p hp; obtain ⟨r, hr, rfl⟩ := List.mem_map.mp hp; rfl) (by intro p hp; obtain ⟨r, hr, rfl⟩ := List.mem_map.mp hp; exact n1 r hr) (by rw [List.length_map]; exact z1)
    rw [List.map_map, List.map_map] at this
    exact this
  have t2 : Ans F_is_table [.tup (gs.map pairD), .int 2] (.bl (asc (gs.map (·.1)))) := by
    have := table_ok (l := gs.map fun r => (r.1, [.str r.2])) (w := 2) (by intro p hp; obtain ⟨r, hr, rfl⟩ := List.mem_map.mp hp; rfl) (by intro p hp; obtain ⟨r, hr, rfl⟩ := List.mem_map.mp hp; exact g1 r hr) (by rw [List.length_map]; exact zg)
    rw [List.map_map, List.map_map] at this
    exact this
  have t3 : Ans F_is_table [.tup (rooms.map roomD), .int 2] (.bl (asc (rooms.map (·.1)))) := by
    have := table_ok (l := rooms.map fun r => (r.1, [.int r.2])) (w := 2) (by intro p hp; obtain ⟨r, hr, rfl⟩ := List.mem_map.mp hp; rfl) (by intro p hp; obtain ⟨r, hr, rfl⟩ := List.mem_map.mp hp; exact r1 r hr) (by rw [List.length_map]; exact zr)
    rw [List.map_map, List.map_map] at this
    exact this
  refine w_run ?_
  unfold ds_is_house houseD
  refine w_seq ?_
  (repeat (first | (with_reducible first | refine w_v rfl ?_ | refine w_c ?_ | refine w_d2 ?_ | refine w_cons ?_ | refine w_nil ?_ | refine w_call ?_ | refine w_tup ?_ | refine w_tpn ?_ | refine w_lst ?_ | refine w_lstM ?_ | refine w_wk ?_ | refine w_frz ?_ | refine w_meth ?_ | refine w_test ?_ | refine w_notT ?_ | refine w_andT ?_ | refine w_orT ?_ | refine w_yes ?_ | refine w_and ?_ | refine w_or ?_ | refine w_not ?_ | refine w_if ?_ | refine w_ifS ?_ | refine w_seq ?_ | refine w_next ?_ | refine w_cnt ?_ | refine w_ret ?_ | refine w_expr ?_ | refine w_asg ?_ | refine w_par ?_ | refine w_F ?_ | refine w_Fp ?_ | refine w_itL ?_ | refine w_itT ?_ | refine w_itK ?_ | refine w_rng ?_ | refine w_neg ?_ | refine w_dput ?_ | refine w_newD ?_) | refine ⟨_, _, rfl, ?_⟩ | refine ⟨_, rfl, ?_⟩))
  refine ⟨fun c => (by cases c), fun _ => w_test (w_d2 ?_)⟩
  (repeat (first | (with_reducible first | refine w_v rfl ?_ | refine w_c ?_ | refine w_d2 ?_ | refine w_cons ?_ | refine w_nil ?_ | refine w_call ?_ | refine w_tup ?_ | refine w_tpn ?_ | refine w_lst ?_ | refine w_lstM ?_ | refine w_wk ?_ | refine w_frz ?_ | refine w_meth ?_ | refine w_test ?_ | refine w_notT ?_ | refine w_andT ?_ | refine w_orT ?_ | refine w_yes ?_ | refine w_and ?_ | refine w_or ?_ | refine w_not ?_ | refine w_if ?_ | refine w_ifS ?_ | refine w_seq ?_ | refine w_next ?_ | refine w_cnt ?_ | refine w_ret ?_ | refine w_expr ?_ | refine w_asg ?_ | refine w_par ?_ | refine w_F ?_ | refine w_Fp ?_ | refine w_itL ?_ | refine w_itT ?_ | refine w_itK ?_ | refine w_rng ?_ | refine w_neg ?_ | refine w_dput ?_ | refine w_newD ?_) | refine ⟨_, _, rfl, ?_⟩ | refine ⟨_, rfl, ?_⟩))
  refine ⟨fun c => (by cases c), fun _ => w_next ?_⟩
  show WP _ _ _
  refine w_seq (w_asg (w_v rfl ⟨_, _, rfl, ?_⟩))
  show WP _ _ _
  refine w_ret (w_and (w_ans ?_))
  (repeat (first | (with_reducible first | refine w_v rfl ?_ | refine w_c ?_ | refine w_d2 ?_ | refine w_cons ?_ | refine w_nil ?_ | refine w_call ?_ | refine w_tup ?_ | refine w_tpn ?_ | refine w_lst ?_ | refine w_lstM ?_ | refine w_wk ?_ | refine w_frz ?_ | refine w_meth ?_ | refine w_test ?_ | refine w_notT ?_ | refine w_andT ?_ | refine w_orT ?_ | refine w_yes ?_ | refine w_and ?_ | refine w_or ?_ | refine w_not ?_ | refine w_if ?_ | refine w_ifS ?_ | refine w_seq ?_ | refine w_next ?_ | refine w_cnt ?_ | refine w_ret ?_ | refine w_expr ?_ | refine w_asg ?_ | refine w_par ?_ | refine w_F ?_ | refine w_Fp ?_ | refine w_itL ?_ | refine w_itT ?_ | refine w_itK ?_ | refine w_rng ?_ | refine w_neg ?_ | refine w_dput ?_ | refine w_newD ?_) | refine ⟨_, _, rfl, ?_⟩ | refine ⟨_, rfl, ?_⟩))
  refine ⟨by simp [noRs, noR, nr], _, t1, rfl, _, rfl, fun c1 => ?_, fun c1 => by rw [c1]; exact ⟨_, rfl, rfl⟩⟩
  refine w_and (w_d2 ?_)
  (repeat (first | (with_reducible first | refine w_v rfl ?_ | refine w_c ?_ | refine w_d2 ?_ | refine w_cons ?_ | refine w_nil ?_ | refine w_call ?_ | refine w_tup ?_ | refine w_tpn ?_ | refine w_lst ?_ | refine w_lstM ?_ | refine w_wk ?_ | refine w_frz ?_ | refine w_meth ?_ | refine w_test ?_ | refine w_notT ?_ | refine w_andT ?_ | refine w_orT ?_ | refine w_yes ?_ | refine w_and ?_ | refine w_or ?_ | refine w_not ?_ | refine w_if ?_ | refine w_ifS ?_ | refine w_seq ?_ | refine w_next ?_ | refine w_cnt ?_ | refine w_ret ?_ | refine w_expr ?_ | refine w_asg ?_ | refine w_par ?_ | refine w_F ?_ | refine w_Fp ?_ | refine w_itL ?_ | refine w_itT ?_ | refine w_itK ?_ | refine w_rng ?_ | refine w_neg ?_ | refine w_dput ?_ | refine w_newD ?_) | refine ⟨_, _, rfl, ?_⟩ | refine ⟨_, rfl, ?_⟩))
  refine ⟨fun _ => ?_, fun c => (by exfalso; have h := of_decide_eq_false c; rw [List.length_map] at h; omega)⟩
  refine w_and (w_allA rows toR sb ?_ (Nat.le_trans z1 mz) (fun r hr => ⟨_, rfl, ?_⟩) ?_)
  · (repeat (first | (with_reducible first | refine w_v rfl ?_ | refine w_c ?_ | refine w_d2 ?_ | refine w_cons ?_ | refine w_nil ?_ | refine w_call ?_ | refine w_tup ?_ | refine w_tpn ?_ | refine w_lst ?_ | refine w_lstM ?_ | refine w_wk ?_ | refine w_frz ?_ | refine w_meth ?_ | refine w_test ?_ | refine w_notT ?_ | refine w_andT ?_ | refine w_orT ?_ | refine w_yes ?_ | refine w_and ?_ | refine w_or ?_ | refine w_not ?_ | refine w_if ?_ | refine w_ifS ?_ | refine w_seq ?_ | refine w_next ?_ | refine w_cnt ?_ | refine w_ret ?_ | refine w_expr ?_ | refine w_asg ?_ | refine w_par ?_ | refine w_F ?_ | refine w_Fp ?_ | refine w_itL ?_ | refine w_itT ?_ | refine w_itK ?_ | refine w_rng ?_ | refine w_neg ?_ | refine w_dput ?_ | refine w_newD ?_) | refine ⟨_, _, rfl, ?_⟩ | refine ⟨_, rfl, ?_⟩))
    exact ⟨rfl, rfl⟩
  · have wsc : ∀ {Q : D → List O → Prop} {ρ : En}, ρ[4]? = some (some (toR r)) → Q (.bl (sb r)) [] → WP (dFp F_is_script (dCons (d2 ixO (dV 4) (dC (D.int 2))) dNil) ρ) [] Q := fun {Q ρ} h q => by
      refine w_ans (w_cons (w_d2 (w_v h (w_c ⟨.tup r.2.2, [], ix2 _ _ _ _ _, w_nil ?_⟩))))
      exact ⟨by simp [noRs, noR, nrs r hr], _, ns r hr, rfl, q⟩
    refine w_and (w_or (w_d2 (w_d2 ?_)))
    (repeat (first | (with_reducible first | refine w_v rfl ?_ | refine w_c ?_ | refine w_d2 ?_ | refine w_cons ?_ | refine w_nil ?_ | refine w_call ?_ | refine w_tup ?_ | refine w_tpn ?_ | refine w_lst ?_ | refine w_lstM ?_ | refine w_wk ?_ | refine w_frz ?_ | refine w_meth ?_ | refine w_test ?_ | refine w_notT ?_ | refine w_andT ?_ | refine w_orT ?_ | refine w_yes ?_ | refine w_and ?_ | refine w_or ?_ | refine w_not ?_ | refine w_if ?_ | refine w_ifS ?_ | refine w_seq ?_ | refine w_next ?_ | refine w_cnt ?_ | refine w_ret ?_ | refine w_expr ?_ | refine w_asg ?_ | refine w_par ?_ | refine w_F ?_ | refine w_Fp ?_ | refine w_itL ?_ | refine w_itT ?_ | refine w_itK ?_ | refine w_rng ?_ | refine w_neg ?_ | refine w_dput ?_ | refine w_newD ?_) | refine ⟨_, _, rfl, ?_⟩ | refine ⟨_, rfl, ?_⟩))
    refine ⟨.bl (r.2.1 == ""), [], by unfold pur2 pur; rw [eqO_str (n2 r hr).1 ok_none]; rfl, _, rfl, fun c => ⟨true, rfl, fun _ => wsc rfl ⟨rfl, rfl⟩, fun c => (by cases c)⟩, fun c => ?_⟩
    refine w_ans (w_cons (w_d2 (w_v rfl (w_c ⟨.str r.2.1, [], ix1 _ _ _ _, w_nil ?_⟩))))
    rcases (n2 r hr).2 with e | e
    · rw [e] at c
      exact absurd c (by decide)
    · exact ⟨rfl, _, okN_ans e, rfl, true, rfl, fun _ => wsc rfl ⟨rfl, rfl⟩, fun c => (by cases c)⟩
  refine ⟨_, rfl, fun c2 => ?_, fun c2 => by rw [c1, c2]; exact ⟨_, rfl, rfl⟩⟩
  refine w_and (w_ans ?_)
  (repeat (first | (with_reducible first | refine w_v rfl ?_ | refine w_c ?_ | refine w_d2 ?_ | refine w_cons ?_ | refine w_nil ?_ | refine w_call ?_ | refine w_tup ?_ | refine w_tpn ?_ | refine w_lst ?_ | refine w_lstM ?_ | refine w_wk ?_ | refine w_frz ?_ | refine w_meth ?_ | refine w_test ?_ | refine w_notT ?_ | refine w_andT ?_ | refine w_orT ?_ | refine w_yes ?_ | refine w_and ?_ | refine w_or ?_ | refine w_not ?_ | refine w_if ?_ | refine w_ifS ?_ | refine w_seq ?_ | refine w_next ?_ | refine w_cnt ?_ | refine w_ret ?_ | refine w_expr ?_ | refine w_asg ?_ | refine w_par ?_ | refine w_F ?_ | refine w_Fp ?_ | refine w_itL ?_ | refine w_itT ?_ | refine w_itK ?_ | refine w_rng ?_ | refine w_neg ?_ | refine w_dput ?_ | refine w_newD ?_) | refine ⟨_, _, rfl, ?_⟩ | refine ⟨_, rfl, ?_⟩))
  refine ⟨by simp [noRs, noR, wkD, nr_pairs], _, t2, rfl, _, rfl, fun c3 => ?_, fun c3 => by rw [c1, c2, c3]; exact ⟨_, rfl, rfl⟩⟩
  refine w_and (w_allA gs pairD (fun _ => true) ?_ (Nat.le_trans zg mz) (fun p hp => ⟨_, rfl, ?_⟩) ?_)
  · (repeat (first | (with_reducible first | refine w_v rfl ?_ | refine w_c ?_ | refine w_d2 ?_ | refine w_cons ?_ | refine w_nil ?_ | refine w_call ?_ | refine w_tup ?_ | refine w_tpn ?_ | refine w_lst ?_ | refine w_lstM ?_ | refine w_wk ?_ | refine w_frz ?_ | refine w_meth ?_ | refine w_test ?_ | refine w_notT ?_ | refine w_andT ?_ | refine w_orT ?_ | refine w_yes ?_ | refine w_and ?_ | refine w_or ?_ | refine w_not ?_ | refine w_if ?_ | refine w_ifS ?_ | refine w_seq ?_ | refine w_next ?_ | refine w_cnt ?_ | refine w_ret ?_ | refine w_expr ?_ | refine w_asg ?_ | refine w_par ?_ | refine w_F ?_ | refine w_Fp ?_ | refine w_itL ?_ | refine w_itT ?_ | refine w_itK ?_ | refine w_rng ?_ | refine w_neg ?_ | refine w_dput ?_ | refine w_newD ?_) | refine ⟨_, _, rfl, ?_⟩ | refine ⟨_, rfl, ?_⟩))
    exact ⟨rfl, rfl⟩
  · refine w_ans (w_cons (w_d2 (w_v rfl (w_c ⟨.str p.2, [], ix1 _ _ _ _, w_nil ?_⟩))))
    exact ⟨rfl, _, okN_ans (g2 p hp), rfl, rfl, rfl⟩
  refine ⟨true, by simp, fun _ => ?_, fun c => (by cases c)⟩
  refine w_and (w_ans ?_)
  (repeat (first | (with_reducible first | refine w_v rfl ?_ | refine w_c ?_ | refine w_d2 ?_ | refine w_cons ?_ | refine w_nil ?_ | refine w_call ?_ | refine w_tup ?_ | refine w_tpn ?_ | refine w_lst ?_ | refine w_lstM ?_ | refine w_wk ?_ | refine w_frz ?_ | refine w_meth ?_ | refine w_test ?_ | refine w_notT ?_ | refine w_andT ?_ | refine w_orT ?_ | refine w_yes ?_ | refine w_and ?_ | refine w_or ?_ | refine w_not ?_ | refine w_if ?_ | refine w_ifS ?_ | refine w_seq ?_ | refine w_next ?_ | refine w_cnt ?_ | refine w_ret ?_ | refine w_expr ?_ | refine w_asg ?_ | refine w_par ?_ | refine w_F ?_ | refine w_Fp ?_ | refine w_itL ?_ | refine w_itT ?_ | refine w_itK ?_ | refine w_rng ?_ | refine w_neg ?_ | refine w_dput ?_ | refine w_newD ?_) | refine ⟨_, _, rfl, ?_⟩ | refine ⟨_, rfl, ?_⟩))
  refine ⟨by simp [noRs, noR, nr_rooms], _, t3, rfl, _, rfl, fun c4 => ?_, fun c4 => by rw [c1, c2, c3, c4]; exact ⟨_, rfl, rfl⟩⟩
  refine w_and (w_allA rooms roomD (fun p => decide (1 ≤ p.2)) ?_ (Nat.le_trans zr mz) (fun p hp => ⟨_, rfl, ?_⟩) ?_)
  · (repeat (first | (with_reducible first | refine w_v rfl ?_ | refine w_c ?_ | refine w_d2 ?_ | refine w_cons ?_ | refine w_nil ?_ | refine w_call ?_ | refine w_tup ?_ | refine w_tpn ?_ | refine w_lst ?_ | refine w_lstM ?_ | refine w_wk ?_ | refine w_frz ?_ | refine w_meth ?_ | refine w_test ?_ | refine w_notT ?_ | refine w_andT ?_ | refine w_orT ?_ | refine w_yes ?_ | refine w_and ?_ | refine w_or ?_ | refine w_not ?_ | refine w_if ?_ | refine w_ifS ?_ | refine w_seq ?_ | refine w_next ?_ | refine w_cnt ?_ | refine w_ret ?_ | refine w_expr ?_ | refine w_asg ?_ | refine w_par ?_ | refine w_F ?_ | refine w_Fp ?_ | refine w_itL ?_ | refine w_itT ?_ | refine w_itK ?_ | refine w_rng ?_ | refine w_neg ?_ | refine w_dput ?_ | refine w_newD ?_) | refine ⟨_, _, rfl, ?_⟩ | refine ⟨_, rfl, ?_⟩))
    exact ⟨rfl, rfl⟩
  · refine w_and (w_ans (w_cons (w_d2 (w_v rfl (w_c ⟨.int p.2, [], ix1 _ _ _ _, w_nil ?_⟩)))))
    refine ⟨rfl, _, number_ok p.2, rfl, true, rfl, fun _ => ?_, fun c => (by cases c)⟩
    refine w_d2 (w_d2 (w_v rfl (w_c ⟨.int p.2, [], ix1 _ _ _ _, ?_⟩)))
    (repeat (first | (with_reducible first | refine w_v rfl ?_ | refine w_c ?_ | refine w_d2 ?_ | refine w_cons ?_ | refine w_nil ?_ | refine w_call ?_ | refine w_tup ?_ | refine w_tpn ?_ | refine w_lst ?_ | refine w_lstM ?_ | refine w_wk ?_ | refine w_frz ?_ | refine w_meth ?_ | refine w_test ?_ | refine w_notT ?_ | refine w_andT ?_ | refine w_orT ?_ | refine w_yes ?_ | refine w_and ?_ | refine w_or ?_ | refine w_not ?_ | refine w_if ?_ | refine w_ifS ?_ | refine w_seq ?_ | refine w_next ?_ | refine w_cnt ?_ | refine w_ret ?_ | refine w_expr ?_ | refine w_asg ?_ | refine w_par ?_ | refine w_F ?_ | refine w_Fp ?_ | refine w_itL ?_ | refine w_itT ?_ | refine w_itK ?_ | refine w_rng ?_ | refine w_neg ?_ | refine w_dput ?_ | refine w_newD ?_) | refine ⟨_, _, rfl, ?_⟩ | refine ⟨_, rfl, ?_⟩))
    exact ⟨rfl, rfl⟩
  refine ⟨_, rfl, fun c5 => ?_, fun c5 => by rw [c1, c2, c3, c4, c5]; exact ⟨_, rfl, rfl⟩⟩
  refine w_ans ?_
  (repeat (first | (with_reducible first | refine w_v rfl ?_ | refine w_c ?_ | refine w_d2 ?_ | refine w_cons ?_ | refine w_nil ?_ | refine w_call ?_ | refine w_tup ?_ | refine w_tpn ?_ | refine w_lst ?_ | refine w_lstM ?_ | refine w_wk ?_ | refine w_frz ?_ | refine w_meth ?_ | refine w_test ?_ | refine w_notT ?_ | refine w_andT ?_ | refine w_orT ?_ | refine w_yes ?_ | refine w_and ?_ | refine w_or ?_ | refine w_not ?_ | refine w_if ?_ | refine w_ifS ?_ | refine w_seq ?_ | refine w_next ?_ | refine w_cnt ?_ | refine w_ret ?_ | refine w_expr ?_ | refine w_asg ?_ | refine w_par ?_ | refine w_F ?_ | refine w_Fp ?_ | refine w_itL ?_ | refine w_itT ?_ | refine w_itK ?_ | refine w_rng ?_ | refine w_neg ?_ | refine w_dput ?_ | refine w_newD ?_) | refine ⟨_, _, rfl, ?_⟩ | refine ⟨_, rfl, ?_⟩))
  refine ⟨by simp [noRs, noR, nr, nr_pairs], _, hang (by rw [c1, c2, c3, c4, c5]; rfl), rfl, _, rfl, ?_⟩
  rw [c1, c2, c3, c4, c5]
  rfl
end K01

namespace K01
open PySem PySem.Spec PyProof.Rows L2 Tw
/-! ### what is drawn -/
abbrev bx (x y c : Int) : O := .lst [.int x, .int y, .int c]
theorem take_pos {x y c s : Int} (t : List O) (hx : 0 < x) (hs : 0 < s) (hs2 : s < 1073741824) :
    F_l_take [.ref 0, .int s] (bx x y c :: t) = some (.inr (.int (x % s)), bx (x / s) y c :: t) := by
  simp [F_l_take, ds_l_take, N_l_take, runD, start0, bnd, bndN, dSeq, dIfS, dTest, dTru, truP, truD, dNotT, dAndT, dOrT, dAnd, dOr, dNot, d2, dV, dC, lft, pur, ixO, atI, ixN, blO, pur2, ordO, gtI, ltI, leI, geI, Tw.ret, dAsg, dCall, dCons, dNil, pur1, purL, intF, absF, gN, modO, divO, mulO, addO, subO, i2, i2c, gSubD, setF, dRet, outD, dNext, dIf, lenP, dLstM, newL, dLst, dTup, lstO, tupO, okL, mx, dFrz, frzD, frzO, dF, noX, dExpr, dMeth, isLs, inL, appF, dPar, par2, lP, allF, listP, inS, hx, hs, hs2]
def zO (y c : Int) : Int := (y + 48271 * c) * (39373 + c) % 2147483647
def zF (y c : Int) : Int := zO y c % 40009 + 7
def zA (y c : Int) : Int := (zO y c + c + y / 1000003) * zF y c % 2147483629
theorem take_zero {x y c s : Int} (t : List O) (hx : ¬ 0 < x) (hc : 0 ≤ c) (hc2 : c ≤ 1000) (hs : 0 < s) :
    F_l_take [.ref 0, .int s] (bx x y c :: t) = some (.inr (.int ((zA y (c + 1) * 48271 + zO y (c + 1)) % 2147483587 / 64 % s)), bx x y (c + 1) :: t) := by
  have m1 : -18446744073709551616 < 39373 + (c + 1) := by omega
  have m2 : 39373 + (c + 1) < 18446744073709551616 := by omega
  have m3 : -18446744073709551616 < (y + 48271 * (c + 1)) * (39373 + (c + 1)) % 2147483647 % 40009 + 7 := by omega
  have m4 : (y + 48271 * (c + 1)) * (39373 + (c + 1)) % 2147483647 % 40009 + 7 < 18446744073709551616 := by omega
  simp [F_l_take, ds_l_take, N_l_take, runD, start0, bnd, bndN, dSeq, dIfS, dTest, dTru, truP, truD, dNotT, dAndT, dOrT, dAnd, dOr, dNot, d2, dV, dC, lft, pur, ixO, atI, ixN, blO, pur2, ordO, gtI, ltI, leI, geI, Tw.ret, dAsg, dCall, dCons, dNil, pur1, purL, intF, absF, gN, modO, divO, mulO, addO, subO, i2, i2c, gSubD, setF, dRet, outD, dNext, dIf, lenP, dLstM, newL, dLst, dTup, lstO, tupO, okL, mx, dFrz, frzD, frzO, dF, noX, dExpr, dMeth, isLs, inL, appF, dPar, par2, lP, allF, listP, inS, hx, hs, mulC, m1, m2, m3, m4, zA, zF, zO]
/-- a box of at most n draws -/
def BX (n : Int) (o : O) : Prop := ∃ x y c : Int, o = bx x y c ∧ 0 ≤ x ∧ 0 ≤ c ∧ c ≤ n
theorem BX.up {n m : Int} {o : O} (h : BX n o) (l : n ≤ m) : BX m o := let ⟨x, y, c, e, h1, h2, h3⟩ := h; ⟨x, y, c, e, h1, h2, by omega⟩
theorem w_take {n s : Int} {o : O} {t : List O} {Q : D → List O → Prop} (b : BX n o) (hn : n ≤ 1000) (hs : 0 < s) (hs2 : s < 1073741824) (q : ∀ r o', 0 ≤ r → r < s → BX (n + 1) o' → Q (.int r) (o' :: t)) : WP (F_l_take [.ref 0, .int s]) (o :: t) Q := by
  obtain ⟨x, y, c, rfl, hx, hc, hc2⟩ := b
  by_cases h : 0 < x
  · exact ⟨_, _, take_pos t h hs hs2, q _ _ (Int.emod_nonneg x (Int.ne_of_gt hs)) (Int.emod_lt_of_pos x hs) ⟨_, _, _, rfl, Int.ediv_nonneg hx (Int.le_of_lt hs), hc, by omega⟩⟩
  · exact ⟨_, _, take_zero t h hc (by omega) hs, q _ _ (Int.emod_nonneg _ (Int.ne_of_gt hs)) (Int.emod_lt_of_pos _ hs) ⟨_, _, _, rfl, hx, by omega, by omega⟩⟩
theorem atL {xs : List D} {j : Int} (h0 : 0 ≤ j) (h1 : j < xs.length) : ∃ d, d ∈ xs ∧ xs[j.toNat]? = some d ∧ ∀ G, ixO (.lst xs) (.int j) G = some (d, G) := by
  have hl : j.toNat < xs.length := by omega
  obtain ⟨d, hd⟩ : ∃ d, xs[j.toNat]? = some d := ⟨_, List.getElem?_eq_getElem hl⟩
  refine ⟨d, List.mem_of_getElem? hd, hd, fun G => ?_⟩
  have : atI xs j = some d := by
    unfold atI ixN
    rw [if_pos h0, if_pos h1]
    exact hd
  unfold ixO
  simp only [this, pur]
theorem w_of {n : Int} {o : O} {t : List O} {goods : List D} {Q : D → List O → Prop} (b : BX n o) (hn : n ≤ 1000) (h0 : 0 < goods.length) (h1 : goods.length < 1000) (q : ∀ d o', d ∈ goods → BX (n + 1) o' → Q d (o' :: t)) : WP (F_l_of [.ref 0, .lst goods]) (o :: t) Q := by
  refine w_run (w_ret (w_d2 (w_v rfl (w_F (w_cons (w_v rfl (w_cons (w_call (w_cons (w_v rfl (w_nil ⟨.int goods.length, _, rfl, w_nil ?_⟩)))))))))))
  refine w_take b hn (by omega) (by omega) fun r o' r0 r1 b' => ?_
  obtain ⟨d, hd, _, e⟩ := atL r0 r1
  exact ⟨d, _, e _, d, rfl, q d o' hd b'⟩
end K01

namespace K01
open PySem PySem.Spec PyProof.Rows L2 Tw
theorem erase_perm {α : Type} : ∀ (l : List α) (j : Nat) (y : α), l[j]? = some y → (y :: l.eraseIdx j).Perm l
  | [], j, y, h => by simp at h
  | a :: l, 0, y, h => by
    simp at h
    subst h
    exact List.Perm.refl _
  | a :: l, j + 1, y, h => by
    have ih := erase_perm l j y (by simpa using h)
    show (y :: a :: l.eraseIdx j).Perm (a :: l)
    exact (List.Perm.swap a y _).trans (ih.cons a)
theorem smallR {i : Int} (h0 : 0 ≤ i) (h : i ≤ 1000) : smallI i = true := by
  have h1 : -(2 ^ 62) ≤ i := by omega
  have h2 : i < 2 ^ 62 := by omega
  unfold smallI
  rw [decide_eq_true h1, decide_eq_true h2]
  rfl
section
variable {o a b c : O} {t : List O}
theorem lk1 : (o :: (t ++ [a, b]))[t.length + 1]? = some a := by simp
theorem lk2 : (o :: (t ++ [a, b]))[t.length + 2]? = some b := by simp
theorem st1 : (o :: (t ++ [a, b])).set (t.length + 1) c = o :: (t ++ [c, b]) := by simp
theorem st2 : (o :: (t ++ [a, b])).set (t.length + 2) c = o :: (t ++ [a, c]) := by simp
end
theorem popAt_ok {o : O} {t : List O} {pool found : List D} {r : Int} {y : D} (h0 : 0 ≤ r) (h1 : r < pool.length) (hz : pool.length ≤ 1000) (hy : pool[r.toNat]? = some y) :
    popAtF (.ref (t.length + 1)) [.int r] (o :: (t ++ [.lst pool, .lst found])) = some (y, o :: (t ++ [.lst (pool.eraseIdx r.toNat), .lst found])) := by
  have s := smallR h0 (by omega : r ≤ 1000)
  have ix : ixN pool.length r = some r.toNat := by
    unfold ixN
    rw [if_pos h0, if_pos h1]
  have sq := (ixN_seq ix).1
  unfold popAtF
  simp only [lk1]
  rw [if_pos s]
  simp only [sq, hy, st1]
theorem app2_ok {o : O} {t : List O} {x : O} {found : List D} {y : D} (hz : found.length + 1 ≤ mx) :
    appF (.ref (t.length + 2)) [y] (o :: (t ++ [x, .lst found])) = some (.non, o :: (t ++ [x, .lst (found ++ [y])])) := by
  unfold appF
  simp only [lk2]
  rw [if_pos hz, st2]
theorem w_pick {n count : Int} {o : O} {t : List O} {goods : List D} {Q : D → List O → Prop} (b : BX n o) (hn : n ≤ 900) (h1 : goods.length ≤ 20) (hc0 : 0 ≤ count) (hc : count ≤ goods.length)
    (q : ∀ found o' e pool, (found ++ pool).Perm goods → (found.length : Int) = count → BX (n + 20) o' → Q (.lst found) (o' :: (t ++ e))) : WP (F_l_pick [.ref 0, .lst goods, .int count]) (o :: t) Q := by
  have mz : (1000 : Nat) ≤ mx := by decide
  refine w_run ?_
  unfold ds_l_pick
  refine w_seq ?_
  (repeat (first | (with_reducible first | refine w_v rfl ?_ | refine w_c ?_ | refine w_d2 ?_ | refine w_cons ?_ | refine w_nil ?_ | refine w_call ?_ | refine w_tup ?_ | refine w_tpn ?_ | refine w_lst ?_ | refine w_lstM ?_ | refine w_wk ?_ | refine w_frz ?_ | refine w_meth ?_ | refine w_test ?_ | refine w_notT ?_ | refine w_andT ?_ | refine w_orT ?_ | refine w_yes ?_ | refine w_and ?_ | refine w_or ?_ | refine w_not ?_ | refine w_if ?_ | refine w_ifS ?_ | refine w_seq ?_ | refine w_next ?_ | refine w_cnt ?_ | refine w_ret ?_ | refine w_expr ?_ | refine w_asg ?_ | refine w_par ?_ | refine w_F ?_ | refine w_Fp ?_ | refine w_itL ?_ | refine w_itT ?_ | refine w_itK ?_ | refine w_rng ?_ | refine w_neg ?_ | refine w_dput ?_ | refine w_newD ?_) | refine ⟨_, _, rfl, ?_⟩ | refine ⟨_, rfl, ?_⟩))
  refine ⟨.ref (t.length + 1), o :: t ++ [O.lst goods], ?_, ?_⟩
  · unfold listP
    simp only [inS, inL]
    unfold newL
    rw [if_pos (by omega)]
    rfl
  refine w_cons (w_lstM (w_nil ⟨by decide, w_nil ⟨_, rfl, ?_⟩⟩))
  have eG : o :: t ++ [O.lst goods] ++ [O.lst []] = o :: (t ++ [O.lst goods, O.lst []]) := by simp
  have eL : (o :: t ++ [O.lst goods]).length = t.length + 2 := by simp
  rw [eG, eL]
  show WP _ _ _
  have em : min count (goods.length : Int) = count := Int.min_eq_left hc
  refine w_seq (w_for ?_)
  (repeat (first | (with_reducible first | refine w_v rfl ?_ | refine w_c ?_ | refine w_d2 ?_ | refine w_cons ?_ | refine w_nil ?_ | refine w_call ?_ | refine w_tup ?_ | refine w_tpn ?_ | refine w_lst ?_ | refine w_lstM ?_ | refine w_wk ?_ | refine w_frz ?_ | refine w_meth ?_ | refine w_test ?_ | refine w_notT ?_ | refine w_andT ?_ | refine w_orT ?_ | refine w_yes ?_ | refine w_and ?_ | refine w_or ?_ | refine w_not ?_ | refine w_if ?_ | refine w_ifS ?_ | refine w_seq ?_ | refine w_next ?_ | refine w_cnt ?_ | refine w_ret ?_ | refine w_expr ?_ | refine w_asg ?_ | refine w_par ?_ | refine w_F ?_ | refine w_Fp ?_ | refine w_itL ?_ | refine w_itT ?_ | refine w_itK ?_ | refine w_rng ?_ | refine w_neg ?_ | refine w_dput ?_ | refine w_newD ?_) | refine ⟨_, _, rfl, ?_⟩ | refine ⟨_, rfl, ?_⟩))
  refine ⟨.int goods.length, o :: (t ++ [O.lst goods, O.lst []]), ?_, ?_⟩
  · unfold lenP
    simp only [lk1]
  (repeat (first | (with_reducible first | refine w_v rfl ?_ | refine w_c ?_ | refine w_d2 ?_ | refine w_cons ?_ | refine w_nil ?_ | refine w_call ?_ | refine w_tup ?_ | refine w_tpn ?_ | refine w_lst ?_ | refine w_lstM ?_ | refine w_wk ?_ | refine w_frz ?_ | refine w_meth ?_ | refine w_test ?_ | refine w_notT ?_ | refine w_andT ?_ | refine w_orT ?_ | refine w_yes ?_ | refine w_and ?_ | refine w_or ?_ | refine w_not ?_ | refine w_if ?_ | refine w_ifS ?_ | refine w_seq ?_ | refine w_next ?_ | refine w_cnt ?_ | refine w_ret ?_ | refine w_expr ?_ | refine w_asg ?_ | refine w_par ?_ | refine w_F ?_ | refine w_Fp ?_ | refine w_itL ?_ | refine w_itT ?_ | refine w_itK ?_ | refine w_rng ?_ | refine w_neg ?_ | refine w_dput ?_ | refine w_newD ?_) | refine ⟨_, _, rfl, ?_⟩ | refine ⟨_, rfl, ?_⟩))
  have em2 : min2 count goods.length = count := by
    unfold min2
    split <;> omega
  rw [em2]
  refine ⟨rngD 0 count.toNat, ?_, ?_⟩
  · unfold rng1
    dsimp only
    rw [smallR hc0 (by omega)]
    rfl
  refine w_loop (fun ds ρ G => ∃ (o' : O) (pool found : List D) (u5 : Option D), G = o' :: (t ++ [.lst pool, .lst found]) ∧ BX (n + found.length) o' ∧ (found ++ pool).Perm goods ∧ ((ds.length : Int) + found.length = count) ∧ ρ = [some (.ref 0), some (.lst goods), some (.int count), some (.ref (t.length + 1)), some (.ref (t.length + 2)), u5]) ?_ _ _ _ ⟨o, goods, [], none, rfl, b.up (by simp), List.Perm.refl _, ?_, rfl⟩ ?_
  · rintro d r ρ G ⟨o', pool, found, u5, rfl, b', hp, hl, rfl⟩
    have lp := hp.length_eq
    rw [List.length_append] at lp
    simp only [List.length_cons] at hl
    have hz : found.length + 1 ≤ mx := by omega
    refine ⟨[some (.ref 0), some (.lst goods), some (.int count), some (.ref (t.length + 1)), some (.ref (t.length + 2)), some d], _, rfl, ?_⟩
    refine w_expr (w_meth (w_v rfl ⟨⟨found, by unfold inL; simp only [lk2]⟩, w_cons (w_meth (w_v rfl ⟨⟨pool, by unfold inL; simp only [lk1]⟩, ?_⟩))⟩))
    (repeat (first | (with_reducible first | refine w_v rfl ?_ | refine w_c ?_ | refine w_d2 ?_ | refine w_cons ?_ | refine w_nil ?_ | refine w_call ?_ | refine w_tup ?_ | refine w_tpn ?_ | refine w_lst ?_ | refine w_lstM ?_ | refine w_wk ?_ | refine w_frz ?_ | refine w_meth ?_ | refine w_test ?_ | refine w_notT ?_ | refine w_andT ?_ | refine w_orT ?_ | refine w_yes ?_ | refine w_and ?_ | refine w_or ?_ | refine w_not ?_ | refine w_if ?_ | refine w_ifS ?_ | refine w_seq ?_ | refine w_next ?_ | refine w_cnt ?_ | refine w_ret ?_ | refine w_expr ?_ | refine w_asg ?_ | refine w_par ?_ | refine w_F ?_ | refine w_Fp ?_ | refine w_itL ?_ | refine w_itT ?_ | refine w_itK ?_ | refine w_rng ?_ | refine w_neg ?_ | refine w_dput ?_ | refine w_newD ?_) | refine ⟨_, _, rfl, ?_⟩ | refine ⟨_, rfl, ?_⟩))
    refine ⟨.int pool.length, o' :: (t ++ [O.lst pool, O.lst found]), ?_, ?_⟩
    · unfold lenP
      simp only [lk1]
    refine w_nil ?_
    refine w_take b' (by omega) (by omega) (by omega) fun rr o2 r0 r1 b2 => ?_
    obtain ⟨y, hy⟩ : ∃ y, pool[rr.toNat]? = some y := ⟨_, List.getElem?_eq_getElem (by omega)⟩
    refine w_nil ⟨y, _, popAt_ok r0 r1 (by omega) hy, w_nil ⟨.non, _, app2_ok hz, _, .inl rfl, o2, _, found ++ [y], some d, rfl, b2.up (by simp; omega), ?_, ?_, rfl⟩⟩
    · rw [List.append_assoc]
      exact (List.Perm.append_left found (erase_perm pool _ y hy)).trans hp
    · rw [List.length_append]
      simp
      omega
  · simp [rngD]
    omega
  · rintro ρ G ⟨o', pool, found, u5, rfl, b', hp, hl, rfl⟩
    have lp := hp.length_eq
    rw [List.length_append] at lp
    show WP _ _ _
    refine w_ret (w_frz (w_v rfl ⟨.lst found, o' :: (t ++ [.lst pool, .gone]), ?_, _, rfl, q found o' _ pool hp (by simpa using hl) (b'.up (by omega))⟩))
    unfold frzD
    simp only [lk2, frzO, st2]
end K01

namespace K01
open PySem PySem.Spec PyProof.Rows L2 Tw
/-! ### drawn scripts -/
def names5 : List Str := ["a", "ann", "b", "cy", "zz"]
def lanes2 : List D := [.str "p", .str "q"]
def ends4 : List D := [.tup [], .tup [], .int 1, .int 2]
/-- steps that name no task and no group -/
def Pl : List D := lanes2.flatMap (fun l => [D.tup [.str "put", l], .tup [.str "set", l]] ++ ends4.flatMap fun e => [D.tup [.str "get", l, e], .tup [.str "hear", l, e]]) ++
  [.tup [.str "until", .int 0], .tup [.str "until", .int 1], .tup [.str "until", .int 2], .tup [.str "give"], .tup [.str "fail", .str "v"], .tup [.str "fail", .str "w"]]
def inD1 : D := .tup [.str "in"]
def outD1 : D := .tup [.str "out"]
def Jn (x : Str) : List D := .tup [.str "cancel", .str x] :: ends4.map fun e => .tup [.str "join", .str x, e]
/-- what is asked of each step by itself -/
def chk (d : D) : Bool := isS d && (okS d && (okA tw3 d && (okA cw2 d && okA sw1 d)))
theorem Pl_chk : Pl.all (fun d => chk d && (delta d == 0 && (!(tw3.contains (wrd d)) && (!(cw2.contains (wrd d)) && !(sw1.contains (wrd d)))))) = true := by kernel_rfl
theorem io_chk : [inD1, outD1].all (fun d => chk d && (!(tw3.contains (wrd d)) && (!(cw2.contains (wrd d)) && !(sw1.contains (wrd d))))) = true := by kernel_rfl
theorem Jn_chk : names5.all (fun x => (Jn x).all fun d => chk d && (delta d == 0 && (arg d == x && (!(cw2.contains (wrd d)) && !(sw1.contains (wrd d)))))) = true := by kernel_rfl
/-- a step of a drawn script -/
def Dr1 (others : List Str) (d : D) : Prop := d ∈ Pl ∨ d = inD1 ∨ d = outD1 ∨ ∃ x ∈ others, d ∈ Jn x
/-- a drawn script -/
def DrS (others : List Str) (row : List D) : Prop := (∀ d ∈ row, Dr1 others d) ∧ walk 0 row = some 0
theorem DrS.nil {others : List Str} : DrS others [] := ⟨fun d h => absurd h (by simp), rfl⟩
theorem DrS.one {others : List Str} {row : List D} {d : D} (h : DrS others row) (hd : Dr1 others d) (h0 : delta d = 0) : DrS others (row ++ [d]) := by
  refine ⟨fun x hx => ?_, ?_⟩
  · rcases List.mem_append.mp hx with hx | hx
    · exact h.1 x hx
    · rw [List.mem_singleton.mp hx]; exact hd
  · rw [walk_app, h.2]
    show walk 0 [d] = some 0
    simp [walk, h0]
theorem DrS.three {others : List Str} {row : List D} {l : D} (h : DrS others row) (hl : l ∈ lanes2) : DrS others (row ++ [inD1, .tup [.str "put", l], outD1]) := by
  have hp : D.tup [.str "put", l] ∈ Pl := by
    unfold Pl
    exact List.mem_append_left _ (List.mem_flatMap.mpr ⟨l, hl, by simp⟩)
  have e0 : delta (.tup [.str "put", l]) = 0 := by
    have := List.all_eq_true.mp Pl_chk _ hp
    simp only [Bool.and_eq_true, beq_iff_eq] at this
    exact this.2.1
  refine ⟨fun x hx => ?_, ?_⟩
  · rcases List.mem_append.mp hx with hx | hx
    · exact h.1 x hx
    · simp only [List.mem_cons, List.not_mem_nil, or_false] at hx
      rcases hx with rfl | rfl | rfl
      · exact .inr (.inl rfl)
      · exact .inl hp
      · exact .inr (.inr (.inl rfl))
  · rw [walk_app, h.2]
    show walk 0 [inD1, .tup [.str "put", l], outD1] = some 0
    have e1 : delta inD1 = 1 := by decide +kernel
    have e2 : delta outD1 = -1 := by decide +kernel
    simp [walk, e0, e1, e2]
theorem Dr1.pl {others : List Str} {d : D} (h : d ∈ Pl) : Dr1 others d ∧ delta d = 0 := by
  have := List.all_eq_true.mp Pl_chk _ h
  simp only [Bool.and_eq_true, beq_iff_eq] at this
  exact ⟨.inl h, this.2.1⟩
theorem Dr1.jn {others : List Str} {d : D} {x : Str} (hn : ∀ x ∈ others, x ∈ names5) (hx : x ∈ others) (h : d ∈ Jn x) : Dr1 others d ∧ delta d = 0 := by
  have := List.all_eq_true.mp (List.all_eq_true.mp Jn_chk _ (hn x hx)) _ h
  simp only [Bool.and_eq_true, beq_iff_eq] at this
  exact ⟨.inr (.inr (.inr ⟨x, hx, h⟩)), this.2.1⟩
section
variable {o x c : O} {t e : List O} {j : Nat}
theorem lkE (h : e[j]? = some x) : (o :: (t ++ e))[t.length + 1 + j]? = some x := by
  have : t.length + 1 + j = (t.length + j) + 1 := by omega
  rw [this, List.getElem?_cons_succ, List.getElem?_append_right (by omega)]
  have : t.length + j - t.length = j := by omega
  rw [this, h]
theorem stE : (o :: (t ++ e)).set (t.length + 1 + j) c = o :: (t ++ e.set j c) := by
  have : t.length + 1 + j = (t.length + j) + 1 := by omega
  rw [this, List.set_cons_succ, List.set_append_right _ _ (by omega)]
  have : t.length + j - t.length = j := by omega
  rw [this]
theorem appE {row : List D} {y : D} (h : e[j]? = some (.lst row)) (hz : row.length + 1 ≤ mx) : appF (.ref (t.length + 1 + j)) [y] (o :: (t ++ e)) = some (.non, o :: (t ++ e.set j (.lst (row ++ [y])))) := by
  unfold appF
  simp only [lkE h]
  rw [if_pos hz, stE]
end
def words12 : List D := [.str "put", .str "get", .str "set", .str "hear", .str "join", .str "cancel", .str "until", .str "give", .str "fail", .str "get", .str "put", .str "in"]
/-- how far a script has come -/
def ScI (n : Int) (others : List Str) (room : Nat) (t : List O) (ρ : En) (G : List O) : Prop := ∃ (o' : O) (e : List O) (j : Nat) (row : List D) (u6 u7 u8 u9 : Option D),
  G = o' :: (t ++ e) ∧ BX n o' ∧ e[j]? = some (.lst row) ∧ DrS others (row.take room) ∧ (row.length : Int) ≤ 3 * n ∧ ρ = [some (.ref 0), some (.lst (others.map .str)), some (.int 3), some (.int room), some (.ref (t.length + 1 + j)), some (.lst words12), u6, u7, u8, u9]
theorem take_one {others : List Str} {row : List D} {d : D} {room : Nat} (h : DrS others (row.take room)) (hd : Dr1 others d ∧ delta d = 0) : DrS others ((row ++ [d]).take room) := by
  by_cases hl : row.length < room
  · have e1 : row.take room = row := List.take_of_length_le (by omega)
    have e2 : (row ++ [d]).take room = row ++ [d] := List.take_of_length_le (by simp; omega)
    rw [e2]
    rw [e1] at h
    exact h.one hd.1 hd.2
  · rw [List.take_append_of_le_length (by omega)]
    exact h
end K01

namespace K01
open PySem PySem.Spec PyProof.Rows L2 Tw
/-! ### what can be compared -/
theorem toPs_str : ∀ ws : List Str, toPs (ws.map .str) = some (ws.map .str)
  | [] => rfl
  | w :: ws => by simp [toPs, toP, toPs_str ws]
theorem lay_str : ∀ {ws : List Str}, ws.all PyData.strOk = true → PyData.canLayAll0 (ws.map .str) = true
  | [], _ => rfl
  | w :: ws, h => by
    simp only [List.all_cons, Bool.and_eq_true] at h
    simp [PyData.canLayAll0, PyData.canLay0, h.1, lay_str h.2]
theorem dep_str : ∀ ws : List Str, PyData.depthAll (ws.map .str) = 0
  | [] => rfl
  | w :: ws => by simp [PyData.depthAll, PyData.depth, dep_str ws]
theorem eqO_nil {ws : List Str} (h : ws.all PyData.strOk = true) (n : Bool) : eqO n (.lst (ws.map .str)) (.lst []) = some (.bl (if n then !ws.isEmpty else ws.isEmpty)) := by
  have s1 : SeqAt.shaped (.list (ws.map .str)) = true := by simp [SeqAt.shaped, PyData.canLay0, PyData.depth, lay_str h, dep_str]
  have s2 : SeqAt.shaped (.list []) = true := by decide +kernel
  unfold eqO
  have t1 : toP (.lst (ws.map .str)) = some (.list (ws.map .str)) := by simp [toP, toPs_str]
  have t2 : toP (.lst []) = some (.list []) := rfl
  rw [t1, t2]
  simp only [s1, s2, Bool.and_self, if_true]
  cases ws with
  | nil => rfl
  | cons w ws => simp [PyData.eqv, PyData.eqvAll]
theorem eqO_nilN {ws : List Str} (h : ws.all PyData.strOk = true) (h0 : ws ≠ []) : eqO true (.lst (ws.map .str)) (.lst []) = some (.bl true) := by
  rw [eqO_nil h]
  cases ws with
  | nil => exact absurd rfl h0
  | cons w ws => rfl
end K01

namespace K01
open PySem PySem.Spec PyProof.Rows L2 Tw
theorem w_then {s : En → M Out} {Q : Out → List O → Prop} {ρ : En} {G : List O} (h : WP (s ρ) G Q) : thenS s Q (.nx ρ) G := h
theorem eqS {x y : Str} {n : Bool} {G : List O} (hx : PyData.strOk x = true) (hy : PyData.strOk y = true) : pur2 (eqO n) (.str x) (.str y) G = some (.bl (if n then !(x == y) else (x == y)), G) := by
  unfold pur2 pur
  rw [eqO_str hx hy]
theorem addT {xs ys : List D} {G : List O} (h : xs.length + ys.length ≤ mx) : pur2 addO (.tup xs) (.tup ys) G = some (.tup (xs ++ ys), G) := by
  unfold pur2 pur addO
  simp only
  rw [if_pos h]
theorem sc_app {X : En → M D} {ρ : En} {o : O} {t e : List O} {j : Nat} {row : List D} {m : Int} {others : List Str} (h4 : ρ[4]? = some (some (.ref (t.length + 1 + j)))) (hj : e[j]? = some (.lst row)) (hz : row.length + 1 ≤ mx)
    (h : WP (X ρ) (o :: (t ++ e)) fun d G1 => ∃ o1, G1 = o1 :: (t ++ e) ∧ BX m o1 ∧ Dr1 others d ∧ delta d = 0) :
    WP (dExpr (dMeth appF (dV 4) (dCons X dNil)) ρ) (o :: (t ++ e)) fun out G2 => out = .nx ρ ∧ ∃ o1 d, G2 = o1 :: (t ++ e.set j (.lst (row ++ [d]))) ∧ BX m o1 ∧ Dr1 others d ∧ delta d = 0 := by
  refine w_expr (w_meth (w_v h4 ⟨⟨row, by unfold inL; simp only [lkE hj]⟩, w_cons (h.imp fun d G1 ⟨o1, e1, b, d1, d0⟩ => w_nil ?_)⟩))
  subst e1
  exact ⟨.non, _, appE hj hz, rfl, o1, d, rfl, b, d1, d0⟩
theorem mem_ps {l : D} (h : l ∈ lanes2) : D.tup [.str "put", l] ∈ Pl ∧ D.tup [.str "set", l] ∈ Pl := by
  unfold Pl
  exact ⟨List.mem_append_left _ (List.mem_flatMap.mpr ⟨l, h, by simp⟩), List.mem_append_left _ (List.mem_flatMap.mpr ⟨l, h, by simp⟩)⟩
theorem mem_gh {l e : D} (h : l ∈ lanes2) (he : e ∈ ends4) : D.tup [.str "get", l, e] ∈ Pl ∧ D.tup [.str "hear", l, e] ∈ Pl := by
  unfold Pl
  exact ⟨List.mem_append_left _ (List.mem_flatMap.mpr ⟨l, h, List.mem_append_right _ (List.mem_flatMap.mpr ⟨e, he, by simp⟩)⟩), List.mem_append_left _ (List.mem_flatMap.mpr ⟨l, h, List.mem_append_right _ (List.mem_flatMap.mpr ⟨e, he, by simp⟩)⟩)⟩
theorem mem_rest : D.tup [.str "until", .int 0] ∈ Pl ∧ D.tup [.str "until", .int 1] ∈ Pl ∧ D.tup [.str "until", .int 2] ∈ Pl ∧ D.tup [.str "give"] ∈ Pl ∧ D.tup [.str "fail", .str "v"] ∈ Pl ∧ D.tup [.str "fail", .str "w"] ∈ Pl := by
  unfold Pl
  refine ⟨?_, ?_, ?_, ?_, ?_, ?_⟩ <;> exact List.mem_append_right _ (by simp)
theorem script_step {n : Int} {others : List Str} {room : Nat} {t : List O} {u6 u7 u8 u9 : Option D} {o' : O} {e : List O} {j : Nat} {row : List D} {d : D} (hn : n ≤ 900) (on : ∀ x ∈ others, x ∈ names5) (o0 : others ≠ []) (ol : others.length ≤ 5)
    (b : BX n o') (hj : e[j]? = some (.lst row)) (hr : DrS others (row.take room)) (hl : (row.length : Int) ≤ 3 * n) :
    WP ((dSeq (dPar 7 8 (dCons (dF F_l_of (dCons (dV 0) (dCons (dV 5) dNil))) (dCons (dF F_l_of (dCons (dV 0) (dCons (dLst (dCons (dC (.str "p")) (dCons (dC (.str "q")) dNil))) dNil))) dNil))) (dSeq (dAsg (dF F_l_of (dCons (dV 0) (dCons (dLst (dCons (dTup dNil) (dCons (dTup dNil) (dCons (dC (.int 1)) (dCons (dC (.int 2)) dNil))))) dNil))) (gN 9)) (dIfS (dTest (d2 (pur2 (inO false)) (dV 7) (dTup (dCons (dC (.str "get")) (dCons (dC (.str "hear")) dNil))))) (dExpr (dMeth appF (dV 4) (dCons (dTup (dCons (dV 7) (dCons (dV 8) (dCons (dV 9) dNil)))) dNil))) (dIfS (dTest (d2 (pur2 (inO false)) (dV 7) (dTup (dCons (dC (.str "put")) (dCons (dC (.str "set")) dNil))))) (dExpr (dMeth appF (dV 4) (dCons (dTup (dCons (dV 7) (dCons (dV 8) dNil))) dNil))) (dIfS (dAndT (dTest (d2 (pur2 (inO false)) (dV 7) (dTup (dCons (dC (.str "join")) (dCons (dC (.str "cancel")) dNil))))) (dTest (d2 (pur2 (eqO true)) (dV 1) (dLst dNil)))) (dExpr (dMeth appF (dV 4) (dCons (d2 (pur2 addO) (dTup (dCons (dV 7) (dCons (dF F_l_of (dCons (dV 0) (dCons (dV 1) dNil))) dNil))) (dIf (dTest (d2 (pur2 (eqO false)) (dV 7) (dC (.str "join")))) (dTup (dCons (dV 9) dNil)) (dTup dNil))) dNil))) (dIfS (dTest (d2 (pur2 (eqO false)) (dV 7) (dC (.str "until")))) (dExpr (dMeth appF (dV 4) (dCons (dTup (dCons (dC (.str "until")) (dCons (dF F_l_take (dCons (dV 0) (dCons (dC (.int 3)) dNil))) dNil))) dNil))) (dIfS (dTest (d2 (pur2 (eqO false)) (dV 7) (dC (.str "fail")))) (dExpr (dMeth appF (dV 4) (dCons (dTup (dCons (dC (.str "fail")) (dCons (dF F_l_of (dCons (dV 0) (dCons (dLst (dCons (dC (.str "v")) (dCons (dC (.str "w")) dNil))) dNil))) dNil))) dNil))) (dIfS (dAndT (dTest (d2 (pur2 (eqO false)) (dV 7) (dC (.str "in")))) (dTest (d2 (pur2 (ordO leI leS)) (d2 (pur2 addO) (dCall (lenP) (dCons (dV 4) dNil)) (dC (.int 3))) (dV 3)))) (dAsg (d2 (catP newL) (dV 4) (dLst (dCons (dTup (dCons (dC (.str "in")) dNil)) (dCons (dTup (dCons (dC (.str "put")) (dCons (dV 8) dNil))) (dCons (dTup (dCons (dC (.str "out")) dNil)) dNil))))) (gN 4)) (dExpr (dMeth appF (dV 4) (dCons (dTup (dCons (dC (.str "give")) dNil)) dNil))))))))))) [some (.ref 0), some (.lst (others.map .str)), some (.int 3), some (.int room), some (.ref (t.length + 1 + j)), some (.lst words12), some d, u7, u8, u9]) (o' :: (t ++ e))
      fun o G2 => ∃ ρ2, (o = .nx ρ2 ∨ o = .ct ρ2) ∧ ScI (n + 4) others room t ρ2 G2 := by
  (repeat (first | (with_reducible first | refine w_v rfl ?_ | refine w_c ?_ | refine w_d2 ?_ | refine w_cons ?_ | refine w_nil ?_ | refine w_call ?_ | refine w_tup ?_ | refine w_tpn ?_ | refine w_lst ?_ | refine w_lstM ?_ | refine w_wk ?_ | refine w_frz ?_ | refine w_meth ?_ | refine w_test ?_ | refine w_notT ?_ | refine w_andT ?_ | refine w_orT ?_ | refine w_yes ?_ | refine w_and ?_ | refine w_or ?_ | refine w_not ?_ | refine w_if ?_ | refine w_ifS ?_ | refine w_seq ?_ | refine w_next ?_ | refine w_cnt ?_ | refine w_ret ?_ | refine w_expr ?_ | refine w_asg ?_ | refine w_par ?_ | refine w_F ?_ | refine w_Fp ?_ | refine w_itL ?_ | refine w_itT ?_ | refine w_itK ?_ | refine w_rng ?_ | refine w_neg ?_ | refine w_dput ?_ | refine w_newD ?_) | with_reducible refine w_then ?_ | refine ⟨_, _, rfl, ?_⟩ | refine ⟨_, rfl, ?_⟩ | refine ⟨by decide, ?_⟩ | refine ⟨_, _, eqS (by decide +kernel) (by decide +kernel), ?_⟩ | refine ⟨(by simp only [List.length_cons, List.length_nil]; decide), ?_⟩ | refine ⟨fun c => absurd c (by decide +kernel), fun _ => ?_⟩ | refine ⟨fun _ => ?_, fun c => absurd c (by decide +kernel)⟩))
  refine w_of (goods := words12) b (by omega) (by decide) (by decide) fun wd o1 hw b1 => ?_
  (repeat (first | (with_reducible first | refine w_v rfl ?_ | refine w_c ?_ | refine w_d2 ?_ | refine w_cons ?_ | refine w_nil ?_ | refine w_call ?_ | refine w_tup ?_ | refine w_tpn ?_ | refine w_lst ?_ | refine w_lstM ?_ | refine w_wk ?_ | refine w_frz ?_ | refine w_meth ?_ | refine w_test ?_ | refine w_notT ?_ | refine w_andT ?_ | refine w_orT ?_ | refine w_yes ?_ | refine w_and ?_ | refine w_or ?_ | refine w_not ?_ | refine w_if ?_ | refine w_ifS ?_ | refine w_seq ?_ | refine w_next ?_ | refine w_cnt ?_ | refine w_ret ?_ | refine w_expr ?_ | refine w_asg ?_ | refine w_par ?_ | refine w_F ?_ | refine w_Fp ?_ | refine w_itL ?_ | refine w_itT ?_ | refine w_itK ?_ | refine w_rng ?_ | refine w_neg ?_ | refine w_dput ?_ | refine w_newD ?_) | with_reducible refine w_then ?_ | refine ⟨_, _, rfl, ?_⟩ | refine ⟨_, rfl, ?_⟩ | refine ⟨by decide, ?_⟩ | refine ⟨_, _, eqS (by decide +kernel) (by decide +kernel), ?_⟩ | refine ⟨(by simp only [List.length_cons, List.length_nil]; decide), ?_⟩ | refine ⟨fun c => absurd c (by decide +kernel), fun _ => ?_⟩ | refine ⟨fun _ => ?_, fun c => absurd c (by decide +kernel)⟩))
  refine w_of (goods := lanes2) b1 (by omega) (by decide) (by decide) fun ln o2 hln b2 => ?_
  (repeat (first | (with_reducible first | refine w_v rfl ?_ | refine w_c ?_ | refine w_d2 ?_ | refine w_cons ?_ | refine w_nil ?_ | refine w_call ?_ | refine w_tup ?_ | refine w_tpn ?_ | refine w_lst ?_ | refine w_lstM ?_ | refine w_wk ?_ | refine w_frz ?_ | refine w_meth ?_ | refine w_test ?_ | refine w_notT ?_ | refine w_andT ?_ | refine w_orT ?_ | refine w_yes ?_ | refine w_and ?_ | refine w_or ?_ | refine w_not ?_ | refine w_if ?_ | refine w_ifS ?_ | refine w_seq ?_ | refine w_next ?_ | refine w_cnt ?_ | refine w_ret ?_ | refine w_expr ?_ | refine w_asg ?_ | refine w_par ?_ | refine w_F ?_ | refine w_Fp ?_ | refine w_itL ?_ | refine w_itT ?_ | refine w_itK ?_ | refine w_rng ?_ | refine w_neg ?_ | refine w_dput ?_ | refine w_newD ?_) | with_reducible refine w_then ?_ | refine ⟨_, _, rfl, ?_⟩ | refine ⟨_, rfl, ?_⟩ | refine ⟨by decide, ?_⟩ | refine ⟨_, _, eqS (by decide +kernel) (by decide +kernel), ?_⟩ | refine ⟨(by simp only [List.length_cons, List.length_nil]; decide), ?_⟩ | refine ⟨fun c => absurd c (by decide +kernel), fun _ => ?_⟩ | refine ⟨fun _ => ?_, fun c => absurd c (by decide +kernel)⟩))
  refine w_of (goods := ends4) b2 (by omega) (by decide) (by decide) fun en o3 hen b3 => ?_
  refine ⟨_, _, rfl, ?_⟩
  refine w_then ?_
  have m3 : (3000 : Nat) ≤ mx := by decide
  have hz : row.length + 1 ≤ mx := by omega
  have fin : ∀ {X : En → M D} {ρ : En}, ρ = [some (.ref 0), some (.lst (others.map .str)), some (.int 3), some (.int room), some (.ref (t.length + 1 + j)), some (.lst words12), some d, some wd, some ln, some en] →
      (WP (X ρ) (o3 :: (t ++ e)) fun d G1 => ∃ o1, G1 = o1 :: (t ++ e) ∧ BX (n + 4) o1 ∧ Dr1 others d ∧ delta d = 0) →
      WP (dExpr (dMeth appF (dV 4) (dCons X dNil)) ρ) (o3 :: (t ++ e)) fun o G2 => ∃ ρ2, (o = .nx ρ2 ∨ o = .ct ρ2) ∧ ScI (n + 4) others room t ρ2 G2 := fun {X ρ} hρ h => by
    subst hρ
    refine (sc_app rfl hj hz h).imp fun out G2 ⟨e1, o4, s, e2, b4, s1, s0⟩ => ?_
    subst e1 e2
    refine ⟨_, .inl rfl, o4, _, j, row ++ [s], _, _, _, _, rfl, b4, ?_, take_one hr ⟨s1, s0⟩, by simp; omega, rfl⟩
    rw [List.getElem?_set_self (List.getElem?_eq_some_iff.mp hj).1]
  have hw' := hw
  simp only [words12, List.mem_cons, List.not_mem_nil, or_false] at hw'
  have hln' : ln ∈ lanes2 := hln
  have hen' : en ∈ ends4 := hen
  have b3' : BX (n + 4) o3 := b3.up (by omega)
  have xof : ∀ {x : D}, x ∈ others.map D.str → ∃ y, y ∈ others ∧ x = .str y := fun h => by
    obtain ⟨y, hy, e⟩ := List.mem_map.mp h
    exact ⟨y, hy, e.symm⟩
  have ono : pur2 (eqO true) (D.lst (List.map D.str others)) (D.lst []) (o3 :: (t ++ e)) = some (.bl true, o3 :: (t ++ e)) := by
    unfold pur2 pur
    rw [eqO_nilN (List.all_eq_true.mpr fun x hx => List.all_eq_true.mp (show names5.all PyData.strOk = true by decide +kernel) x (on x hx)) o0]
  have l0 : 0 < (others.map D.str).length := by
    rw [List.length_map]
    exact List.length_pos_iff.mpr o0
  have l1 : (others.map D.str).length < 1000 := by rw [List.length_map]; omega
  rcases hw' with rfl | rfl | rfl | rfl | rfl | rfl | rfl | rfl | rfl | rfl | rfl | rfl
  · (repeat (first | with_reducible first | refine w_v rfl ?_ | refine w_c ?_ | refine w_d2 ?_ | refine w_cons ?_ | refine w_nil ?_ | refine w_tup ?_ | refine w_lst ?_ | refine w_test ?_ | refine w_andT ?_ | refine w_ifS ?_ | refine ⟨_, _, rfl, ?_⟩ | refine ⟨_, rfl, ?_⟩ | refine ⟨by decide, ?_⟩ | refine ⟨_, _, eqS (by decide +kernel) (by decide +kernel), ?_⟩ | refine ⟨(by simp only [List.length_cons, List.length_nil]; decide), ?_⟩ | refine ⟨fun c => absurd c (by decide +kernel), fun _ => ?_⟩ | refine ⟨fun _ => ?_, fun c => absurd c (by decide +kernel)⟩))
    refine fin rfl ?_
    (repeat (first | (with_reducible first | refine w_v rfl ?_ | refine w_c ?_ | refine w_d2 ?_ | refine w_cons ?_ | refine w_nil ?_ | refine w_call ?_ | refine w_tup ?_ | refine w_tpn ?_ | refine w_lst ?_ | refine w_lstM ?_ | refine w_wk ?_ | refine w_frz ?_ | refine w_meth ?_ | refine w_test ?_ | refine w_notT ?_ | refine w_andT ?_ | refine w_orT ?_ | refine w_yes ?_ | refine w_and ?_ | refine w_or ?_ | refine w_not ?_ | refine w_if ?_ | refine w_ifS ?_ | refine w_seq ?_ | refine w_next ?_ | refine w_cnt ?_ | refine w_ret ?_ | refine w_expr ?_ | refine w_asg ?_ | refine w_par ?_ | refine w_F ?_ | refine w_Fp ?_ | refine w_itL ?_ | refine w_itT ?_ | refine w_itK ?_ | refine w_rng ?_ | refine w_neg ?_ | refine w_dput ?_ | refine w_newD ?_) | with_reducible refine w_then ?_ | refine ⟨_, _, rfl, ?_⟩ | refine ⟨_, rfl, ?_⟩ | refine ⟨by decide, ?_⟩ | refine ⟨_, _, eqS (by decide +kernel) (by decide +kernel), ?_⟩ | refine ⟨(by simp only [List.length_cons, List.length_nil]; decide), ?_⟩ | refine ⟨fun c => absurd c (by decide +kernel), fun _ => ?_⟩ | refine ⟨fun _ => ?_, fun c => absurd c (by decide +kernel)⟩))
    exact ⟨b3', Dr1.pl (mem_ps hln').1⟩
  · (repeat (first | with_reducible first | refine w_v rfl ?_ | refine w_c ?_ | refine w_d2 ?_ | refine w_cons ?_ | refine w_nil ?_ | refine w_tup ?_ | refine w_lst ?_ | refine w_test ?_ | refine w_andT ?_ | refine w_ifS ?_ | refine ⟨_, _, rfl, ?_⟩ | refine ⟨_, rfl, ?_⟩ | refine ⟨by decide, ?_⟩ | refine ⟨_, _, eqS (by decide +kernel) (by decide +kernel), ?_⟩ | refine ⟨(by simp only [List.length_cons, List.length_nil]; decide), ?_⟩ | refine ⟨fun c => absurd c (by decide +kernel), fun _ => ?_⟩ | refine ⟨fun _ => ?_, fun c => absurd c (by decide +kernel)⟩))
    refine fin rfl ?_
    (repeat (first | (with_reducible first | refine w_v rfl ?_ | refine w_c ?_ | refine w_d2 ?_ | refine w_cons ?_ | refine w_nil ?_ | refine w_call ?_ | refine w_tup ?_ | refine w_tpn ?_ | refine w_lst ?_ | refine w_lstM ?_ | refine w_wk ?_ | refine w_frz ?_ | refine w_meth ?_ | refine w_test ?_ | refine w_notT ?_ | refine w_andT ?_ | refine w_orT ?_ | refine w_yes ?_ | refine w_and ?_ | refine w_or ?_ | refine w_not ?_ | refine w_if ?_ | refine w_ifS ?_ | refine w_seq ?_ | refine w_next ?_ | refine w_cnt ?_ | refine w_ret ?_ | refine w_expr ?_ | refine w_asg ?_ | refine w_par ?_ | refine w_F ?_ | refine w_Fp ?_ | refine w_itL ?_ | refine w_itT ?_ | refine w_itK ?_ | refine w_rng ?_ | refine w_neg ?_ | refine w_dput ?_ | refine w_newD ?_) | with_reducible refine w_then ?_ | refine ⟨_, _, rfl, ?_⟩ | refine ⟨_, rfl, ?_⟩ | refine ⟨by decide, ?_⟩ | refine ⟨_, _, eqS (by decide +kernel) (by decide +kernel), ?_⟩ | refine ⟨(by simp only [List.length_cons, List.length_nil]; decide), ?_⟩ | refine ⟨fun c => absurd c (by decide +kernel), fun _ => ?_⟩ | refine ⟨fun _ => ?_, fun c => absurd c (by decide +kernel)⟩))
    exact ⟨b3', Dr1.pl (mem_gh hln' hen').1⟩
  · (repeat (first | with_reducible first | refine w_v rfl ?_ | refine w_c ?_ | refine w_d2 ?_ | refine w_cons ?_ | refine w_nil ?_ | refine w_tup ?_ | refine w_lst ?_ | refine w_test ?_ | refine w_andT ?_ | refine w_ifS ?_ | refine ⟨_, _, rfl, ?_⟩ | refine ⟨_, rfl, ?_⟩ | refine ⟨by decide, ?_⟩ | refine ⟨_, _, eqS (by decide +kernel) (by decide +kernel), ?_⟩ | refine ⟨(by simp only [List.length_cons, List.length_nil]; decide), ?_⟩ | refine ⟨fun c => absurd c (by decide +kernel), fun _ => ?_⟩ | refine ⟨fun _ => ?_, fun c => absurd c (by decide +kernel)⟩))
    refine fin rfl ?_
    (repeat (first | (with_reducible first | refine w_v rfl ?_ | refine w_c ?_ | refine w_d2 ?_ | refine w_cons ?_ | refine w_nil ?_ | refine w_call ?_ | refine w_tup ?_ | refine w_tpn ?_ | refine w_lst ?_ | refine w_lstM ?_ | refine w_wk ?_ | refine w_frz ?_ | refine w_meth ?_ | refine w_test ?_ | refine w_notT ?_ | refine w_andT ?_ | refine w_orT ?_ | refine w_yes ?_ | refine w_and ?_ | refine w_or ?_ | refine w_not ?_ | refine w_if ?_ | refine w_ifS ?_ | refine w_seq ?_ | refine w_next ?_ | refine w_cnt ?_ | refine w_ret ?_ | refine w_expr ?_ | refine w_asg ?_ | refine w_par ?_ | refine w_F ?_ | refine w_Fp ?_ | refine w_itL ?_ | refine w_itT ?_ | refine w_itK ?_ | refine w_rng ?_ | refine w_neg ?_ | refine w_dput ?_ | refine w_newD ?_) | with_reducible refine w_then ?_ | refine ⟨_, _, rfl, ?_⟩ | refine ⟨_, rfl, ?_⟩ | refine ⟨by decide, ?_⟩ | refine ⟨_, _, eqS (by decide +kernel) (by decide +kernel), ?_⟩ | refine ⟨(by simp only [List.length_cons, List.length_nil]; decide), ?_⟩ | refine ⟨fun c => absurd c (by decide +kernel), fun _ => ?_⟩ | refine ⟨fun _ => ?_, fun c => absurd c (by decide +kernel)⟩))
    exact ⟨b3', Dr1.pl (mem_ps hln').2⟩
  · (repeat (first | with_reducible first | refine w_v rfl ?_ | refine w_c ?_ | refine w_d2 ?_ | refine w_cons ?_ | refine w_nil ?_ | refine w_tup ?_ | refine w_lst ?_ | refine w_test ?_ | refine w_andT ?_ | refine w_ifS ?_ | refine ⟨_, _, rfl, ?_⟩ | refine ⟨_, rfl, ?_⟩ | refine ⟨by decide, ?_⟩ | refine ⟨_, _, eqS (by decide +kernel) (by decide +kernel), ?_⟩ | refine ⟨(by simp only [List.length_cons, List.length_nil]; decide), ?_⟩ | refine ⟨fun c => absurd c (by decide +kernel), fun _ => ?_⟩ | refine ⟨fun _ => ?_, fun c => absurd c (by decide +kernel)⟩))
    refine fin rfl ?_
    (repeat (first | (with_reducible first | refine w_v rfl ?_ | refine w_c ?_ | refine w_d2 ?_ | refine w_cons ?_ | refine w_nil ?_ | refine w_call ?_ | refine w_tup ?_ | refine w_tpn ?_ | refine w_lst ?_ | refine w_lstM ?_ | refine w_wk ?_ | refine w_frz ?_ | refine w_meth ?_ | refine w_test ?_ | refine w_notT ?_ | refine w_andT ?_ | refine w_orT ?_ | refine w_yes ?_ | refine w_and ?_ | refine w_or ?_ | refine w_not ?_ | refine w_if ?_ | refine w_ifS ?_ | refine w_seq ?_ | refine w_next ?_ | refine w_cnt ?_ | refine w_ret ?_ | refine w_expr ?_ | refine w_asg ?_ | refine w_par ?_ | refine w_F ?_ | refine w_Fp ?_ | refine w_itL ?_ | refine w_itT ?_ | refine w_itK ?_ | refine w_rng ?_ | refine w_neg ?_ | refine w_dput ?_ | refine w_newD ?_) | with_reducible refine w_then ?_ | refine ⟨_, _, rfl, ?_⟩ | refine ⟨_, rfl, ?_⟩ | refine ⟨by decide, ?_⟩ | refine ⟨_, _, eqS (by decide +kernel) (by decide +kernel), ?_⟩ | refine ⟨(by simp only [List.length_cons, List.length_nil]; decide), ?_⟩ | refine ⟨fun c => absurd c (by decide +kernel), fun _ => ?_⟩ | refine ⟨fun _ => ?_, fun c => absurd c (by decide +kernel)⟩))
    exact ⟨b3', Dr1.pl (mem_gh hln' hen').2⟩
  · (repeat (first | with_reducible first | refine w_v rfl ?_ | refine w_c ?_ | refine w_d2 ?_ | refine w_cons ?_ | refine w_nil ?_ | refine w_tup ?_ | refine w_lst ?_ | refine w_test ?_ | refine w_andT ?_ | refine w_ifS ?_ | refine ⟨_, _, rfl, ?_⟩ | refine ⟨_, rfl, ?_⟩ | refine ⟨by decide, ?_⟩ | refine ⟨_, _, eqS (by decide +kernel) (by decide +kernel), ?_⟩ | refine ⟨(by simp only [List.length_cons, List.length_nil]; decide), ?_⟩ | refine ⟨fun c => absurd c (by decide +kernel), fun _ => ?_⟩ | refine ⟨fun _ => ?_, fun c => absurd c (by decide +kernel)⟩))
    refine ⟨_, _, ono, true, rfl, fun _ => ?_, fun c => (by cases c)⟩
    refine fin rfl ?_
    (repeat (first | (with_reducible first | refine w_v rfl ?_ | refine w_c ?_ | refine w_d2 ?_ | refine w_cons ?_ | refine w_nil ?_ | refine w_call ?_ | refine w_tup ?_ | refine w_tpn ?_ | refine w_lst ?_ | refine w_lstM ?_ | refine w_wk ?_ | refine w_frz ?_ | refine w_meth ?_ | refine w_test ?_ | refine w_notT ?_ | refine w_andT ?_ | refine w_orT ?_ | refine w_yes ?_ | refine w_and ?_ | refine w_or ?_ | refine w_not ?_ | refine w_if ?_ | refine w_ifS ?_ | refine w_seq ?_ | refine w_next ?_ | refine w_cnt ?_ | refine w_ret ?_ | refine w_expr ?_ | refine w_asg ?_ | refine w_par ?_ | refine w_F ?_ | refine w_Fp ?_ | refine w_itL ?_ | refine w_itT ?_ | refine w_itK ?_ | refine w_rng ?_ | refine w_neg ?_ | refine w_dput ?_ | refine w_newD ?_) | with_reducible refine w_then ?_ | refine ⟨_, _, rfl, ?_⟩ | refine ⟨_, rfl, ?_⟩ | refine ⟨by decide, ?_⟩ | refine ⟨_, _, eqS (by decide +kernel) (by decide +kernel), ?_⟩ | refine ⟨(by simp only [List.length_cons, List.length_nil]; decide), ?_⟩ | refine ⟨fun c => absurd c (by decide +kernel), fun _ => ?_⟩ | refine ⟨fun _ => ?_, fun c => absurd c (by decide +kernel)⟩))
    refine w_of (goods := others.map .str) b3 (by omega) l0 l1 fun x o4 hx b4 => ?_
    obtain ⟨y, hy, rfl⟩ := xof hx
    (repeat (first | (with_reducible first | refine w_v rfl ?_ | refine w_c ?_ | refine w_d2 ?_ | refine w_cons ?_ | refine w_nil ?_ | refine w_call ?_ | refine w_tup ?_ | refine w_tpn ?_ | refine w_lst ?_ | refine w_lstM ?_ | refine w_wk ?_ | refine w_frz ?_ | refine w_meth ?_ | refine w_test ?_ | refine w_notT ?_ | refine w_andT ?_ | refine w_orT ?_ | refine w_yes ?_ | refine w_and ?_ | refine w_or ?_ | refine w_not ?_ | refine w_if ?_ | refine w_ifS ?_ | refine w_seq ?_ | refine w_next ?_ | refine w_cnt ?_ | refine w_ret ?_ | refine w_expr ?_ | refine w_asg ?_ | refine w_par ?_ | refine w_F ?_ | refine w_Fp ?_ | refine w_itL ?_ | refine w_itT ?_ | refine w_itK ?_ | refine w_rng ?_ | refine w_neg ?_ | refine w_dput ?_ | refine w_newD ?_) | with_reducible refine w_then ?_ | refine ⟨_, _, rfl, ?_⟩ | refine ⟨_, rfl, ?_⟩ | refine ⟨by decide, ?_⟩ | refine ⟨_, _, eqS (by decide +kernel) (by decide +kernel), ?_⟩ | refine ⟨(by simp only [List.length_cons, List.length_nil]; decide), ?_⟩ | refine ⟨fun c => absurd c (by decide +kernel), fun _ => ?_⟩ | refine ⟨fun _ => ?_, fun c => absurd c (by decide +kernel)⟩))
    exact ⟨b4.up (by omega), Dr1.jn on hy (by unfold Jn; exact List.mem_cons_of_mem _ (List.mem_map.mpr ⟨en, hen', rfl⟩))⟩
  · (repeat (first | with_reducible first | refine w_v rfl ?_ | refine w_c ?_ | refine w_d2 ?_ | refine w_cons ?_ | refine w_nil ?_ | refine w_tup ?_ | refine w_lst ?_ | refine w_test ?_ | refine w_andT ?_ | refine w_ifS ?_ | refine ⟨_, _, rfl, ?_⟩ | refine ⟨_, rfl, ?_⟩ | refine ⟨by decide, ?_⟩ | refine ⟨_, _, eqS (by decide +kernel) (by decide +kernel), ?_⟩ | refine ⟨(by simp only [List.length_cons, List.length_nil]; decide), ?_⟩ | refine ⟨fun c => absurd c (by decide +kernel), fun _ => ?_⟩ | refine ⟨fun _ => ?_, fun c => absurd c (by decide +kernel)⟩))
    refine ⟨_, _, ono, true, rfl, fun _ => ?_, fun c => (by cases c)⟩
    refine fin rfl ?_
    (repeat (first | (with_reducible first | refine w_v rfl ?_ | refine w_c ?_ | refine w_d2 ?_ | refine w_cons ?_ | refine w_nil ?_ | refine w_call ?_ | refine w_tup ?_ | refine w_tpn ?_ | refine w_lst ?_ | refine w_lstM ?_ | refine w_wk ?_ | refine w_frz ?_ | refine w_meth ?_ | refine w_test ?_ | refine w_notT ?_ | refine w_andT ?_ | refine w_orT ?_ | refine w_yes ?_ | refine w_and ?_ | refine w_or ?_ | refine w_not ?_ | refine w_if ?_ | refine w_ifS ?_ | refine w_seq ?_ | refine w_next ?_ | refine w_cnt ?_ | refine w_ret ?_ | refine w_expr ?_ | refine w_asg ?_ | refine w_par ?_ | refine w_F ?_ | refine w_Fp ?_ | refine w_itL ?_ | refine w_itT ?_ | refine w_itK ?_ | refine w_rng ?_ | refine w_neg ?_ | refine w_dput ?_ | refine w_newD ?_) | with_reducible refine w_then ?_ | refine ⟨_, _, rfl, ?_⟩ | refine ⟨_, rfl, ?_⟩ | refine ⟨by decide, ?_⟩ | refine ⟨_, _, eqS (by decide +kernel) (by decide +kernel), ?_⟩ | refine ⟨(by simp only [List.length_cons, List.length_nil]; decide), ?_⟩ | refine ⟨fun c => absurd c (by decide +kernel), fun _ => ?_⟩ | refine ⟨fun _ => ?_, fun c => absurd c (by decide +kernel)⟩))
    refine w_of (goods := others.map .str) b3 (by omega) l0 l1 fun x o4 hx b4 => ?_
    obtain ⟨y, hy, rfl⟩ := xof hx
    (repeat (first | (with_reducible first | refine w_v rfl ?_ | refine w_c ?_ | refine w_d2 ?_ | refine w_cons ?_ | refine w_nil ?_ | refine w_call ?_ | refine w_tup ?_ | refine w_tpn ?_ | refine w_lst ?_ | refine w_lstM ?_ | refine w_wk ?_ | refine w_frz ?_ | refine w_meth ?_ | refine w_test ?_ | refine w_notT ?_ | refine w_andT ?_ | refine w_orT ?_ | refine w_yes ?_ | refine w_and ?_ | refine w_or ?_ | refine w_not ?_ | refine w_if ?_ | refine w_ifS ?_ | refine w_seq ?_ | refine w_next ?_ | refine w_cnt ?_ | refine w_ret ?_ | refine w_expr ?_ | refine w_asg ?_ | refine w_par ?_ | refine w_F ?_ | refine w_Fp ?_ | refine w_itL ?_ | refine w_itT ?_ | refine w_itK ?_ | refine w_rng ?_ | refine w_neg ?_ | refine w_dput ?_ | refine w_newD ?_) | with_reducible refine w_then ?_ | refine ⟨_, _, rfl, ?_⟩ | refine ⟨_, rfl, ?_⟩ | refine ⟨by decide, ?_⟩ | refine ⟨_, _, eqS (by decide +kernel) (by decide +kernel), ?_⟩ | refine ⟨(by simp only [List.length_cons, List.length_nil]; decide), ?_⟩ | refine ⟨fun c => absurd c (by decide +kernel), fun _ => ?_⟩ | refine ⟨fun _ => ?_, fun c => absurd c (by decide +kernel)⟩))
    exact ⟨b4.up (by omega), Dr1.jn on hy (by unfold Jn; exact List.mem_cons_self)⟩
  · (repeat (first | with_reducible first | refine w_v rfl ?_ | refine w_c ?_ | refine w_d2 ?_ | refine w_cons ?_ | refine w_nil ?_ | refine w_tup ?_ | refine w_lst ?_ | refine w_test ?_ | refine w_andT ?_ | refine w_ifS ?_ | refine ⟨_, _, rfl, ?_⟩ | refine ⟨_, rfl, ?_⟩ | refine ⟨by decide, ?_⟩ | refine ⟨_, _, eqS (by decide +kernel) (by decide +kernel), ?_⟩ | refine ⟨(by simp only [List.length_cons, List.length_nil]; decide), ?_⟩ | refine ⟨fun c => absurd c (by decide +kernel), fun _ => ?_⟩ | refine ⟨fun _ => ?_, fun c => absurd c (by decide +kernel)⟩))
    refine fin rfl ?_
    (repeat (first | (with_reducible first | refine w_v rfl ?_ | refine w_c ?_ | refine w_d2 ?_ | refine w_cons ?_ | refine w_nil ?_ | refine w_call ?_ | refine w_tup ?_ | refine w_tpn ?_ | refine w_lst ?_ | refine w_lstM ?_ | refine w_wk ?_ | refine w_frz ?_ | refine w_meth ?_ | refine w_test ?_ | refine w_notT ?_ | refine w_andT ?_ | refine w_orT ?_ | refine w_yes ?_ | refine w_and ?_ | refine w_or ?_ | refine w_not ?_ | refine w_if ?_ | refine w_ifS ?_ | refine w_seq ?_ | refine w_next ?_ | refine w_cnt ?_ | refine w_ret ?_ | refine w_expr ?_ | refine w_asg ?_ | refine w_par ?_ | refine w_F ?_ | refine w_Fp ?_ | refine w_itL ?_ | refine w_itT ?_ | refine w_itK ?_ | refine w_rng ?_ | refine w_neg ?_ | refine w_dput ?_ | refine w_newD ?_) | with_reducible refine w_then ?_ | refine ⟨_, _, rfl, ?_⟩ | refine ⟨_, rfl, ?_⟩ | refine ⟨by decide, ?_⟩ | refine ⟨_, _, eqS (by decide +kernel) (by decide +kernel), ?_⟩ | refine ⟨(by simp only [List.length_cons, List.length_nil]; decide), ?_⟩ | refine ⟨fun c => absurd c (by decide +kernel), fun _ => ?_⟩ | refine ⟨fun _ => ?_, fun c => absurd c (by decide +kernel)⟩))
    refine w_take b3 (by omega) (by omega) (by omega) fun r o4 r0 r1 b4 => ?_
    (repeat (first | (with_reducible first | refine w_v rfl ?_ | refine w_c ?_ | refine w_d2 ?_ | refine w_cons ?_ | refine w_nil ?_ | refine w_call ?_ | refine w_tup ?_ | refine w_tpn ?_ | refine w_lst ?_ | refine w_lstM ?_ | refine w_wk ?_ | refine w_frz ?_ | refine w_meth ?_ | refine w_test ?_ | refine w_notT ?_ | refine w_andT ?_ | refine w_orT ?_ | refine w_yes ?_ | refine w_and ?_ | refine w_or ?_ | refine w_not ?_ | refine w_if ?_ | refine w_ifS ?_ | refine w_seq ?_ | refine w_next ?_ | refine w_cnt ?_ | refine w_ret ?_ | refine w_expr ?_ | refine w_asg ?_ | refine w_par ?_ | refine w_F ?_ | refine w_Fp ?_ | refine w_itL ?_ | refine w_itT ?_ | refine w_itK ?_ | refine w_rng ?_ | refine w_neg ?_ | refine w_dput ?_ | refine w_newD ?_) | with_reducible refine w_then ?_ | refine ⟨_, _, rfl, ?_⟩ | refine ⟨_, rfl, ?_⟩ | refine ⟨by decide, ?_⟩ | refine ⟨_, _, eqS (by decide +kernel) (by decide +kernel), ?_⟩ | refine ⟨(by simp only [List.length_cons, List.length_nil]; decide), ?_⟩ | refine ⟨fun c => absurd c (by decide +kernel), fun _ => ?_⟩ | refine ⟨fun _ => ?_, fun c => absurd c (by decide +kernel)⟩))
    have q : r = 0 ∨ r = 1 ∨ r = 2 := by omega
    rcases q with rfl | rfl | rfl
    · exact ⟨b4.up (by omega), Dr1.pl mem_rest.1⟩
    · exact ⟨b4.up (by omega), Dr1.pl mem_rest.2.1⟩
    · exact ⟨b4.up (by omega), Dr1.pl mem_rest.2.2.1⟩
  · (repeat (first | with_reducible first | refine w_v rfl ?_ | refine w_c ?_ | refine w_d2 ?_ | refine w_cons ?_ | refine w_nil ?_ | refine w_tup ?_ | refine w_lst ?_ | refine w_test ?_ | refine w_andT ?_ | refine w_ifS ?_ | refine ⟨_, _, rfl, ?_⟩ | refine ⟨_, rfl, ?_⟩ | refine ⟨by decide, ?_⟩ | refine ⟨_, _, eqS (by decide +kernel) (by decide +kernel), ?_⟩ | refine ⟨(by simp only [List.length_cons, List.length_nil]; decide), ?_⟩ | refine ⟨fun c => absurd c (by decide +kernel), fun _ => ?_⟩ | refine ⟨fun _ => ?_, fun c => absurd c (by decide +kernel)⟩))
    refine fin rfl ?_
    (repeat (first | (with_reducible first | refine w_v rfl ?_ | refine w_c ?_ | refine w_d2 ?_ | refine w_cons ?_ | refine w_nil ?_ | refine w_call ?_ | refine w_tup ?_ | refine w_tpn ?_ | refine w_lst ?_ | refine w_lstM ?_ | refine w_wk ?_ | refine w_frz ?_ | refine w_meth ?_ | refine w_test ?_ | refine w_notT ?_ | refine w_andT ?_ | refine w_orT ?_ | refine w_yes ?_ | refine w_and ?_ | refine w_or ?_ | refine w_not ?_ | refine w_if ?_ | refine w_ifS ?_ | refine w_seq ?_ | refine w_next ?_ | refine w_cnt ?_ | refine w_ret ?_ | refine w_expr ?_ | refine w_asg ?_ | refine w_par ?_ | refine w_F ?_ | refine w_Fp ?_ | refine w_itL ?_ | refine w_itT ?_ | refine w_itK ?_ | refine w_rng ?_ | refine w_neg ?_ | refine w_dput ?_ | refine w_newD ?_) | with_reducible refine w_then ?_ | refine ⟨_, _, rfl, ?_⟩ | refine ⟨_, rfl, ?_⟩ | refine ⟨by decide, ?_⟩ | refine ⟨_, _, eqS (by decide +kernel) (by decide +kernel), ?_⟩ | refine ⟨(by simp only [List.length_cons, List.length_nil]; decide), ?_⟩ | refine ⟨fun c => absurd c (by decide +kernel), fun _ => ?_⟩ | refine ⟨fun _ => ?_, fun c => absurd c (by decide +kernel)⟩))
    exact ⟨b3', Dr1.pl mem_rest.2.2.2.1⟩
  · (repeat (first | with_reducible first | refine w_v rfl ?_ | refine w_c ?_ | refine w_d2 ?_ | refine w_cons ?_ | refine w_nil ?_ | refine w_tup ?_ | refine w_lst ?_ | refine w_test ?_ | refine w_andT ?_ | refine w_ifS ?_ | refine ⟨_, _, rfl, ?_⟩ | refine ⟨_, rfl, ?_⟩ | refine ⟨by decide, ?_⟩ | refine ⟨_, _, eqS (by decide +kernel) (by decide +kernel), ?_⟩ | refine ⟨(by simp only [List.length_cons, List.length_nil]; decide), ?_⟩ | refine ⟨fun c => absurd c (by decide +kernel), fun _ => ?_⟩ | refine ⟨fun _ => ?_, fun c => absurd c (by decide +kernel)⟩))
    refine fin rfl ?_
    (repeat (first | (with_reducible first | refine w_v rfl ?_ | refine w_c ?_ | refine w_d2 ?_ | refine w_cons ?_ | refine w_nil ?_ | refine w_call ?_ | refine w_tup ?_ | refine w_tpn ?_ | refine w_lst ?_ | refine w_lstM ?_ | refine w_wk ?_ | refine w_frz ?_ | refine w_meth ?_ | refine w_test ?_ | refine w_notT ?_ | refine w_andT ?_ | refine w_orT ?_ | refine w_yes ?_ | refine w_and ?_ | refine w_or ?_ | refine w_not ?_ | refine w_if ?_ | refine w_ifS ?_ | refine w_seq ?_ | refine w_next ?_ | refine w_cnt ?_ | refine w_ret ?_ | refine w_expr ?_ | refine w_asg ?_ | refine w_par ?_ | refine w_F ?_ | refine w_Fp ?_ | refine w_itL ?_ | refine w_itT ?_ | refine w_itK ?_ | refine w_rng ?_ | refine w_neg ?_ | refine w_dput ?_ | refine w_newD ?_) | with_reducible refine w_then ?_ | refine ⟨_, _, rfl, ?_⟩ | refine ⟨_, rfl, ?_⟩ | refine ⟨by decide, ?_⟩ | refine ⟨_, _, eqS (by decide +kernel) (by decide +kernel), ?_⟩ | refine ⟨(by simp only [List.length_cons, List.length_nil]; decide), ?_⟩ | refine ⟨fun c => absurd c (by decide +kernel), fun _ => ?_⟩ | refine ⟨fun _ => ?_, fun c => absurd c (by decide +kernel)⟩))
    refine w_of (goods := [.str "v", .str "w"]) b3 (by omega) (by decide) (by decide) fun x o4 hx b4 => ?_
    (repeat (first | (with_reducible first | refine w_v rfl ?_ | refine w_c ?_ | refine w_d2 ?_ | refine w_cons ?_ | refine w_nil ?_ | refine w_call ?_ | refine w_tup ?_ | refine w_tpn ?_ | refine w_lst ?_ | refine w_lstM ?_ | refine w_wk ?_ | refine w_frz ?_ | refine w_meth ?_ | refine w_test ?_ | refine w_notT ?_ | refine w_andT ?_ | refine w_orT ?_ | refine w_yes ?_ | refine w_and ?_ | refine w_or ?_ | refine w_not ?_ | refine w_if ?_ | refine w_ifS ?_ | refine w_seq ?_ | refine w_next ?_ | refine w_cnt ?_ | refine w_ret ?_ | refine w_expr ?_ | refine w_asg ?_ | refine w_par ?_ | refine w_F ?_ | refine w_Fp ?_ | refine w_itL ?_ | refine w_itT ?_ | refine w_itK ?_ | refine w_rng ?_ | refine w_neg ?_ | refine w_dput ?_ | refine w_newD ?_) | with_reducible refine w_then ?_ | refine ⟨_, _, rfl, ?_⟩ | refine ⟨_, rfl, ?_⟩ | refine ⟨by decide, ?_⟩ | refine ⟨_, _, eqS (by decide +kernel) (by decide +kernel), ?_⟩ | refine ⟨(by simp only [List.length_cons, List.length_nil]; decide), ?_⟩ | refine ⟨fun c => absurd c (by decide +kernel), fun _ => ?_⟩ | refine ⟨fun _ => ?_, fun c => absurd c (by decide +kernel)⟩))
    simp only [List.mem_cons, List.not_mem_nil, or_false] at hx
    rcases hx with rfl | rfl
    · exact ⟨b4.up (by omega), Dr1.pl mem_rest.2.2.2.2.1⟩
    · exact ⟨b4.up (by omega), Dr1.pl mem_rest.2.2.2.2.2⟩
  · (repeat (first | with_reducible first | refine w_v rfl ?_ | refine w_c ?_ | refine w_d2 ?_ | refine w_cons ?_ | refine w_nil ?_ | refine w_tup ?_ | refine w_lst ?_ | refine w_test ?_ | refine w_andT ?_ | refine w_ifS ?_ | refine ⟨_, _, rfl, ?_⟩ | refine ⟨_, rfl, ?_⟩ | refine ⟨by decide, ?_⟩ | refine ⟨_, _, eqS (by decide +kernel) (by decide +kernel), ?_⟩ | refine ⟨(by simp only [List.length_cons, List.length_nil]; decide), ?_⟩ | refine ⟨fun c => absurd c (by decide +kernel), fun _ => ?_⟩ | refine ⟨fun _ => ?_, fun c => absurd c (by decide +kernel)⟩))
    refine fin rfl ?_
    (repeat (first | (with_reducible first | refine w_v rfl ?_ | refine w_c ?_ | refine w_d2 ?_ | refine w_cons ?_ | refine w_nil ?_ | refine w_call ?_ | refine w_tup ?_ | refine w_tpn ?_ | refine w_lst ?_ | refine w_lstM ?_ | refine w_wk ?_ | refine w_frz ?_ | refine w_meth ?_ | refine w_test ?_ | refine w_notT ?_ | refine w_andT ?_ | refine w_orT ?_ | refine w_yes ?_ | refine w_and ?_ | refine w_or ?_ | refine w_not ?_ | refine w_if ?_ | refine w_ifS ?_ | refine w_seq ?_ | refine w_next ?_ | refine w_cnt ?_ | refine w_ret ?_ | refine w_expr ?_ | refine w_asg ?_ | refine w_par ?_ | refine w_F ?_ | refine w_Fp ?_ | refine w_itL ?_ | refine w_itT ?_ | refine w_itK ?_ | refine w_rng ?_ | refine w_neg ?_ | refine w_dput ?_ | refine w_newD ?_) | with_reducible refine w_then ?_ | refine ⟨_, _, rfl, ?_⟩ | refine ⟨_, rfl, ?_⟩ | refine ⟨by decide, ?_⟩ | refine ⟨_, _, eqS (by decide +kernel) (by decide +kernel), ?_⟩ | refine ⟨(by simp only [List.length_cons, List.length_nil]; decide), ?_⟩ | refine ⟨fun c => absurd c (by decide +kernel), fun _ => ?_⟩ | refine ⟨fun _ => ?_, fun c => absurd c (by decide +kernel)⟩))
    exact ⟨b3', Dr1.pl (mem_gh hln' hen').1⟩
  · (repeat (first | with_reducible first | refine w_v rfl ?_ | refine w_c ?_ | refine w_d2 ?_ | refine w_cons ?_ | refine w_nil ?_ | refine w_tup ?_ | refine w_lst ?_ | refine w_test ?_ | refine w_andT ?_ | refine w_ifS ?_ | refine ⟨_, _, rfl, ?_⟩ | refine ⟨_, rfl, ?_⟩ | refine ⟨by decide, ?_⟩ | refine ⟨_, _, eqS (by decide +kernel) (by decide +kernel), ?_⟩ | refine ⟨(by simp only [List.length_cons, List.length_nil]; decide), ?_⟩ | refine ⟨fun c => absurd c (by decide +kernel), fun _ => ?_⟩ | refine ⟨fun _ => ?_, fun c => absurd c (by decide +kernel)⟩))
    refine fin rfl ?_
    (repeat (first | (with_reducible first | refine w_v rfl ?_ | refine w_c ?_ | refine w_d2 ?_ | refine w_cons ?_ | refine w_nil ?_ | refine w_call ?_ | refine w_tup ?_ | refine w_tpn ?_ | refine w_lst ?_ | refine w_lstM ?_ | refine w_wk ?_ | refine w_frz ?_ | refine w_meth ?_ | refine w_test ?_ | refine w_notT ?_ | refine w_andT ?_ | refine w_orT ?_ | refine w_yes ?_ | refine w_and ?_ | refine w_or ?_ | refine w_not ?_ | refine w_if ?_ | refine w_ifS ?_ | refine w_seq ?_ | refine w_next ?_ | refine w_cnt ?_ | refine w_ret ?_ | refine w_expr ?_ | refine w_asg ?_ | refine w_par ?_ | refine w_F ?_ | refine w_Fp ?_ | refine w_itL ?_ | refine w_itT ?_ | refine w_itK ?_ | refine w_rng ?_ | refine w_neg ?_ | refine w_dput ?_ | refine w_newD ?_) | with_reducible refine w_then ?_ | refine ⟨_, _, rfl, ?_⟩ | refine ⟨_, rfl, ?_⟩ | refine ⟨by decide, ?_⟩ | refine ⟨_, _, eqS (by decide +kernel) (by decide +kernel), ?_⟩ | refine ⟨(by simp only [List.length_cons, List.length_nil]; decide), ?_⟩ | refine ⟨fun c => absurd c (by decide +kernel), fun _ => ?_⟩ | refine ⟨fun _ => ?_, fun c => absurd c (by decide +kernel)⟩))
    exact ⟨b3', Dr1.pl (mem_ps hln').1⟩
  · (repeat (first | with_reducible first | refine w_v rfl ?_ | refine w_c ?_ | refine w_d2 ?_ | refine w_cons ?_ | refine w_nil ?_ | refine w_tup ?_ | refine w_lst ?_ | refine w_test ?_ | refine w_andT ?_ | refine w_ifS ?_ | refine ⟨_, _, rfl, ?_⟩ | refine ⟨_, rfl, ?_⟩ | refine ⟨by decide, ?_⟩ | refine ⟨_, _, eqS (by decide +kernel) (by decide +kernel), ?_⟩ | refine ⟨(by simp only [List.length_cons, List.length_nil]; decide), ?_⟩ | refine ⟨fun c => absurd c (by decide +kernel), fun _ => ?_⟩ | refine ⟨fun _ => ?_, fun c => absurd c (by decide +kernel)⟩))
    refine w_call (w_cons (w_v rfl (w_nil ⟨.int row.length, o3 :: (t ++ e), ?_, ?_⟩)))
    · unfold lenP
      simp only [lkE hj]
    refine w_c ⟨_, _, rfl, w_v rfl ⟨_, _, rfl, _, rfl, fun c => ?_, fun c => ?_⟩⟩
    · have hle : row.length + 3 ≤ room := by
        have := of_decide_eq_true c
        omega
      have et : row.take room = row := List.take_of_length_le (by omega)
      refine w_asg (w_d2 ?_)
      (repeat (first | (with_reducible first | refine w_v rfl ?_ | refine w_c ?_ | refine w_d2 ?_ | refine w_cons ?_ | refine w_nil ?_ | refine w_call ?_ | refine w_tup ?_ | refine w_tpn ?_ | refine w_lst ?_ | refine w_lstM ?_ | refine w_wk ?_ | refine w_frz ?_ | refine w_meth ?_ | refine w_test ?_ | refine w_notT ?_ | refine w_andT ?_ | refine w_orT ?_ | refine w_yes ?_ | refine w_and ?_ | refine w_or ?_ | refine w_not ?_ | refine w_if ?_ | refine w_ifS ?_ | refine w_seq ?_ | refine w_next ?_ | refine w_cnt ?_ | refine w_ret ?_ | refine w_expr ?_ | refine w_asg ?_ | refine w_par ?_ | refine w_F ?_ | refine w_Fp ?_ | refine w_itL ?_ | refine w_itT ?_ | refine w_itK ?_ | refine w_rng ?_ | refine w_neg ?_ | refine w_dput ?_ | refine w_newD ?_) | with_reducible refine w_then ?_ | refine ⟨_, _, rfl, ?_⟩ | refine ⟨_, rfl, ?_⟩ | refine ⟨by decide, ?_⟩ | refine ⟨_, _, eqS (by decide +kernel) (by decide +kernel), ?_⟩ | refine ⟨(by simp only [List.length_cons, List.length_nil]; decide), ?_⟩ | refine ⟨fun c => absurd c (by decide +kernel), fun _ => ?_⟩ | refine ⟨fun _ => ?_, fun c => absurd c (by decide +kernel)⟩))
      refine ⟨.ref (t.length + 1 + e.length), o3 :: (t ++ (e ++ [O.lst (row ++ [inD1, .tup [.str "put", ln], outD1])])), ?_, ?_⟩
      · unfold catP lonly
        simp only [lkE hj]
        rw [if_pos (by simp; omega)]
        unfold newL
        rw [if_pos (by simp; omega)]
        have e1 : (o3 :: (t ++ e)).length = t.length + 1 + e.length := by simp; omega
        rw [e1]
        simp [inD1, outD1]
      refine ⟨_, _, rfl, _, .inl rfl, o3, _, e.length, row ++ [inD1, .tup [.str "put", ln], outD1], _, _, _, _, rfl, b3', by simp, ?_, by simp; omega, rfl⟩
      rw [List.take_of_length_le (by simp; omega)]
      rw [et] at hr
      exact hr.three hln'
    · refine fin rfl ?_
      (repeat (first | (with_reducible first | refine w_v rfl ?_ | refine w_c ?_ | refine w_d2 ?_ | refine w_cons ?_ | refine w_nil ?_ | refine w_call ?_ | refine w_tup ?_ | refine w_tpn ?_ | refine w_lst ?_ | refine w_lstM ?_ | refine w_wk ?_ | refine w_frz ?_ | refine w_meth ?_ | refine w_test ?_ | refine w_notT ?_ | refine w_andT ?_ | refine w_orT ?_ | refine w_yes ?_ | refine w_and ?_ | refine w_or ?_ | refine w_not ?_ | refine w_if ?_ | refine w_ifS ?_ | refine w_seq ?_ | refine w_next ?_ | refine w_cnt ?_ | refine w_ret ?_ | refine w_expr ?_ | refine w_asg ?_ | refine w_par ?_ | refine w_F ?_ | refine w_Fp ?_ | refine w_itL ?_ | refine w_itT ?_ | refine w_itK ?_ | refine w_rng ?_ | refine w_neg ?_ | refine w_dput ?_ | refine w_newD ?_) | with_reducible refine w_then ?_ | refine ⟨_, _, rfl, ?_⟩ | refine ⟨_, rfl, ?_⟩ | refine ⟨by decide, ?_⟩ | refine ⟨_, _, eqS (by decide +kernel) (by decide +kernel), ?_⟩ | refine ⟨(by simp only [List.length_cons, List.length_nil]; decide), ?_⟩ | refine ⟨fun c => absurd c (by decide +kernel), fun _ => ?_⟩ | refine ⟨fun _ => ?_, fun c => absurd c (by decide +kernel)⟩))
      exact ⟨b3', Dr1.pl mem_rest.2.2.2.1⟩
end K01

namespace K01
open PySem PySem.Spec PyProof.Rows L2 Tw
section
variable {G : List O} {ρ : En} {a : En → M D} {lo hi : En → M (Option Int)} {Q : D → List O → Prop} {Qi : Option Int → List O → Prop}
theorem w_sl (h : WP (a ρ) G fun d G1 => WP (lo ρ) G1 fun l G2 => WP (hi ρ) G2 fun h G3 => ∃ x, slO d l h G3 = some x ∧ Q x G3) : WP (dSl a lo hi ρ) G Q :=
  WP.bnd (h.imp fun d G1 h1 => WP.bnd (h1.imp fun l G2 h2 => WP.bnd (h2.imp fun hh G3 ⟨x, e, q⟩ => WP.lft (by unfold slP; rw [e]) q)))
theorem w_noP (q : Qi none G) : WP (dNoP ρ) G Qi := WP.ret q
theorem w_P (h : WP (a ρ) G fun d G1 => ∃ i, intO d = some i ∧ Qi (some i) G1) : WP (dP a ρ) G Qi := WP.bnd (h.imp fun d G1 ⟨i, e, q⟩ => WP.bnd (WP.pur e (WP.ret q)))
end
theorem cut_take (xs : List D) (n : Nat) : Tw.cutD xs none (some (n : Int)) = xs.take n := by
  unfold Tw.cutD
  have h1 : HT.sIx xs.length 0 none = 0 := rfl
  rw [h1]
  have h2 : HT.sIx xs.length xs.length (some (n : Int)) = min n xs.length := HT.sIx_nat _ _ _
  rw [h2]
  simp only [List.drop_zero, Nat.sub_zero]
  by_cases h : n ≤ xs.length
  · rw [Nat.min_eq_left h]
  · rw [Nat.min_eq_right (by omega), List.take_of_length_le (Nat.le_refl _), List.take_of_length_le (by omega)]
theorem cut_drop (xs : List D) (n : Nat) : Tw.cutD xs (some (n : Int)) none = xs.drop n := by
  unfold Tw.cutD
  have h2 : HT.sIx xs.length xs.length none = xs.length := rfl
  have h1 : HT.sIx xs.length 0 (some (n : Int)) = min n xs.length := HT.sIx_nat _ _ _
  rw [h1, h2]
  by_cases h : n ≤ xs.length
  · rw [Nat.min_eq_left h, List.take_of_length_le (by simp)]
  · rw [Nat.min_eq_right (by omega), List.drop_of_length_le (Nat.le_refl _), List.drop_of_length_le (by omega)]
    simp
theorem w_script {n : Int} {others : List Str} {room : Nat} {o : O} {t : List O} {Q : D → List O → Prop} (hn : n ≤ 800) (hn0 : 0 ≤ n) (hr : room ≤ 10) (on : ∀ x ∈ others, x ∈ names5) (o0 : others ≠ []) (ol : others.length ≤ 5) (b : BX n o)
    (q : ∀ row o' e, DrS others row → row.length ≤ room → BX (n + 41) o' → Q (.tup row) (o' :: (t ++ e))) : WP (F_l_script [.ref 0, .lst (others.map .str), .int 3, .int room]) (o :: t) Q := by
  refine w_run ?_
  unfold ds_l_script
  refine w_seq (w_par (w_cons (w_lstM (w_nil ⟨by decide, ?_⟩))))
  (repeat (first | (with_reducible first | refine w_v rfl ?_ | refine w_c ?_ | refine w_d2 ?_ | refine w_cons ?_ | refine w_nil ?_ | refine w_call ?_ | refine w_tup ?_ | refine w_tpn ?_ | refine w_lst ?_ | refine w_lstM ?_ | refine w_wk ?_ | refine w_frz ?_ | refine w_meth ?_ | refine w_test ?_ | refine w_notT ?_ | refine w_andT ?_ | refine w_orT ?_ | refine w_yes ?_ | refine w_and ?_ | refine w_or ?_ | refine w_not ?_ | refine w_if ?_ | refine w_ifS ?_ | refine w_seq ?_ | refine w_next ?_ | refine w_cnt ?_ | refine w_ret ?_ | refine w_expr ?_ | refine w_asg ?_ | refine w_par ?_ | refine w_F ?_ | refine w_Fp ?_ | refine w_itL ?_ | refine w_itT ?_ | refine w_itK ?_ | refine w_rng ?_ | refine w_neg ?_ | refine w_dput ?_ | refine w_newD ?_) | with_reducible refine w_then ?_ | refine ⟨_, _, rfl, ?_⟩ | refine ⟨_, rfl, ?_⟩ | refine ⟨by decide, ?_⟩ | refine ⟨_, _, eqS (by decide +kernel) (by decide +kernel), ?_⟩ | refine ⟨(by simp only [List.length_cons, List.length_nil]; decide), ?_⟩ | refine ⟨fun c => absurd c (by decide +kernel), fun _ => ?_⟩ | refine ⟨fun _ => ?_, fun c => absurd c (by decide +kernel)⟩))
  have e1 : (o :: t).length = t.length + 1 + 0 := by simp
  have e2 : o :: t ++ [O.lst []] = o :: (t ++ [O.lst []]) := by simp
  rw [e1, e2]
  refine w_for ?_
  (repeat (first | (with_reducible first | refine w_v rfl ?_ | refine w_c ?_ | refine w_d2 ?_ | refine w_cons ?_ | refine w_nil ?_ | refine w_call ?_ | refine w_tup ?_ | refine w_tpn ?_ | refine w_lst ?_ | refine w_lstM ?_ | refine w_wk ?_ | refine w_frz ?_ | refine w_meth ?_ | refine w_test ?_ | refine w_notT ?_ | refine w_andT ?_ | refine w_orT ?_ | refine w_yes ?_ | refine w_and ?_ | refine w_or ?_ | refine w_not ?_ | refine w_if ?_ | refine w_ifS ?_ | refine w_seq ?_ | refine w_next ?_ | refine w_cnt ?_ | refine w_ret ?_ | refine w_expr ?_ | refine w_asg ?_ | refine w_par ?_ | refine w_F ?_ | refine w_Fp ?_ | refine w_itL ?_ | refine w_itT ?_ | refine w_itK ?_ | refine w_rng ?_ | refine w_neg ?_ | refine w_dput ?_ | refine w_newD ?_) | with_reducible refine w_then ?_ | refine ⟨_, _, rfl, ?_⟩ | refine ⟨_, rfl, ?_⟩ | refine ⟨by decide, ?_⟩ | refine ⟨_, _, eqS (by decide +kernel) (by decide +kernel), ?_⟩ | refine ⟨(by simp only [List.length_cons, List.length_nil]; decide), ?_⟩ | refine ⟨fun c => absurd c (by decide +kernel), fun _ => ?_⟩ | refine ⟨fun _ => ?_, fun c => absurd c (by decide +kernel)⟩))
  refine w_take b (by omega) (by omega) (by omega) fun r o1 r0 r1 b1 => ?_
  (repeat (first | (with_reducible first | refine w_v rfl ?_ | refine w_c ?_ | refine w_d2 ?_ | refine w_cons ?_ | refine w_nil ?_ | refine w_call ?_ | refine w_tup ?_ | refine w_tpn ?_ | refine w_lst ?_ | refine w_lstM ?_ | refine w_wk ?_ | refine w_frz ?_ | refine w_meth ?_ | refine w_test ?_ | refine w_notT ?_ | refine w_andT ?_ | refine w_orT ?_ | refine w_yes ?_ | refine w_and ?_ | refine w_or ?_ | refine w_not ?_ | refine w_if ?_ | refine w_ifS ?_ | refine w_seq ?_ | refine w_next ?_ | refine w_cnt ?_ | refine w_ret ?_ | refine w_expr ?_ | refine w_asg ?_ | refine w_par ?_ | refine w_F ?_ | refine w_Fp ?_ | refine w_itL ?_ | refine w_itT ?_ | refine w_itK ?_ | refine w_rng ?_ | refine w_neg ?_ | refine w_dput ?_ | refine w_newD ?_) | with_reducible refine w_then ?_ | refine ⟨_, _, rfl, ?_⟩ | refine ⟨_, rfl, ?_⟩ | refine ⟨by decide, ?_⟩ | refine ⟨_, _, eqS (by decide +kernel) (by decide +kernel), ?_⟩ | refine ⟨(by simp only [List.length_cons, List.length_nil]; decide), ?_⟩ | refine ⟨fun c => absurd c (by decide +kernel), fun _ => ?_⟩ | refine ⟨fun _ => ?_, fun c => absurd c (by decide +kernel)⟩))
  have em2 : ∃ m : Int, min2 (room : Int) r = m ∧ 0 ≤ m ∧ m ≤ 10 := by
    refine ⟨_, rfl, ?_⟩
    unfold min2
    split <;> omega
  obtain ⟨m, em, m0, m1⟩ := em2
  refine ⟨rngD 0 m.toNat, ?_, ?_⟩
  · rw [em]
    unfold rng1
    dsimp only
    rw [smallR m0 (by omega)]
    rfl
  refine w_loop (fun ds ρ G => ScI (n + 1 + 4 * (10 - ds.length)) others room t ρ G ∧ ds.length ≤ 10) ?_ _ _ _ ⟨⟨o1, [O.lst []], 0, [], none, none, none, none, rfl, b1.up ?_, rfl, ?_, ?_, rfl⟩, ?_⟩ ?_
  · rintro d r ρ G ⟨⟨o', e, j, row, u6, u7, u8, u9, rfl, b', hj, hd, hl, rfl⟩, hz⟩
    simp only [List.length_cons] at b' hl hz
    refine ⟨[some (.ref 0), some (.lst (others.map .str)), some (.int 3), some (.int room), some (.ref (t.length + 1 + j)), some (.lst words12), some d, u7, u8, u9], _, rfl, ?_⟩
    refine (script_step (u6 := none) (by omega) on o0 ol b' hj hd hl).imp fun o2 G2 ⟨ρ2, h1, h2⟩ => ⟨ρ2, h1, ?_, by omega⟩
    obtain ⟨o', e, j, row, u6, u7, u8, u9, eG, b2, hj2, hd2, hl2, eρ⟩ := h2
    exact ⟨o', e, j, row, u6, u7, u8, u9, eG, b2.up (by omega), hj2, hd2, by omega, eρ⟩
  · simp [rngD]
    omega
  · rw [List.take_nil]
    exact DrS.nil
  · simp [rngD]
    omega
  · simp [rngD]
    omega
  · rintro ρ G ⟨⟨o', e, j, row, u6, u7, u8, u9, rfl, b', hj, hd, hl, rfl⟩, hz⟩
    refine w_then (w_ret (w_call (w_cons (w_sl (w_v rfl (w_noP (w_P (w_v rfl ⟨_, rfl, .lst (row.take room), ?_, ?_⟩))))))))
    · unfold slO
      simp only [lkE hj]
      rw [cut_take]
    · refine w_nil ⟨.tup (row.take room), _, rfl, _, rfl, q _ _ _ hd (by rw [List.length_take]; omega) (b'.up ?_)⟩
      simp
      omega
end K01

namespace K01
open PySem PySem.Spec PyProof.Rows L2 Tw
/-! ### drawn names -/
def unS : D → Str
  | .str x => x
  | _ => ""
structure Tg (tags : List Str) : Prop where
  mem : ∀ x ∈ tags, x ∈ names5
  nd : tags.Nodup
  srt : tags.Pairwise fun a b => leC a b = true
  lo : 2 ≤ tags.length
  hi : tags.length ≤ 4
theorem strs_map : ∀ ws : List Str, strsO (ws.map .str) = some ws
  | [] => rfl
  | w :: ws => by simp [strsO, strs_map ws]
theorem tags_of {found pool : List D} (hp : (found ++ pool).Perm (names5.map D.str)) (h2 : 2 ≤ found.length) (h4 : found.length ≤ 4) : ∃ fs, found = fs.map D.str ∧ Tg (sortS fs) := by
  have hs : ∀ d ∈ found, d = .str (unS d) := fun d hd => by
    obtain ⟨x, _, rfl⟩ := List.mem_map.mp (hp.mem_iff.mp (List.mem_append_left _ hd))
    rfl
  have hp2 : ((found ++ pool).map unS).Perm names5 := by
    have := hp.map unS
    rw [List.map_map] at this
    have e : (names5.map (unS ∘ D.str)) = names5 := by simp [Function.comp_def, unS]
    rw [e] at this
    exact this
  refine ⟨found.map unS, ?_, ?_⟩
  · rw [List.map_map]
    conv => lhs; rw [← List.map_id found]
    exact List.map_congr_left hs
  have nd5 : names5.Nodup := by decide +kernel
  have ps := sortS_perm (found.map unS)
  rw [List.map_append] at hp2
  have ndA := hp2.nodup_iff.mpr nd5
  refine ⟨fun x hx => hp2.mem_iff.mp (List.mem_append_left _ (ps.mem_iff.mp hx)), ps.nodup_iff.mpr (List.nodup_append.mp ndA).1, sortS_srt _, by rw [ps.length_eq, List.length_map]; exact h2, by rw [ps.length_eq, List.length_map]; exact h4⟩
theorem leC_lt {a b : Str} (h : leC a b = true) (ne : a ≠ b) : ltN a b = true := by
  unfold ltN ltS
  rw [← ltCps_eq]
  cases e : ltCps a.cps.toList b.cps.toList with
  | true => rfl
  | false =>
    have h2 : leC b a = true := by unfold leC; rw [e]; rfl
    exact absurd (str_of_tri h h2) ne
theorem asc_of {ns : List Str} (nd : ns.Nodup) (srt : ns.Pairwise fun a b => leC a b = true) : asc ns = true := by
  unfold asc
  rw [List.all_eq_true]
  intro i hi
  have hi2 := List.mem_range.mp hi
  obtain ⟨a, ha⟩ : ∃ a, ns[i]? = some a := ⟨_, List.getElem?_eq_getElem (by omega)⟩
  obtain ⟨b, hb⟩ : ∃ b, ns[i + 1]? = some b := ⟨_, List.getElem?_eq_getElem (by omega)⟩
  rw [List.getD_eq_getElem?_getD, List.getD_eq_getElem?_getD, ha, hb]
  obtain ⟨l1, e1⟩ := List.getElem?_eq_some_iff.mp ha
  obtain ⟨l2, e2⟩ := List.getElem?_eq_some_iff.mp hb
  have hl := List.pairwise_iff_getElem.mp srt i (i + 1) l1 l2 (by omega)
  have hn := List.pairwise_iff_getElem.mp nd i (i + 1) l1 l2 (by omega)
  rw [e1, e2] at hl hn
  exact leC_lt hl hn
/-- twice the same: not ascending -/
theorem asc_no {ns : List Str} {x : Str} (nd : ns.Nodup) (srt : ns.Pairwise fun a b => leC a b = true) (hx : x ∈ ns) : asc (ns ++ [x]) = false := by
  have h0 : 0 < ns.length := List.length_pos_of_mem hx
  unfold asc
  rw [List.all_eq_false]
  refine ⟨ns.length - 1, by simp; omega, ?_⟩
  obtain ⟨a, ha⟩ : ∃ a, ns[ns.length - 1]? = some a := ⟨_, List.getElem?_eq_getElem (by omega)⟩
  have e1 : (ns ++ [x])[ns.length - 1]? = some a := by rw [List.getElem?_append_left (by omega), ha]
  have e2 : (ns ++ [x])[ns.length - 1 + 1]? = some x := by
    rw [List.getElem?_append_right (by omega)]
    have : ns.length - 1 + 1 - ns.length = 0 := by omega
    rw [this]
    rfl
  rw [List.getD_eq_getElem?_getD, List.getD_eq_getElem?_getD, e1, e2]
  intro h
  have hlt : ltCps a.cps.toList x.cps.toList = true := by
    rw [ltCps_eq]
    exact h
  obtain ⟨i, hi, e⟩ := List.mem_iff_getElem.mp hx
  obtain ⟨l1, ea⟩ := List.getElem?_eq_some_iff.mp ha
  by_cases hie : i = ns.length - 1
  · subst hie
    rw [ea] at e
    subst e
    rw [ltCps_eq] at hlt
    exact absurd (of_decide_eq_true hlt) (List.lt_irrefl _)
  · have hl := List.pairwise_iff_getElem.mp srt i (ns.length - 1) hi l1 (by omega)
    rw [e, ea] at hl
    unfold leC at hl
    rw [hlt] at hl
    cases hl
/-! ### some of a row of names -/
theorem w_sub {l : List Str} {P : Str → Prop} {n : Int} {di : En → M (List D)} {T : En → M Bool} {ρ : En} {o : O} {e : List O} {i : Nat} {Q : D → List O → Prop} (hi : i < ρ.length) (hz : l.length ≤ 10)
    (hd : WP (di ρ) (o :: e) fun es G => es = l.map D.str ∧ G = o :: e) (b : BX n o)
    (hT : ∀ x ∈ l, ∀ o1 m, m ≤ n + l.length → BX m o1 → WP (T ((wipeD ρ [i]).set i (some (.str x)))) (o1 :: e) fun c G => ∃ o2, G = o2 :: e ∧ BX (m + 1) o2 ∧ (c = true → P x))
    (q : ∀ (cs : List Str) (o' : O), cs.Sublist l → (∀ x ∈ cs, P x) → BX (n + l.length) o' → Q (.lst (cs.map .str)) (o' :: e)) : WP (dLc di (gN i) T (dV i) [i] ρ) (o :: e) Q := by
  have mz : (10 : Nat) ≤ mx := by decide
  refine w_lc (fun ds ys G => ∃ (ps rs cs : List Str) (o' : O), l = ps ++ rs ∧ ds = rs.map D.str ∧ ys = cs.map D.str ∧ cs.Sublist ps ∧ (∀ x ∈ cs, P x) ∧ G = o' :: e ∧ BX (n + ps.length) o') ?_ ?_ ?_
  · refine hd.imp fun es G ⟨h1, h2⟩ => ?_
    exact ⟨[], l, [], o, rfl, h1, rfl, List.Sublist.refl _, fun x h => absurd h (by simp), h2, by simpa using b⟩
  · rintro d r ys G ⟨ps, rs, cs, o', hl, hds, rfl, hsub, hP, rfl, b'⟩
    cases rs with
    | nil => cases hds
    | cons x rs =>
      cases hds
      have hlen := congrArg List.length hl
      simp only [List.length_append, List.length_cons] at hlen
      refine ⟨_, _, rfl, (hT x (by rw [hl]; simp) o' _ (by omega) b').imp fun c G2 ⟨o2, h1, h2, h3⟩ => ?_⟩
      subst h1
      have b2 : BX (n + (ps ++ [x]).length) o2 := h2.up (by simp; omega)
      refine ⟨fun hc => w_v (d := .str x) ?_ ⟨ps ++ [x], rs, cs ++ [x], o2, by rw [hl]; simp, rfl, by simp, hsub.append (List.Sublist.refl _), ?_, rfl, b2⟩, fun _ => ⟨ps ++ [x], rs, cs, o2, by rw [hl]; simp, rfl, rfl, hsub.trans (List.sublist_append_left _ _), hP, rfl, b2⟩⟩
      · rw [List.getElem?_set_self]
        simp [wipeD]
        exact hi
      · intro y hy
        rcases List.mem_append.mp hy with hy | hy
        · exact hP y hy
        · rw [List.mem_singleton.mp hy]; exact h3 hc
  · rintro ys G ⟨ps, rs, cs, o', hl, hds, rfl, hsub, hP, rfl, b'⟩
    have : rs = [] := by cases rs with | nil => rfl | cons => cases hds
    subst this
    rw [List.append_nil] at hl
    subst hl
    refine ⟨?_, q cs o' hsub hP b'⟩
    rw [List.length_map]
    exact Nat.le_trans hsub.length_le (by omega)
end K01

namespace K01
open PySem PySem.Spec PyProof.Rows L2 Tw
/-! ### drawn houses -/
def startD (x : Str) : D := .tup [.str "start", .str x]
def shutD (w : Str) : D := .tup [.str w, .str "g"]
/-- the first task's script: starts, a drawn one, a step that shuts within it -/
def First (others crowd begun : List Str) (s : List D) : Prop := ∃ s1 s2 sh, s = begun.map startD ++ (s1 ++ (sh ++ s2)) ∧ DrS others (s1 ++ s2) ∧ (s1 ++ s2).length ≤ 10 ∧ ((crowd = [] ∧ sh = []) ∨ (crowd ≠ [] ∧ (sh = [shutD "close"] ∨ sh = [shutD "catch"])))
def othersOf (tags : List Str) (x : Str) : List Str := tags.filter fun y => !(y == x)
def RowS (t0 : Str) (tags crowd begun : List Str) (r : Rw) : Prop := r.2.1 = (if crowd.contains r.1 then ("g" : Str) else ("" : Str)) ∧
  if r.1 = t0 then First (othersOf tags r.1) crowd begun r.2.2 else DrS (othersOf tags r.1) r.2.2 ∧ r.2.2.length ≤ 10
theorem ok5 : names5.all PyData.strOk = true := by decide +kernel
theorem okm {x : Str} (h : x ∈ names5) : PyData.strOk x = true := List.all_eq_true.mp ok5 x h
abbrev b_first : En → M Out := (dSeq (dAsg (d2 (pur2 addO) (dCall (listP fun xs => pur (some (.tup xs))) (dCons (dLc (dItL (dV 6)) (gN 14) dYes (dTup (dCons (dC (.str "start")) (dCons (dV 14) dNil))) [14]) dNil)) (dV 9)) (gN 9)) (dSeq (dAsg (d2 (pur2 addO) (dCall (lenP) (dCons (dV 6) dNil)) (dF F_l_take (dCons (dV 0) (dCons (d2 (pur2 addO) (d2 (pur2 subO) (dCall (lenP) (dCons (dV 9) dNil)) (dCall (lenP) (dCons (dV 6) dNil))) (dC (.int 1))) dNil)))) (gN 10)) (dSeq (dAsg (dIf (dTest (d2 (pur2 (eqO true)) (dV 5) (dLst dNil))) (dTup (dCons (dTup (dCons (dF F_l_of (dCons (dV 0) (dCons (dLst (dCons (dC (.str "close")) (dCons (dC (.str "catch")) dNil))) dNil))) (dCons (dC (.str "g")) dNil))) dNil)) (dTup dNil)) (gN 11)) (dAsg (d2 (pur2 addO) (d2 (pur2 addO) (dSl (dV 9) dNoP (dP (dV 10))) (dV 11)) (dSl (dV 9) (dP (dV 10)) dNoP)) (gN 9)))))
theorem first_ok {n : Int} {tags crowd begun others : List Str} {row : List D} {o : O} {e : List O} {a1 a2 a3 a4 a7 a8 a10 a11 a12 a13 a14 : Option D} {Q : Out → List O → Prop} (hn : n ≤ 900) (hb : begun.length ≤ 4) (hc : crowd.all PyData.strOk = true) (hr : DrS others row) (hl : row.length ≤ 10) (b : BX n o)
    (q : ∀ s o' u10 u11, First others crowd begun s → BX (n + 2) o' → Q (.nx [some (.ref 0), a1, a2, a3, a4, some (.lst (crowd.map .str)), some (.lst (begun.map .str)), a7, a8, some (.tup s), u10, u11, a12, a13, a14]) (o' :: e)) :
    WP (b_first [some (.ref 0), a1, a2, a3, a4, some (.lst (crowd.map .str)), some (.lst (begun.map .str)), a7, a8, some (.tup row), a10, a11, a12, a13, a14]) (o :: e) Q := by
  have mz : (1000 : Nat) ≤ mx := by decide
  have eb : (begun.map startD).length = begun.length := List.length_map ..
  refine w_seq (w_asg (w_d2 (w_call (w_cons (w_lcB begun (fun x => .str x) (fun _ => true) startD ?_ (by omega) (fun x hx => ⟨_, rfl, w_yes ⟨rfl, rfl⟩, fun _ => ?_⟩) ?_)))))
  · (repeat (first | (with_reducible first | refine w_v rfl ?_ | refine w_c ?_ | refine w_d2 ?_ | refine w_cons ?_ | refine w_nil ?_ | refine w_call ?_ | refine w_tup ?_ | refine w_tpn ?_ | refine w_lst ?_ | refine w_lstM ?_ | refine w_wk ?_ | refine w_frz ?_ | refine w_meth ?_ | refine w_test ?_ | refine w_notT ?_ | refine w_andT ?_ | refine w_orT ?_ | refine w_yes ?_ | refine w_and ?_ | refine w_or ?_ | refine w_not ?_ | refine w_if ?_ | refine w_ifS ?_ | refine w_seq ?_ | refine w_next ?_ | refine w_cnt ?_ | refine w_ret ?_ | refine w_expr ?_ | refine w_asg ?_ | refine w_par ?_ | refine w_F ?_ | refine w_Fp ?_ | refine w_itL ?_ | refine w_itT ?_ | refine w_itK ?_ | refine w_rng ?_ | refine w_neg ?_ | refine w_dput ?_ | refine w_newD ?_) | with_reducible refine w_then ?_ | refine ⟨_, _, rfl, ?_⟩ | refine ⟨_, rfl, ?_⟩ | refine ⟨by decide, ?_⟩ | refine ⟨_, _, eqS (by decide +kernel) (by decide +kernel), ?_⟩ | refine ⟨(by simp only [List.length_cons, List.length_nil]; decide), ?_⟩ | refine ⟨fun c => absurd c (by decide +kernel), fun _ => ?_⟩ | refine ⟨fun _ => ?_, fun c => absurd c (by decide +kernel)⟩))
    exact ⟨rfl, rfl⟩
  · (repeat (first | (with_reducible first | refine w_v rfl ?_ | refine w_c ?_ | refine w_d2 ?_ | refine w_cons ?_ | refine w_nil ?_ | refine w_call ?_ | refine w_tup ?_ | refine w_tpn ?_ | refine w_lst ?_ | refine w_lstM ?_ | refine w_wk ?_ | refine w_frz ?_ | refine w_meth ?_ | refine w_test ?_ | refine w_notT ?_ | refine w_andT ?_ | refine w_orT ?_ | refine w_yes ?_ | refine w_and ?_ | refine w_or ?_ | refine w_not ?_ | refine w_if ?_ | refine w_ifS ?_ | refine w_seq ?_ | refine w_next ?_ | refine w_cnt ?_ | refine w_ret ?_ | refine w_expr ?_ | refine w_asg ?_ | refine w_par ?_ | refine w_F ?_ | refine w_Fp ?_ | refine w_itL ?_ | refine w_itT ?_ | refine w_itK ?_ | refine w_rng ?_ | refine w_neg ?_ | refine w_dput ?_ | refine w_newD ?_) | with_reducible refine w_then ?_ | refine ⟨_, _, rfl, ?_⟩ | refine ⟨_, rfl, ?_⟩ | refine ⟨by decide, ?_⟩ | refine ⟨_, _, eqS (by decide +kernel) (by decide +kernel), ?_⟩ | refine ⟨(by simp only [List.length_cons, List.length_nil]; decide), ?_⟩ | refine ⟨fun c => absurd c (by decide +kernel), fun _ => ?_⟩ | refine ⟨fun _ => ?_, fun c => absurd c (by decide +kernel)⟩))
    exact ⟨rfl, rfl⟩
  have ft : begun.filter (fun _ => true) = begun := by simp
  rw [ft]
  refine w_nil ⟨.tup (begun.map startD), o :: e, rfl, w_v rfl ⟨_, _, addT (by omega), _, _, rfl, ?_⟩⟩
  refine w_then (w_seq (w_asg (w_d2 (w_call (w_cons (w_v rfl (w_nil ⟨.int begun.length, o :: e, ?_, ?_⟩)))))))
  · show some (D.int ((begun.map D.str).length : Nat), o :: e) = _
    rw [List.length_map]
  refine w_F (w_cons (w_v rfl (w_cons (w_d2 (w_d2 (w_call (w_cons (w_v rfl (w_nil ⟨_, _, rfl, w_call (w_cons (w_v rfl (w_nil ⟨_, _, rfl, _, _, rfl, w_c ⟨_, _, rfl, w_nil ?_⟩⟩)))⟩)))))))))
  have es : (((begun.map startD ++ row).length : Nat) : Int) - ((begun.map D.str).length : Nat) + 1 = (row.length : Int) + 1 := by
    rw [List.length_append, List.length_map, List.length_map]
    omega
  show WP (F_l_take [.ref 0, .int ((((begun.map startD ++ row).length : Nat) : Int) - ((begun.map D.str).length : Nat) + 1)]) _ _
  rw [es]
  refine w_take b (by omega) (by omega) (by omega) fun r o1 r0 r1 b1 => ?_
  obtain ⟨k, rfl⟩ : ∃ k : Nat, r = (k : Int) := ⟨r.toNat, by omega⟩
  refine ⟨.int ((begun.length : Int) + k), _, rfl, _, _, rfl, w_then ?_⟩
  have sh : ∀ {Q2 : D → List O → Prop} {ρ : En}, ρ[0]? = some (some (.ref 0)) → ρ[5]? = some (some (.lst (crowd.map .str))) → (∀ o2 shl, BX (n + 2) o2 → ((crowd = [] ∧ shl = []) ∨ (crowd ≠ [] ∧ (shl = [shutD "close"] ∨ shl = [shutD "catch"]))) → Q2 (.tup shl) (o2 :: e)) →
      WP ((dIf (dTest (d2 (pur2 (eqO true)) (dV 5) (dLst dNil))) (dTup (dCons (dTup (dCons (dF F_l_of (dCons (dV 0) (dCons (dLst (dCons (dC (.str "close")) (dCons (dC (.str "catch")) dNil))) dNil))) (dCons (dC (.str "g")) dNil))) dNil)) (dTup dNil)) ρ) (o1 :: e) Q2 := fun {Q2 ρ} h0 h5 q2 => by
    refine w_if (w_test (w_d2 (w_v h5 (w_lst (w_nil ⟨by decide, .bl (!crowd.isEmpty), o1 :: e, ?_, _, rfl, fun c => ?_, fun c => ?_⟩)))))
    · unfold pur2 pur
      rw [eqO_nil hc]
      rfl
    · have c0 : crowd ≠ [] := by
        intro z
        rw [z] at c
        cases c
      refine w_tup (w_cons (w_tup (w_cons (w_F (w_cons (w_v h0 (w_cons ?_)))))))
      (repeat (first | (with_reducible first | refine w_v rfl ?_ | refine w_c ?_ | refine w_d2 ?_ | refine w_cons ?_ | refine w_nil ?_ | refine w_call ?_ | refine w_tup ?_ | refine w_tpn ?_ | refine w_lst ?_ | refine w_lstM ?_ | refine w_wk ?_ | refine w_frz ?_ | refine w_meth ?_ | refine w_test ?_ | refine w_notT ?_ | refine w_andT ?_ | refine w_orT ?_ | refine w_yes ?_ | refine w_and ?_ | refine w_or ?_ | refine w_not ?_ | refine w_if ?_ | refine w_ifS ?_ | refine w_seq ?_ | refine w_next ?_ | refine w_cnt ?_ | refine w_ret ?_ | refine w_expr ?_ | refine w_asg ?_ | refine w_par ?_ | refine w_F ?_ | refine w_Fp ?_ | refine w_itL ?_ | refine w_itT ?_ | refine w_itK ?_ | refine w_rng ?_ | refine w_neg ?_ | refine w_dput ?_ | refine w_newD ?_) | with_reducible refine w_then ?_ | refine ⟨_, _, rfl, ?_⟩ | refine ⟨_, rfl, ?_⟩ | refine ⟨by decide, ?_⟩ | refine ⟨_, _, eqS (by decide +kernel) (by decide +kernel), ?_⟩ | refine ⟨(by simp only [List.length_cons, List.length_nil]; decide), ?_⟩ | refine ⟨fun c => absurd c (by decide +kernel), fun _ => ?_⟩ | refine ⟨fun _ => ?_, fun c => absurd c (by decide +kernel)⟩))
      refine w_of (goods := [.str "close", .str "catch"]) b1 (by omega) (by decide) (by decide) fun d o2 hd b2 => ?_
      refine w_cons (w_c (w_nil ⟨(by simp only [List.length_cons, List.length_nil]; decide), w_nil ⟨(by simp only [List.length_cons, List.length_nil]; decide), q2 o2 _ (b2.up (by omega)) (.inr ⟨c0, ?_⟩)⟩⟩))
      simp only [List.mem_cons, List.not_mem_nil, or_false] at hd
      rcases hd with rfl | rfl
      · exact .inl rfl
      · exact .inr rfl
    · have c0 : crowd = [] := by
        cases crowd with
        | nil => rfl
        | cons => cases c
      exact w_tup (w_nil ⟨by decide, q2 o1 [] (b1.up (by omega)) (.inl ⟨c0, rfl⟩)⟩)
  refine w_seq (w_asg (sh rfl rfl fun o2 shl b2 hsh => ⟨_, _, rfl, w_then ?_⟩))
  have hsl : shl.length ≤ 1 := by
    rcases hsh with ⟨_, rfl⟩ | ⟨_, rfl | rfl⟩ <;> simp
  have et : (begun.map startD ++ row).take (begun.length + k) = begun.map startD ++ row.take k := by
    rw [List.take_append, eb]
    rw [List.take_of_length_le (by omega)]
    congr 2
    omega
  have ed : (begun.map startD ++ row).drop (begun.length + k) = row.drop k := by
    rw [List.drop_append, eb]
    rw [List.drop_of_length_le (by omega)]
    simp
  have ek : ((begun.length : Int) + (k : Int)) = ((begun.length + k : Nat) : Int) := by omega
  refine w_asg (w_d2 (w_d2 (w_sl (w_v rfl (w_noP (w_P (w_v rfl ⟨_, rfl, .tup (begun.map startD ++ row.take k), ?_, w_v rfl ⟨_, _, addT ?_, ?_⟩⟩)))))))
  · show some (D.tup (Tw.cutD _ _ _)) = _
    rw [ek, cut_take, et]
  · rw [List.length_append, eb, List.length_take]
    omega
  refine w_sl (w_v rfl (w_P (w_v rfl ⟨_, rfl, w_noP ⟨.tup (row.drop k), ?_, _, _, addT ?_, _, _, rfl, ?_⟩⟩)))
  · show some (D.tup (Tw.cutD _ _ _)) = _
    rw [ek, cut_drop, ed]
  · rw [List.length_append, List.length_append, eb, List.length_take, List.length_drop]
    omega
  refine q _ o2 _ _ ⟨row.take k, row.drop k, shl, by simp, by rw [List.take_append_drop]; exact hr, by rw [List.take_append_drop]; exact hl, hsh⟩ b2
end K01

namespace K01
open PySem PySem.Spec PyProof.Rows L2 Tw
structure Ho (tags crowd begun : List Str) (t0 : Str) (ts : List Str) (rows : List Rw) (gs : List (Str × Str)) (rooms : List Rm) : Prop where
  tg : Tg tags
  cons : tags = t0 :: ts
  names : rows.map (·.1) = tags
  cs : crowd.Sublist ts
  bnd : begun.Nodup
  bsub : ∀ x ∈ begun, x ∈ ts
  cb : ∀ x ∈ crowd, x ∈ begun
  bl : begun.length ≤ 4
  rs : ∀ r ∈ rows, RowS t0 tags crowd begun r
  gs : gs = if crowd = [] then [] else [(("g" : Str), t0)]
  rms : (rooms.map (·.1)).Sublist (["p", "q"] : List Str)
  rv : ∀ p ∈ rooms, 1 ≤ p.2
theorem div_ok {i j : Int} (h : 0 < j) (h2 : j < 1073741824) : divO (.int i) (.int j) = some (.int (i / j)) := by
  unfold divO i2c
  simp only
  simp [h, h2]
theorem ixl0 (d : D) (r : List D) (G : List O) : ixO (.lst (d :: r)) (.int 0) G = some (d, G) := by
  have h : atI (d :: r) 0 = some d := by
    unfold atI ixN
    simp
  unfold ixO
  simp only [h, pur]
theorem inSL {ws : List Str} {x : Str} {G : List O} : pur2 (inO false) (.str x) (.lst (ws.map .str)) G = some (.bl (ws.contains x), G) := by
  unfold pur2 pur
  rw [inO_strL]
theorem inSLN {ws : List Str} {x : Str} {G : List O} : pur2 (inO true) (.str x) (.lst (ws.map .str)) G = some (.bl (!ws.contains x), G) := by
  unfold pur2 pur
  rw [inO_strLN]
abbrev b_house : En → M Out := (dSeq (dAsg (dF F_l_script (dCons (dV 0) (dCons (dLc (dItL (dV 3)) (gN 14) (dTest (d2 (pur2 (eqO true)) (dV 14) (dV 4))) (dV 14) [14]) (dCons (dV 2) (dCons (dV 7) dNil))))) (gN 9)) (dSeq (dIfS (dTest (d2 (pur2 (eqO false)) (dV 4) (d2 ixO (dV 3) (dC (.int 0))))) b_first dNext) (dExpr (dMeth appF (dV 8) (dCons (dTup (dCons (dV 4) (dCons (dIf (dTest (d2 (pur2 (inO false)) (dV 4) (dV 5))) (dC (.str "g")) (dC (.str ""))) (dCons (dV 9) dNil)))) dNil)))))
section
variable {o x c : O} {e : List O} {j : Nat}
theorem lk0 (h : e[j]? = some x) : (o :: e)[j + 1]? = some x := by rw [List.getElem?_cons_succ]; exact h
theorem app0 {row : List D} {y : D} (h : e[j]? = some (.lst row)) (hz : row.length + 1 ≤ mx) : appF (.ref (j + 1)) [y] (o :: e) = some (.non, o :: e.set j (.lst (row ++ [y]))) := by
  unfold appF
  simp only [lk0 h]
  rw [if_pos hz, List.set_cons_succ]
end
theorem house_step {n : Int} {tags crowd begun ts : List Str} {t0 x : Str} {room j : Nat} {o : O} {e : List O} {R : List Rw} {u9 u10 u11 u12 u13 : Option D} (hn : n ≤ 700) (hn0 : 0 ≤ n) (tg : Tg tags) (htc : tags = t0 :: ts) (hx : x ∈ tags) (hroom : room ≤ 10) (cok : ∀ y ∈ crowd, y ∈ tags) (hb : begun.length ≤ 4) (hR : R.length ≤ 10)
    (b : BX n o) (hj : e[j]? = some (.lst (R.map toR))) :
    WP (b_house [some (.ref 0), some (.int 4), some (.int 3), some (.lst (tags.map .str)), some (.str x), some (.lst (crowd.map .str)), some (.lst (begun.map .str)), some (.int room), some (.ref (j + 1)), u9, u10, u11, u12, u13, none]) (o :: e)
      fun out G2 => ∃ o' e' r u9 u10 u11, G2 = o' :: e' ∧ BX (n + 50) o' ∧ r.1 = x ∧ RowS t0 tags crowd begun r ∧ e'[j]? = some (.lst ((R ++ [r]).map toR)) ∧ out = .nx [some (.ref 0), some (.int 4), some (.int 3), some (.lst (tags.map .str)), some (.str x), some (.lst (crowd.map .str)), some (.lst (begun.map .str)), some (.int room), some (.ref (j + 1)), u9, u10, u11, u12, u13, none] := by
  have mz : (1000 : Nat) ≤ mx := by decide
  have hi := tg.hi
  have okx := okm (tg.mem x hx)
  have okt : ∀ y ∈ tags, PyData.strOk y = true := fun y hy => okm (tg.mem y hy)
  have okc : crowd.all PyData.strOk = true := List.all_eq_true.mpr fun y hy => okt y (cok y hy)
  have ht0 : t0 ∈ tags := by rw [htc]; simp
  refine w_seq (w_asg (w_F (w_cons (w_v rfl (w_cons (w_lcB tags (fun y => .str y) (fun y => !(y == x)) (fun y => .str y) ?_ (by omega) (fun y hy => ⟨_, rfl, ?_, fun _ => ?_⟩) ?_))))))
  · (repeat (first | (with_reducible first | refine w_v rfl ?_ | refine w_c ?_ | refine w_d2 ?_ | refine w_cons ?_ | refine w_nil ?_ | refine w_call ?_ | refine w_tup ?_ | refine w_tpn ?_ | refine w_lst ?_ | refine w_lstM ?_ | refine w_wk ?_ | refine w_frz ?_ | refine w_meth ?_ | refine w_test ?_ | refine w_notT ?_ | refine w_andT ?_ | refine w_orT ?_ | refine w_yes ?_ | refine w_and ?_ | refine w_or ?_ | refine w_not ?_ | refine w_if ?_ | refine w_ifS ?_ | refine w_seq ?_ | refine w_next ?_ | refine w_cnt ?_ | refine w_ret ?_ | refine w_expr ?_ | refine w_asg ?_ | refine w_par ?_ | refine w_F ?_ | refine w_Fp ?_ | refine w_itL ?_ | refine w_itT ?_ | refine w_itK ?_ | refine w_rng ?_ | refine w_neg ?_ | refine w_dput ?_ | refine w_newD ?_) | with_reducible refine w_then ?_ | refine ⟨_, _, rfl, ?_⟩ | refine ⟨_, rfl, ?_⟩ | refine ⟨by decide, ?_⟩ | refine ⟨_, _, eqS (by decide +kernel) (by decide +kernel), ?_⟩ | refine ⟨(by simp only [List.length_cons, List.length_nil]; decide), ?_⟩ | refine ⟨fun c => absurd c (by decide +kernel), fun _ => ?_⟩ | refine ⟨fun _ => ?_, fun c => absurd c (by decide +kernel)⟩))
    exact ⟨rfl, rfl⟩
  · refine w_test (w_d2 (w_v rfl (w_v rfl ⟨_, _, eqS (okt y hy) okx, _, rfl, rfl, rfl⟩)))
  · exact w_v rfl ⟨rfl, rfl⟩
  refine w_cons (w_v rfl (w_cons (w_v rfl (w_nil ?_))))
  have o0 : othersOf tags x ≠ [] := by
    intro z
    have h2 : ∀ y ∈ tags, y = x := fun y hy => by
      have := List.filter_eq_nil_iff.mp z y hy
      simpa using this
    have lo := tg.lo
    rw [htc] at h2 lo
    have nd := tg.nd
    rw [htc] at nd
    cases ts with
    | nil => simp at lo
    | cons t1 ts =>
      have e1 := h2 t0 (by simp)
      have e2 := h2 t1 (by simp)
      rw [e1, e2] at nd
      simp at nd
  have on : ∀ y ∈ othersOf tags x, y ∈ names5 := fun y hy => tg.mem y (List.mem_filter.mp hy).1
  have ol : (othersOf tags x).length ≤ 5 := Nat.le_trans (List.length_filter_le _ _) (by omega)
  refine w_script (others := othersOf tags x) (room := room) (by omega) hn0 hroom on o0 ol b fun row o2 e2 hrow hrl b2 => ?_
  refine ⟨_, _, rfl, w_then ?_⟩
  have hj2 : (e ++ e2)[j]? = some (.lst (R.map toR)) := by
    rw [List.getElem?_append_left (List.getElem?_eq_some_iff.mp hj).1]
    exact hj
  have fin : ∀ {s : List D} {o3 : O} {v9 v10 v11 : Option D}, v9 = some (.tup s) → RowS t0 tags crowd begun (x, (if crowd.contains x then "g" else ""), s) → BX (n + 50) o3 →
      WP ((dExpr (dMeth appF (dV 8) (dCons (dTup (dCons (dV 4) (dCons (dIf (dTest (d2 (pur2 (inO false)) (dV 4) (dV 5))) (dC (.str "g")) (dC (.str ""))) (dCons (dV 9) dNil)))) dNil))) [some (.ref 0), some (.int 4), some (.int 3), some (.lst (tags.map .str)), some (.str x), some (.lst (crowd.map .str)), some (.lst (begun.map .str)), some (.int room), some (.ref (j + 1)), v9, v10, v11, u12, u13, none]) (o3 :: (e ++ e2))
        fun out G2 => ∃ o' e' r u9 u10 u11, G2 = o' :: e' ∧ BX (n + 50) o' ∧ r.1 = x ∧ RowS t0 tags crowd begun r ∧ e'[j]? = some (.lst ((R ++ [r]).map toR)) ∧ out = .nx [some (.ref 0), some (.int 4), some (.int 3), some (.lst (tags.map .str)), some (.str x), some (.lst (crowd.map .str)), some (.lst (begun.map .str)), some (.int room), some (.ref (j + 1)), u9, u10, u11, u12, u13, none] := fun {s o3 v9 v10 v11} h9 hrs b3 => by
    subst h9
    refine w_expr (w_meth (w_v rfl ⟨⟨R.map toR, by unfold inL; simp only [lk0 hj2]⟩, w_cons (w_tup (w_cons (w_v rfl (w_cons (w_if (w_test (w_d2 (w_v rfl (w_v rfl ⟨_, _, inSL, _, rfl, fun c => ?_, fun c => ?_⟩)))))))))⟩))
    · refine w_c (w_cons (w_v rfl (w_nil ⟨(by simp only [List.length_cons, List.length_nil]; decide), w_nil ⟨.non, _, app0 hj2 (by rw [List.length_map]; omega), o3, _, (x, "g", s), _, _, _, rfl, b3, rfl, by rw [if_pos c] at hrs; exact hrs, ?_, rfl⟩⟩)))
      rw [List.getElem?_set_self (List.getElem?_eq_some_iff.mp hj2).1]
      simp [toR]
    · refine w_c (w_cons (w_v rfl (w_nil ⟨(by simp only [List.length_cons, List.length_nil]; decide), w_nil ⟨.non, _, app0 hj2 (by rw [List.length_map]; omega), o3, _, (x, "", s), _, _, _, rfl, b3, rfl, by rw [if_neg (by rw [c]; simp)] at hrs; exact hrs, ?_, rfl⟩⟩)))
      rw [List.getElem?_set_self (List.getElem?_eq_some_iff.mp hj2).1]
      simp [toR]
  refine w_seq (w_ifS (w_test (w_d2 (w_v rfl (w_d2 (w_v rfl (w_c ⟨.str t0, o2 :: (e ++ e2), ?_, _, _, eqS okx (okt t0 ht0), _, rfl, fun c => ?_, fun c => w_next (w_then ?_)⟩)))))))
  · subst htc
    exact ixl0 _ _ _
  · have ex : x = t0 := by simpa using c
    refine first_ok (tags := tags) (n := n + 41) (by omega) hb okc hrow (by omega) b2 fun s o3 v10 v11 hs b3 => w_then (fin rfl ?_ (b3.up (by omega)))
    refine ⟨rfl, ?_⟩
    rw [if_pos ex]
    exact hs
  · have ex : ¬ x = t0 := by simpa using c
    refine fin rfl ?_ (b2.up (by omega))
    refine ⟨rfl, ?_⟩
    rw [if_neg ex]
    have hl10 : row.length ≤ 10 := by omega
    exact ⟨hrow, hl10⟩
end K01

namespace K01
open PySem PySem.Spec PyProof.Rows L2 Tw
theorem cut_tail (x : D) (xs : List D) : Tw.cutD (x :: xs) (some 1) none = xs := by
  have := cut_drop (x :: xs) 1
  exact this
theorem addL {xs ys : List D} {G : List O} (h : xs.length + ys.length ≤ mx) : pur2 addO (.lst xs) (.lst ys) G = some (.lst (xs ++ ys), G) := by
  unfold pur2 pur addO
  simp only
  rw [if_pos h]
theorem len_sub : ∀ {l m : List Str}, l.Nodup → (∀ x ∈ l, x ∈ m) → l.length ≤ m.length
  | [], _, _, _ => Nat.zero_le _
  | a :: l, m, nd, h => by
    have hn := List.nodup_cons.mp nd
    have ha := h a List.mem_cons_self
    have ih := len_sub (l := l) (m := m.erase a) hn.2 fun x hx => (List.mem_erase_of_ne (fun e => hn.1 (by rw [← e]; exact hx))).mpr (h x (List.mem_cons_of_mem _ hx))
    rw [List.length_erase_of_mem ha] at ih
    have := List.length_pos_of_mem ha
    rw [List.length_cons]
    omega
theorem w_house {o : O} {Q : D → List O → Prop} (b : BX 0 o) (q : ∀ tags crowd begun t0 ts rows gs rooms o' e, Ho tags crowd begun t0 ts rows gs rooms → BX 400 o' → Q (houseD rows gs rooms) (o' :: e)) :
    WP (F_l_house [.ref 0, .int 4, .int 3]) [o] Q := by
  have mz : (1000 : Nat) ≤ mx := by decide
  refine w_run ?_
  unfold ds_l_house
  refine w_seq (w_asg (w_call (w_cons (w_F (w_cons (w_v rfl (w_cons ?_)))))))
  (repeat (first | (with_reducible first | refine w_v rfl ?_ | refine w_c ?_ | refine w_d2 ?_ | refine w_cons ?_ | refine w_nil ?_ | refine w_call ?_ | refine w_tup ?_ | refine w_tpn ?_ | refine w_lst ?_ | refine w_lstM ?_ | refine w_wk ?_ | refine w_frz ?_ | refine w_meth ?_ | refine w_test ?_ | refine w_notT ?_ | refine w_andT ?_ | refine w_orT ?_ | refine w_yes ?_ | refine w_and ?_ | refine w_or ?_ | refine w_not ?_ | refine w_if ?_ | refine w_ifS ?_ | refine w_seq ?_ | refine w_next ?_ | refine w_cnt ?_ | refine w_ret ?_ | refine w_expr ?_ | refine w_asg ?_ | refine w_par ?_ | refine w_F ?_ | refine w_Fp ?_ | refine w_itL ?_ | refine w_itT ?_ | refine w_itK ?_ | refine w_rng ?_ | refine w_neg ?_ | refine w_dput ?_ | refine w_newD ?_) | with_reducible refine w_then ?_ | refine ⟨_, _, rfl, ?_⟩ | refine ⟨_, rfl, ?_⟩ | refine ⟨by decide, ?_⟩ | refine ⟨_, _, eqS (by decide +kernel) (by decide +kernel), ?_⟩ | refine ⟨(by simp only [List.length_cons, List.length_nil]; decide), ?_⟩ | refine ⟨fun c => absurd c (by decide +kernel), fun _ => ?_⟩ | refine ⟨fun _ => ?_, fun c => absurd c (by decide +kernel)⟩))
  refine w_take b (by omega) (by omega) (by omega) fun r o1 r0 r1 b1 => ?_
  (repeat (first | (with_reducible first | refine w_v rfl ?_ | refine w_c ?_ | refine w_d2 ?_ | refine w_cons ?_ | refine w_nil ?_ | refine w_call ?_ | refine w_tup ?_ | refine w_tpn ?_ | refine w_lst ?_ | refine w_lstM ?_ | refine w_wk ?_ | refine w_frz ?_ | refine w_meth ?_ | refine w_test ?_ | refine w_notT ?_ | refine w_andT ?_ | refine w_orT ?_ | refine w_yes ?_ | refine w_and ?_ | refine w_or ?_ | refine w_not ?_ | refine w_if ?_ | refine w_ifS ?_ | refine w_seq ?_ | refine w_next ?_ | refine w_cnt ?_ | refine w_ret ?_ | refine w_expr ?_ | refine w_asg ?_ | refine w_par ?_ | refine w_F ?_ | refine w_Fp ?_ | refine w_itL ?_ | refine w_itT ?_ | refine w_itK ?_ | refine w_rng ?_ | refine w_neg ?_ | refine w_dput ?_ | refine w_newD ?_) | with_reducible refine w_then ?_ | refine ⟨_, _, rfl, ?_⟩ | refine ⟨_, rfl, ?_⟩ | refine ⟨by decide, ?_⟩ | refine ⟨_, _, eqS (by decide +kernel) (by decide +kernel), ?_⟩ | refine ⟨(by simp only [List.length_cons, List.length_nil]; decide), ?_⟩ | refine ⟨fun c => absurd c (by decide +kernel), fun _ => ?_⟩ | refine ⟨fun _ => ?_, fun c => absurd c (by decide +kernel)⟩))
  obtain ⟨c, ec, c2, c4⟩ : ∃ c : Int, min2 4 (2 + r) = c ∧ 2 ≤ c ∧ c ≤ 4 := by
    refine ⟨_, rfl, ?_⟩
    unfold min2
    split <;> omega
  rw [ec]
  refine w_pick (goods := names5.map D.str) (by exact b1) (by omega) (by decide) (by omega) (by show c ≤ 5; omega) fun found o2 e2 pool hp hl b2 => ?_
  obtain ⟨fs, rfl, tg⟩ := tags_of hp (by omega) (by omega)
  have lf : fs.length ≤ 4 := by rw [List.length_map] at hl; omega
  generalize ht : sortS fs = tags at tg
  refine w_nil ⟨.lst (tags.map .str), o2 :: ([] ++ e2), ?_, _, _, rfl, w_then ?_⟩
  · unfold lP
    simp only [inL]
    unfold sortF
    simp only [strs_map]
    rw [if_pos (by omega), ht]
  obtain ⟨t0, ts, htc⟩ : ∃ t0 ts, tags = t0 :: ts := by
    have lo := tg.lo
    cases tags with
    | nil => simp at lo
    | cons t0 ts => exact ⟨t0, ts, rfl⟩
  have lts : ts.length ≤ 3 := by
    have := tg.hi
    rw [htc] at this
    simpa using this
  have okt : ∀ y ∈ tags, PyData.strOk y = true := fun y hy => okm (tg.mem y hy)
  have hts : ∀ y ∈ ts, y ∈ tags := fun y hy => by rw [htc]; exact List.mem_cons_of_mem _ hy
  have tail : ∀ {ρ : En} {G : List O}, ρ[3]? = some (some (.lst (tags.map .str))) → WP (dItL (dSl (dV 3) (dP (dC (.int 1))) dNoP) ρ) G fun es G1 => es = ts.map D.str ∧ G1 = G := fun {ρ G} h => by
    refine w_itL (w_sl (w_v h (w_P (w_c ⟨_, rfl, w_noP ⟨.lst (ts.map .str), ?_, _, rfl, rfl, rfl⟩⟩))))
    show some (D.lst (Tw.cutD _ _ _)) = _
    rw [htc, List.map_cons, cut_tail]
  generalize [] ++ e2 = E2
  refine w_seq (w_asg (w_sub (l := ts) (P := fun _ => True) (by simp only [List.length_set]; decide) (by omega) (tail rfl) b2 (fun x hx o3 m hm b3 => ?_) fun crowd o3 hcs _ b3 => ⟨_, _, rfl, w_then ?_⟩))
  · refine w_test (w_d2 (w_F ?_))
    (repeat (first | (with_reducible first | refine w_v rfl ?_ | refine w_c ?_ | refine w_d2 ?_ | refine w_cons ?_ | refine w_nil ?_ | refine w_call ?_ | refine w_tup ?_ | refine w_tpn ?_ | refine w_lst ?_ | refine w_lstM ?_ | refine w_wk ?_ | refine w_frz ?_ | refine w_meth ?_ | refine w_test ?_ | refine w_notT ?_ | refine w_andT ?_ | refine w_orT ?_ | refine w_yes ?_ | refine w_and ?_ | refine w_or ?_ | refine w_not ?_ | refine w_if ?_ | refine w_ifS ?_ | refine w_seq ?_ | refine w_next ?_ | refine w_cnt ?_ | refine w_ret ?_ | refine w_expr ?_ | refine w_asg ?_ | refine w_par ?_ | refine w_F ?_ | refine w_Fp ?_ | refine w_itL ?_ | refine w_itT ?_ | refine w_itK ?_ | refine w_rng ?_ | refine w_neg ?_ | refine w_dput ?_ | refine w_newD ?_) | with_reducible refine w_then ?_ | refine ⟨_, _, rfl, ?_⟩ | refine ⟨_, rfl, ?_⟩ | refine ⟨by decide, ?_⟩ | refine ⟨_, _, eqS (by decide +kernel) (by decide +kernel), ?_⟩ | refine ⟨(by simp only [List.length_cons, List.length_nil]; decide), ?_⟩ | refine ⟨fun c => absurd c (by decide +kernel), fun _ => ?_⟩ | refine ⟨fun _ => ?_, fun c => absurd c (by decide +kernel)⟩))
    refine w_take b3 (by omega) (by omega) (by omega) fun r o4 r0 r1 b4 => ?_
    (repeat (first | (with_reducible first | refine w_v rfl ?_ | refine w_c ?_ | refine w_d2 ?_ | refine w_cons ?_ | refine w_nil ?_ | refine w_call ?_ | refine w_tup ?_ | refine w_tpn ?_ | refine w_lst ?_ | refine w_lstM ?_ | refine w_wk ?_ | refine w_frz ?_ | refine w_meth ?_ | refine w_test ?_ | refine w_notT ?_ | refine w_andT ?_ | refine w_orT ?_ | refine w_yes ?_ | refine w_and ?_ | refine w_or ?_ | refine w_not ?_ | refine w_if ?_ | refine w_ifS ?_ | refine w_seq ?_ | refine w_next ?_ | refine w_cnt ?_ | refine w_ret ?_ | refine w_expr ?_ | refine w_asg ?_ | refine w_par ?_ | refine w_F ?_ | refine w_Fp ?_ | refine w_itL ?_ | refine w_itT ?_ | refine w_itK ?_ | refine w_rng ?_ | refine w_neg ?_ | refine w_dput ?_ | refine w_newD ?_) | with_reducible refine w_then ?_ | refine ⟨_, _, rfl, ?_⟩ | refine ⟨_, rfl, ?_⟩ | refine ⟨by decide, ?_⟩ | refine ⟨_, _, eqS (by decide +kernel) (by decide +kernel), ?_⟩ | refine ⟨(by simp only [List.length_cons, List.length_nil]; decide), ?_⟩ | refine ⟨fun c => absurd c (by decide +kernel), fun _ => ?_⟩ | refine ⟨fun _ => ?_, fun c => absurd c (by decide +kernel)⟩))
    exact ⟨b4, fun _ => True.intro⟩
  have lcr : crowd.length ≤ 3 := Nat.le_trans hcs.length_le lts
  refine w_seq (w_asg (w_d2 (w_v rfl (w_sub (l := ts) (P := fun x => crowd.contains x = false) (by simp only [List.length_set]; decide) (by omega) (tail rfl) b3 (fun x hx o4 m hm b4 => ?_) fun more o4 hms hmp b4 => ?_))))
  · refine w_andT (w_test (w_d2 (w_v rfl (w_v rfl ⟨_, _, inSLN, _, rfl, fun c => ?_, fun c => ?_⟩))))
    · refine w_test (w_d2 (w_F ?_))
      (repeat (first | (with_reducible first | refine w_v rfl ?_ | refine w_c ?_ | refine w_d2 ?_ | refine w_cons ?_ | refine w_nil ?_ | refine w_call ?_ | refine w_tup ?_ | refine w_tpn ?_ | refine w_lst ?_ | refine w_lstM ?_ | refine w_wk ?_ | refine w_frz ?_ | refine w_meth ?_ | refine w_test ?_ | refine w_notT ?_ | refine w_andT ?_ | refine w_orT ?_ | refine w_yes ?_ | refine w_and ?_ | refine w_or ?_ | refine w_not ?_ | refine w_if ?_ | refine w_ifS ?_ | refine w_seq ?_ | refine w_next ?_ | refine w_cnt ?_ | refine w_ret ?_ | refine w_expr ?_ | refine w_asg ?_ | refine w_par ?_ | refine w_F ?_ | refine w_Fp ?_ | refine w_itL ?_ | refine w_itT ?_ | refine w_itK ?_ | refine w_rng ?_ | refine w_neg ?_ | refine w_dput ?_ | refine w_newD ?_) | with_reducible refine w_then ?_ | refine ⟨_, _, rfl, ?_⟩ | refine ⟨_, rfl, ?_⟩ | refine ⟨by decide, ?_⟩ | refine ⟨_, _, eqS (by decide +kernel) (by decide +kernel), ?_⟩ | refine ⟨(by simp only [List.length_cons, List.length_nil]; decide), ?_⟩ | refine ⟨fun c => absurd c (by decide +kernel), fun _ => ?_⟩ | refine ⟨fun _ => ?_, fun c => absurd c (by decide +kernel)⟩))
      refine w_take b4 (by omega) (by omega) (by omega) fun r o5 r0 r1 b5 => ?_
      (repeat (first | (with_reducible first | refine w_v rfl ?_ | refine w_c ?_ | refine w_d2 ?_ | refine w_cons ?_ | refine w_nil ?_ | refine w_call ?_ | refine w_tup ?_ | refine w_tpn ?_ | refine w_lst ?_ | refine w_lstM ?_ | refine w_wk ?_ | refine w_frz ?_ | refine w_meth ?_ | refine w_test ?_ | refine w_notT ?_ | refine w_andT ?_ | refine w_orT ?_ | refine w_yes ?_ | refine w_and ?_ | refine w_or ?_ | refine w_not ?_ | refine w_if ?_ | refine w_ifS ?_ | refine w_seq ?_ | refine w_next ?_ | refine w_cnt ?_ | refine w_ret ?_ | refine w_expr ?_ | refine w_asg ?_ | refine w_par ?_ | refine w_F ?_ | refine w_Fp ?_ | refine w_itL ?_ | refine w_itT ?_ | refine w_itK ?_ | refine w_rng ?_ | refine w_neg ?_ | refine w_dput ?_ | refine w_newD ?_) | with_reducible refine w_then ?_ | refine ⟨_, _, rfl, ?_⟩ | refine ⟨_, rfl, ?_⟩ | refine ⟨by decide, ?_⟩ | refine ⟨_, _, eqS (by decide +kernel) (by decide +kernel), ?_⟩ | refine ⟨(by simp only [List.length_cons, List.length_nil]; decide), ?_⟩ | refine ⟨fun c => absurd c (by decide +kernel), fun _ => ?_⟩ | refine ⟨fun _ => ?_, fun c => absurd c (by decide +kernel)⟩))
      exact ⟨b5, fun _ => by simpa using c⟩
    · exact ⟨o4, rfl, b4.up (by omega), fun c => (by cases c)⟩
  have lmo : more.length ≤ 3 := Nat.le_trans hms.length_le lts
  refine ⟨.lst ((crowd ++ more).map .str), o4 :: E2, ?_, _, _, rfl, w_then ?_⟩
  · rw [addL (by rw [List.length_map, List.length_map]; omega), List.map_append]
  generalize hbe : crowd ++ more = begun
  have ndt : ts.Nodup := by
    have := tg.nd
    rw [htc] at this
    exact (List.nodup_cons.mp this).2
  have bnd : begun.Nodup := by
    rw [← hbe, List.nodup_append]
    refine ⟨hcs.nodup ndt, hms.nodup ndt, fun x hx y hy e => ?_⟩
    subst e
    have := hmp x hy
    rw [List.contains_iff_mem.mpr hx] at this
    cases this
  have bsub : ∀ x ∈ begun, x ∈ ts := fun x hx => by
    rw [← hbe] at hx
    rcases List.mem_append.mp hx with hx | hx
    · exact hcs.subset hx
    · exact hms.subset hx
  have lbe : begun.length ≤ 3 := Nat.le_trans (len_sub bnd bsub) lts
  have okc : crowd.all PyData.strOk = true := List.all_eq_true.mpr fun y hy => okt y (hts y (hcs.subset hy))
  have lo := tg.lo
  have hi := tg.hi
  refine w_seq ?_
  (repeat (first | (with_reducible first | refine w_v rfl ?_ | refine w_c ?_ | refine w_d2 ?_ | refine w_cons ?_ | refine w_nil ?_ | refine w_call ?_ | refine w_tup ?_ | refine w_tpn ?_ | refine w_lst ?_ | refine w_lstM ?_ | refine w_wk ?_ | refine w_frz ?_ | refine w_meth ?_ | refine w_test ?_ | refine w_notT ?_ | refine w_andT ?_ | refine w_orT ?_ | refine w_yes ?_ | refine w_and ?_ | refine w_or ?_ | refine w_not ?_ | refine w_if ?_ | refine w_ifS ?_ | refine w_seq ?_ | refine w_next ?_ | refine w_cnt ?_ | refine w_ret ?_ | refine w_expr ?_ | refine w_asg ?_ | refine w_par ?_ | refine w_F ?_ | refine w_Fp ?_ | refine w_itL ?_ | refine w_itT ?_ | refine w_itK ?_ | refine w_rng ?_ | refine w_neg ?_ | refine w_dput ?_ | refine w_newD ?_) | with_reducible refine w_then ?_ | refine ⟨_, _, rfl, ?_⟩ | refine ⟨_, rfl, ?_⟩ | refine ⟨by decide, ?_⟩ | refine ⟨_, _, eqS (by decide +kernel) (by decide +kernel), ?_⟩ | refine ⟨(by simp only [List.length_cons, List.length_nil]; decide), ?_⟩ | refine ⟨fun c => absurd c (by decide +kernel), fun _ => ?_⟩ | refine ⟨fun _ => ?_, fun c => absurd c (by decide +kernel)⟩))
  refine ⟨.bl (!crowd.isEmpty), o4 :: E2, by unfold pur2 pur; rw [eqO_nil okc]; rfl, ?_⟩
  (repeat (first | (with_reducible first | refine w_v rfl ?_ | refine w_c ?_ | refine w_d2 ?_ | refine w_cons ?_ | refine w_nil ?_ | refine w_call ?_ | refine w_tup ?_ | refine w_tpn ?_ | refine w_lst ?_ | refine w_lstM ?_ | refine w_wk ?_ | refine w_frz ?_ | refine w_meth ?_ | refine w_test ?_ | refine w_notT ?_ | refine w_andT ?_ | refine w_orT ?_ | refine w_yes ?_ | refine w_and ?_ | refine w_or ?_ | refine w_not ?_ | refine w_if ?_ | refine w_ifS ?_ | refine w_seq ?_ | refine w_next ?_ | refine w_cnt ?_ | refine w_ret ?_ | refine w_expr ?_ | refine w_asg ?_ | refine w_par ?_ | refine w_F ?_ | refine w_Fp ?_ | refine w_itL ?_ | refine w_itT ?_ | refine w_itK ?_ | refine w_rng ?_ | refine w_neg ?_ | refine w_dput ?_ | refine w_newD ?_) | with_reducible refine w_then ?_ | refine ⟨_, _, rfl, ?_⟩ | refine ⟨_, rfl, ?_⟩ | refine ⟨by decide, ?_⟩ | refine ⟨_, _, eqS (by decide +kernel) (by decide +kernel), ?_⟩ | refine ⟨(by simp only [List.length_cons, List.length_nil]; decide), ?_⟩ | refine ⟨fun c => absurd c (by decide +kernel), fun _ => ?_⟩ | refine ⟨fun _ => ?_, fun c => absurd c (by decide +kernel)⟩))
  obtain ⟨room, hroom, er⟩ : ∃ room : Nat, room ≤ 10 ∧ (12 - ((begun.map D.str).length : Int) - (if (!crowd.isEmpty) = true then 1 else 0)) / ((tags.map D.str).length : Int) = (room : Int) := by
    rw [List.length_map, List.length_map]
    have hq : tags.length = 2 ∨ tags.length = 3 ∨ tags.length = 4 := by omega
    have h1 : (0 : Int) ≤ (if (!crowd.isEmpty) = true then 1 else 0) ∧ (if (!crowd.isEmpty) = true then (1 : Int) else 0) ≤ 1 := by split <;> omega
    generalize (if (!crowd.isEmpty) = true then (1 : Int) else 0) = z at h1
    refine ⟨((12 - (begun.length : Int) - z) / (tags.length : Int)).toNat, ?_, ?_⟩
    · rcases hq with h | h | h <;> rw [h] <;> omega
    · rcases hq with h | h | h <;> rw [h] <;> omega
  refine ⟨.int room, o4 :: E2, ?_, ?_⟩
  · unfold pur2 pur
    rw [div_ok (by rw [List.length_map]; omega) (by rw [List.length_map]; omega)]
    show some (D.int ((12 - ((begun.map D.str).length : Int) - (if (!crowd.isEmpty) = true then 1 else 0)) / ((tags.map D.str).length : Int)), _) = _
    rw [er]
  (repeat (first | (with_reducible first | refine w_v rfl ?_ | refine w_c ?_ | refine w_d2 ?_ | refine w_cons ?_ | refine w_nil ?_ | refine w_call ?_ | refine w_tup ?_ | refine w_tpn ?_ | refine w_lst ?_ | refine w_lstM ?_ | refine w_wk ?_ | refine w_frz ?_ | refine w_meth ?_ | refine w_test ?_ | refine w_notT ?_ | refine w_andT ?_ | refine w_orT ?_ | refine w_yes ?_ | refine w_and ?_ | refine w_or ?_ | refine w_not ?_ | refine w_if ?_ | refine w_ifS ?_ | refine w_seq ?_ | refine w_next ?_ | refine w_cnt ?_ | refine w_ret ?_ | refine w_expr ?_ | refine w_asg ?_ | refine w_par ?_ | refine w_F ?_ | refine w_Fp ?_ | refine w_itL ?_ | refine w_itT ?_ | refine w_itK ?_ | refine w_rng ?_ | refine w_neg ?_ | refine w_dput ?_ | refine w_newD ?_) | with_reducible refine w_then ?_ | refine ⟨_, _, rfl, ?_⟩ | refine ⟨_, rfl, ?_⟩ | refine ⟨by decide, ?_⟩ | refine ⟨_, _, eqS (by decide +kernel) (by decide +kernel), ?_⟩ | refine ⟨(by simp only [List.length_cons, List.length_nil]; decide), ?_⟩ | refine ⟨fun c => absurd c (by decide +kernel), fun _ => ?_⟩ | refine ⟨fun _ => ?_, fun c => absurd c (by decide +kernel)⟩))
  have eL : (o4 :: E2).length = E2.length + 1 := List.length_cons
  have eA : o4 :: E2 ++ [O.lst []] = o4 :: (E2 ++ [O.lst []]) := rfl
  rw [eL, eA]
  have b30 : BX 30 o4 := b4.up (by omega)
  refine w_for (w_itL (w_v rfl ⟨tags.map .str, rfl, ?_⟩))
  refine w_loop (fun ds ρ G => ∃ (ps rs : List Str) (R : List Rw) (o' : O) (e' : List O) (u4 u9 u10 u11 : Option D), tags = ps ++ rs ∧ ds = rs.map D.str ∧ R.map (·.1) = ps ∧ (∀ r ∈ R, RowS t0 tags crowd begun r) ∧ G = o' :: e' ∧ BX (30 + 50 * ps.length) o' ∧ e'[E2.length]? = some (.lst (R.map toR)) ∧ ρ = [some (.ref 0), some (.int 4), some (.int 3), some (.lst (tags.map .str)), u4, some (.lst (crowd.map .str)), some (.lst (begun.map .str)), some (.int room), some (.ref (E2.length + 1)), u9, u10, u11, none, none, none]) ?_ _ _ _ ⟨[], tags, [], o4, _, none, none, none, none, rfl, rfl, rfl, fun r h => absurd h (by simp), rfl, by simpa using b30, by simp, rfl⟩ ?_
  · rintro d r ρ G ⟨ps, rs, R, o', e', u4, u9, u10, u11, hl, hds, hR, hRS, rfl, b', hj, rfl⟩
    cases rs with
    | nil => cases hds
    | cons x rs =>
      cases hds
      have hlen := congrArg List.length hl
      simp only [List.length_append, List.length_cons] at hlen
      have hRl := congrArg List.length hR
      rw [List.length_map] at hRl
      refine ⟨[some (.ref 0), some (.int 4), some (.int 3), some (.lst (tags.map .str)), some (.str x), some (.lst (crowd.map .str)), some (.lst (begun.map .str)), some (.int room), some (.ref (E2.length + 1)), u9, u10, u11, none, none, none], _, rfl, ?_⟩
      refine (house_step (room := room) (R := R) (n := 30 + 50 * ps.length) (by omega) (by omega) tg htc (by rw [hl]; simp) hroom (fun y hy => hts y (hcs.subset hy)) (by omega) (by omega) b' hj).imp fun out G2 ⟨o2, e2, r2, v9, v10, v11, e1, b2, h1, h2, h3, h4⟩ => ?_
      subst e1 h4
      refine ⟨_, .inl rfl, ps ++ [x], rs, R ++ [r2], o2, e2, _, v9, v10, v11, by rw [hl]; simp, rfl, by simp [hR, h1], ?_, rfl, b2.up (by simp; omega), h3, rfl⟩
      intro r hr
      rcases List.mem_append.mp hr with hr | hr
      · exact hRS r hr
      · rw [List.mem_singleton.mp hr]; exact h2
  · rintro ρ G ⟨ps, rs, R, o5, e5, u4, u9, u10, u11, hl, hds, hR, hRS, rfl, b5, hj, rfl⟩
    have hrs : rs = [] := by cases rs with | nil => rfl | cons => cases hds
    subst hrs
    rw [List.append_nil] at hl
    have hpl : ps.length ≤ 4 := by rw [← hl]; exact hi
    refine w_then (w_seq (w_asg (w_call (w_cons (w_lc (fun ds ys G => ∃ (qs rs : List Str) (rm : List Rm) (o' : O), (["p", "q"] : List Str) = qs ++ rs ∧ ds = rs.map D.str ∧ ys = rm.map roomD ∧ (rm.map (·.1)).Sublist qs ∧ (∀ p ∈ rm, 1 ≤ p.2) ∧ G = o' :: e5 ∧ BX (300 + 2 * qs.length) o') ?_ ?_ ?_)))))
    · (repeat (first | (with_reducible first | refine w_v rfl ?_ | refine w_c ?_ | refine w_d2 ?_ | refine w_cons ?_ | refine w_nil ?_ | refine w_call ?_ | refine w_tup ?_ | refine w_tpn ?_ | refine w_lst ?_ | refine w_lstM ?_ | refine w_wk ?_ | refine w_frz ?_ | refine w_meth ?_ | refine w_test ?_ | refine w_notT ?_ | refine w_andT ?_ | refine w_orT ?_ | refine w_yes ?_ | refine w_and ?_ | refine w_or ?_ | refine w_not ?_ | refine w_if ?_ | refine w_ifS ?_ | refine w_seq ?_ | refine w_next ?_ | refine w_cnt ?_ | refine w_ret ?_ | refine w_expr ?_ | refine w_asg ?_ | refine w_par ?_ | refine w_F ?_ | refine w_Fp ?_ | refine w_itL ?_ | refine w_itT ?_ | refine w_itK ?_ | refine w_rng ?_ | refine w_neg ?_ | refine w_dput ?_ | refine w_newD ?_) | with_reducible refine w_then ?_ | refine ⟨_, _, rfl, ?_⟩ | refine ⟨_, rfl, ?_⟩ | refine ⟨by decide, ?_⟩ | refine ⟨_, _, eqS (by decide +kernel) (by decide +kernel), ?_⟩ | refine ⟨(by simp only [List.length_cons, List.length_nil]; decide), ?_⟩ | refine ⟨fun c => absurd c (by decide +kernel), fun _ => ?_⟩ | refine ⟨fun _ => ?_, fun c => absurd c (by decide +kernel)⟩))
      exact ⟨[], ["p", "q"], [], o5, rfl, rfl, rfl, List.Sublist.refl _, fun p h => absurd h (by simp), rfl, b5.up (by simp; omega)⟩
    · rintro d r ys G ⟨qs, rs, rm, o', hq, hds, rfl, hsub, hv, rfl, b'⟩
      cases rs with
      | nil => cases hds
      | cons x rs =>
        cases hds
        have hlen := congrArg List.length hq
        simp only [List.length_append, List.length_cons, List.length_nil] at hlen
        refine ⟨_, _, rfl, w_test (w_d2 (w_F ?_))⟩
        (repeat (first | (with_reducible first | refine w_v rfl ?_ | refine w_c ?_ | refine w_d2 ?_ | refine w_cons ?_ | refine w_nil ?_ | refine w_call ?_ | refine w_tup ?_ | refine w_tpn ?_ | refine w_lst ?_ | refine w_lstM ?_ | refine w_wk ?_ | refine w_frz ?_ | refine w_meth ?_ | refine w_test ?_ | refine w_notT ?_ | refine w_andT ?_ | refine w_orT ?_ | refine w_yes ?_ | refine w_and ?_ | refine w_or ?_ | refine w_not ?_ | refine w_if ?_ | refine w_ifS ?_ | refine w_seq ?_ | refine w_next ?_ | refine w_cnt ?_ | refine w_ret ?_ | refine w_expr ?_ | refine w_asg ?_ | refine w_par ?_ | refine w_F ?_ | refine w_Fp ?_ | refine w_itL ?_ | refine w_itT ?_ | refine w_itK ?_ | refine w_rng ?_ | refine w_neg ?_ | refine w_dput ?_ | refine w_newD ?_) | with_reducible refine w_then ?_ | refine ⟨_, _, rfl, ?_⟩ | refine ⟨_, rfl, ?_⟩ | refine ⟨by decide, ?_⟩ | refine ⟨_, _, eqS (by decide +kernel) (by decide +kernel), ?_⟩ | refine ⟨(by simp only [List.length_cons, List.length_nil]; decide), ?_⟩ | refine ⟨fun c => absurd c (by decide +kernel), fun _ => ?_⟩ | refine ⟨fun _ => ?_, fun c => absurd c (by decide +kernel)⟩))
        refine w_take b' (by omega) (by omega) (by omega) fun r1 o6 r0 r1' b6 => ?_
        (repeat (first | (with_reducible first | refine w_v rfl ?_ | refine w_c ?_ | refine w_d2 ?_ | refine w_cons ?_ | refine w_nil ?_ | refine w_call ?_ | refine w_tup ?_ | refine w_tpn ?_ | refine w_lst ?_ | refine w_lstM ?_ | refine w_wk ?_ | refine w_frz ?_ | refine w_meth ?_ | refine w_test ?_ | refine w_notT ?_ | refine w_andT ?_ | refine w_orT ?_ | refine w_yes ?_ | refine w_and ?_ | refine w_or ?_ | refine w_not ?_ | refine w_if ?_ | refine w_ifS ?_ | refine w_seq ?_ | refine w_next ?_ | refine w_cnt ?_ | refine w_ret ?_ | refine w_expr ?_ | refine w_asg ?_ | refine w_par ?_ | refine w_F ?_ | refine w_Fp ?_ | refine w_itL ?_ | refine w_itT ?_ | refine w_itK ?_ | refine w_rng ?_ | refine w_neg ?_ | refine w_dput ?_ | refine w_newD ?_) | with_reducible refine w_then ?_ | refine ⟨_, _, rfl, ?_⟩ | refine ⟨_, rfl, ?_⟩ | refine ⟨by decide, ?_⟩ | refine ⟨_, _, eqS (by decide +kernel) (by decide +kernel), ?_⟩ | refine ⟨(by simp only [List.length_cons, List.length_nil]; decide), ?_⟩ | refine ⟨fun c => absurd c (by decide +kernel), fun _ => ?_⟩ | refine ⟨fun _ => ?_, fun c => absurd c (by decide +kernel)⟩))
        refine ⟨fun c => ?_, fun c => ⟨qs ++ [x], rs, rm, o6, by rw [hq]; simp, rfl, rfl, hsub.trans (List.sublist_append_left _ _), hv, rfl, b6.up (by simp; omega)⟩⟩
        refine w_tup (w_cons (w_v rfl (w_cons (w_d2 (w_c (w_F ?_))))))
        (repeat (first | (with_reducible first | refine w_v rfl ?_ | refine w_c ?_ | refine w_d2 ?_ | refine w_cons ?_ | refine w_nil ?_ | refine w_call ?_ | refine w_tup ?_ | refine w_tpn ?_ | refine w_lst ?_ | refine w_lstM ?_ | refine w_wk ?_ | refine w_frz ?_ | refine w_meth ?_ | refine w_test ?_ | refine w_notT ?_ | refine w_andT ?_ | refine w_orT ?_ | refine w_yes ?_ | refine w_and ?_ | refine w_or ?_ | refine w_not ?_ | refine w_if ?_ | refine w_ifS ?_ | refine w_seq ?_ | refine w_next ?_ | refine w_cnt ?_ | refine w_ret ?_ | refine w_expr ?_ | refine w_asg ?_ | refine w_par ?_ | refine w_F ?_ | refine w_Fp ?_ | refine w_itL ?_ | refine w_itT ?_ | refine w_itK ?_ | refine w_rng ?_ | refine w_neg ?_ | refine w_dput ?_ | refine w_newD ?_) | with_reducible refine w_then ?_ | refine ⟨_, _, rfl, ?_⟩ | refine ⟨_, rfl, ?_⟩ | refine ⟨by decide, ?_⟩ | refine ⟨_, _, eqS (by decide +kernel) (by decide +kernel), ?_⟩ | refine ⟨(by simp only [List.length_cons, List.length_nil]; decide), ?_⟩ | refine ⟨fun c => absurd c (by decide +kernel), fun _ => ?_⟩ | refine ⟨fun _ => ?_, fun c => absurd c (by decide +kernel)⟩))
        refine w_take b6 (by omega) (by omega) (by omega) fun r2 o7 r20 r21 b7 => ?_
        (repeat (first | (with_reducible first | refine w_v rfl ?_ | refine w_c ?_ | refine w_d2 ?_ | refine w_cons ?_ | refine w_nil ?_ | refine w_call ?_ | refine w_tup ?_ | refine w_tpn ?_ | refine w_lst ?_ | refine w_lstM ?_ | refine w_wk ?_ | refine w_frz ?_ | refine w_meth ?_ | refine w_test ?_ | refine w_notT ?_ | refine w_andT ?_ | refine w_orT ?_ | refine w_yes ?_ | refine w_and ?_ | refine w_or ?_ | refine w_not ?_ | refine w_if ?_ | refine w_ifS ?_ | refine w_seq ?_ | refine w_next ?_ | refine w_cnt ?_ | refine w_ret ?_ | refine w_expr ?_ | refine w_asg ?_ | refine w_par ?_ | refine w_F ?_ | refine w_Fp ?_ | refine w_itL ?_ | refine w_itT ?_ | refine w_itK ?_ | refine w_rng ?_ | refine w_neg ?_ | refine w_dput ?_ | refine w_newD ?_) | with_reducible refine w_then ?_ | refine ⟨_, _, rfl, ?_⟩ | refine ⟨_, rfl, ?_⟩ | refine ⟨by decide, ?_⟩ | refine ⟨_, _, eqS (by decide +kernel) (by decide +kernel), ?_⟩ | refine ⟨(by simp only [List.length_cons, List.length_nil]; decide), ?_⟩ | refine ⟨fun c => absurd c (by decide +kernel), fun _ => ?_⟩ | refine ⟨fun _ => ?_, fun c => absurd c (by decide +kernel)⟩))
        refine ⟨qs ++ [x], rs, rm ++ [(x, 1 + r2)], o7, by rw [hq]; simp, rfl, by simp [roomD], ?_, ?_, rfl, b7.up (by simp; omega)⟩
        · rw [List.map_append]
          exact hsub.append (List.Sublist.refl _)
        · intro p hp
          rcases List.mem_append.mp hp with hp | hp
          · exact hv p hp
          · rw [List.mem_singleton.mp hp]
            show 1 ≤ 1 + r2
            omega
    · rintro ys G ⟨qs, rs, rm, o6, hq, hds, rfl, hsub, hv, rfl, b6⟩
      have hrs : rs = [] := by cases rs with | nil => rfl | cons => cases hds
      subst hrs
      rw [List.append_nil] at hq
      subst hq
      have hml := hsub.length_le
      rw [List.length_map] at hml
      refine ⟨by rw [List.length_map]; exact Nat.le_trans hml (by decide), w_nil ⟨.tup (rm.map roomD), _, rfl, _, _, rfl, w_then ?_⟩⟩
      refine w_ret (w_tup (w_cons (w_call (w_cons (w_v rfl (w_nil ⟨.tup (R.map toR), o6 :: e5, ?_, ?_⟩))))))
      · unfold listP
        simp only [inS, inL, lk0 hj]
        rfl
      have ho : Ho tags crowd begun t0 ts R (if crowd = [] then [] else [(("g" : Str), t0)]) rm := ⟨tg, htc, by rw [hR, hl], hcs, bnd, bsub, fun x hx => by rw [← hbe]; exact List.mem_append_left _ hx, by omega, hRS, rfl, hsub, hv⟩
      have fin := q _ _ _ _ _ _ _ _ o6 e5 ho (b6.up (by decide))
      refine w_cons (w_if (w_test (w_d2 (w_v rfl (w_lst (w_nil ⟨by decide, .bl (!crowd.isEmpty), o6 :: e5, by unfold pur2 pur; rw [eqO_nil okc]; rfl, _, rfl, fun c => ?_, fun c => ?_⟩))))))
      · have c0 : ¬ crowd = [] := by
          intro z
          rw [z] at c
          cases c
        refine w_tpn (w_cons (w_tup (w_cons (w_c (w_cons (w_d2 (w_v rfl (w_c ⟨.str t0, o6 :: e5, ?_, ?_⟩))))))))
        · subst htc
          exact ixl0 _ _ _
        refine w_nil ⟨(by simp only [List.length_cons, List.length_nil]; decide), w_nil ⟨(by simp only [List.length_cons, List.length_nil]; decide), ?_⟩⟩
        refine w_cons (w_v rfl (w_nil ⟨(by simp only [List.length_cons, List.length_nil]; decide), _, rfl, ?_⟩))
        rw [if_neg c0] at fin
        exact fin
      · have c0 : crowd = [] := by
          cases crowd with
          | nil => rfl
          | cons => cases c
        refine w_tpn (w_nil ⟨by decide, w_cons (w_v rfl (w_nil ⟨(by simp only [List.length_cons, List.length_nil]; decide), _, rfl, ?_⟩))⟩)
        rw [if_pos c0] at fin
        exact fin
end K01

namespace K01
open PySem PySem.Spec PyProof.Rows L2 Tw
/-! ### what a drawn house holds -/
def layS (d : D) : Bool := match toP d with
  | some p => PyData.canLay0 p && decide (PyData.depth p ≤ 10)
  | none => false
def chk2 (d : D) : Bool := chk d && layS d
theorem Pl_chk2 : Pl.all chk2 = true := by kernel_rfl
theorem io_chk2 : [inD1, outD1].all chk2 = true := by kernel_rfl
theorem Jn_chk2 : names5.all (fun x => (Jn x).all chk2) = true := by kernel_rfl
theorem St_chk2 : names5.all (fun x => chk2 (startD x) && (delta (startD x) == 0 && (wrd (startD x) == "start" && arg (startD x) == x))) = true := by kernel_rfl
theorem Sh_chk2 : [shutD "close", shutD "catch"].all (fun d => chk2 d && (delta d == 0 && (cw2.contains (wrd d) && (arg d == "g" && (!(tw3.contains (wrd d)) && !(sw1.contains (wrd d))))))) = true := by kernel_rfl
theorem nmS_app (n : Str) (ws : List Str) : ∀ (a b : List D) (k : Nat), nmS n ws k (a ++ b) = nmS n ws k a ++ nmS n ws (k + a.length) b
  | [], b, k => by simp [nmS]
  | d :: a, b, k => by
    simp only [List.cons_append, nmS, List.length_cons]
    rw [nmS_app n ws a b (k + 1)]
    have : k + 1 + a.length = k + (a.length + 1) := by omega
    rw [this]
    split <;> rfl
theorem nmS_none (n : Str) (ws : List Str) : ∀ (a : List D) (k : Nat), (∀ d ∈ a, ws.contains (wrd d) = false) → nmS n ws k a = []
  | [], k, _ => rfl
  | d :: a, k, h => by
    simp only [nmS]
    rw [if_neg (by rw [h d List.mem_cons_self]; simp)]
    exact nmS_none n ws a (k + 1) fun x hx => h x (List.mem_cons_of_mem _ hx)
theorem nmS_mem (n : Str) (ws : List Str) : ∀ (a : List D) (k : Nat) (t : It), t ∈ nmS n ws k a → ∃ d, d ∈ a ∧ ws.contains (wrd d) = true ∧ t.1 = arg d ∧ t.2.1 = n
  | [], k, t, h => by cases h
  | d :: a, k, t, h => by
    simp only [nmS] at h
    split at h
    · rename_i hc
      rcases List.mem_cons.mp h with rfl | h
      · exact ⟨d, List.mem_cons_self, hc, rfl, rfl⟩
      · obtain ⟨x, h1, h2⟩ := nmS_mem n ws a (k + 1) t h
        exact ⟨x, List.mem_cons_of_mem _ h1, h2⟩
    · obtain ⟨x, h1, h2⟩ := nmS_mem n ws a (k + 1) t h
      exact ⟨x, List.mem_cons_of_mem _ h1, h2⟩
theorem nmS_len (n : Str) (ws : List Str) : ∀ (a : List D) (k : Nat), (nmS n ws k a).length ≤ a.length
  | [], k => Nat.le_refl _
  | d :: a, k => by
    have ih := nmS_len n ws a (k + 1)
    simp only [nmS]
    split
    · simp only [List.length_cons]; omega
    · simp only [List.length_cons]; omega
theorem nm_mem {ws : List Str} {rows : List Rw} {t : It} (h : t ∈ nm ws rows) : ∃ r ∈ rows, ∃ d, d ∈ r.2.2 ∧ ws.contains (wrd d) = true ∧ t.1 = arg d ∧ t.2.1 = r.1 := by
  obtain ⟨r, hr, h⟩ := List.mem_flatMap.mp h
  obtain ⟨d, h1, h2, h3, h4⟩ := nmS_mem _ _ _ _ _ h
  exact ⟨r, hr, d, h1, h2, h3, h4⟩
theorem nm_len (ws : List Str) : ∀ {rows : List Rw} {m : Nat}, (∀ r ∈ rows, r.2.2.length ≤ m) → (nm ws rows).length ≤ rows.length * m
  | [], m, _ => by simp [nm]
  | r :: rows, m, h => by
    have ih := nm_len ws (rows := rows) (m := m) fun q hq => h q (List.mem_cons_of_mem _ hq)
    have e : nm ws (r :: rows) = nmS r.1 ws 0 r.2.2 ++ nm ws rows := by simp [nm]
    rw [e, List.length_append, List.length_cons, Nat.add_mul]
    have := nmS_len r.1 ws r.2.2 0
    have := h r List.mem_cons_self
    omega
/-- each step is one that can be looked at, and the shields close -/
structure Sc (s : List D) : Prop where
  c : ∀ d ∈ s, chk2 d = true
  w : walk 0 s = some 0
  l : s.length ≤ 20
theorem walk_ins (d : D) (h : delta d = 0) : ∀ (a b : List D) (c : Int), 0 ≤ c → walk c (a ++ d :: b) = walk c (a ++ b)
  | [], b, c, hc => by
    show walk c (d :: b) = walk c b
    simp only [walk, h, Int.add_zero]
    rw [if_pos hc]
  | x :: a, b, c, hc => by
    simp only [List.cons_append, walk]
    split
    · rename_i h0
      exact walk_ins d h a b _ h0
    · rfl
theorem walk_zeros : ∀ (a b : List D), (∀ d ∈ a, delta d = 0) → walk 0 (a ++ b) = walk 0 b
  | [], b, _ => rfl
  | d :: a, b, h => by
    have := walk_ins d (h d List.mem_cons_self) [] (a ++ b) 0 (Int.le_refl 0)
    rw [List.cons_append]
    exact this.trans (walk_zeros a b fun x hx => h x (List.mem_cons_of_mem _ hx))
theorem dr1_chk {others : List Str} (hn : ∀ x ∈ others, x ∈ names5) {d : D} (h : Dr1 others d) : chk2 d = true := by
  rcases h with h | rfl | rfl | ⟨x, hx, h⟩
  · exact List.all_eq_true.mp Pl_chk2 d h
  · exact List.all_eq_true.mp io_chk2 _ (by simp)
  · exact List.all_eq_true.mp io_chk2 _ (by simp)
  · exact List.all_eq_true.mp (List.all_eq_true.mp Jn_chk2 x (hn x hx)) d h
/-- what a drawn step names -/
theorem dr1_names {others : List Str} (hn : ∀ x ∈ others, x ∈ names5) {d : D} (h : Dr1 others d) : sw1.contains (wrd d) = false ∧ cw2.contains (wrd d) = false ∧ (tw3.contains (wrd d) = true → arg d ∈ others) := by
  rcases h with h | rfl | rfl | ⟨x, hx, h⟩
  · have := List.all_eq_true.mp Pl_chk d h
    simp only [Bool.and_eq_true, Bool.not_eq_true'] at this
    exact ⟨this.2.2.2.2, this.2.2.2.1, fun c => by rw [this.2.2.1] at c; cases c⟩
  · have := List.all_eq_true.mp io_chk inD1 (by simp)
    simp only [Bool.and_eq_true, Bool.not_eq_true'] at this
    exact ⟨this.2.2.2, this.2.2.1, fun c => by rw [this.2.1] at c; cases c⟩
  · have := List.all_eq_true.mp io_chk outD1 (by simp)
    simp only [Bool.and_eq_true, Bool.not_eq_true'] at this
    exact ⟨this.2.2.2, this.2.2.1, fun c => by rw [this.2.1] at c; cases c⟩
  · have := List.all_eq_true.mp (List.all_eq_true.mp Jn_chk x (hn x hx)) d h
    simp only [Bool.and_eq_true, Bool.not_eq_true', beq_iff_eq] at this
    exact ⟨this.2.2.2.2, this.2.2.2.1, fun _ => by rw [this.2.2.1]; exact hx⟩
theorem start_ok {x : Str} (h : x ∈ names5) : chk2 (startD x) = true ∧ delta (startD x) = 0 ∧ wrd (startD x) = "start" ∧ arg (startD x) = x := by
  have := List.all_eq_true.mp St_chk2 x h
  simp only [Bool.and_eq_true, beq_iff_eq] at this
  exact ⟨this.1, this.2.1, this.2.2.1, this.2.2.2⟩
theorem shut_ok {d : D} (h : d = shutD "close" ∨ d = shutD "catch") : chk2 d = true ∧ delta d = 0 ∧ cw2.contains (wrd d) = true ∧ arg d = "g" ∧ tw3.contains (wrd d) = false ∧ sw1.contains (wrd d) = false := by
  have := List.all_eq_true.mp Sh_chk2 d (by rcases h with rfl | rfl <;> simp)
  simp only [Bool.and_eq_true, beq_iff_eq, Bool.not_eq_true'] at this
  exact ⟨this.1, this.2.1, this.2.2.1, this.2.2.2.1, this.2.2.2.2.1, this.2.2.2.2.2⟩
section
variable {tags crowd begun ts : List Str} {t0 : Str} {rows : List Rw} {gs : List (Str × Str)} {rooms : List Rm}
theorem Ho.others (h : Ho tags crowd begun t0 ts rows gs rooms) (x : Str) : ∀ y ∈ othersOf tags x, y ∈ names5 := fun y hy => h.tg.mem y (List.mem_filter.mp hy).1
theorem Ho.ts5 (h : Ho tags crowd begun t0 ts rows gs rooms) : ∀ y ∈ ts, y ∈ names5 := fun y hy => h.tg.mem y (by rw [h.cons]; exact List.mem_cons_of_mem _ hy)
theorem Ho.b5 (h : Ho tags crowd begun t0 ts rows gs rooms) : ∀ y ∈ begun, y ∈ names5 := fun y hy => h.ts5 y (h.bsub y hy)
theorem first_sc {s : List D} (h : Ho tags crowd begun t0 ts rows gs rooms) (x : Str) (f : First (othersOf tags x) crowd begun s) : Sc s := by
  obtain ⟨s1, s2, sh, rfl, hd, hl, hsh⟩ := f
  have shc : ∀ d ∈ sh, chk2 d = true ∧ delta d = 0 := fun d hd => by
    rcases hsh with ⟨_, rfl⟩ | ⟨_, rfl | rfl⟩
    · cases hd
    · have := shut_ok (d := d) (.inl (List.mem_singleton.mp hd)); exact ⟨this.1, this.2.1⟩
    · have := shut_ok (d := d) (.inr (List.mem_singleton.mp hd)); exact ⟨this.1, this.2.1⟩
  have shl : sh.length ≤ 1 := by
    rcases hsh with ⟨_, rfl⟩ | ⟨_, rfl | rfl⟩ <;> simp
  refine ⟨fun d hdm => ?_, ?_, ?_⟩
  · rcases List.mem_append.mp hdm with hm | hm
    · obtain ⟨y, hy, rfl⟩ := List.mem_map.mp hm
      exact (start_ok (h.b5 y hy)).1
    · rcases List.mem_append.mp hm with hm | hm
      · exact dr1_chk (h.others x) (hd.1 d (List.mem_append_left _ hm))
      · rcases List.mem_append.mp hm with hm | hm
        · exact (shc d hm).1
        · exact dr1_chk (h.others x) (hd.1 d (List.mem_append_right _ hm))
  · rw [walk_zeros _ _ fun d hdm => by obtain ⟨y, hy, rfl⟩ := List.mem_map.mp hdm; exact (start_ok (h.b5 y hy)).2.1]
    rcases hsh with ⟨_, rfl⟩ | ⟨_, rfl | rfl⟩
    · exact hd.2
    · rw [List.singleton_append, walk_ins _ (shut_ok (.inl rfl)).2.1 _ _ _ (Int.le_refl 0)]
      exact hd.2
    · rw [List.singleton_append, walk_ins _ (shut_ok (.inr rfl)).2.1 _ _ _ (Int.le_refl 0)]
      exact hd.2
  · have := h.bl
    simp only [List.length_append, List.length_map] at hl ⊢
    omega
theorem Ho.sc (h : Ho tags crowd begun t0 ts rows gs rooms) : ∀ r ∈ rows, Sc r.2.2 := fun r hr => by
  obtain ⟨_, h2⟩ := h.rs r hr
  split at h2
  · exact first_sc h _ h2
  · exact ⟨fun d hd => dr1_chk (h.others _) (h2.1.1 d hd), h2.1.2, by omega⟩
end
end K01

namespace K01
open PySem PySem.Spec PyProof.Rows L2 Tw
theorem chk2_all {d : D} (h : chk2 d = true) : isS d = true ∧ okS d = true ∧ okA tw3 d = true ∧ okA cw2 d = true ∧ okA sw1 d = true ∧ layS d = true := by
  unfold chk2 chk at h
  simp only [Bool.and_eq_true] at h
  exact ⟨h.1.1, h.1.2.1, h.1.2.2.1, h.1.2.2.2.1, h.1.2.2.2.2, h.2⟩
/-- rows that can be looked at, for any script -/
theorem rowsOk_of {rows : List Rw} (nd : (rows.map (·.1)).Nodup) (n : ∀ r ∈ rows, PyData.strOk r.1 = true) (g : ∀ r ∈ rows, PyData.strOk r.2.1 = true) (c : ∀ r ∈ rows, ∀ d ∈ r.2.2, chk2 d = true) (z : rows.length ≤ 5) (l : ∀ r ∈ rows, r.2.2.length ≤ 30)
    (a : ∀ r ∈ rows, ∀ d ∈ r.2.2, tw3.contains (wrd d) = true → PyData.strOk (arg d) = true) : RowsOk rows ∧ (nm sw1 rows).length ≤ 1000 := by
  have ln : ∀ ws, (nm ws rows).length ≤ 1000 := fun ws => Nat.le_trans (nm_len ws l) (by omega)
  refine ⟨⟨nd, n, g, fun r hr => List.all_eq_true.mpr fun d hd => (chk2_all (c r hr d hd)).1, fun r hr => List.all_eq_true.mpr fun d hd => (chk2_all (c r hr d hd)).2.2.1, fun r hr => List.all_eq_true.mpr fun d hd => (chk2_all (c r hr d hd)).2.2.2.1, by omega, ln _, ln _, fun t ht => ?_⟩, ln _⟩
  obtain ⟨r, hr, d, hd, hc, e1, e2⟩ := nm_mem ht
  exact ⟨by rw [e1]; exact a r hr d hd hc, by rw [e2]; exact n r hr⟩
def stI (n : Str) : Nat → List Str → List It
  | _, [] => []
  | k, b :: bs => (b, n, k) :: stI n (k + 1) bs
theorem stI_fst (n : Str) : ∀ (bs : List Str) (k : Nat), (stI n k bs).map (·.1) = bs
  | [], k => rfl
  | b :: bs, k => by simp [stI, stI_fst n bs]
theorem stI_mem (n : Str) : ∀ (bs : List Str) (k : Nat) (t : It), t ∈ stI n k bs → t.2.1 = n ∧ t.2.2 < k + bs.length
  | [], k, t, h => by cases h
  | b :: bs, k, t, h => by
    rcases List.mem_cons.mp h with rfl | h
    · exact ⟨rfl, by simp⟩
    · obtain ⟨h1, h2⟩ := stI_mem n bs (k + 1) t h
      exact ⟨h1, by simp only [List.length_cons]; omega⟩
theorem stI_at (n : Str) : ∀ (bs : List Str) (k : Nat) (b : Str), b ∈ bs → ∃ i, (b, n, i) ∈ stI n k bs ∧ i < k + bs.length
  | [], k, b, h => by cases h
  | c :: bs, k, b, h => by
    rcases List.mem_cons.mp h with rfl | h
    · exact ⟨k, List.mem_cons_self, by simp⟩
    · obtain ⟨i, h1, h2⟩ := stI_at n bs (k + 1) b h
      exact ⟨i, List.mem_cons_of_mem _ h1, by simp only [List.length_cons]; omega⟩
theorem nmS_starts (n : Str) : ∀ (bs : List Str) (k : Nat), (∀ b ∈ bs, b ∈ names5) → nmS n sw1 k (bs.map startD) = stI n k bs
  | [], k, _ => rfl
  | b :: bs, k, h => by
    obtain ⟨_, _, h3, h4⟩ := start_ok (h b List.mem_cons_self)
    simp only [List.map_cons, nmS, stI, h3, h4]
    rw [if_pos (by decide +kernel), nmS_starts n bs (k + 1) fun x hx => h x (List.mem_cons_of_mem _ hx)]
section
variable {tags crowd begun ts : List Str} {t0 : Str} {rows : List Rw} {gs : List (Str × Str)} {rooms : List Rm}
theorem Ho.nd (h : Ho tags crowd begun t0 ts rows gs rooms) : t0 ∉ ts ∧ ts.Nodup := by
  have := h.tg.nd
  rw [h.cons] at this
  exact List.nodup_cons.mp this
theorem Ho.split (h : Ho tags crowd begun t0 ts rows gs rooms) : ∃ r0 rest, rows = r0 :: rest ∧ r0.1 = t0 ∧ First (othersOf tags t0) crowd begun r0.2.2 ∧ ∀ r ∈ rest, r.1 ∈ ts ∧ DrS (othersOf tags r.1) r.2.2 := by
  have hn := h.names
  rw [h.cons] at hn
  cases rows with
  | nil => cases hn
  | cons r0 rest =>
    rw [List.map_cons] at hn
    obtain ⟨e1, e2⟩ := List.cons.inj hn
    refine ⟨r0, rest, rfl, e1, ?_, fun r hr => ?_⟩
    · have := (h.rs r0 List.mem_cons_self).2
      rw [if_pos e1, e1] at this
      exact this
    · have hts : r.1 ∈ ts := by rw [← e2]; exact List.mem_map.mpr ⟨r, hr, rfl⟩
      have := (h.rs r (List.mem_cons_of_mem _ hr)).2
      rw [if_neg (fun e => h.nd.1 (by rw [← e]; exact hts))] at this
      exact ⟨hts, this.1⟩
theorem Ho.refs (h : Ho tags crowd begun t0 ts rows gs rooms) : ∀ r ∈ rows, ∀ d ∈ r.2.2, tw3.contains (wrd d) = true → arg d ∈ tags ∧ arg d ≠ r.1 := by
  have oth : ∀ {x y : Str}, y ∈ othersOf tags x → y ∈ tags ∧ y ≠ x := fun hy => by
    obtain ⟨h1, h2⟩ := List.mem_filter.mp hy
    exact ⟨h1, by simpa using h2⟩
  obtain ⟨r0, rest, rfl, e0, hf, hrest⟩ := h.split
  intro r hr d hd hc
  rcases List.mem_cons.mp hr with rfl | hr
  · obtain ⟨s1, s2, sh, es, hds, hl, hsh⟩ := hf
    rw [es] at hd
    rw [e0]
    rcases List.mem_append.mp hd with hd | hd
    · obtain ⟨y, hy, rfl⟩ := List.mem_map.mp hd
      rw [(start_ok (h.b5 y hy)).2.2.2]
      refine ⟨by rw [h.cons]; exact List.mem_cons_of_mem _ (h.bsub y hy), fun e => h.nd.1 (by rw [← e]; exact h.bsub y hy)⟩
    · rcases List.mem_append.mp hd with hd | hd
      · exact oth ((dr1_names (h.others t0) (hds.1 d (List.mem_append_left _ hd))).2.2 hc)
      · rcases List.mem_append.mp hd with hd | hd
        · exfalso
          have : tw3.contains (wrd d) = false := by
            rcases hsh with ⟨_, rfl⟩ | ⟨_, rfl | rfl⟩
            · cases hd
            · exact (shut_ok (.inl (List.mem_singleton.mp hd))).2.2.2.2.1
            · exact (shut_ok (.inr (List.mem_singleton.mp hd))).2.2.2.2.1
          rw [this] at hc
          cases hc
        · exact oth ((dr1_names (h.others t0) (hds.1 d (List.mem_append_right _ hd))).2.2 hc)
  · obtain ⟨_, hds⟩ := hrest r hr
    exact oth ((dr1_names (h.others r.1) (hds.1 d hd)).2.2 hc)
theorem Ho.starts (h : Ho tags crowd begun t0 ts rows gs rooms) : nm sw1 rows = stI t0 0 begun := by
  obtain ⟨r0, rest, rfl, e0, hf, hrest⟩ := h.split
  have e : nm sw1 (r0 :: rest) = nmS r0.1 sw1 0 r0.2.2 ++ nm sw1 rest := by simp [nm]
  have e2 : nm sw1 rest = [] := by
    unfold nm
    rw [List.flatMap_eq_nil_iff]
    intro r hr
    exact nmS_none _ _ _ _ fun d hd => (dr1_names (h.others r.1) ((hrest r hr).2.1 d hd)).1
  obtain ⟨s1, s2, sh, es, hds, hl, hsh⟩ := hf
  rw [e, e2, List.append_nil, es, nmS_app, e0, nmS_starts t0 begun 0 h.b5, nmS_none, List.append_nil]
  intro d hd
  rcases List.mem_append.mp hd with hd | hd
  · exact (dr1_names (h.others t0) (hds.1 d (List.mem_append_left _ hd))).1
  · rcases List.mem_append.mp hd with hd | hd
    · rcases hsh with ⟨_, rfl⟩ | ⟨_, rfl | rfl⟩
      · cases hd
      · exact (shut_ok (.inl (List.mem_singleton.mp hd))).2.2.2.2.2
      · exact (shut_ok (.inr (List.mem_singleton.mp hd))).2.2.2.2.2
    · exact (dr1_names (h.others t0) (hds.1 d (List.mem_append_right _ hd))).1
theorem Ho.shuts (h : Ho tags crowd begun t0 ts rows gs rooms) : (crowd = [] ∧ nm cw2 rows = []) ∨ (crowd ≠ [] ∧ ∃ k, begun.length ≤ k ∧ nm cw2 rows = [(("g" : Str), t0, k)]) := by
  obtain ⟨r0, rest, rfl, e0, hf, hrest⟩ := h.split
  have e : nm cw2 (r0 :: rest) = nmS r0.1 cw2 0 r0.2.2 ++ nm cw2 rest := by simp [nm]
  have e2 : nm cw2 rest = [] := by
    unfold nm
    rw [List.flatMap_eq_nil_iff]
    intro r hr
    exact nmS_none _ _ _ _ fun d hd => (dr1_names (h.others r.1) ((hrest r hr).2.1 d hd)).2.1
  obtain ⟨s1, s2, sh, es, hds, hl, hsh⟩ := hf
  have n1 : ∀ k, nmS t0 cw2 k s1 = [] := fun k => nmS_none _ _ _ _ fun d hd => (dr1_names (h.others t0) (hds.1 d (List.mem_append_left _ hd))).2.1
  have n2 : ∀ k, nmS t0 cw2 k s2 = [] := fun k => nmS_none _ _ _ _ fun d hd => (dr1_names (h.others t0) (hds.1 d (List.mem_append_right _ hd))).2.1
  have n0 : ∀ k, nmS t0 cw2 k (begun.map startD) = [] := fun k => nmS_none _ _ _ _ fun d hd => by
    obtain ⟨y, hy, rfl⟩ := List.mem_map.mp hd
    rw [(start_ok (h.b5 y hy)).2.2.1]
    decide +kernel
  have ee : nm cw2 (r0 :: rest) = nmS t0 cw2 (0 + (begun.map startD).length + s1.length) sh := by
    rw [e, e2, List.append_nil, es, e0, nmS_app, nmS_app, nmS_app, n0, n1, n2, List.append_nil, List.nil_append, List.nil_append]
  have sx : ∀ {d : D}, (d = shutD "close" ∨ d = shutD "catch") → nmS t0 cw2 (0 + (begun.map startD).length + s1.length) [d] = [(("g" : Str), t0, 0 + (begun.map startD).length + s1.length)] := fun {d} hd => by
    obtain ⟨_, _, h3, h4, _⟩ := shut_ok hd
    simp only [nmS]
    rw [if_pos h3, h4]
  rcases hsh with ⟨c0, rfl⟩ | ⟨c0, rfl | rfl⟩
  · exact .inl ⟨c0, by rw [ee]; rfl⟩
  · exact .inr ⟨c0, 0 + (begun.map startD).length + s1.length, by rw [List.length_map]; omega, by rw [ee, sx (.inl rfl)]⟩
  · exact .inr ⟨c0, 0 + (begun.map startD).length + s1.length, by rw [List.length_map]; omega, by rw [ee, sx (.inr rfl)]⟩
theorem Ho.rowsOk (h : Ho tags crowd begun t0 ts rows gs rooms) : RowsOk rows ∧ (nm sw1 rows).length ≤ 1000 := by
  have hm : ∀ r ∈ rows, r.1 ∈ tags := fun r hr => by rw [← h.names]; exact List.mem_map.mpr ⟨r, hr, rfl⟩
  have lr : rows.length = tags.length := by rw [← h.names, List.length_map]
  refine rowsOk_of (by rw [h.names]; exact h.tg.nd) (fun r hr => okm (h.tg.mem _ (hm r hr))) (fun r hr => ?_) (fun r hr => (h.sc r hr).c) (by have := h.tg.hi; omega) (fun r hr => by have := (h.sc r hr).l; omega) fun r hr d hd hc => okm (h.tg.mem _ (h.refs r hr d hd hc).1)
  rw [(h.rs r hr).1]
  split <;> decide +kernel
theorem Ho.good (h : Ho tags crowd begun t0 ts rows gs rooms) : (nm tw3 rows).any (badI (rows.map (·.1))) = false := by
  rw [List.any_eq_false]
  intro t ht
  obtain ⟨r, hr, d, hd, hc, e1, e2⟩ := nm_mem ht
  obtain ⟨h1, h2⟩ := h.refs r hr d hd hc
  unfold badI
  rw [h.names, e1, e2, List.contains_iff_mem.mpr h1, beq_eq_false_iff_ne.mpr h2]
  simp
end
end K01

namespace K01
open PySem PySem.Spec PyProof.Rows L2 Tw
theorem ok_g : PyData.strOk "g" = true ∧ okN "g" = true ∧ okN "zzz" = true := by decide +kernel
theorem okN5 : names5.all okN = true := by kernel_rfl
section
variable {tags crowd begun ts : List Str} {t0 : Str} {rows : List Rw} {gs : List (Str × Str)} {rooms : List Rm}
theorem Ho.t0m (h : Ho tags crowd begun t0 ts rows gs rooms) : t0 ∈ names5 := h.tg.mem t0 (by rw [h.cons]; simp)
theorem Ho.closed (h : Ho tags crowd begun t0 ts rows gs rooms) : gs.all (closedB ((nm cw2 rows).map kvI)) = true := by
  rw [h.gs]
  rcases h.shuts with ⟨c0, _⟩ | ⟨c0, k, _, e⟩
  · rw [if_pos c0]; rfl
  · rw [if_neg c0, e]
    simp [closedB, kvI, lookK]
theorem Ho.hang (h : Ho tags crowd begun t0 ts rows gs rooms) (more : List (Str × Str)) (hm : more = [] ∨ ∃ x, x ∈ names5 ∧ more = [(("zzz" : Str), x)]) :
    Ans F_hangs_together [.tup (rows.map toR), .tpn ((gs ++ more).map pairD)] (.bl ((gs ++ more).all (closedB ((nm cw2 rows).map kvI)))) := by
  have ho := h.rowsOk
  have okt0 := okm h.t0m
  have hg := h.gs
  have fstS : (nm sw1 rows).map (·.1) = begun := by rw [h.starts, stI_fst]
  refine hang_ok ho.1 (t0 := t0) ?_ ?_ ?_ h.good ?_ (fun r hr => List.all_eq_true.mpr fun d hd => (chk2_all ((h.sc r hr).c d hd)).2.2.2.2.1) ho.2 (by rw [fstS]; exact h.bnd) ?_ (fun t ht => ?_) (by rw [fstS]; exact fun hx => h.nd.1 (h.bsub _ hx)) (fun t ht => ?_) (fun hc r hr => ?_)
  · rw [hg]
    rcases hm with rfl | ⟨x, _, rfl⟩ <;> split <;> first | (show ([] : List Str).Nodup; decide +kernel) | (show (["g"] : List Str).Nodup; decide +kernel) | (show (["zzz"] : List Str).Nodup; decide +kernel) | (show (["g", "zzz"] : List Str).Nodup; decide +kernel)
  · rw [hg]
    rcases hm with rfl | ⟨x, _, rfl⟩ <;> split <;> simp
  · intro p hp
    rw [hg] at hp
    rcases List.mem_append.mp hp with hp | hp
    · split at hp
      · cases hp
      · rw [List.mem_singleton.mp hp]; exact okt0
    · rcases hm with rfl | ⟨x, hx, rfl⟩
      · cases hp
      · rw [List.mem_singleton.mp hp]; exact okm hx
  · rw [List.all_eq_true]
    intro x hx
    unfold named at hx
    have key : crowd ≠ [] → x = "g" → (((gs ++ more).map (·.1)).contains x) = true := fun c0 e => by
      rw [hg, if_neg c0, e]
      simp
    rcases List.mem_append.mp hx with hx | hx
    · obtain ⟨r, hr, e⟩ := List.mem_map.mp hx
      obtain ⟨hr1, hr2⟩ := List.mem_filter.mp hr
      have hrg := (h.rs r hr1).1
      unfold inGroup at hr2
      by_cases hc : crowd.contains r.1 = true
      · rw [if_pos hc] at hrg
        refine key (fun z => ?_) (by rw [← e, hrg])
        rw [z] at hc
        cases hc
      · rw [if_neg hc] at hrg
        rw [hrg] at hr2
        exact absurd hr2 (by decide +kernel)
    · rcases h.shuts with ⟨_, e⟩ | ⟨c0, k, _, e⟩
      · rw [e] at hx; cases hx
      · rw [e] at hx
        exact key c0 (List.mem_singleton.mp hx)
  · rcases h.shuts with ⟨_, e⟩ | ⟨_, k, _, e⟩ <;> rw [e] <;> simp
  · rw [h.starts] at ht
    exact (stI_mem _ _ _ _ ht).1
  · rcases h.shuts with ⟨_, e⟩ | ⟨_, k, _, e⟩
    · rw [e] at ht; cases ht
    · rw [e] at ht
      rw [List.mem_singleton.mp ht]
      exact okt0
  · have hrg := (h.rs r hr).1
    refine ⟨ho.1.g r hr, ?_⟩
    by_cases hcr : crowd.contains r.1 = true
    · rw [if_pos hcr] at hrg
      have hcm : r.1 ∈ crowd := List.contains_iff_mem.mp hcr
      have c0 : crowd ≠ [] := fun z => by rw [z] at hcm; cases hcm
      rcases h.shuts with ⟨z, _⟩ | ⟨_, k, hk, e⟩
      · exact absurd z c0
      · obtain ⟨i, hi, hik⟩ := stI_at t0 begun 0 r.1 (h.cb r.1 hcm)
        refine .inr ⟨t0, (i : Nat), (k : Nat), .str t0, okt0, ?_, ?_, ?_, by omega⟩
        · rw [h.starts]
          exact lookK_eq (nd_key (·.1) kvI (fun _ => rfl) (by rw [stI_fst]; exact h.bnd)) (List.mem_map.mpr ⟨(r.1, t0, i), hi, rfl⟩)
        · rw [hrg, hg, if_neg c0]
          rfl
        · rw [hrg, e]
          rfl
    · rw [if_neg hcr] at hrg
      exact .inl hrg
theorem Ho.len (h : Ho tags crowd begun t0 ts rows gs rooms) : 2 ≤ rows.length ∧ rows.length ≤ 4 := by
  have e : rows.length = tags.length := by rw [← h.names, List.length_map]
  exact ⟨by rw [e]; exact h.tg.lo, by rw [e]; exact h.tg.hi⟩
theorem Ho.rms2 (h : Ho tags crowd begun t0 ts rows gs rooms) : (∀ p ∈ rooms, okN p.1 = true) ∧ rooms.length ≤ 2 ∧ asc (rooms.map (·.1)) = true ∧ (rooms.all fun p => decide (1 ≤ p.2)) = true := by
  have hp : ∀ x ∈ (["p", "q"] : List Str), okN x = true := by
    have : (["p", "q"] : List Str).all okN = true := by kernel_rfl
    exact fun x hx => List.all_eq_true.mp this x hx
  have hl := h.rms.length_le
  rw [List.length_map] at hl
  refine ⟨fun p hpm => hp p.1 (h.rms.subset (List.mem_map.mpr ⟨p, hpm, rfl⟩)), hl, ?_, List.all_eq_true.mpr fun p hpm => decide_eq_true (h.rv p hpm)⟩
  refine asc_of (h.rms.nodup (by decide +kernel)) (List.Pairwise.sublist h.rms ?_)
  decide +kernel
theorem sc_ans {s : List D} (hc : ∀ d ∈ s, chk2 d = true) {e : Int} (w : walk 0 s = some e) (l : s.length ≤ 100) : Ans F_is_script [.tup s] (.bl (decide (e = 0))) :=
  script_any (List.all_eq_true.mpr fun d hd => (chk2_all (hc d hd)).1) (List.all_eq_true.mpr fun d hd => (chk2_all (hc d hd)).2.1) (Nat.le_trans (by omega : s.length + 1 ≤ 1000) (by decide)) w
/-- a house of such rows, whose scripts may be bent -/
theorem house_rows (h : Ho tags crowd begun t0 ts rows gs rooms) {rows' : List Rw} {gs' : List (Str × Str)} {rooms' : List Rm} (sb : Rw → Bool) {hb : Bool} (hn : ∀ r ∈ rows', r.1 ∈ names5) (hg : ∀ r ∈ rows', r.2.1 = "" ∨ r.2.1 = "g") (hc : ∀ r ∈ rows', ∀ d ∈ r.2.2, chk2 d = true) (hs : ∀ r ∈ rows', Ans F_is_script [.tup r.2.2] (.bl (sb r)))
    (l1 : rows'.length ≤ 10) (l0 : 0 < rows'.length) (hgs : gs' = gs ∨ ∃ x, x ∈ names5 ∧ gs' = gs ++ [(("zzz" : Str), x)]) (hr : ∀ p ∈ rooms', okN p.1 = true) (lr : rooms'.length ≤ 10)
    (hang : (asc (rows'.map (·.1)) && (rows'.all sb && (asc (gs'.map (·.1)) && (asc (rooms'.map (·.1)) && rooms'.all fun p => decide (1 ≤ p.2))))) = true → Ans F_hangs_together [.tup (rows'.map toR), .tpn (gs'.map pairD)] (.bl hb)) :
    Ans F_is_house [houseD rows' gs' rooms'] (.bl (asc (rows'.map (·.1)) && (rows'.all sb && (asc (gs'.map (·.1)) && (asc (rooms'.map (·.1)) && ((rooms'.all fun p => decide (1 ≤ p.2)) && hb)))))) := by
  have nr : ∀ l : List Rw, (∀ r ∈ l, ∀ d ∈ r.2.2, chk2 d = true) → noRs (l.map toR) = true := fun l => by
    induction l with
    | nil => intro _; rfl
    | cons r l ih =>
      intro hs
      simp [noRs, noR, toR, isS_nrs (List.all_eq_true.mpr fun d hd => (chk2_all (hs r List.mem_cons_self d hd)).1), ih fun q hq => hs q (List.mem_cons_of_mem _ hq)]
  have okn : ∀ x ∈ names5, okN x = true := fun x hx => List.all_eq_true.mp okN5 x hx
  have gsm : ∀ p ∈ gs', okN p.1 = true ∧ okN p.2 = true := fun p hp => by
    have base : ∀ p ∈ gs, okN p.1 = true ∧ okN p.2 = true := fun p hp => by
      rw [h.gs] at hp
      split at hp
      · cases hp
      · rw [List.mem_singleton.mp hp]; exact ⟨ok_g.2.1, okn _ h.t0m⟩
    rcases hgs with rfl | ⟨x, hx, rfl⟩
    · exact base p hp
    · rcases List.mem_append.mp hp with hp | hp
      · exact base p hp
      · rw [List.mem_singleton.mp hp]; exact ⟨ok_g.2.2, okn _ hx⟩
  have gsl : gs'.length ≤ 2 := by
    have : gs.length ≤ 1 := by rw [h.gs]; split <;> simp
    rcases hgs with rfl | ⟨x, hx, rfl⟩
    · omega
    · simp; omega
  refine house_any sb (nr _ hc) (fun r hr => okn _ (hn r hr)) (fun r hr => ?_) hs (fun r hr => isS_nrs (List.all_eq_true.mpr fun d hd => (chk2_all (hc r hr d hd)).1)) (by omega) l0 (fun p hp => (gsm p hp).1) (fun p hp => (gsm p hp).2) (by omega) hr (by omega) hang
  rcases hg r hr with e | e <;> rw [e]
  · exact ⟨ok_none, .inl rfl⟩
  · exact ⟨ok_g.1, .inr ok_g.2.1⟩
end
end K01

namespace K01
open PySem PySem.Spec PyProof.Rows L2 Tw
def nixD : D := .tup [.str "join", .str "nix", .tup []]
def canD (x : Str) : D := .tup [.str "cancel", .str x]
theorem nix_ok : chk2 nixD = true ∧ (delta nixD == 0) = true ∧ tw3.contains (wrd nixD) = true ∧ (arg nixD == "nix") = true ∧ PyData.strOk "nix" = true ∧ names5.contains "nix" = false := by
  refine ⟨by kernel_rfl, by kernel_rfl, by kernel_rfl, by kernel_rfl, by kernel_rfl, by kernel_rfl⟩
theorem can_all : names5.all (fun x => chk2 (canD x) && (delta (canD x) == 0 && (tw3.contains (wrd (canD x)) && arg (canD x) == x))) = true := by kernel_rfl
theorem nmS_has (n : Str) (ws : List Str) : ∀ (a : List D) (k : Nat) (d : D), d ∈ a → ws.contains (wrd d) = true → ∃ i, (arg d, n, i) ∈ nmS n ws k a
  | [], k, d, h, _ => by cases h
  | x :: a, k, d, h, hc => by
    rcases List.mem_cons.mp h with rfl | h
    · exact ⟨k, by simp only [nmS]; rw [if_pos hc]; exact List.mem_cons_self⟩
    · obtain ⟨i, hi⟩ := nmS_has n ws a (k + 1) d h hc
      refine ⟨i, ?_⟩
      simp only [nmS]
      split
      · exact List.mem_cons_of_mem _ hi
      · exact hi
theorem bad_any {rows : List Rw} {names : List Str} {r : Rw} (hr : r ∈ rows) {d : D} (hd : d ∈ r.2.2) (hc : tw3.contains (wrd d) = true) (hb : names.contains (arg d) = false ∨ arg d = r.1) : (nm tw3 rows).any (badI names) = true := by
  obtain ⟨i, hi⟩ := nmS_has r.1 tw3 r.2.2 0 d hd hc
  refine List.any_eq_true.mpr ⟨_, List.mem_flatMap.mpr ⟨r, hr, hi⟩, ?_⟩
  unfold badI
  rcases hb with e | e
  · simp only [e]; rfl
  · simp only [e, beq_self_eq_true, Bool.or_true]
section
variable {tags crowd begun ts : List Str} {t0 : Str} {rows : List Rw} {gs : List (Str × Str)} {rooms : List Rm}
theorem Ho.ascG (h : Ho tags crowd begun t0 ts rows gs rooms) : asc (gs.map (·.1)) = true := by
  rw [h.gs]
  split
  · decide +kernel
  · show asc (["g"] : List Str) = true
    decide +kernel
theorem Ho.ascT (h : Ho tags crowd begun t0 ts rows gs rooms) : asc (rows.map (·.1)) = true := by
  rw [h.names]
  exact asc_of h.tg.nd h.tg.srt
theorem Ho.n5 (h : Ho tags crowd begun t0 ts rows gs rooms) : ∀ r ∈ rows, r.1 ∈ names5 := fun r hr => h.tg.mem _ (by rw [← h.names]; exact List.mem_map.mpr ⟨r, hr, rfl⟩)
theorem Ho.g2 (h : Ho tags crowd begun t0 ts rows gs rooms) : ∀ r ∈ rows, r.2.1 = "" ∨ r.2.1 = "g" := fun r hr => by
  rw [(h.rs r hr).1]
  split
  · exact .inr rfl
  · exact .inl rfl
theorem Ho.scr (h : Ho tags crowd begun t0 ts rows gs rooms) : ∀ r ∈ rows, Ans F_is_script [.tup r.2.2] (.bl true) := fun r hr => sc_ans (h.sc r hr).c (h.sc r hr).w (by have := (h.sc r hr).l; omega)
theorem ans_false {F : List D → M D} {ds : List D} {b : Bool} (h : Ans F ds (.bl b)) (e : b = false) : Ans F ds (.bl false) := by rw [← e]; exact h
theorem Ho.host (h : Ho tags crowd begun t0 ts rows gs rooms) : Ans F_is_house [houseD rows gs rooms] (.bl true) := by
  have hh := h.hang [] (.inl rfl)
  rw [List.append_nil, h.closed] at hh
  have := house_rows h (fun _ => true) h.n5 h.g2 (fun r hr => (h.sc r hr).c) h.scr (by have := h.len; omega) (by have := h.len; omega) (.inl rfl) h.rms2.1 (by have := h.rms2.2.1; omega) fun _ => hh
  rw [h.ascT, h.ascG, h.rms2.2.2.1, h.rms2.2.2.2, show (rows.all fun _ => true) = true from List.all_eq_true.mpr fun _ _ => rfl] at this
  exact this
theorem Ho.w1 (h : Ho tags crowd begun t0 ts rows gs rooms) {one : Rw} (ho : one ∈ rows) : Ans F_is_house [houseD (rows ++ [one]) gs rooms] (.bl false) := by
  have hm : ∀ r ∈ rows ++ [one], r ∈ rows := fun r hr => by
    rcases List.mem_append.mp hr with hr | hr
    · exact hr
    · rw [List.mem_singleton.mp hr]; exact ho
  have ha : asc ((rows ++ [one]).map (·.1)) = false := by
    rw [List.map_append]
    exact asc_no (by rw [h.names]; exact h.tg.nd) (by rw [h.names]; exact h.tg.srt) (List.mem_map.mpr ⟨one, ho, rfl⟩)
  have := house_rows h (hb := false) (fun _ => true) (fun r hr => h.n5 r (hm r hr)) (fun r hr => h.g2 r (hm r hr)) (fun r hr => (h.sc r (hm r hr)).c) (fun r hr => h.scr r (hm r hr)) (by have := h.len; simp; omega) (by simp) (.inl rfl) h.rms2.1 (by have := h.rms2.2.1; omega) fun c => by rw [ha] at c; cases c
  rw [ha] at this
  exact this
/-- one row's script bent -/
theorem bent_mem {a b : List Rw} {x r : Rw} (hr : r ∈ a ++ x :: b) : r = x ∨ r ∈ a ∨ r ∈ b := by
  rcases List.mem_append.mp hr with hr | hr
  · exact .inr (.inl hr)
  · rcases List.mem_cons.mp hr with hr | hr
    · exact .inl hr
    · exact .inr (.inr hr)
theorem bent_names {a b : List Rw} {one x : Rw} (e : x.1 = one.1) : (a ++ x :: b).map (·.1) = (a ++ one :: b).map (·.1) := by simp [e]
theorem Ho.w2 (h : Ho tags crowd begun t0 ts rows gs rooms) {one : Rw} {a b : List Rw} (e : rows = a ++ one :: b) : Ans F_is_house [houseD (a ++ (one.1, one.2.1, one.2.2 ++ [inD1]) :: b) gs rooms] (.bl false) := by
  have h1 : one ∈ rows := by rw [e]; simp
  have ha : ∀ r, r ∈ a ∨ r ∈ b → r ∈ rows := fun r hr => by rw [e]; rcases hr with hr | hr <;> simp [hr]
  have s1 := h.sc one h1
  have wl : walk 0 (one.2.2 ++ [inD1]) = some 1 := by
    rw [walk_app, s1.w]
    have e1 : delta inD1 = 1 := by decide +kernel
    simp [walk, e1]
  have c1 : ∀ d ∈ one.2.2 ++ [inD1], chk2 d = true := fun d hd => by
    rcases List.mem_append.mp hd with hd | hd
    · exact s1.c d hd
    · rw [List.mem_singleton.mp hd]; exact List.all_eq_true.mp io_chk2 _ (by simp)
  have hl := h.len
  rw [e] at hl
  simp only [List.length_append, List.length_cons] at hl
  have := house_rows h (rows' := a ++ (one.1, one.2.1, one.2.2 ++ [inD1]) :: b) (hb := false) (fun r => decide (walk 0 r.2.2 = some 0))
    (fun r hr => (bent_mem hr).elim (fun z => by subst z; exact h.n5 one h1) (fun hr => h.n5 r (ha r hr))) (fun r hr => (bent_mem hr).elim (fun z => by subst z; exact h.g2 one h1) (fun hr => h.g2 r (ha r hr))) (fun r hr => (bent_mem hr).elim (fun z => by subst z; exact c1) (fun hr => (h.sc r (ha r hr)).c))
    (fun r hr => by
      rcases bent_mem hr with rfl | hr
      · have := sc_ans c1 wl (by have := s1.l; simp; omega)
        simp only [wl]
        exact this
      · have := h.scr r (ha r hr)
        rw [(h.sc r (ha r hr)).w]
        simpa using this) (by simp; omega) (by simp; omega) (.inl rfl) h.rms2.1 (by have := h.rms2.2.1; omega) fun c => by
      exfalso
      simp [wl] at c
  refine ans_false this ?_
  simp [wl]
theorem bent_hang (h : Ho tags crowd begun t0 ts rows gs rooms) {one : Rw} {a b : List Rw} (e : rows = a ++ one :: b) {s : List D} (hc : ∀ d ∈ s, chk2 d = true) (hl : s.length ≤ 30) (hw : walk 0 s = some 0) (hs : ∀ d ∈ s, tw3.contains (wrd d) = true → PyData.strOk (arg d) = true)
    {d : D} (hd : d ∈ s) (hdc : tw3.contains (wrd d) = true) (hb : (rows.map (·.1)).contains (arg d) = false ∨ arg d = one.1) : Ans F_is_house [houseD (a ++ (one.1, one.2.1, s) :: b) gs rooms] (.bl false) := by
  have h1 : one ∈ rows := by rw [e]; simp
  have ha : ∀ r, r ∈ a ∨ r ∈ b → r ∈ rows := fun r hr => by rw [e]; rcases hr with hr | hr <;> simp [hr]
  have hlen := h.len
  rw [e] at hlen
  simp only [List.length_append, List.length_cons] at hlen
  have en : (a ++ (one.1, one.2.1, s) :: b).map (·.1) = rows.map (·.1) := by rw [e]; exact bent_names rfl
  have n5 : ∀ r ∈ a ++ (one.1, one.2.1, s) :: b, r.1 ∈ names5 := fun r hr => (bent_mem hr).elim (fun z => by subst z; exact h.n5 one h1) (fun hr => h.n5 r (ha r hr))
  have g2 : ∀ r ∈ a ++ (one.1, one.2.1, s) :: b, r.2.1 = "" ∨ r.2.1 = "g" := fun r hr => (bent_mem hr).elim (fun z => by subst z; exact h.g2 one h1) (fun hr => h.g2 r (ha r hr))
  have cc : ∀ r ∈ a ++ (one.1, one.2.1, s) :: b, ∀ d ∈ r.2.2, chk2 d = true := fun r hr => (bent_mem hr).elim (fun z => by subst z; exact hc) (fun hr => (h.sc r (ha r hr)).c)
  have ro := rowsOk_of (rows := a ++ (one.1, one.2.1, s) :: b) (by rw [en, h.names]; exact h.tg.nd) (fun r hr => okm (n5 r hr)) (fun r hr => by rcases g2 r hr with z | z <;> rw [z] <;> decide +kernel) cc (by simp; omega)
    (fun r hr => (bent_mem hr).elim (fun z => by subst z; exact hl) (fun hr => by have := (h.sc r (ha r hr)).l; omega))
    (fun r hr x hx hxc => (bent_mem hr).elim (fun z => by subst z; exact hs x hx hxc) (fun hr => okm (h.tg.mem _ (h.refs r (ha r hr) x hx hxc).1)))
  have hg := h.gs
  have hgb : (gs.map (·.1)).Nodup ∧ gs.length ≤ 1000 := by
    rw [hg]
    split
    · exact ⟨by decide +kernel, by simp⟩
    · exact ⟨by show (["g"] : List Str).Nodup; decide +kernel, by simp⟩
  have hh := hang_bad ro.1 hgb.1 hgb.2 (by rw [en]; exact bad_any (r := (one.1, one.2.1, s)) (by simp) hd hdc hb)
  have := house_rows h (rows' := a ++ (one.1, one.2.1, s) :: b) (hb := false) (fun _ => true) n5 g2 cc (fun r hr => by
      rcases bent_mem hr with rfl | hr
      · exact sc_ans hc hw (by omega)
      · exact h.scr r (ha r hr)) (by simp; omega) (by simp; omega) (.inl rfl) h.rms2.1 (by have := h.rms2.2.1; omega) fun _ => hh
  refine ans_false this ?_
  simp
theorem Ho.w3 (h : Ho tags crowd begun t0 ts rows gs rooms) {one : Rw} {a b : List Rw} (e : rows = a ++ one :: b) : Ans F_is_house [houseD (a ++ (one.1, one.2.1, nixD :: one.2.2) :: b) gs rooms] (.bl false) := by
  have h1 : one ∈ rows := by rw [e]; simp
  have s1 := h.sc one h1
  obtain ⟨n1, n2, n3, n4, n5, n6⟩ := nix_ok
  have an : arg nixD = "nix" := by simpa using n4
  refine bent_hang h e (fun d hd => ?_) (by have := s1.l; simp; omega) ?_ (fun d hd hc => ?_) (d := nixD) List.mem_cons_self n3 (.inl ?_)
  · rcases List.mem_cons.mp hd with rfl | hd
    · exact n1
    · exact s1.c d hd
  · exact (walk_ins nixD (by simpa using n2) [] one.2.2 0 (Int.le_refl 0)).trans s1.w
  · rcases List.mem_cons.mp hd with rfl | hd
    · rw [an]; exact n5
    · exact okm (h.tg.mem _ (h.refs one h1 d hd hc).1)
  · rw [an, h.names]
    cases q : tags.contains "nix" with
    | false => rfl
    | true =>
      have := h.tg.mem _ (List.contains_iff_mem.mp q)
      rw [List.contains_iff_mem.mpr this] at n6
      cases n6
theorem Ho.w4 (h : Ho tags crowd begun t0 ts rows gs rooms) {one : Rw} {a b : List Rw} (e : rows = a ++ one :: b) : Ans F_is_house [houseD (a ++ (one.1, one.2.1, one.2.2 ++ [canD one.1]) :: b) gs rooms] (.bl false) := by
  have h1 : one ∈ rows := by rw [e]; simp
  have s1 := h.sc one h1
  have cn := List.all_eq_true.mp can_all one.1 (h.n5 one h1)
  simp only [Bool.and_eq_true, beq_iff_eq] at cn
  obtain ⟨c1, c2, c3, c4⟩ := cn
  refine bent_hang h e (fun d hd => ?_) (by have := s1.l; simp; omega) ?_ (fun d hd hc => ?_) (d := canD one.1) (by simp) c3 (.inr c4)
  · rcases List.mem_append.mp hd with hd | hd
    · exact s1.c d hd
    · rw [List.mem_singleton.mp hd]; exact c1
  · rw [walk_app, s1.w]
    simp [walk, c2]
  · rcases List.mem_append.mp hd with hd | hd
    · exact okm (h.tg.mem _ (h.refs one h1 d hd hc).1)
    · rw [List.mem_singleton.mp hd, c4]; exact okm (h.n5 one h1)
theorem Ho.w5 (h : Ho tags crowd begun t0 ts rows gs rooms) : Ans F_is_house [houseD rows gs (("a", 0) :: rooms)] (.bl false) := by
  have oka : okN "a" = true := List.all_eq_true.mp okN5 "a" (by decide +kernel)
  have := house_rows h (rooms' := ("a", 0) :: rooms) (hb := false) (fun _ => true) h.n5 h.g2 (fun r hr => (h.sc r hr).c) h.scr (by have := h.len; omega) (by have := h.len; omega) (.inl rfl) (fun p hp => by
      rcases List.mem_cons.mp hp with rfl | hp
      · exact oka
      · exact h.rms2.1 p hp) (by have := h.rms2.2.1; simp; omega) fun c => by
      exfalso
      simp at c
  refine ans_false this ?_
  simp
theorem Ho.w6 (h : Ho tags crowd begun t0 ts rows gs rooms) {one : Rw} (h1 : one ∈ rows) : Ans F_is_house [houseD rows (gs ++ [(("zzz" : Str), one.1)]) rooms] (.bl false) := by
  have hh := h.hang [(("zzz" : Str), one.1)] (.inr ⟨one.1, h.n5 one h1, rfl⟩)
  have hf : (gs ++ [(("zzz" : Str), one.1)]).all (closedB ((nm cw2 rows).map kvI)) = false := by
    rw [List.all_append]
    have : closedB ((nm cw2 rows).map kvI) (("zzz" : Str), one.1) = false := by
      unfold closedB
      have : lookK ((nm cw2 rows).map kvI) (.inr "zzz") = none := by
        rcases h.shuts with ⟨_, e⟩ | ⟨_, k, _, e⟩ <;> rw [e]
        · rfl
        · refine lookK_none ?_
          intro hm
          have z : ("zzz" : Str) = "g" := Sum.inr.inj (List.mem_singleton.mp hm)
          exact absurd z (by decide +kernel)
      rw [this]
    simp [this]
  rw [hf] at hh
  have := house_rows h (gs' := gs ++ [(("zzz" : Str), one.1)]) (fun _ => true) h.n5 h.g2 (fun r hr => (h.sc r hr).c) h.scr (by have := h.len; omega) (by have := h.len; omega) (.inr ⟨one.1, h.n5 one h1, rfl⟩) h.rms2.1 (by have := h.rms2.2.1; omega) fun _ => hh
  refine ans_false this ?_
  simp
end
theorem tab_lst (xs : List D) (w : D) : Ans F_is_table [.lst xs, w] (.bl false) := by
  refine w_run ?_
  unfold ds_is_table
  refine w_seq ?_
  (repeat (first | (with_reducible first | refine w_v rfl ?_ | refine w_c ?_ | refine w_d2 ?_ | refine w_cons ?_ | refine w_nil ?_ | refine w_call ?_ | refine w_tup ?_ | refine w_tpn ?_ | refine w_lst ?_ | refine w_lstM ?_ | refine w_wk ?_ | refine w_frz ?_ | refine w_meth ?_ | refine w_test ?_ | refine w_notT ?_ | refine w_andT ?_ | refine w_orT ?_ | refine w_yes ?_ | refine w_and ?_ | refine w_or ?_ | refine w_not ?_ | refine w_if ?_ | refine w_ifS ?_ | refine w_seq ?_ | refine w_next ?_ | refine w_cnt ?_ | refine w_ret ?_ | refine w_expr ?_ | refine w_asg ?_ | refine w_par ?_ | refine w_F ?_ | refine w_Fp ?_ | refine w_itL ?_ | refine w_itT ?_ | refine w_itK ?_ | refine w_rng ?_ | refine w_neg ?_ | refine w_dput ?_ | refine w_newD ?_) | with_reducible refine w_then ?_ | refine ⟨_, _, rfl, ?_⟩ | refine ⟨_, rfl, ?_⟩ | refine ⟨by decide, ?_⟩ | refine ⟨_, _, eqS (by decide +kernel) (by decide +kernel), ?_⟩ | refine ⟨(by simp only [List.length_cons, List.length_nil]; decide), ?_⟩ | refine ⟨fun c => absurd c (by decide +kernel), fun _ => ?_⟩ | refine ⟨fun _ => ?_, fun c => absurd c (by decide +kernel)⟩))
  exact rfl
theorem b7_ok {xs ys zs : List D} (n : noRs xs = true) : Ans F_is_house [.tup [.lst xs, .tpn ys, .tup zs]] (.bl false) := by
  refine w_run ?_
  unfold ds_is_house
  refine w_seq ?_
  (repeat (first | (with_reducible first | refine w_v rfl ?_ | refine w_c ?_ | refine w_d2 ?_ | refine w_cons ?_ | refine w_nil ?_ | refine w_call ?_ | refine w_tup ?_ | refine w_tpn ?_ | refine w_lst ?_ | refine w_lstM ?_ | refine w_wk ?_ | refine w_frz ?_ | refine w_meth ?_ | refine w_test ?_ | refine w_notT ?_ | refine w_andT ?_ | refine w_orT ?_ | refine w_yes ?_ | refine w_and ?_ | refine w_or ?_ | refine w_not ?_ | refine w_if ?_ | refine w_ifS ?_ | refine w_seq ?_ | refine w_next ?_ | refine w_cnt ?_ | refine w_ret ?_ | refine w_expr ?_ | refine w_asg ?_ | refine w_par ?_ | refine w_F ?_ | refine w_Fp ?_ | refine w_itL ?_ | refine w_itT ?_ | refine w_itK ?_ | refine w_rng ?_ | refine w_neg ?_ | refine w_dput ?_ | refine w_newD ?_) | with_reducible refine w_then ?_ | refine ⟨_, _, rfl, ?_⟩ | refine ⟨_, rfl, ?_⟩ | refine ⟨by decide, ?_⟩ | refine ⟨_, _, eqS (by decide +kernel) (by decide +kernel), ?_⟩ | refine ⟨(by simp only [List.length_cons, List.length_nil]; decide), ?_⟩ | refine ⟨fun c => absurd c (by decide +kernel), fun _ => ?_⟩ | refine ⟨fun _ => ?_, fun c => absurd c (by decide +kernel)⟩))
  refine ⟨fun c => (by cases c), fun _ => w_next (w_then ?_)⟩
  refine w_seq (w_asg (w_v rfl ⟨_, _, rfl, w_then ?_⟩))
  refine w_ret (w_and (w_ans ?_))
  (repeat (first | (with_reducible first | refine w_v rfl ?_ | refine w_c ?_ | refine w_d2 ?_ | refine w_cons ?_ | refine w_nil ?_ | refine w_call ?_ | refine w_tup ?_ | refine w_tpn ?_ | refine w_lst ?_ | refine w_lstM ?_ | refine w_wk ?_ | refine w_frz ?_ | refine w_meth ?_ | refine w_test ?_ | refine w_notT ?_ | refine w_andT ?_ | refine w_orT ?_ | refine w_yes ?_ | refine w_and ?_ | refine w_or ?_ | refine w_not ?_ | refine w_if ?_ | refine w_ifS ?_ | refine w_seq ?_ | refine w_next ?_ | refine w_cnt ?_ | refine w_ret ?_ | refine w_expr ?_ | refine w_asg ?_ | refine w_par ?_ | refine w_F ?_ | refine w_Fp ?_ | refine w_itL ?_ | refine w_itT ?_ | refine w_itK ?_ | refine w_rng ?_ | refine w_neg ?_ | refine w_dput ?_ | refine w_newD ?_) | with_reducible refine w_then ?_ | refine ⟨_, _, rfl, ?_⟩ | refine ⟨_, rfl, ?_⟩ | refine ⟨by decide, ?_⟩ | refine ⟨_, _, eqS (by decide +kernel) (by decide +kernel), ?_⟩ | refine ⟨(by simp only [List.length_cons, List.length_nil]; decide), ?_⟩ | refine ⟨fun c => absurd c (by decide +kernel), fun _ => ?_⟩ | refine ⟨fun _ => ?_, fun c => absurd c (by decide +kernel)⟩))
  exact ⟨by simp [noRs, noR, n], _, tab_lst xs _, rfl, _, rfl, fun c => (by cases c), fun _ => ⟨_, rfl, rfl⟩⟩
theorem b8_ok (a b c d : D) : Ans F_is_house [.tup [a, b, c, d]] (.bl false) := by
  refine w_run ?_
  unfold ds_is_house
  refine w_seq ?_
  (repeat (first | (with_reducible first | refine w_v rfl ?_ | refine w_c ?_ | refine w_d2 ?_ | refine w_cons ?_ | refine w_nil ?_ | refine w_call ?_ | refine w_tup ?_ | refine w_tpn ?_ | refine w_lst ?_ | refine w_lstM ?_ | refine w_wk ?_ | refine w_frz ?_ | refine w_meth ?_ | refine w_test ?_ | refine w_notT ?_ | refine w_andT ?_ | refine w_orT ?_ | refine w_yes ?_ | refine w_and ?_ | refine w_or ?_ | refine w_not ?_ | refine w_if ?_ | refine w_ifS ?_ | refine w_seq ?_ | refine w_next ?_ | refine w_cnt ?_ | refine w_ret ?_ | refine w_expr ?_ | refine w_asg ?_ | refine w_par ?_ | refine w_F ?_ | refine w_Fp ?_ | refine w_itL ?_ | refine w_itT ?_ | refine w_itK ?_ | refine w_rng ?_ | refine w_neg ?_ | refine w_dput ?_ | refine w_newD ?_) | with_reducible refine w_then ?_ | refine ⟨_, _, rfl, ?_⟩ | refine ⟨_, rfl, ?_⟩ | refine ⟨by decide, ?_⟩ | refine ⟨_, _, eqS (by decide +kernel) (by decide +kernel), ?_⟩ | refine ⟨(by simp only [List.length_cons, List.length_nil]; decide), ?_⟩ | refine ⟨fun c => absurd c (by decide +kernel), fun _ => ?_⟩ | refine ⟨fun _ => ?_, fun c => absurd c (by decide +kernel)⟩))
  refine ⟨fun _ => ?_, fun c => (by cases c)⟩
  (repeat (first | (with_reducible first | refine w_v rfl ?_ | refine w_c ?_ | refine w_d2 ?_ | refine w_cons ?_ | refine w_nil ?_ | refine w_call ?_ | refine w_tup ?_ | refine w_tpn ?_ | refine w_lst ?_ | refine w_lstM ?_ | refine w_wk ?_ | refine w_frz ?_ | refine w_meth ?_ | refine w_test ?_ | refine w_notT ?_ | refine w_andT ?_ | refine w_orT ?_ | refine w_yes ?_ | refine w_and ?_ | refine w_or ?_ | refine w_not ?_ | refine w_if ?_ | refine w_ifS ?_ | refine w_seq ?_ | refine w_next ?_ | refine w_cnt ?_ | refine w_ret ?_ | refine w_expr ?_ | refine w_asg ?_ | refine w_par ?_ | refine w_F ?_ | refine w_Fp ?_ | refine w_itL ?_ | refine w_itT ?_ | refine w_itK ?_ | refine w_rng ?_ | refine w_neg ?_ | refine w_dput ?_ | refine w_newD ?_) | with_reducible refine w_then ?_ | refine ⟨_, _, rfl, ?_⟩ | refine ⟨_, rfl, ?_⟩ | refine ⟨by decide, ?_⟩ | refine ⟨_, _, eqS (by decide +kernel) (by decide +kernel), ?_⟩ | refine ⟨(by simp only [List.length_cons, List.length_nil]; decide), ?_⟩ | refine ⟨fun c => absurd c (by decide +kernel), fun _ => ?_⟩ | refine ⟨fun _ => ?_, fun c => absurd c (by decide +kernel)⟩))
  exact rfl
end K01

namespace K01
open PySem PySem.Spec PyProof.Rows L2 Tw
/-! ### rows compared, rows sorted -/
theorem lay_steps : ∀ {s : List D}, s.all layS = true → ∃ ps, toPs s = some ps ∧ PyData.canLayAll0 ps = true ∧ PyData.depthAll ps ≤ 10
  | [], _ => ⟨[], rfl, rfl, by simp [PyData.depthAll]⟩
  | d :: s, h => by
    simp only [List.all_cons, Bool.and_eq_true] at h
    obtain ⟨ps, e1, e2, e3⟩ := lay_steps h.2
    have hd := h.1
    unfold layS at hd
    cases hp : toP d with
    | none => rw [hp] at hd; cases hd
    | some p =>
      rw [hp] at hd
      simp only [Bool.and_eq_true, decide_eq_true_eq] at hd
      exact ⟨p :: ps, by simp [toPs, hp, e1], by simp [PyData.canLayAll0, hd.1, e2], by simp only [PyData.depthAll]; omega⟩
theorem row_lay {r : Rw} (o1 : PyData.strOk r.1 = true) (o2 : PyData.strOk r.2.1 = true) (h : r.2.2.all layS = true) : ∃ ps, toP (toR r) = some (.tuple [.str r.1, .str r.2.1, .tuple ps]) ∧ SeqAt.shaped (.tuple [.str r.1, .str r.2.1, .tuple ps]) = true ∧ PyData.canLay0 (.tuple [.str r.1, .str r.2.1, .tuple ps]) = true := by
  obtain ⟨ps, e1, e2, e3⟩ := lay_steps h
  have c : PyData.canLay0 (.tuple [.str r.1, .str r.2.1, .tuple ps]) = true := by simp [PyData.canLay0, PyData.canLayAll0, o1, o2, e2]
  refine ⟨ps, ?_, ?_, c⟩
  · simp [toR, toP, toPs, e1]
  · unfold SeqAt.shaped
    rw [c]
    have : PyData.depth (.tuple [.str r.1, .str r.2.1, .tuple ps]) ≤ 64 := by
      simp only [PyData.depth, PyData.depthAll]
      omega
    rw [decide_eq_true this]
    rfl
theorem eqO_row {r s : Rw} (o1 : PyData.strOk r.1 = true) (o2 : PyData.strOk r.2.1 = true) (h : r.2.2.all layS = true) (p1 : PyData.strOk s.1 = true) (p2 : PyData.strOk s.2.1 = true) (k : s.2.2.all layS = true) (hs : r.1 = s.1 → r = s) : eqO true (toR r) (toR s) = some (.bl (!(r.1 == s.1))) := by
  obtain ⟨ps, e1, e2, e3⟩ := row_lay o1 o2 h
  obtain ⟨qs, f1, f2, f3⟩ := row_lay p1 p2 k
  unfold eqO
  rw [e1, f1]
  simp only [e2, f2, Bool.and_self, if_true]
  by_cases e : r.1 = s.1
  · have hr := hs e
    subst hr
    rw [e1] at f1
    cases f1
    rw [SeqAt.eqv_refl _ e3]
    simp
  · have : (r.1 == s.1) = false := beq_eq_false_iff_ne.mpr e
    simp [PyData.eqv, PyData.eqvAll, this]
theorem nameD_toR (r : Rw) : nameD (toR r) = r.1 := rfl
theorem sort_rows {l m : List Rw} (hp : l.Perm m) (nd : (m.map (·.1)).Nodup) (srt : (m.map (·.1)).Pairwise fun a b => leC a b = true) (hz : l.length ≤ 100) : sortRF (l.map toR) = some (.lst (m.map toR)) := by
  have en : ∀ l : List Rw, (l.map toR).map nameD = l.map (·.1) := fun l => by rw [List.map_map]; rfl
  have ndl : (l.map (·.1)).Nodup := (hp.map (·.1)).nodup_iff.mpr nd
  have e1 : (l.map toR).all isRowD = true := List.all_eq_true.mpr fun d hd => by
    obtain ⟨r, _, rfl⟩ := List.mem_map.mp hd
    rfl
  unfold sortRF
  rw [if_pos]
  · congr 2
    refine List.Perm.eq_of_pairwise (le := fun x y => leC (nameD x) (nameD y) = true) (fun x y hx hy h1 h2 => ?_) (sortK_srt nameD _) ?_ ((sortK_perm nameD _).trans (hp.map toR))
    · have hx' := (hp.map toR).mem_iff.mp ((sortK_perm nameD _).mem_iff.mp hx)
      obtain ⟨r, hr, rfl⟩ := List.mem_map.mp hx'
      obtain ⟨s, hs, rfl⟩ := List.mem_map.mp hy
      have := str_of_tri h1 h2
      rw [nodup_inj nd r hr s hs this]
    · exact List.pairwise_map.mpr ((List.pairwise_map.mp srt).imp fun {a b} h => h)
  · rw [e1, en, decide_eq_true ndl, decide_eq_true (by rw [List.length_map]; exact Nat.le_trans hz (by decide))]
    rfl
/-! ### the same -/
theorem same1 (b : Bool) (n : Nat) : Ans (F_l_same (n + 1)) [.bl b, .bl b] (.bl true) := by
  cases b <;> exact ⟨.bl true, [], by kernel_rfl, rfl⟩
theorem same_bls (bs : List Bool) (n : Nat) (hz : bs.length ≤ 1000) : Ans (F_l_same (n + 2)) [.lst (bs.map .bl), .lst (bs.map .bl)] (.bl true) := by
  have mz : (1000 : Nat) ≤ mx := by decide
  have zz : ∀ bs : List Bool, zipD (bs.map D.bl) (bs.map D.bl) = bs.map fun b => .tup [.bl b, .bl b] := fun bs => by
    induction bs with
    | nil => rfl
    | cons b bs ih =>
      show D.tup [.bl b, .bl b] :: zipD (bs.map D.bl) (bs.map D.bl) = _
      rw [ih]
      rfl
  show Ans (runD N_l_same.length (ds_l_same (F_l_same (n + 1)))) _ _
  refine w_run ?_
  unfold ds_l_same
  refine w_seq (w_ifS ?_)
  (repeat (first | (with_reducible first | refine w_v rfl ?_ | refine w_c ?_ | refine w_d2 ?_ | refine w_cons ?_ | refine w_nil ?_ | refine w_call ?_ | refine w_tup ?_ | refine w_tpn ?_ | refine w_lst ?_ | refine w_lstM ?_ | refine w_wk ?_ | refine w_frz ?_ | refine w_meth ?_ | refine w_test ?_ | refine w_notT ?_ | refine w_andT ?_ | refine w_orT ?_ | refine w_yes ?_ | refine w_and ?_ | refine w_or ?_ | refine w_not ?_ | refine w_if ?_ | refine w_ifS ?_ | refine w_seq ?_ | refine w_next ?_ | refine w_cnt ?_ | refine w_ret ?_ | refine w_expr ?_ | refine w_asg ?_ | refine w_par ?_ | refine w_F ?_ | refine w_Fp ?_ | refine w_itL ?_ | refine w_itT ?_ | refine w_itK ?_ | refine w_rng ?_ | refine w_neg ?_ | refine w_dput ?_ | refine w_newD ?_) | with_reducible refine w_then ?_ | refine ⟨_, _, rfl, ?_⟩ | refine ⟨_, rfl, ?_⟩ | refine ⟨by decide, ?_⟩ | refine ⟨_, _, eqS (by decide +kernel) (by decide +kernel), ?_⟩ | refine ⟨(by simp only [List.length_cons, List.length_nil]; decide), ?_⟩ | refine ⟨fun c => absurd c (by decide +kernel), fun _ => ?_⟩ | refine ⟨fun _ => ?_, fun c => absurd c (by decide +kernel)⟩))
  refine ⟨fun _ => w_allA bs (fun b => .tup [.bl b, .bl b]) (fun _ => true) ?_ (by omega) (fun b hb => ⟨_, rfl, ?_⟩) ?_, fun c => absurd c (by simp [PyData.eqv])⟩
  · refine w_rng ?_
    (repeat (first | (with_reducible first | refine w_v rfl ?_ | refine w_c ?_ | refine w_d2 ?_ | refine w_cons ?_ | refine w_nil ?_ | refine w_call ?_ | refine w_tup ?_ | refine w_tpn ?_ | refine w_lst ?_ | refine w_lstM ?_ | refine w_wk ?_ | refine w_frz ?_ | refine w_meth ?_ | refine w_test ?_ | refine w_notT ?_ | refine w_andT ?_ | refine w_orT ?_ | refine w_yes ?_ | refine w_and ?_ | refine w_or ?_ | refine w_not ?_ | refine w_if ?_ | refine w_ifS ?_ | refine w_seq ?_ | refine w_next ?_ | refine w_cnt ?_ | refine w_ret ?_ | refine w_expr ?_ | refine w_asg ?_ | refine w_par ?_ | refine w_F ?_ | refine w_Fp ?_ | refine w_itL ?_ | refine w_itT ?_ | refine w_itK ?_ | refine w_rng ?_ | refine w_neg ?_ | refine w_dput ?_ | refine w_newD ?_) | with_reducible refine w_then ?_ | refine ⟨_, _, rfl, ?_⟩ | refine ⟨_, rfl, ?_⟩ | refine ⟨by decide, ?_⟩ | refine ⟨_, _, eqS (by decide +kernel) (by decide +kernel), ?_⟩ | refine ⟨(by simp only [List.length_cons, List.length_nil]; decide), ?_⟩ | refine ⟨fun c => absurd c (by decide +kernel), fun _ => ?_⟩ | refine ⟨fun _ => ?_, fun c => absurd c (by decide +kernel)⟩))
    exact ⟨zz bs, rfl⟩
  · refine w_ans ?_
    (repeat (first | (with_reducible first | refine w_v rfl ?_ | refine w_c ?_ | refine w_d2 ?_ | refine w_cons ?_ | refine w_nil ?_ | refine w_call ?_ | refine w_tup ?_ | refine w_tpn ?_ | refine w_lst ?_ | refine w_lstM ?_ | refine w_wk ?_ | refine w_frz ?_ | refine w_meth ?_ | refine w_test ?_ | refine w_notT ?_ | refine w_andT ?_ | refine w_orT ?_ | refine w_yes ?_ | refine w_and ?_ | refine w_or ?_ | refine w_not ?_ | refine w_if ?_ | refine w_ifS ?_ | refine w_seq ?_ | refine w_next ?_ | refine w_cnt ?_ | refine w_ret ?_ | refine w_expr ?_ | refine w_asg ?_ | refine w_par ?_ | refine w_F ?_ | refine w_Fp ?_ | refine w_itL ?_ | refine w_itT ?_ | refine w_itK ?_ | refine w_rng ?_ | refine w_neg ?_ | refine w_dput ?_ | refine w_newD ?_) | with_reducible refine w_then ?_ | refine ⟨_, _, rfl, ?_⟩ | refine ⟨_, rfl, ?_⟩ | refine ⟨by decide, ?_⟩ | refine ⟨_, _, eqS (by decide +kernel) (by decide +kernel), ?_⟩ | refine ⟨(by simp only [List.length_cons, List.length_nil]; decide), ?_⟩ | refine ⟨fun c => absurd c (by decide +kernel), fun _ => ?_⟩ | refine ⟨fun _ => ?_, fun c => absurd c (by decide +kernel)⟩))
    exact ⟨rfl, _, same1 b n, rfl, rfl, rfl⟩
  · exact ⟨_, rfl, by simp⟩
theorem catL {xs ys : List D} {G : List O} (h : xs.length + ys.length ≤ mx) : catP okL (.lst xs) (.lst ys) G = some (.lst (xs ++ ys), G) := by
  unfold catP lonly
  simp only
  rw [if_pos h]
  unfold okL pur lstO
  rw [if_pos (by rw [List.length_append]; exact h)]
theorem repL (b : D) (k : Nat) (hk : k ≤ 1000) (G : List O) : repP (.lst [b]) (.int (k : Int)) G = some (.lst (List.replicate k b), G) := by
  have mz : (1000 : Nat) ≤ mx := by decide
  unfold repP lonly
  simp only
  have e : (List.replicate k [b]).flatten = List.replicate k b := by
    induction k with
    | zero => rfl
    | succ k ih => rw [List.replicate_succ, List.flatten_cons, ih (by omega)]; rfl
  rw [if_pos]
  · unfold okL pur lstO
    have e2 : (k : Int).toNat = k := by omega
    rw [e2, e, if_pos (by rw [List.length_replicate]; omega)]
  · have h1 : (-1000000 : Int) ≤ (k : Int) := by omega
    have h2 : (k : Int) ≤ 1000000 := by omega
    have h3 : [b].length * (k : Int).toNat ≤ mx := by
      simp only [List.length_cons, List.length_nil]
      omega
    rw [decide_eq_true h1, decide_eq_true h2, decide_eq_true h3]
    rfl
end K01

namespace K01
open PySem PySem.Spec PyProof.Rows L2 Tw
theorem mid_at {e f : List O} {x : O} : (e ++ x :: f)[e.length]? = some x := by simp
theorem mid_set {e f : List O} {x y : O} : (e ++ x :: f).set e.length y = e ++ y :: f := by simp
theorem w_app6 {X : En → M D} {ρ : En} {o : O} {e f : List O} {ws : List D} {d0 : D} {Q : Out → List O → Prop} (h6 : ρ[6]? = some (some (.ref (e.length + 1)))) (hz : ws.length + 1 ≤ mx)
    (hX : WP (X ρ) (o :: (e ++ .lst ws :: f)) fun d G => d = d0 ∧ ∃ f', G = o :: (e ++ .lst ws :: f')) (q : ∀ f', Q (.nx ρ) (o :: (e ++ .lst (ws ++ [d0]) :: f'))) : WP (dExpr (dMeth appF (dV 6) (dCons X dNil)) ρ) (o :: (e ++ .lst ws :: f)) Q := by
  refine w_expr (w_meth (w_v h6 ⟨⟨ws, by unfold inL; simp only [lk0 mid_at]⟩, w_cons (hX.imp fun d G ⟨e1, f', e2⟩ => ?_)⟩))
  subst e1 e2
  refine w_nil ⟨.non, _, app0 mid_at hz, ?_⟩
  rw [mid_set]
  exact q f'
theorem eq3 (r : Rw) : toR r = .tup [.str r.1, .str r.2.1, .tup r.2.2] := rfl
/-- tuple(sorted(rest + (the bent row,))) -/
theorem w_sortX {Y : En → M D} {ρ : En} {G : List O} {a b : List Rw} {one : Rw} {s : List D} {Q : D → List O → Prop} (h5 : ρ[5]? = some (some (toR one))) (h7 : ρ[7]? = some (some (.tup ((a ++ b).map toR)))) (hl : (a ++ b).length ≤ 10)
    (nd : ((a ++ one :: b).map (·.1)).Nodup) (srt : ((a ++ one :: b).map (·.1)).Pairwise fun x y => leC x y = true) (hY : WP (Y ρ) G fun d G1 => d = .tup s ∧ G1 = G) (q : Q (.tup ((a ++ (one.1, one.2.1, s) :: b).map toR)) G) :
    WP (dCall (listP fun xs => pur (some (.tup xs))) (dCons (dCall (tP sortRF) (dCons (d2 (pur2 addO) (dV 7) (dTup (dCons (dTup (dCons (d2 ixO (dV 5) (dC (.int 0))) (dCons (d2 ixO (dV 5) (dC (.int 1))) (dCons Y dNil)))) dNil))) dNil)) dNil) ρ) G Q := by
  have mz : (1000 : Nat) ≤ mx := by decide
  refine w_call (w_cons (w_call (w_cons (w_d2 (w_v h7 (w_tup (w_cons (w_tup (w_cons (w_d2 (w_v h5 (w_c ⟨.str one.1, G, ix0 _ _ _, ?_⟩))))))))))))
  refine w_cons (w_d2 (w_v h5 (w_c ⟨.str one.2.1, G, ix1 _ _ _ _, w_cons (hY.imp fun d G1 ⟨e1, e2⟩ => ?_)⟩)))
  subst e1 e2
  refine w_nil ⟨(by simp only [List.length_cons, List.length_nil]; decide), w_nil ⟨(by simp only [List.length_cons, List.length_nil]; decide), .tup (((a ++ b) ++ [(one.1, one.2.1, s)]).map toR), G1, ?_, w_nil ⟨.lst ((a ++ (one.1, one.2.1, s) :: b).map toR), G1, ?_, w_nil ⟨_, _, rfl, q⟩⟩⟩⟩
  · rw [addT (by simp at hl ⊢; omega)]
    simp [toR]
  · have en : (a ++ (one.1, one.2.1, s) :: b).map (·.1) = (a ++ one :: b).map (·.1) := bent_names rfl
    unfold tP
    simp only
    rw [sort_rows (m := a ++ (one.1, one.2.1, s) :: b) ?_ (by rw [en]; exact nd) (by rw [en]; exact srt) (by simp at hl ⊢; omega)]
    have : (a ++ (one.1, one.2.1, s) :: b).Perm ((one.1, one.2.1, s) :: (a ++ b)) := List.perm_middle
    exact (List.perm_append_singleton _ _).trans this.symm
theorem w_frzL {ρ : En} {G : List O} {xs : List D} {Q : D → List O → Prop} (h2 : ρ[2]? = some (some (.tup xs))) (hz : xs.length ≤ mx) (q : Q (.lst xs) (G ++ [.gone])) : WP (dFrz (dCall (listP newL) (dCons (dV 2) dNil)) ρ) G Q := by
  refine w_frz (w_call (w_cons (w_v h2 (w_nil ⟨.ref G.length, G ++ [O.lst xs], ?_, .lst xs, G ++ [O.gone], ?_, q⟩))))
  · unfold listP
    simp only [inS]
    unfold newL
    rw [if_pos hz]
  · unfold frzD
    simp [frzO]
theorem nr_app (xs ys : List D) : noRs (xs ++ ys) = (noRs xs && noRs ys) := by
  induction xs with
  | nil => simp [noRs]
  | cons x xs ih => simp [noRs, ih, Bool.and_assoc]
theorem nr_bent {a b : List Rw} {x : Rw} {rows : List Rw} (h : noRs (rows.map toR) = true) {one : Rw} (e : rows = a ++ one :: b) (hx : noRs x.2.2 = true) : noRs ((a ++ x :: b).map toR) = true := by
  rw [e, List.map_append, List.map_cons, nr_app] at h
  rw [List.map_append, List.map_cons, nr_app]
  simp only [noRs, Bool.and_eq_true] at h ⊢
  refine ⟨h.1, ?_, h.2.2⟩
  simp [toR, noR, noRs, hx]
theorem right_ok {x y : Int} (hx : 0 ≤ x) : ∃ G, F_l_right [.ref 0] [bx x y 0] = some (.inr (.bl true), G) := by
  have mz : (1000 : Nat) ≤ mx := by decide
  suffices hw : WP (F_l_right [.ref 0]) [bx x y 0] fun d _ => d = .bl true by
    obtain ⟨d, G, e, h⟩ := hw
    subst h
    exact ⟨G, e⟩
  refine w_run ?_
  unfold ds_l_right
  refine w_seq (w_asg (w_F (w_cons (w_v rfl (w_cons (w_c (w_cons (w_c (w_nil ?_)))))))))
  refine w_house ⟨x, y, 0, rfl, hx, Int.le_refl 0, Int.le_refl 0⟩ fun tags crowd begun t0 ts rows gs rooms o1 e H b1 => ?_
  refine ⟨_, _, rfl, w_then ?_⟩
  refine w_seq (w_asg (w_v rfl ⟨[some (.ref 0), some (houseD rows gs rooms), some (.tup (rows.map toR)), some (.tpn (gs.map pairD)), some (.tup (rooms.map roomD)), none, none, none, none, none], _, rfl, w_then ?_⟩))
  have hlen := H.len
  refine w_seq (w_asg (w_tup (w_cons (w_d2 (w_v rfl (w_F (w_cons (w_v rfl (w_cons (w_call (w_cons (w_v rfl (w_nil ⟨.int rows.length, o1 :: e, ?_, w_nil ?_⟩)))))))))))))
  · show some (D.int ((rows.map toR).length : Nat), _) = _
    rw [List.length_map]
  refine w_take b1 (by omega) (by omega) (by omega) fun r o2 r0 r1 b2 => ?_
  obtain ⟨one, ho⟩ : ∃ one, rows[r.toNat]? = some one := ⟨_, List.getElem?_eq_getElem (by omega)⟩
  have h1 : one ∈ rows := List.mem_of_getElem? ho
  obtain ⟨a, b, hab⟩ : ∃ a b, rows = a ++ one :: b := List.append_of_mem h1
  have eo : (rows.map toR)[r.toNat]? = some (toR one) := by rw [List.getElem?_map, ho]; rfl
  refine ⟨toR one, o2 :: e, atN eo (by omega) _, w_cons (w_lstM (w_nil ⟨by decide, w_nil ⟨(by simp only [List.length_cons, List.length_nil]; decide), ?_⟩⟩))⟩
  have eL : (o2 :: e).length = e.length + 1 := List.length_cons
  rw [eL]
  refine ⟨[some (.ref 0), some (houseD rows gs rooms), some (.tup (rows.map toR)), some (.tpn (gs.map pairD)), some (.tup (rooms.map roomD)), some (toR one), some (.ref (e.length + 1)), none, none, none], o2 :: (e ++ [O.lst []]), rfl, w_then ?_⟩
  have okn : ∀ r ∈ rows, PyData.strOk r.1 = true := fun r hr => okm (H.n5 r hr)
  have okg : ∀ r ∈ rows, PyData.strOk r.2.1 = true := fun r hr => H.rowsOk.1.g r hr
  have lay : ∀ r ∈ rows, r.2.2.all layS = true := fun r hr => List.all_eq_true.mpr fun d hd => (chk2_all ((H.sc r hr).c d hd)).2.2.2.2.2
  have ndn : (rows.map (·.1)).Nodup := by rw [H.names]; exact H.tg.nd
  have srn : (rows.map (·.1)).Pairwise fun x y => leC x y = true := by rw [H.names]; exact H.tg.srt
  have hrest : rows.filter (fun r => !(r.1 == one.1)) = a ++ b := by
    have inj := nodup_inj ndn
    rw [hab] at ndn inj ⊢
    rw [List.map_append, List.map_cons, List.nodup_append] at ndn
    obtain ⟨n1, n2, n3⟩ := ndn
    have ka : ∀ r ∈ a, (!(r.1 == one.1)) = true := fun r hr => by
      have := n3 r.1 (List.mem_map.mpr ⟨r, hr, rfl⟩) one.1 (by simp)
      simpa using this
    have kb : ∀ r ∈ b, (!(r.1 == one.1)) = true := fun r hr => by
      have := (List.nodup_cons.mp n2).1
      have h : r.1 ≠ one.1 := fun e => this (by rw [← e]; exact List.mem_map.mpr ⟨r, hr, rfl⟩)
      simpa using h
    rw [List.filter_append, List.filter_cons_of_neg (by simp), List.filter_eq_self.mpr ka, List.filter_eq_self.mpr kb]
  refine w_seq (w_asg (w_call (w_cons (w_lcB rows toR (fun r => !(r.1 == one.1)) toR ?_ (by omega) (fun r hr => ⟨_, rfl, ?_, fun _ => ?_⟩) ?_))))
  · (repeat (first | (with_reducible first | refine w_v rfl ?_ | refine w_c ?_ | refine w_d2 ?_ | refine w_cons ?_ | refine w_nil ?_ | refine w_call ?_ | refine w_tup ?_ | refine w_tpn ?_ | refine w_lst ?_ | refine w_lstM ?_ | refine w_wk ?_ | refine w_frz ?_ | refine w_meth ?_ | refine w_test ?_ | refine w_notT ?_ | refine w_andT ?_ | refine w_orT ?_ | refine w_yes ?_ | refine w_and ?_ | refine w_or ?_ | refine w_not ?_ | refine w_if ?_ | refine w_ifS ?_ | refine w_seq ?_ | refine w_next ?_ | refine w_cnt ?_ | refine w_ret ?_ | refine w_expr ?_ | refine w_asg ?_ | refine w_par ?_ | refine w_F ?_ | refine w_Fp ?_ | refine w_itL ?_ | refine w_itT ?_ | refine w_itK ?_ | refine w_rng ?_ | refine w_neg ?_ | refine w_dput ?_ | refine w_newD ?_) | with_reducible refine w_then ?_ | refine ⟨_, _, rfl, ?_⟩ | refine ⟨_, rfl, ?_⟩ | refine ⟨by decide, ?_⟩ | refine ⟨_, _, eqS (by decide +kernel) (by decide +kernel), ?_⟩ | refine ⟨(by simp only [List.length_cons, List.length_nil]; decide), ?_⟩ | refine ⟨fun c => absurd c (by decide +kernel), fun _ => ?_⟩ | refine ⟨fun _ => ?_, fun c => absurd c (by decide +kernel)⟩))
    exact ⟨rfl, rfl⟩
  · refine w_test (w_d2 (w_v rfl (w_v rfl ⟨.bl (!(r.1 == one.1)), _, ?_, _, rfl, rfl, rfl⟩)))
    unfold pur2 pur
    rw [eqO_row (okn r hr) (okg r hr) (lay r hr) (okn one h1) (okg one h1) (lay one h1) (nodup_inj ndn r hr one h1)]
  · exact w_v rfl ⟨rfl, rfl⟩
  rw [hrest]
  refine w_nil ⟨.tup ((a ++ b).map toR), _, rfl, _, _, rfl, w_then ?_⟩
  have hlab : (a ++ b).length ≤ 10 := by
    have := congrArg List.length hab
    simp only [List.length_append, List.length_cons] at this ⊢
    omega
  rw [hab] at ndn srn
  have T3 : ∀ {ρ : En} {G : List O} {dd : List D} {Q : List D → List O → Prop}, ρ[3]? = some (some (.tpn (gs.map pairD))) → ρ[4]? = some (some (.tup (rooms.map roomD))) → Q [.tpn (gs.map pairD), .tup (rooms.map roomD)] G → WP (dCons (dV 3) (dCons (dV 4) dNil) ρ) G Q := fun h3 h4 q => w_cons (w_v h3 (w_cons (w_v h4 (w_nil q))))
  have rl : (rows.map toR).length ≤ 4 := by rw [List.length_map]; exact hlen.2
  have l1 : one.2.2.length ≤ 20 := (H.sc one h1).l
  refine w_seq (w_app6 (ws := []) (f := []) (d0 := houseD (rows ++ [one]) gs rooms) rfl (by decide) (w_tup (w_cons (w_d2 (w_v rfl (w_tup (w_cons (w_v rfl (w_nil ⟨(by simp only [List.length_cons, List.length_nil]; decide), .tup ((rows ++ [one]).map toR), o2 :: (e ++ [O.lst []]), ?_, T3 (dd := []) rfl rfl ⟨(by simp only [List.length_cons, List.length_nil]; decide), rfl, [], rfl⟩⟩)))))))) fun f1 => w_then ?_)
  · rw [addT (by simp only [List.length_cons, List.length_nil]; omega)]
    simp
  refine w_seq (w_app6 (d0 := houseD (a ++ (one.1, one.2.1, one.2.2 ++ [inD1]) :: b) gs rooms) rfl (by simp only [List.length_append, List.length_cons, List.length_nil]; decide) (w_tup (w_cons (w_sortX (one := one) (s := one.2.2 ++ [inD1]) rfl rfl hlab ndn srn (w_d2 (w_d2 (w_v rfl (w_c ⟨.tup one.2.2, _, ix2 _ _ _ _ _, ?_⟩)))) (T3 (dd := []) rfl rfl ⟨(by simp only [List.length_cons, List.length_nil]; decide), rfl, f1, rfl⟩)))) fun f2 => w_then ?_)
  · (repeat (first | (with_reducible first | refine w_v rfl ?_ | refine w_c ?_ | refine w_d2 ?_ | refine w_cons ?_ | refine w_nil ?_ | refine w_call ?_ | refine w_tup ?_ | refine w_tpn ?_ | refine w_lst ?_ | refine w_lstM ?_ | refine w_wk ?_ | refine w_frz ?_ | refine w_meth ?_ | refine w_test ?_ | refine w_notT ?_ | refine w_andT ?_ | refine w_orT ?_ | refine w_yes ?_ | refine w_and ?_ | refine w_or ?_ | refine w_not ?_ | refine w_if ?_ | refine w_ifS ?_ | refine w_seq ?_ | refine w_next ?_ | refine w_cnt ?_ | refine w_ret ?_ | refine w_expr ?_ | refine w_asg ?_ | refine w_par ?_ | refine w_F ?_ | refine w_Fp ?_ | refine w_itL ?_ | refine w_itT ?_ | refine w_itK ?_ | refine w_rng ?_ | refine w_neg ?_ | refine w_dput ?_ | refine w_newD ?_) | with_reducible refine w_then ?_ | refine ⟨_, _, rfl, ?_⟩ | refine ⟨_, rfl, ?_⟩ | refine ⟨by decide, ?_⟩ | refine ⟨_, _, eqS (by decide +kernel) (by decide +kernel), ?_⟩ | refine ⟨(by simp only [List.length_cons, List.length_nil]; decide), ?_⟩ | refine ⟨fun c => absurd c (by decide +kernel), fun _ => ?_⟩ | refine ⟨fun _ => ?_, fun c => absurd c (by decide +kernel)⟩))
    exact ⟨_, _, addT (by simp only [List.length_cons, List.length_nil]; omega), rfl, rfl⟩
  refine w_seq (w_app6 (d0 := houseD (a ++ (one.1, one.2.1, nixD :: one.2.2) :: b) gs rooms) rfl (by simp only [List.length_append, List.length_cons, List.length_nil]; decide) (w_tup (w_cons (w_sortX (one := one) (s := nixD :: one.2.2) rfl rfl hlab ndn srn (w_d2 ?_) (T3 (dd := []) rfl rfl ⟨(by simp only [List.length_cons, List.length_nil]; decide), rfl, f2, rfl⟩)))) fun f3 => w_then ?_)
  · (repeat (first | (with_reducible first | refine w_v rfl ?_ | refine w_c ?_ | refine w_d2 ?_ | refine w_cons ?_ | refine w_nil ?_ | refine w_call ?_ | refine w_tup ?_ | refine w_tpn ?_ | refine w_lst ?_ | refine w_lstM ?_ | refine w_wk ?_ | refine w_frz ?_ | refine w_meth ?_ | refine w_test ?_ | refine w_notT ?_ | refine w_andT ?_ | refine w_orT ?_ | refine w_yes ?_ | refine w_and ?_ | refine w_or ?_ | refine w_not ?_ | refine w_if ?_ | refine w_ifS ?_ | refine w_seq ?_ | refine w_next ?_ | refine w_cnt ?_ | refine w_ret ?_ | refine w_expr ?_ | refine w_asg ?_ | refine w_par ?_ | refine w_F ?_ | refine w_Fp ?_ | refine w_itL ?_ | refine w_itT ?_ | refine w_itK ?_ | refine w_rng ?_ | refine w_neg ?_ | refine w_dput ?_ | refine w_newD ?_) | with_reducible refine w_then ?_ | refine ⟨_, _, rfl, ?_⟩ | refine ⟨_, rfl, ?_⟩ | refine ⟨by decide, ?_⟩ | refine ⟨_, _, eqS (by decide +kernel) (by decide +kernel), ?_⟩ | refine ⟨(by simp only [List.length_cons, List.length_nil]; decide), ?_⟩ | refine ⟨fun c => absurd c (by decide +kernel), fun _ => ?_⟩ | refine ⟨fun _ => ?_, fun c => absurd c (by decide +kernel)⟩))
    exact ⟨_, _, addT (by simp only [List.length_cons, List.length_nil]; omega), rfl, rfl⟩
  refine w_seq (w_app6 (d0 := houseD (a ++ (one.1, one.2.1, one.2.2 ++ [canD one.1]) :: b) gs rooms) rfl (by simp only [List.length_append, List.length_cons, List.length_nil]; decide) (w_tup (w_cons (w_sortX (one := one) (s := one.2.2 ++ [canD one.1]) rfl rfl hlab ndn srn (w_d2 (w_d2 (w_v rfl (w_c ⟨.tup one.2.2, _, ix2 _ _ _ _ _, ?_⟩)))) (T3 (dd := []) rfl rfl ⟨(by simp only [List.length_cons, List.length_nil]; decide), rfl, f3, rfl⟩)))) fun f4 => w_then ?_)
  · (repeat (first | (with_reducible first | refine w_v rfl ?_ | refine w_c ?_ | refine w_d2 ?_ | refine w_cons ?_ | refine w_nil ?_ | refine w_call ?_ | refine w_tup ?_ | refine w_tpn ?_ | refine w_lst ?_ | refine w_lstM ?_ | refine w_wk ?_ | refine w_frz ?_ | refine w_meth ?_ | refine w_test ?_ | refine w_notT ?_ | refine w_andT ?_ | refine w_orT ?_ | refine w_yes ?_ | refine w_and ?_ | refine w_or ?_ | refine w_not ?_ | refine w_if ?_ | refine w_ifS ?_ | refine w_seq ?_ | refine w_next ?_ | refine w_cnt ?_ | refine w_ret ?_ | refine w_expr ?_ | refine w_asg ?_ | refine w_par ?_ | refine w_F ?_ | refine w_Fp ?_ | refine w_itL ?_ | refine w_itT ?_ | refine w_itK ?_ | refine w_rng ?_ | refine w_neg ?_ | refine w_dput ?_ | refine w_newD ?_) | with_reducible refine w_then ?_ | refine ⟨_, _, rfl, ?_⟩ | refine ⟨_, rfl, ?_⟩ | refine ⟨by decide, ?_⟩ | refine ⟨_, _, eqS (by decide +kernel) (by decide +kernel), ?_⟩ | refine ⟨(by simp only [List.length_cons, List.length_nil]; decide), ?_⟩ | refine ⟨fun c => absurd c (by decide +kernel), fun _ => ?_⟩ | refine ⟨fun _ => ?_, fun c => absurd c (by decide +kernel)⟩))
    exact ⟨_, _, addT (by simp only [List.length_cons, List.length_nil]; omega), rfl, rfl⟩
  have lrm : rooms.length ≤ 2 := H.rms2.2.1
  refine w_seq (w_app6 (d0 := houseD rows gs ((("a" : Str), (0 : Int)) :: rooms)) rfl (by simp only [List.length_append, List.length_cons, List.length_nil]; decide) (w_tup (w_cons (w_v rfl (w_cons (w_v rfl (w_cons (w_d2 ?_))))))) fun f5 => w_then ?_)
  · (repeat (first | (with_reducible first | refine w_v rfl ?_ | refine w_c ?_ | refine w_d2 ?_ | refine w_cons ?_ | refine w_nil ?_ | refine w_call ?_ | refine w_tup ?_ | refine w_tpn ?_ | refine w_lst ?_ | refine w_lstM ?_ | refine w_wk ?_ | refine w_frz ?_ | refine w_meth ?_ | refine w_test ?_ | refine w_notT ?_ | refine w_andT ?_ | refine w_orT ?_ | refine w_yes ?_ | refine w_and ?_ | refine w_or ?_ | refine w_not ?_ | refine w_if ?_ | refine w_ifS ?_ | refine w_seq ?_ | refine w_next ?_ | refine w_cnt ?_ | refine w_ret ?_ | refine w_expr ?_ | refine w_asg ?_ | refine w_par ?_ | refine w_F ?_ | refine w_Fp ?_ | refine w_itL ?_ | refine w_itT ?_ | refine w_itK ?_ | refine w_rng ?_ | refine w_neg ?_ | refine w_dput ?_ | refine w_newD ?_) | with_reducible refine w_then ?_ | refine ⟨_, _, rfl, ?_⟩ | refine ⟨_, rfl, ?_⟩ | refine ⟨by decide, ?_⟩ | refine ⟨_, _, eqS (by decide +kernel) (by decide +kernel), ?_⟩ | refine ⟨(by simp only [List.length_cons, List.length_nil]; decide), ?_⟩ | refine ⟨fun c => absurd c (by decide +kernel), fun _ => ?_⟩ | refine ⟨fun _ => ?_, fun c => absurd c (by decide +kernel)⟩))
    refine ⟨_, _, addT (by rw [List.length_map]; simp only [List.length_cons, List.length_nil]; omega), w_nil ⟨(by simp only [List.length_cons, List.length_nil]; decide), rfl, f4, rfl⟩⟩
  have lgs : gs.length ≤ 1 := by rw [H.gs]; split <;> simp
  refine w_seq (w_app6 (d0 := houseD rows (gs ++ [(("zzz" : Str), one.1)]) rooms) rfl (by simp only [List.length_append, List.length_cons, List.length_nil]; decide) (w_tup (w_cons (w_v rfl (w_cons (w_d2 (w_v rfl (w_tpn (w_cons (w_tup (w_cons (w_c (w_cons (w_d2 (w_v rfl (w_c ⟨.str one.1, _, ix0 _ _ _, ?_⟩))))))))))))))) fun f6 => w_then ?_)
  · refine w_nil ⟨(by simp only [List.length_cons, List.length_nil]; decide), w_nil ⟨(by simp only [List.length_cons, List.length_nil]; decide), .tpn ((gs ++ [(("zzz" : Str), one.1)]).map pairD), _, ?_, w_cons (w_v rfl (w_nil ⟨(by simp only [List.length_cons, List.length_nil]; decide), rfl, f5, rfl⟩))⟩⟩
    unfold pur2 pur catN
    simp only
    rw [if_pos (by rw [List.length_map]; simp only [List.length_cons, List.length_nil]; omega), List.map_append]
    rfl
  refine w_seq (w_app6 (d0 := .tup [.lst (rows.map toR), .tpn (gs.map pairD), .tup (rooms.map roomD)]) rfl (by simp only [List.length_append, List.length_cons, List.length_nil]; decide) (w_tup (w_cons (w_frzL rfl (by omega) (T3 (dd := []) rfl rfl ⟨(by simp only [List.length_cons, List.length_nil]; decide), rfl, f6 ++ [.gone], by simp⟩)))) fun f7 => w_then ?_)
  refine w_seq (w_app6 (d0 := .tup [.tup (rows.map toR), .tpn (gs.map pairD), .tup (rooms.map roomD), .tup []]) rfl (by simp only [List.length_append, List.length_cons, List.length_nil]; decide) (w_tup (w_cons (w_v rfl (w_cons (w_v rfl (w_cons (w_v rfl (w_cons (w_tup (w_nil ⟨by decide, w_nil ⟨(by simp only [List.length_cons, List.length_nil]; decide), rfl, f7, rfl⟩⟩)))))))))) fun f8 => w_then ?_)
  generalize hws : (([] ++ [houseD (rows ++ [one]) gs rooms] ++ [houseD (a ++ (one.1, one.2.1, one.2.2 ++ [inD1]) :: b) gs rooms] ++ [houseD (a ++ (one.1, one.2.1, nixD :: one.2.2) :: b) gs rooms] ++ [houseD (a ++ (one.1, one.2.1, one.2.2 ++ [canD one.1]) :: b) gs rooms] ++ [houseD rows gs ((("a" : Str), (0 : Int)) :: rooms)] ++ [houseD rows (gs ++ [(("zzz" : Str), one.1)]) rooms] ++ [D.tup [.lst (rows.map toR), .tpn (gs.map pairD), .tup (rooms.map roomD)]] ++ [D.tup [.tup (rows.map toR), .tpn (gs.map pairD), .tup (rooms.map roomD), .tup []]]) : List D) = ws
  have nrr := H.rowsOk.1.nr
  have nrH : ∀ {rows' : List Rw} {gs' : List (Str × Str)} {rooms' : List Rm}, noRs (rows'.map toR) = true → noR (houseD rows' gs' rooms') = true := fun h => by simp [houseD, noR, noRs, h, nr_pairs, nr_rooms]
  have n1 : noRs one.2.2 = true := isS_nrs (H.rowsOk.1.s one h1)
  have hall : ∀ w ∈ ws, noR w = true ∧ Ans F_is_house [w] (.bl false) := by
    intro w hw
    rw [← hws] at hw
    simp only [List.nil_append, List.cons_append, List.mem_cons, List.not_mem_nil, or_false] at hw
    rcases hw with rfl | rfl | rfl | rfl | rfl | rfl | rfl | rfl
    · refine ⟨nrH ?_, H.w1 h1⟩
      rw [List.map_append, nr_app, nrr]
      simp [toR, noR, noRs, n1]
    · exact ⟨nrH (nr_bent nrr hab (by rw [nr_app, n1]; rfl)), H.w2 hab⟩
    · exact ⟨nrH (nr_bent nrr hab (by show (noR nixD && noRs one.2.2) = true; rw [n1]; rfl)), H.w3 hab⟩
    · exact ⟨nrH (nr_bent nrr hab (by rw [nr_app, n1]; rfl)), H.w4 hab⟩
    · exact ⟨nrH nrr, H.w5⟩
    · exact ⟨nrH nrr, H.w6 h1⟩
    · refine ⟨by simp [noR, noRs, nrr, nr_pairs, nr_rooms], b7_ok nrr⟩
    · exact ⟨by simp [noR, noRs, nrr, nr_pairs, nr_rooms], b8_ok _ _ _ _⟩
  have hw8 : ws.length = 8 := by rw [← hws]; rfl
  refine w_sFrz (d := .ref (e.length + 1)) (t' := .lst ws) (G2 := o2 :: (e ++ O.gone :: f8)) rfl ?_ ?_
  · unfold frzD
    simp only [lk0 mid_at, frzO, List.set_cons_succ, mid_set]
  refine w_seq (w_asg (w_d2 (w_d2 (w_lst (w_cons (w_ans (w_cons (w_v rfl (w_nil ⟨by simp [noRs, nrH nrr], _, H.host, rfl, w_nil ⟨by decide, ?_⟩⟩)))))))))
  refine w_lcB ws id (fun _ => true) (fun _ => .bl false) ?_ (by omega) (fun w hw => ⟨_, rfl, w_yes ⟨rfl, rfl⟩, fun _ => ?_⟩) ?_
  · (repeat (first | (with_reducible first | refine w_v rfl ?_ | refine w_c ?_ | refine w_d2 ?_ | refine w_cons ?_ | refine w_nil ?_ | refine w_call ?_ | refine w_tup ?_ | refine w_tpn ?_ | refine w_lst ?_ | refine w_lstM ?_ | refine w_wk ?_ | refine w_frz ?_ | refine w_meth ?_ | refine w_test ?_ | refine w_notT ?_ | refine w_andT ?_ | refine w_orT ?_ | refine w_yes ?_ | refine w_and ?_ | refine w_or ?_ | refine w_not ?_ | refine w_if ?_ | refine w_ifS ?_ | refine w_seq ?_ | refine w_next ?_ | refine w_cnt ?_ | refine w_ret ?_ | refine w_expr ?_ | refine w_asg ?_ | refine w_par ?_ | refine w_F ?_ | refine w_Fp ?_ | refine w_itL ?_ | refine w_itT ?_ | refine w_itK ?_ | refine w_rng ?_ | refine w_neg ?_ | refine w_dput ?_ | refine w_newD ?_) | with_reducible refine w_then ?_ | refine ⟨_, _, rfl, ?_⟩ | refine ⟨_, rfl, ?_⟩ | refine ⟨by decide, ?_⟩ | refine ⟨_, _, eqS (by decide +kernel) (by decide +kernel), ?_⟩ | refine ⟨(by simp only [List.length_cons, List.length_nil]; decide), ?_⟩ | refine ⟨fun c => absurd c (by decide +kernel), fun _ => ?_⟩ | refine ⟨fun _ => ?_, fun c => absurd c (by decide +kernel)⟩))
    exact ⟨by simp, rfl⟩
  · refine w_ans (w_cons (w_v rfl (w_nil ?_)))
    exact ⟨by simp [noRs, (hall w hw).1], _, (hall w hw).2, rfl, rfl, rfl⟩
  have ft : ∀ {α : Type} (l : List α), l.filter (fun _ => true) = l := fun l => by simp
  rw [ft]
  refine ⟨_, _, catL (by rw [List.length_map, hw8]; decide), ?_⟩
  refine w_lcB rows toR (fun _ => true) (fun _ => .bl true) ?_ (by omega) (fun r hr => ⟨_, rfl, w_yes ⟨rfl, rfl⟩, fun _ => ?_⟩) ?_
  · (repeat (first | (with_reducible first | refine w_v rfl ?_ | refine w_c ?_ | refine w_d2 ?_ | refine w_cons ?_ | refine w_nil ?_ | refine w_call ?_ | refine w_tup ?_ | refine w_tpn ?_ | refine w_lst ?_ | refine w_lstM ?_ | refine w_wk ?_ | refine w_frz ?_ | refine w_meth ?_ | refine w_test ?_ | refine w_notT ?_ | refine w_andT ?_ | refine w_orT ?_ | refine w_yes ?_ | refine w_and ?_ | refine w_or ?_ | refine w_not ?_ | refine w_if ?_ | refine w_ifS ?_ | refine w_seq ?_ | refine w_next ?_ | refine w_cnt ?_ | refine w_ret ?_ | refine w_expr ?_ | refine w_asg ?_ | refine w_par ?_ | refine w_F ?_ | refine w_Fp ?_ | refine w_itL ?_ | refine w_itT ?_ | refine w_itK ?_ | refine w_rng ?_ | refine w_neg ?_ | refine w_dput ?_ | refine w_newD ?_) | with_reducible refine w_then ?_ | refine ⟨_, _, rfl, ?_⟩ | refine ⟨_, rfl, ?_⟩ | refine ⟨by decide, ?_⟩ | refine ⟨_, _, eqS (by decide +kernel) (by decide +kernel), ?_⟩ | refine ⟨(by simp only [List.length_cons, List.length_nil]; decide), ?_⟩ | refine ⟨fun c => absurd c (by decide +kernel), fun _ => ?_⟩ | refine ⟨fun _ => ?_, fun c => absurd c (by decide +kernel)⟩))
    exact ⟨rfl, rfl⟩
  · refine w_ans (w_cons (w_d2 (w_v rfl (w_c ⟨.tup r.2.2, _, ix2 _ _ _ _ _, w_nil ?_⟩))))
    exact ⟨by simp [noRs, noR, isS_nrs (H.rowsOk.1.s r hr)], _, H.scr r hr, rfl, rfl, rfl⟩
  rw [ft]
  refine ⟨_, _, catL (by simp only [List.length_append, List.length_map, List.length_cons, List.length_nil]; omega), _, _, rfl, w_then ?_⟩
  have eG : [D.bl true] ++ ws.map (fun _ => D.bl false) ++ rows.map (fun _ => D.bl true) = ([true] ++ List.replicate 8 false ++ List.replicate rows.length true).map D.bl := by
    have q : ∀ {α : Type} (l : List α) (b : Bool), l.map (fun _ => D.bl b) = List.replicate l.length (D.bl b) := fun l b => by
      rw [List.map_const']
    rw [q, q, hw8, List.map_append, List.map_append, List.map_replicate, List.map_replicate]
    rfl
  rw [eG]
  have eD : [D.bl true] ++ List.replicate 8 (D.bl false) ++ List.replicate rows.length (D.bl true) = ([true] ++ List.replicate 8 false ++ List.replicate rows.length true).map D.bl := by
    rw [List.map_append, List.map_append, List.map_replicate, List.map_replicate]
    rfl
  have nb : ∀ l : List Bool, noRs (l.map D.bl) = true := fun l => by
    induction l with
    | nil => rfl
    | cons b l ih => simp [noRs, noR, ih]
  refine w_ret (w_ans (w_cons (w_v rfl ?_)))
  refine w_cons (w_d2 (w_d2 (w_lst (w_cons (w_c (w_nil ⟨by decide, w_d2 (w_lst (w_cons (w_c (w_nil ⟨by decide, w_c ⟨_, _, repL (.bl false) 8 (by omega) _, _, _, catL (by rw [List.length_replicate]; decide), ?_⟩⟩))))⟩))))))
  refine w_d2 (w_lst (w_cons (w_c (w_nil ⟨by decide, w_call (w_cons (w_v rfl (w_nil ⟨.int rows.length, o2 :: (e ++ O.gone :: f8), ?_, _, _, repL (.bl true) rows.length (by omega) _, _, _, catL (by simp only [List.length_append, List.length_replicate, List.length_cons, List.length_nil]; omega), w_nil ?_⟩)))⟩))))
  · show some (D.int ((rows.map toR).length : Nat), _) = _
    rw [List.length_map]
  rw [eD]
  exact ⟨by simp only [noRs, noR, nb] <;> rfl, _, same_bls _ 2 (by simp; omega), rfl, _, rfl, rfl⟩
end K01

namespace K01
open PySem PySem.Spec PyProof.Rows L2 Tw
theorem pow18 : powO (.int 10) (.int 18) = some (.int 1000000000000000000) := by
  have h : ((10 : Int) ^ (18 : Int).toNat) = 1000000000000000000 := by
    show ((10 : Nat) : Int) ^ 18 = _
    rw [← Int.natCast_pow]
    rfl
  unfold powO i2c
  dsimp only
  rw [h]
  rfl
theorem box_ok (ds : List D) (k : Nat) (c : Int) (h : ds[k]? = some (.int c)) (G : List O) : ∃ x y : Int, 0 ≤ x ∧ F_l_box [.lst ds, .int (k : Int)] G = some (.inr (.ref G.length), G ++ [bx x y 0]) := by
  have lt : k < ds.length := (List.getElem?_eq_some_iff.mp h).1
  have ix : ixN ds.length (k : Int) = some k := by
    unfold ixN
    rw [if_pos (by omega), if_pos (by omega)]
    simp
  have lt' : (k : Int) < (ds.length : Int) := by omega
  obtain ⟨A, hA, eA⟩ : ∃ A : Int, 0 ≤ A ∧ (if c < 0 then -c else c) = A := ⟨_, by split <;> omega, rfl⟩
  have p18 := pow18
  by_cases big : 1000000000000000000 ≤ A
  · refine ⟨A, c % 2305843009213693951 + 39373 * (k : Int) + 101, hA, ?_⟩
    simp [F_l_box, ds_l_box, N_l_box, runD, start0, bnd, bndN, dSeq, dIfS, dTest, dTru, truP, truD, dNotT, dAndT, dOrT, dAnd, dOr, dNot, d2, dV, dC, lft, pur, ixO, atI, ixN, blO, pur2, ordO, gtI, ltI, leI, geI, Tw.ret, dAsg, dCall, dCons, dNil, pur1, purL, intF, absF, gN, modO, divO, mulO, addO, subO, i2, i2c, gSubD, setF, dRet, outD, dNext, dIf, lenP, dLstM, newL, dLst, dTup, lstO, tupO, okL, mx, dFrz, frzD, frzO, dF, noX, dExpr, dMeth, isLs, inL, appF, dPar, par2, lP, allF, listP, inS, ix, h, lt', eA, big, mulC, p18]
  · refine ⟨0, c % 2305843009213693951 + 39373 * (k : Int) + 101, Int.le_refl 0, ?_⟩
    simp [F_l_box, ds_l_box, N_l_box, runD, start0, bnd, bndN, dSeq, dIfS, dTest, dTru, truP, truD, dNotT, dAndT, dOrT, dAnd, dOr, dNot, d2, dV, dC, lft, pur, ixO, atI, ixN, blO, pur2, ordO, gtI, ltI, leI, geI, Tw.ret, dAsg, dCall, dCons, dNil, pur1, purL, intF, absF, gN, modO, divO, mulO, addO, subO, i2, i2c, gSubD, setF, dRet, outD, dNext, dIf, lenP, dLstM, newL, dLst, dTup, lstO, tupO, okL, mx, dFrz, frzD, frzO, dF, noX, dExpr, dMeth, isLs, inL, appF, dPar, par2, lP, allF, listP, inS, ix, h, lt', eA, big, mulC, p18]
def b_cells : En → M Out := dSeq (dAsg (d2 (pur2 modO) (dCall (pur1 intF) (dCons (dV 3) dNil)) (dV 1)) (gN 5)) (dAsg (d2 (pur2 addO) (d2 ixO (dV 2) (dV 5)) (d2 (pur2 mulO) (dV 4) (d2 (pur2 addO) (dV 3) (dC (.int 2))))) (gSubD (dV 2) (dV 5) setF))
theorem b_one (s : D) (u5 : Option D) (k : Int) (h0 : 0 ≤ k) (hi : k < 1000) (v a b c : Int) : ∃ a' b' c' : Int, b_cells [some s, some (.int 3), some (.ref 0), some (.int k), some (.int v), u5] [.lst [.int a, .int b, .int c]] =
    some (.inr (.nx [some s, some (.int 3), some (.ref 0), some (.int k), some (.int v), some (.int (k % 3))]), [.lst [.int a', .int b', .int c']]) := by
  have m : mulC v (k + 2) = true := by
    have m1 : -(2 ^ 64) < k + 2 := by omega
    have m2 : k + 2 < 2 ^ 64 := by omega
    unfold mulC
    rw [decide_eq_true m1, decide_eq_true m2]
    simp
  have q : k % 3 = 0 ∨ k % 3 = 1 ∨ k % 3 = 2 := by omega
  rcases q with q | q | q
  · exact ⟨a + v * (k + 2), b, c, by simp [b_cells, runD, start0, bnd, bndN, dSeq, dIfS, dTest, dTru, truP, truD, dNotT, dAndT, dOrT, dAnd, dOr, dNot, d2, dV, dC, lft, pur, ixO, atI, ixN, blO, pur2, ordO, gtI, ltI, leI, geI, Tw.ret, dAsg, dCall, dCons, dNil, pur1, purL, intF, absF, gN, modO, divO, mulO, addO, subO, i2, i2c, gSubD, setF, dRet, outD, dNext, dIf, lenP, dLstM, newL, dLst, dTup, lstO, tupO, okL, mx, dFrz, frzD, frzO, dF, noX, dExpr, dMeth, isLs, inL, appF, dPar, par2, lP, allF, listP, inS, q, m]⟩
  · exact ⟨a, b + v * (k + 2), c, by simp [b_cells, runD, start0, bnd, bndN, dSeq, dIfS, dTest, dTru, truP, truD, dNotT, dAndT, dOrT, dAnd, dOr, dNot, d2, dV, dC, lft, pur, ixO, atI, ixN, blO, pur2, ordO, gtI, ltI, leI, geI, Tw.ret, dAsg, dCall, dCons, dNil, pur1, purL, intF, absF, gN, modO, divO, mulO, addO, subO, i2, i2c, gSubD, setF, dRet, outD, dNext, dIf, lenP, dLstM, newL, dLst, dTup, lstO, tupO, okL, mx, dFrz, frzD, frzO, dF, noX, dExpr, dMeth, isLs, inL, appF, dPar, par2, lP, allF, listP, inS, q, m]⟩
  · exact ⟨a, b, c + v * (k + 2), by simp [b_cells, runD, start0, bnd, bndN, dSeq, dIfS, dTest, dTru, truP, truD, dNotT, dAndT, dOrT, dAnd, dOr, dNot, d2, dV, dC, lft, pur, ixO, atI, ixN, blO, pur2, ordO, gtI, ltI, leI, geI, Tw.ret, dAsg, dCall, dCons, dNil, pur1, purL, intF, absF, gN, modO, divO, mulO, addO, subO, i2, i2c, gSubD, setF, dRet, outD, dNext, dIf, lenP, dLstM, newL, dLst, dTup, lstO, tupO, okL, mx, dFrz, frzD, frzO, dF, noX, dExpr, dMeth, isLs, inL, appF, dPar, par2, lP, allF, listP, inS, q, m]⟩
theorem loop_cells (s : D) : ∀ (es : List D), (∀ d ∈ es, ∃ (i : Nat) (v : Int), i < 1000 ∧ d = .tup [.int (i : Int), .int v]) → ∀ (u3 u4 u5 : Option D) (a b c : Int),
    ∃ (w3 w4 w5 : Option D) (a' b' c' : Int), bodyL (gT 2 (gsCons (gN 3) (gsCons (gN 4) gsNil))) b_cells es [some s, some (.int 3), some (.ref 0), u3, u4, u5] [.lst [.int a, .int b, .int c]] =
      some (.inr (.nx [some s, some (.int 3), some (.ref 0), w3, w4, w5]), [.lst [.int a', .int b', .int c']])
  | [], _, u3, u4, u5, a, b, c => ⟨u3, u4, u5, a, b, c, rfl⟩
  | d :: r, h, u3, u4, u5, a, b, c => by
    obtain ⟨i, v, hi, rfl⟩ := h d (List.mem_cons_self ..)
    obtain ⟨a', b', c', e1⟩ := b_one s u5 (i : Int) (by omega) (by omega) v a b c
    obtain ⟨w3, w4, w5, a2, b2, c2, e2⟩ := loop_cells s r (fun e he => h e (List.mem_cons_of_mem _ he)) (some (.int (i : Int))) (some (.int v)) (some (.int ((i : Int) % 3))) a' b' c'
    refine ⟨w3, w4, w5, a2, b2, c2, ?_⟩
    rw [bodyL]
    simp [bnd, lft, gT, gsCons, gN, gsNil, e1, e2]
theorem cells_ok (ns : List Int) (hl : ns.length ≤ 63) : ∃ (zs : List Int) (G : List O), zs.length ≤ 3 ∧ F_l_cells [.scr (ns.map D.int), .int 3] [] = some (.inr (.lst (zs.map D.int)), G) := by
  match ns, hl with
  | [], _ => exact ⟨[0], _, by simp, rfl⟩
  | [a], _ => exact ⟨[a], _, by simp, rfl⟩
  | [a, b], _ => exact ⟨[a, b], _, by simp, rfl⟩
  | a :: b :: c :: r, hl =>
    have hr : r.length ≤ 60 := by simp at hl; omega
    obtain ⟨w3, w4, w5, a', b', c', e⟩ := loop_cells (.scr ((a :: b :: c :: r).map D.int)) (enumD (r.map D.int)) (by
      intro d hd
      unfold enumD at hd
      simp only [List.mem_map] at hd
      obtain ⟨⟨x, i⟩, hx, rfl⟩ := hd
      have := List.mem_zipIdx hx
      obtain ⟨h1, h2, h3⟩ := this
      simp at h2 h3
      exact ⟨i, _, by omega, by rw [h3]⟩) none none none a b c
    refine ⟨[a', b', c'], [.gone], by simp, ?_⟩
    have hc1 : Tw.cutD ((a :: b :: c :: r).map D.int) none (some 3) = [.int a, .int b, .int c] := by
      simp [Tw.cutD, HT.sIx]
    have hc2 : Tw.cutD ((a :: b :: c :: r).map D.int) (some 3) (some 63) = r.map D.int := by
      have l1 : r.length ≤ 60 := hr
      simp [Tw.cutD, HT.sIx]
      exact List.take_of_length_le (by simp; omega)
    generalize (a :: b :: c :: r).map D.int = ds at hc1 hc2 e ⊢
    refine run_rt (G1 := [.gone]) ?_
    refine (seq_nx (ρ1 := [some (.scr ds), some (.int 3), some (.ref 0), none, none, none]) (G1 := [.lst [.int a, .int b, .int c]]) ?_).trans ?_
    · simp [N_l_cells, runD, start0, bnd, bndN, dSeq, dIfS, dTest, dTru, truP, truD, dNotT, dAndT, dOrT, dAnd, dOr, dNot, d2, dV, dC, lft, pur, ixO, atI, ixN, blO, pur2, ordO, gtI, ltI, leI, geI, Tw.ret, dAsg, dCall, dCons, dNil, pur1, purL, intF, absF, gN, modO, divO, mulO, addO, subO, i2, i2c, gSubD, setF, dRet, outD, dNext, dIf, lenP, dLstM, newL, dLst, dTup, lstO, tupO, okL, mx, dFrz, frzD, frzO, dF, noX, dExpr, dMeth, isLs, inL, appF, dPar, par2, lP, allF, listP, inS, dSl, dNoP, dP, intO, slP, slO, hc1]
    · refine (seq_nx (ρ1 := [some (.scr ds), some (.int 3), some (.ref 0), w3, w4, w5]) (G1 := [.lst [.int a', .int b', .int c']]) ?_).trans ?_
      · refine (for_eq (es := enumD (r.map D.int)) (G1 := [.lst [.int a, .int b, .int c]]) ?_).trans e
        simp [runD, start0, bnd, bndN, dSeq, dIfS, dTest, dTru, truP, truD, dNotT, dAndT, dOrT, dAnd, dOr, dNot, d2, dV, dC, lft, pur, ixO, atI, ixN, blO, pur2, ordO, gtI, ltI, leI, geI, Tw.ret, dAsg, dCall, dCons, dNil, pur1, purL, intF, absF, gN, modO, divO, mulO, addO, subO, i2, i2c, gSubD, setF, dRet, outD, dNext, dIf, lenP, dLstM, newL, dLst, dTup, lstO, tupO, okL, mx, dFrz, frzD, frzO, dF, noX, dExpr, dMeth, isLs, inL, appF, dPar, par2, lP, allF, listP, inS, dSl, dNoP, dP, intO, slP, slO, dRng, enum1, itL, hc2]
      · rfl
end K01

namespace K01
open PySem PySem.Spec PyProof.Rows L2 Tw
theorem nr_ints : ∀ l : List Int, noRs (l.map D.int) = true
  | [] => rfl
  | a :: l => by
    show (noR (.int a) && noRs (l.map D.int)) = true
    rw [nr_ints l]
    rfl
theorem box_at (ds : List D) (k : Nat) (c : Int) (h : ds[k]? = some (.int c)) (G : List O) : ∃ x y : Int, 0 ≤ x ∧ F_l_box [.lst ds, .int (k : Int)] G = some (.inr (.ref G.length), G ++ [bx x y 0]) := box_ok ds k c h G
theorem cells_ans (ns : List Int) (hl : ns.length ≤ 63) : ∃ zs : List Int, zs.length ≤ 3 ∧ Ans F_l_cells [.scr (ns.map D.int), .int 3] (.lst (zs.map D.int)) := by
  obtain ⟨zs, G, hz, e⟩ := cells_ok ns hl
  exact ⟨zs, hz, _, G, e, rfl⟩
theorem law_ok (ns : List Int) (hl : ns.length ≤ 63) : ∃ G, F_law [.scr (ns.map D.int)] [] = some (.inr (.bl true), G) := by
  have mz : (1000 : Nat) ≤ mx := by decide
  suffices hw : WP (F_law [.scr (ns.map D.int)]) [] fun d _ => d = .bl true by
    obtain ⟨d, G, e, h⟩ := hw
    subst h
    exact ⟨G, e⟩
  obtain ⟨zs, hz, hc⟩ := cells_ans ns hl
  refine w_run ?_
  unfold ds_law
  refine w_seq (w_asg (w_ans ?_))
  (repeat (first | (with_reducible first | refine w_v rfl ?_ | refine w_c ?_ | refine w_d2 ?_ | refine w_cons ?_ | refine w_nil ?_ | refine w_call ?_ | refine w_tup ?_ | refine w_tpn ?_ | refine w_lst ?_ | refine w_lstM ?_ | refine w_wk ?_ | refine w_frz ?_ | refine w_meth ?_ | refine w_test ?_ | refine w_notT ?_ | refine w_andT ?_ | refine w_orT ?_ | refine w_yes ?_ | refine w_and ?_ | refine w_or ?_ | refine w_not ?_ | refine w_if ?_ | refine w_ifS ?_ | refine w_seq ?_ | refine w_next ?_ | refine w_cnt ?_ | refine w_ret ?_ | refine w_expr ?_ | refine w_asg ?_ | refine w_par ?_ | refine w_F ?_ | refine w_Fp ?_ | refine w_itL ?_ | refine w_itT ?_ | refine w_itK ?_ | refine w_rng ?_ | refine w_neg ?_ | refine w_dput ?_ | refine w_newD ?_) | with_reducible refine w_then ?_ | refine ⟨_, _, rfl, ?_⟩ | refine ⟨_, rfl, ?_⟩ | refine ⟨by decide, ?_⟩ | refine ⟨_, _, eqS (by decide +kernel) (by decide +kernel), ?_⟩ | refine ⟨(by simp only [List.length_cons, List.length_nil]; decide), ?_⟩ | refine ⟨fun c => absurd c (by decide +kernel), fun _ => ?_⟩ | refine ⟨fun _ => ?_, fun c => absurd c (by decide +kernel)⟩))
  refine ⟨by simp only [noRs, noR, nr_ints] <;> rfl, _, hc, by simp only [noR, nr_ints], _, _, rfl, w_then ?_⟩
  refine w_ret (w_and (w_ans (w_nil ⟨rfl, .bl true, Ans.of hand_ok, rfl, true, rfl, fun _ => ?_, fun c => (by cases c)⟩)))
  refine w_call (w_cons (w_lc (fun ds ys G => ∃ k : Nat, k + ds.length = zs.length ∧ ds = (List.range' k ds.length).map (fun (i : Nat) => D.int (0 + (i : Int))) ∧ ys = List.replicate ys.length (.bl true) ∧ ys.length = k) ?_ ?_ ?_))
  · refine w_rng (w_cons (w_call (w_cons (w_v rfl (w_nil ⟨.int zs.length, [], ?_, w_nil ⟨rngD 0 zs.length, ?_, 0, ?_, ?_, rfl, rfl⟩⟩)))))
    · show some (D.int ((zs.map D.int).length : Nat), _) = _
      rw [List.length_map]
    · unfold rng1
      dsimp only
      rw [smallR (by omega) (by omega)]
      rfl
    · simp [rngD]
    · unfold rngD
      rw [List.length_map, List.length_range, List.range_eq_range']
  · rintro d r ys G ⟨k, hk, hd, hy, hyl⟩
    simp only [List.length_cons] at hk hd
    rw [List.range'_succ, List.map_cons] at hd
    obtain ⟨hd1, hd2⟩ := List.cons.inj hd
    subst hd1
    obtain ⟨c, hc⟩ : ∃ c, zs[k]? = some c := ⟨_, List.getElem?_eq_getElem (by omega)⟩
    have hdz : (zs.map D.int)[k]? = some (.int c) := by rw [List.getElem?_map, hc]; rfl
    obtain ⟨x, y, hx, eb⟩ := box_at (zs.map D.int) k c hdz G
    obtain ⟨Gr, er⟩ := right_ok (y := y) hx
    have z : ((0 : Int) + (k : Int)) = (k : Int) := by omega
    have g1 : (G ++ [bx x y 0])[G.length]? = some (bx x y 0) := by simp
    have nr : noRs [.int x, .int y, .int 0] = true := rfl
    refine ⟨[some (.scr (ns.map D.int)), some (.lst (zs.map D.int)), some (.int (0 + (k : Int)))], G, rfl, w_yes ⟨fun _ => ?_, fun c => (by cases c)⟩⟩
    refine ⟨.bl true, (G ++ [bx x y 0]).set G.length .gone, ?_, k + 1, by omega, hd2, ?_, by simp [hyl]⟩
    · simp only [lft, Tw.ret, dFm, dCons, dNil, dF, dV, pur, bnd, noX, movF, refN, mvDs, mvD, z, List.getElem?_cons_zero, List.getElem?_cons_succ, List.set_cons_zero, List.set_cons_succ, wipeD, eb, er, g1, nr, noR, if_true]
    · rw [List.length_append]
      show ys ++ [.bl true] = List.replicate (ys.length + 1) _
      rw [List.replicate_succ', ← hy]
  · rintro ys G ⟨k, hk, hd, hy, hyl⟩
    refine ⟨by simp at hk; omega, w_nil ⟨.bl true, G, ?_, _, rfl, rfl⟩⟩
    rw [hy]
    simp [lP, inL, all_rep]
end K01

set_option maxHeartbeats 0
namespace K01
open PySem PySem.Spec PyProof.Rows L2 Tw
/-! ### the head's facts -/
def partsL : List (Str × List Str) := [("give", []), ("put", ["name"]), ("get", ["name", "end"]), ("set", ["name"]), ("hear", ["name", "end"]), ("start", ["name"]), ("join", ["name", "end"]), ("until", ["moment"]), ("cancel", ["name"]), ("in", []), ("out", []), ("close", ["name"]), ("catch", ["name"]), ("fail", ["name"])]
open He PySem.W in
def tupS (K : Frag) (a : Addr) (ks : List Str) : Bool := match K.lookup a with
  | some ⟨.type c, _, .seq its _, _⟩ => decide (c = "tuple") && (decide (its.size ≤ sizeLine) && relAll (ks.map V.str) its.toList)
  | _ => false
open He PySem.W in
def fx (K : Frag) : Bool := tupB K "TASK_WORDS" [.str "start", .str "join", .str "cancel"] && (tupB K "CLOSING_WORDS" [.str "close", .str "catch"] && partsL.all fun p => match nsIn K (ga K "PARTS") p.1 with
  | some (some (.ref a)) => tupS K a p.2
  | _ => false)
def ts : List He.Tab := [(fun K => He.ga K "PARTS", partsL.map (·.1))]
def fa : List He.Fa := [.glo "is_number", .glo "is_name", .glo "is_table", .glo "fits_part", .glo "depths", .glo "shields_close", .glo "naming_marks", .glo "sole_marks", .glo "names_stand", .glo "hosts_close", .glo "hosts_start", .glo "has_ring", .glo "hangs_together", .glo "is_step", .glo "is_script", .glo "is_house", .glo "_law_box", .glo "_law_take", .glo "_law_cells", .glo "_law_of", .glo "_law_pick", .glo "_law_same", .glo "_law_script", .glo "_law_house", .glo "_law_houses_right", .glo "_law_by_hand_right", .glo "_law_right", .glo "law", .glo "PARTS", .glo "TASK_WORDS", .glo "CLOSING_WORDS", .int "LONGEST_NAME" 8, .free "len", .free "abs", .free "all", .free "any", .free "int", .free "list", .free "isinstance", .free "enumerate", .free "range", .free "zip", .free "bool", .free "str", .free "tuple", .free "min", .free "max", .free "sorted", .free "dict"]
def d_is_number : He.DefD := ⟨("is_number", none), "is_number", "is_number", defArgs s_is_number, defBody s_is_number, defScope s_is_number, [], []⟩
def d_is_name : He.DefD := ⟨("is_name", none), "is_name", "is_name", defArgs s_is_name, defBody s_is_name, defScope s_is_name, [], []⟩
def d_is_table : He.DefD := ⟨("is_table", none), "is_table", "is_table", defArgs s_is_table, defBody s_is_table, defScope s_is_table, [], []⟩
def d_fits_part : He.DefD := ⟨("fits_part", none), "fits_part", "fits_part", defArgs s_fits_part, defBody s_fits_part, defScope s_fits_part, [], []⟩
def d_depths : He.DefD := ⟨("depths", none), "depths", "depths", defArgs s_depths, defBody s_depths, defScope s_depths, [], []⟩
def d_shields_close : He.DefD := ⟨("shields_close", none), "shields_close", "shields_close", defArgs s_shields_close, defBody s_shields_close, defScope s_shields_close, [], []⟩
def d_naming_marks : He.DefD := ⟨("naming_marks", none), "naming_marks", "naming_marks", defArgs s_naming_marks, defBody s_naming_marks, defScope s_naming_marks, [], []⟩
def d_sole_marks : He.DefD := ⟨("sole_marks", none), "sole_marks", "sole_marks", defArgs s_sole_marks, defBody s_sole_marks, defScope s_sole_marks, [], []⟩
def d_names_stand : He.DefD := ⟨("names_stand", none), "names_stand", "names_stand", defArgs s_names_stand, defBody s_names_stand, defScope s_names_stand, [], []⟩
def d_hosts_close : He.DefD := ⟨("hosts_close", none), "hosts_close", "hosts_close", defArgs s_hosts_close, defBody s_hosts_close, defScope s_hosts_close, [], []⟩
def d_hosts_start : He.DefD := ⟨("hosts_start", none), "hosts_start", "hosts_start", defArgs s_hosts_start, defBody s_hosts_start, defScope s_hosts_start, [], []⟩
def d_has_ring : He.DefD := ⟨("has_ring", none), "has_ring", "has_ring", defArgs s_has_ring, defBody s_has_ring, defScope s_has_ring, [], []⟩
def d_hangs_together : He.DefD := ⟨("hangs_together", none), "hangs_together", "hangs_together", defArgs s_hangs_together, defBody s_hangs_together, defScope s_hangs_together, [], []⟩
def d_is_step : He.DefD := ⟨("is_step", none), "is_step", "is_step", defArgs s_is_step, defBody s_is_step, defScope s_is_step, [], []⟩
def d_is_script : He.DefD := ⟨("is_script", none), "is_script", "is_script", defArgs s_is_script, defBody s_is_script, defScope s_is_script, [], []⟩
def d_is_house : He.DefD := ⟨("is_house", none), "is_house", "is_house", defArgs s_is_house, defBody s_is_house, defScope s_is_house, [], []⟩
def d_l_box : He.DefD := ⟨("_law_box", none), "_law_box", "_law_box", defArgs s_l_box, defBody s_l_box, defScope s_l_box, [], []⟩
def d_l_take : He.DefD := ⟨("_law_take", none), "_law_take", "_law_take", defArgs s_l_take, defBody s_l_take, defScope s_l_take, [], []⟩
def d_l_cells : He.DefD := ⟨("_law_cells", none), "_law_cells", "_law_cells", defArgs s_l_cells, defBody s_l_cells, defScope s_l_cells, [], []⟩
def d_l_of : He.DefD := ⟨("_law_of", none), "_law_of", "_law_of", defArgs s_l_of, defBody s_l_of, defScope s_l_of, [], []⟩
def d_l_pick : He.DefD := ⟨("_law_pick", none), "_law_pick", "_law_pick", defArgs s_l_pick, defBody s_l_pick, defScope s_l_pick, [], []⟩
def d_l_same : He.DefD := ⟨("_law_same", none), "_law_same", "_law_same", defArgs s_l_same, defBody s_l_same, defScope s_l_same, [], []⟩
def d_l_script : He.DefD := ⟨("_law_script", none), "_law_script", "_law_script", defArgs s_l_script, defBody s_l_script, defScope s_l_script, [], []⟩
def d_l_house : He.DefD := ⟨("_law_house", none), "_law_house", "_law_house", defArgs s_l_house, defBody s_l_house, defScope s_l_house, [], []⟩
def d_l_houses_right : He.DefD := ⟨("_law_houses_right", none), "_law_houses_right", "_law_houses_right", defArgs s_l_houses_right, defBody s_l_houses_right, defScope s_l_houses_right, [], []⟩
def d_l_by_hand_right : He.DefD := ⟨("_law_by_hand_right", none), "_law_by_hand_right", "_law_by_hand_right", defArgs s_l_by_hand_right, defBody s_l_by_hand_right, defScope s_l_by_hand_right, [], []⟩
def d_l_right : He.DefD := ⟨("_law_right", none), "_law_right", "_law_right", defArgs s_l_right, defBody s_l_right, defScope s_l_right, [], []⟩
def d_law : He.DefD := ⟨("law", none), "law", "law", defArgs s_law, defBody s_law, defScope s_law, [], []⟩
def fn : List He.DefD := [d_is_number, d_is_name, d_is_table, d_fits_part, d_depths, d_shields_close, d_naming_marks, d_sole_marks, d_names_stand, d_hosts_close, d_hosts_start, d_has_ring, d_hangs_together, d_is_step, d_is_script, d_is_house, d_l_box, d_l_take, d_l_cells, d_l_of, d_l_pick, d_l_same, d_l_script, d_l_house, d_l_houses_right, d_l_by_hand_right, d_l_right, d_law]
/-! ### a hook with one more look -/
def hookX (n : Nat) (fx : PySem.W.Frag → Bool) (fa : List He.Fa) (fn : List He.DefD) (ts : List He.Tab) : PySem.W.Hook where
  α := Bool × He.AlT
  obs := fun s => (fx (He.frG s.heap.get? (He.asD s.heap.get? n)), He.obsT fa fn ts (He.frG s.heap.get? (He.asD s.heap.get? n)))
  val := fun w => (true, He.valT fn ts w)
  says := fun w h => ∃ K : PySem.W.Frag, K.In h ∧ fx K = true ∧ He.SaysT fa fn ts w K
  of := fun _ _ e => ⟨_, He.frG_in, congrArg Prod.fst e, congrArg Prod.snd e⟩
  keeps := fun _ _ _ ⟨K, hK, c⟩ k => ⟨K, PySem.W.Frag.In.keeps hK k, c⟩
def obX (n : Nat) (fx : PySem.W.Frag → Bool) (fa : List He.Fa) (fn : List He.DefD) (ts : List He.Tab) (g : Addr → Option Obj) : Bool × He.AlT := (fx (He.frG g (He.asD g n)), He.obsT fa fn ts (He.frG g (He.asD g n)))
theorem obX_eq {n : Nat} {fx : PySem.W.Frag → Bool} {fa : List He.Fa} {fn : List He.DefD} {ts : List He.Tab} {g : Addr → Option Obj} {s : Shared} (h : ∀ a, g a = s.heap.get? a) : obX n fx fa fn ts g = (hookX n fx fa fn ts).obs s := by
  have e : g = s.heap.get? := funext h
  rw [e] <;> rfl
abbrev R : PySem.W.OpenRow := PySem.W.OpenLaw.row PySem.Challenge.rw_giveways_k01_houses_or_not
abbrev hk : PySem.W.Hook := hookX 5 fx fa fn ts
def ob (s : PySem.W.SharedT) : Bool × He.AlT := obX 5 fx fa fn ts (HandSHeadRun.getT s)
theorem ob_eq (s : PySem.W.SharedT) : ob s = hk.obs s.abs := obX_eq (HandSHeadRun.getT_eq s)
def loose : List Str := ["is_number", "is_name", "is_table", "fits_part", "depths", "shields_close", "naming_marks", "hangs_together", "names_stand", "sole_marks", "hosts_close", "hosts_start", "has_ring", "is_step", "is_script", "is_house", "_law_box", "_law_take", "_law_cells", "_law_of", "_law_pick", "_law_same", "_law_script", "_law_house", "_law_by_hand_right", "_law_houses_right", "_law_right", "PARTS", "TASK_WORDS", "CLOSING_WORDS", "LONGEST_NAME"]
theorem runF (w : World) : HandSHeadRun.RunEq R (PySem.W.view R.prog [36]) hk ob 6000 loose (w.withFollow "special-get-raises" false) := by
  intro os
  kernel_rfl
theorem runT (w : World) : HandSHeadRun.RunEq R (PySem.W.view R.prog [36]) hk ob 6000 loose (w.withFollow "special-get-raises" true) := by
  intro os
  kernel_rfl
theorem run (w : World) : HandSHeadRun.RunEq R (PySem.W.view R.prog [36]) hk ob 6000 loose w := by
  have e := World.withFollow_self w "special-get-raises"
  cases hb : w.params.followText "special-get-raises" <;> rw [hb] at e
  · have z := runF w
    rwa [e] at z
  · have z := runT w
    rwa [e] at z
end K01

set_option maxHeartbeats 0
namespace K01
open PySem PySem.Spec PyProof.Rows L2 Tw
section
variable {P : Program} {w : World} {K : PySem.W.Frag} {h : Heap} {mg : Str → Option Value} {base : Heap}
theorem no_key {a : Addr} {es : Array DictEntry} {n : Nat} {ks : List Str} (D0 : KDict K w a es n) (h : He.dicW K a = some (He.keysIn w.params ks)) {z : Str} (hz : z ∉ ks) : PySem.W.nsIn K a z = some none := by
  unfold He.dicW at h
  rw [D0.at_] at h
  have h2 : es.toList.map He.keyOf = He.keysIn w.params ks := by
    have h1 : (match decide (("dict" : String) = "dict") && ((#[] : Array _).isEmpty && !(a == sysModules)) with
      | true => some (es.toList.map He.keyOf)
      | false => none) = some (He.keysIn w.params ks) := h
    rw [D0.low] at h1
    exact Option.some.inj h1
  have hk : ∀ e ∈ es.toList, ∃ k t, k ∈ ks ∧ e.key = .str k t := by
    intro e he
    have m1 : He.keyOf e ∈ He.keysIn w.params ks := by
      rw [← h2]
      exact List.mem_map_of_mem he
    unfold He.keysIn at m1
    obtain ⟨k, hk, e1⟩ := List.mem_map.mp m1
    unfold He.keyOf at e1
    split at e1
    · rename_i x t q
      have e2 := (Prod.mk.inj (Option.some.inj e1)).1
      exact ⟨x, t, by rw [← e2]; exact hk, q⟩
    · cases e1
  have f1 : es.toList.find? (·.key.isStr z) = none := by
    rw [List.find?_eq_none]
    intro e he
    obtain ⟨k, t, mk, q⟩ := hk e he
    rw [q]
    intro c
    have c2 : (k == z) = true := c
    have c3 := beq_iff_eq.mp c2
    subst c3
    exact hz mk
  have f2 : es.toList.any (·.refKey) = false := by
    rw [List.any_eq_false]
    intro e he c
    obtain ⟨k, t, _, q⟩ := hk e he
    unfold DictEntry.refKey at c
    rw [q] at c
    cases c
  unfold PySem.W.nsIn
  rw [D0.at_]
  show (match es.toList.find? (·.key.isStr z) with
    | some e => some (some e.val)
    | none => if es.toList.any (·.refKey) then none else some none) = some none
  rw [f1]
  show (if es.toList.any (·.refKey) then none else some none) = some none
  rw [f2]
  rfl
theorem strs_rv {Kp : Pm} (W : Wd) (H : Hp) : ∀ l : List Str, Rvs Kp W H (l.map V.str) (l.map D.str)
  | [] => .nil
  | z :: l => .cons (.str z) (strs_rv W H l)
theorem tupS_ok {a : Addr} {ks : List Str} (h : tupS K a ks = true) (H : Hp) : SqT K H a (ks.map V.str) := by
  unfold tupS at h
  cases q : K.lookup a with
  | none =>
    rw [q] at h
    cases h
  | some o =>
    obtain ⟨oc, od, dt, osl⟩ := o
    rw [q] at h
    cases oc with
    | type c =>
      cases dt with
      | seq its n =>
        obtain ⟨h1, h2⟩ := He.ba (show (decide (c = "tuple") && (decide (its.size ≤ sizeLine) && He.relAll (ks.map V.str) its.toList)) = true from h)
        obtain ⟨h3, h4⟩ := He.ba h2
        exact .inr ⟨_, its, n, q, congrArg Value.type (of_decide_eq_true h1), rfl, of_decide_eq_true h3, He.relAll_ok h4⟩
      | _ => cases h
    | _ => cases dt <;> cases h
theorem fx_parts (f : fx K = true) {p : Str × List Str} (hp : p ∈ partsL) : ∃ u v, PySem.W.nsIn K (He.ga K "PARTS") p.1 = some (some u) ∧ RelV v u ∧ ∀ (W : Wd) (H : Hp), Rv ⟨K, P, w, mg⟩ W H v (.tup (p.2.map D.str)) := by
  unfold fx at f
  obtain ⟨_, f1⟩ := Bool.and_eq_true_iff.mp f
  obtain ⟨_, f2⟩ := Bool.and_eq_true_iff.mp f1
  have z := List.all_eq_true.mp f2 p hp
  split at z
  · rename_i a e
    exact ⟨_, .ref a, e, He.relB_ok (by simp [He.relB]), fun W H => .tup (tupS_ok z H) (strs_rv W H _)⟩
  · cases z
theorem in_parts (p : Str × List Str) (h : partsL.contains p = true) : p ∈ partsL := by simpa using h
theorem parts_ok (f : fx K = true) (c : He.SaysT fa fn ts w K) : KTab K w ⟨K, P, w, mg⟩ (He.ga K "PARTS") tab_parts := by
  obtain ⟨es, n, D0⟩ := c.tab 0 (t := (fun K => He.ga K "PARTS", partsL.map (·.1))) rfl
  have e : ts.map (fun t => He.dicW K (t.1 K)) = ts.map fun t => some (He.keysIn w.params t.2) := congrArg (fun z : He.AlT => z.2) c
  have e1 : He.dicW K (He.ga K "PARTS") = some (He.keysIn w.params (partsL.map (·.1))) := (List.cons.inj e).1
  refine ⟨es, n, D0, fun z => ?_⟩
  unfold tab_parts
  by_cases h0 : z = "give"
  · subst h0
    rw [if_pos rfl]
    exact fx_parts f (in_parts ("give", []) (by decide +kernel))
  rw [if_neg h0]
  by_cases h1 : z = "put"
  · subst h1
    rw [if_pos rfl]
    exact fx_parts f (in_parts ("put", ["name"]) (by decide +kernel))
  rw [if_neg h1]
  by_cases h2 : z = "get"
  · subst h2
    rw [if_pos rfl]
    exact fx_parts f (in_parts ("get", ["name", "end"]) (by decide +kernel))
  rw [if_neg h2]
  by_cases h3 : z = "set"
  · subst h3
    rw [if_pos rfl]
    exact fx_parts f (in_parts ("set", ["name"]) (by decide +kernel))
  rw [if_neg h3]
  by_cases h4 : z = "hear"
  · subst h4
    rw [if_pos rfl]
    exact fx_parts f (in_parts ("hear", ["name", "end"]) (by decide +kernel))
  rw [if_neg h4]
  by_cases h5 : z = "start"
  · subst h5
    rw [if_pos rfl]
    exact fx_parts f (in_parts ("start", ["name"]) (by decide +kernel))
  rw [if_neg h5]
  by_cases h6 : z = "join"
  · subst h6
    rw [if_pos rfl]
    exact fx_parts f (in_parts ("join", ["name", "end"]) (by decide +kernel))
  rw [if_neg h6]
  by_cases h7 : z = "until"
  · subst h7
    rw [if_pos rfl]
    exact fx_parts f (in_parts ("until", ["moment"]) (by decide +kernel))
  rw [if_neg h7]
  by_cases h8 : z = "cancel"
  · subst h8
    rw [if_pos rfl]
    exact fx_parts f (in_parts ("cancel", ["name"]) (by decide +kernel))
  rw [if_neg h8]
  by_cases h9 : z = "in"
  · subst h9
    rw [if_pos rfl]
    exact fx_parts f (in_parts ("in", []) (by decide +kernel))
  rw [if_neg h9]
  by_cases h10 : z = "out"
  · subst h10
    rw [if_pos rfl]
    exact fx_parts f (in_parts ("out", []) (by decide +kernel))
  rw [if_neg h10]
  by_cases h11 : z = "close"
  · subst h11
    rw [if_pos rfl]
    exact fx_parts f (in_parts ("close", ["name"]) (by decide +kernel))
  rw [if_neg h11]
  by_cases h12 : z = "catch"
  · subst h12
    rw [if_pos rfl]
    exact fx_parts f (in_parts ("catch", ["name"]) (by decide +kernel))
  rw [if_neg h12]
  by_cases h13 : z = "fail"
  · subst h13
    rw [if_pos rfl]
    exact fx_parts f (in_parts ("fail", ["name"]) (by decide +kernel))
  rw [if_neg h13]
  refine no_key D0 e1 ?_
  intro m
  simp only [partsL, List.map_cons, List.map_nil, List.mem_cons, List.not_mem_nil, or_false] at m
  rcases m with m | m | m | m | m | m | m | m | m | m | m | m | m | m
  · exact h0 m
  · exact h1 m
  · exact h2 m
  · exact h3 m
  · exact h4 m
  · exact h5 m
  · exact h6 m
  · exact h7 m
  · exact h8 m
  · exact h9 m
  · exact h10 m
  · exact h11 m
  · exact h12 m
  · exact h13 m
theorem fx_task (f : fx K = true) : He.tupB K "TASK_WORDS" [.str "start", .str "join", .str "cancel"] = true := by
  unfold fx at f
  exact (Bool.and_eq_true_iff.mp f).1
theorem fx_closing (f : fx K = true) : He.tupB K "CLOSING_WORDS" [.str "close", .str "catch"] = true := by
  unfold fx at f
  exact (Bool.and_eq_true_iff.mp (Bool.and_eq_true_iff.mp f).2).1
theorem tx_ok (f : fx K = true) (X : K.In h) (G : h.Ns mainGlobals mg) (c : He.SaysT fa fn ts w K) : Tx P w K mg := {
    f_len := He.free_ok X G (c.d.fact 32 (f := .free "len") rfl)
    f_abs := He.free_ok X G (c.d.fact 33 (f := .free "abs") rfl)
    f_all := He.free_ok X G (c.d.fact 34 (f := .free "all") rfl)
    f_any := He.free_ok X G (c.d.fact 35 (f := .free "any") rfl)
    f_int := He.free_ok X G (c.d.fact 36 (f := .free "int") rfl)
    f_list := He.free_ok X G (c.d.fact 37 (f := .free "list") rfl)
    f_isinstance := He.free_ok X G (c.d.fact 38 (f := .free "isinstance") rfl)
    f_enumerate := He.free_ok X G (c.d.fact 39 (f := .free "enumerate") rfl)
    f_range := He.free_ok X G (c.d.fact 40 (f := .free "range") rfl)
    f_zip := He.free_ok X G (c.d.fact 41 (f := .free "zip") rfl)
    f_bool := He.free_ok X G (c.d.fact 42 (f := .free "bool") rfl)
    f_str := He.free_ok X G (c.d.fact 43 (f := .free "str") rfl)
    f_tuple := He.free_ok X G (c.d.fact 44 (f := .free "tuple") rfl)
    f_min := He.free_ok X G (c.d.fact 45 (f := .free "min") rfl)
    f_max := He.free_ok X G (c.d.fact 46 (f := .free "max") rfl)
    f_sorted := He.free_ok X G (c.d.fact 47 (f := .free "sorted") rfl)
    f_dict := He.free_ok X G (c.d.fact 48 (f := .free "dict") rfl)
    i_LONGEST_NAME := He.int_ok X G (c.d.fact 31 (f := .int "LONGEST_NAME" 8) rfl)
    t_TASK_WORDS := ⟨_, He.glo_ok X G (c.d.fact 29 (f := .glo "TASK_WORDS") rfl), fun W H => .tup (He.tupB_ok (fx_task f) H) (strs_rv W H ["start", "join", "cancel"])⟩
    t_CLOSING_WORDS := ⟨_, He.glo_ok X G (c.d.fact 30 (f := .glo "CLOSING_WORDS") rfl), fun W H => .tup (He.tupB_ok (fx_closing f) H) (strs_rv W H ["close", "catch"])⟩
    k_PARTS := ⟨_, He.glo_ok X G (c.d.fact 28 (f := .glo "PARTS") rfl), parts_ok f c⟩ }
theorem cal_mk {k n : Nat} {x : Str} {st : Stmt} {fd : FuncData} {fA : Addr} {ps : List Str} {F : List D → M D} (hm : mg x = some (.ref fA)) (FD : FnP K x st fA fd) (ok : FnOk P w K mg base CX0 k fA fd ps (spF ⟨K, P, w, mg⟩ Xo0 n F)) (b : Binds K fd ps []) : Cal P w K mg base k x n F := ⟨fA, fd, ps, hm, ok, FD.kp, b⟩
theorem facts (f : fx K = true) (X : K.In h) (G : h.Ns mainGlobals mg) (c : He.SaysT fa fn ts w K) {fl : Addr} (hfl : mg ("law" : Str) = some (.ref fl)) :
    ∃ fd : FuncData, (∀ (s : Shared) (v : Value), BindsTo s fd ⟨[v], []⟩ [("_law_script_here", v)]) ∧ ∀ base : Heap, FnOk P w K mg base CX0 8 fl fd ["_law_script_here"] (spF ⟨K, P, w, mg⟩ Xo0 1 F_law) := by
  obtain ⟨fd_is_number, FD_is_number⟩ := c.d.def_ 0 (d := d_is_number) rfl
  have g_is_number := He.glo_ok X G (c.d.fact 0 (f := .glo "is_number") rfl)
  have b_is_number : Binds K fd_is_number ["thing"] [] := FD_is_number.bindsN fun _ _ _ _ _ _ us hl => match us, hl with | [_], _ => rfl
  obtain ⟨fd_is_name, FD_is_name⟩ := c.d.def_ 1 (d := d_is_name) rfl
  have g_is_name := He.glo_ok X G (c.d.fact 1 (f := .glo "is_name") rfl)
  have b_is_name : Binds K fd_is_name ["thing"] [] := FD_is_name.bindsN fun _ _ _ _ _ _ us hl => match us, hl with | [_], _ => rfl
  obtain ⟨fd_is_table, FD_is_table⟩ := c.d.def_ 2 (d := d_is_table) rfl
  have g_is_table := He.glo_ok X G (c.d.fact 2 (f := .glo "is_table") rfl)
  have b_is_table : Binds K fd_is_table ["thing", "width"] [] := FD_is_table.bindsN fun _ _ _ _ _ _ us hl => match us, hl with | [_, _], _ => rfl
  obtain ⟨fd_fits_part, FD_fits_part⟩ := c.d.def_ 3 (d := d_fits_part) rfl
  have g_fits_part := He.glo_ok X G (c.d.fact 3 (f := .glo "fits_part") rfl)
  have b_fits_part : Binds K fd_fits_part ["kind", "thing"] [] := FD_fits_part.bindsN fun _ _ _ _ _ _ us hl => match us, hl with | [_, _], _ => rfl
  obtain ⟨fd_depths, FD_depths⟩ := c.d.def_ 4 (d := d_depths) rfl
  have g_depths := He.glo_ok X G (c.d.fact 4 (f := .glo "depths") rfl)
  have b_depths : Binds K fd_depths ["steps"] [] := FD_depths.bindsN fun _ _ _ _ _ _ us hl => match us, hl with | [_], _ => rfl
  obtain ⟨fd_shields_close, FD_shields_close⟩ := c.d.def_ 5 (d := d_shields_close) rfl
  have g_shields_close := He.glo_ok X G (c.d.fact 5 (f := .glo "shields_close") rfl)
  have b_shields_close : Binds K fd_shields_close ["steps"] [] := FD_shields_close.bindsN fun _ _ _ _ _ _ us hl => match us, hl with | [_], _ => rfl
  obtain ⟨fd_naming_marks, FD_naming_marks⟩ := c.d.def_ 6 (d := d_naming_marks) rfl
  have g_naming_marks := He.glo_ok X G (c.d.fact 6 (f := .glo "naming_marks") rfl)
  have b_naming_marks : Binds K fd_naming_marks ["tasks", "words"] [] := FD_naming_marks.bindsN fun _ _ _ _ _ _ us hl => match us, hl with | [_, _], _ => rfl
  obtain ⟨fd_sole_marks, FD_sole_marks⟩ := c.d.def_ 7 (d := d_sole_marks) rfl
  have g_sole_marks := He.glo_ok X G (c.d.fact 7 (f := .glo "sole_marks") rfl)
  have b_sole_marks : Binds K fd_sole_marks ["tasks", "words"] [] := FD_sole_marks.bindsN fun _ _ _ _ _ _ us hl => match us, hl with | [_, _], _ => rfl
  obtain ⟨fd_names_stand, FD_names_stand⟩ := c.d.def_ 8 (d := d_names_stand) rfl
  have g_names_stand := He.glo_ok X G (c.d.fact 8 (f := .glo "names_stand") rfl)
  have b_names_stand : Binds K fd_names_stand ["tasks", "groups"] [] := FD_names_stand.bindsN fun _ _ _ _ _ _ us hl => match us, hl with | [_, _], _ => rfl
  obtain ⟨fd_hosts_close, FD_hosts_close⟩ := c.d.def_ 9 (d := d_hosts_close) rfl
  have g_hosts_close := He.glo_ok X G (c.d.fact 9 (f := .glo "hosts_close") rfl)
  have b_hosts_close : Binds K fd_hosts_close ["hosts", "closers"] [] := FD_hosts_close.bindsN fun _ _ _ _ _ _ us hl => match us, hl with | [_, _], _ => rfl
  obtain ⟨fd_hosts_start, FD_hosts_start⟩ := c.d.def_ 10 (d := d_hosts_start) rfl
  have g_hosts_start := He.glo_ok X G (c.d.fact 10 (f := .glo "hosts_start") rfl)
  have b_hosts_start : Binds K fd_hosts_start ["tasks", "hosts", "closers", "starters"] [] := FD_hosts_start.bindsN fun _ _ _ _ _ _ us hl => match us, hl with | [_, _, _, _], _ => rfl
  obtain ⟨fd_has_ring, FD_has_ring⟩ := c.d.def_ 11 (d := d_has_ring) rfl
  have g_has_ring := He.glo_ok X G (c.d.fact 11 (f := .glo "has_ring") rfl)
  have b_has_ring : Binds K fd_has_ring ["above"] [] := FD_has_ring.bindsN fun _ _ _ _ _ _ us hl => match us, hl with | [_], _ => rfl
  obtain ⟨fd_hangs_together, FD_hangs_together⟩ := c.d.def_ 12 (d := d_hangs_together) rfl
  have g_hangs_together := He.glo_ok X G (c.d.fact 12 (f := .glo "hangs_together") rfl)
  have b_hangs_together : Binds K fd_hangs_together ["tasks", "groups"] [] := FD_hangs_together.bindsN fun _ _ _ _ _ _ us hl => match us, hl with | [_, _], _ => rfl
  obtain ⟨fd_is_step, FD_is_step⟩ := c.d.def_ 13 (d := d_is_step) rfl
  have g_is_step := He.glo_ok X G (c.d.fact 13 (f := .glo "is_step") rfl)
  have b_is_step : Binds K fd_is_step ["thing"] [] := FD_is_step.bindsN fun _ _ _ _ _ _ us hl => match us, hl with | [_], _ => rfl
  obtain ⟨fd_is_script, FD_is_script⟩ := c.d.def_ 14 (d := d_is_script) rfl
  have g_is_script := He.glo_ok X G (c.d.fact 14 (f := .glo "is_script") rfl)
  have b_is_script : Binds K fd_is_script ["thing"] [] := FD_is_script.bindsN fun _ _ _ _ _ _ us hl => match us, hl with | [_], _ => rfl
  obtain ⟨fd_is_house, FD_is_house⟩ := c.d.def_ 15 (d := d_is_house) rfl
  have g_is_house := He.glo_ok X G (c.d.fact 15 (f := .glo "is_house") rfl)
  have b_is_house : Binds K fd_is_house ["thing"] [] := FD_is_house.bindsN fun _ _ _ _ _ _ us hl => match us, hl with | [_], _ => rfl
  obtain ⟨fd_l_box, FD_l_box⟩ := c.d.def_ 16 (d := d_l_box) rfl
  have g_l_box := He.glo_ok X G (c.d.fact 16 (f := .glo "_law_box") rfl)
  have b_l_box : Binds K fd_l_box ["_law_script_here", "_law_k"] [] := FD_l_box.bindsN fun _ _ _ _ _ _ us hl => match us, hl with | [_, _], _ => rfl
  obtain ⟨fd_l_take, FD_l_take⟩ := c.d.def_ 17 (d := d_l_take) rfl
  have g_l_take := He.glo_ok X G (c.d.fact 17 (f := .glo "_law_take") rfl)
  have b_l_take : Binds K fd_l_take ["_law_box_here", "_law_size_so"] [] := FD_l_take.bindsN fun _ _ _ _ _ _ us hl => match us, hl with | [_, _], _ => rfl
  obtain ⟨fd_l_cells, FD_l_cells⟩ := c.d.def_ 18 (d := d_l_cells) rfl
  have g_l_cells := He.glo_ok X G (c.d.fact 18 (f := .glo "_law_cells") rfl)
  have b_l_cells : Binds K fd_l_cells ["_law_script_here", "_law_top_so"] [] := FD_l_cells.bindsN fun _ _ _ _ _ _ us hl => match us, hl with | [_, _], _ => rfl
  obtain ⟨fd_l_of, FD_l_of⟩ := c.d.def_ 19 (d := d_l_of) rfl
  have g_l_of := He.glo_ok X G (c.d.fact 19 (f := .glo "_law_of") rfl)
  have b_l_of : Binds K fd_l_of ["_law_box_here", "_law_goods_so"] [] := FD_l_of.bindsN fun _ _ _ _ _ _ us hl => match us, hl with | [_, _], _ => rfl
  obtain ⟨fd_l_pick, FD_l_pick⟩ := c.d.def_ 20 (d := d_l_pick) rfl
  have g_l_pick := He.glo_ok X G (c.d.fact 20 (f := .glo "_law_pick") rfl)
  have b_l_pick : Binds K fd_l_pick ["_law_box_here", "_law_goods_so", "_law_count_so"] [] := FD_l_pick.bindsN fun _ _ _ _ _ _ us hl => match us, hl with | [_, _, _], _ => rfl
  obtain ⟨fd_l_same, FD_l_same⟩ := c.d.def_ 21 (d := d_l_same) rfl
  have g_l_same := He.glo_ok X G (c.d.fact 21 (f := .glo "_law_same") rfl)
  have b_l_same : Binds K fd_l_same ["_law_got", "_law_due"] [] := FD_l_same.bindsN fun _ _ _ _ _ _ us hl => match us, hl with | [_, _], _ => rfl
  obtain ⟨fd_l_script, FD_l_script⟩ := c.d.def_ 22 (d := d_l_script) rfl
  have g_l_script := He.glo_ok X G (c.d.fact 22 (f := .glo "_law_script") rfl)
  have b_l_script : Binds K fd_l_script ["_law_box_here", "_law_others_so", "_law_many_so", "_law_room_so"] [] := FD_l_script.bindsN fun _ _ _ _ _ _ us hl => match us, hl with | [_, _, _, _], _ => rfl
  obtain ⟨fd_l_house, FD_l_house⟩ := c.d.def_ 23 (d := d_l_house) rfl
  have g_l_house := He.glo_ok X G (c.d.fact 23 (f := .glo "_law_house") rfl)
  have b_l_house : Binds K fd_l_house ["_law_box_here", "_law_many_so", "_law_steps_so"] [] := FD_l_house.bindsN fun _ _ _ _ _ _ us hl => match us, hl with | [_, _, _], _ => rfl
  obtain ⟨fd_l_houses_right, FD_l_houses_right⟩ := c.d.def_ 24 (d := d_l_houses_right) rfl
  have g_l_houses_right := He.glo_ok X G (c.d.fact 24 (f := .glo "_law_houses_right") rfl)
  have b_l_houses_right : Binds K fd_l_houses_right [] [] := FD_l_houses_right.bindsN fun _ _ _ _ _ _ us hl => match us, hl with | [], _ => rfl
  obtain ⟨fd_l_by_hand_right, FD_l_by_hand_right⟩ := c.d.def_ 25 (d := d_l_by_hand_right) rfl
  have g_l_by_hand_right := He.glo_ok X G (c.d.fact 25 (f := .glo "_law_by_hand_right") rfl)
  have b_l_by_hand_right : Binds K fd_l_by_hand_right [] [] := FD_l_by_hand_right.bindsN fun _ _ _ _ _ _ us hl => match us, hl with | [], _ => rfl
  obtain ⟨fd_l_right, FD_l_right⟩ := c.d.def_ 26 (d := d_l_right) rfl
  have g_l_right := He.glo_ok X G (c.d.fact 26 (f := .glo "_law_right") rfl)
  have b_l_right : Binds K fd_l_right ["_law_box_here"] [] := FD_l_right.bindsN fun _ _ _ _ _ _ us hl => match us, hl with | [_], _ => rfl
  obtain ⟨fd_law, FD_law⟩ := c.d.def_ 27 (d := d_law) rfl
  have g_law := He.glo_ok X G (c.d.fact 27 (f := .glo "law") rfl)
  have e := hfl.symm.trans g_law
  cases e
  refine ⟨fd_law, fun s v => FunD.bindsA (ps := ["_law_script_here"]) FD_law (fun _ _ _ _ _ _ us hl => match us, hl with | [_], _ => rfl) s [v] rfl, fun base => ?_⟩
  have T : Tx P w K mg := tx_ok f X G c
  have C_is_number : Cal P w K mg base 1 "is_number" 1 F_is_number := cal_mk (st := s_is_number) g_is_number FD_is_number (ok_is_number T  FD_is_number) b_is_number
  have C_is_name : Cal P w K mg base 1 "is_name" 1 F_is_name := cal_mk (st := s_is_name) g_is_name FD_is_name (ok_is_name T  FD_is_name) b_is_name
  have C_is_table : Cal P w K mg base 2 "is_table" 2 F_is_table := cal_mk (st := s_is_table) g_is_table FD_is_table (ok_is_table T C_is_name FD_is_table) b_is_table
  have C_fits_part : Cal P w K mg base 2 "fits_part" 2 F_fits_part := cal_mk (st := s_fits_part) g_fits_part FD_fits_part (ok_fits_part T C_is_number C_is_name FD_fits_part) b_fits_part
  have C_depths : Cal P w K mg base 1 "depths" 1 F_depths := cal_mk (st := s_depths) g_depths FD_depths (ok_depths T  FD_depths) b_depths
  have C_shields_close : Cal P w K mg base 2 "shields_close" 1 F_shields_close := cal_mk (st := s_shields_close) g_shields_close FD_shields_close (ok_shields_close T C_depths FD_shields_close) b_shields_close
  have C_naming_marks : Cal P w K mg base 1 "naming_marks" 2 F_naming_marks := cal_mk (st := s_naming_marks) g_naming_marks FD_naming_marks (ok_naming_marks T  FD_naming_marks) b_naming_marks
  have C_sole_marks : Cal P w K mg base 2 "sole_marks" 2 F_sole_marks := cal_mk (st := s_sole_marks) g_sole_marks FD_sole_marks (ok_sole_marks T C_naming_marks FD_sole_marks) b_sole_marks
  have C_names_stand : Cal P w K mg base 2 "names_stand" 2 F_names_stand := cal_mk (st := s_names_stand) g_names_stand FD_names_stand (ok_names_stand T C_naming_marks FD_names_stand) b_names_stand
  have C_hosts_close : Cal P w K mg base 1 "hosts_close" 2 F_hosts_close := cal_mk (st := s_hosts_close) g_hosts_close FD_hosts_close (ok_hosts_close T  FD_hosts_close) b_hosts_close
  have C_hosts_start : Cal P w K mg base 1 "hosts_start" 4 F_hosts_start := cal_mk (st := s_hosts_start) g_hosts_start FD_hosts_start (ok_hosts_start T  FD_hosts_start) b_hosts_start
  have C_has_ring : Cal P w K mg base 1 "has_ring" 1 F_has_ring := cal_mk (st := s_has_ring) g_has_ring FD_has_ring (ok_has_ring T  FD_has_ring) b_has_ring
  have C_hangs_together : Cal P w K mg base 3 "hangs_together" 2 F_hangs_together := cal_mk (st := s_hangs_together) g_hangs_together FD_hangs_together (ok_hangs_together T C_sole_marks C_names_stand C_hosts_close C_hosts_start C_has_ring FD_hangs_together) b_hangs_together
  have C_is_step : Cal P w K mg base 3 "is_step" 1 F_is_step := cal_mk (st := s_is_step) g_is_step FD_is_step (ok_is_step T C_fits_part FD_is_step) b_is_step
  have C_is_script : Cal P w K mg base 4 "is_script" 1 F_is_script := cal_mk (st := s_is_script) g_is_script FD_is_script (ok_is_script T C_shields_close C_is_step FD_is_script) b_is_script
  have C_is_house : Cal P w K mg base 5 "is_house" 1 F_is_house := cal_mk (st := s_is_house) g_is_house FD_is_house (ok_is_house T C_is_number C_is_name C_is_table C_hangs_together C_is_script FD_is_house) b_is_house
  have C__law_box : Cal P w K mg base 1 "_law_box" 2 F_l_box := cal_mk (st := s_l_box) g_l_box FD_l_box (ok_l_box T  FD_l_box) b_l_box
  have C__law_take : Cal P w K mg base 1 "_law_take" 2 F_l_take := cal_mk (st := s_l_take) g_l_take FD_l_take (ok_l_take T  FD_l_take) b_l_take
  have C__law_cells : Cal P w K mg base 1 "_law_cells" 2 F_l_cells := cal_mk (st := s_l_cells) g_l_cells FD_l_cells (ok_l_cells T  FD_l_cells) b_l_cells
  have C__law_of : Cal P w K mg base 2 "_law_of" 2 F_l_of := cal_mk (st := s_l_of) g_l_of FD_l_of (ok_l_of T C__law_take FD_l_of) b_l_of
  have C__law_pick : Cal P w K mg base 2 "_law_pick" 3 F_l_pick := cal_mk (st := s_l_pick) g_l_pick FD_l_pick (ok_l_pick T C__law_take FD_l_pick) b_l_pick
  have S0 : Cal P w K mg base 1 "_law_same" 2 (F_l_same 0) := by
    refine cal_mk (st := s_l_same) g_l_same FD_l_same (FunD.ok (k := 0) FD_l_same sc_l_same (fun vs H Q E h => h.1) fun cdv A outer s H vs Q E hr h => ?_) b_l_same
    obtain ⟨_, W, ds, r, G', _, _, e, _⟩ := h
    cases e
  have S1 : Cal P w K mg base 2 "_law_same" 2 (F_l_same 1) := cal_mk (st := s_l_same) g_l_same FD_l_same (ok_l_same T S0 FD_l_same) b_l_same
  have S2 : Cal P w K mg base 3 "_law_same" 2 (F_l_same 2) := cal_mk (st := s_l_same) g_l_same FD_l_same (ok_l_same T S1 FD_l_same) b_l_same
  have S3 : Cal P w K mg base 4 "_law_same" 2 (F_l_same 3) := cal_mk (st := s_l_same) g_l_same FD_l_same (ok_l_same T S2 FD_l_same) b_l_same
  have C__law_same : Cal P w K mg base 5 "_law_same" 2 (F_l_same 4) := cal_mk (st := s_l_same) g_l_same FD_l_same (ok_l_same T S3 FD_l_same) b_l_same
  have C__law_script : Cal P w K mg base 3 "_law_script" 4 F_l_script := cal_mk (st := s_l_script) g_l_script FD_l_script (ok_l_script T C__law_take C__law_of FD_l_script) b_l_script
  have C__law_house : Cal P w K mg base 4 "_law_house" 3 F_l_house := cal_mk (st := s_l_house) g_l_house FD_l_house (ok_l_house T C__law_take C__law_of C__law_pick C__law_script FD_l_house) b_l_house
  have C__law_houses_right : Cal P w K mg base 6 "_law_houses_right" 0 F_l_houses_right := cal_mk (st := s_l_houses_right) g_l_houses_right FD_l_houses_right (ok_l_houses_right T C_is_house FD_l_houses_right) b_l_houses_right
  have C__law_by_hand_right : Cal P w K mg base 7 "_law_by_hand_right" 0 F_l_by_hand_right := cal_mk (st := s_l_by_hand_right) g_l_by_hand_right FD_l_by_hand_right (ok_l_by_hand_right T C_is_step C_is_script C__law_same C__law_houses_right FD_l_by_hand_right) b_l_by_hand_right
  have C__law_right : Cal P w K mg base 6 "_law_right" 1 F_l_right := cal_mk (st := s_l_right) g_l_right FD_l_right (ok_l_right T C_is_script C_is_house C__law_take C__law_same C__law_house FD_l_right) b_l_right
  exact ok_law T C__law_box C__law_cells C__law_by_hand_right C__law_right FD_law
end
theorem law_sp {P : Program} {w : World} {K : PySem.W.Frag} {mg : Str → Option Value} {H : Hp} {a : Addr} {ns : List Int} (hl : ns.length ≤ 63) (hO : Only H) (hS : SqL K H a (ns.map V.int)) :
    spF ⟨K, P, w, mg⟩ Xo0 1 F_law [.ref a] H (fun v _ => v = .bl true) (fun _ _ _ => False) := by
  obtain ⟨G, e⟩ := law_ok ns hl
  have nL : ∀ b, ¬ L ⟨[], [], []⟩ b := by
    rintro b (⟨n, o, h, _⟩ | h)
    · simp at h
    · simp at h
  have g0 : Gr ⟨K, P, w, mg⟩ ⟨[], [], []⟩ H := ⟨rfl, by simp, by simp, by simp, by simp, by simp⟩
  have sc : Scr ⟨K, P, w, mg⟩ (L ⟨[], [], []⟩) H a (ns.map V.int) := by
    rcases hS with (h | h) | h
    · rcases hO a with z | ⟨o, xs, z⟩
      · rw [z] at h; cases h
      · rw [z] at h; cases h
    · exact .inl ⟨nL a, h⟩
    · exact .inr h
  have di : ∀ l : List Int, Rvs ⟨K, P, w, mg⟩ ⟨[], [], []⟩ H (l.map V.int) (l.map D.int) := fun l => by
    induction l with
    | nil => exact .nil
    | cons i l ih => exact .cons (.int i) ih
  refine ⟨rfl, ⟨[], [], []⟩, [.scr (ns.map D.int)], .inr (.bl true), G, g0, .cons (.scr sc (di ns)) .nil, e, fun W' v H' _ _ _ rv => ?_⟩
  cases rv
  rfl
end K01
open PySem PySem.W PySem.Calls PyProof.Rows
theorem PySem.Challenge.cw_giveways_k01_houses_or_not_holds : PySem.Challenge.rw_giveways_k01_houses_or_not.Holds := by
  w_on; o_law
  refine HandSHeadRun.head_any (r := OpenLaw.row PySem.Challenge.rw_giveways_k01_houses_or_not) (q := view (OpenLaw.row PySem.Challenge.rw_giveways_k01_houses_or_not).prog [36]) (H := K01.hk) (ob := K01.ob) (M := 6000) (loose := K01.loose) (d := HandSHeadRun.topDef (OpenLaw.row PySem.Challenge.rw_giveways_k01_houses_or_not).prog 36) (kwd := []) K01.ob_eq
    (by kernel_rfl) (fun s => by kernel_rfl) K01.run (by kernel_rfl) (by kernel_rfl) (by kernel_rfl) (by rfl) (by first | assumption | decide +kernel) (by decide +kernel) ⟨rfl, rfl, rfl, rfl, rfl, by decide +kernel⟩ ?hw ?hc
  case hw => w_witness2
  case hc =>
    refine L2.walk_ofE (l := PySem.Challenge.rw_giveways_k01_houses_or_not) (n := 63) (k := 8) (x := "_law_script_here") (CX := L2.CX0) rfl (by decide) (by kernel_rfl) ⟨rfl, by decide, by decide⟩ ?F (fun _ _ _ _ z => z)
    intro w mg fa h Y G hmg0
    obtain ⟨K, KX, f, c⟩ := Y
    have hmg : mg ("law" : PySem.Str) = some (.ref fa) := by
      have e : (HandSHeadRun.topDef (OpenLaw.row PySem.Challenge.rw_giveways_k01_houses_or_not).prog 36).name = ("law" : PySem.Str) := by kernel_rfl
      rw [← e]
      exact hmg0
    obtain ⟨fd, hb, hF⟩ := K01.facts (P := (PySem.Challenge.rw_giveways_k01_houses_or_not).prog) (w := w) f KX G c hmg
    exact ⟨K, fd, _, KX, hb, fun H a ns hl hO hS => K01.law_sp hl hO hS, fun base _ _ => hF base⟩

