import PyProof.Rows.All
import Wide.All
import OpenK.AllK
import Wide.FinOn
import HandS.ForMost
import HandS.SetKeys
import HandS.DictComp
import HandS.TupAny
import HandS.Flow
import HandS.IsInst
import HandS.Defaults
import HandS.ExcInit
import HandS.ExcValue
import HandS.Walk
import HandS.Zip
import HandS.HeadHook2
import HandS.ExcField
import HandS.MakeKw
import HandS.ExcIs
import KE.KExcIs
import KE.KStateDown
import HandS.Head0
import HandS.Head1
import HandS.Head2
import HandS.HeadEnd
import HandS.HeadHook1
import PySem.Challenge.RW_giveways_k00_errors
set_option Elab.async false
set_option linter.all false
set_option maxRecDepth 100000
set_option maxHeartbeats 4000000
set_option autoImplicit false
/-! The tree layer: values as trees, our own mutable objects by numbers, each construct as a function that can be reckoned. -/
namespace Tw
open PySem PySem.Spec PyProof.Rows L2

/-- a value as a tree -/
inductive D where
  | non | bl (b : Bool) | int (i : Int) | str (x : Str)
  | tup (xs : List D) | lst (xs : List D) | scr (xs : List D)
  | dct (kvs : List (Key × D)) | set (ks : List Key)
  | ref (n : Nat) | glo (a : Addr) | ty (n : String)
  | cls (c : Str) | exc (c : Str) | exf (c f : Str) (x : D)
  deriving Inhabited
/-- what the values stand in -/
structure Pm where
  K : PySem.W.Frag
  P : Program
  w : World
  mg : Str → Option Value
/-- a mutable object of ours -/
inductive O where
  | lst (xs : List D) | dct (kvs : List (Key × D)) | dlk (kvs : List (Key × D)) | gone
  deriving Inhabited

/-- the law's script: a list that nobody writes, where no object of ours stands; or a list of the written part -/
def Scr (K : Pm) (L : Addr → Prop) (H : Hp) (a : Addr) (vs : List V) : Prop := (¬ L a ∧ ∃ o, H a = some (.frz o (.lst vs))) ∨ ∃ (o : Obj) (its : Array Value) (n : Nat), K.K.lookup a = some o ∧ o.cls = .type "list" ∧ o.dict = none ∧ o.data = .seq its n ∧ its.size ≤ sizeLine ∧ Vals vs its.toList
theorem Scr.sq {K : Pm} {L : Addr → Prop} {H : Hp} {a : Addr} {vs : List V} (h : Scr K L H a vs) : SqL K.K H a vs := by
  rcases h with ⟨_, h⟩ | h
  · exact .inl (.inr h)
  · exact .inr h
section
variable (K : Pm) (L : Addr → Prop) (α : List Addr) (H : Hp)
mutual
inductive Dr : V → D → Prop
  | non : Dr .non .non
  | bl (b : Bool) : Dr (.bl b) (.bl b)
  | int (i : Int) : Dr (.int i) (.int i)
  | str (x : Str) : Dr (.str x) (.str x)
  | tup {a : Addr} {vs : List V} {ds : List D} (h : SqT K.K H a vs) (r : Drs vs ds) : Dr (.ref a) (.tup ds)
  | lst {a : Addr} {vs : List V} {ds : List D} (h : H a = some (.lst vs)) (n : ¬ L a) (r : Drs vs ds) : Dr (.ref a) (.lst ds)
  | scr {a : Addr} {vs : List V} {ds : List D} (h : Scr K L H a vs) (r : Drs vs ds) : Dr (.ref a) (.scr ds)
  | dct {a : Addr} {ps : List (Key × V)} {kvs : List (Key × D)} (h : Rd H a (.dK ps)) (n : ¬ L a) (r : Drk ps kvs) : Dr (.ref a) (.dct kvs)
  | set {a : Addr} {S : Key → Bool} {ks : List Key} (h : H a = some (SetK K.P K.w a S ks.length)) (n : ¬ L a) (nd : ks.Nodup) (e : ∀ k, S k = true ↔ k ∈ ks) : Dr (.ref a) (.set ks)
  | ref {a : Addr} {n : Nat} (h : α[n]? = some a) : Dr (.ref a) (.ref n)
  | glo (a : Addr) : Dr (.ref a) (.glo a)
  | ty (n : String) : Dr (.ty n) (.ty n)
  | cls {a : Addr} {c : Str} (h : K.mg c = some (.ref a)) : Dr (.ref a) (.cls c)
  | exc {a C : Addr} {c : Str} (h : K.mg c = some (.ref C)) (e : H a = some (ExO (.ref C) a)) (n : ¬ L a) : Dr (.ref a) (.exc c)
  | exf {a C dx : Addr} {c f : Str} {v : V} {x : D} (h : K.mg c = some (.ref C)) (e : H a = some (exo a C (some dx))) (n : ¬ L a) (e2 : H dx = some (exd dx [(f, v)])) (n2 : ¬ L dx) (r : Dr v x) : Dr (.ref a) (.exf c f x)
inductive Drs : List V → List D → Prop
  | nil : Drs [] []
  | cons {v : V} {d : D} {vs : List V} {ds : List D} (h : Dr v d) (r : Drs vs ds) : Drs (v :: vs) (d :: ds)
inductive Drk : List (Key × V) → List (Key × D) → Prop
  | nil : Drk [] []
  | cons {k : Key} {v : V} {d : D} {ps : List (Key × V)} {kvs : List (Key × D)} (h : Dr v d) (r : Drk ps kvs) : Drk ((k, v) :: ps) ((k, d) :: kvs)
end
end
/-- where our objects stand, what they are, and where no tree may look -/
structure Wd where
  α : List Addr
  G : List O
  B : List Addr
def live (W : Wd) (a : Addr) : Prop := ∃ (n : Nat) (o : O), W.α[n]? = some a ∧ W.G[n]? = some o ∧ o ≠ O.gone
def L (W : Wd) (a : Addr) : Prop := live W a ∨ a ∈ W.B
abbrev Rv (K : Pm) (W : Wd) (H : Hp) (v : V) (d : D) : Prop := Dr K (L W) W.α H v d
abbrev Rvs (K : Pm) (W : Wd) (H : Hp) (vs : List V) (ds : List D) : Prop := Drs K (L W) W.α H vs ds
abbrev Rkv (K : Pm) (W : Wd) (H : Hp) (ps : List (Key × V)) (kvs : List (Key × D)) : Prop := Drk K (L W) W.α H ps kvs
def Ob (K : Pm) (W : Wd) (H : Hp) (a : Addr) : O → Prop
  | .lst ds => ∃ vs, H a = some (.lst vs) ∧ Rvs K W H vs ds
  | .dct kvs => ∃ ps, H a = some (.dK ps) ∧ Rkv K W H ps kvs
  | .dlk kvs => ∃ o ps, H a = some (.frz o (.dK ps)) ∧ Rkv K W H ps kvs
  | .gone => True
structure Gr (K : Pm) (W : Wd) (H : Hp) : Prop where
  len : W.α.length = W.G.length
  nd : W.α.Nodup
  dis : ∀ a ∈ W.B, a ∉ W.α
  thA : ∀ a ∈ W.α, ∃ o, H a = some o
  thB : ∀ a ∈ W.B, ∃ o, H a = some o
  obj : ∀ (n : Nat) (a : Addr) (o : O), W.α[n]? = some a → W.G[n]? = some o → Ob K W H a o
structure Ext (W : Wd) (H : Hp) (W' : Wd) (H' : Hp) : Prop where
  b : ∀ a ∈ W.B, a ∈ W'.B
  b' : ∀ a ∈ W'.B, a ∈ W.B ∨ H a = none
  th : ∀ a, (∃ o, H a = some o) → ∃ o, H' a = some o
  pre : ∃ t, W'.α = W.α ++ t
  keep : ∀ (a : Addr) (o : HO), H a = some o → ¬ live W a → H' a = some o ∧ ¬ live W' a
  tup : ∀ (a : Addr) (vs : List V), H a = some (.tup vs) → H' a = some (.tup vs)

theorem Ext.refl {W : Wd} {H : Hp} : Ext W H W H := ⟨fun _ h => h, fun _ h => .inl h, fun _ h => h, ⟨[], by simp⟩, fun _ _ h n => ⟨h, n⟩, fun _ _ h => h⟩
theorem Ext.trans {W1 W2 W3 : Wd} {H1 H2 H3 : Hp} (a : Ext W1 H1 W2 H2) (b : Ext W2 H2 W3 H3) : Ext W1 H1 W3 H3 := by
  obtain ⟨t, ht⟩ := a.pre
  obtain ⟨u, hu⟩ := b.pre
  refine ⟨fun x h => b.b x (a.b x h), fun x h => ?_, fun x h => b.th x (a.th x h), ⟨t ++ u, by rw [hu, ht, List.append_assoc]⟩, fun x o h n => let ⟨p, q⟩ := a.keep x o h n; b.keep x o p q, fun x vs h => b.tup x vs (a.tup x vs h)⟩
  rcases b.b' x h with h | h
  · exact a.b' x h
  · cases e : H1 x with
    | none => exact .inr rfl
    | some o =>
      obtain ⟨o', e'⟩ := a.th x ⟨o, e⟩
      rw [h] at e'; cases e'
/-- what stands where we may write -/
def Ours : HO → Prop
  | .lst _ => True
  | .dK _ => True
  | .frz _ (.dK _) => True
  | _ => False
theorem Gr.lv {K : Pm} {W : Wd} {H : Hp} (g : Gr K W H) {a : Addr} (l : live W a) : ∃ u, H a = some u ∧ Ours u := by
  obtain ⟨n, o, e1, e2, ne⟩ := l
  have q := g.obj n a o e1 e2
  cases o with
  | lst ds => obtain ⟨vs, h, _⟩ := q; exact ⟨_, h, True.intro⟩
  | dct kvs => obtain ⟨ps, h, _⟩ := q; exact ⟨_, h, True.intro⟩
  | dlk kvs => obtain ⟨o, ps, h, _⟩ := q; exact ⟨_, h, True.intro⟩
  | gone => exact absurd rfl ne
theorem Gr.nlv {K : Pm} {W : Wd} {H : Hp} (g : Gr K W H) {a : Addr} {u : HO} (h : H a = some u) (n : ¬ Ours u) : ¬ live W a := fun l => by
  obtain ⟨v, e, p⟩ := g.lv l
  rw [h] at e
  cases e
  exact n p
theorem SqT.keep {K : Pm} {W W' : Wd} {H H' : Hp} (g : Gr K W H) (x : Ext W H W' H') {a : Addr} {vs : List V} (h : SqT K.K H a vs) : SqT K.K H' a vs := by
  rcases h with (h | ⟨o, h⟩) | h
  · exact .inl (.inl (x.tup a vs h))
  · exact .inl (.inr ⟨o, (x.keep a _ h (g.nlv h fun z => z)).1⟩)
  · exact .inr h
section
variable {K : Pm} {W W' : Wd} {H H' : Hp}
theorem L.keep (x : Ext W H W' H') {a : Addr} {o : HO} (h : H a = some o) (n : ¬ L W a) : H' a = some o ∧ ¬ L W' a := by
  obtain ⟨p, q⟩ := x.keep a o h fun l => n (.inl l)
  refine ⟨p, fun l => ?_⟩
  rcases l with l | l
  · exact q l
  · rcases x.b' a l with l | l
    · exact n (.inr l)
    · rw [l] at h; cases h
theorem L.keepD (x : Ext W H W' H') {a : Addr} {ps : List (Key × V)} (h : Rd H a (.dK ps)) (n : ¬ L W a) : Rd H' a (.dK ps) ∧ ¬ L W' a := by
  rcases h with h | ⟨o, h⟩
  · obtain ⟨p, q⟩ := L.keep x h n
    exact ⟨.inl p, q⟩
  · obtain ⟨p, q⟩ := L.keep x h n
    exact ⟨.inr ⟨o, p⟩, q⟩
theorem Scr.keep (x : Ext W H W' H') {a : Addr} {vs : List V} (h : Scr K (L W) H a vs) : Scr K (L W') H' a vs := by
  rcases h with ⟨n, o, h⟩ | h
  · exact .inl ⟨(L.keep x h n).2, o, (L.keep x h n).1⟩
  · exact .inr h
mutual
theorem Dr.keep (g : Gr K W H) (x : Ext W H W' H') : ∀ {v : V} {d : D}, Rv K W H v d → Rv K W' H' v d
  | _, _, .non => .non
  | _, _, .bl b => .bl b
  | _, _, .int i => .int i
  | _, _, .str z => .str z
  | _, _, .tup h r => .tup (SqT.keep g x h) (Drs.keep g x r)
  | _, _, .lst h n r => .lst (L.keep x h n).1 (L.keep x h n).2 (Drs.keep g x r)
  | _, _, .scr h r => .scr (Scr.keep x h) (Drs.keep g x r)
  | _, _, .dct h n r => .dct (L.keepD x h n).1 (L.keepD x h n).2 (Drk.keep g x r)
  | _, _, .set h n nd e => .set (L.keep x h n).1 (L.keep x h n).2 nd e
  | _, _, .ref h => by
    obtain ⟨t, e⟩ := x.pre
    refine .ref ?_
    rw [e, List.getElem?_append_left (List.getElem?_eq_some_iff.mp h).1]
    exact h
  | _, _, .glo a => .glo a
  | _, _, .ty n => .ty n
  | _, _, .cls h => .cls h
  | _, _, .exc h e n => .exc h (L.keep x e n).1 (L.keep x e n).2
  | _, _, .exf h e n e2 n2 r => .exf h (L.keep x e n).1 (L.keep x e n).2 (L.keep x e2 n2).1 (L.keep x e2 n2).2 (Dr.keep g x r)
theorem Drs.keep (g : Gr K W H) (x : Ext W H W' H') : ∀ {vs : List V} {ds : List D}, Rvs K W H vs ds → Rvs K W' H' vs ds
  | _, _, .nil => .nil
  | _, _, .cons h r => .cons (Dr.keep g x h) (Drs.keep g x r)
theorem Drk.keep (g : Gr K W H) (x : Ext W H W' H') : ∀ {ps : List (Key × V)} {kvs : List (Key × D)}, Rkv K W H ps kvs → Rkv K W' H' ps kvs
  | _, _, .nil => .nil
  | _, _, .cons h r => .cons (Dr.keep g x h) (Drk.keep g x r)
end
theorem Ob.keep (g : Gr K W H) (x : Ext W H W' H') {a : Addr} {o : O} (h : Ob K W H a o) (e : H' a = H a) : Ob K W' H' a o := by
  cases o with
  | lst ds => obtain ⟨vs, q, r⟩ := h; exact ⟨vs, e.trans q, Drs.keep g x r⟩
  | dct kvs => obtain ⟨ps, q, r⟩ := h; exact ⟨ps, e.trans q, Drk.keep g x r⟩
  | dlk kvs => obtain ⟨o, ps, q, r⟩ := h; exact ⟨o, ps, e.trans q, Drk.keep g x r⟩
  | gone => exact True.intro
end
theorem rd_keep {H : Hp} {p a : Addr} {o u : HO} (h : Rd H a u) (n : a ≠ p) : Rd (upd H p o) a u := by
  rcases h with h | ⟨b, h⟩
  · exact .inl (by rw [upd_ne n]; exact h)
  · exact .inr ⟨b, by rw [upd_ne n]; exact h⟩
theorem rd_ne {H : Hp} {p a : Addr} {u : HO} (h : Rd H a u) (n : H p = none) : a ≠ p := by
  rcases h with h | ⟨b, h⟩
  · exact ne_of_none h n
  · exact ne_of_none h n

/-! ### steps of the world -/
section
variable {K : Pm} {W : Wd} {H : Hp}
theorem not_there {a p : Addr} {o : HO} (h : H a = some o) (n : H p = none) : a ≠ p := ne_of_none h n
theorem th_upd {p : Addr} {o : HO} : ∀ a, (∃ u, H a = some u) → ∃ u, upd H p o a = some u := fun a ⟨u, h⟩ => by
  by_cases e : a = p
  · exact ⟨o, by rw [e]; exact upd_same⟩
  · exact ⟨u, by rw [upd_ne e]; exact h⟩
/-- an object is laid that no number tells -/
theorem Ext.laid {p : Addr} {o : HO} (n : H p = none) : Ext W H W (upd H p o) :=
  ⟨fun _ h => h, fun _ h => .inl h, th_upd, ⟨[], by simp⟩, fun a u h l => ⟨by rw [upd_ne (not_there h n)]; exact h, l⟩, fun a vs h => by rw [upd_ne (not_there h n)]; exact h⟩
theorem Gr.laid {p : Addr} {o : HO} (g : Gr K W H) (n : H p = none) : Gr K W (upd H p o) := by
  have th : ∀ a, (∃ u, H a = some u) → a ≠ p := fun a ⟨u, h⟩ => not_there h n
  refine ⟨g.len, g.nd, g.dis, fun a h => ?_, fun a h => ?_, fun m a u h1 h2 => ?_⟩
  · rw [upd_ne (th a (g.thA a h))]; exact g.thA a h
  · rw [upd_ne (th a (g.thB a h))]; exact g.thB a h
  · exact (g.obj m a u h1 h2).keep g (Ext.laid n) (upd_ne (th a (g.thA a (List.mem_of_getElem? h1))))
theorem fresh_L {p : Addr} (g : Gr K W H) (n : H p = none) : ¬ L W p := fun l => by
  have : ∃ o, H p = some o := by
    rcases l with ⟨m, o, h, _⟩ | h
    · exact g.thA p (List.mem_of_getElem? h)
    · exact g.thB p h
  obtain ⟨o, e⟩ := this
  rw [n] at e; cases e
theorem fresh_α {p : Addr} (g : Gr K W H) (n : H p = none) : p ∉ W.α := fun h => by
  obtain ⟨o, e⟩ := g.thA p h
  rw [n] at e; cases e
/-- the number of an address is one -/
theorem Gr.one (g : Gr K W H) {n m : Nat} {a : Addr} (h : W.α[n]? = some a) (h' : W.α[m]? = some a) : n = m := by
  obtain ⟨l1, e1⟩ := List.getElem?_eq_some_iff.mp h
  obtain ⟨l2, e2⟩ := List.getElem?_eq_some_iff.mp h'
  exact (List.getElem_inj g.nd).mp (e1.trans e2.symm)
/-- a new object of ours -/
def Wd.new (W : Wd) (p : Addr) (o : O) : Wd := ⟨W.α ++ [p], W.G ++ [o], W.B⟩
theorem live_new {p a : Addr} {o : O} (hl : W.α.length = W.G.length) (l : live (W.new p o) a) : live W a ∨ a = p := by
  obtain ⟨n, u, h1, h2, ne⟩ := l
  by_cases h : n < W.α.length
  · refine .inl ⟨n, u, ?_, ?_, ne⟩
    · rw [← h1]; exact (List.getElem?_append_left h).symm
    · rw [← h2]; exact (List.getElem?_append_left (by omega)).symm
  · have h1' : (W.α ++ [p])[n]? = some a := h1
    rw [List.getElem?_append_right (by omega)] at h1'
    cases hm : n - W.α.length with
    | zero => rw [hm] at h1'; simp at h1'; exact .inr h1'.symm
    | succ m => rw [hm] at h1'; simp at h1'
theorem Ext.new {p : Addr} {o : O} {u : HO} (g : Gr K W H) (n : H p = none) : Ext W H (W.new p o) (upd H p u) :=
  ⟨fun _ h => h, fun _ h => .inl h, th_upd, ⟨[p], rfl⟩, fun a v h l => ⟨by rw [upd_ne (not_there h n)]; exact h, fun q => (live_new g.len q).elim l (not_there h n)⟩, fun a vs h => by rw [upd_ne (not_there h n)]; exact h⟩
theorem Gr.new {p : Addr} {o : O} {u : HO} (g : Gr K W H) (n : H p = none) (ho : Ob K (W.new p o) (upd H p u) p o) : Gr K (W.new p o) (upd H p u) := by
  have th : ∀ a, (∃ u, H a = some u) → a ≠ p := fun a ⟨u, h⟩ => not_there h n
  have pα := fresh_α g n
  refine ⟨by simp [Wd.new, g.len], ?_, fun a h => ?_, fun a h => ?_, fun a h => ?_, fun m a v h1 h2 => ?_⟩
  · show (W.α ++ [p]).Nodup
    rw [List.nodup_append]
    refine ⟨g.nd, by simp, fun a ha b hb => ?_⟩
    have : b = p := by simpa using hb
    rw [this]; rintro rfl; exact pα ha
  · have hb : a ∈ W.B := h
    have q := th a (g.thB a hb)
    show a ∉ W.α ++ [p]
    simp only [List.mem_append, List.mem_singleton, not_or]
    exact ⟨g.dis a hb, q⟩
  · have h' : a ∈ W.α ++ [p] := h
    rcases List.mem_append.mp h' with h' | h'
    · rw [upd_ne (th a (g.thA a h'))]; exact g.thA a h'
    · have : a = p := by simpa using h'
      rw [this]; exact ⟨u, upd_same⟩
  · have hb : a ∈ W.B := h
    rw [upd_ne (th a (g.thB a hb))]; exact g.thB a hb
  · have h1' : (W.α ++ [p])[m]? = some a := h1
    have h2' : (W.G ++ [o])[m]? = some v := h2
    have hl := g.len
    by_cases h : m < W.α.length
    · rw [List.getElem?_append_left h] at h1'
      rw [List.getElem?_append_left (by omega)] at h2'
      exact (g.obj m a v h1' h2').keep g (Ext.new g n) (upd_ne (th a (g.thA a (List.mem_of_getElem? h1'))))
    · rw [List.getElem?_append_right (by omega)] at h1'
      rw [List.getElem?_append_right (by omega)] at h2'
      have e : m - W.α.length = m - W.G.length := by omega
      rw [e] at h1'
      cases hm : m - W.G.length with
      | zero =>
        rw [hm] at h1' h2'; simp at h1' h2'
        subst h1' h2'
        exact ho
      | succ j => rw [hm] at h1'; simp at h1'
/-- an object of ours written, or given up -/
def Wd.put (W : Wd) (n : Nat) (o : O) : Wd := ⟨W.α, W.G.set n o, W.B⟩
theorem live_put {n : Nat} {a : Addr} {o o' : O} (hn : W.G[n]? = some o) (hg : o ≠ .gone) (l : live (W.put n o') a) : live W a := by
  obtain ⟨m, u, h1, h2, ne⟩ := l
  have h2' : (W.G.set n o')[m]? = some u := h2
  by_cases e : n = m
  · subst e
    exact ⟨n, o, h1, hn, hg⟩
  · rw [List.getElem?_set_ne e] at h2'
    exact ⟨m, u, h1, h2', ne⟩
theorem Ext.put {n : Nat} {a : Addr} {o o' : O} {u : HO} (g : Gr K W H) (ha : W.α[n]? = some a) (hn : W.G[n]? = some o) (hg : o ≠ .gone) : Ext W H (W.put n o') (upd H a u) := by
  have la : live W a := ⟨n, o, ha, hn, hg⟩
  have nb : ∀ b, ¬ live W b → b ≠ a := fun b l e => l (by rw [e]; exact la)
  refine ⟨fun _ h => h, fun _ h => .inl h, th_upd, ⟨[], by simp [Wd.put]⟩, fun b v h l => ⟨by rw [upd_ne (nb b l)]; exact h, fun q => l (live_put hn hg q)⟩, fun b vs h => ?_⟩
  rw [upd_ne (nb b (g.nlv h fun z => z))]; exact h
theorem Gr.put {n : Nat} {a : Addr} {o o' : O} {u : HO} (g : Gr K W H) (ha : W.α[n]? = some a) (hn : W.G[n]? = some o) (hg : o ≠ .gone) (ho : Ob K (W.put n o') (upd H a u) a o') : Gr K (W.put n o') (upd H a u) := by
  refine ⟨by simp [Wd.put, g.len], g.nd, g.dis, fun b h => ?_, fun b h => ?_, fun m b v h1 h2 => ?_⟩
  · by_cases e : b = a
    · rw [e]; exact ⟨u, upd_same⟩
    · rw [upd_ne e]; exact g.thA b h
  · have e : b ≠ a := fun e => g.dis b h (by rw [e]; exact List.mem_of_getElem? ha)
    rw [upd_ne e]; exact g.thB b h
  · have h1' : W.α[m]? = some b := h1
    have h2' : (W.G.set n o')[m]? = some v := h2
    by_cases e : n = m
    · subst e
      rw [ha] at h1'; cases h1'
      rw [List.getElem?_set_self (List.getElem?_eq_some_iff.mp hn).1] at h2'; cases h2'
      exact ho
    · rw [List.getElem?_set_ne e] at h2'
      have nb : b ≠ a := fun q => e (g.one ha (by rw [← q]; exact h1'))
      exact (g.obj m b v h1' h2').keep g (Ext.put g ha hn hg) (upd_ne nb)
theorem Ext.drop {n : Nat} {o : O} (hn : W.G[n]? = some o) (hg : o ≠ .gone) : Ext W H (W.put n .gone) H :=
  ⟨fun _ h => h, fun _ h => .inl h, fun _ h => h, ⟨[], by simp [Wd.put]⟩, fun b v h l => ⟨h, fun q => l (live_put hn hg q)⟩, fun _ _ h => h⟩
theorem Gr.drop {n : Nat} {o : O} (g : Gr K W H) (hn : W.G[n]? = some o) (hg : o ≠ .gone) : Gr K (W.put n .gone) H := by
  refine ⟨by simp [Wd.put, g.len], g.nd, g.dis, g.thA, g.thB, fun m b v h1 h2 => ?_⟩
  have h1' : W.α[m]? = some b := h1
  have h2' : (W.G.set n .gone)[m]? = some v := h2
  by_cases e : n = m
  · subst e
    rw [List.getElem?_set_self (List.getElem?_eq_some_iff.mp hn).1] at h2'; cases h2'
    exact True.intro
  · rw [List.getElem?_set_ne e] at h2'
    exact (g.obj m b v h1' h2').keep g (Ext.drop hn hg) rfl
theorem not_L_drop {n : Nat} {a : Addr} (g : Gr K W H) (ha : W.α[n]? = some a) : ¬ L (W.put n .gone) a := fun l => by
  rcases l with ⟨m, u, h1, h2, ne⟩ | l
  · have h1' : W.α[m]? = some a := h1
    have e := g.one ha h1'
    subst e
    have h2' : (W.G.set n .gone)[n]? = some u := h2
    have lt : n < W.G.length := by rw [← g.len]; exact (List.getElem?_eq_some_iff.mp ha).1
    rw [List.getElem?_set_self lt] at h2'
    exact ne (Option.some.inj h2').symm
  · exact g.dis a l (List.mem_of_getElem? ha)
/-- an address where no tree may look from here on -/
def Wd.ban (W : Wd) (p : Addr) : Wd := ⟨W.α, W.G, p :: W.B⟩
theorem live_ban {p a : Addr} : live (W.ban p) a ↔ live W a := Iff.rfl
theorem Ext.ban {p : Addr} {u : HO} (n : H p = none) : Ext W H (W.ban p) (upd H p u) := by
  have x : Ext W H W (upd H p u) := Ext.laid n
  exact ⟨fun a h => List.mem_cons_of_mem _ h, fun a h => by
    rcases List.mem_cons.mp h with rfl | h
    · exact .inr n
    · exact .inl h, x.th, x.pre, x.keep, x.tup⟩
theorem Gr.ban {p : Addr} {u : HO} (g : Gr K W H) (n : H p = none) : Gr K (W.ban p) (upd H p u) := by
  have th : ∀ a, (∃ u, H a = some u) → a ≠ p := fun a ⟨u, h⟩ => not_there h n
  have g' : Gr K W (upd H p u) := g.laid n
  refine ⟨g.len, g.nd, fun a h => ?_, g'.thA, fun a h => ?_, fun m a v h1 h2 => ?_⟩
  · rcases List.mem_cons.mp h with rfl | h
    · have q : a ∉ W.α := fresh_α g n
      exact q
    · exact g.dis a h
  · rcases List.mem_cons.mp h with rfl | h
    · exact ⟨u, upd_same⟩
    · exact g'.thB a h
  · exact (g.obj m a v h1 h2).keep g (Ext.ban n) (upd_ne (th a (g.thA a (List.mem_of_getElem? h1))))
/-- a banned object changes -/
theorem ban_ne {p : Addr} (g : Gr K W H) (hp : p ∈ W.B) {a : Addr} (h : live W a) : a ≠ p := fun e => by
  obtain ⟨m, o, h1, _⟩ := h
  exact g.dis p hp (by rw [← e]; exact List.mem_of_getElem? h1)
mutual
theorem Dr.off {p : Addr} {u : HO} (hp : p ∈ W.B) (nt : ∀ vs, H p ≠ some (.tup vs)) (nf : ∀ o w, H p ≠ some (.frz o w)) : ∀ {v : V} {d : D}, Rv K W H v d → Rv K W (upd H p u) v d
  | _, _, .non => .non
  | _, _, .bl b => .bl b
  | _, _, .int i => .int i
  | _, _, .str z => .str z
  | _, _, .tup (a := a) h r => by
    refine .tup ?_ (Drs.off hp nt nf r)
    rcases h with (h | ⟨o, h⟩) | h
    · exact .inl (.inl (by rw [upd_ne (fun e => nt _ (by rw [← e]; exact h))]; exact h))
    · exact .inl (.inr ⟨o, by rw [upd_ne (fun e => nf _ _ (by rw [← e]; exact h))]; exact h⟩)
    · exact .inr h
  | _, _, .lst (a := a) h n r => .lst (by rw [upd_ne (fun e => n (.inr (by rw [e]; exact hp)))]; exact h) n (Drs.off hp nt nf r)
  | _, _, .scr (a := a) h r => by
    refine .scr ?_ (Drs.off hp nt nf r)
    rcases h with ⟨n, o, h⟩ | h
    · exact .inl ⟨n, o, by rw [upd_ne (fun e => n (.inr (by rw [e]; exact hp)))]; exact h⟩
    · exact .inr h
  | _, _, .dct (a := a) h n r => .dct (rd_keep h (fun e => n (.inr (by rw [e]; exact hp)))) n (Drk.off hp nt nf r)
  | _, _, .set (a := a) h n nd e => .set (by rw [upd_ne (fun e => n (.inr (by rw [e]; exact hp)))]; exact h) n nd e
  | _, _, .ref h => .ref h
  | _, _, .glo a => .glo a
  | _, _, .ty n => .ty n
  | _, _, .cls h => .cls h
  | _, _, .exc h e n => .exc h (by rw [upd_ne (fun z => n (.inr (by rw [z]; exact hp)))]; exact e) n
  | _, _, .exf h e n e2 n2 r => .exf h (by rw [upd_ne (fun z => n (.inr (by rw [z]; exact hp)))]; exact e) n (by rw [upd_ne (fun z => n2 (.inr (by rw [z]; exact hp)))]; exact e2) n2 (Dr.off hp nt nf r)
theorem Drs.off {p : Addr} {u : HO} (hp : p ∈ W.B) (nt : ∀ vs, H p ≠ some (.tup vs)) (nf : ∀ o w, H p ≠ some (.frz o w)) : ∀ {vs : List V} {ds : List D}, Rvs K W H vs ds → Rvs K W (upd H p u) vs ds
  | _, _, .nil => .nil
  | _, _, .cons h r => .cons (Dr.off hp nt nf h) (Drs.off hp nt nf r)
theorem Drk.off {p : Addr} {u : HO} (hp : p ∈ W.B) (nt : ∀ vs, H p ≠ some (.tup vs)) (nf : ∀ o w, H p ≠ some (.frz o w)) : ∀ {ps : List (Key × V)} {kvs : List (Key × D)}, Rkv K W H ps kvs → Rkv K W (upd H p u) ps kvs
  | _, _, .nil => .nil
  | _, _, .cons h r => .cons (Dr.off hp nt nf h) (Drk.off hp nt nf r)
end
theorem Ob.off {p a : Addr} {u : HO} {o : O} (hp : p ∈ W.B) (nt : ∀ vs, H p ≠ some (.tup vs)) (nf : ∀ o w, H p ≠ some (.frz o w)) (na : a ≠ p) (h : Ob K W H a o) : Ob K W (upd H p u) a o := by
  cases o with
  | lst ds => obtain ⟨vs, q, r⟩ := h; exact ⟨vs, by rw [upd_ne na]; exact q, Drs.off hp nt nf r⟩
  | dct kvs => obtain ⟨ps, q, r⟩ := h; exact ⟨ps, by rw [upd_ne na]; exact q, Drk.off hp nt nf r⟩
  | dlk kvs => obtain ⟨o, ps, q, r⟩ := h; exact ⟨o, ps, by rw [upd_ne na]; exact q, Drk.off hp nt nf r⟩
  | gone => exact True.intro
theorem Gr.off {p : Addr} {u : HO} (g : Gr K W H) (hp : p ∈ W.B) (nt : ∀ vs, H p ≠ some (.tup vs)) (nf : ∀ o w, H p ≠ some (.frz o w)) : Gr K W (upd H p u) :=
  ⟨g.len, g.nd, g.dis, fun a h => th_upd a (g.thA a h), fun a h => th_upd a (g.thB a h), fun m a v h1 h2 => Ob.off hp nt nf (fun e => g.dis p hp (by rw [← e]; exact List.mem_of_getElem? h1)) (g.obj m a v h1 h2)⟩
mutual
theorem Dr.less {L' : Addr → Prop} {α : List Addr} {L : Addr → Prop} (le : ∀ a, L' a → L a) : ∀ {v : V} {d : D}, Dr K L α H v d → Dr K L' α H v d
  | _, _, .non => .non
  | _, _, .bl b => .bl b
  | _, _, .int i => .int i
  | _, _, .str z => .str z
  | _, _, .tup h r => .tup h (Drs.less le r)
  | _, _, .lst h n r => .lst h (fun l => n (le _ l)) (Drs.less le r)
  | _, _, .scr h r => .scr (h.imp (fun z => ⟨fun l => z.1 (le _ l), z.2⟩) id) (Drs.less le r)
  | _, _, .dct h n r => .dct h (fun l => n (le _ l)) (Drk.less le r)
  | _, _, .set h n nd e => .set h (fun l => n (le _ l)) nd e
  | _, _, .ref h => .ref h
  | _, _, .glo a => .glo a
  | _, _, .ty n => .ty n
  | _, _, .cls h => .cls h
  | _, _, .exc h e n => .exc h e (fun l => n (le _ l))
  | _, _, .exf h e n e2 n2 r => .exf h e (fun l => n (le _ l)) e2 (fun l => n2 (le _ l)) (Dr.less le r)
theorem Drs.less {L' : Addr → Prop} {α : List Addr} {L : Addr → Prop} (le : ∀ a, L' a → L a) : ∀ {vs : List V} {ds : List D}, Drs K L α H vs ds → Drs K L' α H vs ds
  | _, _, .nil => .nil
  | _, _, .cons h r => .cons (Dr.less le h) (Drs.less le r)
theorem Drk.less {L' : Addr → Prop} {α : List Addr} {L : Addr → Prop} (le : ∀ a, L' a → L a) : ∀ {ps : List (Key × V)} {kvs : List (Key × D)}, Drk K L α H ps kvs → Drk K L' α H ps kvs
  | _, _, .nil => .nil
  | _, _, .cons h r => .cons (Dr.less le h) (Drk.less le r)
end
/-- the bans taken back -/
def Wd.bans (W : Wd) (B : List Addr) : Wd := ⟨W.α, W.G, B⟩
theorem L_bans {B : List Addr} (s : ∀ a ∈ B, a ∈ W.B) : ∀ a, L (W.bans B) a → L W a := fun a l => l.elim .inl fun h => .inr (s a h)
theorem Gr.bans {B : List Addr} (g : Gr K W H) (s : ∀ a ∈ B, a ∈ W.B) : Gr K (W.bans B) H := by
  refine ⟨g.len, g.nd, fun a h => g.dis a (s a h), g.thA, fun a h => g.thB a (s a h), fun m a v h1 h2 => ?_⟩
  have q := g.obj m a v h1 h2
  cases v with
  | lst ds => obtain ⟨vs, h, r⟩ := q; exact ⟨vs, h, Drs.less (L_bans s) r⟩
  | dct kvs => obtain ⟨ps, h, r⟩ := q; exact ⟨ps, h, Drk.less (L_bans s) r⟩
  | dlk kvs => obtain ⟨o, ps, h, r⟩ := q; exact ⟨o, ps, h, Drk.less (L_bans s) r⟩
  | gone => exact True.intro
theorem Ext.bans {W0 : Wd} {H0 : Hp} {B : List Addr} (x : Ext W0 H0 W H) (s : ∀ a ∈ B, a ∈ W.B) (s0 : ∀ a ∈ W0.B, a ∈ B) : Ext W0 H0 (W.bans B) H :=
  ⟨s0, fun a h => x.b' a (s a h), x.th, x.pre, x.keep, x.tup⟩
end
end Tw

namespace Tw
open PySem PySem.Spec PyProof.Rows L2

/-! ### what is reckoned -/
/-- an error of the program's own: its class by name, its one field -/
structure Er where
  cls : Str
  fld : Option (Str × D)
abbrev M (A : Type) := List O → Option (Sum Er A × List O)
abbrev P1 (A : Type) := List O → Option (A × List O)
def ret {A : Type} (a : A) : M A := fun G => some (.inr a, G)
def bnd {A B : Type} (m : M A) (k : A → M B) : M B := fun G => match m G with
  | some (.inr a, G1) => k a G1
  | some (.inl e, G1) => some (.inl e, G1)
  | none => none
def lft {A : Type} (f : P1 A) : M A := fun G => match f G with
  | some (a, G1) => some (.inr a, G1)
  | none => none
/-- nothing is changed -/
def pur {A : Type} (o : Option A) : P1 A := fun G => match o with
  | some a => some (a, G)
  | none => none
abbrev En := List (Option D)

def Cxp (X : Cx) : Pm := ⟨X.K, X.prog, X.w, X.mg⟩
/-- what is wanted where an error leaves -/
abbrev WE' := Er → Wd → L2.St → Hp → Prop
structure Rs (K : Pm) (W : Wd) (ρ : En) (σ : L2.St) (H : Hp) : Prop where
  gr : Gr K W H
  len : ρ.length = σ.length
  var : ∀ (i : Nat) (d : D), ρ[i]? = some (some d) → ∃ v, σ[i]? = some (some v) ∧ Rv K W H v d
theorem Rs.keep {K : Pm} {W W' : Wd} {ρ : En} {σ : L2.St} {H H' : Hp} (r : Rs K W ρ σ H) (g : Gr K W' H') (x : Ext W H W' H') : Rs K W' ρ σ H' :=
  ⟨g, r.len, fun i d e => let ⟨v, h, q⟩ := r.var i d e; ⟨v, h, q.keep r.gr x⟩⟩
/-- the end of what was reckoned -/
def Post {A B : Type} (K : Pm) (We : WE') (R : Wd → Hp → B → A → Prop) (W : Wd) (H : Hp) (σ : L2.St) (r : Sum Er A) (G' : List O) (Q : B → Hp → Prop) : Prop :=
  match r with
  | .inr d => ∀ (W' : Wd) (v : B) (H' : Hp), W'.G = G' → Ext W H W' H' → Gr K W' H' → R W' H' v d → Q v H'
  | .inl e => ∀ (W' : Wd) (H' : Hp), W'.G = G' → Ext W H W' H' → Gr K W' H' → We e W' σ H'
def up {A B : Type} (K : Pm) (We : WE') (R : Wd → Hp → B → A → Prop) (de : En → M A) : L2.St → Hp → (B → Hp → Prop) → Prop := fun σ H Q =>
  ∃ (W : Wd) (ρ : En) (r : Sum Er A) (G' : List O), Rs K W ρ σ H ∧ de ρ W.G = some (r, G') ∧ Post K We R W H σ r G' Q
abbrev upE (K : Pm) (We : WE') (de : En → M D) : TE := up K We (Rv K) de
abbrev upA (K : Pm) (We : WE') (de : En → M (List D)) : TA := up K We (Rvs K) de
abbrev Rb (W : Wd) (H : Hp) (b c : Bool) : Prop := b = c
abbrev upT (K : Pm) (We : WE') (de : En → M Bool) : TT := up K We Rb de

section
variable {A B A' B' : Type} {K : Pm} {We : WE'} {R : Wd → Hp → B → A → Prop} {R' : Wd → Hp → B' → A' → Prop} {W W1 : Wd} {H H1 : Hp} {σ : L2.St} {ρ : En} {G' : List O}
theorem Post.mono {r : Sum Er A} {Q : B → Hp → Prop} (p : Post K We R W H σ r G' Q) (x : Ext W H W1 H1) : Post K We R W1 H1 σ r G' Q := by
  cases r with
  | inr d => exact fun W' v H' e x' g q => p W' v H' e (x.trans x') g q
  | inl e => exact fun W' H' e x' g => p W' H' e (x.trans x') g
theorem up_bnd {da : En → M A} {k : A → M A'} {r : Sum Er A'} {Q : B' → Hp → Prop} {T : B → Hp → Prop} (hR : Rs K W ρ σ H) (e : bnd (da ρ) k W.G = some (r, G')) (p : Post K We R' W H σ r G' Q)
    (h : ∀ (d : A) (W1 : Wd) (v : B) (H1 : Hp), Ext W H W1 H1 → Rs K W1 ρ σ H1 → R W1 H1 v d → k d W1.G = some (r, G') → Post K We R' W1 H1 σ r G' Q → T v H1) : up K We R da σ H T := by
  unfold bnd at e
  split at e
  · rename_i a G1 he
    exact ⟨W, ρ, .inr a, G1, hR, he, fun W' v H' eg x g q => h a W' v H' x (hR.keep g x) q (by rw [eg]; exact e) (p.mono x)⟩
  · rename_i er G1 he
    cases e
    exact ⟨W, ρ, .inl er, _, hR, he, p⟩
  · cases e
theorem up_lft {f : P1 A} {r : Sum Er A} {Q : B → Hp → Prop} (e : lft f W.G = some (r, G')) (p : Post K We R W H σ r G' Q) :
    ∃ d, f W.G = some (d, G') ∧ ∀ (W' : Wd) (v : B) (H' : Hp), W'.G = G' → Ext W H W' H' → Gr K W' H' → R W' H' v d → Q v H' := by
  unfold lft at e
  split at e
  · rename_i a G1 he
    cases e
    exact ⟨a, he, p⟩
  · cases e
theorem up_ret {a : A} {r : Sum Er A} {Q : B → Hp → Prop} (e : ret a W.G = some (r, G')) (p : Post K We R W H σ r G' Q) :
    ∀ (W' : Wd) (v : B) (H' : Hp), W'.G = W.G → Ext W H W' H' → Gr K W' H' → R W' H' v a → Q v H' := by
  cases e
  exact p
theorem pur_eq {o : Option A} {a : A} {G G1 : List O} (e : pur o G = some (a, G1)) : o = some a ∧ G1 = G := by
  unfold pur at e
  split at e
  · cases e; exact ⟨rfl, rfl⟩
  · cases e
end

section
variable {X : Cx} {e : Expr} {es : List Expr} {st : Stmt} {sts : List Stmt}
theorem PE.imp {t t' : TE} (h : PE X e t) (i : ∀ σ H Q, t' σ H Q → t σ H Q) : PE X e t' := ⟨fun pins s σ H Q I q => h.run pins s σ H Q I (i σ H Q q)⟩
theorem PT.imp {t t' : TT} (h : PT X e t) (i : ∀ σ H Q, t' σ H Q → t σ H Q) : PT X e t' := ⟨fun pins s σ H Q I q => h.run pins s σ H Q I (i σ H Q q)⟩
theorem PW.imp {t t' : TT} (h : PW X e t) (i : ∀ σ H Q, t' σ H Q → t σ H Q) : PW X e t' := ⟨fun wh pins s σ H Q I q => h.run wh pins s σ H Q I (i σ H Q q)⟩
theorem PA.imp {t t' : TA} (h : PA X es t) (i : ∀ σ H Q, t' σ H Q → t σ H Q) : PA X es t' := ⟨fun pos pins s σ H Q I q => h.run pos pins s σ H Q I (i σ H Q q)⟩
theorem PS.imp {t t' : TS} (h : PS X st t) (i : ∀ D σ H, t' D σ H → t D σ H) : PS X st t' := ⟨fun pins s σ H D I q => h.run pins s σ H D I (i D σ H q)⟩
theorem PSs.imp {t t' : TS} (h : PSs X sts t) (i : ∀ D σ H, t' D σ H → t D σ H) : PSs X sts t' := ⟨fun pins s σ H D I q => h.run pins s σ H D I (i D σ H q)⟩
end

/-! ### names, constants -/
def dC (d : D) : En → M D := fun _ => ret d
def dV (i : Nat) : En → M D := fun ρ => lft (pur (match ρ[i]? with | some (some d) => some d | _ => none))
section
variable {X : Cx} {We : WE'}
theorem up_const {σ : L2.St} {H : Hp} {Q : VK} {v : V} {d : D} (hv : ∀ (W : Wd) (H : Hp), Rv (Cxp X) W H v d) (h : upE (Cxp X) We (dC d) σ H Q) : Q v H := by
  obtain ⟨W, ρ, r, G', hR, e, p⟩ := h
  exact up_ret e p W v H rfl Ext.refl hR.gr (hv W H)
theorem te_int {i : Int} {j pos} : PE X (.Constant (.int i) j pos) (upE (Cxp X) We (dC (.int i))) := PE.imp pe_int fun _ _ _ h => up_const (fun _ _ => .int i) h
theorem te_bl {b : Bool} {j pos} : PE X (.Constant (.bool b) j pos) (upE (Cxp X) We (dC (.bl b))) := PE.imp pe_bl fun _ _ _ h => up_const (fun _ _ => .bl b) h
theorem te_non {j pos} : PE X (.Constant .none j pos) (upE (Cxp X) We (dC .non)) := PE.imp pe_non fun _ _ _ h => up_const (fun _ _ => .non) h
theorem te_str {x : Str} {j pos} : PE X (.Constant (.str x) j pos) (upE (Cxp X) We (dC (.str x))) := PE.imp pe_str fun _ _ _ h => up_const (fun _ _ => .str x) h
theorem te_v (i : Nat) {x : Str} {pos : Pos} (hN : X.N[i]? = some x := by rfl) (hv : Vis X.env.scope x := by first | exact Or.inl rfl | exact Or.inr (Or.inl rfl) | exact Or.inr (Or.inr rfl)) (hd : (x == ("__debug__" : Str)) = false := by decide)
    (hcd : (x == ("__classdict__" : Str)) = false := by decide) : PE X (.Name x pos) (upE (Cxp X) We (dV i)) := PE.imp (pe_var (i := i) hN hv hd hcd) fun σ H Q h => by
  obtain ⟨W, ρ, r, G', hR, e, p⟩ := h
  obtain ⟨d, e, p⟩ := up_lft e p
  obtain ⟨e, eg⟩ := pur_eq e
  have e' : ρ[i]? = some (some d) := by
    revert e
    split
    · rename_i d' he
      intro z; cases z; exact he
    · intro z; cases z
  obtain ⟨v, hv, rv⟩ := hR.var i d e'
  exact ⟨v, hv, p W v H eg.symm Ext.refl hR.gr rv⟩
/-- a def, a class, an int of the module -/
theorem te_glo {x : Str} {a : Addr} {pos : Pos} (hg : Gl X x) (hm : X.mg x = some (.ref a)) (hd : (x == ("__debug__" : Str)) = false := by decide) : PE X (.Name x pos) (upE (Cxp X) We (dC (.glo a))) :=
  PE.imp (pe_glob (v := .ref a) hg hm rfl hd) fun _ _ _ h => up_const (fun _ _ => .glo a) h
theorem te_gint {x : Str} {i : Int} {t : Tok} {pos : Pos} (hg : Gl X x) (hm : X.mg x = some (.int i t)) (hd : (x == ("__debug__" : Str)) = false := by decide) : PE X (.Name x pos) (upE (Cxp X) We (dC (.int i))) :=
  PE.imp (pe_glob (v := .int i) hg hm ⟨_, rfl⟩ hd) fun _ _ _ h => up_const (fun _ _ => .int i) h
/-- a tuple of the module -/
theorem te_gtup {x : Str} {a : Addr} {d : D} {pos : Pos} (hg : Gl X x) (hm : X.mg x = some (.ref a)) (hk : ∀ (W : Wd) (H : Hp), Rv (Cxp X) W H (.ref a) d) (hd : (x == ("__debug__" : Str)) = false := by decide) : PE X (.Name x pos) (upE (Cxp X) We (dC d)) :=
  PE.imp (pe_glob (v := .ref a) hg hm rfl hd) fun _ _ _ h => up_const hk h
end

/-! ### argument lists, displays -/
def dNil : En → M (List D) := fun _ => ret []
def dCons (a : En → M D) (r : En → M (List D)) : En → M (List D) := fun ρ => bnd (a ρ) fun x => bnd (r ρ) fun xs => ret (x :: xs)
def mx : Nat := 1000000
theorem mx_line {n : Nat} (h : n ≤ mx) : n ≤ sizeLine := Nat.le_trans h (by rw [sizeLine_eq]; decide)
theorem mx_lt {n : Nat} (h : n ≤ mx) : n < sizeLine := Nat.lt_of_le_of_lt h (by rw [sizeLine_eq]; decide)
theorem mx_2 {n : Nat} (h : n ≤ mx) : n ≤ 16777216 := Nat.le_trans h (by decide)
def tupO (xs : List D) : Option D := if xs.length ≤ mx then some (.tup xs) else none
def lstO (xs : List D) : Option D := if xs.length ≤ mx then some (.lst xs) else none
def dTup (a : En → M (List D)) : En → M D := fun ρ => bnd (a ρ) fun xs => lft (pur (tupO xs))
def dLst (a : En → M (List D)) : En → M D := fun ρ => bnd (a ρ) fun xs => lft (pur (lstO xs))
/-- a list that will be changed -/
def newL (xs : List D) : P1 D := fun G => if xs.length ≤ mx then some (.ref G.length, G ++ [.lst xs]) else none
def dLstM (a : En → M (List D)) : En → M D := fun ρ => bnd (a ρ) fun xs => lft (newL xs)
theorem Drs.length {K : Pm} {L : Addr → Prop} {α : List Addr} {H : Hp} : ∀ {vs : List V} {ds : List D}, Drs K L α H vs ds → vs.length = ds.length
  | _, _, .nil => rfl
  | _, _, .cons _ r => by simp [Drs.length r]
section
variable {X : Cx} {We : WE'} {K : Pm}
/-- a new tuple, a new list that nobody changes -/
theorem tup_new {W : Wd} {H : Hp} {vs : List V} {ds : List D} {p : Addr} (g : Gr K W H) (r : Rvs K W H vs ds) (n : H p = none) : Gr K W (upd H p (.tup vs)) ∧ Ext W H W (upd H p (.tup vs)) ∧ Rv K W (upd H p (.tup vs)) (.ref p) (.tup ds) :=
  have x : Ext W H W (upd H p (.tup vs)) := Ext.laid n
  ⟨g.laid n, x, .tup (.inl (.inl upd_same)) (r.keep g x)⟩
theorem lst_new {W : Wd} {H : Hp} {vs : List V} {ds : List D} {p : Addr} (g : Gr K W H) (r : Rvs K W H vs ds) (n : H p = none) : Gr K W (upd H p (.lst vs)) ∧ Ext W H W (upd H p (.lst vs)) ∧ Rv K W (upd H p (.lst vs)) (.ref p) (.lst ds) :=
  have x : Ext W H W (upd H p (.lst vs)) := Ext.laid n
  ⟨g.laid n, x, .lst upd_same (fresh_L g n) (r.keep g x)⟩
theorem mut_new {W : Wd} {H : Hp} {vs : List V} {ds : List D} {p : Addr} (g : Gr K W H) (r : Rvs K W H vs ds) (n : H p = none) :
    Gr K (W.new p (.lst ds)) (upd H p (.lst vs)) ∧ Ext W H (W.new p (.lst ds)) (upd H p (.lst vs)) ∧ Rv K (W.new p (.lst ds)) (upd H p (.lst vs)) (.ref p) (.ref W.G.length) := by
  have x : Ext W H (W.new p (.lst ds)) (upd H p (.lst vs)) := Ext.new g n
  refine ⟨g.new n ⟨vs, upd_same, r.keep g x⟩, x, .ref ?_⟩
  show (W.α ++ [p])[W.G.length]? = some p
  rw [← g.len]
  simp
theorem ta_nil : PA X [] (upA (Cxp X) We dNil) := PA.imp pa_nil fun σ H Q h => by
  obtain ⟨W, ρ, r, G', hR, e, p⟩ := h
  exact up_ret e p W [] H rfl Ext.refl hR.gr .nil
theorem ta_cons {e : Expr} {es : List Expr} {da : En → M D} {dr : En → M (List D)} (ha : PE X e (upE (Cxp X) We da)) (hr : PA X es (upA (Cxp X) We dr)) (hs : starEach (e :: es) X.env = (false, eval e X.env) :: starEach es X.env := by rfl) :
    PA X (e :: es) (upA (Cxp X) We (dCons da dr)) := PA.imp (pa_cons ha hr hs) fun σ H Q h => by
  obtain ⟨W, ρ, r, G', hR, e, p⟩ := h
  refine up_bnd hR e p fun d W1 v H1 x1 R1 r1 e1 p1 => ?_
  refine up_bnd R1 e1 p1 fun ds W2 vs H2 x2 R2 r2 e2 p2 => ?_
  exact up_ret e2 p2 W2 _ H2 rfl Ext.refl R2.gr (.cons (r1.keep R1.gr x2) r2)
theorem tupO_eq {xs : List D} {d : D} (h : tupO xs = some d) : xs.length ≤ mx ∧ d = .tup xs := by
  unfold tupO at h
  split at h
  · rename_i z; cases h; exact ⟨z, rfl⟩
  · cases h
theorem lstO_eq {xs : List D} {d : D} (h : lstO xs = some d) : xs.length ≤ mx ∧ d = .lst xs := by
  unfold lstO at h
  split at h
  · rename_i z; cases h; exact ⟨z, rfl⟩
  · cases h
theorem newL_eq {xs : List D} {d : D} {G G1 : List O} (h : newL xs G = some (d, G1)) : xs.length ≤ mx ∧ d = .ref G.length ∧ G1 = G ++ [.lst xs] := by
  unfold newL at h
  split at h
  · rename_i z; cases h; exact ⟨z, rfl, rfl⟩
  · cases h
theorem te_tup {es : List Expr} {x1 pos} {da : En → M (List D)} (h : PA X es (upA (Cxp X) We da)) : PE X (.Tuple es x1 pos) (upE (Cxp X) We (dTup da)) := PE.imp (pe_tup h) fun σ H Q q => by
  obtain ⟨W, ρ, r, G', hR, e, p⟩ := q
  refine up_bnd hR e p fun ds W1 vs H1 x1 R1 r1 e1 p1 => ?_
  obtain ⟨d, e2, p2⟩ := up_lft e1 p1
  obtain ⟨e2, eg⟩ := pur_eq e2
  obtain ⟨z, rfl⟩ := tupO_eq e2
  refine ⟨by rw [r1.length]; exact mx_line z, fun a n => ?_⟩
  obtain ⟨g, x, rv⟩ := tup_new R1.gr r1 n
  exact p2 W1 _ _ eg.symm x g rv
theorem te_lst {es : List Expr} {pos} {da : En → M (List D)} (h : PA X es (upA (Cxp X) We da)) : PE X (.List es pos) (upE (Cxp X) We (dLst da)) := PE.imp (pe_lst h) fun σ H Q q => by
  obtain ⟨W, ρ, r, G', hR, e, p⟩ := q
  refine up_bnd hR e p fun ds W1 vs H1 x1 R1 r1 e1 p1 => ?_
  obtain ⟨d, e2, p2⟩ := up_lft e1 p1
  obtain ⟨e2, eg⟩ := pur_eq e2
  obtain ⟨z, rfl⟩ := lstO_eq e2
  refine ⟨by rw [r1.length]; exact mx_line z, fun a n => ?_⟩
  obtain ⟨g, x, rv⟩ := lst_new R1.gr r1 n
  exact p2 W1 _ _ eg.symm x g rv
theorem te_lstM {es : List Expr} {pos} {da : En → M (List D)} (h : PA X es (upA (Cxp X) We da)) : PE X (.List es pos) (upE (Cxp X) We (dLstM da)) := PE.imp (pe_lst h) fun σ H Q q => by
  obtain ⟨W, ρ, r, G', hR, e, p⟩ := q
  refine up_bnd hR e p fun ds W1 vs H1 x1 R1 r1 e1 p1 => ?_
  obtain ⟨d, e2, p2⟩ := up_lft e1 p1
  obtain ⟨z, rfl, rfl⟩ := newL_eq e2
  refine ⟨by rw [r1.length]; exact mx_line z, fun a n => ?_⟩
  obtain ⟨g, x, rv⟩ := mut_new R1.gr r1 n
  exact p2 (W1.new a (.lst ds)) _ _ rfl x g rv
end

/-! ### operators by values -/
/-- f tells what the reading r asks -/
def OpD (K : Pm) (r : R2) (f : D → D → P1 D) : Prop := ∀ (W : Wd) (H : Hp) (x y : V) (a b d : D) (G' : List O) (Q : VK), Gr K W H → Rv K W H x a → Rv K W H y b → f a b W.G = some (d, G') →
  (∀ (W' : Wd) (v : V) (H' : Hp), W'.G = G' → Ext W H W' H' → Gr K W' H' → Rv K W' H' v d → Q v H') → r x y H Q
def d2 (f : D → D → P1 D) (a b : En → M D) : En → M D := fun ρ => bnd (a ρ) fun x => bnd (b ρ) fun y => lft (f x y)
def pur2 (f : D → D → Option D) : D → D → P1 D := fun a b => pur (f a b)
section
variable {X : Cx} {We : WE'} {a b : Expr} {da db : En → M D} {pos : Pos} {r : R2} {f : D → D → P1 D}
theorem op_up (hd : OpD (Cxp X) r f) {σ : L2.St} {H : Hp} {Q : VK} (h : upE (Cxp X) We (d2 f da db) σ H Q) : tOp r (upE (Cxp X) We da) (upE (Cxp X) We db) σ H Q := by
  obtain ⟨W, ρ, r, G', hR, e, p⟩ := h
  refine up_bnd hR e p fun d W1 v H1 x1 R1 r1 e1 p1 => ?_
  refine up_bnd R1 e1 p1 fun d' W2 v' H2 x2 R2 r2 e2 p2 => ?_
  obtain ⟨d3, e3, p3⟩ := up_lft e2 p2
  exact hd W2 H2 v v' d d' d3 G' Q R2.gr (r1.keep R1.gr x2) r2 e3 p3
theorem te_op {op : Operator} (ho : OpR X (binaryOp op) r) (hd : OpD (Cxp X) r f) (ha : PE X a (upE (Cxp X) We da)) (hb : PE X b (upE (Cxp X) We db)) : PE X (.BinOp a op b pos) (upE (Cxp X) We (d2 f da db)) :=
  PE.imp (pe_op ho ha hb) fun _ _ _ h => op_up hd h
theorem te_cmp {op : CmpOp} (ho : OpR X (compareOp op) r) (hd : OpD (Cxp X) r f) (ha : PE X a (upE (Cxp X) We da)) (hb : PE X b (upE (Cxp X) We db)) (hm : behindInMarks op b = false) : PE X (.Compare a [op] [b] pos) (upE (Cxp X) We (d2 f da db)) :=
  PE.imp (pe_cmpR ho ha hb hm) fun _ _ _ h => op_up hd h
theorem te_ix (ho : IxR X r) (hd : OpD (Cxp X) r f) (ha : PE X a (upE (Cxp X) We da)) (hb : PE X b (upE (Cxp X) We db)) (hs : PlainIx b) : PE X (.Subscript a b pos) (upE (Cxp X) We (d2 f da db)) :=
  PE.imp (pe_ix ho ha hb hs) fun _ _ _ h => op_up hd h
end
section
variable {K : Pm}
theorem OpD.or1 {r r' : R2} {f : D → D → P1 D} (h : OpD K r f) : OpD K (fun x y H Q => r x y H Q ∨ r' x y H Q) f := fun W H x y a b d G' Q g r1 r2 e p => .inl (h W H x y a b d G' Q g r1 r2 e p)
theorem OpD.or2 {r r' : R2} {f : D → D → P1 D} (h : OpD K r' f) : OpD K (fun x y H Q => r x y H Q ∨ r' x y H Q) f := fun W H x y a b d G' Q g r1 r2 e p => .inr (h W H x y a b d G' Q g r1 r2 e p)
/-- ints to one value -/
def i2 (g : Int → Int → D) : D → D → Option D
  | .int i, .int j => some (g i j)
  | _, _ => none
/-- ints that keep to a bound -/
def i2c (c : Int → Int → Bool) (g : Int → Int → D) : D → D → Option D
  | .int i, .int j => if c i j = true then some (g i j) else none
  | _, _ => none
theorem i2_eq {g : Int → Int → D} {a b d : D} (h : i2 g a b = some d) : ∃ i j, a = .int i ∧ b = .int j ∧ d = g i j := by
  unfold i2 at h
  split at h
  · cases h; exact ⟨_, _, rfl, rfl, rfl⟩
  · cases h
theorem i2c_eq {c : Int → Int → Bool} {g : Int → Int → D} {a b d : D} (h : i2c c g a b = some d) : ∃ i j, a = .int i ∧ b = .int j ∧ c i j = true ∧ d = g i j := by
  unfold i2c at h
  split at h
  · split at h
    · rename_i q; cases h; exact ⟨_, _, rfl, rfl, q, rfl⟩
    · cases h
  · cases h
/-- a value that no heap tells otherwise -/
def Pln (v : V) (d : D) : Prop := ∀ (K : Pm) (W : Wd) (H : Hp), Rv K W H v d
theorem opd_i0 {gv : Int → Int → V} {g : Int → Int → D} (hp : ∀ i j, Pln (gv i j) (g i j)) : OpD K (rI0 gv) (pur2 (i2 g)) := fun W H x y a b d G' Q gr r1 r2 e p => by
  obtain ⟨e, eg⟩ := pur_eq e
  obtain ⟨i, j, rfl, rfl, rfl⟩ := i2_eq e
  cases r1; cases r2
  exact ⟨i, j, rfl, rfl, p W _ H eg.symm Ext.refl gr (hp i j K W H)⟩
theorem opd_ic {C : Int → Int → Prop} {gv : Int → Int → V} {g : Int → Int → D} {c : Int → Int → Bool} (hc : ∀ i j, c i j = true → C i j) (hp : ∀ i j, Pln (gv i j) (g i j)) : OpD K (rI C gv) (pur2 (i2c c g)) := fun W H x y a b d G' Q gr r1 r2 e p => by
  obtain ⟨e, eg⟩ := pur_eq e
  obtain ⟨i, j, rfl, rfl, q, rfl⟩ := i2c_eq e
  cases r1; cases r2
  exact ⟨i, j, rfl, rfl, hc i j q, p W _ H eg.symm Ext.refl gr (hp i j K W H)⟩
theorem pln_int (i : Int) : Pln (.int i) (.int i) := fun _ _ _ => .int i
theorem pln_bl (i : Bool) : Pln (.bl i) (.bl i) := fun _ _ _ => .bl i
theorem pln_str (i : Str) : Pln (.str i) (.str i) := fun _ _ _ => .str i
end
end Tw

namespace Tw
open PySem PySem.Spec PyProof.Rows L2

/-! ### data compared -/
mutual
def toP : D → Option PyData
  | .non => some .none
  | .bl b => some (.bool b)
  | .int i => some (.int i)
  | .str x => some (.str x)
  | .tup xs => (toPs xs).map .tuple
  | .lst xs => (toPs xs).map .list
  | .scr xs => (toPs xs).map .list
  | .dct _ => none
  | .set _ => none
  | .ref _ => none
  | .glo _ => none
  | .ty _ => none
  | .cls _ => none
  | .exc _ => none
  | .exf _ _ _ => none
def toPs : List D → Option (List PyData)
  | [] => some []
  | x :: xs => (toP x).bind fun p => (toPs xs).map fun ps => p :: ps
end
section
variable {K : Pm} {L : Addr → Prop} {α : List Addr} {H : Hp}
mutual
theorem Dr.dp : ∀ {v : V} {d : D} {p : PyData}, Dr K L α H v d → toP d = some p → Dp K.K H v p
  | _, _, _, .non, e => by cases e; exact .non
  | _, _, _, .bl b, e => by cases e; exact .bl b
  | _, _, _, .int i, e => by cases e; exact .int i
  | _, _, _, .str x, e => by cases e; exact .str x
  | _, _, _, .tup (ds := ds) h r, e => by
    rw [toP] at e
    cases q : toPs ds with
    | none => rw [q] at e; cases e
    | some ps => rw [q] at e; cases e; exact .tup h (Drs.dp r q)
  | _, _, _, .lst (ds := ds) h n r, e => by
    rw [toP] at e
    cases q : toPs ds with
    | none => rw [q] at e; cases e
    | some ps => rw [q] at e; cases e; exact .lst (SqL.of h) (Drs.dp r q)
  | _, _, _, .scr (ds := ds) h r, e => by
    rw [toP] at e
    cases q : toPs ds with
    | none => rw [q] at e; cases e
    | some ps => rw [q] at e; cases e; exact .lst h.sq (Drs.dp r q)
  | _, _, _, .dct _ _ _, e => by cases e
  | _, _, _, .set _ _ _ _, e => by cases e
  | _, _, _, .ref _, e => by cases e
  | _, _, _, .glo _, e => by cases e
  | _, _, _, .ty _, e => by cases e
  | _, _, _, .cls _, e => by cases e
  | _, _, _, .exc _ _ _, e => by cases e
  | _, _, _, .exf _ _ _ _ _ _, e => by cases e
theorem Drs.dp : ∀ {vs : List V} {ds : List D} {ps : List PyData}, Drs K L α H vs ds → toPs ds = some ps → DpAll K.K H vs ps
  | _, _, _, .nil, e => by cases e; exact .nil
  | _, _, _, .cons (d := d) (ds := ds) h r, e => by
    rw [toPs] at e
    cases q : toP d with
    | none => rw [q] at e; cases e
    | some p =>
      cases q2 : toPs ds with
      | none => rw [q, q2] at e; cases e
      | some ps => rw [q, q2] at e; cases e; exact .cons (Dr.dp h q) (Drs.dp r q2)
end
end
def eqO (neg : Bool) (a b : D) : Option D :=
  match toP a, toP b with
  | some p, some q => if SeqAt.shaped p && SeqAt.shaped q then some (.bl (if neg then !PyData.eqv p q else PyData.eqv p q)) else none
  | _, _ => none
theorem eqO_eq {neg : Bool} {a b d : D} (h : eqO neg a b = some d) : ∃ p q, toP a = some p ∧ toP b = some q ∧ SeqAt.shaped p = true ∧ SeqAt.shaped q = true ∧ d = .bl (if neg then !PyData.eqv p q else PyData.eqv p q) := by
  unfold eqO at h
  split at h
  · rename_i p q h1 h2
    split at h
    · rename_i hs
      cases h
      obtain ⟨s1, s2⟩ := Bool.and_eq_true_iff.mp hs
      exact ⟨p, q, h1, h2, s1, s2, rfl⟩
    · cases h
  · cases h
section
variable {K : Pm}
theorem opd_eq : OpD K (rEqD K.K) (pur2 (eqO false)) := fun W H x y a b d G' Q gr r1 r2 e p => by
  obtain ⟨e, eg⟩ := pur_eq e
  obtain ⟨u, v, h1, h2, s1, s2, rfl⟩ := eqO_eq e
  exact ⟨u, v, r1.dp h1, r2.dp h2, s1, s2, p W _ H eg.symm Ext.refl gr (.bl _)⟩
theorem opd_ne : OpD K (rNeD K.K) (pur2 (eqO true)) := fun W H x y a b d G' Q gr r1 r2 e p => by
  obtain ⟨e, eg⟩ := pur_eq e
  obtain ⟨u, v, h1, h2, s1, s2, rfl⟩ := eqO_eq e
  exact ⟨u, v, r1.dp h1, r2.dp h2, s1, s2, p W _ H eg.symm Ext.refl gr (.bl _)⟩
end

/-! ### + -/
def addO : D → D → Option D
  | .int i, .int j => some (.int (i + j))
  | .str x, .str y => if x.length + y.length ≤ mx then some (.str (x ++ y)) else none
  | .tup x, .tup y => if x.length + y.length ≤ mx then some (.tup (x ++ y)) else none
  | .lst x, .lst y => if x.length + y.length ≤ mx then some (.lst (x ++ y)) else none
  | _, _ => none
abbrev rAddI : R2 := rI0 fun i j => .int (i + j)
abbrev rAddS : R2 := fun x y H Q => ∃ i j, x = .str i ∧ y = .str j ∧ i.length + j.length ≤ sizeLine ∧ Q (.str (i ++ j)) H
abbrev rAddA (K : PySem.W.Frag) : R2 := fun x y H Q => rAddI x y H Q ∨ (rAddS x y H Q ∨ (rCatA K x y H Q ∨ rCat x y H Q))
theorem op_addA {X : Cx} : OpR X (binaryOp .Add) (rAddA X.K) := op_add.or (op_add_str.or (op_catA.or op_cat))
theorem Drs.app {K : Pm} {L : Addr → Prop} {α : List Addr} {H : Hp} : ∀ {vs ws : List V} {ds es : List D}, Drs K L α H vs ds → Drs K L α H ws es → Drs K L α H (vs ++ ws) (ds ++ es)
  | _, _, _, _, .nil, s => s
  | _, _, _, _, .cons h r, s => .cons h (Drs.app r s)
theorem opd_add {K : Pm} : OpD K (rAddA K.K) (pur2 addO) := fun W H x y a b d G' Q gr r1 r2 e p => by
  obtain ⟨e, eg⟩ := pur_eq e
  unfold addO at e
  split at e
  · cases e; cases r1; cases r2
    exact .inl ⟨_, _, rfl, rfl, p W _ H eg.symm Ext.refl gr (.int _)⟩
  · split at e
    · rename_i z
      cases e; cases r1; cases r2
      exact .inr (.inl ⟨_, _, rfl, rfl, mx_line z, p W _ H eg.symm Ext.refl gr (.str _)⟩)
    · cases e
  · split at e
    · rename_i z
      cases e
      cases r1 with
      | tup h1 q1 =>
        cases r2 with
        | tup h2 q2 =>
          rename_i a1 v1 a2 v2
          refine .inr (.inr (.inl ⟨_, _, v1, v2, rfl, rfl, h1, h2, mx_line (by rw [q1.length, q2.length]; exact z), fun hn => ?_, fun _ hn => ?_, fun _ _ pa n => ?_⟩))
          · subst hn
            cases q1
            exact p W _ H eg.symm Ext.refl gr (.tup h2 q2)
          · subst hn
            cases q2
            rw [List.append_nil] at p
            exact p W _ H eg.symm Ext.refl gr (.tup h1 q1)
          · obtain ⟨g, xx, rv⟩ := tup_new gr (q1.app q2) n
            exact p W _ _ eg.symm xx g rv
    · cases e
  · split at e
    · rename_i z
      cases e
      cases r1 with
      | lst h1 n1 q1 =>
        cases r2 with
        | lst h2 n2 q2 =>
          rename_i a1 v1 a2 v2
          refine .inr (.inr (.inr ⟨_, _, v1, v2, rfl, rfl, h1, h2, mx_line (by rw [q1.length, q2.length]; exact z), fun pa n => ?_⟩))
          obtain ⟨g, xx, rv⟩ := lst_new gr (q1.app q2) n
          exact p W _ _ eg.symm xx g rv
    · cases e
  · cases e

/-! ### - * // % ** and order of ints, of texts -/
section
variable {K : Pm}
def subO := i2 fun i j => .int (i - j)
theorem opd_sub : OpD K (rI0 fun i j => .int (i - j)) (pur2 subO) := opd_i0 fun _ _ => pln_int _
/-- one factor below 2^64 -/
def mulC (i j : Int) : Bool := (decide (-(2 ^ 64) < i) && decide (i < 2 ^ 64)) || (decide (-(2 ^ 64) < j) && decide (j < 2 ^ 64))
def mulO := i2c mulC fun i j => .int (i * j)
theorem opd_mul : OpD K (rI CMul fun i j => .int (i * j)) (pur2 mulO) := opd_ic (fun i j h => by
  rcases Bool.or_eq_true_iff.mp h with h | h
  · obtain ⟨h1, h2⟩ := Bool.and_eq_true_iff.mp h
    exact .inl ⟨of_decide_eq_true h1, of_decide_eq_true h2⟩
  · obtain ⟨h1, h2⟩ := Bool.and_eq_true_iff.mp h
    exact .inr ⟨of_decide_eq_true h1, of_decide_eq_true h2⟩) fun _ _ => pln_int _
def divO := i2c (fun _ j => decide (0 < j) && decide (j < 1073741824)) fun i j => .int (i / j)
theorem opd_div : OpD K (rI CDiv fun i j => .int (i / j)) (pur2 divO) := opd_ic (fun i j h => by
  obtain ⟨h1, h2⟩ := Bool.and_eq_true_iff.mp h
  exact ⟨of_decide_eq_true h1, of_decide_eq_true h2⟩) fun _ _ => pln_int _
def modO := i2c (fun _ j => decide (0 < j)) fun i j => .int (i % j)
theorem opd_mod : OpD K (rI (fun _ j => 0 < j) fun i j => .int (i % j)) (pur2 modO) := opd_ic (fun i j h => of_decide_eq_true h) fun _ _ => pln_int _
def powO := i2c (fun i j => decide (0 ≤ j) && decide (j ≤ 1000) && decide (i.natAbs < 2 ^ 64)) fun i j => .int (i ^ j.toNat)
theorem opd_pow : OpD K (rI CPow fun i j => .int (i ^ j.toNat)) (pur2 powO) := opd_ic (fun i j h => by
  obtain ⟨h, h3⟩ := Bool.and_eq_true_iff.mp h
  obtain ⟨h1, h2⟩ := Bool.and_eq_true_iff.mp h
  have h2 := of_decide_eq_true h2
  exact ⟨of_decide_eq_true h1, by omega, of_decide_eq_true h3⟩) fun _ _ => pln_int _
/-- order: of ints, of texts -/
def ordO (pi : Int → Int → Bool) (ps : List Nat → List Nat → Bool) : D → D → Option D
  | .int i, .int j => some (.bl (pi i j))
  | .str x, .str y => some (.bl (ps x.cps.toList y.cps.toList))
  | _, _ => none
abbrev rOrd (pi : Int → Int → Bool) (ps : List Nat → List Nat → Bool) : R2 := fun x y H Q => (rI0 fun i j => .bl (pi i j)) x y H Q ∨ ∃ i j, x = .str i ∧ y = .str j ∧ Q (.bl (ps i.cps.toList j.cps.toList)) H
theorem opd_ord {pi : Int → Int → Bool} {ps : List Nat → List Nat → Bool} : OpD K (rOrd pi ps) (pur2 (ordO pi ps)) := fun W H x y a b d G' Q gr r1 r2 e p => by
  obtain ⟨e, eg⟩ := pur_eq e
  unfold ordO at e
  split at e
  · cases e; cases r1; cases r2
    exact .inl ⟨_, _, rfl, rfl, p W _ H eg.symm Ext.refl gr (.bl _)⟩
  · cases e; cases r1; cases r2
    exact .inr ⟨_, _, rfl, rfl, p W _ H eg.symm Ext.refl gr (.bl _)⟩
  · cases e
abbrev ltI : Int → Int → Bool := fun i j => decide (i < j)
abbrev ltS : List Nat → List Nat → Bool := fun x y => decide (x < y)
abbrev leI : Int → Int → Bool := fun i j => decide (i ≤ j)
abbrev leS : List Nat → List Nat → Bool := fun x y => !decide (y < x)
abbrev gtI : Int → Int → Bool := fun i j => decide (j < i)
abbrev gtS : List Nat → List Nat → Bool := fun x y => decide (y < x)
abbrev geI : Int → Int → Bool := fun i j => decide (j ≤ i)
abbrev geS : List Nat → List Nat → Bool := fun x y => !decide (x < y)
variable {X : Cx}
theorem op_ltA : OpR X (compareOp .Lt) (rOrd ltI ltS) := op_lt.or op_lt_str
theorem op_leA : OpR X (compareOp .LtE) (rOrd leI leS) := op_le.or op_le_str
theorem op_gtA : OpR X (compareOp .Gt) (rOrd gtI gtS) := op_gt.or op_gt_str
theorem op_geA : OpR X (compareOp .GtE) (rOrd geI geS) := op_ge.or op_ge_str
end
/-! ### in, not in: flat items of a list, a tuple; keys of a dict, of a set -/
def flatD : D → Bool
  | .non => true
  | .bl _ => true
  | .int _ => true
  | .str _ => true
  | _ => false
def eqFl : D → D → Bool
  | .non, .non => true
  | .bl a, .bl b => a == b
  | .bl a, .int b => (if a then 1 else 0) == b
  | .int a, .bl b => a == (if b then 1 else 0)
  | .int a, .int b => a == b
  | .str a, .str b => a == b
  | _, _ => false
def inO (neg : Bool) : D → D → Option D := fun x y => match y with
  | .lst xs => if flatD x && xs.all flatD then some (.bl (if neg then !(xs.any fun z => eqFl z x) else xs.any fun z => eqFl z x)) else none
  | .tup xs => if flatD x && xs.all flatD then some (.bl (if neg then !(xs.any fun z => eqFl z x) else xs.any fun z => eqFl z x)) else none
  | _ => none
section
variable {K : Pm} {L : Addr → Prop} {α : List Addr} {H : Hp}
theorem flat_v {v : V} {d : D} (r : Dr K L α H v d) (f : flatD d = true) : flatV v = true ∧ ∀ {u : V} {e : D}, Dr K L α H u e → flatD e = true → eqV u v = eqFl e d := by
  cases r <;> first
    | (refine ⟨rfl, fun {u e} q g => ?_⟩
       cases q <;> first | rfl | (exfalso; revert g; simp [flatD]))
    | (exfalso; revert f; simp [flatD])
theorem flat_all : ∀ {vs : List V} {ds : List D}, Drs K L α H vs ds → ds.all flatD = true → vs.all flatV = true
  | _, _, .nil, _ => rfl
  | _, _, .cons h r, f => by
    obtain ⟨f1, f2⟩ := Bool.and_eq_true_iff.mp (by rw [List.all_cons] at f; exact f)
    rw [List.all_cons, (flat_v h f1).1, flat_all r f2]; rfl
theorem in_any {v : V} {d : D} (q : Dr K L α H v d) (f : flatD d = true) : ∀ {vs : List V} {ds : List D}, Drs K L α H vs ds → ds.all flatD = true → inV v vs = ds.any fun z => eqFl z d
  | _, _, .nil, _ => rfl
  | _, _, .cons (v := u) (vs := us) h r, g => by
    obtain ⟨g1, g2⟩ := Bool.and_eq_true_iff.mp (by rw [List.all_cons] at g; exact g)
    have ih := in_any q f r g2
    unfold inV at ih ⊢
    rw [List.any_cons, List.any_cons, (flat_v q f).2 h g1, ih]
end
theorem opd_in {K : Pm} {neg : Bool} : OpD K (rIn K.K neg) (pur2 (inO neg)) := fun W H x y a b d G' Q gr r1 r2 e p => by
  obtain ⟨e, eg⟩ := pur_eq e
  unfold inO at e
  split at e
  · split at e
    · rename_i z
      obtain ⟨f1, f2⟩ := Bool.and_eq_true_iff.mp z
      cases e
      cases r2 with
      | lst h n r =>
        refine ⟨_, _, rfl, .inl (SqL.of h), (flat_v r1 f1).1, flat_all r f2, ?_⟩
        rw [in_any r1 f1 r f2]
        exact p W _ H eg.symm Ext.refl gr (.bl _)
    · cases e
  · split at e
    · rename_i z
      obtain ⟨f1, f2⟩ := Bool.and_eq_true_iff.mp z
      cases e
      cases r2 with
      | tup h r =>
        refine ⟨_, _, rfl, .inr h, (flat_v r1 f1).1, flat_all r f2, ?_⟩
        rw [in_any r1 f1 r f2]
        exact p W _ H eg.symm Ext.refl gr (.bl _)
    · cases e
  · cases e

/-! ### items -/
def ixO : D → D → P1 D := fun x y G => match x, y with
  | .lst xs, .int i => pur (atI xs i) G
  | .scr xs, .int i => pur (atI xs i) G
  | .tup xs, .int i => pur (atI xs i) G
  | .str z, .int i => pur (if z.length ≤ mx then (atI z.cps.toList i).map fun c => .str ⟨#[c]⟩ else none) G
  | .ref n, .int i => pur (match G[n]? with | some (.lst xs) => atI xs i | _ => none) G
  | _, _ => none
theorem Drs.at {K : Pm} {L : Addr → Prop} {α : List Addr} {H : Hp} : ∀ {vs : List V} {ds : List D} {j : Nat} {d : D}, Drs K L α H vs ds → ds[j]? = some d → ∃ v, vs[j]? = some v ∧ Dr K L α H v d
  | _, _, _, _, .nil, e => by simp at e
  | _, _, 0, _, .cons h r, e => by simp at e; subst e; exact ⟨_, rfl, h⟩
  | _, _, j + 1, d, .cons h r, e => by
    obtain ⟨v, h1, h2⟩ := Drs.at (j := j) r (by simpa using e)
    exact ⟨v, by simpa using h1, h2⟩
theorem Drs.atI {K : Pm} {L : Addr → Prop} {α : List Addr} {H : Hp} {vs : List V} {ds : List D} {i : Int} {d : D} (r : Drs K L α H vs ds) (e : L2.atI ds i = some d) : ∃ v, L2.atI vs i = some v ∧ Dr K L α H v d := by
  unfold L2.atI at e ⊢
  rw [r.length]
  cases q : ixN ds.length i with
  | none => rw [q] at e; cases e
  | some j => rw [q] at e; exact r.at e
theorem opd_ix {K : Pm} : OpD K (rIx K.K) ixO := fun W H x y a b d G' Q gr r1 r2 e p => by
  unfold ixO at e
  split at e
  · obtain ⟨e, eg⟩ := pur_eq e
    cases r2
    cases r1 with
    | lst h n r =>
      obtain ⟨v, h1, h2⟩ := r.atI e
      exact .inl ⟨_, _, _, _, rfl, rfl, SqL.of h, h1, p W _ H eg.symm Ext.refl gr h2⟩
  · obtain ⟨e, eg⟩ := pur_eq e
    cases r2
    cases r1 with
    | scr h r =>
      obtain ⟨v, h1, h2⟩ := r.atI e
      exact .inl ⟨_, _, _, _, rfl, rfl, h.sq, h1, p W _ H eg.symm Ext.refl gr h2⟩
  · obtain ⟨e, eg⟩ := pur_eq e
    cases r2
    cases r1 with
    | tup h r =>
      obtain ⟨v, h1, h2⟩ := r.atI e
      exact .inr (.inl ⟨_, _, _, _, rfl, rfl, h, h1, p W _ H eg.symm Ext.refl gr h2⟩)
  · obtain ⟨e, eg⟩ := pur_eq e
    cases r2
    cases r1
    split at e
    · rename_i hz
      obtain ⟨c, q, rfl⟩ := Option.map_eq_some_iff.mp e
      exact .inr (.inr ⟨_, _, _, rfl, rfl, mx_line hz, q, p W _ H eg.symm Ext.refl gr (.str _)⟩)
    · cases e
  · obtain ⟨e, eg⟩ := pur_eq e
    split at e
    · rename_i xs hn
      cases r2
      cases r1 with
      | ref ha =>
        obtain ⟨vs, hh, r⟩ := gr.obj _ _ _ ha hn
        obtain ⟨v, h1, h2⟩ := r.atI e
        exact .inl ⟨_, _, _, _, rfl, rfl, SqL.of hh, h1, p W _ H eg.symm Ext.refl gr h2⟩
    · cases e
  · cases e
end Tw

namespace Tw
open PySem PySem.Spec PyProof.Rows L2

/-! ### truth -/
def truD (d : D) (G : List O) : Option Bool := match d with
  | .non => some false
  | .bl b => some b
  | .int i => some (i != 0)
  | .str x => if x.length ≤ mx then some ((x.length : Int) != 0) else none
  | .tup xs => some (!xs.isEmpty)
  | .lst xs => some (!xs.isEmpty)
  | .scr xs => some (!xs.isEmpty)
  | .ref n => match G[n]? with
    | some (.lst xs) => some (!xs.isEmpty)
    | some (.dct kvs) => some (!kvs.isEmpty)
    | _ => none
  | _ => none
def truP (d : D) : P1 Bool := fun G => match truD d G with
  | some b => some (b, G)
  | none => none
theorem truP_eq {d : D} {G G1 : List O} {b : Bool} (h : truP d G = some (b, G1)) : truD d G = some b ∧ G1 = G := by
  unfold truP at h
  split at h
  · cases h; rename_i z; exact ⟨z, rfl⟩
  · cases h
theorem Drs.emp {K : Pm} {L : Addr → Prop} {α : List Addr} {H : Hp} {vs : List V} {ds : List D} (r : Drs K L α H vs ds) : vs.isEmpty = ds.isEmpty := by cases r <;> rfl
theorem Drk.emp {K : Pm} {L : Addr → Prop} {α : List Addr} {H : Hp} {vs : List (Key × V)} {ds : List (Key × D)} (r : Drk K L α H vs ds) : vs.isEmpty = ds.isEmpty := by cases r <;> rfl
theorem truV_of {K : Pm} {W : Wd} {H : Hp} {v : V} {d : D} {b : Bool} (g : Gr K W H) (r : Rv K W H v d) (h : truD d W.G = some b) : TruV K.K v H b := by
  unfold truD at h
  split at h
  · cases h; cases r; rfl
  · cases h; cases r; rfl
  · cases h; cases r; rfl
  · split at h
    · rename_i z; cases h; cases r; exact ⟨mx_line z, rfl⟩
    · cases h
  · cases h; cases r with
    | tup h q => exact .inr (.inl ⟨_, h, by rw [q.emp]⟩)
  · cases h; cases r with
    | lst h n q => exact .inl ⟨_, SqL.of h, by rw [q.emp]⟩
  · cases h; cases r with
    | scr h q => exact .inl ⟨_, h.sq, by rw [q.emp]⟩
  · split at h
    · rename_i hn
      cases h
      cases r with
      | ref ha =>
        obtain ⟨vs, hh, q⟩ := g.obj _ _ _ ha hn
        exact .inl ⟨vs, SqL.of hh, by rw [q.emp]⟩
    · rename_i hn
      cases h
      cases r with
      | ref ha =>
        obtain ⟨vs, hh, q⟩ := g.obj _ _ _ ha hn
        exact .inr (.inr ⟨vs, hh, by rw [q.emp]⟩)
    · cases h
  · cases h

/-! ### tests -/
def blO : D → Option Bool
  | .bl c => some c
  | _ => none
def dTest (a : En → M D) : En → M Bool := fun ρ => bnd (a ρ) fun d => lft (pur (blO d))
def dTru (a : En → M D) : En → M Bool := fun ρ => bnd (a ρ) fun d => lft (truP d)
def dNotT (a : En → M Bool) : En → M Bool := fun ρ => bnd (a ρ) fun c => ret (!c)
def dAndT (a b : En → M Bool) : En → M Bool := fun ρ => bnd (a ρ) fun c => if c = true then b ρ else ret false
def dOrT (a b : En → M Bool) : En → M Bool := fun ρ => bnd (a ρ) fun c => if c = true then ret true else b ρ
theorem blO_eq {d : D} {c : Bool} (h : blO d = some c) : d = .bl c := by
  unfold blO at h
  split at h
  · cases h; rfl
  · cases h
section
variable {X : Cx} {We : WE'} {a b c : Expr} {da db dc : En → M D} {ta tb : En → M Bool} {pos : Pos} {rest : List Expr}
theorem up_test {σ : L2.St} {H : Hp} {Q : Bool → Hp → Prop} (h : upT (Cxp X) We (dTest da) σ H Q) : upE (Cxp X) We da σ H (fun x H1 => ∃ k, x = .bl k ∧ Q k H1) := by
  obtain ⟨W, ρ, r, G', hR, e, p⟩ := h
  refine up_bnd hR e p fun d W1 v H1 x1 R1 r1 e1 p1 => ?_
  obtain ⟨c, e2, p2⟩ := up_lft e1 p1
  obtain ⟨e2, eg⟩ := pur_eq e2
  cases blO_eq e2
  cases r1
  exact ⟨c, rfl, p2 W1 c H1 eg.symm Ext.refl R1.gr rfl⟩
/-- an expression whose value is a bool, as a test -/
theorem tt_val (ha : PE X a (upE (Cxp X) We da)) (he : ∀ whole, isTrue a X.env whole = (do let v ← whole; standAt a.pos; holding [v] (truthy v)) := by intro _; rfl) : PT X a (upT (Cxp X) We (dTest da)) :=
  PT.imp (pt_val ha he) fun σ H Q h => up_test h
theorem tt_cmp {op : CmpOp} {r : R2} {f : D → D → P1 D} (ho : OpR X (compareOp op) r) (hd : OpD (Cxp X) r f) (ha : PE X a (upE (Cxp X) We da)) (hb : PE X b (upE (Cxp X) We db)) (hm : behindInMarks op b = false) :
    PT X (.Compare a [op] [b] pos) (upT (Cxp X) We (dTest (d2 f da db))) := PT.imp (pt_cmpR ho ha hb hm) fun σ H Q h => op_up hd (up_test h)
theorem tt_tru (ha : PE X a (upE (Cxp X) We da)) (he : ∀ whole, isTrue a X.env whole = (do let v ← whole; standAt a.pos; holding [v] (truthy v)) := by intro _; rfl) : PT X a (upT (Cxp X) We (dTru da)) :=
  PT.imp (pt_truth ha he) fun σ H Q h => by
    obtain ⟨W, ρ, r, G', hR, e, p⟩ := h
    refine up_bnd hR e p fun d W1 v H1 x1 R1 r1 e1 p1 => ?_
    obtain ⟨c, e2, p2⟩ := up_lft e1 p1
    obtain ⟨e2, eg⟩ := truP_eq e2
    exact ⟨c, truV_of R1.gr r1 e2, p2 W1 c H1 eg.symm Ext.refl R1.gr rfl⟩
theorem tt_not (ha : PT X a (upT (Cxp X) We ta)) : PT X (.UnaryOp .Not a pos) (upT (Cxp X) We (dNotT ta)) := PT.imp (pt_not ha) fun σ H Q h => by
  obtain ⟨W, ρ, r, G', hR, e, p⟩ := h
  refine up_bnd hR e p fun d W1 v H1 x1 R1 r1 e1 p1 => ?_
  cases r1
  exact up_ret e1 p1 W1 _ H1 rfl Ext.refl R1.gr rfl
theorem tw_and1 (ha : PT X a (upT (Cxp X) We ta)) : PW X (.BoolOp .And [a] pos) (upT (Cxp X) We ta) := pw_and1 ha
theorem tw_or1 (ha : PT X a (upT (Cxp X) We ta)) : PW X (.BoolOp .Or [a] pos) (upT (Cxp X) We ta) := pw_or1 ha
theorem tw_and (ha : PT X a (upT (Cxp X) We ta)) (hb : PW X (.BoolOp .And (b :: rest) pos) (upT (Cxp X) We tb)) : PW X (.BoolOp .And (a :: b :: rest) pos) (upT (Cxp X) We (dAndT ta tb)) := PW.imp (pw_and ha hb) fun σ H Q h => by
  obtain ⟨W, ρ, r, G', hR, e, p⟩ := h
  refine up_bnd hR e p fun d W1 v H1 x1 R1 r1 e1 p1 => ?_
  cases r1
  cases d with
  | true => exact ⟨W1, ρ, r, G', R1, e1, p1⟩
  | false => exact up_ret e1 p1 W1 _ H1 rfl Ext.refl R1.gr rfl
theorem tw_or (ha : PT X a (upT (Cxp X) We ta)) (hb : PW X (.BoolOp .Or (b :: rest) pos) (upT (Cxp X) We tb)) : PW X (.BoolOp .Or (a :: b :: rest) pos) (upT (Cxp X) We (dOrT ta tb)) := PW.imp (pw_or ha hb) fun σ H Q h => by
  obtain ⟨W, ρ, r, G', hR, e, p⟩ := h
  refine up_bnd hR e p fun d W1 v H1 x1 R1 r1 e1 p1 => ?_
  cases r1
  cases d with
  | false => exact ⟨W1, ρ, r, G', R1, e1, p1⟩
  | true => exact up_ret e1 p1 W1 _ H1 rfl Ext.refl R1.gr rfl
/-! as values -/
def dAnd (a b : En → M D) : En → M D := fun ρ => bnd (a ρ) fun d => bnd (lft (truP d)) fun c => if c = true then b ρ else ret d
def dOr (a b : En → M D) : En → M D := fun ρ => bnd (a ρ) fun d => bnd (lft (truP d)) fun c => if c = true then ret d else b ρ
theorem bnd_tru {A B : Type} {R : Wd → Hp → B → A → Prop} {K : Pm} {W : Wd} {H : Hp} {σ : L2.St} {d : D} {k : Bool → M A} {r : Sum Er A} {G' : List O} {Q : B → Hp → Prop} (e : bnd (lft (truP d)) k W.G = some (r, G')) : ∃ c, truD d W.G = some c ∧ k c W.G = some (r, G') := by
  unfold bnd lft truP at e
  cases q : truD d W.G with
  | none => rw [q] at e; cases e
  | some c => rw [q] at e; exact ⟨c, rfl, e⟩
theorem te_one {op} (h : PE X a (upE (Cxp X) We da)) : PE X (.BoolOp op [a] pos) (upE (Cxp X) We da) := pe_one h
theorem te_and (ha : PE X a (upE (Cxp X) We da)) (hb : PE X (.BoolOp .And (b :: rest) pos) (upE (Cxp X) We db)) : PE X (.BoolOp .And (a :: b :: rest) pos) (upE (Cxp X) We (dAnd da db)) := PE.imp (pe_andT ha hb) fun σ H Q h => by
  obtain ⟨W, ρ, r, G', hR, e, p⟩ := h
  refine up_bnd hR e p fun d W1 v H1 x1 R1 r1 e1 p1 => ?_
  obtain ⟨c, ec, e2⟩ := bnd_tru (A := D) (B := V) (R := Rv (Cxp X)) (K := Cxp X) (H := H1) (σ := σ) (Q := Q) e1
  refine ⟨c, truV_of R1.gr r1 ec, ?_⟩
  cases c with
  | true => exact iteT ⟨W1, ρ, r, G', R1, e2, p1⟩
  | false => exact iteF (up_ret e2 p1 W1 _ H1 rfl Ext.refl R1.gr r1)
theorem te_or (ha : PE X a (upE (Cxp X) We da)) (hb : PE X (.BoolOp .Or (b :: rest) pos) (upE (Cxp X) We db)) : PE X (.BoolOp .Or (a :: b :: rest) pos) (upE (Cxp X) We (dOr da db)) := PE.imp (pe_orT ha hb) fun σ H Q h => by
  obtain ⟨W, ρ, r, G', hR, e, p⟩ := h
  refine up_bnd hR e p fun d W1 v H1 x1 R1 r1 e1 p1 => ?_
  obtain ⟨c, ec, e2⟩ := bnd_tru (A := D) (B := V) (R := Rv (Cxp X)) (K := Cxp X) (H := H1) (σ := σ) (Q := Q) e1
  refine ⟨c, truV_of R1.gr r1 ec, ?_⟩
  cases c with
  | false => exact iteF ⟨W1, ρ, r, G', R1, e2, p1⟩
  | true => exact iteT (up_ret e2 p1 W1 _ H1 rfl Ext.refl R1.gr r1)
def dNot (a : En → M D) : En → M D := fun ρ => bnd (a ρ) fun d => bnd (lft (truP d)) fun c => ret (.bl (!c))
theorem te_not (ha : PE X a (upE (Cxp X) We da)) : PE X (.UnaryOp .Not a pos) (upE (Cxp X) We (dNot da)) := PE.imp (pe_notT ha) fun σ H Q h => by
  obtain ⟨W, ρ, r, G', hR, e, p⟩ := h
  refine up_bnd hR e p fun d W1 v H1 x1 R1 r1 e1 p1 => ?_
  obtain ⟨c, ec, e2⟩ := bnd_tru (A := D) (B := V) (R := Rv (Cxp X)) (K := Cxp X) (H := H1) (σ := σ) (Q := Q) e1
  exact ⟨c, truV_of R1.gr r1 ec, up_ret e2 p1 W1 _ H1 rfl Ext.refl R1.gr (.bl _)⟩
def dIf (t : En → M Bool) (a b : En → M D) : En → M D := fun ρ => bnd (t ρ) fun c => if c = true then a ρ else b ρ
theorem te_if (hc : PT X c (upT (Cxp X) We ta)) (ha : PE X a (upE (Cxp X) We da)) (hb : PE X b (upE (Cxp X) We db)) : PE X (.IfExp c a b pos) (upE (Cxp X) We (dIf ta da db)) := PE.imp (pe_ifExp hc ha hb) fun σ H Q h => by
  obtain ⟨W, ρ, r, G', hR, e, p⟩ := h
  refine up_bnd hR e p fun d W1 v H1 x1 R1 r1 e1 p1 => ?_
  cases r1
  cases d with
  | true => exact iteT ⟨W1, ρ, r, G', R1, e1, p1⟩
  | false => exact iteF ⟨W1, ρ, r, G', R1, e1, p1⟩
/-! is None -/
def isNO (neg : Bool) : D → D → Option D := fun x y => match y with
  | .non => some (.bl (match x with | .non => !neg | _ => neg))
  | _ => none
theorem opd_isN {K : Pm} : OpD K (fun x y H Q => y = .non ∧ Q (.bl (decide (x = .non))) H) (pur2 (isNO false)) := fun W H x y a b d G' Q gr r1 r2 e p => by
  obtain ⟨e, eg⟩ := pur_eq e
  unfold isNO at e
  split at e
  · cases e
    cases r2
    refine ⟨rfl, p W _ H eg.symm Ext.refl gr ?_⟩
    cases r1 <;> exact .bl _
  · cases e
theorem opd_notN {K : Pm} : OpD K (fun x y H Q => y = .non ∧ Q (.bl (!decide (x = .non))) H) (pur2 (isNO true)) := fun W H x y a b d G' Q gr r1 r2 e p => by
  obtain ⟨e, eg⟩ := pur_eq e
  unfold isNO at e
  split at e
  · cases e
    cases r2
    refine ⟨rfl, p W _ H eg.symm Ext.refl gr ?_⟩
    cases r1 <;> exact .bl _
  · cases e
/-! a op1 b op2 c -/
def dChain (f f' : D → D → P1 D) (a b c : En → M D) : En → M D := fun ρ => bnd (a ρ) fun x => bnd (b ρ) fun y => bnd (lft (f x y)) fun z => bnd (lft (pur (blO z))) fun k => if k = true then bnd (c ρ) fun w => lft (f' y w) else ret (.bl false)
theorem bnd_lft {A B : Type} {f : P1 A} {k : A → M B} {G G' : List O} {r : Sum Er B} (e : bnd (lft f) k G = some (r, G')) : ∃ a G1, f G = some (a, G1) ∧ k a G1 = some (r, G') := by
  unfold bnd lft at e
  cases q : f G with
  | none => rw [q] at e; cases e
  | some p => obtain ⟨a, G1⟩ := p; rw [q] at e; exact ⟨a, G1, rfl, e⟩
theorem chain_up {r1 r2 : R2} {f f' : D → D → P1 D} (h1 : OpD (Cxp X) r1 f) (h2 : OpD (Cxp X) r2 f') {σ : L2.St} {H : Hp} {Q : VK} (h : upE (Cxp X) We (dChain f f' da db dc) σ H Q) : tChain r1 r2 (upE (Cxp X) We da) (upE (Cxp X) We db) (upE (Cxp X) We dc) σ H Q := by
  obtain ⟨W, ρ, r, G', hR, e, p⟩ := h
  refine up_bnd hR e p fun d W1 v H1 x1 R1 q1 e1 p1 => ?_
  refine up_bnd R1 e1 p1 fun d' W2 v' H2 x2 R2 q2 e2 p2 => ?_
  obtain ⟨z, G3, ez, e3⟩ := bnd_lft e2
  obtain ⟨k, G4, ek, e4⟩ := bnd_lft e3
  obtain ⟨ek, eg⟩ := pur_eq ek
  cases blO_eq ek
  subst eg
  refine h1 W2 H2 v v' d d' (.bl k) _ _ R2.gr (q1.keep R1.gr x2) q2 ez fun W5 v5 H5 eg5 x5 g5 r5 => ?_
  cases r5
  have R5 := R2.keep g5 x5
  refine ⟨k, rfl, ?_⟩
  rw [← eg5] at e4
  cases k with
  | true =>
    refine iteT (up_bnd R5 e4 (p2.mono x5) fun d6 W6 v6 H6 x6 R6 q6 e6 p6 => ?_)
    obtain ⟨d7, e7, p7⟩ := up_lft e6 p6
    exact h2 W6 H6 v' v6 d' d6 d7 G' Q R6.gr ((q2.keep R2.gr x5).keep R5.gr x6) q6 e7 p7
  | false => exact iteF (up_ret e4 (p2.mono x5) W5 _ H5 rfl Ext.refl g5 (.bl _))
theorem te_chain {op op' : CmpOp} {r1 r2 : R2} {f f' : D → D → P1 D} (ho : OpR X (compareOp op) r1) (ho' : OpR X (compareOp op') r2) (h1 : OpD (Cxp X) r1 f) (h2 : OpD (Cxp X) r2 f') (ha : PE X a (upE (Cxp X) We da)) (hb : PE X b (upE (Cxp X) We db)) (hc : PE X c (upE (Cxp X) We dc))
    (hm : lastMarks [op, op'] [b, c] = false := by with_unfolding_all rfl) : PE X (.Compare a [op, op'] [b, c] pos) (upE (Cxp X) We (dChain f f' da db dc)) := PE.imp (pe_chain ho ho' ha hb hc hm) fun σ H Q h => chain_up h1 h2 h
theorem tt_chain {op op' : CmpOp} {r1 r2 : R2} {f f' : D → D → P1 D} (ho : OpR X (compareOp op) r1) (ho' : OpR X (compareOp op') r2) (h1 : OpD (Cxp X) r1 f) (h2 : OpD (Cxp X) r2 f') (ha : PE X a (upE (Cxp X) We da)) (hb : PE X b (upE (Cxp X) We db)) (hc : PE X c (upE (Cxp X) We dc))
    (hm : lastMarks [op, op'] [b, c] = false := by with_unfolding_all rfl) : PT X (.Compare a [op, op'] [b, c] pos) (upT (Cxp X) We (dTest (dChain f f' da db dc))) := PT.imp (pt_chain ho ho' ha hb hc hm) fun σ H Q h => chain_up h1 h2 (up_test h)
end

/-! ### slices -/
def cutD (xs : List D) (lo hi : Option Int) : List D := (xs.drop (HT.sIx xs.length 0 lo)).take (HT.sIx xs.length xs.length hi - HT.sIx xs.length 0 lo)
def intO : D → Option Int
  | .int i => some i
  | _ => none
def dNoP : En → M (Option Int) := fun _ => ret none
def dP (a : En → M D) : En → M (Option Int) := fun ρ => bnd (a ρ) fun d => bnd (lft (pur (intO d))) fun i => ret (some i)
def slO (d : D) (lo hi : Option Int) (G : List O) : Option D := match d with
  | .tup xs => some (.tup (cutD xs lo hi))
  | .lst xs => some (.lst (cutD xs lo hi))
  | .scr xs => some (.lst (cutD xs lo hi))
  | .ref n => match G[n]? with
    | some (.lst xs) => some (.lst (cutD xs lo hi))
    | _ => none
  | _ => none
def slP (d : D) (lo hi : Option Int) : P1 D := fun G => match slO d lo hi G with
  | some a => some (a, G)
  | none => none
def dSl (a : En → M D) (lo hi : En → M (Option Int)) : En → M D := fun ρ => bnd (a ρ) fun d => bnd (lo ρ) fun l => bnd (hi ρ) fun h => lft (slP d l h)
abbrev Ro (W : Wd) (H : Hp) (a b : Option Int) : Prop := a = b
abbrev upO (K : Pm) (We : WE') (de : En → M (Option Int)) : TO := up K We Ro de
theorem Drs.drop {K : Pm} {L : Addr → Prop} {α : List Addr} {H : Hp} : ∀ {vs : List V} {ds : List D} (n : Nat), Drs K L α H vs ds → Drs K L α H (vs.drop n) (ds.drop n)
  | _, _, 0, r => r
  | _, _, _ + 1, .nil => .nil
  | _, _, n + 1, .cons _ t => Drs.drop n t
theorem Drs.take {K : Pm} {L : Addr → Prop} {α : List Addr} {H : Hp} : ∀ {vs : List V} {ds : List D} (n : Nat), Drs K L α H vs ds → Drs K L α H (vs.take n) (ds.take n)
  | _, _, 0, _ => .nil
  | _, _, _ + 1, .nil => .nil
  | _, _, n + 1, .cons r t => .cons r (Drs.take n t)
theorem Drs.cut {K : Pm} {L : Addr → Prop} {α : List Addr} {H : Hp} {vs : List V} {ds : List D} (r : Drs K L α H vs ds) (lo hi : Option Int) : Drs K L α H (cutV vs lo hi) (cutD ds lo hi) := by
  unfold cutV cutD
  rw [r.length]
  exact (r.drop _).take _
theorem cut_whole {xs : List D} {lo hi : Option Int} (h : HT.sIx xs.length 0 lo = 0 ∧ HT.sIx xs.length xs.length hi = xs.length) : cutD xs lo hi = xs := by
  unfold cutD
  rw [h.1, h.2]
  simp
section
variable {X : Cx} {We : WE'} {a : Expr} {lo hi : Option Expr} {da : En → M D} {dl dh : En → M (Option Int)} {pos p2 : Pos}
theorem to_none : PO X none (upO (Cxp X) We dNoP) := ⟨fun pins s σ H Q I h => po_none.run pins s σ H Q I (by
  obtain ⟨W, ρ, r, G', hR, e, p⟩ := h
  exact up_ret e p W none H rfl Ext.refl hR.gr rfl)⟩
theorem to_some (ha : PE X a (upE (Cxp X) We da)) : PO X (some a) (upO (Cxp X) We (dP da)) := ⟨fun pins s σ H Q I h => (po_some ha).run pins s σ H Q I (by
  obtain ⟨W, ρ, r, G', hR, e, p⟩ := h
  refine up_bnd hR e p fun d W1 v H1 x1 R1 r1 e1 p1 => ?_
  obtain ⟨i, G3, ei, e3⟩ := bnd_lft e1
  obtain ⟨ei, eg⟩ := pur_eq ei
  subst eg
  unfold intO at ei
  split at ei
  · cases ei
    cases r1
    exact ⟨_, rfl, up_ret e3 p1 W1 _ H1 rfl Ext.refl R1.gr rfl⟩
  · cases ei)⟩
abbrev rSl (K : PySem.W.Frag) : V → Option Int → Option Int → Hp → VK → Prop := fun x lo hi H Q => rSlA K x lo hi H Q ∨ rSlL K x lo hi H Q
theorem sl_A : SlR X (rSl X.K) := sl_tupA.or sl_list
theorem te_sl (ha : PE X a (upE (Cxp X) We da)) (hl : PO X lo (upO (Cxp X) We dl)) (hh : PO X hi (upO (Cxp X) We dh)) : PE X (.Subscript a (.Slice lo hi none p2) pos) (upE (Cxp X) We (dSl da dl dh)) := PE.imp (pe_slice sl_A ha hl hh) fun σ H Q h => by
  obtain ⟨W, ρ, r, G', hR, e, p⟩ := h
  refine up_bnd hR e p fun d W1 v H1 x1 R1 r1 e1 p1 => ?_
  refine up_bnd R1 e1 p1 fun l W2 l' H2 x2 R2 r2 e2 p2 => ?_
  cases r2
  refine up_bnd R2 e2 p2 fun u W3 u' H3 x3 R3 r3 e3 p3 => ?_
  cases r3
  obtain ⟨c, e4, p4⟩ := up_lft e3 p3
  have rv := (r1.keep R1.gr x2).keep R2.gr x3
  unfold slP at e4
  split at e4
  · rename_i c' hc
    cases e4
    unfold slO at hc
    split at hc
    · cases hc
      cases rv with
      | tup h q =>
        rename_i vs
        refine .inl ⟨_, vs, rfl, h, fun hw => ?_, fun hw pa n => ?_⟩
        · refine p4 W3 _ H3 rfl Ext.refl R3.gr ?_
          rw [q.length] at hw
          rw [cut_whole hw]
          exact .tup h q
        · obtain ⟨g, xx, rr⟩ := tup_new R3.gr (q.cut l u) n
          exact p4 W3 _ _ rfl xx g rr
    · cases hc
      cases rv with
      | lst h nl q =>
        refine .inr ⟨_, _, rfl, SqL.of h, fun pa n => ?_⟩
        obtain ⟨g, xx, rr⟩ := lst_new R3.gr (q.cut l u) n
        exact p4 W3 _ _ rfl xx g rr
    · cases hc
      cases rv with
      | scr h q =>
        refine .inr ⟨_, _, rfl, h.sq, fun pa n => ?_⟩
        obtain ⟨g, xx, rr⟩ := lst_new R3.gr (q.cut l u) n
        exact p4 W3 _ _ rfl xx g rr
    · split at hc
      · rename_i hn
        cases hc
        cases rv with
        | ref hα =>
          obtain ⟨vs, hh, q⟩ := R3.gr.obj _ _ _ hα hn
          refine .inr ⟨_, vs, rfl, SqL.of hh, fun pa n => ?_⟩
          obtain ⟨g, xx, rr⟩ := lst_new R3.gr (q.cut l u) n
          exact p4 W3 _ _ rfl xx g rr
      · cases hc
    · cases hc
  · cases e4
end
end Tw

namespace Tw
open PySem PySem.Spec PyProof.Rows L2

/-! ### statements -/
inductive Out where
  | nx (ρ : En) | rt (d : D) | bk (ρ : En) | ct (ρ : En)
def PostS (K : Pm) (We : WE') (W : Wd) (H : Hp) (r : Sum Er Out) (G' : List O) (D0 : Ends) : Prop := match r with
  | .inr (.nx ρ) => ∀ (W' : Wd) (σ' : L2.St) (H' : Hp), W'.G = G' → Ext W H W' H' → Rs K W' ρ σ' H' → D0.nx σ' H'
  | .inr (.rt d) => ∀ (W' : Wd) (v : V) (H' : Hp), W'.G = G' → Ext W H W' H' → Gr K W' H' → Rv K W' H' v d → D0.rt v H'
  | .inr (.bk ρ) => ∀ (W' : Wd) (σ' : L2.St) (H' : Hp), W'.G = G' → Ext W H W' H' → Rs K W' ρ σ' H' → D0.bk σ' H'
  | .inr (.ct ρ) => ∀ (W' : Wd) (σ' : L2.St) (H' : Hp), W'.G = G' → Ext W H W' H' → Rs K W' ρ σ' H' → D0.ct σ' H'
  | .inl e => ∀ (W' : Wd) (σ' : L2.St) (H' : Hp), W'.G = G' → Ext W H W' H' → Gr K W' H' → We e W' σ' H'
def ups (K : Pm) (We : WE') (ds : En → M Out) : TS := fun D0 σ H => ∃ (W : Wd) (ρ : En) (r : Sum Er Out) (G' : List O), Rs K W ρ σ H ∧ ds ρ W.G = some (r, G') ∧ PostS K We W H r G' D0
theorem PostS.mono {K : Pm} {We : WE'} {W W1 : Wd} {H H1 : Hp} {r : Sum Er Out} {G' : List O} {D0 : Ends} (p : PostS K We W H r G' D0) (x : Ext W H W1 H1) : PostS K We W1 H1 r G' D0 := by
  match r with
  | .inr (.nx ρ) => exact fun W' σ' H' e x' g => p W' σ' H' e (x.trans x') g
  | .inr (.rt d) => exact fun W' v H' e x' g q => p W' v H' e (x.trans x') g q
  | .inr (.bk ρ) => exact fun W' σ' H' e x' g => p W' σ' H' e (x.trans x') g
  | .inr (.ct ρ) => exact fun W' σ' H' e x' g => p W' σ' H' e (x.trans x') g
  | .inl e => exact fun W' σ' H' e x' g => p W' σ' H' e (x.trans x') g
/-- an expression first, then what the statement does -/
theorem ups_bnd {A B : Type} {K : Pm} {We : WE'} {R : Wd → Hp → B → A → Prop} {W : Wd} {H : Hp} {σ : L2.St} {ρ : En} {G' : List O} {da : En → M A} {k : A → M Out} {r : Sum Er Out} {D0 : Ends} {T : B → Hp → Prop}
    (hR : Rs K W ρ σ H) (e : bnd (da ρ) k W.G = some (r, G')) (p : PostS K We W H r G' D0)
    (h : ∀ (d : A) (W1 : Wd) (v : B) (H1 : Hp), Ext W H W1 H1 → Rs K W1 ρ σ H1 → R W1 H1 v d → k d W1.G = some (r, G') → PostS K We W1 H1 r G' D0 → T v H1) : up K We R da σ H T := by
  unfold bnd at e
  split at e
  · rename_i a G1 he
    exact ⟨W, ρ, .inr a, G1, hR, he, fun W' v H' eg x g q => h a W' v H' x (hR.keep g x) q (by rw [eg]; exact e) (p.mono x)⟩
  · rename_i er G1 he
    cases e
    exact ⟨W, ρ, .inl er, _, hR, he, fun W' H' eg x g => p W' σ H' eg x g⟩
  · cases e
def dNext : En → M Out := fun ρ => ret (.nx ρ)
def dSeq (a b : En → M Out) : En → M Out := fun ρ => bnd (a ρ) fun o => match o with
  | .nx ρ' => b ρ'
  | o => ret o
def dIfS (t : En → M Bool) (a b : En → M Out) : En → M Out := fun ρ => bnd (t ρ) fun c => if c = true then a ρ else b ρ
def dRet (a : En → M D) : En → M Out := fun ρ => bnd (a ρ) fun d => ret (.rt d)
def dRetN : En → M Out := fun _ => ret (.rt .non)
def dExpr (a : En → M D) : En → M Out := fun ρ => bnd (a ρ) fun _ => ret (.nx ρ)
def dBrk : En → M Out := fun ρ => ret (.bk ρ)
def dCnt : En → M Out := fun ρ => ret (.ct ρ)
section
variable {X : Cx} {We : WE'} {st : Stmt} {sts sts' : List Stmt} {e : Expr} {da : En → M D} {ta : En → M Bool} {s1 s2 : En → M Out} {pos : Pos}
theorem nx_end {K : Pm} {W : Wd} {H : Hp} {ρ : En} {σ : L2.St} {r : Sum Er Out} {G' : List O} {D0 : Ends} (e : ret (Out.nx ρ) W.G = some (r, G')) (p : PostS K We W H r G' D0) {W' : Wd} {H' : Hp} (eg : W'.G = W.G) (x : Ext W H W' H') (hR : Rs K W' ρ σ H') : D0.nx σ H' := by
  cases e
  exact p W' σ H' eg x hR
theorem ts_nil : PSs X [] (ups (Cxp X) We dNext) := PSs.imp pss_nil fun D0 σ H h => by
  obtain ⟨W, ρ, r, G', hR, e, p⟩ := h
  exact nx_end e p rfl Ext.refl hR
theorem seq_up {D0 : Ends} {σ : L2.St} {H : Hp} (h : ups (Cxp X) We (dSeq s1 s2) D0 σ H) : tSeq (ups (Cxp X) We s1) (ups (Cxp X) We s2) D0 σ H := by
  obtain ⟨W, ρ, r, G', hR, e, p⟩ := h
  unfold dSeq bnd at e
  split at e
  · rename_i a G1 he
    cases a with
    | nx ρ' => exact ⟨W, ρ, .inr (.nx ρ'), G1, hR, he, fun W' σ' H' eg x R' => ⟨W', ρ', r, G', R', by rw [eg]; exact e, p.mono x⟩⟩
    | rt d => cases e; exact ⟨W, ρ, .inr (.rt d), _, hR, he, p⟩
    | bk ρ' => cases e; exact ⟨W, ρ, .inr (.bk ρ'), _, hR, he, p⟩
    | ct ρ' => cases e; exact ⟨W, ρ, .inr (.ct ρ'), _, hR, he, p⟩
  · rename_i er G1 he
    cases e
    exact ⟨W, ρ, .inl er, _, hR, he, p⟩
  · cases e
theorem ts_cons (h1 : PS X st (ups (Cxp X) We s1)) (h2 : PSs X sts (ups (Cxp X) We s2)) : PSs X (st :: sts) (ups (Cxp X) We (dSeq s1 s2)) := PSs.imp (pss_cons h1 h2) fun _ _ _ h => seq_up h
theorem ts_one (h1 : PS X st (ups (Cxp X) We s1)) : PSs X [st] (ups (Cxp X) We s1) := pss_one h1
theorem tS_if {c : Expr} (hc : PT X c (upT (Cxp X) We ta)) (ha : PSs X sts (ups (Cxp X) We s1)) (hb : PSs X sts' (ups (Cxp X) We s2)) : PS X (.If c sts sts' pos) (ups (Cxp X) We (dIfS ta s1 s2)) := PS.imp (ps_if hc ha hb) fun D0 σ H h => by
  obtain ⟨W, ρ, r, G', hR, e, p⟩ := h
  refine ups_bnd hR e p fun d W1 v H1 x1 R1 r1 e1 p1 => ?_
  cases r1
  cases d with
  | true => exact iteT ⟨W1, ρ, r, G', R1, e1, p1⟩
  | false => exact iteF ⟨W1, ρ, r, G', R1, e1, p1⟩
theorem tS_ret (he : PE X e (upE (Cxp X) We da)) : PS X (.Return (some e) pos) (ups (Cxp X) We (dRet da)) := PS.imp (ps_ret he) fun D0 σ H h => by
  obtain ⟨W, ρ, r, G', hR, e, p⟩ := h
  refine ups_bnd hR e p fun d W1 v H1 x1 R1 r1 e1 p1 => ?_
  cases e1
  exact p1 W1 v H1 rfl Ext.refl R1.gr r1
theorem tS_retN : PS X (.Return none pos) (ups (Cxp X) We dRetN) := PS.imp ps_retN fun D0 σ H h => by
  obtain ⟨W, ρ, r, G', hR, e, p⟩ := h
  cases e
  exact p W .non H rfl Ext.refl hR.gr .non
theorem tS_expr (he : PE X e (upE (Cxp X) We da)) (hs : swapsWith e none pos.line X.env = pure false := by rfl) : PS X (.Expr e pos) (ups (Cxp X) We (dExpr da)) := PS.imp (ps_expr he hs) fun D0 σ H h => by
  obtain ⟨W, ρ, r, G', hR, e, p⟩ := h
  refine ups_bnd hR e p fun d W1 v H1 x1 R1 r1 e1 p1 => ?_
  exact nx_end e1 p1 rfl Ext.refl R1
theorem tS_pass : PS X (.Pass pos) (ups (Cxp X) We dNext) := PS.imp ps_pass fun D0 σ H h => by
  obtain ⟨W, ρ, r, G', hR, e, p⟩ := h
  exact nx_end e p rfl Ext.refl hR
theorem tS_brk : PS X (.Break pos) (ups (Cxp X) We dBrk) := PS.imp ps_break fun D0 σ H h => by
  obtain ⟨W, ρ, r, G', hR, e, p⟩ := h
  cases e
  exact p W σ H rfl Ext.refl hR
theorem tS_cnt : PS X (.Continue pos) (ups (Cxp X) We dCnt) := PS.imp ps_continue fun D0 σ H h => by
  obtain ⟨W, ρ, r, G', hR, e, p⟩ := h
  cases e
  exact p W σ H rfl Ext.refl hR
end

/-! ### targets -/
def upG (K : Pm) (dg : D → En → P1 En) : TG := fun v σ H Q => ∃ (W : Wd) (ρ : En) (d : D) (ρ' : En) (G' : List O), Rs K W ρ σ H ∧ Rv K W H v d ∧ dg d ρ W.G = some (ρ', G') ∧ ∀ (W' : Wd) (σ' : L2.St) (H' : Hp), W'.G = G' → Ext W H W' H' → Rs K W' ρ' σ' H' → Q σ' H'
def upGs (K : Pm) (dg : List D → En → P1 En) : TGs := fun vs σ H Q => ∃ (W : Wd) (ρ : En) (ds : List D) (ρ' : En) (G' : List O), Rs K W ρ σ H ∧ Rvs K W H vs ds ∧ dg ds ρ W.G = some (ρ', G') ∧ ∀ (W' : Wd) (σ' : L2.St) (H' : Hp), W'.G = G' → Ext W H W' H' → Rs K W' ρ' σ' H' → Q σ' H'
def gN (i : Nat) : D → En → P1 En := fun d ρ G => some (ρ.set i (some d), G)
def gsNil : List D → En → P1 En := fun ds ρ G => match ds with
  | [] => some (ρ, G)
  | _ => none
def gsCons (a : D → En → P1 En) (b : List D → En → P1 En) : List D → En → P1 En := fun ds ρ G => match ds with
  | [] => none
  | d :: r => match a d ρ G with
    | some (ρ1, G1) => b r ρ1 G1
    | none => none
def gT (n : Nat) (b : List D → En → P1 En) : D → En → P1 En := fun d ρ G => match d with
  | .tup xs => if xs.length = n then b xs ρ G else none
  | _ => none
theorem Rs.set {K : Pm} {W : Wd} {ρ : En} {σ : L2.St} {H : Hp} {v : V} {d : D} (r : Rs K W ρ σ H) (q : Rv K W H v d) (i : Nat) : Rs K W (ρ.set i (some d)) (σ.set i (some v)) H := by
  refine ⟨r.gr, by simp [r.len], fun j d' e => ?_⟩
  by_cases h : i = j
  · subst h
    by_cases hi : i < ρ.length
    · rw [List.getElem?_set_self hi] at e
      cases e
      exact ⟨v, List.getElem?_set_self (by rw [← r.len]; exact hi), q⟩
    · rw [List.getElem?_eq_none_iff.mpr (by simpa using Nat.le_of_not_lt hi)] at e
      cases e
  · rw [List.getElem?_set_ne h] at e ⊢
    exact r.var j d' e
section
variable {X : Cx} {We : WE'} {pos : Pos} {t : Expr} {ts : List Expr} {ga : D → En → P1 En} {gb : List D → En → P1 En} {e : Expr} {da : En → M D}
theorem PG.imp {t t' : TG} {tg : Expr} (h : PG X tg t) (i : ∀ v σ H Q, t' v σ H Q → t v σ H Q) : PG X tg t' := ⟨fun pins s σ H v u Q I r q => h.run pins s σ H v u Q I r (i v σ H Q q)⟩
theorem PGs.imp {t t' : TGs} {tg : List Expr} (h : PGs X tg t) (i : ∀ v σ H Q, t' v σ H Q → t v σ H Q) : PGs X tg t' := ⟨fun pins s σ H v u Q I r q => h.run pins s σ H v u Q I r (i v σ H Q q)⟩
theorem tg_n {i : Nat} {x : Str} (hN : X.N.Nodup) (hi : X.N[i]? = some x := by rfl) (hx : Loc X.env.scope x := by first | exact Or.inl rfl | exact Or.inr rfl) (hf : X.fn x = true ∨ X.env.scope.names.lookup x = some .local := by first | exact .inl rfl | exact .inr rfl | assumption) :
    PG X (.Name x pos) (upG (Cxp X) (gN i)) := PG.imp (pg_name (i := i) hN hi hx hf) fun v σ H Q h => by
  obtain ⟨W, ρ, d, ρ', G', hR, rv, e, p⟩ := h
  cases e
  exact p W _ H rfl Ext.refl (hR.set rv i)
theorem tgs_nil : PGs X [] (upGs (Cxp X) gsNil) := PGs.imp pgs_nil fun vs σ H Q h => by
  obtain ⟨W, ρ, ds, ρ', G', hR, rv, e, p⟩ := h
  cases rv with
  | nil => cases e; exact ⟨rfl, p W σ H rfl Ext.refl hR⟩
  | cons _ _ => cases e
theorem tgs_cons (h1 : PG X t (upG (Cxp X) ga)) (h2 : PGs X ts (upGs (Cxp X) gb)) (hs : (assignEach (t :: ts) X.env).map (·.2) = assign t X.env :: (assignEach ts X.env).map (·.2) := by rfl) : PGs X (t :: ts) (upGs (Cxp X) (gsCons ga gb)) := PGs.imp (pgs_cons h1 h2 hs) fun vs σ H Q h => by
  obtain ⟨W, ρ, ds, ρ', G', hR, rv, e, p⟩ := h
  cases rv with
  | nil => cases e
  | cons h r =>
    unfold gsCons at e
    split at e
    · cases e
    · rename_i d r' heq
      cases heq
      split at e
      · rename_i ρ1 G1 he
        exact ⟨_, _, rfl, W, ρ, _, ρ1, G1, hR, h, he, fun W1 σ1 H1 eg x R1 => ⟨W1, ρ1, _, ρ', G', R1, r.keep hR.gr x, by rw [eg]; exact e, fun W2 σ2 H2 eg2 x2 R2 => p W2 σ2 H2 eg2 (x.trans x2) R2⟩⟩
      · cases e
theorem tg_t {k : Nat} {n : Nat} (hc : X.calm = true) (h : PGs X ts (upGs (Cxp X) gb)) (hn : (assignEach ts X.env).length = n := by rfl) (hst : (assignEach ts X.env).findIdx? (·.1) = none := by rfl) : PG X (.Tuple ts k pos) (upG (Cxp X) (gT n gb)) :=
  PG.imp (pg_tup hc h hn hst) fun v σ H Q h => by
    obtain ⟨W, ρ, d, ρ', G', hR, rv, e, p⟩ := h
    unfold gT at e
    split at e
    · split at e
      · rename_i z
        cases rv with
        | tup ha r => exact ⟨_, _, rfl, ha, by rw [r.length]; exact z, W, ρ, _, ρ', G', hR, r, e, p⟩
      · cases e
    · cases e
def dAsg (a : En → M D) (g : D → En → P1 En) : En → M Out := fun ρ => bnd (a ρ) fun d => bnd (lft (g d ρ)) fun ρ' => ret (.nx ρ')
theorem tS_asg (he : PE X e (upE (Cxp X) We da)) (hg : PG X t (upG (Cxp X) ga)) (hs : swapsWithSole [t] e pos.line X.env = pure false := by rfl) (hw : swappedStores [t] e X.env = pure none := by rfl) (h1 : (assignEach [t] X.env).map (·.2) = [assign t X.env] := by rfl) : PS X (.Assign [t] e pos) (ups (Cxp X) We (dAsg da ga)) :=
  PS.imp (ps_asg he hg hs hw h1) fun D0 σ H h => by
    obtain ⟨W, ρ, r, G', hR, e, p⟩ := h
    refine ups_bnd hR e p fun d W1 v H1 x1 R1 r1 e1 p1 => ?_
    obtain ⟨ρ', G2, e2, e3⟩ := bnd_lft e1
    exact ⟨W1, ρ, d, ρ', G2, R1, r1, e2, fun W2 σ2 H2 eg x R2 => nx_end (by rw [← eg] at e3; exact e3) (p1.mono x) rfl Ext.refl R2⟩
/-- a, b = x, y, both names -/
def par2 (i j : Nat) (ds : List D) (ρ : En) : Option En := match ds with
  | [x, y] => some ((ρ.set i (some x)).set j (some y))
  | _ => none
def dPar (i j : Nat) (a : En → M (List D)) : En → M Out := fun ρ => bnd (a ρ) fun ds => bnd (lft (pur (par2 i j ds ρ))) fun ρ' => ret (.nx ρ')
theorem par_up {i j : Nat} {da : En → M (List D)} {D0 : Ends} {σ : L2.St} {H : Hp} (h : ups (Cxp X) We (dPar i j da) D0 σ H) : tPar i j (upA (Cxp X) We da) D0 σ H := by
  obtain ⟨W, ρ, r, G', hR, e, p⟩ := h
  refine ups_bnd hR e p fun d W1 v H1 x1 R1 r1 e1 p1 => ?_
  obtain ⟨ρ', G2, e2, e3⟩ := bnd_lft e1
  obtain ⟨e2, eg⟩ := pur_eq e2
  subst eg
  unfold par2 at e2
  split at e2
  · cases e2
    cases r1 with
    | cons h1 r1 => cases r1 with
      | cons h2 r1 =>
        cases r1
        exact ⟨_, _, rfl, nx_end e3 p1 rfl Ext.refl ((R1.set h1 i).set h2 j)⟩
  · cases e2
theorem tS_par {i j : Nat} {x y : Str} {a b : Expr} {da : En → M (List D)} {px py pt : Pos} {kt k2 : Nat} {pt2 : Pos} (hc : X.calm = true) (hN : X.N.Nodup) (hi : X.N[i]? = some x) (hj : X.N[j]? = some y) (hij : i ≠ j) (hx : X.env.scope.names.lookup x = some .local) (hy : X.env.scope.names.lookup y = some .local)
    (ha : PA X [a, b] (upA (Cxp X) We da)) (hw : swappedStores [.Tuple [.Name x px, .Name y py] kt pt] (.Tuple [a, b] k2 pt2) X.env = pure (some [x, y])) (hs : swapsWithSole [.Tuple [.Name x px, .Name y py] kt pt] (.Tuple [a, b] k2 pt2) pos.line X.env = pure false := by rfl) :
    PS X (.Assign [.Tuple [.Name x px, .Name y py] kt pt] (.Tuple [a, b] k2 pt2) pos) (ups (Cxp X) We (dPar i j da)) := PS.imp (ps_par hc hN hi hj hij hx hy ha hw hs) fun D0 σ H h => par_up h
/-- x op= e, x a name; the operator by values -/
def dAug (i : Nat) (f : D → D → P1 D) (a : En → M D) : En → M Out := fun ρ => bnd (dV i ρ) fun x => bnd (a ρ) fun y => bnd (lft (f x y)) fun z => ret (.nx (ρ.set i (some z)))
theorem tS_aug {i : Nat} {x : Str} {op : Operator} {ti : TIp} {f : D → D → P1 D} {pos' : Pos} (hN : X.N.Nodup) (hi : X.N[i]? = some x) (hx : Loc X.env.scope x) (he : PE X e (upE (Cxp X) We da)) (ho : PIp X op ti) (hd : OpD (Cxp X) ti f)
    (hf : X.fn x = true ∨ X.env.scope.names.lookup x = some .local := by first | exact .inl rfl | exact .inr rfl | assumption) : PS X (.AugAssign (.Name x pos') op e pos) (ups (Cxp X) We (dAug i f da)) := PS.imp (ps_aug (i := i) hN hi hx he ho hf) fun D0 σ H h => by
  obtain ⟨W, ρ, r, G', hR, e, p⟩ := h
  unfold dAug dV at e
  obtain ⟨d, G2, e2, e3⟩ := bnd_lft e
  obtain ⟨e2, eg⟩ := pur_eq e2
  subst eg
  have e' : ρ[i]? = some (some d) := by
    revert e2
    split
    · rename_i d' he
      intro z; cases z; exact he
    · intro z; cases z
  obtain ⟨v, hv, rv⟩ := hR.var i d e'
  refine ⟨v, hv, ups_bnd hR e3 p fun d1 W1 v1 H1 x1 R1 r1 e4 p1 => ?_⟩
  obtain ⟨z, G5, ez, e5⟩ := bnd_lft e4
  refine hd W1 H1 v v1 d d1 z G5 _ R1.gr (rv.keep hR.gr x1) r1 ez fun W6 v6 H6 eg6 x6 g6 r6 => ?_
  exact nx_end (by rw [← eg6] at e5; exact e5) (p1.mono x6) rfl Ext.refl ((R1.keep g6 x6).set r6 i)
end

/-! ### what a loop walks -/
structure WalkD (K : Pm) (W : Wd) (H : Hp) (J : It) (ds : List D) : Prop where
  ex : ∃ (Gd : Hp → Prop) (Y : Nat → Hp → V → Hp → Prop), Walk J ds.length Gd Y ∧ (∀ (W' : Wd) (H' : Hp), Ext W H W' H' → Gr K W' H' → Gd H') ∧
    ∀ (i : Nat) (W' : Wd) (H' : Hp) (x : V) (H'' : Hp), i < ds.length → Ext W H W' H' → Gr K W' H' → Y i H' x H'' → ∃ d, ds[i]? = some d ∧ Gr K W' H'' ∧ Ext W' H' W' H'' ∧ Rv K W' H'' x d
def upI (K : Pm) (We : WE') (di : En → M (List D)) : TI := fun σ H R => ∃ (W : Wd) (ρ : En) (r : Sum Er (List D)) (G' : List O), Rs K W ρ σ H ∧ di ρ W.G = some (r, G') ∧ match r with
  | .inr ds => ∀ (W' : Wd) (H' : Hp), W'.G = G' → Ext W H W' H' → Gr K W' H' → ∀ J, WalkD K W' H' J ds → R J H'
  | .inl e => ∀ (W' : Wd) (H' : Hp), W'.G = G' → Ext W H W' H' → Gr K W' H' → We e W' σ H'
def bodyL (g : D → En → P1 En) (b : En → M Out) : List D → En → M Out
  | [], ρ => ret (.nx ρ)
  | d :: r, ρ => bnd (lft (g d ρ)) fun ρ1 => bnd (b ρ1) fun o => match o with
    | .nx ρ2 => bodyL g b r ρ2
    | .ct ρ2 => bodyL g b r ρ2
    | .bk ρ2 => ret (.nx ρ2)
    | .rt v => ret (.rt v)
def dFor (di : En → M (List D)) (g : D → En → P1 En) (b : En → M Out) : En → M Out := fun ρ => bnd (di ρ) fun ds => bodyL g b ds ρ
section
variable {X : Cx} {We : WE'} {pos : Pos} {tg iter : Expr} {body : List Stmt} {di : En → M (List D)} {g : D → En → P1 En} {b : En → M Out}
theorem tS_for (hp : PassesOwn (model X.prog X.w) X.A X.env X.xe) (hc : X.calm = true) (hi : PI X tg iter (upI (Cxp X) We di)) (hg : PG X tg (upG (Cxp X) g)) (hb : PSs X body (ups (Cxp X) We b))
    (hs : ∀ x, foldedSetIterable iter X.env x = pure x := by intro _; rfl) : PS X (.For tg iter body [] pos) (ups (Cxp X) We (dFor di g b)) := PS.imp (ps_for hp hc hi hg hb hs) fun D0 σ H h => by
  obtain ⟨W, ρ, r, G', hR, e, p⟩ := h
  unfold dFor bnd at e
  split at e
  · rename_i ds G1 he
    refine ⟨W, ρ, .inr ds, G1, hR, he, fun W0 H0 eg0 x0 g0 J wd => ?_⟩
    obtain ⟨Gd, Y, wk, st, yl⟩ := wd.ex
    rw [← eg0] at e
    refine for_it wk (fun i σ1 H1 => ∃ (W1 : Wd) (ρ1 : En), Ext W0 H0 W1 H1 ∧ Rs (Cxp X) W1 ρ1 σ1 H1 ∧ bodyL g b (ds.drop i) ρ1 W1.G = some (r, G') ∧ PostS (Cxp X) We W1 H1 r G' D0) ⟨W0, ρ, Ext.refl, hR.keep g0 x0, by simpa using e, p.mono x0⟩
      (fun i σ1 H1 _ ⟨W1, ρ1, x1, R1, _⟩ => st W1 H1 x1 R1.gr) (fun i v σ1 H1 H2 hi ⟨W1, ρ1, x1, R1, e1, p1⟩ y => ?_) fun σ1 H1 ⟨W1, ρ1, x1, R1, e1, p1⟩ => ?_
    · obtain ⟨d, hd, g2, x2, rv⟩ := yl i W1 H1 v H2 hi x1 R1.gr y
      have ed : ds.drop i = d :: ds.drop (i + 1) := by
        obtain ⟨hl, hv⟩ := List.getElem?_eq_some_iff.mp hd
        rw [List.drop_eq_getElem_cons hl, hv]
      rw [ed] at e1
      unfold bodyL at e1
      obtain ⟨ρ2, G2, e2, e3⟩ := bnd_lft e1
      have R2 := R1.keep g2 x2
      refine ⟨W1, ρ1, d, ρ2, G2, R2, rv, e2, fun W3 σ3 H3 eg3 x3 R3 => ?_⟩
      rw [← eg3] at e3
      have x13 := x2.trans x3
      have x03 := x1.trans x13
      unfold bnd at e3
      split at e3
      · rename_i o G4 ho
        cases o with
        | nx ρ4 => exact ⟨W3, ρ2, .inr (.nx ρ4), G4, R3, ho, fun W5 σ5 H5 eg5 x5 R5 => ⟨W5, ρ4, x03.trans x5, R5, by rw [eg5]; exact e3, (p1.mono x13).mono x5⟩⟩
        | ct ρ4 => exact ⟨W3, ρ2, .inr (.ct ρ4), G4, R3, ho, fun W5 σ5 H5 eg5 x5 R5 => ⟨W5, ρ4, x03.trans x5, R5, by rw [eg5]; exact e3, (p1.mono x13).mono x5⟩⟩
        | bk ρ4 => exact ⟨W3, ρ2, .inr (.bk ρ4), G4, R3, ho, fun W5 σ5 H5 eg5 x5 R5 => nx_end (by rw [← eg5] at e3; exact e3) ((p1.mono x13).mono x5) rfl Ext.refl R5⟩
        | rt w =>
          cases e3
          exact ⟨W3, ρ2, .inr (.rt w), _, R3, ho, p1.mono x13⟩
      · rename_i er G4 ho
        cases e3
        exact ⟨W3, ρ2, .inl er, _, R3, ho, p1.mono x13⟩
      · cases e3
    · rw [List.drop_length] at e1
      unfold bodyL at e1
      exact nx_end e1 p1 rfl Ext.refl R1
  · rename_i er G1 he
    cases e
    exact ⟨W, ρ, .inl er, _, hR, he, fun W' H' eg x g' => p W' σ H' eg x g'⟩
  · cases e
/-! ### while, at most so many turns -/
def whileL (t : En → M Bool) (b : En → M Out) : Nat → En → M Out
  | 0, _ => fun _ => none
  | n + 1, ρ => bnd (t ρ) fun c => if c = true then bnd (b ρ) fun o => match o with
    | .nx ρ2 => whileL t b n ρ2
    | .ct ρ2 => whileL t b n ρ2
    | .bk ρ2 => ret (.nx ρ2)
    | .rt v => ret (.rt v)
    else ret (.nx ρ)
theorem tS_while {n : Nat} {c : Expr} {t : En → M Bool} (hp : PassesOwn (model X.prog X.w) X.A X.env X.xe) (hc : PT X c (upT (Cxp X) We t)) (hb : PSs X body (ups (Cxp X) We b)) : PS X (.While c body [] pos) (ups (Cxp X) We (whileL t b n)) := PS.imp (ps_while hp hc hb) fun D0 σ H h => by
  obtain ⟨W, ρ, r, G', hR, e, p⟩ := h
  refine ⟨fun m σ1 H1 => ∃ (W1 : Wd) (ρ1 : En), Rs (Cxp X) W1 ρ1 σ1 H1 ∧ whileL t b m ρ1 W1.G = some (r, G') ∧ PostS (Cxp X) We W1 H1 r G' D0, ⟨n, W, ρ, hR, e, p⟩, fun m σ1 H1 ⟨W1, ρ1, R1, e1, p1⟩ => ?_⟩
  cases m with
  | zero => cases e1
  | succ m =>
    unfold whileL at e1
    refine ups_bnd R1 e1 p1 fun c W2 c' H2 x2 R2 r2 e2 p2 => ?_
    cases r2
    cases c with
    | false => exact iteF (nx_end e2 p2 rfl Ext.refl R2)
    | true =>
      refine iteT ⟨fun σ3 H3 => ∃ (W3 : Wd) (ρ3 : En), Rs (Cxp X) W3 ρ3 σ3 H3 ∧ whileL t b m ρ3 W3.G = some (r, G') ∧ PostS (Cxp X) We W3 H3 r G' D0, fun σ3 H3 q => ⟨m, Nat.lt_succ_self m, q⟩, ?_⟩
      rw [if_pos rfl] at e2
      unfold bnd at e2
      split at e2
      · rename_i o G4 ho
        cases o with
        | nx ρ4 => exact ⟨W2, ρ1, .inr (.nx ρ4), G4, R2, ho, fun W5 σ5 H5 eg5 x5 R5 => ⟨W5, ρ4, R5, by rw [eg5]; exact e2, p2.mono x5⟩⟩
        | ct ρ4 => exact ⟨W2, ρ1, .inr (.ct ρ4), G4, R2, ho, fun W5 σ5 H5 eg5 x5 R5 => ⟨W5, ρ4, R5, by rw [eg5]; exact e2, p2.mono x5⟩⟩
        | bk ρ4 => exact ⟨W2, ρ1, .inr (.bk ρ4), G4, R2, ho, fun W5 σ5 H5 eg5 x5 R5 => nx_end (by rw [← eg5] at e2; exact e2) (p2.mono x5) rfl Ext.refl R5⟩
        | rt w =>
          cases e2
          exact ⟨W2, ρ1, .inr (.rt w), _, R2, ho, p2⟩
      · rename_i er G4 ho
        cases e2
        exact ⟨W2, ρ1, .inl er, _, R2, ho, p2⟩
      · cases e2
end
end Tw

namespace Tw
open PySem PySem.Spec PyProof.Rows L2

theorem PI.imp {X : Cx} {tg e : Expr} {t t' : TI} (h : PI X tg e t) (i : ∀ σ H R, t' σ H R → t σ H R) : PI X tg e t' := ⟨fun pins s σ H R I q => h.run pins s σ H R I (i σ H R q)⟩
/-- an expression first, then what is walked -/
theorem upi_bnd {A B : Type} {K : Pm} {We : WE'} {R : Wd → Hp → B → A → Prop} {W : Wd} {H : Hp} {σ : L2.St} {ρ : En} {G' : List O} {da : En → M A} {k : A → M (List D)} {r : Sum Er (List D)} {R0 : It → Hp → Prop} {T : B → Hp → Prop}
    (hR : Rs K W ρ σ H) (e : bnd (da ρ) k W.G = some (r, G')) (p : match (generalizing := false) r with
      | .inr ds => ∀ (W' : Wd) (H' : Hp), W'.G = G' → Ext W H W' H' → Gr K W' H' → ∀ J, WalkD K W' H' J ds → R0 J H'
      | .inl e => ∀ (W' : Wd) (H' : Hp), W'.G = G' → Ext W H W' H' → Gr K W' H' → We e W' σ H')
    (h : ∀ (d : A) (W1 : Wd) (v : B) (H1 : Hp), Ext W H W1 H1 → Rs K W1 ρ σ H1 → R W1 H1 v d → k d W1.G = some (r, G') → (match (generalizing := false) r with
      | .inr ds => ∀ (W' : Wd) (H' : Hp), W'.G = G' → Ext W1 H1 W' H' → Gr K W' H' → ∀ J, WalkD K W' H' J ds → R0 J H'
      | .inl e => ∀ (W' : Wd) (H' : Hp), W'.G = G' → Ext W1 H1 W' H' → Gr K W' H' → We e W' σ H') → T v H1) : up K We R da σ H T := by
  unfold bnd at e
  split at e
  · rename_i a G1 he
    refine ⟨W, ρ, .inr a, G1, hR, he, fun W' v H' eg x g q => h a W' v H' x (hR.keep g x) q (by rw [eg]; exact e) ?_⟩
    cases r with
    | inr ds => exact fun W2 H2 e2 x2 g2 J w => p W2 H2 e2 (x.trans x2) g2 J w
    | inl er => exact fun W2 H2 e2 x2 g2 => p W2 H2 e2 (x.trans x2) g2
  · rename_i er G1 he
    cases e
    exact ⟨W, ρ, .inl er, _, hR, he, p⟩
  · cases e
theorem upi_lft {K : Pm} {We : WE'} {W : Wd} {H : Hp} {σ : L2.St} {G' : List O} {f : P1 (List D)} {r : Sum Er (List D)} {R0 : It → Hp → Prop} (e : lft f W.G = some (r, G')) (p : match (generalizing := false) r with
      | .inr ds => ∀ (W' : Wd) (H' : Hp), W'.G = G' → Ext W H W' H' → Gr K W' H' → ∀ J, WalkD K W' H' J ds → R0 J H'
      | .inl e => ∀ (W' : Wd) (H' : Hp), W'.G = G' → Ext W H W' H' → Gr K W' H' → We e W' σ H') :
    ∃ ds, f W.G = some (ds, G') ∧ ∀ (W' : Wd) (H' : Hp), W'.G = G' → Ext W H W' H' → Gr K W' H' → ∀ J, WalkD K W' H' J ds → R0 J H' := by
  unfold lft at e
  split at e
  · rename_i a G1 he
    cases e
    exact ⟨_, he, p⟩
  · cases e

theorem Drs.at2 {K : Pm} {L : Addr → Prop} {α : List Addr} {H : Hp} {vs : List V} {ds : List D} (r : Drs K L α H vs ds) {i : Nat} {v : V} (h : vs[i]? = some v) : ∃ d, ds[i]? = some d ∧ Dr K L α H v d := by
  obtain ⟨hl, hv⟩ := List.getElem?_eq_some_iff.mp h
  have hl2 : i < ds.length := by rw [← r.length]; exact hl
  obtain ⟨v', h1, h2⟩ := r.at (List.getElem?_eq_getElem hl2)
  rw [h] at h1
  cases h1
  exact ⟨_, List.getElem?_eq_getElem hl2, h2⟩

/-! ### lists, tuples -/
def itL : D → Option (List D)
  | .lst xs => some xs
  | .scr xs => some xs
  | _ => none
def itT : D → Option (List D)
  | .tup xs => some xs
  | _ => none
def dItL (a : En → M D) : En → M (List D) := fun ρ => bnd (a ρ) fun d => lft (pur (itL d))
def dItT (a : En → M D) : En → M (List D) := fun ρ => bnd (a ρ) fun d => lft (pur (itT d))
section
variable {K : Pm} {W : Wd} {H : Hp} {v : V} {d : D} {xs : List D}
/-- what a list holds, and goes on to hold -/
theorem itL_sq (g : Gr K W H) (r : Rv K W H v d) (e : itL d = some xs) : ∃ a vs, v = .ref a ∧ vs.length = xs.length ∧ SqL K.K H a vs ∧ ∀ (W' : Wd) (H' : Hp), Ext W H W' H' → SqL K.K H' a vs ∧ Rvs K W' H' vs xs := by
  unfold itL at e
  split at e
  · cases e
    cases r with
    | lst h n q => exact ⟨_, _, rfl, q.length, SqL.of h, fun W' H' x => ⟨SqL.of (L.keep x h n).1, q.keep g x⟩⟩
  · cases e
    cases r with
    | scr h q => exact ⟨_, _, rfl, q.length, h.sq, fun W' H' x => ⟨(Scr.keep x h).sq, q.keep g x⟩⟩
  · cases e
theorem itT_sq (g : Gr K W H) (r : Rv K W H v d) (e : itT d = some xs) : ∃ a vs, v = .ref a ∧ vs.length = xs.length ∧ SqT K.K H a vs ∧ ∀ (W' : Wd) (H' : Hp), Ext W H W' H' → SqT K.K H' a vs ∧ Rvs K W' H' vs xs := by
  unfold itT at e
  split at e
  · cases e
    cases r with
    | tup h q => exact ⟨_, _, rfl, q.length, h, fun W' H' x => ⟨SqT.keep g x h, q.keep g x⟩⟩
  · cases e
theorem walkD_list {a : Addr} {vs : List V} (l : vs.length = xs.length) (st : ∀ (W' : Wd) (H' : Hp), Ext W H W' H' → SqL K.K H' a vs ∧ Rvs K W' H' vs xs) : WalkD K W H (Itl K.K a) xs :=
  ⟨_, _, by rw [← l]; exact walk_list (xs := vs), fun W' H' x _ => (st W' H' x).1, fun i W' H' y H'' hi x g q => by
    obtain ⟨rfl, q⟩ := q
    obtain ⟨d, h1, h2⟩ := (st W' _ x).2.at2 q
    exact ⟨d, h1, g, Ext.refl, h2⟩⟩
theorem walkD_tup {a : Addr} {vs : List V} (l : vs.length = xs.length) (st : ∀ (W' : Wd) (H' : Hp), Ext W H W' H' → SqT K.K H' a vs ∧ Rvs K W' H' vs xs) : WalkD K W H (Itt K.K a) xs :=
  ⟨_, _, by rw [← l]; exact walk_tup (xs := vs), fun W' H' x _ => (st W' H' x).1, fun i W' H' y H'' hi x g q => by
    obtain ⟨rfl, q⟩ := q
    obtain ⟨d, h1, h2⟩ := (st W' _ x).2.at2 q
    exact ⟨d, h1, g, Ext.refl, h2⟩⟩
end
def rngD (lo : Int) (n : Nat) : List D := (List.range n).map fun (i : Nat) => .int (lo + i)
def enumD (xs : List D) : List D := xs.zipIdx.map fun p => .tup [.int (p.2 : Nat), p.1]
def zipD (xs ys : List D) : List D := (xs.zip ys).map fun p => .tup [p.1, p.2]
theorem rngD_at {lo : Int} {n i : Nat} (h : i < n) : (rngD lo n)[i]? = some (.int (lo + i)) := by
  unfold rngD
  rw [List.getElem?_map, List.getElem?_range h]; rfl
theorem enumD_at {xs : List D} {i : Nat} {d : D} (h : xs[i]? = some d) : (enumD xs)[i]? = some (.tup [.int (i : Nat), d]) := by
  unfold enumD
  rw [List.getElem?_map, List.getElem?_zipIdx, h]; simp
theorem zipD_at {xs ys : List D} {i : Nat} {d e : D} (h : xs[i]? = some d) (h' : ys[i]? = some e) : (zipD xs ys)[i]? = some (.tup [d, e]) := by
  unfold zipD
  rw [List.getElem?_map, List.getElem?_zip_eq_some (z := (d, e)) |>.mpr ⟨h, h'⟩]; rfl
theorem enumD_len (xs : List D) : (enumD xs).length = xs.length := by simp [enumD]
theorem zipD_len (xs ys : List D) : (zipD xs ys).length = min xs.length ys.length := by simp [zipD]
theorem rngD_len (lo : Int) (n : Nat) : (rngD lo n).length = n := by simp [rngD]
/-- small enough for range -/
def smallI (i : Int) : Bool := decide (-(2 ^ 62) ≤ i) && decide (i < 2 ^ 62)
def rng1 : List D → Option (List D)
  | [.int j] => if smallI j = true then some (rngD 0 j.toNat) else none
  | _ => none
def rng2 : List D → Option (List D)
  | [.int i, .int j] => if (smallI i && smallI j) = true then some (rngD i (j - i).toNat) else none
  | _ => none
def dRng (f : List D → Option (List D)) (a : En → M (List D)) : En → M (List D) := fun ρ => bnd (a ρ) fun ds => lft (pur (f ds))
def enum1 : List D → Option (List D)
  | [x] => (itL x).map enumD
  | _ => none
def zip2 : List D → Option (List D)
  | [x, y] => match itL x, itL y with
    | some xs, some ys => some (zipD xs ys)
    | _, _ => none
  | _ => none
def zipT2 : List D → Option (List D)
  | [x, y] => match itT x, itT y with
    | some xs, some ys => if xs.length = ys.length then some (zipD xs ys) else none
    | _, _ => none
  | _ => none
theorem smallI_eq {i : Int} (h : smallI i = true) : -(2 ^ 62) ≤ i ∧ i < 2 ^ 62 := by
  obtain ⟨h1, h2⟩ := Bool.and_eq_true_iff.mp h
  exact ⟨of_decide_eq_true h1, of_decide_eq_true h2⟩
theorem walkD_rng {K : Pm} {W : Wd} {H : Hp} {lo : Int} {n : Nat} : WalkD K W H (Itr lo n) (rngD lo n) :=
  ⟨_, _, by rw [rngD_len]; exact walk_range, fun _ _ _ _ => True.intro, fun i W' H' y H'' hi x g q => by
    obtain ⟨rfl, rfl⟩ := q
    exact ⟨_, rngD_at (by rw [rngD_len] at hi; exact hi), g, Ext.refl, .int _⟩⟩
section
variable {X : Cx} {We : WE'} {tg e : Expr} {da : En → M D}
theorem ti_list (he : PE X e (upE (Cxp X) We da)) : PI X tg e (upI (Cxp X) We (dItL da)) := PI.imp (pi_list he) fun σ H R0 h => by
  obtain ⟨W, ρ, r, G', hR, e, p⟩ := h
  refine upi_bnd hR e p fun d W1 v H1 x1 R1 r1 e1 p1 => ?_
  obtain ⟨ds, e2, p2⟩ := upi_lft e1 p1
  obtain ⟨e2, eg⟩ := pur_eq e2
  obtain ⟨a, vs, rfl, l, sq, st⟩ := itL_sq R1.gr r1 e2
  exact ⟨a, rfl, ⟨vs, sq⟩, p2 W1 H1 eg.symm Ext.refl R1.gr _ (walkD_list l st)⟩
theorem ti_tup (he : PE X e (upE (Cxp X) We da)) : PI X tg e (upI (Cxp X) We (dItT da)) := PI.imp (pi_tup he) fun σ H R0 h => by
  obtain ⟨W, ρ, r, G', hR, e, p⟩ := h
  refine upi_bnd hR e p fun d W1 v H1 x1 R1 r1 e1 p1 => ?_
  obtain ⟨ds, e2, p2⟩ := upi_lft e1 p1
  obtain ⟨e2, eg⟩ := pur_eq e2
  obtain ⟨a, vs, rfl, l, sq, st⟩ := itT_sq R1.gr r1 e2
  exact ⟨a, rfl, ⟨vs, sq⟩, p2 W1 H1 eg.symm Ext.refl R1.gr _ (walkD_tup l st)⟩
theorem ti_rng1 {a : Expr} {ta : En → M (List D)} {p pos : Pos} (hg : Gl X "range") (hm : X.mg "range" = none) (ha : PA X [a] (upA (Cxp X) We ta)) (hs : starEach [a] X.env = [(false, eval a X.env)] := by rfl) :
    PI X tg (.Call (.Name "range" p) [a] [] pos) (upI (Cxp X) We (dRng rng1 ta)) := PI.imp (pi_range1 hg hm ha hs) fun σ H R0 h => by
  obtain ⟨W, ρ, r, G', hR, e, p⟩ := h
  refine upi_bnd hR e p fun d W1 v H1 x1 R1 r1 e1 p1 => ?_
  obtain ⟨ds, e2, p2⟩ := upi_lft e1 p1
  obtain ⟨e2, eg⟩ := pur_eq e2
  unfold rng1 at e2
  split at e2
  · split at e2
    · rename_i z
      cases e2
      cases r1 with
      | cons h1 r1 =>
        cases r1; cases h1
        exact ⟨_, rfl, (smallI_eq z).1, (smallI_eq z).2, p2 W1 H1 eg.symm Ext.refl R1.gr _ walkD_rng⟩
    · cases e2
  · cases e2
theorem ti_rng2 {a b : Expr} {ta : En → M (List D)} {p pos : Pos} (hg : Gl X "range") (hm : X.mg "range" = none) (ha : PA X [a, b] (upA (Cxp X) We ta)) (hs : starEach [a, b] X.env = [(false, eval a X.env), (false, eval b X.env)] := by rfl) (hs2 : starEach [b] X.env = [(false, eval b X.env)] := by rfl) :
    PI X tg (.Call (.Name "range" p) [a, b] [] pos) (upI (Cxp X) We (dRng rng2 ta)) := PI.imp (pi_range2 hg hm ha hs hs2) fun σ H R0 h => by
  obtain ⟨W, ρ, r, G', hR, e, p⟩ := h
  refine upi_bnd hR e p fun d W1 v H1 x1 R1 r1 e1 p1 => ?_
  obtain ⟨ds, e2, p2⟩ := upi_lft e1 p1
  obtain ⟨e2, eg⟩ := pur_eq e2
  unfold rng2 at e2
  split at e2
  · split at e2
    · rename_i z
      obtain ⟨z1, z2⟩ := Bool.and_eq_true_iff.mp z
      cases e2
      cases r1 with
      | cons h1 r1 => cases r1 with
        | cons h2 r1 =>
          cases r1; cases h1; cases h2
          exact ⟨_, _, rfl, ⟨(smallI_eq z1).1, (smallI_eq z1).2, (smallI_eq z2).1, (smallI_eq z2).2⟩, p2 W1 H1 eg.symm Ext.refl R1.gr _ walkD_rng⟩
    · cases e2
  · cases e2
/-- pairs made at each turn -/
theorem pair_new {K : Pm} {W : Wd} {H : Hp} {x y : V} {d e : D} {p : Addr} (g : Gr K W H) (r1 : Rv K W H x d) (r2 : Rv K W H y e) (n : H p = none) : Gr K W (upd H p (.tup [x, y])) ∧ Ext W H W (upd H p (.tup [x, y])) ∧ Rv K W (upd H p (.tup [x, y])) (.ref p) (.tup [d, e]) :=
  tup_new g (.cons r1 (.cons r2 .nil)) n
theorem ti_enum {a : Expr} {ta : En → M (List D)} {p pos tpos : Pos} {elts : List Expr} {kk : Nat} (hg : Gl X "enumerate") (hm : X.mg "enumerate" = none) (ha : PA X [a] (upA (Cxp X) We ta)) (hs : starEach [a] X.env = [(false, eval a X.env)] := by rfl) :
    PI X (.Tuple elts kk tpos) (.Call (.Name "enumerate" p) [a] [] pos) (upI (Cxp X) We (dRng enum1 ta)) := PI.imp (pi_enum hg hm ha hs) fun σ H R0 h => by
  obtain ⟨W, ρ, r, G', hR, e, p⟩ := h
  refine upi_bnd hR e p fun d W1 v H1 x1 R1 r1 e1 p1 => ?_
  obtain ⟨ds, e2, p2⟩ := upi_lft e1 p1
  obtain ⟨e2, eg⟩ := pur_eq e2
  unfold enum1 at e2
  split at e2
  · obtain ⟨xs, q, rfl⟩ := Option.map_eq_some_iff.mp e2
    cases r1 with
    | cons h1 r1 =>
      cases r1
      obtain ⟨ad, vs, rfl, l, sq, st⟩ := itL_sq R1.gr h1 q
      refine ⟨ad, vs, rfl, sq, p2 W1 H1 eg.symm Ext.refl R1.gr _ ⟨_, _, by rw [enumD_len, ← l]; exact walk_enum (xs := vs), fun W' H' x _ => (st W' H' x).1, fun i W' H' y H'' hi x g q => ?_⟩⟩
      obtain ⟨T, x0, y0, rfl, n, rfl, q1, q2⟩ := q
      cases q1
      obtain ⟨d0, h1, h2⟩ := (st W' _ x).2.at2 q2
      obtain ⟨g', x', rv⟩ := pair_new g (.int _) h2 n
      exact ⟨_, enumD_at h1, g', x', rv⟩
  · cases e2
theorem ti_zip {a b : Expr} {ta : En → M (List D)} {p pos tpos : Pos} {elts : List Expr} {kk : Nat} (hg : Gl X "zip") (hm : X.mg "zip" = none) (ha : PA X [a, b] (upA (Cxp X) We ta))
    (hs : starEach [a, b] X.env = (false, eval a X.env) :: starEach [b] X.env := by rfl) (hpl : (backTo pos (starEach [b] X.env)).any (·.1) = false := by rfl) :
    PI X (.Tuple elts kk tpos) (.Call (.Name "zip" p) [a, b] [] pos) (upI (Cxp X) We (dRng zip2 ta)) := PI.imp (pi_zip hg hm ha hs hpl) fun σ H R0 h => by
  obtain ⟨W, ρ, r, G', hR, e, p⟩ := h
  refine upi_bnd hR e p fun d W1 v H1 x1 R1 r1 e1 p1 => ?_
  obtain ⟨ds, e2, p2⟩ := upi_lft e1 p1
  obtain ⟨e2, eg⟩ := pur_eq e2
  unfold zip2 at e2
  split at e2
  · split at e2
    · rename_i xs ys hx hy
      cases e2
      cases r1 with
      | cons h1 r1 => cases r1 with
        | cons h2 r1 =>
          cases r1
          obtain ⟨a1, vs, rfl, l1, sq1, st1⟩ := itL_sq R1.gr h1 hx
          obtain ⟨a2, ws, rfl, l2, sq2, st2⟩ := itL_sq R1.gr h2 hy
          refine ⟨a1, a2, vs, ws, rfl, sq1, sq2, p2 W1 H1 eg.symm Ext.refl R1.gr _ ⟨_, _, walk_zip (xs := vs) (ys := ws) (by rw [zipD_len, l1, l2]), fun W' H' x _ => ⟨(st1 W' H' x).1, (st2 W' H' x).1⟩, fun i W' H' y H'' hi x g q => ?_⟩⟩
          obtain ⟨T, x0, y0, rfl, n, rfl, q1, q2⟩ := q
          obtain ⟨d1, h1, r1⟩ := (st1 W' _ x).2.at2 q1
          obtain ⟨d2, h2, r2⟩ := (st2 W' _ x).2.at2 q2
          obtain ⟨g', x', rv⟩ := pair_new g r1 r2 n
          exact ⟨_, zipD_at h1 h2, g', x', rv⟩
    · cases e2
  · cases e2
end

/-! ### list comprehensions, one for -/
abbrev WeF : WE' := fun _ _ _ _ => False
def wipeD (ρ : En) : List Nat → En
  | [] => ρ
  | v :: vs => (wipeD ρ vs).set v none
/-- no error leaves -/
def bndN {A B : Type} (m : M A) (k : A → M B) : M B := fun G => match m G with
  | some (.inr a, G1) => k a G1
  | _ => none
theorem bndN_eq {A B : Type} {m : M A} {k : A → M B} {G G' : List O} {r : Sum Er B} (e : bndN m k G = some (r, G')) : ∃ a G1, m G = some (.inr a, G1) ∧ k a G1 = some (r, G') := by
  unfold bndN at e
  split at e
  · rename_i a G1 he
    exact ⟨a, G1, he, e⟩
  · cases e
def lcL (g : D → En → P1 En) (t : En → M Bool) (a : En → M D) (ρ : En) : List D → M (List D)
  | [] => ret []
  | d :: r => bndN (lft (g d ρ)) fun ρ1 => bndN (t ρ1) fun b => if b = true then bndN (a ρ1) fun y => bndN (lcL g t a ρ r) fun ys => ret (y :: ys) else lcL g t a ρ r
def okL (xs : List D) : P1 D := pur (lstO xs)
def dLc (di : En → M (List D)) (g : D → En → P1 En) (t : En → M Bool) (a : En → M D) (own : List Nat) : En → M D := fun ρ => bnd (di ρ) fun ds => bndN (lcL g t a (wipeD ρ own) ds) fun ys => lft (okL ys)
def dYes : En → M Bool := fun _ => ret true
theorem Rs.wipe {K : Pm} {W : Wd} {ρ : En} {σ : L2.St} {H : Hp} (r : Rs K W ρ σ H) : ∀ own, Rs K W (wipeD ρ own) (wipe σ own) H
  | [] => r
  | v :: vs => by
    have ih := Rs.wipe r vs
    refine ⟨ih.gr, by simp [wipeD, L2.wipe, ih.len], fun i d e => ?_⟩
    have e' : ((wipeD ρ vs).set v none)[i]? = some (some d) := e
    show ∃ u, ((L2.wipe σ vs).set v none)[i]? = some (some u) ∧ _
    by_cases h : v = i
    · subst h
      by_cases hl : v < (wipeD ρ vs).length
      · rw [List.getElem?_set_self hl] at e'; cases e'
      · rw [List.getElem?_eq_none_iff.mpr (by simpa using Nat.le_of_not_lt hl)] at e'; cases e'
    · rw [List.getElem?_set_ne h] at e' ⊢
      exact ih.var i d e'
theorem wipe_at (σ : L2.St) (i : Nat) : ∀ vs : List Nat, (L2.wipe σ vs)[i]? = if i ∈ vs then (σ[i]?).map fun _ => none else σ[i]?
  | [] => by simp [L2.wipe]
  | v :: vs => by
    show ((L2.wipe σ vs).set v none)[i]? = _
    have ih := wipe_at σ i vs
    by_cases h : v = i
    · subst h
      rw [List.getElem?_set]
      have hl : (L2.wipe σ vs).length = σ.length := wipe_length σ vs
      by_cases hv : v < σ.length
      · simp [hl, hv]
      · simp [hl, hv, List.getElem?_eq_none_iff.mpr (Nat.le_of_not_lt hv)]
    · rw [List.getElem?_set_ne h, ih]
      have hi : ¬ i = v := fun e => h e.symm
      by_cases hm : i ∈ vs
      · rw [if_pos hm, if_pos (List.mem_cons_of_mem _ hm)]
      · rw [if_neg hm, if_neg (by simp [hi, hm])]
theorem wipe_wipe (σ : L2.St) (vs : List Nat) : L2.wipe (L2.wipe σ vs) vs = L2.wipe σ vs := by
  apply List.ext_getElem?
  intro i
  rw [wipe_at, wipe_at]
  by_cases h : i ∈ vs
  · simp only [if_pos h]; cases σ[i]? <;> rfl
  · simp only [if_neg h]
theorem wipe_set (σ : L2.St) (vs : List Nat) {i : Nat} (x : Option V) (h : i ∈ vs) : L2.wipe (σ.set i x) vs = L2.wipe σ vs := by
  apply List.ext_getElem?
  intro j
  rw [wipe_at, wipe_at]
  by_cases hj : j ∈ vs
  · simp only [if_pos hj]
    by_cases e : i = j
    · subst e
      rw [List.getElem?_set]
      by_cases hl : i < σ.length
      · simp [hl]
      · simp [hl]
    · rw [List.getElem?_set_ne e]
  · simp only [if_neg hj]
    rw [List.getElem?_set_ne fun e => hj (by rw [← e]; exact h)]
/-- a target within a comprehension's block, by its own reading -/
def GRaw (K : Pm) (tg : TG) (g : D → En → P1 En) (own : List Nat) : Prop := ∀ (W : Wd) (ρ : En) (σ : L2.St) (H : Hp) (v : V) (d : D) (ρ' : En) (G' : List O) (Q : L2.St → Hp → Prop), Rs K W ρ σ H → Rv K W H v d → g d ρ W.G = some (ρ', G') →
  (∀ σ', G' = W.G → Rs K W ρ' σ' H → L2.wipe σ' own = L2.wipe σ own → Q σ' H) → tg v σ H Q
def GsRaw (K : Pm) (tg : TGs) (g : List D → En → P1 En) (own : List Nat) : Prop := ∀ (W : Wd) (ρ : En) (σ : L2.St) (H : Hp) (vs : List V) (ds : List D) (ρ' : En) (G' : List O) (Q : L2.St → Hp → Prop), Rs K W ρ σ H → Rvs K W H vs ds → g ds ρ W.G = some (ρ', G') →
  (∀ σ', G' = W.G → Rs K W ρ' σ' H → L2.wipe σ' own = L2.wipe σ own → Q σ' H) → tg vs σ H Q
section
variable {K : Pm} {own : List Nat}
theorem raw_n {i : Nat} (h : i ∈ own) : GRaw K (gName i) (gN i) own := fun W ρ σ H v d ρ' G' Q hR rv e p => by
  cases e
  exact p _ rfl (hR.set rv i) (wipe_set σ own _ h)
theorem raws_nil : GsRaw K gNil gsNil own := fun W ρ σ H vs ds ρ' G' Q hR rv e p => by
  cases rv with
  | nil => cases e; exact ⟨rfl, p σ rfl hR rfl⟩
  | cons _ _ => cases e
theorem raws_cons {t : TG} {ts : TGs} {ga : D → En → P1 En} {gb : List D → En → P1 En} (h1 : GRaw K t ga own) (h2 : GsRaw K ts gb own) : GsRaw K (gCons t ts) (gsCons ga gb) own := fun W ρ σ H vs ds ρ' G' Q hR rv e p => by
  cases rv with
  | nil => cases e
  | cons h r =>
    unfold gsCons at e
    split at e
    · cases e
    · rename_i d r' heq
      cases heq
      split at e
      · rename_i ρ1 G1 he
        refine ⟨_, _, rfl, h1 W ρ σ H _ _ ρ1 G1 _ hR h he fun σ1 eg1 R1 w1 => h2 W ρ1 σ1 H _ _ ρ' G' _ R1 r (by rw [← eg1]; exact e) fun σ2 eg2 R2 w2 => p σ2 eg2 R2 (w2.trans w1)⟩
      · cases e
theorem raw_t {n : Nat} {ts : TGs} {gb : List D → En → P1 En} (h : GsRaw K ts gb own) : GRaw K (gTup K.K n ts) (gT n gb) own := fun W ρ σ H v d ρ' G' Q hR rv e p => by
  unfold gT at e
  split at e
  · split at e
    · rename_i z
      cases rv with
      | tup ha r => exact ⟨_, _, rfl, ha, by rw [r.length]; exact z, h W ρ σ H _ _ ρ' G' Q hR r e p⟩
    · cases e
  · cases e
end
theorem Ext.off {W0 W1 : Wd} {H0 H1 : Hp} {p : Addr} {u : HO} (x : Ext W0 H0 W1 H1) (n : H0 p = none) : Ext W0 H0 W1 (upd H1 p u) := by
  refine ⟨x.b, x.b', fun a h => th_upd a (x.th a h), x.pre, fun a o h l => ?_, fun a vs h => ?_⟩
  · obtain ⟨p1, p2⟩ := x.keep a o h l
    exact ⟨by rw [upd_ne (not_there h n)]; exact p1, p2⟩
  · rw [upd_ne (not_there h n)]; exact x.tup a vs h
/-- what a comprehension holds between two turns -/
structure LcI (K : Pm) (W0 : Wd) (H0 : Hp) (Da : Addr) (W1 : Wd) (H1 : Hp) (acc : List D) : Prop where
  x : Ext W0 H0 W1 H1
  g : Gr K W1 H1
  b : Da ∈ W1.B
  v : ∃ vs, H1 Da = some (.lst vs) ∧ Rvs K W1 H1 vs acc
theorem LcI.step {K : Pm} {W0 W1 W2 : Wd} {H0 H1 H2 : Hp} {Da : Addr} {acc : List D} (i : LcI K W0 H0 Da W1 H1 acc) (x : Ext W1 H1 W2 H2) (g : Gr K W2 H2) : LcI K W0 H0 Da W2 H2 acc := by
  obtain ⟨vs, h, r⟩ := i.v
  refine ⟨i.x.trans x, g, x.b _ i.b, vs, (x.keep Da _ h fun l => ?_).1, r.keep i.g x⟩
  obtain ⟨m, o, h1, _⟩ := l
  exact i.g.dis Da i.b (List.mem_of_getElem? h1)
theorem LcI.more {K : Pm} {W0 W1 : Wd} {H0 H1 : Hp} {Da : Addr} {acc : List D} {y : D} {w : V} (i : LcI K W0 H0 Da W1 H1 acc) (n : H0 Da = none) (r : Rv K W1 H1 w y) :
    ∃ vs, H1 Da = some (.lst vs) ∧ vs.length = acc.length ∧ LcI K W0 H0 Da W1 (upd H1 Da (.lst (vs ++ [w]))) (acc ++ [y]) := by
  obtain ⟨vs, h, q⟩ := i.v
  have nt : ∀ ws, H1 Da ≠ some (.tup ws) := fun ws e => by rw [h] at e; cases e
  have nf : ∀ o u, H1 Da ≠ some (.frz o u) := fun o u e => by rw [h] at e; cases e
  exact ⟨vs, h, q.length, i.x.off n, i.g.off i.b nt nf, i.b, _, upd_same, Drs.off i.b nt nf (q.app (.cons r .nil))⟩
theorem LcI.start {K : Pm} {W0 : Wd} {H0 : Hp} {Da : Addr} (g : Gr K W0 H0) (n : H0 Da = none) : LcI K W0 H0 Da (W0.ban Da) (upd H0 Da (.lst [])) [] :=
  ⟨Ext.ban n, g.ban n, List.mem_cons_self, [], upd_same, .nil⟩
theorem LcI.done {K : Pm} {W0 W1 : Wd} {H0 H1 : Hp} {Da : Addr} {acc : List D} (i : LcI K W0 H0 Da W1 H1 acc) (g0 : Gr K W0 H0) (n : H0 Da = none) :
    Ext W0 H0 (W1.bans W0.B) H1 ∧ Gr K (W1.bans W0.B) H1 ∧ Rv K (W1.bans W0.B) H1 (.ref Da) (.lst acc) := by
  obtain ⟨vs, h, q⟩ := i.v
  refine ⟨i.x.bans i.x.b fun _ h => h, i.g.bans i.x.b, .lst h (fun l => ?_) (Drs.less (L_bans i.x.b) q)⟩
  rcases l with ⟨m, o, h1, _⟩ | l
  · exact i.g.dis Da i.b (List.mem_of_getElem? h1)
  · obtain ⟨o, e⟩ := g0.thB Da l
    rw [n] at e; cases e
section
variable {X : Cx} {We : WE'}
theorem lc_up {wi : TI} {tgr : TG} {di : En → M (List D)} {g : D → En → P1 En} {t : En → M Bool} {a : En → M D} {own : List Nat} (hgr : GRaw (Cxp X) tgr g own) {σ : L2.St} {H : Hp} {Q : VK} (h : upE (Cxp X) We (dLc di g t a own) σ H Q) :
    tLc (upI (Cxp X) We di) tgr (upT (Cxp X) WeF t) (upE (Cxp X) WeF a) own σ H Q := by
  obtain ⟨W, ρ, r, G', hR, e, p⟩ := h
  unfold dLc bnd at e
  split at e
  · rename_i ds G1 he
    refine ⟨W, ρ, .inr ds, G1, hR, he, fun W0 H0 eg0 x0 g0 J wd Da nD => ?_⟩
    obtain ⟨Gd, Y, wk, st, yl⟩ := wd.ex
    rw [← eg0] at e
    obtain ⟨ys, Gx, e1, e2⟩ := bndN_eq e
    obtain ⟨dl, e3, e4⟩ : ∃ dl, okL ys Gx = some (dl, G') ∧ r = .inr dl := by
      unfold lft at e2
      split at e2
      · rename_i dl G2 hk; cases e2; exact ⟨dl, hk, rfl⟩
      · cases e2
    subst e4
    obtain ⟨e3, eg⟩ := pur_eq e3
    obtain ⟨hz, rfl⟩ := lstO_eq e3
    have R0 := (hR.keep g0 x0).wipe own
    refine lc_it wk (fun i H1 => ∃ (W1 : Wd) (acc rest : List D), LcI (Cxp X) W0 H0 Da W1 H1 acc ∧ lcL g t a (wipeD ρ own) (ds.drop i) W1.G = some (.inr rest, Gx) ∧ ys = acc ++ rest) ⟨W0.ban Da, [], ys, LcI.start g0 nD, (show lcL g t a (wipeD ρ own) (ds.drop 0) W0.G = _ by rw [List.drop_zero]; exact e1), rfl⟩
      (fun i H1 _ ⟨W1, acc, rest, I, _⟩ => st W1 H1 I.x I.g) (fun i v H1 H2 hi ⟨W1, acc, rest, I, e5, e6⟩ y => ?_) fun H1 ⟨W1, acc, rest, I, e5, e6⟩ => ?_
    · obtain ⟨d, hd, g2, x2, rv⟩ := yl i W1 H1 v H2 hi I.x I.g y
      have ed : ds.drop i = d :: ds.drop (i + 1) := by
        obtain ⟨hl, hv⟩ := List.getElem?_eq_some_iff.mp hd
        rw [List.drop_eq_getElem_cons hl, hv]
      rw [ed] at e5
      unfold lcL at e5
      obtain ⟨ρ1, G2, e7, e8⟩ := bndN_eq e5
      have e7' : g d (wipeD ρ own) W1.G = some (ρ1, G2) := by
        unfold lft at e7
        split at e7
        · rename_i a1 G3 hk; cases e7; exact hk
        · cases e7
      have I2 := I.step x2 g2
      refine hgr W1 _ _ H2 v d ρ1 G2 _ (R0.keep g2 I2.x) rv e7' fun σ2 eg2 R2 hw => ⟨hw.trans (wipe_wipe σ own), ?_⟩
      subst eg2
      obtain ⟨b, G3, e9, e10⟩ := bndN_eq e8
      refine ⟨W1, ρ1, .inr b, G3, R2, e9, fun W4 b' H4 eg4 x4 g4 hb => ?_⟩
      cases hb
      rw [← eg4] at e10
      have I4 := I2.step x4 g4
      cases b with
      | false => exact iteF ⟨W4, acc, rest, I4, e10, e6⟩
      | true =>
        rw [if_pos rfl] at e10
        obtain ⟨y1, G5, e11, e12⟩ := bndN_eq e10
        refine iteT ⟨W4, ρ1, .inr y1, G5, R2.keep g4 x4, e11, fun W6 v6 H6 eg6 x6 g6 r6 => ?_⟩
        rw [← eg6] at e12
        obtain ⟨rest', G7, e13, e14⟩ := bndN_eq e12
        cases e14
        have I6 := I4.step x6 g6
        obtain ⟨vs, hv, hlv, I7⟩ := I6.more nD r6
        refine ⟨vs, hv, ?_, W6, acc ++ [y1], rest', I7, e13, by rw [e6]; simp⟩
        have : ys.length = acc.length + (rest'.length + 1) := by rw [e6]; simp
        exact mx_lt (by omega)
    · rw [List.drop_length] at e5
      unfold lcL at e5
      cases e5
      obtain ⟨xe, ge, re⟩ := I.done g0 nD
      rw [List.append_nil] at e6
      subst e6
      exact p (W1.bans W0.B) _ H1 eg.symm (x0.trans xe) ge re
  · rename_i er G1 he
    cases e
    exact ⟨W, ρ, .inl er, _, hR, he, p⟩
  · cases e
theorem te_lc {elt tg iter : Expr} {ifs : List Expr} {scope : Scope} {own : List (Str × Nat)} {pos : Pos} {tgr : TG} {di : En → M (List D)} {g : D → En → P1 En} {t : En → M Bool} {a : En → M D} (hc : X.calm = true) (hN : X.N.Nodup) (hi : PI X tg iter (upI (Cxp X) We di)) (ok : BlkOk X.N X.env.scope scope own)
    (hgr : GRaw (Cxp X) tgr g (own.map (·.2))) (hg : ∀ (s : Shared) (H : Hp) (C : Addr) (cl : List (Str × Addr)) (fp : List Addr), PG (X.blk s H scope (compEnvC scope cl C X.env) fp) tg tgr)
    (ht : ∀ (s : Shared) (H : Hp) (C : Addr) (cl : List (Str × Addr)) (fp : List Addr), PTs (X.blk s H scope (compEnvC scope cl C X.env) fp) ifs (upT (Cxp X) WeF t))
    (he : ∀ (s : Shared) (H : Hp) (C : Addr) (cl : List (Str × Addr)) (fp : List Addr), PE (X.blk s H scope (compEnvC scope cl C X.env) fp) elt (upE (Cxp X) WeF a)) (hs : ∀ x, foldedSetIterable iter X.env x = pure x := by intro _; rfl) :
    PE X (.ListComp elt [⟨tg, iter, ifs, 0⟩] scope pos) (upE (Cxp X) We (dLc di g t a (own.map (·.2)))) := PE.imp (pe_lc hc hN hi ok hg ht he hs) fun σ H Q h => lc_up (wi := upI (Cxp X) We di) hgr h
theorem tts_nil : PTs X [] (upT (Cxp X) We dYes) := ⟨fun pins s σ H Q I h => pts_nil.run pins s σ H Q I (by
  obtain ⟨W, ρ, r, G', hR, e, p⟩ := h
  exact up_ret e p W true H rfl Ext.refl hR.gr rfl)⟩
theorem tts_one {c : Expr} {t : En → M Bool} (h : PT X c (upT (Cxp X) We t)) : PTs X [c] (upT (Cxp X) We t) := pts_one h
/-- name = [..] -/
theorem tS_setLc {i : Nat} {y : Str} {py : Pos} {elt tg iter : Expr} {ifs : List Expr} {scope : Scope} {own : List (Str × Nat)} {pos spos : Pos} {tgr : TG} {di : En → M (List D)} {g : D → En → P1 En} {t : En → M Bool} {a : En → M D} (hc : X.calm = true) (hN : X.N.Nodup) (hy : X.N[i]? = some y) (hyl : X.env.scope.names.lookup y = some .local)
    (hsw : swapsWith (.ListComp elt [⟨tg, iter, ifs, 0⟩] scope pos) (some (.Name y py)) spos.line X.env = pure true) (hi : PI X tg iter (upI (Cxp X) We di)) (ok : BlkOk X.N X.env.scope scope own)
    (hgr : GRaw (Cxp X) tgr g (own.map (·.2))) (hg : ∀ (s : Shared) (H : Hp) (C : Addr) (cl : List (Str × Addr)) (fp : List Addr), PG (X.blk s H scope (compEnvC scope cl C X.env) fp) tg tgr)
    (ht : ∀ (s : Shared) (H : Hp) (C : Addr) (cl : List (Str × Addr)) (fp : List Addr), PTs (X.blk s H scope (compEnvC scope cl C X.env) fp) ifs (upT (Cxp X) WeF t))
    (he : ∀ (s : Shared) (H : Hp) (C : Addr) (cl : List (Str × Addr)) (fp : List Addr), PE (X.blk s H scope (compEnvC scope cl C X.env) fp) elt (upE (Cxp X) WeF a)) (hs : ∀ x, foldedSetIterable iter X.env x = pure x := by intro _; rfl) :
    PS X (.Assign [.Name y py] (.ListComp elt [⟨tg, iter, ifs, 0⟩] scope pos) spos) (ups (Cxp X) We (dAsg (dLc di g t a (own.map (·.2))) (gN i))) := PS.imp (ps_setLc hc hN hy hyl hsw hi ok hg ht he hs) fun D0 σ H h => by
  obtain ⟨W, ρ, r, G', hR, e, p⟩ := h
  refine lc_up (We := We) (wi := upI (Cxp X) We di) hgr (ups_bnd hR e p fun d W1 v H1 x1 R1 r1 e1 p1 => ?_)
  obtain ⟨ρ', G2, e2, e3⟩ := bnd_lft e1
  cases e2
  exact nx_end e3 p1 rfl Ext.refl (R1.set r1 i)
end
end Tw

namespace Tw
open PySem PySem.Spec PyProof.Rows L2

/-! ### built-ins by values -/
def CallD (K : Pm) (r : List V → Hp → VK → Prop) (f : List D → P1 D) : Prop := ∀ (W : Wd) (H : Hp) (vs : List V) (ds : List D) (d : D) (G' : List O) (Q : VK), Gr K W H → Rvs K W H vs ds → f ds W.G = some (d, G') →
  (∀ (W' : Wd) (v : V) (H' : Hp), W'.G = G' → Ext W H W' H' → Gr K W' H' → Rv K W' H' v d → Q v H') → r vs H Q
def dCall (f : List D → P1 D) (a : En → M (List D)) : En → M D := fun ρ => bnd (a ρ) fun ds => lft (f ds)
def pur1 (f : D → Option D) : List D → P1 D := fun ds => pur (match ds with | [x] => f x | _ => none)
def purL (f : List D → Option D) : List D → P1 D := fun ds => pur (f ds)
section
variable {X : Cx} {We : WE'} {x : Str} {p pos : Pos} {e : Expr} {es : List Expr} {da : En → M (List D)} {r : List V → Hp → VK → Prop} {f : List D → P1 D}
theorem call_up (hd : CallD (Cxp X) r f) {σ : L2.St} {H : Hp} {Q : VK} (h : upE (Cxp X) We (dCall f da) σ H Q) : upA (Cxp X) We da σ H (fun vs H1 => r vs H1 Q) := by
  obtain ⟨W, ρ, r, G', hR, e, p⟩ := h
  refine up_bnd hR e p fun d W1 v H1 x1 R1 r1 e1 p1 => ?_
  obtain ⟨d2, e2, p2⟩ := up_lft e1 p1
  exact hd W1 H1 v d d2 G' Q R1.gr r1 e2 p2
theorem te_blt {id : String} (hc : CallR X (.builtin id) r) (hd : CallD (Cxp X) r f) (hg : Gl X x) (hm : X.mg x = none) (hv : bootBuiltins x = some (.builtin id)) (ha : PA X (e :: es) (upA (Cxp X) We da)) (hn : x ≠ "__name__" := by decide) (hdb : (x == ("__debug__" : Str)) = false := by decide)
    (he : starEach (e :: es) X.env = (false, eval e X.env) :: starEach es X.env := by rfl) (hpl : (backTo pos (starEach es X.env)).any (·.1) = false := by rfl) :
    PE X (.Call (.Name x p) (e :: es) [] pos) (upE (Cxp X) We (dCall f da)) := PE.imp (pe_callB hc hg hm hv ha hn hdb he hpl) fun σ H Q h => call_up hd h
theorem te_ty {T : String} (hc : CallR X (.type T) r) (hd : CallD (Cxp X) r f) (hg : Gl X x) (hm : X.mg x = none) (hv : bootBuiltins x = some (.type T)) (ha : PA X (e :: es) (upA (Cxp X) We da)) (hn : x ≠ "__name__" := by decide) (hdb : (x == ("__debug__" : Str)) = false := by decide)
    (he : starEach (e :: es) X.env = (false, eval e X.env) :: starEach es X.env := by rfl) (hpl : (backTo pos (starEach es X.env)).any (·.1) = false := by rfl) :
    PE X (.Call (.Name x p) (e :: es) [] pos) (upE (Cxp X) We (dCall f da)) := PE.imp (pe_callTy hc hg hm hv ha hn hdb he hpl) fun σ H Q h => call_up hd h
end
section
variable {K : Pm}
theorem pur1_eq {f : D → Option D} {ds : List D} {d : D} {G G' : List O} (h : pur1 f ds G = some (d, G')) : ∃ x, ds = [x] ∧ f x = some d ∧ G' = G := by
  obtain ⟨e, eg⟩ := pur_eq h
  split at e
  · exact ⟨_, rfl, e, eg⟩
  · cases e
/-- len -/
def lenP : List D → P1 D := fun ds G => match ds with
  | [.str x] => if x.length ≤ mx then some (.int x.length, G) else none
  | [.tup xs] => some (.int xs.length, G)
  | [.lst xs] => some (.int xs.length, G)
  | [.scr xs] => some (.int xs.length, G)
  | [.ref n] => match G[n]? with
    | some (.lst xs) => some (.int xs.length, G)
    | _ => none
  | _ => none
theorem cd_len : CallD K (fun xs H Q => ∃ x n, xs = [x] ∧ LenV K.K x H n ∧ Q (.int n) H) lenP := fun W H vs ds d G' Q g r e p => by
  unfold lenP at e
  split at e
  · split at e
    · rename_i z
      cases e
      cases r with
      | cons h r => cases r; cases h; exact ⟨_, _, rfl, ⟨mx_line z, rfl⟩, p W _ H rfl Ext.refl g (.int _)⟩
    · cases e
  · cases e
    cases r with
    | cons h r => cases r; cases h with
      | tup h q => exact ⟨_, _, rfl, .inr ⟨_, h, rfl⟩, p W _ H rfl Ext.refl g (by rw [q.length]; exact .int _)⟩
  · cases e
    cases r with
    | cons h r => cases r; cases h with
      | lst h n q => exact ⟨_, _, rfl, .inl ⟨_, SqL.of h, rfl⟩, p W _ H rfl Ext.refl g (by rw [q.length]; exact .int _)⟩
  · cases e
    cases r with
    | cons h r => cases r; cases h with
      | scr h q => exact ⟨_, _, rfl, .inl ⟨_, h.sq, rfl⟩, p W _ H rfl Ext.refl g (by rw [q.length]; exact .int _)⟩
  · split at e
    · rename_i hn
      cases e
      cases r with
      | cons h r => cases r; cases h with
        | ref ha =>
          obtain ⟨ws, hh, q⟩ := g.obj _ _ _ ha hn
          exact ⟨_, _, rfl, .inl ⟨_, SqL.of hh, rfl⟩, p W _ H rfl Ext.refl g (by rw [q.length]; exact .int _)⟩
    · cases e
  · cases e
/-- int(n), int(flag); abs; min, max of two ints -/
def intF : D → Option D
  | .int i => some (.int i)
  | .bl k => some (.int (if k then 1 else 0))
  | _ => none
theorem cd_int : CallD K (fun xs H Q => (∃ i, xs = [.int i] ∧ Q (.int i) H) ∨ ∃ k, xs = [.bl k] ∧ Q (.int (if k then 1 else 0)) H) (pur1 intF) := fun W H vs ds d G' Q g r e p => by
  obtain ⟨x, rfl, e0, rfl⟩ := pur1_eq e
  unfold intF at e0
  split at e0
  · cases e0
    cases r with
    | cons h r => cases r; cases h; exact .inl ⟨_, rfl, p W _ H rfl Ext.refl g (.int _)⟩
  · cases e0
    cases r with
    | cons h r => cases r; cases h; exact .inr ⟨_, rfl, p W _ H rfl Ext.refl g (.int _)⟩
  · cases e0
def absF : D → Option D
  | .int i => some (.int (if i < 0 then -i else i))
  | _ => none
theorem cd_abs : CallD K (fun xs H Q => ∃ i, xs = [.int i] ∧ Q (.int (if i < 0 then -i else i)) H) (pur1 absF) := fun W H vs ds d G' Q g r e p => by
  obtain ⟨x, rfl, e0, rfl⟩ := pur1_eq e
  unfold absF at e0
  split at e0
  · cases e0
    cases r with
    | cons h r => cases r; cases h; exact ⟨_, rfl, p W _ H rfl Ext.refl g (.int _)⟩
  · cases e0
def ii (f : Int → Int → Int) : List D → Option D
  | [.int i, .int j] => some (.int (f i j))
  | _ => none
theorem cd_ii {f : Int → Int → Int} : CallD K (fun xs H Q => ∃ i j, xs = [.int i, .int j] ∧ Q (.int (f i j)) H) (purL (ii f)) := fun W H vs ds d G' Q g r e p => by
  obtain ⟨e0, rfl⟩ := pur_eq e
  unfold ii at e0
  split at e0
  · cases e0
    cases r with
    | cons h r => cases r with
      | cons h2 r => cases r; cases h; cases h2; exact ⟨_, _, rfl, p W _ H rfl Ext.refl g (.int _)⟩
  · cases e0
abbrev min2 : Int → Int → Int := fun i j => if j < i then j else i
abbrev max2 : Int → Int → Int := fun i j => if j > i then j else i
/-- all, any of a list of bools; sum of a list of ints -/
def blsO : List D → Option (List Bool)
  | [] => some []
  | .bl b :: r => (blsO r).map fun bs => b :: bs
  | _ :: _ => none
def intsO : List D → Option (List Int)
  | [] => some []
  | .int b :: r => (intsO r).map fun bs => b :: bs
  | _ :: _ => none
def strsO : List D → Option (List Str)
  | [] => some []
  | .str b :: r => (strsO r).map fun bs => b :: bs
  | _ :: _ => none
section
variable {L : Addr → Prop} {α : List Addr} {H : Hp}
theorem bls_v : ∀ {vs : List V} {ds : List D} {bs : List Bool}, Drs K L α H vs ds → blsO ds = some bs → vs = bs.map V.bl
  | _, _, _, .nil, e => by cases e; rfl
  | _, _, _, .cons (d := d) h r, e => by
    cases d with
    | bl b =>
      obtain ⟨q, h1, rfl⟩ := Option.map_eq_some_iff.mp (by simpa [blsO] using e)
      cases h
      rw [List.map_cons, bls_v r h1]
    | _ => cases e
theorem ints_v : ∀ {vs : List V} {ds : List D} {bs : List Int}, Drs K L α H vs ds → intsO ds = some bs → vs = bs.map V.int
  | _, _, _, .nil, e => by cases e; rfl
  | _, _, _, .cons (d := d) h r, e => by
    cases d with
    | int b =>
      obtain ⟨q, h1, rfl⟩ := Option.map_eq_some_iff.mp (by simpa [intsO] using e)
      cases h
      rw [List.map_cons, ints_v r h1]
    | _ => cases e
theorem strs_v : ∀ {vs : List V} {ds : List D} {bs : List Str}, Drs K L α H vs ds → strsO ds = some bs → vs = bs.map V.str
  | _, _, _, .nil, e => by cases e; rfl
  | _, _, _, .cons (d := d) h r, e => by
    cases d with
    | str b =>
      obtain ⟨q, h1, rfl⟩ := Option.map_eq_some_iff.mp (by simpa [strsO] using e)
      cases h
      rw [List.map_cons, strs_v r h1]
    | _ => cases e
theorem drs_strs : ∀ xs : List Str, Drs K L α H (xs.map V.str) (xs.map D.str)
  | [] => .nil
  | x :: xs => .cons (.str x) (drs_strs xs)
end
/-- what stands in a list, ours or not -/
def inL (d : D) (G : List O) : Option (List D) := match d with
  | .lst xs => some xs
  | .scr xs => some xs
  | .ref n => match G[n]? with
    | some (.lst xs) => some xs
    | _ => none
  | _ => none
theorem inL_sq {W : Wd} {H : Hp} {v : V} {d : D} {xs : List D} (g : Gr K W H) (r : Rv K W H v d) (e : inL d W.G = some xs) : ∃ a vs, v = .ref a ∧ SqL K.K H a vs ∧ Rvs K W H vs xs := by
  unfold inL at e
  split at e
  · cases e; cases r with
    | lst h n q => exact ⟨_, _, rfl, SqL.of h, q⟩
  · cases e; cases r with
    | scr h q => exact ⟨_, _, rfl, h.sq, q⟩
  · split at e
    · rename_i hn
      cases e; cases r with
      | ref ha =>
        obtain ⟨vs, hh, q⟩ := g.obj _ _ _ ha hn
        exact ⟨_, vs, rfl, SqL.of hh, q⟩
    · cases e
  · cases e
def lP (f : List D → Option D) : List D → P1 D := fun ds G => match ds with
  | [x] => match inL x G with
    | some xs => match f xs with
      | some d => some (d, G)
      | none => none
    | none => none
  | _ => none
theorem lP_eq {f : List D → Option D} {ds : List D} {d : D} {G G' : List O} (h : lP f ds G = some (d, G')) : ∃ x xs, ds = [x] ∧ inL x G = some xs ∧ f xs = some d ∧ G' = G := by
  unfold lP at h
  split at h
  · split at h
    · split at h
      · rename_i h1 _ _ h2
        cases h
        exact ⟨_, _, rfl, h1, h2, rfl⟩
      · cases h
    · cases h
  · cases h
def allF (xs : List D) : Option D := (blsO xs).map fun bs => .bl (bs.all id)
def anyF (xs : List D) : Option D := (blsO xs).map fun bs => .bl (bs.any id)
def sumF (xs : List D) : Option D := (intsO xs).map fun bs => .int bs.sum
theorem cd_all : CallD K (rAll K.K) (lP allF) := fun W H vs ds d G' Q g r e p => by
  obtain ⟨x, xs, rfl, h1, h2, rfl⟩ := lP_eq e
  obtain ⟨bs, h3, rfl⟩ := Option.map_eq_some_iff.mp h2
  cases r with
  | cons h r =>
    cases r
    obtain ⟨a, ws, rfl, sq, q⟩ := inL_sq g h h1
    cases bls_v q h3
    exact ⟨a, bs, rfl, sq, p W _ H rfl Ext.refl g (.bl _)⟩
theorem cd_any : CallD K (rAny K.K) (lP anyF) := fun W H vs ds d G' Q g r e p => by
  obtain ⟨x, xs, rfl, h1, h2, rfl⟩ := lP_eq e
  obtain ⟨bs, h3, rfl⟩ := Option.map_eq_some_iff.mp h2
  cases r with
  | cons h r =>
    cases r
    obtain ⟨a, ws, rfl, sq, q⟩ := inL_sq g h h1
    cases bls_v q h3
    exact ⟨a, bs, rfl, sq, p W _ H rfl Ext.refl g (.bl _)⟩
theorem cd_sum : CallD K (rSum K.K) (lP sumF) := fun W H vs ds d G' Q g r e p => by
  obtain ⟨x, xs, rfl, h1, h2, rfl⟩ := lP_eq e
  obtain ⟨bs, h3, rfl⟩ := Option.map_eq_some_iff.mp h2
  cases r with
  | cons h r =>
    cases r
    obtain ⟨a, ws, rfl, sq, q⟩ := inL_sq g h h1
    cases ints_v q h3
    exact ⟨a, bs, rfl, sq, p W _ H rfl Ext.refl g (.int _)⟩
/-- list(x), tuple(x): of a list, a tuple -/
def inS (d : D) (G : List O) : Option (List D) := match d with
  | .tup xs => some xs
  | d => inL d G
def listP (f : List D → P1 D) : List D → P1 D := fun ds G => match ds with
  | [x] => match inS x G with
    | some xs => f xs G
    | none => none
  | _ => none
theorem inS_sq {W : Wd} {H : Hp} {v : V} {d : D} {xs : List D} (g : Gr K W H) (r : Rv K W H v d) (e : inS d W.G = some xs) : ∃ a vs, v = .ref a ∧ ((SqL K.K H a vs ∧ ∀ zs, d ≠ .tup zs) ∨ (SqT K.K H a vs ∧ d = .tup xs)) ∧ Rvs K W H vs xs := by
  unfold inS at e
  split at e
  · cases e; cases r with
    | tup h q => exact ⟨_, _, rfl, .inr ⟨h, rfl⟩, q⟩
  · rename_i hne
    obtain ⟨a, vs, rfl, sq, q⟩ := inL_sq g r e
    exact ⟨a, vs, rfl, .inl ⟨sq, fun zs h => hne zs h⟩, q⟩
theorem listP_eq {f : List D → P1 D} {ds : List D} {d : D} {G G' : List O} (h : listP f ds G = some (d, G')) : ∃ x xs, ds = [x] ∧ inS x G = some xs ∧ f xs G = some (d, G') := by
  unfold listP at h
  split at h
  · split at h
    · exact ⟨_, _, rfl, by assumption, h⟩
    · cases h
  · cases h
abbrev rListOf (K : PySem.W.Frag) : List V → Hp → VK → Prop := fun xs H Q => ∃ p ys, xs = [.ref p] ∧ (SqL K H p ys ∨ SqT K H p ys) ∧ ∀ l, H l = none → Q (.ref l) (upd H l (.lst ys))
theorem cd_list : CallD K (rListOf K.K) (listP okL) := fun W H vs ds d G' Q g r e p => by
  obtain ⟨x, xs, rfl, h1, h2⟩ := listP_eq e
  obtain ⟨h3, rfl⟩ := pur_eq h2
  obtain ⟨z, rfl⟩ := lstO_eq h3
  cases r with
  | cons h r =>
    cases r
    obtain ⟨a, ws, rfl, sq, q⟩ := inS_sq g h h1
    refine ⟨a, ws, rfl, sq.elim (fun z => .inl z.1) fun z => .inr z.1, fun l n => ?_⟩
    obtain ⟨g', x', rv⟩ := lst_new g q n
    exact p W _ _ rfl x' g' rv
theorem cd_listM : CallD K (rListOf K.K) (listP newL) := fun W H vs ds d G' Q g r e p => by
  obtain ⟨x, xs, rfl, h1, h2⟩ := listP_eq e
  obtain ⟨z, rfl, rfl⟩ := newL_eq h2
  cases r with
  | cons h r =>
    cases r
    obtain ⟨a, ws, rfl, sq, q⟩ := inS_sq g h h1
    refine ⟨a, ws, rfl, sq.elim (fun z => .inl z.1) fun z => .inr z.1, fun l n => ?_⟩
    obtain ⟨g', x', rv⟩ := mut_new g q n
    exact p (W.new l (.lst xs)) _ _ rfl x' g' rv
abbrev rTupOf (K : PySem.W.Frag) : List V → Hp → VK → Prop := fun xs H Q => ∃ p ys, xs = [.ref p] ∧ ((SqL K H p ys ∧ ∀ l, H l = none → Q (.ref l) (upd H l (.tup ys))) ∨ (SqT K H p ys ∧ Q (.ref p) H))
theorem cd_tup : CallD K (rTupOf K.K) (listP fun xs => pur (some (.tup xs))) := fun W H vs ds d G' Q g r e p => by
  obtain ⟨x, xs, rfl, h1, h2⟩ := listP_eq e
  obtain ⟨h3, rfl⟩ := pur_eq h2
  cases h3
  cases r with
  | cons h r =>
    cases r
    obtain ⟨a, ws, rfl, sq, q⟩ := inS_sq g h h1
    rcases sq with ⟨sq, _⟩ | ⟨sq, rfl⟩
    · refine ⟨a, ws, rfl, .inl ⟨sq, fun l n => ?_⟩⟩
      obtain ⟨g', x', rv⟩ := tup_new g q n
      exact p W _ _ rfl x' g' rv
    · exact ⟨a, ws, rfl, .inr ⟨sq, p W _ H rfl Ext.refl g h⟩⟩
end
end Tw

namespace Tw
open PySem PySem.Spec PyProof.Rows L2

/-! ### methods of our lists -/
def MethD (K : Pm) (r : V → List V → Hp → VK → Prop) (f : D → List D → P1 D) : Prop := ∀ (W : Wd) (H : Hp) (x : V) (vs : List V) (o : D) (ds : List D) (d : D) (G' : List O) (Q : VK), Gr K W H → Rv K W H x o → Rvs K W H vs ds → f o ds W.G = some (d, G') →
  (∀ (W' : Wd) (v : V) (H' : Hp), W'.G = G' → Ext W H W' H' → Gr K W' H' → Rv K W' H' v d → Q v H') → r x vs H Q
def isLs (d : D) : P1 Unit := fun G => match inL d G with
  | some _ => some ((), G)
  | none => none
def dMeth (f : D → List D → P1 D) (o : En → M D) (a : En → M (List D)) : En → M D := fun ρ => bnd (o ρ) fun x => bnd (lft (isLs x)) fun _ => bnd (a ρ) fun ds => lft (f x ds)
def dMeth0 (f : D → List D → P1 D) (o : En → M D) : En → M D := fun ρ => bnd (o ρ) fun x => bnd (lft (isLs x)) fun _ => lft (f x [])
theorem isLs_eq {d : D} {G G' : List O} {u : Unit} (h : isLs d G = some (u, G')) : ∃ xs, inL d G = some xs ∧ G' = G := by
  unfold isLs at h
  split at h
  · cases h; exact ⟨_, by assumption, rfl⟩
  · cases h
section
variable {X : Cx} {We : WE'} {o e : Expr} {es : List Expr} {name : Str} {apos cpos : Pos} {id : String} {r : V → List V → Hp → VK → Prop} {f : D → List D → P1 D} {dO : En → M D} {da : En → M (List D)}
theorem te_lm (slot : Slot "list" name id) (hty : typeOf (.builtin id) = pure (.type "method_descriptor")) (hm : MtR X id r) (hd : MethD (Cxp X) r f) (ho : PE X o (upE (Cxp X) We dO)) (ha : PA X (e :: es) (upA (Cxp X) We da))
    (h1 : attributeBase o name X.env (eval o X.env) = eval o X.env := by rfl)
    (h2 : (((backTo cpos (starEach (e :: es) X.env)).all fun x => !x.1) && ((backToKw cpos (keywordEach [] X.env)).all fun x => x.1.isSome) && decide ((e :: es).length + ([] : List Keyword).length + (if ([] : List Keyword).isEmpty then 0 else 1) < 30)) = true := by rfl)
    (h3 : (apos.endLine == cpos.line) = true := by rfl) (h4 : starEach (e :: es) X.env = (false, eval e X.env) :: starEach es X.env := by rfl) (h5 : (backTo cpos (starEach es X.env)).any (·.1) = false := by rfl) :
    PE X (.Call (.Attribute o name apos) (e :: es) [] cpos) (upE (Cxp X) We (dMeth f dO da)) := PE.imp (pe_bm PySem.F.plainAttrs_list slot hty hm ho ha h1 h2 h3 h4 h5) fun σ H Q h => by
  obtain ⟨W, ρ, r, G', hR, e, p⟩ := h
  refine up_bnd hR e p fun d W1 v H1 x1 R1 r1 e1 p1 => ?_
  obtain ⟨u, G2, e2, e3⟩ := bnd_lft e1
  obtain ⟨xs, hx, rfl⟩ := isLs_eq e2
  obtain ⟨a, vs, rfl, sq, _⟩ := inL_sq R1.gr r1 hx
  refine ⟨.inl ⟨rfl, vs, sq⟩, up_bnd R1 e3 p1 fun ds W4 ws H4 x4 R4 r4 e4 p4 => ?_⟩
  obtain ⟨d5, e5, p5⟩ := up_lft e4 p4
  exact hd W4 H4 _ ws d ds d5 G' Q R4.gr (r1.keep R1.gr x4) r4 e5 p5
theorem te_lm0 (slot : Slot "list" name id) (hty : typeOf (.builtin id) = pure (.type "method_descriptor")) (hm : MtR X id r) (hd : MethD (Cxp X) r f) (ho : PE X o (upE (Cxp X) We dO)) {t : PE X (.Call (.Attribute o name apos) [] [] cpos) (tBM0 X.K "list" r (upE (Cxp X) We dO))} :
    PE X (.Call (.Attribute o name apos) [] [] cpos) (upE (Cxp X) We (dMeth0 f dO)) := PE.imp t fun σ H Q h => by
  obtain ⟨W, ρ, r, G', hR, e, p⟩ := h
  refine up_bnd hR e p fun d W1 v H1 x1 R1 r1 e1 p1 => ?_
  obtain ⟨u, G2, e2, e3⟩ := bnd_lft e1
  obtain ⟨xs, hx, rfl⟩ := isLs_eq e2
  obtain ⟨a, vs, rfl, sq, _⟩ := inL_sq R1.gr r1 hx
  obtain ⟨d5, e5, p5⟩ := up_lft e3 p1
  exact ⟨.inl ⟨rfl, vs, sq⟩, hd W1 H1 _ [] d [] d5 G' Q R1.gr r1 .nil e5 p5⟩
end
section
variable {K : Pm}
theorem put_list {W : Wd} {H : Hp} {n : Nat} {a : Addr} {xs ys : List D} {vs ws : List V} (g : Gr K W H) (ha : W.α[n]? = some a) (hn : W.G[n]? = some (.lst xs)) (r : Rvs K W H ws ys) :
    Gr K (W.put n (.lst ys)) (upd H a (.lst ws)) ∧ Ext W H (W.put n (.lst ys)) (upd H a (.lst ws)) := by
  have x : Ext W H (W.put n (.lst ys)) (upd H a (.lst ws)) := Ext.put g ha hn (fun z => nomatch z)
  exact ⟨g.put ha hn (fun z => nomatch z) ⟨ws, upd_same, r.keep g x⟩, x⟩
def appF : D → List D → P1 D := fun o ds G => match o, ds with
  | .ref n, [y] => match G[n]? with
    | some (.lst xs) => if xs.length + 1 ≤ mx then some (.non, G.set n (.lst (xs ++ [y]))) else none
    | _ => none
  | _, _ => none
theorem md_app : MethD K rAppend appF := fun W H x vs o ds d G' Q g r1 r2 e p => by
  unfold appF at e
  split at e
  · split at e
    · rename_i hn
      split at e
      · rename_i z
        cases e
        cases r1 with
        | ref ha =>
          cases r2 with
          | cons h r2 =>
            cases r2
            obtain ⟨ws, hh, q⟩ := g.obj _ _ _ ha hn
            obtain ⟨g', x'⟩ := put_list (vs := ws) g ha hn (q.app (.cons h .nil))
            exact ⟨_, ws, _, rfl, rfl, hh, mx_lt (by rw [q.length]; omega), p (W.put _ _) _ _ rfl x' g' .non⟩
      · cases e
    · cases e
  · cases e
def popF : D → List D → P1 D := fun o ds G => match o, ds with
  | .ref n, [] => match G[n]? with
    | some (.lst xs) => match xs[xs.length - 1]? with
      | some y => some (y, G.set n (.lst xs.dropLast))
      | none => none
    | _ => none
  | _, _ => none
theorem Drs.dropLast {L : Addr → Prop} {α : List Addr} {H : Hp} : ∀ {vs : List V} {ds : List D}, Drs K L α H vs ds → Drs K L α H vs.dropLast ds.dropLast
  | _, _, .nil => .nil
  | _, _, .cons h .nil => .nil
  | _, _, .cons h (.cons h2 r) => .cons h (Drs.dropLast (.cons h2 r))
theorem Drs.erase {L : Addr → Prop} {α : List Addr} {H : Hp} : ∀ {vs : List V} {ds : List D} (i : Nat), Drs K L α H vs ds → Drs K L α H (vs.eraseIdx i) (ds.eraseIdx i)
  | _, _, _, .nil => .nil
  | _, _, 0, .cons h r => r
  | _, _, i + 1, .cons h r => .cons h (Drs.erase i r)
theorem Drs.set {L : Addr → Prop} {α : List Addr} {H : Hp} {v : V} {d : D} (q : Dr K L α H v d) : ∀ {vs : List V} {ds : List D} (i : Nat), Drs K L α H vs ds → Drs K L α H (vs.set i v) (ds.set i d)
  | _, _, _, .nil => .nil
  | _, _, 0, .cons h r => .cons q r
  | _, _, i + 1, .cons h r => .cons h (Drs.set q i r)
theorem md_pop : MethD K rPop popF := fun W H x vs o ds d G' Q g r1 r2 e p => by
  unfold popF at e
  split at e
  · split at e
    · rename_i hn
      split at e
      · rename_i y hy
        cases e
        cases r1 with
        | ref ha =>
          cases r2
          obtain ⟨ws, hh, q⟩ := g.obj _ _ _ ha hn
          obtain ⟨g', x'⟩ := put_list (vs := ws) g ha hn q.dropLast
          obtain ⟨v, h1, h2⟩ := q.at hy
          exact ⟨_, ws, v, rfl, rfl, hh, by rw [q.length]; exact h1, p (W.put _ _) _ _ rfl x' g' (h2.keep g x')⟩
      · cases e
    · cases e
  · cases e
def popAtF : D → List D → P1 D := fun o ds G => match o, ds with
  | .ref n, [.int i] => match G[n]? with
    | some (.lst xs) => if (smallI i) = true then match seqIndex? i xs.length with
      | some k => match xs[k]? with
        | some y => some (y, G.set n (.lst (xs.eraseIdx k)))
        | none => none
      | none => none
      else none
    | _ => none
  | _, _ => none
theorem md_popAt : MethD K rPopAt popAtF := fun W H x vs o ds d G' Q g r1 r2 e p => by
  unfold popAtF at e
  split at e
  · split at e
    · rename_i hn
      split at e
      · rename_i hs
        split at e
        · rename_i k hk
          split at e
          · rename_i y hy
            cases e
            cases r1 with
            | ref ha =>
              cases r2 with
              | cons h r2 =>
                cases r2; cases h
                obtain ⟨ws, hh, q⟩ := g.obj _ _ _ ha hn
                obtain ⟨g', x'⟩ := put_list (vs := ws) g ha hn (q.erase k)
                obtain ⟨v, h1, h2⟩ := q.at hy
                obtain ⟨s1, s2⟩ := smallI_eq hs
                exact ⟨_, ws, _, k, v, rfl, rfl, hh, by omega, by omega, by rw [q.length]; exact hk, h1, p (W.put _ _) _ _ rfl x' g' (h2.keep g x')⟩
          · cases e
        · cases e
      · cases e
    · cases e
  · cases e
def extF : D → List D → P1 D := fun o ds G => match o, ds with
  | .ref n, [.lst ys] => match G[n]? with
    | some (.lst xs) => if xs.length + ys.length ≤ mx then some (.non, G.set n (.lst (xs ++ ys))) else none
    | _ => none
  | _, _ => none
theorem md_ext : MethD K rExtend extF := fun W H x vs o ds d G' Q g r1 r2 e p => by
  unfold extF at e
  split at e
  · split at e
    · rename_i hn
      split at e
      · rename_i z
        cases e
        cases r1 with
        | ref ha =>
          cases r2 with
          | cons h r2 =>
            cases r2
            cases h with
            | lst hl nl ql =>
              obtain ⟨ws, hh, q⟩ := g.obj _ _ _ ha hn
              obtain ⟨g', x'⟩ := put_list (vs := ws) g ha hn (q.app ql)
              exact ⟨_, _, ws, _, rfl, rfl, hh, hl, mx_line (by rw [q.length, ql.length]; exact z), p (W.put _ _) _ _ rfl x' g' .non⟩
      · cases e
    · cases e
  · cases e
end

/-! ### xs[i] = e -/
def gSubD (o i : En → M D) (f : D → D → D → P1 Unit) : D → En → P1 En := fun d ρ G => match o ρ G with
  | some (.inr x, G1) => match i ρ G1 with
    | some (.inr j, G2) => match f x j d G2 with
      | some (_, G3) => some (ρ, G3)
      | none => none
    | _ => none
  | _ => none
def setF : D → D → D → P1 Unit := fun o i v G => match o, i with
  | .ref n, .int k => match G[n]? with
    | some (.lst xs) => match ixN xs.length k with
      | some j => some ((), G.set n (.lst (xs.set j v)))
      | none => none
    | _ => none
  | _, _ => none
theorem tg_set {X : Cx} {o i : Expr} {dO di : En → M D} {pos : Pos} (ho : PE X o (upE (Cxp X) WeF dO)) (hi : PE X i (upE (Cxp X) WeF di)) {t : PG X (.Subscript o i pos) (gSub (upE (Cxp X) WeF dO) (upE (Cxp X) WeF di) rSetL)} :
    PG X (.Subscript o i pos) (upG (Cxp X) (gSubD dO di setF)) := PG.imp t fun v σ H Q h => by
  obtain ⟨W, ρ, d, ρ', G', hR, rv, e, p⟩ := h
  unfold gSubD at e
  split at e
  · rename_i x G1 e1
    split at e
    · rename_i j G2 e2
      split at e
      · rename_i u G3 e3
        cases e
        refine ⟨W, ρ, .inr x, G1, hR, e1, fun W1 vx H1 eg1 x1 g1 r1 => ?_⟩
        refine ⟨W1, ρ, .inr j, G2, hR.keep g1 x1, by rw [eg1]; exact e2, fun W2 vj H2 eg2 x2 g2 r2 => ?_⟩
        have rv' := (rv.keep hR.gr x1).keep g1 x2
        have r1' := r1.keep g1 x2
        rw [← eg2] at e3
        unfold setF at e3
        split at e3
        · split at e3
          · rename_i hn
            split at e3
            · rename_i jj hj
              cases e3
              cases r1' with
              | ref ha =>
                cases r2
                obtain ⟨ws, hh, q⟩ := g2.obj _ _ _ ha hn
                obtain ⟨g', x'⟩ := put_list (vs := ws) g2 ha hn (Drs.set rv' jj q)
                exact ⟨_, ws, _, jj, rfl, rfl, hh, by rw [q.length]; exact hj, p (W2.put _ _) σ _ rfl (x1.trans (x2.trans x')) (hR.keep g' (x1.trans (x2.trans x')))⟩
            · cases e3
          · cases e3
        · cases e3
      · cases e
    · cases e
  · cases e

/-! ### sorted, of texts -/
def leC (a b : Str) : Bool := !ltCps b.cps.toList a.cps.toList
def insS (a : Str) : List Str → List Str
  | [] => [a]
  | b :: r => if leC a b = true then a :: b :: r else b :: insS a r
def sortS : List Str → List Str
  | [] => []
  | a :: r => insS a (sortS r)
theorem ltCps_asym : ∀ (a b : List Nat), ltCps a b = true → ltCps b a = false
  | [], [], h => by cases h
  | [], _ :: _, _ => rfl
  | _ :: _, [], h => by cases h
  | a :: r, b :: t, h => by
    simp only [ltCps, Bool.or_eq_true, Bool.and_eq_true, decide_eq_true_eq, beq_iff_eq] at h
    simp only [ltCps, Bool.or_eq_false_iff, Bool.and_eq_false_iff, decide_eq_false_iff_not, beq_eq_false_iff_ne]
    rcases h with h | ⟨rfl, h⟩
    · exact ⟨by omega, .inl (by omega)⟩
    · exact ⟨by omega, .inr (ltCps_asym r t h)⟩
theorem ltCps_tri : ∀ (a b : List Nat), ltCps a b = false → ltCps b a = false → a = b
  | [], [], _, _ => rfl
  | [], _ :: _, h, _ => by cases h
  | _ :: _, [], _, h => by cases h
  | a :: r, b :: t, h, h' => by
    simp only [ltCps, Bool.or_eq_false_iff, Bool.and_eq_false_iff, decide_eq_false_iff_not, beq_eq_false_iff_ne] at h h'
    have e : a = b := by omega
    subst e
    have h1 : ltCps r t = false := by rcases h.2 with q | q <;> first | exact absurd rfl q | exact q
    have h2 : ltCps t r = false := by rcases h'.2 with q | q <;> first | exact absurd rfl q | exact q
    rw [ltCps_tri r t h1 h2]
theorem ltCps_tr : ∀ (a b c : List Nat), ltCps b a = false → ltCps c b = false → ltCps c a = false
  | [], _, [], _, _ => rfl
  | [], _, _ :: _, _, _ => rfl
  | _ :: _, [], _, h, _ => by cases h
  | _ :: _, _ :: _, [], _, h => by cases h
  | x :: r, y :: s, z :: t, h, h' => by
    simp only [ltCps, Bool.or_eq_false_iff, Bool.and_eq_false_iff, decide_eq_false_iff_not, beq_eq_false_iff_ne] at h h' ⊢
    refine ⟨by omega, ?_⟩
    by_cases e : z = x
    · have e1 : y = x := by omega
      have e2 : z = y := by omega
      subst e1 e2
      right
      have h1 : ltCps s r = false := by rcases h.2 with q | q <;> first | exact absurd rfl q | exact q
      have h2 : ltCps t s = false := by rcases h'.2 with q | q <;> first | exact absurd rfl q | exact q
      exact ltCps_tr r s t h1 h2
    · exact .inl e
abbrev SrtS (l : List Str) : Prop := l.Pairwise fun a b => leC a b = true
theorem leC_tr {a b c : Str} (h : leC a b = true) (h' : leC b c = true) : leC a c = true := by
  unfold leC at *
  simp only [Bool.not_eq_true'] at *
  exact ltCps_tr _ _ _ h h'
theorem leC_tot {a b : Str} (h : leC a b = false) : leC b a = true := by
  unfold leC at *
  simp only [Bool.not_eq_false', Bool.not_eq_true'] at *
  exact ltCps_asym _ _ h
theorem ins_mem {a x : Str} : ∀ {l : List Str}, x ∈ insS a l ↔ x = a ∨ x ∈ l
  | [] => by simp [insS]
  | b :: r => by
    unfold insS
    split
    · simp
    · simp only [List.mem_cons, ins_mem (l := r)]
      constructor
      · rintro (h | h | h)
        · exact .inr (.inl h)
        · exact .inl h
        · exact .inr (.inr h)
      · rintro (h | h | h)
        · exact .inr (.inl h)
        · exact .inl h
        · exact .inr (.inr h)
theorem ins_srt {a : Str} : ∀ {l : List Str}, SrtS l → SrtS (insS a l)
  | [], _ => List.pairwise_singleton _ _
  | b :: r, h => by
    have hb := List.pairwise_cons.mp h
    unfold insS
    split
    · rename_i q
      refine List.pairwise_cons.mpr ⟨fun x hx => ?_, h⟩
      rcases List.mem_cons.mp hx with rfl | hx
      · exact q
      · exact leC_tr q (hb.1 x hx)
    · rename_i q
      refine List.pairwise_cons.mpr ⟨fun x hx => ?_, ins_srt hb.2⟩
      rcases ins_mem.mp hx with rfl | hx
      · exact leC_tot (by simpa using q)
      · exact hb.1 x hx
theorem ins_perm {a : Str} : ∀ {l : List Str}, (insS a l).Perm (a :: l)
  | [] => List.Perm.refl _
  | b :: r => by
    unfold insS
    split
    · exact List.Perm.refl _
    · exact (List.Perm.cons b (ins_perm (l := r))).trans (List.Perm.swap a b r)
theorem sortS_srt : ∀ l : List Str, SrtS (sortS l)
  | [] => .nil
  | a :: r => ins_srt (sortS_srt r)
theorem sortS_perm : ∀ l : List Str, (sortS l).Perm l
  | [] => List.Perm.refl _
  | a :: r => ins_perm.trans (List.Perm.cons a (sortS_perm r))
theorem rising_srt : ∀ (l : List Str) (p : Str), risingS p l = true → SrtS (p :: l)
  | [], p, _ => List.pairwise_singleton _ _
  | x :: r, p, h => by
    simp only [risingS, Bool.and_eq_true, Bool.not_eq_true'] at h
    have ih := rising_srt r x h.2
    have px : leC p x = true := by unfold leC; rw [h.1]; rfl
    refine List.pairwise_cons.mpr ⟨fun y hy => ?_, ih⟩
    rcases List.mem_cons.mp hy with rfl | hy
    · exact px
    · exact leC_tr px ((List.pairwise_cons.mp ih).1 y hy)
theorem str_of_tri {a b : Str} (h1 : leC a b = true) (h2 : leC b a = true) : a = b := by
  unfold leC at *
  simp only [Bool.not_eq_true'] at *
  have e := ltCps_tri _ _ h2 h1
  obtain ⟨⟨a⟩⟩ := a
  obtain ⟨⟨b⟩⟩ := b
  have e' : a = b := e
  rw [e']
theorem sortS_one {l m : List Str} (h : m.Perm l) (s : sortedS m = true) : m = sortS l := by
  have sm : SrtS m := by
    cases m with
    | nil => exact .nil
    | cons p r => exact rising_srt r p s
  exact List.Perm.eq_of_pairwise (fun x y _ _ h1 h2 => str_of_tri h1 h2) sm (sortS_srt l) (h.trans (sortS_perm l).symm)
def sortF (xs : List D) : Option D := match strsO xs with
  | some ss => if ss.length < 64 then some (.lst ((sortS ss).map .str)) else none
  | none => none
theorem cd_sortS {K : Pm} : CallD K (rSortedS K.K) (lP sortF) := fun W H vs ds d G' Q g r e p => by
  obtain ⟨x, xs, rfl, h1, h2, rfl⟩ := lP_eq e
  unfold sortF at h2
  split at h2
  · rename_i ss hs
    split at h2
    · rename_i hz
      cases h2
      cases r with
      | cons h r =>
        cases r
        obtain ⟨a, ws, rfl, sq, q⟩ := inL_sq g h h1
        cases strs_v q hs
        refine ⟨a, ss, rfl, sq, hz, fun ys b hp hsr n => ?_⟩
        cases sortS_one hp hsr
        obtain ⟨g', x', rv⟩ := lst_new g (drs_strs (K := K) (L := L W) (α := W.α) (H := H) (sortS ss)) n
        exact p W _ _ rfl x' g' rv
    · cases h2
  · cases h2

/-! ### isinstance of built-in classes -/
def tyN (d : D) (G : List O) : Option String := match d with
  | .non => some "NoneType"
  | .bl _ => some "bool"
  | .int _ => some "int"
  | .str _ => some "str"
  | .tup _ => some "tuple"
  | .lst _ => some "list"
  | .scr _ => some "list"
  | .ref n => match G[n]? with
    | some (.lst _) => some "list"
    | _ => none
  | _ => none
def isT (t c : String) : Bool := t == c || (t == "bool" && c == "int")
def knownC (c : String) : Bool := c == "int" || c == "bool" || c == "str" || c == "list" || c == "tuple"
def knownT (t : String) : Bool := t == "NoneType" || t == "bool" || t == "int" || t == "str" || t == "tuple" || t == "list"
theorem kit_isT {t c : String} (ht : knownT t = true) (hc : knownC c = true) : kitB t c = some (isT t c) := by
  unfold knownT at ht
  unfold knownC at hc
  simp only [Bool.or_eq_true, beq_iff_eq] at ht hc
  rcases ht with ((((rfl | rfl) | rfl) | rfl) | rfl) | rfl <;> rcases hc with (((rfl | rfl) | rfl) | rfl) | rfl <;> decide +kernel
theorem tyX_of {K : Pm} {W : Wd} {H : Hp} {v : V} {d : D} {t : String} (g : Gr K W H) (r : Rv K W H v d) (h : tyN d W.G = some t) : TyX K.K H v (.type t) ∧ knownT t = true := by
  unfold tyN at h
  split at h
  · cases h; cases r; exact ⟨.base .non, rfl⟩
  · cases h; cases r; exact ⟨.base (.bl _), rfl⟩
  · cases h; cases r; exact ⟨.base (.int _), rfl⟩
  · cases h; cases r; exact ⟨.base (.str _), rfl⟩
  · cases h; cases r with
    | tup h q =>
      refine ⟨?_, rfl⟩
      rcases h with (h | ⟨o, h⟩) | ⟨o, its, n, h1, h2, _⟩
      · exact .base (.tup h)
      · exact .fTuple h
      · exact .kTuple h1 h2
  · cases h; cases r with
    | lst h n q => exact ⟨.base (.lst h), rfl⟩
  · cases h; cases r with
    | scr h q =>
      rcases h with ⟨_, o, h⟩ | ⟨o, its, m, h1, h2, _⟩
      · exact ⟨.base (.frz h), rfl⟩
      · exact ⟨.kList h1 h2, rfl⟩
  · split at h
    · rename_i hn
      cases h; cases r with
      | ref ha => obtain ⟨vs, hh, q⟩ := g.obj _ _ _ ha hn; exact ⟨.base (.lst hh), rfl⟩
    · cases h
  · cases h
def isiF : List D → P1 D := fun ds G => match ds with
  | [x, .ty c] => match tyN x G with
    | some t => if knownC c = true then some (.bl (isT t c), G) else none
    | none => none
  | _ => none
theorem cd_isi {K : Pm} : CallD K (rIsi K.K) isiF := fun W H vs ds d G' Q g r e p => by
  unfold isiF at e
  split at e
  · split at e
    · rename_i t ht
      split at e
      · rename_i hc
        cases e
        cases r with
        | cons h r => cases r with
          | cons h2 r =>
            cases r; cases h2
            obtain ⟨ty, kt⟩ := tyX_of g h ht
            exact ⟨_, _, _, _, _, rfl, .ty _, ty, kit_ty (kit_isT kt hc), p W _ H rfl Ext.refl g (.bl _)⟩
      · cases e
    · cases e
  · cases e
def tysO : List D → Option (List String)
  | [] => some []
  | .ty c :: r => if knownC c = true then (tysO r).map fun cs => c :: cs else none
  | _ :: _ => none
def isiTF : List D → P1 D := fun ds G => match ds with
  | [x, .tup cs] => match tyN x G, tysO cs with
    | some t, some cs => some (.bl (cs.any fun c => isT t c), G)
    | _, _ => none
  | _ => none
theorem kitAny_T {K : PySem.W.Frag} {t : String} (ht : knownT t = true) : ∀ {ds : List D} {cs : List String}, tysO ds = some cs → PySem.W.kitAny K (.type t) (cs.map .type) = some (cs.any fun c => isT t c)
  | [], _, e => by cases e; exact kitAny_nil
  | d :: r, cs, e => by
    cases d with
    | ty c =>
      have e' : (if knownC c = true then (tysO r).map fun cs => c :: cs else none) = some cs := e
      split at e'
      · rename_i hc
        obtain ⟨q, h1, rfl⟩ := Option.map_eq_some_iff.mp e'
        have ih := kitAny_T (K := K) ht h1
        rw [List.map_cons, List.any_cons]
        cases hb : isT t c with
        | true => exact kitAny_cons (b := true) (by rw [← hb]; exact kit_ty (kit_isT ht hc)) (fun z => nomatch z) fun _ => by simp
        | false => exact kitAny_cons (b := false) (by rw [← hb]; exact kit_ty (kit_isT ht hc)) (fun _ => by rw [ih]; simp) fun z => nomatch z
      · cases e'
    | _ => cases e
theorem tys_v {K : Pm} {L : Addr → Prop} {α : List Addr} {H : Hp} : ∀ {vs : List V} {ds : List D} {cs : List String}, Drs K L α H vs ds → tysO ds = some cs → vs = cs.map V.ty
  | _, _, _, .nil, e => by cases e; rfl
  | _, _, cs, .cons (d := d) (ds := ds) h r, e => by
    cases d with
    | ty c =>
      have e' : (if knownC c = true then (tysO ds).map fun cs => c :: cs else none) = some cs := e
      split at e'
      · obtain ⟨q, h1, rfl⟩ := Option.map_eq_some_iff.mp e'
        cases h
        rw [List.map_cons, tys_v r h1]
      · cases e'
    | _ => cases e
theorem cls_pair : ∀ cs : List String, Paired ClsV (cs.map V.ty) (cs.map Value.type)
  | [] => .nil
  | c :: cs => .cons (.ty c) (cls_pair cs)
/-- isinstance(x, (c1, ..)), the tuple wherever it stands -/
def rIsiA (K : PySem.W.Frag) : List V → Hp → VK → Prop := fun xs H Q => ∃ (x : V) (tp : Addr) (cs : List V) (t : Value) (us : List Value) (b : Bool), xs = [x, .ref tp] ∧ SqT K H tp cs ∧ Paired ClsV cs us ∧ TyX K H x t ∧ PySem.W.kitAny K t us = some b ∧ Q (.bl b) H
theorem call_isiA {X : Cx} : CallR X (.builtin "isinstance") (rIsiA X.K) := by
  intro pins s σ H xs us Q I rv hw
  obtain ⟨x, tp, cs, t, ws, b, rfl, hT, kc, ty, hk, q⟩ := hw
  obtain ⟨u1, u2, rfl, r1, r2⟩ := vals2 rv
  cases (show u2 = Value.ref tp from r2)
  obtain ⟨φ, Z, hφ, hne⟩ := kit_of I r1 ty
  obtain ⟨its, rvs, ⟨ob, hob, hcl, m, hdat⟩, _⟩ := I.tuple hT
  have es := ClsV.all kc rvs
  subst es
  obtain ⟨oc, od, dt, sl⟩ := ob
  simp only at hcl hdat
  subst hcl hdat
  exact PySem.W.kia_tup Z I.kIn hφ hob hk hne fun tk => ⟨.bl b, H, I.tok tk, rfl, q⟩
theorem cd_isiT {K : Pm} : CallD K (rIsiA K.K) isiTF := fun W H vs ds d G' Q g r e p => by
  unfold isiTF at e
  split at e
  · split at e
    · rename_i t cs ht hc
      cases e
      cases r with
      | cons h r => cases r with
        | cons h2 r =>
          cases r
          cases h2 with
          | tup hq q =>
            obtain ⟨ty, kt⟩ := tyX_of g h ht
            cases tys_v (K := K) q hc
            exact ⟨_, _, _, _, _, _, rfl, hq, cls_pair cs, ty, kitAny_T kt hc, p W _ H rfl Ext.refl g (.bl _)⟩
    · cases e
  · cases e
end Tw

namespace Tw
open PySem PySem.Spec PyProof.Rows L2

/-! ### what holds no number of ours -/
mutual
def noR : D → Bool
  | .tup xs => noRs xs
  | .lst xs => noRs xs
  | .scr xs => noRs xs
  | .dct kvs => noRk kvs
  | .ref _ => false
  | .exf _ _ x => noR x
  | _ => true
def noRs : List D → Bool
  | [] => true
  | x :: xs => noR x && noRs xs
def noRk : List (Key × D) → Bool
  | [] => true
  | (_, x) :: xs => noR x && noRk xs
end
section
variable {K : Pm} {L L' : Addr → Prop} {α α' : List Addr} {H : Hp}
mutual
theorem Dr.nr (le : ∀ a, L' a → L a) : ∀ {v : V} {d : D}, noR d = true → Dr K L α H v d → Dr K L' α' H v d
  | _, _, _, .non => .non
  | _, _, _, .bl b => .bl b
  | _, _, _, .int i => .int i
  | _, _, _, .str z => .str z
  | _, _, n, .tup h r => .tup h (Drs.nr le (by simpa [noR] using n) r)
  | _, _, n, .lst h nl r => .lst h (fun l => nl (le _ l)) (Drs.nr le (by simpa [noR] using n) r)
  | _, _, n, .scr h r => .scr (h.imp (fun z => ⟨fun l => z.1 (le _ l), z.2⟩) id) (Drs.nr le (by simpa [noR] using n) r)
  | _, _, n, .dct h nl r => .dct h (fun l => nl (le _ l)) (Drk.nr le (by simpa [noR] using n) r)
  | _, _, _, .set h nl nd e => .set h (fun l => nl (le _ l)) nd e
  | _, _, n, .ref h => by simp [noR] at n
  | _, _, _, .glo a => .glo a
  | _, _, _, .ty c => .ty c
  | _, _, _, .cls h => .cls h
  | _, _, _, .exc h e nl => .exc h e (fun l => nl (le _ l))
  | _, _, n, .exf h e nl e2 nl2 r => .exf h e (fun l => nl (le _ l)) e2 (fun l => nl2 (le _ l)) (Dr.nr le (by simpa [noR] using n) r)
theorem Drs.nr (le : ∀ a, L' a → L a) : ∀ {vs : List V} {ds : List D}, noRs ds = true → Drs K L α H vs ds → Drs K L' α' H vs ds
  | _, _, _, .nil => .nil
  | _, _, n, .cons h r => by
    obtain ⟨n1, n2⟩ := Bool.and_eq_true_iff.mp (by simpa [noRs] using n)
    exact .cons (Dr.nr le n1 h) (Drs.nr le n2 r)
theorem Drk.nr (le : ∀ a, L' a → L a) : ∀ {vs : List (Key × V)} {ds : List (Key × D)}, noRk ds = true → Drk K L α H vs ds → Drk K L' α' H vs ds
  | _, _, _, .nil => .nil
  | _, _, n, .cons h r => by
    obtain ⟨n1, n2⟩ := Bool.and_eq_true_iff.mp (by simpa [noRk] using n)
    exact .cons (Dr.nr le n1 h) (Drk.nr le n2 r)
end
end
def noRO : O → Bool
  | .lst xs => noRs xs
  | .dct kvs => noRk kvs
  | .dlk kvs => noRk kvs
  | .gone => true

/-! ### what a def promises: what its reckoning gives -/
abbrev XO := Er → Wd → Hp → XK → Prop
abbrev Xo0 : XO := fun _ _ _ _ => False
def PostF (K : Pm) (Xo : XO) (W : Wd) (H : Hp) (r : Sum Er D) (G' : List O) (Q : VK) (E : XK) : Prop := match r with
  | .inr d => ∀ (W' : Wd) (v : V) (H' : Hp), W'.G = G' → Ext W H W' H' → Gr K W' H' → Rv K W' H' v d → Q v H'
  | .inl e => ∀ (W' : Wd) (H' : Hp), W'.G = G' → Ext W H W' H' → Gr K W' H' → Xo e W' H' E
def spF (K : Pm) (Xo : XO) (n : Nat) (F : List D → M D) : Sp := fun vs H Q E => vs.length = n ∧ ∃ (W : Wd) (ds : List D) (r : Sum Er D) (G' : List O), Gr K W H ∧ Rvs K W H vs ds ∧ F ds W.G = some (r, G') ∧ PostF K Xo W H r G' Q E
def start0 (n : Nat) (args : List D) : En := args.map some ++ List.replicate (n - args.length) none
def outD : Out → M D
  | .rt d => ret d
  | .nx _ => ret .non
  | _ => fun _ => none
def runD (n : Nat) (ds : En → M Out) : List D → M D := fun args => bnd (ds (start0 n args)) outD
theorem Drs.get1 {K : Pm} {L : Addr → Prop} {α : List Addr} {H : Hp} {vs : List V} {ds : List D} (r : Drs K L α H vs ds) {i : Nat} {d : D} (h : ds[i]? = some d) : ∃ v, vs[i]? = some v ∧ Dr K L α H v d := r.at h
theorem rs_start {K : Pm} {W : Wd} {H : Hp} {vs : List V} {ds : List D} {N : List Str} (g : Gr K W H) (r : Rvs K W H vs ds) : Rs K W (start0 N.length ds) (L2.start N vs) H := by
  refine ⟨g, by simp [start0, L2.start, r.length], fun i d e => ?_⟩
  unfold start0 at e
  by_cases hi : i < (ds.map some).length
  · rw [List.getElem?_append_left hi, List.getElem?_map] at e
    cases q : ds[i]? with
    | none => rw [q] at e; cases e
    | some d' =>
      rw [q] at e
      cases e
      obtain ⟨v, h1, h2⟩ := r.at q
      refine ⟨v, ?_, h2⟩
      unfold L2.start
      have hl : i < (vs.map some).length := by simpa [r.length] using hi
      rw [List.getElem?_append_left hl, List.getElem?_map, h1]; rfl
  · rw [List.getElem?_append_right (Nat.le_of_not_lt hi)] at e
    have := List.mem_of_getElem? e
    rw [List.mem_replicate] at this
    cases this.2
section
variable {P : Program} {w : World} {K : PySem.W.Frag} {mg : Str → Option Value} {base : Heap} {x qual : Str} {params : Arguments} {body : List Stmt} {scope : Scope} {f : Addr} {fd : FuncData}
/-- a def that lets no error out -/
theorem fn_tw {N ps : List Str} {k : Nat} {ds : En → M Out} (F : FunD K x qual params body scope [] [] f fd) (S : FnScope N ps scope)
    (hb : ∀ (cdv : Value) (A : Around) (outer : List Env) (s : Shared) (H : Hp) (E : XK), Room k (A.deeper (envOfC qual scope s.heap.objs.size f cdv)) → PSs (cxOf CX0 P w K mg base N qual scope f cdv A outer s H E).nox body (ups ⟨K, P, w, mg⟩ WeF ds)) :
    FnOk P w K mg base CX0 (k + 1) f fd ps (spF ⟨K, P, w, mg⟩ Xo0 ps.length (runD N.length ds)) := by
  refine F.ok S (fun vs H Q E h => h.1) fun cdv A outer s H vs Q E hr h => ⟨_, PSs.nox (hb cdv A outer s H E hr), ?_⟩
  obtain ⟨_, W, dv, r, G', g, rv, e, p⟩ := h
  unfold runD bnd at e
  split at e
  · rename_i o G1 he
    refine ⟨W, _, .inr o, G1, rs_start g rv, he, ?_⟩
    cases o with
    | rt d => cases e; exact p
    | nx ρ => cases e; exact fun W' σ' H' eg xx R' => p W' .non H' eg xx R'.gr .non
    | bk ρ => cases e
    | ct ρ => cases e
  · rename_i er G1 he
    cases e
    exact ⟨W, _, .inl er, _, rs_start g rv, he, fun W' σ' H' eg xx g' => p W' H' eg xx g'⟩
  · cases e
end
/-! ### calls of such a def -/
def noX {A : Type} (m : M A) : M A := fun G => match m G with
  | some (.inr a, G1) => some (.inr a, G1)
  | _ => none
theorem noX_eq {A : Type} {m : M A} {G G' : List O} {r : Sum Er A} (h : noX m G = some (r, G')) : ∃ a, r = .inr a ∧ m G = some (.inr a, G') := by
  unfold noX at h
  split at h
  · rename_i a G1 he; cases h; exact ⟨a, rfl, he⟩
  · cases h
/-- the callee sees our objects -/
def dF (F : List D → M D) (a : En → M (List D)) : En → M D := fun ρ => bnd (a ρ) fun ds => noX (F ds)
/-- the callee is handed no object of ours, and hands none back -/
def pureF (F : List D → M D) (ds : List D) : M D := fun G => if noRs ds = true then match F ds [] with
  | some (.inr d, _) => if noR d = true then some (.inr d, G) else none
  | _ => none
  else none
def dFp (F : List D → M D) (a : En → M (List D)) : En → M D := fun ρ => bnd (a ρ) fun ds => pureF F ds
/-- the callee sees our objects; what it laid itself is forgotten -/
def cutF (F : List D → M D) (ds : List D) : M D := fun G => match F ds G with
  | some (.inr d, G1) => if (noR d && (G1.take G.length).all noRO && decide (G.length ≤ G1.length)) = true then some (.inr d, G1.take G.length) else none
  | _ => none
def dFc (F : List D → M D) (a : En → M (List D)) : En → M D := fun ρ => bnd (a ρ) fun ds => cutF F ds
open Classical in
/-- what is seen by a callee that is handed none of our objects -/
noncomputable def Wd.alone (W : Wd) : Wd := ⟨[], [], W.B ++ W.α.filter fun a => decide (live W a)⟩
section
variable {K : Pm} {W : Wd} {H : Hp}
theorem live_α {a : Addr} (l : live W a) : a ∈ W.α := by
  obtain ⟨n, o, h, _⟩ := l
  exact List.mem_of_getElem? h
theorem alone_B {a : Addr} : a ∈ W.alone.B ↔ L W a := by
  unfold Wd.alone L
  simp only [List.mem_append, List.mem_filter, decide_eq_true_eq]
  constructor
  · rintro (h | ⟨_, h⟩)
    · exact .inr h
    · exact .inl h
  · rintro (h | h)
    · exact .inr ⟨live_α h, h⟩
    · exact .inl h
theorem alone_live {a : Addr} : ¬ live W.alone a := fun ⟨n, o, h, _⟩ => by simp [Wd.alone] at h
theorem alone_L {a : Addr} : L W.alone a ↔ L W a := ⟨fun l => l.elim (fun h => absurd h alone_live) fun h => alone_B.mp h, fun l => .inr (alone_B.mpr l)⟩
theorem Gr.alone (g : Gr K W H) : Gr K W.alone H := by
  refine ⟨rfl, by simp [Wd.alone], fun a _ => by simp [Wd.alone], fun a h => by simp [Wd.alone] at h, fun a h => ?_, fun n a o h _ => by simp [Wd.alone] at h⟩
  rcases alone_B.mp h with l | l
  · exact g.thA a (live_α l)
  · exact g.thB a l
theorem Ext.unalone {W' : Wd} {H' : Hp} (x : Ext W.alone H W' H') : Ext W H W H' := by
  refine ⟨fun _ h => h, fun _ h => .inl h, x.th, ⟨[], by simp⟩, fun a o h l => ⟨(x.keep a o h alone_live).1, l⟩, x.tup⟩
theorem Gr.unalone {W' : Wd} {H' : Hp} (g : Gr K W H) (x : Ext W.alone H W' H') : Gr K W H' :=
  ⟨g.len, g.nd, g.dis, fun a h => x.th a (g.thA a h), fun a h => x.th a (g.thB a h), fun n a o h1 h2 => by
    have q := g.obj n a o h1 h2
    cases o with
    | gone => exact True.intro
    | _ =>
      obtain ⟨u, hu, _⟩ := g.lv ⟨n, _, h1, h2, fun z => nomatch z⟩
      exact q.keep g x.unalone (by rw [hu]; exact (x.keep a u hu alone_live).1)⟩
theorem alone_le {W' : Wd} {H' : Hp} (x : Ext W.alone H W' H') : ∀ a, L W a → L W' a := fun a l => .inr (x.b a (alone_B.mpr l))
/-- the world of the first n of our objects -/
def Wd.cut (W : Wd) (n : Nat) : Wd := ⟨W.α.take n, W.G.take n, W.B⟩
theorem live_cut {n : Nat} {a : Addr} (l : live (W.cut n) a) : live W a := by
  obtain ⟨m, o, h1, h2, ne⟩ := l
  have h1' : (W.α.take n)[m]? = some a := h1
  have h2' : (W.G.take n)[m]? = some o := h2
  have lt : m < n := by
    have := (List.getElem?_eq_some_iff.mp h1').1
    rw [List.length_take] at this
    omega
  rw [List.getElem?_take_of_lt lt] at h1' h2'
  exact ⟨m, o, h1', h2', ne⟩
theorem L_cut {n : Nat} : ∀ a, L (W.cut n) a → L W a := fun a l => l.elim (fun h => .inl (live_cut h)) .inr
theorem Gr.cut {n : Nat} (g : Gr K W H) (hn : (W.G.take n).all noRO = true) : Gr K (W.cut n) H := by
  refine ⟨by simp [Wd.cut, g.len], (List.take_sublist _ _).nodup g.nd, fun a h1 h2 => g.dis a h1 (List.mem_of_mem_take h2), fun a h => g.thA a (List.mem_of_mem_take h), g.thB, fun m a o h1 h2 => ?_⟩
  have h1' : (W.α.take n)[m]? = some a := h1
  have h2' : (W.G.take n)[m]? = some o := h2
  have nr : noRO o = true := List.all_eq_true.mp hn o (List.mem_of_getElem? h2')
  have lt : m < n := by
    have := (List.getElem?_eq_some_iff.mp h1').1
    rw [List.length_take] at this
    omega
  rw [List.getElem?_take_of_lt lt] at h1' h2'
  have q := g.obj m a o h1' h2'
  cases o with
  | lst ds => obtain ⟨vs, h, r⟩ := q; exact ⟨vs, h, Drs.nr L_cut nr r⟩
  | dct kvs => obtain ⟨ps, h, r⟩ := q; exact ⟨ps, h, Drk.nr L_cut nr r⟩
  | dlk kvs => obtain ⟨o, ps, h, r⟩ := q; exact ⟨o, ps, h, Drk.nr L_cut nr r⟩
  | gone => exact True.intro
theorem Ext.cut {W0 : Wd} {H0 : Hp} (x : Ext W0 H0 W H) : Ext W0 H0 (W.cut W0.α.length) H := by
  obtain ⟨t, ht⟩ := x.pre
  refine ⟨x.b, x.b', x.th, ⟨[], ?_⟩, fun a o h l => ⟨(x.keep a o h l).1, fun q => (x.keep a o h l).2 (live_cut q)⟩, x.tup⟩
  show W.α.take W0.α.length = W0.α ++ []
  rw [ht, List.take_left', List.append_nil]
  rfl
end
/-- as many values as expressions -/
def LenA (n : Nat) (da : En → M (List D)) : Prop := ∀ (ρ : En) (G G' : List O) (ds : List D), da ρ G = some (.inr ds, G') → ds.length = n
theorem lenA_nil : LenA 0 dNil := fun ρ G G' ds h => by cases h; rfl
theorem lenA_cons {n : Nat} {a : En → M D} {r : En → M (List D)} (h : LenA n r) : LenA (n + 1) (dCons a r) := fun ρ G G' ds e => by
  unfold dCons bnd at e
  split at e
  · rename_i x G1 e1
    dsimp only at e
    split at e
    · rename_i xs G2 e2
      cases e
      rw [List.length_cons, h ρ G1 _ xs e2]
    · cases e
    · cases e
  · cases e
  · cases e
section
variable {K : Pm} {We : WE'} {n : Nat} {F : List D → M D} {da : En → M (List D)} {σ : L2.St} {H : Hp} {Q : VK}
/-- the three ways to call -/
theorem dF_up (hl : LenA n da) (h : upE K We (dF F da) σ H Q) : upA K We da σ H (fun vs H1 => spF K Xo0 n F vs H1 Q E0) := by
  obtain ⟨W, ρ, r, G', hR, e, p⟩ := h
  unfold dF bnd at e
  split at e
  · rename_i ds G1 he
    refine ⟨W, ρ, .inr ds, G1, hR, he, fun W1 vs H1 eg x1 g1 r1 => ?_⟩
    obtain ⟨a, rfl, e2⟩ := noX_eq e
    exact ⟨by rw [r1.length]; exact hl ρ _ _ _ he, W1, ds, .inr a, G', g1, r1, by rw [eg]; exact e2, p.mono x1⟩
  · rename_i er G1 he
    cases e
    exact ⟨W, ρ, .inl er, _, hR, he, p⟩
  · cases e
theorem dFp_up (hl : LenA n da) (h : upE K We (dFp F da) σ H Q) : upA K We da σ H (fun vs H1 => spF K Xo0 n F vs H1 Q E0) := by
  obtain ⟨W, ρ, r, G', hR, e, p⟩ := h
  unfold dFp bnd at e
  split at e
  · rename_i ds G1 he
    refine ⟨W, ρ, .inr ds, G1, hR, he, fun W1 vs H1 eg x1 g1 r1 => ?_⟩
    unfold pureF at e
    dsimp only at e
    split at e
    · rename_i hnr
      split at e
      · rename_i d J hf
        split at e
        · rename_i hd
          cases e
          refine ⟨by rw [r1.length]; exact hl ρ _ _ _ he, W1.alone, ds, .inr d, J, g1.alone, Drs.nr (fun a l => alone_L.mp l) hnr r1, hf, fun W' v H' _ x' g' r' => ?_⟩
          exact p W1 v H' eg (x1.trans x'.unalone) (g1.unalone x') (Dr.nr (alone_le x') hd r')
        · cases e
      · cases e
    · cases e
  · rename_i er G1 he
    cases e
    exact ⟨W, ρ, .inl er, _, hR, he, p⟩
  · cases e
theorem dFc_up (hl : LenA n da) (h : upE K We (dFc F da) σ H Q) : upA K We da σ H (fun vs H1 => spF K Xo0 n F vs H1 Q E0) := by
  obtain ⟨W, ρ, r, G', hR, e, p⟩ := h
  unfold dFc bnd at e
  split at e
  · rename_i ds G1 he
    refine ⟨W, ρ, .inr ds, G1, hR, he, fun W1 vs H1 eg x1 g1 r1 => ?_⟩
    unfold cutF at e
    dsimp only at e
    split at e
    · rename_i d J hf
      split at e
      · rename_i hd
        obtain ⟨hd, hlen⟩ := Bool.and_eq_true_iff.mp hd
        obtain ⟨hd, hall⟩ := Bool.and_eq_true_iff.mp hd
        cases e
        refine ⟨by rw [r1.length]; exact hl ρ _ _ _ he, W1, ds, .inr d, J, g1, r1, by rw [eg]; exact hf, fun W' v H' eg' x' g' r' => ?_⟩
        have en : W1.α.length = G1.length := by rw [← eg]; exact g1.len
        refine p (W'.cut W1.α.length) v H' ?_ (x1.trans x'.cut) (g'.cut ?_) (Dr.nr L_cut hd r')
        · show W'.G.take _ = _
          rw [eg', en]
        · rw [eg', en]; exact hall
      · cases e
    · cases e
  · rename_i er G1 he
    cases e
    exact ⟨W, ρ, .inl er, _, hR, he, p⟩
  · cases e
end
section
variable {X : Cx} {We : WE'} {CX : CXT} {k n : Nat} {f : Addr} {fd : FuncData} {ps : List Str} {F : List D → M D} {x : Str} {p pos : Pos} {e : Expr} {es : List Expr} {da : En → M (List D)} {dF' : En → M D}
/-- f(e, ..); up: dF_up, dFp_up or dFc_up -/
theorem te_f (up : ∀ {σ : L2.St} {H : Hp} {Q : VK}, upE (Cxp X) We dF' σ H Q → upA (Cxp X) We da σ H (fun vs H1 => spF (Cxp X) Xo0 n F vs H1 Q E0)) (G : FnOk X.prog X.w X.K X.mg X.base CX0 k f fd ps (spF (Cxp X) Xo0 n F)) (hr : Room k X.A) (hg : Gl X x) (hm : X.mg x = some (.ref f))
    (hk : PySem.W.keepIn X.K (.ref f) = true) (hb : Binds X.K fd ps []) (ha : PA X (e :: es) (upA (Cxp X) We da)) (hdb : (x == ("__debug__" : Str)) = false := by decide)
    (he : starEach (e :: es) X.env = (false, eval e X.env) :: starEach es X.env := by rfl) (hpl : (backTo pos (starEach es X.env)).any (·.1) = false := by rfl) : PE X (.Call (.Name x p) (e :: es) [] pos) (upE (Cxp X) We dF') :=
  PE.imp (pe_call (dvs := []) G hr hg hm hk hb .nil pass0 ha hdb he hpl) fun σ H Q h => by
    obtain ⟨W, ρ, r, G', hR, e1, p1⟩ := up h
    refine ⟨W, ρ, r, G', hR, e1, ?_⟩
    cases r with
    | inr ds =>
      exact fun W' v H' eg x' g' r' => (show spF (Cxp X) Xo0 n F (v ++ []) H' Q E0 by rw [List.append_nil]; exact p1 W' v H' eg x' g' r')
    | inl er => exact p1
theorem te_f0 (up : ∀ {σ : L2.St} {H : Hp} {Q : VK}, upE (Cxp X) We dF' σ H Q → upA (Cxp X) We dNil σ H (fun vs H1 => spF (Cxp X) Xo0 0 F vs H1 Q E0)) (G : FnOk X.prog X.w X.K X.mg X.base CX0 k f fd ps (spF (Cxp X) Xo0 0 F)) (hr : Room k X.A) (hg : Gl X x) (hm : X.mg x = some (.ref f))
    (hk : PySem.W.keepIn X.K (.ref f) = true) (hb : Binds X.K fd ps []) (hdb : (x == ("__debug__" : Str)) = false := by decide) : PE X (.Call (.Name x p) [] [] pos) (upE (Cxp X) We dF') :=
  PE.imp (pe_call0 (dvs := []) G hr hg hm hk hb .nil pass0 hdb) fun σ H Q h => by
    obtain ⟨W, ρ, r, G', hR, e1, p1⟩ := up h
    cases e1
    exact p1 W [] H rfl Ext.refl hR.gr .nil
end

/-! ### a list of ours is never changed again -/
def frzO : O → Option D
  | .lst xs => some (.lst xs)
  | .dct kvs => some (.dct kvs)
  | _ => none
def frzD (d : D) : P1 D := fun G => match d with
  | .ref n => match G[n]? with
    | some o => match frzO o with
      | some t => some (t, G.set n .gone)
      | none => none
    | none => none
  | _ => none
theorem frz_ok {K : Pm} {W : Wd} {H : Hp} {v : V} {d t : D} {G' : List O} (g : Gr K W H) (r : Rv K W H v d) (e : frzD d W.G = some (t, G')) : ∃ W', W'.G = G' ∧ Ext W H W' H ∧ Gr K W' H ∧ Rv K W' H v t := by
  unfold frzD at e
  split at e
  · split at e
    · rename_i o hn
      split at e
      · rename_i t' ht
        cases e
        cases r with
        | ref ha =>
          have ng : o ≠ .gone := fun z => by rw [z] at ht; cases ht
          refine ⟨W.put _ .gone, rfl, Ext.drop hn ng, g.drop hn ng, ?_⟩
          have q := g.obj _ _ _ ha hn
          cases o with
          | lst xs =>
            cases ht
            obtain ⟨vs, hh, qs⟩ := q
            exact .lst hh (not_L_drop g ha) (qs.keep g (Ext.drop hn ng))
          | dct kvs =>
            cases ht
            obtain ⟨ps, hh, qs⟩ := q
            exact .dct (.inl hh) (not_L_drop g ha) (qs.keep g (Ext.drop hn ng))
          | _ => cases ht
      · cases e
    · cases e
  · cases e
def dFrz (a : En → M D) : En → M D := fun ρ => bnd (a ρ) fun d => lft (frzD d)
theorem te_frz {X : Cx} {We : WE'} {e : Expr} {da : En → M D} (h : PE X e (upE (Cxp X) We da)) : PE X e (upE (Cxp X) We (dFrz da)) := PE.imp h fun σ H Q q => by
  obtain ⟨W, ρ, r, G', hR, e1, p⟩ := q
  refine up_bnd hR e1 p fun d W1 v H1 x1 R1 r1 e2 p1 => ?_
  obtain ⟨t, e3, p3⟩ := up_lft e2 p1
  obtain ⟨W', eg, x', g', r'⟩ := frz_ok R1.gr r1 e3
  exact p3 W' v H1 eg x' g' r'
/-- .. the one in slot i, ahead of a statement -/
def sFrz (i : Nat) (s : En → M Out) : En → M Out := fun ρ => bnd (dV i ρ) fun d => bnd (lft (frzD d)) fun t => s (ρ.set i (some t))
theorem ts_frz {X : Cx} {We : WE'} {sts : List Stmt} {s : En → M Out} (i : Nat) (h : PSs X sts (ups (Cxp X) We s)) : PSs X sts (ups (Cxp X) We (sFrz i s)) := PSs.imp h fun D0 σ H q => by
  obtain ⟨W, ρ, r, G', hR, e1, p⟩ := q
  unfold sFrz dV at e1
  obtain ⟨d, G2, e2, e3⟩ := bnd_lft e1
  obtain ⟨e2, eg⟩ := pur_eq e2
  subst eg
  have e' : ρ[i]? = some (some d) := by
    revert e2
    split
    · rename_i d' he
      intro z; cases z; exact he
    · intro z; cases z
  obtain ⟨v, hv, rv⟩ := hR.var i d e'
  obtain ⟨t, G3, e4, e5⟩ := bnd_lft e3
  obtain ⟨W', eg', x', g', r'⟩ := frz_ok hR.gr rv e4
  have R' := (hR.keep g' x').set r' i
  have es : σ.set i (some v) = σ := by
    apply List.ext_getElem?
    intro j
    by_cases h : i = j
    · subst h
      rw [List.getElem?_set_self (List.getElem?_eq_some_iff.mp hv).1, hv]
    · rw [List.getElem?_set_ne h]
  rw [es] at R'
  exact ⟨W', _, r, G', R', by rw [eg']; exact e5, p.mono x'⟩
end Tw

namespace Tw
open PySem PySem.Spec PyProof.Rows L2 PySem.W PySem.Calls PySem.HandSPX
/-! ### a class of the program over ValueError, called with keywords -/
section
variable {M : Model} {prog : Program} {w : World} {A : Around} {E : Value → Shared → Prop} {R : Result → Shared → Prop} {hp : Heap} {ge : Array GenState} {dr : Drawn} {tk : Nat} {os : OsState}
variable {nm qn : Str} {C N : Addr} {bs tl : List Value} {sn : List Str} {sub : List Value} {ab : Bool} {col : Option Bool} {dd : Option Addr} {k0 k1 k2 k3 k5 : Option Value} {us : List Value} {kw : List (Str × Value)}
/-- the class's own line and its row of bases -/
abbrev XClass (hp : Heap) (nm qn : Str) (C N : Addr) (bs tl : List Value) (sn : List Str) (sub : List Value) (ab : Bool) (col : Option Bool) (dd : Option Addr) (k0 k1 k2 k3 k5 : Option Value) : Prop :=
  hp.get? C = some (excClassObj nm qn C N bs tl true sn sub ab col dd k0 k1 k2 k3 k5 "ValueError.__new__")
theorem xHas (r : refsVE tl = true) (c : String) (b : Bool) (e : veTail.contains (.type c) = b) : (Value.ref C :: tl).contains (.type c) = b := by
  rw [List.contains_cons, refsVE_contains c tl r, e]
  cases b <;> rfl
theorem xNewOk {Q : Unit → Shared → Prop} (r : refsVE tl = true) (o : XClass hp nm qn C N bs tl sn sub ab col dd k0 k1 k2 k3 k5) (q : Q () ⟨hp, ge, dr, tk, os⟩) :
    wpAny M A (checkBuiltinCall "ValueError.__new__" ⟨.ref C :: us, kw⟩) Q E ⟨hp, ge, dr, tk, os⟩ := by
  have fb := F.excBase_ValueError
  have z := xHas (C := C) r "ValueError" true (by decide +kernel)
  have st := fb.noStar
  simp only [checkBuiltinCall, fb.newKind, fb.newSplit, fb.newRow]
  repeat (first | refine wpAny_staticBase_exc o ?_ | refine wpAny_madeBy_exc o ?_ | refine wpAny_loadPart_at o ?_ | (refine wpAny_isSubtype_exc o ?_; rw [z]) | simp only [if_false, bne_self_eq_false, Bool.false_eq_true] | wp_step)
  exact q
/-- BaseException.__new__ looks at no keyword -/
theorem xNew (r : refsVE tl = true) (o : XClass hp nm qn C N bs tl sn sub ab col dd k0 k1 k2 k3 k5) (hl : us.length ≤ sizeLine)
    (q : R (.ok (.ret (.ref (hp.objs.size + 1)))) ⟨(hp.push (kdv_tup us)).push (excO C hp.objs.size), ge, dr, tk, os⟩) :
    codeAny (model prog w) A (.builtin "ValueError.__new__" ⟨.ref C :: us, kw⟩) R ⟨hp, ge, dr, tk, os⟩ := by
  have fb := F.excBase_ValueError
  have en := fb.ends
  have z1 := xHas (C := C) r "ValueError" true (by decide +kernel)
  have z2 := xHas (C := C) r "AttributeError" false (by decide +kernel)
  have z3 := xHas (C := C) r "NameError" false (by decide +kernel)
  apply codeAny_builtinAt fb.entry
  unfold Builtin.«BaseException.__new__»
  refine PySem.wpAt_bind ?_
  show PySem.wpAt _ _ _ (stack >>= _) _ _ _
  refine PySem.wpAt_bind (PySem.wpAt_stack fun below p => ?_)
  apply PySem.wpAt_of_wpAny
  wp_walk
  apply PySem.wpAt_of_wpAny
  rw [fb.owner]
  repeat (first | with_reducible refine wpAny_loadPart_at o ?_ | with_reducible refine wpAny_madeHere_exc fb.canon o ?_ | (with_reducible refine wpAny_isSubtype_exc o ?_; first | rw [z1] | rw [z2] | rw [z3]) | wp_step)
  show R _ _
  rw [Heap.size_push]
  exact q
theorem xType {fI : Addr} {Q : Fin → Shared → Prop} (r : refsVE tl = true) (o : XClass hp nm qn C N bs tl sn sub ab col dd k0 k1 k2 k3 k5) (hl : us.length ≤ sizeLine)
    (li : Looks (model prog w) hp (typeLookup (.ref C) "__init__") (some (.ref fI))) (lb : ∀ self, Looks (model prog w) hp (bindSpecial (.ref fI) self) (.ref fI, [self]))
    (q : codeAny (model prog w) A (.call (.ref fI) ⟨.ref (hp.objs.size + 1) :: us, kw⟩)
      (fun r s' => match r with | .error e => E e s' | .ok (.ret v) => v = .none ∧ Q (.done (.ret (.ref (hp.objs.size + 1)))) s' | .ok _ => False)
      ⟨(hp.push (kdv_tup us)).push (excO C hp.objs.size), ge, dr, tk, os⟩) :
    wpAny (model prog w) A (Builtin.«type.__call__» ⟨.ref C :: us, kw⟩) Q E ⟨hp, ge, dr, tk, os⟩ := by
  have fb := F.excBase_ValueError
  repeat (first | with_reducible refine wpAny_madeBy_exc o ?_ | with_reducible refine wpAny_loadPart_at o ?_ | wp_step)
  apply codeAny_call_builtin_code (Code.quiet_builtin _ fb.quiet)
  apply xNewOk r o
  apply xNew r o hl
  show wpAny _ _ _ _ _ _
  have kk : ∀ b u, hp.get? b = some u → ((hp.push (kdv_tup us)).push (excO C hp.objs.size)).get? b = some u := fun b u e =>
    Heap.get?_push_of_some _ (Heap.get?_push_of_some _ e)
  have o1 := kk _ _ o
  have eg : ((hp.push (kdv_tup us)).push (excO C hp.objs.size)).get? (hp.objs.size + 1) = some (excO C hp.objs.size) := by
    heap_get
  have me : (Value.ref C :: tl).contains (.ref C) = true := by simp
  unfold isInstance
  repeat (first | with_reducible refine wpAny_loadPart_at eg ?_ | (with_reducible refine wpAny_isSubtype_exc o1 ?_; rw [me]) | wp_step)
  show wpAny _ _ (typeLookup (.ref C) _) _ _ _
  apply (li.keeps kk).at
  apply wpAny_holding; apply wpAny_bind
  apply ((lb (.ref (hp.objs.size + 1))).keeps kk).at
  apply wpAny_bind; apply wpAny_call
  refine codeAny_mono q fun r s' y => ?_
  rcases r with e | (v | _ | _ | _) <;> first | exact y | exact y.elim | skip
  obtain ⟨rfl, y⟩ := y
  first
    | exact wpAny_pure (wpAny_pure y)
    | (wp_walk; exact y)
/-- C(.., f = ..): a fresh error, then the own __init__ -/
theorem xCall {fI : Addr} (r : refsVE tl = true) (o : XClass hp nm qn C N bs tl sn sub ab col dd k0 k1 k2 k3 k5) (hl : us.length ≤ sizeLine)
    (li : Looks (model prog w) hp (typeLookup (.ref C) "__init__") (some (.ref fI))) (lb : ∀ self, Looks (model prog w) hp (bindSpecial (.ref fI) self) (.ref fI, [self]))
    (q : codeAny (model prog w) (A.under (.builtin "type.__call__" ⟨.ref C :: us, kw⟩)) (.call (.ref fI) ⟨.ref (hp.objs.size + 1) :: us, kw⟩) (InitBack (hp.objs.size + 1) R)
      ⟨(hp.push (kdv_tup us)).push (excO C hp.objs.size), ge, dr, tk, os⟩) : codeAny (model prog w) A (.call (.ref C) ⟨us, kw⟩) R ⟨hp, ge, dr, tk, os⟩ := by
  have g1 := tc_lookup
  have g2 := tc_bind (.ref C)
  have ty : (⟨hp, ge, dr, tk, os⟩ : Shared).TypeIs (.ref C) "type" := ⟨_, o, rfl⟩
  apply codeAny_of_tree
  show wpAny _ _ (callAny (.ref C) _) _ _ _
  repeat (any_goals (first | with_reducible refine wpAny_loadPart_at o ?_ | assumption | wp_step))
  refine ⟨rfl, ?_⟩
  have ti : Looks (model prog w) hp (typeOf (.ref C)) (.type "type") := (Looks.ld o).andThen .now
  have isT : Looks (model prog w) hp (isInstance (.ref C) (.type "type")) true := ti.andThen (.of_pure tc_sub)
  apply codeAny_call_builtin_at (Code.quiet_builtin _ (by decide +kernel)) entry_typeCall
  refine check_slot tc_kind tc_split isT (tc_args _ _ _) ?_
  refine xType (E := fun e s' => R (.error e) s') r o hl li lb (codeAny_mono q fun r s' y => ?_)
  rcases r with e | (v | _ | _ | _) <;> exact y
end

/-! ### what the written part says of such a class -/
structure Xcl (K : Frag) (C : Addr) : Prop where
  o : OexC K C
  ga : findIn K (.ref C) "__getattribute__" = some (some (.builtin "BaseException.__getattribute__"))
  gg : findIn K (.ref C) "__getattr__" = some none
  hd : hasDictIn K C = true
  ha : findIn K (.ref C) "__class__" = some (some (.builtin "object.__class__"))
  hn : specialIn K (.builtin "object.__class__") "__get__" = some (some (.builtin "getset_descriptor.__get__"))
  ht : takesIn K (.builtin "object.__class__") = some true
  hm : mroIn K C (.type "object") = some true
def oexB (K : Frag) (C : Addr) : Bool := match K.lookup C with
  | some ⟨.type ty, _, .cls cd, sl⟩ => (match cd.mro, sl.toList with
    | .ref C2 :: tl, [_, _, _, _, some (.builtin mk), _] => ((decide (ty = "type") && decide (C2 = C)) && (decide (mk = "ValueError.__new__") && refsVE tl)) && (cd.hasDict && !cd.hasDel)
    | _, _ => false)
  | _ => false
theorem oexB_ok {K : Frag} {C : Addr} (q : oexB K C = true) : ∃ nm q N bs bm sn sub ab col dd k0 k1 k2 k3 k5, K.lookup C = some (excClassObj nm q C N bs bm true sn sub ab col dd k0 k1 k2 k3 k5 "ValueError.__new__") ∧ refsVE bm = true := by
  unfold oexB at q
  split at q
  · rename_i ty dd cd sl lk
    split at q
    · rename_i C2 tl a0 a1 a2 a3 mk a5 em es
      obtain ⟨q, qd⟩ := Bool.and_eq_true_iff.mp q
      obtain ⟨q1, q2⟩ := Bool.and_eq_true_iff.mp q
      obtain ⟨t1, t2⟩ := Bool.and_eq_true_iff.mp q1
      obtain ⟨t3, t4⟩ := Bool.and_eq_true_iff.mp q2
      obtain ⟨t5, t6⟩ := Bool.and_eq_true_iff.mp qd
      obtain rfl := of_decide_eq_true t1
      obtain rfl := of_decide_eq_true t2
      obtain rfl := of_decide_eq_true t3
      have dl : cd.hasDel = false := by simpa using t6
      obtain ⟨c0, c1, c2, c3, c4, c5, c6, c7, c8, c9, c10⟩ := cd
      cases dl; cases t5; cases em
      obtain ⟨sl⟩ := sl
      cases es
      exact ⟨_, _, _, _, _, _, _, _, _, _, _, _, _, _, _, lk, t4⟩
    · cases q
  · cases q
def xclB (K : Frag) (C : Addr) : Bool := [oexB K C, decide (findIn K (.ref C) "__setattr__" = some (some (.builtin "object.__setattr__"))), decide (subIn K (.ref C) (.type "BaseException") = some true), decide (typeIn K (.ref C) = some (.type "type")), keepIn K (.ref C),
  decide (findIn K (.ref C) "__getattribute__" = some (some (.builtin "BaseException.__getattribute__"))), decide (findIn K (.ref C) "__getattr__" = some none), hasDictIn K C, decide (findIn K (.ref C) "__class__" = some (some (.builtin "object.__class__"))),
  decide (specialIn K (.builtin "object.__class__") "__get__" = some (some (.builtin "getset_descriptor.__get__"))), decide (takesIn K (.builtin "object.__class__") = some true), decide (mroIn K C (.type "object") = some true)].all id
theorem xclB_ok {K : Frag} {C : Addr} (h : xclB K C = true) : Xcl K C := by
  unfold xclB at h
  simp only [List.all_cons, List.all_nil, id, Bool.and_true, Bool.and_eq_true, decide_eq_true_eq] at h
  obtain ⟨h1, h2, h3, h4, h5, h6, h7, h8, h9, h10, h11, h12⟩ := h
  exact ⟨⟨oexB_ok h1, h2, h3, h4, h5⟩, h6, h7, h8, h9, h10, h11, h12⟩

/-! ### such an error as a value, on the abstract heap -/
/-- what an __init__ that only stores its one argument promises -/
def spI (C : Addr) (f : Str) : Sp := fun vs H Q _ => ∃ (a : Addr) (v : V), vs = [.ref a, v] ∧ H a = some (exo a C none) ∧ ∀ dx, H dx = none → dx ≠ a → Q .non (upd (upd H dx (exd dx [(f, v)])) a (exo a C (some dx)))
theorem ok_init {P : Program} {w : World} {K : Frag} {mg : Str → Option Value} {base : Heap} {C fI : Addr} {fd : FuncData} {x qual f : Str} {params : Arguments} {scope : Scope} {q1 q2 q3 q4 : Pos} (T : OexC K C) (no : findIn K (.ref C) f = some none)
    (F : FunD K x qual params [.Assign [.Attribute (.Name "self" q1) f q2] (.Name f q3) q4] scope [] [] fI fd) (S : FnScope ["self", f] ["self", f] scope) (v0 : Vis scope "self") (v1 : Vis scope f) (d1 : (f == ("__debug__" : Str)) = false) (d2 : (f == ("__classdict__" : Str)) = false) :
    FnOk P w K mg base CX0 1 fI fd ["self", f] (spI C f) :=
  FunD.ok F S (fun vs H Q E ⟨a, v, e, _⟩ => by rw [e]; rfl) fun cdv A outer s H vs Q E hr h => by
    obtain ⟨a, v, rfl, ea, q⟩ := h
    refine ⟨_, pss_one (ps_ost (pe_var (i := 0) rfl v0) (pe_var (i := 1) rfl v1 d1 d2)), ?_⟩
    exact ⟨v, rfl, .ref a, rfl, a, C, rfl, T, no, .inl ⟨ea, fun dx n ne => q dx n ne⟩⟩
section
variable {X : Cx} {k n : Nat} {fI C : Addr} {fd : FuncData} {ps ks : List Str} {f c x : Str} {p pos : Pos} {e : Expr} {es : List Expr} {kws : List Keyword} {t tk : TA} {g : List Value → List Value → List Value} {gV : List V → List V → List V}
theorem run_x {sp : Sp} {pins : List (Addr × Obj)} {σ : L2.St} {H : Hp} {s : Shared} {Q : VK} {us ws : List Value} {vs zs : List V} (T : OexC X.K C) (iC : findIn X.K (.ref C) "__init__" = some (some (.ref fI))) (tI : typeIn X.K (.ref fI) = some (.type "function"))
    (F : FnOk X.prog X.w X.K X.mg X.base CX0 k fI fd ps sp) (hr : Room (k + 1) X.A) (hb : KBn X.K fd ps (n + 1) ks g gV) (I : Inv X pins σ H s) (r : Vals vs us) (rz : Vals zs ws) (l1 : vs.length = n) (l2 : zs.length = ks.length) (lm : vs.length ≤ 1000)
    (h : ∀ a, H a = none → sp (gV (.ref a :: vs) zs) (upd H a (exo a C none)) (fun v H2 => v = .non ∧ Q (.ref a) H2) (fun _ _ _ => False)) :
    wpAny (model X.prog X.w) X.A (call (.ref C) us (ks.zip ws)) (EP X pins σ Q) X.xe s := by
  obtain ⟨nm, q, N, bs, bm, sn, sub, ab, col, dd, k0, k1, k2, k3, k5, lc, rb⟩ := T.cls
  obtain ⟨hp, ge, dr, tt, os⟩ := s
  have big : hp.objs.size ≤ hp.objs.size + 1 := Nat.le_succ _
  have fresh : H (hp.objs.size + 1) = none := I.hok.fresh big
  have hq := h _ fresh
  have old : ∀ b u, hp.get? b = some u → ((hp.push (kdv_tup us)).push (excO C hp.objs.size)).get? b = some u := fun b u e =>
    Heap.get?_push_of_some _ (Heap.get?_push_of_some _ e)
  have this : ((hp.push (kdv_tup us)).push (excO C hp.objs.size)).get? (hp.objs.size + 1) = some (excO C hp.objs.size) := by
    heap_get
  have J : Inv X pins σ (upd H (hp.objs.size + 1) (exo (hp.objs.size + 1) C none)) ⟨(hp.push (kdv_tup us)).push (excO C hp.objs.size), ge, dr, tt, os⟩ :=
    I.laid (t' := tt) old big (exo_ok this)
  have ra : Vals (V.ref (hp.objs.size + 1) :: vs) (Value.ref (hp.objs.size + 1) :: us) := .cons rfl r
  have rr := hb.rel ra rz
  have lu : us.length ≤ sizeLine := by
    rw [← Paired.length r, sizeLine_eq]; omega
  have ln : (Value.ref (hp.objs.size + 1) :: us).length = n + 1 := by rw [List.length_cons, ← r.length, l1]
  refine wpAny_call (xCall rb (I.kIn _ _ lc) lu (looks_findIn I.kIn iC) (fun self => bind_fn I.kIn self tI) (codeAny_mono (F.run _ X.stack _ _ _ (g (Value.ref (hp.objs.size + 1) :: us) ws) _ _ (fun _ _ _ => False)
    (hr.make C us (ks.zip ws)) (J.env0.make C us (ks.zip ws)) (hb.to _ _ ws J.kIn ln (rz.length.symm.trans l2)) rr hq) fun r s' hq' => ?_))
  cases r with
  | error er => exact pass0 pins σ _ _ er s' J hq'
  | ok fl =>
    cases fl with
    | ret u =>
      obtain ⟨v, H2, J2, rv, ev, q2⟩ := J.after hq'
      subst ev
      exact ⟨rv, .ref (hp.objs.size + 1), H2, J2, rfl, q2⟩
    | _ => exact False.elim hq'
/-- c(e, ..) -/
def tMkX (sp : Sp) (C : Addr) (n m : Nat) (gV : List V → List V → List V) (t tk : TA) : TE := fun σ H Q => t σ H fun vs H1 => tk σ H1 fun zs H2 => vs.length = n ∧ zs.length = m ∧ n ≤ 1000 ∧ ∀ a, H2 a = none → sp (gV (.ref a :: vs) zs) (upd H2 a (exo a C none)) (fun v H3 => v = .non ∧ Q (.ref a) H3) (fun _ _ _ => False)
theorem pe_mkx {sp : Sp} (T : OexC X.K C) (iC : findIn X.K (.ref C) "__init__" = some (some (.ref fI))) (tI : typeIn X.K (.ref fI) = some (.type "function")) (F : FnOk X.prog X.w X.K X.mg X.base CX0 k fI fd ps sp) (hr : Room (k + 1) X.A) (hb : KBn X.K fd ps (n + 1) [] g gV)
    (hg : Gl X x) (hm : X.mg x = some (.ref C)) (ha : PA X (e :: es) t) (hdb : (x == ("__debug__" : Str)) = false := by decide) (he : starEach (e :: es) X.env = (false, eval e X.env) :: starEach es X.env := by rfl) (hpl : (backTo pos (starEach es X.env)).any (·.1) = false := by rfl) :
    PE X (.Call (.Name x p) (e :: es) [] pos) (tMkX sp C n 0 gV t tNil) := by
  refine ⟨fun pins s σ H Q I h => wpAny_Call_Name_kw (ld_glob I hg hm ?_ hdb)⟩
  refine callWith_K (h₀ := X.base) I.ok.mod.kin T.kC (thn (ha.run pos pins s σ H _ I h) fun us s1 hh => ?_) he hpl
  obtain ⟨vs, H1, I1, r1, l1, l2, lm, q1⟩ := hh
  exact ⟨I1.kIn, run_x (ks := []) (ws := []) (zs := []) T iC tI F hr hb I1 r1 .nil l1 l2 (by omega) q1⟩
/-- c(f = e) -/
theorem pe_mkxk {sp : Sp} (T : OexC X.K C) (iC : findIn X.K (.ref C) "__init__" = some (some (.ref fI))) (tI : typeIn X.K (.ref fI) = some (.type "function")) (F : FnOk X.prog X.w X.K X.mg X.base CX0 k fI fd ps sp) (hr : Room (k + 1) X.A) (hb : KBn X.K fd ps 1 ks g gV)
    (hg : Gl X x) (hm : X.mg x = some (.ref C)) (ha : PK X kws tk) (hall : (backToKw pos (keywordEach kws X.env)).all (·.1.isSome) = true := by rfl) (hks : (backToKw pos (keywordEach kws X.env)).filterMap (·.1) = ks := by rfl) (hdb : (x == ("__debug__" : Str)) = false := by decide)
    (hpl : ((backTo pos (starEach [] X.env)).any (·.1) || (backToKw pos (keywordEach kws X.env)).any (·.1.isNone)) = false := by rfl) :
    PE X (.Call (.Name x p) [] kws pos) (tMkX sp C 0 ks.length gV tNil tk) := by
  refine ⟨fun pins s σ H Q I h => wpAny_Call_Name_kw (ld_glob I hg hm ?_ hdb)⟩
  refine callWith_KW0 (h₀ := X.base) I.ok.mod.kin T.kC hall (thn (ha.run pos pins s σ H _ I h) fun ws s1 hh => ?_) hpl
  obtain ⟨zs, H1, I1, r1, l1, l2, lm, q1⟩ := hh
  refine ⟨I1.kIn, ?_⟩
  rw [hks]
  exact run_x (us := []) (vs := []) T iC tI F hr hb I1 .nil r1 rfl l2 (by simp) q1
/-- c(), no __init__ of its own -/
theorem pe_mkx0 (T : Xcl X.K C) (q : excIn X.K C He.veBase "ValueError.__new__" = true) (hg : Gl X x) (hm : X.mg x = some (.ref C)) (hdb : (x == ("__debug__" : Str)) = false := by decide) :
    PE X (.Call (.Name x p) [] [] pos) (fun σ H Q => ∀ a, H a = none → Q (.ref a) (upd H a (ExO (.ref C) a))) := by
  refine ⟨fun pins s σ H Q I h => wpAny_Call_Name_kw (ld_glob I hg hm ?_ hdb)⟩
  refine callWith_K0 I.kIn T.o.kC ?_
  obtain ⟨hp, ge, dr, tt, os⟩ := s
  obtain ⟨tl, N, nm, qn, bs, hdct, sn, sub, ab, col, dd, k0, k1, k2, k3, k5, mN, o, hN, no, ot⟩ := exc_obj I.kIn q
  refine wpAny_call_exc_subT F.excBase_ValueError ot o hN no (fun h' a hm => ?_) (by show 0 ≤ sizeLine; exact Nat.zero_le _)
  have fresh : H a = none := I.hok.gone hm.new
  obtain ⟨tu, there, _, _⟩ := hm.there
  exact ⟨.ref a, _, I.laidN hm.keeps hm.new fresh (exO_ok there ⟨rfl, rfl⟩ rfl rfl rfl (show 4 < 6 by decide)), rfl, h a fresh⟩
/-- e.f of such an error -/
theorem pe_atx {te : TE} {f : Str} (he : PE X e te) (hb : attributeBase e f X.env (eval e X.env) = eval e X.env := by rfl) :
    PE X (.Attribute e f pos) (fun σ H Q => te σ H fun x H1 => ∃ (a C dx : Addr) (v : V), x = .ref a ∧ Xcl X.K C ∧ findIn X.K (.ref C) f = some none ∧ H1 a = some (exo a C (some dx)) ∧ H1 dx = some (exd dx [(f, v)]) ∧ Q v H1) := by
  refine ⟨fun pins s σ H Q I h => attr_of hb (thn (he.run pins s σ H _ I h) fun u s1 hh => ?_)⟩
  obtain ⟨x, H1, I1, rx, a, C, dx, v, rfl, T, no, ea, ed, q⟩ := hh
  cases rx
  obtain ⟨t1, ho⟩ := exo_at I1.hok ea
  obtain ⟨mA, ns, rl⟩ := exd_at I1.hok ed
  obtain ⟨od, hd, lk⟩ := lookIn_ns ns
  have l1 : List.lookup f [(f, v)] = some v := by simp [List.lookup]
  obtain ⟨u, eu, ru⟩ := RelO.some_of (v := v) (o := mA f) (by rw [← l1]; exact rl f)
  have J : InstAt s1.heap a _ C (some od) := ⟨ho, rfl, rfl, hd⟩
  exact exc_get I1.kIn J T.ga T.gg T.o.exC (findObj_own T.hd no rfl (by rw [lk, eu])) (handed_of ru) ⟨v, H1, I1.tok _, ru, q⟩
/-- isinstance(x, c), x such an error -/
def rIsX (K : Frag) : List V → Hp → VK → Prop := fun xs H Q => ∃ (a C : Addr) (c : V) (u : Value) (b : Bool), xs = [.ref a, c] ∧ ClsV c u ∧ Xcl K C ∧ (H a = some (ExO (.ref C) a) ∨ ∃ dx fs, H a = some (exo a C (some dx)) ∧ H dx = some (exd dx fs)) ∧ kitOne K (.ref C) u = some b ∧ Q (.bl b) H
theorem call_isX : CallR X (.builtin "isinstance") (rIsX X.K) := by
  intro pins s σ H xs us Q I r h
  obtain ⟨a, C, c, u, b, rfl, cv, T, obj, ek, q⟩ := h
  obtain ⟨u1, u2, rfl, r1, r2⟩ := vals2 r
  obtain rfl := cv.eq r2
  cases r1
  have J : ∃ o od, InstAt s.heap a o C od := by
    rcases obj with z | ⟨dx, fs, z, zd⟩
    · obtain ⟨⟨oe, vs, ho, hz, hd, _⟩, _⟩ := I.hok a _ z
      obtain ⟨oc, od, oda, osl⟩ := oe
      obtain ⟨z1, z2⟩ := hz
      dsimp only at z1 z2 hd
      subst z1 z2 hd
      exact ⟨_, none, ho, rfl, rfl, trivial⟩
    · obtain ⟨t1, ho⟩ := exo_at I.hok z
      obtain ⟨mA, ns, rl⟩ := exd_at I.hok zd
      obtain ⟨od, hd, lk⟩ := lookIn_ns ns
      exact ⟨_, some od, ho, rfl, rfl, hd⟩
  obtain ⟨o, od, J⟩ := J
  have cl : (clsIn X.K C).isSome = true := by
    obtain ⟨cd, hc, _⟩ := any_some T.hd
    rw [hc]; rfl
  exact kia_one (kitx_exc (od := od) cl T.ga T.gg T.o.exC T.ha T.hn T.ht T.hm) I.kIn J ek (fun z => nomatch z) fun tk => ⟨.bl b, H, I.tok tk, rfl, q⟩
end
end Tw

namespace Tw
open PySem PySem.Spec PyProof.Rows L2

/-! ### binding of self and one more -/
section
variable {K : PySem.W.Frag} {x qual f : Str} {params : Arguments} {body : List Stmt} {scope : Scope} {fI : Addr} {fd : FuncData}
theorem kb_pos (F : FunD K x qual params body scope [] [] fI fd) (h : ∀ (kV doc pm : Value) (an : Option Addr) (cdv ct a b : Value), bindArgs (PySem.W.fnOf x qual params body scope .none kV doc pm an cdv ct) ⟨[a, b], []⟩ = pure [(("self" : Str), a), (f, b)]) :
    KBn K fd ["self", f] 2 [] (fun us _ => us) (fun vs _ => vs) :=
  ⟨fun s us ws X l1 l2 => FunD.bindsA (ps := ["self", f]) F (fun kV doc pm an cdv ct us hl => match us, hl with | [a, b], _ => h kV doc pm an cdv ct a b) s us l1, fun r _ => r⟩
theorem kb_kw (F : FunD K x qual params body scope [] [] fI fd) (h : ∀ (kV doc pm : Value) (an : Option Addr) (cdv ct a b : Value), bindArgs (PySem.W.fnOf x qual params body scope .none kV doc pm an cdv ct) ⟨[a], [(f, b)]⟩ = pure [(("self" : Str), a), (f, b)]) :
    KBn K fd ["self", f] 1 [f] (fun us ws => us ++ ws) (fun vs zs => vs ++ zs) := by
  refine ⟨fun s us ws X l1 l2 => ?_, fun r1 r2 => r1.append r2⟩
  obtain ⟨oc, od, dV, kV, doc, pm, an, cdv, ct, osl, rfl, lk, hcd, hD, hK⟩ := F.ex
  rcases hD with ⟨_, rfl⟩ | ⟨e, _⟩
  · match us, ws, l1, l2 with
    | [a], [b], _, _ => exact BindsTo.of_looks fun M => .of_pure (h kV doc pm an cdv ct a b)
  · exact absurd rfl e
end
/-- what is needed to make c(e), c(f = e) -/
structure XM (P : Program) (w : World) (K : PySem.W.Frag) (mg : Str → Option Value) (base : Heap) (c f : Str) : Prop where
  ex : ∃ (C fI : Addr) (fd : FuncData), mg c = some (.ref C) ∧ OexC K C ∧ PySem.W.findIn K (.ref C) "__init__" = some (some (.ref fI)) ∧ PySem.W.typeIn K (.ref fI) = some (.type "function") ∧ FnOk P w K mg base CX0 1 fI fd ["self", f] (spI C f) ∧
    KBn K fd ["self", f] 2 [] (fun us _ => us) (fun vs _ => vs) ∧ KBn K fd ["self", f] 1 [f] (fun us ws => us ++ ws) (fun vs zs => vs ++ zs)
def dX1 (c f : Str) (a : En → M D) : En → M D := fun ρ => bnd (a ρ) fun d => ret (.exf c f d)
def dX0 (c : Str) : En → M D := fun _ => ret (.exc c)
section
variable {X : Cx} {We : WE'} {c f : Str} {p pos kpos : Pos} {e : Expr} {da : En → M D}
theorem x1_new {W : Wd} {H : Hp} {v : V} {d : D} {a C dx : Addr} (hm : X.mg c = some (.ref C)) (g : Gr (Cxp X) W H) (r : Rv (Cxp X) W H v d) (n : H a = none) (nd : upd H a (exo a C none) dx = none) (ne : dx ≠ a) :
    ∃ H', upd (upd (upd H a (exo a C none)) dx (exd dx [(f, v)])) a (exo a C (some dx)) = H' ∧ Gr (Cxp X) W H' ∧ Ext W H W H' ∧ Rv (Cxp X) W H' (.ref a) (.exf c f d) := by
  rw [upd_ne ne] at nd
  have na : upd H dx (exd dx [(f, v)]) a = none := by rw [upd_ne (Ne.symm ne)]; exact n
  refine ⟨upd (upd H dx (exd dx [(f, v)])) a (exo a C (some dx)), ?_, (g.laid nd).laid na, (Ext.laid nd).trans (Ext.laid na), ?_⟩
  · funext b
    by_cases e : b = a
    · rw [e, upd_same, upd_same]
    · rw [upd_ne e, upd_ne e]
      by_cases e2 : b = dx
      · rw [e2, upd_same, upd_same]
      · rw [upd_ne e2, upd_ne e2, upd_ne e]
  · exact .exf hm upd_same (fresh_L g n) (by rw [upd_ne ne]; exact upd_same) (fresh_L g nd) ((r.keep g (Ext.laid nd)).keep (g.laid nd) (Ext.laid na))
theorem x1_up {C : Addr} (hm : X.mg c = some (.ref C)) {σ : L2.St} {H : Hp} {Q : VK} (h : upE (Cxp X) We (dX1 c f da) σ H Q) :
    upE (Cxp X) We da σ H fun v H1 => ∀ a, H1 a = none → spI C f [.ref a, v] (upd H1 a (exo a C none)) (fun v H3 => v = .non ∧ Q (.ref a) H3) (fun _ _ _ => False) := by
  obtain ⟨W, ρ, r, G', hR, e, p⟩ := h
  refine up_bnd hR e p fun d W1 v H1 x1 R1 r1 e1 p1 => ?_
  refine fun a n => ⟨a, v, rfl, upd_same, fun dx nd ne => ⟨rfl, ?_⟩⟩
  obtain ⟨H', eh, g, x, rv⟩ := x1_new (f := f) hm R1.gr r1 n nd ne
  rw [eh]
  exact up_ret e1 p1 W1 _ H' rfl x g rv
theorem te_x1 (T : XM X.prog X.w X.K X.mg X.base c f) (hr : Room 2 X.A) (hg : Gl X c) (ha : PE X e (upE (Cxp X) We da)) (hdb : (c == ("__debug__" : Str)) = false := by decide) (he : starEach (e :: []) X.env = (false, eval e X.env) :: starEach [] X.env := by rfl) (hpl : (backTo pos (starEach [] X.env)).any (·.1) = false := by rfl) :
    PE X (.Call (.Name c p) [e] [] pos) (upE (Cxp X) We (dX1 c f da)) := by
  obtain ⟨C, fI, fd, hm, O, iC, tI, F, b1, b2⟩ := T.ex
  refine PE.imp (pe_mkx (n := 1) O iC tI F hr b1 hg hm (pa_cons ha pa_nil he) hdb he hpl) fun σ H Q h => ?_
  obtain ⟨W, ρ, r, G', hR, e1, p1⟩ := x1_up (f := f) hm h
  refine ⟨W, ρ, r, G', hR, e1, ?_⟩
  cases r with
  | inr d => exact fun W' v H' eg x g rv => ⟨rfl, rfl, by decide, p1 W' v H' eg x g rv⟩
  | inl er => exact p1
theorem te_xk (T : XM X.prog X.w X.K X.mg X.base c f) (hr : Room 2 X.A) (hg : Gl X c) (ha : PE X e (upE (Cxp X) We da)) (hdb : (c == ("__debug__" : Str)) = false := by decide) (hall : (backToKw pos (keywordEach [⟨some f, e, kpos⟩] X.env)).all (·.1.isSome) = true := by rfl) (hks : (backToKw pos (keywordEach [⟨some f, e, kpos⟩] X.env)).filterMap (·.1) = [f] := by rfl)
    (hpl : ((backTo pos (starEach [] X.env)).any (·.1) || (backToKw pos (keywordEach [⟨some f, e, kpos⟩] X.env)).any (·.1.isNone)) = false := by rfl) :
    PE X (.Call (.Name c p) [] [⟨some f, e, kpos⟩] pos) (upE (Cxp X) We (dX1 c f da)) := by
  obtain ⟨C, fI, fd, hm, O, iC, tI, F, b1, b2⟩ := T.ex
  refine PE.imp (pe_mkxk (ks := [f]) O iC tI F hr b2 hg hm (pk_cons ha pk_nil) hall hks hdb hpl) fun σ H Q h => ?_
  obtain ⟨W, ρ, r, G', hR, e1, p1⟩ := x1_up (f := f) hm h
  refine ⟨W, ρ, r, G', hR, e1, ?_⟩
  cases r with
  | inr d => exact fun W' v H' eg x g rv => ⟨rfl, rfl, by decide, p1 W' v H' eg x g rv⟩
  | inl er => exact p1
theorem te_x0 {C : Addr} (T : Xcl X.K C) (q : PySem.W.excIn X.K C He.veBase "ValueError.__new__" = true) (hg : Gl X c) (hm : X.mg c = some (.ref C)) (hdb : (c == ("__debug__" : Str)) = false := by decide) :
    PE X (.Call (.Name c p) [] [] pos) (upE (Cxp X) We (dX0 c)) := PE.imp (pe_mkx0 T q hg hm hdb) fun σ H Q h => by
  obtain ⟨W, ρ, r, G', hR, e, p⟩ := h
  intro a n
  exact up_ret e p W _ _ rfl (Ext.laid n) (hR.gr.laid n) (.exc hm upd_same (fresh_L hR.gr n))
/-- a class of the program as a value -/
theorem te_cls {C : Addr} (hg : Gl X c) (hm : X.mg c = some (.ref C)) (hd : (c == ("__debug__" : Str)) = false := by decide) : PE X (.Name c pos) (upE (Cxp X) We (dC (.cls c))) :=
  PE.imp (pe_glob (v := .ref C) hg hm rfl hd) fun _ _ _ h => up_const (fun _ _ => .cls hm) h
theorem te_bty {n : String} (hg : Gl X c) (hm : X.mg c = none) (hv : bootBuiltins c = some (.type n)) (hn : c ≠ "__name__" := by decide) (hd : (c == ("__debug__" : Str)) = false := by decide) : PE X (.Name c pos) (upE (Cxp X) We (dC (.ty n))) :=
  PE.imp (pe_bltn (v := .ty n) hg hm hv rfl hn hd) fun _ _ _ h => up_const (fun _ _ => .ty n) h
/-- e.f; tab: the classes whose errors may be asked -/
def attO (tab : List Str) (f : Str) : D → Option D
  | .exf c g x => if (tab.contains c && g == f) = true then some x else none
  | _ => none
def dAt (tab : List Str) (f : Str) (a : En → M D) : En → M D := fun ρ => bnd (a ρ) fun d => lft (pur (attO tab f d))
def XAt (K : PySem.W.Frag) (mg : Str → Option Value) (tab : List Str) (f : Str) : Prop := ∀ c ∈ tab, ∃ C, mg c = some (.ref C) ∧ Xcl K C ∧ PySem.W.findIn K (.ref C) f = some none
theorem te_at {tab : List Str} (T : XAt X.K X.mg tab f) (he : PE X e (upE (Cxp X) We da)) (hb : attributeBase e f X.env (eval e X.env) = eval e X.env := by rfl) : PE X (.Attribute e f pos) (upE (Cxp X) We (dAt tab f da)) := PE.imp (pe_atx he hb) fun σ H Q h => by
  obtain ⟨W, ρ, r, G', hR, e, p⟩ := h
  refine up_bnd hR e p fun d W1 v H1 x1 R1 r1 e1 p1 => ?_
  obtain ⟨d2, e2, p2⟩ := up_lft e1 p1
  obtain ⟨e2, eg⟩ := pur_eq e2
  unfold attO at e2
  split at e2
  · rename_i c2 g2 y
    split at e2
    · rename_i hc
      obtain ⟨hc, hf⟩ := Bool.and_eq_true_iff.mp hc
      have hf := beq_iff_eq.mp hf
      subst hf
      cases e2
      cases r1 with
      | exf hm ea na ed nd rv =>
        obtain ⟨C, hm2, xc, no⟩ := T _ (by simpa using hc)
        cases (hm2.symm.trans hm)
        exact ⟨_, _, _, _, rfl, xc, no, ea, ed, p2 W1 _ H1 eg.symm Ext.refl R1.gr rv⟩
    · cases e2
  · cases e2
end
/-- isinstance(x, c), x such an error; tab tells the answers -/
def isxF (tab : Str → D → Option Bool) : List D → P1 D := fun ds G => match ds with
  | [.exc c, k] => (tab c k).map fun b => (.bl b, G)
  | [.exf c _ _, k] => (tab c k).map fun b => (.bl b, G)
  | _ => none
def XIs (K : PySem.W.Frag) (mg : Str → Option Value) (tab : Str → D → Option Bool) : Prop := ∀ (c : Str) (k : D) (b : Bool), tab c k = some b → ∃ C, mg c = some (.ref C) ∧ Xcl K C ∧ match k with
  | .cls m => ∃ E, mg m = some (.ref E) ∧ PySem.W.kitOne K (.ref C) (.ref E) = some b
  | .ty n => PySem.W.kitOne K (.ref C) (.type n) = some b
  | _ => False
theorem cd_isx {K : Pm} {tab : Str → D → Option Bool} (T : XIs K.K K.mg tab) : CallD K (rIsX K.K) (isxF tab) := fun W H vs ds d G' Q g r e p => by
  have key : ∀ {c : Str} {k : D} {b : Bool} {a C : Addr} {v : V}, tab c k = some b → K.mg c = some (.ref C) → (H a = some (ExO (.ref C) a) ∨ ∃ dx fs, H a = some (exo a C (some dx)) ∧ H dx = some (exd dx fs)) → Rv K W H v k → Q (.bl b) H → rIsX K.K [.ref a, v] H Q := by
    intro c k b a C v ht hm ho rk q
    obtain ⟨C2, hm2, xc, z⟩ := T c k b ht
    rw [hm] at hm2
    cases hm2
    cases k with
    | cls m =>
      obtain ⟨E, hE, kk⟩ := z
      cases rk with
      | cls h =>
        rw [hE] at h
        cases h
        exact ⟨a, C, _, _, b, rfl, .own E, xc, ho, kk, q⟩
    | ty n =>
      cases rk
      exact ⟨a, C, _, _, b, rfl, .ty n, xc, ho, z, q⟩
    | _ => exact z.elim
  unfold isxF at e
  split at e
  · rename_i c k
    cases ht : tab c k with
    | none => rw [ht] at e; cases e
    | some b =>
      rw [ht] at e; cases e
      cases r with
      | cons h r => cases r with
        | cons h2 r =>
          cases r
          cases h with
          | exc hm ea na => exact key ht hm (.inl ea) h2 (p W _ H rfl Ext.refl g (.bl b))
  · rename_i c f x k
    cases ht : tab c k with
    | none => rw [ht] at e; cases e
    | some b =>
      rw [ht] at e; cases e
      cases r with
      | cons h r => cases r with
        | cons h2 r =>
          cases r
          cases h with
          | exf hm ea na ed nd rv => exact key ht hm (.inr ⟨_, _, ea, ed⟩) h2 (p W _ H rfl Ext.refl g (.bl b))
  · cases e
end Tw

namespace Tw
open PySem PySem.Spec PyProof.Rows L2

/-! ### an object handed over for good: the callee sees it alone -/
def mvD (n : Nat) : D → Option D
  | .ref m => if m = n then some (.ref 0) else none
  | d => if noR d = true then some d else none
def mvDs (n : Nat) : List D → Option (List D)
  | [] => some []
  | d :: r => match mvD n d, mvDs n r with
    | some e, some s => some (e :: s)
    | _, _ => none
def refN : List D → Option Nat
  | [] => none
  | .ref n :: _ => some n
  | _ :: r => refN r
def movF (F : List D → M D) (ds : List D) : M D := fun G => match refN ds with
  | some n => match G[n]?, mvDs n ds with
    | some (.lst xs), some es => if noRs xs = true then match F es [.lst xs] with
        | some (.inr d, _) => if noR d = true then some (.inr d, G.set n .gone) else none
        | _ => none
      else none
    | _, _ => none
  | none => none
def dFm (F : List D → M D) (a : En → M (List D)) : En → M D := fun ρ => bnd (a ρ) fun ds => movF F ds
open Classical in
noncomputable def Wd.solo (W : Wd) (a : Addr) (o : O) : Wd := ⟨[a], [o], W.B ++ W.α.filter fun b => decide (live W b ∧ b ≠ a)⟩
section
variable {K : Pm} {W : Wd} {H : Hp} {a : Addr} {o : O} {n : Nat}
theorem solo_live (ho : o ≠ .gone) {b : Addr} : live (W.solo a o) b ↔ b = a := by
  constructor
  · rintro ⟨m, u, h1, h2, _⟩
    have h1' : ([a] : List Addr)[m]? = some b := h1
    cases m with
    | zero => simp at h1'; exact h1'.symm
    | succ m => simp at h1'
  · rintro rfl
    exact ⟨0, o, rfl, rfl, ho⟩
theorem solo_B {b : Addr} : b ∈ (W.solo a o).B ↔ b ∈ W.B ∨ (live W b ∧ b ≠ a) := by
  unfold Wd.solo
  simp only [List.mem_append, List.mem_filter, decide_eq_true_eq]
  constructor
  · rintro (h | ⟨_, h⟩)
    · exact .inl h
    · exact .inr h
  · rintro (h | h)
    · exact .inl h
    · exact .inr ⟨live_α h.1, h⟩
theorem solo_L (ho : o ≠ .gone) (la : live W a) {b : Addr} : L (W.solo a o) b ↔ L W b := by
  unfold L
  rw [solo_live ho, solo_B]
  constructor
  · rintro (rfl | h | h)
    · exact .inl la
    · exact .inr h
    · exact .inl h.1
  · rintro (h | h)
    · by_cases e : b = a
      · exact .inl e
      · exact .inr (.inr ⟨h, e⟩)
    · exact .inr (.inl h)
theorem mv_one (ho : o ≠ .gone) (la : live W a) (ha : W.α[n]? = some a) {v : V} {d e : D} (q : mvD n d = some e) (h : Rv K W H v d) : Rv K (W.solo a o) H v e := by
  unfold mvD at q
  split at q
  · split at q
    · rename_i en
      cases q
      subst en
      cases h with
      | ref hm =>
        rw [ha] at hm
        cases hm
        exact .ref rfl
    · cases q
  · split at q
    · rename_i en
      cases q
      exact Dr.nr (fun b l => (solo_L ho la).mp l) en h
    · cases q
theorem mv_rel (ho : o ≠ .gone) (la : live W a) (ha : W.α[n]? = some a) : ∀ (ds : List D) {vs : List V} {es : List D}, mvDs n ds = some es → Rvs K W H vs ds → Rvs K (W.solo a o) H vs es
  | [], vs, es, e, h => by
    cases h
    cases e
    exact .nil
  | d :: ds, vs, es, e, h => by
    cases h with
    | cons h r =>
      rw [mvDs] at e
      cases q : mvD n d with
      | none => rw [q] at e; cases e
      | some d2 =>
        cases q2 : mvDs n ds with
        | none => rw [q, q2] at e; cases e
        | some e2 =>
          rw [q, q2] at e
          cases e
          exact .cons (mv_one ho la ha q h) (mv_rel ho la ha ds q2 r)
end
section
variable {K : Pm} {We : WE'} {n : Nat} {F : List D → M D} {da : En → M (List D)} {σ : L2.St} {H : Hp} {Q : VK}
theorem dFm_up (hl : LenA n da) (h : upE K We (dFm F da) σ H Q) : upA K We da σ H (fun vs H1 => spF K Xo0 n F vs H1 Q E0) := by
  obtain ⟨W, ρ, r, G', hR, e, p⟩ := h
  unfold dFm bnd at e
  split at e
  · rename_i ds G1 he
    refine ⟨W, ρ, .inr ds, G1, hR, he, fun W1 vs H1 eg x1 g1 r1 => ?_⟩
    unfold movF at e
    dsimp only at e
    split at e
    · rename_i m hm
      split at e
      · rename_i xs es hx hes
        split at e
        · rename_i hnr
          split at e
          · rename_i d J hf
            split at e
            · rename_i hd
              cases e
              subst eg
              obtain ⟨a, ha⟩ : ∃ a, W1.α[m]? = some a := by
                have lt : m < W1.α.length := by rw [g1.len]; exact (List.getElem?_eq_some_iff.mp hx).1
                exact ⟨_, List.getElem?_eq_getElem lt⟩
              have ng : O.lst xs ≠ .gone := fun z => nomatch z
              have la : live W1 a := ⟨m, _, ha, hx, ng⟩
              have lvS : ∀ b, live (W1.solo a (.lst xs)) b ↔ b = a := fun b => solo_live ng
              have gS : Gr K (W1.solo a (.lst xs)) H1 := by
                refine ⟨rfl, by simp [Wd.solo], fun b hb => ?_, fun b hb => ?_, fun b hb => ?_, fun j b o' h1 h2 => ?_⟩
                · have z : b ≠ a := by
                    rcases solo_B.mp hb with q | q
                    · exact fun z => g1.dis b q (by rw [z]; exact live_α la)
                    · exact q.2
                  show b ∉ [a]
                  simpa using z
                · have z : b ∈ [a] := hb
                  have z : b = a := by simpa using z
                  rw [z]; exact g1.thA a (live_α la)
                · rcases solo_B.mp hb with q | q
                  · exact g1.thB b q
                  · exact g1.thA b (live_α q.1)
                · have h1' : ([a] : List Addr)[j]? = some b := h1
                  have h2' : ([O.lst xs] : List O)[j]? = some o' := h2
                  cases j with
                  | zero =>
                    simp at h1' h2'
                    subst h1' h2'
                    obtain ⟨us, hh, rr⟩ := g1.obj m a _ ha hx
                    exact ⟨us, hh, Drs.nr (fun b l => (solo_L ng la).mp l) hnr rr⟩
                  | succ j => simp at h1'
              refine ⟨by rw [r1.length]; exact hl ρ _ _ _ he, W1.solo a (.lst xs), es, .inr d, J, gS, mv_rel ng la ha ds hes r1, hf, fun W' v H' _ x' g' r' => ?_⟩
              have xC : Ext W1 H1 (W1.put m .gone) H' := by
                refine ⟨fun _ h => h, fun _ h => .inl h, x'.th, ⟨[], by simp [Wd.put]⟩, fun b u hb nl => ⟨(x'.keep b u hb fun l => nl (by rw [(lvS b).mp l]; exact la)).1, fun l => nl (live_put hx ng l)⟩, x'.tup⟩
              have ne : ∀ b, live (W1.put m .gone) b → live W1 b ∧ b ≠ a := fun b l => ⟨live_put hx ng l, fun z => not_L_drop g1 ha (.inl (by rw [← z]; exact l))⟩
              have gC : Gr K (W1.put m .gone) H' := by
                refine ⟨by simp [Wd.put, g1.len], g1.nd, g1.dis, fun b hb => x'.th b (g1.thA b hb), fun b hb => x'.th b (g1.thB b hb), fun j b u h1 h2 => ?_⟩
                have h1' : W1.α[j]? = some b := h1
                have h2' : (W1.G.set m .gone)[j]? = some u := h2
                by_cases ej : m = j
                · subst ej
                  rw [List.getElem?_set_self (List.getElem?_eq_some_iff.mp hx).1] at h2'
                  cases h2'
                  exact True.intro
                · rw [List.getElem?_set_ne ej] at h2'
                  by_cases eu : u = .gone
                  · subst eu; exact True.intro
                  · have lb : live W1 b := ⟨j, u, h1', h2', eu⟩
                    have nb : b ≠ a := fun z => ej (g1.one ha (by rw [← z]; exact h1'))
                    obtain ⟨hb, eb, _⟩ := g1.lv lb
                    exact (g1.obj j b u h1' h2').keep g1 xC (by rw [eb]; exact (x'.keep b hb eb fun l => nb ((lvS b).mp l)).1)
              refine p (W1.put m .gone) v H' rfl (x1.trans xC) gC (Dr.nr (fun b l => ?_) hd r')
              rcases l with l | l
              · exact .inr (x'.b b (solo_B.mpr (.inr (ne b l))))
              · exact .inr (x'.b b (solo_B.mpr (.inl l)))
            · cases e
          · cases e
        · cases e
      · cases e
    · cases e
  · rename_i er G1 he
    cases e
    exact ⟨W, ρ, .inl er, _, hR, he, p⟩
  · cases e
end

/-! ### a def that is called by its name -/
structure Cal (P : Program) (w : World) (K : PySem.W.Frag) (mg : Str → Option Value) (base : Heap) (k : Nat) (x : Str) (n : Nat) (F : List D → M D) : Prop where
  ex : ∃ (f : Addr) (fd : FuncData) (ps : List Str), mg x = some (.ref f) ∧ FnOk P w K mg base CX0 k f fd ps (spF ⟨K, P, w, mg⟩ Xo0 n F) ∧ PySem.W.keepIn K (.ref f) = true ∧ Binds K fd ps []
theorem te_c {X : Cx} {We : WE'} {k n : Nat} {F : List D → M D} {x : Str} {p pos : Pos} {e : Expr} {es : List Expr} {da : En → M (List D)} {dF' : En → M D} (T : Cal X.prog X.w X.K X.mg X.base k x n F)
    (up : ∀ {σ : L2.St} {H : Hp} {Q : VK}, upE (Cxp X) We dF' σ H Q → upA (Cxp X) We da σ H (fun vs H1 => spF (Cxp X) Xo0 n F vs H1 Q E0)) (hr : Room k X.A) (hg : Gl X x) (ha : PA X (e :: es) (upA (Cxp X) We da)) (hdb : (x == ("__debug__" : Str)) = false := by decide)
    (he : starEach (e :: es) X.env = (false, eval e X.env) :: starEach es X.env := by rfl) (hpl : (backTo pos (starEach es X.env)).any (·.1) = false := by rfl) : PE X (.Call (.Name x p) (e :: es) [] pos) (upE (Cxp X) We dF') := by
  obtain ⟨f, fd, ps, hm, G, kp, b⟩ := T.ex
  exact te_f (fun h => up h) G hr hg hm kp b ha hdb he hpl
end Tw

namespace Tw
open PySem PySem.Spec PyProof.Rows L2
/-! ### reckoning, a step at a time -/
section
variable {A B : Type} {G G1 G2 : List O} {ρ ρ1 : En} {a b : En → M Out} {o : Out}
theorem seq_nx (h : a ρ G = some (.inr (.nx ρ1), G1)) : dSeq a b ρ G = b ρ1 G1 := by
  unfold dSeq bnd
  rw [h]
theorem seq_rt {d : D} (h : a ρ G = some (.inr (.rt d), G1)) : dSeq a b ρ G = some (.inr (.rt d), G1) := by
  unfold dSeq bnd
  rw [h]
  rfl
theorem for_eq {di : En → M (List D)} {g : D → En → P1 En} {es : List D} (h : di ρ G = some (.inr es, G1)) : dFor di g b ρ G = bodyL g b es ρ G1 := by
  unfold dFor bnd
  rw [h]
theorem body_nx {g : D → En → P1 En} {d : D} {es : List D} {ρ2 : En} (h : g d ρ G = some (ρ1, G1)) (h2 : b ρ1 G1 = some (.inr (.nx ρ2), G2)) : bodyL g b (d :: es) ρ G = bodyL g b es ρ2 G2 := by
  rw [bodyL]
  unfold bnd lft
  rw [h]
  dsimp only
  rw [h2]
theorem run_rt {n : Nat} {d : D} {args : List D} (h : a (start0 n args) G = some (.inr (.rt d), G1)) : runD n a args G = some (.inr d, G1) := by
  unfold runD bnd
  rw [h]
  rfl
theorem if_t {t : En → M Bool} (h : t ρ G = some (.inr true, G1)) : dIfS t a b ρ G = a ρ G1 := by
  unfold dIfS bnd
  rw [h]
  rfl
theorem if_f {t : En → M Bool} (h : t ρ G = some (.inr false, G1)) : dIfS t a b ρ G = b ρ G1 := by
  unfold dIfS bnd
  rw [h]
  rfl
theorem asg_eq {e : En → M D} {g : D → En → P1 En} {d : D} (h : e ρ G = some (.inr d, G1)) (h2 : g d ρ G1 = some (ρ1, G2)) : dAsg e g ρ G = some (.inr (.nx ρ1), G2) := by
  unfold dAsg bnd lft
  rw [h]
  dsimp only
  rw [h2]
  rfl
theorem ret_eq {e : En → M D} {d : D} (h : e ρ G = some (.inr d, G1)) : dRet e ρ G = some (.inr (.rt d), G1) := by
  unfold dRet bnd
  rw [h]
  rfl
theorem bnd_i {m : M A} {k : A → M B} {x : A} (h : m G = some (.inr x, G1)) : bnd m k G = k x G1 := by
  unfold bnd
  rw [h]
theorem bndN_i {m : M A} {k : A → M B} {x : A} (h : m G = some (.inr x, G1)) : bndN m k G = k x G1 := by
  unfold bndN
  rw [h]
theorem lft_i {f : P1 A} {x : A} (h : f G = some (x, G1)) : lft f G = some (.inr x, G1) := by
  unfold lft
  rw [h]
theorem call_eq {f : List D → P1 D} {e : En → M (List D)} {ds : List D} {d : D} (h : e ρ G = some (.inr ds, G1)) (h2 : f ds G1 = some (d, G2)) : dCall f e ρ G = some (.inr d, G2) := (bnd_i h).trans (lft_i h2)
theorem cons_eq {e : En → M D} {r : En → M (List D)} {d : D} {ds : List D} (h : e ρ G = some (.inr d, G1)) (h2 : r ρ G1 = some (.inr ds, G2)) : dCons e r ρ G = some (.inr (d :: ds), G2) := (bnd_i h).trans ((bnd_i h2).trans rfl)
theorem one_eq {e : En → M D} {d : D} (h : e ρ G = some (.inr d, G1)) : dCons e dNil ρ G = some (.inr [d], G1) := cons_eq h rfl
theorem lc_eq {di : En → M (List D)} {g : D → En → P1 En} {t : En → M Bool} {e : En → M D} {own : List Nat} {ds ys : List D} (h : di ρ G = some (.inr ds, G1)) (h2 : lcL g t e (wipeD ρ own) ds G1 = some (.inr ys, G2)) (h3 : ys.length ≤ mx) : dLc di g t e own ρ G = some (.inr (.lst ys), G2) := by
  refine (bnd_i h).trans ((bndN_i h2).trans (lft_i ?_))
  unfold okL pur lstO
  rw [if_pos h3]
theorem rng_eq {e : En → M (List D)} {j : Int} (h : e ρ G = some (.inr [.int j], G1)) (h2 : smallI j = true) : dRng rng1 e ρ G = some (.inr (rngD 0 j.toNat), G1) := by
  refine (bnd_i h).trans (lft_i ?_)
  unfold pur rng1
  dsimp only
  rw [if_pos h2]
end
end Tw

namespace K00
open PySem PySem.Spec PyProof.Rows L2 Tw
/-! ### the text -/
def top (i : Nat) : Stmt := PySem.Challenge.pw_giveways_k00_errors.main.body.getD i (.Pass ⟨0, 0, 0, 0⟩)
def mth (s : Stmt) : Stmt := match s with
  | .ClassDef (body := b) .. => b.getD 0 (.Pass ⟨0, 0, 0, 0⟩)
  | _ => .Pass ⟨0, 0, 0, 0⟩
abbrev s_box : Stmt := top 17
abbrev s_take : Stmt := top 18
abbrev s_cells : Stmt := top 19
abbrev s_of : Stmt := top 20
abbrev s_same : Stmt := top 21
abbrev s_sorts : Stmt := top 22
abbrev s_right : Stmt := top 23
abbrev s_law : Stmt := top 24
abbrev i_BadLine : Stmt := mth (top 2)
abbrev i_BadText : Stmt := mth (top 3)
abbrev i_Known : Stmt := mth (top 4)
abbrev i_NoGroup : Stmt := mth (top 5)
abbrev i_NoHouse : Stmt := mth (top 6)
abbrev i_NoNumber : Stmt := mth (top 7)
abbrev i_NoQueue : Stmt := mth (top 8)
abbrev i_NoSignal : Stmt := mth (top 9)
abbrev i_NoStep : Stmt := mth (top 10)
abbrev i_NoTask : Stmt := mth (top 11)
abbrev i_NotReady : Stmt := mth (top 12)
def leaves : List Str := ["NoTask", "NoStep", "NoQueue", "NoSignal", "NoGroup", "NotReady", "NoNumber", "NotWhole", "Unfit", "Known", "NoHouse", "NothingDone", "BadText", "BadLine"]
def tab_name : List Str := ["NoTask", "NoQueue", "NoSignal", "NoGroup", "NotReady", "Known", "NoHouse"]
def tab_number : List Str := ["NoStep", "NoNumber", "BadLine"]
def tab_piece : List Str := ["BadText"]
def tab_isx (c : Str) : D → Option Bool
  | .cls m => if leaves.contains c = true then (if (m == "HouseError") = true then some true else if leaves.contains m = true then some (c == m) else none) else none
  | .ty n => if (leaves.contains c && n == "ValueError") = true then some true else none
  | _ => none
/-- what the module holds -/
structure Tx (P : Program) (w : World) (K : PySem.W.Frag) (mg : Str → Option Value) (base : Heap) : Prop where
  f_len : mg "len" = none
  f_abs : mg "abs" = none
  f_all : mg "all" = none
  f_int : mg "int" = none
  f_list : mg "list" = none
  f_isinstance : mg "isinstance" = none
  f_enumerate : mg "enumerate" = none
  f_range : mg "range" = none
  f_zip : mg "zip" = none
  f_bool : mg "bool" = none
  f_str : mg "str" = none
  f_tuple : mg "tuple" = none
  f_ValueError : mg "ValueError" = none
  m_NoTask : ∃ C, mg "NoTask" = some (.ref C)
  m_NoStep : ∃ C, mg "NoStep" = some (.ref C)
  m_NoQueue : ∃ C, mg "NoQueue" = some (.ref C)
  m_NoSignal : ∃ C, mg "NoSignal" = some (.ref C)
  m_NoGroup : ∃ C, mg "NoGroup" = some (.ref C)
  m_NotReady : ∃ C, mg "NotReady" = some (.ref C)
  m_NoNumber : ∃ C, mg "NoNumber" = some (.ref C)
  m_NotWhole : ∃ C, mg "NotWhole" = some (.ref C)
  m_Unfit : ∃ C, mg "Unfit" = some (.ref C)
  m_Known : ∃ C, mg "Known" = some (.ref C)
  m_NoHouse : ∃ C, mg "NoHouse" = some (.ref C)
  m_NothingDone : ∃ C, mg "NothingDone" = some (.ref C)
  m_BadText : ∃ C, mg "BadText" = some (.ref C)
  m_BadLine : ∃ C, mg "BadLine" = some (.ref C)
  m_HouseError : ∃ C, mg "HouseError" = some (.ref C)
  n_NotWhole : ∃ C, mg "NotWhole" = some (.ref C) ∧ Xcl K C ∧ PySem.W.excIn K C He.veBase "ValueError.__new__" = true
  n_Unfit : ∃ C, mg "Unfit" = some (.ref C) ∧ Xcl K C ∧ PySem.W.excIn K C He.veBase "ValueError.__new__" = true
  n_NothingDone : ∃ C, mg "NothingDone" = some (.ref C) ∧ Xcl K C ∧ PySem.W.excIn K C He.veBase "ValueError.__new__" = true
  x_NoTask : XM P w K mg base "NoTask" "name"
  x_NoStep : XM P w K mg base "NoStep" "number"
  x_NoQueue : XM P w K mg base "NoQueue" "name"
  x_NoSignal : XM P w K mg base "NoSignal" "name"
  x_NoGroup : XM P w K mg base "NoGroup" "name"
  x_NotReady : XM P w K mg base "NotReady" "name"
  x_NoNumber : XM P w K mg base "NoNumber" "number"
  x_Known : XM P w K mg base "Known" "name"
  x_NoHouse : XM P w K mg base "NoHouse" "name"
  x_BadText : XM P w K mg base "BadText" "piece"
  x_BadLine : XM P w K mg base "BadLine" "number"
  a_name : XAt K mg tab_name "name"
  a_number : XAt K mg tab_number "number"
  a_piece : XAt K mg tab_piece "piece"
  isx : XIs K mg tab_isx
abbrev FnP (K : PySem.W.Frag) (x : Str) (st : Stmt) (f : Addr) (fd : FuncData) : Prop := FunD K x x (defArgs st) (defBody st) (defScope st) [] [] f fd
/-! ### _law_box -/
def N_box : List Str := ["_law_script", "_law_k", "_law_cell"]
theorem sc_box : FnScope N_box ["_law_script", "_law_k"] (defScope s_box) := ⟨rfl, rfl, rfl, by decide +kernel, rfl, by decide +kernel, by decide +kernel⟩
def ds_box : En → M Out := (dSeq (dAsg (dIf (dTest (d2 (pur2 (ordO ltI ltS)) (dV 1) (dCall (lenP) (dCons (dV 0) dNil)))) (d2 ixO (dV 0) (dV 1)) (dC (.int 0))) (gN 2)) (dRet (dLstM (dCons (d2 (pur2 mulO) (dCall (pur1 absF) (dCons (dV 2) dNil)) (dCall (pur1 intF) (dCons (d2 (pur2 (ordO geI geS)) (dCall (pur1 absF) (dCons (dV 2) dNil)) (d2 (pur2 powO) (dC (.int 10)) (dC (.int 18)))) dNil))) (dCons (d2 (pur2 addO) (d2 (pur2 addO) (d2 (pur2 modO) (dCall (pur1 intF) (dCons (dV 2) dNil)) (dC (.int 2305843009213693951))) (d2 (pur2 mulO) (dC (.int 39373)) (dV 1))) (dC (.int 93900))) (dCons (dC (.int 0)) dNil))))))
def F_box : List D → M D := runD N_box.length ds_box
theorem ok_box {P : Program} {w : World} {K : PySem.W.Frag} {mg : Str → Option Value} {base : Heap} {f : Addr} {fd : FuncData} (T : Tx P w K mg base)  (F : FnP K "_law_box" s_box f fd) : FnOk P w K mg base CX0 1 f fd ["_law_script", "_law_k"] (spF ⟨K, P, w, mg⟩ Xo0 2 F_box) := by
  refine fn_tw (k := 0) F sc_box fun cdv A outer s H E hr => ?_
  have nd := sc_box.nd
  exact (ts_cons (tS_asg (te_if (tt_cmp op_ltA opd_ord (te_v 1) (te_blt call_len cd_len rfl T.f_len (by decide +kernel) (ta_cons (te_v 0) ta_nil)) (nomark _)) (te_ix ix_seq opd_ix (te_v 0) (te_v 1) (fun _ _ => rfl)) te_int) (tg_n (i := 2) nd)) (ts_one (tS_ret (te_lstM (ta_cons (te_op op_mul opd_mul (te_blt call_abs cd_abs rfl T.f_abs (by decide +kernel) (ta_cons (te_v 2) ta_nil)) (te_ty call_int1 cd_int rfl T.f_int (by decide +kernel) (ta_cons (te_cmp op_geA opd_ord (te_blt call_abs cd_abs rfl T.f_abs (by decide +kernel) (ta_cons (te_v 2) ta_nil)) (te_op op_pow opd_pow te_int te_int) (nomark _)) ta_nil))) (ta_cons (te_op op_addA opd_add (te_op op_addA opd_add (te_op op_mod opd_mod (te_ty call_int1 cd_int rfl T.f_int (by decide +kernel) (ta_cons (te_v 2) ta_nil)) te_int) (te_op op_mul opd_mul te_int (te_v 1))) te_int) (ta_cons te_int ta_nil)))))))
/-! ### _law_take -/
def N_take : List Str := ["_law_box_here", "_law_size_so", "_law_some", "_law_once", "_law_far", "_law_again"]
theorem sc_take : FnScope N_take ["_law_box_here", "_law_size_so"] (defScope s_take) := ⟨rfl, rfl, rfl, by decide +kernel, rfl, by decide +kernel, by decide +kernel⟩
def ds_take : En → M Out := (dSeq (dIfS (dTest (d2 (pur2 (ordO gtI gtS)) (d2 ixO (dV 0) (dC (.int 0))) (dC (.int 0)))) (dSeq (dAsg (d2 (pur2 modO) (dCall (pur1 intF) (dCons (d2 ixO (dV 0) (dC (.int 0))) dNil)) (dV 1)) (gN 2)) (dSeq (dAsg (d2 (pur2 divO) (d2 ixO (dV 0) (dC (.int 0))) (dV 1)) (gSubD (dV 0) (dC (.int 0)) setF)) (dRet (dV 2)))) dNext) (dSeq (dAsg (d2 (pur2 addO) (d2 ixO (dV 0) (dC (.int 2))) (dC (.int 1))) (gSubD (dV 0) (dC (.int 2)) setF)) (dSeq (dAsg (d2 (pur2 modO) (dCall (pur1 intF) (dCons (d2 (pur2 mulO) (d2 (pur2 addO) (d2 ixO (dV 0) (dC (.int 1))) (d2 (pur2 mulO) (dC (.int 48271)) (d2 ixO (dV 0) (dC (.int 2))))) (d2 (pur2 addO) (dC (.int 39373)) (d2 ixO (dV 0) (dC (.int 2))))) dNil)) (dC (.int 2147483647))) (gN 3)) (dSeq (dAsg (d2 (pur2 addO) (d2 (pur2 modO) (dCall (pur1 intF) (dCons (dV 3) dNil)) (dC (.int 40009))) (dC (.int 7))) (gN 4)) (dSeq (dAsg (d2 (pur2 modO) (dCall (pur1 intF) (dCons (d2 (pur2 mulO) (d2 (pur2 addO) (d2 (pur2 addO) (dV 3) (d2 ixO (dV 0) (dC (.int 2)))) (d2 (pur2 divO) (d2 ixO (dV 0) (dC (.int 1))) (dC (.int 1000003)))) (dV 4)) dNil)) (dC (.int 2147483629))) (gN 5)) (dRet (d2 (pur2 modO) (dCall (pur1 intF) (dCons (d2 (pur2 divO) (d2 (pur2 modO) (dCall (pur1 intF) (dCons (d2 (pur2 addO) (d2 (pur2 mulO) (dV 5) (dC (.int 48271))) (dV 3)) dNil)) (dC (.int 2147483587))) (dC (.int 64))) dNil)) (dV 1))))))))
def F_take : List D → M D := runD N_take.length ds_take
theorem ok_take {P : Program} {w : World} {K : PySem.W.Frag} {mg : Str → Option Value} {base : Heap} {f : Addr} {fd : FuncData} (T : Tx P w K mg base)  (F : FnP K "_law_take" s_take f fd) : FnOk P w K mg base CX0 1 f fd ["_law_box_here", "_law_size_so"] (spF ⟨K, P, w, mg⟩ Xo0 2 F_take) := by
  refine fn_tw (k := 0) F sc_take fun cdv A outer s H E hr => ?_
  have nd := sc_take.nd
  exact (ts_cons (tS_if (tt_cmp op_gtA opd_ord (te_ix ix_seq opd_ix (te_v 0) te_int (fun _ _ => rfl)) te_int (nomark _)) (ts_cons (tS_asg (te_op op_mod opd_mod (te_ty call_int1 cd_int rfl T.f_int (by decide +kernel) (ta_cons (te_ix ix_seq opd_ix (te_v 0) te_int (fun _ _ => rfl)) ta_nil)) (te_v 1)) (tg_n (i := 2) nd)) (ts_cons (tS_asg (te_op op_fdiv opd_div (te_ix ix_seq opd_ix (te_v 0) te_int (fun _ _ => rfl)) (te_v 1)) (tg_set (te_v 0) te_int (t := pg_sub (te_v 0) te_int set_list))) (ts_one (tS_ret (te_v 2))))) ts_nil) (ts_cons (tS_asg (te_op op_addA opd_add (te_ix ix_seq opd_ix (te_v 0) te_int (fun _ _ => rfl)) te_int) (tg_set (te_v 0) te_int (t := pg_sub (te_v 0) te_int set_list))) (ts_cons (tS_asg (te_op op_mod opd_mod (te_ty call_int1 cd_int rfl T.f_int (by decide +kernel) (ta_cons (te_op op_mul opd_mul (te_op op_addA opd_add (te_ix ix_seq opd_ix (te_v 0) te_int (fun _ _ => rfl)) (te_op op_mul opd_mul te_int (te_ix ix_seq opd_ix (te_v 0) te_int (fun _ _ => rfl)))) (te_op op_addA opd_add te_int (te_ix ix_seq opd_ix (te_v 0) te_int (fun _ _ => rfl)))) ta_nil)) te_int) (tg_n (i := 3) nd)) (ts_cons (tS_asg (te_op op_addA opd_add (te_op op_mod opd_mod (te_ty call_int1 cd_int rfl T.f_int (by decide +kernel) (ta_cons (te_v 3) ta_nil)) te_int) te_int) (tg_n (i := 4) nd)) (ts_cons (tS_asg (te_op op_mod opd_mod (te_ty call_int1 cd_int rfl T.f_int (by decide +kernel) (ta_cons (te_op op_mul opd_mul (te_op op_addA opd_add (te_op op_addA opd_add (te_v 3) (te_ix ix_seq opd_ix (te_v 0) te_int (fun _ _ => rfl))) (te_op op_fdiv opd_div (te_ix ix_seq opd_ix (te_v 0) te_int (fun _ _ => rfl)) te_int)) (te_v 4)) ta_nil)) te_int) (tg_n (i := 5) nd)) (ts_one (tS_ret (te_op op_mod opd_mod (te_ty call_int1 cd_int rfl T.f_int (by decide +kernel) (ta_cons (te_op op_fdiv opd_div (te_op op_mod opd_mod (te_ty call_int1 cd_int rfl T.f_int (by decide +kernel) (ta_cons (te_op op_addA opd_add (te_op op_mul opd_mul (te_v 5) te_int) (te_v 3)) ta_nil)) te_int) te_int) ta_nil)) (te_v 1)))))))))
/-! ### _law_cells -/
def N_cells : List Str := ["_law_script", "_law_top_so", "_law_cells_so", "_law_k", "_law_cell", "_law_at_so"]
theorem sc_cells : FnScope N_cells ["_law_script", "_law_top_so"] (defScope s_cells) := ⟨rfl, rfl, rfl, by decide +kernel, rfl, by decide +kernel, by decide +kernel⟩
def ds_cells : En → M Out := (dSeq (dAsg (dOr (dCall (listP newL) (dCons (dSl (dV 0) dNoP (dP (dV 1))) dNil)) (dLstM (dCons (dC (.int 0)) dNil))) (gN 2)) (dSeq (dFor (dRng enum1 (dCons (dSl (dV 0) (dP (dV 1)) (dP (dC (.int 63)))) dNil)) (gT 2 (gsCons (gN 3) (gsCons (gN 4) gsNil))) (dSeq (dAsg (d2 (pur2 modO) (dCall (pur1 intF) (dCons (dV 3) dNil)) (dV 1)) (gN 5)) (dAsg (d2 (pur2 addO) (d2 ixO (dV 2) (dV 5)) (d2 (pur2 mulO) (dV 4) (d2 (pur2 addO) (dV 3) (dC (.int 2))))) (gSubD (dV 2) (dV 5) setF)))) (dRet (dFrz (dV 2)))))
def F_cells : List D → M D := runD N_cells.length ds_cells
theorem ok_cells {P : Program} {w : World} {K : PySem.W.Frag} {mg : Str → Option Value} {base : Heap} {f : Addr} {fd : FuncData} (T : Tx P w K mg base)  (F : FnP K "_law_cells" s_cells f fd) : FnOk P w K mg base CX0 1 f fd ["_law_script", "_law_top_so"] (spF ⟨K, P, w, mg⟩ Xo0 2 F_cells) := by
  refine fn_tw (k := 0) F sc_cells fun cdv A outer s H E hr => ?_
  have nd := sc_cells.nd
  exact (ts_cons (tS_asg (te_or (te_ty call_list_of cd_listM rfl T.f_list (by decide +kernel) (ta_cons (te_sl (te_v 0) to_none (to_some (te_v 1))) ta_nil)) (te_one (te_lstM (ta_cons te_int ta_nil)))) (tg_n (i := 2) nd)) (ts_cons (tS_for PassesOwn.never rfl (ti_enum rfl T.f_enumerate (ta_cons (te_sl (te_v 0) (to_some (te_v 1)) (to_some te_int)) ta_nil)) (tg_t rfl (tgs_cons (tg_n (i := 3) nd) (tgs_cons (tg_n (i := 4) nd) tgs_nil))) (ts_cons (tS_asg (te_op op_mod opd_mod (te_ty call_int1 cd_int rfl T.f_int (by decide +kernel) (ta_cons (te_v 3) ta_nil)) (te_v 1)) (tg_n (i := 5) nd)) (ts_one (tS_asg (te_op op_addA opd_add (te_ix ix_seq opd_ix (te_v 2) (te_v 5) (fun _ _ => rfl)) (te_op op_mul opd_mul (te_v 4) (te_op op_addA opd_add (te_v 3) te_int))) (tg_set (te_v 2) (te_v 5) (t := pg_sub (te_v 2) (te_v 5) set_list)))))) (ts_one (tS_ret (te_frz (te_v 2))))))
/-! ### _law_of -/
def N_of : List Str := ["_law_box_here", "_law_goods_so"]
theorem sc_of : FnScope N_of ["_law_box_here", "_law_goods_so"] (defScope s_of) := ⟨rfl, rfl, rfl, by decide +kernel, rfl, by decide +kernel, by decide +kernel⟩
def ds_of : En → M Out := (dRet (d2 ixO (dV 1) (dF F_take (dCons (dV 0) (dCons (dCall (lenP) (dCons (dV 1) dNil)) dNil)))))
def F_of : List D → M D := runD N_of.length ds_of
theorem ok_of {P : Program} {w : World} {K : PySem.W.Frag} {mg : Str → Option Value} {base : Heap} {f : Addr} {fd : FuncData} (T : Tx P w K mg base) (C_take : Cal P w K mg base 1 "_law_take" 2 F_take) (F : FnP K "_law_of" s_of f fd) : FnOk P w K mg base CX0 2 f fd ["_law_box_here", "_law_goods_so"] (spF ⟨K, P, w, mg⟩ Xo0 2 F_of) := by
  refine fn_tw (k := 1) F sc_of fun cdv A outer s H E hr => ?_
  have nd := sc_of.nd
  exact (ts_one (tS_ret (te_ix ix_seq opd_ix (te_v 1) (te_c C_take (fun h => dF_up (lenA_cons (lenA_cons lenA_nil)) h) (hr.mono (by first | decide | omega)) rfl (ta_cons (te_v 0) (ta_cons (te_blt call_len cd_len rfl T.f_len (by decide +kernel) (ta_cons (te_v 1) ta_nil)) ta_nil))) (fun _ _ => rfl))))
/-! ### _law_same -/
def N_same : List Str := ["_law_got", "_law_due", "_law_mine", "_law_its"]
theorem sc_same : FnScope N_same ["_law_got", "_law_due"] (defScope s_same) := ⟨rfl, rfl, rfl, by decide +kernel, rfl, by decide +kernel, by decide +kernel⟩
def ds_same (R : List D → M D) : En → M Out := (dSeq (dIfS (dTest (dCall isiTF (dCons (dV 1) (dCons (dTup (dCons (dC (.ty "list")) (dCons (dC (.ty "tuple")) dNil))) dNil)))) (dSeq (dIfS (dTest (d2 (pur2 (eqO true)) (dCall isiF (dCons (dV 0) (dCons (dC (.ty "list")) dNil))) (dCall isiF (dCons (dV 1) (dCons (dC (.ty "list")) dNil))))) (dRet (dC (.bl false))) dNext) (dSeq (dIfS (dTest (d2 (pur2 (eqO true)) (dCall isiF (dCons (dV 0) (dCons (dC (.ty "tuple")) dNil))) (dCall isiF (dCons (dV 1) (dCons (dC (.ty "tuple")) dNil))))) (dRet (dC (.bl false))) dNext) (dRet (dAnd (d2 (pur2 (eqO false)) (dCall (lenP) (dCons (dV 0) dNil)) (dCall (lenP) (dCons (dV 1) dNil))) (dCall (lP allF) (dCons (dLc (dRng zip2 (dCons (dV 0) (dCons (dV 1) dNil))) (gT 2 (gsCons (gN 2) (gsCons (gN 3) gsNil))) dYes (dFp R (dCons (dV 2) (dCons (dV 3) dNil))) [2, 3]) dNil)))))) dNext) (dSeq (dIfS (dOrT (dTest (d2 (pur2 (isNO false)) (dV 1) (dC .non))) (dTest (dCall isiTF (dCons (dV 1) (dCons (dTup (dCons (dC (.ty "bool")) (dCons (dC (.ty "str")) dNil))) dNil))))) (dRet (dAnd (d2 (pur2 (eqO false)) (dV 0) (dV 1)) (dAnd (d2 (pur2 (eqO false)) (dCall isiF (dCons (dV 0) (dCons (dC (.ty "bool")) dNil))) (dCall isiF (dCons (dV 1) (dCons (dC (.ty "bool")) dNil)))) (d2 (pur2 (eqO false)) (d2 (pur2 (isNO false)) (dV 0) (dC .non)) (d2 (pur2 (isNO false)) (dV 1) (dC .non)))))) dNext) (dRet (dAnd (dCall isiF (dCons (dV 0) (dCons (dC (.ty "int")) dNil))) (dAnd (dNot (dCall isiF (dCons (dV 0) (dCons (dC (.ty "bool")) dNil)))) (d2 (pur2 (eqO false)) (dV 0) (dV 1)))))))
def F_same : Nat → List D → M D
  | 0 => fun _ _ => none
  | n + 1 => runD N_same.length (ds_same (F_same n))
theorem ok_same {P : Program} {w : World} {K : PySem.W.Frag} {mg : Str → Option Value} {base : Heap} {f : Addr} {fd : FuncData} (T : Tx P w K mg base) {R : List D → M D} {k : Nat} (C_R : Cal P w K mg base k "_law_same" 2 R) (F : FnP K "_law_same" s_same f fd) : FnOk P w K mg base CX0 (k + 1) f fd ["_law_got", "_law_due"] (spF ⟨K, P, w, mg⟩ Xo0 2 (runD N_same.length (ds_same R))) := by
  refine fn_tw (k := k) F sc_same fun cdv A outer s H E hr => ?_
  have nd := sc_same.nd
  exact (ts_cons (tS_if (tt_val (te_blt call_isiA cd_isiT rfl T.f_isinstance boot_isinstance (ta_cons (te_v 1) (ta_cons (te_tup (ta_cons (te_bty rfl T.f_list (by decide +kernel)) (ta_cons (te_bty rfl T.f_tuple (by decide +kernel)) ta_nil))) ta_nil)))) (ts_cons (tS_if (tt_cmp (op_neD hr.units) opd_ne (te_blt call_isi cd_isi rfl T.f_isinstance boot_isinstance (ta_cons (te_v 0) (ta_cons (te_bty rfl T.f_list (by decide +kernel)) ta_nil))) (te_blt call_isi cd_isi rfl T.f_isinstance boot_isinstance (ta_cons (te_v 1) (ta_cons (te_bty rfl T.f_list (by decide +kernel)) ta_nil))) (nomark _)) (ts_one (tS_ret te_bl)) ts_nil) (ts_cons (tS_if (tt_cmp (op_neD hr.units) opd_ne (te_blt call_isi cd_isi rfl T.f_isinstance boot_isinstance (ta_cons (te_v 0) (ta_cons (te_bty rfl T.f_tuple (by decide +kernel)) ta_nil))) (te_blt call_isi cd_isi rfl T.f_isinstance boot_isinstance (ta_cons (te_v 1) (ta_cons (te_bty rfl T.f_tuple (by decide +kernel)) ta_nil))) (nomark _)) (ts_one (tS_ret te_bl)) ts_nil) (ts_one (tS_ret (te_and (te_cmp (op_eqD hr.units) opd_eq (te_blt call_len cd_len rfl T.f_len (by decide +kernel) (ta_cons (te_v 0) ta_nil)) (te_blt call_len cd_len rfl T.f_len (by decide +kernel) (ta_cons (te_v 1) ta_nil)) (nomark _)) (te_one (te_blt (cr_all rfl) cd_all rfl T.f_all (by decide +kernel) (ta_cons (by exact te_lc (own := [(("_law_mine" : Str), 2), (("_law_its" : Str), 3)]) rfl nd (by exact (ti_zip rfl T.f_zip (ta_cons (te_v 0) (ta_cons (te_v 1) ta_nil)))) (blkOk_by (N := N_same) (sc := defScope s_same) (own := [(("_law_mine" : Str), 2), (("_law_its" : Str), 3)]) (by decide +kernel)) (raw_t (raws_cons (raw_n (by decide)) (raws_cons (raw_n (by decide)) raws_nil))) (fun _ _ _ _ _ => by exact (pg_tup rfl (pgs_cons (pg_name (i := 2) nd rfl (Or.inl rfl)) (pgs_cons (pg_name (i := 3) nd rfl (Or.inl rfl)) pgs_nil)))) (fun _ _ _ _ _ => by exact tts_nil) (fun _ _ _ _ _ => by exact (te_c C_R (fun h => dFp_up (lenA_cons (lenA_cons lenA_nil)) h) (hr.mono (by first | decide | omega)) rfl (ta_cons (te_v 2) (ta_cons (te_v 3) ta_nil))))) ta_nil)))))))) ts_nil) (ts_cons (tS_if (PW.pt (tw_or (tt_cmp op_isN opd_isN (te_v 1) te_non (nomark _)) (tw_or1 (tt_val (te_blt call_isiA cd_isiT rfl T.f_isinstance boot_isinstance (ta_cons (te_v 1) (ta_cons (te_tup (ta_cons (te_bty rfl T.f_bool (by decide +kernel)) (ta_cons (te_bty rfl T.f_str (by decide +kernel)) ta_nil))) ta_nil))))))) (ts_one (tS_ret (te_and (te_cmp (op_eqD hr.units) opd_eq (te_v 0) (te_v 1) (nomark _)) (te_and (te_cmp (op_eqD hr.units) opd_eq (te_blt call_isi cd_isi rfl T.f_isinstance boot_isinstance (ta_cons (te_v 0) (ta_cons (te_bty rfl T.f_bool (by decide +kernel)) ta_nil))) (te_blt call_isi cd_isi rfl T.f_isinstance boot_isinstance (ta_cons (te_v 1) (ta_cons (te_bty rfl T.f_bool (by decide +kernel)) ta_nil))) (nomark _)) (te_one (te_cmp (op_eqD hr.units) opd_eq (te_cmp op_isN opd_isN (te_v 0) te_non (nomark _)) (te_cmp op_isN opd_isN (te_v 1) te_non (nomark _)) (nomark _))))))) ts_nil) (ts_one (tS_ret (te_and (te_blt call_isi cd_isi rfl T.f_isinstance boot_isinstance (ta_cons (te_v 0) (ta_cons (te_bty rfl T.f_int (by decide +kernel)) ta_nil))) (te_and (te_not (te_blt call_isi cd_isi rfl T.f_isinstance boot_isinstance (ta_cons (te_v 0) (ta_cons (te_bty rfl T.f_bool (by decide +kernel)) ta_nil)))) (te_one (te_cmp (op_eqD hr.units) opd_eq (te_v 0) (te_v 1) (nomark _)))))))))
/-! ### _law_sorts -/
def N_sorts : List Str := ["_law_caught", "_law_kinds_so"]
theorem sc_sorts : FnScope N_sorts ["_law_caught"] (defScope s_sorts) := ⟨rfl, rfl, rfl, by decide +kernel, rfl, by decide +kernel, by decide +kernel⟩
def ds_sorts : En → M Out := (dSeq (dAsg (dLstM dNil) (gN 1)) (dSeq (dExpr (dMeth appF (dV 1) (dCons (dCall (isxF tab_isx) (dCons (dV 0) (dCons (dC (.cls "NoTask")) dNil))) dNil))) (dSeq (dExpr (dMeth appF (dV 1) (dCons (dCall (isxF tab_isx) (dCons (dV 0) (dCons (dC (.cls "NoStep")) dNil))) dNil))) (dSeq (dExpr (dMeth appF (dV 1) (dCons (dCall (isxF tab_isx) (dCons (dV 0) (dCons (dC (.cls "NoQueue")) dNil))) dNil))) (dSeq (dExpr (dMeth appF (dV 1) (dCons (dCall (isxF tab_isx) (dCons (dV 0) (dCons (dC (.cls "NoSignal")) dNil))) dNil))) (dSeq (dExpr (dMeth appF (dV 1) (dCons (dCall (isxF tab_isx) (dCons (dV 0) (dCons (dC (.cls "NoGroup")) dNil))) dNil))) (dSeq (dExpr (dMeth appF (dV 1) (dCons (dCall (isxF tab_isx) (dCons (dV 0) (dCons (dC (.cls "NotReady")) dNil))) dNil))) (dSeq (dExpr (dMeth appF (dV 1) (dCons (dCall (isxF tab_isx) (dCons (dV 0) (dCons (dC (.cls "NoNumber")) dNil))) dNil))) (dSeq (dExpr (dMeth appF (dV 1) (dCons (dCall (isxF tab_isx) (dCons (dV 0) (dCons (dC (.cls "NotWhole")) dNil))) dNil))) (dSeq (dExpr (dMeth appF (dV 1) (dCons (dCall (isxF tab_isx) (dCons (dV 0) (dCons (dC (.cls "Unfit")) dNil))) dNil))) (dSeq (dExpr (dMeth appF (dV 1) (dCons (dCall (isxF tab_isx) (dCons (dV 0) (dCons (dC (.cls "Known")) dNil))) dNil))) (dSeq (dExpr (dMeth appF (dV 1) (dCons (dCall (isxF tab_isx) (dCons (dV 0) (dCons (dC (.cls "NoHouse")) dNil))) dNil))) (dSeq (dExpr (dMeth appF (dV 1) (dCons (dCall (isxF tab_isx) (dCons (dV 0) (dCons (dC (.cls "NothingDone")) dNil))) dNil))) (dSeq (dExpr (dMeth appF (dV 1) (dCons (dCall (isxF tab_isx) (dCons (dV 0) (dCons (dC (.cls "BadText")) dNil))) dNil))) (dSeq (dExpr (dMeth appF (dV 1) (dCons (dCall (isxF tab_isx) (dCons (dV 0) (dCons (dC (.cls "BadLine")) dNil))) dNil))) (dRet (dFrz (dV 1))))))))))))))))))
def F_sorts : List D → M D := runD N_sorts.length ds_sorts
theorem ok_sorts {P : Program} {w : World} {K : PySem.W.Frag} {mg : Str → Option Value} {base : Heap} {f : Addr} {fd : FuncData} (T : Tx P w K mg base)  (F : FnP K "_law_sorts" s_sorts f fd) : FnOk P w K mg base CX0 1 f fd ["_law_caught"] (spF ⟨K, P, w, mg⟩ Xo0 1 F_sorts) := by
  refine fn_tw (k := 0) F sc_sorts fun cdv A outer s H E hr => ?_
  have nd := sc_sorts.nd
  exact (ts_cons (tS_asg (te_lstM ta_nil) (tg_n (i := 1) nd)) (ts_cons (tS_expr (te_lm PySem.F.slot_list_append PySem.F.type_list_append mt_append md_app (te_v 1) (ta_cons (te_blt call_isX (cd_isx T.isx) rfl T.f_isinstance boot_isinstance (ta_cons (te_v 0) (ta_cons (te_cls rfl T.m_NoTask.choose_spec) ta_nil))) ta_nil))) (ts_cons (tS_expr (te_lm PySem.F.slot_list_append PySem.F.type_list_append mt_append md_app (te_v 1) (ta_cons (te_blt call_isX (cd_isx T.isx) rfl T.f_isinstance boot_isinstance (ta_cons (te_v 0) (ta_cons (te_cls rfl T.m_NoStep.choose_spec) ta_nil))) ta_nil))) (ts_cons (tS_expr (te_lm PySem.F.slot_list_append PySem.F.type_list_append mt_append md_app (te_v 1) (ta_cons (te_blt call_isX (cd_isx T.isx) rfl T.f_isinstance boot_isinstance (ta_cons (te_v 0) (ta_cons (te_cls rfl T.m_NoQueue.choose_spec) ta_nil))) ta_nil))) (ts_cons (tS_expr (te_lm PySem.F.slot_list_append PySem.F.type_list_append mt_append md_app (te_v 1) (ta_cons (te_blt call_isX (cd_isx T.isx) rfl T.f_isinstance boot_isinstance (ta_cons (te_v 0) (ta_cons (te_cls rfl T.m_NoSignal.choose_spec) ta_nil))) ta_nil))) (ts_cons (tS_expr (te_lm PySem.F.slot_list_append PySem.F.type_list_append mt_append md_app (te_v 1) (ta_cons (te_blt call_isX (cd_isx T.isx) rfl T.f_isinstance boot_isinstance (ta_cons (te_v 0) (ta_cons (te_cls rfl T.m_NoGroup.choose_spec) ta_nil))) ta_nil))) (ts_cons (tS_expr (te_lm PySem.F.slot_list_append PySem.F.type_list_append mt_append md_app (te_v 1) (ta_cons (te_blt call_isX (cd_isx T.isx) rfl T.f_isinstance boot_isinstance (ta_cons (te_v 0) (ta_cons (te_cls rfl T.m_NotReady.choose_spec) ta_nil))) ta_nil))) (ts_cons (tS_expr (te_lm PySem.F.slot_list_append PySem.F.type_list_append mt_append md_app (te_v 1) (ta_cons (te_blt call_isX (cd_isx T.isx) rfl T.f_isinstance boot_isinstance (ta_cons (te_v 0) (ta_cons (te_cls rfl T.m_NoNumber.choose_spec) ta_nil))) ta_nil))) (ts_cons (tS_expr (te_lm PySem.F.slot_list_append PySem.F.type_list_append mt_append md_app (te_v 1) (ta_cons (te_blt call_isX (cd_isx T.isx) rfl T.f_isinstance boot_isinstance (ta_cons (te_v 0) (ta_cons (te_cls rfl T.m_NotWhole.choose_spec) ta_nil))) ta_nil))) (ts_cons (tS_expr (te_lm PySem.F.slot_list_append PySem.F.type_list_append mt_append md_app (te_v 1) (ta_cons (te_blt call_isX (cd_isx T.isx) rfl T.f_isinstance boot_isinstance (ta_cons (te_v 0) (ta_cons (te_cls rfl T.m_Unfit.choose_spec) ta_nil))) ta_nil))) (ts_cons (tS_expr (te_lm PySem.F.slot_list_append PySem.F.type_list_append mt_append md_app (te_v 1) (ta_cons (te_blt call_isX (cd_isx T.isx) rfl T.f_isinstance boot_isinstance (ta_cons (te_v 0) (ta_cons (te_cls rfl T.m_Known.choose_spec) ta_nil))) ta_nil))) (ts_cons (tS_expr (te_lm PySem.F.slot_list_append PySem.F.type_list_append mt_append md_app (te_v 1) (ta_cons (te_blt call_isX (cd_isx T.isx) rfl T.f_isinstance boot_isinstance (ta_cons (te_v 0) (ta_cons (te_cls rfl T.m_NoHouse.choose_spec) ta_nil))) ta_nil))) (ts_cons (tS_expr (te_lm PySem.F.slot_list_append PySem.F.type_list_append mt_append md_app (te_v 1) (ta_cons (te_blt call_isX (cd_isx T.isx) rfl T.f_isinstance boot_isinstance (ta_cons (te_v 0) (ta_cons (te_cls rfl T.m_NothingDone.choose_spec) ta_nil))) ta_nil))) (ts_cons (tS_expr (te_lm PySem.F.slot_list_append PySem.F.type_list_append mt_append md_app (te_v 1) (ta_cons (te_blt call_isX (cd_isx T.isx) rfl T.f_isinstance boot_isinstance (ta_cons (te_v 0) (ta_cons (te_cls rfl T.m_BadText.choose_spec) ta_nil))) ta_nil))) (ts_cons (tS_expr (te_lm PySem.F.slot_list_append PySem.F.type_list_append mt_append md_app (te_v 1) (ta_cons (te_blt call_isX (cd_isx T.isx) rfl T.f_isinstance boot_isinstance (ta_cons (te_v 0) (ta_cons (te_cls rfl T.m_BadLine.choose_spec) ta_nil))) ta_nil))) (ts_one (tS_ret (te_frz (te_v 1)))))))))))))))))))
/-! ### _law_right -/
def N_right : List Str := ["_law_box_here", "_law_far", "_law_tag", "_law_every_so", "_law_k", "_law_own", "_law_got", "_law_due", "_law_j"]
theorem sc_right : FnScope N_right ["_law_box_here"] (defScope s_right) := ⟨rfl, rfl, rfl, by decide +kernel, rfl, by decide +kernel, by decide +kernel⟩
def ds_right : En → M Out := (dSeq (dPar 1 2 (dCons (d2 (pur2 subO) (dF F_take (dCons (dV 0) (dCons (d2 (pur2 powO) (dC (.int 10)) (dC (.int 9))) dNil))) (d2 (pur2 mulO) (dC (.int 5)) (d2 (pur2 powO) (dC (.int 10)) (dC (.int 8))))) (dCons (dF F_of (dCons (dV 0) (dCons (dLst (dCons (dC (.str "a")) (dCons (dC (.str "ants")) (dCons (dC (.str "abcdefgh")) (dCons (dC (.str "zz")) dNil))))) dNil))) dNil))) (dSeq (dAsg (dLstM dNil) (gN 3)) (dSeq (dExpr (dMeth appF (dV 3) (dCons (dX1 "NoTask" "name" (dV 2)) dNil))) (dSeq (dExpr (dMeth appF (dV 3) (dCons (dX1 "NoStep" "number" (dV 1)) dNil))) (dSeq (dExpr (dMeth appF (dV 3) (dCons (dX1 "NoQueue" "name" (dV 2)) dNil))) (dSeq (dExpr (dMeth appF (dV 3) (dCons (dX1 "NoSignal" "name" (dV 2)) dNil))) (dSeq (dExpr (dMeth appF (dV 3) (dCons (dX1 "NoGroup" "name" (dV 2)) dNil))) (dSeq (dExpr (dMeth appF (dV 3) (dCons (dX1 "NotReady" "name" (dV 2)) dNil))) (dSeq (dExpr (dMeth appF (dV 3) (dCons (dX1 "NoNumber" "number" (dV 1)) dNil))) (dSeq (dExpr (dMeth appF (dV 3) (dCons (dX0 "NotWhole") dNil))) (dSeq (dExpr (dMeth appF (dV 3) (dCons (dX0 "Unfit") dNil))) (dSeq (dExpr (dMeth appF (dV 3) (dCons (dX1 "Known" "name" (dV 2)) dNil))) (dSeq (dExpr (dMeth appF (dV 3) (dCons (dX1 "NoHouse" "name" (dV 2)) dNil))) (dSeq (dExpr (dMeth appF (dV 3) (dCons (dX0 "NothingDone") dNil))) (dSeq (dExpr (dMeth appF (dV 3) (dCons (dX1 "BadText" "piece" (dV 1)) dNil))) (dSeq (dExpr (dMeth appF (dV 3) (dCons (dX1 "BadLine" "number" (dV 1)) dNil))) (sFrz 3 (dSeq (dFor (dRng enum1 (dCons (dV 3) dNil)) (gT 2 (gsCons (gN 4) (gsCons (gN 5) gsNil))) (dSeq (dIfS (dNotT (dTest (dFp (F_same 2) (dCons (dFp F_sorts (dCons (dV 5) dNil)) (dCons (dLc (dRng rng1 (dCons (dC (.int 14)) dNil)) (gN 8) dYes (d2 (pur2 (eqO false)) (dV 8) (dV 4)) [8]) dNil))))) (dRet (dC (.bl false))) dNext) (dIfS (dOrT (dNotT (dTest (dCall (isxF tab_isx) (dCons (dV 5) (dCons (dC (.cls "HouseError")) dNil))))) (dNotT (dTest (dCall (isxF tab_isx) (dCons (dV 5) (dCons (dC (.ty "ValueError")) dNil)))))) (dRet (dC (.bl false))) dNext))) (dSeq (dPar 6 7 (dCons (dLst dNil) (dCons (dLst dNil) dNil))) (dSeq (dAsg (d2 (pur2 addO) (dV 6) (dLst (dCons (dAt tab_name "name" (d2 ixO (dV 3) (dC (.int 0)))) (dCons (dAt tab_name "name" (dX1 "NoTask" "name" (dC (.str "b")))) dNil)))) (gN 6)) (dSeq (dAsg (d2 (pur2 addO) (dV 7) (dLst (dCons (dV 2) (dCons (dC (.str "b")) dNil)))) (gN 7)) (dSeq (dAsg (d2 (pur2 addO) (dV 6) (dLst (dCons (dAt tab_number "number" (d2 ixO (dV 3) (dC (.int 1)))) (dCons (dAt tab_number "number" (dX1 "NoStep" "number" (dC (.int 1)))) dNil)))) (gN 6)) (dSeq (dAsg (d2 (pur2 addO) (dV 7) (dLst (dCons (dV 1) (dCons (dC (.int 1)) dNil)))) (gN 7)) (dSeq (dAsg (d2 (pur2 addO) (dV 6) (dLst (dCons (dAt tab_name "name" (d2 ixO (dV 3) (dC (.int 2)))) (dCons (dAt tab_name "name" (dX1 "NoQueue" "name" (dC (.str "b")))) dNil)))) (gN 6)) (dSeq (dAsg (d2 (pur2 addO) (dV 7) (dLst (dCons (dV 2) (dCons (dC (.str "b")) dNil)))) (gN 7)) (dSeq (dAsg (d2 (pur2 addO) (dV 6) (dLst (dCons (dAt tab_name "name" (d2 ixO (dV 3) (dC (.int 3)))) (dCons (dAt tab_name "name" (dX1 "NoSignal" "name" (dC (.str "b")))) dNil)))) (gN 6)) (dSeq (dAsg (d2 (pur2 addO) (dV 7) (dLst (dCons (dV 2) (dCons (dC (.str "b")) dNil)))) (gN 7)) (dSeq (dAsg (d2 (pur2 addO) (dV 6) (dLst (dCons (dAt tab_name "name" (d2 ixO (dV 3) (dC (.int 4)))) (dCons (dAt tab_name "name" (dX1 "NoGroup" "name" (dC (.str "b")))) dNil)))) (gN 6)) (dSeq (dAsg (d2 (pur2 addO) (dV 7) (dLst (dCons (dV 2) (dCons (dC (.str "b")) dNil)))) (gN 7)) (dSeq (dAsg (d2 (pur2 addO) (dV 6) (dLst (dCons (dAt tab_name "name" (d2 ixO (dV 3) (dC (.int 5)))) (dCons (dAt tab_name "name" (dX1 "NotReady" "name" (dC (.str "b")))) dNil)))) (gN 6)) (dSeq (dAsg (d2 (pur2 addO) (dV 7) (dLst (dCons (dV 2) (dCons (dC (.str "b")) dNil)))) (gN 7)) (dSeq (dAsg (d2 (pur2 addO) (dV 6) (dLst (dCons (dAt tab_number "number" (d2 ixO (dV 3) (dC (.int 6)))) (dCons (dAt tab_number "number" (dX1 "NoNumber" "number" (dC (.int 6)))) dNil)))) (gN 6)) (dSeq (dAsg (d2 (pur2 addO) (dV 7) (dLst (dCons (dV 1) (dCons (dC (.int 6)) dNil)))) (gN 7)) (dSeq (dAsg (d2 (pur2 addO) (dV 6) (dLst (dCons (dAt tab_name "name" (d2 ixO (dV 3) (dC (.int 9)))) (dCons (dAt tab_name "name" (dX1 "Known" "name" (dC (.str "b")))) dNil)))) (gN 6)) (dSeq (dAsg (d2 (pur2 addO) (dV 7) (dLst (dCons (dV 2) (dCons (dC (.str "b")) dNil)))) (gN 7)) (dSeq (dAsg (d2 (pur2 addO) (dV 6) (dLst (dCons (dAt tab_name "name" (d2 ixO (dV 3) (dC (.int 10)))) (dCons (dAt tab_name "name" (dX1 "NoHouse" "name" (dC (.str "b")))) dNil)))) (gN 6)) (dSeq (dAsg (d2 (pur2 addO) (dV 7) (dLst (dCons (dV 2) (dCons (dC (.str "b")) dNil)))) (gN 7)) (dSeq (dAsg (d2 (pur2 addO) (dV 6) (dLst (dCons (dAt tab_piece "piece" (d2 ixO (dV 3) (dC (.int 12)))) (dCons (dAt tab_piece "piece" (dX1 "BadText" "piece" (dC (.int 12)))) dNil)))) (gN 6)) (dSeq (dAsg (d2 (pur2 addO) (dV 7) (dLst (dCons (dV 1) (dCons (dC (.int 12)) dNil)))) (gN 7)) (dSeq (dAsg (d2 (pur2 addO) (dV 6) (dLst (dCons (dAt tab_number "number" (d2 ixO (dV 3) (dC (.int 13)))) (dCons (dAt tab_number "number" (dX1 "BadLine" "number" (dC (.int 13)))) dNil)))) (gN 6)) (dSeq (dAsg (d2 (pur2 addO) (dV 7) (dLst (dCons (dV 1) (dCons (dC (.int 13)) dNil)))) (gN 7)) (dRet (dFp (F_same 2) (dCons (dV 6) (dCons (dV 7) dNil)))))))))))))))))))))))))))))))))))))))))))))
def F_right : List D → M D := runD N_right.length ds_right
theorem ok_right {P : Program} {w : World} {K : PySem.W.Frag} {mg : Str → Option Value} {base : Heap} {f : Addr} {fd : FuncData} (T : Tx P w K mg base) (C_take : Cal P w K mg base 1 "_law_take" 2 F_take) (C_of : Cal P w K mg base 2 "_law_of" 2 F_of) (C_sorts : Cal P w K mg base 1 "_law_sorts" 1 F_sorts) (C_same : Cal P w K mg base 3 "_law_same" 2 (F_same 2)) (F : FnP K "_law_right" s_right f fd) : FnOk P w K mg base CX0 4 f fd ["_law_box_here"] (spF ⟨K, P, w, mg⟩ Xo0 1 F_right) := by
  refine fn_tw (k := 3) F sc_right fun cdv A outer s H E hr => ?_
  have nd := sc_right.nd
  exact (ts_cons (tS_par (i := 1) (j := 2) rfl nd rfl rfl (by decide) rfl rfl (ta_cons (te_op op_sub opd_sub (te_c C_take (fun h => dF_up (lenA_cons (lenA_cons lenA_nil)) h) (hr.mono (by first | decide | omega)) rfl (ta_cons (te_v 0) (ta_cons (te_op op_pow opd_pow te_int te_int) ta_nil))) (te_op op_mul opd_mul te_int (te_op op_pow opd_pow te_int te_int))) (ta_cons (te_c C_of (fun h => dF_up (lenA_cons (lenA_cons lenA_nil)) h) (hr.mono (by first | decide | omega)) rfl (ta_cons (te_v 0) (ta_cons (te_lst (ta_cons te_str (ta_cons te_str (ta_cons te_str (ta_cons te_str ta_nil))))) ta_nil))) ta_nil)) rfl) (ts_cons (tS_asg (te_lstM ta_nil) (tg_n (i := 3) nd)) (ts_cons (tS_expr (te_lm PySem.F.slot_list_append PySem.F.type_list_append mt_append md_app (te_v 3) (ta_cons (te_x1 T.x_NoTask (hr.mono (by decide)) rfl (te_v 2)) ta_nil))) (ts_cons (tS_expr (te_lm PySem.F.slot_list_append PySem.F.type_list_append mt_append md_app (te_v 3) (ta_cons (te_x1 T.x_NoStep (hr.mono (by decide)) rfl (te_v 1)) ta_nil))) (ts_cons (tS_expr (te_lm PySem.F.slot_list_append PySem.F.type_list_append mt_append md_app (te_v 3) (ta_cons (te_x1 T.x_NoQueue (hr.mono (by decide)) rfl (te_v 2)) ta_nil))) (ts_cons (tS_expr (te_lm PySem.F.slot_list_append PySem.F.type_list_append mt_append md_app (te_v 3) (ta_cons (te_x1 T.x_NoSignal (hr.mono (by decide)) rfl (te_v 2)) ta_nil))) (ts_cons (tS_expr (te_lm PySem.F.slot_list_append PySem.F.type_list_append mt_append md_app (te_v 3) (ta_cons (te_x1 T.x_NoGroup (hr.mono (by decide)) rfl (te_v 2)) ta_nil))) (ts_cons (tS_expr (te_lm PySem.F.slot_list_append PySem.F.type_list_append mt_append md_app (te_v 3) (ta_cons (te_x1 T.x_NotReady (hr.mono (by decide)) rfl (te_v 2)) ta_nil))) (ts_cons (tS_expr (te_lm PySem.F.slot_list_append PySem.F.type_list_append mt_append md_app (te_v 3) (ta_cons (te_x1 T.x_NoNumber (hr.mono (by decide)) rfl (te_v 1)) ta_nil))) (ts_cons (tS_expr (te_lm PySem.F.slot_list_append PySem.F.type_list_append mt_append md_app (te_v 3) (ta_cons (te_x0 T.n_NotWhole.choose_spec.2.1 T.n_NotWhole.choose_spec.2.2 rfl T.n_NotWhole.choose_spec.1) ta_nil))) (ts_cons (tS_expr (te_lm PySem.F.slot_list_append PySem.F.type_list_append mt_append md_app (te_v 3) (ta_cons (te_x0 T.n_Unfit.choose_spec.2.1 T.n_Unfit.choose_spec.2.2 rfl T.n_Unfit.choose_spec.1) ta_nil))) (ts_cons (tS_expr (te_lm PySem.F.slot_list_append PySem.F.type_list_append mt_append md_app (te_v 3) (ta_cons (te_x1 T.x_Known (hr.mono (by decide)) rfl (te_v 2)) ta_nil))) (ts_cons (tS_expr (te_lm PySem.F.slot_list_append PySem.F.type_list_append mt_append md_app (te_v 3) (ta_cons (te_x1 T.x_NoHouse (hr.mono (by decide)) rfl (te_v 2)) ta_nil))) (ts_cons (tS_expr (te_lm PySem.F.slot_list_append PySem.F.type_list_append mt_append md_app (te_v 3) (ta_cons (te_x0 T.n_NothingDone.choose_spec.2.1 T.n_NothingDone.choose_spec.2.2 rfl T.n_NothingDone.choose_spec.1) ta_nil))) (ts_cons (tS_expr (te_lm PySem.F.slot_list_append PySem.F.type_list_append mt_append md_app (te_v 3) (ta_cons (te_x1 T.x_BadText (hr.mono (by decide)) rfl (te_v 1)) ta_nil))) (ts_cons (tS_expr (te_lm PySem.F.slot_list_append PySem.F.type_list_append mt_append md_app (te_v 3) (ta_cons (te_x1 T.x_BadLine (hr.mono (by decide)) rfl (te_v 1)) ta_nil))) (ts_frz 3 (ts_cons (tS_for PassesOwn.never rfl (ti_enum rfl T.f_enumerate (ta_cons (te_v 3) ta_nil)) (tg_t rfl (tgs_cons (tg_n (i := 4) nd) (tgs_cons (tg_n (i := 5) nd) tgs_nil))) (ts_cons (tS_if (tt_not (tt_val (te_c C_same (fun h => dFp_up (lenA_cons (lenA_cons lenA_nil)) h) (hr.mono (by first | decide | omega)) rfl (ta_cons (te_c C_sorts (fun h => dFp_up (lenA_cons lenA_nil) h) (hr.mono (by first | decide | omega)) rfl (ta_cons (te_v 5) ta_nil)) (ta_cons (by exact te_lc (own := [(("_law_j" : Str), 8)]) rfl nd (by exact (ti_rng1 rfl T.f_range (ta_cons te_int ta_nil))) (blkOk_by (N := N_right) (sc := defScope s_right) (own := [(("_law_j" : Str), 8)]) (by decide +kernel)) (raw_n (by decide)) (fun _ _ _ _ _ => by exact (pg_name (i := 8) nd rfl (Or.inl rfl))) (fun _ _ _ _ _ => by exact tts_nil) (fun _ _ _ _ _ => by exact (te_cmp (op_eqD hr.units) opd_eq (te_v 8) (te_v 4) (nomark _)))) ta_nil))))) (ts_one (tS_ret te_bl)) ts_nil) (ts_one (tS_if (PW.pt (tw_or (tt_not (tt_val (te_blt call_isX (cd_isx T.isx) rfl T.f_isinstance boot_isinstance (ta_cons (te_v 5) (ta_cons (te_cls rfl T.m_HouseError.choose_spec) ta_nil))))) (tw_or1 (tt_not (tt_val (te_blt call_isX (cd_isx T.isx) rfl T.f_isinstance boot_isinstance (ta_cons (te_v 5) (ta_cons (te_bty rfl T.f_ValueError (by decide +kernel)) ta_nil)))))))) (ts_one (tS_ret te_bl)) ts_nil)))) (ts_cons (tS_par (i := 6) (j := 7) rfl nd rfl rfl (by decide) rfl rfl (ta_cons (te_lst ta_nil) (ta_cons (te_lst ta_nil) ta_nil)) rfl) (ts_cons (tS_asg (te_op op_addA opd_add (te_v 6) (te_lst (ta_cons (te_at T.a_name (te_ix ix_seq opd_ix (te_v 3) te_int (fun _ _ => rfl))) (ta_cons (te_at T.a_name (te_xk T.x_NoTask (hr.mono (by decide)) rfl te_str)) ta_nil)))) (tg_n (i := 6) nd)) (ts_cons (tS_asg (te_op op_addA opd_add (te_v 7) (te_lst (ta_cons (te_v 2) (ta_cons te_str ta_nil)))) (tg_n (i := 7) nd)) (ts_cons (tS_asg (te_op op_addA opd_add (te_v 6) (te_lst (ta_cons (te_at T.a_number (te_ix ix_seq opd_ix (te_v 3) te_int (fun _ _ => rfl))) (ta_cons (te_at T.a_number (te_xk T.x_NoStep (hr.mono (by decide)) rfl te_int)) ta_nil)))) (tg_n (i := 6) nd)) (ts_cons (tS_asg (te_op op_addA opd_add (te_v 7) (te_lst (ta_cons (te_v 1) (ta_cons te_int ta_nil)))) (tg_n (i := 7) nd)) (ts_cons (tS_asg (te_op op_addA opd_add (te_v 6) (te_lst (ta_cons (te_at T.a_name (te_ix ix_seq opd_ix (te_v 3) te_int (fun _ _ => rfl))) (ta_cons (te_at T.a_name (te_xk T.x_NoQueue (hr.mono (by decide)) rfl te_str)) ta_nil)))) (tg_n (i := 6) nd)) (ts_cons (tS_asg (te_op op_addA opd_add (te_v 7) (te_lst (ta_cons (te_v 2) (ta_cons te_str ta_nil)))) (tg_n (i := 7) nd)) (ts_cons (tS_asg (te_op op_addA opd_add (te_v 6) (te_lst (ta_cons (te_at T.a_name (te_ix ix_seq opd_ix (te_v 3) te_int (fun _ _ => rfl))) (ta_cons (te_at T.a_name (te_xk T.x_NoSignal (hr.mono (by decide)) rfl te_str)) ta_nil)))) (tg_n (i := 6) nd)) (ts_cons (tS_asg (te_op op_addA opd_add (te_v 7) (te_lst (ta_cons (te_v 2) (ta_cons te_str ta_nil)))) (tg_n (i := 7) nd)) (ts_cons (tS_asg (te_op op_addA opd_add (te_v 6) (te_lst (ta_cons (te_at T.a_name (te_ix ix_seq opd_ix (te_v 3) te_int (fun _ _ => rfl))) (ta_cons (te_at T.a_name (te_xk T.x_NoGroup (hr.mono (by decide)) rfl te_str)) ta_nil)))) (tg_n (i := 6) nd)) (ts_cons (tS_asg (te_op op_addA opd_add (te_v 7) (te_lst (ta_cons (te_v 2) (ta_cons te_str ta_nil)))) (tg_n (i := 7) nd)) (ts_cons (tS_asg (te_op op_addA opd_add (te_v 6) (te_lst (ta_cons (te_at T.a_name (te_ix ix_seq opd_ix (te_v 3) te_int (fun _ _ => rfl))) (ta_cons (te_at T.a_name (te_xk T.x_NotReady (hr.mono (by decide)) rfl te_str)) ta_nil)))) (tg_n (i := 6) nd)) (ts_cons (tS_asg (te_op op_addA opd_add (te_v 7) (te_lst (ta_cons (te_v 2) (ta_cons te_str ta_nil)))) (tg_n (i := 7) nd)) (ts_cons (tS_asg (te_op op_addA opd_add (te_v 6) (te_lst (ta_cons (te_at T.a_number (te_ix ix_seq opd_ix (te_v 3) te_int (fun _ _ => rfl))) (ta_cons (te_at T.a_number (te_xk T.x_NoNumber (hr.mono (by decide)) rfl te_int)) ta_nil)))) (tg_n (i := 6) nd)) (ts_cons (tS_asg (te_op op_addA opd_add (te_v 7) (te_lst (ta_cons (te_v 1) (ta_cons te_int ta_nil)))) (tg_n (i := 7) nd)) (ts_cons (tS_asg (te_op op_addA opd_add (te_v 6) (te_lst (ta_cons (te_at T.a_name (te_ix ix_seq opd_ix (te_v 3) te_int (fun _ _ => rfl))) (ta_cons (te_at T.a_name (te_xk T.x_Known (hr.mono (by decide)) rfl te_str)) ta_nil)))) (tg_n (i := 6) nd)) (ts_cons (tS_asg (te_op op_addA opd_add (te_v 7) (te_lst (ta_cons (te_v 2) (ta_cons te_str ta_nil)))) (tg_n (i := 7) nd)) (ts_cons (tS_asg (te_op op_addA opd_add (te_v 6) (te_lst (ta_cons (te_at T.a_name (te_ix ix_seq opd_ix (te_v 3) te_int (fun _ _ => rfl))) (ta_cons (te_at T.a_name (te_xk T.x_NoHouse (hr.mono (by decide)) rfl te_str)) ta_nil)))) (tg_n (i := 6) nd)) (ts_cons (tS_asg (te_op op_addA opd_add (te_v 7) (te_lst (ta_cons (te_v 2) (ta_cons te_str ta_nil)))) (tg_n (i := 7) nd)) (ts_cons (tS_asg (te_op op_addA opd_add (te_v 6) (te_lst (ta_cons (te_at T.a_piece (te_ix ix_seq opd_ix (te_v 3) te_int (fun _ _ => rfl))) (ta_cons (te_at T.a_piece (te_xk T.x_BadText (hr.mono (by decide)) rfl te_int)) ta_nil)))) (tg_n (i := 6) nd)) (ts_cons (tS_asg (te_op op_addA opd_add (te_v 7) (te_lst (ta_cons (te_v 1) (ta_cons te_int ta_nil)))) (tg_n (i := 7) nd)) (ts_cons (tS_asg (te_op op_addA opd_add (te_v 6) (te_lst (ta_cons (te_at T.a_number (te_ix ix_seq opd_ix (te_v 3) te_int (fun _ _ => rfl))) (ta_cons (te_at T.a_number (te_xk T.x_BadLine (hr.mono (by decide)) rfl te_int)) ta_nil)))) (tg_n (i := 6) nd)) (ts_cons (tS_asg (te_op op_addA opd_add (te_v 7) (te_lst (ta_cons (te_v 1) (ta_cons te_int ta_nil)))) (tg_n (i := 7) nd)) (ts_one (tS_ret (te_c C_same (fun h => dFp_up (lenA_cons (lenA_cons lenA_nil)) h) (hr.mono (by first | decide | omega)) rfl (ta_cons (te_v 6) (ta_cons (te_v 7) ta_nil))))))))))))))))))))))))))))))))))))))))))))))
/-! ### law -/
def N_law : List Str := ["_law_script", "_law_cells_here", "_law_k"]
theorem sc_law : FnScope N_law ["_law_script"] (defScope s_law) := ⟨rfl, rfl, rfl, by decide +kernel, rfl, by decide +kernel, by decide +kernel⟩
def ds_law : En → M Out := (dSeq (dAsg (dFp F_cells (dCons (dV 0) (dCons (dC (.int 3)) dNil))) (gN 1)) (dRet (dCall (lP allF) (dCons (dLc (dRng rng1 (dCons (dCall (lenP) (dCons (dV 1) dNil)) dNil)) (gN 2) dYes (dFm F_right (dCons (dF F_box (dCons (dV 1) (dCons (dV 2) dNil))) dNil)) [2]) dNil))))
def F_law : List D → M D := runD N_law.length ds_law
theorem ok_law {P : Program} {w : World} {K : PySem.W.Frag} {mg : Str → Option Value} {base : Heap} {f : Addr} {fd : FuncData} (T : Tx P w K mg base) (C_box : Cal P w K mg base 1 "_law_box" 2 F_box) (C_cells : Cal P w K mg base 1 "_law_cells" 2 F_cells) (C_right : Cal P w K mg base 4 "_law_right" 1 F_right) (F : FnP K "law" s_law f fd) : FnOk P w K mg base CX0 5 f fd ["_law_script"] (spF ⟨K, P, w, mg⟩ Xo0 1 F_law) := by
  refine fn_tw (k := 4) F sc_law fun cdv A outer s H E hr => ?_
  have nd := sc_law.nd
  exact (ts_cons (tS_asg (te_c C_cells (fun h => dFp_up (lenA_cons (lenA_cons lenA_nil)) h) (hr.mono (by first | decide | omega)) rfl (ta_cons (te_v 0) (ta_cons te_int ta_nil))) (tg_n (i := 1) nd)) (ts_one (tS_ret (te_blt (cr_all rfl) cd_all rfl T.f_all (by decide +kernel) (ta_cons (by exact te_lc (own := [(("_law_k" : Str), 2)]) rfl nd (by exact (ti_rng1 rfl T.f_range (ta_cons (te_blt call_len cd_len rfl T.f_len (by decide +kernel) (ta_cons (te_v 1) ta_nil)) ta_nil))) (blkOk_by (N := N_law) (sc := defScope s_law) (own := [(("_law_k" : Str), 2)]) (by decide +kernel)) (raw_n (by decide)) (fun _ _ _ _ _ => by exact (pg_name (i := 2) nd rfl (Or.inl rfl))) (fun _ _ _ _ _ => by exact tts_nil) (fun _ _ _ _ _ => by exact (te_c C_right (fun h => dFm_up (lenA_cons lenA_nil) h) (hr.mono (by first | decide | omega)) rfl (ta_cons (te_c C_box (fun h => dF_up (lenA_cons (lenA_cons lenA_nil)) h) (hr.mono (by first | decide | omega)) rfl (ta_cons (te_v 1) (ta_cons (te_v 2) ta_nil))) ta_nil)))) ta_nil)))))
end K00

namespace K00
open PySem PySem.Spec PyProof.Rows L2 Tw
/-- the three numbers of a box -/
abbrev bx (x y c : Int) : O := .lst [.int x, .int y, .int c]
theorem take_pos {x y c s : Int} (hx : 0 < x) (hs : 0 < s) (hs2 : s < 1073741824) :
    F_take [.ref 0, .int s] [bx x y c] = some (.inr (.int (x % s)), [bx (x / s) y c]) := by
  simp [F_take, ds_take, N_take, runD, start0, bnd, bndN, dSeq, dIfS, dTest, dTru, truP, truD, dNotT, dAndT, dOrT, dAnd, dOr, dNot, d2, dV, dC, lft, pur, ixO, atI, ixN, blO, pur2, ordO, gtI, ltI, leI, geI, Tw.ret, dAsg, dCall, dCons, dNil, pur1, purL, intF, absF, gN, modO, divO, mulO, addO, subO, powO, i2, i2c, gSubD, setF, dRet, outD, dNext, dIf, lenP, dLstM, newL, dLst, dTup, lstO, tupO, okL, mx, dFrz, frzD, frzO, dF, noX, dExpr, dMeth, isLs, inL, appF, dPar, par2, lP, allF, listP, inS, hx, hs, hs2]
def zO (y c : Int) : Int := (y + 48271 * c) * (39373 + c) % 2147483647
def zF (y c : Int) : Int := zO y c % 40009 + 7
def zA (y c : Int) : Int := (zO y c + c + y / 1000003) * zF y c % 2147483629
theorem take_zero {x y c s : Int} (hx : ¬ 0 < x) (hc : 0 ≤ c) (hc2 : c ≤ 1000) (hs : 0 < s) :
    F_take [.ref 0, .int s] [bx x y c] = some (.inr (.int ((zA y (c + 1) * 48271 + zO y (c + 1)) % 2147483587 / 64 % s)), [bx x y (c + 1)]) := by
  have m1 : -18446744073709551616 < 39373 + (c + 1) := by omega
  have m2 : 39373 + (c + 1) < 18446744073709551616 := by omega
  have m3 : -18446744073709551616 < (y + 48271 * (c + 1)) * (39373 + (c + 1)) % 2147483647 % 40009 + 7 := by omega
  have m4 : (y + 48271 * (c + 1)) * (39373 + (c + 1)) % 2147483647 % 40009 + 7 < 18446744073709551616 := by omega
  simp [F_take, ds_take, N_take, runD, start0, bnd, bndN, dSeq, dIfS, dTest, dTru, truP, truD, dNotT, dAndT, dOrT, dAnd, dOr, dNot, d2, dV, dC, lft, pur, ixO, atI, ixN, blO, pur2, ordO, gtI, ltI, leI, geI, Tw.ret, dAsg, dCall, dCons, dNil, pur1, purL, intF, absF, gN, modO, divO, mulO, addO, subO, powO, i2, i2c, gSubD, setF, dRet, outD, dNext, dIf, lenP, dLstM, newL, dLst, dTup, lstO, tupO, okL, mx, dFrz, frzD, frzO, dF, noX, dExpr, dMeth, isLs, inL, appF, dPar, par2, lP, allF, listP, inS, hx, hs, mulC, m1, m2, m3, m4, zA, zF, zO]
theorem take_ok {x y c s : Int} (hx : 0 ≤ x) (hc : 0 ≤ c) (hc2 : c ≤ 1000) (hs : 0 < s) (hs2 : s < 1073741824) :
    ∃ r x' c' : Int, 0 ≤ r ∧ r < s ∧ 0 ≤ x' ∧ 0 ≤ c' ∧ c' ≤ c + 1 ∧ F_take [.ref 0, .int s] [bx x y c] = some (.inr (.int r), [bx x' y c']) := by
  by_cases h : 0 < x
  · exact ⟨_, _, _, Int.emod_nonneg x (Int.ne_of_gt hs), Int.emod_lt_of_pos x hs, Int.ediv_nonneg hx (Int.le_of_lt hs), hc, by omega, take_pos h hs hs2⟩
  · exact ⟨_, _, _, Int.emod_nonneg ((zA y (c + 1) * 48271 + zO y (c + 1)) % 2147483587 / 64) (Int.ne_of_gt hs), Int.emod_lt_of_pos _ hs, hx, by omega, by omega, take_zero h hc hc2 hs⟩
theorem of_ok {x y c : Int} (hx : 0 ≤ x) (hc : 0 ≤ c) (hc2 : c ≤ 1000) : ∃ (t : Str) (x' c' : Int), (t = "a" ∨ t = "ants" ∨ t = "abcdefgh" ∨ t = "zz") ∧ 0 ≤ x' ∧ 0 ≤ c' ∧ c' ≤ c + 1 ∧
    F_of [.ref 0, .lst [.str "a", .str "ants", .str "abcdefgh", .str "zz"]] [bx x y c] = some (.inr (.str t), [bx x' y c']) := by
  obtain ⟨r, x', c', h1, h2, h3, h4, h5, e⟩ := take_ok (x := x) (y := y) (c := c) (s := 4) hx hc hc2 (by omega) (by omega)
  have q : r = 0 ∨ r = 1 ∨ r = 2 ∨ r = 3 := by omega
  rcases q with rfl | rfl | rfl | rfl
  · exact ⟨"a", x', c', by simp, h3, h4, h5, by simp [F_of, ds_of, N_of, runD, start0, bnd, bndN, dSeq, dIfS, dTest, dTru, truP, truD, dNotT, dAndT, dOrT, dAnd, dOr, dNot, d2, dV, dC, lft, pur, ixO, atI, ixN, blO, pur2, ordO, gtI, ltI, leI, geI, Tw.ret, dAsg, dCall, dCons, dNil, pur1, purL, intF, absF, gN, modO, divO, mulO, addO, subO, powO, i2, i2c, gSubD, setF, dRet, outD, dNext, dIf, lenP, dLstM, newL, dLst, dTup, lstO, tupO, okL, mx, dFrz, frzD, frzO, dF, noX, dExpr, dMeth, isLs, inL, appF, dPar, par2, lP, allF, listP, inS, e]⟩
  · exact ⟨"ants", x', c', by simp, h3, h4, h5, by simp [F_of, ds_of, N_of, runD, start0, bnd, bndN, dSeq, dIfS, dTest, dTru, truP, truD, dNotT, dAndT, dOrT, dAnd, dOr, dNot, d2, dV, dC, lft, pur, ixO, atI, ixN, blO, pur2, ordO, gtI, ltI, leI, geI, Tw.ret, dAsg, dCall, dCons, dNil, pur1, purL, intF, absF, gN, modO, divO, mulO, addO, subO, powO, i2, i2c, gSubD, setF, dRet, outD, dNext, dIf, lenP, dLstM, newL, dLst, dTup, lstO, tupO, okL, mx, dFrz, frzD, frzO, dF, noX, dExpr, dMeth, isLs, inL, appF, dPar, par2, lP, allF, listP, inS, e]⟩
  · exact ⟨"abcdefgh", x', c', by simp, h3, h4, h5, by simp [F_of, ds_of, N_of, runD, start0, bnd, bndN, dSeq, dIfS, dTest, dTru, truP, truD, dNotT, dAndT, dOrT, dAnd, dOr, dNot, d2, dV, dC, lft, pur, ixO, atI, ixN, blO, pur2, ordO, gtI, ltI, leI, geI, Tw.ret, dAsg, dCall, dCons, dNil, pur1, purL, intF, absF, gN, modO, divO, mulO, addO, subO, powO, i2, i2c, gSubD, setF, dRet, outD, dNext, dIf, lenP, dLstM, newL, dLst, dTup, lstO, tupO, okL, mx, dFrz, frzD, frzO, dF, noX, dExpr, dMeth, isLs, inL, appF, dPar, par2, lP, allF, listP, inS, e]⟩
  · exact ⟨"zz", x', c', by simp, h3, h4, h5, by simp [F_of, ds_of, N_of, runD, start0, bnd, bndN, dSeq, dIfS, dTest, dTru, truP, truD, dNotT, dAndT, dOrT, dAnd, dOr, dNot, d2, dV, dC, lft, pur, ixO, atI, ixN, blO, pur2, ordO, gtI, ltI, leI, geI, Tw.ret, dAsg, dCall, dCons, dNil, pur1, purL, intF, absF, gN, modO, divO, mulO, addO, subO, powO, i2, i2c, gSubD, setF, dRet, outD, dNext, dIf, lenP, dLstM, newL, dLst, dTup, lstO, tupO, okL, mx, dFrz, frzD, frzO, dF, noX, dExpr, dMeth, isLs, inL, appF, dPar, par2, lP, allF, listP, inS, e]⟩
/-! ### a scalar is the same as itself -/
def scal : D → Bool
  | .bl _ => true
  | .int _ => true
  | .str x => PyData.strOk x
  | _ => false
theorem eqB (b : Bool) : eqO false (.bl b) (.bl b) = some (.bl true) := by cases b <;> rfl
theorem eqI (i : Int) : eqO false (.int i) (.int i) = some (.bl true) := by
  have h : PyData.eqv (.int i) (.int i) = true := by simp [PyData.eqv]
  have h2 : SeqAt.shaped (.int i) = true := by simp [SeqAt.shaped, PyData.canLay0, PyData.depth]
  simp [eqO, toP, h, h2]
theorem neB (b : Bool) : eqO true (.bl b) (.bl b) = some (.bl false) := by cases b <;> rfl
theorem eqS (x : Str) (ok : PyData.strOk x = true) : eqO false (.str x) (.str x) = some (.bl true) := by
  have h : PyData.eqv (.str x) (.str x) = true := by simp [PyData.eqv]
  have h2 : SeqAt.shaped (.str x) = true := by simp [SeqAt.shaped, PyData.canLay0, PyData.depth, ok]
  simp [eqO, toP, h, h2]
theorem same1 (d : D) (h : scal d = true) (n : Nat) (G : List O) : F_same (n + 1) [d, d] G = some (.inr (.bl true), G) := by
  cases d with
  | bl b => simp [F_same, ds_same, N_same, runD, start0, bnd, bndN, dSeq, dIfS, dTest, dTru, truP, truD, dNotT, dAndT, dOrT, dAnd, dOr, dNot, d2, dV, dC, lft, pur, ixO, atI, ixN, blO, pur2, ordO, gtI, ltI, leI, geI, Tw.ret, dAsg, dCall, dCons, dNil, pur1, purL, intF, absF, gN, modO, divO, mulO, addO, subO, powO, i2, i2c, gSubD, setF, dRet, outD, dNext, dIf, lenP, dLstM, newL, dLst, dTup, lstO, tupO, okL, mx, dFrz, frzD, frzO, dF, noX, dExpr, dMeth, isLs, inL, appF, dPar, par2, lP, allF, listP, inS, isiTF, isiF, tyN, tysO, knownC, isT, isNO, eqB]
  | int i => simp [F_same, ds_same, N_same, runD, start0, bnd, bndN, dSeq, dIfS, dTest, dTru, truP, truD, dNotT, dAndT, dOrT, dAnd, dOr, dNot, d2, dV, dC, lft, pur, ixO, atI, ixN, blO, pur2, ordO, gtI, ltI, leI, geI, Tw.ret, dAsg, dCall, dCons, dNil, pur1, purL, intF, absF, gN, modO, divO, mulO, addO, subO, powO, i2, i2c, gSubD, setF, dRet, outD, dNext, dIf, lenP, dLstM, newL, dLst, dTup, lstO, tupO, okL, mx, dFrz, frzD, frzO, dF, noX, dExpr, dMeth, isLs, inL, appF, dPar, par2, lP, allF, listP, inS, isiTF, isiF, tyN, tysO, knownC, isT, isNO, eqB, eqI]
  | str x =>
    have e := eqS x h
    simp [F_same, ds_same, N_same, runD, start0, bnd, bndN, dSeq, dIfS, dTest, dTru, truP, truD, dNotT, dAndT, dOrT, dAnd, dOr, dNot, d2, dV, dC, lft, pur, ixO, atI, ixN, blO, pur2, ordO, gtI, ltI, leI, geI, Tw.ret, dAsg, dCall, dCons, dNil, pur1, purL, intF, absF, gN, modO, divO, mulO, addO, subO, powO, i2, i2c, gSubD, setF, dRet, outD, dNext, dIf, lenP, dLstM, newL, dLst, dTup, lstO, tupO, okL, mx, dFrz, frzD, frzO, dF, noX, dExpr, dMeth, isLs, inL, appF, dPar, par2, lP, allF, listP, inS, isiTF, isiF, tyN, tysO, knownC, isT, isNO, eqB, e]
  | _ => cases h
theorem noR_scal {d : D} (h : scal d = true) : noR d = true := by
  cases d <;> first | rfl | cases h
theorem lc_same (ρ : En) (h4 : ρ.length = 4) (G : List O) : ∀ xs : List D, (∀ d ∈ xs, scal d = true) →
    lcL (gT 2 (gsCons (gN 2) (gsCons (gN 3) gsNil))) dYes (dFp (F_same 1) (dCons (dV 2) (dCons (dV 3) dNil))) ρ (zipD xs xs) G = some (.inr (List.replicate xs.length (.bl true)), G)
  | [], _ => rfl
  | d :: r, h => by
    have hd := h d (List.mem_cons_self ..)
    have ih := lc_same ρ h4 G r fun e he => h e (List.mem_cons_of_mem _ he)
    match ρ, h4 with
    | [a, b, e, f], _ =>
      have z : zipD (d :: r) (d :: r) = .tup [d, d] :: zipD r r := rfl
      have s1 := same1 d hd 0 []
      have n1 := noR_scal hd
      rw [z, lcL]
      simp [bndN, lft, gT, gsCons, gN, gsNil, dYes, Tw.ret, dFp, dCons, dV, pur, dNil, bnd, pureF, noRs, n1, s1, noR, ih]
      rfl
theorem same2R (R : List D → M D) (xs : List D) (hl : xs.length ≤ mx) (G : List O)
    (lc : lcL (gT 2 (gsCons (gN 2) (gsCons (gN 3) gsNil))) dYes (dFp R (dCons (dV 2) (dCons (dV 3) dNil))) (wipeD [some (.lst xs), some (.lst xs), none, none] [2, 3]) (zipD xs xs) G = some (.inr (List.replicate xs.length (.bl true)), G)) :
    runD 4 (ds_same R) [.lst xs, .lst xs] G = some (.inr (.bl true), G) := by
  have hb : ∀ n, blsO (List.replicate n (.bl true)) = some (List.replicate n true) := fun n => by
    induction n with
    | zero => rfl
    | succ n ih => simp [List.replicate_succ, blsO, ih]
  have hl' : xs.length ≤ 1000000 := hl
  simp [ds_same, runD, start0, bnd, bndN, dSeq, dIfS, dTest, dTru, truP, truD, dNotT, dAndT, dOrT, dAnd, dOr, dNot, d2, dV, dC, lft, pur, ixO, atI, ixN, blO, pur2, ordO, gtI, ltI, leI, geI, Tw.ret, dAsg, dCall, dCons, dNil, pur1, purL, intF, absF, gN, modO, divO, mulO, addO, subO, powO, i2, i2c, gSubD, setF, dRet, outD, dNext, dIf, lenP, dLstM, newL, dLst, dTup, lstO, tupO, okL, mx, dFrz, frzD, frzO, dF, noX, dExpr, dMeth, isLs, inL, appF, dPar, par2, lP, allF, listP, inS, isiTF, isiF, tyN, tysO, knownC, isT, isNO, eqB, neB, eqI, dLc, dRng, zip2, itL, lc, allF, hb, hl']
theorem same2 (xs : List D) (h : ∀ d ∈ xs, scal d = true) (hl : xs.length ≤ mx) (G : List O) : F_same 2 [.lst xs, .lst xs] G = some (.inr (.bl true), G) :=
  same2R (F_same 1) xs hl G (lc_same _ rfl G xs h)
end K00

namespace K00
open PySem PySem.Spec PyProof.Rows L2 Tw
theorem pow18 : powO (.int 10) (.int 18) = some (.int 1000000000000000000) := by
  have h : ((10 : Int) ^ (18 : Int).toNat) = 1000000000000000000 := by
    show ((10 : Nat) : Int) ^ 18 = _
    rw [← Int.natCast_pow]
    rfl
  unfold powO i2c
  dsimp only
  rw [h]
  rfl
theorem box_ok (ds : List D) (k : Nat) (c : Int) (h : ds[k]? = some (.int c)) (G : List O) : ∃ x y : Int, 0 ≤ x ∧ F_box [.lst ds, .int (k : Int)] G = some (.inr (.ref G.length), G ++ [bx x y 0]) := by
  have lt : k < ds.length := (List.getElem?_eq_some_iff.mp h).1
  have ix : ixN ds.length (k : Int) = some k := by
    unfold ixN
    rw [if_pos (by omega), if_pos (by omega)]
    simp
  have lt' : (k : Int) < (ds.length : Int) := by omega
  obtain ⟨A, hA, eA⟩ : ∃ A : Int, 0 ≤ A ∧ (if c < 0 then -c else c) = A := ⟨_, by split <;> omega, rfl⟩
  have p18 := pow18
  by_cases big : 1000000000000000000 ≤ A
  · refine ⟨A, c % 2305843009213693951 + 39373 * (k : Int) + 93900, hA, ?_⟩
    simp [F_box, ds_box, N_box, runD, start0, bnd, bndN, dSeq, dIfS, dTest, dTru, truP, truD, dNotT, dAndT, dOrT, dAnd, dOr, dNot, d2, dV, dC, lft, pur, ixO, atI, ixN, blO, pur2, ordO, gtI, ltI, leI, geI, Tw.ret, dAsg, dCall, dCons, dNil, pur1, purL, intF, absF, gN, modO, divO, mulO, addO, subO, i2, i2c, gSubD, setF, dRet, outD, dNext, dIf, lenP, dLstM, newL, dLst, dTup, lstO, tupO, okL, mx, dFrz, frzD, frzO, dF, noX, dExpr, dMeth, isLs, inL, appF, dPar, par2, lP, allF, listP, inS, ix, h, lt', eA, big, mulC, p18]
  · refine ⟨0, c % 2305843009213693951 + 39373 * (k : Int) + 93900, Int.le_refl 0, ?_⟩
    simp [F_box, ds_box, N_box, runD, start0, bnd, bndN, dSeq, dIfS, dTest, dTru, truP, truD, dNotT, dAndT, dOrT, dAnd, dOr, dNot, d2, dV, dC, lft, pur, ixO, atI, ixN, blO, pur2, ordO, gtI, ltI, leI, geI, Tw.ret, dAsg, dCall, dCons, dNil, pur1, purL, intF, absF, gN, modO, divO, mulO, addO, subO, i2, i2c, gSubD, setF, dRet, outD, dNext, dIf, lenP, dLstM, newL, dLst, dTup, lstO, tupO, okL, mx, dFrz, frzD, frzO, dF, noX, dExpr, dMeth, isLs, inL, appF, dPar, par2, lP, allF, listP, inS, ix, h, lt', eA, big, mulC, p18]
def b_cells : En → M Out := dSeq (dAsg (d2 (pur2 modO) (dCall (pur1 intF) (dCons (dV 3) dNil)) (dV 1)) (gN 5)) (dAsg (d2 (pur2 addO) (d2 ixO (dV 2) (dV 5)) (d2 (pur2 mulO) (dV 4) (d2 (pur2 addO) (dV 3) (dC (.int 2))))) (gSubD (dV 2) (dV 5) setF))
theorem b_one (s : D) (u5 : Option D) (k : Int) (h0 : 0 ≤ k) (hi : k < 1000) (v a b c : Int) : ∃ a' b' c' : Int, b_cells [some s, some (.int 3), some (.ref 0), some (.int k), some (.int v), u5] [.lst [.int a, .int b, .int c]] =
    some (.inr (.nx [some s, some (.int 3), some (.ref 0), some (.int k), some (.int v), some (.int (k % 3))]), [.lst [.int a', .int b', .int c']]) := by
  have m : mulC v (k + 2) = true := by
    have m1 : -(2 ^ 64) < k + 2 := by omega
    have m2 : k + 2 < 2 ^ 64 := by omega
    unfold mulC
    rw [decide_eq_true m1, decide_eq_true m2]
    simp
  have q : k % 3 = 0 ∨ k % 3 = 1 ∨ k % 3 = 2 := by omega
  rcases q with q | q | q
  · exact ⟨a + v * (k + 2), b, c, by simp [b_cells, runD, start0, bnd, bndN, dSeq, dIfS, dTest, dTru, truP, truD, dNotT, dAndT, dOrT, dAnd, dOr, dNot, d2, dV, dC, lft, pur, ixO, atI, ixN, blO, pur2, ordO, gtI, ltI, leI, geI, Tw.ret, dAsg, dCall, dCons, dNil, pur1, purL, intF, absF, gN, modO, divO, mulO, addO, subO, i2, i2c, gSubD, setF, dRet, outD, dNext, dIf, lenP, dLstM, newL, dLst, dTup, lstO, tupO, okL, mx, dFrz, frzD, frzO, dF, noX, dExpr, dMeth, isLs, inL, appF, dPar, par2, lP, allF, listP, inS, q, m]⟩
  · exact ⟨a, b + v * (k + 2), c, by simp [b_cells, runD, start0, bnd, bndN, dSeq, dIfS, dTest, dTru, truP, truD, dNotT, dAndT, dOrT, dAnd, dOr, dNot, d2, dV, dC, lft, pur, ixO, atI, ixN, blO, pur2, ordO, gtI, ltI, leI, geI, Tw.ret, dAsg, dCall, dCons, dNil, pur1, purL, intF, absF, gN, modO, divO, mulO, addO, subO, i2, i2c, gSubD, setF, dRet, outD, dNext, dIf, lenP, dLstM, newL, dLst, dTup, lstO, tupO, okL, mx, dFrz, frzD, frzO, dF, noX, dExpr, dMeth, isLs, inL, appF, dPar, par2, lP, allF, listP, inS, q, m]⟩
  · exact ⟨a, b, c + v * (k + 2), by simp [b_cells, runD, start0, bnd, bndN, dSeq, dIfS, dTest, dTru, truP, truD, dNotT, dAndT, dOrT, dAnd, dOr, dNot, d2, dV, dC, lft, pur, ixO, atI, ixN, blO, pur2, ordO, gtI, ltI, leI, geI, Tw.ret, dAsg, dCall, dCons, dNil, pur1, purL, intF, absF, gN, modO, divO, mulO, addO, subO, i2, i2c, gSubD, setF, dRet, outD, dNext, dIf, lenP, dLstM, newL, dLst, dTup, lstO, tupO, okL, mx, dFrz, frzD, frzO, dF, noX, dExpr, dMeth, isLs, inL, appF, dPar, par2, lP, allF, listP, inS, q, m]⟩
theorem loop_cells (s : D) : ∀ (es : List D), (∀ d ∈ es, ∃ (i : Nat) (v : Int), i < 1000 ∧ d = .tup [.int (i : Int), .int v]) → ∀ (u3 u4 u5 : Option D) (a b c : Int),
    ∃ (w3 w4 w5 : Option D) (a' b' c' : Int), bodyL (gT 2 (gsCons (gN 3) (gsCons (gN 4) gsNil))) b_cells es [some s, some (.int 3), some (.ref 0), u3, u4, u5] [.lst [.int a, .int b, .int c]] =
      some (.inr (.nx [some s, some (.int 3), some (.ref 0), w3, w4, w5]), [.lst [.int a', .int b', .int c']])
  | [], _, u3, u4, u5, a, b, c => ⟨u3, u4, u5, a, b, c, rfl⟩
  | d :: r, h, u3, u4, u5, a, b, c => by
    obtain ⟨i, v, hi, rfl⟩ := h d (List.mem_cons_self ..)
    obtain ⟨a', b', c', e1⟩ := b_one s u5 (i : Int) (by omega) (by omega) v a b c
    obtain ⟨w3, w4, w5, a2, b2, c2, e2⟩ := loop_cells s r (fun e he => h e (List.mem_cons_of_mem _ he)) (some (.int (i : Int))) (some (.int v)) (some (.int ((i : Int) % 3))) a' b' c'
    refine ⟨w3, w4, w5, a2, b2, c2, ?_⟩
    rw [bodyL]
    simp [bnd, lft, gT, gsCons, gN, gsNil, e1, e2]
theorem cells_ok (ns : List Int) (hl : ns.length ≤ 63) : ∃ (zs : List Int) (G : List O), zs.length ≤ 3 ∧ F_cells [.scr (ns.map D.int), .int 3] [] = some (.inr (.lst (zs.map D.int)), G) := by
  match ns, hl with
  | [], _ => exact ⟨[0], _, by simp, rfl⟩
  | [a], _ => exact ⟨[a], _, by simp, rfl⟩
  | [a, b], _ => exact ⟨[a, b], _, by simp, rfl⟩
  | a :: b :: c :: r, hl =>
    have hr : r.length ≤ 60 := by simp at hl; omega
    obtain ⟨w3, w4, w5, a', b', c', e⟩ := loop_cells (.scr ((a :: b :: c :: r).map D.int)) (enumD (r.map D.int)) (by
      intro d hd
      unfold enumD at hd
      simp only [List.mem_map] at hd
      obtain ⟨⟨x, i⟩, hx, rfl⟩ := hd
      have := List.mem_zipIdx hx
      obtain ⟨h1, h2, h3⟩ := this
      simp at h2 h3
      exact ⟨i, _, by omega, by rw [h3]⟩) none none none a b c
    refine ⟨[a', b', c'], [.gone], by simp, ?_⟩
    have hc1 : Tw.cutD ((a :: b :: c :: r).map D.int) none (some 3) = [.int a, .int b, .int c] := by
      simp [Tw.cutD, HT.sIx]
    have hc2 : Tw.cutD ((a :: b :: c :: r).map D.int) (some 3) (some 63) = r.map D.int := by
      have l1 : r.length ≤ 60 := hr
      simp [Tw.cutD, HT.sIx]
      exact List.take_of_length_le (by simp; omega)
    generalize (a :: b :: c :: r).map D.int = ds at hc1 hc2 e ⊢
    refine run_rt (G1 := [.gone]) ?_
    refine (seq_nx (ρ1 := [some (.scr ds), some (.int 3), some (.ref 0), none, none, none]) (G1 := [.lst [.int a, .int b, .int c]]) ?_).trans ?_
    · simp [N_cells, runD, start0, bnd, bndN, dSeq, dIfS, dTest, dTru, truP, truD, dNotT, dAndT, dOrT, dAnd, dOr, dNot, d2, dV, dC, lft, pur, ixO, atI, ixN, blO, pur2, ordO, gtI, ltI, leI, geI, Tw.ret, dAsg, dCall, dCons, dNil, pur1, purL, intF, absF, gN, modO, divO, mulO, addO, subO, i2, i2c, gSubD, setF, dRet, outD, dNext, dIf, lenP, dLstM, newL, dLst, dTup, lstO, tupO, okL, mx, dFrz, frzD, frzO, dF, noX, dExpr, dMeth, isLs, inL, appF, dPar, par2, lP, allF, listP, inS, dSl, dNoP, dP, intO, slP, slO, hc1]
    · refine (seq_nx (ρ1 := [some (.scr ds), some (.int 3), some (.ref 0), w3, w4, w5]) (G1 := [.lst [.int a', .int b', .int c']]) ?_).trans ?_
      · refine (for_eq (es := enumD (r.map D.int)) (G1 := [.lst [.int a, .int b, .int c]]) ?_).trans e
        simp [runD, start0, bnd, bndN, dSeq, dIfS, dTest, dTru, truP, truD, dNotT, dAndT, dOrT, dAnd, dOr, dNot, d2, dV, dC, lft, pur, ixO, atI, ixN, blO, pur2, ordO, gtI, ltI, leI, geI, Tw.ret, dAsg, dCall, dCons, dNil, pur1, purL, intF, absF, gN, modO, divO, mulO, addO, subO, i2, i2c, gSubD, setF, dRet, outD, dNext, dIf, lenP, dLstM, newL, dLst, dTup, lstO, tupO, okL, mx, dFrz, frzD, frzO, dF, noX, dExpr, dMeth, isLs, inL, appF, dPar, par2, lP, allF, listP, inS, dSl, dNoP, dP, intO, slP, slO, dRng, enum1, itL, hc2]
      · rfl
theorem pow9 : powO (.int 10) (.int 9) = some (.int 1000000000) := by
  have h : ((10 : Int) ^ (9 : Int).toNat) = 1000000000 := by
    show ((10 : Nat) : Int) ^ 9 = _
    rw [← Int.natCast_pow]
    rfl
  unfold powO i2c
  dsimp only
  rw [h]
  rfl
theorem pow8 : powO (.int 10) (.int 8) = some (.int 100000000) := by
  have h : ((10 : Int) ^ (8 : Int).toNat) = 100000000 := by
    show ((10 : Nat) : Int) ^ 8 = _
    rw [← Int.natCast_pow]
    rfl
  unfold powO i2c
  dsimp only
  rw [h]
  rfl
def dueL (t : Str) (far : Int) : List D := [.str t, .str "b", .int far, .int 1, .str t, .str "b", .str t, .str "b", .str t, .str "b", .str t, .str "b", .int far, .int 6, .str t, .str "b", .str t, .str "b", .int far, .int 12, .int far, .int 13]
def everyL (t : Str) (far : Int) : List D := [.exf "NoTask" "name" (.str t), .exf "NoStep" "number" (.int far), .exf "NoQueue" "name" (.str t), .exf "NoSignal" "name" (.str t), .exf "NoGroup" "name" (.str t), .exf "NotReady" "name" (.str t), .exf "NoNumber" "number" (.int far), .exc "NotWhole", .exc "Unfit", .exf "Known" "name" (.str t), .exf "NoHouse" "name" (.str t), .exc "NothingDone", .exf "BadText" "piece" (.int far), .exf "BadLine" "number" (.int far)]
theorem right_ok {x y : Int} (hx : 0 ≤ x) : ∃ G, F_right [.ref 0] [bx x y 0] = some (.inr (.bl true), G) := by
  obtain ⟨r1, x1, c1, _, _, h1, h2, h3, e1⟩ := take_ok (x := x) (y := y) (c := 0) (s := 1000000000) hx (Int.le_refl 0) (by omega) (by omega) (by omega)
  obtain ⟨t, x2, c2, ht, _, _, _, e2⟩ := of_ok (x := x1) (y := y) (c := c1) h1 h2 (by omega)
  have p9 := pow9
  have p8 := pow8
  refine ⟨[bx x2 y c2, .gone], run_rt ?_⟩
  refine (seq_nx (ρ1 := [some (.ref 0), some (.int (r1 - 500000000)), some (.str t), none, none, none, none, none, none]) (G1 := [bx x2 y c2]) ?_).trans ?_
  · simp [N_right, runD, start0, bnd, bndN, dSeq, dIfS, dTest, dTru, truP, truD, dNotT, dAndT, dOrT, dAnd, dOr, dNot, d2, dV, dC, lft, pur, ixO, atI, ixN, blO, pur2, ordO, gtI, ltI, leI, geI, Tw.ret, dAsg, dCall, dCons, dNil, pur1, purL, intF, absF, gN, modO, divO, mulO, addO, subO, i2, i2c, gSubD, setF, dRet, outD, dNext, dIf, lenP, dLstM, newL, dLst, dTup, lstO, tupO, okL, mx, dFrz, frzD, frzO, dF, noX, dExpr, dMeth, isLs, inL, appF, dPar, par2, lP, allF, listP, inS, e1, e2, p9, p8, mulC]
  · generalize r1 - 500000000 = far
    refine Eq.trans (b := dRet (dFp (F_same 2) (dCons (dV 6) (dCons (dV 7) dNil))) [some (.ref 0), some (.int far), some (.str t), some (.lst (everyL t far)), some (.int 13), some (.exf "BadLine" "number" (.int far)), some (.lst (dueL t far)), some (.lst (dueL t far)), none] [bx x2 y c2, .gone]) ?_ ?_
    · kernel_rfl
    · refine ret_eq ?_
      have sm : F_same 2 [.lst (dueL t far), .lst (dueL t far)] [] = some (.inr (.bl true), []) := same2 _ (by
        intro d hd
        have ok : PyData.strOk t = true := by rcases ht with rfl | rfl | rfl | rfl <;> decide +kernel
        have okb : PyData.strOk "b" = true := by decide +kernel
        simp only [dueL, List.mem_cons, List.not_mem_nil, or_false] at hd
        rcases hd with rfl | rfl | rfl | rfl | rfl | rfl | rfl | rfl | rfl | rfl | rfl | rfl | rfl | rfl | rfl | rfl | rfl | rfl | rfl | rfl | rfl | rfl <;> first | rfl | exact ok | exact okb) (by simp [dueL]; decide) []
      have nr : noRs [.lst (dueL t far), .lst (dueL t far)] = true := rfl
      simp [dFp, bnd, dCons, dV, dNil, lft, pur, Tw.ret, pureF, nr, sm, noR]
theorem loop_law (s : D) (zs : List Int) (hz : zs.length ≤ 3) : ∀ (n lo : Nat), lo + n ≤ zs.length → ∀ G : List O,
    ∃ G', lcL (gN 2) dYes (dFm F_right (dCons (dF F_box (dCons (dV 1) (dCons (dV 2) dNil))) dNil)) [some s, some (.lst (zs.map D.int)), none] ((List.range' lo n).map fun (i : Nat) => D.int (0 + (i : Int))) G = some (.inr (List.replicate n (.bl true)), G')
  | 0, lo, _, G => ⟨G, rfl⟩
  | n + 1, lo, h, G => by
    obtain ⟨c, hc⟩ : ∃ c, zs[lo]? = some c := ⟨_, List.getElem?_eq_getElem (by omega)⟩
    have hd : (zs.map D.int)[lo]? = some (.int c) := by rw [List.getElem?_map, hc]; rfl
    obtain ⟨x, y, hx, eb⟩ := box_ok (zs.map D.int) lo c hd G
    obtain ⟨Gr, er⟩ := right_ok (y := y) hx
    obtain ⟨G', ih⟩ := loop_law s zs hz n (lo + 1) (by omega) ((G ++ [bx x y 0]).set G.length .gone)
    refine ⟨G', ?_⟩
    have z : ((0 : Int) + (lo : Int)) = (lo : Int) := by omega
    have g1 : (G ++ [bx x y 0])[G.length]? = some (bx x y 0) := by simp
    have nr : noRs [.int x, .int y, .int 0] = true := rfl
    rw [List.range'_succ, List.map_cons, z, lcL]
    simp only [bndN, lft, gN, dYes, Tw.ret, dFm, dCons, dNil, dF, dV, pur, bnd, noX, movF, refN, mvDs, mvD, eb, er, g1, nr, noR, ih, List.set_cons_zero, List.set_cons_succ, List.getElem?_cons_zero, List.getElem?_cons_succ, if_true]
    rfl
end K00

namespace K00
open PySem PySem.Spec PyProof.Rows L2 Tw
theorem nr_ints : ∀ l : List Int, noRs (l.map D.int) = true
  | [] => rfl
  | a :: l => by
    show (noR (.int a) && noRs (l.map D.int)) = true
    rw [nr_ints l]
    rfl
theorem step1 (ns zs : List Int) (G0 : List O) (ec : F_cells [.scr (ns.map D.int), .int 3] [] = some (.inr (.lst (zs.map D.int)), G0)) :
    dAsg (dFp F_cells (dCons (dV 0) (dCons (dC (.int 3)) dNil))) (gN 1) (start0 3 [.scr (ns.map D.int)]) [] = some (.inr (.nx [some (.scr (ns.map D.int)), some (.lst (zs.map D.int)), none]), []) := by
  have h1 : (noRs [.scr (ns.map D.int), .int 3]) = true := by
    show (noRs (ns.map D.int) && true) = true
    rw [nr_ints]
    rfl
  have h2 : noR (.lst (zs.map D.int)) = true := nr_ints zs
  have h3 : pureF F_cells [.scr (ns.map D.int), .int 3] [] = some (.inr (.lst (zs.map D.int)), []) := by
    unfold pureF
    rw [h1, ec]
    show (if noR (.lst (zs.map D.int)) = true then some (Sum.inr (D.lst (zs.map D.int)), []) else none) = _
    rw [h2]
    rfl
  refine asg_eq (d := .lst (zs.map D.int)) (G1 := []) ?_ rfl
  show pureF F_cells [.scr (ns.map D.int), .int 3] [] = _
  exact h3
theorem bls_all : ∀ n, blsO (List.replicate n (.bl true)) = some (List.replicate n true)
  | 0 => rfl
  | n + 1 => by
    rw [List.replicate_succ, List.replicate_succ, blsO, bls_all n]
    rfl
theorem small3 (i : Int) (h : 0 ≤ i) (h2 : i ≤ 3) : smallI i = true := by
  have a1 : -(2 ^ 62) ≤ i := by omega
  have a2 : i < 2 ^ 62 := by omega
  unfold smallI
  rw [decide_eq_true a1, decide_eq_true a2]
  rfl
theorem step2 (s : D) (zs : List Int) (hz : zs.length ≤ 3) (G' : List O) (el : lcL (gN 2) dYes (dFm F_right (dCons (dF F_box (dCons (dV 1) (dCons (dV 2) dNil))) dNil)) [some s, some (.lst (zs.map D.int)), none] (rngD 0 zs.length) [] = some (.inr (List.replicate zs.length (.bl true)), G')) :
    dCall (lP allF) (dCons (dLc (dRng rng1 (dCons (dCall lenP (dCons (dV 1) dNil)) dNil)) (gN 2) dYes (dFm F_right (dCons (dF F_box (dCons (dV 1) (dCons (dV 2) dNil))) dNil)) [2]) dNil) [some s, some (.lst (zs.map D.int)), none] [] = some (.inr (.bl true), G') := by
  have al : lP allF [.lst (List.replicate zs.length (.bl true))] G' = some (.bl true, G') := by
    have e : (List.replicate zs.length true).all id = true := by simp
    show (match (blsO (List.replicate zs.length (.bl true))).map (fun bs => D.bl (bs.all id)) with
      | some d => some (d, G')
      | none => none) = _
    rw [bls_all]
    show some (D.bl ((List.replicate zs.length true).all id), G') = _
    rw [e]
  have ln : dCall lenP (dCons (dV 1) dNil) [some s, some (.lst (zs.map D.int)), none] [] = some (.inr (.int (zs.length : Int)), []) := by
    refine call_eq (ds := [.lst (zs.map D.int)]) (G1 := []) (one_eq rfl) ?_
    show some (D.int ((zs.map D.int).length : Int), ([] : List O)) = _
    rw [List.length_map]
  have rg : dRng rng1 (dCons (dCall lenP (dCons (dV 1) dNil)) dNil) [some s, some (.lst (zs.map D.int)), none] [] = some (.inr (rngD 0 zs.length), []) :=
    rng_eq (j := (zs.length : Int)) (one_eq ln) (small3 _ (by omega) (by omega))
  exact call_eq (one_eq (lc_eq rg el (by rw [List.length_replicate]; exact Nat.le_trans hz (by decide)))) al
theorem law_ok (ns : List Int) (hl : ns.length ≤ 63) : ∃ G, F_law [.scr (ns.map D.int)] [] = some (.inr (.bl true), G) := by
  obtain ⟨zs, G0, hz, ec⟩ := cells_ok ns hl
  obtain ⟨G', el⟩ := loop_law (.scr (ns.map D.int)) zs hz zs.length 0 (by omega) []
  have rg : rngD 0 zs.length = (List.range' 0 zs.length).map fun (i : Nat) => D.int (0 + (i : Int)) := by
    unfold rngD
    rw [List.range_eq_range']
  rw [← rg] at el
  exact ⟨G', run_rt ((seq_nx (step1 ns zs G0 ec)).trans (ret_eq (step2 _ zs hz G' el)))⟩
end K00

set_option maxHeartbeats 0
namespace K00
open PySem PySem.Spec PyProof.Rows L2 Tw
/-! ### the head's facts -/
def inits : List (Str × Str) := [("NoTask", "name"), ("NoStep", "number"), ("NoQueue", "name"), ("NoSignal", "name"), ("NoGroup", "name"), ("NotReady", "name"), ("NoNumber", "number"), ("Known", "name"), ("NoHouse", "name"), ("BadText", "piece"), ("BadLine", "number")]
open He PySem.W in
def fx (K : Frag) : Bool := (leaves.all fun c => xclB K (ga K c)) && ((inits.all fun p => decide (findIn K (.ref (ga K p.1)) p.2 = some none) && (decide (findIn K (.ref (ga K p.1)) "__init__" = some (some (.ref (ma K (ga K p.1) "__init__")))) && decide (typeIn K (.ref (ma K (ga K p.1) "__init__")) = some (.type "function")))) &&
  (leaves.all fun c => (leaves.all fun m => decide (kitOne K (.ref (ga K c)) (.ref (ga K m)) = some (c == m))) && (decide (kitOne K (.ref (ga K c)) (.ref (ga K "HouseError")) = some true) && decide (kitOne K (.ref (ga K c)) (.type "ValueError") = some true))))
def fa : List He.Fa := [.glo "_law_box", .glo "_law_take", .glo "_law_cells", .glo "_law_of", .glo "_law_same", .glo "_law_sorts", .glo "_law_right", .glo "law", .glo "NoTask", .glo "NoStep", .glo "NoQueue", .glo "NoSignal", .glo "NoGroup", .glo "NotReady", .glo "NoNumber", .glo "NotWhole", .glo "Unfit", .glo "Known", .glo "NoHouse", .glo "NothingDone", .glo "BadText", .glo "BadLine", .glo "HouseError", .free "len", .free "abs", .free "all", .free "int", .free "list", .free "isinstance", .free "enumerate", .free "range", .free "zip", .free "bool", .free "str", .free "tuple", .free "ValueError", .exc "NotWhole", .exc "Unfit", .exc "NothingDone"]
def d_box : He.DefD := ⟨("_law_box", none), "_law_box", "_law_box", defArgs s_box, defBody s_box, defScope s_box, [], []⟩
def d_take : He.DefD := ⟨("_law_take", none), "_law_take", "_law_take", defArgs s_take, defBody s_take, defScope s_take, [], []⟩
def d_cells : He.DefD := ⟨("_law_cells", none), "_law_cells", "_law_cells", defArgs s_cells, defBody s_cells, defScope s_cells, [], []⟩
def d_of : He.DefD := ⟨("_law_of", none), "_law_of", "_law_of", defArgs s_of, defBody s_of, defScope s_of, [], []⟩
def d_same : He.DefD := ⟨("_law_same", none), "_law_same", "_law_same", defArgs s_same, defBody s_same, defScope s_same, [], []⟩
def d_sorts : He.DefD := ⟨("_law_sorts", none), "_law_sorts", "_law_sorts", defArgs s_sorts, defBody s_sorts, defScope s_sorts, [], []⟩
def d_right : He.DefD := ⟨("_law_right", none), "_law_right", "_law_right", defArgs s_right, defBody s_right, defScope s_right, [], []⟩
def d_law : He.DefD := ⟨("law", none), "law", "law", defArgs s_law, defBody s_law, defScope s_law, [], []⟩
def d_NoTask : He.DefD := ⟨("NoTask", some "__init__"), "__init__", "NoTask.__init__", defArgs i_NoTask, defBody i_NoTask, defScope i_NoTask, [], []⟩
def d_NoStep : He.DefD := ⟨("NoStep", some "__init__"), "__init__", "NoStep.__init__", defArgs i_NoStep, defBody i_NoStep, defScope i_NoStep, [], []⟩
def d_NoQueue : He.DefD := ⟨("NoQueue", some "__init__"), "__init__", "NoQueue.__init__", defArgs i_NoQueue, defBody i_NoQueue, defScope i_NoQueue, [], []⟩
def d_NoSignal : He.DefD := ⟨("NoSignal", some "__init__"), "__init__", "NoSignal.__init__", defArgs i_NoSignal, defBody i_NoSignal, defScope i_NoSignal, [], []⟩
def d_NoGroup : He.DefD := ⟨("NoGroup", some "__init__"), "__init__", "NoGroup.__init__", defArgs i_NoGroup, defBody i_NoGroup, defScope i_NoGroup, [], []⟩
def d_NotReady : He.DefD := ⟨("NotReady", some "__init__"), "__init__", "NotReady.__init__", defArgs i_NotReady, defBody i_NotReady, defScope i_NotReady, [], []⟩
def d_NoNumber : He.DefD := ⟨("NoNumber", some "__init__"), "__init__", "NoNumber.__init__", defArgs i_NoNumber, defBody i_NoNumber, defScope i_NoNumber, [], []⟩
def d_Known : He.DefD := ⟨("Known", some "__init__"), "__init__", "Known.__init__", defArgs i_Known, defBody i_Known, defScope i_Known, [], []⟩
def d_NoHouse : He.DefD := ⟨("NoHouse", some "__init__"), "__init__", "NoHouse.__init__", defArgs i_NoHouse, defBody i_NoHouse, defScope i_NoHouse, [], []⟩
def d_BadText : He.DefD := ⟨("BadText", some "__init__"), "__init__", "BadText.__init__", defArgs i_BadText, defBody i_BadText, defScope i_BadText, [], []⟩
def d_BadLine : He.DefD := ⟨("BadLine", some "__init__"), "__init__", "BadLine.__init__", defArgs i_BadLine, defBody i_BadLine, defScope i_BadLine, [], []⟩
def fn : List He.DefD := [d_box, d_take, d_cells, d_of, d_same, d_sorts, d_right, d_law, d_NoTask, d_NoStep, d_NoQueue, d_NoSignal, d_NoGroup, d_NotReady, d_NoNumber, d_Known, d_NoHouse, d_BadText, d_BadLine]
/-! ### a hook with one more look -/
def hookX (n : Nat) (fx : PySem.W.Frag → Bool) (fa : List He.Fa) (fn : List He.DefD) : PySem.W.Hook where
  α := Bool × He.AlD
  obs := fun s => (fx (He.frG s.heap.get? (He.asD s.heap.get? n)), He.obsD fa fn (He.frG s.heap.get? (He.asD s.heap.get? n)))
  val := fun _ => (true, He.valD fn)
  says := fun _ h => ∃ K : PySem.W.Frag, K.In h ∧ fx K = true ∧ He.SaysD fa fn K
  of := fun _ _ e => ⟨_, He.frG_in, congrArg Prod.fst e, congrArg Prod.snd e⟩
  keeps := fun _ _ _ ⟨K, hK, c⟩ k => ⟨K, PySem.W.Frag.In.keeps hK k, c⟩
def obX (n : Nat) (fx : PySem.W.Frag → Bool) (fa : List He.Fa) (fn : List He.DefD) (g : Addr → Option Obj) : Bool × He.AlD := (fx (He.frG g (He.asD g n)), He.obsD fa fn (He.frG g (He.asD g n)))
theorem obX_eq {n : Nat} {fx : PySem.W.Frag → Bool} {fa : List He.Fa} {fn : List He.DefD} {g : Addr → Option Obj} {s : Shared} (h : ∀ a, g a = s.heap.get? a) : obX n fx fa fn g = (hookX n fx fa fn).obs s := by
  have e : g = s.heap.get? := funext h
  rw [e] <;> rfl
abbrev R : PySem.W.OpenRow := PySem.W.OpenLaw.row PySem.Challenge.rw_giveways_k00_errors
abbrev hk : PySem.W.Hook := hookX 5 fx fa fn
def ob (s : PySem.W.SharedT) : Bool × He.AlD := obX 5 fx fa fn (HandSHeadRun.getT s)
theorem ob_eq (s : PySem.W.SharedT) : ob s = hk.obs s.abs := obX_eq (HandSHeadRun.getT_eq s)
def loose : List Str := ["HouseError", "BadLine", "BadText", "Known", "NoGroup", "NoHouse", "NoNumber", "NoQueue", "NoSignal", "NoStep", "NoTask", "NotReady", "NotWhole", "NothingDone", "Unfit", "_law_box", "_law_take", "_law_cells", "_law_of", "_law_same", "_law_sorts", "_law_right"]
theorem run (w : World) : HandSHeadRun.RunEq R (PySem.W.view R.prog [24]) hk ob 6000 loose w := by
  intro os
  kernel_rfl
end K00

set_option maxHeartbeats 0
namespace K00
open PySem PySem.Spec PyProof.Rows L2 Tw
section
variable {P : Program} {w : World} {K : PySem.W.Frag} {h : Heap} {mg : Str → Option Value} {base : Heap}
theorem fx_xcl (f : fx K = true) {c : Str} (hc : c ∈ leaves) : Xcl K (He.ga K c) := by
  unfold fx at f
  obtain ⟨f1, _⟩ := Bool.and_eq_true_iff.mp f
  exact xclB_ok (List.all_eq_true.mp f1 c hc)
theorem fx_init (f : fx K = true) {p : Str × Str} (hp : p ∈ inits) : PySem.W.findIn K (.ref (He.ga K p.1)) p.2 = some none ∧ PySem.W.findIn K (.ref (He.ga K p.1)) "__init__" = some (some (.ref (He.ma K (He.ga K p.1) "__init__"))) ∧ PySem.W.typeIn K (.ref (He.ma K (He.ga K p.1) "__init__")) = some (.type "function") := by
  unfold fx at f
  obtain ⟨_, f1⟩ := Bool.and_eq_true_iff.mp f
  obtain ⟨f2, _⟩ := Bool.and_eq_true_iff.mp f1
  have z := List.all_eq_true.mp f2 p hp
  obtain ⟨z1, z2⟩ := Bool.and_eq_true_iff.mp z
  obtain ⟨z2, z3⟩ := Bool.and_eq_true_iff.mp z2
  exact ⟨of_decide_eq_true z1, of_decide_eq_true z2, of_decide_eq_true z3⟩
theorem fx_isx (f : fx K = true) (hm : ∀ c ∈ leaves, mg c = some (.ref (He.ga K c))) (hh : mg "HouseError" = some (.ref (He.ga K "HouseError"))) : XIs K mg tab_isx := by
  have xc := fun {c : Str} (hc : c ∈ leaves) => fx_xcl f hc
  unfold fx at f
  obtain ⟨_, f1⟩ := Bool.and_eq_true_iff.mp f
  obtain ⟨_, f3⟩ := Bool.and_eq_true_iff.mp f1
  intro c k b e
  unfold tab_isx at e
  split at e
  · rename_i m
    split at e
    · rename_i hc
      have hc' : c ∈ leaves := by simpa using hc
      have z := List.all_eq_true.mp f3 c hc'
      obtain ⟨z1, z2⟩ := Bool.and_eq_true_iff.mp z
      obtain ⟨z2, z3⟩ := Bool.and_eq_true_iff.mp z2
      split at e
      · rename_i em
        have em := beq_iff_eq.mp em
        subst em
        cases e
        exact ⟨_, hm c hc', xc hc', _, hh, of_decide_eq_true z2⟩
      · split at e
        · rename_i hm2
          have hm' : m ∈ leaves := by simpa using hm2
          cases e
          exact ⟨_, hm c hc', xc hc', _, hm m hm', of_decide_eq_true (List.all_eq_true.mp z1 m hm')⟩
        · cases e
    · cases e
  · rename_i n
    split at e
    · rename_i hc
      obtain ⟨h1, h2⟩ := Bool.and_eq_true_iff.mp hc
      have h2 := beq_iff_eq.mp h2
      subst h2
      cases e
      have hc' : c ∈ leaves := by simpa using h1
      have z := List.all_eq_true.mp f3 c hc'
      obtain ⟨z1, z2⟩ := Bool.and_eq_true_iff.mp z
      obtain ⟨z2, z3⟩ := Bool.and_eq_true_iff.mp z2
      exact ⟨_, hm c hc', xc hc', of_decide_eq_true z3⟩
    · cases e
  · cases e
theorem in_leaves (c : Str) (h : leaves.contains c = true) : c ∈ leaves := by simpa using h
theorem in_inits (p : Str × Str) (h : inits.contains p = true) : p ∈ inits := by simpa using h
theorem xm_NoTask (f : fx K = true) (X : K.In h) (G : h.Ns mainGlobals mg) (c : He.SaysD fa fn K) : XM P w K mg base "NoTask" "name" := by
  obtain ⟨h1, h2, h3⟩ := fx_init f (in_inits ("NoTask", "name") (by decide +kernel))
  obtain ⟨fd, F⟩ := c.def_ 8 (d := d_NoTask) rfl
  have O := (fx_xcl f (in_leaves "NoTask" (by decide +kernel))).o
  exact ⟨_, _, fd, He.glo_ok X G (c.fact 8 (f := .glo "NoTask") rfl), O, h2, h3, ok_init O h1 F ⟨rfl, rfl, rfl, by decide +kernel, rfl, by decide +kernel, by decide +kernel⟩ (Or.inl rfl) (Or.inl rfl) (by decide) (by decide), kb_pos F (fun _ _ _ _ _ _ _ _ => rfl), kb_kw F (fun _ _ _ _ _ _ _ _ => rfl)⟩
theorem xm_NoStep (f : fx K = true) (X : K.In h) (G : h.Ns mainGlobals mg) (c : He.SaysD fa fn K) : XM P w K mg base "NoStep" "number" := by
  obtain ⟨h1, h2, h3⟩ := fx_init f (in_inits ("NoStep", "number") (by decide +kernel))
  obtain ⟨fd, F⟩ := c.def_ 9 (d := d_NoStep) rfl
  have O := (fx_xcl f (in_leaves "NoStep" (by decide +kernel))).o
  exact ⟨_, _, fd, He.glo_ok X G (c.fact 9 (f := .glo "NoStep") rfl), O, h2, h3, ok_init O h1 F ⟨rfl, rfl, rfl, by decide +kernel, rfl, by decide +kernel, by decide +kernel⟩ (Or.inl rfl) (Or.inl rfl) (by decide) (by decide), kb_pos F (fun _ _ _ _ _ _ _ _ => rfl), kb_kw F (fun _ _ _ _ _ _ _ _ => rfl)⟩
theorem xm_NoQueue (f : fx K = true) (X : K.In h) (G : h.Ns mainGlobals mg) (c : He.SaysD fa fn K) : XM P w K mg base "NoQueue" "name" := by
  obtain ⟨h1, h2, h3⟩ := fx_init f (in_inits ("NoQueue", "name") (by decide +kernel))
  obtain ⟨fd, F⟩ := c.def_ 10 (d := d_NoQueue) rfl
  have O := (fx_xcl f (in_leaves "NoQueue" (by decide +kernel))).o
  exact ⟨_, _, fd, He.glo_ok X G (c.fact 10 (f := .glo "NoQueue") rfl), O, h2, h3, ok_init O h1 F ⟨rfl, rfl, rfl, by decide +kernel, rfl, by decide +kernel, by decide +kernel⟩ (Or.inl rfl) (Or.inl rfl) (by decide) (by decide), kb_pos F (fun _ _ _ _ _ _ _ _ => rfl), kb_kw F (fun _ _ _ _ _ _ _ _ => rfl)⟩
theorem xm_NoSignal (f : fx K = true) (X : K.In h) (G : h.Ns mainGlobals mg) (c : He.SaysD fa fn K) : XM P w K mg base "NoSignal" "name" := by
  obtain ⟨h1, h2, h3⟩ := fx_init f (in_inits ("NoSignal", "name") (by decide +kernel))
  obtain ⟨fd, F⟩ := c.def_ 11 (d := d_NoSignal) rfl
  have O := (fx_xcl f (in_leaves "NoSignal" (by decide +kernel))).o
  exact ⟨_, _, fd, He.glo_ok X G (c.fact 11 (f := .glo "NoSignal") rfl), O, h2, h3, ok_init O h1 F ⟨rfl, rfl, rfl, by decide +kernel, rfl, by decide +kernel, by decide +kernel⟩ (Or.inl rfl) (Or.inl rfl) (by decide) (by decide), kb_pos F (fun _ _ _ _ _ _ _ _ => rfl), kb_kw F (fun _ _ _ _ _ _ _ _ => rfl)⟩
theorem xm_NoGroup (f : fx K = true) (X : K.In h) (G : h.Ns mainGlobals mg) (c : He.SaysD fa fn K) : XM P w K mg base "NoGroup" "name" := by
  obtain ⟨h1, h2, h3⟩ := fx_init f (in_inits ("NoGroup", "name") (by decide +kernel))
  obtain ⟨fd, F⟩ := c.def_ 12 (d := d_NoGroup) rfl
  have O := (fx_xcl f (in_leaves "NoGroup" (by decide +kernel))).o
  exact ⟨_, _, fd, He.glo_ok X G (c.fact 12 (f := .glo "NoGroup") rfl), O, h2, h3, ok_init O h1 F ⟨rfl, rfl, rfl, by decide +kernel, rfl, by decide +kernel, by decide +kernel⟩ (Or.inl rfl) (Or.inl rfl) (by decide) (by decide), kb_pos F (fun _ _ _ _ _ _ _ _ => rfl), kb_kw F (fun _ _ _ _ _ _ _ _ => rfl)⟩
theorem xm_NotReady (f : fx K = true) (X : K.In h) (G : h.Ns mainGlobals mg) (c : He.SaysD fa fn K) : XM P w K mg base "NotReady" "name" := by
  obtain ⟨h1, h2, h3⟩ := fx_init f (in_inits ("NotReady", "name") (by decide +kernel))
  obtain ⟨fd, F⟩ := c.def_ 13 (d := d_NotReady) rfl
  have O := (fx_xcl f (in_leaves "NotReady" (by decide +kernel))).o
  exact ⟨_, _, fd, He.glo_ok X G (c.fact 13 (f := .glo "NotReady") rfl), O, h2, h3, ok_init O h1 F ⟨rfl, rfl, rfl, by decide +kernel, rfl, by decide +kernel, by decide +kernel⟩ (Or.inl rfl) (Or.inl rfl) (by decide) (by decide), kb_pos F (fun _ _ _ _ _ _ _ _ => rfl), kb_kw F (fun _ _ _ _ _ _ _ _ => rfl)⟩
theorem xm_NoNumber (f : fx K = true) (X : K.In h) (G : h.Ns mainGlobals mg) (c : He.SaysD fa fn K) : XM P w K mg base "NoNumber" "number" := by
  obtain ⟨h1, h2, h3⟩ := fx_init f (in_inits ("NoNumber", "number") (by decide +kernel))
  obtain ⟨fd, F⟩ := c.def_ 14 (d := d_NoNumber) rfl
  have O := (fx_xcl f (in_leaves "NoNumber" (by decide +kernel))).o
  exact ⟨_, _, fd, He.glo_ok X G (c.fact 14 (f := .glo "NoNumber") rfl), O, h2, h3, ok_init O h1 F ⟨rfl, rfl, rfl, by decide +kernel, rfl, by decide +kernel, by decide +kernel⟩ (Or.inl rfl) (Or.inl rfl) (by decide) (by decide), kb_pos F (fun _ _ _ _ _ _ _ _ => rfl), kb_kw F (fun _ _ _ _ _ _ _ _ => rfl)⟩
theorem xm_Known (f : fx K = true) (X : K.In h) (G : h.Ns mainGlobals mg) (c : He.SaysD fa fn K) : XM P w K mg base "Known" "name" := by
  obtain ⟨h1, h2, h3⟩ := fx_init f (in_inits ("Known", "name") (by decide +kernel))
  obtain ⟨fd, F⟩ := c.def_ 15 (d := d_Known) rfl
  have O := (fx_xcl f (in_leaves "Known" (by decide +kernel))).o
  exact ⟨_, _, fd, He.glo_ok X G (c.fact 17 (f := .glo "Known") rfl), O, h2, h3, ok_init O h1 F ⟨rfl, rfl, rfl, by decide +kernel, rfl, by decide +kernel, by decide +kernel⟩ (Or.inl rfl) (Or.inl rfl) (by decide) (by decide), kb_pos F (fun _ _ _ _ _ _ _ _ => rfl), kb_kw F (fun _ _ _ _ _ _ _ _ => rfl)⟩
theorem xm_NoHouse (f : fx K = true) (X : K.In h) (G : h.Ns mainGlobals mg) (c : He.SaysD fa fn K) : XM P w K mg base "NoHouse" "name" := by
  obtain ⟨h1, h2, h3⟩ := fx_init f (in_inits ("NoHouse", "name") (by decide +kernel))
  obtain ⟨fd, F⟩ := c.def_ 16 (d := d_NoHouse) rfl
  have O := (fx_xcl f (in_leaves "NoHouse" (by decide +kernel))).o
  exact ⟨_, _, fd, He.glo_ok X G (c.fact 18 (f := .glo "NoHouse") rfl), O, h2, h3, ok_init O h1 F ⟨rfl, rfl, rfl, by decide +kernel, rfl, by decide +kernel, by decide +kernel⟩ (Or.inl rfl) (Or.inl rfl) (by decide) (by decide), kb_pos F (fun _ _ _ _ _ _ _ _ => rfl), kb_kw F (fun _ _ _ _ _ _ _ _ => rfl)⟩
theorem xm_BadText (f : fx K = true) (X : K.In h) (G : h.Ns mainGlobals mg) (c : He.SaysD fa fn K) : XM P w K mg base "BadText" "piece" := by
  obtain ⟨h1, h2, h3⟩ := fx_init f (in_inits ("BadText", "piece") (by decide +kernel))
  obtain ⟨fd, F⟩ := c.def_ 17 (d := d_BadText) rfl
  have O := (fx_xcl f (in_leaves "BadText" (by decide +kernel))).o
  exact ⟨_, _, fd, He.glo_ok X G (c.fact 20 (f := .glo "BadText") rfl), O, h2, h3, ok_init O h1 F ⟨rfl, rfl, rfl, by decide +kernel, rfl, by decide +kernel, by decide +kernel⟩ (Or.inl rfl) (Or.inl rfl) (by decide) (by decide), kb_pos F (fun _ _ _ _ _ _ _ _ => rfl), kb_kw F (fun _ _ _ _ _ _ _ _ => rfl)⟩
theorem xm_BadLine (f : fx K = true) (X : K.In h) (G : h.Ns mainGlobals mg) (c : He.SaysD fa fn K) : XM P w K mg base "BadLine" "number" := by
  obtain ⟨h1, h2, h3⟩ := fx_init f (in_inits ("BadLine", "number") (by decide +kernel))
  obtain ⟨fd, F⟩ := c.def_ 18 (d := d_BadLine) rfl
  have O := (fx_xcl f (in_leaves "BadLine" (by decide +kernel))).o
  exact ⟨_, _, fd, He.glo_ok X G (c.fact 21 (f := .glo "BadLine") rfl), O, h2, h3, ok_init O h1 F ⟨rfl, rfl, rfl, by decide +kernel, rfl, by decide +kernel, by decide +kernel⟩ (Or.inl rfl) (Or.inl rfl) (by decide) (by decide), kb_pos F (fun _ _ _ _ _ _ _ _ => rfl), kb_kw F (fun _ _ _ _ _ _ _ _ => rfl)⟩
theorem tx_ok (f : fx K = true) (X : K.In h) (G : h.Ns mainGlobals mg) (c : He.SaysD fa fn K) : Tx P w K mg base := by
  have hm : ∀ z ∈ leaves, mg z = some (.ref (He.ga K z)) := by
    intro z hz
    simp only [leaves, List.mem_cons, List.not_mem_nil, or_false] at hz
    rcases hz with rfl | rfl | rfl | rfl | rfl | rfl | rfl | rfl | rfl | rfl | rfl | rfl | rfl | rfl
    · exact He.glo_ok X G (c.fact 8 (f := .glo "NoTask") rfl)
    · exact He.glo_ok X G (c.fact 9 (f := .glo "NoStep") rfl)
    · exact He.glo_ok X G (c.fact 10 (f := .glo "NoQueue") rfl)
    · exact He.glo_ok X G (c.fact 11 (f := .glo "NoSignal") rfl)
    · exact He.glo_ok X G (c.fact 12 (f := .glo "NoGroup") rfl)
    · exact He.glo_ok X G (c.fact 13 (f := .glo "NotReady") rfl)
    · exact He.glo_ok X G (c.fact 14 (f := .glo "NoNumber") rfl)
    · exact He.glo_ok X G (c.fact 15 (f := .glo "NotWhole") rfl)
    · exact He.glo_ok X G (c.fact 16 (f := .glo "Unfit") rfl)
    · exact He.glo_ok X G (c.fact 17 (f := .glo "Known") rfl)
    · exact He.glo_ok X G (c.fact 18 (f := .glo "NoHouse") rfl)
    · exact He.glo_ok X G (c.fact 19 (f := .glo "NothingDone") rfl)
    · exact He.glo_ok X G (c.fact 20 (f := .glo "BadText") rfl)
    · exact He.glo_ok X G (c.fact 21 (f := .glo "BadLine") rfl)
  have hh : mg "HouseError" = some (.ref (He.ga K "HouseError")) := He.glo_ok X G (c.fact 22 (f := .glo "HouseError") rfl)
  exact {
    f_len := He.free_ok X G (c.fact 23 (f := .free "len") rfl)
    f_abs := He.free_ok X G (c.fact 24 (f := .free "abs") rfl)
    f_all := He.free_ok X G (c.fact 25 (f := .free "all") rfl)
    f_int := He.free_ok X G (c.fact 26 (f := .free "int") rfl)
    f_list := He.free_ok X G (c.fact 27 (f := .free "list") rfl)
    f_isinstance := He.free_ok X G (c.fact 28 (f := .free "isinstance") rfl)
    f_enumerate := He.free_ok X G (c.fact 29 (f := .free "enumerate") rfl)
    f_range := He.free_ok X G (c.fact 30 (f := .free "range") rfl)
    f_zip := He.free_ok X G (c.fact 31 (f := .free "zip") rfl)
    f_bool := He.free_ok X G (c.fact 32 (f := .free "bool") rfl)
    f_str := He.free_ok X G (c.fact 33 (f := .free "str") rfl)
    f_tuple := He.free_ok X G (c.fact 34 (f := .free "tuple") rfl)
    f_ValueError := He.free_ok X G (c.fact 35 (f := .free "ValueError") rfl)
    m_NoTask := ⟨_, hm "NoTask" (in_leaves _ (by decide +kernel))⟩
    m_NoStep := ⟨_, hm "NoStep" (in_leaves _ (by decide +kernel))⟩
    m_NoQueue := ⟨_, hm "NoQueue" (in_leaves _ (by decide +kernel))⟩
    m_NoSignal := ⟨_, hm "NoSignal" (in_leaves _ (by decide +kernel))⟩
    m_NoGroup := ⟨_, hm "NoGroup" (in_leaves _ (by decide +kernel))⟩
    m_NotReady := ⟨_, hm "NotReady" (in_leaves _ (by decide +kernel))⟩
    m_NoNumber := ⟨_, hm "NoNumber" (in_leaves _ (by decide +kernel))⟩
    m_NotWhole := ⟨_, hm "NotWhole" (in_leaves _ (by decide +kernel))⟩
    m_Unfit := ⟨_, hm "Unfit" (in_leaves _ (by decide +kernel))⟩
    m_Known := ⟨_, hm "Known" (in_leaves _ (by decide +kernel))⟩
    m_NoHouse := ⟨_, hm "NoHouse" (in_leaves _ (by decide +kernel))⟩
    m_NothingDone := ⟨_, hm "NothingDone" (in_leaves _ (by decide +kernel))⟩
    m_BadText := ⟨_, hm "BadText" (in_leaves _ (by decide +kernel))⟩
    m_BadLine := ⟨_, hm "BadLine" (in_leaves _ (by decide +kernel))⟩
    m_HouseError := ⟨_, hh⟩
    n_NotWhole := ⟨_, hm "NotWhole" (in_leaves _ (by decide +kernel)), fx_xcl f (in_leaves "NotWhole" (by decide +kernel)), (He.exc_ok (c.fact 36 (f := .exc "NotWhole") rfl)).1⟩
    n_Unfit := ⟨_, hm "Unfit" (in_leaves _ (by decide +kernel)), fx_xcl f (in_leaves "Unfit" (by decide +kernel)), (He.exc_ok (c.fact 37 (f := .exc "Unfit") rfl)).1⟩
    n_NothingDone := ⟨_, hm "NothingDone" (in_leaves _ (by decide +kernel)), fx_xcl f (in_leaves "NothingDone" (by decide +kernel)), (He.exc_ok (c.fact 38 (f := .exc "NothingDone") rfl)).1⟩
    x_NoTask := xm_NoTask f X G c
    x_NoStep := xm_NoStep f X G c
    x_NoQueue := xm_NoQueue f X G c
    x_NoSignal := xm_NoSignal f X G c
    x_NoGroup := xm_NoGroup f X G c
    x_NotReady := xm_NotReady f X G c
    x_NoNumber := xm_NoNumber f X G c
    x_Known := xm_Known f X G c
    x_NoHouse := xm_NoHouse f X G c
    x_BadText := xm_BadText f X G c
    x_BadLine := xm_BadLine f X G c
    a_name := by
      intro z hz
      simp only [tab_name, List.mem_cons, List.not_mem_nil, or_false] at hz
      rcases hz with rfl | rfl | rfl | rfl | rfl | rfl | rfl
      · exact ⟨_, hm "NoTask" (in_leaves _ (by decide +kernel)), fx_xcl f (in_leaves "NoTask" (by decide +kernel)), (fx_init f (in_inits ("NoTask", "name") (by decide +kernel))).1⟩
      · exact ⟨_, hm "NoQueue" (in_leaves _ (by decide +kernel)), fx_xcl f (in_leaves "NoQueue" (by decide +kernel)), (fx_init f (in_inits ("NoQueue", "name") (by decide +kernel))).1⟩
      · exact ⟨_, hm "NoSignal" (in_leaves _ (by decide +kernel)), fx_xcl f (in_leaves "NoSignal" (by decide +kernel)), (fx_init f (in_inits ("NoSignal", "name") (by decide +kernel))).1⟩
      · exact ⟨_, hm "NoGroup" (in_leaves _ (by decide +kernel)), fx_xcl f (in_leaves "NoGroup" (by decide +kernel)), (fx_init f (in_inits ("NoGroup", "name") (by decide +kernel))).1⟩
      · exact ⟨_, hm "NotReady" (in_leaves _ (by decide +kernel)), fx_xcl f (in_leaves "NotReady" (by decide +kernel)), (fx_init f (in_inits ("NotReady", "name") (by decide +kernel))).1⟩
      · exact ⟨_, hm "Known" (in_leaves _ (by decide +kernel)), fx_xcl f (in_leaves "Known" (by decide +kernel)), (fx_init f (in_inits ("Known", "name") (by decide +kernel))).1⟩
      · exact ⟨_, hm "NoHouse" (in_leaves _ (by decide +kernel)), fx_xcl f (in_leaves "NoHouse" (by decide +kernel)), (fx_init f (in_inits ("NoHouse", "name") (by decide +kernel))).1⟩
    a_number := by
      intro z hz
      simp only [tab_number, List.mem_cons, List.not_mem_nil, or_false] at hz
      rcases hz with rfl | rfl | rfl
      · exact ⟨_, hm "NoStep" (in_leaves _ (by decide +kernel)), fx_xcl f (in_leaves "NoStep" (by decide +kernel)), (fx_init f (in_inits ("NoStep", "number") (by decide +kernel))).1⟩
      · exact ⟨_, hm "NoNumber" (in_leaves _ (by decide +kernel)), fx_xcl f (in_leaves "NoNumber" (by decide +kernel)), (fx_init f (in_inits ("NoNumber", "number") (by decide +kernel))).1⟩
      · exact ⟨_, hm "BadLine" (in_leaves _ (by decide +kernel)), fx_xcl f (in_leaves "BadLine" (by decide +kernel)), (fx_init f (in_inits ("BadLine", "number") (by decide +kernel))).1⟩
    a_piece := by
      intro z hz
      simp only [tab_piece, List.mem_cons, List.not_mem_nil, or_false] at hz
      rcases hz with rfl
      · exact ⟨_, hm "BadText" (in_leaves _ (by decide +kernel)), fx_xcl f (in_leaves "BadText" (by decide +kernel)), (fx_init f (in_inits ("BadText", "piece") (by decide +kernel))).1⟩
    isx := fx_isx f hm hh }
theorem cal_mk {k n : Nat} {x : Str} {st : Stmt} {fd : FuncData} {fA : Addr} {ps : List Str} {F : List D → M D} (hm : mg x = some (.ref fA)) (FD : FnP K x st fA fd) (ok : FnOk P w K mg base CX0 k fA fd ps (spF ⟨K, P, w, mg⟩ Xo0 n F)) (b : Binds K fd ps []) : Cal P w K mg base k x n F := ⟨fA, fd, ps, hm, ok, FD.kp, b⟩
theorem facts (f : fx K = true) (X : K.In h) (G : h.Ns mainGlobals mg) (c : He.SaysD fa fn K) {fl : Addr} (hfl : mg ("law" : Str) = some (.ref fl)) :
    ∃ fd : FuncData, (∀ (s : Shared) (v : Value), BindsTo s fd ⟨[v], []⟩ [("_law_script", v)]) ∧ ∀ base : Heap, FnOk P w K mg base CX0 5 fl fd ["_law_script"] (spF ⟨K, P, w, mg⟩ Xo0 1 F_law) := by
  obtain ⟨fd_box, FD_box⟩ := c.def_ 0 (d := d_box) rfl
  have g_box := He.glo_ok X G (c.fact 0 (f := .glo "_law_box") rfl)
  have b_box : Binds K fd_box ["_law_script", "_law_k"] [] := FD_box.bindsN fun _ _ _ _ _ _ us hl => match us, hl with | [_, _], _ => rfl
  obtain ⟨fd_take, FD_take⟩ := c.def_ 1 (d := d_take) rfl
  have g_take := He.glo_ok X G (c.fact 1 (f := .glo "_law_take") rfl)
  have b_take : Binds K fd_take ["_law_box_here", "_law_size_so"] [] := FD_take.bindsN fun _ _ _ _ _ _ us hl => match us, hl with | [_, _], _ => rfl
  obtain ⟨fd_cells, FD_cells⟩ := c.def_ 2 (d := d_cells) rfl
  have g_cells := He.glo_ok X G (c.fact 2 (f := .glo "_law_cells") rfl)
  have b_cells : Binds K fd_cells ["_law_script", "_law_top_so"] [] := FD_cells.bindsN fun _ _ _ _ _ _ us hl => match us, hl with | [_, _], _ => rfl
  obtain ⟨fd_of, FD_of⟩ := c.def_ 3 (d := d_of) rfl
  have g_of := He.glo_ok X G (c.fact 3 (f := .glo "_law_of") rfl)
  have b_of : Binds K fd_of ["_law_box_here", "_law_goods_so"] [] := FD_of.bindsN fun _ _ _ _ _ _ us hl => match us, hl with | [_, _], _ => rfl
  obtain ⟨fd_same, FD_same⟩ := c.def_ 4 (d := d_same) rfl
  have g_same := He.glo_ok X G (c.fact 4 (f := .glo "_law_same") rfl)
  have b_same : Binds K fd_same ["_law_got", "_law_due"] [] := FD_same.bindsN fun _ _ _ _ _ _ us hl => match us, hl with | [_, _], _ => rfl
  obtain ⟨fd_sorts, FD_sorts⟩ := c.def_ 5 (d := d_sorts) rfl
  have g_sorts := He.glo_ok X G (c.fact 5 (f := .glo "_law_sorts") rfl)
  have b_sorts : Binds K fd_sorts ["_law_caught"] [] := FD_sorts.bindsN fun _ _ _ _ _ _ us hl => match us, hl with | [_], _ => rfl
  obtain ⟨fd_right, FD_right⟩ := c.def_ 6 (d := d_right) rfl
  have g_right := He.glo_ok X G (c.fact 6 (f := .glo "_law_right") rfl)
  have b_right : Binds K fd_right ["_law_box_here"] [] := FD_right.bindsN fun _ _ _ _ _ _ us hl => match us, hl with | [_], _ => rfl
  obtain ⟨fd_law, FD_law⟩ := c.def_ 7 (d := d_law) rfl
  have g_law := He.glo_ok X G (c.fact 7 (f := .glo "law") rfl)
  have e := hfl.symm.trans g_law
  cases e
  refine ⟨fd_law, fun s v => FunD.bindsA (ps := ["_law_script"]) FD_law (fun _ _ _ _ _ _ us hl => match us, hl with | [_], _ => rfl) s [v] rfl, fun base => ?_⟩
  have T : Tx P w K mg base := tx_ok f X G c
  have C_box : Cal P w K mg base 1 "_law_box" 2 F_box := cal_mk (st := s_box) g_box FD_box (ok_box T FD_box) b_box
  have C_take : Cal P w K mg base 1 "_law_take" 2 F_take := cal_mk (st := s_take) g_take FD_take (ok_take T FD_take) b_take
  have C_cells : Cal P w K mg base 1 "_law_cells" 2 F_cells := cal_mk (st := s_cells) g_cells FD_cells (ok_cells T FD_cells) b_cells
  have C_of : Cal P w K mg base 2 "_law_of" 2 F_of := cal_mk (st := s_of) g_of FD_of (ok_of T C_take FD_of) b_of
  have C_sorts : Cal P w K mg base 1 "_law_sorts" 1 F_sorts := cal_mk (st := s_sorts) g_sorts FD_sorts (ok_sorts T FD_sorts) b_sorts
  have S0 : Cal P w K mg base 1 "_law_same" 2 (F_same 0) := by
    refine cal_mk (st := s_same) g_same FD_same (FunD.ok (k := 0) FD_same sc_same (fun vs H Q E h => h.1) fun cdv A outer s H vs Q E hr h => ?_) b_same
    obtain ⟨_, W, ds, r, G', _, _, e, _⟩ := h
    cases e
  have S1 : Cal P w K mg base 2 "_law_same" 2 (F_same 1) := cal_mk (st := s_same) g_same FD_same (ok_same T S0 FD_same) b_same
  have C_same : Cal P w K mg base 3 "_law_same" 2 (F_same 2) := cal_mk (st := s_same) g_same FD_same (ok_same T S1 FD_same) b_same
  have C_right : Cal P w K mg base 4 "_law_right" 1 F_right := cal_mk (st := s_right) g_right FD_right (ok_right T C_take C_of C_sorts C_same FD_right) b_right
  exact ok_law T C_box C_cells C_right FD_law
end
theorem law_sp {P : Program} {w : World} {K : PySem.W.Frag} {mg : Str → Option Value} {H : Hp} {a : Addr} {ns : List Int} (hl : ns.length ≤ 63) (hO : Only H) (hS : SqL K H a (ns.map V.int)) :
    spF ⟨K, P, w, mg⟩ Xo0 1 F_law [.ref a] H (fun v _ => v = .bl true) (fun _ _ _ => False) := by
  obtain ⟨G, e⟩ := law_ok ns hl
  have nL : ∀ b, ¬ L ⟨[], [], []⟩ b := by
    rintro b (⟨n, o, h, _⟩ | h)
    · simp at h
    · simp at h
  have g0 : Gr ⟨K, P, w, mg⟩ ⟨[], [], []⟩ H := ⟨rfl, by simp, by simp, by simp, by simp, by simp⟩
  have sc : Scr ⟨K, P, w, mg⟩ (L ⟨[], [], []⟩) H a (ns.map V.int) := by
    rcases hS with (h | h) | h
    · rcases hO a with z | ⟨o, xs, z⟩
      · rw [z] at h; cases h
      · rw [z] at h; cases h
    · exact .inl ⟨nL a, h⟩
    · exact .inr h
  have di : ∀ l : List Int, Rvs ⟨K, P, w, mg⟩ ⟨[], [], []⟩ H (l.map V.int) (l.map D.int) := fun l => by
    induction l with
    | nil => exact .nil
    | cons i l ih => exact .cons (.int i) ih
  refine ⟨rfl, ⟨[], [], []⟩, [.scr (ns.map D.int)], .inr (.bl true), G, g0, .cons (.scr sc (di ns)) .nil, e, fun W' v H' _ _ _ rv => ?_⟩
  cases rv
  rfl
end K00
open PySem PySem.W PySem.Calls PyProof.Rows
theorem PySem.Challenge.cw_giveways_k00_errors_holds : PySem.Challenge.rw_giveways_k00_errors.Holds := by
  w_on; o_law
  refine HandSHeadRun.head_any (r := OpenLaw.row PySem.Challenge.rw_giveways_k00_errors) (q := view (OpenLaw.row PySem.Challenge.rw_giveways_k00_errors).prog [24]) (H := K00.hk) (ob := K00.ob) (M := 6000) (loose := K00.loose) (d := HandSHeadRun.topDef (OpenLaw.row PySem.Challenge.rw_giveways_k00_errors).prog 24) (kwd := []) K00.ob_eq
    (by kernel_rfl) (fun s => by kernel_rfl) K00.run (by kernel_rfl) (by kernel_rfl) (by kernel_rfl) (by rfl) (by first | assumption | decide +kernel) (by decide +kernel) ⟨rfl, rfl, rfl, rfl, rfl, by decide +kernel⟩ ?hw ?hc
  case hw => w_witness2
  case hc =>
    refine L2.walk_ofE (l := PySem.Challenge.rw_giveways_k00_errors) (n := 63) (k := 5) (x := "_law_script") (CX := L2.CX0) rfl (by decide) (by kernel_rfl) ⟨rfl, by decide, by decide⟩ ?F (fun _ _ _ _ z => z)
    intro w mg fa h Y G hmg0
    obtain ⟨K, KX, f, c⟩ := Y
    have hmg : mg ("law" : PySem.Str) = some (.ref fa) := by
      have e : (HandSHeadRun.topDef (OpenLaw.row PySem.Challenge.rw_giveways_k00_errors).prog 24).name = ("law" : PySem.Str) := by kernel_rfl
      rw [← e]
      exact hmg0
    obtain ⟨fd, hb, hF⟩ := K00.facts (P := (PySem.Challenge.rw_giveways_k00_errors).prog) (w := w) f KX G c hmg
    exact ⟨K, fd, _, KX, hb, fun H a ns hl hO hS => K00.law_sp hl hO hS, fun base _ _ => hF base⟩

